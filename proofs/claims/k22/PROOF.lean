import PyProof.Rows.All
import Wide.All
import OpenK.AllK
import Wide.FinOn
import Lean
import PyProof.EqAt
import PyProof.EqKinds
import PyProof.TupleCall
import PySem.Sem
import PySem.Builtin.Int.W1All
import PyProof.StrBlockI
import PyProof.StrBlock2
import KE.KEqDict
import KE.KDictOf
import PyProof.Rows.SortStr
import PyProof.TupleOfSeq
import PyProof.AttrMissHeap
import PyProof.TupleIter
import PyProof.DictUpdate
import PyProof.ListNew
import PyProof.InstStoreFacts
import PyProof.LayNew
import PyProof.ExcInit
import PyProof.ExcClass3
import KE.KSortTup
import KE.KIntText
import PyProof.Rows.StrNews
import PyProof.Rows.StrItems
import PyProof.EnumMake
import PyProof.EnumFor
import PyProof.EnumStmt
import PyProof.EnumIter
import KE.KRevIter
import KE.KDictList
import PyProof.SetKind
import PyProof.DictKinds
import PyProof.SeqWrite
import PyProof.CollectWalk
import PyProof.FactsAll.set_1
import PyProof.FactsAll.set_2
import PyProof.FactsAll.set_3
import PyProof.Rows.SetFrom
import PyProof.SetRoads
import PyProof.ZipIter
import PyProof.Rows.TupIter
import PyProof.Walks
import PyProof.WalksS
import PyProof.FactsAll.tuple_iterator
import PyProof.TupleOfGen
import PyProof.Rows.SumAny
import KE.KDictLaws
import PyProof.Rows.SortWalk
import PyProof.AutoSeq1
import PyProof.StrLawsChain
import PyProof.StrLawsTight
import KE.IntTextLaws
import KE.IntTextText
import PyProof.Rows.CatFin
import PyProof.Rows.StrJoinRep
import PyProof.Rows.StrClip
import PySem.Challenge.RW_latewell_k22_spoilt_works
set_option Elab.async false
set_option linter.all false
set_option maxRecDepth 100000
set_option maxHeartbeats 4000000
noncomputable section
open PySem.W (Frag nsIn mg_of mg_none_of fnOf codeIn keepIn OpenLaw)
section
open PySem PyProof.Rows
abbrev qb:=@wpAny_bind
abbrev qc:=@wpAny_pure
abbrev qf:=@Heap.get?_push_of_some
abbrev qg:=@List.mem_cons_self
abbrev qh:=@List.mem_cons_of_mem
abbrev qi:=@Option.some.inj
abbrev qj:=@Nat.le_refl
abbrev qk:=@Heap.get?_push_size
abbrev qm:=@Heap.lt_size
abbrev qo:=@List.mem_append_right
abbrev qp:=@Bool.false_ne_true
abbrev qr:=@Nat.le_of_ble_eq_true
abbrev qt:=@Nat.lt_of_lt_of_le
abbrev qv:=@Nat.ne_of_lt
theorem qw(h:a∈b::l):a=b\/a∈l:=List.mem_cons.mp h
theorem qx{a:α}{l k:List α}(h:a∈l++k):a∈l\/a∈k:=List.mem_append.mp h
abbrev qy:=@List.length_map
abbrev qz:=@List.map_cons
abbrev zc:=@List.size_toArray
abbrev zh:=@List.length_append
abbrev zj:=@List.length_cons
abbrev zk:=@Bool.and_eq_true
abbrev zl:=@List.getElem?_eq_getElem
abbrev zm:=@List.map_map
abbrev zn:=@List.mem_map_of_mem
abbrev zo:=@Nat.le_trans
abbrev zr:=@PySem.boot_len
abbrev zt:=@List.getElem?_set_ne
abbrev zu:=@Bool.false_ne_true
abbrev zv:=@List.getElem?_set_self
abbrev zw:=@PySem.Heap.size_push
abbrev zx:=@PySem.wpAny_field
abbrev zy:=@decide_eq_false
abbrev z0:=@PySem.wpAny_mono
abbrev yc:=@decide_eq_true
abbrev yd:=@List.not_mem_nil
abbrev yf:=@List.map_append
abbrev yg:=@Array.length_toList
abbrev yh:=@PySem.wpAny_holding
abbrev yi:=@Nat.zero_le
abbrev yj:=@PySem.wpAny_newObj_type
abbrev yk:=@Ne.symm
abbrev ym:=@List.mem_cons
abbrev yn:=@List.append_nil
abbrev yo:=@List.getElem?_map
abbrev yp:=@Nat.lt_irrefl
abbrev yq:=@PyProof.Rows.callWith_type1
abbrev yr:=@List.length_drop
abbrev yt:=@PySem.wpAny_truthy_bool
abbrev yu:=@List.getElem?_append_left
abbrev yv:=@List.replicate_succ
abbrev yw:=@decide_eq_true_eq
abbrev yz:=@PyProof.Rows.boot_tuple
abbrev ja:=@List.getElem?_append_right
abbrev jb:=@List.length_set
abbrev jc:=@List.cons.inj
abbrev jd:=@Int.emod_lt_of_pos
abbrev je:=@List.mem_cons_of_mem
abbrev jf:=@List.mem_append_left
abbrev jg:=@List.length_take
abbrev jh:=@List.cons_append
abbrev ji:=@PySem.Heap.get?_none_of_le
abbrev jj:=@PySem.Around.under_plainId
abbrev jm:=@congrArg
abbrev jo:=@List.flatten_cons
abbrev jp:=@Int.toNat_natCast
abbrev jq:=@PySem.Heap.get?_update_other
abbrev jr:=@PyProof.Rows.boot_abs
abbrev jt:=@List.length_filter_le
abbrev ju:=@PySem.Heap.get?_update_self
abbrev jv:=@PySem.wpAny_Call_Name_kw
abbrev jw:=@PySem.wpAny_seqItems
abbrev jx:=@List.append_assoc
abbrev jy:=@PySem.codeAny_builtin
abbrev j1:=@Int.emod_nonneg
abbrev j2:=@PySem.mem_of_lookup
abbrev j3:=@List.drop_eq_nil_of_le
abbrev j4:=@PySem.wpAny_call_entry
abbrev j5:=@PySem.wpAny_setField_rec
abbrev j6:=@PySem.F.slot_zip_next
abbrev j7:=@List.length_replicate
abbrev j8:=@Bool.eq_iff_iff
abbrev j9:=@or_false
abbrev Qa:=@PySem.lookup_relabel_local
abbrev Qb:=@List.mem_of_mem_drop
abbrev Qd:=@PyProof.Rows.slot_tuple_getitem
abbrev Qg:=@List.isEmpty_iff_length_eq_zero
abbrev Qh:=@Nat.add_lt_add_left
abbrev Qi:=@Nat.lt_add_of_pos_right
abbrev Qj:=@List.lookup_cons
abbrev Qk:=@PySem.F.slot_str_split
abbrev Ql:=@List.map_nil
abbrev Qm:=@Int.fmod_nonneg_of_pos
abbrev Qn:=@eq_false
abbrev Qo:=@PySem.W.kia_one
abbrev Qp:=@PyProof.Rows.boot_int
abbrev Qq:=@PyProof.Rows.boot_all
abbrev Qr:=@of_decide_eq_true
abbrev Qs:=@Function.comp_def
abbrev Qt:=@PySem.call_meets
abbrev Qu:=@Sum.inr.inj
abbrev Qv:=@List.mem_of_mem_take
abbrev Qw:=@List.mem_of_getElem?
abbrev Qx:=@PySem.codeAny_mono
abbrev Qy:=@Nat.le_add_right
abbrev Qz:=@List.getElem_mem
abbrev Q0:=@List.all_eq_true
abbrev Q1:=@PySem.F.plain_extend_loop
abbrev Q2:=@List.drop_eq_getElem_cons
abbrev Q3:=@PyProof.Rows.F.plain_set_update_loop
abbrev Q4:=@List.filterMap_cons
abbrev Q5:=@List.any_cons
abbrev Q6:=@List.of_mem_zip
abbrev Q7:=@List.nil_append
abbrev Q8:=@List.zip_cons_cons
abbrev Q9:=@Int.fmod_lt_of_pos
abbrev Zb:=@decide_eq_false_iff_not
abbrev Zc:=@Nat.le_succ
abbrev Zd:=@List.getElem?_replicate
abbrev Ze:=@PySem.wpAny_loadPart_at
abbrev Zf:=@PySem.F.plainAttrs_str
abbrev Zg:=@PyProof.Rows.boot_list
abbrev Zh:=@Nat.ne_of_gt
abbrev Zi:=@List.take_of_length_le
abbrev Zj:=@Bool.not_eq_true'
abbrev Zk:=@PyProof.Rows.boot_str
abbrev Zl:=@List.length_singleton
abbrev Zm:=@Bool.beq_eq_decide_eq
abbrev Zn:=@PySem.wpAny_call
abbrev Zo:=@beq_self_eq_true
abbrev Zq:=@True.intro
abbrev Zr:=@Nat.le_of_not_lt
abbrev Zt:=@PySem.wpAny_standAt
abbrev Zu:=@PySem.wpAny_attempt
abbrev Zv:=@PySem.plainId_quiet
abbrev Zw:=@PySem.codeAny_call_builtin
abbrev Zx:=@PySem.wpAny_passesOwn
abbrev Zy:=@PySem.wpAny_execs_nil
abbrev Zz:=@List.forIn_cons
abbrev Z0:=@PyProof.Rows.slot_tupleiter_next
abbrev Z1:=@Option.some_ne_none
abbrev Z2:=@Nat.le_of_lt
abbrev Z3:=@PySem.typeIs_str
abbrev Z4:=@List.mem_cons_self
abbrev Z5:=@PySem.Calls.spliced_cons
abbrev Z6:=@PySem.wpAny_of_eq
abbrev Z7:=@List.reverse_cons
abbrev Z8:=@List.length_range
abbrev Z9:=@List.flatMap_cons
abbrev Ya:=@List.all_eq_false
abbrev Yb:=@PySem.Calls.spliced_nil
abbrev Yc:=@PySem.wpAny_onRaise
abbrev Yd:=@PySem.wpAny_comprehension_free
abbrev Ye:=@PySem.F.args_str_split_2
abbrev Yf:=@List.all_cons
abbrev Yg:=@PySem.wpAny_execs_cons
abbrev Yh:=@PySem.F.plainAttrs_list
abbrev Yi:=@PySem.F.entry_str_split
abbrev Yj:=@PySem.F.args_zip_next_1
abbrev Yk:=@Nat.succ_le_succ
abbrev Yl:=@PySem.wpAny_typeOf
abbrev Ym:=@PySem.F.entry_zip_next
abbrev Yn:=@Nat.le_of_eq
abbrev Yo:=@List.range_succ_eq_map
abbrev Yp:=@PySem.Calls.callWith_builtin
abbrev Yq:=@PySem.wpAny_updateSeq
abbrev Yr:=@PySem.codeAny_of_tree
abbrev Ys:=@PySem.PassesOwn.never
abbrev Yt:=@Option.some.inj
abbrev Yu:=@List.length_zip
abbrev Yv:=@List.length_nil
abbrev Yw:=@List.take_append_drop
abbrev Yx:=@List.getElem?_eq_none
abbrev Yy:=@Array.getElem?_toList
abbrev Yz:=@PySem.wpAny_updateSeq_pair
abbrev Y1:=@List.forIn_nil
abbrev Y2:=@PySem.Heap.get?_push_cases
abbrev Y3:=@Bool.and_false
abbrev Y4:=@PyProof.Rows.F.entry_set_update_loop
abbrev Y5:=@PySem.Heap.SameBut.update
abbrev Y6:=@PySem.intBits_le_64
abbrev Y7:=@PySem.evalPart_none
abbrev Y8:=@PySem.Value.ref.inj
abbrev Y9:=@PySem.Paired.length
abbrev Ja:=@List.map_take
abbrev Jb:=@List.filterMap_map
abbrev Jc:=@if_true
abbrev Jd:=@PyProof.Rows.slice_to_min_closes
abbrev Je:=@Option.isSome_map
abbrev Jf:=@Nat.lt_trans
abbrev Jg:=@List.map_snd_zip
abbrev Jh:=@List.map_reverse
abbrev Ji:=@List.map_fst_zip
end
namespace L2
open PySem PySem.Spec PyProof.Rows
abbrev Key:=Sum Int Str
def ac8:Key->Value->Bool
 |.inl k,v=>Value.isInt k v
 |.inr x,v=>Value.isStrOf x v
def ck2 (w:World):Key->Int
 |.inl k=>hashInt k
 |.inr x=>hashStr w x
theorem f_2:∀ {k:Key}{v:Value},ac8 k v=true->(∃ i t,k=Sum.inl i/\v=Value.int i t)\/(∃ x t,k=Sum.inr x/\v=Value.str x t)
 |.inl i,v,h=>by
  obtain⟨t,e⟩:=Value.isInt_shape h;exact .inl ⟨i,t,rfl,e⟩
 |.inr x,v,h=>by
  obtain⟨t,e⟩:=Value.isStrOf_shape h;exact .inr ⟨x,t,rfl,e⟩
theorem an2 (i:Int) (t:Tok):ac8 (.inl i) (.int i t)=true:=by simp[ac8,Value.isInt]
theorem an1 (x:Str) (t:Tok):ac8 (.inr x) (.str x t)=true:=by simp[ac8,Value.isStrOf]
theorem bq6 (a b:Int):decide ((Sum.inl a:Key)=Sum.inl b)=(a==b):=by
 by_cases e:a=b
 ·subst e;simp
 ·have h:¬ (Sum.inl a:Key)=Sum.inl b:=λ q=>e (Sum.inl.inj q);rw[zy h];exact (beq_eq_false_iff_ne.mpr e).symm
theorem bq2 (a b:Str):decide ((Sum.inr a:Key)=Sum.inr b)=decide (a=b):=by
 by_cases e:a=b
 ·subst e;simp
 ·have h:¬ (Sum.inr a:Key)=Sum.inr b:=λ q=>e (Qu q);rw[zy h,zy e]
theorem bq5 (a:Int) (b:Str):decide ((Sum.inl a:Key)=Sum.inr b)=false:=zy (λ q=>nomatch q)
theorem bq3 (a:Str) (b:Int):decide ((Sum.inr a:Key)=Sum.inl b)=false:=zy (λ q=>nomatch q)
def e_5 (prog:Program) (w:World):PySem.KeyKind prog w Key where
 is:=ac8
 hash:=ck2 w
 inj:=λ v a b Y O=>by
  rcases f_2 Y with ⟨i,t,rfl,rfl⟩ | ⟨x,t,rfl,rfl⟩
  ·rcases f_2 O with ⟨j,u,rfl,e⟩ | ⟨y,u,rfl,e⟩
   ·injection e with e1 _;rw[e1]
   ·exact nomatch e
  ·rcases f_2 O with ⟨j,u,rfl,e⟩ | ⟨y,u,rfl,e⟩
   ·exact nomatch e
   ·injection e with e1 _;rw[e1]
 byValue:=λ k v h=>by
  rcases f_2 h with ⟨i,t,rfl,rfl⟩ | ⟨x,t,rfl,rfl⟩ <;> rfl
 pyHash:=λ q h=>by
  rcases f_2 q with ⟨i,t,rfl,rfl⟩ | ⟨x,t,rfl,rfl⟩
  ·exact wpAny_pyHash_int h
  ·exact wpAny_pyHash_str h
 eqBool:=λ Z q h=>by
  rcases f_2 Z with ⟨i,t,rfl,rfl⟩ | ⟨x,t,rfl,rfl⟩
  ·rcases f_2 q with ⟨j,u,rfl,rfl⟩ | ⟨y,u,rfl,rfl⟩
   ·rw[bq6] at h;exact wpAny_eqBool_int h
   ·rw[bq5] at h;exact SeqAt.EqAt.int_str i t y u _ _ _ _ h
  ·rcases f_2 q with ⟨j,u,rfl,rfl⟩ | ⟨y,u,rfl,rfl⟩
   ·rw[bq3] at h;exact SeqAt.EqAt.str_int x t j u _ _ _ _ h
   ·rw[bq2] at h;exact wpAny_eqBool_str h
 «strs»:=λ k x t v h=>by
  rcases f_2 h with ⟨i,u,rfl,e⟩ | ⟨y,u,rfl,e⟩
  ·exact nomatch e
  ·injection e with e1 _
   subst e1;cases v <;> rfl
theorem P_9 (prog:Program) (w:World) (i:Int) (t:Tok):(e_5 prog w).is (.inl i) (.int i t)=true:=an2 i t
theorem o_4 (prog:Program) (w:World) (x:Str) (t:Tok):(e_5 prog w).is (.inr x) (.str x t)=true:=an1 x t
inductive V where
 |non | bl (b:Bool) | int (i:Int) | str (x:Str) | byt (b:Array UInt8) | flt (b:UInt64) | ref (a:Addr) | ty (n:String)
 deriving DecidableEq
def RelV:V->Value->Prop
 |.non,u=>u=Value.none
 |.bl b,u=>u=Value.bool b
 |.int i,u=>∃ t,u=Value.int i t
 |.str x,u=>∃ t,u=Value.str x t
 |.byt b,u=>∃ t,u=Value.bytes b t
 |.flt b,u=>∃ t,u=Value.float b t
 |.ref a,u=>u=Value.ref a
 |.ty n,u=>u=Value.type n
abbrev Vals:List V->List Value->Prop:=Paired RelV
theorem Vals.length  (r:Vals xs us):xs.length=us.length:=Y9 r
theorem Vals.get:∀ {xs:List V}{us:List Value}{i:Nat}{x:V},Vals xs us->xs[i]?=some x->∃ u,us[i]?=some u/\RelV x u
 |_,_,_,_,.nil,e=>by simp at e
 |_,_,0,_,.cons r _,e=>by simp at e;subst e;exact⟨_,rfl,r⟩
 |_,_,i+1,x,.cons _ t,e=>by
  obtain⟨u,h1,h2⟩:=Vals.get t (by simpa using e);exact⟨u,by simpa using h1,h2⟩
theorem Vals.set  (r:RelV x u):∀ {xs:List V}{us:List Value} (i:Nat),Vals xs us->Vals (xs.set i x) (us.set i u)
 |_,_,_,.nil=>.nil
 |_,_,0,.cons _ t=>.cons r t
 |_,_,i+1,.cons q t=>.cons q (Vals.set r i t)
theorem Vals.append:∀ {xs ys:List V}{us ws:List Value},Vals xs us->Vals ys ws->Vals (xs++ys) (us++ws)
 |_,_,_,_,.nil,s=>s
 |_,_,_,_,.cons r t,s=>.cons r (Vals.append t s)
theorem Vals.take:∀ {xs:List V}{us:List Value} (n:Nat),Vals xs us->Vals (xs.take n) (us.take n)
 |_,_,0,_=>.nil
 |_,_,_+1,.nil=>.nil
 |_,_,n+1,.cons r t=>.cons r (Vals.take n t)
theorem Vals.drop:∀ {xs:List V}{us:List Value} (n:Nat),Vals xs us->Vals (xs.drop n) (us.drop n)
 |_,_,0,r=>r
 |_,_,_+1,.nil=>.nil
 |_,_,n+1,.cons _ t=>Vals.drop n t
theorem Vals.none_of:∀ {xs:List V}{us:List Value}{i:Nat},Vals xs us->xs[i]?=none->us[i]?=none:=λ {xs us i} r e=>by
 have h1:=r.length;have h2:=List.getElem?_eq_none_iff.mp e;exact List.getElem?_eq_none_iff.mpr (by omega)
def RelO:Option V->Option Value->Prop
 |some v,some u=>RelV v u
 |none,none=>True
 |_,_=>False
def KV {κ:Type}:List (κ×V)->List (κ×Value)->Prop:=Paired λ (p:κ×V) (q:κ×Value)=>p.1=q.1/\RelV p.2 q.2
def kV:Key->V
 |.inl i=>.int i
 |.inr x=>.str x
inductive HO where
 |lst (xs:List V)
 |tup (xs:List V)
 |dK (kvs:List (Key×V)) | dT (kvs:List (List Key×V))
 |set (S:Int->Bool) (n:Nat)
 |ins (C dx:Addr) (fs:List (Str×V))
 |own (x:Addr)
 |xd (fs:List (Str×V))
 |met (f x:Addr)
 |rng (lo hi:Int)
 |frz (o:Obj) (u:HO)
 |tbl (ps:Array Value)
 |ext (φ:Heap->Prop)
abbrev Hp:=Addr->Option HO
def upd (H:Hp) (a:Addr) (o:HO):Hp:=λ b=>if b=a then some o else H b
theorem a_4 :upd H a o a=some o:=by unfold upd;rw[if_pos rfl]
theorem a_8  (h:b≠a):upd H a o b=H b:=by unfold upd;rw[if_neg h]
theorem bK3 {H:Hp} (h:H a=some o) (h':H b=some u) (d:o≠u):a≠b:=by intro e;subst e;rw[h] at h';exact d (qi h')
theorem b_3 {H:Hp} (h:H a=some o) (h':H b=none):a≠b:=by intro e;subst e;rw[h] at h';cases h'
def IsTuN (h:Heap) (a:Addr) (items:Array Value):Prop:=∃ o,h.get? a=some o ∧ o.cls=.type "tuple" ∧ (∃ n,o.data=.seq items n) ∧ o.dict=none
theorem IsTuN.tup  (x:IsTuN h a items):IsTup h a items:=let ⟨o,p,q,⟨n,r⟩,_⟩:=x;⟨o,p,q,n,r⟩
theorem IsTuN.new (h:Heap) (items:Array Value):IsTuN (h.push {cls:=.type "tuple",data:=.seq items}) h.objs.size items:=⟨_,qk _ rfl,rfl,⟨0,rfl⟩,rfl⟩
section
variable (P:Program) (w:World)
def ObjOk (H:Hp) (h:Heap) (a:Addr):HO->Prop
 |.lst xs=>xs.length ≤ sizeLine ∧ ∃ (O:List Value) (n:Nat),Vals xs O ∧ h.get? a=some {cls:=.type "list",data:=.seq O.toArray n}
 |.tup xs=>xs.length<=sizeLine/\∃ O:List Value,Vals xs O/\IsTuN h a O.toArray
 |.dK kvs=>kvs.length<=sizeLine/\(a==sysModules)=false/\∃ vs,KV kvs vs/\h.DictOf (e_5 P w) a vs
 |.dT kvs=>kvs.length<=sizeLine/\(a==sysModules)=false/\∃ xs:List (List Key×Addr×Value),
   Paired (λ (p:List Key×V) (q:List Key×Addr×Value)=>p.1=q.1/\H q.2.1=some (.tup (p.1.map kV))/\RelV p.2 q.2.2) kvs xs /\
   ∃ o es ep,h.get? a=some o/\o.ExactDict/\o.data=.dict es ep/\es.toList=xs.map (entryOfKey (tupleKind (e_5 P w)))/\(xs.map (·.1)).Nodup
 |.set S n=>h.SetOf (intKind P w) a S n
 |.ins C dx fs=>H dx=some (.own a)/\fs.length<=1000/\dx≠a/\h.get? a=some (PySem.W.instObj C dx) /\
   ∃ Y,h.Ns1 dx Y/\(∀ f,RelO (fs.lookup f) (Y f))/\PySem.Within Y (fs.map (·.1))
 |.own _=>∃ o,h.get? a=some o
 |.xd fs=>∃ Y,h.Ns1 a Y/\∀ f,RelO (fs.lookup f) (Y f)
 |.rng lo hi=>∃ t u v,h.get? a=some {cls:=.type "range",data:=.fields #[.int lo t,.int hi u,.int 1 v]}
 |.frz o u=>h.get? a=some o/\ObjOk H h a u
 |.tbl ps=>h.get? a=some {cls:=.none,data:=.fields ps}
 |.met f x=>h.get? a=some (PySem.W.methodObj (.ref f) (.ref x))
 |.ext Z=>Z h/\(∃ o,h.get? a=some o)/\∀ h1 h2:Heap,Z h1->(∀ o,h1.get? a=some o->h2.get? a=some o)->Z h2
def HOk (H:Hp) (h:Heap):Prop:=∀ a o,H a=some o->ObjOk P w H h a o
end
section
theorem ObjOk.lt (x:ObjOk P w H h a o):a<h.objs.size:=by
 cases o with
 |lst xs=>obtain⟨_,_,_,_,e⟩:=x;exact qm e
 |tup xs=>obtain⟨_,_,_,p⟩:=x;exact p.tup.lt
 |dK kvs=>obtain⟨_,_,_,_,o,_,_,e,_⟩:=x;exact qm e
 |dT kvs=>obtain⟨_,_,_,_,o,_,_,e,_⟩:=x;exact qm e
 |set S n=>obtain⟨o,_,_,_,e,_⟩:=x;exact qm e
 |ins C dx fs=>obtain⟨_,_,_,e,_⟩:=x;exact qm e
 |own y=>obtain⟨_,e⟩:=x;exact qm e
 |xd fs=>obtain⟨_,⟨_,_,_,e,_⟩,_⟩:=x;exact qm e
 |rng lo hi=>obtain⟨_,_,_,e⟩:=x;exact qm e
 |frz ob u=>obtain⟨e,_⟩:=x;exact qm e
 |tbl ps=>exact qm (show h.get? a=some _ from x)
 |met f y=>exact qm (show h.get? a=some _ from x)
 |ext q=>obtain⟨_,⟨_,e⟩,_⟩:=x;exact qm e
theorem Paired.mapP :∀ {l₁:List α}{l₂:List q},Paired F l₁ l₂->(∀ a b,F a b->G a b)->Paired G l₁ l₂
 |[],_,h,_=>by cases h;exact .nil
 |x::l,_,h,f=>by
  cases h with
  |cons r t=>exact .cons (f _ _ r) (Paired.mapP t f)
theorem ObjOk.stay (x:ObjOk P w H h a o) (k:∀ b u,(b=a\/H b=some (.own a))->h.get? b=some u->h'.get? b=some u)
  (ho:∀ b,H b=some (.own a)->H' b=some (.own a)) (Z:∀ b xs,H b=some (.tup xs)->H' b=some (.tup xs)):ObjOk P w H' h' a o:=by
 induction o with
 |lst xs=>obtain⟨z,O,n,r,e⟩:=x;exact⟨z,O,n,r,k _ _ (.inl rfl) e⟩
 |tup xs=>obtain⟨z,O,r,ob,e,c⟩:=x;exact⟨z,O,r,ob,k _ _ (.inl rfl) e,c⟩
 |dK kvs=>obtain⟨z,y,vs,r,ob,es,ep,e,c⟩:=x;exact⟨z,y,vs,r,ob,es,ep,k _ _ (.inl rfl) e,c⟩
 |dT kvs =>
  obtain⟨z,y,xs,r,ob,es,ep,e,c⟩:=x;exact⟨z,y,xs,Paired.mapP r λ p q z=>⟨z.1,Z _ _ z.2.1,z.2.2⟩,ob,es,ep,k _ _ (.inl rfl) e,c⟩
 |set S n=>obtain⟨ob,es,ep,t,e,c⟩:=x;exact⟨ob,es,ep,t,k _ _ (.inl rfl) e,c⟩
 |ins C dx fs =>
  obtain⟨d,z,ne,e,Y,⟨od,es,ep,e2,c⟩,r⟩:=x;exact⟨ho _ d,z,ne,k _ _ (.inl rfl) e,Y,⟨od,es,ep,k _ _ (.inr d) e2,c⟩,r⟩
 |own y=>obtain⟨ob,e⟩:=x;exact⟨ob,k _ _ (.inl rfl) e⟩
 |xd fs=>obtain⟨Y,⟨od,es,ep,e,c⟩,r⟩:=x;exact⟨Y,⟨od,es,ep,k _ _ (.inl rfl) e,c⟩,r⟩
 |rng lo hi=>obtain⟨t,u,v,e⟩:=x;exact⟨t,u,v,k _ _ (.inl rfl) e⟩
 |frz ob u ih=>obtain⟨e,q⟩:=x;exact⟨k _ _ (.inl rfl) e,ih q⟩
 |tbl ps =>
  have e:=x;exact k a _ (.inl rfl) e
 |met f y =>
  have e:=x;exact k a _ (.inl rfl) e
 |ext φ=>obtain⟨p,⟨o,e⟩,st⟩:=x;exact⟨st _ _ p λ o q=>k _ _ (.inl rfl) q,⟨o,k _ _ (.inl rfl) e⟩,st⟩
theorem HOk.lt (x:HOk P w H h) (e:H a=some o):a<h.objs.size:=(x a o e).lt
theorem HOk.fresh (x:HOk P w H h) (e:h.objs.size<=a):H a=none:=by
 cases q:H a with
 |none=>rfl
 |some u=>exact absurd (qt (x.lt q) e) (yp _)
theorem HOk.kept (x:HOk P w H h) (k:∀ b u,h.get? b=some u->h'.get? b=some u):HOk P w H h':=λ a o e =>
 (x a o e).stay (λ b u _ q=>k b u q) (λ _ q=>q) λ _ _ q=>q
theorem HOk.laid (x:HOk P w H h) (k:∀ b u,h.get? b=some u->h'.get? b=some u) (Z:h.objs.size<=a) (new:ObjOk P w (upd H a o) h' a o):HOk P w (upd H a o) h':=λ b u e=>by
 have O:=x.fresh Z;by_cases Y:b=a
 ·subst Y;rw[a_4] at e;cases e;exact new
 ·rw[a_8 Y] at e;exact (x b u e).stay (λ c v _ q=>k c v q) (λ c q=>by rw[a_8 (b_3 q O)];exact q) λ c xs q=>by rw[a_8 (b_3 q O)];exact q
end
def Rd (H:Hp) (a:Addr) (u:HO):Prop:=H a=some u\/∃ o,H a=some (.frz o u)
theorem Rd.of  (h:H a=some u):Rd H a u:=.inl h
theorem Rd.ok  (r:Rd H a u) (x:HOk P w H h):ObjOk P w H h a u:=by
 rcases r with r | ⟨o,r⟩
 ·exact x a u r
 ·obtain⟨_,q⟩:=x a _ r;exact q
def Mut:Option HO->Prop
 |some (.lst _)=>True
 |some (.dK _)=>True
 |some (.dT _)=>True
 |some (.set _ _)=>True
 |some (.ins _ _ _)=>True
 |some (.ext _)=>True
 |_=>False
section
theorem HOk.write (ok:HOk P w H h) (mu:Mut (H x)) (he:e=x\/H e=some (.own x)) (k:∀ b u,b≠e->h.get? b=some u->h'.get? b=some u) (aa:∃ u,h'.get? e=some u)
  (new:ObjOk P w (upd H x o') h' x o'):HOk P w (upd H x o') h':=λ b u q=>by
 have Y:∀ c y,H c=some (.own y)->c≠x:=λ c y r z=>by subst z;rw[r] at mu;exact mu
 have Z:∀ c xs,H c=some (.tup xs)->c≠x:=λ c xs r z=>by subst z;rw[r] at mu;exact mu
 by_cases hb:b=x
 ·subst hb;rw[a_4] at q;cases q;exact new
 ·rw[a_8 hb] at q;by_cases O:b=e
  ·have q':H b=some (.own x):=by
    rcases he with z | z
    ·exact absurd (O.trans z) hb
    ·rw[O];exact z
   rw[q] at q';cases q';obtain⟨v,hv⟩:=aa;exact⟨v,by rw[O];exact hv⟩
  ·refine (ok b u q).stay (λ c v hc r=>k c v ?_ r) (λ c r=>by rw[a_8 (Y c b r)];exact r) λ c xs r=>by rw[a_8 (Z c xs r)];exact r
   rcases hc with rfl | hc
   ·exact O
   ·rintro rfl;rcases he with z | z
    ·exact Y c b hc z
    ·rw[hc] at z;cases z;exact hb rfl
end
structure Un (fs ex:List Addr) (H H':Hp) (h h':Heap):Prop where
 keep:∀ b o,h.get? b=some o->H b=none->b∉fs->b∉ex->h'.get? b=some o
 slot:∀ b o,h.get? b=some o->H b=none->b∈fs->b∉ex->∃ sl,h'.get? b=some {o with slots:=sl}
 free:∀ b o,h.get? b=some o->H b=none->b∉ex->H' b=none
 there:∀ b o,h.get? b=some o->b∉ex->∃ o',h'.get? b=some o'
 tups:∀ b xs,H b=some (.tup xs)->H' b=some (.tup xs)
 frzs:∀ b o u,H b=some (.frz o u)->H' b=some (.frz o u)
 tbls:∀ b ps,H b=some (.tbl ps)->∃ more,H' b=some (.tbl (ps++more))
section
theorem Un.any (u:Un fs ex H H1 h h1)  (q:h.get? b=some ob) (n:H b=none) (O:b∉ex):∃ Z,h1.get? b=some {ob with slots:=Z}:=by
 by_cases Y:b∈fs
 ·exact u.slot b ob q n Y O
 ·exact⟨ob.slots,u.keep b ob q n Y O⟩
theorem Un.kept (k:∀ b u,h.get? b=some u->h'.get? b=some u):Un fs ex H H h h' :=
 ⟨λ b ob q _ _ _=>k b ob q,λ b ob q _ _ _=>⟨ob.slots,k b ob q⟩,λ _ _ _ n _=>n,λ b ob q _=>⟨ob,k b ob q⟩,λ _ _ q=>q,λ _ _ _ q=>q,λ _ ps q=>⟨#[],by rw[q];simp⟩⟩
theorem Un.refl:Un fs ex H H h h:=Un.kept λ _ _ q=>q
theorem Un.laid (k:∀ b u,h.get? b=some u->h'.get? b=some u) (Y:h.objs.size<=a) (O:H a=none):Un fs ex H (upd H a o) h h' where
 keep:=λ b u q _ _ _=>k b u q
 slot:=λ b u q _ _ _=>⟨u.slots,k b u q⟩
 free:=λ b u q n _=>by rw[a_8 (Nat.ne_of_lt (Nat.lt_of_lt_of_le (Heap.lt_size q) Y))];exact n
 there:=λ b u q _=>⟨u,k b u q⟩
 tups:=λ b xs q=>by rw[a_8 (b_3 q O)];exact q
 frzs:=λ b u xs q=>by rw[a_8 (b_3 q O)];exact q
 tbls:=λ b ps q=>⟨#[],by rw[a_8 (b_3 q O),q];simp⟩
theorem Un.write (Y:Mut (H x)) (he:e=x\/H e=some (.own x)) (k:∀ b u,b≠e->h.get? b=some u->h'.get? b=some u) (aa:∃ u,h'.get? e=some u):Un fs ex H (upd H x o) h h':=by
 have hx:∀ b,H b=none->b≠x:=λ b n z=>by subst z;rw[n] at Y;exact Y
 have hb:∀ b,H b=none->b≠e:=λ b n z=>by
  subst z;rcases he with r | r
  ·exact hx b n r
  ·rw[n] at r;cases r
 have Z:∀ b u,H b=some u->¬ Mut (some u)->b≠x:=λ b u q nm z=>by subst z;rw[q] at Y;exact nm Y
 refine⟨λ b u q n _ _=>k b u (hb b n) q,λ b u q n _ _=>⟨u.slots,k b u (hb b n) q⟩,λ b u q n _=>by rw[a_8 (hx b n)];exact n,λ b u q _=>?_,
  λ b xs q=>by rw[a_8 (Z b _ q λ z=>z)];exact q,λ b u xs q=>by rw[a_8 (Z b _ q λ z=>z)];exact q,λ b ps q=>⟨#[],by rw[a_8 (Z b _ q λ z=>z),q];simp⟩⟩
 by_cases O:b=e
 ·subst O;exact aa
 ·exact⟨u,k b u O q⟩
theorem Un.mono (u:Un fs ex H H1 h h1) (Z:∀ b∈fs,b∈fs') (Y:∀ b∈ex,b∈ex'):Un fs' ex' H H1 h h1 :=
 ⟨λ b ob q n hb O=>u.keep b ob q n (λ z=>hb (Z b z)) λ z=>O (Y b z),λ _ _ q n _ O=>u.any q n λ z=>O (Y _ z),λ b ob q n O=>u.free b ob q n λ z=>O (Y b z),λ b ob q O=>u.there b ob q λ z=>O (Y b z),u.tups,u.frzs,u.tbls⟩
end
def trk (h:Heap) (H:Hp):List Addr:=(List.range h.objs.size).filter λ a=>(H a).isSome
def aD2 (h:Heap) (H:Hp):Heap:=PySem.W.hideAll h (trk h H)
theorem ao3 (h:Heap) (H:Hp):(aD2 h H).objs.size=h.objs.size:=PySem.W.hideAll_size _ _
theorem aD1  (e:h.get? b=some o) (n:H b=none):(aD2 h H).get? b=some o :=
 PySem.W.hideAll_get _ e λ O=>by
  have q:=(List.mem_filter.mp O).2;rw[n] at q;simp at q
theorem aT7  (e:(aD2 h H).get? b=some o):h.get? b=some o/\H b=none:=by
 have O:=PySem.W.of_hideAll (trk h H) e;refine⟨O,?_⟩;cases q:H b with
 |none=>rfl
 |some x =>
  have Y:b∈trk h H:=List.mem_filter.mpr ⟨List.mem_range.mpr (qm O),by simp[q]⟩;have z:(aD2 h H).get? b=none:=PySem.W.hideAll_none (trk h H) Y;rw[z] at e;cases e
def be5 (g h:Heap) (L:Addr):List (Addr×Obj):=(List.range h.objs.size).filterMap λ a=>if a=L\/(g.get? a).isSome=true then none else (h.get? a).map λ o=>(a,o)
def rest (g h:Heap) (L d:Addr):List (Addr×Obj):=(be5 g h L).filter λ p=>decide (p.1≠d)
structure Mod (K:Frag) (mg:Str->Option Value) (base:Heap):Prop where
 kin:K.In base
 glob:base.Ns mainGlobals mg
 blt:∃ mb,base.Ns builtinsNs mb ∧ ∀ x:Str,x≠"__name__" → mb x=bootBuiltins x
 nolimit:base.NoLimit
structure Cx where
 prog:Program
 w:World
 K:Frag
 mg:Str->Option Value
 base:Heap
 A:Around
 N:List Str
 s₀:Shared
 H₀:Hp
 env:Env
 outer:List Env
 stack:List Env
 ex:List Addr
 fn:Str->Bool
 calm:Bool
 pn:List (Addr×Obj)
 xe:Value->Shared->Prop
def frs (l:List Env):List Addr:=l.filterMap (·.frame)
abbrev Cx.fs (X:Cx):List Addr:=frs X.outer
def Vis (sc:Scope) (x:Str):Prop:=sc.names.lookup x=some .local\/sc.names.lookup x=some .cell\/sc.names.lookup x=some .free
def Loc (sc:Scope) (x:Str):Prop:=sc.names.lookup x=some .local\/sc.names.lookup x=some .cell
def co7 (env:Env) (h:Heap) (m:Str->Option Value) (x:Str) (u:Value):Prop :=
 (env.kindOf x=some .local/\m x=some u)\/((env.kindOf x=some .cell\/env.kindOf x=some .free)/\∃ c,env.cells.lookup x=some c/\h.IsCell c (some u))
structure Cx.Ok (X:Cx):Prop where
 mod:Mod X.K X.mg X.base
 kind:X.env.scope.kind=.function
 glob:X.env.globals=mainGlobals
 blt:X.env.builtins=builtinsNs
 above:X.s₀.heap.objs.size<=X.env.locals
 inj:∀ x y c,X.env.cells.lookup x=some c->X.env.cells.lookup y=some c->x=y
 has:∀ x,(X.env.kindOf x=some .cell\/X.env.kindOf x=some .free)->∃ c,X.env.cells.lookup x=some c
 cab:∀ x c,X.fn x=true->X.env.cells.lookup x=some c->X.s₀.heap.objs.size<=c
 hd:X.calm=true->X.A.handled=none
 frames:X.A.frames=some X.stack
 stk:X.stack=X.outer\/(X.stack=X.env::X.outer/\X.env.frame=some X.env.locals)
 exf:∀ b∈X.ex,b≠X.env.locals/\∀ x c,X.env.cells.lookup x=some c->c≠b
 bs:∀ b o,X.base.get? b=some o->X.s₀.heap.get? b=some o/\X.H₀ b=none
 bsz:X.base.objs.size<=X.s₀.heap.objs.size
 noex:∀ b o,X.base.get? b=some o->b∉X.ex
 exfs:∀ b∈X.ex,b∉X.fs
 funs:X.s₀.heap.FunFrames X.base X.outer
 frf:∀ b∈X.fs,X.H₀ b=none
structure Inv (X:Cx) (pins:List (Addr×Obj)) (σ:List (Option V)) (H:Hp) (s:Shared):Prop where
 ok:X.Ok
 os:s.os=X.s₀.os
 bare:AllBare s.gens
 base:Un X.fs X.ex X.H₀ H X.s₀.heap s.heap
 loc:∃ m,s.heap.Ns X.env.locals m/\∀ (i:Nat) (x:Str) (v:V),X.N[i]?=some x->σ[i]?=some (some v)->Vis X.env.scope x->∃ u,RelV v u/\co7 X.env s.heap m x u
 cell:∀ x c,X.env.cells.lookup x=some c->∃ v,s.heap.IsCell c v
 free:H X.env.locals=none
 freeC:∀ x c,X.env.cells.lookup x=some c->H c=none
 pin:∀ p∈X.pn++pins,s.heap.get? p.1=some p.2/\H p.1=none/\p.1≠X.env.locals/\p.1∉X.fs/\∀ v,p.2.data≠.cell v
 hok:HOk X.prog X.w H s.heap
 len:σ.length=X.N.length
section
variable {X:Cx}{pins:List (Addr×Obj)}{σ:List (Option V)}{H H':Hp}{s:Shared}{h':Heap}
theorem Cx.Ok.nofr (ok:X.Ok)  (e:X.base.get? b=some o):b∉X.fs:=λ q=>by
 have:=(ok.funs.mem q).1;rw[e] at this;cases this
theorem Inv.bs (I:Inv X pins σ H s):∀ b o,X.base.get? b=some o->s.heap.get? b=some o/\H b=none:=λ b o e =>
 ⟨I.base.keep b o (I.ok.bs b o e).1 (I.ok.bs b o e).2 (I.ok.nofr e) (I.ok.noex b o e),I.base.free b o (I.ok.bs b o e).1 (I.ok.bs b o e).2 (I.ok.noex b o e)⟩
theorem Inv.bk (I:Inv X pins σ H s):∀ b o,X.base.get? b=some o->s.heap.get? b=some o:=λ b o e=>(I.bs b o e).1
theorem Inv.mod (I:Inv X pins σ H s):Mod X.K X.mg X.base:=I.ok.mod
theorem Inv.kIn (I:Inv X pins σ H s):X.K.In s.heap:=I.ok.mod.kin.keeps I.bk
theorem Inv.nolimit (I:Inv X pins σ H s):s.heap.NoLimit:=I.ok.mod.nolimit.keeps I.bk
theorem Inv.fr (I:Inv X pins σ H s):∃ m,Fr X.base X.env.locals s.heap m :=
 let ⟨m,hn,_⟩:=I.loc
 ⟨m,hn,I.bk,zo I.ok.bsz I.ok.above⟩
theorem Inv.lt (I:Inv X pins σ H s):X.env.locals<s.heap.objs.size:=let ⟨_,hn,_⟩:=I.loc;hn.lt
theorem Inv.sz (I:Inv X pins σ H s):X.s₀.heap.objs.size<=s.heap.objs.size:=zo I.ok.above (Z2 I.lt)
theorem Inv.nofs (I:Inv X pins σ H s)  (h:s.heap.objs.size<=a):a∉X.fs:=λ O=>by
 obtain⟨_,o,q,_⟩:=I.ok.funs.mem O;exact absurd (qt (qm q) (zo I.sz h)) (yp _)
theorem Inv.cne (I:Inv X pins σ H s):∀ x c,X.env.cells.lookup x=some c->c≠X.env.locals:=λ x c e z=>by
 obtain⟨v,o,Y,hd⟩:=I.cell x c e;obtain⟨m,⟨o',es,ep,q,O,_⟩,_⟩:=I.loc;rw[z,q] at Y;cases Y;rw[O] at hd;cases hd
theorem Inv.funs (I:Inv X pins σ H s):s.heap.FunFrames X.base X.outer:=by
 have all:∀ (l:List Env),(∀ b∈frs l,b∈X.fs)->X.s₀.heap.FunFrames X.base l->s.heap.FunFrames X.base l:=by
  intro l;induction l with
  |nil=>intro _ _;trivial
  |cons env r ih =>
   intro Z hl;obtain⟨hk,⟨L,o,q,hn,ho,hd⟩,hr⟩:=hl;have O:=Z L (by unfold frs;rw[Q4,q];exact qg);obtain⟨sl,e⟩:=I.base.slot L o ho (I.ok.frf L O) O λ z=>I.ok.exfs L z O;exact⟨hk,⟨L,_,q,hn,e,hd⟩,ih (λ b Y=>Z b (by unfold frs;rw[Q4,q];exact qh _ Y)) hr⟩
 exact all X.outer (λ _ Y=>Y) I.ok.funs
theorem Inv.stack (I:Inv X pins σ H s):s.heap.FunFrames X.base X.stack:=by
 rcases I.ok.stk with e | ⟨e,hf⟩
 ·rw[e];exact I.funs
 ·rw[e];obtain⟨m,q,_⟩:=I.loc;refine .cons (by rw[I.ok.kind];decide) hf q ?_ I.funs;exact ji (zo I.ok.bsz I.ok.above)
theorem Inv.stkSub (I:Inv X pins σ H s):∀ b∈frs X.stack,b∈X.env.locals::X.fs:=λ b q=>by
 rcases I.ok.stk with e | ⟨e,hf⟩
 ·rw[e] at q;exact qh _ q
 ·rw[e] at q;unfold frs at q;rw[Q4,hf] at q;exact q
theorem Inv.stkFree (I:Inv X pins σ H s):∀ b∈frs X.stack,H b=none:=λ b q=>by
 rcases qw (I.stkSub b q) with e | q
 ·rw[e];exact I.free
 ·obtain⟨_,o,O,_⟩:=I.ok.funs.mem q;exact I.base.free b o O (I.ok.frf b q) λ z=>I.ok.exfs b z q
theorem Inv.step {ch:List Addr} (I:Inv X pins σ H s)
  (Z:∀ b∈ch,(b∈X.ex\/X.s₀.heap.objs.size<=b)/\b≠X.env.locals/\(∀ x c,X.env.cells.lookup x=some c->c≠b)/\∀ p∈X.pn++pins,p.1≠b)
  (keep:∀ b o,b≠X.env.locals->b∉X.fs->b∉ch->s.heap.get? b=some o->H b=none->h'.get? b=some o)
  (slot:∀ b o,b≠X.env.locals->b∈X.fs->b∉ch->s.heap.get? b=some o->H b=none->∃ sl,h'.get? b=some {o with slots:=sl}) (free:∀ b o,b∉ch->s.heap.get? b=some o->H b=none->H' b=none)
  (there:∀ b o,b∉ch->s.heap.get? b=some o->∃ o',h'.get? b=some o')
  (tups:∀ b xs,H b=some (.tup xs)->H' b=some (.tup xs)) (frzs:∀ b o u,H b=some (.frz o u)->H' b=some (.frz o u)) (tbls:∀ b ps,H b=some (.tbl ps)->∃ af,H' b=some (.tbl (ps++af)))
  (ns:∀ m,s.heap.Ns X.env.locals m->h'.Ns X.env.locals m) (ag:HOk X.prog X.w H' h') (hg:AllBare g') :
  Inv X pins σ H' {s with heap:=h',gens:=g',drawn:=d',toks:=t'}:=by
 have ad:∀ b o,X.s₀.heap.get? b=some o->b≠X.env.locals:=λ b o e=>qv (qt (qm e) I.ok.above);have ac:∀ b o,X.s₀.heap.get? b=some o->b∉X.ex->b∉ch:=λ b o e O hb=>by
  rcases (Z b hb).1 with z | z
  ·exact O z
  ·exact absurd (qt (qm e) z) (yp _)
 have Y:∀ x c,X.env.cells.lookup x=some c->∀ v,s.heap.IsCell c v->h'.IsCell c v:=λ x c e v ae=>by
  obtain⟨o,ho,hd⟩:=ae;have aa:=λ z=>(Z c z).2.2.1 x c e rfl;by_cases hc:c∈X.fs
  ·obtain⟨sl,q⟩:=slot c o (I.cne x c e) hc aa ho (I.freeC x c e);exact⟨_,q,hd⟩
  ·exact⟨o,keep c o (I.cne x c e) hc aa ho (I.freeC x c e),hd⟩
 refine⟨I.ok,I.os,hg,⟨λ b o e n hb O=>?_,λ b o e n hb O=>?_,λ b o e n O=>?_,λ b o e O=>?_,λ b xs e=>tups b xs (I.base.tups b xs e),λ b o xs e=>frzs b o xs (I.base.frzs b o xs e),λ b ps e=>?_⟩,?_,λ x c e=>?_,?_,λ x c e=>?_,λ p hp=>?_,ag,I.len⟩
 ·exact keep b o (ad b o e) hb (ac b o e O) (I.base.keep b o e n hb O) (I.base.free b o e n O)
 ·obtain⟨sl,e1⟩:=I.base.slot b o e n hb O;obtain⟨ah,e2⟩:=slot b _ (ad b o e) hb (ac b o e O) e1 (I.base.free b o e n O);exact⟨ah,e2⟩
 ·obtain⟨o',e1⟩:=I.base.there b o e O;exact free b o' (ac b o e O) e1 (I.base.free b o e n O)
 ·obtain⟨o',e1⟩:=I.base.there b o e O;exact there b o' (ac b o e O) e1
 ·obtain⟨m1,e1⟩:=I.base.tbls b ps e;obtain⟨m2,e2⟩:=tbls b _ e1;exact⟨m1++m2,by rw[e2,Array.append_assoc]⟩
 ·obtain⟨m,hn,hl⟩:=I.loc;refine⟨m,ns m hn,λ i x v e1 e2 e3=>?_⟩;obtain⟨u,r,l⟩:=hl i x v e1 e2 e3;refine⟨u,r,?_⟩;rcases l with l | ⟨k,c,e,z⟩
  ·exact .inl l
  ·exact .inr ⟨k,c,e,Y x c e _ z⟩
 ·obtain⟨v,z⟩:=I.cell x c e;exact⟨v,Y x c e v z⟩
 ·obtain⟨m,⟨o,_,_,ho,_⟩,_⟩:=I.loc;exact free _ o (λ z=>(Z _ z).2.1 rfl) ho I.free
 ·obtain⟨v,o,ho,hd⟩:=I.cell x c e;exact free c o (λ z=>(Z c z).2.2.1 x c e rfl) ho (I.freeC x c e)
 ·obtain⟨e,n,ne,nf,d⟩:=I.pin p hp;have aa:=λ z=>(Z p.1 z).2.2.2 p hp rfl;exact⟨keep p.1 p.2 ne nf aa e n,free p.1 p.2 aa e n,ne,nf,d⟩
theorem Inv.un  (I:Inv X pins σ H s) (u:Un X.fs [] H H' s.heap h') (Y:HOk X.prog X.w H' h'):Inv X pins σ H' {s with heap:=h',toks:=t'}:=by
 obtain⟨m,⟨o,es,ep,ho,r⟩,_⟩:=id I.loc;obtain⟨sl,hL⟩:=u.any ho I.free (by simp);exact I.step (ch:=[]) (λ _ z=>nomatch z) (λ b o _ hb _ e n=>u.keep b o e n hb (by simp)) (λ b o _ hb _ e n=>u.slot b o e n hb (by simp)) (λ b o _ e n=>u.free b o e n (by simp)) (λ b o _ e=>u.there b o e (by simp)) u.tups u.frzs u.tbls (λ m' hm=>by
  obtain⟨o',Z,O,q,r'⟩:=hm;rw[ho] at q;cases q;exact⟨_,Z,O,hL,r'⟩) Y I.bare
theorem Inv.call  (I:Inv X pins σ H s) (u:Un (frs X.stack) ch H H' s.heap h') (aa:HOk X.prog X.w H' h') (hg:AllBare g')
  (O:∀ b∈ch,(b∈X.ex\/X.s₀.heap.objs.size<=b)/\b≠X.env.locals/\(∀ x c,X.env.cells.lookup x=some c->c≠b)/\∀ p∈X.pn++pins,p.1≠b) :
  Inv X pins σ H' {s with heap:=h',gens:=g',drawn:=d',toks:=t'}:=by
 obtain⟨m,⟨o,es,ep,ho,r⟩,_⟩:=id I.loc;obtain⟨sl,hL⟩:=u.any ho I.free λ z=>(O _ z).2.1 rfl;exact I.step O (λ b o hL hb q e n=>u.keep b o e n (λ z=>(qw (I.stkSub b z)).elim hL hb) q) (λ b o _ _ q e n=>u.any e n q) (λ b o q e n=>u.free b o e n q) (λ b o q e=>u.there b o e q) u.tups u.frzs u.tbls (λ m' hm=>by
  obtain⟨o',ac,Z,Y,r'⟩:=hm;rw[ho] at Y;cases Y;exact⟨_,ac,Z,hL,r'⟩) aa hg
theorem Inv.turned  (I:Inv X pins σ H s) (k:∀ b o,b≠it->s.heap.get? b=some o->h'.get? b=some o) (hn:H it=none) (Z:it≠X.env.locals)
  (h1:it∈X.ex\/X.s₀.heap.objs.size<=it) (h2:∀ x c,X.env.cells.lookup x=some c->c≠it) (h3:∀ p∈X.pn++pins,p.1≠it):Inv X pins σ H {s with heap:=h',toks:=t'}:=by
 have Y:∀ b u,H b=some u->b≠it:=λ b u e z=>by rw[z,hn] at e;cases e
 refine I.step (ch:=[it]) (λ b hb=>?_) (λ b o _ _ O e _=>k b o (λ z=>O (by simp[z])) e) (λ b o _ _ O e _=>⟨o.slots,k b o (λ z=>O (by simp[z])) e⟩) (λ _ _ _ _ n=>n)
  (λ b o O e=>⟨o,k b o (λ z=>O (by simp[z])) e⟩) (λ _ _ e=>e) (λ _ _ _ e=>e) (λ b ps e=>⟨#[],by rw[e];simp⟩) (λ m hm=>?_) (λ b u e=>?_) I.bare
 ·have e:b=it:=by simpa using hb
  subst e;exact⟨h1,Z,h2,h3⟩
 ·obtain⟨o,es,ep,ho,r⟩:=hm;exact⟨o,es,ep,k _ o (yk Z) ho,r⟩
 ·refine (I.hok b u e).stay (λ c v O q=>k c v ?_ q) (λ _ q=>q) λ _ _ q=>q;rcases O with z | z
  ·rw[z];exact Y b u e
  ·exact Y c _ z
theorem Inv.tok (I:Inv X pins σ H s) (t:Nat):Inv X pins σ H {s with toks:=t}:=I.un Un.refl I.hok
theorem Inv.kept  (I:Inv X pins σ H s) (k:∀ b u,s.heap.get? b=some u->h'.get? b=some u):Inv X pins σ H {s with heap:=h',toks:=t'}:=I.un (Un.kept k) (I.hok.kept k)
theorem Inv.laid  (I:Inv X pins σ H s) (k:∀ b u,s.heap.get? b=some u->h'.get? b=some u) (q:s.heap.objs.size<=a) (new:ObjOk X.prog X.w (upd H a o) h' a o) :
  Inv X pins σ (upd H a o) {s with heap:=h',toks:=t'}:=I.un (Un.laid k q (I.hok.fresh q)) (I.hok.laid k q new)
theorem Inv.write  (I:Inv X pins σ H s) (O:Mut (H x)) (Y:e=x\/H e=some (.own x)) (k:∀ b u,b≠e->s.heap.get? b=some u->h'.get? b=some u) (q:∃ u,h'.get? e=some u)
  (new:ObjOk X.prog X.w (upd H x o) h' x o):Inv X pins σ (upd H x o) {s with heap:=h',toks:=t'}:=I.un (Un.write O Y k q) (I.hok.write O Y k q new)
theorem Inv.weak  (I:Inv X pins σ H s) (hl:q.length=σ.length) (w:∀ (i:Nat) v,q[i]?=some (some v)->σ[i]?=some (some v)):Inv X pins q H s :=
 ⟨I.ok,I.os,I.bare,I.base,let ⟨m,hn,hl'⟩:=I.loc;⟨m,hn,λ i x v e1 e2 e3=>hl' i x v e1 (w i v e2) e3⟩,I.cell,I.free,I.freeC,I.pin,I.hok,hl.trans I.len⟩
theorem Inv.pins_of  (I:Inv X pins σ H s) (h:∀ p∈pins',s.heap.get? p.1=some p.2/\H p.1=none/\p.1≠X.env.locals/\p.1∉X.fs/\∀ v,p.2.data≠.cell v):Inv X pins' σ H s :=
 ⟨I.ok,I.os,I.bare,I.base,I.loc,I.cell,I.free,I.freeC,λ p q=>(qx q).elim (λ z=>I.pin p (jf _ z)) (h p),I.hok,I.len⟩
theorem E_5 {N:List Str} (q:N.Nodup) {i j:Nat} (a:N[i]?=some x) (b:N[j]?=some x):i=j:=by obtain⟨h1,e1⟩:=List.getElem?_eq_some_iff.mp a;obtain⟨h2,e2⟩:=List.getElem?_eq_some_iff.mp b;exact (List.getElem_inj q).mp (e1.trans e2.symm)
theorem I_2  (I:Inv X pins σ H s) (hN:X.N.Nodup) (hi:X.N[i]?=some x) (hx:Loc X.env.scope x) (r:RelV v u)
  (h:∀ s',Inv X pins (σ.set i (some v)) H s'->(∃ a,Heap.SameBut a s.heap s'.heap/\(a=X.env.locals\/X.env.cells.lookup x=some a))->Q () s') (hf:X.fn x=true\/X.env.scope.names.lookup x=some .local:=by first | exact .inl rfl | exact .inr rfl | assumption):wpAny M A (storeName X.env x u) Q E s:=by
 obtain⟨m,hn,hl⟩:=id I.loc;have af:(X.env.scope.kind==.class||(X.env.scope.kind==.module&&X.env.locals != X.env.globals))=false:=by rw[I.ok.kind];rfl
 have ac:i<σ.length:=by rw[I.len];exact (List.getElem?_eq_some_iff.mp hi).1
 have cne:=I.cne;have Y:∀ {a:Addr}{h':Heap},(∃ o,s.heap.get? a=some o/\H a=none)->Heap.SameBut a s.heap h'->HOk X.prog X.w H h':=λ {a h'} ha O b ob e=>by
  obtain⟨_,_,aa⟩:=ha;refine (I.hok b ob e).stay (λ c w' Z q=>(O.2 c ?_).trans q) (λ _ q=>q) λ _ _ q=>q;rintro rfl;rcases Z with rfl | Z
  ·rw[aa] at e;cases e
  ·rw[aa] at Z;cases Z
 rcases hx with hk | hk
 ·refine wpAny_storeName_local hk hn (λ h' aj O=>?_) af;obtain⟨oL,_,_,ak,_⟩:=id hn;refine h _ ⟨I.ok,I.os,I.bare,⟨λ b o e n hb hx=>?_,λ b o e n hb hx=>?_,I.base.free,λ b o e hx=>?_,I.base.tups,I.base.frzs,I.base.tbls⟩,⟨_,aj,λ j y v' e1 e2 e3=>?_⟩,λ y c e=>?_,I.free,I.freeC,λ p hp=>?_,Y ⟨oL,ak,I.free⟩ O,by simpa using I.len⟩ ⟨_,O,.inl rfl⟩
  ·exact (O.2 b (qv (qt (qm e) I.ok.above))).trans (I.base.keep b o e n hb hx)
  ·obtain⟨sl,e1⟩:=I.base.slot b o e n hb hx;exact⟨sl,(O.2 b (qv (qt (qm e) I.ok.above))).trans e1⟩
  ·obtain⟨o',e1⟩:=I.base.there b o e hx;exact⟨o',(O.2 b (qv (qt (qm e) I.ok.above))).trans e1⟩
  ·by_cases hj:j=i
   ·subst hj;rw[hi] at e1;cases e1;rw[zv ac] at e2;cases e2;exact⟨u,r,.inl ⟨hk,by simp⟩⟩
   ·rw[zt (yk hj)] at e2;obtain⟨u',r',q⟩:=hl j y v' e1 e2 e3;refine⟨u',r',?_⟩;rcases q with ⟨k,e⟩ | ⟨k,c,e,z⟩
    ·refine .inl ⟨k,?_⟩;have:y≠x:=λ e=>hj (E_5 hN e1 (e▸hi));simp[this,e]
    ·exact .inr ⟨k,c,e,z.sameBut O (cne y c e)⟩
  ·obtain⟨w',z⟩:=I.cell y c e;exact⟨w',z.sameBut O (cne y c e)⟩
  ·obtain⟨e,n,ne,nf,d⟩:=I.pin p hp;exact⟨(O.2 p.1 ne).trans e,n,ne,nf,d⟩
 ·have ad:X.fn x=true:=by
   rcases hf with z | z
   ·exact z
   ·rw[z] at hk;cases hk
  obtain⟨c,Z⟩:=I.ok.has x (.inl hk);obtain⟨w',z⟩:=I.cell x c Z;refine wpAny_storeName_cell I.ok.kind hk Z z (λ h' ai O=>?_);obtain⟨oc,ag,ah⟩:=id z;refine h {s with heap:=h'} ⟨I.ok,I.os,I.bare,⟨λ b o e n hb hx=>?_,λ b o e n hb hx=>?_,I.base.free,λ b o e hx=>?_,I.base.tups,I.base.frzs,I.base.tbls⟩,⟨m,hn.sameBut O (yk (cne x c Z)),λ j y v' e1 e2 e3=>?_⟩,λ y c' e=>?_,I.free,I.freeC,λ p hp=>?_,Y ⟨oc,ag,I.freeC x c Z⟩ O,by simpa using I.len⟩ ⟨c,O,.inr Z⟩
  ·exact (O.2 b (qv (qt (qm e) (I.ok.cab x c ad Z)))).trans (I.base.keep b o e n hb hx)
  ·obtain⟨sl,e1⟩:=I.base.slot b o e n hb hx;exact⟨sl,(O.2 b (qv (qt (qm e) (I.ok.cab x c ad Z)))).trans e1⟩
  ·obtain⟨o',e1⟩:=I.base.there b o e hx;exact⟨o',(O.2 b (qv (qt (qm e) (I.ok.cab x c ad Z)))).trans e1⟩
  ·by_cases hj:j=i
   ·subst hj;rw[hi] at e1;cases e1;rw[zv ac] at e2;cases e2;exact⟨u,r,.inr ⟨.inl hk,c,Z,ai⟩⟩
   ·rw[zt (yk hj)] at e2;obtain⟨u',r',q⟩:=hl j y v' e1 e2 e3;refine⟨u',r',?_⟩;rcases q with q | ⟨k,c',e,z'⟩
    ·exact .inl q
    ·refine .inr ⟨k,c',e,z'.sameBut O ?_⟩;rintro rfl;exact hj (E_5 hN e1 (I.ok.inj _ _ _ e Z▸hi))
  ·by_cases ae:c'=c
   ·subst ae;exact⟨_,ai⟩
   ·obtain⟨w2,z2⟩:=I.cell y c' e;exact⟨w2,z2.sameBut O ae⟩
  ·obtain⟨e,n,ne,nf,d⟩:=I.pin p hp;refine⟨(O.2 p.1 ?_).trans e,n,ne,nf,d⟩;intro q;rw[q,ag] at e;have q':=qi e;exact d w' (by rw[<- q'];exact ah)
theorem C_6  (I:Inv X pins σ H s) (q:X.N.Nodup) (hi:X.N[i]?=some x) (O:Loc X.env.scope x) (r:RelV v u)
  (h:∀ s',Inv X pins (σ.set i (some v)) H s'->Q () s') (Y:X.fn x=true\/X.env.scope.names.lookup x=some .local:=by first | exact .inl rfl | exact .inr rfl | assumption):wpAny M A (storeName X.env x u) Q E s :=
 I_2 I q hi O r (λ s' Z _=>h s' Z) Y
theorem Inv.call'  (I:Inv X pins σ H s) (Y:s'.os=s.os) (u:Un (frs X.stack) ch H H' s.heap s'.heap) (O:HOk X.prog X.w H' s'.heap) (Z:AllBare s'.gens)
  (q:∀ b∈ch,(b∈X.ex\/X.s₀.heap.objs.size<=b)/\b≠X.env.locals/\(∀ x c,X.env.cells.lookup x=some c->c≠b)/\∀ p∈X.pn++pins,p.1≠b):Inv X pins σ H' s':=by
 obtain⟨h',g',d',t',o'⟩:=s';have e:=Y;subst e;exact I.call u O Z q
end
abbrev XK:=Value->Option Addr->Hp->Prop
abbrev St:=List (Option V)
abbrev VK:=V->Hp->Prop
abbrev TE:=St->Hp->VK->Prop
abbrev TT:=St->Hp->(Bool->Hp->Prop)->Prop
abbrev TA:=St->Hp->(List V->Hp->Prop)->Prop
structure Ends where
 nx:St->Hp->Prop
 rt:VK
 bk:St->Hp->Prop:=λ _ _=>False
 ct:St->Hp->Prop:=λ _ _=>False
abbrev TS:=Ends->St->Hp->Prop
def EP (X:Cx) (pins:List (Addr×Obj)) (σ:St) (Q:VK) (u:Value) (s':Shared):Prop:=∃ v H',Inv X pins σ H' s'/\RelV v u/\Q v H'
def TP (X:Cx) (pins:List (Addr×Obj)) (σ:St) (Q:Bool->Hp->Prop) (b:Bool) (s':Shared):Prop:=∃ H',Inv X pins σ H' s'/\Q b H'
def AP (X:Cx) (pins:List (Addr×Obj)) (σ:St) (Q:List V->Hp->Prop) (us:List Value) (s':Shared):Prop:=∃ vs H',Inv X pins σ H' s'/\Vals vs us/\Q vs H'
def SP (X:Cx) (pins:List (Addr×Obj)) (D:Ends) (f:Flow) (s':Shared):Prop :=
 match f with
 |.next=>∃ q H',Inv X pins q H' s'/\D.nx q H'
 |.brk=>∃ q H',Inv X pins q H' s'/\D.bk q H'
 |.cont=>∃ q H',Inv X pins q H' s'/\D.ct q H'
 |.ret u=>∃ v q H',Inv X pins q H' s'/\RelV v u/\D.rt v H'
def PE (X:Cx) (e:Expr) (t:TE):Prop :=
 ∀ (pins:List (Addr×Obj)) (s:Shared) (σ:St) (H:Hp) (Q:VK),Inv X pins σ H s->t σ H Q->wpAny (model X.prog X.w) X.A (eval e X.env) (EP X pins σ Q) X.xe s
def PT (X:Cx) (e:Expr) (t:TT):Prop :=
 ∀ (pins:List (Addr×Obj)) (s:Shared) (σ:St) (H:Hp) (Q:Bool->Hp->Prop),Inv X pins σ H s->t σ H Q->wpAny (model X.prog X.w) X.A (isTrue e X.env (eval e X.env)) (TP X pins σ Q) X.xe s
def PW (X:Cx) (e:Expr) (t:TT):Prop :=
 ∀ (q:Sem Value) (pins:List (Addr×Obj)) (s:Shared) (σ:St) (H:Hp) (Q:Bool->Hp->Prop),Inv X pins σ H s->t σ H Q->wpAny (model X.prog X.w) X.A (isTrue e X.env q) (TP X pins σ Q) X.xe s
theorem PW.pt  (h:PW X e t):PT X e t:=h _
def PA (X:Cx) (es:List Expr) (t:TA):Prop :=
 ∀ (pos:Pos) (pins:List (Addr×Obj)) (s:Shared) (σ:St) (H:Hp) (Q:List V->Hp->Prop),Inv X pins σ H s->t σ H Q->wpAny (model X.prog X.w) X.A (spliced (backTo pos (starEach es X.env))) (AP X pins σ Q) X.xe s
def PS (X:Cx) (st:Stmt) (t:TS):Prop :=
 ∀ (pins:List (Addr×Obj)) (s:Shared) (σ:St) (H:Hp) (D:Ends),Inv X pins σ H s->t D σ H->wpAny (model X.prog X.w) X.A (exec st X.env) (SP X pins D) X.xe s
def PSs (X:Cx) (st:List Stmt) (t:TS):Prop :=
 ∀ (pins:List (Addr×Obj)) (s:Shared) (σ:St) (H:Hp) (D:Ends),Inv X pins σ H s->t D σ H->wpAny (model X.prog X.w) X.A (execs st X.env) (SP X pins D) X.xe s
theorem ex5 {A B C:α->q->Prop}{P:Prop} (h:∀ x y,A x y->B x y->C x y->P) (e:∃ x y,A x y/\B x y/\C x y):P:=by obtain⟨x,y,a,b,c⟩:=e;exact h x y a b c
theorem thn  (h:wpAny M A t Q E s) (O:∀ a s,Q a s->q a s):wpAny M A t q E s:=z0 h O λ _ _ x=>x
section
variable {X:Cx}
def bT1 (i:Nat):TE:=λ σ H Q=>∃ v,σ[i]?=some (some v)/\Q v H
def tC (v:V):TE:=λ _ H Q=>Q v H
theorem n_4  (Z:X.N[i]?=some x) (hv:Vis X.env.scope x) (hd:(x==("__debug__":Str))=false:=by decide) (Y:(x==("__classdict__":Str))=false:=by decide):PE X (.Name x pos) (bT1 i):=by
 intro pins s σ H Q I h;obtain⟨v,e,h⟩:=h;obtain⟨m,hn,hl⟩:=I.loc;obtain⟨u,r,l⟩:=hl i x v Z e hv;have O:EP X pins σ Q u s:=⟨v,H,I,r,h⟩;rcases l with ⟨q,hm⟩ | ⟨q,c,hc,hcell⟩
 ·exact wpAny_Name (wpAny_loadName_local I.ok.kind q hn hm O) hd
 ·rcases q with q | q
  ·exact wpAny_Name (wpAny_loadName_cell I.ok.kind q hc hcell O) hd
  ·exact wpAny_Name (wpAny_loadName_free I.ok.kind q hc hcell O Y) hd
theorem V_0 :PE X (.Constant (.int i) j pos) (tC (.int i)):=λ _ _ _ H _ I h=>wpAny_Constant_int ⟨.int i,H,I.tok _,⟨_,rfl⟩,h⟩
theorem bn3 :PE X (.Constant (.bool b) j pos) (tC (.bl b)):=λ _ _ _ H _ I h=>Constant_bool ⟨.bl b,H,I,rfl,h⟩
theorem aJ5 :PE X (.Constant .none j pos) (tC .non):=λ _ _ _ H _ I h=>Constant_none ⟨.non,H,I,rfl,h⟩
theorem aJ3 :PE X (.Constant (.str x) j pos) (tC (.str x)):=λ _ _ _ H _ I h=>Calls.Constant_str ⟨.str x,H,I.tok _,⟨_,rfl⟩,h⟩
def Gl (X:Cx) (x:Str):Prop:=X.env.kindOf x=some .globalImplicit
theorem m_0  (I:Inv X pins σ H s) (q:Gl X x) (O:X.mg x=some u) (h:Q u s)
  (hd:(x==("__debug__":Str))=false:=by decide):wpAny (model X.prog X.w) X.A (eval (.Name x pos) X.env) Q E s :=
 Calls.Name_function_global I.ok.kind q (Calls.loadGlobal_global (by rw[I.ok.glob];exact I.mod.glob.keeps I.bk) O h) hd
theorem n_6  (I:Inv X pins σ H s) (q:Gl X x) (O:X.mg x=none) (Z:bootBuiltins x=some u) (h:Q u s)
  (Y:x≠"__name__":=by decide) (hd:(x==("__debug__":Str))=false:=by decide):wpAny (model X.prog X.w) X.A (eval (.Name x pos) X.env) Q E s:=by
 obtain⟨mb,h1,h2⟩:=I.mod.blt;exact Calls.Name_function_global I.ok.kind q (Calls.loadGlobal_builtin (by rw[I.ok.glob];exact I.mod.glob.keeps I.bk) O (by rw[I.ok.blt];exact h1.keeps I.bk) ((h2 x Y).trans Z) h) hd
theorem O_9  (q:Gl X x) (O:X.mg x=some u) (r:RelV v u) (hd:(x==("__debug__":Str))=false:=by decide):PE X (.Name x pos) (tC v) :=
 λ _ _ _ H _ I h=>m_0 I q O ⟨v,H,I,r,h⟩ hd
theorem ak3  (O:Gl X x) (Y:X.mg x=none) (q:bootBuiltins x=some u) (r:RelV v u) (Z:x≠"__name__":=by decide) (hd:(x==("__debug__":Str))=false:=by decide):PE X (.Name x pos) (tC v) :=
 λ _ _ _ H _ I h=>n_6 I O Y q ⟨v,H,I,r,h⟩ Z hd
variable {a b:Expr}{ta tb:TE}{pos:Pos}
def PC (X:Cx) (Y:CmpOp) (a b:Expr) (t:TE):Prop :=
 ∀ (pins:List (Addr×Obj)) (s:Shared) (σ:St) (H:Hp) (Q:VK),Inv X pins σ H s->t σ H Q ->
  wpAny (model X.prog X.w) X.A (eval a X.env) (λ v O=>wpAny (model X.prog X.w) X.A (eval b X.env) (λ u q=>wpAny (model X.prog X.w) X.A (compareOp Y v u) (EP X pins σ Q) X.xe q) X.xe O) X.xe s
def tB (t:TE):TT:=λ σ H Q=>t σ H λ x H1=>∃ c,x=.bl c/\Q c H1
theorem bm3  (h:PC X O a b t) (h1:behindInMarks O b=false:=by first | exact nobehind _ (by decide) (by decide) | rfl):PT X (.Compare a [O] [b] pos) (tB t):=by intro pins s σ H Q I hw;refine wpAny_isTrue_Compare1 (thn (h pins s σ H _ I hw) λ v s1 h1=>thn h1 λ u s2 h2=>thn h2 λ c s3=>ex5 λ x H1 Z Y q1=>?_) h1;obtain⟨d,rfl,q⟩:=q1;cases Y;exact yt ⟨H1,Z,q⟩
theorem bm1  (h:PE X e t) (Y:∀ O,isTrue e X.env O=(do let v <- O;standAt e.pos;holding [v] (truthy v)):=by intro _;rfl):PT X e (tB t):=by intro pins s σ H Q I hw;refine isTrue_plain (thn (h pins s σ H _ I hw) λ v s1=>ex5 λ x H1 I1 Z q1=>?_) (Y _);obtain⟨d,rfl,q⟩:=q1;cases Z;exact yt ⟨H1,I1,q⟩
variable {rest:List Expr}
def tAnd (t u:TT):TT:=λ σ H Q=>t σ H λ c H1=>if c=true then u σ H1 Q else Q false H1
def tOr (t u:TT):TT:=λ σ H Q=>t σ H λ c H1=>if c=true then Q true H1 else u σ H1 Q
def tNot (t:TT):TT:=λ σ H Q=>t σ H λ c H1=>Q (!c) H1
theorem aR7 (q:PT X a tA):PW X (.BoolOp .And [a] pos) tA:=by
 intro Y pins s σ H Q I h;refine isTrue_and (thn (q pins s σ H Q I h) λ c O e=>?_);cases c with
 |true=>exact isTrue_and_nil e
 |false=>exact e
theorem bl8 (q:PT X a tA):PW X (.BoolOp .Or [a] pos) tA:=by
 intro Y pins s σ H Q I h;refine isTrue_or (thn (q pins s σ H Q I h) λ c O e=>?_);cases c with
 |false=>exact isTrue_or_nil e
 |true=>exact e
theorem bl9 (ha:PT X a tA) (hb:PW X (.BoolOp .And (b::rest) pos) tB'):PW X (.BoolOp .And (a::b::rest) pos) (tAnd tA tB'):=by
 intro wh pins s σ H Q I h;refine isTrue_and (thn (ha pins s σ H _ I h) λ c Z q=>?_);obtain⟨H1,O,Y⟩:=q;cases c with
 |true=>exact hb wh pins Z σ H1 Q O Y
 |false=>exact⟨H1,O,Y⟩
theorem bI0 (ha:PT X a tA) (hb:PW X (.BoolOp .Or (b::rest) pos) tB'):PW X (.BoolOp .Or (a::b::rest) pos) (tOr tA tB'):=by
 intro wh pins s σ H Q I h;refine isTrue_or (thn (ha pins s σ H _ I h) λ c Z q=>?_);obtain⟨H1,O,Y⟩:=q;cases c with
 |true=>exact⟨H1,O,Y⟩
 |false=>exact hb wh pins Z σ H1 Q O Y
theorem bm2 (q:PT X a tA):PT X (.UnaryOp .Not a pos) (tNot tA):=by intro pins s σ H Q I h;exact isTrue_not (q pins s σ H (λ c H1=>Q (!c) H1) I h)
def bE5 (ta tb:TE):TE:=λ σ H Q=>ta σ H λ x H1=>∃ c,x=.bl c/\if c=true then tb σ H1 Q else Q (.bl false) H1
def ce3 (ta tb:TE):TE:=λ σ H Q=>ta σ H λ x H1=>∃ c,x=.bl c/\if c=true then Q (.bl true) H1 else tb σ H1 Q
theorem aJ4  (h:PE X a t):PE X (.BoolOp op [a] pos) t:=λ pins s σ H Q I q=>BoolOp_one (h pins s σ H Q I q)
theorem ak4 (ha:PE X a ta) (hb:PE X (.BoolOp .And (b::rest) pos) tb):PE X (.BoolOp .And (a::b::rest) pos) (bE5 ta tb):=by
 intro pins s σ H Q I h;refine BoolOp_and (thn (ha pins s σ H _ I h) λ v Z=>ex5 λ x H1 O Y q=>?_);obtain⟨c,rfl,q⟩:=q;cases Y;refine yt ?_;cases c with
 |true=>exact hb pins Z σ H1 Q O q
 |false=>exact⟨.bl false,H1,O,rfl,q⟩
theorem bI3 (ha:PE X a ta) (hb:PE X (.BoolOp .Or (b::rest) pos) tb):PE X (.BoolOp .Or (a::b::rest) pos) (ce3 ta tb):=by
 intro pins s σ H Q I h;refine BoolOp_or (thn (ha pins s σ H _ I h) λ v Z=>ex5 λ x H1 O Y q=>?_);obtain⟨c,rfl,q⟩:=q;cases Y;refine yt ?_;cases c with
 |false=>exact hb pins Z σ H1 Q O q
 |true=>exact⟨.bl true,H1,O,rfl,q⟩
def tIf (t:TT) (ta tb:TE):TE:=λ σ H Q=>t σ H λ c H1=>if c=true then ta σ H1 Q else tb σ H1 Q
theorem aA5  (hc:PT X c tA) (ha:PE X a ta) (hb:PE X b tb):PE X (.IfExp c a b pos) (tIf tA ta tb):=by
 intro pins s σ H Q I h;refine wpAny_IfExp (thn (hc pins s σ H _ I h) λ d O q=>?_);obtain⟨H1,Y,Z⟩:=q;cases d with
 |true=>exact ha pins O σ H1 Q Y Z
 |false=>exact hb pins O σ H1 Q Y Z
end
def SqL (K:Frag) (H:Hp) (a:Addr) (xs:List V):Prop :=
 Rd H a (.lst xs) \/
  ∃ (o:Obj) (q:Array Value) (n:Nat),K.lookup a=some o ∧ o.cls=.type "list" ∧ o.dict=none ∧ o.data=.seq q n ∧ q.size ≤ sizeLine ∧ Vals xs q.toList
def SqT (K:Frag) (H:Hp) (a:Addr) (xs:List V):Prop :=
 Rd H a (.tup xs) \/
  ∃ (o:Obj) (q:Array Value) (n:Nat),K.lookup a=some o ∧ o.cls=.type "tuple" ∧ o.dict=none ∧ o.data=.seq q n ∧ q.size ≤ sizeLine ∧ Vals xs q.toList
def co2:Value->Option V
 |.none=>some .non
 |.bool b=>some (.bl b)
 |.int i _=>some (.int i)
 |.str x _=>some (.str x)
 |.bytes b _=>some (.byt b)
 |.float b _=>some (.flt b)
 |.ref a=>some (.ref a)
 |.type n=>some (.ty n)
 |_=>none
theorem RelV.abs  (r:RelV x u):co2 u=some x:=by
 cases x with
 |non=>cases r;rfl
 |bl _=>cases r;rfl
 |int _=>obtain⟨t,rfl⟩:=r;rfl
 |str _=>obtain⟨t,rfl⟩:=r;rfl
 |byt _=>obtain⟨t,rfl⟩:=r;rfl
 |flt _=>obtain⟨t,rfl⟩:=r;rfl
 |ref _=>cases r;rfl
 |ty _=>cases r;rfl
theorem RelV.inj  (r:RelV x u) (q:RelV y u):x=y:=qi (r.abs.symm.trans q.abs)
theorem Vals.inj:∀ {xs ys:List V}{us:List Value},Vals xs us->Vals ys us->xs=ys
 |[],ys,us,h,k=>by cases h;cases k;rfl
 |x::xs,ys,us,h,k=>by
  cases h with
  |cons r t =>
   cases k with
   |cons q t'=>rw[r.inj q,Vals.inj t t']
section
variable {X:Cx}{pins:List (Addr×Obj)}{σ:St}{H:Hp}{s:Shared}{a:Addr}{xs ys:List V}
theorem SqL.of {K:Frag} (h:H a=some (.lst xs)):SqL K H a xs:=.inl (.inl h)
theorem SqT.of {K:Frag} (h:H a=some (.tup xs)):SqT K H a xs:=.inl (.inl h)
theorem Inv.list (I:Inv X pins σ H s) (h:SqL X.K H a xs):∃ q:List Value,Vals xs q/\PlainL s.heap a q.toArray/\xs.length<=sizeLine:=by
 rcases h with h | ⟨o,q,n,hk,hc,hd,hs,hz,r⟩
 ·obtain⟨z,q,n,r,e⟩:=h.ok I.hok;exact⟨q,r,⟨_,n,e,rfl,rfl,rfl⟩,z⟩
 ·refine⟨q.toList,r,⟨o,n,I.kIn a o hk,hc,hd,by simpa using hs⟩,?_⟩;have e:=r.length;simp only[yg] at e;omega
theorem Inv.tuple (I:Inv X pins σ H s) (h:SqT X.K H a xs):∃ q:List Value,Vals xs q/\IsTup s.heap a q.toArray/\xs.length<=sizeLine:=by
 rcases h with h | ⟨o,q,n,hk,hc,_,hs,hz,r⟩
 ·obtain⟨z,q,r,p⟩:=h.ok I.hok;exact⟨q,r,p.tup,z⟩
 ·refine⟨q.toList,r,⟨o,I.kIn a o hk,hc,n,by simpa using hs⟩,?_⟩;have e:=r.length;simp only[yg] at e;omega
theorem Inv.list_inj (I:Inv X pins σ H s) (h:SqL X.K H a xs) (h':SqL X.K H a ys):xs=ys:=by
 obtain⟨q,r,⟨o,n,e,_,_,d⟩,_⟩:=I.list h;obtain⟨its',Y,⟨o',Z,O,_,_,d'⟩,_⟩:=I.list h';rw[e] at O;cases O;rw[d] at d';injection d' with d1 _
 have:q=its':=by simpa using jm Array.toList d1
 subst this;exact r.inj Y
theorem Inv.tuple_inj (I:Inv X pins σ H s) (h:SqT X.K H a xs) (h':SqT X.K H a ys):xs=ys:=by
 obtain⟨q,r,⟨o,e,_,n,d⟩,_⟩:=I.tuple h;obtain⟨its',Y,⟨o',O,_,Z,d'⟩,_⟩:=I.tuple h';rw[e] at O;cases O;rw[d] at d';injection d' with d1 _
 have:q=its':=by simpa using jm Array.toList d1
 subst this;exact r.inj Y
end
abbrev Cx.wish (X:Cx) (E:Value->Shared->Prop):Cx:={X with xe:=E}
abbrev Cx.nox (X:Cx):Cx:=X.wish λ _ _=>False
theorem Cx.Ok.wish {X:Cx} (ok:X.Ok) (E:Value->Shared->Prop):(X.wish E).Ok :=
 ⟨ok.mod,ok.kind,ok.glob,ok.blt,ok.above,ok.inj,ok.has,ok.cab,ok.hd,ok.frames,ok.stk,ok.exf,ok.bs,ok.bsz,ok.noex,ok.exfs,ok.funs,ok.frf⟩
theorem Cx.Ok.unwish {X:Cx} (ok:(X.wish E).Ok):X.Ok :=
 ⟨ok.mod,ok.kind,ok.glob,ok.blt,ok.above,ok.inj,ok.has,ok.cab,ok.hd,ok.frames,ok.stk,ok.exf,ok.bs,ok.bsz,ok.noex,ok.exfs,ok.funs,ok.frf⟩
section
variable {X:Cx}{pins:List (Addr×Obj)}{σ:St}{H:Hp}{s:Shared}{E:Value->Shared->Prop}
theorem Inv.wish (I:Inv X pins σ H s) (E:Value->Shared->Prop):Inv (X.wish E) pins σ H s:=⟨I.ok.wish E,I.os,I.bare,I.base,I.loc,I.cell,I.free,I.freeC,I.pin,I.hok,I.len⟩
theorem Inv.unwish (I:Inv (X.wish E) pins σ H s):Inv X pins σ H s:=⟨I.ok.unwish,I.os,I.bare,I.base,I.loc,I.cell,I.free,I.freeC,I.pin,I.hok,I.len⟩
theorem SP.unwish  (h:SP (X.wish E) pins D f s'):SP X pins D f s':=by
 cases f with
 |next=>obtain⟨O,H',I,q⟩:=h;exact⟨O,H',I.unwish,q⟩
 |brk=>obtain⟨O,H',I,q⟩:=h;exact⟨O,H',I.unwish,q⟩
 |cont=>obtain⟨O,H',I,q⟩:=h;exact⟨O,H',I.unwish,q⟩
 |ret u=>obtain⟨v,O,H',I,r,q⟩:=h;exact⟨v,O,H',I.unwish,r,q⟩
theorem PE.nox  (h:PE X.nox e t):PE X e t:=λ pins s σ H Q I O =>
 z0 (h pins s σ H Q (I.wish _) O) (λ _ _ ⟨v,H',Y,r,q⟩=>⟨v,H',Y.unwish,r,q⟩) λ _ _ z=>False.elim z
theorem PT.nox  (h:PT X.nox e t):PT X e t:=λ pins s σ H Q I O =>
 z0 (h pins s σ H Q (I.wish _) O) (λ _ _ ⟨H',Y,q⟩=>⟨H',Y.unwish,q⟩) λ _ _ z=>False.elim z
theorem PSs.nox {st:List Stmt} (h:PSs X.nox st t):PSs X st t:=λ pins s σ H D I O =>
 z0 (h pins s σ H D (I.wish _) O) (λ _ _ q=>q.unwish) λ _ _ z=>False.elim z
end
section
variable {st:Stmt}{rest:List Stmt}
def bD7:TS:=λ D σ H=>D.nx σ H
def ce1 (t u:TS):TS:=λ D σ H=>t {D with nx:=u D} σ H
theorem aj0:PSs X [] bD7:=λ _ _ σ H _ I h=>Zy ⟨σ,H,I,h⟩
theorem p_9 (h1:PS X st t) (h2:PSs X rest u):PSs X (st::rest) (ce1 t u):=by
 intro pins s σ H D I h;refine Yg (thn (h1 pins s σ H {D with nx:=u D} I h) λ f Y q=>?_);cases f with
 |next =>
  obtain⟨O,H',Z,q⟩:=q;exact h2 pins Y O H' D Z q
 |ret v=>exact q
 |brk=>exact q
 |cont=>exact q
theorem o_3 (h1:PS X st t):PSs X [st] t:=by
 intro pins s σ H D I h;refine Yg (thn (h1 pins s σ H D I h) λ f O q=>?_);cases f with
 |next=>exact Zy q
 |ret v=>exact q
 |brk=>exact q
 |cont=>exact q
theorem Inv.quiet  (I:Inv X pins σ H s):interactive X.env=false:=by simp[interactive,I.ok.kind]
def bD9 (te:TE):TS:=λ D σ H=>te σ H λ _ H1=>D.nx σ H1
theorem O_8 (q:PE X e te) (Y:swapsWith e none pos.line X.env=pure false:=by rfl):PS X (.Expr e pos) (bD9 te):=by intro pins s σ H D I h;exact wpAny_Expr_any (thn (q pins s σ H _ I h) λ v s1=>ex5 λ x H1 O r1 Z=>⟨σ,H1,O,Z⟩) I.quiet Y
def ce2 (te:TE):TS:=λ D σ H=>te σ H D.rt
theorem U_9 (q:PE X e te):PS X (.Return (some e) pos) (ce2 te):=by intro pins s σ H D I h;exact wpAny_Return_some (thn (q pins s σ H _ I h) λ v s1=>ex5 λ x H1 Y O Z=>⟨x,σ,H1,Y,O,Z⟩)
def ce8 (c:TT) (t u:TS):TS:=λ D σ H=>c σ H λ b H1=>if b=true then t D σ H1 else u D σ H1
theorem aS4  (hc:PT X c tc) (ha:PSs X a t) (hb:PSs X b u):PS X (.If c a b pos) (ce8 tc t u):=by
 intro pins s σ H D I h;refine wpAny_If (thn (hc pins s σ H _ I h) λ d O q=>?_);obtain⟨H1,Y,Z⟩:=q;cases d with
 |true=>exact ha pins O σ H1 D Y Z
 |false=>exact hb pins O σ H1 D Y Z
def bi6:TS:=λ _ _ _=>False
theorem aj1 :PSs X sts bi6:=λ _ _ _ _ _ _ h=>h.elim
end
abbrev TG:=V->St->Hp->(St->Hp->Prop)->Prop
abbrev TGs:=List V->St->Hp->(St->Hp->Prop)->Prop
def PG (X:Cx) (q:Expr) (t:TG):Prop :=
 ∀ (pins:List (Addr×Obj)) (s:Shared) (σ:St) (H:Hp) (v:V) (u:Value) (Q:St->Hp->Prop),Inv X pins σ H s->RelV v u->t v σ H Q ->
  wpAny (model X.prog X.w) X.A (assign q X.env u) (λ _ s'=>∃ O H',Inv X pins O H' s'/\Q O H') X.xe s
def PGs (X:Cx) (ts:List Expr) (t:TGs):Prop :=
 ∀ (pins:List (Addr×Obj)) (s:Shared) (σ:St) (H:Hp) (vs:List V) (us:List Value) (Q:St->Hp->Prop),Inv X pins σ H s->Vals vs us->t vs σ H Q ->
  wpAny (model X.prog X.w) X.A (assignInOrder ((assignEach ts X.env).map (·.2)) us) (λ _ s'=>∃ q H',Inv X pins q H' s'/\Q q H') X.xe s
section
def ao5 (i:Nat):TG:=λ v σ H Q=>Q (σ.set i (some v)) H
theorem D_6  (q:X.N.Nodup) (hi:X.N[i]?=some x) (O:Loc X.env.scope x) (Y:X.fn x=true\/X.env.scope.names.lookup x=some .local:=by first | exact .inl rfl | exact .inr rfl | assumption):PG X (.Name x pos) (ao5 i):=by intro pins s σ H v u Q I r h;exact wpAny_assign_Name (C_6 I q hi O r (λ s' Z=>⟨_,H,Z,h⟩) Y)
def bX3:TGs:=λ vs σ H Q=>vs=[]/\Q σ H
def aY4 (t:TG) (u:TGs):TGs:=λ vs σ H Q=>∃ v r,vs=v::r/\t v σ H λ q H'=>u r q H' Q
theorem aj8:PGs X [] bX3:=by intro pins s σ H vs us Q I r h;obtain⟨e,h⟩:=h;subst e;cases r;exact assignInOrder_nil ⟨σ,H,I,h⟩
theorem D_5  (h1:PG X e t) (h2:PGs X es u)
  (hs:(assignEach (e::es) X.env).map (·.2)=assign e X.env::(assignEach es X.env).map (·.2):=by rfl):PGs X (e::es) (aY4 t u):=by
 intro pins s σ H vs us Q I r h;obtain⟨v,vr,e1,h⟩:=h;subst e1;cases r with
 |cons r rr =>
  rw[hs];refine assignInOrder_cons (thn (h1 pins s σ H _ _ _ I r h) λ _ Y q=>?_);obtain⟨O,H1,Z,q1⟩:=q;exact h2 pins Y O H1 _ _ Q Z rr q1
def bX2 (K:Frag) (n:Nat) (t:TGs):TG:=λ v σ H Q=>∃ a xs,v=.ref a/\SqT K H a xs/\xs.length=n/\t xs σ H Q
theorem aJ0  (hc:X.calm=true) (h:PGs X es t)
  (hn:(assignEach es X.env).length=n:=by rfl) (q:(assignEach es X.env).findIdx? (·.1)=none:=by rfl):PG X (.Tuple es k pos) (bX2 X.K n t):=by
 intro pins s σ H v u Q I r O;obtain⟨a,xs,e1,hq,hl,O⟩:=O;subst e1;cases r;obtain⟨Z,Y,ht,hz⟩:=I.tuple hq;refine assign_Tuple_tuple (I.ok.hd hc) ht (by simp[hn,<- hl,Y.length]) q λ h' hx=>?_;have I1:=I.kept (t':=s.toks) λ b o e=>hx b o (qv (qm e)) e;exact h pins _ σ H xs _ Q I1 (by simpa using Y) O
def bT4 (te:TE) (g:TG):TS:=λ D σ H=>te σ H λ x H1=>g x σ H1 D.nx
theorem bm4  (Z:PE X e te) (O:PG X tg g) (hs:swapsWithSole [tg] e pos.line X.env=pure false:=by rfl) (hw:swappedStores [tg] e X.env=pure none:=by rfl)
  (h1:(assignEach [tg] X.env).map (·.2)=[assign tg X.env]:=by rfl):PS X (.Assign [tg] e pos) (bT4 te g):=by
 intro pins s σ H D I h;refine wpAny_Assign_stores (thn (Z pins s σ H _ I h) λ v s1=>ex5 λ x H1 I1 Y q1=>?_) hs hw;rw[h1];exact thn (O pins s1 σ H1 x v _ I1 Y q1) λ _ s2 q=>q
theorem A_6  (Z:X.N.Nodup) (hi:X.N[i]?=some x) (hx:Loc X.env.scope x) (O:PE X e te) (hs:swapsWith e (some (.Name x pos')) pos.line X.env=pure false:=by rfl) (hf:X.fn x=true\/X.env.scope.names.lookup x=some .local:=by first | exact .inl rfl | exact .inr rfl | assumption) :
  PS X (.Assign [.Name x pos'] e pos) (bT4 te (ao5 i)):=by
 intro pins s σ H D I h;refine wpAny_Assign_Name (thn (O pins s σ H _ I h) λ v s1=>ex5 λ y H1 I1 q q1=>?_) hs;exact C_6 I1 Z hi hx q (λ s2 Y=>⟨_,H1,Y,q1⟩) hf
end
structure It where
 go:Nat->Hp->Prop
 yld:Nat->Hp->V->Hp->Prop
 stop:Nat->Hp->Prop
def FpOk (X:Cx) (pins:List (Addr×Obj)) (H:Hp) (b:Addr):Prop :=
 H b=none/\b≠X.env.locals/\b∉X.fs/\(b∈X.ex\/X.s₀.heap.objs.size<=b)/\(∀ x c,X.env.cells.lookup x=some c->c≠b)/\∀ p∈X.pn++pins,p.1≠b
theorem Inv.fpOk  (I:Inv X pins σ H s) (O:s.heap.objs.size<=b) (Z:H' b=none):FpOk X pins H' b:=by
 refine⟨Z,Zh (qt I.lt O),I.nofs O,.inr (zo I.sz O),λ x c e z=>?_,λ p Y z=>?_⟩
 ·obtain⟨v,q⟩:=I.cell x c e;exact absurd (qt q.lt (by rw[z];exact O)) (yp _)
 ·exact absurd (qt (qm (I.pin p Y).1) (by rw[z];exact O)) (yp _)
structure Turn (P:Program) (w:World) (K:Frag) (tg:Expr) (J:It) (fp:List Addr) (it:Addr) (tn:Nat->Heap->Prop):Prop where
 mem:it∈fp
 obj:∀ i h,tn i h->∀ b∈fp,∃ o,h.get? b=some o/\∀ v,o.data≠.cell v
 keep:∀ i h h',tn i h->(∀ b∈fp,∀ o,h.get? b=some o->h'.get? b=some o)->tn i h'
 item:∀ (X:Cx),X.prog=P->X.w=w->X.K=K->X.calm=true->∀ (i:Nat) (pins:List (Addr×Obj)) (s:Shared) (σ:St) (H:Hp) (E:Value->Shared->Prop),Inv X pins σ H s->(∀ b∈fp,FpOk X pins H b)->tn i s.heap->J.go i H ->
  wpAny (model P w) X.A (pyNext (.ref it)) (λ r s1=>∃ u,r=some u /\
   wpAny (model P w) X.A (letOwnedTupleGo tg (.ref it) u) (λ _ s2=>∃ x H',Inv X pins σ H' s2/\RelV x u/\J.yld i H x H'/\tn (i+1) s2.heap/\∀ b∈fp,H' b=none) E s1) E s
 done:∀ (X:Cx),X.prog=P->X.w=w->X.K=K->X.calm=true->∀ (i:Nat) (pins:List (Addr×Obj)) (s:Shared) (σ:St) (H:Hp) (E:Value->Shared->Prop),Inv X pins σ H s->(∀ b∈fp,FpOk X pins H b)->tn i s.heap->J.stop i H ->
  wpAny (model P w) X.A (pyNext (.ref it)) (λ r s1=>r=none/\Inv X pins σ H s1) E s
 self:∀ (A:Around) (i:Nat) (s:Shared) (Q:Value->Shared->Prop) (E:Value->Shared->Prop),tn i s.heap->Q (.ref it) s->wpAny (model P w) A (pyIter (.ref it)) Q E s
abbrev TI:=St->Hp->(It->Hp->Prop)->Prop
def PIE (X:Cx) (pins:List (Addr×Obj)) (σ:St) (tg:Expr) (R:It->Hp->Prop) (q:Value) (O:Shared):Prop :=
 ∃ (it:Addr) (fp:List Addr) (tn:Nat->Heap->Prop) (J:It) (H':Hp),q=.ref it/\Inv X pins σ H' O/\Turn X.prog X.w X.K tg J fp it tn/\tn 0 O.heap/\(∀ b∈fp,FpOk X pins H' b)/\R J H'
def PI (X:Cx) (tg iter:Expr) (q:TI):Prop :=
 ∀ (pins:List (Addr×Obj)) (s:Shared) (σ:St) (H:Hp) (R:It->Hp->Prop),Inv X pins σ H s->q σ H R ->
  wpAny (model X.prog X.w) X.A (eval iter X.env) (λ v O=>wpAny (model X.prog X.w) X.A (pyIter v) (PIE X pins σ tg R) X.xe O) X.xe s
theorem aD3  (O:s.heap.get? it=some o) (Z:o.cls=.type n) (hd:o.data=.fields vs)
  (Y:["enumerate","zip","dict_itemiterator","dict_reverseitemiterator","odict_iterator","itertools.zip_longest","itertools.pairwise"].contains n=false) (q:Q () s):wpAny M A (letOwnedTupleGo tg (.ref it) u) Q E s:=by
 cases tg <;> first
  |exact qc q
  |(cases u <;> first
    |exact qc q
    |(refine qb (wpAny_load O ?_);rw[Z,hd];show wpAny M A (if (["enumerate","zip","dict_itemiterator","dict_reverseitemiterator","odict_iterator","itertools.zip_longest","itertools.pairwise"].contains n&&vs[0]?==some (rawInt _))=true then _ else _) Q E s;rw[if_neg (by intro h;rw[Y,Bool.false_and] at h;cases h)];exact qc q))
def Itl (K:Frag) (a:Addr):It :=
 ⟨λ i H=>∃ xs x,SqL K H a xs/\xs[i]?=some x,λ i H x H'=>H'=H/\∀ xs,SqL K H a xs->xs[i]?=some x,λ i H=>∃ xs,SqL K H a xs/\xs.length<=i⟩
def Itt (K:Frag) (a:Addr):It :=
 ⟨λ i H=>∃ xs x,SqT K H a xs/\xs[i]?=some x,λ i H x H'=>H'=H/\∀ xs,SqT K H a xs->xs[i]?=some x,λ i H=>∃ xs,SqT K H a xs/\xs.length<=i⟩
def Itr (lo:Int) (n:Nat):It:=⟨λ i _=>i<n,λ i H x H'=>H'=H/\x=.int (lo+i),λ i _=>n<=i⟩
theorem ag8 {K:Frag} (a it:Addr):Turn P w K tg (Itl K a) [it] it (λ i h=>h.IsListIter it a i) where
 mem:=by simp
 obj:=λ i h st b q=>by
  have e:b=it:=by simpa using q
  subst e;obtain⟨o,e,c,d⟩:=st;exact⟨o,e,λ v z=>by rw[d] at z;cases z⟩
 keep:=λ i h h' st k=>st.at λ o e=>k it (by simp) o e
 item:=by
  intro X hP hw hK hc i pins s σ H E I Y st hg;subst hP hw hK;obtain⟨xs,x,Z,hx⟩:=hg;obtain⟨aa,rv,p,hz⟩:=I.list Z;obtain⟨u,hu,ru⟩:=rv.get hx;obtain⟨f0,f1,f2,f3,f4,f5⟩:=Y it (by simp);refine wpAny_pyNext_list_item st p.isList (by simpa using hu) λ h' O sb=>?_;have I1:=I.turned (t':=s.toks) (λ b o q e=>(sb.2 b q).trans e) f0 f1 f3 f4 f5;obtain⟨o,e,c,d⟩:=id O;exact⟨u,rfl,aD3 e c d (by decide) ⟨x,H,I1,ru,⟨rfl,λ ys hy=>by rw[I.list_inj hy Z];exact hx⟩,O,λ b q=>(Y b q).1⟩⟩
 done:=by
  intro X hP hw hK hc i pins s σ H E I Y st hg;subst hP hw hK;obtain⟨xs,Z,hx⟩:=hg;obtain⟨aa,rv,p,hz⟩:=I.list Z;obtain⟨f0,f1,f2,f3,f4,f5⟩:=Y it (by simp);have hl:=rv.length;exact wpAny_pyNext_list_end (I.ok.hd hc) st p.isList (by simp;omega) λ h' eb=>⟨rfl,I.turned (λ b o q e=>eb b o q e) f0 f1 f3 f4 f5⟩
 self:=λ _ _ _ _ _ st h=>wpAny_pyIter_listiter st h
theorem aa7 {K:Frag} (a it:Addr):Turn P w K tg (Itt K a) [it] it (λ i h=>h.IsTupleIter it a i) where
 mem:=by simp
 obj:=λ i h st b q=>by
  have e:b=it:=by simpa using q
  subst e;obtain⟨o,e,c,d⟩:=st;exact⟨o,e,λ v z=>by rw[d] at z;cases z⟩
 keep:=λ i h h' st k=>st.at λ o e=>k it (by simp) o e
 item:=by
  intro X hP hw hK hc i pins s σ H E I Z st hg;subst hP hw hK;obtain⟨xs,x,hq,hx⟩:=hg;obtain⟨O,rv,p,hz⟩:=I.tuple hq;obtain⟨u,hu,ru⟩:=rv.get hx;obtain⟨f0,f1,f2,f3,f4,f5⟩:=Z it (by simp);refine wpAny_pyNext_tuple_item st (show s.heap.IsTuple a O.toArray from p) (by simpa using hu) λ h' Y sb=>?_;have I1:=I.turned (t':=s.toks) (λ b o q e=>(sb.2 b q).trans e) f0 f1 f3 f4 f5;obtain⟨o,e,c,d⟩:=id Y;exact⟨u,rfl,aD3 e c d (by decide) ⟨x,H,I1,ru,⟨rfl,λ ys hy=>by rw[I.tuple_inj hy hq];exact hx⟩,Y,λ b q=>(Z b q).1⟩⟩
 done:=by
  intro X hP hw hK hc i pins s σ H E I Z st hg;subst hP hw hK;obtain⟨xs,hq,hx⟩:=hg;obtain⟨O,rv,p,hz⟩:=I.tuple hq;obtain⟨f0,f1,f2,f3,f4,f5⟩:=Z it (by simp);have hl:=rv.length;exact wpAny_pyNext_tuple_end (I.ok.hd hc) st (show s.heap.IsTuple a O.toArray from p) (by simp;omega) λ h' eb=>⟨rfl,I.turned (λ b o q e=>eb b o q e) f0 f1 f3 f4 f5⟩
 self:=λ _ _ _ _ _ st h=>wpAny_pyIter_tupleiter st h
theorem aa8 {K:Frag} (it:Addr) (lo:Int) (n:Nat):Turn P w K tg (Itr lo n) [it] it (λ i h=>IsRangeIter h it (lo+(i:Nat)*1) ((n:Int)-(i:Nat)) 1) where
 mem:=by simp
 obj:=λ i h st b q=>by
  have e:b=it:=by simpa using q
  subst e;exact⟨_,st,λ v z=>by
   have z':=z;cases z'⟩
 keep:=λ i h h' st k=>k it (by simp) _ st
 item:=by
  intro X hP hw hK hc i pins s σ H E I Y st hg;subst hP hw hK;obtain⟨f0,f1,f2,f3,f4,Z⟩:=Y it (by simp);have W:=Walks.range (prog:=X.prog) (w:=X.w) (I.ok.hd hc) it lo 1 n;refine W.item i s _ _ hg st λ v h' tk hv O kk=>?_;obtain⟨t,rfl⟩:=hv;have I1:Inv X pins σ H {s with heap:=h',toks:=tk}:=I.turned (λ b o q e=>kk b o (by simpa using q) e) f0 f1 f3 f4 Z;refine⟨_,rfl,aD3 O rfl rfl (by decide) ⟨.int (lo+i),H,I1,⟨t,?_⟩,⟨rfl,rfl⟩,O,λ b q=>(Y b q).1⟩⟩;rw[Int.mul_one]
 done:=by
  intro X hP hw hK hc i pins s σ H E I Y st hg;subst hP hw hK;obtain⟨f0,f1,f2,f3,f4,Z⟩:=Y it (by simp);exact wpAny_pyNext_range_end (I.ok.hd hc) st (by have:n<=i:=hg;omega) λ h' eb=>⟨rfl,I.turned (λ b o q e=>eb b o q e) f0 f1 f3 f4 Z⟩
 self:=λ _ _ _ _ _ st h=>wpAny_pyIter_rangeiter st h
section
def br9 (K:Frag) (tl:TE):TI:=λ σ H R=>tl σ H λ x H1=>∃ a,x=.ref a/\(∃ xs,SqL K H1 a xs)/\R (Itl K a) H1
def bX0 (K:Frag) (tl:TE):TI:=λ σ H R=>tl σ H λ x H1=>∃ a,x=.ref a/\(∃ xs,SqT K H1 a xs)/\R (Itt K a) H1
theorem aS8  (hl:PE X l tl):PI X tg l (br9 X.K tl):=by
 intro pins s σ H R I h;refine thn (hl pins s σ H _ I h) λ v O=>ex5 λ x H1 Y r1 q1=>?_;obtain⟨a,e,⟨xs,hq⟩,q⟩:=q1;subst e;cases r1;obtain⟨Z,rv,p,hz⟩:=Y.list hq;refine wpAny_pyIter_list p.isList ?_;refine⟨O.heap.objs.size,[O.heap.objs.size],_,_,H1,rfl,Y.kept λ b o e=>qf _ e,ag8 a _,⟨_,qk _ rfl,rfl,rfl⟩,λ b hb=>?_,q⟩;have e:b=O.heap.objs.size:=by simpa using hb
 subst e;exact Y.fpOk (qj _) (Y.hok.fresh (qj _))
theorem bm7  (hl:PE X l tl):PI X tg l (bX0 X.K tl):=by
 intro pins s σ H R I h;refine thn (hl pins s σ H _ I h) λ v O=>ex5 λ x H1 Y r1 q1=>?_;obtain⟨a,e,⟨xs,hq⟩,q⟩:=q1;subst e;cases r1;obtain⟨Z,rv,p,hz⟩:=Y.tuple hq;refine wpAny_pyIter_tuple (show O.heap.IsTuple a Z.toArray from p) ?_;refine⟨O.heap.objs.size,[O.heap.objs.size],_,_,H1,rfl,Y.kept λ b o e=>qf _ e,aa7 a _,⟨_,qk _ rfl,rfl,rfl⟩,λ b hb=>?_,q⟩;have e:b=O.heap.objs.size:=by simpa using hb
 subst e;exact Y.fpOk (qj _) (Y.hok.fresh (qj _))
theorem U_7 {lo hi:Int} (I:Inv X pins σ H s) (h1:-(2 ^ 62)<=lo) (h2:lo<2 ^ 62) (h3:-(2 ^ 62)<=hi) (Z:hi<2 ^ 62)
  (q:R (Itr lo (hi-lo).toNat) H):wpAny (model X.prog X.w) X.A (pyIter (.ref s.heap.objs.size)) (PIE X pins σ tg R) E {s with heap:=s.heap.push {cls:=.type "range",data:=.fields #[.int lo t,.int hi u,.int 1 v]},toks:=tk}:=by
 refine wpAny_pyIter_range (IsRange.new ..) (small_one h1 h2 h3 Z) ?_;have O:Inv X pins σ H {s with heap:=s.heap.push {cls:=.type "range",data:=.fields #[.int lo t,.int hi u,.int 1 v]},toks:=tk}:=I.kept λ b o e=>qf _ e;refine⟨(s.heap.push {cls:=.type "range",data:=.fields #[.int lo t,.int hi u,.int 1 v]}).objs.size,[(s.heap.push {cls:=.type "range",data:=.fields #[.int lo t,.int hi u,.int 1 v]}).objs.size],_,_,H,rfl,
  O.kept λ b o e=>qf _ e,aa8 _ lo (hi-lo).toNat,?_,λ b Y=>?_,q⟩
 ·have e1:lo+((0:Nat):Int)*1=lo:=by simp
  have e2:(((hi-lo).toNat:Nat):Int)-((0:Nat):Int)=Builtin.Range.rangeSize lo hi 1:=by rw[rangeSize_one];split <;> omega
  rw[e1,e2];exact qk _ rfl
 ·have e:b=(s.heap.push {cls:=.type "range",data:=.fields #[.int lo t,.int hi u,.int 1 v]}).objs.size:=by simpa using Y
  subst e;exact O.fpOk (qj _) (O.hok.fresh (qj _))
def bM8 (ta:TA):TI:=λ σ H R=>ta σ H λ vs H1=>∃ j:Int,vs=[.int j]/\-(2 ^ 62)<=j/\j<2 ^ 62/\R (Itr 0 j.toNat) H1
def bM7 (ta:TA):TI:=λ σ H R=>ta σ H λ vs H1=>∃ i j:Int,vs=[.int i,.int j]/\(-(2 ^ 62)<=i/\i<2 ^ 62/\-(2 ^ 62)<=j/\j<2 ^ 62)/\R (Itr i (j-i).toNat) H1
theorem J_2  (Y:Gl X "range") (hm:X.mg "range"=none) (ha:PA X [a] ta) (hs:starEach [a] X.env=[(false,eval a X.env)]:=by rfl):PI X tg (.Call (.Name "range" p) [a] [] pos) (bM8 ta):=by
 intro pins s σ H R I h;refine Call_ (n_6 I Y hm boot_range (yq (thn (ha pos pins s σ H _ I h) λ us s1=>ex5 λ vs H1 I1 Z O=>?_) hs rfl));obtain⟨j,e,O,q2,q⟩:=O;subst e;cases Z with
 |cons r rr =>
  cases rr;obtain⟨t,rfl⟩:=r;exact call_range_1 (U_7 I1 (by omega) (by omega) O q2 (by simpa using q))
theorem aj6  (hg:Gl X "range") (hm:X.mg "range"=none) (ha:PA X [a,b] ta) (hs:starEach [a,b] X.env=[(false,eval a X.env),(false,eval b X.env)]:=by rfl) (O:starEach [b] X.env=[(false,eval b X.env)]:=by rfl) :
  PI X tg (.Call (.Name "range" p) [a,b] [] pos) (bM7 ta):=by
 intro pins s σ H R I h;refine Call_ (n_6 I hg hm boot_range (yq (thn (ha pos pins s σ H _ I h) λ us s1=>ex5 λ vs H1 I1 r1 Y=>?_) (by rw[hs,O]) (by rw[O];rfl)));obtain⟨i,j,e,⟨Y,q2,q3,q4⟩,q⟩:=Y;subst e;cases r1 with
 |cons r Z =>
  cases Z with
  |cons r' Z =>
   cases Z;obtain⟨t,rfl⟩:=r;obtain⟨t',rfl⟩:=r';exact call_range_2 (U_7 I1 Y q2 q3 q4 q)
def ce9 (Z:TI) (g:TG) (tb:TS):TS:=λ D σ H=>Z σ H λ J H1=>∃ W:Nat->Nat->St->Hp->Prop,(∃ m,W 0 m σ H1)/\∀ i m σ H,W i m σ H ->
 (J.stop i H/\D.nx σ H)\/(J.go i H/\∃ N:St->Hp->Prop,(∀ q H',N q H'->∃ Y,Y<m/\W (i+1) Y q H')/\∀ x H',J.yld i H x H'->g x σ H' λ O H2=>tb {D with nx:=N,ct:=N,bk:=D.nx} O H2)
def J_1 (fp:List Addr) (h:Heap):List (Addr×Obj):=fp.filterMap λ b=>(h.get? b).map λ o=>(b,o)
theorem m_6  (q:b∈fp) (e:h.get? b=some o):(b,o)∈J_1 fp h:=List.mem_filterMap.mpr ⟨b,q,by rw[e];rfl⟩
theorem al0  (Y:p∈J_1 fp h):p.1∈fp/\h.get? p.1=some p.2:=by
 obtain⟨b,Z,e⟩:=List.mem_filterMap.mp Y;cases q:h.get? b with
 |none=>rw[q] at e;cases e
 |some o =>
  rw[q] at e;have O:=qi e;subst O;exact⟨Z,q⟩
theorem Inv.pinned  (I:Inv X pins σ H s) (hf:∀ b∈fp,FpOk X pins H b) (ho:∀ b∈fp,∃ o,s.heap.get? b=some o/\∀ v,o.data≠.cell v):Inv X (pins++J_1 fp s.heap) σ H s :=
 I.pins_of λ p Z=>(qx Z).elim (λ z=>I.pin p (qo _ z)) λ z=>by
  obtain⟨O,e⟩:=al0 z;obtain⟨f0,f1,Y,_⟩:=hf p.1 O;obtain⟨o,q,d⟩:=ho p.1 O;rw[e] at q;cases q;exact⟨e,f0,f1,Y,d⟩
theorem Inv.unpinned  (I:Inv X (pins++O) σ H s):Inv X pins σ H s:=I.pins_of λ p q=>I.pin p (qo _ (jf _ q))
theorem J_0  (hp:PassesOwn (model X.prog X.w) X.A X.env X.xe) (hc:X.calm=true) (hi:PI X tg iter wi) (hg:PG X tg g) (hb:PSs X body tb)
  (hs:∀ x,foldedSetIterable iter X.env x=pure x:=by intro _;rfl):PS X (.For tg iter body [] pos) (ce9 wi g tb):=by
 intro pins s σ H D I h;refine wpAny_For (thn (hi pins s σ H _ I h) λ v s1 h1=>thn h1 λ ak s2 h2=>?_) hs;obtain⟨it,fp,tn,J,H2,e,I2,T,aj,f2,W,⟨m0,w0⟩,ae⟩:=h2;subst e;have ac:∀ {H':Hp},(∀ b∈fp,H' b=none)->∀ b∈fp,FpOk X pins H' b:=λ hn b hb=>⟨hn b hb,(f2 b hb).2⟩
 refine codeAny_forLoop_any (λ n s'=>∃ i aa H',Inv X pins aa H' s'/\tn i s'.heap/\(∀ b∈fp,H' b=none)/\W i n aa H') ?_ m0 ⟨0,σ,H2,I2,aj,λ b hb=>(f2 b hb).1,w0⟩;rintro n s3 ⟨i,Z,H3,I3,af,ag,w3⟩;rcases ae i n Z H3 w3 with ⟨stop,qn⟩ | ⟨go,N,hN,step⟩
 ·refine Zx hp (thn (T.done X rfl rfl rfl hc i pins s3 Z H3 X.xe I3 (ac ag) af stop) λ r s4 O=>?_);obtain⟨hr,I4⟩:=O;subst hr;exact Zy ⟨Z,H3,I4,qn⟩
 ·refine Zx hp (thn (T.item X rfl rfl rfl hc i pins s3 Z H3 X.xe I3 (ac ag) af go) λ r s4 O=>?_);obtain⟨u,hr,h4⟩:=O;subst hr;refine Zx hp (thn h4 λ _ s5 O=>?_);obtain⟨x,H5,I5,r5,y5,ad,ah⟩:=O;have I5':=I5.pinned (ac ah) (T.obj _ _ ad);refine Zx hp (thn (hg _ s5 Z H5 x u _ I5' r5 (step x H5 y5)) λ _ s6 O=>?_);obtain⟨ai,H6,I6,q6⟩:=O;refine Zx hp (thn (hb _ s6 ai H6 _ I6 q6) λ f s7 q7=>?_);have Y:∀ {q:St}{H7:Hp},Inv X (pins++J_1 fp s5.heap) q H7 s7->N q H7->∃ m,m<n/\∃ i aa H',Inv X pins aa H' s7/\tn i s7.heap/\(∀ b∈fp,H' b=none)/\W i m aa H':=λ {q H7} I7 n7=>by
   obtain⟨m',hm,w7⟩:=hN q H7 n7;refine⟨m',hm,i+1,q,H7,I7.unpinned,T.keep _ _ _ ad λ b hb o e=>(I7.pin (b,o) (qo _ (qo _ (m_6 hb e)))).1,λ b hb=>?_,w7⟩;obtain⟨o,e,d⟩:=T.obj _ _ ad b hb;exact (I7.pin (b,o) (qo _ (qo _ (m_6 hb e)))).2.1
  cases f with
  |next=>obtain⟨q,H7,I7,n7⟩:=q7;exact Y I7 n7
  |cont=>obtain⟨q,H7,I7,n7⟩:=q7;exact Y I7 n7
  |brk=>obtain⟨q,H7,I7,q7⟩:=q7;exact⟨q,H7,I7.unpinned,q7⟩
  |ret v=>obtain⟨x7,q,H7,I7,r7,q7⟩:=q7;exact⟨x7,q,H7,I7.unpinned,r7,q7⟩
end
abbrev R2:=V->V->Hp->VK->Prop
def OpR (X:Cx) (f:Value->Value->Sem Value) (r:R2):Prop :=
 ∀ (pins:List (Addr×Obj)) (s:Shared) (σ:St) (H:Hp) (x y:V) (v u:Value) (Q:VK),Inv X pins σ H s->RelV x v->RelV y u->r x y H Q ->
  wpAny (model X.prog X.w) X.A (f v u) (EP X pins σ Q) X.xe s
def UnR (X:Cx) (f:Value->Sem Value) (r:V->Hp->VK->Prop):Prop :=
 ∀ (pins:List (Addr×Obj)) (s:Shared) (σ:St) (H:Hp) (x:V) (v:Value) (Q:VK),Inv X pins σ H s->RelV x v->r x H Q ->
  wpAny (model X.prog X.w) X.A (f v) (EP X pins σ Q) X.xe s
def CallR (X:Cx) (f:Value) (r:List V->Hp->VK->Prop):Prop :=
 ∀ (pins:List (Addr×Obj)) (s:Shared) (σ:St) (H:Hp) (xs:List V) (us:List Value) (Q:VK),Inv X pins σ H s->Vals xs us->r xs H Q ->
  wpAny (model X.prog X.w) X.A (call f us) (EP X pins σ Q) X.xe s
def co5 (X:Cx) (r:V->Hp->(Bool->Hp->Prop)->Prop):Prop :=
 ∀ (pins:List (Addr×Obj)) (s:Shared) (σ:St) (H:Hp) (x:V) (v:Value) (Q:Bool->Hp->Prop),Inv X pins σ H s->RelV x v->r x H Q ->
  wpAny (model X.prog X.w) X.A (truthy v) (TP X pins σ Q) X.xe s
def tOp (r:R2) (ta tb:TE):TE:=λ σ H Q=>ta σ H λ x H1=>tb σ H1 λ y H2=>r x y H2 Q
def tUn (r:V->Hp->VK->Prop) (ta:TE):TE:=λ σ H Q=>ta σ H λ x H1=>r x H1 Q
def rI (C:Int->Int->Prop) (g:Int->Int->V):R2:=λ x y H Q=>∃ i j,x=.int i/\y=.int j/\C i j/\Q (g i j) H
def rI0 (g:Int->Int->V):R2:=λ x y H Q=>∃ i j,x=.int i/\y=.int j/\Q (g i j) H
def rU (g:Int->V):V->Hp->VK->Prop:=λ x H Q=>∃ i,x=.int i/\Q (g i) H
section
theorem bQ9 (ha:PE X a ta) (hb:PE X b tb) {R:V->V->Hp->Prop} (I:Inv X pins σ H s)
  (h:ta σ H λ x H1=>tb σ H1 λ y H2=>R x y H2) {f:Value->Value->Sem Value}
  (hf:∀ v u Y x y H2,Inv X pins σ H2 Y->RelV x v->RelV y u->R x y H2->wpAny (model X.prog X.w) X.A (f v u) Q X.xe Y) :
  wpAny (model X.prog X.w) X.A (eval a X.env) (λ v O=>wpAny (model X.prog X.w) X.A (eval b X.env) (λ u q=>wpAny (model X.prog X.w) X.A (f v u) Q X.xe q) X.xe O) X.xe s:=by
 refine thn (ha pins s σ H _ I h) λ v s1=>ex5 λ x H1 I1 Z q1=>?_;refine thn (hb pins s1 σ H1 _ I1 q1) λ u Y=>ex5 λ y H2 I2 r2 q2=>?_;exact hf v u Y x y H2 I2 Z r2 q2
theorem aA4  (ho:OpR X (binaryOp O) r) (ha:PE X a ta) (Y:PE X b tb):PE X (.BinOp a O b pos) (tOp r ta tb):=by intro pins s σ H Q I h;exact wpAny_BinOp (bQ9 ha Y I h λ v u s2 x y H2 I2 Z ry q=>ho pins s2 σ H2 x y v u Q I2 Z ry q)
theorem bn0  (ho:UnR X (unaryOp q) r) (ha:PE X a ta):PE X (.UnaryOp q a pos) (tUn r ta):=by intro pins s σ H Q I h;exact UnaryOp_ (thn (ha pins s σ H _ I h) λ v Y=>ex5 λ x H1 Z O q1=>ho pins Y σ H1 x v Q Z O q1)
theorem opI {g:Int->Int->Int}
  (O:∀ (i j:Int) (t u:Tok) (s:Shared) (Q:Value->Shared->Prop) (E:Value->Shared->Prop),C i j->Q (.int (g i j) s.toks) {s with toks:=s.toks+1}->wpAny (model X.prog X.w) X.A (f (.int i t) (.int j u)) Q E s) :
  OpR X f (rI C λ i j=>.int (g i j)):=by
 intro pins s σ H x y v u Q I Y Z h;obtain⟨i,j,rfl,rfl,hc,q⟩:=h;obtain⟨t,rfl⟩:=Y;obtain⟨t',rfl⟩:=Z;exact O i j t t' s _ _ hc ⟨.int (g i j),H,I.tok _,⟨_,rfl⟩,q⟩
theorem bV3 {g:Int->Int->Int}
  (O:∀ (i j:Int) (t u:Tok) (s:Shared) (Q:Value->Shared->Prop) (E:Value->Shared->Prop),Q (.int (g i j) s.toks) {s with toks:=s.toks+1}->wpAny (model X.prog X.w) X.A (f (.int i t) (.int j u)) Q E s) :
  OpR X f (rI0 λ i j=>.int (g i j)):=by
 intro pins s σ H x y v u Q I Y Z h;obtain⟨i,j,rfl,rfl,q⟩:=h;obtain⟨t,rfl⟩:=Y;obtain⟨t',rfl⟩:=Z;exact O i j t t' s _ _ ⟨.int (g i j),H,I.tok _,⟨_,rfl⟩,q⟩
theorem bz3 {g:Int->Int->Bool}
  (O:∀ (i j:Int) (t u:Tok) (s:Shared) (Q:Value->Shared->Prop) (E:Value->Shared->Prop),Q (.bool (g i j)) s->wpAny (model X.prog X.w) X.A (f (.int i t) (.int j u)) Q E s) :
  OpR X f (rI0 λ i j=>.bl (g i j)):=by
 intro pins s σ H x y v u Q I Y Z h;obtain⟨i,j,rfl,rfl,q⟩:=h;obtain⟨t,rfl⟩:=Y;obtain⟨t',rfl⟩:=Z;exact O i j t t' s _ _ ⟨.bl (g i j),H,I,rfl,q⟩
def co8 (i j:Int):Prop:=0<=j/\j<=1000000/\i.natAbs<2 ^ 64
def CMul (i j:Int):Prop:=(-(2 ^ 64)<i/\i<2 ^ 64)\/(-(2 ^ 64)<j/\j<2 ^ 64)
theorem CMul.ok  (h:CMul i j):IntMulOk i j:=by
 rcases h with ⟨h1,h2⟩ | ⟨h1,h2⟩
 ·exact .of_left (Y6 h1 h2)
 ·exact .of_right (Y6 h1 h2)
theorem op_add:OpR X (binaryOp .Add) (rI0 λ i j=>.int (i+j)):=bV3 λ _ _ _ _ _ _ _ q=>add_int q
theorem bn6:OpR X (binaryOp .Sub) (rI0 λ i j=>.int (i-j)):=bV3 λ _ _ _ _ _ _ _ q=>sub_int q
theorem aT4:OpR X (binaryOp .Mod) (rI (λ _ j=>j≠0) λ i j=>.int (i.fmod j)):=opI λ _ _ _ _ _ _ _ O q=>mod_int' O q
theorem bn8:OpR X (binaryOp .Pow) (rI co8 λ i j=>.int (i ^ j.toNat)):=opI λ _ _ _ _ _ _ _ O q=>pow_int_small O.1 O.2.1 O.2.2 q
theorem unI {g:Int->Int}
  (O:∀ (i:Int) (t:Tok) (s:Shared) (Q:Value->Shared->Prop) (E:Value->Shared->Prop),Q (.int (g i) s.toks) {s with toks:=s.toks+1}->wpAny (model X.prog X.w) X.A (f (.int i t)) Q E s) :
  UnR X f (rU λ i=>.int (g i)):=by
 intro pins s σ H x v Q I Y h;obtain⟨i,rfl,q⟩:=h;obtain⟨t,rfl⟩:=Y;exact O i t s _ _ ⟨.int (g i),H,I.tok _,⟨_,rfl⟩,q⟩
theorem aH1:UnR X (unaryOp .USub) (rU λ i=>.int (-i)):=unI λ _ _ _ _ _ q=>neg_int q
end
def cf5:V->V->Bool
 |.non,.non=>true | .non,.int _=>true | .int _,.non=>true | .non,.bl _=>true | .bl _,.non=>true | .non,.str _=>true | .str _,.non=>true
 |.int _,.int _=>true | .bl _,.bl _=>true | .str _,.str _=>true | .byt _,.byt _=>true
 |.int _,.str _=>true | .str _,.int _=>true | .bl _,.str _=>true | .str _,.bl _=>true
 |_,_=>false
def rEq:R2:=λ x y H Q=>cf5 x y=true/\Q (.bl (decide (x=y))) H
theorem bc2 :decide (V.int i=V.int j)=(i==j):=by rw[j8];simp
theorem bu6 :decide (V.bl i=V.bl j)=(i==j):=by rw[j8];simp
theorem bc1 :decide (V.str i=V.str j)=(i==j):=by rw[j8];simp
theorem bc3 :decide (V.byt i=V.byt j)=(i.toList==j.toList):=by rw[j8];cases i;cases j;simp
section
variable {X:Cx}{a b c:Expr}{ta tb tc:TE}{pos:Pos}
theorem h_6  (I:Inv X pins σ H s) (q:Q (.bl k) H) (e:k=O):EP X pins σ Q (.bool O) s:=by subst e;exact⟨.bl k,H,I,rfl,q⟩
theorem bJ2:OpR X (compareOp .Eq) rEq:=by
 intro pins s σ H x y v u Q I Z O h;obtain⟨Y,q⟩:=h;cases x with
 |non =>
  cases Z;cases y with
  |non=>cases O;exact PySem.EqNone.eq_none_none (h_6 I q (by simp))
  |bl j=>cases O;exact PySem.EqNone.eq_none_bool (h_6 I q (by simp))
  |int j=>obtain⟨t',rfl⟩:=O;exact PySem.EqNone.eq_none_int (h_6 I q (by simp))
  |str j=>obtain⟨t',rfl⟩:=O;exact PySem.EqNone.eq_none_str (h_6 I q (by simp))
  |_=>exact absurd (show false=true from Y) qp
 |bl i =>
  cases Z;cases y with
  |non=>cases O;exact PySem.EqNone.eq_bool_none (h_6 I q (by simp))
  |bl j=>cases O;exact eq_bool (h_6 I q bu6)
  |str j=>obtain⟨t',rfl⟩:=O;exact PySem.EqMixed.eq_bool_str (h_6 I q (by simp))
  |_=>exact absurd (show false=true from Y) qp
 |int i =>
  obtain⟨t,rfl⟩:=Z;cases y with
  |non=>cases O;exact PySem.EqNone.eq_int_none (h_6 I q (by simp))
  |int j=>obtain⟨t',rfl⟩:=O;exact eq_int (h_6 I q bc2)
  |str j=>obtain⟨t',rfl⟩:=O;exact PySem.EqMixed.eq_int_str (h_6 I q (by simp))
  |_=>exact absurd (show false=true from Y) qp
 |str i =>
  obtain⟨t,rfl⟩:=Z;cases y with
  |non=>cases O;exact PySem.EqNone.eq_str_none (h_6 I q (by simp))
  |bl j=>cases O;exact PySem.EqMixed.eq_str_bool (h_6 I q (by simp))
  |int j=>obtain⟨t',rfl⟩:=O;exact PySem.EqMixed.eq_str_int (h_6 I q (by simp))
  |str j=>obtain⟨t',rfl⟩:=O;exact eq_str (h_6 I q bc1)
  |_=>exact absurd (show false=true from Y) qp
 |byt i =>
  obtain⟨t,rfl⟩:=Z;cases y with
  |byt j=>obtain⟨t',rfl⟩:=O;exact PySem.W.eq_bytes (h_6 I q bc3)
  |_=>exact absurd (show false=true from Y) qp
 |_=>cases y <;> exact absurd (show false=true from Y) qp
theorem bI8:OpR X (compareOp .Lt) (rI0 λ i j=>.bl (decide (i<j))):=bz3 λ _ _ _ _ _ _ _ q=>lt_int q
theorem bI9:OpR X (compareOp .LtE) (rI0 λ i j=>.bl (decide (i<=j))):=bz3 λ _ _ _ _ _ _ _ q=>le_int q
theorem bJ0:OpR X (compareOp .Gt) (rI0 λ i j=>.bl (decide (j<i))):=bz3 λ _ _ _ _ _ _ _ q=>gt_int q
theorem bJ1:OpR X (compareOp .GtE) (rI0 λ i j=>.bl (decide (j<=i))):=bz3 λ _ _ _ _ _ _ _ q=>ge_int q
theorem ak7:OpR X (compareOp .In) (λ x y H Q=>∃ i j,x=.str i/\y=.str j/\Q (.bl (!(Builtin.Str.occurrences j i 0 j.length 1).isEmpty)) H):=by intro pins s σ H x y v u Q I O Y h;obtain⟨i,j,rfl,rfl,q⟩:=h;obtain⟨t,rfl⟩:=O;obtain⟨t',rfl⟩:=Y;exact in_str (h_6 I q rfl)
theorem bo0:OpR X (compareOp .Is) (λ x y H Q=>y=.non/\Q (.bl (decide (x=.non))) H):=by
 intro pins s σ H x y v u Q I O Y h;obtain⟨rfl,q⟩:=h;cases Y;refine is_none_gen (h_6 I q ?_);cases x <;> first
  |(cases O;rfl)
  |(obtain⟨t,rfl⟩:=O;rfl)
theorem aT3:OpR X (compareOp .IsNot) (λ x y H Q=>y=.non/\Q (.bl (!decide (x=.non))) H):=by
 intro pins s σ H x y v u Q I O Y h;obtain⟨rfl,q⟩:=h;cases Y;refine isnot_none_gen (h_6 I q ?_);cases x <;> first
  |(cases O;rfl)
  |(obtain⟨t,rfl⟩:=O;rfl)
theorem OpR.or  (h:OpR X f r) (h':OpR X f O):OpR X f (λ x y H Q=>r x y H Q\/O x y H Q):=by
 intro pins s σ H x y v u Q I Y Z q;rcases q with q | q
 ·exact h pins s σ H x y v u Q I Y Z q
 ·exact h' pins s σ H x y v u Q I Y Z q
theorem al2 (b:Expr)  (h:q≠.In:=by decide) (h2:q≠.NotIn:=by decide):behindInMarks q b=false:=by
 have e1:(q==CmpOp.In)=false:=by cases q <;> first | rfl | exact absurd rfl h
 have e2:(q==CmpOp.NotIn)=false:=by cases q <;> first | rfl | exact absurd rfl h2
 cases b <;> simp[behindInMarks,e1,e2]
theorem ak0  (ho:OpR X (compareOp O) r) (ha:PE X a ta) (Y:PE X b tb) (hm:behindInMarks O b=false):PE X (.Compare a [O] [b] pos) (tOp r ta tb):=by intro pins s σ H Q I h;exact wpAny_Compare1 (bQ9 ha Y I h λ v u s2 x y H2 I2 Z ry q=>ho pins s2 σ H2 x y v u Q I2 Z ry q) hm
def aP0 (t:TE):TT:=λ σ H Q=>t σ H λ x H'=>∃ k,x=.bl k/\Q k H'
theorem aS2  (ho:OpR X (compareOp q) r) (ha:PE X a ta) (hb:PE X b tb) (hm:behindInMarks q b=false):PT X (.Compare a [q] [b] pos) (aP0 (tOp r ta tb)):=by
 intro pins s σ H Q I h;refine wpAny_isTrue_Compare1 (thn (ha pins s σ H _ I h) λ v s1=>ex5 λ x H1 I1 O q1=>thn (hb pins s1 σ H1 _ I1 q1) λ u s2=>ex5 λ y H2 Z r2 q2 =>
  thn (ho pins s2 σ H2 x y v u _ Z O r2 q2) λ c s3 ⟨z,H3,Y,r3,k,e,q3⟩=>?_) hm
 subst e;cases r3;exact yt ⟨H3,Y,q3⟩
def ah1 (r O:R2) (ta tb tc:TE):TE:=λ σ H Q=>ta σ H λ x H1=>tb σ H1 λ y H2=>r x y H2 λ z q=>∃ k,z=.bl k /\
 (if k=true then tc σ q λ Z Y=>O y Z Y Q else Q (.bl false) q)
theorem aA7  (ho:OpR X (compareOp O) r) (Y:OpR X (compareOp q) r') (ha:PE X a ta) (hb:PE X b tb) (hc:PE X c tc)
  (hm:lastMarks [O,q] [b,c]=false:=by with_unfolding_all rfl):PE X (.Compare a [O,q] [b,c] pos) (ah1 r r' ta tb tc):=by
 intro pins s σ H Q I h;refine Compare_chain (thn (ha pins s σ H _ I h) λ v s1=>ex5 λ x H1 I1 r1 q1=>chain_link (thn (hb pins s1 σ H1 _ I1 q1) λ u s2=>ex5 λ y H2 I2 r2 q2 =>
  thn (ho pins s2 σ H2 x y v u _ I2 r1 r2 q2) λ d s3 ⟨z,H3,I3,r3,k,e,Z⟩=>?_)) hm
 subst e;cases r3;refine yt ?_;cases k with
 |false=>exact ite_ff ⟨.bl false,H3,I3,rfl,Z⟩
 |true=>exact ite_tt (chain_last (thn (hc pins s3 σ H3 _ I3 Z) λ w' s4=>ex5 λ z' H4 I4 r4 q4=>Y pins s4 σ H4 y z' u w' Q I4 r2 r4 q4))
theorem az9  (ho:OpR X (compareOp Y) r) (Z:OpR X (compareOp q) r') (ha:PE X a ta) (hb:PE X b tb) (hc:PE X c tc)
  (hm:lastMarks [Y,q] [b,c]=false:=by with_unfolding_all rfl):PT X (.Compare a [Y,q] [b,c] pos) (aP0 (ah1 r r' ta tb tc)):=by
 intro pins s σ H Q I h;refine isTrue_chain (thn (ha pins s σ H _ I h) λ v s1=>ex5 λ x H1 I1 r1 q1=>test_link (thn (hb pins s1 σ H1 _ I1 q1) λ u s2=>ex5 λ y H2 I2 r2 q2 =>
  thn (ho pins s2 σ H2 x y v u _ I2 r1 r2 q2) λ d s3 ⟨z,H3,I3,r3,k,e,q3⟩=>?_)) hm
 subst e;cases r3;refine yt ?_;cases k with
 |false =>
  obtain⟨k',e',q'⟩:=q3;cases e';exact ite_ff ⟨H3,I3,q'⟩
 |true =>
  refine ite_tt (test_last (thn (hc pins s3 σ H3 _ I3 q3) λ w' s4=>ex5 λ z' H4 I4 r4 q4=>thn (Z pins s4 σ H4 y z' u w' _ I4 r2 r4 q4) λ d' s5 O=>?_));obtain⟨z2,H5,I5,r5,k2,e2,q5⟩:=O;subst e2;cases r5;exact yt ⟨H5,I5,q5⟩
def bR7 (K:Frag) (x:V) (H:Hp) (k:Bool):Prop :=
 match x with
 |.non=>k=false
 |.bl b=>k=b
 |.int i=>k=(i != 0)
 |.str y=>y.length<=sizeLine/\k=((y.length:Int) != 0)
 |.byt y=>y.size<=sizeLine/\k=((y.size:Int) != 0)
 |.ref p=>(∃ xs,SqL K H p xs/\k=!xs.isEmpty)\/(∃ xs,SqT K H p xs/\k=!xs.isEmpty)\/∃ kvs,H p=some (.dK kvs)/\k=!kvs.isEmpty
 |_=>False
theorem ad2  (r:KV kvs vs):(!vs.isEmpty)=!kvs.isEmpty:=by cases r <;> rfl
theorem B_2  (r:Vals xs q):(!q.toArray.isEmpty)=!xs.isEmpty:=by cases r <;> simp
theorem A_9:(sizeLine:Nat)<2 ^ 63:=by rw[sizeLine_eq];decide
theorem aH6:co5 X (λ x H Q=>∃ k,bR7 X.K x H k/\Q k H):=by
 intro pins s σ H x v Q I Z h;obtain⟨k,e,q⟩:=h;have hs:=sizeLine_eq;cases x with
 |non =>
  cases Z;have O:=e;subst O;exact truthy_none ⟨H,I,q⟩
 |bl b =>
  cases Z;have O:=e;subst O;exact yt ⟨H,I,q⟩
 |int i =>
  obtain⟨t,rfl⟩:=Z;have O:=e;subst O;exact PySem.P.truthy_int ⟨H,I,q⟩
 |str y =>
  obtain⟨t,rfl⟩:=Z;obtain⟨hy,O⟩:=e;subst O;exact PySem.P.truthy_str (by omega) ⟨H,I.tok _,q⟩
 |byt y =>
  obtain⟨t,rfl⟩:=Z;obtain⟨hy,O⟩:=e;subst O;exact PySem.W.truthy_bytes (by omega) ⟨H,I.tok _,q⟩
 |ref p =>
  cases Z;have O:=e;rcases O with ⟨xs,hx,O⟩ | ⟨xs,hx,O⟩ | ⟨kvs,hx,O⟩
  ·subst O;obtain⟨aa,r,pl,hz⟩:=I.list hx;have Y:=r.length;exact wpAny_truthy_list pl.isList (by simp only[zc];omega) ⟨H,I.tok _,by rw[B_2 r];exact q⟩
  ·subst O;obtain⟨aa,r,pl,hz⟩:=I.tuple hx;have Y:=r.length;exact truthy_tuple pl (by simp only[zc];omega) ⟨H,I.tok _,by rw[B_2 r];exact q⟩
  ·subst O;obtain⟨hz,hS,vs,r,m⟩:=I.hok p _ hx;have Y:=Y9 r;exact wpAny_truthy_dict hS m (by omega) ⟨H,I.tok _,by rw[ad2 r];exact q⟩
 |_=>exact (show False from e).elim
theorem az8 (ha:PE X a ta) (O:∀ q,isTrue a X.env q=(do let v <- q;standAt a.pos;holding [v] (truthy v))) :
  PT X a (λ σ H Q=>ta σ H λ x H'=>∃ k,bR7 X.K x H' k/\Q k H'):=by
 intro pins s σ H Q I h;exact isTrue_plain (thn (ha pins s σ H _ I h) λ v Z=>ex5 λ x H1 I1 Y q1=>aH6 pins Z σ H1 x v Q I1 Y q1) (O _)
theorem op_add_str:OpR X (binaryOp .Add) (λ x y H Q=>∃ i j,x=.str i/\y=.str j/\i.length+j.length<=sizeLine/\Q (.str (i++j)) H):=by intro pins s σ H x y v u Q I O Z h;obtain⟨i,j,rfl,rfl,Y,q⟩:=h;obtain⟨t,rfl⟩:=O;obtain⟨t',rfl⟩:=Z;exact add_str (λ t' tk=>⟨.str (i++j),H,I.tok _,⟨_,rfl⟩,q⟩) Y
theorem j_3  (r:Vals [x] us):∃ u,us=[u]/\RelV x u:=by
 cases r with
 |cons O q=>cases q;exact⟨_,rfl,O⟩
theorem ag5  (r:Vals [x,y] us):∃ u q,us=[u,q]/\RelV x u/\RelV y q:=by
 cases r with
 |cons Z Y =>
  cases Y with
  |cons r3 O=>cases O;exact⟨_,_,rfl,Z,r3⟩
theorem aF5:CallR X (.builtin "abs") (λ xs H Q=>∃ i,xs=[.int i] ∧ Q (.int (if i<0 then -i else i)) H):=by
 intro pins s σ H xs us Q I r h;obtain⟨i,rfl,q⟩:=h;obtain⟨u,rfl,t,rfl⟩:=j_3 r;exact call_abs_int λ u tk=>⟨.int (if i<0 then -i else i),H,I.tok _,⟨_,rfl⟩,q⟩
theorem ar9 (Y:X.calm=true):CallR X (.builtin "max") (λ xs H Q=>∃ i j,xs=[.int i,.int j] ∧ Q (.int (if j > i then j else i)) H):=by
 intro pins s σ H xs us Q I r h;obtain⟨i,j,rfl,q⟩:=h;obtain⟨u,Z,rfl,⟨t,rfl⟩,⟨t',rfl⟩⟩:=ag5 r;refine max_two_ints (I.ok.hd Y) λ h' tk k=>⟨_,H,I.kept k,?_,q⟩
 by_cases O:j > i
 ·rw[if_pos O,if_pos O];exact⟨_,rfl⟩
 ·rw[if_neg O,if_neg O];exact⟨_,rfl⟩
theorem ar7 (Y:X.calm=true):CallR X (.builtin "min") (λ xs H Q=>∃ i j,xs=[.int i,.int j] ∧ Q (.int (if j<i then j else i)) H):=by
 intro pins s σ H xs us Q I r h;obtain⟨i,j,rfl,q⟩:=h;obtain⟨u,Z,rfl,⟨t,rfl⟩,⟨t',rfl⟩⟩:=ag5 r;refine min_two_ints (I.ok.hd Y) λ h' tk k=>⟨_,H,I.kept k,?_,q⟩
 by_cases O:j<i
 ·rw[if_pos O,if_pos O];exact⟨_,rfl⟩
 ·rw[if_neg O,if_neg O];exact⟨_,rfl⟩
theorem as2:CallR X (.type "int") (λ xs H Q=>(∃ i,xs=[.int i] ∧ Q (.int i) H) ∨ ∃ k,xs=[.bl k] ∧ Q (.int (if k then 1 else 0)) H):=by
 intro pins s σ H xs us Q I r h;rcases h with ⟨i,rfl,q⟩ | ⟨k,rfl,q⟩
 ·obtain⟨u,rfl,t,rfl⟩:=j_3 r;exact call_int_int ⟨.int i,H,I,⟨_,rfl⟩,q⟩
 ·obtain⟨u,rfl,O⟩:=j_3 r;cases O;exact call_int_bool ⟨.int (if k then 1 else 0),H,I.tok _,⟨_,rfl⟩,q⟩
end
structure ObjM (h:Heap) (x dx C:Addr) (mA:Str->Option Value):Prop where
 obj:h.get? x=some (PySem.W.instObj C dx)
 ns:h.Ns1 dx mA
 ne:dx≠x
theorem RelO.some_of  (r:RelO (some v) o):∃ u,o=some u/\RelV v u:=by
 cases o with
 |none=>exact (show False from r).elim
 |some u=>exact⟨u,rfl,r⟩
theorem RelO.none_of  (r:RelO none o):o=none:=by
 cases o with
 |none=>rfl
 |some u=>exact (show False from r).elim
structure Cls (K:Frag) (C:Addr):Prop where
 pg:PySem.W.plainGet K C Str.empty=true
 hd:PySem.W.hasDictIn K C=true
 po:PySem.W.plainOver K C=true
 sa:PySem.W.findIn K (.ref C) "__setattr__"=some (some (.builtin "object.__setattr__"))
theorem Cls.get {K:Frag} (c:Cls K C) (f:Str):PySem.W.plainGet K C f=true:=c.pg
structure Con (K:Frag) (C:Addr) (f:Str) (v:V) (u:Value):Prop where
 at_:PySem.W.findIn K (.ref C) f=some (some u)
 rel:RelV v u
 get:PySem.W.specialIn K u "__get__"=some none
 cp:PySem.W.copiedNames.contains f=false
structure Meth (K:Frag) (C:Addr) (m:Str) (f:Addr):Prop where
 at_:PySem.W.findIn K (.ref C) m=some (some (.ref f))
 fn:PySem.W.isFn K (.ref f)=true
 kp:keepIn K (.ref f)=true
section
variable {X:Cx}{pins:List (Addr×Obj)}{σ:St}{H:Hp}{s:Shared}{a C dx:Addr}{fs:List (Str×V)}{f:Str}{v:V}{A:Around}{E:Value->Shared->Prop}
theorem be2  (O:attributeBase e f env (eval e env)=eval e env)
  (h:wpAny (model prog w) A (eval e env) (λ o q=>wpAny (model prog w) A (getAttr o f true) Q E q) E s):wpAny (model prog w) A (eval (.Attribute e f pos) env) Q E s :=
 Attribute_any_ h (by rw[arm_eval_Attribute,O])
end
section
variable {X:Cx}{pins:List (Addr×Obj)}{σ:St}{H:Hp}{s:Shared}{A:Around}{E:Value->Shared->Prop}{Q:Value->Shared->Prop}{c:Value}{b:Bool}
inductive TyOf (K:Frag) (H:Hp):V->Value->Prop where
 |non:TyOf K H .non (.type "NoneType")
 |bl (x:Bool):TyOf K H (.bl x) (.type "bool")
 |int (i:Int):TyOf K H (.int i) (.type "int")
 |str (x:Str):TyOf K H (.str x) (.type "str")
 |flt (x:UInt64):TyOf K H (.flt x) (.type "float")
 |lst {a:Addr}{xs:List V} (e:H a=some (.lst xs)):TyOf K H (.ref a) (.type "list")
 |frz {a:Addr}{o:Obj}{xs:List V} (e:H a=some (.frz o (.lst xs))):TyOf K H (.ref a) (.type "list")
 |tup {a:Addr}{xs:List V} (e:H a=some (.tup xs)):TyOf K H (.ref a) (.type "tuple")
 |dK {a:Addr}{kvs:List (Key×V)} (e:H a=some (.dK kvs)):TyOf K H (.ref a) (.type "dict")
 |dT {a:Addr}{kvs:List (List Key×V)} (e:H a=some (.dT kvs)):TyOf K H (.ref a) (.type "dict")
 |ins {a C dx:Addr}{fs:List (Str×V)} (e:H a=some (.ins C dx fs)) (cl:Cls K C) (ha:PySem.W.findIn K (.ref C) "__class__"=some (some (.builtin "object.__class__")))
   (hn:PySem.W.specialIn K (.builtin "object.__class__") "__get__"=some (some (.builtin "getset_descriptor.__get__"))) (htk:PySem.W.takesIn K (.builtin "object.__class__")=some true)
   (hm:PySem.W.mroIn K C (.type "object")=some true):TyOf K H (.ref a) (.ref C)
end
structure Room (k:Nat) (A:Around):Prop where
 hd:A.handled=none
 dp:A.depth+3*k+5<recursionLimit
 un:A.units+16*k+200<cLine
theorem Room.mono  (r:Room k A) (h:j<=k):Room j A:=⟨r.hd,by have:=r.dp;omega,by have:=r.un;omega⟩
theorem Room.deeper  (r:Room (k+1) A) (env:Env):Room k (A.deeper env) :=
 ⟨r.hd,by have:=r.dp;show A.depth+1+3*k+5<_;omega,by have:=r.un;show A.units+3+16*k+200<_;omega⟩
theorem Room.in1  (r:Room (k+1) A):Room k A.in1 :=
 ⟨r.hd,by have:=r.dp;show A.depth+3*k+5<_;omega,by have:=r.un;show A.units+1+16*k+200<_;omega⟩
theorem ac5 {A:Around}:(A.under (.builtin "type.__call__" ⟨.ref C::us,kw⟩)).depth=A.depth+1:=by
 first | rfl | simp[Around.under,Code.weight,Code.isCreation,Code.isGuard,Code.isCaller,Code.frames,Code.isFrame,guardIds]
theorem ac4 {A:Around}:(A.under (.builtin "type.__call__" ⟨.ref C::us,kw⟩)).units=A.units+1:=by
 first | rfl | simp[Around.under,Code.cUnits,Code.frames,Code.isFrame]
theorem Room.make  (r:Room (k+1) A) (C:Addr) (us:List Value) (kw:List (Str×Value)):Room k (A.under (.builtin "type.__call__" ⟨.ref C::us,kw⟩)) :=
 ⟨r.hd,by have:=r.dp;rw[ac5];omega,by have:=r.un;rw[ac4];omega⟩
theorem Room.depth  (r:Room k A):A.depth<recursionLimit:=by have:=r.dp;omega
theorem Room.units  (r:Room k A):A.units+64<cLine:=by have:=r.un;omega
def ce5:TA:=λ _ H Q=>Q [] H
def bE1 (ta:TE) (q:TA):TA:=λ σ H Q=>ta σ H λ x H1=>q σ H1 λ xs H2=>Q (x::xs) H2
section
theorem k_4:PA X [] ce5:=λ _ _ _ _ H Q I h=>Yb ⟨[],H,I,.nil,h⟩
theorem e_2 (ha:PE X e te) (hr:PA X es t) (hs:starEach (e::es) X.env=(false,eval e X.env)::starEach es X.env:=by rfl):PA X (e::es) (bE1 te t):=by
 intro pos pins s σ H Q I h;rw[hs];refine Z5 (thn (ha pins s σ H _ I h) λ u Y=>ex5 λ x H1 Z q q1=>?_);exact thn (hr pos pins Y σ H1 _ Z q1) λ us s2=>ex5 λ xs H2 O r2 q2=>⟨x::xs,H2,O,.cons q r2,q2⟩
def ce0 (t:TA):TE:=λ σ H Q=>t σ H λ xs H1=>xs.length<=sizeLine/\∀ p,H1 p=none->Q (.ref p) (upd H1 p (.tup xs))
def ce6 (t:TA):TE:=λ σ H Q=>t σ H λ xs H1=>xs.length<=sizeLine/\∀ p,H1 p=none->Q (.ref p) (upd H1 p (.lst xs))
theorem aJ2  (h:PA X es t):PE X (.Tuple es x1 pos) (ce0 t):=by intro pins s σ H Q I Z;refine wpAny_Tuple_spliced (thn (h pos pins s σ H _ I Z) λ us O ⟨xs,H1,Y,r,z,q⟩=>⟨by rw[<- r.length];exact z,?_⟩);have hf:=Y.hok.fresh (qj _);refine⟨.ref O.heap.objs.size,upd H1 O.heap.objs.size (.tup xs),Y.laid (λ b u e=>qf _ e) (qj _) ?_,rfl,q _ hf⟩;exact⟨z,us,r,⟨_,qk _ rfl,rfl,⟨_,rfl⟩,rfl⟩⟩
theorem aj9 (h:PA X es t):PE X (.List es pos) (ce6 t):=by intro pins s σ H Q I Z;refine wpAny_List_spliced (thn (h pos pins s σ H _ I Z) λ us O ⟨xs,H1,Y,r,z,q⟩=>⟨by rw[<- r.length];exact z,?_⟩);have hf:=Y.hok.fresh (qj _);refine⟨.ref O.heap.objs.size,upd H1 O.heap.objs.size (.lst xs),Y.laid (λ b u e=>qf _ e) (qj _) ?_,rfl,q _ hf⟩;exact⟨z,us,0,r,qk _ rfl⟩
end
abbrev Sp:=List V->Hp->VK->XK->Prop
abbrev CXT:=List Env->Hp->Shared->XK->Value->Shared->Prop
structure Env0 (P:Program) (w:World) (K:Frag) (mg:Str->Option Value) (base:Heap) (A:Around) (outer:List Env) (s:Shared) (H:Hp):Prop where
 frames:A.frames=some outer
 mod:Mod K mg base
 bs:∀ b o,base.get? b=some o->s.heap.get? b=some o/\H b=none
 bsz:base.objs.size<=s.heap.objs.size
 funs:s.heap.FunFrames base outer
 frf:∀ b∈frs outer,H b=none
 hok:HOk P w H s.heap
 bare:AllBare s.gens
def CE (outer:List Env) (P:Program) (w:World) (H:Hp) (s:Shared) (Q:VK) (u:Value) (s':Shared):Prop :=
 ∃ v H',s'.os=s.os/\AllBare s'.gens/\Un (frs outer) [] H H' s.heap s'.heap/\HOk P w H' s'.heap/\RelV v u/\Q v H'
def CR (CX:CXT) (outer:List Env) (P:Program) (w:World) (H:Hp) (s:Shared) (Q:VK) (E:XK) (r:Result) (s':Shared):Prop :=
 match r with
 |.ok (.ret u)=>CE outer P w H s Q u s'
 |.ok _=>False
 |.error e=>CX outer H s E e s'
structure FnOk (P:Program) (w:World) (K:Frag) (mg:Str->Option Value) (base:Heap) (CX:CXT) (k:Nat) (f:Addr) (fd:FuncData) (ps:List Str) (sp:Sp):Prop where
 len:∀ vs H Q E,sp vs H Q E->vs.length=ps.length
 run:∀ (A:Around) (outer:List Env) (s:Shared) (H:Hp) (args:Args) (us:List Value) (vs:List V) (Q:VK) (E:XK),Room k A->Env0 P w K mg base A outer s H->BindsTo s fd args (ps.zip us)->Vals vs us->sp vs H Q E ->
  codeAny (model P w) A (.call (.ref f) args) (CR CX outer P w H s Q E) s
theorem FnOk.mono {K:Frag} (F:FnOk P w K mg base CX j f fd ps sp) (h:j<=k) :
  FnOk P w K mg base CX k f fd ps sp:=⟨F.len,λ A outer s H args us vs Q E q=>F.run A outer s H args us vs Q E (q.mono h)⟩
theorem FnOk.imp {K:Frag} (F:FnOk P w K mg base CX k f fd ps sp)
  (h:∀ vs H Q E,O vs H Q E->sp vs H Q E):FnOk P w K mg base CX k f fd ps O :=
 ⟨λ vs H Q E q=>F.len vs H Q E (h _ _ _ _ q),λ A outer s H args us vs Q E hr Z Y hv hs=>F.run A outer s H args us vs Q E hr Z Y hv (h _ _ _ _ hs)⟩
theorem Env0.make {K:Frag} (e:Env0 P w K mg base A outer s H) (C:Addr) (us:List Value) (kw:List (Str×Value)) :
  Env0 P w K mg base (A.under (.builtin "type.__call__" ⟨.ref C::us,kw⟩)) outer s H:=⟨by first | exact e.frames | (simpa [Around.under,Code.envs,Code.isFrame,pushEnvs] using e.frames),e.mod,e.bs,e.bsz,e.funs,e.frf,e.hok,e.bare⟩
theorem Env0.in1 {K:Frag} (e:Env0 P w K mg base A outer s H) :
  Env0 P w K mg base A.in1 outer s H:=⟨e.frames,e.mod,e.bs,e.bsz,e.funs,e.frf,e.hok,e.bare⟩
section
variable {X:Cx}{pins:List (Addr×Obj)}{σ:St}{H:Hp}{s s':Shared}
theorem Inv.env0 (I:Inv X pins σ H s):Env0 X.prog X.w X.K X.mg X.base X.A X.stack s H :=
 ⟨I.ok.frames,I.ok.mod,I.bs,zo I.ok.bsz I.sz,I.stack,I.stkFree,I.hok,I.bare⟩
theorem Inv.after  (I:Inv X pins σ H s) (h:CE X.stack X.prog X.w H s Q u s'):EP X pins σ Q u s':=by obtain⟨v,H',os,O,un,Y,r,q⟩:=h;obtain⟨hh,g,d,t,Z⟩:=s';obtain rfl:Z=s.os:=os;exact⟨v,H',I.call un Y O (λ b z=>absurd z (by simp)),r,q⟩
end
def bE2 (sp:Sp) (dvs:List V) (E:XK) (t:TA):TE:=λ σ H Q=>t σ H λ vs H1=>sp (vs++dvs) H1 Q E
def Binds (K:Frag) (fd:FuncData) (ps:List Str) (ds:List Value):Prop :=
 ∀ (s:Shared) (us:List Value),K.In s.heap->(us++ds).length=ps.length->BindsTo s fd ⟨us,[]⟩ (ps.zip (us++ds))
theorem Binds.all {K:Frag} (h:∀ us:List Value,us.length=ps.length->bindArgs fd ⟨us,[]⟩=pure (ps.zip us)):Binds K fd ps []:=λ s us _ hl=>by
 rw[yn] at hl ⊢;exact .of_eq (h us hl)
def Z_6 (CX:CXT) (X:Cx) (E:XK):Prop:=∀ (pins:List (Addr×Obj)) (σ:St) (H:Hp) (s:Shared) (e:Value) (s':Shared),Inv X pins σ H s->CX X.stack H s E e s'->X.xe e s'
section
theorem bk6  (F:FnOk X.prog X.w X.K X.mg X.base CX k f fd ps sp) (Z:Room k X.A) (hb:Binds X.K fd ps ds) (hd:Vals dvs ds) (hx:Z_6 CX X E)
  (I:Inv X pins σ H s) (r:Vals vs us) (h:sp (vs++dvs) H Q E):wpAny (model X.prog X.w) X.A (call (.ref f) us) (EP X pins σ Q) X.xe s:=by
 have O:=r.append hd;have hl:(us++ds).length=ps.length:=by rw[<- O.length];exact F.len _ _ _ _ h
 refine Zn (Qx (F.run X.A X.stack s H ⟨us,[]⟩ (us++ds) (vs++dvs) Q E Z I.env0 (hb s us I.kIn hl) O h) λ r s' q=>?_);cases r with
 |error e=>exact hx pins σ H s e s' I q
 |ok Y =>
  cases Y with
  |ret u=>exact I.after q
  |next=>exact False.elim q
  |brk=>exact False.elim q
  |cont=>exact False.elim q
theorem ak2 (F:FnOk X.prog X.w X.K X.mg X.base CX k f fd ps sp) (hr:Room k X.A) (hg:Gl X x) (hm:X.mg x=some (.ref f)) (hk:keepIn X.K (.ref f)=true) (hb:Binds X.K fd ps ds) (hd:Vals dvs ds) (hx:Z_6 CX X E)
  (ha:PA X (e::es) t) (Y:(x==("__debug__":Str))=false:=by decide) (he:starEach (e::es) X.env=(false,eval e X.env)::starEach es X.env:=by rfl) (O:(backTo pos (starEach es X.env)).any (·.1)=false:=by rfl) :
  PE X (.Call (.Name x p) (e::es) [] pos) (bE2 sp dvs E t):=by
 intro pins s σ H Q I h;refine jv (m_0 I hg hm ?_ Y);refine PySem.W.callWith_K I.ok.mod.kin hk (thn (ha pos pins s σ H _ I h) λ us s1=>ex5 λ vs H1 Z r q=>⟨Z.kIn,?_⟩) he O;exact bk6 F hr hb hd hx Z r q
structure Mk (K:Frag) (C f:Addr):Prop where
 makes:PySem.W.makesIn K C=true
 init:PySem.W.findIn K (.ref C) "__init__"=some (some (.ref f))
 fn:PySem.W.isFn K (.ref f)=true
 kp:keepIn K (.ref C)=true
end
def PK (X:Cx) (kws:List Keyword) (t:TA):Prop :=
 ∀ (pos:Pos) (pins:List (Addr×Obj)) (s:Shared) (σ:St) (H:Hp) (Q:List V->Hp->Prop),Inv X pins σ H s->t σ H Q->wpAny (model X.prog X.w) X.A (evalAll ((backToKw pos (keywordEach kws X.env)).map (·.2))) (AP X pins σ Q) X.xe s
section
structure KBinds (K:Frag) (fd:FuncData) (ps ks:List Str) (g:List Value->List Value->List Value) (gV:List V->List V->List V):Prop where
 to:∀ (s:Shared) (us ws:List Value),K.In s.heap->(g us ws).length=ps.length->BindsTo s fd ⟨us,ks.zip ws⟩ (ps.zip (g us ws))
 rel:∀ {vs:List V}{us:List Value}{zs:List V}{ws:List Value},Vals vs us->Vals zs ws->Vals (gV vs zs) (g us ws)
end
structure FnScope (N P:List Str) (sc:Scope):Prop where
 kind:sc.kind=.function
 co:sc.isCoroutine=false
 gen:sc.isGenerator=false
 nd:N.Nodup
 pre:N.take P.length=P
 par:∀ x∈P,sc.names.lookup x=some .local\/sc.names.lookup x=some .cell
 nofree:∀ y∈sc.names,y.2≠.free
theorem M_6 :∀ {binds:List (Str×Value)}{m:Str->Option Value},(∀ v,(x,v)∉binds)->bindL q binds m x=m x
 |[],_,_=>rfl
 |(n,v)::r,m,h=>by
  unfold bindL;rw[M_6 λ w O=>h w (je _ O)];split
  ·have:x≠n:=by rintro rfl;exact h v qg
   simp[this]
  ·rfl
theorem M_8 :∀ {binds:List (Str×Value)}{m:Str->Option Value},(∀ v,(x,v)∉binds)->bindC q binds m x=m x
 |[],_,_=>rfl
 |(n,v)::r,m,h=>by
  unfold bindC;rw[M_8 λ w O=>h w (je _ O)];split
  ·rfl
  ·have:x≠n:=by rintro rfl;exact h v qg
   simp[this]
theorem M_7 :∀ {P:List Str}{vs:List Value}{i:Nat}{m:Str->Option Value},P.Nodup->P[i]?=some x->vs[i]?=some v->q x=some .local ->
  bindL q (P.zip vs) m x=some v
 |[],_,_,_,_,h,_,_=>by simp at h
 |_::_,[],_,_,_,_,h,_=>by simp at h
 |p::P,w::vs,0,m,nd,h1,h2,hk=>by
  simp at h1 h2;subst h1;subst h2;show bindL q ((p,w)::P.zip vs) m p=_;unfold bindL;rw[M_6 λ v O=>(List.nodup_cons.mp nd).1 (Q6 O).1,if_pos hk];simp
 |p::P,w::vs,i+1,m,nd,h1,h2,hk=>by
  show bindL q ((p,w)::P.zip vs) m x=_;exact M_7 (List.nodup_cons.mp nd).2 (by simpa using h1) (by simpa using h2) hk
theorem M_9 :∀ {P:List Str}{vs:List Value}{i:Nat}{m:Str->Option Value},P.Nodup->P[i]?=some x->vs[i]?=some v->q x≠some .local ->
  bindC q (P.zip vs) m x=some v
 |[],_,_,_,_,h,_,_=>by simp at h
 |_::_,[],_,_,_,_,h,_=>by simp at h
 |p::P,w::vs,0,m,nd,h1,h2,hk=>by
  simp at h1 h2;subst h1;subst h2;show bindC q ((p,w)::P.zip vs) m p=_;unfold bindC;rw[M_8 λ v O=>(List.nodup_cons.mp nd).1 (Q6 O).1,if_neg hk];simp
 |p::P,w::vs,i+1,m,nd,h1,h2,hk=>by
  show bindC q ((p,w)::P.zip vs) m x=_;exact M_9 (List.nodup_cons.mp nd).2 (by simpa using h1) (by simpa using h2) hk
def start (N:List Str) (vs:List V):St:=vs.map some++List.replicate (N.length-vs.length) none
def H_5 (CX:CXT) (P:Program) (w:World) (K:Frag) (mg:Str->Option Value) (base:Heap) (N:List Str) (qual:Str) (scope:Scope) (f:Addr) (cd:Value) (A:Around) (outer:List Env) (s:Shared) (H:Hp) (E:XK):Cx where
 prog:=P
 w:=w
 K:=K
 mg:=mg
 base:=base
 A:=A.deeper (envOfC qual scope s.heap.objs.size f cd)
 N:=N
 s₀:=s
 H₀:=H
 env:=envOfC qual scope s.heap.objs.size f cd
 outer:=outer
 stack:=envOfC qual scope s.heap.objs.size f cd::outer
 ex:=[]
 calm:=true
 fn:=λ _=>true
 pn:=[]
 xe:=λ e s'=>wpAny (model P w) (A.deeper (envOfC qual scope s.heap.objs.size f cd)) (leaving (envOfC qual scope s.heap.objs.size f cd) e) (λ _ q=>CX outer H s E e q) (λ O q=>CX outer H s E O q) s'
theorem Y_9 {sc:Scope} (h:sc.names.lookup x=some .cell):∃ c,(cellsFrom n sc.names []).lookup x=some c:=by have q:=PySem.W.cellsFrom_some sc.names n [] (.inl h);exact Option.isSome_iff_exists.mp q
theorem an7 {K:Frag}
  (S:FnScope N ps scope) (hd:A.handled=none) (e0:Env0 P w K mg base A outer s H) (hl:vs.length=ps.length) (r:Vals vs us)
  (x:InCallC s s.heap.objs.size (bindL (envOfC qual scope s.heap.objs.size f cd).kindOf (ps.zip us) λ _=>none) (cellsFrom (s.heap.objs.size+1) scope.names []) (bindC (envOfC qual scope s.heap.objs.size f cd).kindOf (ps.zip us) λ _=>none) s1) :
  Inv (H_5 CX P w K mg base N qual scope f cd A outer s H E) [] (start N vs) H s1:=by
 have ac:ps.length<=N.length:=by have:=jm List.length S.pre;rw[jg] at this;omega
 obtain⟨h1,tk,rfl,hk⟩:=x.done;have Y:∀ b:Addr,b∉(H_5 CX P w K mg base N qual scope f cd A outer s H E).ex:=λ b z=>absurd (show b∈([]:List Addr) from z) (by simp);refine⟨⟨e0.mod,S.kind,rfl,rfl,qj _,λ y z c h1 h2=>?_,λ y O=>?_,λ y c _ h=>?_,λ _=>hd,Around.frames_deeper e0.frames,.inr ⟨rfl,rfl⟩,λ b z=>absurd z (Y b),e0.bs,e0.bsz,λ b _ _=>Y b,λ b z=>absurd z (Y b),e0.funs,e0.frf⟩,
  rfl,e0.bare,Un.kept hk,⟨_,x.toInCall.ns,λ i y v h1 h2 h3=>?_⟩,λ y c h=>⟨_,x.cell y c h⟩,e0.hok.fresh (qj _),λ y c h=>?_,λ p Z=>absurd (show p∈([]:List (Addr×Obj)) from Z) (by simp),e0.hok.kept hk,?_⟩
 ·exact name_of_addr x.apart (j2 h1) (j2 h2)
 ·have O:=O;rcases O with O | O
  ·exact Y_9 O
  ·exact absurd rfl (S.nofree _ (j2 O))
 ·exact Z2 (x.above y c (j2 h))
 ·have hi:i<vs.length:=by
   unfold start at h2;by_cases hi:i<vs.length
   ·exact hi
   ·rw[ja (by simpa using hi)] at h2;rw[Zd] at h2;split at h2 <;> cases h2
  have ha:vs[i]?=some v:=by
   unfold start at h2;rw[yu (by simpa using hi),yo] at h2;cases e:vs[i]? with
   |none=>rw[e] at h2;cases h2
   |some a=>rw[e] at h2;cases h2;rfl
  obtain⟨u,hu,rv⟩:=r.get ha;have Z:ps[i]?=some y:=by rw[<- S.pre,List.getElem?_take_of_lt (by omega)];exact h1
  have aa:ps.Nodup:=by rw[<- S.pre];exact S.nd.sublist (List.take_sublist _ _)
  refine⟨u,rv,?_⟩;rcases S.par y (Qw Z) with k | k
  ·exact .inl ⟨k,M_7 aa Z hu k⟩
  ·obtain⟨c,e⟩:=Y_9 k;refine .inr ⟨.inl k,c,e,?_⟩;have q:=x.cell y c e;rw[M_9 aa Z hu (by show scope.names.lookup y≠_;rw[k];decide)] at q;exact q
 ·exact e0.hok.fresh (Z2 (x.above y c (j2 h)))
 ·unfold start;show _=N.length;rw[zh,qy,j7];omega
theorem aY9 {K:Frag}{dV kV ad pm O ct oc:Value}
   (lk:K.lookup f=some ⟨oc,od,.func (fnOf name qual Y body scope dV kV ad pm an O ct),ai⟩) (ak:codeIn K O qual=true) (S:FnScope N ps scope)
  (af:∀ vs H Q E,sp vs H Q E->vs.length=ps.length)
  (ac:∀ (A:Around) (outer:List Env) (s:Shared) (H:Hp) (vs:List V) (Q:VK) (E:XK),Room k (A.deeper (envOfC qual scope s.heap.objs.size f O))->sp vs H Q E ->
   ∃ t,PSs (H_5 CX P w K mg base N qual scope f O A outer s H E) body t/\t {nx:=λ _ H'=>Q .non H',rt:=Q} (start N vs) H) :
  FnOk P w K mg base CX (k+1) f (fnOf name qual Y body scope dV kV ad pm an O ct) ps sp:=by
 refine⟨af,λ A outer s H args us vs Q E hr e0 hb r ae=>?_⟩;have hl:=af _ _ _ _ ae;have KX:=e0.mod.kin.keeps λ b o e=>(e0.bs b o e).1;have aj:=e0.mod.nolimit.keeps λ b o e=>(e0.bs b o e).1;have aa:∀ y∈ps.zip us,scope.names.lookup y.1=some .local\/(scope.names.lookup y.1=some .cell/\((cellsFrom (s.heap.objs.size+1) scope.names []).lookup y.1).isSome=true):=λ ag hy=>by
  obtain⟨n,v⟩:=ag;rcases S.par n (Q6 hy).1 with q | q
  ·exact .inl q
  ·exact .inr ⟨q,PySem.W.cellsFrom_some _ _ _ (.inl q)⟩
 refine codeAny_call_function hr.depth (KX _ _ lk) rfl S.co S.gen rfl (PySem.W.codeRec_of KX ak) (hb _ _ _ _ ?_);refine wpAny_newFunctionEnv_cells S.kind aa λ env he s1 x=>?_;subst he;refine⟨aj.keeps x.toInCall.keep,codeAny_func ?_⟩;obtain⟨t,ht,hq⟩:=ac A outer s H vs Q E (hr.deeper _) ae;have I:Inv (H_5 CX P w K mg base N qual scope f O A outer s H E) [] (start N vs) H s1:=an7 S hr.hd e0 hl r x;refine z0 (ht [] s1 (start N vs) H _ I hq) (λ fl s' hs=>?_) λ e s' hs=>hs;have ah:∀ {Z:St}{H':Hp}{v:V}{u:Value},Inv (H_5 CX P w K mg base N qual scope f O A outer s H E) [] Z H' s'->RelV v u->Q v H'->CE outer P w H s Q u s' :=
  λ {Z H' v u} J rv q=>⟨v,H',J.os,J.bare,J.base,J.hok,rv,q⟩
 cases fl with
 |ret u =>
  obtain⟨v,Z,H',J,rv,q⟩:=hs;exact ah J rv q
 |next =>
  obtain⟨Z,H',J,q⟩:=hs;exact ah (v:=V.non) J rfl q
 |brk =>
  obtain⟨_,_,_,q⟩:=hs;exact False.elim q
 |cont =>
  obtain⟨_,_,_,q⟩:=hs;exact False.elim q
section
variable {id T:String}
def tCB (r:List V->Hp->VK->Prop) (t:TA):TE:=λ σ H Q=>t σ H λ vs H1=>r vs H1 Q
theorem m_5 (hc:CallR X (.builtin id) r) (Y:Gl X x) (hm:X.mg x=none) (hv:bootBuiltins x=some (.builtin id)) (ha:PA X (e::es) t) (hn:x≠"__name__":=by decide) (O:(x==("__debug__":Str))=false:=by decide)
  (he:starEach (e::es) X.env=(false,eval e X.env)::starEach es X.env:=by rfl) (q:(backTo pos (starEach es X.env)).any (·.1)=false:=by rfl):PE X (.Call (.Name x p) (e::es) [] pos) (tCB r t):=by
 intro pins s σ H Q I h;refine jv (n_6 I Y hm hv ?_ hn O);exact PyProof.Rows.callWith_builtin1 (thn (ha pos pins s σ H _ I h) λ us s1=>ex5 λ vs H1 I1 Z q1=>hc pins s1 σ H1 vs us Q I1 Z q1) he q
theorem J_3 (hc:CallR X (.type T) r) (Y:Gl X x) (hm:X.mg x=none) (hv:bootBuiltins x=some (.type T)) (ha:PA X (e::es) t) (hn:x≠"__name__":=by decide) (O:(x==("__debug__":Str))=false:=by decide)
  (he:starEach (e::es) X.env=(false,eval e X.env)::starEach es X.env:=by rfl) (q:(backTo pos (starEach es X.env)).any (·.1)=false:=by rfl):PE X (.Call (.Name x p) (e::es) [] pos) (tCB r t):=by
 intro pins s σ H Q I h;refine jv (n_6 I Y hm hv ?_ hn O);exact yq (thn (ha pos pins s σ H _ I h) λ us s1=>ex5 λ vs H1 I1 Z q1=>hc pins s1 σ H1 vs us Q I1 Z q1) he q
end
end L2
namespace HT
open PySem PyProof.Rows
section
def sIx (n d:Nat):Option Int->Nat
 |none=>d
 |some v=>if v<0 then (v+(n:Int)).toNat else min v.toNat n
theorem sIx_nat (n d k:Nat):sIx n d (some (k:Int))=min k n:=by show (if (k:Int)<0 then ((k:Int)+(n:Int)).toNat else min (k:Int).toNat n)=min k n;rw[if_neg (by omega),jp]
theorem sIx_le (n d:Nat) (hd:d<=n) (o:Option Int):sIx n d o<=n:=by
 cases o with
 |none=>exact hd
 |some v =>
  show (if v<0 then (v+(n:Int)).toNat else min v.toNat n)<=n;by_cases q:v<0
  ·rw[if_pos q];omega
  ·rw[if_neg q];exact Nat.min_le_right _ _
theorem clip_eq (v:Int) (n d:Nat):(if v<0 then max (v+(n:Int)) 0 else min v (n:Int))=((sIx n d (some v):Nat):Int):=by
 show (if v<0 then max (v+(n:Int)) 0 else min v (n:Int))=(((if v<0 then (v+(n:Int)).toNat else min v.toNat n):Nat):Int);by_cases q:v<0
 ·simp only[if_pos q];omega
 ·simp only[if_neg q];omega
theorem ae9 (lo hi:Option Int) (n:Nat):Builtin.Slice.sliceAdjust lo hi 1 (n:Int)=(((sIx n 0 lo:Nat):Int),((sIx n n hi:Nat):Int)):=by
 have h1:¬ ((1:Int)<0):=by omega
 unfold Builtin.Slice.sliceAdjust;refine Prod.ext ?_ ?_
 ·cases lo with
  |none=>rfl
  |some v=>exact clip_eq v n 0
 ·cases hi with
  |none=>rfl
  |some v=>exact clip_eq v n n
theorem ab3 (i j:Nat):Builtin.Slice.slicePlaces (i:Int) (j:Int) 1=j-i:=by
 unfold Builtin.Slice.slicePlaces;have h1:(1:Int) > 0:=by omega
 split <;> omega
theorem slicePart_  (p:IsPart v o) (h:Q o s):wpAny (model prog w) A (Builtin.Slice.slicePartIndex v) Q E s:=by
 cases p with
 |none=>exact slicePart_none h
 |int i t=>exact slicePart_int h
theorem t_6 {lo hi:Option Int}{n:Nat} (hs:s.heap.IsSliceOf Z O Y .none) (pl:IsPart O lo) (pu:IsPart Y hi)
  (h:Q (((sIx n 0 lo:Nat):Int),1,sIx n n hi-sIx n 0 lo) s):wpAny (model prog w) A (Builtin.Slice.sliceApplied (.ref Z) (pure (n:Int))) Q E s:=by
 obtain⟨os,q,aa,hds⟩:=id hs;refine qb (qb (zx q hds rfl (qb (zx q hds rfl (qb (zx q hds rfl (qc ?_)))))));refine qb (slicePart_none ?_);rw[if_neg (by decide)];refine qb (slicePart_ pl (qb (slicePart_ pu (qb (qc ?_)))));show wpAny _ _ (match Builtin.Slice.sliceAdjust lo hi 1 (n:Int) with | (lo,hi)=>pure (lo,(1:Int),Builtin.Slice.slicePlaces lo hi 1)) _ _ s;rw[ae9 lo hi n];show wpAny _ _ (pure (((sIx n 0 lo:Nat):Int),(1:Int),Builtin.Slice.slicePlaces ((sIx n 0 lo:Nat):Int) ((sIx n n hi:Nat):Int) 1)) _ _ s;rw[ab3];exact qc h
theorem aA1 (xs:Array Value) (i k:Nat):((List.range k).filterMap λ (m:Nat)=>xs[((i:Int)+(m:Int)*1).toNat]?).toArray=((xs.toList.drop i).take k).toArray:=by
 have e:(λ (m:Nat)=>xs[((i:Int)+(m:Int)*1).toNat]?)=λ m=>xs[i+m]?:=by
  funext m;have:((i:Int)+(m:Int)*1).toNat=i+m:=by omega
  rw[this]
 rw[e];have:=pick_run xs i k;rw[Jb] at this;have e2:((λ x=>xs[x]?) ∘ λ x=>i+x)=λ m=>xs[i+m]?:=rfl;rw[e2] at this;rw[this]
theorem getItem_tuple_cut {lo hi:Option Int} (Y:IsTup s.heap t items) (hs:s.heap.IsSliceOf sl vl vu .none) (pl:IsPart vl lo) (pu:IsPart vu hi)
  (hw:¬ (sIx items.size 0 lo=0/\sIx items.size items.size hi=items.size))
  (h:Q (.ref s.heap.objs.size) {s with heap:=s.heap.push {cls:=.type "tuple",data:=.seq ((items.toList.drop (sIx items.size 0 lo)).take (sIx items.size items.size hi-sIx items.size 0 lo)).toArray}})
  (hsz:items.size<=sizeLine):wpAny (model prog w) A (getItem (.ref t) (.ref sl)) Q E s:=by
 have O:sizeOk (.seq ((items.toList.drop (sIx items.size 0 lo)).take (sIx items.size items.size hi-sIx items.size 0 lo)).toArray):=by show ((items.toList.drop (sIx items.size 0 lo)).take (sIx items.size items.size hi-sIx items.size 0 lo)).toArray.size<=sizeLine;rw[zc,jg,yr,yg];omega
 have hj:sIx items.size items.size hi<=items.size:=sIx_le _ _ (qj _) hi;obtain⟨os,ad,Z,hds⟩:=id hs;have ac:s.TypeIs (.ref sl) "slice":=⟨os,ad,Z⟩;unfold getItem
 try with_reducible refine yh ?_
 first | refine qb (qc ?_) | skip
 refine qb (wpAny_sequenceKey Y.typeIs (by decide) ?_);refine qb (wpAny_callSpecial?_slot Y.typeIs Qd
  (j4 Qd Y.typeIs entry_tuple_getitem ?_ (args_tuple_getitem _ _)))
 show wpAny _ _ (Builtin.Tuple.tupleItemsOf (.ref t) >>= _) _ _ s;refine qb (tupleItemsOf_ Y ?_);refine qb (Yl ac ?_);rw[if_pos (by decide)];refine qb (t_6 hs pl pu ?_);have aa:¬ ((((sIx items.size 0 lo:Nat):Int)==0&&(1:Int)==1&&(sIx items.size items.size hi-sIx items.size 0 lo)==items.size)=true):=by intro q;rw[zk,zk] at q;have q1:=eq_of_beq q.1.1;have q2:=eq_of_beq q.2;exact hw ⟨by omega,by omega⟩
 show wpAny _ _ (if (((sIx items.size 0 lo:Nat):Int)==0&&(1:Int)==1&&(sIx items.size items.size hi-sIx items.size 0 lo)==items.size)=true then _ else _) _ _ s;rw[if_neg aa,aA1]
 first
  |exact qb (yj (qc ⟨_,rfl,qc h⟩) O)
  |exact qb (yj (qb (qc (qc ⟨_,rfl,qc h⟩))) O)
  |exact qb (qb (yj (qc (qc ⟨_,rfl,qc h⟩)) O))
  |exact qb (qb (yj (qc ⟨_,rfl,qc h⟩) O))
end
end HT
namespace L2
open PySem PySem.Spec PyProof.Rows
abbrev TO:=St->Hp->(Option Int->Hp->Prop)->Prop
def PO (X:Cx) (e:Option Expr) (t:TO):Prop :=
 ∀ (pins:List (Addr×Obj)) (s:Shared) (σ:St) (H:Hp) (Q:Option Int->Hp->Prop),Inv X pins σ H s->t σ H Q ->
  wpAny (model X.prog X.w) X.A (evalPart e X.env) (λ u s'=>∃ o H',Inv X pins σ H' s'/\IsPart u o/\Q o H') X.xe s
def aP1:TO:=λ _ H Q=>Q none H
def bD4 (t:TE):TO:=λ σ H Q=>t σ H λ x H1=>∃ i,x=.int i/\Q (some i) H1
theorem intsAre_of :∀ {us:List Value},Vals (q.map V.int) us->IntsAre us q:=by
 induction q with
 |nil=>intro us r;rw[Ql] at r;cases r;exact .nil
 |cons n q O =>
  intro us r;rw[qz] at r;cases r with
  |cons Z Y =>
   obtain⟨t,e⟩:=Z;subst e;exact .cons n t (O Y)
section
variable {lo hi:Option Expr}
theorem aj5:PO X none aP1:=by intro pins s σ H Q I h;rw[Y7];exact qc ⟨none,H,I,.none,h⟩
theorem aj4 (h:PE X e te):PO X (some e) (bD4 te):=by
 intro pins s σ H Q I hw;rw[evalPart_some];refine thn (h pins s σ H _ I hw) λ u s1=>ex5 λ x H1 Y O Z=>?_;obtain⟨i,rfl,q⟩:=Z;obtain⟨t,rfl⟩:=O;exact⟨some i,H1,Y,.int i t,q⟩
def SlR (X:Cx) (r:V->Option Int->Option Int->Hp->VK->Prop):Prop :=
 ∀ (pins:List (Addr×Obj)) (s:Shared) (σ:St) (H:Hp) (x:V) (v q Y:Value) (lo hi:Option Int) (O:Addr) (Q:VK),Inv X pins σ H s->RelV x v->s.heap.IsSliceOf O q Y .none->IsPart q lo->IsPart Y hi->r x lo hi H Q ->
  ∃ T id,typeLookup (.type T) "__getitem__"=pure (some (.builtin id)) ∧ s.TypeIs v T ∧ wpAny (model X.prog X.w) X.A (getItem v (.ref O)) (EP X pins σ Q) X.xe s
theorem SlR.or  (h:SlR X r) (h':SlR X r'):SlR X (λ x lo hi H Q=>r x lo hi H Q\/r' x lo hi H Q):=by
 intro pins s σ H x v O vu lo hi sl Q I Y hs Z pu q;rcases q with q | q
 ·exact h pins s σ H x v O vu lo hi sl Q I Y hs Z pu q
 ·exact h' pins s σ H x v O vu lo hi sl Q I Y hs Z pu q
def tSl (r:V->Option Int->Option Int->Hp->VK->Prop) (te:TE) (tl th:TO):TE:=λ σ H Q=>te σ H λ x H1=>tl σ H1 λ l H2=>th σ H2 λ u q=>r x l u q Q
theorem aA3  (hr:SlR X r) (he:PE X e te) (hl:PO X lo tl) (hu:PO X hi th):PE X (.Subscript e (.Slice lo hi none p2) pos) (tSl r te tl th):=by
 intro pins s σ H Q I h;refine Subscript_ (thn (he pins s σ H _ I h) λ v s1=>ex5 λ x H1 I1 r1 q1=>?_);refine wpAny_Slice (thn (hl pins s1 σ H1 _ I1 q1) λ Z s2=>ex5 λ l H2 I2 pl q2=>thn (hu pins s2 σ H2 _ I2 q2) λ Y O=>ex5 λ u H3 I3 pu q3=>?_);rw[Y7];refine qc ?_;have I4:Inv X pins σ H3 {O with heap:=O.heap.push {cls:=.type "slice",data:=.fields #[Z,Y,.none]}}:=I3.kept λ b ob q=>qf _ q;obtain⟨T,id,hT,ht,hg⟩:=hr pins {O with heap:=O.heap.push {cls:=.type "slice",data:=.fields #[Z,Y,.none]}} σ H3 x v Z Y l u O.heap.objs.size Q I4 r1 (Heap.IsSliceOf.new ..) pl pu q3;exact tail_any ht hT hg (by with_unfolding_all rfl)
def av0 (xs:List V) (lo hi:Option Int):List V:=(xs.drop (HT.sIx xs.length 0 lo)).take (HT.sIx xs.length xs.length hi-HT.sIx xs.length 0 lo)
theorem x_7 (xs:List V) (lo hi:Option Int):(av0 xs lo hi).length<=xs.length:=by unfold av0;rw[jg,yr];omega
def ch3 (K:Frag):V->Option Int->Option Int->Hp->VK->Prop:=λ x lo hi H Q=>∃ a xs,x=.ref a/\SqT K H a xs /\
 ¬ (HT.sIx xs.length 0 lo=0/\HT.sIx xs.length xs.length hi=xs.length)/\∀ p,H p=none->Q (.ref p) (upd H p (.tup (av0 xs lo hi)))
theorem bj5:SlR X (ch3 X.K):=by
 intro pins s σ H x v vl vu lo hi sl Q I rx hs pl pu h;obtain⟨a,xs,rfl,hx,hw,q⟩:=h;cases rx;obtain⟨Y,r,Z,hz⟩:=I.tuple hx;have O:Y.toArray.size=xs.length:=by rw[zc];exact r.length.symm
 refine⟨"tuple",_,PyProof.Rows.slot_tuple_getitem.lookup,Z.typeIs,?_⟩;refine HT.getItem_tuple_cut Z hs pl pu (by rw[O];exact hw) ?_ (by rw[O];exact hz);rw[O];refine⟨.ref s.heap.objs.size,_,I.laid (λ b ob q=>qf _ q) (qj _) ?_,rfl,q _ (I.hok.fresh (qj _))⟩;exact⟨zo (x_7 xs lo hi) hz,_,(r.drop (HT.sIx xs.length 0 lo)).take (HT.sIx xs.length xs.length hi-HT.sIx xs.length 0 lo),IsTuN.new _ _⟩
end
def ixN (n:Nat) (i:Int):Option Nat:=if 0<=i then (if i<n then some i.toNat else none) else if -(n:Int)<=i then some (i+n).toNat else none
def atI {α:Type} (xs:List α) (i:Int):Option α:=(ixN xs.length i).bind λ j=>xs[j]?
theorem aX5  (h:ixN n i=some j):seqIndex? i n=some j/\j<n/\-(n:Int)<=i/\i<n:=by
 unfold ixN at h;by_cases q:0<=i
 ·rw[if_pos q] at h;by_cases h1:i<n
  ·rw[if_pos h1] at h;have e:=qi h;exact⟨by rw[seqIndex_of q h1,e],by omega,by omega,h1⟩
  ·rw[if_neg h1] at h;cases h
 ·rw[if_neg q] at h;by_cases h1:-(n:Int)<=i
  ·rw[if_pos h1] at h;have e:=qi h;exact⟨by rw[seqIndex_neg (by omega) h1,e],by omega,h1,by omega⟩
  ·rw[if_neg h1] at h;cases h
theorem S_1  (h:atI xs i=some v):∃ j,seqIndex? i xs.length=some j/\xs[j]?=some v/\j<xs.length/\-(xs.length:Int)<=i/\i<xs.length:=by
 unfold atI at h;cases e:ixN xs.length i with
 |none=>rw[e] at h;cases h
 |some j =>
  rw[e] at h;obtain⟨h1,h2,O,q⟩:=aX5 e;exact⟨j,h1,h,h2,O,q⟩
def S_4 (b:Expr):Prop:=∀ o i,subscripted b false o i=operate [o,i] (getItem o i)
def IxR (X:Cx) (r:R2):Prop :=
 ∀ (value q:Expr) (pins:List (Addr×Obj)) (s:Shared) (σ:St) (H:Hp) (x y:V) (v u:Value) (Q:VK),Inv X pins σ H s->RelV x v->RelV y u->r x y H Q ->
  subscripted q false v u=operate [v,u] (getItem v u)->wpAny (model X.prog X.w) X.A (subscriptTail value q v u) (EP X pins σ Q) X.xe s
def MtR (X:Cx) (id:String) (r:V->List V->Hp->VK->Prop):Prop :=
 ∀ (pins:List (Addr×Obj)) (s:Shared) (σ:St) (H:Hp) (x:V) (xs:List V) (v:Value) (us:List Value) (Q:VK),Inv X pins σ H s->RelV x v->Vals xs us->r x xs H Q ->
  wpAny (model X.prog X.w) X.A (call (.builtin id) (v::us)) (EP X pins σ Q) X.xe s
section
variable {X:Cx}{a b:Expr}{ta tb:TE}{pos:Pos}
theorem IxR.or  (h:IxR X r) (h':IxR X r'):IxR X (λ x y H Q=>r x y H Q\/r' x y H Q):=by
 intro value O pins s σ H x y v u Q I Y ry q Z;rcases q with q | q
 ·exact h value O pins s σ H x y v u Q I Y ry q Z
 ·exact h' value O pins s σ H x y v u Q I Y ry q Z
theorem MtR.or {id:String} (h:MtR X id r) (h':MtR X id O):MtR X id (λ x xs H Q=>r x xs H Q\/O x xs H Q):=by
 intro pins s σ H x xs v us Q I Y rs q;rcases q with q | q
 ·exact h pins s σ H x xs v us Q I Y rs q
 ·exact h' pins s σ H x xs v us Q I Y rs q
theorem bI5  (hr:IxR X r) (ha:PE X a ta) (hb:PE X b tb) (Z:S_4 b):PE X (.Subscript a b pos) (tOp r ta tb):=by intro pins s σ H Q I h;exact Subscript_ (bQ9 ha hb I h λ v u s2 x y H2 Y O ry q=>hr a b pins s2 σ H2 x y v u Q Y O ry q (Z _ _))
def bV0 (K:Frag):R2:=λ x y H Q=>∃ p xs i v,x=.ref p/\y=.int i/\SqL K H p xs/\atI xs i=some v/\Q v H
def bU8 (K:Frag):R2:=λ x y H Q=>∃ p xs i v,x=.ref p/\y=.int i/\SqT K H p xs/\atI xs i=some v/\Q v H
def bU9:R2:=λ x y H Q=>∃ z i c,x=.str z/\y=.int i/\z.length<=sizeLine/\atI z.cps.toList i=some c/\Q (.str ⟨#[c]⟩) H
theorem ix_list:IxR X (bV0 X.K):=by
 intro value aa pins s σ H x y v u Q I rx ry h hs;obtain⟨p,xs,i,z,rfl,rfl,hq,he,q⟩:=h;cases rx;obtain⟨t,rfl⟩:=ry;obtain⟨Z,r,pl,hz⟩:=I.list hq;obtain⟨j,h1,h2,h3,h4,h5⟩:=S_1 he;obtain⟨w,ew,ac⟩:=r.get h2;have hl:=r.length;have hn:=A_9;have O:EP X pins σ Q w s:=⟨z,H,I,ac,q⟩;by_cases h0:0<=i
 ·have Y:i.toNat=j:=by rw[seqIndex_of h0 h5] at h1;exact qi h1
  exact item_listR pl.isList h0 (by omega) (by rw[Y];simpa using ew) O hs
 ·have Y:(i+(Z.toArray.size:Int)).toNat=j:=by rw[seqIndex_neg (by omega) h4] at h1;rw[zc,<- hl];exact qi h1
  exact subscriptTail_builtinR pl.isList.typeIs slot_list_getitem.lookup
   (wpAny_getItem_list_neg pl.isList (by omega) (by rw[zc] <;> omega) (by omega) (by rw[Y];simpa using ew) ⟨rfl,O⟩) hs
theorem ix_tup:IxR X (bU8 X.K):=by
 intro value Y pins s σ H x y v u Q I rx ry h hs;obtain⟨p,xs,i,z,rfl,rfl,hq,he,q⟩:=h;cases rx;obtain⟨t,rfl⟩:=ry;obtain⟨aa,r,pl,hz⟩:=I.tuple hq;obtain⟨j,h1,h2,h3,h4,h5⟩:=S_1 he;obtain⟨w,ew,Z⟩:=r.get h2;have hl:=r.length;have hn:=A_9;have O:EP X pins σ Q w s:=⟨z,H,I,Z,q⟩;exact subscriptTail_builtinR pl.typeIs slot_tuple_getitem.lookup
  (getItem_tuple pl (by omega) (by omega) (by rw[zc,<- hl];exact h1) (by simpa using ew) ⟨rfl,O⟩) hs
theorem br0:IxR X bU9:=by
 intro value O pins s σ H x y v u Q I Y ry h hs;obtain⟨z,i,c,rfl,rfl,hz,he,q⟩:=h;obtain⟨t,rfl⟩:=Y;obtain⟨t',rfl⟩:=ry;obtain⟨j,h1,h2,h3,Z,h5⟩:=S_1 he;have hl:z.cps.toList.length=z.length:=by simp[Str.length]
 rw[hl] at h1 Z h5;have hn:=A_9;exact tail_any (Z3 s z t) slot_str_getitem.lookup (getItem_str (by
  have e1:decide (i < -(2 ^ 63:Int))=false:=zy (by omega);have e2:decide (i>=2 ^ 63)=false:=zy (by omega);rw[e1,e2,Bool.or_false]) (by rw[h1];simpa using h2) ⟨.str ⟨#[c]⟩,H,I.tok _,⟨_,rfl⟩,q⟩) hs
def rIx (K:Frag):R2:=λ x y H Q=>bV0 K x y H Q\/bU8 K x y H Q\/bU9 x y H Q
theorem br1:IxR X (rIx X.K):=ix_list.or (ix_tup.or br0)
theorem Inv.lst  (I:Inv X pins σ H s) (h:H p=some (.lst xs)) :
  ∃ (q:List Value) (n:Nat),Vals xs q ∧ s.heap.get? p=some {cls:=.type "list",data:=.seq q.toArray n} ∧ xs.length ≤ sizeLine:=by
 obtain⟨z,q,n,r,e⟩:=I.hok p _ h;exact⟨q,n,r,e,z⟩
theorem I_3 (lo hi:Option Int) (n:Nat):(sliceBounds lo hi none n).1=((HT.sIx n 0 lo:Nat):Int)/\(sliceBounds lo hi none n).2.1=((HT.sIx n n hi:Nat):Int)/\(sliceBounds lo hi none n).2.2=1:=by
 refine⟨?_,?_,rfl⟩
 ·cases lo with
  |none=>simp[sliceBounds,HT.sIx]
  |some i =>
   simp only[sliceBounds,HT.sIx,Option.getD_none,show (1:Int) > 0 by decide,Jc];by_cases h:i<0
   ·simp only[h,Jc] <;> omega
   ·simp only[h,if_false] <;> omega
 ·cases hi with
  |none=>simp[sliceBounds,HT.sIx]
  |some i =>
   simp only[sliceBounds,HT.sIx,Option.getD_none,show (1:Int) > 0 by decide,Jc];by_cases h:i<0
   ·simp only[h,Jc] <;> omega
   ·simp only[h,if_false] <;> omega
theorem C_7 (q:List Value) (lo hi:Option Int):slicePick q.toArray lo hi none=((q.drop (HT.sIx q.length 0 lo)).take (HT.sIx q.length q.length hi-HT.sIx q.length 0 lo)).toArray:=by obtain⟨h1,h2,O⟩:=I_3 lo hi q.toArray.size;unfold slicePick;rw[h1,h2,O];simp only[sliceRange_one,pick_run,zc] <;> rfl
def ch5 (K:Frag):V->Option Int->Option Int->Hp->VK->Prop:=λ x lo hi H Q=>∃ a xs,x=.ref a/\SqL K H a xs/\∀ p,H p=none->Q (.ref p) (upd H p (.lst (av0 xs lo hi)))
theorem sl_list:SlR X (ch5 X.K):=by intro pins s σ H x v vl vu lo hi sl Q I rx hs pl pu h;obtain⟨a,xs,rfl,hx,q⟩:=h;cases rx;obtain⟨Z,r,Y,hz⟩:=I.list hx;have O:=r.length;refine⟨"list",_,slot_list_getitem.lookup,Y.isList.typeIs,?_⟩;refine wpAny_getItem_list_slice Y.isList hs pl pu .none (by simp) ?_ (by rw[zc] <;> omega);rw[C_7,<- O];refine⟨.ref s.heap.objs.size,_,I.laid (λ b ob q=>qf _ q) (qj _) ?_,rfl,q _ (I.hok.fresh (qj _))⟩;exact⟨zo (x_7 xs lo hi) hz,_,0,(r.drop (HT.sIx xs.length 0 lo)).take (HT.sIx xs.length xs.length hi-HT.sIx xs.length 0 lo),qk _ rfl⟩
def z_4:V->Bool
 |.non=>true
 |.bl _=>true
 |.int _=>true
 |.str _=>true
 |_=>false
def eqV:V->V->Bool
 |.non,.non=>true
 |.bl a,.bl b=>a==b
 |.bl a,.int b=>(if a then 1 else 0)==b
 |.int a,.bl b=>a==(if b then 1 else 0)
 |.int a,.int b=>a==b
 |.str a,.str b=>a==b
 |_,_=>false
theorem bt7  (Y:RelV y u) (q:RelV x v) (Z:z_4 y=true) (O:z_4 x=true):SeqAt.EqAt A s u v (eqV y x):=by
 cases y with
 |non =>
  cases Y;cases x with
  |non=>cases q;exact SeqAt.EqAt.same _
  |bl b=>cases q;exact SeqAt.EqAt.none_bool b
  |int b=>obtain⟨t,rfl⟩:=q;exact SeqAt.EqAt.none_int b t
  |str b=>obtain⟨t,rfl⟩:=q;exact SeqAt.EqAt.none_str b t
  |_=>exact absurd (show false=true from O) qp
 |bl a =>
  cases Y;cases x with
  |non=>cases q;exact SeqAt.EqAt.bool_none a
  |bl b=>cases q;exact SeqAt.EqAt.bool_bool a b
  |int b=>obtain⟨t,rfl⟩:=q;exact SeqAt.EqAt.bool_int a b t
  |str b=>obtain⟨t,rfl⟩:=q;exact SeqAt.EqAt.bool_str a b t
  |_=>exact absurd (show false=true from O) qp
 |int a =>
  obtain⟨t',rfl⟩:=Y;cases x with
  |non=>cases q;exact SeqAt.EqAt.int_none a t'
  |bl b=>cases q;exact SeqAt.EqAt.int_bool a t' b
  |int b=>obtain⟨t,rfl⟩:=q;exact SeqAt.EqAt.int_int a t' b t
  |str b=>obtain⟨t,rfl⟩:=q;exact SeqAt.EqAt.int_str a t' b t
  |_=>exact absurd (show false=true from O) qp
 |str a =>
  obtain⟨t',rfl⟩:=Y;cases x with
  |non=>cases q;exact SeqAt.EqAt.str_none a t'
  |bl b=>cases q;exact SeqAt.EqAt.str_bool a t' b
  |int b=>obtain⟨t,rfl⟩:=q;exact SeqAt.EqAt.str_int a t' b t
  |str b=>obtain⟨t,rfl⟩:=q;exact SeqAt.EqAt.str_str a t' b t
  |_=>exact absurd (show false=true from O) qp
 |_=>exact absurd (show false=true from Z) qp
def eqU (x:V) (u:Value):Bool:=match u with
 |.none=>eqV .non x
 |.bool b=>eqV (.bl b) x
 |.int i _=>eqV (.int i) x
 |.str z _=>eqV (.str z) x
 |_=>false
theorem aM0  (r:RelV y u) (f:z_4 y=true):eqU x u=eqV y x:=by
 cases y with
 |non=>cases r;rfl
 |bl b=>cases r;rfl
 |int i=>obtain⟨t,rfl⟩:=r;rfl
 |str z=>obtain⟨t,rfl⟩:=r;rfl
 |_=>exact absurd (show false=true from f) qp
theorem S_2 :∀ {xs:List V}{us:List Value},Vals xs us->xs.all z_4=true->us.any (eqU x)=xs.any λ y=>eqV y x
 |_,_,.nil,_=>rfl
 |y::xs,u::us,.cons r t,f=>by
  rw[Yf,zk] at f;rw[Q5,Q5,aM0 r f.1,S_2 t f.2]
theorem E_7  (O:RelV x v) (Y:z_4 x=true):∀ {xs:List V}{us:List Value},Vals xs us->xs.all z_4=true->∀ u∈us,SeqAt.EqAt A s u v (eqU x u)
 |_,_,.nil,_=>λ u q=>by cases q
 |y::xs,u::us,.cons r t,f=>λ Z q=>by
  rw[Yf,zk] at f;rcases qw q with rfl | q
  ·rw[aM0 r f.1];exact bt7 r O f.1 Y
  ·exact E_7 O Y t f.2 Z q
def inV (x:V) (xs:List V):Bool:=xs.any λ y=>eqV y x
def rIn (K:Frag) (q:Bool):R2:=λ x y H Q=>∃ p xs,y=.ref p/\(SqL K H p xs\/SqT K H p xs)/\z_4 x=true/\xs.all z_4=true/\Q (.bl (if q then !inV x xs else inV x xs)) H
theorem ak8:OpR X (compareOp .In) (rIn X.K false):=by
 intro pins s σ H x y v u Q I rx ry h;obtain⟨p,xs,rfl,Y,fx,fs,q⟩:=h;cases ry;rcases Y with Y | Y
 ·obtain⟨O,r,Z,hz⟩:=I.list Y;refine SeqAt.in_listAt (eqU x) Z.isList (λ w hw=>E_7 rx fx r fs w (by simpa using hw)) ⟨.bl _,H,I,rfl,?_⟩;rw[show O.toArray.any (eqU x)=O.any (eqU x) by simp,S_2 r fs];exact q
 ·obtain⟨O,r,Z,hz⟩:=I.tuple Y;refine SeqAt.in_tupleAt (eqU x) Z (λ w hw=>E_7 rx fx r fs w (by simpa using hw)) ⟨.bl _,H,I,rfl,?_⟩;rw[show O.toArray.any (eqU x)=O.any (eqU x) by simp,S_2 r fs];exact q
theorem call_len_seq:CallR X (.builtin "len") (λ xs H Q=>∃ p ys,xs=[.ref p] ∧ (SqL X.K H p ys ∨ SqT X.K H p ys) ∧ Q (.int ys.length) H):=by
 intro pins s σ H xs us Q I r h;obtain⟨p,ys,rfl,Y,q⟩:=h;obtain⟨u,rfl,rx⟩:=j_3 r;cases rx;have hn:=A_9;rcases Y with Y | Y
 ·obtain⟨Z,r',pl,hz⟩:=I.list Y;have O:=r'.length;exact Calls.call_len_list pl.isList (by simp only[zc] <;> omega) ⟨.int ys.length,H,I.tok _,⟨s.toks+1,by rw[zc,O]⟩,q⟩
 ·obtain⟨Z,r',pl,hz⟩:=I.tuple Y;have O:=r'.length;exact len_tuple pl (by simp only[zc] <;> omega) ⟨.int ys.length,H,I.tok _,⟨s.toks+1,by rw[zc,O]⟩,q⟩
theorem M_3:CallR X (.builtin "len") (λ xs H Q=>∃ z,xs=[.str z] ∧ z.length ≤ sizeLine ∧ Q (.int z.length) H):=by intro pins s σ H xs us Q I r h;obtain⟨z,rfl,O,q⟩:=h;obtain⟨u,rfl,t,rfl⟩:=j_3 r;have Y:=A_9;exact len_str (by omega) ⟨.int z.length,H,I.tok _,⟨_,rfl⟩,q⟩
theorem CallR.or  (h:CallR X f r) (h':CallR X f O):CallR X f (λ xs H Q=>r xs H Q\/O xs H Q):=by
 intro pins s σ H xs us Q I rs q;rcases q with q | q
 ·exact h pins s σ H xs us Q I rs q
 ·exact h' pins s σ H xs us Q I rs q
theorem M_2:CallR X (.type "list") (λ xs H Q=>∃ p ys,xs=[.ref p] ∧ (SqL X.K H p ys ∨ SqT X.K H p ys) ∧ ∀ l,H l=none → Q (.ref l) (upd H l (.lst ys))):=by
 intro pins s σ H xs us Q I r h;obtain⟨p,ys,rfl,hq,q⟩:=h;obtain⟨u,rfl,rx⟩:=j_3 r;cases rx;have aa:∀ (O:List Value),Vals ys O->ys.length<=sizeLine->∀ (h':Heap) (Y:Nat),(∀ b o',s.heap.get? b=some o'->h'.get? b=some o') ->
   h'.get? s.heap.objs.size=some {cls:=.type "list",dict:=none,data:=.seq O.toArray Y,slots:=#[]} → EP X pins σ Q (.ref s.heap.objs.size) {s with heap:=h'}:=λ O Z hz h' Y kp e =>
  ⟨.ref s.heap.objs.size,_,I.laid kp (qj _) (show ObjOk X.prog X.w _ h' _ (.lst ys) from ⟨hz,O,Y,Z,e⟩),rfl,q _ (I.hok.fresh (qj _))⟩
 rcases hq with hq | hq
 ·obtain⟨O,Z,pl,hz⟩:=I.list hq;have ac:=Z.length;obtain⟨o,ho,hc,n,hd⟩:=pl.isList;exact call_list_seq p (.inl rfl) ho hc hd (λ h' Y kp e=>aa O Z hz h' Y kp e) (by simp only[zc] <;> omega)
 ·obtain⟨O,Z,pl,hz⟩:=I.tuple hq;have ac:=Z.length;obtain⟨o,ho,hc,n,hd⟩:=pl;exact call_list_seq p (.inr rfl) ho hc hd (λ h' Y kp e=>aa O Z hz h' Y kp e) (by simp only[zc] <;> omega)
theorem G_6:CallR X (.type "tuple") (λ xs H Q=>∃ p ys,xs=[.ref p] ∧ ((SqL X.K H p ys ∧ ∀ l,H l=none → Q (.ref l) (upd H l (.tup ys))) ∨ (SqT X.K H p ys ∧ Q (.ref p) H))):=by
 intro pins s σ H xs us Q I r h;obtain⟨p,ys,rfl,h⟩:=h;obtain⟨u,rfl,rx⟩:=j_3 r;cases rx;rcases h with ⟨hq,q⟩ | ⟨hq,q⟩
 ·obtain⟨O,Z,Y,hz⟩:=I.list hq;have aa:=Z.length;refine call_tuple_list Y.isList (λ h' kp=>?_) (by simp only[zc] <;> omega);have I1:=I.kept (t':=s.toks) kp;have I2:=
   I1.laid (t':=s.toks) (λ b o e=>qf _ e) (qj _) (show ObjOk X.prog X.w _ _ _ (.tup ys) from ⟨hz,O,Z,IsTuN.new _ _⟩)
  exact⟨.ref h'.objs.size,_,I2,rfl,q _ (I1.hok.fresh (qj _))⟩
 ·obtain⟨O,Z,Y,hz⟩:=I.tuple hq;exact call_tuple_same Y ⟨.ref p,H,I,rfl,q⟩
def tyV (K:Frag) (T:String) (x:V) (H:Hp):Prop:=match x with
 |.str _=>T="str"
 |.int _=>T="int"
 |.ref p=>(T="list" ∧ ∃ xs,SqL K H p xs) ∨ (T="tuple" ∧ ∃ o,K.lookup p=some o ∧ o.cls=.type "tuple" ∧ o.dict=none) ∨
   (T="dict" ∧ ((∃ kvs,H p=some (.dK kvs)) ∨ ∃ kvs,H p=some (.dT kvs))) ∨ (T="set" ∧ ∃ S n,H p=some (.set S n))
 |_=>False
theorem aH2  (I:Inv X pins σ H s) (r:RelV x v) (ty:tyV X.K T x H) :
  s.TypeIs v T/\∀ a,v=.ref a->∃ ob,s.heap.get? a=some ob/\ob.dict=none:=by
 cases x with
 |str z =>
  obtain⟨t,rfl⟩:=r;cases (show T="str" from ty);exact⟨Z3 s z t,λ _ e=>nomatch e⟩
 |int i =>
  obtain⟨t,rfl⟩:=r;cases (show T="int" from ty);exact⟨typeIs_int s i t,λ _ e=>nomatch e⟩
 |ref p =>
  cases r;rcases ty with ⟨rfl,xs,hq⟩ | ⟨rfl,o,q,hc,hd⟩ | ⟨rfl,q⟩ | ⟨rfl,S,n,q⟩
  ·obtain⟨Y,_,O,_⟩:=I.list hq;refine⟨O.isList.typeIs,λ a e=>?_⟩;cases e;obtain⟨o,n,e,c,hd,_⟩:=O;exact⟨o,e,hd⟩
  ·refine⟨⟨o,I.kIn p o q,hc⟩,λ a e=>?_⟩;cases e;exact⟨o,I.kIn _ o q,hd⟩
  ·have z:∃ o,s.heap.get? p=some o/\o.ExactDict:=by
    rcases q with ⟨kvs,q⟩ | ⟨kvs,q⟩
    ·obtain⟨_,_,_,_,o,_,_,e,ex,_⟩:=I.hok p _ q;exact⟨o,e,ex⟩
    ·obtain⟨_,_,_,_,o,_,_,e,ex,_⟩:=I.hok p _ q;exact⟨o,e,ex⟩
   obtain⟨o,e,ex⟩:=z;refine⟨⟨o,e,ex.1⟩,λ a e2=>?_⟩;cases e2;exact⟨o,e,ex.2.1⟩
  ·obtain⟨o,_,_,_,e,ex,_⟩:=I.hok p _ q;refine⟨⟨o,e,ex.1⟩,λ a e2=>?_⟩;cases e2;exact⟨o,e,ex.2.1⟩
 |_=>exact False.elim ty
def cf1 (K:Frag) (T:String) (r:V->List V->Hp->VK->Prop) (to:TE):TE:=λ σ H Q=>to σ H λ x H1=>tyV K T x H1/\r x [] H1 Q
def tBM (K:Frag) (T:String) (r:V->List V->Hp->VK->Prop) (to:TE) (t:TA):TE:=λ σ H Q=>to σ H λ x H1=>tyV K T x H1/\t σ H1 λ xs H2=>r x xs H2 Q
variable {T id:String}
theorem bn2 (pa:PlainAttrs T) (slot:Slot T name id) (Z:typeOf (.builtin id)=pure (.type "method_descriptor")) (hm:MtR X id r) (ho:PE X o to)
  (q:attributeBase o name X.env (eval o X.env)=eval o X.env:=by rfl) (O:(apos.endLine==cpos.line)=true:=by rfl):PE X (.Call (.Attribute o name apos) [] [] cpos) (cf1 X.K T r to):=by
 intro pins s σ H Q I h;refine wpAny_Call_method0_late q O (thn (ho pins s σ H _ I h) λ v s1 Y=>?_);obtain⟨x,H1,I1,r1,ty,q1⟩:=Y;obtain⟨h1,h2⟩:=aH2 I1 r1 ty;exact⟨T,id,pa,slot,Z,h1,h2,Yp rfl (PySem.evalArgs_none (hm pins s1 σ H1 x [] v [] Q I1 r1 .nil q1))⟩
theorem ab6 (pa:PlainAttrs T) (slot:Slot T name id) (ac:typeOf (.builtin id)=pure (.type "method_descriptor")) (hm:MtR X id r) (ho:PE X o to) (ha:PA X (e::es) t)
  (O:attributeBase o name X.env (eval o X.env)=eval o X.env:=by rfl)
  (Z:((backTo cpos (starEach (e::es) X.env)).all (λ x=>!x.1)&&(backToKw cpos (keywordEach [] X.env)).all (λ x=>x.1.isSome)
   && decide ((e::es).length+([]:List Keyword).length+(if ([]:List Keyword).isEmpty then 0 else 1)<30))=true:=by rfl)
  (Y:(apos.endLine==cpos.line)=true:=by rfl) (hs:starEach (e::es) X.env=(false,eval e X.env)::starEach es X.env:=by rfl) (q:(backTo cpos (starEach es X.env)).any (·.1)=false:=by rfl) :
  PE X (.Call (.Attribute o name apos) (e::es) [] cpos) (tBM X.K T r to t):=by
 intro pins s σ H Q I h;refine wpAny_Call_method_late O Z Y rfl (thn (ho pins s σ H _ I h) λ v s1 aa=>?_);obtain⟨x,H1,I1,r1,ty,q1⟩:=aa;obtain⟨h1,h2⟩:=aH2 I1 r1 ty;refine⟨T,id,pa,slot,ac,h1,h2,?_⟩;have hA:=ha cpos pins s1 σ H1 _ I1 q1;rw[hs] at hA ⊢;refine Yp (by show (false||(backTo cpos (starEach es X.env)).any (·.1))=false;rw[q] <;> rfl) (Calls.evalArgs_plain ?_);exact thn hA λ us s2=>ex5 λ vs H2 I2 r2 q2=>hm pins s2 σ H2 x vs v us Q I2 r1 r2 q2
end
def MtM (X:Cx) (id:String) (r:V->List V->Hp->VK->Prop):Prop :=
 ∀ (pins:List (Addr×Obj)) (s:Shared) (σ:St) (H:Hp) (x:V) (xs:List V) (v:Value) (us:List Value) (Q:VK),Inv X pins σ H s->RelV x v->Vals xs us->r x xs H Q ->
  wpAny (model X.prog X.w) X.A (call (.builtin id) (v::us)) (EP X pins σ Q) X.xe s
theorem Vals.one:∀ {x:V}{us:List Value},Vals [x] us->∃ u,us=[u]/\RelV x u
 |_,_,h=>by
  cases h with
  |cons r t=>cases t;exact⟨_,rfl,r⟩
theorem Vals.two:∀ {x y:V}{us:List Value},Vals [x,y] us->∃ u v,us=[u,v]/\RelV x u/\RelV y v
 |_,_,_,h=>by
  cases h with
  |cons r t =>
   cases t with
   |cons q z=>cases z;exact⟨_,_,rfl,r,q⟩
theorem Vals.zero:∀ {us:List Value},Vals [] us->us=[]
 |_,.nil=>rfl
theorem Vals.dropLast  (h:Vals xs us):Vals xs.dropLast us.dropLast:=by
 induction h with
 |nil=>exact .nil
 |cons r t O =>
  cases t with
  |nil=>exact .nil
  |cons q t'=>exact .cons r O
theorem Vals.eraseIdx:∀ {xs:List V}{us:List Value} (i:Nat),Vals xs us->Vals (xs.eraseIdx i) (us.eraseIdx i)
 |_,_,_,.nil=>.nil
 |_,_,0,.cons _ t=>t
 |_,_,i+1,.cons r t=>.cons r (Vals.eraseIdx i t)
theorem Vals.reverse  (h:Vals xs us):Vals xs.reverse us.reverse:=by
 induction h with
 |nil=>exact .nil
 |cons r t q=>rw[Z7,Z7];exact Vals.append q (.cons r .nil)
theorem Vals.rep  (h:Vals xs us):∀ k:Nat,Vals (List.replicate k xs).flatten (List.replicate k us).flatten
 |0=>.nil
 |k+1=>by
  rw[yv,yv,jo,jo];exact Vals.append h (Vals.rep h k)
theorem ad6  (l:List α):l.eraseIdx (l.length-1)=l.dropLast:=by
 induction l with
 |nil=>rfl
 |cons a r q =>
  cases r with
  |nil=>rfl
  |cons b r =>
   have e:(a::b::r).length-1=((b::r).length-1)+1:=by have h1:(a::b::r).length=r.length+2:=rfl;have h2:(b::r).length=r.length+1:=rfl;omega
   rw[e,List.eraseIdx_cons_succ,q]
   all_goals rfl
theorem L_2 (q:List Value):∀ (k:Nat) (O:List Value),
  List.foldl (λ Y x2=>Y++x2) O.toArray (List.replicate k q.toArray)=(O++(List.replicate k q).flatten).toArray
 |0,O=>by simp
 |k+1,O=>by
  have e:O.toArray++q.toArray=(O++q).toArray:=by simp
  have e2:(O++q)++(List.replicate k q).flatten=O++(List.replicate (k+1) q).flatten:=by rw[yv,jo,jx]
  rw[<- e2,<- L_2 q k (O++q),<- e,yv,List.foldl_cons]
section
variable {X:Cx}{pins:List (Addr×Obj)}{σ:St}{H:Hp}{s:Shared}{l b:Addr}{xs ys zs:List V}
theorem Inv.lset {O its':List Value} (I:Inv X pins σ H s) (hH:H l=some (.lst xs))
  (e:s.heap.get? l=some {cls:=.type "list",data:=.seq O.toArray n}) (Y:f O.toArray=its'.toArray) (hv:Vals ys its') (Z:ys.length ≤ sizeLine) :
  Inv X pins σ (upd H l (.lst ys)) {s with heap:=s.heap.update l (Obj.mapSeq f),toks:=t'}:=by
 have q:=PySem.IsL.update e f;rw[Y] at q;refine I.write (by rw[hH];exact trivial) (.inl rfl) (λ b' u hb hu=>(jq s.heap (Obj.mapSeq f) (yk hb)).trans hu) ⟨_,q⟩ ?_;exact⟨Z,its',_,hv,q⟩
theorem Inv.lnew  (I:Inv X pins σ H s) (Y:Vals ys O) (Z:ys.length<=sizeLine) :
  Inv X pins σ (upd H s.heap.objs.size (.lst ys)) {s with heap:=s.heap.push {cls:=.type "list",data:=.seq O.toArray},toks:=t'} :=
 I.laid (λ _ _ q=>qf _ q) (qj _) ⟨Z,O,0,Y,qk _ rfl⟩
theorem Inv.fresh (I:Inv X pins σ H s):H s.heap.objs.size=none:=I.hok.fresh (qj _)
theorem Inv.lstM (I:Inv X pins σ H s) (O:H l=some (.lst xs)):xs.length ≤ sizeLine ∧ ∃ (q:List Value) (n:Nat),Vals xs q ∧ xs.length=q.length ∧ s.heap.get? l=some {cls:=.type "list",data:=.seq q.toArray n}:=by obtain⟨z,q,n,r,e⟩:=I.hok l _ O;exact⟨z,q,n,r,r.length,e⟩
theorem V_6  (h:n<=sizeLine):Builtin.List.listTooLong n=false:=by exact zy (by omega)
end
section
def aR6:V->List V->Hp->VK->Prop:=λ x vs H Q=>∃ l xs y,x=.ref l/\vs=[y]/\H l=some (.lst xs)/\xs.length<sizeLine/\Q .non (upd H l (.lst (xs++[y])))
theorem am1:MtM X "list.append" aR6:=by intro pins s σ H x vs v us Q I Z rv h;obtain⟨l,xs,y,rfl,rfl,Y,hz,q⟩:=h;cases Z;obtain⟨u,rfl,ru⟩:=rv.one;obtain⟨z,O,n,r,hl,e⟩:=I.lstM Y;refine Qt F.slot_list_append ⟨_,e,rfl⟩ F.entry_list_append (F.args_list_append_2 _ _) (PySem.list_append l O.toArray n u (by rw[zc];omega)) ⟨e,?_⟩;refine⟨.non,_,I.lset Y e (by simp) (r.append (.cons ru .nil)) ?_,rfl,q⟩;rw[zh,Zl];omega
def aR5:V->List V->Hp->VK->Prop:=λ x vs H Q=>∃ l b xs zs,x=.ref l/\vs=[.ref b]/\H l=some (.lst xs)/\H b=some (.lst zs)/\xs.length+zs.length<=sizeLine/\Q .non (upd H l (.lst (xs++zs)))
theorem am0:MtM X "list.extend" aR5:=by
 intro pins s σ H x vs v us Q I rx rv h;obtain⟨l,b,xs,zs,rfl,rfl,hH,hB,hz,q⟩:=h;cases rx;obtain⟨u,rfl,ru⟩:=rv.one;cases ru;obtain⟨z,Y,n,r,hl,e⟩:=I.lstM hH;obtain⟨z2,O,n2,r2,aa,e2⟩:=I.lstM hB;have hsz:Y.toArray.size+O.toArray.size<=sizeLine:=by rw[zc,zc];omega
 have Z:¬ (!Y.toArray.isEmpty&&Builtin.List.listTooLong (Y.toArray.size+O.toArray.size))=true:=by rw[V_6 hsz,Y3];exact qp
 refine Qt F.slot_list_extend ⟨_,e,rfl⟩ F.entry_list_extend (F.args_list_extend_2 _ _)
  (AutoSeq1.list_extend_list_list_0 l Y.toArray n b O.toArray n2 Z (by rw[zc];omega) (by omega)) ⟨e,e2,?_⟩
 refine⟨.non,_,I.lset hH e (by simp) (r.append r2) ?_,rfl,q⟩;rw[zh];omega
def ch8:V->List V->Hp->VK->Prop:=λ x vs H Q=>∃ l xs y,x=.ref l/\vs=[]/\H l=some (.lst xs)/\xs[xs.length-1]?=some y/\Q y (upd H l (.lst xs.dropLast))
theorem bp5:MtM X "list.pop" ch8:=by
 intro pins s σ H x vs v us Q I rx rv h;obtain⟨l,xs,y,rfl,rfl,hH,hy,q⟩:=h;cases rx;have Y:=rv.zero;subst Y;obtain⟨z,O,n,r,hl,e⟩:=I.lstM hH;obtain⟨u,hu,ru⟩:=r.get hy;have Z:O.toArray[O.toArray.size-1]?=some u:=by show O.toArray[O.length-1]?=some u;rw[<- Yy,<- hl];exact hu
 refine Qt F.slot_list_pop ⟨_,e,rfl⟩ F.entry_list_pop (F.args_list_pop_1 _) (MeetsSeq.list_pop_last l O.toArray n u Z (by rw[zc];omega)) ⟨e,?_⟩;refine⟨y,_,I.lset hH e ?_ r.dropLast ?_,ru,q⟩
 ·rw[zc,List.eraseIdxIfInBounds_toArray,ad6]
 ·rw[List.length_dropLast];omega
def ch7:R2:=λ x y H Q=>∃ l k xs,x=.ref l/\y=.int k/\H l=some (.lst xs)/\-(2 ^ 63)<=k/\k<2 ^ 63/\xs.length*k.toNat<=sizeLine /\
 ∀ p,H p=none->Q (.ref p) (upd H p (.lst (List.replicate k.toNat xs).flatten))
theorem aV6  (xs:List α) (k:Nat):(List.replicate k xs).flatten.length=k*xs.length:=by
 induction k with
 |zero=>simp
 |succ k q=>rw[yv,jo,zh,q,Nat.succ_mul,Nat.add_comm]
theorem bn7:OpR X (binaryOp .Mult) ch7:=by
 intro pins s σ H x y v u Q I rx ry h;obtain⟨l,k,xs,rfl,rfl,hH,h1,h2,hz,q⟩:=h;cases rx;obtain⟨t,rfl⟩:=ry;obtain⟨z,O,n,r,hl,e⟩:=I.lstM hH;have Z:O.toArray.size*k.toNat<=sizeLine:=by rw[zc,<- hl];exact hz
 have ac:¬ O.toArray.size*k.toNat > (2 ^ 63-1) / 8:=by
  have:(sizeLine:Nat)<=(2 ^ 63-1) / 8:=by decide
  omega
 have aa:¬ (!Builtin.List.listFitsIndex k)=true:=by rw[fitsIndex_both h1 h2];exact qp
 have Y:¬ Builtin.List.listTooLong (O.toArray.size*k.toNat)=true:=by rw[V_6 Z];exact qp
 have ad:List.foldl (λ x1 x2=>x1++x2) #[] (List.replicate (if O.toArray.isEmpty=true then 0 else k.toNat) O.toArray)=(List.replicate k.toNat O).flatten.toArray:=by
  have f0:=λ m=>by
   have:=L_2 O m [];rw[Q7] at this;exact this
  rw[f0];cases O with
  |nil=>simp
  |cons a r'=>rw[if_neg (by simp)]
 refine wpAny_binaryOp_repeat_ref (by decide) ⟨_,e,rfl⟩ (λ s'=>typeIs_int s' k t) noFill_list_mul F.fills_int_mul F.slot_int_rmul repeat_list F.slot_int_index.lookup
  (Qt F.slot_int_rmul (typeIs_int s k t) F.entry_int_rmul (F.args_int_rmul_2 _ _) (int___rmul___int_list k t l O.toArray n)
   ⟨e,rfl,⟨_,e,rfl⟩,Qt F.slot_list_mul ⟨_,e,rfl⟩ F.entry_list_mul (F.args_list_mul_2 _ _) (AutoListH.list___mul___list_int_3 l O.toArray n k t aa ac Y) ⟨e,?_⟩⟩)
 rw[ad];exact⟨.ref _,_,I.lnew (r.rep k.toNat) (by rw[aV6,Nat.mul_comm];exact hz),rfl,q _ I.fresh⟩
end
end L2
namespace Att
open PySem PySem.W PySem.Calls PyProof.Rows
theorem x_1 :∀ (q:List Int) (vs:List Value),WellAll P h vs (q.map WData.int)->IntsAre vs q:=by
 intro q;induction q with
 |nil =>
  intro vs w;rw[Ql] at w;cases w;exact .nil
 |cons n q O =>
  intro vs w;rw[qz] at w;cases w with
  |cons a b =>
   cases a;exact .cons _ _ (O _ b)
theorem ah8 {l:OpenLaw} (hn:l.most=some n) 
  (Z:l.row.toRowW.claim.pre args=true) (ad:WellAll P h Y args) :
  ∃ a vs O,Y=[Value.ref a] ∧ args=[WData.list (O.map WData.int)] ∧ h.get? a=some {cls:=.type "list",data:=.seq vs.toArray} ∧ IntsAre vs O ∧ O.length ≤ n:=by
 have hsh:=(pre_splitW Z).1;have hc:l.pre.holds [] {args:=args}=true:=(pre_splitW Z).2;obtain⟨d,r,rfl,h1,h2⟩:=hasAllW_cons hsh;obtain rfl:=hasAllW_nil h2;obtain⟨xs,rfl,h3⟩:=hasW_list h1;obtain⟨O,rfl⟩:=items_int h3;have ac:O.length<=n:=by
  have h4:(WTm.not (.lt (.lit (.int (n:Int))) (.len (.arg 0)))).holds [] {args:=[.list (O.map .int)]}=true:=by have h4:=(holds_andW hc).1;rw[hn] at h4;exact h4
  have h5:=condW_of h4 (w_not (w_lt w_lit (w_len_list (w_arg rfl))));rw[qy] at h5;refine Zr λ q=>?_;have q':(n:Int)<((O.length:Nat):Int):=by omega
  first
   |(rw[yc q'] at h5;exact absurd h5 (by decide))
   |(simp at h5;omega)
 cases ad with
 |cons w1 w2 =>
  cases w2;cases w1 with
  |list ho aa=>exact⟨_,_,O,rfl,rfl,ho,x_1 O _ aa,ac⟩
theorem aj3 (l:OpenLaw) (args:List WData):l.row.toRowW.claim.post args (.bool true) args=true :=
 postW_of
  (show WShape.has [] (.bool true) .bool=true by first | rfl | decide | simp[WShape.has,WShape.arms,WShape.armsAll])
  (show (WTm.eq .res (.lit (.bool true))).value [] {args:=args,res:=some (.bool true),after:=args}=some (.bool (true==true)) from w_eq_bool (w_res rfl) w_lit) rfl
theorem attach_call {l:OpenLaw}
  (hn:l.most=some n) (ag:d.params.defaults=[])
  (call:∀ (w:World) (s₀ O:Shared) (mg mb:Str->Option Value) (fa:Addr) (o:Obj) (pm cd ac:Value) (a:Addr) (vs:List Value) (ns:List Int),
   Ground q Z [] XP w s₀ mg mb O.heap->YP w O.heap ->
   O.heap.get? fa=some o->o.data=.func (docDef d.name d.params d.body d.scope pm cd ac)->O.heap.CodeRec cd d.name->mg d.name=some (.ref fa) ->
   O.heap.get? a=some {cls:=.type "list",data:=.seq vs.toArray} → IntsAre vs ns → ns.length ≤ n → O.gens=#[] →
   codeAny (model l.prog w) callerA (.call (.ref fa) ⟨[.ref a],[]⟩) (λ r s'=>r=.ok (.ret (.bool true))/\OldK O.heap s'.heap/\s'.os=O.os/\AllBare s'.gens) O) :
  WalkO q Z XP YP l.row.toRowW d [] (λ f vs=>PySem.call f vs):=by
 intro w s₀ O mg mb G Y fa o pm cd ac dV kV ho hd aj hD ai hg args ak as af al am ah an;obtain rfl:dV=.none:=Dflts.none hD ag;obtain rfl:kV=.none:=Dflts.noKw hD;obtain⟨a,vs,ns,rfl,rfl,ae,aa,ad⟩:=ah8 hn af ah;refine enter_call (Qx (call w s₀ O mg mb fa o pm cd ac a vs ns G Y ho (fd_plain hd) aj ai ae aa ad hg) λ r s' hq=>?_);obtain⟨rfl,h2,h3,h4⟩:=hq;exact⟨.inl ⟨.bool true,.bool true,[],rfl,λ _=>rfl,.bool true,aj3 l _,λ _=>⟨List.Pairwise.nil,λ _ hm=>(nomatch hm)⟩⟩,h2,h3,h4⟩
end Att
namespace L2
open PySem PySem.Spec PyProof.Rows
theorem vals_ints:∀ {vs:List Value}{q:List Int},IntsAre vs q->Vals (q.map V.int) vs
 |_,_,.nil=>.nil
 |_,_,.cons n t h=>.cons ⟨t,rfl⟩ (vals_ints h)
def bR9 (H:Hp):Prop:=∀ b,H b=none\/∃ o xs,H b=some (.frz o (.lst xs))
theorem aC0 {K:Frag}
  (KX:K.In O.heap) (af:O.heap.Ns mainGlobals mg) (Z:O.heap.Ns builtinsNs mb) (al:∀ x:Str,x≠"__name__" → mb x=bootBuiltins x) (ag:O.heap.NoLimit) (hg:O.gens=#[])
  (ha:O.heap.get? a=some {cls:=.type "list",data:=.seq vs.toArray}) (hi:IntsAre vs ns) (hl:ns.length ≤ sizeLine) (hr:Room k callerA)
  (F:∀ base:Heap,K.In base->base.Ns mainGlobals mg->FnOk P w K mg base CX k fa fd [x] sp) (ad:∀ (s:Shared) (u:Value),BindsTo s fd ⟨[u],[]⟩ [(x,u)])
  (am:∀ H:Hp,bR9 H->SqL K H a (ns.map V.int)->sp [.ref a] H (λ v _=>v=.bl true) λ _ _ _=>False)
  (an:∀ H e s',CX [] H O (λ _ _ _=>False) e s'->False) :
  codeAny (model P w) callerA (.call (.ref fa) ⟨[.ref a],[]⟩) (λ r s'=>r=.ok (.ret (.bool true))/\OldK O.heap s'.heap/\s'.os=O.os/\AllBare s'.gens) O:=by
 have rv:=vals_ints hi;have aj:=hi.length;have ac:∀ H:Hp,bR9 H->SqL K H a (ns.map V.int)->HOk P w H O.heap->(∀ b,H b≠none->b=a)->(H a≠none->K.lookup a=none) ->
   codeAny (model P w) callerA (.call (.ref fa) ⟨[.ref a],[]⟩) (λ r s'=>r=.ok (.ret (.bool true))/\OldK O.heap s'.heap/\s'.os=O.os/\AllBare s'.gens) O:=by
  intro H hO hS ae hA hK;have Y:∀ {b:Addr}{o:Obj},O.heap.get? b=some o->H b=none->(aD2 O.heap H).get? b=some o:=λ e n=>aD1 e n;have ao:∀ {b:Addr}{o:Obj}{es:Array DictEntry}{ep:Nat},O.heap.get? b=some o->o.data=.dict es ep->H b=none:=λ {b o es ep} e d=>by
   cases q:H b with
   |none=>rfl
   |some u =>
    have e':=hA b (by rw[q];simp);subst e';rw[ha] at e;cases e;have d':=d;cases d'
  have aa:∀ {b:Addr}{m:Str->Option Value},O.heap.Ns b m->(aD2 O.heap H).Ns b m:=λ {b m} ⟨o,es,ep,e,d,r⟩=>⟨o,es,ep,Y e (ao e d),d,r⟩
  have ah:=λ b o e=>Y (KX b o e) (by
   cases q:H b with
   |none=>rfl
   |some u =>
    have e':=hA b (by rw[q];simp);subst e';rw[hK (by rw[q];simp)] at e;cases e)
  have hM:Mod K mg (aD2 O.heap H):=⟨ah,aa af,⟨mb,aa Z,al⟩,let ⟨mc,h1,h2⟩:=ag;⟨mc,aa h1,h2⟩⟩;have e0:Env0 P w K mg (aD2 O.heap H) callerA [] O H:=⟨rfl,hM,λ b o e=>aT7 e,Yn (ao3 _ _),trivial,λ b Z=>absurd (show b∈([]:List Addr) from Z) (by simp),ae,.of_eq hg⟩;refine Qx ((F _ ah (aa af)).run callerA [] O H ⟨[.ref a],[]⟩ [.ref a] [.ref a] _ _ hr e0 (ad O (.ref a)) (.cons rfl .nil) (am H hO hS)) λ r s' h=>?_;cases r with
  |error e=>exact (an H e s' h).elim
  |ok fl =>
   cases fl with
   |next=>exact False.elim h
   |brk=>exact False.elim h
   |cont=>exact False.elim h
   |ret u =>
    obtain⟨v,H',os,ak,un,ai,r',q⟩:=h;have q':=q;subst q';obtain rfl:u=Value.bool true:=r';refine⟨rfl,OldK.of_keep λ b o e=>?_,os,ak⟩;cases q:H b with
    |none=>exact un.keep b o e q (by intro z;exact absurd (show b∈([]:List Addr) from z) (by simp)) (by simp)
    |some u =>
     rcases hO b with z | ⟨ob,xs,z⟩
     ·rw[q] at z;cases z
     ·have z2:=un.frzs b ob _ z;obtain⟨e1,_⟩:=ae b _ z;obtain⟨e2,_⟩:=ai b _ z2;rw[e] at e1;cases e1;exact e2
 cases hk:K.lookup a with
 |some o =>
  have e:=KX a o hk;rw[ha] at e;cases e;refine ac (λ _=>none) (λ _=>.inl rfl) (.inr ⟨_,vs.toArray,_,hk,rfl,rfl,rfl,by rw[zc,aj];exact hl,by simpa using rv⟩) (λ b u z=>by have z':=z;cases z') (λ b z=>absurd rfl z) λ z=>absurd rfl z
 |none =>
  refine ac (λ b=>if b=a then some (.frz {cls:=.type "list",data:=.seq vs.toArray} (.lst (ns.map V.int))) else none) (λ b=>?_) (.inl (.inr ⟨{cls:=.type "list",data:=.seq vs.toArray},if_pos rfl⟩)) (λ b u z=>?_) (λ b z=>?_) λ _=>hk
  ·by_cases Z:b=a
   ·exact .inr ⟨_,_,if_pos Z⟩
   ·exact .inl (if_neg Z)
  ·by_cases Z:b=a
   ·have z':=(if_pos Z).symm.trans z;cases z';subst Z;exact⟨ha,by rw[qy];exact hl,vs,_,rv,ha⟩
   ·have z':=(if_neg Z).symm.trans z;cases z'
  ·by_cases Z:b=a
   ·exact Z
   ·exact absurd (if_neg Z) z
theorem walk_of {l:OpenLaw}{K:Params->Frag}{CX:World->CXT}{sp:World->Sp}
  (hn:l.most=some n) (af:n<=sizeLine) (ae:d.params.defaults=[]) (hr:Room k callerA)
  (hY:∀ (w:World) (h:Heap),YP w h->(K w.params).In h)
  (F:∀ (w:World) (mg:Str->Option Value) (fa:Addr) (h:Heap),(K w.params).In h->h.Ns mainGlobals mg->mg d.name=some (.ref fa) ->
   ∃ fd:FuncData,(∀ (s:Shared) (u:Value),BindsTo s fd ⟨[u],[]⟩ [(x,u)]) /\
    ∀ base:Heap,(K w.params).In base->base.Ns mainGlobals mg->FnOk l.prog w (K w.params) mg base (CX w) k fa fd [x] (sp w))
  (ah:∀ (w:World) (H:Hp) (a:Addr) (ns:List Int),ns.length<=n->bR9 H->SqL (K w.params) H a (ns.map V.int)->sp w [.ref a] H (λ v _=>v=.bl true) λ _ _ _=>False)
  (ai:∀ (w:World) (H:Hp) (s:Shared) (e:Value) (s':Shared),CX w [] H s (λ _ _ _=>False) e s'->False) :
  PySem.W.WalkO q aa XP YP l.row.toRowW d [] (λ f vs=>PySem.call f vs):=by
 refine Att.attach_call hn ae λ w s₀ ad mg mb fa o pm cd aj a vs ns G Y ho hd ak ag ac Z O hg=>?_;have KX:=hY w _ Y;obtain⟨fd,hb,hF⟩:=F w mg fa _ KX G.T.g ag;exact aC0 KX G.T.g G.T.b G.T.builtins G.T.nolimit hg ac Z (zo O af) hr hF hb (λ H hO hS=>ah w H a ns O hO hS) λ H e s'=>ai w H ad e s'
def o_8 (s:Stmt):Arguments:=match s with
 |.FunctionDef _ a _ _ _ _ _ _ _ _=>a
 |_=>{posonlyargs:=[],args:=[],vararg:=none,kwonlyargs:=[],kw_defaults:=[],kwarg:=none,defaults:=[]}
def h_3 (s:Stmt):List Stmt:=match s with
 |.FunctionDef _ _ b _ _ _ _ _ _ _=>b
 |_=>[]
def a_2 (s:Stmt):Scope:=match s with
 |.FunctionDef _ _ _ _ _ _ sc _ _ _=>sc
 |_=>{kind:=.function,names:=[],isGenerator:=false,isCoroutine:=false}
abbrev CX0:CXT:=λ _ _ _ _ _ _=>False
abbrev E0:XK:=λ _ _ _=>False
theorem bn4 :Z_6 CX0 X E0:=λ _ _ _ _ _ _ _ h=>h.elim
structure Fun (K:Frag) (x qual:Str) (st:Stmt) (f:Addr) (fd:FuncData):Prop where
 ex:∃ (oc:Value) (od:Option Addr) (kV doc pm:Value) (an:Option Addr) (cdv ct:Value) (osl:Array (Option Value)),
  fd=fnOf x qual (o_8 st) (h_3 st) (a_2 st) .none kV doc pm an cdv ct/\K.lookup f=some ⟨oc,od,.func fd,osl⟩/\codeIn K cdv qual=true
 kp:keepIn K (.ref f)=true
section
variable {K:Frag}
theorem Fun.ok {st:Stmt} (F:Fun K x qual st f fd) (S:FnScope N ps (a_2 st)) (Z:∀ vs H Q E,sp vs H Q E->vs.length=ps.length)
  (Y:∀ (O:Value) (A:Around) (outer:List Env) (s:Shared) (H:Hp) (vs:List V) (Q:VK) (E:XK),Room k (A.deeper (envOfC qual (a_2 st) s.heap.objs.size f O))->sp vs H Q E ->
   ∃ t,PSs (H_5 CX0 P w K mg base N qual (a_2 st) f O A outer s H E).nox (h_3 st) t/\t {nx:=λ _ H'=>Q .non H',rt:=Q} (start N vs) H):FnOk P w K mg base CX0 (k+1) f fd ps sp:=by
 obtain⟨oc,od,kV,ae,pm,an,O,ct,ad,rfl,lk,aa⟩:=F.ex;refine aY9 lk aa S Z λ A outer s H vs Q E hr ac=>?_;obtain⟨t,h,q⟩:=Y O A outer s H vs Q E hr ac;exact⟨t,h.nox,q⟩
theorem Fun.binds {st:Stmt} (F:Fun K x qual st f fd)
  (h:∀ (kV O Y:Value) (Z:Option Addr) (q ct:Value) (us:List Value),us.length=ps.length->bindArgs (fnOf x qual (o_8 st) (h_3 st) (a_2 st) .none kV O Y Z q ct) ⟨us,[]⟩=pure (ps.zip us)):Binds K fd ps []:=by
 obtain⟨oc,od,kV,O,Y,Z,q,ct,aa,rfl,lk,ac⟩:=F.ex;exact .all (h kV O Y Z q ct)
theorem ao6 {st:Stmt}{kV O Z q ct:Value} (l:K.lookup f=some ⟨oc,od,.func (fnOf x qual (o_8 st) (h_3 st) (a_2 st) .none kV O Z an q ct),Y⟩)
  (c:codeIn K q qual=true) (k:keepIn K (.ref f)=true):Fun K x qual st f (fnOf x qual (o_8 st) (h_3 st) (a_2 st) .none kV O Z an q ct):=⟨⟨oc,od,kV,O,Z,an,q,ct,Y,rfl,l,c⟩,k⟩
end
theorem ad3  (q:Room k A):A.units+1<cLine:=Nat.lt_of_le_of_lt (Nat.add_le_add_left (by decide:1<=64) _) q.units
theorem v_2  (h:n<=1000):n<sizeLine:=Nat.lt_of_le_of_lt h (by decide)
section
theorem pv (i:Nat)  (Y:X.N[i]?=some x:=by rfl) (O:Vis X.env.scope x:=by first | exact Or.inl rfl | exact Or.inr (Or.inl rfl) | exact Or.inr (Or.inr rfl)) (hd:(x==("__debug__":Str))=false:=by decide)
  (q:(x==("__classdict__":Str))=false:=by decide):PE X (.Name x pos) (bT1 i):=n_4 Y O hd q
end
theorem ck5 {A B:Prop} (h:B):if false=true then A else B:=by rw[if_neg zu];exact h
theorem bW4 {A B:Prop} (h:A):if true=true then A else B:=by rw[if_pos rfl];exact h
def Same (H H':Hp):Prop:=∀ b o,H b=some o->H' b=some o
theorem Same.refl (H:Hp):Same H H:=λ _ _ h=>h
theorem Same.trans  (a:Same H H1) (b:Same H1 H2):Same H H2:=λ c o h=>b c o (a c o h)
theorem Same.free  (e:Same H H')  (h:H' l=Option.none):H l=Option.none:=by
 cases q:H l with
 |none=>rfl
 |some o =>
  rw[e l o q] at h;cases h
theorem Same.seq {K:Frag} (e:Same H H') (h:SqL K H a xs):SqL K H' a xs:=by
 rcases h with (h | ⟨o,h⟩) | h
 ·exact .inl (.inl (e _ _ h))
 ·exact .inl (.inr ⟨o,e _ _ h⟩)
 ·exact .inr h
section
variable {κ:Type} [DecidableEq κ]
def H_9 (kvs:List (κ×V)) (k:κ):Option V:=(kvs.find? λ q=>decide (q.1=k)).map (·.2)
def I_9 (kvs:List (κ×V)) (k:κ) (v:V):List (κ×V) :=
 if (kvs.any λ q=>decide (q.1=k))=true then kvs.map (λ q=>if q.1=k then (q.1,v) else q) else kvs++[(k,v)]
def cm8 (kvs:List (κ×V)) (k:κ):List (κ×V):=kvs.filter λ q=>decide (q.1≠k)
theorem u_0 {k:κ} (e:p.1=k):H_9 (p::r) k=some p.2:=by simp[H_9,e]
theorem m_4 {k:κ} (e:¬ p.1=k):H_9 (p::r) k=H_9 r k:=by simp[H_9,e]
theorem u_1 (k:κ):∀ kvs:List (κ×V),(kvs.any λ q=>decide (q.1=k))=(H_9 kvs k).isSome
 |[]=>rfl
 |p::r=>by
  rw[Q5];by_cases e:p.1=k
  ·simp only[u_0 e,yc e,Bool.true_or,Option.isSome_some]
  ·rw[m_4 e,zy e,Bool.false_or];exact u_1 k r
theorem w_6 (kvs:List (κ×V)) (k:κ) (v:V):(I_9 kvs k v).length<=kvs.length+1:=by
 unfold I_9;split
 ·rw[qy];omega
 ·rw[zh,zj,Yv];omega
theorem az7 {k:κ} (v:V) (h:H_9 kvs k=none):I_9 kvs k v=kvs++[(k,v)]:=by unfold I_9;rw[u_1,h];exact if_neg (by decide)
theorem RelO.isSome_eq  (r:RelO o u):o.isSome=u.isSome:=by
 cases o with
 |none=>cases u with
  |none=>rfl
  |some _=>exact (show False from r).elim
 |some _=>cases u with
  |none=>exact (show False from r).elim
  |some _=>rfl
theorem RelO.getD  (r:RelO o u) (rd:RelV d d'):RelV (o.getD d) (u.getD d'):=by
 cases o with
 |none=>cases u with
  |none=>exact rd
  |some _=>exact (show False from r).elim
 |some _=>cases u with
  |none=>exact (show False from r).elim
  |some _=>exact r
theorem KV.val  (r:KV kvs vs) (k:κ):RelO (H_9 kvs k) (valueAt vs k):=by
 induction r with
 |nil=>exact Zq
 |@cons p q ps qs h t Y =>
  obtain⟨h1,h2⟩:=h;by_cases e:p.1=k
  ·have O:=h1.symm.trans e;have b:valueAt (q::qs) k=some q.2:=by simp[valueAt,O]
   rw[u_0 e,b];exact h2
  ·have O:¬ q.1=k:=λ z=>e (h1.trans z);have b:valueAt (q::qs) k=valueAt qs k:=by simp[valueAt,O]
   rw[m_4 e,b];exact Y
theorem KV.any  (r:KV kvs vs) (k:κ):(kvs.any λ q=>decide (q.1=k))=vs.any λ q=>decide (q.1=k):=by
 induction r with
 |nil=>rfl
 |cons h t O=>rw[Q5,Q5,O,h.1]
theorem KV.repl  (r:KV kvs vs) (k:κ)  (Z:RelV y u) :
  KV (kvs.map λ O=>if O.1=k then (O.1,y) else O) (vs.map λ O=>if O.1=k then (O.1,u) else O):=by
 induction r with
 |nil=>exact .nil
 |@cons p q ps qs h t Y =>
  rw[qz,qz];refine .cons ?_ Y;obtain⟨h1,h2⟩:=h;by_cases e:p.1=k
  ·rw[if_pos e,if_pos (h1.symm.trans e)];exact⟨h1,Z⟩
  ·rw[if_neg e,if_neg (λ z=>e (h1.trans z))];exact⟨h1,h2⟩
theorem KV.put  (r:KV kvs vs) (k:κ)  (q:RelV y u):KV (I_9 kvs k y) (stored vs k u):=by
 unfold I_9 stored;rw[r.any k];by_cases e:(vs.any λ O=>decide (O.1=k))=true
 ·rw[if_pos e,if_pos e];exact r.repl k q
 ·rw[if_neg e,if_neg e];exact Paired.snoc r ⟨rfl,q⟩
theorem KV.length  (r:KV kvs vs):kvs.length=vs.length:=Y9 r
end
theorem ac9  (r:RelV (kV k) u):(e_5 P w).is k u=true:=by
 cases k with
 |inl i=>obtain⟨t,e⟩:=(show ∃ t,u=Value.int i t from r);subst e;exact P_9 P w i t
 |inr x=>obtain⟨t,e⟩:=(show ∃ t,u=Value.str x t from r);subst e;exact o_4 P w x t
theorem K_9 :∀ {ks:List Key}{us:List Value},Vals (ks.map kV) us->ItemsAre (e_5 P w) ks us
 |[],_,r=>by rw[Ql] at r;cases r;exact .nil
 |k::ks,_,r=>by
  rw[qz] at r;cases r with
  |cons h t=>exact .cons (ac9 h) (K_9 t)
abbrev KT (H:Hp):List (List Key×V)->List (List Key×Addr×Value)->Prop:=Paired λ p q=>p.1=q.1/\H q.2.1=some (.tup (p.1.map kV))/\RelV p.2 q.2.2
theorem KT.val  (r:KT H kvs xs) (k:List Key):RelO (H_9 kvs k) ((atKey xs k).map (·.2)):=by
 induction r with
 |nil=>exact Zq
 |@cons p q ps qs h t Y =>
  obtain⟨h1,_,h2⟩:=h;by_cases e:p.1=k
  ·have O:=h1.symm.trans e;have b:atKey (q::qs) k=some q.2:=by simp[atKey,O]
   rw[u_0 e,b];exact h2
  ·have O:¬ q.1=k:=λ z=>e (h1.trans z);have b:atKey (q::qs) k=atKey qs k:=by simp[atKey,O]
   rw[m_4 e,b];exact Y
theorem KT.repl  (r:KT H kvs xs) (k:List Key)  (Z:RelV y u) :
  KT H (kvs.map λ O=>if O.1=k then (O.1,y) else O) (xs.map (putAt k u)):=by
 induction r with
 |nil=>exact .nil
 |@cons p q ps qs h t Y =>
  rw[qz,qz];refine .cons ?_ Y;obtain⟨h1,h2,h3⟩:=h;unfold putAt;by_cases e:p.1=k
  ·rw[if_pos e,if_pos (h1.symm.trans e)];exact⟨h1,h2,Z⟩
  ·rw[if_neg e,if_neg (λ z=>e (h1.trans z))];exact⟨h1,h2,h3⟩
theorem KT.put  (r:KT H kvs xs) (k:List Key)  (Z:H b=some (.tup (k.map kV))) (O:RelV y u) :
  KT H (I_9 kvs k y) (storedH xs k b u):=by
 have e:(kvs.any λ Y=>decide (Y.1=k))=(atKey xs k).isSome:=by rw[u_1,(r.val k).isSome_eq,Je]
 unfold I_9 storedH;rw[e];by_cases q:(atKey xs k).isSome=true
 ·rw[if_pos q,if_pos q];exact r.repl k O
 ·rw[if_neg q,if_neg q];exact Paired.snoc r ⟨rfl,Z,O⟩
theorem KT.keeps  (r:KT H kvs xs) (q:∀ b ys,H b=some (.tup ys)->H' b=some (.tup ys)):KT H' kvs xs :=
 Paired.mapP r λ _ _ z=>⟨z.1,q _ _ z.2.1,z.2.2⟩
section
theorem bl2  (ok:HOk P w H h) (e:Rd H a u):ObjOk P w H h a u:=e.ok ok
theorem aE5  (ok:HOk P w H h) (e:Rd H a (.dK kvs)):kvs.length<=sizeLine/\(a==sysModules)=false/\∃ vs,KV kvs vs/\h.DictOf (e_5 P w) a vs :=
 show ObjOk P w H h a (.dK kvs) from bl2 ok e
theorem bu3  (ok:HOk P w H h) (e:H a=some (.dK kvs)):kvs.length<=sizeLine/\(a==sysModules)=false/\∃ vs,KV kvs vs/\h.DictOf (e_5 P w) a vs:=aE5 ok (.inl e)
theorem W_4  (ok:HOk P w H h) (e:H a=some (.tup (ks.map kV))):(tupleKind (e_5 P w)).is h ks a:=by obtain⟨_,q,r,o,h1,h2,⟨n,O⟩,_⟩:=(show ObjOk P w H h a (.tup (ks.map kV)) from ok a _ e);exact⟨o,q.toArray,n,h1,h2,O,by simpa using K_9 r⟩
theorem aE3  (ok:HOk P w H h) (e:Rd H a (.dT kvs)):kvs.length<=sizeLine/\(a==sysModules)=false /\
  ∃ xs,KT H kvs xs/\h.DictOfH (tupleKind (e_5 P w)) a xs:=by
 obtain⟨z,y,xs,r,o,es,ep,h1,h2,h3,Z,h5⟩:=(show ObjOk P w H h a (.dT kvs) from bl2 ok e);refine⟨z,y,xs,r,o,es,ep,h1,h2,h3,Z,λ x O=>?_,h5⟩;have all:∀ {l:List (List Key×V)}{m:List (List Key×Addr×Value)},KT H l m->∀ x∈m,(tupleKind (e_5 P w)).is h x.1 x.2.1:=by
  intro l m q;induction q with
  |nil=>intro x O;exact nomatch O
  |@cons p q ps qs Y t ih =>
   intro x O;rcases qw O with e | O
   ·subst e;exact W_4 ok (by rw[<- Y.1];exact Y.2.1)
   ·exact ih x O
 exact all r x O
theorem bP0  (ok:HOk P w H h) (e:H a=some (.dT kvs)):kvs.length<=sizeLine/\(a==sysModules)=false /\
  ∃ xs,KT H kvs xs/\h.DictOfH (tupleKind (e_5 P w)) a xs:=aE3 ok (.inl e)
end
def DGet (H:Hp) (a:Addr) (y:V) (r:Option V):Prop :=
 (∃ kvs k,Rd H a (.dK kvs)/\y=kV k/\r=H_9 kvs k)\/∃ kvs k b,Rd H a (.dT kvs)/\y=.ref b/\H b=some (.tup (k.map kV))/\r=H_9 kvs k
def DPut (H:Hp) (a:Addr) (y v:V) (H':Hp):Prop :=
 (∃ kvs k,H a=some (.dK kvs)/\y=kV k/\kvs.length<sizeLine/\H'=upd H a (.dK (I_9 kvs k v))) \/
 ∃ kvs k b,H a=some (.dT kvs)/\y=.ref b/\H b=some (.tup (k.map kV))/\kvs.length<sizeLine/\H'=upd H a (.dT (I_9 kvs k v))
theorem DGet.k {H:Hp}{a:Addr}{kvs:List (Key×V)}{k:Key} (e:H a=some (.dK kvs)):DGet H a (kV k) (H_9 kvs k):=.inl ⟨kvs,k,.inl e,rfl,rfl⟩
theorem DGet.t {k:List Key} (e:H a=some (.dT kvs)) (q:H b=some (.tup (k.map kV))):DGet H a (.ref b) (H_9 kvs k):=.inr ⟨kvs,k,b,.inl e,rfl,q,rfl⟩
theorem DPut.k {H:Hp}{a:Addr}{kvs:List (Key×V)}{k:Key}{v:V} (e:H a=some (.dK kvs)) (hl:kvs.length<sizeLine):DPut H a (kV k) v (upd H a (.dK (I_9 kvs k v))):=.inl ⟨kvs,k,e,rfl,hl,rfl⟩
theorem DPut.t {k:List Key} (e:H a=some (.dT kvs)) (q:H b=some (.tup (k.map kV))) (hl:kvs.length<sizeLine) :
  DPut H a (.ref b) v (upd H a (.dT (I_9 kvs k v))):=.inr ⟨kvs,k,b,e,rfl,q,hl,rfl⟩
section
variable {X:Cx}{pins:List (Addr×Obj)}{σ:St}{H:Hp}{s:Shared}{a:Addr}{y v:V}{u r:Value}{o:Option V}{A:Around}{E:Value->Shared->Prop}
theorem Inv.big (I:Inv X pins σ H s):sysModules<s.heap.objs.size:=by have h:=(I.mod.glob.keeps I.bk).lt;exact Jf (by decide) h
theorem aq6  (hu:A.units+1<cLine) (I:Inv X pins σ H s) (g:DGet H a y (some v)) (ry:RelV y u) (h:∀ Y s',Inv X pins σ H s'->RelV v Y->Q Y s') :
  wpAny (model X.prog X.w) A (getItem (.ref a) u) Q E s:=by
 rcases g with ⟨kvs,k,e,ey,l⟩ | ⟨kvs,k,b,e,ey,eb,l⟩
 ·subst ey;obtain⟨z,hd,vs,O,dd⟩:=aE5 I.hok e;obtain⟨Y,hw,q⟩:=RelO.some_of (by rw[l];exact O.val k);exact wpAny_getItem_of (ac9 ry) dd.mapOf hw (h Y _ (I.tok _) q)
 ·subst ey;cases (show u=Value.ref b from ry);obtain⟨z,hd,xs,O,dd⟩:=aE3 I.hok e;obtain⟨Y,hw,q⟩:=RelO.some_of (by rw[l];exact O.val k);obtain⟨p,hp,Z⟩:=Option.map_eq_some_iff.mp hw;refine wpAny_getItem_heap (tupleKind_room_in1 hu) (W_4 I.hok eb) dd hp ?_;rw[Z];exact h Y _ (I.tok _) q
theorem cn1  (Z:A.units+1<cLine) (I:Inv X pins σ H s) (g:DGet H a y o) (Y:RelV y u) (h:∀ s',Inv X pins σ H s'->Q (.bool o.isSome) s') :
  wpAny (model X.prog X.w) A (compareOp .In u (.ref a)) Q E s:=by
 rcases g with ⟨kvs,k,e,ey,l⟩ | ⟨kvs,k,b,e,ey,eb,l⟩
 ·subst ey;obtain⟨z,hd,vs,O,dd⟩:=aE5 I.hok e;refine wpAny_in_of (ac9 Y) hd dd.mapOf ?_;rw[<- (O.val k).isSome_eq,<- l];exact h _ (I.tok _)
 ·subst ey;cases (show u=Value.ref b from Y);obtain⟨z,hd,xs,O,dd⟩:=aE3 I.hok e;refine wpAny_in_heap (tupleKind_room_in1 Z) (W_4 I.hok eb) hd dd ?_;have q:=(O.val k).isSome_eq;rw[Je] at q;rw[<- q,<- l];exact h _ (I.tok _)
theorem aq4  (I:Inv X pins σ H s) (O:Mut (H a)) (Y:Heap.SameBut a s.heap h') (Z:∃ q,h'.get? a=some q) (new:ObjOk X.prog X.w (upd H a ob) h' a ob) :
  Inv X pins σ (upd H a ob) {s with heap:=h',toks:=t'} :=
 I.write O (.inl rfl) (λ b q hb z=>(Y.2 b hb).trans z) Z new
theorem bu4  (z:kvs.length<=sizeLine) (hd:(a==sysModules)=false) (q:KV kvs vs) (dd:h'.DictOf (e_5 P w) a vs) :
  ObjOk P w H' h' a (.dK kvs):=⟨z,hd,vs,q,dd⟩
theorem aq5  (hu:A.units+1<cLine) (I:Inv X pins σ H s) (g:DPut H a y v H') (ry:RelV y u) (rv:RelV v r) (h:∀ s',Inv X pins σ H' s'->Q () s') :
  wpAny (model X.prog X.w) A (setItem (.ref a) u r) Q E s:=by
 rcases g with ⟨kvs,k,e,ey,l,eH⟩ | ⟨kvs,k,b,e,ey,eb,l,eH⟩
 ·subst ey eH;obtain⟨z,hd,vs,O,dd⟩:=bu3 I.hok e;have hz:vs.length<=sizeLine:=by rw[<- O.length];exact z
  have hl:(I_9 kvs k v).length<=sizeLine:=by have:=w_6 kvs k v;omega
  refine wpAny_setItem_pairs (ac9 ry) dd λ h' Y hs=>h _ ?_;have he:∃ q,h'.get? a=some q:=let ⟨q,_,_,Z,_⟩:=Y;⟨q,Z⟩;exact aq4 I (by rw[e];exact Zq) hs he (bu4 hl hd (O.put k rv) Y)
 ·subst ey eH;cases (show u=Value.ref b from ry);obtain⟨z,hd,xs,O,dd⟩:=bP0 I.hok e;have hz:xs.length<=sizeLine:=by rw[<- Y9 O];exact z
  have hl:(I_9 kvs k v).length<=sizeLine:=by have:=w_6 kvs k v;omega
  refine wpAny_setItem_heap (tupleKind_room_in1 hu) (W_4 I.hok eb) dd λ h' Y hs=>h _ ?_;obtain⟨q,es,ep,Z,h2,h3,h4,_,h5⟩:=Y;refine aq4 I (by rw[e];exact Zq) hs ⟨q,Z⟩ ⟨hl,hd,_,(O.put k eb rv).keeps λ c ys ec=>?_,q,es,ep,Z,h2,h3,h4,h5⟩;rw[a_8 (bK3 ec e (λ z=>nomatch z))];exact ec
end
def bC4 (i:Expr):Prop:=∀ q O,subscripted i false q O=operate [q,O] (getItem q O)
theorem ah2 {T id:String}
  (hl:typeLookup (.type T) "__getitem__"=pure (some (.builtin id))) (hs:bC4 q)
  (h:wpAny (model prog w) A (eval value env) (λ o Z=>wpAny (model prog w) A (eval q env) (λ i O=>O.TypeIs o T/\wpAny (model prog w) A (getItem o i) Q E O) E Z) E s) :
  wpAny (model prog w) A (eval (.Subscript value q pos) env) Q E s:=by
 refine Subscript_ (z0 h (λ o Z ae=>z0 ae (λ i O Y=>?_) λ _ _ x=>x) λ _ _ x=>x);obtain⟨hT,Y⟩:=Y;refine qb ?_;rw[getitemInPython_of_ne hT.not_modules];refine qb (wpAny_specialOf hT hl ?_);have ac:wpAny (model prog w) A (subscripted q false o i) (λ r aa=>wpAny (model prog w) A (letTemporaryGo value o r >>= λ _=>pure r) Q E aa) E O:=by rw[hs o i];exact wpAny_operating (z0 Y (λ r aa ad=>qb (wpAny_letTemporaryGo (qc ad))) λ _ _ x=>x)
 first
  |exact qc (qb ac)
  |exact qb (qc (qb ac))
  |exact qb ac
theorem R_4  (I:Inv X pins σ H s) (g:DGet H a y o):s.TypeIs (.ref a) "dict":=by
 rcases g with ⟨kvs,k,e,_,_⟩ | ⟨kvs,k,b,e,_,_,_⟩
 ·obtain⟨_,_,vs,_,dd⟩:=aE5 I.hok e;exact dd.typeIs
 ·obtain⟨_,_,xs,_,dd⟩:=aE3 I.hok e;exact dd.typeIs
def bE0 (td ty:TE):TE:=λ σ H Q=>td σ H λ x H1=>ty σ H1 λ y H2=>∃ a v,x=.ref a/\DGet H2 a y (some v)/\Q v H2
def bG4 (td ty tv:TE):TS:=λ D σ H=>tv σ H λ v H1=>td σ H1 λ x H2=>ty σ H2 λ y O=>∃ a q,x=.ref a/\DPut O a y v q/\D.nx σ q
section
theorem aT0 (hu:X.A.units+1<cLine) (ho:PE X o td) (hi:PE X i ty) (hs:bC4 i):PE X (.Subscript o i pos) (bE0 td ty):=by intro pins s σ H Q I h;refine ah2 PySem.F.slot_dict_getitem.lookup hs (thn (ho pins s σ H _ I h) λ u s1 ⟨x,H1,I1,Z,q1⟩=>thn (hi pins s1 σ H1 _ I1 q1) λ iv s2 q=>?_);obtain⟨y,H2,Y,ry,a,v,ex,g,q2⟩:=q;subst ex;obtain rfl:u=Value.ref a:=Z;exact⟨R_4 Y g,aq6 hu Y g ry λ w' s3 I3 O=>⟨v,H2,I3,O,q2⟩⟩
theorem aS6 (hu:X.A.units+1<cLine) (ho:PE X o td) (hi:PE X i ty) (hv:PE X value tv) (Y:swapsWith value (some (.Subscript o i pos')) pos.line X.env=pure false) :
  PS X (.Assign [.Subscript o i pos'] value pos) (bG4 td ty tv):=by
 intro pins s σ H D I h;refine wpAny_Assign_Subscript (thn (hv pins s σ H _ I h) λ r s1 ⟨v,H1,I1,O,Z⟩=>thn (ho pins s1 σ H1 _ I1 Z) λ u s2 ⟨x,H2,I2,rx,q2⟩=>thn (hi pins s2 σ H2 _ I2 q2) λ iv s3 q=>?_) Y;obtain⟨y,H3,I3,ry,a,H4,ex,g,q3⟩:=q;subst ex;obtain rfl:u=Value.ref a:=rx;exact aq5 hu I3 g ry O λ s4 I4=>⟨σ,H4,I4,q3⟩
end
theorem aE6  (h:Heap) (q:sysModules<h.objs.size):ObjOk P w H (h.push {cls:=.type "dict",data:=.dict #[]}) h.objs.size (.dK []) :=
 ⟨yi _,beq_eq_false_iff_ne.mpr (yk (qv q)),[],.nil,Heap.DictOf.new h⟩
def bi9:TE:=λ _ H Q=>∀ p,H p=none->Q (.ref p) (upd H p (.dK []))
section
theorem aA6:PE X (.Dict [] [] pos) bi9:=λ pins s σ H Q I h =>
 wpAny_Dict_empty ⟨.ref s.heap.objs.size,_,I.laid (λ _ _ q=>qf _ q) (qj _) (aE6 s.heap I.big),rfl,h _ (I.hok.fresh (qj _))⟩
end
abbrev VV:List (V×V)->List (Value×Value)->Prop:=Paired λ p q=>RelV p.1 q.1/\RelV p.2 q.2
structure M1 (X:Cx) (o:Expr) (m:Str) (apos:Pos) (e:Expr) (cpos:Pos):Prop where
 base:attributeBase o m X.env (eval o X.env)=eval o X.env
 few:((backTo cpos (starEach [e] X.env)).all (λ x=>!x.1)&&(backToKw cpos (keywordEach [] X.env)).all (λ x=>x.1.isSome)
  && decide (([e]:List Expr).length+([]:List Keyword).length+(if ([]:List Keyword).isEmpty then 0 else 1)<30))=true
 line:(apos.endLine==cpos.line)=true
 trees:backTo cpos (starEach [e] X.env)=[(false,eval e X.env)]
structure M2 (X:Cx) (o:Expr) (m:Str) (apos:Pos) (e f:Expr) (cpos:Pos):Prop where
 base:attributeBase o m X.env (eval o X.env)=eval o X.env
 few:((backTo cpos (starEach [e,f] X.env)).all (λ x=>!x.1)&&(backToKw cpos (keywordEach [] X.env)).all (λ x=>x.1.isSome)
  && decide (([e,f]:List Expr).length+([]:List Keyword).length+(if ([]:List Keyword).isEmpty then 0 else 1)<30))=true
 line:(apos.endLine==cpos.line)=true
 trees:backTo cpos (starEach [e,f] X.env)=[(false,eval e X.env),(false,eval f X.env)]
end L2
namespace Att
open PySem PySem.W PySem.Calls PyProof.Rows
end Att
namespace L2
open PySem PySem.Spec PyProof.Rows
theorem t_8 {n:Nat} (h:a<n) (h':n<=b):a≠b:=qv (qt h h')
theorem aK4 {n:Nat} (h:a<n) (h':n<=b):b≠a:=(t_8 h h').symm
def L_9 (cells:List (Str×Addr)):List (Str×NameKind)->List (Str×Addr)->List (Str×Addr)
 |[],acc=>acc
 |(n,k)::r,acc=>L_9 cells r (if (k==NameKind.free)=true then (n,(cells.lookup n).getD 0)::acc else acc)
theorem s_2 :∀ (l:List (Str×NameKind)) (q:List (Str×Addr)),(∀ y∈l,y.2=.free->∃ c,env.cells.lookup y.1=some c) ->
  (forIn l q λ y (cs:List (Str×Addr))=>(match y with
   |(name,kind)=>if (kind==NameKind.free)=true then do let c <- cellOf env name;pure (ForInStep.yield ((name,c)::cs)) else pure (ForInStep.yield cs):Sem _))=pure (L_9 env.cells l q)
 |[],q,_=>rfl
 |(n,k)::r,q,h=>by
  rw[Zz];unfold L_9;by_cases e:(k==NameKind.free)=true
  ·have Y:k=NameKind.free:=by simpa using e
   obtain⟨c,Z⟩:=h (n,k) qg Y;simp only[e,Jc,cellOf,Z,pure_bind,Option.getD_some];exact s_2 r _ λ y O=>h y (qh _ O)
  ·simp only[e,if_false];exact s_2 r _ λ y O=>h y (qh _ O)
theorem s_3  (h:∀ y∈sc.names,y.2=.free->∃ c,env.cells.lookup y.1=some c):closureFor sc env=pure (L_9 env.cells sc.names []):=by have e:=s_2 sc.names [] h;exact (bind_pure _).trans e
theorem G_4 :∀ (l:List (Str×NameKind)) (O:List (Str×Addr)),(∀ y∈l,y.2=.free->∃ c,cells.lookup y.1=some c) ->
  (L_9 cells l O).lookup y=some c->cells.lookup y=some c\/O.lookup y=some c
 |[],O,_,e=>.inr e
 |(n,k)::r,O,h,e=>by
  have hr:=λ y hy=>h y (qh _ hy);rcases G_4 r _ hr e with q | q
  ·exact .inl q
  ·by_cases z:(k==NameKind.free)=true
   ·rw[if_pos z] at q;rw[Qj] at q;cases hb:y==n with
    |true =>
     rw[hb] at q;obtain⟨c',Z⟩:=h (n,k) qg (by simpa using z);have Y:=Z;rw[Y] at q;have e1:y=n:=by simpa using hb
     have q':c'=c:=qi q;exact .inl (by rw[e1,Y,q'])
    |false =>
     rw[hb] at q;exact .inr q
   ·rw[if_neg z] at q;exact .inr q
theorem q_7 :∀ (l:List (Str×NameKind)) (q:List (Str×Addr)),((y,NameKind.free)∈l\/∃ c,q.lookup y=some c)->∃ c,(L_9 cells l q).lookup y=some c
 |[],q,h=>by
  rcases h with h | h
  ·cases h
  ·exact h
 |(n,k)::r,q,h=>by
  have O:∀ v:Addr,(∃ c,q.lookup y=some c)->∃ c,((n,v)::q).lookup y=some c:=λ v Y=>by
   obtain⟨c,Z⟩:=Y;rw[Qj];cases y==n with
   |true=>exact⟨v,rfl⟩
   |false=>exact⟨c,Z⟩
  rcases h with h | h
  ·rcases qw h with e | h
   ·have e1:=jm Prod.fst e;have e2:=jm Prod.snd e;subst e1 e2;refine q_7 r _ (.inr ?_);rw[if_pos (by rfl)];refine⟨(cells.lookup y).getD 0,?_⟩;rw[Qj];simp
   ·exact q_7 r _ (.inl h)
  ·refine q_7 r _ (.inr ?_);split
   ·exact O _ h
   ·exact h
theorem I_7  (hc:∀ z∈scope.names,z.2≠.cell) (h:(relabel scope env).names.lookup y=some k) (Y:k=.cell\/k=.free):(y,NameKind.free)∈scope.names:=by
 have m:=j2 h;obtain⟨⟨n,O⟩,q,e⟩:=List.mem_map.mp m;dsimp only at e;split at e
 ·rename_i z;have e1:=jm Prod.fst e;have Z:O=NameKind.free:=by simp only[zk] at z;simpa using z.1.1
  subst e1 Z;exact q
 ·have e1:=jm Prod.fst e;have e2:O=k:=jm Prod.snd e;subst e1 e2;rcases Y with z | z
  ·exact absurd z (hc _ q)
  ·rw[z] at q;exact q
theorem A_5 {env:Env} (Y:env.scope.kind=.function):∀ {names:List (Str×NameKind)}{y:Str},names.lookup y=some .free->env.kindOf y=some .cell ->
  (names.map λ (n,k)=>if (k==NameKind.free&&env.scope.kind==.function&&env.kindOf n==some .cell) then (n,NameKind.cell) else (n,k)).lookup y=some .cell
 |[],_,h,_=>by simp at h
 |(n,k)::r,y,h,hk=>by
  have O:=@A_5 env Y r y;rw[qz];cases q:y==n with
  |true =>
   have e:y=n:=by simpa using q
   subst e;rw[Qj,q] at h;have h':=qi h;subst h';simp[Y,hk]
  |false =>
   rw[Qj,q] at h;show List.lookup y ((if (k==NameKind.free&&env.scope.kind==.function&&env.kindOf n==some .cell)=true then (n,NameKind.cell) else (n,k))::_)=_;by_cases z:(k==NameKind.free&&env.scope.kind==.function&&env.kindOf n==some .cell)=true
   ·rw[if_pos z,Qj,q];exact O h hk
   ·rw[if_neg z,Qj,q];exact O h hk
structure ScB (N:List Str) (sc scope:Scope) (x:Str) (frees:List Str) (js:List Nat):Prop where
 kind:scope.kind=.function
 fk:sc.kind=.function
 cells:∀ y∈scope.names,y.2≠.cell
 locs:∀ y∈scope.names,y.2=.local->scope.names.lookup y.1=some .local
 own:scope.names.lookup x=some .local
 fr:∀ y∈scope.names,y.2=.free->sc.names.lookup y.1=some .cell
 nd:(x::frees).Nodup
 ln:frees.length=js.length
 zp:∀ p∈frees.zip js,N[p.2]?=some p.1/\sc.names.lookup p.1=some .cell/\scope.names.lookup p.1=some .free
def cxB (X:Cx) (N:List Str) (scope:Scope) (s:Shared) (H:Hp) (C:Addr) (fp:List Addr):Cx where
 prog:=X.prog
 w:=X.w
 K:=X.K
 mg:=X.mg
 base:=X.base
 A:=X.A
 N:=N
 s₀:=s
 H₀:=H
 env:=compEnvC scope (L_9 X.env.cells scope.names []) C X.env
 outer:=X.stack
 stack:=X.stack
 ex:=fp
 fn:=λ _=>false
 calm:=X.calm
 pn:=[]
 xe:=λ _ _=>False
def frv (σ:St) (js:List Nat):St:=js.map λ j=>(σ[j]?).join
def PTs (X:Cx) (ifs:List Expr) (t:TT):Prop :=
 ∀ (pins:List (Addr×Obj)) (s:Shared) (σ:St) (H:Hp) (Q:Bool->Hp->Prop),Inv X pins σ H s->t σ H Q ->
  wpAny (model X.prog X.w) X.A (forIn ifs true λ c r=>if r=true then do let ok <- isTrue c X.env (eval c X.env);pure (ForInStep.yield ok) else pure (ForInStep.yield r)) (TP X pins σ Q) X.xe s
def tYes:TT:=λ _ H Q=>Q true H
theorem aS1 :PTs X [] tYes:=λ _ _ _ H _ I h=>wpAny_tests_nil ⟨H,I,h⟩
theorem aS0  (h:PT X c t):PTs X [c] t:=λ pins s σ H Q I q=>wpAny_tests_one (h pins s σ H Q I q)
def LcW (js:List Nat) (tt:TT) (te:TE) (σ:St) (Q:List V->Hp->Prop) (J:It) (H1:Hp):Prop :=
 ∃ W:Nat->Nat->List V->Hp->Prop,(∃ m,W 0 m [] H1)/\∀ i m ys H,W i m ys H ->
  (J.stop i H/\ys.length<=sizeLine/\Q ys H) \/
  (J.go i H/\ys.length<sizeLine/\∀ x H',J.yld i H x H'->tt (some x::frv σ js) H' λ b H2 =>
   if b=true then te (some x::frv σ js) H2 λ v O=>∃ q,q<m/\W (i+1) q (ys++[v]) O else ∃ q,q<m/\W (i+1) q ys H2)
section
variable {X:Cx}{pins:List (Addr×Obj)}{σ:St}{H:Hp}{s:Shared}{x:Str}{scope sc:Scope}{frees:List Str}{js:List Nat}
theorem K_6 (I:Inv X pins σ H s) (q:X.env.scope=sc) (B:ScB X.N sc scope x frees js):∀ y∈scope.names,y.2=.free->∃ c,X.env.cells.lookup y.1=some c:=λ y Y O =>
 I.ok.has y.1 (.inl (show X.env.scope.names.lookup y.1=some .cell by rw[q];exact B.fr y Y O))
theorem ag0 :∀ {l:List α}{r:List q}{k:Nat}{a:α},l.length=r.length->l[k]?=some a->∃ b,r[k]?=some b/\(a,b)∈l.zip r
 |[],_,_,_,_,h=>by simp at h
 |_::_,[],_,_,hl,_=>by simp at hl
 |a'::l,b'::r,0,a,_,h=>by
  simp at h;subst h;exact⟨b',rfl,by simp⟩
 |a'::l,b'::r,k+1,a,hl,h=>by
  obtain⟨b,h1,h2⟩:=ag0 (by simpa using hl) (by simpa using h);exact⟨b,by simpa using h1,by rw[Q8];exact qh _ h2⟩
theorem as5  (I:Inv X pins σ H s) (ac:X.env.scope=sc) (B:ScB X.N sc scope x frees js) (hf:∀ b∈fp,FpOk X pins H b) (ai:∀ b∈fp,b<s.heap.objs.size)
  (hC:s.heap.objs.size<=C) (hD:s.heap.objs.size<=D) (ae:D≠C) (Y:∀ b o,s.heap.get? b=some o->O.get? b=some o) (ns:O.Ns C mC) (gD:O.get? D=some oD) (nD:∀ v,oD.data≠.cell v) :
  Inv (cxB X (x::frees) scope s H C fp) (pins++[(D,oD)]) (none::frv σ js) H {s with heap:=O,toks:=tk}:=by
 have lc:=K_6 I ac B;have sub:∀ y c,(L_9 X.env.cells scope.names []).lookup y=some c->X.env.cells.lookup y=some c:=λ y c e=>by
  rcases G_4 scope.names [] lc e with q | q
  ·exact q
  ·cases q
 have ah:=λ b Z=>(hf b Z).2.2.2.1;obtain⟨m,hn,hl⟩:=I.loc;refine⟨⟨I.ok.mod,B.kind,I.ok.glob,I.ok.blt,hC,?_,?_,?_,I.ok.hd,I.ok.frames,.inl rfl,?_,?_,zo I.ok.bsz I.sz,?_,?_,I.stack,I.stkFree⟩,rfl,I.bare,Un.kept Y,⟨mC,ns,?_⟩,?_,I.hok.fresh hC,?_,?_,I.hok.kept Y,?_⟩
 ·exact λ y z c e1 e2=>I.ok.inj y z c (sub y c e1) (sub z c e2)
 ·intro y hy;have hm:(y,NameKind.free)∈scope.names:=by
   rcases hy with q | q
   ·exact I_7 B.cells q (.inl rfl)
   ·exact I_7 B.cells q (.inr rfl)
  exact q_7 scope.names [] (.inl hm)
 ·exact λ y c z _=>absurd z qp
 ·intro b Z;refine⟨λ z=>?_,λ y c e z=>(hf b Z).2.2.2.2.1 y c (sub y c e) z⟩;have z':=z;exact absurd (qt (ai b Z) hC) (by rw[z'];exact yp _)
 ·exact λ b o e=>I.bs b o e
 ·intro b o e Z;rcases ah b Z with z | z
  ·exact I.ok.noex b o e z
  ·exact absurd (qt (qm (I.ok.bs b o e).1) z) (yp _)
 ·intro b Z z;rcases qw (I.stkSub b z) with e | e
  ·exact (hf b Z).2.1 e
  ·exact (hf b Z).2.2.1 e
 ·intro i y v e1 e2 e3;cases i with
  |zero=>simp at e2
  |succ k =>
   have af:frees[k]?=some y:=by have e0:(x::frees)[k+1]?=some y:=e1;simpa using e0
   obtain⟨j,hj,hz⟩:=ag0 B.ln af;obtain⟨z1,z2,z3⟩:=B.zp _ hz;have aa:(frv σ js)[k]?=some (some v):=by simpa using e2
   have e4:σ[j]?=some (some v):=by
    unfold frv at aa;rw[yo,hj] at aa;have e5:(σ[j]?).join=some v:=qi aa;cases q:σ[j]? with
    |none=>rw[q] at e5;cases e5
    |some w'=>rw[q] at e5;cases w' with
     |none=>cases e5
     |some w2=>cases e5;rfl
   have kX:X.env.kindOf y=some .cell:=by show X.env.scope.names.lookup y=_;rw[ac];exact z2
   obtain⟨u,r,q⟩:=hl j y v z1 e4 (.inr (.inl kX));refine⟨u,r,?_⟩;rcases q with ⟨q,_⟩ | ⟨_,c,ec,ic⟩
   ·rw[kX] at q;cases q
   ·have kY:=A_5 (by rw[ac];exact B.fk) z3 kX;refine .inr ⟨.inl kY,c,?_,?_⟩
    ·obtain⟨c',ad⟩:=q_7 scope.names [] (.inl (j2 z3));have:=sub y c' ad;rw[ec] at this;cases this;exact ad
    ·obtain⟨o,ho,hd⟩:=ic;exact⟨o,Y c o ho,hd⟩
 ·intro y c e;obtain⟨v,o,ho,hd⟩:=I.cell y c (sub y c e);exact⟨v,o,Y c o ho,hd⟩
 ·exact λ y c e=>I.freeC y c (sub y c e)
 ·intro p hp;have ag:p∈pins++[(D,oD)]:=by simpa [cxB] using hp
  rcases qx ag with z | z
  ·obtain⟨a1,a2,a3,a4,a5⟩:=I.pin p (qo _ z);refine⟨Y _ _ a1,a2,λ e=>?_,λ e=>?_,a5⟩
   ·exact absurd (qt (qm a1) hC) (by rw[show p.1=C from e];exact yp _)
   ·rcases qw (I.stkSub p.1 e) with e | e
    ·exact a3 e
    ·exact a4 e
  ·have z':p=(D,oD):=by simpa using z
   subst z';refine⟨gD,I.hok.fresh hD,ae,λ e=>?_,nD⟩;rcases qw (I.stkSub D e) with e | e
   ·exact absurd (qt I.lt hD) (by rw[show D=X.env.locals from e];exact yp _)
   ·exact I.nofs hD e
 ·show (none::frv σ js).length=(x::frees).length;rw[zj,zj,B.ln,frv,qy]
end
theorem ae1  (I:Nat->Shared->Prop)
  (Y:∀ n s,I n s->wpAny (model prog w) A (pyNext it) (λ r Z=>match r with
   |none=>R (.ok .next) Z
   |some v=>wpAny (model prog w) A (letOwnedTupleGo q it v) (λ _ s2=>wpAny (model prog w) A (assign q env v) (λ _ s3 =>
     wpAny (model prog w) A (forIn ifs true λ c r=>if r=true then do let ok <- isTrue c env (eval c env);pure (ForInStep.yield ok) else pure (ForInStep.yield r)) (λ ok s4 =>
      if ok=true then wpAny (model prog w) A (eval elt env) (λ y s5=>wpAny (model prog w) A (call (.builtin "list.append") [O,y]) (λ _ s6=>∃ m,m<n ∧ I m s6) (λ _ _=>False) s5) (λ _ _=>False) s4
      else ∃ m,m<n/\I m s4) (λ _ _=>False) s3) (λ _ _=>False) s2) (λ _ _=>False) Z) (λ _ _=>False) s)
  (n:Nat) (h:I n s):codeAny (model prog w) A (.compLoop (.ListComp elt [⟨q,iter,ifs,0⟩] scope pos) 0 it O env) R s:=by
 refine codeAny_loop rfl I (λ n s hI=>?_) n h;refine wpAny_noted ?_;rw[compTurn_list];refine qb (Zt (qb (z0 (Y n s hI) (λ r Z h1=>?_) λ _ _ z=>z.elim)));cases r with
 |none=>exact qc h1
 |some v =>
  refine qb (z0 h1 (λ _ s2 h2=>?_) λ _ _ z=>z.elim);refine qb (z0 h2 (λ _ s3 h3=>?_) λ _ _ z=>z.elim);refine qb (z0 h3 (λ ok s4 h4=>?_) λ _ _ z=>z.elim);cases ok with
  |false=>exact qc ⟨rfl,h4⟩
  |true =>
   refine qb (qb (z0 h4 (λ y s5 h5=>?_) λ _ _ z=>z.elim));exact qb (z0 h5 (λ _ s6 h6=>qc (qc ⟨rfl,h6⟩)) λ _ _ z=>z.elim)
section
variable {X:Cx}{pins:List (Addr×Obj)}{σ:St}{H:Hp}{s:Shared}{x:Str}{scope sc:Scope}{frees:List Str}{js:List Nat}{elt iter:Expr}{ifs:List Expr}{px pos:Pos}{tt:TT}{te:TE}{E:Value->Shared->Prop}
abbrev ac7 (q:List Value) (n:Nat):Obj:={cls:=.type "list",data:=.seq q.toArray n}
def LcG (tg:TG) (Y:St) (tt:TT) (te:TE) (Q:List V->Hp->Prop) (J:It) (H1:Hp):Prop :=
 ∃ W:Nat->Nat->List V->Hp->Prop,(∃ m,W 0 m [] H1)/\∀ i m ys H,W i m ys H ->
  (J.stop i H/\ys.length<=sizeLine/\Q ys H) \/
  (J.go i H/\ys.length<sizeLine/\∀ x H',J.yld i H x H'->tg x Y H' λ q H'=>(Y.length=q.length/\∀ (j:Nat) v,Y[j]?=some (some v)->q[j]?=some (some v))/\tt q H' λ b H2 =>
   if b=true then te q H2 λ v Z=>∃ O,O<m/\W (i+1) O (ys++[v]) Z else ∃ O,O<m/\W (i+1) O ys H2)
theorem am7 {RR:Value->Addr->Result->Shared->Prop} (I:Inv X pins σ H s) (hc:X.calm=true) (a7:X.env.scope=sc) (B:ScB X.N sc scope x frees js)
  (T:Turn X.prog X.w X.K ah J fp it tn) (st:tn 0 s.heap) (f:∀ b∈fp,FpOk X pins H b) (S0:∀ {C pl H' s'},Inv (cxB X (x::frees) scope s H C fp) pl (none::frv σ js) H' s'->Inv (cxB X N' scope s H C fp) pl τ H' s') (hg:∀ C,PG (cxB X N' scope s H C fp) ah tg) (hW:LcG tg τ tt te Qe J H)
  (ht:∀ s H C fp,PTs (cxB X N' scope s H C fp) ifs tt) (he:∀ s H C fp,PE (cxB X N' scope s H C fp) elt te)
  (hR:∀ (D C:Addr) (s':Shared) (H':Hp) (ys:List V) (O:List Value) (n:Nat),s.heap.objs.size<=D->s.heap.objs.size<=C->D≠C->Inv (cxB X N' scope s H C fp) pins τ H' s'->H' D=none ->
   Vals ys O->s'.heap.get? D=some (ac7 O n)->ys.length<=sizeLine->Qe ys H'->RR (.ref D) C (.ok .next) s') :
  wpAny (model X.prog X.w) X.A (newList []) (λ a0 s3=>wpAny (model X.prog X.w) X.A (newFunctionEnv scope X.env.globals (L_9 X.env.cells scope.names []) [] X.env.qual none .none (some X.env)) (λ aq s4 =>
   codeAny (model X.prog X.w) X.A (.compStart (.ListComp elt [⟨ah,iter,ifs,0⟩] scope pos) 0 (.ref it) a0 {aq with scope:=relabel scope X.env}) (RR a0 aq.locals) s4) E s3) E s:=by
 obtain⟨W,⟨m0,w0⟩,ax⟩:=hW;refine yj (wpAny_newFunctionEnv B.cells (by intro y hy;simp at hy) (λ ag aa Z=>?_) B.kind);generalize hG:s.heap.push {cls:=.type "list",dict:=none,data:=.seq ([]:List Value).toArray}=G at aa Z ⊢;have ba:G.objs.size=s.heap.objs.size+1:=by rw[<- hG,zw]
 have an:s.heap.objs.size<=G.objs.size:=by rw[ba];exact Zc _
 have ao:s.heap.objs.size≠G.objs.size:=by rw[ba];exact qv (Nat.lt_succ_self _)
 obtain⟨C,bf⟩:∃ C:Addr,C=G.objs.size:=⟨_,rfl⟩;obtain⟨D,al⟩:∃ D:Addr,D=s.heap.objs.size:=⟨_,rfl⟩;rw[<- bf] at aa Z ao an ⊢;have ad:s.heap.objs.size<=D:=by rw[al];exact qj _
 have ak:=an;have ai:D≠C:=by rw[al];exact ao
 have ay:∀ b o,s.heap.get? b=some o->ag.get? b=some o:=λ b o e=>by
  refine Z.extBut b o (t_8 (qm e) ak) (qf _ ?_);rw[<- hG];exact qf _ e
 have gD:ag.get? D=some (ac7 [] 0):=by refine Z.extBut D _ ai (qf _ ?_);rw[<- hG,al];exact qk _ rfl
 have au:∀ b∈fp,b<s.heap.objs.size:=λ b hb=>by
  obtain⟨o,e,_⟩:=T.obj 0 _ st b hb;exact qm e
 rw[<- al];have be:=λ z=>t_8 (au D z) ad rfl;have Y0:=S0 (as5 (tk:=s.toks+([]:List (Str×Value)).length) I a7 B f au ak ad ai ay aa gD (λ v z=>nomatch z));have a9:=T.keep 0 _ _ st λ b _ o e=>ay b o e;have sub:∀ y c,(L_9 X.env.cells scope.names []).lookup y=some c->X.env.cells.lookup y=some c:=λ y c e=>by
  rcases G_4 scope.names [] (K_6 I a7 B) e with q | q
  ·exact q
  ·cases q
 have a8:=λ p hp=>qm (I.pin p (qo _ hp)).1;have aj:∀ {H':Hp}{o:Obj},(∀ b∈fp,H' b=none)->∀ b∈fp,FpOk (cxB X N' scope s H C fp) (pins++[(D,o)]) H' b:=λ {H' o} hn b hb=>by
  obtain⟨_,a2,a3,a4,a5,a6⟩:=f b hb;have lt:=au b hb;refine⟨hn b hb,?_,λ z=>?_,.inl hb,λ y c e=>a5 y c (sub y c e),λ p hp=>?_⟩
  ·exact t_8 lt ak
  ·rcases qw (I.stkSub b z) with e | e
   ·exact a2 e
   ·exact a3 e
  ·have ar:p∈pins++[(D,o)]:=by simpa [cxB] using hp
   rcases qx ar with z | z
   ·exact a6 p (qo _ z)
   ·have z':p=(D,o):=by simpa using z
    subst z';exact aK4 lt ad
 have ap:∀ s3:Shared,s3={s with heap:=ag,toks:=s.toks+([]:List (Str×Value)).length} ->
   codeAny (model X.prog X.w) X.A (.compLoop (.ListComp elt [⟨ah,iter,ifs,0⟩] scope pos) 0 (.ref it) (.ref D) (compEnvC scope (L_9 X.env.cells scope.names []) C X.env)) (RR (.ref D) C) s3:=by
  rintro s3 rfl;refine ae1 (λ n s'=>∃ i ys O k H',Inv (cxB X N' scope s H C fp) (pins++[(D,ac7 O k)]) τ H' s'/\tn i s'.heap/\(∀ b∈fp,H' b=none)/\Vals ys O/\W i n ys H') ?_ m0
   ⟨0,[],[],0,H,Y0,a9,λ b hb=>(f b hb).1,.nil,w0⟩
  rintro n s4 ⟨i,ys,O,k,H4,I4,av,a1,rv,w4⟩;have pD:∀ {pl:List (Addr×Obj)}{ae:St}{H':Hp}{s':Shared},Inv (cxB X N' scope s H C fp) (pins++[(D,ac7 O k)]++pl) ae H' s'->s'.heap.get? D=some (ac7 O k)/\H' D=none:=λ I'=>by
   have q:=I'.pin (D,ac7 O k) (qo _ (jf _ (qo _ qg)));exact⟨q.1,q.2.1⟩
  have ac:∀ {pl:List (Addr×Obj)}{ae:St}{H':Hp}{s':Shared},Inv (cxB X N' scope s H C fp) (pins++pl) ae H' s'->Inv (cxB X N' scope s H C fp) pins ae H' s':=λ I'=>I'.unpinned;rcases ax i n ys H4 w4 with ⟨stop,lz,qe⟩ | ⟨go,lz,step⟩
  ·refine thn (T.done (cxB X N' scope s H C fp) rfl rfl rfl hc i _ s4 _ H4 (λ _ _=>False) I4 (aj a1) av stop) λ r s5 Y=>?_;obtain⟨hr,I5⟩:=Y;subst hr;have I5':Inv (cxB X N' scope s H C fp) (pins++[(D,ac7 O k)]++[]) τ H4 s5:=by simpa using I5
   exact hR D C s5 H4 ys O k ad ak ai (ac I5) (pD I5').2 rv (pD I5').1 lz qe
  ·refine thn (T.item (cxB X N' scope s H C fp) rfl rfl rfl hc i _ s4 _ H4 (λ _ _=>False) I4 (aj a1) av go) λ r s5 Y=>?_;obtain⟨u,hr,h5⟩:=Y;subst hr;refine thn h5 λ _ s6 Y=>?_;obtain⟨y,H6,I6,r6,y6,am,bc⟩:=Y;have I6':=I6.pinned (aj bc) (T.obj _ _ am);have bd:D∉(cxB X N' scope s H C fp).fs:=λ z=>by
    rcases qw (I.stkSub D z) with e | e
    ·exact t_8 I.lt ad e.symm
    ·exact I.nofs ad e
   refine thn (hg C _ s6 _ H6 y u _ I6' r6 (step y H6 y6)) λ _ s7 Y=>?_;obtain⟨az,H7,I7,e7,q7⟩:=Y;have back:∀ {ae:St}{H':Hp}{s':Shared},Inv (cxB X N' scope s H C fp) (pins++[(D,ac7 O k)]++J_1 fp s6.heap) ae H' s'->(∀ b∈fp,∀ o,s6.heap.get? b=some o->s'.heap.get? b=some o)/\∀ b∈fp,H' b=none:=λ {ae H' s'} I' =>
    ⟨λ b hb o e=>(I'.pin (b,o) (qo _ (qo _ (m_6 hb e)))).1,λ b hb=>by
     obtain⟨o,e,_⟩:=T.obj _ _ am b hb;exact (I'.pin (b,o) (qo _ (qo _ (m_6 hb e)))).2.1⟩
   have af:∀ {pl:List (Addr×Obj)}{H':Hp}{s':Shared},Inv (cxB X N' scope s H C fp) pl az H' s'->Inv (cxB X N' scope s H C fp) pl τ H' s':=λ I'=>I'.weak e7.1 e7.2;refine thn (ht s H C fp _ s7 _ H7 _ I7 q7) λ ok s8 Y=>?_;obtain⟨H8,I8,q8⟩:=Y;cases ok with
   |false =>
    rw[if_neg zu] at q8 ⊢;obtain⟨m',hm,w8⟩:=q8;obtain⟨b1,b2⟩:=back I8;exact⟨m',hm,i+1,ys,O,k,H8,af I8.unpinned,T.keep _ _ _ am b1,b2,rv,w8⟩
   |true =>
    rw[if_pos rfl] at q8 ⊢;refine thn (he s H C fp _ s8 _ H8 _ I8 q8) λ v s9 Y=>?_;obtain⟨vv,H9,I9,r9,m',hm,w9⟩:=Y;obtain⟨as,bb⟩:=pD I9;obtain⟨b1,b2⟩:=back I9;have bg:=rv.length;refine Qt F.slot_list_append ⟨_,as,rfl⟩ F.entry_list_append (F.args_list_append_2 _ _) (PySem.list_append D O.toArray k v (by rw[zc];omega)) ⟨as,?_⟩;have ea:O.toArray.push v=(O++[v]).toArray:=by simp
    obtain⟨k',q⟩:∃ k',(s9.heap.update D (Obj.mapSeq (·.push v))).get? D=some (ac7 (O++[v]) k'):=by have q0:=PySem.IsL.update as (·.push v);rw[ea] at q0;exact⟨_,q0⟩
    have aw:∀ b o,b≠D->s9.heap.get? b=some o->(s9.heap.update D (Obj.mapSeq (·.push v))).get? b=some o:=λ b o hb e=>(jq s9.heap (Obj.mapSeq (·.push v)) (yk hb)).trans e;have I10:=
     (ac I9.unpinned).turned (t':=s9.toks) aw bb ai (.inr ad) (λ y' c e z=>by
      obtain⟨w',q'⟩:=I.cell y' c (sub y' c e);exact t_8 q'.lt ad z) (λ p hp z=>by
      have ar:p∈pins:=by simpa [cxB] using hp
      exact t_8 (a8 p ar) ad z)
    refine⟨m',hm,i+1,ys++[vv],O++[v],k',H9,af (I10.pins_of λ p hp=>?_),T.keep _ _ _ am λ b hb o e=>aw b o (λ z=>be (z▸hb)) (b1 b hb o e),b2,rv.append (.cons r9 .nil),w9⟩;rcases qx hp with z | z
    ·exact I10.pin p (qo _ z)
    ·have z':=List.mem_singleton.mp z;subst z';exact⟨q,bb,ai,bd,λ w' z2=>nomatch z2⟩
 exact codeAny_compStart_list (ap _ rfl) (T.self _ 0 _ _ _ a9 (ap _ rfl))
theorem aK9 {RR:Value->Addr->Result->Shared->Prop} (I:Inv X pins σ H s) (hc:X.calm=true) (aa:X.env.scope=sc) (B:ScB X.N sc scope x frees js)
  (T:Turn X.prog X.w X.K (.Name x px) J fp it tn) (st:tn 0 s.heap) (f:∀ b∈fp,FpOk X pins H b) (hW:LcW js tt te σ Qe J H)
  (ht:∀ s H C fp,PTs (cxB X (x::frees) scope s H C fp) ifs tt) (he:∀ s H C fp,PE (cxB X (x::frees) scope s H C fp) elt te)
  (hR:∀ (D C:Addr) (s':Shared) (H':Hp) (ys:List V) (Y:List Value) (n:Nat),s.heap.objs.size<=D->s.heap.objs.size<=C->D≠C->Inv (cxB X (x::frees) scope s H C fp) pins (none::frv σ js) H' s'->H' D=none ->
   Vals ys Y->s'.heap.get? D=some (ac7 Y n)->ys.length<=sizeLine->Qe ys H'->RR (.ref D) C (.ok .next) s') :
  wpAny (model X.prog X.w) X.A (newList []) (λ Z s3=>wpAny (model X.prog X.w) X.A (newFunctionEnv scope X.env.globals (L_9 X.env.cells scope.names []) [] X.env.qual none .none (some X.env)) (λ q s4 =>
   codeAny (model X.prog X.w) X.A (.compStart (.ListComp elt [⟨.Name x px,iter,ifs,0⟩] scope pos) 0 (.ref it) Z {q with scope:=relabel scope X.env}) (RR Z q.locals) s4) E s3) E s:=by
 refine am7 (tg:=ao5 0) I hc aa B T st f (λ h=>h) (λ C=>D_6 B.nd rfl (.inl (Qa B.own)) (.inr (Qa B.own))) ?_ ht he hR;obtain⟨W,w0,O⟩:=hW;refine⟨W,w0,λ i m ys H w=>?_⟩;rcases O i m ys H w with h | ⟨go,lz,step⟩
 ·exact .inl h
 ·exact .inr ⟨go,lz,λ y H' yl=>⟨⟨rfl,λ j v e=>by
   cases j with
   |zero=>simp at e
   |succ j=>simpa using e⟩,step y H' yl⟩⟩
theorem E_8  (I:Inv X pins σ H s) (f:∀ b∈fp,FpOk X pins H b) (hD:s.heap.objs.size<=D) (J:Inv (cxB X (x::frees) scope s H C fp) pins (none::frv σ js) H' s') (Z:H' D=none) (rv:Vals ys O)
  (gD:s'.heap.get? D=some (ac7 O n)) (hz:ys.length<=sizeLine):Inv X pins σ (upd H' D (.lst ys)) s':=by
 have u:=J.base;have hk:=J.hok;refine I.call' J.os ⟨u.keep,u.slot,λ b o e n' hx=>?_,u.there,λ b xs e=>?_,λ b o v e=>?_,λ b ps e=>?_⟩ (λ b o e=>?_) J.bare λ b hb=>?_
 ·rw[a_8 (t_8 (Heap.lt_size e) hD)];exact u.free b o e n' hx
 ·have q:=u.tups b xs e;rw[a_8 (b_3 q Z)];exact q
 ·have q:=u.frzs b o v e;rw[a_8 (b_3 q Z)];exact q
 ·obtain⟨Y,q⟩:=u.tbls b ps e;exact⟨Y,by rw[a_8 (b_3 q Z)];exact q⟩
 ·by_cases hb:b=D
  ·subst hb;rw[a_4] at e;cases e;exact⟨hz,O,n,rv,gD⟩
  ·rw[a_8 hb] at e;exact (hk b o e).stay (λ c v _ q=>q) (λ c q=>by rw[a_8 (b_3 q Z)];exact q) λ c xs q=>by rw[a_8 (b_3 q Z)];exact q
 ·obtain⟨_,a2,a3,a4,a5,a6⟩:=f b hb;exact⟨a4,a2,a5,a6⟩
theorem aW2  (I:Inv X pins σ H s) (J:Inv X pins O H' s') (Y:s.heap.objs.size<=C) (nC:H' C=none) (hs:Heap.SameBut C s'.heap h'):Inv X pins O H' {s' with heap:=h'}:=by
 refine J.turned (λ b o hb e=>(hs.2 b hb).trans e) nC (λ z=>?_) (.inr (zo I.sz Y)) (λ y c e z=>?_) λ p Z z=>?_
 ·exact t_8 I.lt Y z.symm
 ·obtain⟨v,q⟩:=I.cell y c e;exact t_8 q.lt Y z
 ·exact t_8 (qm (I.pin p Z).1) Y z
def tLC (q:TI) (js:List Nat) (tt:TT) (te:TE):TE:=λ σ H Q=>q σ H (LcW js tt te σ λ ys H'=>∀ D,H' D=none->Q (.ref D) (upd H' D (.lst ys)))
theorem bI4  (hc:X.calm=true) (O:X.env.scope=sc) (B:ScB X.N sc scope x frees js) (hi:PI X (.Name x px) iter wi) (ht:∀ s H C fp,PTs (cxB X (x::frees) scope s H C fp) ifs tt) (he:∀ s H C fp,PE (cxB X (x::frees) scope s H C fp) elt te)
  (hs:∀ v,foldedSetIterable iter X.env v=pure v:=by intro _;rfl):PE X (.ListComp elt [⟨.Name x px,iter,ifs,0⟩] scope pos) (tLC wi js tt te):=by
 intro pins s σ H Q I h;rw[eval_ListComp];refine Yd rfl hs (s_3 (K_6 I O B)) B.kind B.locs (thn (hi pins s σ H _ I h) λ v s1 h1=>thn h1 λ ae s2 h2=>?_);obtain⟨it,fp,tn,J,H2,e,I2,T,ac,f2,hW⟩:=h2;subst e;refine aK9 I2 hc O B T ac f2 hW ht he ?_;intro D C s' H' ys ad n hD hC Y J' nD rv gD hz q;obtain⟨m,hn,_⟩:=J'.loc;refine⟨m,hn,λ h' Z=>?_⟩;have A1:=E_8 I2 f2 hD J' nD rv gD hz;have nC:(upd H' D (.lst ys)) C=none:=by rw[a_8 (yk Y)];exact J'.free
 exact⟨.ref D,_,aW2 I2 A1 hC nC Z,rfl,q D nD⟩
def bi4 (i:Nat) (q:TI) (js:List Nat) (tt:TT) (te:TE):TS:=λ D σ H=>q σ H (LcW js tt te σ λ ys H'=>∀ a,H' a=none->D.nx (σ.set i (some (.ref a))) (upd H' a (.lst ys)))
theorem U_8  (hN:X.N.Nodup) (ac:X.N[i]?=some y) (hy:X.env.scope.names.lookup y=some .local) (hc:X.calm=true) (Z:X.env.scope=sc) (B:ScB X.N sc scope x frees js) (hi:PI X (.Name x px) iter wi)
  (ht:∀ s H C fp,PTs (cxB X (x::frees) scope s H C fp) ifs tt) (he:∀ s H C fp,PE (cxB X (x::frees) scope s H C fp) elt te)
  (ag:swapsWith (.ListComp elt [⟨.Name x px,iter,ifs,0⟩] scope pos) (some (.Name y py)) spos.line X.env=pure true:=by rfl)
  (hs:∀ v,foldedSetIterable iter X.env v=pure v:=by intro _;rfl):PS X (.Assign [.Name y py] (.ListComp elt [⟨.Name x px,iter,ifs,0⟩] scope pos) spos) (bi4 i wi js tt te):=by
 intro pins s σ H D I h;rw[exec_Assign_Name_used _ _ _ _ ag];refine qb (Zt (qb ?_));refine qb (z0 (Yd rfl hs (s_3 (K_6 I Z B)) B.kind B.locs
  (thn (hi pins s σ H _ I h) λ v s1 h1=>thn h1 λ ai s2 h2=>?_)) (λ _ s' q=>qc (qc q)) λ _ _ z=>z)
 obtain⟨it,fp,tn,J,H2,e,Y,T,af,f2,hW⟩:=h2;subst e;refine aK9 Y hc Z B T af f2 hW ht he ?_;intro a C s' H' ys ah n hD hC aa J' nD rv gD hz q;have A1:=E_8 Y f2 hD J' nD rv gD hz;have nC:(upd H' a (.lst ys)) C=none:=by rw[a_8 (yk aa)];exact J'.free
 obtain⟨m,hn,_⟩:=J'.loc;have hL:=aK4 Y.lt hC;refine wpAny_assign_Name (I_2 A1 hN ac (.inl hy) (v:=.ref a) rfl (λ s3 I3 O=>?_) (.inr hy));obtain⟨b,sb,hb⟩:=O;have nb:C≠b:=by
  rcases hb with z | z
  ·rw[z];exact hL
  ·intro e;obtain⟨v,q'⟩:=Y.cell y b z;exact t_8 q'.lt hC e.symm
 obtain⟨o,es,ep,ho,r⟩:=hn;refine⟨m,⟨o,es,ep,(sb.2 C nb).trans ho,r⟩,λ h' ad=>?_⟩;exact⟨_,_,aW2 Y I3 hC nC ad,q a nD⟩
end
end L2
namespace Fx
open PySem
inductive D where
 |non | bl (b:Bool) | int (i:Int) | str (x:Str) | tup (xs:List D) | lst (xs:List D)
 |dct (ks:List Str) (vs:List D)
inductive MO where
 |lst (xs:List D) | dic (kvs:List (Str×D))
inductive Sl where
 |no | im (d:D) | ow (b:Bool) (o:MO)
abbrev En:=List Sl
inductive Res where
 |nx (ρ:En) | rt (d:D) (ρ:En) | bk (ρ:En) | ct (ρ:En)
abbrev FE:=En->Option (D×En)
abbrev FT:=En->Option (Bool×En)
abbrev FA:=En->Option (List D×En)
abbrev FS:=En->Option Res
def bnd {α q:Type} (x:Option α) (f:α->Option q):Option q:=x.bind f
theorem a_7  (a:α) (f:α->Option q):bnd (some a) f=f a:=rfl
mutual
def eqD:D->D->Bool
 |.non,.non=>true
 |.bl a,.bl b=>a==b
 |.bl a,.int b=>(if a then 1 else 0)==b
 |.int a,.bl b=>a==(if b then 1 else 0)
 |.int a,.int b=>a==b
 |.str a,.str b=>a==b
 |.tup a,.tup b=>y_8 a b
 |.lst a,.lst b=>y_8 a b
 |_,_=>false
def y_8:List D->List D->Bool
 |[],[]=>true
 |a::r,b::t=>eqD a b&&y_8 r t
 |_,_=>false
end
@[simp] theorem ba4 :eqD .non .non=true:=by rw[eqD]
@[simp] theorem bf8 (y:Bool):eqD .non (.bl y)=false:=by simp[eqD]
@[simp] theorem ba6 (y:Int):eqD .non (.int y)=false:=by simp[eqD]
@[simp] theorem ba3 (y:Str):eqD .non (.str y)=false:=by simp[eqD]
@[simp] theorem ba2 (y:List D):eqD .non (.tup y)=false:=by simp[eqD]
@[simp] theorem ba5 (y:List D):eqD .non (.lst y)=false:=by simp[eqD]
@[simp] theorem bg3 (x:Bool):eqD (.bl x) .non=false:=by simp[eqD]
@[simp] theorem bt6 (x:Bool) (y:Bool):eqD (.bl x) (.bl y)=decide (x=y):=by rw[eqD];exact Zm _ _
@[simp] theorem bg5 (x:Bool) (y:Int):eqD (.bl x) (.int y)=((if x then 1 else 0)==y):=by rw[eqD]
@[simp] theorem bg2 (x:Bool) (y:Str):eqD (.bl x) (.str y)=false:=by simp[eqD]
@[simp] theorem bg1 (x:Bool) (y:List D):eqD (.bl x) (.tup y)=false:=by simp[eqD]
@[simp] theorem bg4 (x:Bool) (y:List D):eqD (.bl x) (.lst y)=false:=by simp[eqD]
@[simp] theorem bb3 (x:Int):eqD (.int x) .non=false:=by simp[eqD]
@[simp] theorem bg0 (x:Int) (y:Bool):eqD (.int x) (.bl y)=(x==(if y then 1 else 0)):=by rw[eqD]
@[simp] theorem bb5 (x:Int) (y:Int):eqD (.int x) (.int y)=decide (x=y):=by rw[eqD];exact Zm _ _
@[simp] theorem bb2 (x:Int) (y:Str):eqD (.int x) (.str y)=false:=by simp[eqD]
@[simp] theorem bb1 (x:Int) (y:List D):eqD (.int x) (.tup y)=false:=by simp[eqD]
@[simp] theorem bb4 (x:Int) (y:List D):eqD (.int x) (.lst y)=false:=by simp[eqD]
@[simp] theorem aZ9 (x:Str):eqD (.str x) .non=false:=by simp[eqD]
@[simp] theorem bf7 (x:Str) (y:Bool):eqD (.str x) (.bl y)=false:=by simp[eqD]
@[simp] theorem ba1 (x:Str) (y:Int):eqD (.str x) (.int y)=false:=by simp[eqD]
@[simp] theorem g_3 (x:Str) (y:Str):eqD (.str x) (.str y)=decide (x=y):=by rw[eqD];exact Zm _ _
@[simp] theorem aZ8 (x:Str) (y:List D):eqD (.str x) (.tup y)=false:=by simp[eqD]
@[simp] theorem ba0 (x:Str) (y:List D):eqD (.str x) (.lst y)=false:=by simp[eqD]
@[simp] theorem aZ5 (x:List D):eqD (.tup x) .non=false:=by simp[eqD]
@[simp] theorem bf6 (x:List D) (y:Bool):eqD (.tup x) (.bl y)=false:=by simp[eqD]
@[simp] theorem aZ7 (x:List D) (y:Int):eqD (.tup x) (.int y)=false:=by simp[eqD]
@[simp] theorem aZ4 (x:List D) (y:Str):eqD (.tup x) (.str y)=false:=by simp[eqD]
@[simp] theorem R_2 (x:List D) (y:List D):eqD (.tup x) (.tup y)=y_8 x y:=by rw[eqD]
@[simp] theorem aZ6 (x:List D) (y:List D):eqD (.tup x) (.lst y)=false:=by simp[eqD]
@[simp] theorem ba9 (x:List D):eqD (.lst x) .non=false:=by simp[eqD]
@[simp] theorem bf9 (x:List D) (y:Bool):eqD (.lst x) (.bl y)=false:=by simp[eqD]
@[simp] theorem bb0 (x:List D) (y:Int):eqD (.lst x) (.int y)=false:=by simp[eqD]
@[simp] theorem ba8 (x:List D) (y:Str):eqD (.lst x) (.str y)=false:=by simp[eqD]
@[simp] theorem ba7 (x:List D) (y:List D):eqD (.lst x) (.tup y)=false:=by simp[eqD]
@[simp] theorem R_3 (x:List D) (y:List D):eqD (.lst x) (.lst y)=y_8 x y:=by rw[eqD]
@[simp] theorem bN7:y_8 [] []=true:=by rw[y_8]
@[simp] theorem bO0 (a b:D) (r t:List D):y_8 (a::r) (b::t)=(eqD a b&&y_8 r t):=by rw[y_8]
@[simp] theorem bN8 (b:D) (t:List D):y_8 [] (b::t)=false:=by simp[y_8]
@[simp] theorem bN9 (b:D) (t:List D):y_8 (b::t) []=false:=by simp[y_8]
mutual
def dpD:D->Nat
 |.tup xs=>p_2 xs+1
 |.lst xs=>p_2 xs+1
 |.dct _ _=>1000
 |_=>0
def p_2:List D->Nat
 |[]=>0
 |d::r=>max (dpD d) (p_2 r)
end
@[simp] theorem bb9 (ks:List Str) (vs:List D):dpD (.dct ks vs)=1000:=rfl
@[simp] theorem bP2:dpD .non=0:=rfl
@[simp] theorem bZ9 (b:Bool):dpD (.bl b)=0:=rfl
@[simp] theorem bP3 (i:Int):dpD (.int i)=0:=rfl
@[simp] theorem bP1 (x:Str):dpD (.str x)=0:=rfl
@[simp] theorem G_0 (xs:List D):dpD (.tup xs)=p_2 xs+1:=rfl
@[simp] theorem G_1 (xs:List D):dpD (.lst xs)=p_2 xs+1:=rfl
@[simp] theorem bB7:p_2 []=0:=rfl
@[simp] theorem L_6 (d:D) (r:List D):p_2 (d::r)=max (dpD d) (p_2 r):=rfl
def bR0 (i:Int):Bool:=decide (i.natAbs<2 ^ 1000)
def l_3 (i j:Int):Bool:=decide (i.natAbs<2 ^ 64)||decide (j.natAbs<2 ^ 64)||(bR0 i&&bR0 j)
def h_4 (j:Int):Bool:=decide (j≠0)&&decide (j.natAbs<2 ^ 1000)
def au6:D->Option Int
 |.int i=>some i
 |_=>none
def onI (g:Int->Int->Option D) (x y:D):Option D:=bnd (au6 x) λ i=>bnd (au6 y) (g i)
theorem A_7  (e:onI g x y=some d):∃ i j,x=.int i/\y=.int j/\g i j=some d:=by
 cases x with
 |int i =>
  cases y with
  |int j=>exact⟨i,j,rfl,rfl,e⟩
  |_=>cases e
 |_=>cases e
def e_7:D->D->Option D
 |.int i,.int j=>some (.int (i+j))
 |.str a,.str b=>if a.length+b.length<=sizeLine then some (.str (a++b)) else none
 |.lst a,.lst b=>if a.length+b.length<=sizeLine then some (.lst (a++b)) else none
 |_,_=>none
def L_7:D->D->Option D:=onI λ i j=>some (.int (i-j))
def af5:D->D->Option D:=onI λ i j=>if l_3 i j=true then some (.int (i*j)) else none
def L_8:D->D->Option D:=onI λ i j=>if h_4 j=true then some (.int (i.fdiv j)) else none
def f_4:D->D->Option D:=onI λ i j=>if j≠0 then some (.int (i.fmod j)) else none
def au7:D->D->Option D:=onI λ i j=>if 0<=j/\j<=64/\i.natAbs<2 ^ 64 then some (.int (i ^ j.toNat)) else none
def au8:D->Option D
 |.int i=>some (.int (-i))
 |_=>none
def bv1 (p:Int->Int->Bool):D->D->Option D:=onI λ i j=>some (.bl (p i j))
def dLt:D->D->Option D:=bv1 λ i j=>decide (i<j)
def dLe:D->D->Option D:=bv1 λ i j=>decide (i<=j)
def dGt:D->D->Option D:=bv1 λ i j=>decide (j<i)
def dGe:D->D->Option D:=bv1 λ i j=>decide (j<=i)
def dEq (x y:D):Option D:=if dpD x<=30/\dpD y<=30 then some (.bl (eqD x y)) else none
def dNe (x y:D):Option D:=if dpD x<=30/\dpD y<=30 then some (.bl (!eqD x y)) else none
def isN:D->Bool
 |.non=>true
 |_=>false
@[simp] theorem bM3 (ks:List Str) (vs:List D):isN (.dct ks vs)=false:=rfl
@[simp] theorem bM0:isN .non=true:=rfl
@[simp] theorem bW5 (b:Bool):isN (.bl b)=false:=rfl
@[simp] theorem bM2 (b:Int):isN (.int b)=false:=rfl
@[simp] theorem bL9 (b:Str):isN (.str b)=false:=rfl
@[simp] theorem bL8 (b:List D):isN (.tup b)=false:=rfl
@[simp] theorem bM1 (b:List D):isN (.lst b)=false:=rfl
def dIs (x y:D):Option D:=match y with
 |.non=>some (.bl (isN x))
 |_=>none
def aq9 (x y:D):Option D:=match y with
 |.non=>some (.bl (!isN x))
 |_=>none
def aM5:D->Option Bool
 |.non=>some false
 |.bl b=>some b
 |.int i=>some (i != 0)
 |.lst xs=>some (!xs.isEmpty)
 |.tup xs=>some (!xs.isEmpty)
 |_=>none
def dPl (n:Nat) (i:Int):Option Nat:=if 0<=i then (if i<n then some i.toNat else none) else if -(n:Int)<=i then some (i+n).toNat else none
def atD (xs:List D) (i:Int):Option D:=(dPl xs.length i).bind λ j=>xs[j]?
def ar0 (n d:Nat):Option Int->Nat
 |none=>d
 |some v=>if v<0 then (v+(n:Int)).toNat else min v.toNat n
theorem Y_7 (n d k:Nat):ar0 n d (some (k:Int))=min k n:=by show (if (k:Int)<0 then ((k:Int)+(n:Int)).toNat else min (k:Int).toNat n)=_;exact if_neg (Int.not_lt.mpr (Int.natCast_nonneg k))
def r_0 (xs:List D) (lo hi:Option Int):List D:=(xs.drop (ar0 xs.length 0 lo)).take (ar0 xs.length xs.length hi-ar0 xs.length 0 lo)
def af6:List D->Option D
 |[.int i]=>some (.int (if i<0 then -i else i))
 |_=>none
def B_4:List D->Option (List Int)
 |[]=>some []
 |.int i::r=>bnd (B_4 r) λ is=>some (i::is)
 |_=>none
theorem Q_3 (i:Int) (r:List D):B_4 (.int i::r)=bnd (B_4 r) λ is=>some (i::is):=rfl
def ac2:Int->List Int->Int
 |m,[]=>m
 |m,x::r=>ac2 (if x<m then x else m) r
def ac3:Int->List Int->Int
 |m,[]=>m
 |m,x::r=>ac3 (if m<x then x else m) r
def bd9 (f:Int->List Int->Int):List Int->Option D
 |[]=>none
 |i::r=>some (.int (f i r))
def be0:List D->Option D
 |[.int i,.int j]=>some (.int (if j > i then j else i))
 |[.lst xs]=>bnd (B_4 xs) λ is=>bd9 ac3 is
 |_=>none
def bw1:List D->Option D
 |[.int i,.int j]=>some (.int (if j<i then j else i))
 |[.lst xs]=>bnd (B_4 xs) λ is=>bd9 ac2 is
 |_=>none
def y_0:List D->Option (List Bool)
 |[]=>some []
 |.bl b::r=>bnd (y_0 r) λ bs=>some (b::bs)
 |_=>none
theorem ae6 (b:Bool) (r:List D):y_0 (.bl b::r)=bnd (y_0 r) λ bs=>some (b::bs):=rfl
def z_8:List D->Option D
 |[.lst xs]=>bnd (y_0 xs) λ bs=>some (.bl (bs.all id))
 |_=>none
inductive Ty where
 |int | bool | str | tuple | list
def af3:Ty->D->Bool
 |.int,.int _=>true
 |.int,.bl _=>true
 |.bool,.bl _=>true
 |.str,.str _=>true
 |.tuple,.tup _=>true
 |.list,.lst _=>true
 |_,_=>false
def slV (ρ:En):Option Sl->Option (D×En)
 |some (.im d)=>some (d,ρ)
 |_=>none
def eV (i:Nat) (ρ:En):Option (D×En):=slV ρ ρ[i]?
def eC (d:D) (ρ:En):Option (D×En):=some (d,ρ)
abbrev zI (n:Int):=eC (.int n)
abbrev zR (x:Str):=eC (.str x)
theorem yI(h:a=b):a=b:=h
def e1 (q:D->Option D) (F:FE) (ρ:En):Option (D×En):=bnd (F ρ) λ p=>bnd (q p.1) λ d=>some (d,p.2)
def e2 (O:D->D->Option D) (F G:FE) (ρ:En):Option (D×En):=bnd (F ρ) λ p=>bnd (G p.2) λ q=>bnd (O p.1 q.1) λ d=>some (d,q.2)
def blB:D->Option Bool
 |.bl b=>some b
 |_=>none
def e3 (Y O:D->D->Option D) (F G L:FE) (ρ:En):Option (D×En):=bnd (F ρ) λ p=>bnd (G p.2) λ q=>bnd (Y p.1 q.1) λ z=>bnd (blB z) λ b =>
 if b=true then bnd (L q.2) λ r=>bnd (O q.1 r.1) λ d=>some (d,r.2) else some (.bl false,q.2)
def aN (ρ:En):Option (List D×En):=some ([],ρ)
def aC (F:FE) (A:FA) (ρ:En):Option (List D×En):=bnd (F ρ) λ p=>bnd (A p.2) λ q=>some (p.1::q.1,q.2)
def g_7 (A:FA) (ρ:En):Option (D×En):=bnd (A ρ) λ p=>if p.1.length<=1000 then some (.tup p.1,p.2) else none
def j_2 (A:FA) (ρ:En):Option (D×En):=bnd (A ρ) λ p=>if p.1.length<=1000 then some (.lst p.1,p.2) else none
def eF (g:List D->Option D) (A:FA) (ρ:En):Option (D×En):=bnd (A ρ) λ p=>bnd (g p.1) λ d=>some (d,p.2)
def eTy (t:Ty) (F:FE) (ρ:En):Option (D×En):=bnd (F ρ) λ p=>some (.bl (af3 t p.1),p.2)
abbrev FO:=En->Option (Option Int×En)
def oN (ρ:En):Option (Option Int×En):=some (none,ρ)
def oS (F:FE) (ρ:En):Option (Option Int×En):=bnd (F ρ) λ p=>bnd (au6 p.1) λ i=>some (some i,p.2)
def tB (F:FE) (ρ:En):Option (Bool×En):=bnd (F ρ) λ p=>bnd (blB p.1) λ b=>some (b,p.2)
def tV (F:FE) (ρ:En):Option (Bool×En):=bnd (F ρ) λ p=>bnd (aM5 p.1) λ b=>some (b,p.2)
def tAnd (T U:FT) (ρ:En):Option (Bool×En):=bnd (T ρ) λ p=>if p.1=true then U p.2 else some (false,p.2)
def tOr (T U:FT) (ρ:En):Option (Bool×En):=bnd (T ρ) λ p=>if p.1=true then some (true,p.2) else U p.2
def tNot (T:FT) (ρ:En):Option (Bool×En):=bnd (T ρ) λ p=>some (!p.1,p.2)
def tYes (ρ:En):Option (Bool×En):=some (true,ρ)
def eIf (T:FT) (F G:FE) (ρ:En):Option (D×En):=bnd (T ρ) λ p=>if p.1=true then F p.2 else G p.2
def ad8 (F G:FE) (ρ:En):Option (D×En):=bnd (F ρ) λ p=>bnd (blB p.1) λ b=>if b=true then G p.2 else some (.bl false,p.2)
def eOr (F G:FE) (ρ:En):Option (D×En):=bnd (F ρ) λ p=>bnd (blB p.1) λ b=>if b=true then some (.bl true,p.2) else G p.2
def slI:Option Sl->Option Sl
 |some (.im d)=>some (.im d)
 |_=>none
def q_2 (ρ:En):List Nat->Option En
 |[]=>some []
 |j::js=>bnd (slI ρ[j]?) λ s=>bnd (q_2 ρ js) λ r=>some (s::r)
theorem X_0 (ρ:En):q_2 ρ []=some []:=rfl
theorem ao2 (ρ:En) (j:Nat) (js:List Nat):q_2 ρ (j::js)=bnd (slI ρ[j]?) λ s=>bnd (q_2 ρ js) λ r=>some (s::r):=rfl
def cGo (T:FT) (F:FE) (fr:En):List D->Option (List D)
 |[]=>some []
 |d::r=>bnd (T (.im d::fr)) λ p=>if p.1=true then bnd (F p.2) λ q=>bnd (cGo T F fr r) λ t=>some (q.1::t) else cGo T F fr r
theorem bd4 (T:FT) (F:FE) (fr:En):cGo T F fr []=some []:=rfl
theorem aF7 (T:FT) (F:FE) (fr:En) (d:D) (r:List D):cGo T F fr (d::r)=bnd (T (.im d::fr)) λ p=>if p.1=true then bnd (F p.2) λ q=>bnd (cGo T F fr r) λ t=>some (q.1::t) else cGo T F fr r:=rfl
def chS (c:Nat):Str:=⟨#[c]⟩
def chs (z:Str):List D:=z.cps.toList.map λ c=>.str (chS c)
def items:D->Option (List D)
 |.lst xs=>some xs
 |.tup xs=>some xs
 |.str z=>some (chs z)
 |_=>none
def eLC (js:List Nat) (I:FE) (T:FT) (F:FE) (ρ:En):Option (D×En):=bnd (I ρ) λ p=>bnd (items p.1) λ xs=>bnd (q_2 p.2 js) λ fr=>bnd (cGo T F fr xs) λ ys=>if xs.length<=sizeLine then some (.lst ys,p.2) else none
def sN (ρ:En):Option Res:=some (.nx ρ)
def nxR (G:FS):Res->Option Res
 |.nx ρ'=>G ρ'
 |.rt d ρ=>some (.rt d ρ)
 |.bk ρ=>some (.bk ρ)
 |.ct ρ=>some (.ct ρ)
def b_7 (F G:FS) (ρ:En):Option Res:=bnd (F ρ) λ r=>nxR G r
def e_3 (i:Nat) (F:FE) (ρ:En):Option Res:=bnd (F ρ) λ p=>some (.nx (p.2.set i (.im p.1)))
def l_4:List Nat->List D->En->En
 |i::is,d::ds,ρ=>l_4 is ds (ρ.set i (.im d))
 |_,_,ρ=>ρ
theorem O_4 (i:Nat) (is:List Nat) (d:D) (ds:List D) (ρ:En):l_4 (i::is) (d::ds) ρ=l_4 is ds (ρ.set i (.im d)):=rfl
theorem ab1 (ds:List D) (ρ:En):l_4 [] ds ρ=ρ:=by cases ds <;> rfl
def bD2:D->Option (List D)
 |.tup xs=>some xs
 |.lst xs=>some xs
 |_=>none
def gN (i:Nat) (d:D) (ρ:En):Option En:=some (ρ.set i (.im d))
def gT (is:List Nat) (d:D) (ρ:En):Option En:=bnd (bD2 d) λ xs=>if xs.length=is.length then some (l_4 is xs ρ) else none
def bx6 (is:List Nat) (F:FE) (ρ:En):Option Res:=bnd (F ρ) λ p=>bnd (gT is p.1 p.2) λ ρ'=>some (.nx ρ')
def sIf (T:FT) (F G:FS) (ρ:En):Option Res:=bnd (T ρ) λ p=>if p.1=true then F p.2 else G p.2
def d_6 (F:FE) (ρ:En):Option Res:=bnd (F ρ) λ p=>some (.rt p.1 p.2)
def goR (G:FS):Res->Option Res
 |.nx ρ=>G ρ
 |.ct ρ=>G ρ
 |.bk ρ=>some (.nx ρ)
 |.rt d ρ=>some (.rt d ρ)
def fGo (g:D->En->Option En) (B:FS):List D->FS
 |[],ρ=>some (.nx ρ)
 |d::r,ρ=>bnd (g d ρ) λ q=>bnd (B q) λ z=>goR (fGo g B r) z
theorem ap3 (g:D->En->Option En) (B:FS) (ρ:En):fGo g B [] ρ=some (.nx ρ):=rfl
theorem X_5 (g:D->En->Option En) (B:FS) (d:D) (r:List D) (ρ:En):fGo g B (d::r) ρ=bnd (g d ρ) λ q=>bnd (B q) λ z=>goR (fGo g B r) z:=rfl
def by1 (g:D->En->Option En) (F:FE) (B:FS) (ρ:En):Option Res:=bnd (F ρ) λ p=>bnd (items p.1) λ xs=>fGo g B xs p.2
def n_2 (lo:Int):Nat->List D
 |0=>[]
 |n+1=>.int lo::n_2 (lo+1) n
def rng1 (F:FE) (ρ:En):Option (List D×En):=bnd (F ρ) λ p=>bnd (au6 p.1) λ j=>if -(2 ^ 62)<=j/\j<2 ^ 62 then some (n_2 0 j.toNat,p.2) else none
def bz0 (F G:FE) (ρ:En):Option (List D×En):=bnd (F ρ) λ p=>bnd (G p.2) λ q=>bnd (au6 p.1) λ i=>bnd (au6 q.1) λ j =>
 if -(2 ^ 62)<=i/\i<2 ^ 62/\-(2 ^ 62)<=j/\j<2 ^ 62 then some (n_2 i (j-i).toNat,q.2) else none
def D_1 (g:D->En->Option En) (R:FA) (B:FS) (ρ:En):Option Res:=bnd (R ρ) λ p=>fGo g B p.1 p.2
def bf1 (A:FA) (ρ:En):Option (List D×En):=bnd (A ρ) λ p=>if p.1.length<=1000 then some p else none
def aI0 (i:Nat) (A:FA) (ρ:En):Option Res:=bnd (A ρ) λ p=>some (.nx (p.2.set i (.ow false (.lst p.1))))
def owL:Option Sl->Option (List D)
 |some (.ow false (.lst ds))=>some ds
 |_=>none
def aI3 (i:Nat) (F:FE) (ρ:En):Option Res:=bnd (owL ρ[i]?) λ _=>bnd (F ρ) λ p=>bnd (owL p.2[i]?) λ ds=>if ds.length<1000000 then some (.nx (p.2.set i (.ow false (.lst (ds++[p.1]))))) else none
def frz (i:Nat) (ρ:En):En:=match ρ[i]? with
 |some (.ow false (.lst ds))=>ρ.set i (.im (.lst ds))
 |_=>ρ
def aI1 (i:Nat) (F:FS) (ρ:En):Option Res:=F (frz i ρ)
def eLR (js:List Nat) (R:FA) (T:FT) (F:FE) (ρ:En):Option (D×En):=bnd (R ρ) λ p=>bnd (q_2 p.2 js) λ fr=>bnd (cGo T F fr p.1) λ ys=>if p.1.length<=sizeLine then some (.lst ys,p.2) else none
def bz1:Res->Option D
 |.rt d _=>some d
 |.nx _=>some .non
 |_=>none
def fnD (n k:Nat) (B:FS) (ds:List D):Option D:=if ds.length=n then bnd (B (ds.map .im++List.replicate k .no)) λ r=>bz1 r else none
end Fx
namespace Fx
open PySem PySem.Spec PyProof.Rows L2
mutual
def Rep (K:Frag) (H:Hp):D->V->Prop
 |.non,v=>v=.non
 |.bl b,v=>v=.bl b
 |.int i,v=>v=.int i
 |.str x,v=>v=.str x
 |.tup ds,v=>∃ a vs,v=.ref a/\SqT K H a vs/\Reps K H ds vs
 |.lst ds,v=>∃ a vs,v=.ref a/\SqL K H a vs/\Reps K H ds vs
 |.dct ks ds,v=>∃ a o vs,v=.ref a/\H a=some (.frz o (.dK ((ks.map Sum.inr).zip vs)))/\Reps K H ds vs/\ks.length=ds.length
def Reps (K:Frag) (H:Hp):List D->List V->Prop
 |[],vs=>vs=[]
 |d::ds,vs=>∃ v r,vs=v::r/\Rep K H d v/\Reps K H ds r
end
theorem Same.rd  (e:Same H H') (h:Rd H a u):Rd H' a u:=by
 rcases h with h | ⟨o,h⟩
 ·exact .inl (e _ _ h)
 ·exact .inr ⟨o,e _ _ h⟩
theorem Same.seqT {K:Frag} (e:Same H H') (h:SqT K H a xs):SqT K H' a xs:=by
 rcases h with h | h
 ·exact .inl (Same.rd e h)
 ·exact .inr h
section
variable {K:Frag}
mutual
theorem Rep.mono (e:Same H H'):∀ (d:D) {v:V},Rep K H d v->Rep K H' d v
 |.non,_,h=>h
 |.bl _,_,h=>h
 |.int _,_,h=>h
 |.str _,_,h=>h
 |.tup ds,_,h=>by
  unfold Rep at h ⊢;obtain⟨a,vs,q,s,r⟩:=h;exact⟨a,vs,q,Same.seqT e s,Reps.mono e ds r⟩
 |.lst ds,_,h=>by
  unfold Rep at h ⊢;obtain⟨a,vs,q,s,r⟩:=h;exact⟨a,vs,q,Same.seq e s,Reps.mono e ds r⟩
 |.dct ks ds,_,h=>by
  unfold Rep at h ⊢;obtain⟨a,o,vs,q,s,r,l⟩:=h;exact⟨a,o,vs,q,e _ _ s,Reps.mono e ds r,l⟩
theorem Reps.mono (e:Same H H'):∀ (ds:List D) {vs:List V},Reps K H ds vs->Reps K H' ds vs
 |[],_,h=>h
 |d::ds,_,h=>by
  unfold Reps at h ⊢;obtain⟨v,r,q,s,t⟩:=h;exact⟨v,r,q,Rep.mono e d s,Reps.mono e ds t⟩
end
theorem Reps.length:∀ {ds:List D}{vs:List V},Reps K H ds vs->ds.length=vs.length
 |[],_,h=>by rw[h];rfl
 |d::ds,_,h=>by
  obtain⟨v,r,q,_,t⟩:=h;rw[q,zj,zj,Reps.length t]
theorem Reps.get:∀ {ds:List D}{vs:List V}{i:Nat}{d:D},Reps K H ds vs->ds[i]?=some d->∃ v,vs[i]?=some v/\Rep K H d v
 |[],_,_,_,_,e=>by simp at e
 |d::ds,_,0,_,h,e=>by
  obtain⟨v,r,rfl,s,_⟩:=h;simp at e;subst e;exact⟨v,rfl,s⟩
 |d::ds,_,i+1,d',h,e=>by
  obtain⟨v,r,rfl,_,t⟩:=h;obtain⟨w,a,b⟩:=Reps.get t (by simpa using e);exact⟨w,by simpa using a,b⟩
theorem Reps.app:∀ {ds es:List D}{vs ws:List V},Reps K H ds vs->Reps K H es ws->Reps K H (ds++es) (vs++ws)
 |[],_,_,_,h,h'=>by rw[h];exact h'
 |d::ds,es,_,ws,h,h'=>by
  obtain⟨v,r,rfl,s,t⟩:=h;exact⟨v,r++ws,rfl,s,Reps.app t h'⟩
theorem Reps.take:∀ {ds:List D}{vs:List V} (n:Nat),Reps K H ds vs->Reps K H (ds.take n) (vs.take n)
 |[],_,n,h=>by rw[h];simp[Reps]
 |d::ds,vs,0,h=>by simp[Reps]
 |d::ds,_,n+1,h=>by
  obtain⟨v,r,rfl,s,t⟩:=h;exact⟨v,r.take n,rfl,s,Reps.take n t⟩
theorem Reps.drop:∀ {ds:List D}{vs:List V} (n:Nat),Reps K H ds vs->Reps K H (ds.drop n) (vs.drop n)
 |[],_,n,h=>by rw[h];simp[Reps]
 |d::ds,vs,0,h=>by simpa using h
 |d::ds,_,n+1,h=>by
  obtain⟨v,r,rfl,s,t⟩:=h;simpa using Reps.drop n t
theorem Reps.one  (h:Rep K H d v):Reps K H [d] [v]:=by exact⟨v,[],rfl,h,rfl⟩
theorem Reps.cons  (h:Rep K H d v) (t:Reps K H ds vs):Reps K H (d::ds) (v::vs):=by exact⟨v,vs,rfl,h,t⟩
theorem Reps.nil_:Reps K H [] []:=by rfl
end
structure FC where
 Hi:Hp
 He:Hp
 Ap:List Addr
def OwOk (K:Frag) (H0 H:Hp) (a:Addr):MO->Prop
 |.lst ds=>∃ vs,H a=some (.lst vs)/\Reps K H0 ds vs
 |.dic kds=>∃ ks vs,H a=some (.dK ((ks.map Sum.inr).zip vs))/\ks=kds.map (·.1)/\Reps K H0 (kds.map (·.2)) vs
structure RS (K:Frag) (c:FC) (H0 H:Hp) (ρ:En) (σ:L2.St):Prop where
 same:Same H0 H
 init:Same c.Hi H0
 fresh:∀ b o,H0 b=some o->c.Hi b=some o\/c.He b=none
 keep:∀ b o,c.He b=some o->b∉c.Ap->H b=some o
 apt:∀ a∈c.Ap,H a≠none
 len:ρ.length=σ.length
 im:∀ (i:Nat) (d:D),ρ[i]?=some (.im d)->∃ v,σ[i]?=some (some v)/\Rep K H0 d v
 ow:∀ (i:Nat) (b:Bool) (o:MO),ρ[i]?=some (.ow b o)->∃ a,σ[i]?=some (some (.ref a))/\H0 a=none/\(if b=true then a∈c.Ap else c.He a=none)/\OwOk K H0 H a o
 ne:∀ (i j:Nat) (b b':Bool) (o o':MO) (a:Addr),ρ[i]?=some (.ow b o)->ρ[j]?=some (.ow b' o')->σ[i]?=some (some (.ref a))->σ[j]?=some (some (.ref a))->i=j
section
variable {K:Frag}
theorem OwOk.some  (h:OwOk K H0 H a o):∃ u,H a=Option.some u:=by
 cases o with
 |lst ds=>obtain⟨vs,e,_⟩:=h;exact⟨_,e⟩
 |dic ds=>obtain⟨ks,vs,e,_⟩:=h;exact⟨_,e⟩
theorem OwOk.step  (h:OwOk K H0 H a o) (O:Same H0 H0') (s:∀ u,H a=Option.some u->H' a=Option.some u):OwOk K H0' H' a o:=by
 cases o with
 |lst ds=>obtain⟨vs,e,r⟩:=h;exact⟨vs,s _ e,Reps.mono O ds r⟩
 |dic ds=>obtain⟨ks,vs,e,q,r⟩:=h;exact⟨ks,vs,s _ e,q,Reps.mono O _ r⟩
structure Step (H0 H H0' H':Hp):Prop where
 s0:Same H0 H0'
 s:Same H H'
 s':Same H0' H'
 fr:∀ b o,H0' b=some o->H0 b=some o\/H b=none
theorem RS.after (R:RS K c H0 H ρ σ) (S:Step H0 H H0' H'):RS K c H0' H' ρ σ:=by
 refine⟨S.s',R.init.trans S.s0,λ b o e=>?_,λ b o e n=>S.s _ _ (R.keep b o e n),λ a Y e=>?_,R.len,λ i d e=>?_,λ i b o e=>?_,R.ne⟩
 ·rcases S.fr b o e with h | h
  ·exact R.fresh b o h
  ·refine .inr ?_;cases q:c.He b with
   |none=>rfl
   |some u =>
    by_cases O:b∈c.Ap
    ·exact absurd h (R.apt b O)
    ·rw[R.keep b u q O] at h;cases h
 ·cases q:H a with
  |none=>exact R.apt a Y q
  |some u=>rw[S.s _ _ q] at e;cases e
 ·obtain⟨v,a,b⟩:=R.im i d e;exact⟨v,a,Rep.mono S.s0 d b⟩
 ·obtain⟨a,x,y,z,w⟩:=R.ow i b o e;refine⟨a,x,?_,z,w.step S.s0 λ u q=>S.s _ _ q⟩;obtain⟨u,q⟩:=w.some;cases t:H0' a with
  |none=>rfl
  |some o' =>
   rcases S.fr a o' t with h | h
   ·rw[y] at h;cases h
   ·rw[q] at h;cases h
theorem Step.refl (s:Same H0 H):Step H0 H H0 H:=⟨Same.refl _,Same.refl _,s,λ _ _ e=>.inl e⟩
theorem Step.trans  (x:Step H0 H H0' H') (y:Step H0' H' A B):Step H0 H A B:=by
 refine⟨x.s0.trans y.s0,x.s.trans y.s,y.s',λ b o e=>?_⟩;rcases y.fr b o e with h | h
 ·exact x.fr b o h
 ·exact .inr (x.s.free h)
theorem Step.alloc  (s:Same H0 H) (O:H p=none):Step H0 H (upd H0 p o) (upd H p o):=by
 have Y:=s.free O;refine⟨λ b u e=>by rw[a_8 (b_3 e Y)];exact e,λ b u e=>by rw[a_8 (b_3 e O)];exact e,λ b u e=>?_,λ b u e=>?_⟩
 ·by_cases q:b=p
  ·subst q;rw[a_4] at e ⊢;exact e
  ·rw[a_8 q] at e ⊢;exact s _ _ e
 ·by_cases q:b=p
  ·subst q;exact .inr O
  ·rw[a_8 q] at e;exact .inl e
end
def tE (K:Frag) (F:FE):TE:=λ σ H Q=>∃ c H0 ρ d ρ',RS K c H0 H ρ σ/\F ρ=some (d,ρ')/\∀ v H0' H',Same H0 H0'->RS K c H0' H' ρ' σ->Rep K H0' d v->Q v H'
def tTt (K:Frag) (F:FT):TT:=λ σ H Q=>∃ c H0 ρ b ρ',RS K c H0 H ρ σ/\F ρ=some (b,ρ')/\∀ H0' H',Same H0 H0'->RS K c H0' H' ρ' σ->Q b H'
def tAa (K:Frag) (F:FA):TA:=λ σ H Q=>∃ c H0 ρ ds ρ',RS K c H0 H ρ σ/\F ρ=some (ds,ρ')/\∀ vs H0' H',Same H0 H0'->RS K c H0' H' ρ' σ->Reps K H0' ds vs->Q vs H'
def tOo (K:Frag) (F:FO):TO:=λ σ H Q=>∃ c H0 ρ o ρ',RS K c H0 H ρ σ/\F ρ=some (o,ρ')/\∀ H0' H',Same H0 H0'->RS K c H0' H' ρ' σ->Q o H'
def XE (X:Cx) (e:Expr) (F:FE):Prop:=PE X e (tE X.K F)
def XT (X:Cx) (e:Expr) (F:FT):Prop:=PT X e (tTt X.K F)
def XW (X:Cx) (e:Expr) (F:FT):Prop:=PW X e (tTt X.K F)
def XA (X:Cx) (es:List Expr) (F:FA):Prop:=PA X es (tAa X.K F)
def XO (X:Cx) (e:Option Expr) (F:FO):Prop:=PO X e (tOo X.K F)
theorem a_0  (h:bnd x f=some b):∃ a,x=some a/\f a=some b:=by
 cases x with
 |none=>cases h
 |some a=>exact⟨a,rfl,h⟩
theorem PE.wk  (h:PE X e t) (w:∀ σ H Q,t' σ H Q->t σ H Q):PE X e t':=λ pins s σ H Q I q=>h pins s σ H Q I (w σ H Q q)
theorem PT.wk  (h:PT X e t) (w:∀ σ H Q,t' σ H Q->t σ H Q):PT X e t':=λ pins s σ H Q I q=>h pins s σ H Q I (w σ H Q q)
theorem PW.wk  (h:PW X e t) (w:∀ σ H Q,t' σ H Q->t σ H Q):PW X e t':=λ O pins s σ H Q I q=>h O pins s σ H Q I (w σ H Q q)
theorem PA.wk  (h:PA X e t) (w:∀ σ H Q,t' σ H Q->t σ H Q):PA X e t':=λ pos pins s σ H Q I q=>h pos pins s σ H Q I (w σ H Q q)
theorem PS.wk  (h:PS X e t) (w:∀ D σ H,t' D σ H->t D σ H):PS X e t':=λ pins s σ H D I q=>h pins s σ H D I (w D σ H q)
theorem PSs.wk  (h:PSs X e t) (w:∀ D σ H,t' D σ H->t D σ H):PSs X e t':=λ pins s σ H D I q=>h pins s σ H D I (w D σ H q)
section
theorem xv (i:Nat)  (hN:X.N[i]?=some x:=by rfl) (hv:Vis X.env.scope x:=by first | exact Or.inl rfl | exact Or.inr (Or.inl rfl) | exact Or.inr (Or.inr rfl)) (hd:(x==("__debug__":Str))=false:=by decide)
  (Y:(x==("__classdict__":Str))=false:=by decide):XE X (.Name x pos) (eV i) :=
 PE.wk (n_4 hN hv hd Y) λ σ H Q O=>by
  obtain⟨c,H0,ρ,d,ρ',R,f,q⟩:=O;unfold eV at f;cases z:ρ[i]? with
  |none=>rw[z] at f;cases f
  |some sl =>
   rw[z] at f;cases sl with
   |no=>cases f
   |ow b o=>cases f
   |im d' =>
    have Z:=f;cases Z;obtain⟨v,e1,e2⟩:=R.im i _ z;exact⟨v,e1,q v H0 H (Same.refl _) R e2⟩
theorem x_4  (h:eC d ρ=some (d',ρ')):d'=d/\ρ'=ρ:=by have h':=h;cases h';exact⟨rfl,rfl⟩
theorem a_6 :XE X (.Constant (.int i) j pos) (zI i):=PE.wk V_0 λ σ H Q O=>by
 obtain⟨c,H0,ρ,d,ρ',R,f,q⟩:=O;obtain⟨rfl,rfl⟩:=x_4 f;exact q _ H0 H (Same.refl _) R (by rfl)
theorem xbl :XE X (.Constant (.bool i) j pos) (eC (.bl i)):=PE.wk bn3 λ σ H Q O=>by
 obtain⟨c,H0,ρ,d,ρ',R,f,q⟩:=O;obtain⟨rfl,rfl⟩:=x_4 f;exact q _ H0 H (Same.refl _) R (by rfl)
theorem H_8 :XE X (.Constant .none j pos) (eC .non):=PE.wk aJ5 λ σ H Q O=>by
 obtain⟨c,H0,ρ,d,ρ',R,f,q⟩:=O;obtain⟨rfl,rfl⟩:=x_4 f;exact q _ H0 H (Same.refl _) R (by rfl)
theorem c_7 :XE X (.Constant (.str x) j pos) (eC (.str x)):=PE.wk aJ3 λ σ H Q O=>by
 obtain⟨c,H0,ρ,d,ρ',R,f,q⟩:=O;obtain⟨rfl,rfl⟩:=x_4 f;exact q _ H0 H (Same.refl _) R (by rfl)
abbrev Aft (K:Frag) (c:FC) (H0:Hp) (ρ:En) (σ:L2.St) (d:D) (Q:VK):Prop:=∀ v H0' H',Same H0 H0'->RS K c H0' H' ρ σ->Rep K H0' d v->Q v H'
def OpD (K:Frag) (r:R2) (Y:D->D->Option D):Prop:=∀ (c:FC) (H0 H:Hp) (ρ:En) (σ:L2.St) (x y d:D) (O q:V) (Q:VK),RS K c H0 H ρ σ->Rep K H0 x O->Rep K H0 y q->Y x y=some d->Aft K c H0 ρ σ d Q->r O q H Q
def H_1 (X:Cx) (q:Operator) (f:D->D->Option D):Prop:=∃ r,OpR X (binaryOp q) r/\OpD X.K r f
def l_2 (X:Cx) (q:CmpOp) (f:D->D->Option D):Prop:=∃ r,OpR X (compareOp q) r/\OpD X.K r f
theorem s_7  (h:e2 Y F G ρ=some (d,ρ')):∃ x q y,F ρ=some (x,q)/\G q=some (y,ρ')/\Y x y=some d:=by obtain⟨⟨x,q⟩,h1,h⟩:=a_0 h;obtain⟨⟨y,O⟩,h2,h⟩:=a_0 h;obtain⟨z,Z,h⟩:=a_0 h;have h':=h;cases h';exact⟨x,q,y,h1,h2,Z⟩
theorem T_2 {K:Frag} (o:OpD K r Z)  (h:tE K (e2 Z F G) σ H Q):tOp r (tE K F) (tE K G) σ H Q:=by
 obtain⟨c,H0,ρ,d,ρ',R,f,q⟩:=h;obtain⟨x,O,y,h1,h2,h3⟩:=s_7 f;refine⟨c,H0,ρ,x,O,R,h1,λ vx H1 Hh s1 R1 r1=>?_⟩;refine⟨c,H1,O,y,ρ',R1,h2,λ vy H2 Hh2 Y R2 r2=>?_⟩;exact o c H2 Hh2 ρ' σ x y d vx vy Q R2 (Rep.mono Y x r1) r2 h3 λ v H3 Hh3 s3 R3 r3=>q v H3 Hh3 (s1.trans (Y.trans s3)) R3 r3
theorem xb  (o:H_1 X q f) (O:XE X a F) (Y:XE X b G):XE X (.BinOp a q b pos) (e2 f F G):=by
 obtain⟨r,h1,h2⟩:=o;exact PE.wk (aA4 h1 O Y) λ σ H Q h=>T_2 h2 h
theorem n_1  (o:l_2 X q f) (Y:XE X a F) (Z:XE X b G) (O:behindInMarks q b=false:=by first | exact al2 _ | with_unfolding_all rfl):XE X (.Compare a [q] [b] pos) (e2 f F G):=by
 obtain⟨r,h1,h2⟩:=o;exact PE.wk (ak0 h1 Y Z O) λ σ H Q h=>T_2 h2 h
theorem aP3 {K:Frag} (w:∀ Q,tE K F σ H Q->t σ H Q) (h:tTt K (tB F) σ H Q):aP0 t σ H Q:=by
 obtain⟨c,H0,ρ,b,ρ',R,f,q⟩:=h;obtain⟨⟨d,O⟩,h1,f⟩:=a_0 f;obtain⟨b',h2,f⟩:=a_0 f;have Z:=f;cases Z;refine w _ ⟨c,H0,ρ,d,_,R,h1,λ v H1 Hh s1 R1 Y=>?_⟩;cases d with
 |bl k =>
  have e:=qi h2;exact⟨k,Y,by rw[e];exact q H1 Hh s1 R1⟩
 |_=>cases h2
theorem xt  (o:l_2 X q f) (Y:XE X a F) (Z:XE X b G) (O:behindInMarks q b=false:=by first | exact al2 _ | with_unfolding_all rfl):XT X (.Compare a [q] [b] pos) (tB (e2 f F G)):=by
 obtain⟨r,h1,h2⟩:=o;exact PT.wk (aS2 h1 Y Z O) λ σ H Q h=>aP3 (λ Q h=>T_2 h2 h) h
theorem T_4 {K:Frag} (o:OpD K r op) (o':OpD K r' Y)  (h:tE K (e3 op Y F G L) σ H Q):ah1 r r' (tE K F) (tE K G) (tE K L) σ H Q:=by
 obtain⟨c,H0,ρ,d,ρ',R,f,q⟩:=h;obtain⟨⟨x,Z⟩,h1,f⟩:=a_0 f;obtain⟨⟨y,O⟩,h2,f⟩:=a_0 f;obtain⟨z,h3,f⟩:=a_0 f;obtain⟨k,h4,f⟩:=a_0 f;refine⟨c,H0,ρ,x,Z,R,h1,λ vx H1 Hh s1 R1 r1=>?_⟩;refine⟨c,H1,Z,y,O,R1,h2,λ vy H2 Hh2 s2 R2 r2=>?_⟩;refine o c H2 Hh2 O σ x y z vx vy _ R2 (Rep.mono s2 x r1) r2 h3 λ v H3 Hh3 s3 R3 r3=>?_;cases z with
 |bl k' =>
  have e:=qi h4;subst e;refine⟨k',r3,?_⟩;cases k' with
  |false =>
   rw[if_neg zu] at f ⊢;have f':=f;cases f';exact q _ H3 Hh3 (s1.trans (s2.trans s3)) R3 (by rfl)
  |true =>
   rw[if_pos rfl] at f ⊢;obtain⟨⟨w,aa⟩,h5,f⟩:=a_0 f;obtain⟨d',h6,f⟩:=a_0 f;have f':=f;cases f';refine⟨c,H3,O,w,_,R3,h5,λ vw H4 Hh4 s4 R4 r4=>?_⟩;exact o' c H4 Hh4 _ σ y w d vy vw Q R4 (Rep.mono s4 y (Rep.mono s3 y r2)) r4 h6 λ v H5 Hh5 s5 R5 r5=>q v H5 Hh5 (s1.trans (s2.trans (s3.trans (s4.trans s5)))) R5 r5
 |_=>cases h4
theorem av9  (o:l_2 X Z f) (o':l_2 X q f') (ha:XE X a F) (hb:XE X b G) (hc:XE X m L) (hm:lastMarks [Z,q] [b,m]=false:=by with_unfolding_all rfl):XE X (.Compare a [Z,q] [b,m] pos) (e3 f f' F G L):=by
 obtain⟨r,h1,h2⟩:=o;obtain⟨r',O,Y⟩:=o';exact PE.wk (aA7 h1 O ha hb hc hm) λ σ H Q h=>T_4 h2 Y h
theorem xt3  (o:l_2 X Z f) (o':l_2 X q f') (ha:XE X a F) (hb:XE X b G) (hc:XE X m L) (hm:lastMarks [Z,q] [b,m]=false:=by with_unfolding_all rfl):XT X (.Compare a [Z,q] [b,m] pos) (tB (e3 f f' F G L)):=by
 obtain⟨r,h1,h2⟩:=o;obtain⟨r',O,Y⟩:=o';exact PT.wk (az9 h1 O ha hb hc hm) λ σ H Q h=>aP3 (λ Q h=>T_4 h2 Y h) h
theorem xif  (hc:XT X c T) (ha:XE X a F) (hb:XE X b G):XE X (.IfExp c a b pos) (eIf T F G):=PE.wk (aA5 hc ha hb) λ σ H Q Y=>by
 obtain⟨c,H0,ρ,d,ρ',R,f,q⟩:=Y;obtain⟨⟨k,O⟩,h1,f⟩:=a_0 f;refine⟨c,H0,ρ,k,O,R,h1,λ H1 Hh s1 R1=>?_⟩;cases k with
 |true =>
  rw[if_pos rfl] at f ⊢;exact⟨c,H1,O,d,ρ',R1,f,λ v H2 Hh2 Z R2 r2=>q v H2 Hh2 (s1.trans Z) R2 r2⟩
 |false =>
  rw[if_neg zu] at f ⊢;exact⟨c,H1,O,d,ρ',R1,f,λ v H2 Hh2 Z R2 r2=>q v H2 Hh2 (s1.trans Z) R2 r2⟩
theorem H_3  (h:XE X a F):XE X (.BoolOp op [a] pos) F:=aJ4 h
variable {rest:List Expr}
theorem aw0 (ha:XE X a F) (hb:XE X (.BoolOp .And (b::rest) pos) G):XE X (.BoolOp .And (a::b::rest) pos) (ad8 F G):=PE.wk (ak4 ha hb) λ σ H Q Y=>by
 obtain⟨c,H0,ρ,d,ρ',R,f,q⟩:=Y;obtain⟨⟨z,O⟩,h1,f⟩:=a_0 f;obtain⟨k,h2,f⟩:=a_0 f;refine⟨c,H0,ρ,z,O,R,h1,λ v H1 Hh s1 R1 r1=>?_⟩;cases z with
 |bl Z =>
  have e:=qi h2;subst e;refine⟨Z,r1,?_⟩;cases Z with
  |true =>
   rw[if_pos rfl] at f ⊢;exact⟨c,H1,O,d,ρ',R1,f,λ v H2 Hh2 s2 R2 r2=>q v H2 Hh2 (s1.trans s2) R2 r2⟩
  |false =>
   rw[if_neg zu] at f ⊢;have f':=f;cases f';exact q _ H1 Hh s1 R1 (by rfl)
 |_=>cases h2
theorem xor (ha:XE X a F) (hb:XE X (.BoolOp .Or (b::rest) pos) G):XE X (.BoolOp .Or (a::b::rest) pos) (eOr F G):=PE.wk (bI3 ha hb) λ σ H Q Y=>by
 obtain⟨c,H0,ρ,d,ρ',R,f,q⟩:=Y;obtain⟨⟨z,O⟩,h1,f⟩:=a_0 f;obtain⟨k,h2,f⟩:=a_0 f;refine⟨c,H0,ρ,z,O,R,h1,λ v H1 Hh s1 R1 r1=>?_⟩;cases z with
 |bl Z =>
  have e:=qi h2;subst e;refine⟨Z,r1,?_⟩;cases Z with
  |true =>
   rw[if_pos rfl] at f ⊢;have f':=f;cases f';exact q _ H1 Hh s1 R1 (by rfl)
  |false =>
   rw[if_neg zu] at f ⊢;exact⟨c,H1,O,d,ρ',R1,f,λ v H2 Hh2 s2 R2 r2=>q v H2 Hh2 (s1.trans s2) R2 r2⟩
 |_=>cases h2
theorem xw (h:XW X a T):XT X a T:=PW.pt h
theorem z_9 (q:XT X a T):XW X (.BoolOp .And [a] pos) T:=aR7 q
theorem t_4 (q:XT X a T):XW X (.BoolOp .Or [a] pos) T:=bl8 q
theorem aa2 (ha:XT X a T) (hb:XW X (.BoolOp .And (b::rest) pos) U):XW X (.BoolOp .And (a::b::rest) pos) (tAnd T U):=PW.wk (bl9 ha hb) λ σ H Q Y=>by
 obtain⟨c,H0,ρ,k,ρ',R,f,q⟩:=Y;obtain⟨⟨k',O⟩,h1,f⟩:=a_0 f;refine⟨c,H0,ρ,k',O,R,h1,λ H1 Hh Z R1=>?_⟩;cases k' with
 |true =>
  rw[if_pos rfl] at f ⊢;exact⟨c,H1,O,k,ρ',R1,f,λ H2 Hh2 s2 R2=>q H2 Hh2 (Z.trans s2) R2⟩
 |false =>
  rw[if_neg zu] at f ⊢;have f':=f;cases f';exact q H1 Hh Z R1
theorem H_7 (ha:XT X a T) (hb:XW X (.BoolOp .Or (b::rest) pos) U):XW X (.BoolOp .Or (a::b::rest) pos) (tOr T U):=PW.wk (bI0 ha hb) λ σ H Q Y=>by
 obtain⟨c,H0,ρ,k,ρ',R,f,q⟩:=Y;obtain⟨⟨k',O⟩,h1,f⟩:=a_0 f;refine⟨c,H0,ρ,k',O,R,h1,λ H1 Hh Z R1=>?_⟩;cases k' with
 |true =>
  rw[if_pos rfl] at f ⊢;have f':=f;cases f';exact q H1 Hh Z R1
 |false =>
  rw[if_neg zu] at f ⊢;exact⟨c,H1,O,k,ρ',R1,f,λ H2 Hh2 s2 R2=>q H2 Hh2 (Z.trans s2) R2⟩
theorem t_5 (ha:XT X a T):XT X (.UnaryOp .Not a pos) (tNot T):=PT.wk (bm2 ha) λ σ H Q O=>by
 obtain⟨c,H0,ρ,k,ρ',R,f,q⟩:=O;obtain⟨⟨Z,Y⟩,h1,f⟩:=a_0 f;have f':=f;cases f';exact⟨c,H0,ρ,Z,_,R,h1,λ H1 Hh s1 R1=>q H1 Hh s1 R1⟩
theorem aH7 {K:Frag} (s:Same H0 H) (r:Rep K H0 d v) (h:aM5 d=some k):bR7 K v H k:=by
 cases d with
 |non=>unfold Rep at r;subst r;cases h;rfl
 |bl b=>unfold Rep at r;subst r;cases h;rfl
 |int i=>unfold Rep at r;subst r;cases h;rfl
 |str x=>cases h
 |dct ks vs=>cases h
 |tup ds =>
  obtain⟨p,vs,rfl,q,t⟩:=r;have e:=qi h;have e2:ds.isEmpty=vs.isEmpty:=by rw[j8,Qg,Qg,t.length]
  exact .inr (.inl ⟨vs,Same.seqT s q,by rw[<- e2];exact e.symm⟩)
 |lst ds =>
  obtain⟨p,vs,rfl,q,t⟩:=r;have e:=qi h;have e2:ds.isEmpty=vs.isEmpty:=by rw[j8,Qg,Qg,t.length]
  exact .inl ⟨vs,Same.seq s q,by rw[<- e2];exact e.symm⟩
theorem xtv (ha:XE X a F) (he:∀ O,isTrue a X.env O=(do let v <- O;standAt a.pos;holding [v] (truthy v))):XT X a (tV F):=PT.wk (az8 ha he) λ σ H Q Y=>by
 obtain⟨c,H0,ρ,k,ρ',R,f,q⟩:=Y;obtain⟨⟨d,Z⟩,h1,f⟩:=a_0 f;obtain⟨k',h2,f⟩:=a_0 f;have f':=f;cases f';exact⟨c,H0,ρ,d,_,R,h1,λ v H1 Hh s1 R1 r1=>⟨k,aH7 R1.same r1 h2,q H1 Hh s1 R1⟩⟩
theorem xaN:XA X [] aN:=PA.wk k_4 λ σ H Q O=>by
 obtain⟨c,H0,ρ,ds,ρ',R,f,q⟩:=O;have Y:=f;cases Y;exact q [] H0 H (Same.refl _) R Reps.nil_
theorem xaC  (ha:XE X e F) (hr:XA X es A) (hs:starEach (e::es) X.env=(false,eval e X.env)::starEach es X.env:=by rfl):XA X (e::es) (aC F A):=PA.wk (e_2 ha hr hs) λ σ H Q Y=>by
 obtain⟨c,H0,ρ,ds,ρ',R,f,q⟩:=Y;obtain⟨⟨d,O⟩,h1,f⟩:=a_0 f;obtain⟨⟨r,Z⟩,h2,f⟩:=a_0 f;have f':=f;cases f';refine⟨c,H0,ρ,d,O,R,h1,λ v H1 Hh s1 R1 r1=>?_⟩;refine⟨c,H1,O,r,_,R1,h2,λ vs H2 Hh2 s2 R2 r2=>?_⟩;exact q _ H2 Hh2 (s1.trans s2) R2 (Reps.cons (Rep.mono s2 d r1) r2)
theorem ax0  (h:n<=1000):n<=sizeLine:=Z2 (v_2 h)
theorem u_7  (h:XA X es A):XE X (.Tuple es x1 pos) (g_7 A):=PE.wk (aJ2 h) λ σ H Q O=>by
 obtain⟨c,H0,ρ,d,ρ',R,f,q⟩:=O;obtain⟨⟨ds,aa⟩,h1,f⟩:=a_0 f;split at f
 ·rename_i hl;cases f;refine⟨c,H0,ρ,ds,_,R,h1,λ vs H1 Hh s1 Z Y=>⟨by rw[<- Y.length];exact ax0 hl,λ p hp=>?_⟩⟩;have S:=Step.alloc (o:=.tup vs) Z.same hp;refine q _ _ _ (s1.trans S.s0) (Z.after S) ?_;exact⟨p,vs,rfl,.inl (.inl a_4),Reps.mono S.s0 ds Y⟩
 ·cases f
theorem y_7  (h:XA X es A):XE X (.List es pos) (j_2 A):=PE.wk (aj9 h) λ σ H Q O=>by
 obtain⟨c,H0,ρ,d,ρ',R,f,q⟩:=O;obtain⟨⟨ds,aa⟩,h1,f⟩:=a_0 f;split at f
 ·rename_i hl;cases f;refine⟨c,H0,ρ,ds,_,R,h1,λ vs H1 Hh s1 Z Y=>⟨by rw[<- Y.length];exact ax0 hl,λ p hp=>?_⟩⟩;have S:=Step.alloc (o:=.lst vs) Z.same hp;refine q _ _ _ (s1.trans S.s0) (Z.after S) ?_;exact⟨p,vs,rfl,.inl (.inl a_4),Reps.mono S.s0 ds Y⟩
 ·cases f
theorem bu8:@dPl=@ixN:=rfl
theorem bw3 {K:Frag} (r:Reps K H ds vs) (h:atD ds i=some d):∃ v,atI vs i=some v/\Rep K H d v:=by obtain⟨j,h1,h2⟩:=a_0 h;obtain⟨v,e1,e2⟩:=r.get h2;refine⟨v,?_,e2⟩;unfold atI;rw[<- r.length,<- bu8,h1];exact e1
theorem PO.wk  (h:PO X e t) (w:∀ σ H Q,t' σ H Q->t σ H Q):PO X e t':=λ pins s σ H Q I q=>h pins s σ H Q I (w σ H Q q)
theorem xoN:XO X none oN:=PO.wk aj5 λ σ H Q O=>by
 obtain⟨c,H0,ρ,o,ρ',R,f,q⟩:=O;have Y:=f;cases Y;exact q H0 H (Same.refl _) R
theorem xoS (h:XE X e F):XO X (some e) (oS F):=PO.wk (aj4 h) λ σ H Q O=>by
 obtain⟨c,H0,ρ,o,ρ',R,f,q⟩:=O;obtain⟨⟨d,Y⟩,h1,f⟩:=a_0 f;obtain⟨i,h2,f⟩:=a_0 f;have f':=f;cases f';refine⟨c,H0,ρ,d,_,R,h1,λ v H1 Hh s1 R1 Z=>?_⟩;cases d with
 |int j =>
  have e:=qi h2;subst e;exact⟨j,Z,q H1 Hh s1 R1⟩
 |_=>cases h2
theorem G_2 (n d:Nat) (o:Option Int):ar0 n d o=HT.sIx n d o:=by cases o <;> rfl
theorem aM8 {K:Frag} (r:Reps K H ds vs) (lo hi:Option Int):Reps K H (r_0 ds lo hi) (av0 vs lo hi):=by unfold r_0 av0;rw[G_2,G_2,r.length];exact (r.drop _).take _
end
section
variable {X:Cx}{K:Frag}
theorem D_7  (h:∀ x y d,f x y=some d->∃ i j,x=.int i/\y=.int j/\C i j/\∀ H,Rep K H d (g i j)):OpD K (rI C g) f:=λ c H0 H ρ σ x y d vx vy Q R O Y e q=>by
 obtain⟨i,j,rfl,rfl,Z,hr⟩:=h x y d e;exact⟨i,j,O,Y,Z,q _ H0 H (Same.refl _) R (hr H0)⟩
theorem V_2  (h:∀ x y d,f x y=some d->∃ i j,x=.int i/\y=.int j/\∀ H,Rep K H d (g i j)):OpD K (rI0 g) f:=λ c H0 H ρ σ x y d vx vy Q R O Y e q=>by
 obtain⟨i,j,rfl,rfl,Z⟩:=h x y d e;exact⟨i,j,O,Y,q _ H0 H (Same.refl _) R (Z H0)⟩
theorem d_3 (H:Hp) (i:Int):Rep K H (.int i) (.int i):=by rfl
theorem n_3 (H:Hp) (i:Bool):Rep K H (.bl i) (.bl i):=by rfl
theorem ifs  [Decidable c]  (h:(if c then some a else none)=some d):c/\a=d:=by
 by_cases q:c
 ·rw[if_pos q] at h;exact⟨q,qi h⟩
 ·rw[if_neg q] at h;cases h
theorem aT8:H_1 X .Sub L_7:=⟨_,bn6,V_2 λ x y d e=>by
 obtain⟨i,j,rfl,rfl,e⟩:=A_7 e;cases e;exact⟨_,_,rfl,rfl,λ H=>d_3 H _⟩⟩
def CMulD (i j:Int):Prop:=l_3 i j=true
theorem s_6  (h:bR0 i=true):Builtin.Int.intBits i<=1000:=by
 have h:=Qr h;unfold Builtin.Int.intBits;split
 ·exact yi _
 ·rename_i q;have q:i≠0:=by simpa using q
  have O:i.natAbs≠0:=by omega
  have:=(Nat.log2_lt O).mpr h;omega
theorem CMulD.ok  (h:CMulD i j):IntMulOk i j:=by
 unfold CMulD l_3 at h;simp only[Bool.or_eq_true,zk,yw] at h;rcases h with (h | h) | ⟨h1,h2⟩
 ·exact IntMulOk.of_left (Y6 (by omega) (by omega))
 ·exact IntMulOk.of_right (Y6 (by omega) (by omega))
 ·unfold IntMulOk;have q:=s_6 h1;have O:=s_6 h2;have:Builtin.Int.intTooBig ((Builtin.Int.intBits i:Int)+(Builtin.Int.intBits j:Int))=false:=by
   refine zy ?_;have:(2000:Int)<=bitsLine:=by decide
   omega
  simp[this]
theorem aB3:H_1 X .Mult af5:=⟨rI CMulD λ i j=>.int (i*j),opI λ _ _ _ _ _ _ _ O q=>mul_int q O.ok,D_7 λ x y d e=>by
 obtain⟨i,j,rfl,rfl,e⟩:=A_7 e;obtain⟨h,rfl⟩:=ifs e;exact⟨_,_,rfl,rfl,h,λ H=>d_3 H _⟩⟩
def bx1 (i j:Int):Prop:=h_4 j=true
theorem ac0:H_1 X .FloorDiv L_8:=⟨rI bx1 λ i j=>.int (i.fdiv j),opI λ i j _ _ _ _ _ O q=>by
  unfold bx1 h_4 at O;simp only[zk,yw] at O;refine floordiv_int O.1 q (.inl (PyProof.noPylong_of_log2 ?_));have Y:j.natAbs≠0:=by have:=O.1;omega
  have:=(Nat.log2_lt Y).mpr O.2;omega,D_7 λ x y d e=>by
 obtain⟨i,j,rfl,rfl,e⟩:=A_7 e;obtain⟨h,rfl⟩:=ifs e;exact⟨_,_,rfl,rfl,h,λ H=>d_3 H _⟩⟩
theorem i_4:H_1 X .Mod f_4:=⟨_,aT4,D_7 λ x y d e=>by
 obtain⟨i,j,rfl,rfl,e⟩:=A_7 e;obtain⟨h,rfl⟩:=ifs e;exact⟨_,_,rfl,rfl,h,λ H=>d_3 H _⟩⟩
theorem bf0:H_1 X .Pow au7:=⟨_,bn8,D_7 λ x y d e=>by
 obtain⟨i,j,rfl,rfl,e⟩:=A_7 e;obtain⟨h,rfl⟩:=ifs e;exact⟨_,_,rfl,rfl,⟨h.1,by omega,h.2.2⟩,λ H=>d_3 H _⟩⟩
def bl5 (K:Frag):R2:=λ x y H Q=>∃ l b xs zs,x=.ref l/\y=.ref b/\SqL K H l xs/\SqL K H b zs/\xs.length+zs.length<=sizeLine/\∀ p,H p=none->Q (.ref p) (upd H p (.lst (xs++zs)))
theorem P_0:OpR X (binaryOp .Add) (bl5 X.K):=by
 intro pins s σ H x y v u Q I rx ry h;obtain⟨l,b,xs,zs,rfl,rfl,hH,hB,hz,q⟩:=h;cases rx;cases ry;obtain⟨Y,r,pl,_⟩:=I.list hH;obtain⟨O,r2,ag,_⟩:=I.list hB;have hl:=r.length;have ai:=r2.length;obtain⟨⟨cls,dd,data,sl⟩,ho,hc,n,hd⟩:=pl.isList;obtain⟨⟨ah,ad,af,ae⟩,ac,aa,n2,Z⟩:=ag.isList;subst hc hd aa Z;have e:Y.toArray++O.toArray=(Y++O).toArray:=by simp
 refine concat_meets ⟨_,ho,rfl⟩ ⟨_,ac,rfl⟩ noFill_list_add seq_list_add PySem.F.slot_list_add PySem.F.entry_list_add (PySem.F.args_list_add_2 _ _) (list_addW l b Y.toArray O.toArray n n2 dd ad sl ae (by rw[zc,zc];omega)) ⟨ho,ac,?_⟩;rw[e];exact⟨.ref _,_,I.lnew (r.append r2) (by rw[zh];omega),rfl,q _ I.fresh⟩
def bH9 (K:Frag):R2:=λ x y H Q=>rI0 (λ i j=>.int (i+j)) x y H Q\/((∃ i j,x=.str i/\y=.str j/\i.length+j.length<=sizeLine/\Q (.str (i++j)) H)\/bl5 K x y H Q)
theorem h_5:H_1 X .Add e_7:=⟨bH9 X.K,op_add.or (op_add_str.or P_0),λ c H0 H ρ σ x y d vx vy Q R O Y e q=>by
 cases x with
 |int i =>
  cases y with
  |int j =>
   cases e;exact .inl ⟨_,_,O,Y,q _ H0 H (Same.refl _) R (d_3 H0 _)⟩
  |_=>cases e
 |str i =>
  cases y with
  |str j =>
   obtain⟨h,rfl⟩:=ifs e;exact .inr (.inl ⟨_,_,O,Y,h,q _ H0 H (Same.refl _) R (by rfl)⟩)
  |_=>cases e
 |lst ds =>
  cases y with
  |lst es =>
   obtain⟨h,rfl⟩:=ifs e;obtain⟨p,vs,rfl,s,t⟩:=O;obtain⟨p2,Z,rfl,s2,t2⟩:=Y;refine .inr (.inr ⟨p,p2,vs,Z,rfl,rfl,Same.seq R.same s,Same.seq R.same s2,by rw[<- t.length,<- t2.length];exact h,λ p' hp=>?_⟩);have S:=Step.alloc (o:=.lst (vs++Z)) R.same hp;refine q _ _ _ S.s0 (R.after S) ?_;exact⟨p',_,rfl,.inl (.inl a_4),Reps.mono S.s0 _ (t.app t2)⟩
  |_=>cases e
 |_=>cases y <;> cases e⟩
theorem aO4  (ha:XE X a F):XE X (.UnaryOp .USub a pos) (e1 au8 F):=PE.wk (bn0 aH1 ha) λ σ H Q O=>by
 obtain⟨c,H0,ρ,d,ρ',R,f,q⟩:=O;obtain⟨⟨x,Y⟩,h1,f⟩:=a_0 f;obtain⟨d',h2,f⟩:=a_0 f;have f':=f;cases f';refine⟨c,H0,ρ,x,_,R,h1,λ v H1 Hh s1 R1 Z=>?_⟩;cases x with
 |int i =>
  have e:=qi h2;subst e;exact⟨i,Z,q _ H1 Hh s1 R1 (d_3 _ _)⟩
 |_=>cases h2
theorem bC1 :OpD K (rI0 λ i j=>.bl (p i j)) (bv1 p):=V_2 λ x y d e=>by
 obtain⟨i,j,rfl,rfl,e⟩:=A_7 e;cases e;exact⟨_,_,rfl,rfl,λ H=>n_3 H _⟩
theorem cLt:l_2 X .Lt dLt:=⟨_,bI8,bC1⟩
theorem cLe:l_2 X .LtE dLe:=⟨_,bI9,bC1⟩
theorem cGt:l_2 X .Gt dGt:=⟨_,bJ0,bC1⟩
theorem cGe:l_2 X .GtE dGe:=⟨_,bJ1,bC1⟩
theorem aL3  (r:Rep K H x v):isN x=decide (v=.non):=by
 cases x with
 |non=>unfold Rep at r;subst r;rfl
 |bl b=>unfold Rep at r;subst r;rfl
 |int b=>unfold Rep at r;subst r;rfl
 |str b=>unfold Rep at r;subst r;rfl
 |tup ds=>unfold Rep at r;obtain⟨p,vs,rfl,_⟩:=r;rfl
 |dct ks vs=>unfold Rep at r;obtain⟨p,o,us,rfl,_⟩:=r;rfl
 |lst ds=>unfold Rep at r;obtain⟨p,vs,rfl,_⟩:=r;rfl
theorem cIs:l_2 X .Is dIs:=⟨_,bo0,λ c H0 H ρ σ x y d vx vy Q R Z O e q=>by
 cases y with
 |non =>
  have Y:D.bl (isN x)=d:=by cases x <;> exact qi e
  subst Y;exact⟨O,by rw[<- aL3 Z];exact q _ H0 H (Same.refl _) R (n_3 _ _)⟩
 |_=>cases x <;> cases e⟩
theorem bv5:l_2 X .IsNot aq9:=⟨_,aT3,λ c H0 H ρ σ x y d vx vy Q R Z O e q=>by
 cases y with
 |non =>
  have Y:D.bl (!isN x)=d:=by cases x <;> exact qi e
  subst Y;exact⟨O,by rw[<- aL3 Z];exact q _ H0 H (Same.refl _) R (n_3 _ _)⟩
 |_=>cases x <;> cases e⟩
end
theorem m_9:∀ (ds es:List D),y_8 ds es=((List.range (min ds.length es.length)).all (λ j=>eqD (ds.getD j .non) (es.getD j .non))&&ds.length==es.length)
 |[],[]=>by simp[y_8]
 |[],e::es=>by simp[y_8]
 |d::ds,[]=>by simp[y_8]
 |d::ds,e::es=>by
  rw[y_8,m_9 ds es];have h:min (d::ds).length (e::es).length=min ds.length es.length+1:=by simp only[zj];omega
  rw[h,Yo,Yf,List.all_map];have h2:((d::ds).length==(e::es).length)=(ds.length==es.length):=by simp
  rw[h2,Bool.and_assoc];rfl
theorem s_1:∀ {ds:List D}{n:Nat}{j:Nat}{d:D},p_2 ds<=n->ds[j]?=some d->dpD d<=n
 |[],_,_,_,_,e=>by simp at e
 |d::ds,n,0,_,h,e=>by
  rw[L_6] at h;simp at e;subst e;omega
 |d::ds,n,j+1,d',h,e=>by
  rw[L_6] at h;exact s_1 (ds:=ds) (by omega) (by simpa using e)
section
variable {X:Cx}{pins:List (Addr×Obj)}{σ:L2.St}{H:Hp}{s:Shared}
theorem aZ3  (hd:Reps X.K H ds vs) (Y:Reps X.K H es vs) (h:∀ (j:Nat) (d e:D) (v:V),vs[j]?=some v->ds[j]?=some d->es[j]?=some e->Rep X.K H d v->Rep X.K H e v->eqD d e=true):y_8 ds es=true:=by
 rw[m_9];have l1:=hd.length;have l2:=Y.length;rw[zk,Q0];refine⟨λ j hj=>?_,by simp;omega⟩;have O:j<ds.length:=by have:=List.mem_range.mp hj;omega
 have q:j<es.length:=by omega
 obtain⟨v,a1,a2⟩:=hd.get (i:=j) (d:=ds[j]) (by simp[O]);obtain⟨v',Z,b2⟩:=Y.get (i:=j) (d:=es[j]) (by simp[q]);rw[a1] at Z;cases Z;have:=h j ds[j] es[j] v a1 (by simp[O]) (by simp[q]) a2 b2;simpa [List.getD,O,q] using this
theorem bp0 (I:Inv X pins σ H s)  (h:SqT X.K H a xs) (h':SqL X.K H a ys):False:=by
 obtain⟨_,_,⟨o,e,c,_⟩,_⟩:=I.tuple h;obtain⟨_,_,⟨o',n,q,O,_⟩,_⟩:=I.list h';rw[e] at q;cases q;have z:=c.symm.trans O;injection z with z
 exact absurd z (by decide)
theorem cm9  (h:dpD (.tup ds)<1000):p_2 ds<999:=by rw[G_0] at h;omega
theorem cn0  (h:dpD (.lst ds)<1000):p_2 ds<999:=by rw[G_1] at h;omega
theorem bZ8  (h:p_2 ds<999) {j:Nat} (e:ds[j]?=some d):dpD d<1000:=by have:=s_1 (n:=998) (by omega) e;omega
inductive Sh (X:Cx) (H:Hp) (s:Shared):D->V->Value->Prop
 |non:Sh X H s .non .non .none
 |bl (b:Bool):Sh X H s (.bl b) (.bl b) (.bool b)
 |int (i:Int) (t:Tok):Sh X H s (.int i) (.int i) (.int i t)
 |str (x:Str) (t:Tok):Sh X H s (.str x) (.str x) (.str x t)
 |tup {ds:List D}{p:Addr}{vs:List V}{its:List Value} (s1:SqT X.K H p vs) (q:Reps X.K H ds vs) (rv:Vals vs its) (tp:IsTup s.heap p its.toArray) (z:p_2 ds<999):Sh X H s (.tup ds) (.ref p) (.ref p)
 |lst {ds:List D}{p:Addr}{vs:List V}{its:List Value} (s1:SqL X.K H p vs) (q:Reps X.K H ds vs) (rv:Vals vs its) (tp:s.heap.IsList p its.toArray) (z:p_2 ds<999):Sh X H s (.lst ds) (.ref p) (.ref p)
theorem I_4 (I:Inv X pins σ H s)  (hz:dpD d<1000) (r:Rep X.K H d x) (w:RelV x u):Sh X H s d x u:=by
 cases d with
 |dct ks vs=>exact absurd hz (by rw[bb9];omega)
 |non=>unfold Rep at r;subst r;cases (show u=Value.none from w);exact .non
 |bl b=>unfold Rep at r;subst r;cases (show u=Value.bool _ from w);exact .bl b
 |int i=>unfold Rep at r;subst r;obtain⟨t,rfl⟩:=w;exact .int i t
 |str i=>unfold Rep at r;subst r;obtain⟨t,rfl⟩:=w;exact .str i t
 |tup ds =>
  obtain⟨p,vs,rfl,O,q⟩:=r;cases (show u=Value.ref _ from w);obtain⟨Y,Z,tp,_⟩:=I.tuple O;exact .tup O q Z tp (cm9 hz)
 |lst ds =>
  obtain⟨p,vs,rfl,O,q⟩:=r;cases (show u=Value.ref _ from w);obtain⟨Y,Z,tp,_⟩:=I.list O;exact .lst O q Z tp.isList (cn0 hz)
theorem ai3 (I:Inv X pins σ H s):∀ (n:Nat) (d e:D) (v:V) (u:Value),dpD d<=n->dpD d<1000->dpD e<1000->Rep X.K H d v->Rep X.K H e v->RelV v u->eqD d e=true
 |n,d,e,v,u,hn,hz1,hz2,r1,r2,w=>by
  have go:∀ {ds es:List D}{vs:List V}{Y:List Value},p_2 ds+1<=n->p_2 ds<999->p_2 es<999->Reps X.K H ds vs->Reps X.K H es vs->Vals vs Y->y_8 ds es=true:=by
   intro ds es vs Y hn z1 z2 q1 q2 Z;cases n with
   |zero=>omega
   |succ n =>
    refine aZ3 q1 q2 λ j d e v h0 h1 h2 a b=>?_;obtain⟨u,_,w⟩:=Z.get h0;exact ai3 I n d e v u (s_1 (by omega) h1) (bZ8 z1 h1) (bZ8 z2 h2) a b w
  have k1:=I_4 I hz1 r1 w;have k2:=I_4 I hz2 r2 w;clear r1 r2 w hz1 hz2;cases k1 with
  |tup s1 q Z tp z=>cases k2 with
   |tup O q' ac aa z' =>
    cases I.tuple_inj s1 O;rw[G_0] at hn;rw[eqD];exact go hn z z' q q' Z
   |lst O=>exact (bp0 I s1 O).elim
  |lst s1 q Z tp z=>cases k2 with
   |lst O q' ac aa z' =>
    cases I.list_inj s1 O;rw[G_1] at hn;rw[eqD];exact go hn z z' q q' Z
   |tup O=>exact (bp0 I O s1).elim
  |_=>cases k2;simp[eqD]
def RcN (X:Cx) (H:Hp) (s:Shared) (n:Nat):Prop:=∀ (A:Around) (d e:D) (x y:V) (u v:Value),dpD d<=n->dpD d<1000->dpD e<1000->A.units+n<cLine->Rep X.K H d x->RelV x u->Rep X.K H e y->RelV y v->SeqAt.RcAt A s u v (eqD d e)
def EqN (X:Cx) (H:Hp) (s:Shared) (n:Nat):Prop:=∀ (A:Around) (d e:D) (x y:V) (u v:Value),dpD d<=n->dpD d<1000->dpD e<1000->A.units+n<cLine->Rep X.K H d x->RelV x u->Rep X.K H e y->RelV y v->SeqAt.EqAt A s u v (eqD d e)
theorem bt5 (I:Inv X pins σ H s)  (rc:RcN X H s n):EqN X H s n:=by
 intro A d e x y u v hn Y Z hA r1 w1 r2 w2;have O:A.units<cLine:=by omega
 have key:=rc A d e x y u v hn Y Z hA r1 w1 r2 w2;have one:x=y->eqD d e=true:=λ z=>ai3 I _ d e x u (qj _) Y Z r1 (z▸r2) w1;have rf:∀ p1 p2,x=.ref p1->y=.ref p2->u=.ref p1->v=.ref p2->SeqAt.EqAt A s u v (eqD d e):=λ p1 p2 h1 h2 h3 h4=>by
  subst h1 h2 h3 h4;by_cases h:p1=p2
  ·rw[one (by rw[h]),h];exact SeqAt.EqAt.same _
  ·exact SeqAt.EqAt.of_refs h key
 clear key one;have k1:=I_4 I Y r1 w1;have k2:=I_4 I Z r2 w2;cases k1 with
 |non=>cases k2;exact SeqAt.EqAt.same _;exact SeqAt.EqAt.none_bool _;exact SeqAt.EqAt.none_int _ _;exact SeqAt.EqAt.none_str _ _;exact SeqAt.EqAt.none_tuple ‹_› O;exact SeqAt.EqAt.none_list ‹_› O
 |bl=>cases k2;exact SeqAt.EqAt.bool_none _;exact SeqAt.EqAt.bool_bool _ _;exact SeqAt.EqAt.bool_int _ _ _;exact SeqAt.EqAt.bool_str _ _ _;exact SeqAt.EqAt.bool_tuple _ ‹_› O;exact SeqAt.EqAt.bool_list _ ‹_› O
 |int=>cases k2;exact SeqAt.EqAt.int_none _ _;exact SeqAt.EqAt.int_bool _ _ _;exact SeqAt.EqAt.int_int _ _ _ _;exact SeqAt.EqAt.int_str _ _ _ _;exact SeqAt.EqAt.int_tuple _ _ ‹_› O;exact SeqAt.EqAt.int_list _ _ ‹_› O
 |str=>cases k2;exact SeqAt.EqAt.str_none _ _;exact SeqAt.EqAt.str_bool _ _ _;exact SeqAt.EqAt.str_int _ _ _ _;exact SeqAt.EqAt.str_str _ _ _ _;exact SeqAt.EqAt.str_tuple _ _ ‹_› O;exact SeqAt.EqAt.str_list _ _ ‹_› O
 |tup s1 q1 aa q=>cases k2;exact SeqAt.EqAt.tuple_none q O;exact SeqAt.EqAt.tuple_bool _ q O;exact SeqAt.EqAt.tuple_int _ _ q O;exact SeqAt.EqAt.tuple_str _ _ q O;exact rf _ _ rfl rfl rfl rfl;exact rf _ _ rfl rfl rfl rfl
 |lst s1 q1 aa q=>cases k2;exact SeqAt.EqAt.list_none q O;exact SeqAt.EqAt.list_bool _ q O;exact SeqAt.EqAt.list_int _ _ q O;exact SeqAt.EqAt.list_str _ _ q O;exact rf _ _ rfl rfl rfl rfl;exact rf _ _ rfl rfl rfl rfl
theorem at6 {q:List Value} (h:j<q.toArray.size):q[j]?=some q.toArray[j]:=by
 have h':j<q.length:=by simpa using h
 simp[h']
theorem F_2 {A:Around} (Z:EqN X H s n)  (hn:p_2 ds<=n) (aa:p_2 ds<1000) (ac:p_2 es<1000) (hA:A.in1.units+n<cLine) (q1:Reps X.K H ds vs) (q2:Reps X.K H es O) (rv:Vals vs q) (Y:Vals O its')
  (j:Nat) (h1:j<q.toArray.size) (h2:j<its'.toArray.size):SeqAt.EqAt A.in1 s q.toArray[j] its'.toArray[j] (eqD (ds.getD j .non) (es.getD j .non)):=by
 have l1:=q1.length;have l2:=q2.length;have m1:=rv.length;have m2:=Y.length;have k1:j<ds.length:=by rw[zc] at h1;omega
 have k2:j<es.length:=by rw[zc] at h2;omega
 have e1:ds[j]?=some ds[j]:=by simp[k1]
 have e2:es[j]?=some es[j]:=by simp[k2]
 obtain⟨v,a1,a2⟩:=q1.get e1;obtain⟨v',b1,b2⟩:=q2.get e2;obtain⟨u,c1,c2⟩:=rv.get a1;obtain⟨u',d1,d2⟩:=Y.get b1;rw[at6 h1] at c1;rw[at6 h2] at d1;have g1:ds.getD j .non=ds[j]:=by simp[List.getD,k1]
 have g2:es.getD j .non=es[j]:=by simp[List.getD,k2]
 rw[g1,g2,Yt c1,Yt d1];exact Z A.in1 ds[j] es[j] v v' u u' (s_1 hn e1) (by have z:=s_1 (n:=999) (by omega) e1;omega) (by have z:=s_1 (n:=999) (by omega) e2;omega) hA a2 c2 b2 d2
theorem rcS (I:Inv X pins σ H s) (n:Nat) (ih:∀ m,m<n->EqN X H s m):RcN X H s n:=by
 intro A d e x y u v hn aa ac hA r1 w1 r2 w2;have O:A.units<cLine:=by omega
 have hi:=λ _=>by show A.units+1+(n-1)<cLine;omega
 have k1:=I_4 I aa r1 w1;have k2:=I_4 I ac r2 w2;clear r1 r2 w1 w2;cases k1 with
 |non=>cases k2;exact SeqAt.RcAt.none_none;exact SeqAt.RcAt.none_bool _;exact SeqAt.RcAt.none_int _ _;exact SeqAt.RcAt.none_str _ _;exact SeqAt.RcAt.none_tuple ‹_› O;exact SeqAt.RcAt.none_list ‹_› O
 |bl=>cases k2;exact SeqAt.RcAt.bool_none _;exact SeqAt.RcAt.bool_bool _ _;exact SeqAt.RcAt.bool_int _ _ _;exact SeqAt.RcAt.bool_str _ _ _;exact SeqAt.RcAt.bool_tuple _ ‹_› O;exact SeqAt.RcAt.bool_list _ ‹_› O
 |int=>cases k2;exact SeqAt.RcAt.int_none _ _;exact SeqAt.RcAt.int_bool _ _ _;exact SeqAt.RcAt.int_int _ _ _ _;exact SeqAt.RcAt.int_str _ _ _ _;exact SeqAt.RcAt.int_tuple _ _ ‹_› O;exact SeqAt.RcAt.int_list _ _ ‹_› O
 |str=>cases k2;exact SeqAt.RcAt.str_none _ _;exact SeqAt.RcAt.str_bool _ _ _;exact SeqAt.RcAt.str_int _ _ _ _;exact SeqAt.RcAt.str_str _ _ _ _;exact SeqAt.RcAt.str_tuple _ _ ‹_› O;exact SeqAt.RcAt.str_list _ _ ‹_› O
 |@tup ds p1 _ Z s1 q1 Y q z1 =>
  cases k2
  case tup es p2 _ its2 s2 q2 rv2 tp2 z2 =>
   rw[G_0] at hn;have z:=SeqAt.RcAt.tuples q tp2 O (F_2 (ih (n-1) (by omega)) (by omega) (by omega) (by omega) (hi (by omega)) q1 q2 Y rv2);rw[zc,zc,<- Y.length,<- rv2.length,<- q1.length,<- q2.length] at z;rw[eqD,m_9];exact z
  exact SeqAt.RcAt.tuple_none q O;exact SeqAt.RcAt.tuple_bool _ q O;exact SeqAt.RcAt.tuple_int _ _ q O;exact SeqAt.RcAt.tuple_str _ _ q O;exact SeqAt.RcAt.tuple_list q ‹_› O
 |@lst ds p1 _ Z s1 q1 Y q z1 =>
  cases k2
  case lst es p2 _ its2 s2 q2 rv2 tp2 z2 =>
   rw[G_1] at hn;have l1:Z.toArray.size=ds.length:=by rw[zc,<- Y.length,<- q1.length]
   have l2:its2.toArray.size=es.length:=by rw[zc,<- rv2.length,<- q2.length]
   rw[eqD,m_9];by_cases hl:ds.length=es.length
   ·have z:=SeqAt.RcAt.lists q tp2 (by rw[l1,l2];exact hl) O (F_2 (ih (n-1) (by omega)) (by omega) (by omega) (by omega) (hi (by omega)) q1 q2 Y rv2);rw[l1] at z;rw[show min ds.length es.length=ds.length by omega,show (ds.length==es.length)=true by simp[hl],Bool.and_true];exact z
   ·rw[show (ds.length==es.length)=false by simp[hl],Y3];exact SeqAt.RcAt.lists_lengths q tp2 (by rw[l1,l2];simp[hl]) O
  exact SeqAt.RcAt.list_none q O;exact SeqAt.RcAt.list_bool _ q O;exact SeqAt.RcAt.list_int _ _ q O;exact SeqAt.RcAt.list_str _ _ q O;exact SeqAt.RcAt.list_tuple q ‹_› O
theorem ap5 (I:Inv X pins σ H s) (n:Nat):EqN X H s n:=by
 induction n using Nat.strongRecOn with
 |ind n q=>exact bt5 I (rcS I n q)
theorem rcN (I:Inv X pins σ H s) (n:Nat):RcN X H s n:=rcS I n λ m _=>ap5 I m
def bV1 (K:Frag):R2:=λ x y H Q=>∃ d e,Rep K H d x/\Rep K H e y/\dpD d<=30/\dpD e<=30/\Q (.bl (eqD d e)) H
theorem bo1 (hu:X.A.units+64<cLine):OpR X (compareOp .Eq) (bV1 X.K):=by intro pins s σ H x y v u Q I O ry h;obtain⟨d,e,Y,r2,hd,Z,q⟩:=h;exact rcN I 30 X.A d e x y v u hd (by omega) (by omega) (by omega) Y O r2 ry X.prog X.w X.xe _ ⟨.bl _,H,I,rfl,q⟩
theorem bN6 {K:Frag}:OpD K (bV1 K) dEq:=λ c H0 H ρ σ x y d vx Z Q R Y O e q=>by
 unfold dEq at e;split at e
 ·rename_i hd;cases e;exact⟨x,y,Rep.mono R.same x Y,Rep.mono R.same y O,hd.1,hd.2,q _ H0 H (Same.refl _) R (n_3 _ _)⟩
 ·cases e
theorem cEq (q:X.A.units+64<cLine):l_2 X .Eq dEq:=⟨_,bo1 q,bN6⟩
theorem neN (I:Inv X pins σ H s) (n:Nat) (A:Around) (d e:D) (x y:V) (u v:Value) (hn:dpD d<=n) (aa:dpD d<1000) (ac:dpD e<1000) (hA:A.units+n<cLine) (r1:Rep X.K H d x) (w1:RelV x u) (r2:Rep X.K H e y) (w2:RelV y v):SeqAt.RcNeAt A s u v (!eqD d e):=by
 have O:A.units<cLine:=by omega
 have hi:=λ _=>by show A.units+1+(n-1)<cLine;omega
 have k1:=I_4 I aa r1 w1;have k2:=I_4 I ac r2 w2;clear r1 r2 w1 w2;cases k1 with
 |non=>cases k2;exact SeqAt.RcNeAt.none_none;exact SeqAt.RcNeAt.none_bool _;exact SeqAt.RcNeAt.none_int _ _;exact SeqAt.RcNeAt.none_str _ _;exact SeqAt.RcNeAt.none_tuple ‹_› O;exact SeqAt.RcNeAt.none_list ‹_› O
 |bl=>cases k2;exact SeqAt.RcNeAt.bool_none _;exact SeqAt.RcNeAt.bool_bool _ _;exact SeqAt.RcNeAt.bool_int _ _ _;exact SeqAt.RcNeAt.bool_str _ _ _;exact SeqAt.RcNeAt.bool_tuple _ ‹_› O;exact SeqAt.RcNeAt.bool_list _ ‹_› O
 |int=>cases k2;exact SeqAt.RcNeAt.int_none _ _;exact SeqAt.RcNeAt.int_bool _ _ _;exact SeqAt.RcNeAt.int_int _ _ _ _;exact SeqAt.RcNeAt.int_str _ _ _ _;exact SeqAt.RcNeAt.int_tuple _ _ ‹_› O;exact SeqAt.RcNeAt.int_list _ _ ‹_› O
 |str=>cases k2;exact SeqAt.RcNeAt.str_none _ _;exact SeqAt.RcNeAt.str_bool _ _ _;exact SeqAt.RcNeAt.str_int _ _ _ _;exact SeqAt.RcNeAt.str_str _ _ _ _;exact SeqAt.RcNeAt.str_tuple _ _ ‹_› O;exact SeqAt.RcNeAt.str_list _ _ ‹_› O
 |@tup ds p1 _ Z s1 q1 Y q z1 =>
  cases k2
  case tup es p2 _ its2 s2 q2 rv2 tp2 z2 =>
   rw[G_0] at hn;have z:=SeqAt.RcNeAt.tuples q tp2 O (F_2 (ap5 I (n-1)) (by omega) (by omega) (by omega) (hi (by omega)) q1 q2 Y rv2);rw[zc,zc,<- Y.length,<- rv2.length,<- q1.length,<- q2.length] at z;rw[eqD,m_9];exact z
  exact SeqAt.RcNeAt.tuple_none q O;exact SeqAt.RcNeAt.tuple_bool _ q O;exact SeqAt.RcNeAt.tuple_int _ _ q O;exact SeqAt.RcNeAt.tuple_str _ _ q O;exact SeqAt.RcNeAt.tuple_list q ‹_› O
 |@lst ds p1 _ Z s1 q1 Y q z1 =>
  cases k2
  case lst es p2 _ its2 s2 q2 rv2 tp2 z2 =>
   rw[G_1] at hn;have l1:Z.toArray.size=ds.length:=by rw[zc,<- Y.length,<- q1.length]
   have l2:its2.toArray.size=es.length:=by rw[zc,<- rv2.length,<- q2.length]
   rw[eqD,m_9];by_cases hl:ds.length=es.length
   ·have z:=SeqAt.RcNeAt.lists q tp2 (by rw[l1,l2];exact hl) O (F_2 (ap5 I (n-1)) (by omega) (by omega) (by omega) (hi (by omega)) q1 q2 Y rv2);rw[l1] at z;rw[show min ds.length es.length=ds.length by omega,show (ds.length==es.length)=true by simp[hl],Bool.and_true];exact z
   ·rw[show (ds.length==es.length)=false by simp[hl],Y3];exact SeqAt.RcNeAt.lists_lengths q tp2 (by rw[l1,l2];simp[hl]) O
  exact SeqAt.RcNeAt.list_none q O;exact SeqAt.RcNeAt.list_bool _ q O;exact SeqAt.RcNeAt.list_int _ _ q O;exact SeqAt.RcNeAt.list_str _ _ q O;exact SeqAt.RcNeAt.list_tuple q ‹_› O
def bU7 (K:Frag):R2:=λ x y H Q=>∃ d e,Rep K H d x/\Rep K H e y/\dpD d<=30/\dpD e<=30/\Q (.bl (!eqD d e)) H
theorem bn9 (hu:X.A.units+64<cLine):OpR X (compareOp .NotEq) (bU7 X.K):=by intro pins s σ H x y v u Q I O ry h;obtain⟨d,e,Y,r2,hd,Z,q⟩:=h;exact neN I 30 X.A d e x y v u hd (by omega) (by omega) (by omega) Y O r2 ry X.prog X.w X.xe _ ⟨.bl _,H,I,rfl,q⟩
theorem bK5 {K:Frag}:OpD K (bU7 K) dNe:=λ c H0 H ρ σ x y d vx Z Q R Y O e q=>by
 unfold dNe at e;split at e
 ·rename_i hd;cases e;exact⟨x,y,Rep.mono R.same x Y,Rep.mono R.same y O,hd.1,hd.2,q _ H0 H (Same.refl _) R (n_3 _ _)⟩
 ·cases e
theorem cNe (q:X.A.units+64<cLine):l_2 X .NotEq dNe:=⟨_,bn9 q,bK5⟩
end
section
variable {X:Cx}
def BOk (X:Cx) (f:Value) (g:List D->Option D):Prop:=∃ r,CallR X f r/\∀ (c:FC) (H0 H:Hp) (ρ:En) (σ:L2.St) (ds:List D) (d:D) (vs:List V) (Q:VK),RS X.K c H0 H ρ σ->Reps X.K H0 ds vs->g ds=some d->Aft X.K c H0 ρ σ d Q->r vs H Q
theorem bu1  (o:∀ (c:FC) (H0 H:Hp) (ρ:En) (σ:L2.St) (ds:List D) (d:D) (vs:List V) (Q:VK),RS X.K c H0 H ρ σ->Reps X.K H0 ds vs->g ds=some d->Aft X.K c H0 ρ σ d Q->r vs H Q)
   (h:tE X.K (eF g A) σ H Q):tCB r (tAa X.K A) σ H Q:=by
 obtain⟨c,H0,ρ,d,ρ',R,f,q⟩:=h;obtain⟨⟨ds,O⟩,h1,f⟩:=a_0 f;obtain⟨d',h2,f⟩:=a_0 f;have Y:=f;cases Y;exact⟨c,H0,ρ,ds,_,R,h1,λ vs H1 Hh s1 R1 Z=>o c H1 Hh _ σ ds d vs Q R1 Z h2 λ v H2 Hh2 s2 R2 r2=>q v H2 Hh2 (s1.trans s2) R2 r2⟩
theorem xB {id:String} (o:BOk X (.builtin id) g) (Y:Gl X x) (hm:X.mg x=none) (hv:bootBuiltins x=some (.builtin id)) (ha:XA X (e::es) A) (hn:x≠"__name__":=by decide) (O:(x==("__debug__":Str))=false:=by decide)
  (Z:starEach (e::es) X.env=(false,eval e X.env)::starEach es X.env:=by rfl) (q:(backTo pos (starEach es X.env)).any (·.1)=false:=by rfl):XE X (.Call (.Name x p) (e::es) [] pos) (eF g A):=by
 obtain⟨r,h1,h2⟩:=o;exact PE.wk (m_5 h1 Y hm hv ha hn O Z q) λ σ H Q h=>bu1 h2 h
theorem Reps.v1 {K:Frag} (h:Reps K H [d] vs):∃ v,vs=[v]/\Rep K H d v:=by obtain⟨v,r,e,a,b⟩:=h;exact⟨v,by rw[e,b],a⟩
theorem Reps.v2 {K:Frag} (h:Reps K H [d,d'] vs):∃ v q,vs=[v,q]/\Rep K H d v/\Rep K H d' q:=by obtain⟨v,r,e,a,b⟩:=h;obtain⟨q,Y,O⟩:=Reps.v1 b;exact⟨v,q,by rw[e,Y],a,O⟩
theorem aG1  (h:af6 ds=some d):∃ i,ds=[.int i]/\d=.int (if i<0 then -i else i):=by
 unfold af6 at h;split at h
 ·cases h;exact⟨_,rfl,rfl⟩
 ·cases h
theorem o_9:BOk X (.builtin "abs") af6:=⟨_,aF5,λ c H0 H ρ σ ds d vs Q R r e q=>by
 obtain⟨i,rfl,rfl⟩:=aG1 e;obtain⟨v,rfl,O⟩:=Reps.v1 r;subst O;exact⟨i,rfl,q _ H0 H (Same.refl _) R (d_3 _ _)⟩⟩
theorem F_3 {K:Frag}:∀ {ds:List D}{is:List Int}{vs:List V},B_4 ds=some is->Reps K H ds vs->vs=is.map V.int
 |[],_,_,e,r=>by
  have q:=qi e;rw[r,<- q];rfl
 |d::ds,_,_,e,r=>by
  cases d with
  |int i =>
   rw[Q_3] at e;obtain⟨is,e1,e2⟩:=a_0 e;cases e2;obtain⟨v,O,rfl,a,t⟩:=r;rw[a,F_3 e1 t];rfl
  |_=>cases e
theorem intsAre_of:∀ {is:List Int}{us:List Value},Vals (is.map V.int) us->IntsAre us is:=by
 intro is;induction is with
 |nil=>intro us h;cases h;exact .nil
 |cons b r q =>
  intro us h;cases h with
  |cons a t=>obtain⟨tk,rfl⟩:=(show ∃ t,_=Value.int b t from a);exact .cons b tk (q t)
theorem K_3:∀ (r:List Int) (m:Int),(ac2 m r=m\/ac2 m r∈r)/\ac2 m r<=m/\∀ a∈r,ac2 m r<=a
 |[],m=>⟨.inl rfl,Int.le_refl _,λ a h=>by cases h⟩
 |x::r,m=>by
  obtain⟨h1,h2,O⟩:=K_3 r (if x<m then x else m);rw[show ac2 m (x::r)=ac2 (if x<m then x else m) r from rfl];by_cases h:x<m
  ·rw[if_pos h] at h1 h2 O ⊢;refine⟨.inr ?_,by omega,λ a q=>?_⟩
   ·rcases h1 with e | e
    ·rw[e];exact qg
    ·exact qh _ e
   ·rcases qw q with rfl | q
    ·exact h2
    ·exact O a q
  ·rw[if_neg h] at h1 h2 O ⊢;refine⟨?_,h2,λ a q=>?_⟩
   ·rcases h1 with e | e
    ·exact .inl e
    ·exact .inr (qh _ e)
   ·rcases qw q with rfl | q
    ·omega
    ·exact O a q
theorem K_4:∀ (r:List Int) (m:Int),(ac3 m r=m\/ac3 m r∈r)/\m<=ac3 m r/\∀ a∈r,a<=ac3 m r
 |[],m=>⟨.inl rfl,Int.le_refl _,λ a h=>by cases h⟩
 |x::r,m=>by
  obtain⟨h1,h2,O⟩:=K_4 r (if m<x then x else m);rw[show ac3 m (x::r)=ac3 (if m<x then x else m) r from rfl];by_cases h:m<x
  ·rw[if_pos h] at h1 h2 O ⊢;refine⟨.inr ?_,by omega,λ a q=>?_⟩
   ·rcases h1 with e | e
    ·rw[e];exact qg
    ·exact qh _ e
   ·rcases qw q with rfl | q
    ·exact h2
    ·exact O a q
  ·rw[if_neg h] at h1 h2 O ⊢;refine⟨?_,h2,λ a q=>?_⟩
   ·rcases h1 with e | e
    ·exact .inl e
    ·exact .inr (qh _ e)
   ·rcases qw q with rfl | q
    ·omega
    ·exact O a q
theorem am2  (h:M∈i::r) (h':∀ a∈i::r,M<=a):M=ac2 i r:=by
 obtain⟨h1,h2,q⟩:=K_3 r i;have Y:ac2 i r<=M:=by
  rcases qw h with rfl | h
  ·exact h2
  ·exact q _ h
 have O:M<=ac2 i r:=by
  rcases h1 with e | e
  ·rw[e];exact h' _ qg
  ·exact h' _ (qh _ e)
 omega
theorem am3  (h:M∈i::r) (h':∀ a∈i::r,a<=M):M=ac3 i r:=by
 obtain⟨h1,h2,q⟩:=K_4 r i;have Y:M<=ac3 i r:=by
  rcases qw h with rfl | h
  ·exact h2
  ·exact q _ h
 have O:ac3 i r<=M:=by
  rcases h1 with e | e
  ·rw[e];exact h' _ qg
  ·exact h' _ (qh _ e)
 omega
theorem ar6 (hc:X.calm=true):CallR X (.builtin "min") (λ xs H Q=>∃ (p:Addr) (i:Int) (r:List Int),xs=[.ref p] ∧ SqL X.K H p ((i::r).map V.int) ∧ Q (.int (ac2 i r)) H):=by
 intro pins s σ H xs us Q I r h;obtain⟨l,i,is,rfl,hl,q⟩:=h;obtain⟨u,rfl,ru⟩:=j_3 r;cases ru;obtain⟨aa,rv,pl,hz⟩:=I.list hl;have hi:=intsAre_of rv;have Y:=pl.isList;obtain⟨ys,e⟩:=hi.allInts.items;have O:i::is=ys.toList.map (·.1):=by rw[<- hi.numsOf,<- nums_intItems,<- e]
 have hsz:0<ys.size:=by have h3:0<(i::is).length:=Nat.succ_pos _;rw[O,qy,yg] at h3;exact h3
 rw[e] at Y;refine min_intList (I.ok.hd hc) Y hsz λ v h' tk hv hk=>?_;obtain⟨t,rfl⟩:=intItems_at hv;obtain⟨h1,h2⟩:=argBest_lt (numAt ys) (ys.size-1);refine⟨_,H,I.kept hk,?_,q⟩;have:numAt ys (argBest (λ i j=>decide (numAt ys i<numAt ys j)) (ys.size-1))=ac2 i is:=am2 (by rw[O,numAt_eq];exact getD_mem (by rw[qy,yg];omega)) λ a Z=>by
  rw[O] at Z;obtain⟨j,hj,rfl⟩:=mem_getD Z;rw[qy,yg] at hj;rw[<- numAt_eq];exact h2 j (by omega)
 rw[this];exact⟨_,rfl⟩
theorem ar8 (hc:X.calm=true):CallR X (.builtin "max") (λ xs H Q=>∃ (p:Addr) (i:Int) (r:List Int),xs=[.ref p] ∧ SqL X.K H p ((i::r).map V.int) ∧ Q (.int (ac3 i r)) H):=by
 intro pins s σ H xs us Q I r h;obtain⟨l,i,is,rfl,hl,q⟩:=h;obtain⟨u,rfl,ru⟩:=j_3 r;cases ru;obtain⟨aa,rv,pl,hz⟩:=I.list hl;have hi:=intsAre_of rv;have Y:=pl.isList;obtain⟨ys,e⟩:=hi.allInts.items;have O:i::is=ys.toList.map (·.1):=by rw[<- hi.numsOf,<- nums_intItems,<- e]
 have hsz:0<ys.size:=by have h3:0<(i::is).length:=Nat.succ_pos _;rw[O,qy,yg] at h3;exact h3
 rw[e] at Y;refine max_intList (I.ok.hd hc) Y hsz λ v h' tk hv hk=>?_;obtain⟨t,rfl⟩:=intItems_at hv;obtain⟨h1,h2⟩:=argBest_gt (numAt ys) (ys.size-1);refine⟨_,H,I.kept hk,?_,q⟩;have:numAt ys (argBest (λ i j=>decide (numAt ys i > numAt ys j)) (ys.size-1))=ac3 i is:=am3 (by rw[O,numAt_eq];exact getD_mem (by rw[qy,yg];omega)) λ a Z=>by
  rw[O] at Z;obtain⟨j,hj,rfl⟩:=mem_getD Z;rw[qy,yg] at hj;rw[<- numAt_eq];exact h2 j (by omega)
 rw[this];exact⟨_,rfl⟩
theorem CallR.or  (h:CallR X f r) (h':CallR X f q):CallR X f (λ xs H Q=>r xs H Q\/q xs H Q) :=
 λ pins s σ H xs us Q I v z=>z.elim (λ a=>h pins s σ H xs us Q I v a) (λ a=>h' pins s σ H xs us Q I v a)
theorem N_0  (h:bd9 f is=some d):∃ i r,is=i::r/\d=.int (f i r):=by
 cases is with
 |nil=>cases h
 |cons i r=>cases h;exact⟨i,r,rfl,rfl⟩
theorem bd3 (Z:X.calm=true):BOk X (.builtin "max") be0:=⟨_,(ar9 Z).or (ar8 Z),λ c H0 H ρ σ ds d vs Q R r e q=>by
 unfold be0 at e;split at e
 ·cases e;obtain⟨v,v',rfl,O,r2⟩:=Reps.v2 r;subst O r2;exact .inl ⟨_,_,rfl,q _ H0 H (Same.refl _) R (d_3 _ _)⟩
 ·obtain⟨is,e1,e2⟩:=a_0 e;obtain⟨i,is,rfl,rfl⟩:=N_0 e2;obtain⟨v,rfl,Y⟩:=Reps.v1 r;obtain⟨p,ws,rfl,s,t⟩:=Y;have:=F_3 e1 t;subst this;exact .inr ⟨p,i,is,rfl,Same.seq R.same s,q _ H0 H (Same.refl _) R (d_3 _ _)⟩
 ·cases e⟩
theorem bd2 (Z:X.calm=true):BOk X (.builtin "min") bw1:=⟨_,(ar7 Z).or (ar6 Z),λ c H0 H ρ σ ds d vs Q R r e q=>by
 unfold bw1 at e;split at e
 ·cases e;obtain⟨v,v',rfl,O,r2⟩:=Reps.v2 r;subst O r2;exact .inl ⟨_,_,rfl,q _ H0 H (Same.refl _) R (d_3 _ _)⟩
 ·obtain⟨is,e1,e2⟩:=a_0 e;obtain⟨i,is,rfl,rfl⟩:=N_0 e2;obtain⟨v,rfl,Y⟩:=Reps.v1 r;obtain⟨p,ws,rfl,s,t⟩:=Y;have:=F_3 e1 t;subst this;exact .inr ⟨p,i,is,rfl,Same.seq R.same s,q _ H0 H (Same.refl _) R (d_3 _ _)⟩
 ·cases e⟩
theorem M_4 {K:Frag}:∀ {ds:List D}{bs:List Bool}{vs:List V},y_0 ds=some bs->Reps K H ds vs->vs=bs.map V.bl
 |[],_,_,e,r=>by
  have q:=qi e;rw[r,<- q];rfl
 |d::ds,_,_,e,r=>by
  cases d with
  |bl b =>
   rw[ae6] at e;obtain⟨bs,e1,e2⟩:=a_0 e;cases e2;obtain⟨v,O,rfl,a,t⟩:=r;rw[a,M_4 e1 t];rfl
  |_=>cases e
theorem R_8:∀ {bs:List Bool}{us:List Value},Vals (bs.map V.bl) us->LSm.BoolsAre us bs:=by
 intro bs;induction bs with
 |nil=>intro us h;cases h;exact .nil
 |cons b r q =>
  intro us h;cases h with
  |cons a t=>cases (show _=Value.bool b from a);exact .cons b (q t)
theorem as3 (hc:X.calm=true):CallR X (.builtin "all") (λ xs H Q=>∃ (p:Addr) (bs:List Bool),xs=[.ref p] ∧ SqL X.K H p (bs.map V.bl) ∧ Q (.bl (bs.all id)) H):=by
 intro pins s σ H xs us Q I r h;obtain⟨l,bs,rfl,hl,q⟩:=h;obtain⟨u,rfl,ru⟩:=j_3 r;cases ru;obtain⟨O,rv,pl,hz⟩:=I.list hl;have hb:=R_8 rv;have hl:=pl.isList;have Y:l<s.heap.objs.size:=by obtain⟨_,e,_⟩:=hl;exact qm e
 refine call_all_walk (wpAny_pyIter_list hl ?_);refine⟨s.heap.objs.size,[s.heap.objs.size,l],[s.heap.objs.size],O.toArray.size,_,_,λ i=>(bs[i]?).getD true,rfl,Walks.list (A:=X.A.in1) (I.ok.hd hc) _ l (qv Y) O.toArray,
  ⟨⟨_,qk _ rfl,rfl,rfl⟩,hl.push _⟩,λ i v s' Q' E' hP Z=>?_,λ h' tk hk=>?_⟩
 ·obtain⟨b,e,rfl⟩:=hb.get i v (by simpa using hP);simp only[e,Option.getD_some] at Z;exact yt Z
 ·have e:((List.range O.toArray.size).all λ i=>(bs[i]?).getD true)=bs.all id:=by rw[zc,hb.length];exact LSm.range_all bs
  rw[e];exact⟨.bl _,H,I.kept (LSm.kept_iter hk),rfl,q⟩
theorem x_8 (Y:X.calm=true):BOk X (.builtin "all") z_8:=⟨_,as3 Y,λ c H0 H ρ σ ds d vs Q R r e q=>by
 unfold z_8 at e;split at e
 ·obtain⟨bs,e1,e2⟩:=a_0 e;cases e2;obtain⟨v,rfl,O⟩:=Reps.v1 r;obtain⟨p,ws,rfl,s,t⟩:=O;have:=M_4 e1 t;subst this;exact⟨p,bs,rfl,Same.seq R.same s,q _ H0 H (Same.refl _) R (n_3 _ _)⟩
 ·cases e⟩
def tyN:Ty->String
 |.int=>"int" | .bool=>"bool" | .str=>"str" | .tuple=>"tuple" | .list=>"list"
def tyV (d:D):Value:=match d with
 |.non=>.type "NoneType" | .bl _=>.type "bool" | .int _=>.type "int" | .str _=>.type "str" | .tup _=>.type "tuple" | .lst _=>.type "list" | .dct _ _=>.type "dict"
theorem bq1 (K:Frag) (t:Ty) (d:D):PySem.W.kitOne K (tyV d) (.type (tyN t))=some (af3 t d):=by cases t <;> cases d <;> rfl
theorem aF4 (t:Ty):CallR X (.builtin "isinstance") (λ xs H Q=>∃ d x,xs=[x,.ty (tyN t)] ∧ Rep X.K H d x ∧ Q (.bl (af3 t d)) H):=by
 intro pins s σ H xs us Q I r h;obtain⟨d,x,rfl,Y,q⟩:=h;obtain⟨u,w,rfl,Z,aa⟩:=ag5 r;cases (show w=Value.type _ from aa);have k:=bq1 X.K t d;have O:∀ tk,EP X pins σ Q (.bool (af3 t d)) {s with toks:=tk}:=λ tk=>⟨.bl _,H,I.tok tk,rfl,q⟩
 cases d with
 |non=>unfold Rep at Y;subst Y;cases (show u=Value.none from Z);exact Qo PySem.W.kitx_none I.kIn Zq k (λ z=>nomatch z) O
 |bl y=>unfold Rep at Y;subst Y;cases (show u=Value.bool y from Z);exact Qo PySem.W.kitx_bool I.kIn Zq k (λ z=>nomatch z) O
 |int i=>unfold Rep at Y;subst Y;obtain⟨t,z⟩:=(show ∃ t,u=Value.int i t from Z);cases z;exact Qo PySem.W.kitx_int I.kIn Zq k (λ z=>nomatch z) O
 |str y=>unfold Rep at Y;subst Y;obtain⟨t,z⟩:=(show ∃ t,u=Value.str y t from Z);cases z;exact Qo PySem.W.kitx_str I.kIn Zq k (λ z=>nomatch z) O
 |tup ds =>
  obtain⟨a,vs,rfl,s1,_⟩:=Y;cases (show u=Value.ref a from Z);obtain⟨_,_,⟨o,h1,h2,_⟩,_⟩:=I.tuple s1;exact Qo PySem.W.kitx_tuple I.kIn ⟨o,h1,h2⟩ k (λ z=>nomatch z) O
 |dct ks ds =>
  obtain⟨a,ob,us,rfl,ea,_⟩:=Y;cases (show u=Value.ref a from Z);obtain⟨_,_,_,vs,_,pp⟩:=(show ObjOk X.prog X.w H s.heap a (.frz ob (.dK _)) from I.hok a _ ea);obtain⟨o,es,ep,h1,h2,_⟩:=pp;exact Qo PySem.W.kitx_dict I.kIn ⟨o,h1,h2.1⟩ k (λ z=>nomatch z) O
 |lst ds =>
  obtain⟨a,vs,rfl,s1,_⟩:=Y;cases (show u=Value.ref a from Z);obtain⟨_,_,⟨o,n,h1,h2,_⟩,_⟩:=I.list s1;exact Qo PySem.W.kitx_list I.kIn ⟨o,h1,h2⟩ k (λ z=>nomatch z) O
theorem xty  (hi:X.mg "isinstance"=none) (hm:X.mg T=none) (hT:bootBuiltins T=some (.type (tyN t))) (ha:XE X e F) (hg:Gl X "isinstance":=by rfl) (aa:Gl X T:=by rfl)
  (hn:T≠"__name__":=by decide) (hd:(T==("__debug__":Str))=false:=by decide) (hs:starEach [e,.Name T O] X.env=(false,eval e X.env)::starEach [.Name T O] X.env:=by rfl) (Z:starEach [.Name T O] X.env=[(false,eval (.Name T O) X.env)]:=by rfl)
  (ad:(backTo pos (starEach [.Name T O] X.env)).any (·.1)=false:=by rfl):XE X (.Call (.Name "isinstance" p) [e,.Name T O] [] pos) (eTy t F) :=
 PE.wk (m_5 (aF4 t) hg hi PyProof.Rows.boot_isinstance (e_2 ha (e_2 (ak3 (v:=.ty (tyN t)) aa hm hT rfl hn hd) k_4 Z) hs) (by decide) (by decide) hs ad) λ σ H Q Y=>by
  obtain⟨c,H0,ρ,d,ρ',R,f,q⟩:=Y;obtain⟨⟨x,ac⟩,h1,f⟩:=a_0 f;have f':=f;cases f';exact⟨c,H0,ρ,x,_,R,h1,λ v H1 Hh s1 R1 r1=>⟨x,v,rfl,Rep.mono R1.same x r1,q _ H1 Hh s1 R1 (n_3 _ _)⟩⟩
def spP (K:Frag) (g:List D->Option D):Sp:=λ vs H Q _=>∃ q ds d,Same q H/\Reps K q ds vs/\g ds=some d/\∀ v Hi' H',Step q H Hi' H'->Rep K Hi' d v->Q v H'
structure DefOk (P:Program) (w:World) (K:Frag) (mg:Str->Option Value) (base:Heap) (k:Nat) (x:Str) (g:List D->Option D):Prop where
 ex:∃ f fd ps,FnOk P w K mg base CX0 k f fd ps (spP K g)/\Binds K fd ps []/\keepIn K (.ref f)=true/\mg x=some (.ref f)
theorem xF  (G:DefOk X.prog X.w X.K X.mg X.base k x g) (hr:Room k X.A) (ha:XA X (e::es) A) (hg:Gl X x:=by rfl) (aa:(x==("__debug__":Str))=false:=by decide)
  (he:starEach (e::es) X.env=(false,eval e X.env)::starEach es X.env:=by rfl) (Z:(backTo pos (starEach es X.env)).any (·.1)=false:=by rfl):XE X (.Call (.Name x p) (e::es) [] pos) (eF g A):=by
 obtain⟨f,fd,ps,F,hb,hk,hm⟩:=G.ex;refine PE.wk (ak2 F hr hg hm hk hb .nil bn4 ha aa he Z) λ σ H Q O=>?_;obtain⟨c,H0,ρ,d,ρ',R,z,q⟩:=O;obtain⟨⟨ds,Y⟩,h1,z⟩:=a_0 z;obtain⟨d',h2,z⟩:=a_0 z;have z':=z;cases z';exact⟨c,H0,ρ,ds,_,R,h1,λ vs H1 Hh s1 R1 r1=>⟨H1,ds,d,R1.same,by rw[yn];exact r1,h2,λ v Hi' H' S rv=>q v Hi' H' (s1.trans S.s0) (R1.after S) rv⟩⟩
theorem xG  (G:DefOk X.prog X.w X.K X.mg X.base k x g) (hr:Room j X.A) (ha:XA X (e::es) A) (hk:k<=j:=by decide) (hg:Gl X x:=by rfl) (aa:(x==("__debug__":Str))=false:=by decide)
  (he:starEach (e::es) X.env=(false,eval e X.env)::starEach es X.env:=by rfl) (Z:(backTo pos (starEach es X.env)).any (·.1)=false:=by rfl):XE X (.Call (.Name x p) (e::es) [] pos) (eF g A):=xF G (hr.mono hk) ha hg aa he Z
end
def t_3 (K:Frag) (J:It) (H1:Hp) (xs:List D):Prop:=∀ (H0 H:Hp) (i:Nat),Same H1 H0->Same H0 H ->
 (∀ d,xs[i]?=some d->J.go i H/\∀ x H',J.yld i H x H'->H'=H/\Rep K H0 d x)/\(xs.length<=i->J.stop i H)
theorem O_0 {K:Frag} (rd:SqL K H1 a vs) (r:Reps K H1 xs vs):t_3 K (Itl K a) H1 xs:=λ H0 H i s s'=>by
 have q:=Same.seq (s.trans s') rd;refine⟨λ d e=>?_,λ h=>⟨vs,q,by rw[<- r.length];exact h⟩⟩;obtain⟨v,e1,e2⟩:=r.get e;refine⟨⟨vs,v,q,e1⟩,λ x H' ⟨h1,h2⟩=>⟨h1,?_⟩⟩;have:=h2 vs q;rw[e1] at this;cases this;exact Rep.mono s d e2
theorem aa0 {K:Frag} (rd:SqT K H1 a vs) (r:Reps K H1 xs vs):t_3 K (Itt K a) H1 xs:=λ H0 H i s s'=>by
 have q:=Same.seqT (s.trans s') rd;refine⟨λ d e=>?_,λ h=>⟨vs,q,by rw[<- r.length];exact h⟩⟩;obtain⟨v,e1,e2⟩:=r.get e;refine⟨⟨vs,v,q,e1⟩,λ x H' ⟨h1,h2⟩=>⟨h1,?_⟩⟩;have:=h2 vs q;rw[e1] at this;cases this;exact Rep.mono s d e2
theorem v_6:∀ (n:Nat) (lo:Int),(n_2 lo n).length=n
 |0,_=>rfl
 |n+1,lo=>by show (n_2 (lo+1) n).length+1=n+1;rw[v_6 n]
theorem U_1:∀ (n:Nat) (lo:Int) (i:Nat) (d:D),(n_2 lo n)[i]?=some d->d=.int (lo+i)/\i<n
 |0,lo,i,d,h=>by simp[n_2] at h
 |n+1,lo,0,d,h=>by
  simp[n_2] at h;exact⟨by rw[<- h];simp,by omega⟩
 |n+1,lo,i+1,d,h=>by
  have h':(n_2 (lo+1) n)[i]?=some d:=by simpa [n_2] using h
  obtain⟨a,b⟩:=U_1 n (lo+1) i d h';refine⟨by rw[a];congr 1;push_cast;omega,by omega⟩
theorem r_1 {K:Frag} (lo:Int) (n:Nat):t_3 K (Itr lo n) H1 (n_2 lo n):=λ H0 H i s s'=>by
 refine⟨λ d e=>?_,λ h=>by rw[v_6] at h;exact h⟩;obtain⟨rfl,hi⟩:=U_1 n lo i d e;refine⟨hi,λ x H' ⟨h1,h2⟩=>⟨h1,?_⟩⟩;exact h2
def Its (z:Str):It:=⟨λ i _=>i<z.cps.size,λ i H x H'=>H'=H/\∃ c,z.cps[i]?=some c/\x=.str (chS c),λ i _=>z.cps.size<=i⟩
theorem T_3 {K:Frag} (z:Str) (t:Tok) (it:Addr) (hn:["enumerate","zip","dict_itemiterator","dict_reverseitemiterator","odict_iterator","itertools.zip_longest","itertools.pairwise"].contains n=false)
  (W:∀ A:Around,A.handled=none->Walks P w A it [it] [it] z.cps.size (SignAt z) (λ i h=>h.IsStrIter it n z t i)) (ac:∀ (A:Around) (s:Shared) (i:Nat) (Q:Option Value->Shared->Prop) (E:Value->Shared->Prop),A.handled=none->s.heap.IsStrIter it n z t i->z.cps[i]?=none->(∀ h',Heap.ExtBut it s.heap h'->Q none {s with heap:=h'})->wpAny (model P w) A (pyNext (.ref it)) Q E s)
  (aa:∀ (A:Around) (i:Nat) (s:Shared) (Q:Value->Shared->Prop) (E:Value->Shared->Prop),s.heap.IsStrIter it n z t i->Q (.ref it) s->wpAny (model P w) A (pyIter (.ref it)) Q E s) :
  Turn P w K tg (Its z) [it] it (λ i h=>h.IsStrIter it n z t i) where
 mem:=by simp
 obj:=λ i h st b q=>by
  have e:b=it:=by simpa using q
  subst e;obtain⟨o,e,c,d⟩:=st;exact⟨o,e,λ v z=>by rw[d] at z;cases z⟩
 keep:=λ i h h' st k=>let ⟨o,e,r⟩:=st;⟨o,k it (by simp) o e,r⟩
 item:=by
  intro X hP hw hK hc i pins s σ H E I Z st O;subst hP hw hK;obtain⟨f0,f1,f2,f3,f4,f5⟩:=Z it (by simp);refine (W X.A (I.ok.hd hc)).item i s _ _ O st λ v h' tk hv Y kk=>?_;obtain⟨ch,u,e1,rfl⟩:=hv;have I1:Inv X pins σ H {s with heap:=h',toks:=tk}:=I.turned (λ b o q e=>kk b o (by simpa using q) e) f0 f1 f3 f4 f5;obtain⟨o,e,c,d⟩:=id Y;exact⟨_,rfl,aD3 e c d hn ⟨.str (chS ch),H,I1,⟨u,rfl⟩,⟨rfl,ch,e1,rfl⟩,Y,λ b q=>(Z b q).1⟩⟩
 done:=by
  intro X hP hw hK hc i pins s σ H E I Z st O;subst hP hw hK;obtain⟨f0,f1,f2,f3,f4,f5⟩:=Z it (by simp);have O:z.cps.size<=i:=O;exact ac X.A s i _ _ (I.ok.hd hc) st (by simp[O]) λ h' eb=>⟨rfl,I.turned (λ b o q e=>eb b o q e) f0 f1 f3 f4 f5⟩
 self:=λ A i s Q E st h=>aa A i s Q E st h
def bX1 (t:TE):TI:=λ σ H R=>t σ H λ x H1=>∃ z,x=.str z/\R (Its z) H1
def iSq (K:Frag) (t:TE):TI:=λ σ H R=>br9 K t σ H R\/bX0 K t σ H R\/bX1 t σ H R
theorem bm8  (hl:PE X l tl):PI X tg l (bX1 tl):=by
 intro pins s σ H R I h;refine thn (hl pins s σ H _ I h) λ v O=>ex5 λ x H1 Z r1 q1=>?_;obtain⟨z,e,q⟩:=q1;subst e;obtain⟨t,rfl⟩:=r1;have fp:∀ (o:Obj),∀ b∈[O.heap.objs.size],FpOk X pins H1 b:=λ o b hb=>by
  have e:b=O.heap.objs.size:=by simpa using hb
  subst e;exact Z.fpOk (qj _) (Z.hok.fresh (qj _))
 cases ha:z.cps.all (·<128)
 ·refine wpAny_pyIter_wide ha ?_;exact⟨O.heap.objs.size,[O.heap.objs.size],_,_,H1,rfl,Z.kept λ b o e=>qf _ e,T_3 z t _ (by decide) (λ A Y=>Walks.strWide Y _ z t) (λ A s i Q E Y st hx hQ=>wpAny_pyNext_wide_end Y st hx hQ) (λ _ _ _ _ _ st h=>wpAny_pyIter_striter_wide st h),⟨_,qk _ rfl,rfl,rfl⟩,fp {cls:=.none,data:=.fields #[]},q⟩
 ·refine wpAny_pyIter_ascii ha ?_;exact⟨O.heap.objs.size,[O.heap.objs.size],_,_,H1,rfl,Z.kept λ b o e=>qf _ e,T_3 z t _ (by decide) (λ A Y=>Walks.strAscii Y _ z t) (λ A s i Q E Y st hx hQ=>wpAny_pyNext_ascii_end Y st hx hQ) (λ _ _ _ _ _ st h=>wpAny_pyIter_striter_ascii st h),⟨_,qk _ rfl,rfl,rfl⟩,fp {cls:=.none,data:=.fields #[]},q⟩
theorem aa1 {K:Frag} (z:Str):t_3 K (Its z) H1 (chs z):=λ H0 H i s s'=>by
 have hl:(chs z).length=z.cps.size:=by unfold chs;rw[qy,yg]
 refine⟨λ d e=>?_,λ h=>by rw[hl] at h;exact h⟩;have hi:i<z.cps.size:=by rw[<- hl];exact (List.getElem?_eq_some_iff.mp e).1
 refine⟨hi,λ x H' ⟨h1,ch,h2,O⟩=>⟨h1,?_⟩⟩;unfold chs at e;rw[yo,Yy,h2] at e;have q:=qi e;subst q;exact O
theorem aA2  (hl:PE X l tl):PI X tg l (iSq X.K tl):=λ pins s σ H R I h=>by
 rcases h with h | h | h
 ·exact aS8 hl pins s σ H R I h
 ·exact bm7 hl pins s σ H R I h
 ·exact bm8 hl pins s σ H R I h
theorem j_5 {K:Frag} (rs:RS K c H0 H ρ σ) (f:F ρ=some (d,ρ')) (hx:items d=some xs)
  (h:∀ J H1 O,Same H0 H1->RS K c H1 O ρ' σ->t_3 K J H1 xs->R J O):iSq K (tE K F) σ H R:=by
 cases d with
 |lst ds =>
  have e:=qi hx;subst e;refine .inl ⟨c,H0,ρ,_,ρ',rs,f,λ v H1 O Z Y q=>?_⟩;obtain⟨a,vs,rfl,rd,r⟩:=q;exact⟨a,rfl,⟨vs,Same.seq Y.same rd⟩,h _ H1 O Z Y (O_0 rd r)⟩
 |tup ds =>
  have e:=qi hx;subst e;refine .inr (.inl ⟨c,H0,ρ,_,ρ',rs,f,λ v H1 O Z Y q=>?_⟩);obtain⟨a,vs,rfl,rd,r⟩:=q;exact⟨a,rfl,⟨vs,Same.seqT Y.same rd⟩,h _ H1 O Z Y (aa0 rd r)⟩
 |str z =>
  have e:=qi hx;subst e;refine .inr (.inr ⟨c,H0,ρ,_,ρ',rs,f,λ v H1 O Z Y q=>?_⟩);exact⟨z,q,h _ H1 O Z Y (aa1 z)⟩
 |_=>cases hx
theorem X_1 :∀ {js:List Nat}{fr:En},q_2 ρ js=some fr->fr.length=js.length/\∀ (k:Nat) (s:Sl),fr[k]?=some s->∃ j d,js[k]?=some j/\ρ[j]?=some (.im d)/\s=.im d
 |[],_,h=>by
  have h':=qi h;subst h';exact⟨rfl,λ k s e=>by simp at e⟩
 |j::js,_,h=>by
  rw[ao2] at h;obtain⟨s,h1,h⟩:=a_0 h;obtain⟨r,h2,h⟩:=a_0 h;cases h;obtain⟨a,b⟩:=X_1 h2;refine⟨by rw[zj,zj,a],λ k s' e=>?_⟩;cases k with
  |zero =>
   simp at e;subst e;cases z:ρ[j]? with
   |none=>rw[z] at h1;cases h1
   |some Y =>
    rw[z] at h1;cases Y with
    |im d=>exact⟨j,d,rfl,z,(qi h1).symm⟩
    |_=>cases h1
  |succ k =>
   obtain⟨Z,d,q,x2,O⟩:=b k s' (by simpa using e);exact⟨Z,d,by simpa using q,x2,O⟩
theorem RS.block {K:Frag} (R:RS K c H0 H ρ σ) (Z:q_2 ρ js=some fr) (Y:Rep K H0 d x):RS K ⟨H0,H,[]⟩ H0 H (.im d::fr) (some x::frv σ js):=by
 obtain⟨l,g⟩:=X_1 Z;refine⟨R.same,Same.refl _,λ b o e=>.inl e,λ b o e _=>e,λ a h=>(by cases h),?_,λ i d' e=>?_,λ i b o e=>?_,λ i j b b' o o' a e=>?_⟩
 ·rw[zj,zj,l,frv,qy]
 ·cases i with
  |zero=>simp at e;subst e;exact⟨x,rfl,Y⟩
  |succ k =>
   obtain⟨j,O,x1,x2,q⟩:=g k _ (by simpa using e);cases q;obtain⟨v,y1,y2⟩:=R.im j d' x2;refine⟨v,?_,y2⟩;show (frv σ js)[k]?=some (some v);unfold frv;rw[yo,x1];show some (σ[j]?).join=some (some v);rw[y1];rfl
 ·cases i with
  |zero=>simp at e
  |succ k =>
   obtain⟨j,O,_,_,q⟩:=g k _ (by simpa using e);cases q
 ·cases i with
  |zero=>simp at e
  |succ k =>
   obtain⟨j,O,_,_,q⟩:=g k _ (by simpa using e);cases q
theorem RS.step {K:Frag} (R:RS K ⟨O,q,[]⟩ H0 H ρ σ):Step O q H0 H :=
 ⟨R.init,λ b o e=>R.keep b o e (by simp),R.same,R.fresh⟩
theorem s_0 {xs:List α}{d:α} (h:xs[i]?=some d):xs.drop i=d::xs.drop (i+1):=by obtain⟨hi,e⟩:=List.getElem?_eq_some_iff.mp h;rw[<- e];exact Q2 hi
theorem aW1 {K:Frag} (R:RS K c H1 Hh ρ σ) (hf:q_2 ρ js=some fr) (hc:cGo T F fr xs=some out) (hz:xs.length<=sizeLine) (hy:t_3 K J H1 xs)
  (q:∀ ys H0 H,Same H1 H0->RS K c H0 H ρ σ->Reps K H0 out ys->Qf ys H):LcW js (tTt K T) (tE K F) σ Qf J Hh:=by
 refine⟨λ i m ys H=>m=xs.length-i/\i<=xs.length/\∃ H0,Same H1 H0/\RS K c H0 H ρ σ/\∃ Y rest,Reps K H0 Y ys/\Y.length<=i/\cGo T F fr (xs.drop i)=some rest/\Y++rest=out,⟨xs.length,by simp,yi _,H1,Same.refl _,R,[],out,Reps.nil_,yi _,by simpa using hc,rfl⟩,?_⟩;rintro i m ys H ⟨rfl,hi,H0,s0,R0,Y,rest,rp,lp,O,e⟩;obtain⟨y1,y2⟩:=hy H0 H i s0 R0.same;by_cases aa:i<xs.length
 ·have hd:xs[i]?=some xs[i]:=by simp[aa]
  obtain⟨go,yl⟩:=y1 _ hd;refine .inr ⟨go,by rw[<- rp.length];omega,λ x H' hx=>?_⟩;obtain⟨rfl,rx⟩:=yl x H' hx;rw[s_0 hd,aF7] at O;obtain⟨⟨b,ac⟩,g1,O⟩:=a_0 O;refine⟨⟨H0,H',[]⟩,H0,_,b,ac,R0.block hf rx,g1,λ H2 Hh2 s2 R2=>?_⟩;cases b with
  |false =>
   rw[if_neg zu] at O ⊢;have S:=R2.step;exact⟨xs.length-(i+1),by omega,rfl,aa,H2,s0.trans S.s0,R0.after S,Y,rest,Reps.mono S.s0 _ rp,by omega,O,e⟩
  |true =>
   rw[if_pos rfl] at O ⊢;obtain⟨⟨z,ad⟩,g2,O⟩:=a_0 O;obtain⟨t,g3,O⟩:=a_0 O;have Z:=O;cases Z;refine⟨⟨H0,H',[]⟩,H2,ac,z,ad,R2,g2,λ v H3 Hh3 s3 R3 r3=>?_⟩;have S:=R3.step;refine⟨xs.length-(i+1),by omega,rfl,aa,H3,s0.trans S.s0,R0.after S,Y++[z],t,(Reps.mono S.s0 _ rp).app (Reps.one r3),?_,g3,?_⟩
   ·rw[zh,Zl];omega
   ·rw[jx];exact e
 ·have ei:i=xs.length:=by omega
  have hn:xs.drop i=[]:=j3 (by omega);rw[hn,bd4] at O;have Z:=qi O;subst Z;rw[yn] at e;subst e;exact .inl ⟨y2 (by omega),by rw[<- rp.length];omega,q ys H0 H s0 R0 rp⟩
def XTs (X:Cx) (ifs:List Expr) (T:FT):Prop:=PTs X ifs (tTt X.K T)
theorem PTs.wk  (h:PTs X e t) (w:∀ σ H Q,t' σ H Q->t σ H Q):PTs X e t':=λ pins s σ H Q I q=>h pins s σ H Q I (w σ H Q q)
theorem k_1 :XTs X [] Fx.tYes:=PTs.wk aS1 λ σ H Q O=>by
 obtain⟨c,H0,ρ,b,ρ',R,f,q⟩:=O;have Y:=f;cases Y;exact q H0 H (Same.refl _) R
theorem n_9  (h:XT X c T):XTs X [c] T:=aS0 h
section
variable {ifs:List Expr}
theorem ap7  (h:eLC js I T F ρ=some (d,ρ')):∃ z xs fr ys,I ρ=some (z,ρ')/\items z=some xs/\q_2 ρ' js=some fr/\cGo T F fr xs=some ys/\xs.length<=sizeLine/\d=.lst ys:=by
 obtain⟨⟨z,Z⟩,h1,h⟩:=a_0 h;obtain⟨xs,h2,h⟩:=a_0 h;obtain⟨fr,O,h⟩:=a_0 h;obtain⟨ys,q,h⟩:=a_0 h;split at h
 ·rename_i Y;cases h;exact⟨z,xs,fr,ys,h1,h2,O,q,Y,rfl⟩
 ·cases h
theorem xlc (hc:X.calm=true) (Y:X.env.scope=sc) (B:ScB X.N sc scope x frees js) (hi:XE X iter I) (ht:∀ s H C fp,XTs (cxB X (x::frees) scope s H C fp) ifs T) (he:∀ s H C fp,XE (cxB X (x::frees) scope s H C fp) elt F)
  (hs:∀ v,foldedSetIterable iter X.env v=pure v:=by intro _;rfl):XE X (.ListComp elt [⟨.Name x px,iter,ifs,0⟩] scope pos) (eLC js I T F) :=
 PE.wk (bI4 (tt:=tTt X.K T) (te:=tE X.K F) hc Y B (aA2 hi) ht he hs) λ σ H Q O=>by
  obtain⟨c,H0,ρ,d,ρ',R,f,q⟩:=O;obtain⟨z,xs,fr,ys,h1,h2,h3,Z,hz,rfl⟩:=ap7 f;refine j_5 R h1 h2 λ J H1 Hh s1 R1 hy=>?_;refine aW1 R1 h3 Z hz hy λ vs H2 Hh2 s2 R2 r2=>λ p hp=>?_;have S:=Step.alloc (o:=.lst vs) R2.same hp;refine q _ _ _ (s1.trans (s2.trans S.s0)) (R2.after S) ?_;exact⟨p,vs,rfl,.inl (.inl a_4),Reps.mono S.s0 _ r2⟩
end
def Post (K:Frag) (c:FC) (O:Ends) (H0:Hp):Res->Prop
 |.nx ρ'=>∀ q H0' H',Same H0 H0'->RS K c H0' H' ρ' q->O.nx q H'
 |.rt d ρ'=>∀ v q H0' H',Same H0 H0'->RS K c H0' H' ρ' q->Rep K H0' d v->O.rt v H'
 |.bk ρ'=>∀ q H0' H',Same H0 H0'->RS K c H0' H' ρ' q->O.bk q H'
 |.ct ρ'=>∀ q H0' H',Same H0 H0'->RS K c H0' H' ρ' q->O.ct q H'
def tS (K:Frag) (F:FS):TS:=λ q σ H=>∃ c H0 ρ r,RS K c H0 H ρ σ/\F ρ=some r/\Post K c q H0 r
def XS (X:Cx) (st:Stmt) (F:FS):Prop:=PS X st (tS X.K F)
def XSs (X:Cx) (sts:List Stmt) (F:FS):Prop:=PSs X sts (tS X.K F)
theorem Post.mono {K:Frag} (s:Same H0 H1):∀ {r:Res},Post K c O H0 r->Post K c O H1 r
 |.nx _,h=>λ q H0' H' z=>h q H0' H' (s.trans z)
 |.rt _ _,h=>λ v q H0' H' z=>h v q H0' H' (s.trans z)
 |.bk _,h=>λ q H0' H' z=>h q H0' H' (s.trans z)
 |.ct _,h=>λ q H0' H' z=>h q H0' H' (s.trans z)
theorem RS.set {K:Frag} (R:RS K c H0 H ρ σ) (i:Nat) (r:Rep K H0 d v):RS K c H0 H (ρ.set i (.im d)) (σ.set i (some v)):=by
 have hl:=R.len;have O:∀ (j:Nat) (sl:Sl),j≠i->(ρ.set i (.im d))[j]?=some sl->ρ[j]?=some sl:=λ j sl Y e=>by rwa [zt (yk Y)] at e
 have q:∀ (j:Nat),j≠i->(σ.set i (some v))[j]?=σ[j]?:=λ j Y=>zt (yk Y);have same:∀ (sl:Sl),(ρ.set i (.im d))[i]?=some sl->sl=.im d/\i<ρ.length:=λ sl e=>by
  by_cases hi:i<ρ.length
  ·rw[zv hi] at e;exact⟨(qi e).symm,hi⟩
  ·rw[Yx (by rw[jb];omega)] at e;cases e
 refine⟨R.same,R.init,R.fresh,R.keep,R.apt,by rw[jb,jb,hl],λ j d' e=>?_,λ j bb o e=>?_,λ j k b1 b2 o o' a e1 e2 e3 e4=>?_⟩
 ·by_cases Y:j=i
  ·subst Y;obtain⟨Z,hi⟩:=same _ e;cases Z;exact⟨v,by rw[zv (by omega)],r⟩
  ·rw[q j Y];exact R.im j d' (O j _ Y e)
 ·by_cases Y:j=i
  ·subst Y;obtain⟨Z,_⟩:=same _ e;cases Z
  ·rw[q j Y];exact R.ow j bb o (O j _ Y e)
 ·by_cases Y:j=i
  ·subst Y;obtain⟨Z,_⟩:=same _ e1;cases Z
  ·by_cases hk:k=i
   ·subst hk;obtain⟨Z,_⟩:=same _ e2;cases Z
   ·rw[q j Y] at e3;rw[q k hk] at e4;exact R.ne j k b1 b2 o o' a (O j _ Y e1) (O k _ hk e2) e3 e4
section
theorem xsN:XSs X [] sN:=PSs.wk aj0 λ Z σ H O=>by
 obtain⟨c,H0,ρ,r,R,f,q⟩:=O;have Y:=f;cases Y;exact q σ H0 H (Same.refl _) R
theorem xs1 {st:Stmt} (h:XS X st A):XSs X [st] A:=o_3 h
theorem xsC {st:Stmt}{rest:List Stmt} (h1:XS X st A) (h2:XSs X rest B):XSs X (st::rest) (b_7 A B):=PSs.wk (p_9 h1 h2) λ Dn σ H Z=>by
 obtain⟨c,H0,ρ,r,R,f,q⟩:=Z;obtain⟨z,h,f⟩:=a_0 f;refine⟨c,H0,ρ,z,R,h,?_⟩;cases z with
 |nx O=>exact λ aa H0' H' s R'=>⟨c,H0',O,r,R',f,q.mono s⟩
 |rt d O=>have Y:=f;cases Y;exact q
 |bk O=>have Y:=f;cases Y;exact q
 |ct O=>have Y:=f;cases Y;exact q
theorem j_4 (i:Nat)  (hN:X.N.Nodup) (he:XE X e F) (hi:X.N[i]?=some x:=by rfl) (hx:Loc X.env.scope x:=by first | exact Or.inl rfl | exact Or.inr rfl) (hs:swapsWith e (some (.Name x pos')) pos.line X.env=pure false:=by rfl)
  (hf:X.fn x=true\/X.env.scope.names.lookup x=some .local:=by first | exact .inl rfl | exact .inr rfl):XS X (.Assign [.Name x pos'] e pos) (e_3 i F):=PS.wk (A_6 hN hi hx he hs hf) λ Dn σ H O=>by
 obtain⟨c,H0,ρ,r,R,f,q⟩:=O;obtain⟨⟨d,Y⟩,h1,f⟩:=a_0 f;have Z:=f;cases Z;exact⟨c,H0,ρ,d,Y,R,h1,λ v H1 Hh s1 R1 r1=>q _ H1 Hh s1 (R1.set i r1)⟩
theorem S_7 (i:Nat) {ifs:List Expr} (hN:X.N.Nodup) (hc:X.calm=true) (ac:X.env.scope=sc) (Bk:ScB X.N sc scope x frees js) (hi:XE X iter I)
  (ht:∀ s H C fp,XTs (cxB X (x::frees) scope s H C fp) ifs T) (he:∀ s H C fp,XE (cxB X (x::frees) scope s H C fp) elt F) (Y:X.N[i]?=some y:=by rfl) (hy:X.env.scope.names.lookup y=some .local:=by rfl)
  (Z:swapsWith (.ListComp elt [⟨.Name x px,iter,ifs,0⟩] scope pos) (some (.Name y py)) spos.line X.env=pure true:=by rfl)
  (hs:∀ v,foldedSetIterable iter X.env v=pure v:=by intro _;rfl):XS X (.Assign [.Name y py] (.ListComp elt [⟨.Name x px,iter,ifs,0⟩] scope pos) spos) (e_3 i (eLC js I T F)) :=
 PS.wk (U_8 (tt:=tTt X.K T) (te:=tE X.K F) hN Y hy hc ac Bk (aA2 hi) ht he Z hs) λ Dn σ H O=>by
  obtain⟨c,H0,ρ,r,R,f,q⟩:=O;obtain⟨⟨d,aa⟩,h1,f⟩:=a_0 f;have f':=f;cases f';obtain⟨z,xs,fr,ys,h0,h2,h3,h4,hz,rfl⟩:=ap7 h1;refine j_5 R h0 h2 λ J H1 Hh s1 R1 hy=>?_;refine aW1 R1 h3 h4 hz hy λ vs H2 Hh2 s2 R2 r2=>λ p hp=>?_;have S:=Step.alloc (o:=.lst vs) R2.same hp;refine q _ _ _ (s1.trans (s2.trans S.s0)) ((R2.after S).set i ?_);exact⟨p,vs,rfl,.inl (.inl a_4),Reps.mono S.s0 _ r2⟩
theorem i_1  (hc:XT X c T) (ha:XSs X a A) (hb:XSs X b B):XS X (.If c a b pos) (sIf T A B):=PS.wk (aS4 hc ha hb) λ Dn σ H Y=>by
 obtain⟨c,H0,ρ,r,R,f,q⟩:=Y;obtain⟨⟨k,O⟩,h1,f⟩:=a_0 f;refine⟨c,H0,ρ,k,O,R,h1,λ H1 Hh Z R1=>?_⟩;cases k with
 |true =>
  rw[if_pos rfl] at f ⊢;exact⟨c,H1,O,r,R1,f,q.mono Z⟩
 |false =>
  rw[if_neg zu] at f ⊢;exact⟨c,H1,O,r,R1,f,q.mono Z⟩
theorem g_1 (he:XE X e F):XS X (.Return (some e) pos) (d_6 F):=PS.wk (U_9 he) λ Dn σ H Y=>by
 obtain⟨c,H0,ρ,r,R,f,q⟩:=Y;obtain⟨⟨d,O⟩,h1,f⟩:=a_0 f;have Z:=f;cases Z;exact⟨c,H0,ρ,d,O,R,h1,λ v H1 Hh s1 R1 r1=>q v σ H1 Hh s1 R1 r1⟩
abbrev GD:=D->En->Option En
def tG (K:Frag) (g:GD):TG:=λ v σ H Q=>∃ c H0 ρ d ρ',RS K c H0 H ρ σ/\Rep K H0 d v/\g d ρ=some ρ'/\∀ q H0' H',Same H0 H0'->RS K c H0' H' ρ' q->Q q H'
def tGs (K:Frag) (is:List Nat):TGs:=λ vs σ H Q=>∃ c H0 ρ ds,RS K c H0 H ρ σ/\Reps K H0 ds vs/\ds.length=is.length/\∀ q H0' H',Same H0 H0'->RS K c H0' H' (l_4 is ds ρ) q->Q q H'
def XG (X:Cx) (tg:Expr) (g:GD):Prop:=PG X tg (tG X.K g)
def XGs (X:Cx) (q:List Expr) (is:List Nat):Prop:=PGs X q (tGs X.K is)
theorem xgN (i:Nat)  (hN:X.N.Nodup) (hi:X.N[i]?=some x:=by rfl) (hx:Loc X.env.scope x:=by first | exact Or.inl rfl | exact Or.inr rfl) (hf:X.fn x=true\/X.env.scope.names.lookup x=some .local:=by first | exact .inl rfl | exact .inr rfl):XG X (.Name x pos) (gN i) :=
 λ pins s σ H v u Q I Z O=>by obtain⟨c,H0,ρ,d,ρ',R,r,f,q⟩:=O;exact D_6 hN hi hx hf pins s σ H v u Q I Z (by
  have Y:=f;cases Y;exact q _ H0 H (Same.refl _) (R.set i r))
theorem bC8:XGs X [] []:=λ pins s σ H vs us Q I Y O=>by obtain⟨c,H0,ρ,ds,R,r,l,q⟩:=O;exact aj8 pins s σ H vs us Q I Y (by
 have e:=List.length_eq_zero_iff.mp l;subst e;exact⟨r,q σ H0 H (Same.refl _) (by simpa [ab1] using R)⟩)
theorem be8  (h1:XG X e (gN i)) (h2:XGs X es is) (hs:(assignEach (e::es) X.env).map (·.2)=assign e X.env::(assignEach es X.env).map (·.2):=by rfl):XGs X (e::es) (i::is) :=
 λ pins s σ H vs us Q I rv O=>by obtain⟨c,H0,ρ,ds,R,r,l,q⟩:=O;exact D_5 h1 h2 hs pins s σ H vs us Q I rv (by
  cases ds with
  |nil=>simp at l
  |cons d ds =>
   obtain⟨v,vr,rfl,r1,r2⟩:=r;refine⟨v,vr,rfl,c,H0,ρ,d,_,R,r1,rfl,λ aa H1 Hh Z R1=>?_⟩;exact⟨c,H1,_,ds,R1,Reps.mono Z _ r2,by simpa using l,λ Y H2 Hh2 s2 R2=>q Y H2 Hh2 (Z.trans s2) (by simpa [O_4] using R2)⟩)
theorem s_4 {X:Cx}{s:Shared}{E:Value->Shared->Prop}{q:List Expr}{k:Nat}{l:Addr}{items:Array Value}{Q:Unit->Shared->Prop} (Y:X.A.handled=none) (hl:s.heap.IsList l items)
  (Z:(assignEach q X.env).length=items.size) (O:(assignEach q X.env).findIdx? (·.1)=none)
  (h:∀ h',Heap.ExtBut s.heap.objs.size s.heap h'->wpAny (model X.prog X.w) X.A (assignInOrder ((assignEach q X.env).map (·.2)) items.toList) Q E {s with heap:=h'}) :
  wpAny (model X.prog X.w) X.A (assign (.Tuple q k pos) X.env (.ref l)) Q E s:=by
 rw[assign_Tuple];refine qb (Zt ?_);unfold unpack;rw[Z,O];exact qb (yh (PySem.W.kun_itemsOf Y hl h))
def cl2 (K:Frag) (n:Nat) (t:TGs):TG:=λ v σ H Q=>∃ a xs,v=.ref a/\SqL K H a xs/\xs.length=n/\t xs σ H Q
theorem bm9  (hc:X.calm=true) (h:PGs X es t)
  (hn:(assignEach es X.env).length=n:=by rfl) (q:(assignEach es X.env).findIdx? (·.1)=none:=by rfl):PG X (.Tuple es k pos) (cl2 X.K n t):=by
 intro pins s σ H v u Q I r O;obtain⟨a,xs,e1,hq,hl,O⟩:=O;subst e1;cases r;obtain⟨Z,Y,pl,hz⟩:=I.list hq;refine s_4 (I.ok.hd hc) pl.isList (by simp[hn,<- hl,Y.length]) q λ h' hx=>?_;have I1:=I.kept (t':=s.toks) λ b o e=>hx b o (qv (qm e)) e;exact h pins _ σ H xs _ Q I1 (by simpa using Y) O
theorem xgT  (h:XGs X es is) (hc:X.calm=true:=by rfl) (hn:(assignEach es X.env).length=is.length:=by rfl) (O:(assignEach es X.env).findIdx? (·.1)=none:=by rfl):XG X (.Tuple es k pos) (gT is) :=
 λ pins s σ H v u Q I rv Y=>by
  obtain⟨c,H0,ρ,d,ρ',R,r,f,q⟩:=Y;obtain⟨xs,h1,f⟩:=a_0 f;split at f
  ·rename_i hl;cases f;cases d with
   |tup ds =>
    refine aJ0 hc h hn O pins s σ H v u Q I rv ?_;have e:=qi h1;subst e;obtain⟨a,vs,rfl,Z,r⟩:=r;exact⟨a,vs,rfl,Same.seqT R.same Z,by rw[<- r.length];exact hl,c,H0,ρ,ds,R,r,hl,q⟩
   |lst ds =>
    refine bm9 hc h hn O pins s σ H v u Q I rv ?_;have e:=qi h1;subst e;obtain⟨a,vs,rfl,Z,r⟩:=r;exact⟨a,vs,rfl,Same.seq R.same Z,by rw[<- r.length];exact hl,c,H0,ρ,ds,R,r,hl,q⟩
   |_=>cases h1
  ·cases f
theorem aO0  (hg:XG X tg (gT is)) (he:XE X e F) (hs:swapsWithSole [tg] e pos.line X.env=pure false:=by rfl) (hw:swappedStores [tg] e X.env=pure none:=by rfl)
  (h1:(assignEach [tg] X.env).map (·.2)=[assign tg X.env]:=by rfl):XS X (.Assign [tg] e pos) (bx6 is F):=PS.wk (bm4 he hg hs hw h1) λ Dn σ H Y=>by
 obtain⟨c,H0,ρ,r,R,f,q⟩:=Y;obtain⟨⟨d,O⟩,h1,f⟩:=a_0 f;obtain⟨Z,h2,f⟩:=a_0 f;have f':=f;cases f';exact⟨c,H0,ρ,d,O,R,h1,λ v H1 Hh s1 R1 r1=>⟨c,H1,O,d,Z,R1,r1,h2,λ aa H2 Hh2 s2 R2=>q aa H2 Hh2 (s1.trans s2) R2⟩⟩
theorem ao8 {K:Frag} (R:RS K c H1 Hh ρ σ) (hf:fGo g B xs ρ=some r) (hy:t_3 K J H1 xs) (q:Post K c Dn H1 r) :
  ∃ W:Nat->Nat->L2.St->Hp->Prop,(∃ m,W 0 m σ Hh)/\∀ i m σ H,W i m σ H ->
   (J.stop i H/\Dn.nx σ H)\/(J.go i H/\∃ N:L2.St->Hp->Prop,(∀ O H',N O H'->∃ m',m'<m/\W (i+1) m' O H')/\∀ x H',J.yld i H x H'->tG K g x σ H' λ ae H2=>tS K B {Dn with nx:=N,ct:=N,bk:=Dn.nx} ae H2):=by
 refine⟨λ i m σ H=>m=xs.length-i/\i<=xs.length/\∃ H0 ρ,Same H1 H0/\RS K c H0 H ρ σ/\fGo g B (xs.drop i) ρ=some r,⟨xs.length,by simp,yi _,H1,ρ,Same.refl _,R,by simpa using hf⟩,?_⟩;rintro i m σ H ⟨rfl,hi,H0,ρ,s0,R0,Z⟩;obtain⟨y1,y2⟩:=hy H0 H i s0 R0.same;by_cases ac:i<xs.length
 ·have hd:xs[i]?=some xs[i]:=by simp[ac]
  obtain⟨go,yl⟩:=y1 _ hd;refine .inr ⟨go,λ O H'=>∃ m',m'<xs.length-i/\m'=xs.length-(i+1)/\i+1<=xs.length/\∃ H0 ρ,Same H1 H0/\RS K c H0 H' ρ O/\fGo g B (xs.drop (i+1)) ρ=some r,λ O H' ⟨m',a,b⟩=>⟨m',a,b⟩,λ x H' hx=>?_⟩;obtain⟨rfl,rx⟩:=yl x H' hx;rw[s_0 hd,X_5] at Z;obtain⟨ad,g1,Z⟩:=a_0 Z;obtain⟨z,g2,Z⟩:=a_0 Z;refine⟨c,H0,ρ,_,ad,R0,rx,g1,λ af H2 Hh2 s2 R2=>⟨c,H2,ad,z,R2,g2,?_⟩⟩;cases z with
  |nx Y=>exact λ O H3 Hh3 s3 R3=>⟨_,by omega,rfl,ac,H3,Y,s0.trans (s2.trans s3),R3,Z⟩
  |ct Y=>exact λ O H3 Hh3 s3 R3=>⟨_,by omega,rfl,ac,H3,Y,s0.trans (s2.trans s3),R3,Z⟩
  |bk Y =>
   have aa:=Z;cases aa;exact λ O H3 Hh3 s3 R3=>q O H3 Hh3 (s0.trans (s2.trans s3)) R3
  |rt d Y =>
   have aa:=Z;cases aa;exact λ v O H3 Hh3 s3 R3 r3=>q v O H3 Hh3 (s0.trans (s2.trans s3)) R3 r3
 ·have hn:xs.drop i=[]:=j3 (by omega);rw[hn,ap3] at Z;have aa:=Z;cases aa;exact .inl ⟨y2 (by omega),q σ H0 H s0 R0⟩
theorem cd2  (Y:XG X tg g) (hi:XE X iter F) (hb:XSs X body B) (Z:PassesOwn (model X.prog X.w) X.A X.env X.xe:=by exact Ys) (hc:X.calm=true:=by rfl) (hs:∀ x,foldedSetIterable iter X.env x=pure x:=by intro _;rfl) :
  XS X (.For tg iter body [] pos) (by1 g F B):=PS.wk (J_0 Z hc (aA2 hi) Y hb hs) λ Dn σ H O=>by
 obtain⟨c,H0,ρ,r,R,f,q⟩:=O;obtain⟨⟨d,aa⟩,h1,f⟩:=a_0 f;obtain⟨xs,h2,f⟩:=a_0 f;exact j_5 R h1 h2 λ J H1 Hh s1 R1 hy=>ao8 R1 f hy (q.mono s1)
theorem ag1  (hm:X.mg "range"=none) (hg:XG X tg g) (ha:XE X a F) (hb:XSs X body B) (Z:Gl X "range":=by rfl) (hp:PassesOwn (model X.prog X.w) X.A X.env X.xe:=by exact Ys) (hc:X.calm=true:=by rfl)
  (Y:starEach [a] X.env=[(false,eval a X.env)]:=by rfl) (hs:∀ x,foldedSetIterable (.Call (.Name "range" p) [a] [] pos') X.env x=pure x:=by intro _;rfl) :
  XS X (.For tg (.Call (.Name "range" p) [a] [] pos') body [] pos) (D_1 g (rng1 F) B):=PS.wk (J_0 hp hc (J_2 Z hm (e_2 ha k_4 Y) Y) hg hb hs) λ Dn σ H O=>by
 obtain⟨c,H0,ρ,r,R,f,q⟩:=O;obtain⟨⟨xs,aa⟩,h1,f⟩:=a_0 f;obtain⟨⟨d,ac⟩,h2,h1⟩:=a_0 h1;obtain⟨j,h3,h1⟩:=a_0 h1;split at h1
 ·rename_i hj;cases h1;refine⟨c,H0,ρ,d,_,R,h2,λ v H1 Hh s1 R1 r1=>?_⟩;cases d with
  |int k =>
   have e:=qi h3;subst e;subst r1;exact⟨k,rfl,hj.1,hj.2,ao8 R1 f (r_1 0 k.toNat) (q.mono s1)⟩
  |_=>cases h3
 ·cases h1
theorem bh8  (hm:X.mg "range"=none) (hg:XG X tg g) (ha:XE X a F) (ad:XE X b G) (hb:XSs X body B) (ac:Gl X "range":=by rfl) (hp:PassesOwn (model X.prog X.w) X.A X.env X.xe:=by exact Ys) (hc:X.calm=true:=by rfl)
  (Z:starEach [a,b] X.env=[(false,eval a X.env),(false,eval b X.env)]:=by rfl) (O:starEach [b] X.env=[(false,eval b X.env)]:=by rfl) (hs:∀ x,foldedSetIterable (.Call (.Name "range" p) [a,b] [] pos') X.env x=pure x:=by intro _;rfl) :
  XS X (.For tg (.Call (.Name "range" p) [a,b] [] pos') body [] pos) (D_1 g (bz0 F G) B):=PS.wk (J_0 hp hc (aj6 ac hm (e_2 ha (e_2 ad k_4 O) (by rw[Z,O])) Z O) hg hb hs) λ Dn σ H Y=>by
 obtain⟨c,H0,ρ,r,R,f,q⟩:=Y;obtain⟨⟨xs,ae⟩,h1,f⟩:=a_0 f;obtain⟨⟨d,aa⟩,h2,h1⟩:=a_0 h1;obtain⟨⟨d',af⟩,h3,h1⟩:=a_0 h1;obtain⟨i,h4,h1⟩:=a_0 h1;obtain⟨j,h5,h1⟩:=a_0 h1;split at h1
 ·rename_i hj;cases h1;refine⟨c,H0,ρ,d,aa,R,h2,λ v H1 Hh s1 R1 r1=>?_⟩;refine⟨c,H1,aa,d',_,R1,h3,λ v' H2 Hh2 s2 R2 r2=>?_⟩;cases d with
  |int k =>
   cases d' with
   |int k' =>
    have e:=qi h4;have e':=qi h5;subst e e';subst r1 r2;exact⟨k,k',rfl,hj,ao8 R2 f (r_1 k (k'-k).toNat) (q.mono (s1.trans s2))⟩
   |_=>cases h5
  |_=>cases h4
 ·cases h1
end
theorem RS.start {K:Frag} (s:Same q H) (r:Reps K q ds vs) (Y:n-vs.length=m):RS K ⟨q,H,[]⟩ q H (ds.map .im++List.replicate m .no) (vs.map some++List.replicate (n-vs.length) none):=by
 have hl:=r.length;refine⟨s,Same.refl _,λ b o e=>.inl e,λ b o e _=>e,λ a h=>(by cases h),?_,λ i d e=>?_,λ i b o e=>?_,λ i j b Z o o' a e=>?_⟩
 ·rw[zh,zh,qy,qy,j7,j7,hl,Y]
 ·by_cases hi:i<ds.length
  ·rw[yu (by simpa using hi),yo] at e;cases z:ds[i]? with
   |none=>rw[z] at e;cases e
   |some d' =>
    rw[z] at e;have O:d'=d:=by have:=qi e;injection this
    subst O;obtain⟨v,a,b⟩:=r.get z;exact⟨v,by rw[yu (by simp;omega),yo,a];rfl,b⟩
  ·rw[ja (by simpa using Zr hi),Zd] at e;split at e <;> cases e
 ·by_cases hi:i<ds.length
  ·rw[yu (by simpa using hi),yo] at e;cases z:ds[i]? with
   |none=>rw[z] at e;cases e
   |some d'=>rw[z] at e;cases e
  ·rw[ja (by simpa using Zr hi),Zd] at e;split at e <;> cases e
 ·by_cases hi:i<ds.length
  ·rw[yu (by simpa using hi),yo] at e;cases z:ds[i]? with
   |none=>rw[z] at e;cases e
   |some d'=>rw[z] at e;cases e
  ·rw[ja (by simpa using Zr hi),Zd] at e;split at e <;> cases e
theorem i_5 {K:Frag}{st:Stmt} (F:Fun K x qual st f fd) (S:FnScope N ps (a_2 st)) (hn:ps.length=n) (hN:N.length=n+m)
  (hb:∀ (O:Value) (A:Around) (outer:List Env) (s:Shared) (H:Hp) (E:XK),Room k (A.deeper (envOfC qual (a_2 st) s.heap.objs.size f O))->XSs (H_5 CX0 P w K mg base N qual (a_2 st) f O A outer s H E).nox (h_3 st) B) :
  FnOk P w K mg base CX0 (k+1) f fd ps (spP K (fnD n m B)):=by
 have inv:∀ {ds:List D}{d:D},fnD n m B ds=some d->ds.length=n/\∃ r,B (ds.map .im++List.replicate m .no)=some r/\bz1 r=some d:=λ {ds d} h=>by
  unfold fnD at h;split at h
  ·rename_i hl;obtain⟨r,h1,h2⟩:=a_0 h;exact⟨hl,r,h1,h2⟩
  ·cases h
 refine F.ok S (λ vs H Q E h=>?_) (λ O A outer s H vs Q E hr h=>?_)
 ·obtain⟨Hi,ds,d,_,r,e,_⟩:=h;rw[hn,<- r.length];exact (inv e).1
 ·obtain⟨Hi,ds,d,hs,r,e,q⟩:=h;obtain⟨hl,res,h1,h2⟩:=inv e;refine⟨_,hb O A outer s H E hr,⟨Hi,H,[]⟩,Hi,_,res,RS.start hs r (by rw[<- r.length];omega),h1,?_⟩;cases res with
  |nx ρ' =>
   have Y:=qi h2;subst Y;exact λ Z H0' H' s0 R=>q .non H0' H' R.step (by rfl)
  |rt d' ρ' =>
   have Y:=qi h2;subst Y;exact λ v Z H0' H' s0 R rv=>q v H0' H' R.step rv
  |bk ρ'=>cases h2
  |ct ρ'=>cases h2
end Fx
namespace Fx
open PySem
@[simp] theorem cb8 (i j:Int):e_7 (.int i) (.int j)=some (.int (i+j)):=yI rfl
@[simp] theorem cb7 (a b:List D):e_7 (.lst a) (.lst b)=if a.length+b.length<=sizeLine then some (.lst (a++b)) else none:=yI rfl
@[simp] theorem cb6 (a b:Str):e_7 (.str a) (.str b)=if a.length+b.length<=sizeLine then some (.str (a++b)) else none:=yI rfl
@[simp] theorem ca2 (i j:Int):L_7 (.int i) (.int j)=some (.int (i-j)):=yI rfl
@[simp] theorem ca9 (i j:Int):af5 (.int i) (.int j)=if l_3 i j=true then some (.int (i*j)) else none:=yI rfl
@[simp] theorem cb5 (i j:Int):L_8 (.int i) (.int j)=if h_4 j=true then some (.int (i.fdiv j)) else none:=yI rfl
@[simp] theorem cb0 (i j:Int):f_4 (.int i) (.int j)=if j≠0 then some (.int (i.fmod j)) else none:=yI rfl
@[simp] theorem ca7 (i j:Int):au7 (.int i) (.int j)=if 0<=j/\j<=64/\i.natAbs<2 ^ 64 then some (.int (i ^ j.toNat)) else none:=yI rfl
@[simp] theorem ca8 (i:Int):au8 (.int i)=some (.int (-i)):=yI rfl
@[simp] theorem cn2 (i j:Int):dLt (.int i) (.int j)=some (.bl (decide (i<j))):=yI rfl
@[simp] theorem cn3 (i j:Int):dLe (.int i) (.int j)=some (.bl (decide (i<=j))):=yI rfl
@[simp] theorem cn4 (i j:Int):dGt (.int i) (.int j)=some (.bl (decide (j<i))):=yI rfl
@[simp] theorem cn5 (i j:Int):dGe (.int i) (.int j)=some (.bl (decide (j<=i))):=yI rfl
@[simp] theorem au9 (x y:D):dEq x y=if dpD x<=30/\dpD y<=30 then some (.bl (eqD x y)) else none:=yI rfl
@[simp] theorem bC0 (x y:D):dNe x y=if dpD x<=30/\dpD y<=30 then some (.bl (!eqD x y)) else none:=yI rfl
@[simp] theorem cq8 (x:D):dIs x .non=some (.bl (isN x)):=yI rfl
@[simp] theorem bP9 (x:D):aq9 x .non=some (.bl (!isN x)):=yI rfl
@[simp] theorem ca1 (b:Bool):aM5 (.bl b)=some b:=yI rfl
@[simp] theorem ca0 (xs:List D):aM5 (.tup xs)=some (!xs.isEmpty):=yI rfl
@[simp] theorem co0 (i:Int):af6 [.int i]=some (.int (i.natAbs:Int)):=jm (λ z=>some (D.int z)) (show (if i<0 then -i else i)=(i.natAbs:Int) by split <;> omega)
@[simp] theorem cn9 (i j:Int):be0 [.int i,.int j]=some (.int (if j > i then j else i)):=yI rfl
@[simp] theorem cn8 (i j:Int):bw1 [.int i,.int j]=some (.int (if j<i then j else i)):=yI rfl
def bQ3 {α:Type} (x:α) (o:Option (List α)):Option (List α):=bnd o λ t=>some (x::t)
@[simp] theorem B_6  (x:α) (t:List α):bQ3 x (some t)=some (x::t):=yI rfl
@[simp] theorem R_7 (b:Bool) (r:List D):y_0 (.bl b::r)=bQ3 b (y_0 r):=yI rfl
def cc5 (o:Option (List Bool)):Option D:=bnd o λ bs=>some (.bl (bs.all id))
@[simp] theorem at7 (bs:List Bool):cc5 (some bs)=some (.bl (bs.all id)):=yI rfl
@[simp] theorem be1 (xs:List D):z_8 [.lst xs]=cc5 (y_0 xs):=yI rfl
@[simp] theorem aL2 (b:Str):af3 .str (.str b)=true:=yI rfl
@[simp] theorem au3 :af3 .tuple .non=false:=yI rfl
@[simp] theorem au4 (b:Int):af3 .tuple (.int b)=false:=yI rfl
@[simp] theorem au2 (b:Str):af3 .tuple (.str b)=false:=yI rfl
@[simp] theorem au1 (b:List D):af3 .tuple (.tup b)=true:=yI rfl
def mkP (o:Option D) (ρ:En):Option (D×En):=bnd o λ d=>some (d,ρ)
@[simp] theorem cj5 (d:D) (ρ:En):mkP (some d) ρ=some (d,ρ):=yI rfl
@[simp] theorem cf3 (ρ:En) (d:D):slV ρ (some (.im d))=some (d,ρ):=yI rfl
@[simp] theorem eV_ (i:Nat) (ρ:En):eV i ρ=slV ρ ρ[i]?:=yI rfl
@[simp] theorem eC_ (d:D) (ρ:En):eC d ρ=some (d,ρ):=yI rfl
def e1a (q:D->Option D) (o:Option (D×En)):Option (D×En):=bnd o λ p=>bnd (q p.1) λ d=>some (d,p.2)
@[simp] theorem e1_ (q:D->Option D) (F:FE) (ρ:En):e1 q F ρ=e1a q (F ρ):=yI rfl
@[simp] theorem cm7 (q:D->Option D) (x:D) (ρ:En):e1a q (some (x,ρ))=mkP (q x) ρ:=yI rfl
def e2b (O:D->D->Option D) (x:D) (o:Option (D×En)):Option (D×En):=bnd o λ q=>bnd (O x q.1) λ d=>some (d,q.2)
def e2a (O:D->D->Option D) (G:FE) (o:Option (D×En)):Option (D×En):=bnd o λ p=>bnd (G p.2) λ q=>bnd (O p.1 q.1) λ d=>some (d,q.2)
@[simp] theorem e2_ (q:D->D->Option D) (F G:FE) (ρ:En):e2 q F G ρ=e2a q G (F ρ):=yI rfl
@[simp] theorem cm6 (q:D->D->Option D) (G:FE) (x:D) (ρ:En):e2a q G (some (x,ρ))=e2b q x (G ρ):=yI rfl
@[simp] theorem cm5 (q:D->D->Option D) (x y:D) (ρ:En):e2b q x (some (y,ρ))=mkP (q x y) ρ:=yI rfl
def e3c (q:D->D->Option D) (L:FE) (y:D) (ρ:En) (o:Option D):Option (D×En):=bnd o λ z=>bnd (blB z) λ b=>if b=true then bnd (L ρ) λ r=>bnd (q y r.1) λ d=>some (d,r.2) else some (.bl false,ρ)
def e3b (Y O:D->D->Option D) (L:FE) (x:D) (o:Option (D×En)):Option (D×En):=bnd o λ q=>bnd (Y x q.1) λ z=>bnd (blB z) λ b=>if b=true then bnd (L q.2) λ r=>bnd (O q.1 r.1) λ d=>some (d,r.2) else some (.bl false,q.2)
def e3a (Y O:D->D->Option D) (G L:FE) (o:Option (D×En)):Option (D×En):=bnd o λ p=>bnd (G p.2) λ q=>bnd (Y p.1 q.1) λ z=>bnd (blB z) λ b=>if b=true then bnd (L q.2) λ r=>bnd (O q.1 r.1) λ d=>some (d,r.2) else some (.bl false,q.2)
@[simp] theorem e3_ (O q:D->D->Option D) (F G L:FE) (ρ:En):e3 O q F G L ρ=e3a O q G L (F ρ):=yI rfl
@[simp] theorem cm4 (O q:D->D->Option D) (G L:FE) (x:D) (ρ:En):e3a O q G L (some (x,ρ))=e3b O q L x (G ρ):=yI rfl
@[simp] theorem cm3 (O q:D->D->Option D) (L:FE) (x y:D) (ρ:En):e3b O q L x (some (y,ρ))=e3c q L y ρ (O x y):=yI rfl
@[simp] theorem cm1 (q:D->D->Option D) (L:FE) (y:D) (ρ:En):e3c q L y ρ (some (.bl true))=e2b q y (L ρ):=yI rfl
@[simp] theorem cm2 (q:D->D->Option D) (L:FE) (y:D) (ρ:En):e3c q L y ρ (some (.bl false))=some (.bl false,ρ):=yI rfl
@[simp] theorem aN_ (ρ:En):aN ρ=some ([],ρ):=yI rfl
def aCb (x:D) (o:Option (List D×En)):Option (List D×En):=bnd o λ q=>some (x::q.1,q.2)
def aCa (A:FA) (o:Option (D×En)):Option (List D×En):=bnd o λ p=>bnd (A p.2) λ q=>some (p.1::q.1,q.2)
@[simp] theorem aC_ (F:FE) (A:FA) (ρ:En):aC F A ρ=aCa A (F ρ):=yI rfl
@[simp] theorem co4 (A:FA) (x:D) (ρ:En):aCa A (some (x,ρ))=aCb x (A ρ):=yI rfl
@[simp] theorem co3 (x:D) (xs:List D) (ρ:En):aCb x (some (xs,ρ))=some (x::xs,ρ):=yI rfl
def bS9 (o:Option (List D×En)):Option (D×En):=bnd o λ p=>if p.1.length<=1000 then some (.tup p.1,p.2) else none
@[simp] theorem cl5 (A:FA) (ρ:En):g_7 A ρ=bS9 (A ρ):=yI rfl
@[simp] theorem bS8 (xs:List D) (ρ:En):bS9 (some (xs,ρ))=if xs.length<=1000 then some (.tup xs,ρ) else none:=yI rfl
def bV9 (o:Option (List D×En)):Option (D×En):=bnd o λ p=>if p.1.length<=1000 then some (.lst p.1,p.2) else none
@[simp] theorem cl7 (A:FA) (ρ:En):j_2 A ρ=bV9 (A ρ):=yI rfl
@[simp] theorem bV8 (xs:List D) (ρ:En):bV9 (some (xs,ρ))=if xs.length<=1000 then some (.lst xs,ρ) else none:=yI rfl
def eFa (g:List D->Option D) (o:Option (List D×En)):Option (D×En):=bnd o λ p=>bnd (g p.1) λ d=>some (d,p.2)
@[simp] theorem eF_ (g:List D->Option D) (A:FA) (ρ:En):eF g A ρ=eFa g (A ρ):=yI rfl
@[simp] theorem cl8 (g:List D->Option D) (xs:List D) (ρ:En):eFa g (some (xs,ρ))=mkP (g xs) ρ:=yI rfl
def bX6 (t:Ty) (o:Option (D×En)):Option (D×En):=bnd o λ p=>some (.bl (af3 t p.1),p.2)
@[simp] theorem cq1 (t:Ty) (F:FE) (ρ:En):eTy t F ρ=bX6 t (F ρ):=yI rfl
@[simp] theorem bX5 (t:Ty) (x:D) (ρ:En):bX6 t (some (x,ρ))=some (.bl (af3 t x),ρ):=yI rfl
@[simp] theorem oN_ (ρ:En):oN ρ=some (none,ρ):=yI rfl
def oSa (o:Option (D×En)):Option (Option Int×En):=bnd o λ p=>bnd (au6 p.1) λ i=>some (some i,p.2)
@[simp] theorem oS_ (F:FE) (ρ:En):oS F ρ=oSa (F ρ):=yI rfl
@[simp] theorem ci1 (i:Int) (ρ:En):oSa (some (.int i,ρ))=some (some i,ρ):=yI rfl
def mkB (o:Option Bool) (ρ:En):Option (Bool×En):=bnd o λ b=>some (b,ρ)
@[simp] theorem cj6 (b:Bool) (ρ:En):mkB (some b) ρ=some (b,ρ):=yI rfl
def tBa (o:Option (D×En)):Option (Bool×En):=bnd o λ p=>bnd (blB p.1) λ b=>some (b,p.2)
@[simp] theorem tB_ (F:FE) (ρ:En):tB F ρ=tBa (F ρ):=yI rfl
@[simp] theorem cf0 (b:Bool) (ρ:En):tBa (some (.bl b,ρ))=some (b,ρ):=yI rfl
def tVa (o:Option (D×En)):Option (Bool×En):=bnd o λ p=>bnd (aM5 p.1) λ b=>some (b,p.2)
@[simp] theorem tV_ (F:FE) (ρ:En):tV F ρ=tVa (F ρ):=yI rfl
@[simp] theorem cd9 (x:D) (ρ:En):tVa (some (x,ρ))=mkB (aM5 x) ρ:=yI rfl
def aP4 (U:FT) (o:Option (Bool×En)):Option (Bool×En):=bnd o λ p=>if p.1=true then U p.2 else some (false,p.2)
def bD5 (U:FT) (o:Option (Bool×En)):Option (Bool×En):=bnd o λ p=>if p.1=true then some (true,p.2) else U p.2
def bi5 (o:Option (Bool×En)):Option (Bool×En):=bnd o λ p=>some (!p.1,p.2)
@[simp] theorem cf2 (T U:FT) (ρ:En):tAnd T U ρ=aP4 U (T ρ):=yI rfl
@[simp] theorem bE3 (U:FT) (ρ:En):aP4 U (some (true,ρ))=U ρ:=yI rfl
@[simp] theorem bE4 (U:FT) (ρ:En):aP4 U (some (false,ρ))=some (false,ρ):=yI rfl
@[simp] theorem co9 (T U:FT) (ρ:En):tOr T U ρ=bD5 U (T ρ):=yI rfl
@[simp] theorem bT2 (U:FT) (ρ:En):bD5 U (some (true,ρ))=some (true,ρ):=yI rfl
@[simp] theorem bT3 (U:FT) (ρ:En):bD5 U (some (false,ρ))=U ρ:=yI rfl
@[simp] theorem ce4 (T:FT) (ρ:En):tNot T ρ=bi5 (T ρ):=yI rfl
@[simp] theorem bD6 (b:Bool) (ρ:En):bi5 (some (b,ρ))=some (!b,ρ):=yI rfl
@[simp] theorem cd8 (ρ:En):tYes ρ=some (true,ρ):=yI rfl
def bO8 (F G:FE) (o:Option (Bool×En)):Option (D×En):=bnd o λ p=>if p.1=true then F p.2 else G p.2
@[simp] theorem cq6 (T:FT) (F G:FE) (ρ:En):eIf T F G ρ=bO8 F G (T ρ):=yI rfl
@[simp] theorem bZ4 (F G:FE) (ρ:En):bO8 F G (some (true,ρ))=F ρ:=yI rfl
@[simp] theorem bZ5 (F G:FE) (ρ:En):bO8 F G (some (false,ρ))=G ρ:=yI rfl
def bu2 (G:FE) (o:Option (D×En)):Option (D×En):=bnd o λ p=>bnd (blB p.1) λ b=>if b=true then G p.2 else some (.bl false,p.2)
def bO4 (G:FE) (o:Option (D×En)):Option (D×En):=bnd o λ p=>bnd (blB p.1) λ b=>if b=true then some (.bl true,p.2) else G p.2
@[simp] theorem cl9 (F G:FE) (ρ:En):ad8 F G ρ=bu2 G (F ρ):=yI rfl
@[simp] theorem bO9 (G:FE) (ρ:En):bu2 G (some (.bl true,ρ))=G ρ:=yI rfl
@[simp] theorem cq2 (F G:FE) (ρ:En):eOr F G ρ=bO4 G (F ρ):=yI rfl
@[simp] theorem bX7 (G:FE) (ρ:En):bO4 G (some (.bl true,ρ))=some (.bl true,ρ):=yI rfl
@[simp] theorem bX8 (G:FE) (ρ:En):bO4 G (some (.bl false,ρ))=G ρ:=yI rfl
def imA (o:Option Sl) (q:Option En):Option En:=bnd o λ s=>bnd q λ r=>some (s::r)
@[simp] theorem ck6 (s:Sl) (r:En):imA (some s) (some r)=some (s::r):=yI rfl
@[simp] theorem cf4 (d:D):slI (some (.im d))=some (.im d):=yI rfl
@[simp] theorem bW8 (ρ:En):q_2 ρ []=some []:=yI rfl
@[simp] theorem bW9 (ρ:En) (j:Nat) (js:List Nat):q_2 ρ (j::js)=imA (slI ρ[j]?) (q_2 ρ js):=yI rfl
def cGb (T:FT) (F:FE) (fr:En) (r:List D) (o:Option (D×En)):Option (List D):=bnd o λ q=>bnd (cGo T F fr r) λ t=>some (q.1::t)
def cGa (T:FT) (F:FE) (fr:En) (r:List D) (o:Option (Bool×En)):Option (List D):=bnd o λ p=>if p.1=true then bnd (F p.2) λ q=>bnd (cGo T F fr r) λ t=>some (q.1::t) else cGo T F fr r
@[simp] theorem cn7 (T:FT) (F:FE) (fr:En):cGo T F fr []=some []:=yI rfl
@[simp] theorem bd5 (T:FT) (F:FE) (fr:En) (d:D) (r:List D):cGo T F fr (d::r)=cGa T F fr r (T (.im d::fr)):=yI rfl
@[simp] theorem bd7 (T:FT) (F:FE) (fr:En) (r:List D) (ρ:En):cGa T F fr r (some (true,ρ))=cGb T F fr r (F ρ):=yI rfl
@[simp] theorem bQ6 (T:FT) (F:FE) (fr:En) (r:List D) (ρ:En):cGa T F fr r (some (false,ρ))=cGo T F fr r:=yI rfl
@[simp] theorem bd6 (T:FT) (F:FE) (fr:En) (r:List D) (x:D) (ρ:En):cGb T F fr r (some (x,ρ))=bQ3 x (cGo T F fr r):=yI rfl
@[simp] theorem bL6 (xs:List D):items (.lst xs)=some xs:=yI rfl
@[simp] theorem bL5 (xs:List D):items (.tup xs)=some xs:=yI rfl
def bO5 (ρ:En) (xs:List D) (o:Option (List D)):Option (D×En):=bnd o λ ys=>if xs.length<=sizeLine then some (.lst ys,ρ) else none
def bO6 (T:FT) (F:FE) (ρ:En) (xs:List D) (o:Option En):Option (D×En):=bnd o λ fr=>bO5 ρ xs (cGo T F fr xs)
def bO7 (js:List Nat) (T:FT) (F:FE) (ρ:En) (o:Option (List D)):Option (D×En):=bnd o λ xs=>bO6 T F ρ xs (q_2 ρ js)
def bZ2 (js:List Nat) (T:FT) (F:FE) (o:Option (D×En)):Option (D×En):=bnd o λ p=>bO7 js T F p.2 (items p.1)
@[simp] theorem cq5 (js:List Nat) (I:FE) (T:FT) (F:FE) (ρ:En):eLC js I T F ρ=bZ2 js T F (I ρ):=yI rfl
@[simp] theorem bZ1 (js:List Nat) (T:FT) (F:FE) (x:D) (ρ:En):bZ2 js T F (some (x,ρ))=bO7 js T F ρ (items x):=yI rfl
@[simp] theorem bZ0 (js:List Nat) (T:FT) (F:FE) (ρ:En) (xs:List D):bO7 js T F ρ (some xs)=bO6 T F ρ xs (q_2 ρ js):=yI rfl
@[simp] theorem bY9 (T:FT) (F:FE) (ρ:En) (xs:List D) (fr:En):bO6 T F ρ xs (some fr)=bO5 ρ xs (cGo T F fr xs):=yI rfl
@[simp] theorem bY8 (ρ:En) (xs ys:List D):bO5 ρ xs (some ys)=if xs.length<=sizeLine then some (.lst ys,ρ) else none:=yI rfl
@[simp] theorem sN_ (ρ:En):sN ρ=some (.nx ρ):=yI rfl
def aQ1 (G:FS) (o:Option Res):Option Res:=bnd o λ r=>nxR G r
@[simp] theorem cf8 (F G:FS) (ρ:En):b_7 F G ρ=aQ1 G (F ρ):=yI rfl
@[simp] theorem bF3 (G:FS) (ρ:En):aQ1 G (some (.nx ρ))=G ρ:=yI rfl
@[simp] theorem bF2 (G:FS) (d:D) (ρ:En):aQ1 G (some (.rt d ρ))=some (.rt d ρ):=yI rfl
def bk0 (i:Nat) (o:Option (D×En)):Option Res:=bnd o λ p=>some (.nx (p.2.set i (.im p.1)))
@[simp] theorem cf7 (i:Nat) (F:FE) (ρ:En):e_3 i F ρ=bk0 i (F ρ):=yI rfl
@[simp] theorem bF1 (i:Nat) (x:D) (ρ:En):bk0 i (some (x,ρ))=some (.nx (ρ.set i (.im x))):=yI rfl
@[simp] theorem bx5 (i:Nat) (is:List Nat) (d:D) (ds:List D) (ρ:En):l_4 (i::is) (d::ds) ρ=l_4 is ds (ρ.set i (.im d)):=yI rfl
@[simp] theorem bx4 (ds:List D) (ρ:En):l_4 [] ds ρ=ρ:=by cases ds <;> exact Eq.trans rfl rfl
@[simp] theorem bS7 (xs:List D):bD2 (.tup xs)=some xs:=yI rfl
@[simp] theorem gN_ (i:Nat) (d:D) (ρ:En):gN i d ρ=some (ρ.set i (.im d)):=yI rfl
def gTa (is:List Nat) (ρ:En) (o:Option (List D)):Option En:=bnd o λ xs=>if xs.length=is.length then some (l_4 is xs ρ) else none
@[simp] theorem gT_ (is:List Nat) (d:D) (ρ:En):gT is d ρ=gTa is ρ (bD2 d):=yI rfl
@[simp] theorem cl1 (is:List Nat) (ρ:En) (xs:List D):gTa is ρ (some xs)=if xs.length=is.length then some (l_4 is xs ρ) else none:=yI rfl
def aQ0 (o:Option En):Option Res:=bnd o λ ρ=>some (.nx ρ)
def bj9 (is:List Nat) (o:Option (D×En)):Option Res:=bnd o λ p=>aQ0 (gT is p.1 p.2)
@[simp] theorem cf6 (is:List Nat) (F:FE) (ρ:En):bx6 is F ρ=bj9 is (F ρ):=yI rfl
@[simp] theorem bF0 (is:List Nat) (x:D) (ρ:En):bj9 is (some (x,ρ))=aQ0 (gT is x ρ):=yI rfl
@[simp] theorem bE9 (ρ:En):aQ0 (some ρ)=some (.nx ρ):=yI rfl
def bF7 (F G:FS) (o:Option (Bool×En)):Option Res:=bnd o λ p=>if p.1=true then F p.2 else G p.2
@[simp] theorem cp0 (T:FT) (F G:FS) (ρ:En):sIf T F G ρ=bF7 F G (T ρ):=yI rfl
@[simp] theorem bT7 (F G:FS) (ρ:En):bF7 F G (some (true,ρ))=F ρ:=yI rfl
@[simp] theorem bT8 (F G:FS) (ρ:En):bF7 F G (some (false,ρ))=G ρ:=yI rfl
def bk1 (o:Option (D×En)):Option Res:=bnd o λ p=>some (.rt p.1 p.2)
@[simp] theorem cf9 (F:FE) (ρ:En):d_6 F ρ=bk1 (F ρ):=yI rfl
@[simp] theorem bF4 (x:D) (ρ:En):bk1 (some (x,ρ))=some (.rt x ρ):=yI rfl
def fGb (g:D->En->Option En) (B:FS) (r:List D) (o:Option Res):Option Res:=bnd o λ z=>goR (fGo g B r) z
def fGa (g:D->En->Option En) (B:FS) (r:List D) (o:Option En):Option Res:=bnd o λ q=>fGb g B r (B q)
theorem bN5 (g:D->En->Option En) (B:FS) (ρ:En):fGo g B [] ρ=some (.nx ρ):=yI rfl
theorem aD8 (g:D->En->Option En) (B:FS) (d:D) (r:List D) (ρ:En):fGo g B (d::r) ρ=fGa g B r (g d ρ):=yI rfl
@[simp] theorem aE0 (g:D->En->Option En) (B:FS) (r:List D) (ρ:En):fGa g B r (some ρ)=fGb g B r (B ρ):=yI rfl
@[simp] theorem aD9 (g:D->En->Option En) (B:FS) (r:List D) (ρ:En):fGb g B r (some (.nx ρ))=fGo g B r ρ:=yI rfl
def aQ2 (g:D->En->Option En) (B:FS) (ρ:En) (o:Option (List D)):Option Res:=bnd o λ xs=>fGo g B xs ρ
def bk3 (g:D->En->Option En) (B:FS) (o:Option (D×En)):Option Res:=bnd o λ p=>aQ2 g B p.2 (items p.1)
@[simp] theorem cg3 (g:D->En->Option En) (F:FE) (B:FS) (ρ:En):by1 g F B ρ=bk3 g B (F ρ):=yI rfl
@[simp] theorem bF9 (g:D->En->Option En) (B:FS) (x:D) (ρ:En):bk3 g B (some (x,ρ))=aQ2 g B ρ (items x):=yI rfl
@[simp] theorem bF8 (g:D->En->Option En) (B:FS) (ρ:En) (xs:List D):aQ2 g B ρ (some xs)=fGo g B xs ρ:=yI rfl
def bl0 (o:Option (D×En)):Option (List D×En):=bnd o λ p=>bnd (au6 p.1) λ j=>if -(2 ^ 62)<=j/\j<2 ^ 62 then some (n_2 0 j.toNat,p.2) else none
@[simp] theorem ch2 (F:FE) (ρ:En):rng1 F ρ=bl0 (F ρ):=yI rfl
@[simp] theorem bH4 (j:Int) (ρ:En):bl0 (some (.int j,ρ))=if -(2 ^ 62)<=j/\j<2 ^ 62 then some (n_2 0 j.toNat,ρ) else none:=yI rfl
def aQ6 (x:D) (o:Option (D×En)):Option (List D×En):=bnd o λ q=>bnd (au6 x) λ i=>bnd (au6 q.1) λ j=>if -(2 ^ 62)<=i/\i<2 ^ 62/\-(2 ^ 62)<=j/\j<2 ^ 62 then some (n_2 i (j-i).toNat,q.2) else none
def bk9 (G:FE) (o:Option (D×En)):Option (List D×En):=bnd o λ p=>aQ6 p.1 (G p.2)
@[simp] theorem ch1 (F G:FE) (ρ:En):bz0 F G ρ=bk9 G (F ρ):=yI rfl
@[simp] theorem bH3 (G:FE) (x:D) (ρ:En):bk9 G (some (x,ρ))=aQ6 x (G ρ):=yI rfl
@[simp] theorem bH2 (i j:Int) (ρ:En):aQ6 (.int i) (some (.int j,ρ))=if -(2 ^ 62)<=i/\i<2 ^ 62/\-(2 ^ 62)<=j/\j<2 ^ 62 then some (n_2 i (j-i).toNat,ρ) else none:=yI rfl
def aI2 (g:D->En->Option En) (B:FS) (o:Option (List D×En)):Option Res:=bnd o λ p=>fGo g B p.1 p.2
@[simp] theorem bT9 (g:D->En->Option En) (X:FA) (B:FS) (ρ:En):D_1 g X B ρ=aI2 g B (X ρ):=yI rfl
@[simp] theorem bx8 (g:D->En->Option En) (B:FS) (xs:List D) (ρ:En):aI2 g B (some (xs,ρ))=fGo g B xs ρ:=yI rfl
def fnA (o:Option Res):Option D:=bnd o λ r=>bz1 r
@[simp] theorem cl3 (d:D) (ρ:En):fnA (some (.rt d ρ))=some d:=yI rfl
@[simp] theorem cq0 (n k:Nat) (B:FS) (ds:List D):fnD n k B ds=if ds.length=n then fnA (B (ds.map .im++List.replicate k .no)) else none:=yI rfl
def bo4 (o:Option (List D×En)):Option (List D×En):=bnd o λ p=>if p.1.length<=1000 then some p else none
@[simp] theorem ci3 (A:FA) (ρ:En):bf1 A ρ=bo4 (A ρ):=yI rfl
@[simp] theorem bJ8 (xs:List D) (ρ:En):bo4 (some (xs,ρ))=if xs.length<=1000 then some (xs,ρ) else none:=yI rfl
def bk2 (i:Nat) (o:Option (List D×En)):Option Res:=bnd o λ p=>some (.nx (p.2.set i (.ow false (.lst p.1))))
@[simp] theorem cg1 (i:Nat) (A:FA) (ρ:En):aI0 i A ρ=bk2 i (A ρ):=yI rfl
@[simp] theorem bF6 (i:Nat) (xs:List D) (ρ:En):bk2 i (some (xs,ρ))=some (.nx (ρ.set i (.ow false (.lst xs)))):=yI rfl
@[simp] theorem ch9 (ds:List D):owL (some (.ow false (.lst ds)))=some ds:=yI rfl
def aQ3 (i:Nat) (x:D) (ρ:En) (o:Option (List D)):Option Res:=bnd o λ ds=>if ds.length<1000000 then some (.nx (ρ.set i (.ow false (.lst (ds++[x]))))) else none
def aQ4 (i:Nat) (o:Option (D×En)):Option Res:=bnd o λ p=>aQ3 i p.1 p.2 (owL p.2[i]?)
def bk4 (i:Nat) (F:FE) (ρ:En) (o:Option (List D)):Option Res:=bnd o λ _=>aQ4 i (F ρ)
@[simp] theorem cg6 (i:Nat) (F:FE) (ρ:En):aI3 i F ρ=bk4 i F ρ (owL ρ[i]?):=yI rfl
@[simp] theorem bH1 (i:Nat) (F:FE) (ρ:En) (ds:List D):bk4 i F ρ (some ds)=aQ4 i (F ρ):=yI rfl
@[simp] theorem bH0 (i:Nat) (x:D) (ρ:En):aQ4 i (some (x,ρ))=aQ3 i x ρ (owL ρ[i]?):=yI rfl
@[simp] theorem bG9 (i:Nat) (x:D) (ρ:En) (ds:List D):aQ3 i x ρ (some ds)=if ds.length<1000000 then some (.nx (ρ.set i (.ow false (.lst (ds++[x]))))) else none:=yI rfl
def bN0 (i:Nat) (ρ:En):Option Sl->En
 |some (.ow false (.lst ds))=>ρ.set i (.im (.lst ds))
 |_=>ρ
@[simp] theorem cp8 (i:Nat) (ρ:En):frz i ρ=bN0 i ρ ρ[i]?:=by unfold frz bN0;split <;> simp_all
@[simp] theorem bX4 (i:Nat) (ρ:En) (ds:List D):bN0 i ρ (some (.ow false (.lst ds)))=ρ.set i (.im (.lst ds)):=yI rfl
@[simp] theorem cg2 (i:Nat) (F:FS) (ρ:En):aI1 i F ρ=F (frz i ρ):=yI rfl
end Fx
namespace Fx
open PySem PySem.Spec PyProof.Rows L2
theorem RS.heNone {K:Frag} (R:RS K c H0 H ρ σ)  (O:H p=none):c.He p=none:=by
 cases q:c.He p with
 |none=>rfl
 |some u =>
  by_cases Y:p∈c.Ap
  ·exact absurd O (R.apt p Y)
  ·rw[R.keep p u q Y] at O;cases O
theorem RS.setOwn {K:Frag} (R:RS K c H0 H ρ σ) (i:Nat) (hp:H p=none) (r:OwOk K H0 (upd H p u) p o) :
  RS K c H0 (upd H p u) (ρ.set i (.ow false o)) (σ.set i (some (.ref p))):=by
 have hl:=R.len;have h0:=R.same.free hp;have he:=R.heNone hp;have up:∀ b v,H b=some v->(upd H p u) b=some v:=λ b v e=>by rw[a_8 (b_3 e hp)];exact e
 have Y:∀ (j:Nat) (sl:Sl),j≠i->(ρ.set i (.ow false o))[j]?=some sl->ρ[j]?=some sl:=λ j sl Z e=>by rwa [zt (yk Z)] at e
 have O:∀ (j:Nat),j≠i->(σ.set i (some (V.ref p)))[j]?=σ[j]?:=λ j Z=>zt (yk Z);have same:∀ (sl:Sl),(ρ.set i (.ow false o))[i]?=some sl->sl=.ow false o/\i<ρ.length:=λ sl e=>by
  by_cases hi:i<ρ.length
  ·rw[zv hi] at e;exact⟨(qi e).symm,hi⟩
  ·rw[Yx (by rw[jb];omega)] at e;cases e
 have aa:∀ (j:Nat) (b:Bool) (o:MO) (a:Addr),ρ[j]?=some (.ow b o)->σ[j]?=some (some (.ref a))->a≠p:=λ j b o a e1 e2=>by
  obtain⟨a',x,_,_,w⟩:=R.ow j b o e1;rw[x] at e2;cases e2;obtain⟨u,q⟩:=w.some;exact b_3 q hp
 refine⟨λ b u e=>up b u (R.same b u e),R.init,R.fresh,λ b o e n=>up b o (R.keep b o e n),λ a ha e=>?_,by rw[jb,jb,hl],λ j d' e=>?_,λ j bb o' e=>?_,λ j k b1 b2 o1 o2 a e1 e2 e3 e4=>?_⟩
 ·cases q:H a with
  |none=>exact R.apt a ha q
  |some v=>rw[up a v q] at e;cases e
 ·by_cases Z:j=i
  ·subst Z;obtain⟨e',_⟩:=same _ e;cases e'
  ·rw[O j Z];exact R.im j d' (Y j _ Z e)
 ·by_cases Z:j=i
  ·subst Z;obtain⟨e',hi⟩:=same _ e;cases e';exact⟨p,by rw[zv (by omega)],h0,he,r⟩
  ·rw[O j Z];obtain⟨a,x,y,z,w⟩:=R.ow j bb o' (Y j _ Z e);exact⟨a,x,y,z,w.step (Same.refl _) λ v q=>up a v q⟩
 ·by_cases Z:j=i
  ·by_cases hk:k=i
   ·omega
   ·subst Z;obtain⟨_,hi⟩:=same _ e1;rw[zv (by omega)] at e3;cases e3;rw[O k hk] at e4;exact absurd rfl (aa k b2 o2 _ (Y k _ hk e2) e4)
  ·by_cases hk:k=i
   ·subst hk;obtain⟨_,hi⟩:=same _ e2;rw[zv (by omega)] at e4;cases e4;rw[O j Z] at e3;exact absurd rfl (aa j b1 o1 _ (Y j _ Z e1) e3)
   ·rw[O j Z] at e3;rw[O k hk] at e4;exact R.ne j k b1 b2 o1 o2 a (Y j _ Z e1) (Y k _ hk e2) e3 e4
theorem RS.lent {K:Frag} (R:RS K c H0 H ρ σ)  (hi:ρ[i]?=some (.ow b o)) (ha:σ[i]?=some (some (.ref a)))
  (s0:Same H0 H0') (s':Same H0' H') (kp:∀ x u,H x=some u->x≠a->H' x=some u) (fr:∀ x u,H0' x=some u->H0 x=some u\/H x=none) (r:OwOk K H0' H' a o') :
  RS K c H0' H' (ρ.set i (.ow b o')) σ:=by
 obtain⟨a',x,y,z,w⟩:=R.ow i b o hi;rw[ha] at x;cases x;obtain⟨ua,qa⟩:=w.some;have il:=(List.getElem?_eq_some_iff.mp hi).1;have n0:∀ x,H0 x=none->H x≠none->H0' x=none:=λ x h1 h2=>by
  cases q:H0' x with
  |none=>rfl
  |some u =>
   rcases fr x u q with h | h
   ·rw[h1] at h;cases h
   ·exact absurd h h2
 have O:∀ (j:Nat) (sl:Sl),j≠i->(ρ.set i (.ow b o'))[j]?=some sl->ρ[j]?=some sl:=λ j sl Y e=>by rwa [zt (yk Y)] at e
 have same:∀ (sl:Sl),(ρ.set i (.ow b o'))[i]?=some sl->sl=.ow b o':=λ sl e=>by
  rw[zv il] at e;exact (qi e).symm
 have aa:∀ (j:Nat) (Z:Bool) (oo:MO),(ρ.set i (.ow b o'))[j]?=some (.ow Z oo)->∃ Z ac,ρ[j]?=some (.ow Z ac):=λ j Z oo e=>by
  by_cases Y:j=i
  ·exact⟨b,o,by rw[Y];exact hi⟩
  ·exact⟨Z,oo,O j _ Y e⟩
 refine⟨s',R.init.trans s0,λ x u e=>?_,λ x u e n=>?_,λ x hx e=>?_,by rw[jb];exact R.len,λ j d' e=>?_,λ j Z oo e=>?_,λ j k b1 b2 o1 o2 x e1 e2 e3 e4=>?_⟩
 ·rcases fr x u e with h | h
  ·exact R.fresh x u h
  ·exact .inr (R.heNone h)
 ·have:x≠a:=λ h=>by
   cases b with
   |true=>exact n (h▸z)
   |false =>
    have z':=z;rw[h,z'] at e;cases e
  exact kp x u (R.keep x u e n) this
 ·by_cases h:x=a
  ·obtain⟨u,q⟩:=r.some;rw[h,q] at e;cases e
  ·cases q:H x with
   |none=>exact R.apt x hx q
   |some u=>rw[kp x u q h] at e;cases e
 ·by_cases Y:j=i
  ·subst Y;cases same _ e
  ·obtain⟨v,a1,a2⟩:=R.im j d' (O j _ Y e);exact⟨v,a1,Rep.mono s0 _ a2⟩
 ·by_cases Y:j=i
  ·subst Y;cases same _ e;exact⟨a,ha,n0 a y (by rw[qa];intro h;cases h),z,r⟩
  ·have q':=O j _ Y e;obtain⟨x,x1,y1,z1,w1⟩:=R.ow j Z oo q';have nx:x≠a:=λ h=>Y (R.ne j i Z b oo o x q' hi x1 (by rw[h];exact ha));obtain⟨u,qu⟩:=w1.some;exact⟨x,x1,n0 x y1 (by rw[qu];intro h;cases h),z1,w1.step s0 λ v q=>kp x v q nx⟩
 ·obtain⟨_,p,e1⟩:=aa j b1 o1 e1;obtain⟨_,q,e2⟩:=aa k b2 o2 e2;exact R.ne j k _ _ p q x e1 e2 e3 e4
theorem RS.mutOwn {K:Frag} (R:RS K c H0 H ρ σ)  (hi:ρ[i]?=some (.ow b o)) (q:σ[i]?=some (some (.ref a))) (r:OwOk K H0 (upd H a u) a o') :
  RS K c H0 (upd H a u) (ρ.set i (.ow b o')) σ:=by
 obtain⟨O,x,y,z,w⟩:=R.ow i b o hi;rw[q] at x;cases x;refine R.lent hi q (Same.refl _) (λ x v e=>?_) (λ x v e n=>by rw[a_8 n];exact e) (λ x v e=>.inl e) r;have:x≠a:=λ h=>by rw[h,y] at e;cases e
 rw[a_8 this];exact R.same x v e
theorem RS.freeze {K:Frag} (R:RS K c H0 H ρ σ)  (hi:ρ[i]?=some (.ow false (.lst ds))) :
  ∃ H0',Same H0 H0'/\RS K c H0' H (ρ.set i (.im (.lst ds))) σ:=by
 obtain⟨a,x,y,z,vs,e,r⟩:=R.ow i _ _ hi;have he:=z;have il:=(List.getElem?_eq_some_iff.mp hi).1;have s0:Same H0 (upd H0 a (.lst vs)):=λ b u q=>by rw[a_8 (b_3 q y)];exact q
 have O:∀ (j:Nat) (Z:Sl),j≠i->(ρ.set i (.im (.lst ds)))[j]?=some Z->ρ[j]?=some Z:=λ j Z Y e=>by rwa [zt (yk Y)] at e
 have same:∀ (Z:Sl),(ρ.set i (.im (.lst ds)))[i]?=some Z->Z=.im (.lst ds):=λ Z e=>by
  rw[zv il] at e;exact (qi e).symm
 refine⟨upd H0 a (.lst vs),s0,λ b u q=>?_,R.init.trans s0,λ b u q=>?_,R.keep,R.apt,by rw[jb];exact R.len,λ j d' q=>?_,λ j bb o' q=>?_,λ j k b1 b2 o' aa b e1 e2 e3 e4=>?_⟩
 ·by_cases h:b=a
  ·subst h;rw[a_4] at q;cases q;exact e
  ·rw[a_8 h] at q;exact R.same b u q
 ·by_cases h:b=a
  ·subst h;exact .inr he
  ·rw[a_8 h] at q;exact R.fresh b u q
 ·by_cases Y:j=i
  ·subst Y;cases same _ q;refine⟨.ref a,x,?_⟩;exact⟨a,vs,rfl,.inl (.inl a_4),Reps.mono s0 _ r⟩
  ·obtain⟨v,a1,a2⟩:=R.im j d' (O j _ Y q);exact⟨v,a1,Rep.mono s0 _ a2⟩
 ·by_cases Y:j=i
  ·subst Y;cases same _ q
  ·have q':=O j _ Y q;obtain⟨b,x1,y1,z1,w1⟩:=R.ow j bb o' q';have nb:b≠a:=λ h=>Y (R.ne j i bb false o' _ b q' hi x1 (by rw[h];exact x));exact⟨b,x1,by rw[a_8 nb];exact y1,z1,w1.step s0 λ u q=>q⟩
 ·by_cases Y:j=i
  ·subst Y;cases same _ e1
  ·by_cases hk:k=i
   ·subst hk;cases same _ e2
   ·exact R.ne j k b1 b2 o' aa b (O j _ Y e1) (O k _ hk e2) e3 e4
def tEo (K:Frag) (A:FA):TE:=λ σ H Q=>∃ c H0 ρ ds ρ',RS K c H0 H ρ σ/\A ρ=some (ds,ρ')/\∀ p vs H0' H',Same H0 H0'->RS K c H0' H' ρ' σ->H' p=none->Reps K H0' ds vs->Q (.ref p) (upd H' p (.lst vs))
def XO' (X:Cx) (e:Expr) (A:FA):Prop:=PE X e (tEo X.K A)
theorem n_5  (h:owL o=some ds):o=some (.ow false (.lst ds)):=by
 unfold owL at h;split at h
 ·cases h;rfl
 ·cases h
section
theorem aO3  (h:XA X es A):XO' X (.List es pos) (bf1 A):=PE.wk (aj9 h) λ σ H Q O=>by
 obtain⟨c,H0,ρ,ds,ρ',R,f,q⟩:=O;obtain⟨⟨ac,aa⟩,h1,f⟩:=a_0 f;obtain⟨hl,Z⟩:=ifs f;cases Z;exact⟨c,H0,ρ,ds,_,R,h1,λ vs H1 Hh s1 R1 Y=>⟨by rw[<- Y.length];exact ax0 hl,λ p hp=>q p vs H1 Hh s1 R1 hp Y⟩⟩
theorem bh3 (i:Nat)  (hN:X.N.Nodup) (he:XO' X e A) (hi:X.N[i]?=some x:=by rfl) (hx:Loc X.env.scope x:=by first | exact Or.inl rfl | exact Or.inr rfl) (hs:swapsWith e (some (.Name x pos')) pos.line X.env=pure false:=by rfl)
  (hf:X.fn x=true\/X.env.scope.names.lookup x=some .local:=by first | exact .inl rfl | exact .inr rfl):XS X (.Assign [.Name x pos'] e pos) (aI0 i A):=PS.wk (A_6 hN hi hx he hs hf) λ Dn σ H O=>by
 obtain⟨c,H0,ρ,r,R,f,q⟩:=O;obtain⟨⟨ds,Y⟩,h1,f⟩:=a_0 f;have Z:=f;cases Z;exact⟨c,H0,ρ,ds,Y,R,h1,λ p vs H1 Hh s1 R1 hp r1=>q _ H1 _ s1 (R1.setOwn i hp ⟨vs,a_4,r1⟩)⟩
theorem bx2 (i:Nat)  (ha:XA X [e] (aC F aN)) (hN:X.N[i]?=some x:=by rfl) (hv:Vis X.env.scope x:=by first | exact Or.inl rfl | exact Or.inr (Or.inl rfl) | exact Or.inr (Or.inr rfl)) (hd:(x==("__debug__":Str))=false:=by decide)
  (ad:(x==("__classdict__":Str))=false:=by decide) (O:attributeBase (.Name x p1) "append" X.env (eval (.Name x p1) X.env)=eval (.Name x p1) X.env:=by rfl)
  (aa:((backTo Z (starEach [e] X.env)).all (λ x=>!x.1)&&(backToKw Z (keywordEach [] X.env)).all (λ x=>x.1.isSome)&&decide ([e].length+([]:List Keyword).length+(if ([]:List Keyword).isEmpty then 0 else 1)<30))=true:=by rfl)
  (Y:(p2.endLine==Z.line)=true:=by rfl) (ag:starEach [e] X.env=(false,eval e X.env)::starEach [] X.env:=by rfl) (af:(backTo Z (starEach [] X.env)).any (·.1)=false:=by rfl)
  (hs:swapsWith (.Call (.Attribute (.Name x p1) "append" p2) [e] [] Z) none pos.line X.env=pure false:=by rfl) :
  XS X (.Expr (.Call (.Attribute (.Name x p1) "append" p2) [e] [] Z) pos) (aI3 i F) :=
 PS.wk (O_8 (ab6 Yh PySem.F.slot_list_append PySem.F.type_list_append am1 (n_4 hN hv hd ad) ha O aa Y ag af) hs) λ Dn σ H ac=>by
  obtain⟨c,H0,ρ,r,R,f,q⟩:=ac;obtain⟨ai,h0,f⟩:=a_0 f;obtain⟨⟨d,ah⟩,h1,f⟩:=a_0 f;obtain⟨ds,h2,f⟩:=a_0 f;obtain⟨hl,f'⟩:=ifs f;cases f';obtain⟨a,x1,_,_,ae,y1,_⟩:=R.ow i _ _ (n_5 h0);refine⟨.ref a,x1,.inl ⟨rfl,ae,SqL.of y1⟩,c,H0,ρ,[d],ah,R,by unfold aC aN;rw[h1];rfl,λ vs H1 Hh s1 R1 r1=>?_⟩;obtain⟨v,rfl,rv⟩:=Reps.v1 r1;obtain⟨a',x2,_,_,ws,y2,z2⟩:=R1.ow i _ _ (n_5 h2);rw[x1] at x2;cases x2;refine⟨a,ws,v,rfl,rfl,y2,?_,?_⟩
  ·rw[<- z2.length];exact qt hl (by rw[sizeLine_eq];decide)
  ·exact q σ H1 _ s1 (R1.mutOwn (n_5 h2) x1 ⟨_,a_4,z2.app (Reps.one rv)⟩)
theorem bh7 (i:Nat) {st:Stmt} (h:XS X st G):XS X st (aI1 i G):=PS.wk h λ Dn σ H O=>by
 obtain⟨c,H0,ρ,r,R,f,q⟩:=O;unfold aI1 frz at f;cases z:ρ[i]? with
 |none=>rw[z] at f;exact⟨c,H0,ρ,r,R,f,q⟩
 |some Z =>
  rw[z] at f;cases Z with
  |no=>exact⟨c,H0,ρ,r,R,f,q⟩
  |im d=>exact⟨c,H0,ρ,r,R,f,q⟩
  |ow b o =>
   cases b with
   |true=>exact⟨c,H0,ρ,r,R,f,q⟩
   |false =>
   cases o with
   |dic kds=>exact⟨c,H0,ρ,r,R,f,q⟩
   |lst ds =>
    obtain⟨H0',Y,R'⟩:=R.freeze z;exact⟨c,H0',_,r,R',f,q.mono Y⟩
end
section
theorem bb6  (h:eLR js R T F ρ=some (d,ρ')):∃ xs fr ys,R ρ=some (xs,ρ')/\q_2 ρ' js=some fr/\cGo T F fr xs=some ys/\xs.length<=sizeLine/\d=.lst ys:=by obtain⟨⟨xs,Y⟩,h1,h⟩:=a_0 h;obtain⟨fr,O,h⟩:=a_0 h;obtain⟨ys,q,h⟩:=a_0 h;obtain⟨Z,h⟩:=Fx.ifs h;cases h;exact⟨xs,fr,ys,h1,O,q,Z,rfl⟩
end
end Fx
namespace Fx
open PySem
def atS (z:Str) (i:Int):Option D:=if z.length<=sizeLine then bnd (bnd (dPl z.cps.toList.length i) λ j=>z.cps.toList[j]?) λ c=>some (.str (chS c)) else none
def a_9:D->D->Option D
 |.tup xs,.int i=>atD xs i
 |.lst xs,.int i=>atD xs i
 |.str z,.int i=>atS z i
 |_,_=>none
def e_0:List D->Option D
 |[.lst xs]=>some (.int xs.length)
 |[.tup xs]=>some (.int xs.length)
 |[.str z]=>if z.length<=sizeLine then some (.int z.length) else none
 |_=>none
def Q_7:D->Bool
 |.dct _ _=>false
 |.tup _=>false
 |.lst _=>false
 |_=>true
def inD (x:D) (xs:List D):Bool:=xs.any λ y=>eqD y x
def N_7 (x:D) (xs:List D):Bool:=Q_7 x&&xs.all Q_7
def dIn:D->D->Option D
 |x,.tup xs=>if N_7 x xs=true then some (.bl (inD x xs)) else none
 |x,.lst xs=>if N_7 x xs=true then some (.bl (inD x xs)) else none
 |_,_=>none
def av1:List D->Option D
 |[.int i]=>some (.int i)
 |[.bl b]=>some (.int (if b then 1 else 0))
 |_=>none
def m_3:List D->Option D
 |[.lst xs]=>some (.tup xs)
 |[.tup xs]=>some (.tup xs)
 |_=>none
def at4:List D->Option D
 |[.lst xs]=>some (.lst xs)
 |[.tup xs]=>some (.lst xs)
 |_=>none
@[simp] theorem cb1 (xs:List D) (i:Int):a_9 (.tup xs) (.int i)=atD xs i:=yI rfl
@[simp] theorem cb3 (xs:List D) (i:Int):a_9 (.lst xs) (.int i)=atD xs i:=yI rfl
@[simp] theorem cb2 (z:Str) (i:Int):a_9 (.str z) (.int i)=atS z i:=yI rfl
@[simp] theorem bR4 (xs:List D):e_0 [.lst xs]=some (.int xs.length):=yI rfl
@[simp] theorem bR2 (xs:List D):e_0 [.tup xs]=some (.int xs.length):=yI rfl
@[simp] theorem bR3 (z:Str):e_0 [.str z]=if z.length<=sizeLine then some (.int z.length) else none:=yI rfl
@[simp] theorem cc4 (b:Bool):av1 [.bl b]=some (.int (if b then 1 else 0)):=yI rfl
@[simp] theorem bC2 (xs:List D):m_3 [.lst xs]=some (.tup xs):=yI rfl
@[simp] theorem bR1 (xs:List D):at4 [.tup xs]=some (.lst xs):=yI rfl
end Fx
namespace Fx
open PySem PySem.Spec PyProof.Rows L2
section
variable {K:Frag}
theorem r_7 (H:Hp) (x:Str):Rep K H (.str x) (.str x):=by rfl
theorem ck4:OpD K (rIx K) a_9:=λ c H0 H ρ σ x y d vx vy Q R O Z e q=>by
 cases y with
 |int i =>
  subst Z;cases x with
  |tup ds =>
   obtain⟨p,vs,rfl,s,t⟩:=O;obtain⟨v,e1,e2⟩:=bw3 t e;exact .inr (.inl ⟨p,vs,i,v,rfl,rfl,Same.seqT R.same s,e1,q v H0 H (Same.refl _) R e2⟩)
  |lst ds =>
   obtain⟨p,vs,rfl,s,t⟩:=O;obtain⟨v,e1,e2⟩:=bw3 t e;exact .inl ⟨p,vs,i,v,rfl,rfl,Same.seq R.same s,e1,q v H0 H (Same.refl _) R e2⟩
  |str z =>
   subst O;have e:atS z i=some d:=e;unfold atS at e;by_cases Y:z.length<=sizeLine
   ·rw[if_pos Y] at e;obtain⟨ch,e1,e2⟩:=a_0 e;have e2:=e2;cases e2;exact .inr (.inr ⟨z,i,ch,rfl,rfl,Y,e1,q _ H0 H (Same.refl _) R (r_7 H0 (chS ch))⟩)
   ·rw[if_neg Y] at e;cases e
  |_=>cases e
 |_=>cases x <;> cases e
theorem d_0 (q:XE X a F) (O:XE X b G) (Y:S_4 b:=by intro _ _;rfl):XE X (.Subscript a b pos) (e2 a_9 F G):=PE.wk (bI5 br1 q O Y) λ σ H Q h=>T_2 ck4 h
theorem c_6:BOk X (.builtin "len") e_0:=⟨_,call_len_seq.or M_3,λ c H0 H ρ σ ds d vs Q R r e q=>by
 unfold e_0 at e;split at e
 ·cases e;obtain⟨v,rfl,O⟩:=Reps.v1 r;obtain⟨p,ws,rfl,s,t⟩:=O;exact .inl ⟨p,ws,rfl,.inl (Same.seq R.same s),by rw[<- t.length];exact q _ H0 H (Same.refl _) R (d_3 _ _)⟩
 ·cases e;obtain⟨v,rfl,O⟩:=Reps.v1 r;obtain⟨p,ws,rfl,s,t⟩:=O;exact .inl ⟨p,ws,rfl,.inr (Same.seqT R.same s),by rw[<- t.length];exact q _ H0 H (Same.refl _) R (d_3 _ _)⟩
 ·rename_i z;obtain⟨Y,rfl⟩:=ifs e;obtain⟨v,rfl,O⟩:=Reps.v1 r;subst O;exact .inr ⟨z,rfl,Y,q _ H0 H (Same.refl _) R (d_3 _ _)⟩
 ·cases e⟩
theorem xTy  (o:BOk X (.type T) g) (Y:Gl X x) (hm:X.mg x=none) (hv:bootBuiltins x=some (.type T)) (ha:XA X (e::es) A) (hn:x≠"__name__":=by decide) (O:(x==("__debug__":Str))=false:=by decide)
  (Z:starEach (e::es) X.env=(false,eval e X.env)::starEach es X.env:=by rfl) (q:(backTo pos (starEach es X.env)).any (·.1)=false:=by rfl):XE X (.Call (.Name x p) (e::es) [] pos) (eF g A):=by
 obtain⟨r,h1,h2⟩:=o;exact PE.wk (J_3 h1 Y hm hv ha hn O Z q) λ σ H Q h=>bu1 h2 h
theorem G_7:BOk X (.type "int") av1:=⟨_,as2,λ c H0 H ρ σ ds d vs Q R r e q=>by
 unfold av1 at e;split at e
 ·cases e;obtain⟨v,rfl,O⟩:=Reps.v1 r;subst O;exact .inl ⟨_,rfl,q _ H0 H (Same.refl _) R (d_3 _ _)⟩
 ·cases e;obtain⟨v,rfl,O⟩:=Reps.v1 r;subst O;exact .inr ⟨_,rfl,q _ H0 H (Same.refl _) R (d_3 _ _)⟩
 ·cases e⟩
theorem Z_1:BOk X (.type "list") at4:=⟨_,M_2,λ c H0 H ρ σ ds d vs Q R r e q=>by
 unfold at4 at e;split at e
 ·cases e;obtain⟨v,rfl,O⟩:=Reps.v1 r;obtain⟨p,ws,rfl,s,t⟩:=O;refine⟨p,ws,rfl,.inl (Same.seq R.same s),λ l hl=>?_⟩;have S:=Step.alloc (o:=.lst ws) R.same hl;refine q _ _ _ S.s0 (R.after S) ?_;exact⟨l,_,rfl,.inl (.inl a_4),Reps.mono S.s0 _ t⟩
 ·cases e;obtain⟨v,rfl,O⟩:=Reps.v1 r;obtain⟨p,ws,rfl,s,t⟩:=O;refine⟨p,ws,rfl,.inr (Same.seqT R.same s),λ l hl=>?_⟩;have S:=Step.alloc (o:=.lst ws) R.same hl;refine q _ _ _ S.s0 (R.after S) ?_;exact⟨l,_,rfl,.inl (.inl a_4),Reps.mono S.s0 _ t⟩
 ·cases e⟩
theorem k_5:BOk X (.type "tuple") m_3:=⟨_,G_6,λ c H0 H ρ σ ds d vs Q R r e q=>by
 unfold m_3 at e;split at e
 ·cases e;obtain⟨v,rfl,O⟩:=Reps.v1 r;obtain⟨p,ws,rfl,s,t⟩:=O;refine⟨p,ws,rfl,.inl ⟨Same.seq R.same s,λ l hl=>?_⟩⟩;have S:=Step.alloc (o:=.tup ws) R.same hl;refine q _ _ _ S.s0 (R.after S) ?_;exact⟨l,_,rfl,.inl (.inl a_4),Reps.mono S.s0 _ t⟩
 ·cases e;obtain⟨v,rfl,O⟩:=Reps.v1 r;have Y:=O;obtain⟨p,ws,rfl,s,t⟩:=O;exact⟨p,ws,rfl,.inr ⟨Same.seqT R.same s,q _ H0 H (Same.refl _) R Y⟩⟩
 ·cases e⟩
theorem F_5  (h:Q_7 d=true) (r:Rep K H d v):z_4 v=true/\∀ d' q,Q_7 d'=true->Rep K H d' q->eqV v q=eqD d d':=by
 cases d with
 |tup xs=>cases h
 |lst xs=>cases h
 |dct ks vs=>cases h
 |_ =>
  subst r;refine⟨rfl,λ d' q h' O=>?_⟩;cases d' with
  |tup xs=>cases h'
  |lst xs=>cases h'
  |dct ks vs=>cases h'
  |_ =>
   subst O
   first
    |(simp[eqV];done)
    |(simp[eqV,eqD];done)
    |(simp[eqV,eqD,Zm];done)
    |(unfold eqV;simp)
theorem an9  (q:Q_7 x=true) (r:Rep K H x v):∀ {ds:List D}{vs:List V},ds.all Q_7=true->Reps K H ds vs->vs.all z_4=true/\inV v vs=inD x ds
 |[],vs,_,t=>by
  subst t;exact⟨rfl,rfl⟩
 |d::ds,vs,h,t=>by
  obtain⟨u,us,rfl,Z,O⟩:=t;rw[Yf,zk] at h;obtain⟨i1,i2⟩:=an9 q r h.2 O;obtain⟨f1,Y⟩:=F_5 h.1 Z;refine⟨by rw[Yf,f1,i1];rfl,?_⟩;unfold inV inD at *;rw[Q5,Q5,Y x v q r,i2]
theorem br8  (hf:∀ x y d,f x y=some d->∃ xs,(y=.tup xs\/y=.lst xs)/\N_7 x xs=true/\d=.bl (if O then !inD x xs else inD x xs)):OpD K (rIn K O) f:=λ c H0 H ρ σ x y d vx vy Q R Y Z e q=>by
 obtain⟨xs,hy,ok,rfl⟩:=hf x y d e;unfold N_7 at ok;rw[zk] at ok;rcases hy with rfl | rfl
 ·obtain⟨p,ws,rfl,s,t⟩:=Z;obtain⟨i1,i2⟩:=an9 ok.1 Y ok.2 t;exact⟨p,ws,rfl,.inr (Same.seqT R.same s),(F_5 ok.1 Y).1,i1,by rw[i2];exact q _ H0 H (Same.refl _) R (n_3 _ _)⟩
 ·obtain⟨p,ws,rfl,s,t⟩:=Z;obtain⟨i1,i2⟩:=an9 ok.1 Y ok.2 t;exact⟨p,ws,rfl,.inl (Same.seq R.same s),(F_5 ok.1 Y).1,i1,by rw[i2];exact q _ H0 H (Same.refl _) R (n_3 _ _)⟩
end
end Fx
namespace Fx
open PySem
def j_8 (k:Str):List (Str×D)->Option D
 |[]=>none
 |q::r=>if q.1=k then some q.2 else j_8 k r
def aP7 (k:Str) (d:D):List (Str×D)->List (Str×D)
 |[]=>[]
 |q::r=>(if q.1=k then (q.1,d) else q)::aP7 k d r
def owD:Option Sl->Option (Bool×List (Str×D))
 |some (.ow b (.dic kds))=>some (b,kds)
 |_=>none
def bf2:Sl->Bool
 |.ow _ _=>false
 |_=>true
def bf3 (A:FS) (F:En->Option MO) (ρ:En):Option MO:=bnd (A ρ) λ r=>match r with
 |.nx ρ'=>F ρ'
 |_=>none
def fnN (n k:Nat) (F:En->Option MO) (ds:List D):Option MO:=if ds.length=n then F (ds.map .im++List.replicate k .no) else none
@[simp] theorem ci0 (b:Bool) (o:List (Str×D)):owD (some (.ow b (.dic o)))=some (b,o):=yI rfl
end Fx
namespace Fx
open PySem PySem.Spec PyProof.Rows L2
def q_9 (ks:List Str) (vs:List V):List (Key×V):=(ks.map Sum.inr).zip vs
theorem p_3 (k:Str) (ks:List Str) (v:V) (vs:List V):q_9 (k::ks) (v::vs)=(Sum.inr k,v)::q_9 ks vs:=rfl
section
variable {K:Frag}
theorem S_9 :∀ {kds:List (Str×D)}{vs:List V},Reps K H (kds.map (·.2)) vs->j_8 k kds=some d->∃ v,H_9 (q_9 (kds.map (·.1)) vs) (.inr k)=some v/\Rep K H d v
 |[],_,_,e=>by cases e
 |q::r,vs,t,e=>by
  rw[qz] at t;obtain⟨v,vr,rfl,Z,Y⟩:=t;rw[qz,p_3];unfold j_8 at e;by_cases O:q.1=k
  ·rw[if_pos O] at e;cases e;exact⟨v,u_0 (by rw[O]),Z⟩
  ·rw[if_neg O] at e;obtain⟨u,e1,e2⟩:=S_9 Y e;exact⟨u,by rw[m_4 λ z=>O (Qu z)];exact e1,e2⟩
theorem aK5  (rv:Rep K H d v):∀ {kds:List (Str×D)}{vs:List V},Reps K H (kds.map (·.2)) vs->∃ O,(q_9 (kds.map (·.1)) vs).map (λ Z=>if Z.1=Sum.inr k then (Z.1,v) else Z)=q_9 ((aP7 k d kds).map (·.1)) O/\Reps K H ((aP7 k d kds).map (·.2)) O
 |[],vs,t=>⟨[],rfl,Reps.nil_⟩
 |q::r,vs,t=>by
  rw[qz] at t;obtain⟨u,ur,rfl,t1,t2⟩:=t;obtain⟨O,e1,e2⟩:=aK5 rv t2;unfold aP7;rw[qz,p_3,qz,e1];by_cases Y:q.1=k
  ·refine⟨v::O,?_,?_⟩
   ·rw[if_pos (show (Sum.inr q.1:Key)=Sum.inr k by rw[Y]),if_pos Y];rfl
   ·rw[if_pos Y];exact Reps.cons rv e2
  ·refine⟨u::O,?_,?_⟩
   ·rw[if_neg (show ¬ (Sum.inr q.1:Key)=Sum.inr k from λ z=>Y (Qu z)),if_neg Y];rfl
   ·rw[if_neg Y];exact Reps.cons t1 e2
theorem bm0  (Y:Rep K H d v) (t:Reps K H (kds.map (·.2)) vs) (h:j_8 k kds=some O) :
  ∃ q,I_9 (q_9 (kds.map (·.1)) vs) (.inr k) v=q_9 ((aP7 k d kds).map (·.1)) q/\Reps K H ((aP7 k d kds).map (·.2)) q:=by
 obtain⟨u,e,_⟩:=S_9 t h;obtain⟨q,e1,e2⟩:=aK5 Y t;refine⟨q,?_,e2⟩;unfold I_9;rw[u_1,e,if_pos (show (some u).isSome=true from rfl)];exact e1
end
theorem V_1  (h:owD o=some q):o=some (.ow q.1 (.dic q.2)):=by
 unfold owD at h;split at h
 ·cases h;rfl
 ·cases h
section
theorem bL1  (h:n<100):n<sizeLine:=v_2 (by omega)
theorem av6 {K:Frag}{kds:List (Str×D)} (t:Reps K H (kds.map (·.2)) vs):(q_9 (kds.map (·.1)) vs).length=kds.length:=by have hl:=t.length;rw[qy] at hl;unfold q_9;rw[Yu,qy,qy,<- hl,Nat.min_self]
def spB (K:Frag) (g:MO->List D->Option (D×MO)):Sp:=λ vs H Q _=>∃ q a o O ds d o',vs=.ref a::O/\Same q H/\q a=none/\OwOk K q H a o/\Reps K q ds O/\g o ds=some (d,o') /\
 ∀ v Hi' H',Same q Hi'->Same Hi' H'->(∀ b u,H b=some u->b≠a->H' b=some u)->(∀ b u,Hi' b=some u->q b=some u\/H b=none)->OwOk K Hi' H' a o'->Rep K Hi' d v->Q v H'
structure DefB (P:Program) (w:World) (K:Frag) (mg:Str->Option Value) (base:Heap) (k:Nat) (x:Str) (g:MO->List D->Option (D×MO)):Prop where
 ex:∃ f fd ps,FnOk P w K mg base CX0 k f fd ps (spB K g)/\Binds K fd ps []/\keepIn K (.ref f)=true/\mg x=some (.ref f)
end
def bx0 (K:Frag) (q H:Hp) (o:MO) (a:Addr) (Hi' H':Hp):Prop :=
 Same q Hi'/\Same Hi' H'/\Same H H'/\(∀ b u,Hi' b=some u->q b=some u\/H b=none)/\Hi' a=none/\H a=none/\OwOk K Hi' H' a o
def spN (K:Frag) (g:List D->Option MO):Sp:=λ vs H Q _=>∃ q ds o,Same q H/\Reps K q ds vs/\g ds=some o/\∀ a Hi' H',bx0 K q H o a Hi' H'->Q (.ref a) H'
structure DefN (P:Program) (w:World) (K:Frag) (mg:Str->Option Value) (base:Heap) (k:Nat) (x:Str) (g:List D->Option MO):Prop where
 ex:∃ f fd ps,FnOk P w K mg base CX0 k f fd ps (spN K g)/\Binds K fd ps []/\keepIn K (.ref f)=true/\mg x=some (.ref f)
section
def tN (K:Frag) (F:En->Option MO):TS:=λ Y σ H=>∃ O q H0 ρ o,RS K ⟨O,q,[]⟩ H0 H ρ σ/\F ρ=some o/\∀ a H0' H',bx0 K O q o a H0' H'->Y.rt (.ref a) H'
def XN (X:Cx) (sts:List Stmt) (F:En->Option MO):Prop:=PSs X sts (tN X.K F)
theorem xnC {st:Stmt}{rest:List Stmt} (h1:PS X st (λ Dn σ H=>∃ Hi Y H0 ρ r,RS X.K ⟨Hi,Y,[]⟩ H0 H ρ σ/\B ρ=some r/\Post X.K ⟨Hi,Y,[]⟩ Dn H0 r)) (h2:XN X rest N):XN X (st::rest) (bf3 B N) :=
 PSs.wk (p_9 h1 h2) λ Dn σ H Z=>by
  obtain⟨Hi,Y,H0,ρ,o,R,f,q⟩:=Z;obtain⟨z,h,f⟩:=a_0 f;refine⟨Hi,Y,H0,ρ,z,R,h,?_⟩;cases z with
  |nx O=>exact λ aa H0' H' s R'=>⟨Hi,Y,H0',O,o,R',f,q⟩
  |rt d O=>cases f
  |bk O=>cases f
  |ct O=>cases f
theorem xnS {st:Stmt} (h:XS X st B):PS X st (λ Z σ H=>∃ Y O H0 ρ r,RS X.K ⟨Y,O,[]⟩ H0 H ρ σ/\B ρ=some r/\Post X.K ⟨Y,O,[]⟩ Z H0 r) :=
 PS.wk h λ Z σ H ⟨Y,O,H0,ρ,r,R,f,q⟩=>⟨⟨Y,O,[]⟩,H0,ρ,r,R,f,q⟩
end
theorem bs6 {K:Frag}{st:Stmt} (F:Fun K x qual st f fd) (S:FnScope N ps (a_2 st)) (hn:ps.length=n) (hN:N.length=n+m)
  (hb:∀ (O:Value) (A:Around) (outer:List Env) (s:Shared) (H:Hp) (E:XK),Room k (A.deeper (envOfC qual (a_2 st) s.heap.objs.size f O))->XN (H_5 CX0 P w K mg base N qual (a_2 st) f O A outer s H E).nox (h_3 st) B) :
  FnOk P w K mg base CX0 (k+1) f fd ps (spN K (fnN n m B)):=by
 refine F.ok S (λ vs H Q E h=>?_) (λ O A outer s H vs Q E hr h=>?_)
 ·obtain⟨Y,ds,o,_,r,e,_⟩:=h;unfold fnN at e;split at e
  ·rename_i hl;rw[hn,<- r.length];exact hl
  ·cases e
 ·obtain⟨Y,ds,o,Z,r,e,q⟩:=h;unfold fnN at e;split at e
  ·rename_i hl;exact⟨_,hb O A outer s H E hr,Y,H,Y,_,o,RS.start Z r (by rw[<- r.length];omega),e,q⟩
  ·cases e
end Fx
namespace Fx
open PySem
def aq7:D->Option Int->Option Int->Option D
 |.lst xs,lo,hi=>some (.lst (r_0 xs lo hi))
 |.tup xs,lo,hi=>if ar0 xs.length 0 lo=0/\ar0 xs.length xs.length hi=xs.length then none else some (.tup (r_0 xs lo hi))
 |.str z,lo,hi=>if z.length<=sizeLine then some (.str (Txt.slice z lo hi)) else none
 |_,_,_=>none
def q_4 (F:FE) (lo hi:FO) (ρ:En):Option (D×En):=bnd (F ρ) λ p=>bnd (lo p.2) λ l=>bnd (hi l.2) λ h=>bnd (aq7 p.1 l.1 h.1) λ d=>some (d,h.2)
def inS (x z:Str):Bool:=!(Builtin.Str.occurrences z x 0 z.length 1).isEmpty
def d_8:D->D->Option D
 |x,.tup xs=>if N_7 x xs=true then some (.bl (inD x xs)) else none
 |x,.lst xs=>if N_7 x xs=true then some (.bl (inD x xs)) else none
 |.str x,.str z=>some (.bl (inS x z))
 |_,_=>none
def aq8:D->D->Option D
 |x,.tup xs=>if N_7 x xs=true then some (.bl (!inD x xs)) else none
 |x,.lst xs=>if N_7 x xs=true then some (.bl (!inD x xs)) else none
 |.str x,.str z=>some (.bl (!inS x z))
 |_,_=>none
def bt8 (x:D) (l:Option Int) (o:Option (Option Int×En)):Option (D×En):=bnd o λ h=>bnd (aq7 x l h.1) λ d=>some (d,h.2)
def bt9 (hi:FO) (x:D) (o:Option (Option Int×En)):Option (D×En):=bnd o λ l=>bnd (hi l.2) λ h=>bnd (aq7 x l.1 h.1) λ d=>some (d,h.2)
def bu0 (lo hi:FO) (o:Option (D×En)):Option (D×En):=bnd o λ p=>bnd (lo p.2) λ l=>bnd (hi l.2) λ h=>bnd (aq7 p.1 l.1 h.1) λ d=>some (d,h.2)
@[simp] theorem cl6 (F:FE) (lo hi:FO) (ρ:En):q_4 F lo hi ρ=bu0 lo hi (F ρ):=yI rfl
@[simp] theorem bO3 (lo hi:FO) (x:D) (ρ:En):bu0 lo hi (some (x,ρ))=bt9 hi x (lo ρ):=yI rfl
@[simp] theorem bO2 (hi:FO) (x:D) (l:Option Int) (ρ:En):bt9 hi x (some (l,ρ))=bt8 x l (hi ρ):=yI rfl
@[simp] theorem bO1 (x:D) (l h:Option Int) (ρ:En):bt8 x l (some (h,ρ))=mkP (aq7 x l h) ρ:=yI rfl
@[simp] theorem ca5 (xs:List D) (lo hi:Option Int):aq7 (.lst xs) lo hi=some (.lst (r_0 xs lo hi)):=yI rfl
@[simp] theorem ca4 (z:Str) (lo hi:Option Int):aq7 (.str z) lo hi=if z.length<=sizeLine then some (.str (Txt.slice z lo hi)) else none:=yI rfl
@[simp] theorem i_2 (x:D) (xs:List D):d_8 x (.tup xs)=if N_7 x xs=true then some (.bl (inD x xs)) else none:=by cases x <;> rfl
@[simp] theorem aM6 (x:D) (xs:List D):d_8 x (.lst xs)=if N_7 x xs=true then some (.bl (inD x xs)) else none:=by cases x <;> rfl
@[simp] theorem cb4 (x z:Str):d_8 (.str x) (.str z)=some (.bl (inS x z)):=yI rfl
@[simp] theorem bu9 (x:D) (xs:List D):aq8 x (.tup xs)=if N_7 x xs=true then some (.bl (!inD x xs)) else none:=by cases x <;> rfl
@[simp] theorem bv0 (x:D) (xs:List D):aq8 x (.lst xs)=if N_7 x xs=true then some (.bl (!inD x xs)) else none:=by cases x <;> rfl
end Fx
namespace Fx
open PySem PySem.Spec PyProof.Rows L2
section
variable {K:Frag}
def ch4:V->Option Int->Option Int->Hp->VK->Prop:=λ x lo hi H Q=>∃ z,x=.str z/\z.length<=sizeLine/\Q (.str (Txt.slice z lo hi)) H
theorem bn5  (p:IsPart v o):∃ l:Option (Int×Tok),v=partValue l/\l.map (·.1)=o:=by
 cases p with
 |none=>exact⟨none,rfl,rfl⟩
 |int i t=>exact⟨some (i,t),rfl,rfl⟩
theorem bj7:SlR X ch4:=by intro pins s σ H x v vl vu lo hi sl Q I O hs Y pu h;obtain⟨z,rfl,Z,q⟩:=h;obtain⟨t,rfl⟩:=O;obtain⟨l,rfl,rfl⟩:=bn5 Y;obtain⟨u,rfl,rfl⟩:=bn5 pu;refine⟨"str",_,slot_str_getitem.lookup,Z3 _ _ _,wpAny_getItem_str_slice (st:=none) hs rfl ?_⟩;exact post_val_or_str ⟨zo (Txt.slice_le z _ _) Z,λ t' k=>⟨.str (Txt.slice z (l.map (·.1)) (u.map (·.1))),H,I.tok _,⟨_,rfl⟩,q⟩⟩
theorem A_0 {lo hi:Option Expr} (he:XE X e F) (hl:XO X lo A) (hh:XO X hi B):XE X (.Subscript e (.Slice lo hi none p2) pos) (q_4 F A B):=PE.wk (aA3 ((sl_list.or bj5).or bj7) he hl hh) λ σ H Q Z=>by
 obtain⟨c,H0,ρ,d,ρ',R,f,q⟩:=Z;obtain⟨⟨x,aa⟩,h1,f⟩:=a_0 f;obtain⟨⟨l,ac⟩,h2,f⟩:=a_0 f;obtain⟨⟨u,ad⟩,h3,f⟩:=a_0 f;obtain⟨d',Y,f⟩:=a_0 f;have f':=f;cases f';refine⟨c,H0,ρ,x,aa,R,h1,λ v H1 Hh s1 R1 r1=>?_⟩;refine⟨c,H1,aa,l,ac,R1,h2,λ H2 Hh2 s2 R2=>?_⟩;refine⟨c,H2,ac,u,_,R2,h3,λ H3 Hh3 s3 O=>?_⟩;have r3:=Rep.mono s3 x (Rep.mono s2 x r1);cases x with
 |lst ds =>
  have e:=qi Y;subst e;obtain⟨p,vs,rfl,s,t⟩:=r3;refine .inl (.inl ⟨p,vs,rfl,Same.seq O.same s,λ p' hp=>?_⟩);have S:=Step.alloc (o:=.lst (av0 vs l u)) O.same hp;refine q _ _ _ (s1.trans (s2.trans (s3.trans S.s0))) (O.after S) ?_;exact⟨p',_,rfl,.inl (.inl a_4),Reps.mono S.s0 _ (aM8 t l u)⟩
 |tup ds =>
  have h5:(if ar0 ds.length 0 l=0/\ar0 ds.length ds.length u=ds.length then none else some (D.tup (r_0 ds l u)))=some d:=Y;by_cases hn:ar0 ds.length 0 l=0/\ar0 ds.length ds.length u=ds.length
  ·rw[if_pos hn] at h5;cases h5
  ·rw[if_neg hn] at h5;cases h5;obtain⟨p,vs,rfl,s,t⟩:=r3;refine .inl (.inr ⟨p,vs,rfl,Same.seqT O.same s,?_,λ p' hp=>?_⟩)
   ·rw[<- G_2,<- G_2,<- t.length];exact hn
   have S:=Step.alloc (o:=.tup (av0 vs l u)) O.same hp;refine q _ _ _ (s1.trans (s2.trans (s3.trans S.s0))) (O.after S) ?_;exact⟨p',_,rfl,.inl (.inl a_4),Reps.mono S.s0 _ (aM8 t l u)⟩
 |str z =>
  obtain⟨hz,rfl⟩:=ifs Y;exact .inr ⟨z,r3,hz,q _ H3 Hh3 (s1.trans (s2.trans s3)) O (r_7 H3 _)⟩
 |_=>cases Y
theorem OpR.or  (h:OpR X f r) (h':OpR X f O):OpR X f (λ x y H Q=>r x y H Q\/O x y H Q):=by
 intro pins s σ H x y v u Q I Y Z q;rcases q with q | q
 ·exact h pins s σ H x y v u Q I Y Z q
 ·exact h' pins s σ H x y v u Q I Y Z q
theorem br7:OpD K (rIn K false) dIn:=br8 λ x y d e=>by
 cases y with
 |tup xs=>obtain⟨h,rfl⟩:=ifs e;exact⟨xs,.inl rfl,h,rfl⟩
 |lst xs=>obtain⟨h,rfl⟩:=ifs e;exact⟨xs,.inr rfl,h,rfl⟩
 |_=>cases e
theorem H_6:l_2 X .In d_8:=⟨_,OpR.or ak8 ak7,λ c H0 H ρ σ x y d vx Z Q R O Y e q=>by
 cases y with
 |tup xs=>rw[i_2] at e;exact .inl (br7 c H0 H ρ σ x (.tup xs) d vx Z Q R O Y e q)
 |lst xs=>rw[aM6] at e;exact .inl (br7 c H0 H ρ σ x (.lst xs) d vx Z Q R O Y e q)
 |str b =>
  cases x with
  |str a =>
   have e':=e;cases e';subst O Y;exact .inr ⟨a,b,rfl,rfl,q _ H0 H (Same.refl _) R (n_3 _ _)⟩
  |_=>cases e
 |_=>cases x <;> cases e⟩
end
end Fx
namespace Fx
open PySem
end Fx
namespace Fx
open PySem PySem.Spec PyProof.Rows L2
section
theorem bh6  (h:∃ t,X.mg x=some (.int i t)) (Y:Gl X x:=by rfl) (hd:(x==("__debug__":Str))=false:=by decide):XE X (.Name x pos) (zI i):=by
 obtain⟨t,h⟩:=h;exact PE.wk (O_9 Y h (v:=.int i) ⟨t,rfl⟩ hd) λ σ H Q O=>by
  obtain⟨c,H0,ρ,d,ρ',R,f,q⟩:=O;obtain⟨rfl,rfl⟩:=x_4 f;exact q _ H0 H (Same.refl _) R (d_3 _ _)
theorem bS5  (h:∃ t,X.mg x=some (.str z t)) (Y:Gl X x:=by rfl) (hd:(x==("__debug__":Str))=false:=by decide):XE X (.Name x pos) (eC (.str z)):=by
 obtain⟨t,h⟩:=h;exact PE.wk (O_9 Y h (v:=.str z) ⟨t,rfl⟩ hd) λ σ H Q O=>by
  obtain⟨c,H0,ρ,d,ρ',R,f,q⟩:=O;obtain⟨rfl,rfl⟩:=x_4 f;exact q _ H0 H (Same.refl _) R (r_7 _ _)
end
end Fx
namespace Fx
open PySem
mutual
def beD:D->D->Bool
 |.non,.non=>true
 |.bl a,.bl b=>a==b
 |.int a,.int b=>a==b
 |.str a,.str b=>decide (a=b)
 |.tup a,.tup b=>aF9 a b
 |.lst a,.lst b=>aF9 a b
 |.dct k a,.dct l b=>decide (k=l)&&aF9 a b
 |_,_=>false
def aF9:List D->List D->Bool
 |[],[]=>true
 |a::r,b::t=>beD a b&&aF9 r t
 |_,_=>false
end
mutual
theorem as9:∀ a b:D,beD a b=true->a=b
 |.non,b,h=>by cases b <;> first | rfl | cases h
 |.bl a,b,h=>by cases b <;> first | cases h;done | (rw[beD] at h;rw[beq_iff_eq.mp h])
 |.int a,b,h=>by cases b <;> first | cases h;done | (rw[beD] at h;rw[beq_iff_eq.mp h])
 |.str a,b,h=>by cases b <;> first | cases h;done | (rw[beD] at h;rw[Qr h])
 |.tup a,b,h=>by cases b <;> first | cases h;done | (rw[beD] at h;rw[y_2 _ _ h])
 |.lst a,b,h=>by cases b <;> first | cases h;done | (rw[beD] at h;rw[y_2 _ _ h])
 |.dct k a,b,h=>by
  cases b <;> first | cases h;done | skip
  rw[beD,zk] at h;rw[Qr h.1,y_2 _ _ h.2]
theorem y_2:∀ a b:List D,aF9 a b=true->a=b
 |[],b,h=>by cases b <;> first | rfl | cases h
 |x::r,b,h=>by
  cases b with
  |nil=>cases h
  |cons y t =>
   rw[aF9,zk] at h;rw[as9 _ _ h.1,y_2 _ _ h.2]
end
mutual
theorem as8:∀ a:D,beD a a=true
 |.non=>rfl
 |.bl a=>by rw[beD];exact Zo a
 |.int a=>by rw[beD];exact Zo a
 |.str a=>by rw[beD];exact yc rfl
 |.tup a=>by rw[beD];exact y_1 a
 |.lst a=>by rw[beD];exact y_1 a
 |.dct k a=>by rw[beD,y_1 a,Bool.and_true];exact yc rfl
theorem y_1:∀ a:List D,aF9 a a=true
 |[]=>rfl
 |x::r=>by rw[aF9,as8 x,y_1 r];rfl
end
def beK:List (Str×D)->List (Str×D)->Bool
 |[],[]=>true
 |(k,a)::r,(l,b)::t=>decide (k=l)&&(beD a b&&beK r t)
 |_,_=>false
theorem aN3:∀ a b:List (Str×D),beK a b=true->a=b
 |[],[],_=>rfl
 |[],_::_,h=>nomatch h
 |_::_,[],h=>nomatch h
 |(k,a)::r,(l,b)::t,h=>by
  rw[beK,zk,zk] at h;rw[Qr h.1,as9 _ _ h.2.1,aN3 _ _ h.2.2]
theorem aN2:∀ a:List (Str×D),beK a a=true
 |[]=>rfl
 |(k,a)::r=>by rw[beK,as8,aN2 r,yc rfl];rfl
def beS:Sl->Sl->Bool
 |.no,.no=>true
 |.im a,.im b=>beD a b
 |.ow c (.lst a),.ow d (.lst b)=>c==d&&aF9 a b
 |.ow c (.dic a),.ow d (.dic b)=>c==d&&beK a b
 |_,_=>false
theorem bv7:∀ a b:Sl,beS a b=true->a=b
 |.no,.no,_=>rfl
 |.im a,.im b,h=>by rw[beS] at h;rw[as9 _ _ h]
 |.ow c (.lst a),.ow d (.lst b),h=>by rw[beS,zk] at h;rw[beq_iff_eq.mp h.1,y_2 _ _ h.2]
 |.ow c (.dic a),.ow d (.dic b),h=>by rw[beS,zk] at h;rw[beq_iff_eq.mp h.1,aN3 _ _ h.2]
 |.no,.im _,h=>nomatch h
 |.no,.ow _ _,h=>nomatch h
 |.im _,.no,h=>nomatch h
 |.im _,.ow _ _,h=>nomatch h
 |.ow _ (.lst _),.no,h=>by cases h
 |.ow _ (.dic _),.no,h=>by cases h
 |.ow _ (.lst _),.im _,h=>by cases h
 |.ow _ (.dic _),.im _,h=>by cases h
 |.ow _ (.lst _),.ow _ (.dic _),h=>by cases h
 |.ow _ (.dic _),.ow _ (.lst _),h=>by cases h
theorem bv6:∀ a:Sl,beS a a=true
 |.no=>rfl
 |.im a=>as8 a
 |.ow c (.lst a)=>by rw[beS,y_1,Zo];rfl
 |.ow c (.dic a)=>by rw[beS,aN2,Zo];rfl
def beE:En->En->Bool
 |[],[]=>true
 |a::r,b::t=>beS a b&&beE r t
 |_,_=>false
theorem aN5:∀ a b:En,beE a b=true->a=b
 |[],[],_=>rfl
 |[],_::_,h=>nomatch h
 |_::_,[],h=>nomatch h
 |a::r,b::t,h=>by rw[beE,zk] at h;rw[bv7 _ _ h.1,aN5 _ _ h.2]
theorem aN4:∀ a:En,beE a a=true
 |[]=>rfl
 |a::r=>by rw[beE,bv6,aN4 r];rfl
def bP4 (a b:En):Decidable (a=b):=if h:beE a b=true then .isTrue (aN5 a b h) else .isFalse λ e=>h (e▸aN4 a)
def aw6:List D->Option (List Str)
 |[]=>some []
 |.str x::r=>bnd (aw6 r) λ t=>some (x::t)
 |_=>none
theorem v_1 (x:Str) (r:List D):aw6 (.str x::r)=bnd (aw6 r) λ t=>some (x::t):=rfl
def bz7:D->Option (List D)
 |.lst xs=>some xs
 |_=>none
def bT5:D->Option Str
 |.str x=>some x
 |_=>none
def K_8 (q:Str) (xs:List D):Option D:=bnd (aw6 xs) λ ss=>if (ss.map (·.length)).sum+ss.length*q.length<=1000000 then some (.str (Str.join q ss)) else none
def t_9 (q:Str) (F:FE) (ρ:En):Option (D×En):=bnd (F ρ) λ p=>bnd (bz7 p.1) λ xs=>bnd (K_8 q xs) λ d=>some (d,p.2)
@[simp] theorem bV7 (xs:List D):bz7 (.lst xs)=some xs:=yI rfl
def ap8 (q:Str) (ρ:En) (o:Option (List D)):Option (D×En):=bnd o λ xs=>bnd (K_8 q xs) λ d=>some (d,ρ)
def aM2 (q:Str) (o:Option (D×En)):Option (D×En):=bnd o λ p=>ap8 q p.2 (bz7 p.1)
@[simp] theorem bZ3 (q:Str) (F:FE) (ρ:En):t_9 q F ρ=aM2 q (F ρ):=yI rfl
@[simp] theorem bB5 (q:Str) (x:D) (ρ:En):aM2 q (some (x,ρ))=ap8 q ρ (bz7 x):=yI rfl
@[simp] theorem bB4 (q:Str) (ρ:En) (xs:List D):ap8 q ρ (some xs)=mkP (K_8 q xs) ρ:=yI rfl
def bg7 (q:List Str) (x:Str):List Str:=if x∈q then q else q++[x]
def j_1 (q:List Str) (xs:List Str):List Str:=xs.foldl bg7 q
def kS:D->Option Str
 |.str k=>some k
 |_=>none
@[simp] theorem cp7 (k:Str):kS (.str k)=some k:=yI rfl
def at9 (k:Str) (d:D) (kds:List (Str×D)):List (Str×D):=if (j_8 k kds).isSome=true then aP7 k d kds else kds++[(k,d)]
def sDN (i:Nat) (ρ:En):Option Res:=some (.nx (ρ.set i (.ow false (.dic []))))
@[simp] theorem cp1 (i:Nat) (ρ:En):sDN i ρ=some (.nx (ρ.set i (.ow false (.dic [])))):=yI rfl
def by3 (i:Nat) (d:D) (ρ:En) (k:Str) (o:Option (Bool×List (Str×D))):Option Res:=bnd o λ q=>if q.2.length<100 then some (.nx (ρ.set i (.ow q.1 (.dic (at9 k d q.2))))) else none
def by4 (i:Nat) (d:D) (ρ:En) (o:Option Str):Option Res:=bnd o λ k=>by3 i d ρ k (owD ρ[i]?)
def by5 (i:Nat) (d:D) (o:Option (D×En)):Option Res:=bnd o λ p=>by4 i d p.2 (kS p.1)
def by6 (i:Nat) (G:FE) (d:D) (ρ:En) (o:Option (Bool×List (Str×D))):Option Res:=bnd o λ _=>by5 i d (G ρ)
def by7 (i:Nat) (G:FE) (o:Option (D×En)):Option Res:=bnd o λ p=>by6 i G p.1 p.2 (owD p.2[i]?)
def sDK (i:Nat) (G F:FE) (ρ:En):Option Res:=by7 i G (F ρ)
@[simp] theorem cp2 (i:Nat) (G F:FE) (ρ:En):sDK i G F ρ=by7 i G (F ρ):=yI rfl
@[simp] theorem bU5 (i:Nat) (G:FE) (d:D) (ρ:En):by7 i G (some (d,ρ))=by6 i G d ρ (owD ρ[i]?):=yI rfl
@[simp] theorem bU4 (i:Nat) (G:FE) (d:D) (ρ:En) (q:Bool×List (Str×D)):by6 i G d ρ (some q)=by5 i d (G ρ):=yI rfl
@[simp] theorem bU3 (i:Nat) (d x:D) (ρ:En):by5 i d (some (x,ρ))=by4 i d ρ (kS x):=yI rfl
@[simp] theorem bU2 (i:Nat) (d:D) (ρ:En) (k:Str):by4 i d ρ (some k)=by3 i d ρ k (owD ρ[i]?):=yI rfl
@[simp] theorem bU1 (i:Nat) (d:D) (ρ:En) (k:Str) (b:Bool) (kds:List (Str×D)):by3 i d ρ k (some (b,kds))=if kds.length<100 then some (.nx (ρ.set i (.ow b (.dic (at9 k d kds))))) else none:=yI rfl
mutual
def nd:D->Bool
 |.dct _ _=>false
 |.tup xs=>nds xs
 |.lst xs=>nds xs
 |_=>true
def nds:List D->Bool
 |[]=>true
 |d::r=>nd d&&nds r
end
def ndS:Sl->Bool
 |.ow _ (.lst ds)=>nds ds
 |.ow _ (.dic kds)=>nds (kds.map (·.2))
 |_=>true
def hld (kds:List (Str×D)):Sl:=.im (.dct (kds.map (·.1)) (kds.map (·.2)))
def dDx:D->D->Option D
 |.dct ks ds,.str k=>j_8 k (ks.zip ds)
 |_,_=>none
@[simp] theorem bQ0 (ks:List Str) (ds:List D) (k:Str):dDx (.dct ks ds) (.str k)=j_8 k (ks.zip ds):=yI rfl
def A_1 (ρ q:En) (o:Option (Bool×En)):Option (Bool×En):=bnd o λ p=>@ite _ (p.2=q) (bP4 _ _) (some (p.1,ρ)) none
def T_6 (i:Nat) (T:FT) (ρ:En) (o:Option (Bool×List (Str×D))):Option (Bool×En):=bnd o λ q=>if q.1=false/\ρ.all ndS=true then A_1 ρ (ρ.set i (hld q.2)) (T (ρ.set i (hld q.2))) else none
def tHold (i:Nat) (T:FT) (ρ:En):Option (Bool×En):=T_6 i T ρ (owD ρ[i]?)
@[simp] theorem bi7 (i:Nat) (T:FT) (ρ:En):tHold i T ρ=T_6 i T ρ (owD ρ[i]?):=yI rfl
@[simp] theorem aw9 (i:Nat) (T:FT) (ρ:En) (b:Bool) (kds:List (Str×D)):T_6 i T ρ (some (b,kds))=if b=false/\ρ.all ndS=true then A_1 ρ (ρ.set i (hld kds)) (T (ρ.set i (hld kds))) else none:=yI rfl
theorem aw8 (ρ q:En) (b:Bool):A_1 ρ q (some (b,q))=some (b,ρ):=by exact if_pos rfl
def sNo:FS:=λ _=>none
end Fx
namespace Fx
open PySem PySem.Spec PyProof.Rows L2
section
variable {K:Frag}
theorem aG9 :∀ {kds:List (Str×D)}{vs:List V},Reps K H (kds.map (·.2)) vs->j_8 k kds=none->H_9 (q_9 (kds.map (·.1)) vs) (.inr k)=none
 |[],_,_,_=>rfl
 |q::r,vs,t,e=>by
  rw[qz] at t;obtain⟨v,Z,rfl,_,Y⟩:=t;rw[qz,p_3];unfold j_8 at e;by_cases O:q.1=k
  ·rw[if_pos O] at e;cases e
  ·rw[if_neg O] at e;rw[m_4 λ z=>O (Qu z)];exact aG9 Y e
theorem av7  (h:ks.length=vs.length):q_9 ks vs++[(Sum.inr k,v)]=q_9 (ks++[k]) (vs++[v]):=by unfold q_9;rw[yf,List.zip_append (by rw[qy];exact h)];rfl
theorem aR9  (Y:Rep K H d v) (t:Reps K H (kds.map (·.2)) vs) :
  ∃ O,I_9 (q_9 (kds.map (·.1)) vs) (.inr k) v=q_9 ((at9 k d kds).map (·.1)) O/\Reps K H ((at9 k d kds).map (·.2)) O:=by
 unfold at9;cases q:j_8 k kds with
 |some Z=>rw[if_pos (show (some Z).isSome=true from rfl)];exact bm0 Y t q
 |none =>
  rw[if_neg (by simp)];have hl:=t.length;rw[qy] at hl;refine⟨vs++[v],?_,?_⟩
  ·rw[az7 v (aG9 t q),av7 (by rw[qy];exact hl),yf];rfl
  ·rw[yf];exact t.app (Reps.one Y)
end
section
theorem xdn (i:Nat)  (hN:X.N.Nodup) (hi:X.N[i]?=some x:=by rfl) (hx:Loc X.env.scope x:=by first | exact Or.inl rfl | exact Or.inr rfl) (hs:swapsWith (.Dict [] [] p2) (some (.Name x p)) pos.line X.env=pure false:=by rfl)
  (Z:X.fn x=true\/X.env.scope.names.lookup x=some .local:=by first | exact .inl rfl | exact .inr rfl):XS X (.Assign [.Name x p] (.Dict [] [] p2) pos) (sDN i) :=
 PS.wk (A_6 hN hi hx aA6 hs Z) λ Dn σ H O=>by
  obtain⟨c,H0,ρ,r,R,f,q⟩:=O;have Y:=f;cases Y;exact λ a ha=>q _ H0 _ (Same.refl _) (R.setOwn i ha ⟨[],[],by rw[a_4];rfl,rfl,Reps.nil_⟩)
theorem xdk (i:Nat)  (hu:X.A.units+1<cLine) (hk:XE X k G) (he:XE X e F) (hN:X.N[i]?=some x:=by rfl) (hv:Vis X.env.scope x:=by first | exact Or.inl rfl | exact Or.inr (Or.inl rfl) | exact Or.inr (Or.inr rfl)) (hd:(x==("__debug__":Str))=false:=by decide)
  (ac:(x==("__classdict__":Str))=false:=by decide) (hs:swapsWith e (some (.Subscript (.Name x p) k p3)) pos.line X.env=pure false:=by rfl):XS X (.Assign [.Subscript (.Name x p) k p3] e pos) (sDK i G F) :=
 PS.wk (aS6 hu (n_4 hN hv hd ac) hk he hs) λ Dn σ H O=>by
  obtain⟨c,H0,ρ,r,R,f,q⟩:=O;obtain⟨⟨d,Y⟩,h1,f⟩:=a_0 f;obtain⟨⟨b0,ae⟩,h2,f⟩:=a_0 f;obtain⟨⟨x2,ad⟩,h3,f⟩:=a_0 f;obtain⟨k2,h4,f⟩:=a_0 f;obtain⟨⟨b,kds⟩,h5,f⟩:=a_0 f;obtain⟨h6,rfl⟩:=ifs f;have Z:x2=.str k2:=by
   cases x2 with
   |str z=>cases h4;rfl
   |_=>cases h4
  subst Z;refine⟨c,H0,ρ,d,Y,R,h1,λ v H1 Hh s1 R1 r1=>?_⟩;obtain⟨a,e1,_⟩:=R1.ow i b0 _ (V_1 h2);refine⟨_,e1,c,H1,Y,_,ad,R1,h3,λ y H2 Hh2 s2 R2 r2=>?_⟩;subst r2;have z:=V_1 h5;obtain⟨a2,e2,_,_,ks,vs,e4,rfl,t⟩:=R2.ow i b _ z;rw[e1] at e2;cases e2;obtain⟨aa,w1,w2⟩:=aR9 (Rep.mono s2 d r1) t;refine⟨a,_,rfl,DPut.k (k:=.inr k2) e4 (by have:=av6 t;unfold q_9 at this;rw[this];exact bL1 h6),?_⟩;exact q σ H2 _ (s1.trans s2) (R2.mutOwn z e1 ⟨_,aa,by rw[a_4];exact jm (λ y=>some (HO.dK y)) w1,rfl,w2⟩)
end
section
variable {X:Cx}{pins:List (Addr×Obj)}{σ:L2.St}{H:Hp}{s:Shared}{a:Addr}{kvs:List (Key×V)}
theorem br3 (I:Inv X pins σ H s) (e:H a=some (.dK kvs)):∃ ob,Inv X pins σ (upd H a (.frz ob (.dK kvs))) s:=by obtain⟨z,n,vs,O,o,es,ep,Y,r⟩:=(show ObjOk X.prog X.w H s.heap a (.dK kvs) from I.hok a _ e);exact⟨o,I.write (by rw[e];trivial) (.inl rfl) (λ _ _ _ q=>q) ⟨o,Y⟩ ⟨Y,z,n,vs,O,o,es,ep,Y,r⟩⟩
def cc6 (X:Cx) (a:Addr):Prop:=(∀ xs,X.H₀ a≠some (.tup xs))/\(∀ o u,X.H₀ a≠some (.frz o u))/\∀ ps,X.H₀ a≠some (.tbl ps)
theorem aC7 (I:Inv X pins σ H s) (e:H a=some (.dK kvs)):cc6 X a:=by
 refine⟨λ xs z=>?_,λ o u z=>?_,λ ps z=>?_⟩
 ·have q:=I.base.tups a xs z;rw[e] at q;cases q
 ·have q:=I.base.frzs a o u z;rw[e] at q;cases q
 ·obtain⟨m,q⟩:=I.base.tbls a ps z;rw[e] at q;cases q
theorem aC6  (I:Inv X pins σ H s) (e:H a=some (.frz ob (.dK kvs))) (O:cc6 X a):Inv X pins σ (upd H a (.dK kvs)) s:=by
 have ne:∀ {b:Addr},H b=none->b≠a:=λ z h=>by rw[h,e] at z;cases z
 have un:=I.base;refine⟨I.ok,I.os,I.bare,⟨un.keep,un.slot,λ b o q n hx=>?_,un.there,λ b xs q=>?_,λ b o u q=>?_,λ b ps q=>?_⟩,I.loc,I.cell,?_,λ x c q=>?_,λ p Z=>?_,λ b u q=>?_,I.len⟩
 ·have z:=un.free b o q n hx;rw[a_8 (ne z)];exact z
 ·rw[a_8 λ h=>O.1 xs (by rw[<- h];exact q)];exact un.tups b xs q
 ·rw[a_8 λ h=>O.2.1 o u (by rw[<- h];exact q)];exact un.frzs b o u q
 ·rw[a_8 λ h=>O.2.2 ps (by rw[<- h];exact q)];exact un.tbls b ps q
 ·rw[a_8 (ne I.free)];exact I.free
 ·have z:=I.freeC x c q;rw[a_8 (ne z)];exact z
 ·obtain⟨h1,h2,h3⟩:=I.pin p Z;exact⟨h1,by rw[a_8 (ne h2)];exact h2,h3⟩
 ·by_cases Y:b=a
  ·subst Y;rw[a_4] at q;cases q;obtain⟨_,w⟩:=(show ObjOk X.prog X.w H s.heap b (.frz ob (.dK kvs)) from I.hok b _ e);exact w
  ·rw[a_8 Y] at q;refine (I.hok b u q).stay (λ _ _ _ r=>r) (λ c r=>?_) λ c xs r=>?_
   ·rw[a_8 λ h=>by rw[h,e] at r;cases r];exact r
   ·rw[a_8 λ h=>by rw[h,e] at r;cases r];exact r
end
section
def cd7 (i:Nat) (t:TT):TT:=λ σ H Q=>∃ a kvs,σ[i]?=some (some (.ref a))/\H a=some (.dK kvs)/\∀ ob,t σ (upd H a (.frz ob (.dK kvs))) λ v H2=>H2 a=some (.frz ob (.dK kvs))/\Q v (upd H2 a (.dK kvs))
theorem bI1 (i:Nat) {t:TT} (h:PT X e t):PT X e (cd7 i t):=λ pins s σ H Q I O=>by
 obtain⟨a,kvs,_,Y,q⟩:=O;obtain⟨ob,I1⟩:=br3 I Y;exact thn (h pins s σ _ _ I1 (q ob)) λ u s2 ⟨H2,Z,e2,q2⟩=>⟨_,aC6 Z e2 (aC7 I Y),q2⟩
end
def less (H:Hp) (a:Addr):Hp:=λ b=>if b=a then none else H b
theorem am6 :less H a a=none:=if_pos rfl
theorem w_5  (h:b≠a):less H a b=H b:=if_neg h
theorem Q_0  (h:less H a b=some u):b≠a/\H b=some u:=by
 by_cases e:b=a
 ·rw[e,am6] at h;cases h
 ·exact⟨e,by rw[w_5 e] at h;exact h⟩
section
variable {K:Frag}{H:Hp}{a:Addr}{ob:Obj}{kvs:List (Key×V)}
theorem Rd.less  (q:H a=some (.frz ob (.dK kvs))) (h:Rd H b u) (n:∀ kvs,u≠.dK kvs) (O:∀ o v,u≠.frz o v):Rd (less H a) b u:=by
 have ne:b≠a:=λ e=>by
  rw[e] at h;rcases h with h | ⟨o,h⟩
  ·rw[q] at h;exact O _ _ (qi h).symm
  ·rw[q] at h;cases h;exact n kvs rfl
 rcases h with h | ⟨o,h⟩
 ·exact .inl (by rw[w_5 ne];exact h)
 ·exact .inr ⟨o,by rw[w_5 ne];exact h⟩
mutual
theorem Rep.less (q:H a=some (.frz ob (.dK kvs))):∀ (d:D) {v:V},nd d=true->Rep K H d v->Rep K (less H a) d v
 |.non,_,_,h=>by unfold Rep at h ⊢;exact h
 |.bl _,_,_,h=>by unfold Rep at h ⊢;exact h
 |.int _,_,_,h=>by unfold Rep at h ⊢;exact h
 |.str _,_,_,h=>by unfold Rep at h ⊢;exact h
 |.tup ds,_,n,h=>by
  unfold Rep at h ⊢;obtain⟨b,vs,e,s,r⟩:=h;refine⟨b,vs,e,?_,Reps.less q ds n r⟩;rcases s with s | s
  ·exact .inl (Rd.less q s (λ _ z=>nomatch z) λ _ _ z=>nomatch z)
  ·exact .inr s
 |.lst ds,_,n,h=>by
  unfold Rep at h ⊢;obtain⟨b,vs,e,s,r⟩:=h;refine⟨b,vs,e,?_,Reps.less q ds n r⟩;rcases s with s | s
  ·exact .inl (Rd.less q s (λ _ z=>nomatch z) λ _ _ z=>nomatch z)
  ·exact .inr s
 |.dct _ _,_,n,_=>by cases n
theorem Reps.less (q:H a=some (.frz ob (.dK kvs))):∀ (ds:List D) {vs:List V},nds ds=true->Reps K H ds vs->Reps K (less H a) ds vs
 |[],_,_,h=>by unfold Reps at h ⊢;exact h
 |d::r,_,n,h=>by
  unfold nds at n;rw[zk] at n;unfold Reps at h ⊢;obtain⟨v,O,e,h1,h2⟩:=h;exact⟨v,O,e,Rep.less q d n.1 h1,Reps.less q r n.2 h2⟩
end
end
section
variable {K:Frag}{c:FC}{H0 H:Hp}{ρ:En}{σ:L2.St}{i:Nat}{kds:List (Str×D)}
theorem RS.asData (R:RS K c H0 H ρ σ) (hi:ρ[i]?=some (.ow false (.dic kds))) :
  ∃ a vs,σ[i]?=some (some (.ref a))/\H0 a=none/\c.He a=none/\H a=some (.dK (q_9 (kds.map (·.1)) vs))/\Reps K H0 (kds.map (·.2)) vs/\∀ ob,Same H0 (upd H0 a (.frz ob (.dK (q_9 (kds.map (·.1)) vs))))/\RS K c (upd H0 a (.frz ob (.dK (q_9 (kds.map (·.1)) vs)))) (upd H a (.frz ob (.dK (q_9 (kds.map (·.1)) vs)))) (ρ.set i (hld kds)) σ:=by
 obtain⟨a,x,y,z,ks,vs,e,rfl,r⟩:=R.ow i _ _ hi;have he:=z;have il:=(List.getElem?_eq_some_iff.mp hi).1;refine⟨a,vs,x,y,he,e,r,λ ob=>?_⟩;have s0:Same H0 (upd H0 a (.frz ob (.dK (q_9 (kds.map (·.1)) vs)))):=λ b u q=>by rw[a_8 (b_3 q y)];exact q
 have O:∀ {j:Nat}{sl:Sl},j≠i->(ρ.set i (hld kds))[j]?=some sl->ρ[j]?=some sl:=λ Y q=>by rwa [zt (yk Y)] at q
 have on:∀ {sl:Sl},(ρ.set i (hld kds))[i]?=some sl->sl=hld kds:=λ q=>by rw[zv il] at q;exact (qi q).symm
 refine⟨s0,λ b u q=>?_,R.init.trans s0,λ b u q=>?_,λ b u q m=>?_,λ b m=>?_,by rw[jb];exact R.len,λ j d q=>?_,λ j b o q=>?_,λ j k b1 b2 o1 o2 b q1 Z q3 q4=>?_⟩
 ·by_cases h:b=a
  ·subst h;rw[a_4] at q ⊢;exact q
  ·rw[a_8 h] at q ⊢;exact R.same b u q
 ·by_cases h:b=a
  ·subst h;exact .inr he
  ·rw[a_8 h] at q;exact R.fresh b u q
 ·rw[a_8 (b_3 q he)];exact R.keep b u q m
 ·by_cases h:b=a
  ·subst h;rw[a_4];exact Z1 _
  ·rw[a_8 h];exact R.apt b m
 ·by_cases Y:j=i
  ·subst Y;have Z:=on q;cases Z;refine⟨.ref a,x,?_⟩;exact⟨a,ob,vs,rfl,a_4,Reps.mono s0 _ r,by rw[qy,qy]⟩
  ·obtain⟨v,a1,a2⟩:=R.im j d (O Y q);exact⟨v,a1,Rep.mono s0 _ a2⟩
 ·by_cases Y:j=i
  ·subst Y;have Z:=on q;cases Z
  ·have q':=O Y q;obtain⟨b',x1,y1,z1,w1⟩:=R.ow j b o q';have nb:b'≠a:=λ h=>Y (R.ne j i b false o _ b' q' hi x1 (by rw[h];exact x));exact⟨b',x1,by rw[a_8 nb];exact y1,z1,w1.step s0 λ u q=>by rw[a_8 nb];exact q⟩
 ·have n1:j≠i:=λ h=>by subst h;have q5:=on q1;cases q5
  have n2:k≠i:=λ h=>by subst h;have q5:=on Z;cases q5
  exact R.ne j k b1 b2 o1 o2 b (O n1 q1) (O n2 Z) q3 q4
theorem RS.back  (R:RS K c H0 H ρ σ) (hi:ρ[i]?=some (.ow false (.dic kds))) (x:σ[i]?=some (some (.ref a))) (y:H0 a=none) (he:c.He a=none) (r:Reps K H0 (kds.map (·.2)) vs)
  (sm:Same (upd H0 a (.frz ob (.dK (q_9 (kds.map (·.1)) vs)))) H0') (Y:RS K c H0' H' (ρ.set i (hld kds)) σ) (hn:ρ.all ndS=true):Same H0 (less H0' a)/\H' a=some (.frz ob (.dK (q_9 (kds.map (·.1)) vs)))/\RS K c (less H0' a) (upd H' a (.dK (q_9 (kds.map (·.1)) vs))) ρ σ:=by
 have ha:=sm a _ a_4;have s0:Same H0 (less H0' a):=λ b u q=>by
  have Z:b≠a:=λ h=>by rw[h,y] at q;cases q
  rw[w_5 Z];exact sm b u (by rw[a_8 Z];exact q)
 have ac:∀ {j:Nat}{sl:Sl},j≠i->ρ[j]?=some sl->(ρ.set i (hld kds))[j]?=some sl:=λ hj q=>by rw[zt (yk hj)];exact q
 have O:OwOk K (less H0' a) (upd H' a (.dK (q_9 (kds.map (·.1)) vs))) a (.dic kds):=⟨_,vs,a_4,rfl,Reps.mono s0 _ r⟩;have aa:∀ {b:Bool}{o:MO},ρ[i]?=some (.ow b o)->b=false/\o=.dic kds:=λ q=>by rw[hi] at q;cases q;exact⟨rfl,rfl⟩
 refine⟨s0,Y.same a _ ha,λ b u q=>by rw[a_8 (Q_0 q).1];exact Y.same b u (Q_0 q).2,λ b u q=>?_,λ b u q=>Y.fresh b u (Q_0 q).2,λ b u q m=>?_,λ b m=>?_,R.len,λ j d q=>?_,λ j b o q=>?_,R.ne⟩
 ·exact s0 b u (R.init b u q)
 ·rw[a_8 (b_3 q he)];exact Y.keep b u q m
 ·by_cases h:b=a
  ·subst h;rw[a_4];exact Z1 _
  ·rw[a_8 h];exact Y.apt b m
 ·obtain⟨v,a1,a2⟩:=R.im j d q;exact⟨v,a1,Rep.mono s0 _ a2⟩
 ·by_cases hj:j=i
  ·subst hj;obtain⟨rfl,rfl⟩:=aa q;exact⟨a,x,am6,he,O⟩
  ·obtain⟨b',x1,y1,z1,w1⟩:=Y.ow j b o (ac hj q);have Z:b'≠a:=λ h=>by rw[h,ha] at y1;cases y1
   refine⟨b',x1,by rw[w_5 Z];exact y1,z1,?_⟩;have hq:=List.all_eq_true.mp hn _ (Qw q);cases o with
   |lst ds=>obtain⟨ws,w2,w3⟩:=w1;exact⟨ws,by rw[a_8 Z];exact w2,Reps.less ha ds hq w3⟩
   |dic ae=>obtain⟨ad,ws,w2,w3,w4⟩:=w1;exact⟨ad,ws,by rw[a_8 Z];exact w2,w3,Reps.less ha _ hq w4⟩
end
section
theorem xdx  (hu:X.A.units+1<cLine) (ho:XE X o F) (hk:XE X k G) (hs:bC4 k:=by exact λ _ _=>rfl):XE X (.Subscript o k pos) (e2 dDx F G) :=
 PE.wk (aT0 hu ho hk hs) λ σ H Q Z=>by
  obtain⟨c,H0,ρ,d,ρ',R,f,q⟩:=Z;obtain⟨x,Y,y,h1,h2,h3⟩:=s_7 f;unfold dDx at h3;split at h3
  ·rename_i ks ds k;refine⟨c,H0,ρ,_,Y,R,h1,λ v1 H1 Hh s1 R1 r1=>⟨c,H1,Y,_,ρ',R1,h2,λ v2 H2 Hh2 s2 R2 r2=>?_⟩⟩;have O:=Rep.mono s2 _ r1;obtain⟨a,o,ws,rfl,aa,t,l⟩:=O;have rd:Rd H2 a (.dK ((ks.map Sum.inr).zip ws)):=.inr ⟨o,aa⟩;subst r2;have f1:(ks.zip ds).map (·.1)=ks:=Ji (by omega);have f2:(ks.zip ds).map (·.2)=ds:=Jg (by omega);obtain⟨v,w1,w2⟩:=S_9 (by rw[f2];exact t) h3;rw[f1] at w1;exact⟨a,v,rfl,.inl ⟨_,.inr k,Same.rd R2.same rd,rfl,w1.symm⟩,q v H2 Hh2 (s1.trans s2) R2 w2⟩
  ·cases h3
end
section
theorem aG7 (i:Nat) (he:XT X e T):XT X e (tHold i T):=PT.wk (bI1 i he) λ σ H Q O=>by
 obtain⟨c,H0,ρ,d,ρ',R,f,q⟩:=O;obtain⟨⟨b,kds⟩,h1,f⟩:=a_0 f;have Y:=f;by_cases hc:b=false/\ρ.all ndS=true
 ·rw[if_pos hc] at Y;obtain⟨rfl,hn⟩:=hc;obtain⟨⟨d1,Z⟩,h2,f2⟩:=a_0 Y;by_cases hd:Z=ρ.set i (hld kds)
  ·have f4:some (d1,ρ)=some (d,ρ'):=(if_pos hd).symm.trans f2;cases f4;subst hd;have z:=V_1 h1;obtain⟨a,vs,x,y,hE,e4,r,RR⟩:=R.asData z;refine⟨a,_,x,e4,λ ob=>⟨c,_,_,d,_,(RR ob).2,h2,λ H0' H' sm R'=>?_⟩⟩;obtain⟨s1,e5,R2⟩:=R.back z x y hE r sm R' hn;exact⟨e5,q _ _ s1 R2⟩
  ·have f4:=(if_neg hd).symm.trans f2;cases f4
 ·rw[if_neg hc] at Y;cases Y
theorem bS2 {st:Stmt}:XS X st sNo:=λ _ _ _ _ _ _ ⟨_,_,_,_,_,f,_⟩=>nomatch f
end
end Fx
namespace Fx
open PySem PySem.Spec PyProof.Rows
end Fx
namespace Fx
open PySem
section
variable [DecidableEq K]
inductive PairsAt (knd:KeyKind prog w K) (h:Heap):List Value->List (K×Value)->Prop
 |nil:PairsAt knd h [] []
 |cons {p:Addr}{u v:Value}{k:K}{us:List Value}{kvs:List (K×Value)} (a:h.IsTuple p #[u,v]) (b:knd.is k u=true) (r:PairsAt knd h us kvs):PairsAt knd h (.ref p::us) ((k,v)::kvs)
end
end Fx
namespace Fx
open PySem PySem.Spec PyProof.Rows L2
def KV1 (K:Frag) (d:D) (u:Value):Prop:=∃ v,RelV v u/\∀ H,Rep K H d v
def KVs (K:Frag) (ds:List D) (us:List Value):Prop:=∃ vs,Vals vs us/\∀ H,Reps K H ds vs
section
variable {K:Frag}
theorem b_8 :KV1 K (.str x) (.str x t):=⟨.str x,⟨t,rfl⟩,λ H=>r_7 H x⟩
theorem o_7:KVs K [] []:=⟨[],.nil,λ H=>Reps.nil_⟩
theorem b_5  (a:KV1 K d u) (b:KVs K ds us):KVs K (d::ds) (u::us):=by obtain⟨v,r,p⟩:=a;obtain⟨vs,rs,ps⟩:=b;exact⟨v::vs,.cons r rs,λ H=>Reps.cons (p H) (ps H)⟩
theorem w_8  (l:K.lookup a=some ⟨.type "tuple",none,.seq us.toArray n,O⟩) (q:us.length ≤ 1000) (h:KVs K ds us):KV1 K (.tup ds) (.ref a):=by
 obtain⟨vs,rs,ps⟩:=h;refine⟨.ref a,rfl,λ H=>?_⟩;refine⟨a,vs,rfl,.inr ⟨_,us.toArray,n,l,rfl,rfl,rfl,?_,?_⟩,ps H⟩
 ·rw[zc];exact Z2 (v_2 q)
 ·exact rs
end
theorem strs_inv:∀ {xs:List D}{ss:List Str},aw6 xs=some ss->xs=ss.map .str
 |[],ss,h=>by cases h;rfl
 |.str x::r,ss,h=>by
  rw[v_1] at h;obtain⟨t,e,f⟩:=a_0 h;cases f;rw[strs_inv e];rfl
 |.non::_,_,h=>by cases h
 |.bl _::_,_,h=>by cases h
 |.int _::_,_,h=>by cases h
 |.tup _::_,_,h=>by cases h
 |.lst _::_,_,h=>by cases h
theorem v_7 {K:Frag}:∀ ss:List Str,Reps K H (ss.map D.str) (ss.map V.str)
 |[]=>Reps.nil_
 |x::r=>Reps.cons (r_7 H x) (v_7 r)
theorem i_3 {K:Frag}:∀ {ss:List Str}{vs:List V},Reps K H (ss.map D.str) vs->vs=ss.map V.str
 |[],vs,h=>by rw[Ql] at h;exact h
 |x::r,vs,h=>by
  rw[qz] at h;obtain⟨v,t,rfl,a,b⟩:=h;rw[a,i_3 b];rfl
theorem A_2:∀ {ss:List Str}{us:List Value},Vals (ss.map V.str) us->StrsAre us ss
 |[],us,h=>by rw[Ql] at h;cases h;exact .nil
 |x::r,us,h=>by
  rw[qz] at h;cases h with
  |cons a b=>obtain⟨t,rfl⟩:=a;exact .cons x t (A_2 b)
theorem s_5:∀ {us:List Value}{ss:List Str},StrsAre us ss->Vals (ss.map V.str) us
 |_,_,.nil=>.nil
 |_,_,.cons x t h=>.cons ⟨t,rfl⟩ (s_5 h)
section
theorem A_3:∀ {ss:List Str}{us:List Value},Vals (ss.map V.str) us->∃ l:List (Str×Tok),us=strValues l/\l.map (·.1)=ss
 |[],us,h=>by rw[Ql] at h;cases h;exact⟨[],rfl,rfl⟩
 |x::r,us,h=>by
  rw[qz] at h;cases h with
  |cons a b =>
   obtain⟨t,rfl⟩:=a;obtain⟨l,rfl,e⟩:=A_3 b;exact⟨(x,t)::l,rfl,by rw[qz,e]⟩
theorem W_6 (q:Str):∀ ss:List Str,(Str.join q ss).length<=(ss.map (·.length)).sum+ss.length*q.length
 |[]=>by exact yi _
 |[x]=>by simp[Str.join]
 |x::y::r=>by
  have Y:=W_6 q (y::r);have O:∀ a b:Str,(a++b).length=a.length+b.length:=λ a b=>by
   show (a.cps++b.cps).size=_;rw[Array.size_append];rfl
  show (x++q++Str.join q (y::r)).length<=_;rw[O,O,qz,List.sum_cons,zj,Nat.succ_mul];omega
theorem aU6:MtR X "str.join" (λ x xs H Q=>∃ O p ss,x=.str O ∧ xs=[.ref p] ∧ SqL X.K H p (ss.map V.str) ∧ (ss.map (·.length)).sum+ss.length*O.length ≤ 1000000 ∧ Q (.str (Str.join O ss)) H):=by
 intro pins s σ H x xs v us Q I rx rs h;obtain⟨O,p,ss,rfl,rfl,hq,hz,q⟩:=h;obtain⟨t,rfl⟩:=rx;obtain⟨u,rfl,ru⟩:=j_3 rs;cases ru;obtain⟨ac,rv,pl,_⟩:=I.list hq;obtain⟨l,rfl,Z⟩:=A_3 rv;have jl:=W_6 O ss;have hs:(Str.join O ss).length<=sizeLine:=zo (zo jl hz) (by decide);have aa:Builtin.Str.tooLong ((l.map (·.1)).toArray.foldl (λ a p=>a+p.length+O.length) 0)=false:=by rw[StrLaws.joinTotal,Z];exact zy (by have:=(show (1000000:Nat)<=sizeLine by decide);omega)
 refine Qt PySem.F.slot_str_join (Z3 _ _ _) PySem.F.entry_str_join (PySem.F.args_str_join_2 _ _) (meets_str_join_list O t p l aa) ⟨pl.isList,?_⟩;have Y:Builtin.Str.glued O (l.map (·.1))=Str.join O ss:=by rw[StrLaws.glued_eq_join,Z]
 match l,Z,Y with
 |[a],Z,_ =>
  have e1:Str.join O ss=a.1:=by rw[<- Z];rfl
  exact⟨.str (Str.join O ss),H,I,⟨a.2,by rw[e1]⟩,q⟩
 |[],_,Y=>exact⟨by rw[Y];exact hs,.str (Str.join O ss),H,I.tok _,⟨s.toks,by rw[Y]⟩,q⟩
 |a::b::r,_,Y=>exact⟨by rw[Y];exact hs,.str (Str.join O ss),H,I.tok _,⟨s.toks,by rw[Y]⟩,q⟩
theorem C_1  (h:XE X e F)
  (Y:attributeBase (.Constant (.str O) j p) "join" X.env (eval (.Constant (.str O) j p) X.env)=eval (.Constant (.str O) j p) X.env:=by rfl)
  (aa:((backTo cpos (starEach [e] X.env)).all (λ x=>!x.1)&&(backToKw cpos (keywordEach [] X.env)).all (λ x=>x.1.isSome)
   && decide (([e]:List Expr).length+([]:List Keyword).length+(if ([]:List Keyword).isEmpty then 0 else 1)<30))=true:=by rfl)
  (Z:(apos.endLine==cpos.line)=true:=by rfl) (hs:starEach [e] X.env=[(false,eval e X.env)]:=by rfl):XE X (.Call (.Attribute (.Constant (.str O) j p) "join" apos) [e] [] cpos) (t_9 O F) :=
 PE.wk (ab6 Zf PySem.F.slot_str_join PySem.F.type_str_join aU6 aJ3 (xaC h xaN hs) Y aa Z hs rfl) λ σ H Q ac=>by
  obtain⟨c,H0,ρ,d,ρ',R,f,q⟩:=ac;obtain⟨⟨d1,ad⟩,h1,f⟩:=a_0 f;obtain⟨xs,h2,f⟩:=a_0 f;obtain⟨d',h3,f⟩:=a_0 f;have f':some (d',ad)=some (d,ρ'):=f;cases f';have e1:d1=.lst xs:=by
   cases d1 with
   |lst ys=>cases h2;rfl
   |_=>cases h2
  subst e1;obtain⟨ss,h4,h3⟩:=a_0 h3;obtain⟨hz,rfl⟩:=ifs h3;cases strs_inv h4;refine⟨rfl,c,H0,ρ,[.lst (ss.map .str)],ρ',R,?_,λ vs H1 Hh s1 R1 r1=>?_⟩
  ·unfold aC;rw[h1];rfl
  ·obtain⟨v,rfl,rv⟩:=Reps.v1 r1;obtain⟨p,ws,rfl,sq,t⟩:=rv;rw[i_3 t] at sq;exact⟨O,p,ss,rfl,rfl,Same.seq R1.same sq,hz,q _ H1 Hh s1 R1 (r_7 _ _)⟩
end
inductive PV (K:Frag) (H:Hp):List V->List (Key×V)->Prop
 |nil:PV K H [] []
 |cons {a:Addr}{k:Str}{v:V}{vs:List V}{kvs:List (Key×V)} (p:SqT K H a [.str k,v]) (r:PV K H vs kvs):PV K H (.ref a::vs) ((.inr k,v)::kvs)
theorem T_0 :∀ {kds:List (Str×D)}{vs:List V},kds.length=vs.length->j_8 k kds=none->H_9 (q_9 (kds.map (·.1)) vs) (.inr k)=none
 |[],vs,_,_=>rfl
 |q::r,[],l,_=>by cases l
 |q::r,v::vs,l,h=>by
  unfold j_8 at h;by_cases O:q.1=k
  ·rw[if_pos O] at h;cases h
  ·rw[if_neg O] at h;rw[qz,p_3,m_4 λ z=>O (Qu z)];exact T_0 (Nat.succ.inj l) h
section
theorem aO6  (h:∃ a,X.mg x=some (.ref a) ∧ KV1 X.K d (.ref a)) (Z:Gl X x:=by rfl) (hd:(x==("__debug__":Str))=false:=by decide):XE X (.Name x pos) (eC d):=by
 obtain⟨a,h,v,Y,rp⟩:=h;exact PE.wk (O_9 Z h Y hd) λ σ H Q O=>by
  obtain⟨c,H0,ρ,d,ρ',R,f,q⟩:=O;obtain⟨rfl,rfl⟩:=x_4 f;exact q _ H0 H (Same.refl _) R (rp H0)
end
section
variable {ifs:List Expr}
theorem O_1 (n:Nat) (hN:X.N.Nodup) (hm:X.mg "range"=none) (hc:X.calm=true) (ae:X.env.scope=sc) (B:ScB X.N sc scope x frees js) (ha:XE X a F) (ht:∀ s H C fp,XTs (cxB X (x::frees) scope s H C fp) ifs T) (he:∀ s H C fp,XE (cxB X (x::frees) scope s H C fp) elt I)
  (Z:X.N[n]?=some y:=by rfl) (hy:X.env.scope.names.lookup y=some .local:=by rfl) (aa:Gl X "range":=by rfl) (Y:starEach [a] X.env=[(false,eval a X.env)]:=by rfl)
  (ad:swapsWith (.ListComp elt [⟨.Name x px,.Call (.Name "range" p) [a] [] pos',ifs,0⟩] scope pos) (some (.Name y py)) spos.line X.env=pure true:=by rfl)
  (hs:∀ v,foldedSetIterable (.Call (.Name "range" p) [a] [] pos') X.env v=pure v:=by intro _;rfl):XS X (.Assign [.Name y py] (.ListComp elt [⟨.Name x px,.Call (.Name "range" p) [a] [] pos',ifs,0⟩] scope pos) spos) (e_3 n (eLR js (rng1 F) T I)) :=
 PS.wk (U_8 (tt:=tTt X.K T) (te:=tE X.K I) hN Z hy hc ae B (J_2 aa hm (e_2 ha k_4 Y) Y) ht he ad hs) λ Dn σ H O=>by
  obtain⟨c,H0,ρ,r,R,f,q⟩:=O;obtain⟨⟨d,ac⟩,h0,f⟩:=a_0 f;have f':=f;cases f';obtain⟨xs,fr,ys,h1,h3,h4,hz,rfl⟩:=bb6 h0;obtain⟨⟨d1,af⟩,g1,h1⟩:=a_0 h1;obtain⟨i,g3,h1⟩:=a_0 h1;obtain⟨hj,h1⟩:=Fx.ifs h1;cases h1;refine⟨c,H0,ρ,d1,_,R,g1,λ v H1 Hh s1 R1 r1=>?_⟩;cases d1 with
  |int k =>
   have e:=qi g3;subst e;subst r1;refine⟨k,rfl,hj.1,hj.2,aW1 R1 h3 h4 hz (r_1 0 k.toNat) λ vs H3 Hh3 s3 R3 r3=>λ p hp=>?_⟩;have S:=Step.alloc (o:=.lst vs) R3.same hp;refine q _ _ _ (s1.trans (s3.trans S.s0)) ((R3.after S).set n ?_);exact⟨p,vs,rfl,.inl (.inl a_4),Reps.mono S.s0 _ r3⟩
  |_=>cases g3
end
end Fx
namespace Fx
open PySem
def bP5:D->Option (List Str×List D)
 |.dct ks vs=>some (ks,vs)
 |_=>none
def ar1 (k d:D):Option D:=bnd (bP5 d) λ q=>bnd (bT5 k) λ s=>some (.bl (j_8 s (q.1.zip q.2)).isSome)
@[simp] theorem bQ1 (ks:List Str) (vs:List D) (k:Str):ar1 (.str k) (.dct ks vs)=some (.bl (j_8 k (ks.zip vs)).isSome):=yI rfl
end Fx
namespace Fx
open PySem PySem.Spec PyProof.Rows L2
theorem dctX_inv  (h:bP5 d=some q):d=.dct q.1 q.2:=by
 cases d with
 |dct ks vs=>cases h;rfl
 |_=>cases h
end Fx
namespace Fx
open PySem PySem.W L2
structure XC (K:Frag) (C:Addr):Prop where
 is:(clsIn K C).isSome=true
 ga:findIn K (.ref C) "__getattribute__"=some (some (.builtin "BaseException.__getattribute__"))
 gh:findIn K (.ref C) "__getattr__"=some none
 cl:findIn K (.ref C) "__class__"=some (some (.builtin "object.__class__"))
 ge:specialIn K (.builtin "object.__class__") "__get__"=some (some (.builtin "getset_descriptor.__get__"))
 tk:takesIn K (.builtin "object.__class__")=some true
 mo:mroIn K C (.type "object")=some true
 mb:mroIn K C (.type "BaseException")=some true
section
theorem XC.ty  (f:XC K C) (X:K.In h):Looks M h (isType (.ref C)) true:=by
 obtain⟨cd,O⟩:=Option.isSome_iff_exists.mp f.is;revert O;unfold clsIn;intro O;split at O
 ·rename_i Y o2 Z o4 hl;exact λ A Q E s k q=>qb (wpAny_loadPart (k C _ (X C _ hl)) (qc q))
 ·exact nomatch O
theorem XC.ck {tk:Tok} (f:XC K C) (X:K.In s.heap) (I:InstAt s.heap x ox C od) (h:Q () s) :
  wpAny (model prog w) A (checkBuiltinCall "BaseException.__getattribute__" ⟨[.ref x,.str n tk],[]⟩) Q E s:=by
 have e1:builtinKind "BaseException.__getattribute__"=some .slot:=by decide +kernel
 have e2:splitId "BaseException.__getattribute__"=some ("BaseException","__getattribute__"):=by decide +kernel
 have e3:=F.args_bexc_ga (.ref x) (.str n tk);obtain⟨q,g,d,t,os⟩:=s;have O:Looks (model prog w) q (isInstance (.ref x) (.type "BaseException")) true:=(I.type).andThen (looks_mroIn X f.mb);refine qb (O.at ?_);rw[if_neg (by decide)];exact Z6 e3 h
theorem XC.ca  (f:XC K C) (X:K.In s.heap) (I:InstAt s.heap x ox C od) (h:Q (some (.ref C)) {s with toks:=s.toks+1}) :
  wpAny (model prog w) A (getAttr? (.ref x) "__class__") Q E s:=by
 have O:findObj K C od "__class__"=some (.bind (.builtin "getset_descriptor.__get__") (.builtin "object.__class__")):=by obtain⟨cd,Z⟩:=Option.isSome_iff_exists.mp f.is;simp[findObj,Z,f.cl,f.ge,f.tk]
 obtain⟨hh,g,d,t,os⟩:=s;have q:=I.type (M:=model prog w);have L1:=looks_findIn (M:=model prog w) X f.ga;have L2:=looks_findIn (M:=model prog w) X f.gh;have L3:=looks_find (M:=model prog w) X I O;have Y:(onTheHeap (.ref C)&&Value.builtin "BaseException.__getattribute__"==Value.builtin "object.__getattribute__")=false:=by rw[show (Value.builtin "BaseException.__getattribute__"==Value.builtin "object.__getattribute__")=false by decide +kernel];rfl
 refine qb (wpAny_mkText (qb (Zu ?_)));refine yh (qb (q.at (qb (L1.at ?_))));dsimp only;rw[Y,if_neg (by decide)];unfold getAttrByItsOwn hookBefore;refine qb ?_;rw[show onTheHeap (.ref C)=true from rfl,if_pos rfl];refine L2.at (qb (Zu (yh ?_)));unfold callGetattribute;rw[show (false&&onTheHeap (Value.builtin "BaseException.__getattribute__"))=false from rfl,if_neg (by decide)];refine qb (Z6 (F.attr_ValueError.ga.bind (.ref x)) ?_);refine Zn (Zw F.attr_ValueError.ga.plain F.entry_bexc_ga (f.ck X I ?_));refine qb (qc (qb (qc (qb (q.at (qb (L3.at ?_)))))));refine qb (yh (Zn (class_get X I f.mo (qc ?_))));exact handed_on rfl (qc h)
theorem XC.kitx (f:XC K C):KitX K (.ref x) (.ref C) (λ h=>InstAt h x ox C od) where
 ty:=λ _ _ _ I=>I.type
 it:=λ _ _ X _=>f.ty X
 ne:=λ h O dd Y n sl X e=>by
  obtain⟨cd,q⟩:=Option.isSome_iff_exists.mp f.is;cases Z:(Value.ref C==Value.ref O) with
  |false=>rfl
  |true =>
   obtain rfl:C=O:=Y8 (beq_iff_eq.mp Z);revert q;unfold clsIn;intro q;split at q
   ·rename_i o1 o2 o3 o4 hl;exact nomatch (X C _ hl).symm.trans e
   ·exact nomatch q
 ca:=λ X I k=>f.ca X I k
end
def rcd (c:Value) (vs:Array Value) (dd:Option Addr:=none):Obj:={cls:=c,dict:=dd,data:=.fields vs,slots:=#[]}
theorem bx3  (q:s.heap.get? a=some (rcd c vs dd)) (O:k<vs.size)
  (h:∀ h',h'.get? a=some (rcd c (vs.setIfInBounds k x) dd)->Heap.SameBut a s.heap h'->Q () {s with heap:=h'}):wpAny (model prog w) A (setField (.ref a) k x) Q E s :=
 wpAny_setField q rfl O (h _ (ju _ q rfl) (Y5 s.heap a _))
def Aw (fs es:List Addr) (h h':Heap):Prop:=∀ b o,h.get? b=some o->b∉es->(b∉fs->h'.get? b=some o)/\∃ q,h'.get? b=some {o with slots:=q}
theorem Aw.of  (k:∀ b o,b∉es->h.get? b=some o->h'.get? b=some o):Aw fs es h h':=λ b o e n=>⟨λ _=>k b o n e,o.slots,k b o n e⟩
theorem Aw.trans  (a:Aw fs es h h1) (b:Aw fs es h1 h2):Aw fs es h h2:=λ c o e n=>by
 obtain⟨p,Z,q⟩:=a c o e n;obtain⟨_,O,Y⟩:=b c _ q n;exact⟨λ m=>(b c o (p m) n).1 m,O,Y⟩
theorem Aw.mono  (a:Aw fs es h h') (f:∀ b∈fs,b∈fs') (g:∀ b∈es,b∈O\/h.get? b=none):Aw fs' O h h':=λ b o e n=>by
 have Y:=λ z=>(g b z).elim n λ q=>by rw[e] at q;cases q
 exact⟨λ m=>(a b o e Y).1 λ z=>m (f b z),(a b o e Y).2⟩
def Fly (h:Heap) (e T C:Addr) (dd:Option Addr) (q:Value):Prop:=T≠e ∧ (∃ vs,h.get? e=some (rcd (.ref C) vs dd) ∧ vs[1]?=some (.ref T)) ∧ ∃ ts,h.get? T=some (rcd (.type "traceback") ts) ∧ ts[3]?=some q
section
variable {s:Shared}{L e C T:Addr}
theorem V_9  (hl:s.heap.FunFrames base l) (Y:s.heap.get? e=some (rcd c vs dd)):e∉frs l:=λ z=>by
 obtain⟨_,o,q,O⟩:=hl.mem z;rw[Y] at q;cases q;exact O vs rfl
theorem Y_1  (aa:A.frames=some (env::outer)) (hl:s.heap.FunFrames base (env::outer)) (hf:env.frame=some L)
  (he:s.heap.get? e=some (rcd (.ref C) vs dd)) (h1:1<vs.size) (k:∀ h' T,Aw (frs (env::outer)) [e] s.heap h'->s.heap.objs.size<=T->Fly h' e T C dd (rawInt L)->Q () {s with heap:=h'}) :
  wpAny (model prog w) A (do setField (.ref e) 1 (<- EntryCells.newEntry O (<- frameOf env) .none (rawInt L) .none (<- entryPlaceOf L nx))) Q E s:=by
 refine qb (wpAny_frameOf_fun aa hl hf λ g Y=>qb (wpAny_entryPlaceOf λ Z hp=>qb ?_));refine yj ?_ (hp.sizeOk5 O (.ref L) .none (rawInt L) .none);have hz:([O,.ref L,.none,rawInt L,.none]++(if Z.isEmpty then List.replicate 6 Value.none else Z)).toArray[3]?=some (rawInt L):=rfl;generalize ([O,.ref L,.none,rawInt L,.none]++(if Z.isEmpty then List.replicate 6 Value.none else Z)).toArray=ts at hz ⊢;have eg:=(Y.2.1 e (V_9 hl he)).trans he;refine bx3 (qf _ eg) h1 λ h' e1 sb=>?_;have te:=Zh (qm eg);refine k h' g.objs.size (λ b o q n=>?_) (Yn Y.1.symm) ⟨te,⟨_,e1,by simp[h1]⟩,ts,?_,hz⟩
 ·have be:b≠e:=λ z=>n (by simp[z]);have up:∀ o',g.get? b=some o'->h'.get? b=some o':=λ o' z=>(sb.2 b be).trans (qf _ z);obtain⟨sl,z⟩:=Y.2.2 b o q;exact⟨λ m=>up o ((Y.2.1 b m).trans q),sl,up _ z⟩
 ·exact (sb.2 _ te).trans (qk _ rfl)
theorem A_8  (q:A.frames=some (env::outer)) (hl:s.heap.FunFrames base (env::outer)) (O:env.frame=some L)
  (Y:s.heap.get? e=some (rcd (.ref C) vs dd)) (h1:vs[1]?=some .none) (k:∀ h' T,Aw (frs (env::outer)) [e] s.heap h'->s.heap.objs.size<=T->Fly h' e T C dd (rawInt L)->Q () {s with heap:=h'}) :
  wpAny (model prog w) A (noteFrame (.ref e) env) Q E s:=by
 simp only[noteFrame,O];refine qb (zx Y rfl h1 ?_);rw[show (Value.none != Value.none)=false from rfl,if_neg (by decide)];exact Y_1 q hl O Y (Array.getElem?_eq_some_iff.mp h1).1 k
theorem w_4 (ac:A.frames=some (env::outer)) (hl:s.heap.FunFrames base (env::outer)) (hf:env.frame=some L) (x:Fly s.heap e T C dd .none)
  (k:∀ h' Z,Aw (frs (env::outer)) [e,T] s.heap h'->s.heap.objs.size<=Z->Fly h' e Z C dd (rawInt L)->Q () {s with heap:=h'}):wpAny (model prog w) A (noteFrame (.ref e) env) Q E s:=by
 obtain⟨te,⟨vs,he,h1⟩,ts,ht,h3⟩:=x;simp only[noteFrame,hf];refine qb (zx he rfl h1 ?_);rw[show (Value.ref T != Value.none)=true from rfl,if_pos rfl];refine qb (zx ht rfl h3 ?_);rw[show (Value.none==rawInt L)=false from rfl,if_neg (by decide)];refine qb (bx3 ht (Array.getElem?_eq_some_iff.mp h3).1 λ O e1 Y=>?_);have aa:=hl.of_keeps λ b o q n=>by
  have bt:b≠T:=λ z=>by subst z;rw[ht] at q;cases q;exact n ts rfl
  exact⟨o,(Y.2 b bt).trans q,rfl⟩
 refine Y_1 ac aa hf ((Y.2 e te.symm).trans he) (Array.getElem?_eq_some_iff.mp h1).1 λ h' Z a z f=>k h' Z (λ b o q n=>?_) (zo (Yn Y.1.symm) z) f;simp only[ym,yd,j9,not_or] at n;exact a b o ((Y.2 b n.2).trans q) (by simp[n.1])
theorem E_9  (x:Fly s.heap e T C dd fl) (k:∀ h',Heap.SameBut T s.heap h'->Fly h' e T C dd .none->Q () {s with heap:=h'}):wpAny (model prog w) A (setFlight (.ref e) none) Q E s:=by
 obtain⟨te,⟨vs,O,h1⟩,ts,Z,h3⟩:=x;have Y:=(Array.getElem?_eq_some_iff.mp h3).1;refine qb (zx O rfl h1 ?_);rw[show (Value.ref T != Value.none)=true from rfl,if_pos rfl];exact bx3 Z Y λ h' e1 q=>k h' q ⟨te,⟨vs,(q.2 e te.symm).trans O,h1⟩,_,e1,by simp[Y]⟩
theorem J_9 (q:env.frame=some L) (x:Fly s.heap e T C dd (rawInt L)) (k:Q () s):wpAny (model prog w) A (noteFrame (.ref e) env) Q E s:=by obtain⟨te,⟨vs,Y,h1⟩,ts,O,Z⟩:=x;simp only[noteFrame,q];refine qb (zx Y rfl h1 ?_);rw[show (Value.ref T != Value.none)=true from rfl,if_pos rfl];refine qb (zx O rfl Z ?_);rw[if_pos (Zo _)];exact qc k
theorem bs7  (x:Fly s.heap e T C dd fl) (k:∀ h',Heap.SameBut T s.heap h'->Fly h' e T C dd (rawInt L)->Q () {s with heap:=h'}) :
    wpAny (model prog w) A (do if (← field (.ref e) 1)==.none then unsupported "frame.own-activation:exception-without-traceback"
                               setFlight (.ref e) (some L)) Q E s:=by
  obtain⟨te,⟨vs,q,h1⟩,ts,Z,h3⟩:=x;have Y:=(Array.getElem?_eq_some_iff.mp h3).1;refine qb (zx q rfl h1 ?_);rw[show (Value.ref T==Value.none)=false from rfl,if_neg (by decide)];refine qb (zx q rfl h1 ?_);rw[show (Value.ref T != Value.none)=true from rfl,if_pos rfl];exact bx3 Z Y λ h' e1 O=>k h' O ⟨te,⟨vs,(O.2 e te.symm).trans q,h1⟩,_,e1,by simp[Y]⟩
end
end Fx
namespace Fx
open PySem PySem.W PySem.Spec PyProof.Rows L2
def CXE (P:Program) (w:World):CXT:=λ outer H s E e s'=>∃ a T C dd H',e=.ref a/\s'.os=s.os/\AllBare s'.gens/\Un (frs outer) [] H H' s.heap s'.heap/\HOk P w H' s'.heap /\
 s.heap.get? a=none/\s.heap.get? T=none/\H' a=none/\H' T=none/\Fly s'.heap a T C dd .none/\E (.ref C) dd H'
theorem aV3 :∀ {o:HO},ObjOk P w H h a o->∃ u,h.get? a=some u
 |.lst _,⟨_,_,_,_,e⟩=>⟨_,e⟩
 |.tup _,⟨_,_,_,o,e,_⟩=>⟨_,e⟩
 |.dK _,⟨_,_,_,_,o,_,_,e,_⟩=>⟨_,e⟩
 |.dT _,⟨_,_,_,_,o,_,_,e,_⟩=>⟨_,e⟩
 |.set _ _,⟨_,_,_,_,e,_⟩=>⟨_,e⟩
 |.ins _ _ _,⟨_,_,_,e,_⟩=>⟨_,e⟩
 |.own _,e=>e
 |.xd _,⟨_,x,_⟩=>by obtain⟨o,_,_,e,_⟩:=x;exact⟨_,e⟩
 |.rng _ _,⟨_,_,_,e⟩=>⟨_,e⟩
 |.frz _ _,⟨e,_⟩=>⟨_,e⟩
 |.tbl _,e=>⟨_,e⟩
 |.met _ _,e=>⟨_,e⟩
 |.ext _,⟨_,e,_⟩=>e
theorem q_5  (ok:HOk P w H h) (n:h.get? a=none):H a=none:=by
 cases e:H a with
 |none=>rfl
 |some o =>
  obtain⟨u,q⟩:=aV3 (ok a o e);rw[n] at q;cases q
section
variable {X:Cx}{pins:List (Addr×Obj)}{σ:L2.St}{H:Hp}{s:Shared}{h':Heap}{es:List Addr}
theorem aL5  (ok:HOk P w H h) (a:Aw fs es h h') (Y:∀ b∈fs,H b=none) (Z:∀ b∈es,H b=none):HOk P w H h':=λ b o e=>by
 have out:∀ c,H c≠none->c∉fs/\c∉es:=λ c n=>⟨λ z=>n (Y c z),λ z=>n (Z c z)⟩
 refine (ok b o e).stay (λ c u O q=>?_) (λ _ z=>z) (λ _ _ z=>z);have n:H c≠none:=by
  rcases O with rfl | O
  ·rw[e];exact Z1 _
  ·rw[O];exact Z1 _
 exact (a c u q (out c n).2).1 (out c n).1
def af0 (X:Cx) (pins:List (Addr×Obj)) (H:Hp) (b:Addr):Prop :=
 H b=none/\b≠X.env.locals/\(b∈X.ex\/X.s₀.heap.get? b=none)/\(∀ x c,X.env.cells.lookup x=some c->c≠b)/\∀ p∈X.pn++pins,p.1≠b
theorem al3  (I:Inv X pins σ H s) (n:s.heap.get? b=none) (Z:H' b=none):af0 X pins H' b:=by
 refine⟨Z,λ z=>?_,?_,λ x c e z=>?_,λ p Y z=>?_⟩
 ·obtain⟨m,⟨o,_,_,q,_⟩,_⟩:=I.loc;rw[<- z,n] at q;cases q
 ·by_cases O:b∈X.ex
  ·exact .inl O
  ·refine .inr ?_;cases e:X.s₀.heap.get? b with
   |none=>rfl
   |some o =>
    obtain⟨o',q⟩:=I.base.there b o e O;rw[n] at q;cases q
 ·obtain⟨v,o,q,_⟩:=I.cell x c e;rw[z,n] at q;cases q
 ·have q:=(I.pin p Y).1;rw[z,n] at q;cases q
theorem B_3  (I:Inv X pins σ H s) (a:Aw (frs X.stack) es s.heap h') (he:∀ b∈es,af0 X pins H b):Inv X pins σ H {s with heap:=h',toks:=t'}:=by
 have Y:∀ b o,X.s₀.heap.get? b=some o->b∉X.ex->b≠X.env.locals/\b∉es:=λ b o q O=>by
  refine⟨qv (qt (qm q) I.ok.above),λ z=>?_⟩;rcases (he b z).2.2.1 with y | y
  ·exact O y
  ·rw[q] at y;cases y
 have fr:∀ b,b≠X.env.locals->b∉X.fs->b∉frs X.stack:=λ b n m z=>(qw (I.stkSub b z)).elim n m;have un:=I.base;have aa:∀ x c v,X.env.cells.lookup x=some c->s.heap.IsCell c v->h'.IsCell c v:=λ x c v e ac=>by
  obtain⟨o,q,d⟩:=ac;obtain⟨_,sl,q'⟩:=a c o q λ z=>(he c z).2.2.2.1 x c e rfl;exact⟨_,q',d⟩
 refine⟨I.ok,I.os,I.bare,⟨λ b o q n hb O=>?_,λ b o q n hb O=>?_,un.free,λ b o q O=>?_,un.tups,un.frzs,un.tbls⟩,?_,λ x c e=>?_,I.free,I.freeC,λ p hp=>?_,aL5 I.hok a I.stkFree λ b z=>(he b z).1,I.len⟩
 ·exact (a b o (un.keep b o q n hb O) (Y b o q O).2).1 (fr b (Y b o q O).1 hb)
 ·obtain⟨sl,q1⟩:=un.slot b o q n hb O;obtain⟨_,Z,q2⟩:=a b _ q1 (Y b o q O).2;exact⟨Z,q2⟩
 ·obtain⟨o',q1⟩:=un.there b o q O;obtain⟨_,Z,q2⟩:=a b _ q1 (Y b o q O).2;exact⟨_,q2⟩
 ·obtain⟨m,⟨o,ad,ep,q,r⟩,hl⟩:=I.loc;obtain⟨_,sl,q'⟩:=a _ o q λ z=>(he _ z).2.1 rfl;refine⟨m,⟨_,ad,ep,q',r⟩,λ i x v e1 e2 e3=>?_⟩;obtain⟨u,rv,l⟩:=hl i x v e1 e2 e3;refine⟨u,rv,l.imp id ?_⟩;rintro ⟨k,c,e,z⟩;exact⟨k,c,e,aa x c _ e z⟩
 ·obtain⟨v,z⟩:=I.cell x c e;exact⟨v,aa x c v e z⟩
 ·obtain⟨q,n,ne,nf,d⟩:=I.pin p hp;exact⟨(a p.1 p.2 q λ z=>(he _ z).2.2.2.2 p hp rfl).1 (fr p.1 ne nf),n,ne,nf,d⟩
end
section
variable {P:Program}{w:World}{K:Frag}{mg:Str->Option Value}{base:Heap}{N:List Str}{qual:Str}{scope:Scope}{f:Addr}{cd:Value}{A:Around}{outer:List Env}{s:Shared}{H:Hp}{E:XK}
theorem aB9  (I:Inv (H_5 (CXE P w) P w K mg base N qual scope f cd A outer s H E) pins σ H1 Z)
  (fa:H1 a=none) (na:s.heap.get? a=none) (there:(∃ vs,Z.heap.get? a=some (rcd (.ref C) vs dd)/\vs[1]?=some .none)\/∃ T Y,(Y=.none\/Y=rawInt s.heap.objs.size)/\H1 T=none/\s.heap.get? T=none/\Fly Z.heap a T C dd Y) (e:E (.ref C) dd H1) :
  (H_5 (CXE P w) P w K mg base N qual scope f cd A outer s H E).xe (.ref a) Z:=by
 have af:=I.stack;have aj:=I.ok.frames;have un:=I.base;have ah:∀ b,Z.heap.get? b=none->s.heap.get? b=none:=λ b z=>by
  cases q:s.heap.get? b with
  |none=>rfl
  |some o =>
   obtain⟨o',q'⟩:=un.there b o q (by intro y;cases y);rw[z] at q';cases q'
 have hL:∀ b o,s.heap.get? b=some o->b≠s.heap.objs.size:=λ b o q=>qv (qm q);have ai:∀ (h':Heap) (T:Addr) (es:List Addr),Aw (frs (envOfC qual scope s.heap.objs.size f cd::outer)) es Z.heap h'->(∀ b∈es,H1 b=none/\s.heap.get? b=none)->T∈es->Fly h' a T C dd .none->CXE P w outer H s E (.ref a) {Z with heap:=h'}:=by
  intro h' T es aw O hT Y;have ac:∀ b o,s.heap.get? b=some o->b∉es:=λ b o q z=>by rw[(O b z).2] at q;cases q
  refine⟨a,T,C,dd,H1,rfl,I.os,I.bare,⟨λ b o q n hb _=>?_,λ b o q n hb _=>?_,λ b o q n hx=>un.free b o q n hx,λ b o q hx=>?_,un.tups,un.frzs,un.tbls⟩,aL5 I.hok aw (λ b z=>I.stkFree b z) (λ b z=>(O b z).1),
   na,(O T hT).2,fa,(O T hT).1,Y,e⟩
  ·have q1:=un.keep b o q n hb (by intro z;cases z);refine (aw b o q1 (ac b o q)).1 λ z=>?_;rcases qw (show b∈s.heap.objs.size::frs outer from z) with z | z
   ·exact hL b o q z
   ·exact hb z
  ·obtain⟨sl,q1⟩:=un.slot b o q n hb (by intro z;cases z);obtain⟨_,ag,q2⟩:=aw b _ q1 (ac b o q);exact⟨ag,q2⟩
  ·obtain⟨o',q1⟩:=un.there b o q hx;obtain⟨_,ag,q2⟩:=aw b _ q1 (ac b o q);exact⟨_,q2⟩
 have aa:∀ (h':Heap) (T:Addr) (es:List Addr),Aw (frs (envOfC qual scope s.heap.objs.size f cd::outer)) es Z.heap h'->Z.heap.objs.size<=T->(∀ b∈es,H1 b=none/\s.heap.get? b=none)->Fly h' a T C dd (rawInt s.heap.objs.size) ->
   wpAny (model P w) (A.deeper (envOfC qual scope s.heap.objs.size f cd)) (setFlight (.ref a) none) (λ _ ad=>CXE P w outer H s E (.ref a) ad) (λ e' ad=>CXE P w outer H s E e' ad) {Z with heap:=h'}:=by
  intro h' T es aw zT O Y;have dT:=ji zT;refine E_9 Y λ h2 sb ae=>ai h2 T (T::es) (λ b o q n=>?_) (λ b z=>?_) (by simp) ae
  ·simp only[ym,not_or] at n;obtain⟨p1,sl,q1⟩:=aw b o q n.2;exact⟨λ m=>(sb.2 b n.1).trans (p1 m),sl,(sb.2 b n.1).trans q1⟩
  ·rcases qw z with rfl | z
   ·exact⟨q_5 I.hok dT,ah _ dT⟩
   ·exact O b z
 show wpAny _ _ (leaving _ _) _ _ _;rcases there with ⟨vs,ea,h1⟩ | ⟨T,_,rfl | rfl,fT,nT,Y⟩
 ·exact qb (A_8 aj af rfl ea h1 λ h' T a1 z Y=>aa h' T [a] a1 z (by simpa using ⟨fa,na⟩) Y)
 ·exact qb (w_4 aj af rfl Y λ h' T' a1 z ak=>aa h' T' [a,T] a1 z (by simpa using ⟨⟨fa,na⟩,fT,nT⟩) ak)
 ·exact qb (J_9 rfl Y (E_9 Y λ h2 sb ae=>ai h2 T [T] (Aw.of λ b o n z=>(sb.2 b (by simpa using n)).trans z) (by simpa using ⟨fT,nT⟩) (by simp) ae))
def S_3 (X:Cx) (E:XK):Prop:=∀ (pins:List (Addr×Obj)) (σ:L2.St) (H:Hp) (s:Shared) (e C:Addr) (dd:Option Addr) (vs:Array Value),Inv X pins σ H s->H e=none->X.s₀.heap.get? e=none->s.heap.get? e=some (rcd (.ref C) vs dd)->vs[1]?=some .none->E (.ref C) dd H->X.xe (.ref e) s
end
abbrev bmV:List Value:=[.type "ValueError",.type "Exception",.type "BaseException",.type "object"]
end Fx
namespace Fx
open PySem
abbrev XV:=Str×Option (Str×D)
inductive RX where
 |ok (r:Res) | ex (x:XV)
abbrev FX:=En->Option RX
def okX (r:Res):Option RX:=some (.ok r)
def rS (A:FS) (ρ:En):Option RX:=bnd (A ρ) okX
def nxX (B:FX):RX->Option RX
 |.ok (.nx ρ)=>B ρ
 |r=>some r
def aR4 (A B:FX) (ρ:En):Option RX:=bnd (A ρ) (nxX B)
def ifX (A B:FX) (p:Bool×En):Option RX:=if p.1=true then A p.2 else B p.2
def rIf (T:FT) (A B:FX) (ρ:En):Option RX:=bnd (T ρ) (ifX A B)
def D_3 (x f:Str) (o:Option (D×En)):Option RX:=bnd o λ p=>some (.ex (x,some (f,p.1)))
def v_8 (x f:Str) (F:FE) (ρ:En):Option RX:=D_3 x f (F ρ)
@[simp] theorem bz2 (x f:Str) (F:FE) (ρ:En):v_8 x f F ρ=D_3 x f (F ρ):=yI rfl
@[simp] theorem bl4 (x f:Str) (d:D) (ρ:En):D_3 x f (some (d,ρ))=some (.ex (x,some (f,d))):=yI rfl
def bH5:RX->Option (D ⊕ XV)
 |.ok r=>bnd (bz1 r) λ d=>some (.inl d)
 |.ex x=>some (.inr x)
def fnX (n k:Nat) (B:FX) (ds:List D):Option (D ⊕ XV):=if ds.length=n then bnd (B (ds.map .im++List.replicate k .no)) bH5 else none
@[simp] theorem rS_ (A:FS) (ρ:En):rS A ρ=bnd (A ρ) okX:=yI rfl
@[simp] theorem cp4 (r:Res):okX r=some (.ok r):=yI rfl
@[simp] theorem ci5 (B:FX) (ρ:En):nxX B (.ok (.nx ρ))=B ρ:=yI rfl
@[simp] theorem ci4 (B:FX) (x:XV):nxX B (.ex x)=some (.ex x):=yI rfl
@[simp] theorem ch6 (A B:FX) (ρ:En):aR4 A B ρ=bnd (A ρ) (nxX B):=yI rfl
@[simp] theorem ck7 (A B:FX) (ρ:En):ifX A B (true,ρ)=A ρ:=yI rfl
@[simp] theorem ck8 (A B:FX) (ρ:En):ifX A B (false,ρ)=B ρ:=yI rfl
@[simp] theorem cp3 (T:FT) (A B:FX) (ρ:En):rIf T A B ρ=bnd (T ρ) (ifX A B):=yI rfl
end Fx
namespace Fx
open PySem PySem.W PySem.Spec PyProof.Rows L2
def XD (K:Frag) (H0 H:Hp):Option (Str×D)->Option Addr->Prop
 |none,none=>True
 |some p,some dx=>∃ v,Rep K H0 p.2 v/\H dx=some (.xd [(p.1,v)])
 |_,_=>False
def PostX (K:Frag) (mg:Str->Option Value) (E:XK) (c:FC) (O:Ends) (H0:Hp):RX->Prop
 |.ok r=>Post K c O H0 r
 |.ex x=>∀ C dd ρ' q H0' H',mg x.1=some (.ref C)->Same H0 H0'->RS K c H0' H' ρ' q->XD K H0' H' x.2 dd->E (.ref C) dd H'
theorem PostX.mono {K:Frag} (s:Same H0 H1):∀ {r:RX},PostX K mg E c O H0 r->PostX K mg E c O H1 r
 |.ok _,h=>Post.mono s h
 |.ex _,h=>λ C dd ρ' q H0' H' m z=>h C dd ρ' q H0' H' m (s.trans z)
def tX (K:Frag) (mg:Str->Option Value) (E:XK) (F:FX):TS:=λ q σ H=>∃ c H0 ρ r,RS K c H0 H ρ σ/\F ρ=some r/\PostX K mg E c q H0 r
def XX1 (X:Cx) (E:XK) (st:Stmt) (F:FX):Prop:=PS X st (tX X.K X.mg E F)
def XX (X:Cx) (E:XK) (sts:List Stmt) (F:FX):Prop:=PSs X sts (tX X.K X.mg E F)
section
variable {st:Stmt}
theorem aI9  (h:rS S ρ=some r):∃ z,S ρ=some z/\r=.ok z:=by obtain⟨z,h1,h2⟩:=a_0 h;exact⟨z,h1,(qi h2).symm⟩
theorem xxs (h:XS X st S):XX1 X E st (rS S):=PS.wk h λ Y σ H O=>by
 obtain⟨c,H0,ρ,r,R,f,q⟩:=O;obtain⟨z,h1,rfl⟩:=aI9 f;exact⟨c,H0,ρ,z,R,h1,q⟩
theorem bS0 (h:XSs X sts S):XX X E sts (rS S):=PSs.wk h λ Y σ H O=>by
 obtain⟨c,H0,ρ,r,R,f,q⟩:=O;obtain⟨z,h1,rfl⟩:=aI9 f;exact⟨c,H0,ρ,z,R,h1,q⟩
theorem xx1 (h:XX1 X E st A):XX X E [st] A:=o_3 h
theorem xxC (h1:XX1 X E st A) (h2:XX X E sts B):XX X E (st::sts) (aR4 A B):=PSs.wk (p_9 h1 h2) λ Dn σ H O=>by
 obtain⟨c,H0,ρ,r,R,f,q⟩:=O;obtain⟨z,h,f⟩:=a_0 f;refine⟨c,H0,ρ,z,R,h,?_⟩
 match z,f with
 |.ok (.nx ρ1),f=>exact λ Y H0' H' s Z=>⟨c,H0',ρ1,r,Z,f,q.mono s⟩
 |.ok (.rt _ _),f=>cases f;exact q
 |.ok (.bk _),f=>cases f;exact q
 |.ok (.ct _),f=>cases f;exact q
 |.ex _,f=>cases f;exact q
theorem bS1  (hc:XT X c T) (ha:XX X E a A) (hb:XX X E b B):XX1 X E (.If c a b pos) (rIf T A B):=PS.wk (aS4 hc ha hb) λ Dn σ H Y=>by
 obtain⟨c,H0,ρ,r,R,f,q⟩:=Y;obtain⟨⟨k,O⟩,h1,f⟩:=a_0 f;refine⟨c,H0,ρ,k,O,R,h1,λ H1 Hh Z R1=>?_⟩;cases k with
 |true=>rw[if_pos rfl];exact⟨c,H1,O,r,R1,f,q.mono Z⟩
 |false=>rw[if_neg zu];exact⟨c,H1,O,r,R1,f,q.mono Z⟩
end
def cl4 (K:Frag) (mg:Str->Option Value) (q H:Hp) (Q:VK) (E:XK):D ⊕ XV->Prop
 |.inl d=>∀ v Hi' H',Step q H Hi' H'->Rep K Hi' d v->Q v H'
 |.inr x=>∀ C dd Hi' H',mg x.1=some (.ref C)->Step q H Hi' H'->XD K Hi' H' x.2 dd->E (.ref C) dd H'
def spX (K:Frag) (mg:Str->Option Value) (g:List D->Option (D ⊕ XV)):Sp:=λ vs H Q E=>∃ q ds r,Same q H/\Reps K q ds vs/\g ds=some r/\cl4 K mg q H Q E r
structure DefX (P:Program) (w:World) (K:Frag) (mg:Str->Option Value) (base:Heap) (k:Nat) (x:Str) (g:List D->Option (D ⊕ XV)):Prop where
 ex:∃ f fd ps,FnOk P w K mg base (CXE P w) k f fd ps (spX K mg g)/\Binds K fd ps []/\keepIn K (.ref f)=true/\mg x=some (.ref f)
theorem bs5 {K:Frag}{st:Stmt} (F:Fun K x qual st f fd) (S:FnScope N ps (a_2 st)) (hn:ps.length=n) (hN:N.length=n+m)
  (hb:∀ (O:Value) (A:Around) (outer:List Env) (s:Shared) (H:Hp) (E:XK),Room k (A.deeper (envOfC qual (a_2 st) s.heap.objs.size f O))->XX (H_5 (CXE P w) P w K mg base N qual (a_2 st) f O A outer s H E) E (h_3 st) B) :
  FnOk P w K mg base (CXE P w) (k+1) f fd ps (spX K mg (fnX n m B)):=by
 have inv:∀ {ds:List D}{r:D ⊕ XV},fnX n m B ds=some r->ds.length=n/\∃ z,B (ds.map .im++List.replicate m .no)=some z/\bH5 z=some r:=λ {ds r} h=>by
  unfold fnX at h;split at h
  ·rename_i hl;obtain⟨z,h1,h2⟩:=a_0 h;exact⟨hl,z,h1,h2⟩
  ·cases h
 obtain⟨oc,od,kV,ac,pm,an,O,ct,aa,rfl,lk,Z⟩:=F.ex;refine aY9 lk Z S (λ vs H Q E h=>?_) λ A outer s H vs Q E hr h=>?_
 ·obtain⟨Hi,ds,d,_,r,e,_⟩:=h;rw[hn,<- r.length];exact (inv e).1
 ·obtain⟨Hi,ds,d,hs,r,e,q⟩:=h;obtain⟨hl,z,h1,h2⟩:=inv e;refine⟨_,hb O A outer s H E hr,⟨Hi,H,[]⟩,Hi,_,z,RS.start hs r (by rw[<- r.length];omega),h1,?_⟩
  match z,h2 with
  |.ok (.nx _),h2=>cases h2;exact λ Y H0' H' s0 R=>q .non H0' H' R.step (by rfl)
  |.ok (.rt _ _),h2=>cases h2;exact λ v Y H0' H' s0 R rv=>q v H0' H' R.step rv
  |.ok (.bk _),h2=>cases h2
  |.ok (.ct _),h2=>cases h2
  |.ex _,h2=>cases h2;exact λ C dd ρ' Y H0' H' m s0 R xd=>q C dd H0' H' m R.step xd
section
variable {X:Cx}{pins:List (Addr×Obj)}{σ:L2.St}{H:Hp}{s:Shared}{a:Addr}{o:Obj}
abbrev i_6 (X:Cx) (a:Addr) (o:Obj):Cx:={X with pn:=(a,o)::X.pn}
theorem bJ3 (k:X.Ok):(i_6 X a o).Ok:=⟨k.mod,k.kind,k.glob,k.blt,k.above,k.inj,k.has,k.cab,k.hd,k.frames,k.stk,k.exf,k.bs,k.bsz,k.noex,k.exfs,k.funs,k.frf⟩
theorem bD1 (k:(i_6 X a o).Ok):X.Ok:=⟨k.mod,k.kind,k.glob,k.blt,k.above,k.inj,k.has,k.cab,k.hd,k.frames,k.stk,k.exf,k.bs,k.bsz,k.noex,k.exfs,k.funs,k.frf⟩
theorem be6 (I:Inv X pins σ H s) (q:s.heap.get? a=some o) (n:H a=none) (Z:a≠X.env.locals) (Y:a∉X.fs) (d:∀ v,o.data≠.cell v):Inv X ((a,o)::pins) σ H s :=
 ⟨I.ok,I.os,I.bare,I.base,I.loc,I.cell,I.free,I.freeC,λ p O=>by
  rcases qx O with z | z
  ·exact I.pin p (List.mem_append.mpr (.inl z))
  ·rcases qw z with rfl | z
   ·exact⟨q,n,Z,Y,d⟩
   ·exact I.pin p (List.mem_append.mpr (.inr z)),I.hok,I.len⟩
theorem bD3 (I:Inv X ((a,o)::pins) σ H s):Inv (i_6 X a o) pins σ H s :=
 ⟨bJ3 I.ok,I.os,I.bare,I.base,I.loc,I.cell,I.free,I.freeC,λ p q=>I.pin p (by simp at q ⊢;rcases q with rfl | z | z <;> simp[*]),I.hok,I.len⟩
theorem V_3 (I:Inv (i_6 X a o) pins σ H s):Inv X pins σ H s :=
 ⟨bD1 I.ok,I.os,I.bare,I.base,I.loc,I.cell,I.free,I.freeC,λ p q=>I.pin p (qh _ q),I.hok,I.len⟩
theorem bj2 {D:Ends} (h:SP (i_6 X a o) pins D f s'):SP X pins D f s':=by
 cases f with
 |next=>obtain⟨O,H',I,q⟩:=h;exact⟨O,H',V_3 I,q⟩
 |brk=>obtain⟨O,H',I,q⟩:=h;exact⟨O,H',V_3 I,q⟩
 |cont=>obtain⟨O,H',I,q⟩:=h;exact⟨O,H',V_3 I,q⟩
 |ret u=>obtain⟨v,O,H',I,r,q⟩:=h;exact⟨v,O,H',V_3 I,r,q⟩
abbrev Q_4 (X:Cx) (a:Addr) (E:Value->Shared->Prop):Cx:={X with A:=X.A.mark (some (.ref a)),calm:=false,xe:=E}
theorem W_8  (I:Inv X pins σ H s) (b:Addr):Inv (Q_4 X b E) pins σ H s :=
 let k:=I.ok
 ⟨⟨k.mod,k.kind,k.glob,k.blt,k.above,k.inj,k.has,k.cab,(λ z=>nomatch z),k.frames,k.stk,k.exf,k.bs,k.bsz,k.noex,k.exfs,k.funs,k.frf⟩,I.os,I.bare,I.base,I.loc,I.cell,I.free,I.freeC,I.pin,I.hok,I.len⟩
theorem aw5  (ok:X.Ok) (I:Inv (Q_4 X b E) pins σ H s):Inv X pins σ H s :=
 ⟨ok,I.os,I.bare,I.base,I.loc,I.cell,I.free,I.freeC,I.pin,I.hok,I.len⟩
theorem aC8  (I:Inv X pins σ H s) (hN:X.N.Nodup) (hi:X.N[i]?=some x) (hm:s.heap.Ns X.env.locals m) (hn:h'.Ns X.env.locals (λ y=>if y=x then v else m y)) (Y:Heap.SameBut X.env.locals s.heap h') :
  Inv X pins (σ.set i none) H {s with heap:=h',toks:=t'}:=by
 have Z:∀ b o,X.s₀.heap.get? b=some o->b≠X.env.locals:=λ b o q=>qv (qt (qm q) I.ok.above);refine⟨I.ok,I.os,I.bare,⟨λ b o e n hb hx=>(Y.2 b (Z b o e)).trans (I.base.keep b o e n hb hx),λ b o e n hb hx=>?_,I.base.free,λ b o e hx=>?_,I.base.tups,I.base.frzs,I.base.tbls⟩,?_,λ y c e=>?_,I.free,I.freeC,λ p hp=>?_,λ b u e=>?_,by simpa using I.len⟩
 ·obtain⟨sl,q⟩:=I.base.slot b o e n hb hx;exact⟨sl,(Y.2 b (Z b o e)).trans q⟩
 ·obtain⟨o',q⟩:=I.base.there b o e hx;exact⟨o',(Y.2 b (Z b o e)).trans q⟩
 ·obtain⟨m1,aa,hl⟩:=I.loc;obtain⟨oL,af,ad,q1,d1,k1,f1⟩:=aa;obtain⟨ag,ae,ac,q2,d2,k2,f2⟩:=hm;rw[q1] at q2;cases q2;rw[d1] at d2;cases d2;have mm:=funext λ y=>(f2 y).symm.trans (f1 y);subst mm;refine⟨_,hn,λ j y u e1 e2 e3=>?_⟩;by_cases hj:j=i
  ·subst hj;rw[zv (by rw[I.len];exact (List.getElem?_eq_some_iff.mp hi).1)] at e2;cases e2
  ·rw[zt (yk hj)] at e2;obtain⟨w,r,l⟩:=hl j y u e1 e2 e3;have ne:y≠x:=λ z=>hj (E_5 hN e1 (z▸hi));refine⟨w,r,?_⟩;rcases l with ⟨k,e⟩ | ⟨k,c,e,z⟩
   ·exact .inl ⟨k,by simp[ne,e]⟩
   ·exact .inr ⟨k,c,e,z.sameBut Y (I.cne y c e)⟩
 ·obtain⟨w,z⟩:=I.cell y c e;exact⟨w,z.sameBut Y (I.cne y c e)⟩
 ·obtain⟨q,n,ne,nf,d⟩:=I.pin p hp;exact⟨(Y.2 p.1 ne).trans q,n,ne,nf,d⟩
 ·refine (I.hok b u e).stay (λ c w hc q=>(Y.2 c λ z=>?_).trans q) (λ _ q=>q) λ _ _ q=>q;subst z;have O:=I.free;rcases hc with rfl | hc
  ·rw[O] at e;cases e
  ·rw[O] at hc;cases hc
end
section
variable {X:Cx}{k:Nat}{x:Str}{g:List D->Option (D ⊕ XV)}{e0:Expr}{es:List Expr}{A:FA}{p pos:Pos}
def cc7 (X:Cx) (pins:List (Addr×Obj)) (σ:L2.St) (c:FC) (H0:Hp) (ρ':En) (y:XV) (e:Value) (s':Shared):Prop :=
 ∃ C a T dd H0' H',X.mg y.1=some (.ref C)/\e=.ref a/\Inv X pins σ H' s'/\Same H0 H0'/\RS X.K c H0' H' ρ' σ/\af0 X pins H' a/\af0 X pins H' T/\Fly s'.heap a T C dd .none/\XD X.K H0' H' y.2 dd
theorem bt4 (hf:∀ e s,X.xe e s → False) (G:DefX X.prog X.w X.K X.mg X.base k x g) (hr:Room k X.A) (ha:XA X (e0::es) A) (hg:Gl X x) (ac:(x==("__debug__":Str))=false)
  (he:starEach (e0::es) X.env=(false,eval e0 X.env)::starEach es X.env) (ad:(backTo pos (starEach es X.env)).any (·.1)=false)
   (I:Inv X pins σ H s) (R:RS X.K c H0 H ρ σ) (h1:A ρ=some (ds,ρ')) (h2:g ds=some r) :
  wpAny (model X.prog X.w) X.A (eval (.Call (.Name x p) (e0::es) [] pos) X.env) (λ _ s'=>(∃ d,r=.inl d)/\∃ H0' H',Inv X pins σ H' s'/\Same H0 H0'/\RS X.K c H0' H' ρ' σ) (λ e s'=>∃ y,r=.inr y/\cc7 X pins σ c H0 ρ' y e s') s:=by
 obtain⟨f,fd,ps,Fk,hb,hk,hm⟩:=G.ex;refine jv (m_0 I hg hm ?_ ac);refine callWith_K I.ok.mod.kin hk (z0 (ha pos pins s σ H (λ vs H'=>∃ H0',Same H0 H0'/\RS X.K c H0' H' ρ' σ/\Reps X.K H0' ds vs) I ⟨c,H0,ρ,ds,ρ',R,h1,λ vs H0' H' a b d=>⟨H0',a,b,d⟩⟩) (λ us s1 h=>?_) λ e s1 z=>(hf e s1 z).elim) he ad;obtain⟨vs,H1,O,rv,H0',sm,R1,rp⟩:=h;refine⟨O.kIn,?_⟩;have sp:spX X.K X.mg g vs H1 (λ _ H'=>(∃ d,r=.inl d)/\∃ H0'',Same H0 H0''/\RS X.K c H0'' H' ρ' σ) (λ cl dd H'=>∃ y C H0'',r=.inr y/\X.mg y.1=some (.ref C)/\cl=.ref C/\Same H0 H0''/\RS X.K c H0'' H' ρ' σ/\XD X.K H0'' H' y.2 dd):=by
  refine⟨H0',ds,r,R1.same,rp,h2,?_⟩;cases r with
  |inl d=>exact λ v Hi' H' S _=>⟨⟨d,rfl⟩,Hi',sm.trans S.s0,R1.after S⟩
  |inr y=>exact λ C dd Hi' H' m S xd=>⟨y,C,Hi',rfl,m,rfl,sm.trans S.s0,R1.after S,xd⟩
 have hl:us.length=ps.length:=by rw[<- rv.length];exact Fk.len _ _ _ _ sp
 have Y:=hb s1 us O.kIn (by rw[yn];exact hl);rw[yn] at Y;refine Zn (Qx (Fk.run X.A X.stack s1 H1 ⟨us,[]⟩ us vs _ _ hr O.env0 Y rv sp) λ z s' Z=>?_);cases z with
 |error e =>
  obtain⟨a,T,C,dd,H',rfl,os,gs,un,ok,na,nT,fa,fT,fl,y,C',H0'',hy,m,z,q,R',xd⟩:=Z;cases z;obtain⟨hh,gg,d,t,aa⟩:=s';obtain rfl:aa=s1.os:=os;have I2:=O.call (d':=d) (t':=t) un ok gs (λ b z=>absurd z (by simp));exact⟨y,hy,C,a,T,dd,H0'',H',m,rfl,I2,q,R',al3 O na fa,al3 O nT fT,fl,xd⟩
 |ok fl =>
  cases fl with
  |ret u =>
   obtain⟨v,H',I2,_,hd,H0'',q,R'⟩:=O.after Z;exact⟨hd,H0'',H',I2,q,R'⟩
  |next=>exact False.elim Z
  |brk=>exact False.elim Z
  |cont=>exact False.elim Z
def bR8 (X:Cx) (ie ik:Nat) (rest:List Stmt) (q:Ends) (σ:L2.St) (C:Addr) (dd:Option Addr) (H:Hp):Prop :=
 ∀ a vs,∃ t,PSs (i_6 X a (rcd (.ref C) vs dd)) rest t/\t q (((σ.set ik (some (.ref a))).set ie (some (.ref a))).set ik none) H
theorem ar3 {rest:List Stmt}
  (Z:X.stack=X.env::X.outer) (av:X.env.frame=some X.env.locals) (hN:X.N.Nodup) (al:X.N[ie]?=some xe) (O:X.N[ik]?=some Y) (le:X.env.scope.names.lookup xe=some .local) (lk:X.env.scope.names.lookup Y=some .local)
  (hg:Gl X wn) (hW:X.mg wn=some (.ref W)) (aq:(wn==("__debug__":Str))=false) (ah:(Y==("__debug__":Str))=false) (am:(Y==("__classdict__":Str))=false) (ap:∀ C,X.mg y.1=some (.ref C) → exmOne X.K (.ref C) (.ref W)=some true)
  (an:swapsWith (.Name Y p3) (some (.Name xe p2)) p4.line X.env=pure false)
  (q:∀ C dd H0' H',X.mg y.1=some (.ref C)->Same H0 H0'->RS X.K c H0' H' ρ' σ->XD X.K H0' H' y.2 dd->bR8 X ie ik rest Dn σ C dd H') (h:cc7 X pins σ c H0 ρ' y e s) :
  wpAny (model X.prog X.w) X.A (noteFrame e X.env) (λ _ aa=>wpAny (model X.prog X.w) X.A (setFlight e none) (λ _ ae =>
   wpAny (model X.prog X.w) X.A (handleBy e X.env [.ExceptHandler (some (.Name wn p1)) (some Y) [.Assign [.Name xe p2] (.Name Y p3) p4] p5]) (λ f s4=>match f with | .next=>wpAny (model X.prog X.w) X.A (execs rest X.env) (SP X pins Dn) X.xe s4 | f=>SP X pins Dn f s4) X.xe ae) X.xe aa) X.xe s:=by
 obtain⟨C,a,T,dd,H0',H',m,rfl,I1,sm,R,ya,yT,fl,xd⟩:=h;have fr:=I1.ok.frames;rw[Z] at fr;have st:=I1.stack;rw[Z] at st;refine w_4 fr st av fl λ h2 T2 ad z2 ak=>?_;rw[<- Z] at ad;have I2:=B_3 (t':=s.toks) I1 ad (by simpa using ⟨ya,yT⟩);have d2:=ji z2;have y2:=al3 I1 d2 (q_5 I1.hok d2);refine E_9 ak λ h3 ar ag=>?_;have I3:=B_3 (t':=s.toks) (es:=[T2]) I2 (Aw.of λ b o n z=>(ar.2 b (by simpa using n)).trans z) (by simpa using y2);refine wpAny_handleBy_cons (codeAny_handlers_test (m_0 (W_8 (E:=X.xe) I3 a) hg hW ?_ aq)) (by intro z;cases z);have L0:Looks (model X.prog X.w) h3 (typeOf (.ref a)) (.ref C):=by obtain⟨_,⟨vs,q1,_⟩,_⟩:=ag;exact (Looks.ld q1).andThen .now
 refine (exm_one I3.kIn L0 (ap C m)).at ?_;refine codeAny_handlers_suite_as (E_9 ag λ h4 as au=>?_);have I4:=B_3 (t':=s.toks) (es:=[T2]) I3 (Aw.of λ b o n z=>(as.2 b (by simpa using n)).trans z) (by simpa using y2);obtain⟨_,⟨vs,q4,_⟩,_⟩:=id au;have nf:=λ z=>V_9 I4.funs q4 z;have I5:=be6 I4 q4 ya.1 ya.2.1 nf (λ v z=>nomatch z);refine C_6 (v:=.ref a) I5 hN O (.inl lk) rfl (λ s5 I6=>?_) (.inr lk);have go:=o_3 (X:=Q_4 X a λ _ _=>False) (A_6 hN al (.inl le) (pv ik O (Or.inl lk) ah am) an (.inr le));have ac:ik<σ.length:=by rw[I1.len];exact (List.getElem?_eq_some_iff.mp O).1
 refine z0 (go _ s5 _ H' {nx:=λ ao H''=>H''=H'/\ao=(σ.set ik (some (.ref a))).set ie (some (.ref a)),rt:=λ _ _=>False} (W_8 I6 a) ⟨.ref a,zv ac,rfl,rfl⟩) (λ f s6 h6=>?_) λ _ _ z=>z.elim;cases f with
 |brk=>obtain⟨_,_,_,z⟩:=h6;exact z.elim
 |cont=>obtain⟨_,_,_,z⟩:=h6;exact z.elim
 |ret u=>obtain⟨_,_,_,_,_,z⟩:=h6;exact z.elim
 |next =>
  obtain⟨aw,H6,I7,rfl,rfl⟩:=h6;have I8:=aw5 I1.ok I7;obtain⟨m8,af,_⟩:=id I8.loc;refine wpAny_nameGoes_keeps lk af (by rw[I8.ok.kind];rfl) λ h9 v ai aj=>?_;have I9:=bD3 (aC8 (t':=s6.toks+1) I8 hN O af ai aj);obtain⟨t,ht,hq⟩:=q C dd H0' H6 m sm R xd a vs;exact z0 (ht pins _ _ H6 Dn I9 hq) (λ f s' z=>bj2 z) λ _ _ z=>z
theorem aS3 {OK:Str->Prop}{rest:List Stmt}{tN:TS} (hf:∀ e s,X.xe e s->False) (G:DefX X.prog X.w X.K X.mg X.base k x g) (hr:Room k X.A) (ha:XA X (e0::es) A)
  (am:X.stack=X.env::X.outer) (an:X.env.frame=some X.env.locals) (hN:X.N.Nodup) (ae:X.N[ie]?=some xe) (aj:X.N[ik]?=some O) (le:X.env.scope.names.lookup xe=some .local) (lk:X.env.scope.names.lookup O=some .local)
  (af:Gl X Z) (hW:X.mg Z=some (.ref W)) (ak:∀ y C,X.mg y=some (.ref C)->OK y->exmOne X.K (.ref C) (.ref W)=some true) (hs:PSs X rest tN)
  (ah:swapsWith (.Name O p3) (some (.Name xe p2)) p4.line X.env=pure false:=by rfl) (ad:swapsWith (.Call (.Name x p) (e0::es) [] pos) none p6.line X.env=pure false:=by rfl)
  (al:(Z==("__debug__":Str))=false:=by decide) (aa:(O==("__debug__":Str))=false:=by decide) (ag:(O==("__classdict__":Str))=false:=by decide) (hg:Gl X x:=by rfl) (ac:(x==("__debug__":Str))=false:=by decide)
  (he:starEach (e0::es) X.env=(false,eval e0 X.env)::starEach es X.env:=by rfl) (ai:(backTo pos (starEach es X.env)).any (·.1)=false:=by rfl) :
  PSs X (.Try [.Expr (.Call (.Name x p) (e0::es) [] pos) p6] [.ExceptHandler (some (.Name Z p1)) (some O) [.Assign [.Name xe p2] (.Name O p3) p4] p5] [] [] p7::rest)
   (λ Y σ H=>∃ c H0 ρ ds ρ' r,RS X.K c H0 H ρ σ/\A ρ=some (ds,ρ')/\g ds=some r/\match r with
    |.inl _=>∀ H0' H',Same H0 H0'->RS X.K c H0' H' ρ' σ->tN Y σ H'
    |.inr y=>OK y.1/\∀ C dd H0' H',X.mg y.1=some (.ref C)->Same H0 H0'->RS X.K c H0' H' ρ' σ->XD X.K H0' H' y.2 dd->bR8 X ie ik rest Y σ C dd H'):=by
 intro pins s σ H Y I ⟨c,H0,ρ,ds,ρ',r,R,h1,h2,q⟩;refine Yg (wpAny_Try_except (Yg (wpAny_Expr_any (z0 (bt4 hf G hr ha hg ac he ai I R h1 h2) (λ v s1 z=>?_) λ e s1 z=>?_) I.quiet ad)))
 ·obtain⟨⟨d,rfl⟩,H0',H',I1,sm,R1⟩:=z;exact Zy (Zy (hs pins s1 σ H' Y I1 (q H0' H' sm R1)))
 ·obtain⟨y,rfl,z⟩:=z;exact ar3 am an hN ae aj le lk af hW al aa ag (λ C m=>ak y.1 C m q.1) ah q.2 z
end
theorem bv2 {K:Frag} (h:mroIn K c v=some b):(clsIn K c).isSome=true:=by
 unfold mroIn at h;cases e:clsIn K c with
 |none=>rw[e] at h;cases h
 |some d=>rfl
theorem p_6  (h:H p=none):Same H (upd H p o):=λ b u e=>by
 rw[a_8 λ z=>by rw[z,h] at e;cases e];exact e
def XTr (H:Hp):Option Addr->Prop
 |none=>True
 |some dx=>∃ fs,H dx=some (.xd fs)
section
theorem an8  (I:Inv (i_6 X a (rcd (.ref C) vs dd)) pins σ H s) (t:XTr H dd):∃ od,InstAt s.heap a (rcd (.ref C) vs dd) C od:=by
 have q:=(I.pin (a,rcd (.ref C) vs dd) (qg)).1;cases dd with
 |none=>exact⟨none,q,rfl,rfl,trivial⟩
 |some dx =>
  obtain⟨fs,e⟩:=t;obtain⟨Y,⟨o,_,_,O,_⟩,_⟩:=(show ObjOk _ _ H s.heap dx (.xd fs) from I.hok dx _ e);exact⟨some o,q,rfl,rfl,O⟩
theorem Z_0  (f:XC X.K C) (Z:∀ w,RelV v w → w=u) (O:kitOne X.K (.ref C) u=some b):CallR (i_6 X a (rcd (.ref C) vs dd)) (.builtin "isinstance") (λ xs H Q=>xs=[.ref a,v] ∧ XTr H dd ∧ Q (.bl b) H):=by
 intro pins s σ H xs us Q I r h;obtain⟨rfl,xt,q⟩:=h;obtain⟨u1,u2,rfl,r1,r2⟩:=ag5 r;obtain rfl:u1=.ref a:=r1;obtain rfl:=Z u2 r2;obtain⟨od,Y⟩:=an8 I xt;exact kia_one f.kitx I.kIn Y O (λ z=>nomatch z) λ tk=>⟨.bl b,H,I.tok tk,rfl,q⟩
theorem aF3 {cs:List Addr} (f:XC X.K C) (hk:kitAny X.K (.ref C) (cs.map Value.ref)=some b):CallR (i_6 X a (rcd (.ref C) vs dd)) (.builtin "isinstance") (λ xs H Q=>∃ t,xs=[.ref a,.ref t] ∧ H t=some (.tup (cs.map V.ref)) ∧ XTr H dd ∧ Q (.bl b) H):=by
 intro pins s σ H xs us Q I r h;obtain⟨t,rfl,ht,xt,q⟩:=h;obtain⟨od,ia⟩:=an8 I xt;obtain⟨u1,u2,rfl,Z,r2⟩:=ag5 r;obtain rfl:u1=.ref a:=Z;obtain rfl:u2=.ref t:=r2;obtain⟨_,O,rv,o,e1,e2,⟨n,e3⟩,e4⟩:=(show ObjOk _ _ H s.heap t (.tup (cs.map V.ref)) from I.hok t _ ht);have Y:∀ (cs:List Addr) (O:List Value),Vals (cs.map V.ref) O->O=cs.map Value.ref:=by
  intro cs;induction cs with
  |nil=>intro O r;cases r;rfl
  |cons c l ih =>
   intro O r;cases r with
   |cons Z r2 =>
    rw[ih _ r2];rw[show _=Value.ref c from Z];rfl
 rw[Y cs O rv] at e3;obtain⟨oc,aa,dt,sl⟩:=o;cases e2;cases e3;cases e4;exact kia_tup f.kitx I.kIn ia e1 hk (λ z=>nomatch z) λ tk=>⟨.bl b,H,I.tok tk,rfl,q⟩
theorem v_9 {D:Addr} (O:Y.mg x=some (.ref D)) (q:Gl Y x:=by rfl) (hd:(x==("__debug__":Str))=false:=by decide):PE Y (.Name x p) (tC (.ref D)):=λ pins s σ H Q I h=>m_0 I q O ⟨.ref D,H,I,rfl,h⟩ hd
end
end Fx
namespace Fx
open PySem
def goX (G:FX):RX->Option RX
 |.ok (.nx ρ)=>G ρ
 |.ok (.ct ρ)=>G ρ
 |.ok (.bk ρ)=>some (.ok (.nx ρ))
 |z=>some z
def xGo (g:D->En->Option En) (B:FX):List D->FX
 |[],ρ=>some (.ok (.nx ρ))
 |d::r,ρ=>bnd (g d ρ) λ q=>bnd (B q) λ z=>goX (xGo g B r) z
theorem aO7 (g:D->En->Option En) (B:FX) (ρ:En):xGo g B [] ρ=some (.ok (.nx ρ)):=rfl
theorem C_2 (g:D->En->Option En) (B:FX) (d:D) (r:List D) (ρ:En):xGo g B (d::r) ρ=bnd (g d ρ) λ q=>bnd (B q) λ z=>goX (xGo g B r) z:=rfl
end Fx
namespace Fx
open PySem PySem.W PySem.Spec PyProof.Rows L2
def Flt (X:Cx) (E:XK) (e:Value) (s':Shared):Prop:=∃ σ H1 a C dd,e=.ref a/\Inv X [] σ H1 s'/\H1 a=none/\X.s₀.heap.get? a=none /\
 ((∃ vs,s'.heap.get? a=some (rcd (.ref C) vs dd)/\vs[1]?=some .none)\/∃ T q,(q=.none\/q=rawInt X.env.locals)/\H1 T=none/\X.s₀.heap.get? T=none/\Fly s'.heap a T C dd q)/\E (.ref C) dd H1
section
theorem V_8  (Z:X.pn=[]) (I:Inv X [] σ H s) (q:s.heap.get? a=some (rcd c vs dd)) (h:H a=none) (n:X.s₀.heap.get? a=none):af0 X [] H a:=by
 refine⟨h,λ z=>?_,.inr n,λ x Y e z=>?_,λ p m=>?_⟩
 ·obtain⟨m,⟨o,es,ep,O,d,_⟩,_⟩:=I.loc;rw[<- z,q] at O;cases O;cases d
 ·obtain⟨v,o,O,d⟩:=I.cell x Y e;rw[z,q] at O;cases O;cases d
 ·rw[Z] at m;cases m
theorem aZ0 (Y:X.stack=X.env::X.outer) (Z:X.env.frame=some X.env.locals) (hx:X.ex=[]) (hp:X.pn=[]):PassesOwn (model X.prog X.w) X.A X.env (Flt X E):=by
 rintro e s' ⟨σ,H1,a,C,dd,rfl,I,fa,na,th,q⟩;have fr:=I.ok.frames;rw[Y] at fr;have st:=I.stack;rw[Y] at st;have aa:∀ b,s'.heap.get? b=none->X.s₀.heap.get? b=none:=λ b z=>by
  cases w:X.s₀.heap.get? b with
  |none=>rfl
  |some o =>
   obtain⟨o',w'⟩:=I.base.there b o w (by rw[hx];intro y;cases y);rw[z] at w';cases w'
 have on:∀ (h':Heap) (T:Addr),Inv X [] σ H1 {s' with heap:=h'}->H1 T=none->X.s₀.heap.get? T=none->Fly h' a T C dd (rawInt X.env.locals)->cameBackBy (model X.prog X.w) X.A X.env (Flt X E) (.ref a) {s' with heap:=h'}:=λ h' T I' fT nT O=>by
  unfold cameBackBy;rw[Z];refine bs7 O λ h2 sb ad=>⟨σ,H1,a,C,dd,rfl,?_,fa,na,.inr ⟨T,_,.inr rfl,fT,nT,ad⟩,q⟩
  obtain⟨_,_,ts,ht,_⟩:=id O;exact B_3 (es:=[T]) I' (Aw.of λ b o n z=>(sb.2 b (by simpa using n)).trans z) (by simpa using V_8 hp I' ht fT nT)
 rcases th with ⟨vs,ea,h1⟩ | ⟨T,_,rfl | rfl,fT,nT,O⟩
 ·refine A_8 fr st Z ea h1 λ h' T aw z O=>?_;have dT:=ji z;rw[<- Y] at aw;exact on h' T (B_3 I aw (by simpa using V_8 hp I ea fa na)) (q_5 I.hok dT) (aa T dT) O
 ·obtain⟨_,⟨vs,ea,_⟩,ts,ht,_⟩:=id O;refine w_4 fr st Z O λ h' T' aw z ac=>?_;have dT:=ji z;rw[<- Y] at aw;exact on h' T' (B_3 I aw (by simpa using ⟨V_8 hp I ea fa na,V_8 hp I ht fT nT⟩)) (q_5 I.hok dT) (aa T' dT) ac
 ·exact J_9 Z O (on s'.heap T I fT nT O)
end
section
variable {K:Frag}
abbrev cxY (P:Program) (w:World) (K:Frag) (mg:Str->Option Value) (base:Heap) (N:List Str) (qual:Str) (scope:Scope) (f:Addr) (cd:Value) (A:Around) (outer:List Env) (s:Shared) (H:Hp) (E:XK):Cx :=
 (H_5 (CXE P w) P w K mg base N qual scope f cd A outer s H E).wish (Flt (H_5 (CXE P w) P w K mg base N qual scope f cd A outer s H E) E)
theorem bI7:PassesOwn (model P w) (cxY P w K mg base N qual scope f cd A outer s H E).A (cxY P w K mg base N qual scope f cd A outer s H E).env (cxY P w K mg base N qual scope f cd A outer s H E).xe :=
 aZ0 rfl rfl rfl rfl
theorem I_8:S_3 (cxY P w K mg base N qual scope f cd A outer s H E) E:=λ pins σ H1 Z e C dd vs I O ne Y h1 q=>⟨σ,H1,e,C,dd,rfl,(I.pins_of (pins':=[]) λ p z=>nomatch z).unwish,O,ne,.inl ⟨vs,Y,h1⟩,q⟩
theorem aV7  (h:PSs (cxY P w K mg base N qual scope f cd A outer s H E) sts t):PSs (H_5 (CXE P w) P w K mg base N qual scope f cd A outer s H E) sts t:=λ pins s1 σ H1 D I hw =>
 z0 (h pins s1 σ H1 D (I.wish _) hw) (λ _ _ q=>q.unwish) λ e s' O=>by
  obtain⟨σ,H1,a,C,dd,ea,I,Y,Z,th,q⟩:=O;subst ea;exact aB9 I Y Z th q
end
theorem bs4 {K:Frag}{st:Stmt} (F:Fun K x qual st f fd) (S:FnScope N ps (a_2 st)) (Z:ps.length=n) (O:N.length=n+m)
  (hb:∀ (q:Value) (A:Around) (outer:List Env) (s:Shared) (H:Hp) (E:XK),Room k (A.deeper (envOfC qual (a_2 st) s.heap.objs.size f q))->XX (cxY P w K mg base N qual (a_2 st) f q A outer s H E) E (h_3 st) B) :
  FnOk P w K mg base (CXE P w) (k+1) f fd ps (spX K mg (fnX n m B)):=bs5 F S Z O λ q A outer s H E Y=>aV7 (hb q A outer s H E Y)
section
variable {X:Cx}{E:XK}{A:FA}{B:FX}{F:FE}{k:Nat}{x:Str}{g:List D->Option (D ⊕ XV)}{e0:Expr}{es:List Expr}{p pos p6:Pos}
theorem aT2:Z_6 (CXE X.prog X.w) X E0:=λ _ _ _ _ _ _ _ ⟨_,_,_,_,_,_,_,_,_,_,_,_,_,_,_,q⟩=>q.elim
end
end Fx
namespace Fx
open PySem PySem.W PySem.Spec PyProof.Rows L2 Builtin.ObjectAttr
def P_1:List Value->Bool
 |[]=>false
 |v::r=>v::r==bmV||match v with
  |.ref _=>P_1 r
  |_=>false
theorem bo3  (h:P_1 (v::r)=true):v::r=bmV\/∃ c,v=.ref c/\P_1 r=true:=by
 rcases Bool.or_eq_true_iff.mp h with h | h
 ·exact .inl (beq_iff_eq.mp h)
 ·cases v with
  |ref c=>exact .inr ⟨c,rfl,h⟩
  |_=>cases h
theorem aJ7 (self:Value):∀ {l:List Value},P_1 l=true → refuseLoop self "__setattr__" l=pure () ∧ l.contains (.type "object")=true
 |[],e=>nomatch e
 |v::r,e=>by
  rcases bo3 e with h | ⟨c,rfl,h⟩
  ·rw[h];exact⟨PySem.F.store_ValueError.passes self,by decide⟩
  ·obtain⟨a,b⟩:=aJ7 self h;exact⟨(refuseLoop_ref ..).trans a,by rw[List.contains_cons,b,Bool.or_true]⟩
section
variable {K:Frag}
structure XS1 (K:Frag) (C:Addr) (name:Str):Prop where
 sa:findIn K (.ref C) "__setattr__"=some (some (.builtin "object.__setattr__"))
 na:findIn K (.ref C) name=some none
 cl:∃ cd,clsIn K C=some cd/\P_1 cd.mro=true/\cd.hasDict=true
theorem ap4  (X:K.In s.heap) (f:XS1 K C name) (he:s.heap.get? e=some (rcd (.ref C) vs))
  (h:∀ h' dx tk,dx=s.heap.objs.size->h'.get? e=some (rcd (.ref C) vs (some dx))->h'.Ns1 dx (λ y=>if y=name then some v else none)->(∀ b o,b≠e->s.heap.get? b=some o->h'.get? b=some o)->dx≠e->Q () {s with heap:=h',toks:=tk}) :
  wpAny (model prog w) A (setAttr (.ref e) name v) Q E s:=by
 obtain⟨O,g,d,t,os⟩:=s;have I:InstAt O e (rcd (.ref C) vs) C none:=⟨he,rfl,rfl,trivial⟩;obtain⟨cd,hc,ho,hd⟩:=f.cl;obtain⟨p1,p2⟩:=aJ7 (.ref e) ho;have ne:cd.mro.isEmpty=false:=by
  cases z:cd.mro with
  |nil=>rw[z] at ho;cases ho
  |cons _ _=>rfl
 have Z:=PySem.F.store_object;have L0:=I.type (M:=model prog w);have Lc:=looks_clsIn (M:=model prog w) X hc;have sub:Looks (model prog w) O (isInstance (.ref e) (.type "object")) true:=L0.andThen (looks_mroIn X (by unfold mroIn;rw[hc,Option.bind_some,ne,p2];rfl));have hm:Looks (model prog w) O (mroOf (.ref C)) cd.mro:=Lc.andThen .now;have La:=looks_findIn (M:=model prog w) X f.na;refine set_plain X I f.sa ?_;refine Zw Z.slot.plain Z.entry (@check_slot (model prog w) _ _ ⟨O,g,d,t+1,os⟩ "object.__setattr__" "object" "__setattr__" (.ref e) [.str name t,v] [] _ Z.kind Z.split sub (Z.args (.ref e) (.str name t) v) ?_);rw[osa_eq,refuse_eq];refine qb (qb (L0.at (qb (hm.at ?_))));rw[p1];refine qc (qb (L0.at (qb (La.at (qb (qc ?_))))));refine qb (qc (qb (qb (wpAny_loadPart he (qb (Lc.at ?_))))));rw[hd];have big:=qv (qm he);have Y:=qf {cls:=.type "dict",data:=.dict #[]} he;refine qb (wpAny_alloc' (qb (wpAny_update' Y (qc ?_))));generalize hU:(O.push {cls:=.type "dict",data:=.dict #[]}).update e (λ o=>{o with dict:=some O.objs.size})=U;have gd:U.get? O.objs.size=some {cls:=.type "dict",data:=.dict #[]}:=by rw[<- hU];exact (Heap.get?_update_ne _ _ _ _ big.symm).trans (Heap.get?_push_at rfl rfl)
 have ge:U.get? e=some (rcd (.ref C) vs (some O.objs.size)):=by rw[<- hU];exact ju _ Y rfl
 have go:∀ b o,b≠e->O.get? b=some o->U.get? b=some o:=λ b o n q=>by
  rw[<- hU];exact (Heap.get?_update_ne _ _ _ _ n).trans (qf _ q)
 have nd:U.Ns O.objs.size (λ _=>none):=⟨_,#[],_,gd,rfl,λ _ z=>absurd z (by simp),λ _=>rfl⟩;show wpAny _ _ (storeInDict O.objs.size (.str name t) name v) _ _ _;refine qb (qc (qb (wpAny_nsSet1 (Heap.Ns1.of_empty nd) λ h' n1 sb=>?_)));obtain⟨oD,es,ep,q1,q2,q3⟩:=n1.count (Within.cons name v Within.nil);refine qb (wpAny_lookBehind q1 ?_ (qc ?_))
 ·rw[q2];exact pastItsLine_dict (zo q3 (show 1<=sizeLine+1 by decide))
 ·exact h h' O.objs.size _ rfl ((sb.2 e big).trans ge) n1 (λ b o n q=>(sb.2 b (qv (qm q))).trans (go b o n q)) big.symm
end
abbrev U_6 (e:Addr) (o:Obj):HO:=.ext λ h=>h.get? e=some o
theorem aI6  (q:h.get? e=some o):ObjOk P w H h e (U_6 e o):=⟨q,⟨o,q⟩,λ _ _ a k=>k o a⟩
section
def bG0 (K:Frag) (ta tv:TE) (f:Str):TS:=λ q σ H=>tv σ H λ y H1=>ta σ H1 λ x H2=>∃ e C vs,x=.ref e/\XS1 K C f/\H2 e=some (U_6 e (rcd (.ref C) vs))/\∀ dx,H2 dx=none->dx≠e->q.nx σ (upd (upd H2 dx (.xd [(f,y)])) e (U_6 e (rcd (.ref C) vs (some dx))))
theorem aS5 (ha:PE X o ta) (hv:PE X value tv) (hs:swapsWith value (some (.Attribute o f pos')) pos.line X.env=pure false:=by rfl):PS X (.Assign [.Attribute o f pos'] value pos) (bG0 X.K ta tv f):=by
 intro pins s σ H D I h;refine plainObj_wpAny_Assign_Attribute (thn (hv pins s σ H _ I h) λ u s1=>ex5 λ y H1 I1 ry q=>thn (ha pins s1 σ H1 _ I1 q) λ ov O=>ex5 λ x H2 Y rx q2=>?_) hs;obtain⟨e,C,vs,rfl,c,he,q3⟩:=q2;obtain rfl:ov=.ref e:=rx;obtain⟨q,_,_⟩:=(show ObjOk _ _ H2 O.heap e (U_6 e (rcd (.ref C) vs)) from Y.hok e _ he);refine ap4 Y.kIn c q λ h' dx tk ed g1 g2 g3 ne=>?_;subst ed;have fr:=Y.fresh;obtain⟨Z,es,ep,k1,k2⟩:=id g2;have J1:Inv X pins σ (upd H2 O.heap.objs.size (.xd [(f,y)])) {O with heap:=O.heap.push Z}:=by
  refine Y.laid (λ b u z=>qf _ z) (qj _) ⟨_,⟨Z,es,ep,qk _ ?_,k2⟩,λ n=>?_⟩
  ·exact (Heap.get?_some_iff.mp k1).2
  ·by_cases z:n=f
   ·subst z;simpa [List.lookup,RelO] using ry
   ·simp[List.lookup,beq_false_of_ne z,z,RelO]
 have J2:=J1.write (t':=tk) (by rw[a_8 ne.symm,he];trivial) (.inl rfl) (λ b u n z=>?_) ⟨_,g1⟩ (aI6 g1)
 ·exact⟨σ,_,J2,q3 _ fr ne⟩
 ·rcases Y2 z with ⟨rfl,rfl⟩ | z
  ·exact k1
  ·exact g3 b u n z
end
end Fx
namespace Fx
open PySem PySem.W PySem.Spec PyProof.Rows L2
section
variable {os:OsState}
variable {sub:List Value}
abbrev clX (nm qn:Str) (C N:Addr) (bs bm:List Value) (hd:Bool) (sn:List Str) (sub:List Value) (ab:Bool) (col:Option Bool) (dd:Option Addr) (k0 k1 k2 k3 k5:Option Value):Obj:=excClassObj nm qn C N bs bm hd sn sub ab col dd k0 k1 k2 k3 k5 "ValueError.__new__"
theorem bi3  (T:OwnTail h bmV bm) (O:h.get? C=some (clX nm qn C N bs bm hd sn sub ab col dd k0 k1 k2 k3 k5)) (nN:h.Ns N mN) (hi:mN "__init__"=some (.ref fI)) (gI:h.get? fI=some oI) (cI:oI.cls=.type "function") (hz:us.length ≤ sizeLine)
  (go:∀ h' e,h.objs.size<=e->Heap.MadeExcOf h h' e (.ref C) us->wpAny (model prog w) A (call (.ref fI) (.ref e::us)) (λ r s'=>r=.none/\Q (.done (.ret (.ref e))) s') E ⟨h',g,d,t,os⟩) :
  wpAny (model prog w) A (Builtin.«type.__call__» ⟨.ref C::us,[]⟩) Q E ⟨h,g,d,t,os⟩:=by
 have B:=F.excBase_ValueError;have Y:bmV.contains (.type "ValueError")=true:=by decide
 repeat (first
  |with_reducible refine Ze O ?_
  |with_reducible refine wpAny_madeBy_exc O ?_
  |wp_step)
 refine codeAny_call_builtin_code (Code.quiet_builtin _ B.quiet) (wpAny_check_new_subU B Y T O ?_);refine codeAny_exc_new_subU B Y B T O ?_ hz;have Z:∀ b o,h.get? b=some o → ((h.push {cls:=.type "tuple",data:=.seq us.toArray}).push {cls:=.ref C,data:=.fields #[.ref h.objs.size,.none,.none,.none,.bool false,.none]}).get? b=some o:=λ b o q=>qf _ (qf _ q);have ge:((h.push {cls:=.type "tuple",data:=.seq us.toArray}).push {cls:=.ref C,data:=.fields #[.ref h.objs.size,.none,.none,.none,.bool false,.none]}).get? (h.objs.size+1)=some {cls:=.ref C,data:=.fields #[.ref h.objs.size,.none,.none,.none,.bool false,.none]}:=Heap.get?_push_at (by rw[zw]) rfl;have gt:((h.push {cls:=.type "tuple",data:=.seq us.toArray}).push {cls:=.ref C,data:=.fields #[.ref h.objs.size,.none,.none,.none,.bool false,.none]}).get? h.objs.size=some {cls:=.type "tuple",data:=.seq us.toArray}:=qf _ (qk _ rfl);generalize (h.push {cls:=.type "tuple",data:=.seq us.toArray}).push {cls:=.ref C,data:=.fields #[.ref h.objs.size,.none,.none,.none,.bool false,.none]}=U at *;have cU:=Z _ _ O;have nU:U.Ns N mN:=let ⟨o,es,ep,q,r⟩:=nN;⟨o,es,ep,Z _ _ q,r⟩;have TU:=T.keeps Z;have self:(Value.ref C::bm).contains (.ref C)=true:=by simp
 repeat (first
  |with_reducible refine Ze ge ?_
  |(with_reducible refine wpAny_isSubtype_exc cU ?_;rw[self])
  |wp_step)
 refine wpAny_typeLookup_tail cU nU TU B.mroIs B.init.lookup ?_;rw[hi];refine yh (qb ?_);refine qb (Yl ⟨_,Z _ _ gI,cI⟩ ?_);rw[if_pos (by decide)];refine qc (qb (z0 (go U (h.objs.size+1) (Zc _) ⟨Z,ji (Zc _),h.objs.size,ge,ji (qj _),gt⟩) (λ r s' z=>?_) λ _ _ z=>z));obtain⟨rfl,z⟩:=z;wp_walk;exact z
theorem bQ5  (T:OwnTail h bmV bm) (q:h.get? C=some (clX nm qn C N bs bm hd sn sub ab col dd k0 k1 k2 k3 k5)) (Z:h.Ns N mN) (hi:mN "__init__"=some (.ref fI)) (gI:h.get? fI=some oI) (cI:oI.cls=.type "function") (O:us.length ≤ sizeLine)
  (Y:∀ h' e,h.objs.size ≤ e → Heap.MadeExcOf h h' e (.ref C) us → wpAny (model prog w) (A.under (.builtin "type.__call__" ⟨.ref C::us,[]⟩)) (call (.ref fI) (.ref e::us)) (λ r s'=>r=.none ∧ Q (.ref e) s') E ⟨h',g,d,t,os⟩) :
  wpAny (model prog w) A (call (.ref C) us) Q E ⟨h,g,d,t,os⟩:=by
 have l1:=tc_lookup;have l2:=tc_bind (.ref C);have ty:(⟨h,g,d,t,os⟩:Shared).TypeIs (.ref C) "type":=⟨_,q,rfl⟩;refine Zn (Yr ?_)
 repeat (any_goals (first
  |assumption
  |with_reducible refine Ze q ?_
  |wp_step))
 refine⟨rfl,codeAny_call_builtin_at (Code.quiet_builtin _ (by decide +kernel)) entry_typeCall (wpAny_check_type_call_sub q (bi3 T q Z hi gI cI O λ h' e z m=>?_))⟩;exact Y h' e z m
end
section
variable {prog:Program}{w:World}{A:Around}{E:Value->Shared->Prop}{s:Shared}{env:Env}
variable {nm qn:Str}{C N fI:Addr}{bs bm:List Value}{hd:Bool}{sn:List Str}{sub:List Value}{ab:Bool}{col:Option Bool}{dd:Option Addr}{k0 k1 k2 k3 k5:Option Value}{mN:Str->Option Value}{oI:Obj}
theorem cg8  (hb:bm.contains (.type "BaseException")=true) (hh:A.handled=none)
  (h:wpAny (model prog w) A x (λ v O=>∃ e t od,v=.ref e/\O.heap.get? C=some (clX nm qn C N bs bm hd sn sub ab col dd k0 k1 k2 k3 k5)/\O.heap.get? e=some (rcd (.ref C) #[.ref t,.none,.none,.none,.bool false,.none] od)/\E (.ref e) O) E s) :
  wpAny (model prog w) A (raiseStmt env (some x) none) Q E s:=by
 have hB:(Value.ref C::bm).contains (.type "BaseException")=true:=by rw[List.contains_cons,hb,Bool.or_true]
 refine qb (z0 h (λ v O z=>?_) λ _ _ z=>z);obtain⟨e,t,od,rfl,Z,Y,q⟩:=z;obtain⟨hp,g,d,tk,os⟩:=O;have Y:hp.get? e=some {cls:=.ref C,dict:=od,data:=.fields #[.ref t,.none,.none,.none,.bool false,.none],slots:=#[]}:=Y
 repeat (first
  |with_reducible refine Ze Y ?_
  |with_reducible refine Ze Z ?_
  |(with_reducible refine wpAny_isSubtype_exc Z ?_;rw[hB])
  |wp_step)
 exact wpAny_raiseNew_none hh q
theorem bl3  (hb:bm.contains (.type "BaseException")=true) (hh:A.handled=none) (Z:(backTo cpos (starEach args env)).any (·.1)=false)
  (h:wpAny (model prog w) A (eval (.Name x np) env) (λ f s1=>f=.ref C/\wpAny (model prog w) A (evalArgs (.ref C) true (backTo cpos (starEach args env)) [])
   (λ a O=>a.kw=[] ∧ a.pos.length ≤ sizeLine ∧ O.heap.get? C=some (clX nm qn C N bs bm hd sn sub ab col dd k0 k1 k2 k3 k5) ∧ O.heap.Ns N mN ∧ mN "__init__"=some (.ref fI) ∧ O.heap.get? fI=some oI ∧ oI.cls=.type "function" ∧ OwnTail O.heap bmV bm ∧
    ∀ h' e,O.heap.objs.size ≤ e → Heap.MadeExcOf O.heap h' e (.ref C) a.pos → wpAny (model prog w) (A.under (.builtin "type.__call__" ⟨.ref C::a.pos,[]⟩)) (call (.ref fI) (.ref e::a.pos)) (λ r Y=>r=.none ∧ Y.heap.get? C=some (clX nm qn C N bs bm hd sn sub ab col dd k0 k1 k2 k3 k5) ∧
     (∃ t od,Y.heap.get? e=some (rcd (.ref C) #[.ref t,.none,.none,.none,.bool false,.none] od))/\E (.ref e) Y) E {O with heap:=h'}) E s1) E s) :
  wpAny (model prog w) A (exec (.Raise (some (.Call (.Name x np) args [] cpos)) none pos) env) Q E s:=by
 rw[arm_exec_Raise];refine qb (Zt (cg8 hb hh (C:=C) (nm:=nm) (qn:=qn) (N:=N) (bs:=bs) (hd:=hd) (sn:=sn) (sub:=sub) (ab:=ab) (col:=col) (dd:=dd) (k0:=k0) (k1:=k1) (k2:=k2) (k3:=k3) (k5:=k5) ?_));refine qb (z0 (wpAny_Call_ofName (z0 h (λ f s1 z=>?_) λ _ _ z=>z)) (λ v Y z=>qb (Zt (qc z))) λ _ _ z=>z);obtain⟨rfl,z⟩:=z;refine qb (yh (z0 z (λ a O y=>qb (Zt ?_)) λ _ _ z=>z));obtain⟨us,kw⟩:=a;obtain⟨rfl,hz,cC,nN,hi,gI,cI,T,go⟩:=y;obtain⟨hp,g,d,tk,os⟩:=O;simp only[Z];refine qb (wpAny_keeperOf_exc cC (qb (bQ5 T cC nN hi gI cI hz λ h' e y m=>z0 (go h' e y m) (λ r Y y=>⟨y.1,?_⟩) λ _ _ z=>z)));obtain⟨_,c3,⟨t,od,ge⟩,q⟩:=y;exact qb (yh (wpAny_point (qc ⟨e,t,od,rfl,c3,ge,q⟩)))
end
def ad5 (K:Frag) (C fI:Addr):Bool :=
 match K.lookup C with
 |some ⟨.type "type",_,.cls c,sl⟩ =>
  (match c.mro,sl.toList with
  |.ref C'::bm,[_,_,_,_,some (.builtin n),_]=>C'==C&&n=="ValueError.__new__"&&!c.hasDel&&tailIn K bmV bm&&nsOkIn K c.ns&&nsIn K c.ns "__init__"==some (some (.ref fI))&&(K.lookup fI).any λ o=>o.cls==.type "function"
  |_,_=>false)
 |_=>false
theorem bJ9 {K:Frag} (X:K.In h) (G:h.Ns N m) (e:nsIn K N x=some (some v)):m x=some v:=by
 obtain⟨o,es,ep,O,hd,_,Y⟩:=G;unfold nsIn at e;split at e
 case h_2=>cases e
 case h_1 q =>
  have z:=X _ _ q;rw[O] at z;cases z;cases hd;split at e
  ·rename_i Z;cases e;rw[<- Y];unfold nsFind findBy;rw[<- Array.find?_toList,Z];rfl
  ·split at e <;> cases e
theorem aE2 {K:Frag} (X:K.In h) (x:ad5 K C fI=true):∃ bm N nm q bs hd sn sub ab col dd k0 k1 k2 k3 k5 m oI,h.get? C=some (clX nm q C N bs bm hd sn sub ab col dd k0 k1 k2 k3 k5) ∧ h.Ns N m ∧ m "__init__"=some (.ref fI) ∧ OwnTail h bmV bm ∧ h.get? fI=some oI ∧ oI.cls=.type "function":=by
 revert x;unfold ad5;intro x;split at x
 case h_2=>cases x
 case h_1 dd c O l =>
  split at x
  case h_2=>cases x
  case h_1 C' bm k0 k1 k2 k3 n k5 e1 e2 =>
   simp only[zk,beq_iff_eq,Zj] at x;obtain⟨⟨⟨⟨⟨⟨x1,x2⟩,x3⟩,x4⟩,x5⟩,x6⟩,x7⟩:=x;have Y:=X C _ l;obtain⟨c1,c2,c3,c4,c5,c6,c7,c8,c9,Z,aa⟩:=c;obtain⟨O⟩:=O;cases e1;cases x1;cases x2;cases x3;cases (show O=_ from e2);have f1:∃ oI,h.get? fI=some oI ∧ oI.cls=.type "function":=by obtain⟨o,o1,o2⟩:=any_some x7;exact⟨o,X fI o o1,beq_iff_eq.mp o2⟩
   obtain⟨oI,f1,f2⟩:=f1;exact⟨bm,c4,c1,c5,c2,c6,c7,c8,c9,Z,dd,k0,k1,k2,k3,k5,h.nsMap c4,oI,Y,.of_isNs (isNs_of_in X x5),bJ9 X (.of_isNs (isNs_of_in X x5)) x6,tail_of_in X x4,f1,f2⟩
def drp (H:Hp) (e:Addr):Hp:=λ b=>if b=e then none else H b
theorem aq0  (h:b≠e):drp H e b=H b:=if_neg h
theorem Y_4 :drp H e e=none:=if_pos rfl
section
variable {X:Cx}{pins:List (Addr×Obj)}{σ:L2.St}{H:Hp}{s:Shared}
theorem aX9  (I:Inv X pins σ H s) (he:H e=some (.ext Y)):Inv X pins σ (drp H e) s:=by
 have un:=I.base;have no:∀ b,H b=none->drp H e b=none:=λ b z=>by unfold drp;split <;> first | rfl | exact z
 have is:∀ b u,H b=some u->(∀ ψ,u≠.ext ψ)->drp H e b=some u:=λ b u z n=>by
  rw[aq0 λ y=>by subst y;rw[he] at z;exact n Y (qi z).symm];exact z
 refine⟨I.ok,I.os,I.bare,⟨un.keep,un.slot,λ b o q n x=>no b (un.free b o q n x),un.there,λ b xs q=>is b _ (un.tups b xs q) (λ _ z=>nomatch z),λ b o u q=>is b _ (un.frzs b o u q) (λ _ z=>nomatch z),λ b ps q=>?_⟩,I.loc,I.cell,no _ I.free,λ x c q=>no c (I.freeC x c q),λ p Z=>?_,λ b u q=>?_,I.len⟩
 ·obtain⟨O,q'⟩:=un.tbls b ps q;exact⟨O,is b _ q' λ _ z=>nomatch z⟩
 ·obtain⟨q,n,z⟩:=I.pin p Z;exact⟨q,no _ n,z⟩
 ·have ne:b≠e:=λ y=>by subst y;rw[Y_4] at q;cases q
  rw[aq0 ne] at q;exact (I.hok b u q).stay (λ _ _ _ z=>z) (λ c z=>is c _ z λ _ y=>nomatch y) λ c xs z=>is c _ z λ _ y=>nomatch y
end
def spI (K:Frag) (f:Str):Sp:=λ vs H Q _=>∃ e v C us,vs=[.ref e,v]/\XS1 K C f/\H e=some (U_6 e (rcd (.ref C) us))/\∀ dx,H dx=none->dx≠e->Q .non (upd (upd H dx (.xd [(f,v)])) e (U_6 e (rcd (.ref C) us (some dx))))
theorem aY0 {K:Frag}{st:Stmt} (Fu:Fun K x qual st fI fd) (S:FnScope ["self",f] ["self",f] (a_2 st)) (hn:("self":Str)≠f)
  (hb:h_3 st=[.Assign [.Attribute (.Name "self" p1) f p2] (.Name f p3) pos])
  (hs:∀ (O:Value) (A:Around) (outer:List Env) (s:Shared) (H:Hp) (E:XK),swapsWith (.Name f p3) (some (.Attribute (.Name "self" p1) f p2)) pos.line (H_5 CX P w K mg base ["self",f] qual (a_2 st) fI O A outer s H E).env=pure false)
  (h1:(f==("__debug__":Str))=false) (h2:(f==("__classdict__":Str))=false):FnOk P w K mg base CX 1 fI fd ["self",f] (spI K f):=by
 obtain⟨oc,od,kV,ac,pm,an,O,ct,aa,rfl,lk,Z⟩:=Fu.ex;refine aY9 lk Z S (λ vs H Q E h=>?_) λ A outer s H vs Q E hr h=>?_
 ·obtain⟨e,v,C,us,rfl,_⟩:=h;rfl
 ·obtain⟨e,v,C,us,rfl,c,he,q⟩:=h;rw[hb];have Y:∀ y∈(["self",f]:List Str),Vis (H_5 CX P w K mg base ["self",f] qual (a_2 st) fI O A outer s H E).env.scope y:=λ y hy=>(S.par y hy).imp id .inl;refine⟨_,o_3 (aS5 (n_4 (i:=0) rfl (Y _ (by simp)) (by decide) (by decide)) (n_4 (i:=1) rfl (Y _ (by simp)) h1 h2) (hs ..)),?_⟩;exact⟨v,rfl,.ref e,rfl,e,C,us,rfl,c,he,λ dx n m=>q dx n m⟩
def bV4 (P:V->Hp->Prop):List V->Hp->Prop
 |[v],H=>P v H
 |_,_=>False
theorem aT5 :∀ {vs:List V},bV4 P vs H->∃ v,vs=[v]/\P v H
 |[v],h=>⟨v,rfl,h⟩
 |[],h=>h.elim
 |_::_::_,h=>h.elim
section
theorem aj2 (hR:S_3 X E) (hc:X.calm=true) (ac:X.ex=[]) (hm:X.mg x=some (.ref C)) (hx:ad5 X.K C fI=true) (h1:XS1 X.K C f) (Fk:FnOk X.prog X.w X.K X.mg X.base (CXE X.prog X.w) k fI fd ["self",f] (spI X.K f)) (hr:Room (k+1) X.A) (Z:Binds X.K fd ["self",f] [])
  (ha:PE X a ta) (hg:Gl X x) (hd:(x==("__debug__":Str))=false) (hs:starEach [a] X.env=[(false,eval a X.env)]) :
  PS X (.Raise (some (.Call (.Name x np) [a] [] cpos)) none pos) (λ _ σ H=>ta σ H λ v H1=>∀ dx,H1 dx=none->E (.ref C) (some dx) (upd H1 dx (.xd [(f,v)]))):=by
 intro pins s σ H D I q;obtain⟨bm,N,nm,qn,bs,h6,sn,sub,ab,col,dd,k0,k1,k2,k3,k5,m,oI,c1,c2,c3,c4,c5,c6⟩:=aE2 I.mod.kin hx;have ad:=hs▸e_2 ha k_4 hs cpos pins s σ H (bV4 λ v H'=>∀ dx,H' dx=none->E (.ref C) (some dx) (upd H' dx (.xd [(f,v)]))) I q;refine bl3 (nm:=nm) (qn:=qn) (N:=N) (bs:=bs) (hd:=h6) (sn:=sn) (sub:=sub) (ab:=ab) (col:=col) (dd:=dd) (k0:=k0) (k1:=k1) (k2:=k2) (k3:=k3) (k5:=k5) (fI:=fI) (oI:=oI) (mN:=m) (c4.hasType (by decide)) (I.ok.hd hc) (by rw[hs];rfl) (m_0 I hg hm ⟨rfl,hs▸Calls.evalArgs_plain (thn ad λ us s2 z=>?_)⟩ hd);obtain⟨vs,H2,Y,r,z⟩:=z;obtain⟨v,rfl,q2⟩:=aT5 z;obtain⟨u,rfl,ru⟩:=j_3 r;refine⟨rfl,(show 1<=sizeLine by decide),Y.bk C _ c1,c2.keeps Y.bk,c3,Y.bk fI _ c5,c6,c4.keeps Y.bk,λ h' e z mk=>?_⟩;obtain⟨O,ge,_,_⟩:=mk.there;have J:=Y.laid (t':=s2.toks) mk.keeps z (aI6 ge);have e0:=Y.hok.fresh z;have r2:Vals [V.ref e,v] [Value.ref e,u]:=.cons rfl (.cons ru .nil);have sp:spI X.K f [.ref e,v] (upd H2 e (U_6 e (rcd (.ref C) #[.ref O,.none,.none,.none,.bool false,.none]))) (λ y H'=>y=.non/\∃ dx,H2 dx=none/\dx≠e/\H'=upd (upd (upd H2 e (U_6 e (rcd (.ref C) #[.ref O,.none,.none,.none,.bool false,.none]))) dx (.xd [(f,v)])) e (U_6 e (rcd (.ref C) #[.ref O,.none,.none,.none,.bool false,.none] (some dx)))) E0 :=
  ⟨e,v,C,_,rfl,h1,a_4,λ dx n ne=>⟨rfl,dx,by rwa [a_8 ne] at n,ne,rfl⟩⟩
 refine Zn (Qx (Fk.run _ X.stack _ _ ⟨[.ref e,u],[]⟩ [.ref e,u] _ _ E0 (hr.make C [u] []) (J.env0.make C [u] []) (Z _ [.ref e,u] J.kIn rfl) r2 sp) λ rr s' hq=>?_);cases rr with
 |error er=>exact aT2 pins σ _ _ er s' J hq
 |ok fl =>
  cases fl with
  |ret y =>
   obtain⟨y',H',I3,rv,ey,dx,ae,ne,eH⟩:=J.after hq;subst ey eH;obtain rfl:y=.none:=rv;have aa:=(show ObjOk _ _ _ s'.heap e (U_6 e _) from I3.hok e _ a_4).1;have I4:=aX9 I3 a_4;have eH:drp (upd (upd (upd H2 e (U_6 e (rcd (.ref C) #[.ref O,.none,.none,.none,.bool false,.none]))) dx (.xd [(f,v)])) e (U_6 e (rcd (.ref C) #[.ref O,.none,.none,.none,.bool false,.none] (some dx)))) e=upd H2 dx (.xd [(f,v)]):=by
    funext b;by_cases Z:b=e
    ·subst Z;rw[Y_4,a_8 ne.symm,e0]
    ·rw[aq0 Z,a_8 Z];by_cases hd:b=dx
     ·subst hd;rw[a_4,a_4]
     ·rw[a_8 hd,a_8 hd,a_8 Z]
   rw[eH] at I4;refine⟨rfl,I4.bk C _ c1,⟨O,some dx,aa⟩,hR pins σ _ s' e C (some dx) _ I4 (by rw[a_8 ne.symm];exact e0) ?_ aa rfl (q2 dx ae)⟩;cases w0:X.s₀.heap.get? e with
   |none=>rfl
   |some o =>
    obtain⟨o',w1⟩:=Y.base.there e o w0 (by rw[ac];intro z;cases z);rw[ji z] at w1;cases w1
  |next=>exact False.elim hq
  |brk=>exact False.elim hq
  |cont=>exact False.elim hq
end
end Fx
namespace Fx
open PySem
abbrev Ky:=List (List Int)
mutual
def fK:D->Ky
 |.int i=>[[i]]
 |.str s=>[s.cps.toList.map Int.ofNat]
 |.tup xs=>fKs xs
 |_=>[]
def fKs:List D->Ky
 |[]=>[]
 |d::r=>fK d++fKs r
end
def r3:D->Bool
 |.tup [.int _,.str _,.int _]=>true
 |_=>false
def bu7:D->Option D
 |.lst xs=>some (.lst xs.reverse)
 |_=>none
@[simp] theorem ca6 (xs:List D):bu7 (.lst xs)=some (.lst xs.reverse):=yI rfl
def two:D->Option (D×D)
 |.tup [a,b]=>some (a,b)
 |_=>none
def cGo2 (T:FT) (F:FE) (fr:En):List D->Option (List D)
 |[]=>some []
 |d::r=>bnd (two d) λ q=>bnd (T (.im q.1::.im q.2::fr)) λ p=>if p.1=true then bnd (F p.2) λ z=>bnd (cGo2 T F fr r) λ t=>some (z.1::t) else cGo2 T F fr r
theorem Z_2 (T:FT) (F:FE) (fr:En):cGo2 T F fr []=some []:=rfl
theorem k_6 (T:FT) (F:FE) (fr:En) (d:D) (r:List D):cGo2 T F fr (d::r)=bnd (two d) λ q=>bnd (T (.im q.1::.im q.2::fr)) λ p=>if p.1=true then bnd (F p.2) λ z=>bnd (cGo2 T F fr r) λ t=>some (z.1::t) else cGo2 T F fr r:=rfl
def eLC2 (js:List Nat) (I:FE) (T:FT) (F:FE) (ρ:En):Option (D×En):=bnd (I ρ) λ p=>bnd (items p.1) λ xs=>bnd (q_2 p.2 js) λ fr=>bnd (cGo2 T F fr xs) λ ys=>if xs.length<=sizeLine then some (.lst ys,p.2) else none
def dKx (kds:List (Str×D)):D->Option D
 |.str k=>j_8 k kds
 |_=>none
def aJ8:Option Sl->Option (List D)
 |some (.ow false (.lst ds))=>some ds
 |_=>none
@[simp] theorem bV2 (ds:List D):aJ8 (some (.ow false (.lst ds)))=some ds:=yI rfl
def r_8 (i:Nat) (ρ:En):Bool:=(ρ.set i .no).all bf2
def v_0 (ρ q:En) (o:Option (Bool×En)):Option (Bool×En):=bnd o λ p=>@ite _ (p.2=q) (bP4 _ _) (some (p.1,ρ)) none
def C_4 (i:Nat) (T:FT) (ρ:En) (o:Option (List D)):Option (Bool×En):=bnd o λ ds=>if r_8 i ρ=true then v_0 ρ (ρ.set i (.im (.lst ds))) (T (ρ.set i (.im (.lst ds)))) else none
def T_5 (i:Nat) (T:FT) (ρ:En):Option (Bool×En):=C_4 i T ρ (aJ8 ρ[i]?)
@[simp] theorem bD8 (i:Nat) (T:FT) (ρ:En):T_5 i T ρ=C_4 i T ρ (aJ8 ρ[i]?):=yI rfl
@[simp] theorem bi8 (i:Nat) (T:FT) (ρ:En) (ds:List D):C_4 i T ρ (some ds)=if r_8 i ρ=true then v_0 ρ (ρ.set i (.im (.lst ds))) (T (ρ.set i (.im (.lst ds)))) else none:=yI rfl
theorem u_9 (ρ q:En) (b:Bool):v_0 ρ q (some (b,q))=some (b,ρ):=by exact if_pos rfl
def asL:MO->Option D
 |.lst ds=>some (.lst ds)
 |_=>none
@[simp] theorem co1 (ds:List D):asL (.lst ds)=some (.lst ds):=yI rfl
def bA6 (ρ:En) (o:Option MO):Option (D×En):=bnd o λ m=>mkP (asL m) ρ
def bA7 (g:List D->Option MO) (o:Option (List D×En)):Option (D×En):=bnd o λ p=>bA6 p.2 (g p.1)
def eNL (g:List D->Option MO) (A:FA) (ρ:En):Option (D×En):=bA7 g (A ρ)
@[simp] theorem cq3 (g:List D->Option MO) (A:FA) (ρ:En):eNL g A ρ=bA7 g (A ρ):=yI rfl
@[simp] theorem bY1 (g:List D->Option MO) (ds:List D) (ρ:En):bA7 g (some (ds,ρ))=bA6 ρ (g ds):=yI rfl
@[simp] theorem bY0 (ρ:En) (m:MO):bA6 ρ (some m)=mkP (asL m) ρ:=yI rfl
end Fx
namespace Fx
open PySem PySem.Spec PyProof.Rows L2
end Fx
namespace Fx
open PySem
def aE9:D->D->Option D
 |.str x,.int n=>if 0<=n/\n<=1000/\x.length<=1000 then some (.str (Txt.mul x n)) else none
 |_,_=>none
@[simp] theorem bP8 (x:Str) (n:Int):aE9 (.str x) (.int n)=if 0<=n/\n<=1000/\x.length<=1000 then some (.str (Txt.mul x n)) else none:=yI rfl
def n_7:D->D->Option D
 |.str x,.str y=>if y.length≠0/\x.length<=100000 then some (.lst ((Txt.split x y).map .str)) else none
 |_,_=>none
@[simp] theorem bB9 (x y:Str):n_7 (.str x) (.str y)=if y.length≠0/\x.length<=100000 then some (.lst ((Txt.split x y).map .str)) else none:=yI rfl
def Y_6:D->D->Option D
 |.str x,.str y=>some (.bl (Txt.startswith x y))
 |_,_=>none
@[simp] theorem bB8 (x y:Str):Y_6 (.str x) (.str y)=some (.bl (Txt.startswith x y)):=yI rfl
def bM4:Option Int->Option D
 |some n=>some (.int n)
 |none=>none
@[simp] theorem bW7 (n:Int):bM4 (some n)=some (.int n):=yI rfl
def aG0:List D->Option D
 |[.str x]=>if x.length<=640 then bM4 (intText? x) else none
 |_=>none
@[simp] theorem bR5 (x:Str):aG0 [.str x]=if x.length<=640 then bM4 (intText? x) else none:=yI rfl
def bg6:List D->Option D
 |[.int n]=>if n.natAbs<10 ^ 100 then some (.str (Str.ofString (toString n))) else none
 |[.str x]=>some (.str x)
 |[.non]=>some (.str "None")
 |_=>none
@[simp] theorem cc3 (n:Int):bg6 [.int n]=if n.natAbs<10 ^ 100 then some (.str (Str.ofString (toString n))) else none:=yI rfl
@[simp] theorem cc1 (x:Str):bg6 [.str x]=some (.str x):=yI rfl
@[simp] theorem cc2:bg6 [.non]=some (.str "None"):=yI rfl
mutual
def nl:D->Bool
 |.lst _=>false
 |.dct _ _=>false
 |.tup xs=>nls xs
 |_=>true
def nls:List D->Bool
 |[]=>true
 |d::r=>nl d&&nls r
end
def x_3 (ρ q:En) (o:Option (D×En)):Option (D×En):=bnd o λ p=>@ite _ (nl p.1=true/\p.2=q) (@instDecidableAnd _ _ _ (bP4 _ _)) (some (p.1,ρ)) none
def F_9 (i:Nat) (F:FE) (ρ:En) (o:Option (List D)):Option (D×En):=bnd o λ ds=>if r_8 i ρ=true then x_3 ρ (ρ.set i (.im (.lst ds))) (F (ρ.set i (.im (.lst ds)))) else none
def eHoldL (i:Nat) (F:FE) (ρ:En):Option (D×En):=F_9 i F ρ (aJ8 ρ[i]?)
@[simp] theorem bb7 (i:Nat) (F:FE) (ρ:En):eHoldL i F ρ=F_9 i F ρ (aJ8 ρ[i]?):=yI rfl
@[simp] theorem ap9 (i:Nat) (F:FE) (ρ:En) (ds:List D):F_9 i F ρ (some ds)=if r_8 i ρ=true then x_3 ρ (ρ.set i (.im (.lst ds))) (F (ρ.set i (.im (.lst ds)))) else none:=yI rfl
theorem L_5 (ρ q:En) (d:D) (h:nl d=true):x_3 ρ q (some (d,q))=some (d,ρ):=by exact if_pos ⟨h,rfl⟩
def lsA (o:Option (D×En)):Option (List D×En):=bnd o λ p=>match p.1 with
 |.lst ds=>some (ds,p.2)
 |_=>none
def oFr (F:FE) (ρ:En):Option (List D×En):=lsA (F ρ)
@[simp] theorem cp5 (F:FE) (ρ:En):oFr F ρ=lsA (F ρ):=yI rfl
@[simp] theorem cj8 (ds:List D) (ρ:En):lsA (some (.lst ds,ρ))=some (ds,ρ):=yI rfl
def bz6 (o:Option (List D×En)):Option MO:=bnd o λ p=>some (.lst p.1)
def nFr (A:FA) (ρ:En):Option MO:=bz6 (A ρ)
@[simp] theorem cp6 (A:FA) (ρ:En):nFr A ρ=bz6 (A ρ):=yI rfl
@[simp] theorem bV6 (ds:List D) (ρ:En):bz6 (some (ds,ρ))=some (.lst ds):=yI rfl
def ax8 (i:Nat) (ρ:En) (o:Option (List D)):Option Res:=bnd o λ ds=>if ds.length=0 then none else some (.nx (ρ.set i (.ow false (.lst ds.dropLast))))
def bx7 (i:Nat) (ρ:En):Option Res:=ax8 i ρ (owL ρ[i]?)
@[simp] theorem cg0 (i:Nat) (ρ:En):bx7 i ρ=ax8 i ρ (owL ρ[i]?):=yI rfl
@[simp] theorem bF5 (i:Nat) (ρ:En) (ds:List D):ax8 i ρ (some ds)=if ds.length=0 then none else some (.nx (ρ.set i (.ow false (.lst ds.dropLast)))):=yI rfl
def ay0 (i:Nat) (ρ:En) (xs:List D) (o:Option (List D)):Option Res:=bnd o λ ds=>if ds.length+xs.length<1000 then some (.nx (ρ.set i (.ow false (.lst (ds++xs))))) else none
def ay1 (i:Nat) (o:Option (List D×En)):Option Res:=bnd o λ p=>ay0 i p.2 p.1 (owL p.2[i]?)
def ay2 (i:Nat) (A:FA) (ρ:En) (o:Option (List D)):Option Res:=bnd o λ _=>ay1 i (A ρ)
def by2 (i:Nat) (A:FA) (ρ:En):Option Res:=ay2 i A ρ (owL ρ[i]?)
@[simp] theorem cg4 (i:Nat) (A:FA) (ρ:En):by2 i A ρ=ay2 i A ρ (owL ρ[i]?):=yI rfl
@[simp] theorem bG3 (i:Nat) (A:FA) (ρ:En) (ds:List D):ay2 i A ρ (some ds)=ay1 i (A ρ):=yI rfl
@[simp] theorem bG2 (i:Nat) (xs:List D) (ρ:En):ay1 i (some (xs,ρ))=ay0 i ρ xs (owL ρ[i]?):=yI rfl
@[simp] theorem bG1 (i:Nat) (ρ:En) (xs ds:List D):ay0 i ρ xs (some ds)=if ds.length+xs.length<1000 then some (.nx (ρ.set i (.ow false (.lst (ds++xs))))) else none:=yI rfl
def bA3:D->Option Int
 |.int k=>some k
 |_=>none
@[simp] theorem bW6 (k:Int):bA3 (.int k)=some k:=yI rfl
def aB0 (xs:List D) (ρ:En) (o:Option Int):Option (List D×En):=bnd o λ k=>if k<=1000/\-1000<=k/\xs.length<=1000 then some ((List.replicate k.toNat xs).flatten,ρ) else none
def aB1 (xs:List D) (o:Option (D×En)):Option (List D×En):=bnd o λ p=>aB0 xs p.2 (bA3 p.1)
def aB2 (G:FE) (o:Option (List D×En)):Option (List D×En):=bnd o λ p=>aB1 p.1 (G p.2)
def aT9 (A:FA) (G:FE) (ρ:En):Option (List D×En):=aB2 G (A ρ)
@[simp] theorem ci2 (A:FA) (G:FE) (ρ:En):aT9 A G ρ=aB2 G (A ρ):=yI rfl
@[simp] theorem bJ6 (G:FE) (xs:List D) (ρ:En):aB2 G (some (xs,ρ))=aB1 xs (G ρ):=yI rfl
@[simp] theorem bJ5 (xs:List D) (d:D) (ρ:En):aB1 xs (some (d,ρ))=aB0 xs ρ (bA3 d):=yI rfl
@[simp] theorem bJ4 (xs:List D) (ρ:En) (k:Int):aB0 xs ρ (some k)=if k<=1000/\-1000<=k/\xs.length<=1000 then some ((List.replicate k.toNat xs).flatten,ρ) else none:=yI rfl
def bB6 (o:Option (List D×En)):Option (D×En):=bnd o λ p=>some (.lst p.1,p.2)
def eFr (A:FA) (ρ:En):Option (D×En):=bB6 (A ρ)
@[simp] theorem cq7 (A:FA) (ρ:En):eFr A ρ=bB6 (A ρ):=yI rfl
@[simp] theorem bZ6 (ds:List D) (ρ:En):bB6 (some (ds,ρ))=some (.lst ds,ρ):=yI rfl
def lsX:D->Option (List D)
 |.lst xs=>some xs
 |_=>none
@[simp] theorem cj7 (xs:List D):lsX (.lst xs)=some xs:=yI rfl
def ay3 (i:Nat) (ρ:En) (xs:List D) (o:Option (List D)):Option Res:=bnd o λ ds=>if ds.length+xs.length<1000 then some (.nx (ρ.set i (.ow false (.lst (ds++xs))))) else none
def ay4 (i:Nat) (ρ:En) (o:Option (List D)):Option Res:=bnd o λ xs=>ay3 i ρ xs (owL ρ[i]?)
def ay5 (i:Nat) (o:Option (D×En)):Option Res:=bnd o λ p=>ay4 i p.2 (lsX p.1)
def ay6 (i:Nat) (F:FE) (ρ:En) (o:Option (List D)):Option Res:=bnd o λ _=>ay5 i (F ρ)
def by8 (i:Nat) (F:FE) (ρ:En):Option Res:=ay6 i F ρ (owL ρ[i]?)
@[simp] theorem cg5 (i:Nat) (F:FE) (ρ:En):by8 i F ρ=ay6 i F ρ (owL ρ[i]?):=yI rfl
@[simp] theorem bG8 (i:Nat) (F:FE) (ρ:En) (ds:List D):ay6 i F ρ (some ds)=ay5 i (F ρ):=yI rfl
@[simp] theorem bG7 (i:Nat) (d:D) (ρ:En):ay5 i (some (d,ρ))=ay4 i ρ (lsX d):=yI rfl
@[simp] theorem bG6 (i:Nat) (ρ:En) (xs:List D):ay4 i ρ (some xs)=ay3 i ρ xs (owL ρ[i]?):=yI rfl
@[simp] theorem bG5 (i:Nat) (ρ:En) (xs ds:List D):ay3 i ρ xs (some ds)=if ds.length+xs.length<1000 then some (.nx (ρ.set i (.ow false (.lst (ds++xs))))) else none:=yI rfl
def x_2:Nat->List D->List D
 |_,[]=>[]
 |k,d::r=>.tup [.int (k:Int),d]::x_2 (k+1) r
def T_9 (g:D->En->Option En) (B:FS) (ρ:En) (o:Option (List D)):Option Res:=bnd o λ xs=>fGo g B (x_2 0 xs) ρ
def U_0 (g:D->En->Option En) (B:FS) (o:Option (D×En)):Option Res:=bnd o λ p=>T_9 g B p.2 (lsX p.1)
def ax9 (g:D->En->Option En) (F:FE) (B:FS) (ρ:En):Option Res:=U_0 g B (F ρ)
@[simp] theorem bU0 (g:D->En->Option En) (F:FE) (B:FS) (ρ:En):ax9 g F B ρ=U_0 g B (F ρ):=yI rfl
@[simp] theorem by0 (g:D->En->Option En) (B:FS) (d:D) (ρ:En):U_0 g B (some (d,ρ))=T_9 g B ρ (lsX d):=yI rfl
@[simp] theorem bx9 (g:D->En->Option En) (B:FS) (ρ:En) (xs:List D):T_9 g B ρ (some xs)=fGo g B (x_2 0 xs) ρ:=yI rfl
def evn {α:Type}:List α->List α
 |[]=>[]
 |[a]=>[a]
 |a::_::r=>a::evn r
def af4 (i:Nat):D->Option D
 |.tup xs=>some (.tup (evn (xs.drop i)))
 |_=>none
@[simp] theorem ca3 (i:Nat) (xs:List D):af4 i (.tup xs)=some (.tup (evn (xs.drop i))):=yI rfl
def o_6 (xs:List D):Option D:=bnd (aw6 xs) λ ss=>if ss.length<1000 then some (.int ((j_1 [] ss).length:Int)) else none
def y_4:List D->Option D
 |[.lst xs]=>o_6 xs
 |[.tup xs]=>o_6 xs
 |_=>none
@[simp] theorem bw2 (xs:List D):y_4 [.tup xs]=o_6 xs:=yI rfl
def zpT (xs ys:List D):List D:=(xs.zip ys).map λ p=>.tup [p.1,p.2]
def aE8:D->D->Option D
 |.lst xs,.lst ys=>if xs.length<=1000 then some (.lst (zpT xs ys)) else none
 |_,_=>none
def ae0:D->D->Option D
 |.tup xs,.tup ys=>if xs.length<=1000 then some (.tup (zpT xs ys)) else none
 |_,_=>none
@[simp] theorem bP7 (xs ys:List D):aE8 (.lst xs) (.lst ys)=if xs.length<=1000 then some (.lst (zpT xs ys)) else none:=yI rfl
@[simp] theorem bP6 (xs ys:List D):ae0 (.tup xs) (.tup ys)=if xs.length<=1000 then some (.tup (zpT xs ys)) else none:=yI rfl
def bB1 (ρ:En) (n:Nat) (o:Option (List D)):Option (D×En):=bnd o λ ys=>if n<=sizeLine then some (.lst ys,ρ) else none
def bB2 (T:FT) (F:FE) (xs ys:List D) (ρ:En) (o:Option En):Option (D×En):=bnd o λ fr=>bB1 ρ xs.length (cGo2 T F fr (zpT xs ys))
def bB3 (js:List Nat) (T:FT) (F:FE) (xs:List D) (ρ:En) (o:Option (List D)):Option (D×En):=bnd o λ ys=>bB2 T F xs ys ρ (q_2 ρ js)
def bA8 (js:List Nat) (T:FT) (F:FE) (xs:List D) (o:Option (D×En)):Option (D×En):=bnd o λ p=>bB3 js T F xs p.2 (lsX p.1)
def bA9 (js:List Nat) (B:FE) (T:FT) (F:FE) (ρ:En) (o:Option (List D)):Option (D×En):=bnd o λ xs=>bA8 js T F xs (B ρ)
def bB0 (js:List Nat) (B:FE) (T:FT) (F:FE) (o:Option (D×En)):Option (D×En):=bnd o λ p=>bA9 js B T F p.2 (lsX p.1)
def eLZ (js:List Nat) (A B:FE) (T:FT) (F:FE) (ρ:En):Option (D×En):=bB0 js B T F (A ρ)
@[simp] theorem cq4 (js:List Nat) (A B:FE) (T:FT) (F:FE) (ρ:En):eLZ js A B T F ρ=bB0 js B T F (A ρ):=yI rfl
@[simp] theorem bY4 (js:List Nat) (B:FE) (T:FT) (F:FE) (d:D) (ρ:En):bB0 js B T F (some (d,ρ))=bA9 js B T F ρ (lsX d):=yI rfl
@[simp] theorem bY3 (js:List Nat) (B:FE) (T:FT) (F:FE) (ρ:En) (xs:List D):bA9 js B T F ρ (some xs)=bA8 js T F xs (B ρ):=yI rfl
@[simp] theorem bY2 (js:List Nat) (T:FT) (F:FE) (xs:List D) (d:D) (ρ:En):bA8 js T F xs (some (d,ρ))=bB3 js T F xs ρ (lsX d):=yI rfl
@[simp] theorem bY7 (js:List Nat) (T:FT) (F:FE) (xs ys:List D) (ρ:En):bB3 js T F xs ρ (some ys)=bB2 T F xs ys ρ (q_2 ρ js):=yI rfl
@[simp] theorem bY6 (T:FT) (F:FE) (xs ys:List D) (ρ fr:En):bB2 T F xs ys ρ (some fr)=bB1 ρ xs.length (cGo2 T F fr (zpT xs ys)):=yI rfl
@[simp] theorem bY5 (ρ:En) (n:Nat) (ys:List D):bB1 ρ n (some ys)=if n<=sizeLine then some (.lst ys,ρ) else none:=yI rfl
def z_5 (kds:List (Str×D)):D->Option D
 |.str k=>some (.bl (!(j_8 k kds).isSome))
 |_=>none
@[simp] theorem R_5 (kds:List (Str×D)) (k:Str):z_5 kds (.str k)=some (.bl (!(j_8 k kds).isSome)):=yI rfl
def V_4 (ρ:En) (o:Option (Bool×List (Str×D))):Option (List D×En):=bnd o λ q=>if q.2.length<=1000 then some (q.2.map (·.2),ρ) else none
def ab9 (i:Nat) (ρ:En):Option (List D×En):=V_4 ρ (owD ρ[i]?)
@[simp] theorem bV5 (i:Nat) (ρ:En):ab9 i ρ=V_4 ρ (owD ρ[i]?):=yI rfl
@[simp] theorem bz4 (ρ:En) (b:Bool) (kds:List (Str×D)):V_4 ρ (some (b,kds))=if kds.length<=1000 then some (kds.map (·.2),ρ) else none:=yI rfl
def N_3:List D->Option D
 |[.lst [.int a,.int b]]=>some (.lst (if a<=b then [.int a,.int b] else [.int b,.int a]))
 |_=>none
@[simp] theorem Z_5 (a b:Int):N_3 [.lst [.int a,.int b]]=some (.lst (if a<=b then [.int a,.int b] else [.int b,.int a])):=yI rfl
def Y_2 (ρ:En) (o:Option Bool):Option (D×En):=bnd o λ b=>some (.bl (!b),ρ)
def Y_3 (o:Option (D×En)):Option (D×En):=bnd o λ p=>Y_2 p.2 (aM5 p.1)
def ad7 (F:FE) (ρ:En):Option (D×En):=Y_3 (F ρ)
@[simp] theorem bX9 (F:FE) (ρ:En):ad7 F ρ=Y_3 (F ρ):=yI rfl
@[simp] theorem bA5 (d:D) (ρ:En):Y_3 (some (d,ρ))=Y_2 ρ (aM5 d):=yI rfl
@[simp] theorem bA4 (ρ:En) (b:Bool):Y_2 ρ (some b)=some (.bl (!b),ρ):=yI rfl
def lk1 (q:D->D->Option D) (x:D) (o:Option (D×En)):Option (D×En):=bnd o λ r=>mkP (q x r.1) r.2
def bA0 (q:D->D->Option D) (M:FE) (y:D) (ρ:En) (o:Option Bool):Option (D×En):=bnd o λ b=>if b=true then lk1 q y (M ρ) else some (.bl false,ρ)
def bA1 (q:D->D->Option D) (M:FE) (y:D) (ρ:En) (o:Option D):Option (D×En):=bnd o λ z=>bA0 q M y ρ (blB z)
def lk2 (O q:D->D->Option D) (M:FE) (x:D) (o:Option (D×En)):Option (D×En):=bnd o λ r=>bA1 q M r.1 r.2 (O x r.1)
def bz8 (O q:D->D->Option D) (L M:FE) (y:D) (ρ:En) (o:Option Bool):Option (D×En):=bnd o λ b=>if b=true then lk2 O q M y (L ρ) else some (.bl false,ρ)
def bz9 (O q:D->D->Option D) (L M:FE) (y:D) (ρ:En) (o:Option D):Option (D×En):=bnd o λ z=>bz8 O q L M y ρ (blB z)
def lk3 (Y O q:D->D->Option D) (L M:FE) (x:D) (o:Option (D×En)):Option (D×En):=bnd o λ r=>bz9 O q L M r.1 r.2 (Y x r.1)
def e4a (Y O q:D->D->Option D) (G L M:FE) (o:Option (D×En)):Option (D×En):=bnd o λ p=>lk3 Y O q L M p.1 (G p.2)
def e4 (Y O q:D->D->Option D) (F G L M:FE) (ρ:En):Option (D×En):=e4a Y O q G L M (F ρ)
@[simp] theorem ck1 (q:D->D->Option D) (x d:D) (ρ:En):lk1 q x (some (d,ρ))=mkP (q x d) ρ:=yI rfl
@[simp] theorem bW2 (q:D->D->Option D) (M:FE) (y:D) (ρ:En) (b:Bool):bA0 q M y ρ (some b)=if b=true then lk1 q y (M ρ) else some (.bl false,ρ):=yI rfl
@[simp] theorem bW3 (q:D->D->Option D) (M:FE) (y z:D) (ρ:En):bA1 q M y ρ (some z)=bA0 q M y ρ (blB z):=yI rfl
@[simp] theorem ck0 (O q:D->D->Option D) (M:FE) (x d:D) (ρ:En):lk2 O q M x (some (d,ρ))=bA1 q M d ρ (O x d):=yI rfl
@[simp] theorem bW0 (O q:D->D->Option D) (L M:FE) (y:D) (ρ:En) (b:Bool):bz8 O q L M y ρ (some b)=if b=true then lk2 O q M y (L ρ) else some (.bl false,ρ):=yI rfl
@[simp] theorem bW1 (O q:D->D->Option D) (L M:FE) (y z:D) (ρ:En):bz9 O q L M y ρ (some z)=bz8 O q L M y ρ (blB z):=yI rfl
@[simp] theorem cj9 (Y O q:D->D->Option D) (L M:FE) (x d:D) (ρ:En):lk3 Y O q L M x (some (d,ρ))=bz9 O q L M d ρ (Y x d):=yI rfl
@[simp] theorem cm0 (Y O q:D->D->Option D) (G L M:FE) (d:D) (ρ:En):e4a Y O q G L M (some (d,ρ))=lk3 Y O q L M d (G ρ):=yI rfl
@[simp] theorem e4_ (Y O q:D->D->Option D) (F G L M:FE) (ρ:En):e4 Y O q F G L M ρ=e4a Y O q G L M (F ρ):=yI rfl
end Fx
namespace Fx
open PySem PySem.W PySem.Spec PyProof.Rows L2
theorem ak5  (h:x.length<=100000):(Builtin.Str.partsBetween x (Builtin.Str.occurrences x y 0 x.length (x.length+1)) y.length).length<=sizeLine:=by
 have e:=StrLaws.occ_length_le x y 0 x.length (x.length+1);have b:(100002:Nat)<=sizeLine:=by decide
 rw[length_partsBetween];omega
theorem ab0  (ny:(y.length==0)=false) (hx:x.length<=100000)
  (O:∀ l k,l.map (·.1)=Txt.split x y → Q (.ref s.heap.objs.size) {s with heap:=s.heap.push {cls:=.type "list",data:=.seq (strValues l).toArray},toks:=k}) :
  wpAny (model prog w) A (call (.builtin "str.split") [.str x t,.str y u]) Q Er s:=by
 have b:(100000:Nat)<=sizeLine:=by decide
 have aa:=ak5 (y:=y) hx;by_cases c1:(decide (x.length<y.length)||decide (Builtin.Str.strKind x<Builtin.Str.strKind y))=true
 ·have q:Txt.split x y=[x]:=if_pos c1;exact Qt Qk (Z3 s x t) Yi (Ye (.str x t) (.str y u)) (meets_str_split_cannot_occur x y t u c1) (O [(x,t)] s.toks q.symm)
 ·have Z:=Bool.eq_false_iff.mpr c1;by_cases c2:(Builtin.Str.occurrences x y 0 x.length (x.length+1)).isEmpty=true
  ·have q:Txt.split x y=[x]:=(if_neg c1).trans (if_pos c2);exact Qt Qk (Z3 s x t) Yi (Ye (.str x t) (.str y u)) (meets_str_split_not_found x y t u Z ny c2) (O [(x,t)] s.toks q.symm)
  ·have Y:Txt.split x y=Builtin.Str.partsBetween x (Builtin.Str.occurrences x y 0 x.length (x.length+1)) y.length:=(if_neg c1).trans (if_neg c2);have m:=meets_str_split_sep x y t u Z ny (Bool.eq_false_iff.mpr c2) (zo hx b) aa;rw[<- Y] at m;refine Qt Qk (Z3 s x t) Yi (Ye (.str x t) (.str y u)) m ?_;have go:=O (numbered s.toks (Txt.split x y)) (s.toks+(Txt.split x y).length) (numbered_texts _ _);rw[<- strsFrom_eq] at go;exact go
section
theorem W_2:MtR X "str.split" (λ x vs H Q=>∃ a b,x=.str a ∧ vs=[.str b] ∧ (b.length==0)=false ∧ a.length ≤ 100000 ∧ ∀ l,H l=none → Q (.ref l) (upd H l (.lst ((Txt.split a b).map V.str)))):=by
 intro pins s σ H x vs v us Q I Y rv h;obtain⟨a,b,rfl,rfl,hb,hz,q⟩:=h;obtain⟨t,rfl⟩:=Y;obtain⟨u,rfl,t2,rfl⟩:=j_3 rv;refine ab0 hb hz λ l k hl=>?_;have big:(100002:Nat)<=sizeLine:=by decide
 have ln:(Txt.split a b).length<=sizeLine:=zo (split_le a b) (by omega);have O:Vals ((Txt.split a b).map V.str) (strValues l):=by rw[<- hl];exact s_5 (strsAre_of_values l)
 refine⟨.ref s.heap.objs.size,_,I.laid (o:=.lst ((Txt.split a b).map V.str)) (λ p z Z=>qf _ Z) (qj _) ⟨by rw[qy];exact ln,strValues l,0,O,qk _ rfl⟩,rfl,q _ (I.hok.fresh (qj _))⟩
theorem S_6  (ho:XE X o F) (he:XE X e G) (O:attributeBase o "split" X.env (eval o X.env)=eval o X.env:=by rfl)
  (Z:((backTo cpos (starEach [e] X.env)).all (λ x=>!x.1)&&(backToKw cpos (keywordEach [] X.env)).all (λ x=>x.1.isSome)&&decide (([e]:List Expr).length+([]:List Keyword).length+(if ([]:List Keyword).isEmpty then 0 else 1)<30))=true:=by rfl)
  (Y:(apos.endLine==cpos.line)=true:=by rfl) (hs:starEach [e] X.env=[(false,eval e X.env)]:=by rfl):XE X (.Call (.Attribute o "split" apos) [e] [] cpos) (e2 n_7 F G) :=
 PE.wk (ab6 Zf Qk PySem.F.type_str_split W_2 ho (xaC he xaN hs) O Z Y hs rfl) λ σ H Q aa=>by
  obtain⟨c,H0,ρ,d,ρ',R,f,q⟩:=aa;obtain⟨x,ac,y,h1,h2,h3⟩:=s_7 f;unfold n_7 at h3;split at h3
  ·rename_i a b;obtain⟨hz,rfl⟩:=ifs h3;refine⟨c,H0,ρ,_,ac,R,h1,λ v H1 Hh s1 R1 r1=>?_⟩;subst r1;refine⟨rfl,c,H1,ac,[_],ρ',R1,by unfold aC aN;rw[h2];rfl,λ vs H2 Hh2 s2 R2 r2=>?_⟩;obtain⟨u,rfl,ru⟩:=Reps.v1 r2;subst ru;refine⟨_,_,rfl,rfl,by simpa using hz.1,hz.2,λ l hl=>?_⟩;have S:=Step.alloc (o:=.lst ((Txt.split a b).map V.str)) R2.same hl;refine q _ _ _ ((s1.trans s2).trans S.s0) (R2.after S) ?_;exact⟨l,_,rfl,.inl (.inl a_4),v_7 _⟩
  ·cases h3
theorem al9:MtR X "str.startswith" (λ x vs H Q=>∃ a b,x=.str a ∧ vs=[.str b] ∧ Q (.bl (Txt.startswith a b)) H):=by intro pins s σ H x vs v us Q I Y O h;obtain⟨a,b,rfl,rfl,q⟩:=h;obtain⟨t,rfl⟩:=Y;obtain⟨u,rfl,Z,rfl⟩:=j_3 O;exact PySem.SC.startswith ⟨.bl _,H,I,rfl,q⟩
theorem aO1  (ho:XE X o F) (he:XE X e G) (O:attributeBase o "startswith" X.env (eval o X.env)=eval o X.env:=by rfl)
  (Z:((backTo cpos (starEach [e] X.env)).all (λ x=>!x.1)&&(backToKw cpos (keywordEach [] X.env)).all (λ x=>x.1.isSome)&&decide (([e]:List Expr).length+([]:List Keyword).length+(if ([]:List Keyword).isEmpty then 0 else 1)<30))=true:=by rfl)
  (Y:(apos.endLine==cpos.line)=true:=by rfl) (hs:starEach [e] X.env=[(false,eval e X.env)]:=by rfl):XE X (.Call (.Attribute o "startswith" apos) [e] [] cpos) (e2 Y_6 F G) :=
 PE.wk (ab6 Zf PySem.F.slot_str_startswith PySem.F.type_str_startswith al9 ho (xaC he xaN hs) O Z Y hs rfl) λ σ H Q ac=>by
  obtain⟨c,H0,ρ,d,ρ',R,f,q⟩:=ac;obtain⟨x,aa,y,h1,h2,h3⟩:=s_7 f;unfold Y_6 at h3;split at h3
  ·cases h3;refine⟨c,H0,ρ,_,aa,R,h1,λ v H1 Hh s1 R1 r1=>?_⟩;subst r1;refine⟨rfl,c,H1,aa,[_],ρ',R1,by unfold aC aN;rw[h2];rfl,λ vs H2 Hh2 s2 R2 r2=>?_⟩;obtain⟨u,rfl,ru⟩:=Reps.v1 r2;subst ru;exact⟨_,_,rfl,rfl,q _ H2 Hh2 (s1.trans s2) R2 (by rfl)⟩
  ·cases h3
theorem as1:CallR X (.type "int") (λ xs H Q=>∃ x n,xs=[.str x] ∧ x.length ≤ 640 ∧ PySem.intText? x=some n ∧ Q (.int n) H):=by intro pins s σ H xs us Q I r h;obtain⟨x,n,rfl,O,Y,q⟩:=h;obtain⟨u,rfl,t,rfl⟩:=j_3 r;exact PySem.W.KIN.call_text Y O ⟨.int n,H,I.tok _,⟨_,rfl⟩,q⟩
theorem aF6:BOk X (.type "int") aG0:=⟨_,as1,λ c H0 H ρ σ ds d vs Q R r e q=>by
 unfold aG0 at e;split at e
 ·rename_i x;by_cases O:x.length<=640
  rotate_left
  ·rw[if_neg O] at e;cases e
  rw[if_pos O] at e;obtain⟨v,rfl,Z⟩:=Reps.v1 r;subst Z;cases Y:PySem.intText? x with
  |none=>rw[Y] at e;cases e
  |some n =>
   rw[Y] at e;cases e;exact⟨_,n,rfl,O,Y,q _ H0 H (Same.refl _) R (d_3 _ _)⟩
 ·cases e⟩
theorem ar4:CallR X (.type "str") (λ xs H Q=>(∃ x,xs=[.str x] ∧ Q (.str x) H) ∨ (∃ n:Int,xs=[.int n] ∧ n.natAbs.log2<1920 ∧ Q (.str (Str.ofString (toString n))) H) ∨ (xs=[.non] ∧ Q (.str "None") H)):=by
 intro pins s σ H xs us Q I r h;rcases h with ⟨x,rfl,q⟩ | ⟨n,rfl,hz,q⟩ | ⟨rfl,q⟩
 ·obtain⟨u,rfl,t,rfl⟩:=j_3 r;exact PySem.P.str_of_str ⟨.str x,H,I,⟨t,rfl⟩,q⟩
 ·obtain⟨u,rfl,t,rfl⟩:=j_3 r;exact PySem.P.str_of_int hz ⟨.str _,H,I.tok _,⟨_,rfl⟩,q⟩
 ·obtain⟨u,rfl,e⟩:=j_3 r;cases e;exact PySem.P.str_of_none ⟨.str _,H,I.tok _,⟨_,rfl⟩,q⟩
theorem bd1:BOk X (.type "str") bg6:=⟨_,ar4,λ c H0 H ρ σ ds d vs Q R r e q=>by
 unfold bg6 at e;split at e
 ·rename_i n;obtain⟨Y,rfl⟩:=ifs e;obtain⟨v,rfl,O⟩:=Reps.v1 r;subst O;refine .inr (.inl ⟨_,rfl,?_,q _ H0 H (Same.refl _) R (by rfl)⟩);by_cases z:n.natAbs=0
  ·rw[z];decide
  ·exact (Nat.log2_lt z).mpr (qt Y (by decide +kernel))
 ·cases e;obtain⟨v,rfl,O⟩:=Reps.v1 r;subst O;exact .inl ⟨_,rfl,q _ H0 H (Same.refl _) R (by rfl)⟩
 ·cases e;obtain⟨v,rfl,O⟩:=Reps.v1 r;subst O;exact .inr (.inr ⟨rfl,q _ H0 H (Same.refl _) R (by rfl)⟩)
 ·cases e⟩
end
end Fx
namespace Fx
open PySem PySem.Spec PyProof.Rows L2
def lss (H:Hp) (a:Addr):Hp:=λ b=>if b=a then none else H b
theorem aK8 :lss H a a=none:=if_pos rfl
theorem W_3  (h:b≠a):lss H a b=H b:=if_neg h
theorem aK7  (h:lss H a b=some u):b≠a/\H b=some u:=by
 by_cases e:b=a
 ·rw[e,aK8] at h;cases h
 ·exact⟨e,by rw[W_3 e] at h;exact h⟩
theorem ak6  (h:aJ8 o=some ds):o=some (.ow false (.lst ds)):=by
 unfold aJ8 at h;split at h
 ·cases h;rfl
 ·cases h
section
variable {K:Frag}
theorem SqT.lss  (q:H a=some (.lst us)) (h:SqT K H b vs):SqT K (lss H a) b vs:=by
 rcases h with h | h
 ·refine .inl ?_;have ne:b≠a:=λ e=>by
   rw[e] at h;rcases h with h | ⟨o,h⟩ <;> rw[q] at h <;> cases h
  rcases h with h | ⟨o,h⟩
  ·exact .inl (by rw[W_3 ne];exact h)
  ·exact .inr ⟨o,by rw[W_3 ne];exact h⟩
 ·exact .inr h
mutual
theorem Rep.lss (q:H a=some (.lst us)):∀ (d:D) {v:V},nl d=true->Rep K H d v->Rep K (lss H a) d v
 |.non,_,_,h=>by unfold Rep at h ⊢;exact h
 |.bl _,_,_,h=>by unfold Rep at h ⊢;exact h
 |.int _,_,_,h=>by unfold Rep at h ⊢;exact h
 |.str _,_,_,h=>by unfold Rep at h ⊢;exact h
 |.tup ds,_,n,h=>by
  unfold Rep at h ⊢;obtain⟨b,vs,e,s,r⟩:=h;exact⟨b,vs,e,SqT.lss q s,Reps.lss q ds n r⟩
 |.lst _,_,n,_=>by cases n
 |.dct _ _,_,n,_=>by cases n
theorem Reps.lss (q:H a=some (.lst us)):∀ (ds:List D) {vs:List V},nls ds=true->Reps K H ds vs->Reps K (lss H a) ds vs
 |[],_,_,h=>by unfold Reps at h ⊢;exact h
 |d::r,_,n,h=>by
  unfold nls at n;rw[zk] at n;unfold Reps at h ⊢;obtain⟨v,O,e,h1,h2⟩:=h;exact⟨v,O,e,Rep.lss q d n.1 h1,Reps.lss q r n.2 h2⟩
end
end
section
variable {K:Frag}
theorem RS.asList (R:RS K c H0 H ρ σ) (hi:ρ[i]?=some (.ow false (.lst ds))) :
  ∃ a vs,σ[i]?=some (some (.ref a))/\H0 a=none/\c.He a=none/\H a=some (.lst vs)/\Reps K H0 ds vs/\Same H0 (upd H0 a (.lst vs))/\RS K c (upd H0 a (.lst vs)) H (ρ.set i (.im (.lst ds))) σ:=by
 obtain⟨a,x,y,z,vs,e,r⟩:=R.ow i _ _ hi;have he:=z;have il:=(List.getElem?_eq_some_iff.mp hi).1;have Z:Same H0 (upd H0 a (.lst vs)):=λ b u q=>by rw[a_8 (b_3 q y)];exact q
 have Y:∀ {j:Nat}{sl:Sl},j≠i->(ρ.set i (.im (.lst ds)))[j]?=some sl->ρ[j]?=some sl:=λ O e=>by rwa [zt (yk O)] at e
 have on:∀ {sl:Sl},(ρ.set i (.im (.lst ds)))[i]?=some sl->sl=.im (.lst ds):=λ e=>by
  rw[zv il] at e;exact (qi e).symm
 refine⟨a,vs,x,y,he,e,r,Z,λ b u q=>?_,R.init.trans Z,λ b u q=>?_,R.keep,R.apt,by rw[jb];exact R.len,λ j d' q=>?_,λ j bb o' q=>?_,λ j k b1 b2 o' aa b e1 e2 e3 e4=>?_⟩
 ·by_cases h:b=a
  ·subst h;rw[a_4] at q;cases q;exact e
  ·rw[a_8 h] at q;exact R.same b u q
 ·by_cases h:b=a
  ·subst h;exact .inr he
  ·rw[a_8 h] at q;exact R.fresh b u q
 ·by_cases O:j=i
  ·subst O;cases on q;refine⟨.ref a,x,?_⟩;exact⟨a,vs,rfl,.inl (.inl a_4),Reps.mono Z _ r⟩
  ·obtain⟨v,a1,a2⟩:=R.im j d' (Y O q);exact⟨v,a1,Rep.mono Z _ a2⟩
 ·by_cases O:j=i
  ·subst O;cases on q
  ·have q':=Y O q;obtain⟨b,x1,y1,z1,w1⟩:=R.ow j bb o' q';have nb:b≠a:=λ h=>O (R.ne j i bb false o' _ b q' hi x1 (by rw[h];exact x));exact⟨b,x1,by rw[a_8 nb];exact y1,z1,w1.step Z λ u q=>q⟩
 ·by_cases O:j=i
  ·subst O;cases on e1
  ·by_cases hk:k=i
   ·subst hk;cases on e2
   ·exact R.ne j k b1 b2 o' aa b (Y O e1) (Y hk e2) e3 e4
theorem RS.backL  (R:RS K c H0 H ρ σ) (hi:ρ[i]?=some (.ow false (.lst ds))) (one:r_8 i ρ=true) (x:σ[i]?=some (some (.ref a))) (y:H0 a=none) (he:c.He a=none) (r:Reps K H0 ds vs)
  (Z:Same (upd H0 a (.lst vs)) H0') (O:RS K c H0' H' (ρ.set i (.im (.lst ds))) σ):Same H0 (lss H0' a)/\RS K c (lss H0' a) H' ρ σ:=by
 have Y:Same H0 (lss H0' a):=λ b u q=>by
  have nb:b≠a:=λ h=>by rw[h,y] at q;cases q
  rw[W_3 nb];exact Z b u (by rw[a_8 nb];exact q)
 refine⟨Y,λ b u q=>O.same b u (aK7 q).2,λ b u q=>Y b u (R.init b u q),λ b u q=>O.fresh b u (aK7 q).2,O.keep,O.apt,R.len,λ j d q=>?_,λ j b o q=>?_,R.ne⟩
 ·obtain⟨v,a1,a2⟩:=R.im j d q;exact⟨v,a1,Rep.mono Y _ a2⟩
 ·by_cases hj:j=i
  ·subst hj;rw[hi] at q;cases q;exact⟨a,x,aK8,he,vs,O.same a _ (Z a _ a_4),Reps.mono Y _ r⟩
  ·have:=List.all_eq_true.mp one (.ow b o) (Qw (by rw[zt (yk hj)];exact q));cases this
end
section
variable {X:Cx}{pos:Pos}{e:Expr}{F:FE}{A:FA}{T:FT}
theorem cc8 (i:Nat) (he:XT X e T):XT X e (T_5 i T):=PT.wk he λ σ H Q O=>by
 obtain⟨c,H0,ρ,d,ρ',R,f,q⟩:=O;obtain⟨ds,h1,f⟩:=a_0 f;by_cases Z:r_8 i ρ=true
 ·rw[if_pos Z] at f;obtain⟨⟨d1,Y⟩,h2,f2⟩:=a_0 f;by_cases hd:Y=ρ.set i (.im (.lst ds))
  ·have f4:some (d1,ρ)=some (d,ρ'):=(if_pos hd).symm.trans f2;cases f4;subst hd;have z:=ak6 h1;obtain⟨a,vs,x,y,hE,_,r,_,R1⟩:=R.asList z;refine⟨c,_,_,d,_,R1,h2,λ H0' H' sm R'=>?_⟩;obtain⟨s1,R2⟩:=R.backL z Z x y hE r sm R';exact q _ _ s1 R2
  ·have f4:=(if_neg hd).symm.trans f2;cases f4
 ·rw[if_neg Z] at f;cases f
theorem xhl (i:Nat) (he:XE X e F):XE X e (eHoldL i F):=PE.wk he λ σ H Q O=>by
 obtain⟨c,H0,ρ,d,ρ',R,f,q⟩:=O;obtain⟨ds,h1,f⟩:=a_0 f;by_cases Z:r_8 i ρ=true
 ·rw[if_pos Z] at f;obtain⟨⟨d1,Y⟩,h2,f2⟩:=a_0 f;by_cases hd:nl d1=true/\Y=ρ.set i (.im (.lst ds))
  ·have f4:some (d1,ρ)=some (d,ρ'):=(if_pos hd).symm.trans f2;obtain⟨hn,hd⟩:=hd;cases f4;subst hd;have z:=ak6 h1;obtain⟨a,vs,x,y,hE,_,r,_,R1⟩:=R.asList z;refine⟨c,_,_,d,_,R1,h2,λ v H0' H' sm R' rv=>?_⟩;obtain⟨s1,R2⟩:=R.backL z Z x y hE r sm R';exact q v _ _ s1 R2 (Rep.lss (sm a _ a_4) d hn rv)
  ·have f4:=(if_neg hd).symm.trans f2;cases f4
 ·rw[if_neg Z] at f;cases f
end
theorem Reps.dropLast {K:Frag}:∀ {ds:List D}{vs:List V},Reps K H ds vs->Reps K H ds.dropLast vs.dropLast
 |[],vs,h=>by subst h;exact Reps.nil_
 |[d],vs,h=>by
  obtain⟨v,r,rfl,_,h2⟩:=h;subst h2;exact Reps.nil_
 |d::e::ds,vs,h=>by
  obtain⟨v,r,rfl,h1,h2⟩:=h;have q:=Reps.dropLast h2;obtain⟨Y,O,rfl,_,_⟩:=h2;exact Reps.cons h1 q
theorem U_3 {K:Frag} (h:Reps K H ds vs):∀ k:Nat,Reps K H (List.replicate k ds).flatten (List.replicate k vs).flatten
 |0=>Reps.nil_
 |k+1=>by
  rw[yv,yv,jo,jo];exact h.app (U_3 h k)
section
theorem cc9 (i:Nat)  (hN:X.N[i]?=some x:=by rfl) (hv:Vis X.env.scope x:=by first | exact Or.inl rfl | exact Or.inr (Or.inl rfl) | exact Or.inr (Or.inr rfl)) (hd:(x==("__debug__":Str))=false:=by decide)
  (aa:(x==("__classdict__":Str))=false:=by decide) (O:attributeBase (.Name x p1) "pop" X.env (eval (.Name x p1) X.env)=eval (.Name x p1) X.env:=by rfl)
  (Y:(p2.endLine==p3.line)=true:=by rfl) (hs:swapsWith (.Call (.Attribute (.Name x p1) "pop" p2) [] [] p3) none pos.line X.env=pure false:=by rfl) :
  XS X (.Expr (.Call (.Attribute (.Name x p1) "pop" p2) [] [] p3) pos) (bx7 i) :=
 PS.wk (O_8 (bn2 Yh PySem.F.slot_list_pop PySem.F.type_list_pop bp5 (n_4 hN hv hd aa) O Y) hs) λ Dn σ H Z=>by
  obtain⟨c,H0,ρ,r,R,f,q⟩:=Z;obtain⟨ds,h0,f⟩:=a_0 f;by_cases hz:ds.length=0
  ·rw[if_pos hz] at f;cases f
  ·rw[if_neg hz] at f;cases f;obtain⟨a,x1,_,_,vs,y1,z1⟩:=R.ow i _ _ (n_5 h0);have hl:=z1.length;have hy:∃ y,vs[vs.length-1]?=some y:=⟨vs[vs.length-1]'(by omega),zl _⟩;obtain⟨y,hy⟩:=hy;refine⟨.ref a,x1,.inl ⟨rfl,vs,SqL.of y1⟩,a,vs,y,rfl,rfl,y1,hy,?_⟩;exact q σ H0 _ (Same.refl _) (R.mutOwn (n_5 h0) x1 ⟨_,a_4,Reps.dropLast z1⟩)
theorem cd3 (i:Nat)  (he:XO' X e A) (hN:X.N[i]?=some x:=by rfl) (hv:Vis X.env.scope x:=by first | exact Or.inl rfl | exact Or.inr (Or.inl rfl) | exact Or.inr (Or.inr rfl)) (hd:(x==("__debug__":Str))=false:=by decide)
  (ae:(x==("__classdict__":Str))=false:=by decide) (O:attributeBase (.Name x p1) "extend" X.env (eval (.Name x p1) X.env)=eval (.Name x p1) X.env:=by rfl)
  (aa:((backTo Z (starEach [e] X.env)).all (λ x=>!x.1)&&(backToKw Z (keywordEach [] X.env)).all (λ x=>x.1.isSome)&&decide ([e].length+([]:List Keyword).length+(if ([]:List Keyword).isEmpty then 0 else 1)<30))=true:=by rfl)
  (Y:(p2.endLine==Z.line)=true:=by rfl) (ad:starEach [e] X.env=(false,eval e X.env)::starEach [] X.env:=by rfl) (ag:(backTo Z (starEach [] X.env)).any (·.1)=false:=by rfl)
  (hs:swapsWith (.Call (.Attribute (.Name x p1) "extend" p2) [e] [] Z) none pos.line X.env=pure false:=by rfl) :
  XS X (.Expr (.Call (.Attribute (.Name x p1) "extend" p2) [e] [] Z) pos) (by2 i A) :=
 PS.wk (O_8 (ab6 Yh PySem.F.slot_list_extend PySem.F.type_list_extend am0 (n_4 hN hv hd ae) (e_2 he k_4 ad) O aa Y ad ag) hs) λ Dn σ H ac=>by
  obtain⟨c,H0,ρ,r,R,f,q⟩:=ac;obtain⟨ai,h0,f⟩:=a_0 f;obtain⟨⟨xs,ah⟩,h1,f⟩:=a_0 f;obtain⟨ds,h2,f⟩:=a_0 f;dsimp only at h2 f;obtain⟨hl,f'⟩:=ifs f;cases f';obtain⟨a,x1,_,_,af,y1,_⟩:=R.ow i _ _ (n_5 h0);refine⟨.ref a,x1,.inl ⟨rfl,af,SqL.of y1⟩,c,H0,ρ,xs,ah,R,h1,λ p vs H1 Hh s1 R1 hp r1=>?_⟩;have S:=Step.alloc (o:=.lst vs) R1.same hp;have R2:=R1.after S;obtain⟨a',x2,_,_,ws,y2,z2⟩:=R2.ow i _ _ (n_5 h2);rw[x1] at x2;cases x2;have l1:=z2.length;have l2:=r1.length;refine⟨a,p,ws,vs,rfl,rfl,y2,a_4,?_,?_⟩
  ·have:(1000:Nat)<=sizeLine:=by decide
   omega
  ·exact q σ _ _ (s1.trans S.s0) (R2.mutOwn (n_5 h2) x1 ⟨_,a_4,z2.app (Reps.mono S.s0 _ r1)⟩)
theorem cd5 (i:Nat)  (hX:X.N.Nodup) (he:XE X e F) (hN:X.N[i]?=some x:=by rfl) (hx:Loc X.env.scope x:=by first | exact Or.inl rfl | exact Or.inr rfl) (hv:Vis X.env.scope x:=by first | exact Or.inl rfl | exact Or.inr (Or.inl rfl) | exact Or.inr (Or.inr rfl)) (hd:(x==("__debug__":Str))=false:=by decide)
  (aa:(x==("__classdict__":Str))=false:=by decide) (hs:swapsWith (.BinOp (.Name x p1) .Add e O) (some (.Name x pos')) pos.line X.env=pure false:=by rfl)
  (hf:X.fn x=true\/X.env.scope.names.lookup x=some .local:=by first | exact .inl rfl | exact .inr rfl) :
  XS X (.Assign [.Name x pos'] (.BinOp (.Name x p1) .Add e O) pos) (by8 i F) :=
 PS.wk (A_6 hX hN hx (aA4 P_0 (n_4 hN hv hd aa) he) hs hf) λ Dn σ H Y=>by
  obtain⟨c,H0,ρ,r,R,f,q⟩:=Y;obtain⟨ae,h0,f⟩:=a_0 f;obtain⟨⟨d,ac⟩,h1,f⟩:=a_0 f;obtain⟨xs,h2,f⟩:=a_0 f;obtain⟨ds,h3,f⟩:=a_0 f;dsimp only at h2 h3 f;obtain⟨hl,f'⟩:=ifs f;cases f';obtain⟨a,x1,_,_,ad,y1,_⟩:=R.ow i _ _ (n_5 h0);refine⟨.ref a,x1,c,H0,ρ,d,ac,R,h1,λ v H1 Hh s1 Z rv=>?_⟩;unfold lsX at h2;split at h2
  rotate_left
  ·cases h2
  cases h2;obtain⟨b,zs,rfl,sb,rz⟩:=rv;obtain⟨a',x2,_,_,ws,y2,z2⟩:=Z.ow i _ _ (n_5 h3);rw[x1] at x2;cases x2;have l1:=z2.length;have l2:=rz.length;refine⟨a,b,ws,zs,rfl,rfl,SqL.of y2,Same.seq Z.same sb,?_,λ p hp=>?_⟩
  ·have:(1000:Nat)<=sizeLine:=by decide
   omega
  ·exact q _ H1 _ s1 (Z.setOwn i hp ⟨_,a_4,z2.app rz⟩)
theorem aO2  (ho:XE X o F) (he:XE X e G) (O:attributeBase o "split" X.env (eval o X.env)=eval o X.env:=by rfl)
  (Z:((backTo cpos (starEach [e] X.env)).all (λ x=>!x.1)&&(backToKw cpos (keywordEach [] X.env)).all (λ x=>x.1.isSome)&&decide (([e]:List Expr).length+([]:List Keyword).length+(if ([]:List Keyword).isEmpty then 0 else 1)<30))=true:=by rfl)
  (Y:(apos.endLine==cpos.line)=true:=by rfl) (hs:starEach [e] X.env=[(false,eval e X.env)]:=by rfl):XO' X (.Call (.Attribute o "split" apos) [e] [] cpos) (oFr (e2 n_7 F G)) :=
 PE.wk (ab6 Zf Qk PySem.F.type_str_split W_2 ho (xaC he xaN hs) O Z Y hs rfl) λ σ H Q aa=>by
  obtain⟨c,H0,ρ,ds,ρ',R,f,q⟩:=aa;obtain⟨⟨d,ad⟩,f,f2⟩:=a_0 f;obtain⟨x,ac,y,h1,h2,h3⟩:=s_7 f;unfold n_7 at h3;split at h3
  ·rename_i a b;obtain⟨hz,rfl⟩:=ifs h3;cases f2;refine⟨c,H0,ρ,_,ac,R,h1,λ v H1 Hh s1 R1 r1=>?_⟩;subst r1;refine⟨rfl,c,H1,ac,[_],ad,R1,by unfold aC aN;rw[h2];rfl,λ vs H2 Hh2 s2 R2 r2=>?_⟩;obtain⟨u,rfl,ru⟩:=Reps.v1 r2;subst ru;exact⟨_,_,rfl,rfl,by simpa using hz.1,hz.2,λ l hl=>q l _ H2 Hh2 (s1.trans s2) R2 hl (v_7 _)⟩
  ·cases h3
theorem bh4  (h:XA X es A) (hn:XE X e G):XO' X (.BinOp (.List es lp) .Mult e pos) (aT9 A G) :=
 PE.wk (aA4 bn7 (aj9 h) hn) λ σ H Q Y=>by
  obtain⟨c,H0,ρ,ds,ρ',R,f,q⟩:=Y;obtain⟨⟨xs,O⟩,h1,f⟩:=a_0 f;obtain⟨⟨d,ac⟩,h2,f⟩:=a_0 f;obtain⟨k,Z,f⟩:=a_0 f;dsimp only at h2 Z f;obtain⟨⟨k1,k2,hl⟩,f'⟩:=ifs f;cases f';refine⟨c,H0,ρ,xs,O,R,h1,λ vs H1 Hh s1 R1 r1=>⟨by rw[<- r1.length];exact ax0 hl,λ p hp=>?_⟩⟩;have S:=Step.alloc (o:=.lst vs) R1.same hp;have R2:=R1.after S;refine⟨c,_,O,d,ρ',R2,h2,λ v H3 Hh3 s3 R3 rv=>?_⟩;unfold bA3 at Z;split at Z
  rotate_left
  ·cases Z
  cases Z;subst rv;have lv:=r1.length;refine⟨p,k,vs,rfl,rfl,R3.same _ _ (s3 _ _ a_4),by omega,by omega,?_,λ l aa=>?_⟩
  ·have:vs.length*k.toNat<=1000*1000:=Nat.mul_le_mul (by omega) (by omega);have:(1000*1000:Nat)<=sizeLine:=by decide
   omega
  ·exact q l _ H3 Hh3 (s1.trans (S.s0.trans s3)) R3 aa (U_3 (Reps.mono (S.s0.trans s3) _ r1) _)
theorem bC7  (ha:XE X a F) (hb:XE X b G):XO' X (.BinOp a .Add b pos) (oFr (e2 e_7 F G)) :=
 PE.wk (aA4 P_0 ha hb) λ σ H Q aa=>by
  obtain⟨c,H0,ρ,ds,ρ',R,f,q⟩:=aa;obtain⟨⟨d,ae⟩,f,f2⟩:=a_0 f;obtain⟨x,ac,y,h1,h2,O⟩:=s_7 f;unfold e_7 at O;split at O
  ·cases O;cases f2
  ·obtain⟨_,rfl⟩:=ifs O;cases f2
  ·rename_i xs ys;obtain⟨hz,rfl⟩:=ifs O;cases f2;refine⟨c,H0,ρ,_,ac,R,h1,λ v H1 Hh s1 R1 r1=>⟨c,H1,ac,_,ae,R1,h2,λ u H2 Hh2 s2 R2 r2=>?_⟩⟩;have Y:=Rep.mono s2 _ r1;obtain⟨p,vs,rfl,sp,rp⟩:=Y;obtain⟨p2,ws,rfl,ad,Z⟩:=r2;have l1:=rp.length;have l2:=Z.length;exact⟨p,p2,vs,ws,rfl,rfl,Same.seq R2.same sp,Same.seq R2.same ad,by omega,λ l hl=>q l _ H2 Hh2 (s1.trans s2) R2 hl (rp.app Z)⟩
  ·cases O
theorem xfr (h:XO' X e A):XE X e (eFr A):=PE.wk h λ σ H Q O=>by
 obtain⟨c,H0,ρ,d,ρ',R,f,q⟩:=O;obtain⟨⟨ds,Y⟩,h1,f⟩:=a_0 f;cases f;refine⟨c,H0,ρ,ds,Y,R,h1,λ p vs H1 Hh s1 Z hp r1=>?_⟩;have S:=Step.alloc (o:=.lst vs) Z.same hp;refine q _ _ _ (s1.trans S.s0) (Z.after S) ?_;exact⟨p,vs,rfl,.inl (.inl a_4),Reps.mono S.s0 _ r1⟩
end
end Fx
namespace L2
open PySem PySem.Spec PyProof.Rows
theorem Inv.turnedL {fs:List Addr} (I:Inv X pins σ H s) (k:∀ b o,b∉fs->s.heap.get? b=some o->h'.get? b=some o) (Y:∀ b∈fs,FpOk X pins H b) :
  Inv X pins σ H {s with heap:=h',toks:=t'}:=by
 have out:∀ b u,H b=some u->b∉fs:=λ b u e z=>by rw[(Y b z).1] at e;cases e
 refine I.step (λ b hb=>?_) (λ b o _ _ O e _=>k b o O e) (λ b o _ _ O e _=>⟨o.slots,k b o O e⟩) (λ _ _ _ _ n=>n)
  (λ b o O e=>⟨o,k b o O e⟩) (λ _ _ e=>e) (λ _ _ _ e=>e) (λ b ps e=>⟨#[],by rw[e];simp⟩) (λ m hm=>?_) (λ b u e=>?_) I.bare
 ·obtain⟨_,Z,_,z3,z4,z5⟩:=Y b hb;exact⟨z3,Z,z4,z5⟩
 ·obtain⟨o,es,ep,ho,r⟩:=hm;exact⟨o,es,ep,k _ o (λ z=>(Y _ z).2.1 rfl) ho,r⟩
 ·refine (I.hok b u e).stay (λ c v O q=>k c v ?_ q) (λ _ q=>q) λ _ _ q=>q;rcases O with z | z
  ·rw[z];exact out b u e
  ·exact out _ _ z
theorem FpOk.upd  (h:FpOk X pins H b) (n:b≠p):FpOk X pins (upd H p u) b:=⟨by rw[a_8 n];exact h.1,h.2⟩
end L2
namespace Fx
open PySem PySem.Spec PyProof.Rows L2
def y_6 (K:Frag) (J:It) (H1:Hp) (xs:List D):Prop:=∀ (H0 H:Hp) (i:Nat),Same H1 H0->Same H0 H ->
 (∀ d,xs[i]?=some d->J.go i H/\∀ x H',J.yld i H x H'->∃ H0',Step H0 H H0' H'/\Rep K H0' d x)/\(xs.length<=i->J.stop i H)
theorem aY7 {K:Frag} (R:RS K c H1 Hh ρ σ) (hf:fGo g B xs ρ=some r) (hy:y_6 K J H1 xs) (q:Post K c Dn H1 r) :
  ∃ W:Nat->Nat->L2.St->Hp->Prop,(∃ m,W 0 m σ Hh)/\∀ i m σ H,W i m σ H ->
   (J.stop i H/\Dn.nx σ H)\/(J.go i H/\∃ N:L2.St->Hp->Prop,(∀ O H',N O H'->∃ m',m'<m/\W (i+1) m' O H')/\∀ x H',J.yld i H x H'->tG K g x σ H' λ af H2=>tS K B {Dn with nx:=N,ct:=N,bk:=Dn.nx} af H2):=by
 refine⟨λ i m σ H=>m=xs.length-i/\i<=xs.length/\∃ H0 ρ,Same H1 H0/\RS K c H0 H ρ σ/\fGo g B (xs.drop i) ρ=some r,⟨xs.length,by simp,yi _,H1,ρ,Same.refl _,R,by simpa using hf⟩,?_⟩;rintro i m σ H ⟨rfl,hi,H0,ρ,s0,R0,Z⟩;obtain⟨y1,y2⟩:=hy H0 H i s0 R0.same;by_cases ad:i<xs.length
 ·have hd:xs[i]?=some xs[i]:=by simp[ad]
  obtain⟨go,yl⟩:=y1 _ hd;refine .inr ⟨go,λ O H'=>∃ m',m'<xs.length-i/\m'=xs.length-(i+1)/\i+1<=xs.length/\∃ H0 ρ,Same H1 H0/\RS K c H0 H' ρ O/\fGo g B (xs.drop (i+1)) ρ=some r,λ O H' ⟨m',a,b⟩=>⟨m',a,b⟩,λ x H' hx=>?_⟩;obtain⟨H0',S,rx⟩:=yl x H' hx;rw[s_0 hd,X_5] at Z;obtain⟨ae,g1,Z⟩:=a_0 Z;obtain⟨z,g2,Z⟩:=a_0 Z;refine⟨c,H0',ρ,_,ae,R0.after S,rx,g1,λ ag H2 Hh2 s2 R2=>⟨c,H2,ae,z,R2,g2,?_⟩⟩;have ac:=s0.trans S.s0;cases z with
  |nx Y=>exact λ O H3 Hh3 s3 R3=>⟨_,by omega,rfl,ad,H3,Y,ac.trans (s2.trans s3),R3,Z⟩
  |ct Y=>exact λ O H3 Hh3 s3 R3=>⟨_,by omega,rfl,ad,H3,Y,ac.trans (s2.trans s3),R3,Z⟩
  |bk Y =>
   have aa:=Z;cases aa;exact λ O H3 Hh3 s3 R3=>q O H3 Hh3 (ac.trans (s2.trans s3)) R3
  |rt d Y =>
   have aa:=Z;cases aa;exact λ v O H3 Hh3 s3 R3 r3=>q v O H3 Hh3 (ac.trans (s2.trans s3)) R3 r3
 ·have hn:xs.drop i=[]:=j3 (by omega);rw[hn,ap3] at Z;have aa:=Z;cases aa;exact .inl ⟨y2 (by omega),q σ H0 H s0 R0⟩
def Ite (K:Frag) (l:Addr):It :=
 ⟨λ i H=>∃ xs x,SqL K H l xs/\xs[i]?=some x,λ i H x H'=>∃ v p,(∀ xs,SqL K H l xs->xs[i]?=some v)/\x=.ref p/\H p=none/\H'=upd H p (.tup [.int i,v]),λ i H=>∃ xs,SqL K H l xs/\xs.length<=i⟩
theorem ag9 {K:Frag} (l e it:Addr) (ne:e≠it):Turn P w K (.Tuple ac x1 pt) (Ite K l) [e,it] e (λ i h=>∃ Z,IsEnum h e it i Z/\h.IsListIter it l i) where
 mem:=qg
 obj:=λ i h O b Y=>by
  obtain⟨Z,st,li⟩:=O;rcases qw Y with rfl | Y
  ·exact⟨_,st,λ v z=>by cases z⟩
  ·obtain⟨o,a,c,d⟩:=li;rw[List.mem_singleton.mp Y];exact⟨o,a,λ v z=>by rw[d] at z;cases z⟩
 keep:=λ i h h' ⟨Z,st,li⟩ k=>⟨Z,k e (by simp) _ st,li.at λ o q=>k it (by simp) o q⟩
 item:=λ X hP hw hK hc i pins s σ H E I hf O aa=>by
  obtain⟨Z,st,li⟩:=O;obtain⟨xs,x,sq,hx⟩:=aa;subst hP hw hK;obtain⟨ae,rv,pl,hz⟩:=I.list sq;obtain⟨u,hu,ru⟩:=rv.get hx;have ad:=qm st;have af:it<s.heap.objs.size:=by obtain⟨_,q,_⟩:=id li;exact qm q
  have hp:=I.hok.fresh (qj _);refine wpAny_pyNext_enum_item st li pl.isList (by simpa using hu) ne λ h1 k1 k2 k3 k4 k5=>⟨_,rfl,?_⟩
  refine wpAny_letOwnedTupleGo_enum k1 λ h2 e2 sb=>?_;have I0:=
   I.laid (t':=s.toks+1) (λ b o q=>qf _ q) (qj _) (show ObjOk X.prog X.w _ _ _ (.tup [.int i,x]) from ⟨by show (2:Nat)<=sizeLine;decide,[.int i s.toks,u],.cons ⟨_,rfl⟩ (.cons ru .nil),IsTuN.new _ _⟩)
  have fp:∀ b∈[e,it],FpOk X pins (upd H s.heap.objs.size (.tup [.int i,x])) b:=λ b Y=>(hf b Y).upd (by
   rcases qw Y with rfl | Y
   ·exact qv ad
   ·rw[List.mem_singleton.mp Y];exact qv af)
  have I2:Inv X pins σ (upd H s.heap.objs.size (.tup [.int i,x])) {s with heap:=h2,toks:=s.toks+1}:=Inv.turnedL (s:={s with heap:=s.heap.push {cls:=.type "tuple",data:=.seq #[.int i s.toks,u]},toks:=s.toks+1}) I0 (λ b q Y z=>by
   have b1:b≠e:=λ y=>Y (by simp[y]);have b2:b≠it:=λ y=>Y (by simp[y]);refine (sb.2 b b1).trans ?_;rcases Y2 z with ⟨z1,z2⟩ | z
   ·rw[z1,z2];exact k3
   ·exact k5 b q b1 b2 z) fp
  refine⟨.ref s.heap.objs.size,_,I2,rfl,⟨x,_,λ ys hy=>by rw[I.list_inj hy sq];exact hx,rfl,hp,rfl⟩,⟨_,by rw[show ((i+1:Nat):Int)=(i:Int)+1 by omega];exact e2,k2.at λ o q=>(sb.2 it (yk ne)).trans q⟩,λ b Y=>(fp b Y).1⟩
 done:=λ X hP hw hK hc i pins s σ H E I hf O aa=>by
  obtain⟨Z,st,li⟩:=O;obtain⟨xs,sq,hx⟩:=aa;subst hP hw hK;obtain⟨ae,rv,pl,hz⟩:=I.list sq;have hl:=rv.length;exact wpAny_pyNext_enum_end (I.ok.hd hc) st li pl.isList (by simp;omega) λ h' eb=>⟨rfl,I.turnedL (λ b o Y q=>eb b o (λ y=>Y (by simp[y])) q) hf⟩
 self:=λ _ _ _ _ _ ⟨_,st,_⟩ h=>wpAny_pyIter_enum st h
def cl0 (K:Frag) (t:TE):TI:=λ σ H R=>t σ H λ x H1=>∃ a xs,x=.ref a/\SqL K H1 a xs/\R (Ite K a) H1
theorem aj7  (hg:Gl X "enumerate") (hm:X.mg "enumerate"=none) (hl:PE X l tl) (hs:starEach [l] X.env=[(false,eval l X.env)]:=by rfl):PI X (.Tuple Z x1 pt) (.Call (.Name "enumerate" p) [l] [] pos) (cl0 X.K tl):=by
 intro pins s σ H R I h;refine Call_ (n_6 I hg hm (u:=.type "enumerate") (by decide +kernel) (yq (thn (e_2 hl k_4 hs pos pins s σ H (λ vs H1=>match vs with | [x]=>(∃ a xs,x=.ref a ∧ SqL X.K H1 a xs ∧ R (Ite X.K a) H1) | _=>False) I h) λ us O=>ex5 λ vs H1 Y r1 q1=>?_) hs rfl))
 match vs,q1,r1 with
 |[x],q1,r1 =>
  obtain⟨a,xs,rfl,sq,q⟩:=q1;obtain⟨u,rfl,ru⟩:=j_3 r1;cases ru;obtain⟨aa,rv,pl,hz⟩:=Y.list sq;refine call_enumerate_list pl.isList λ h' st li sz k=>?_;refine wpAny_pyIter_enum st ⟨O.heap.objs.size+1,[O.heap.objs.size+1,O.heap.objs.size],_,_,H1,rfl,Y.kept k,ag9 a (O.heap.objs.size+1) O.heap.objs.size (Nat.succ_ne_self _),⟨_,st,li⟩,λ b hb=>?_,q⟩;rcases qw hb with rfl | hb
  ·exact Y.fpOk (Zc _) (Y.hok.fresh (Zc _))
  ·rw[List.mem_singleton.mp hb];exact Y.fpOk (qj _) (Y.hok.fresh (qj _))
theorem X_9:∀ (xs:List D) (k:Nat),(x_2 k xs).length=xs.length
 |[],_=>rfl
 |_::r,k=>by show (x_2 (k+1) r).length+1=r.length+1;rw[X_9 r]
theorem Y_0:∀ (xs:List D) (k i:Nat) {d:D},(x_2 k xs)[i]?=some d->∃ y,xs[i]?=some y/\d=.tup [.int ((k+i:Nat):Int),y]
 |[],_,_,_,h=>by cases h
 |x::r,k,0,d,h=>by cases h;exact⟨x,rfl,rfl⟩
 |x::r,k,i+1,d,h=>by
  obtain⟨y,a,b⟩:=Y_0 r (k+1) i (show (x_2 (k+1) r)[i]?=some d from h);exact⟨y,a,by rw[b,show k+1+i=k+(i+1) by omega]⟩
theorem u_6 {K:Frag} (rd:SqL K H1 a vs) (r:Reps K H1 xs vs):y_6 K (Ite K a) H1 (x_2 0 xs):=λ H0 H i s s'=>by
 have Y:=Same.seq (s.trans s') rd;refine⟨λ d e=>?_,λ h=>⟨vs,Y,by rw[<- r.length,<- X_9 xs 0];exact h⟩⟩;obtain⟨y,e1,rfl⟩:=Y_0 xs 0 i e;obtain⟨v,e2,rv⟩:=r.get e1;refine⟨⟨vs,v,Y,e2⟩,λ x H' q=>?_⟩;obtain⟨v',p,O,ex,Z,eH⟩:=q;have O:=O vs Y;subst ex eH;rw[e2] at O;cases O;have S:=Step.alloc (o:=.tup [.int i,v]) s' Z;refine⟨_,S,?_⟩;rw[Nat.zero_add];exact⟨p,_,rfl,.inl (.inl a_4),Reps.cons (d_3 _ _) (Reps.one (Rep.mono (s.trans S.s0) _ rv))⟩
section
theorem bC9  (hm:X.mg "enumerate"=none) (hg:XG X (.Tuple O x1 pt) g) (ha:XE X a F) (hb:XSs X body B) (Z:Gl X "enumerate":=by rfl)
  (hp:PassesOwn (model X.prog X.w) X.A X.env X.xe:=by exact Ys) (hc:X.calm=true:=by rfl) (aa:starEach [a] X.env=[(false,eval a X.env)]:=by rfl)
  (hs:∀ x,foldedSetIterable (.Call (.Name "enumerate" p) [a] [] pos') X.env x=pure x:=by intro _;rfl) :
  XS X (.For (.Tuple O x1 pt) (.Call (.Name "enumerate" p) [a] [] pos') body [] pos) (ax9 g F B):=PS.wk (J_0 hp hc (aj7 Z hm ha aa) hg hb hs) λ Dn σ H Y=>by
 obtain⟨c,H0,ρ,r,R,f,q⟩:=Y;obtain⟨⟨d,ac⟩,h1,f⟩:=a_0 f;obtain⟨xs,h2,f⟩:=a_0 f;dsimp only at h2 f;unfold lsX at h2;split at h2
 rotate_left
 ·cases h2
 cases h2;refine⟨c,H0,ρ,_,ac,R,h1,λ v H1 Hh s1 R1 r1=>?_⟩;obtain⟨a,vs,rfl,sq,rs⟩:=r1;exact⟨a,vs,rfl,Same.seq R1.same sq,aY7 R1 f (u_6 sq rs) (q.mono s1)⟩
end
end Fx
namespace Fx
open PySem PySem.W PyProof.Rows
section
abbrev ltR (r:Nat->Nat) (i j:Nat):Bool:=decide (r i<r j)
structure OkP (n:Nat) (p:Array Nat):Prop where
 size:p.size=n
 perm:p.toList.Perm (List.range n)
end
end Fx
namespace Fx
open PySem PySem.Spec PyProof.Rows L2
def co6:D->Value->Prop
 |.int i,v=>∃ t,v=.int i t
 |.str a,v=>∃ t,v=.str a t
 |_,_=>False
inductive Flats:List D->List Value->Prop
 |nil:Flats [] []
 |cons {d:D}{u:Value}{ds:List D}{us:List Value} (h:co6 d u) (r:Flats ds us):Flats (d::ds) (u::us)
theorem Flats.length  (h:Flats ds us):ds.length=us.length:=by
 induction h with
 |nil=>rfl
 |cons _ _ q=>simp[q]
end Fx
namespace Fx
open PySem PySem.W PySem.Spec PyProof.Rows
section
structure Asks (prog:Program) (w:World) (A:Around) (s:Shared) (a:Addr) (vs:List Value) (κ:SortKind) (r:Nat->Nat):Prop where
 kind:2<=vs.length->∀ h',(∀ b o,b≠a->s.heap.get? b=some o->h'.get? b=some o)->∀ Q:SortKind->Shared->Prop,Q κ {s with heap:=h'}->wpAny (model prog w) A (keyKind' vs.toArray) Q (λ _ _=>False) {s with heap:=h'}
 ask:∀ h',(∀ b o,b≠a->s.heap.get? b=some o->h'.get? b=some o)->∀ i j,i<vs.length->j<vs.length->∀ C:Bool->Shared->Prop,C (ltR r i j) {s with heap:=h'}->kas_ask prog w A κ vs i j C {s with heap:=h'}
end
end Fx
namespace Fx
open PySem PySem.W PySem.Spec PyProof.Rows L2
end Fx
namespace Fx
open PySem PySem.W PyProof.Rows
structure Cmp (prog:Program) (w:World) (A:Around) (s:Shared) (κ:SortKind) (rk:Keyed->Nat) (M:Keyed->Prop):Prop where
 ask:∀ x y,M x->M y->∀ Q:Bool->Shared->Prop,Q (decide (rk x<rk y)) s->wpAny (model prog w) A (keyLt' κ x.1 y.1) Q (λ _ _=>False) s
structure Gm (le:Keyed->Keyed->Prop) (T out P Q:List Keyed):Prop where
 perm:(out++P++Q).Perm T
 so:out.Pairwise le
 bp:∀ x∈out,∀ y∈P,le x y
 bq:∀ x∈out,∀ y∈Q,le x y
 sp:P.Pairwise le
 sq:Q.Pairwise le
section
theorem Gm.swap (h:Gm le T out P Q):Gm le T out Q P:=by refine⟨List.Perm.trans ?_ h.perm,h.so,h.bq,h.bp,h.sq,h.sp⟩;rw[jx,jx];exact List.perm_append_comm.append_left out
end
def leR (rk:Keyed->Nat) (x y:Keyed):Prop:=rk x<=rk y
def Rk (rk:Keyed->Nat) (xs:Array Keyed) (i:Nat):Nat:=match xs[i]? with
 |some x=>rk x
 |none=>0
theorem bC3  (h:xs[i]?=ys[j]?):Rk rk xs i=Rk rk ys j:=by unfold Rk;rw[h]
def Kp (lo:Nat) (a xs:Array Keyed):Prop:=xs.Perm a/\∀ i,i<lo->xs[i]?=a[i]?
theorem Kp.size {lo:Nat} (h:Kp lo a xs):xs.size=a.size:=h.1.size_eq
def UpO (rk:Keyed->Nat) (xs:Array Keyed) (lo m:Nat):Prop:=∀ i j,i<=j->j<m->Rk rk xs (lo+i)<=Rk rk xs (lo+j)
section
structure Gap (rk:Keyed->Nat) (xs:Array Keyed) (lo k l r:Nat):Prop where
 ord:l<=r/\r<=k
 below:∀ i<l,Rk rk xs (lo+i)<=Rk rk xs (lo+k)
 above:∀ i<k,r<=i->Rk rk xs (lo+k)<Rk rk xs (lo+i)
theorem Gap.all {lo k:Nat}:Gap rk xs lo k 0 k:=⟨⟨yi _,qj _⟩,λ i z=>absurd z (Nat.not_lt_zero i),λ i z y=>absurd (qt z y) (yp _)⟩
end
def aI4:List (List Keyed×Nat)->Nat->List (Nat×Nat×Nat)
 |[],_=>[]
 |r::t,o=>(o,r.1.length,r.2)::aI4 t (o+r.1.length)
def F_6 (rs:List (List Keyed×Nat)):List Keyed:=(rs.map (·.1)).flatten
theorem bs8 (a b:List (List Keyed×Nat)):F_6 (a++b)=F_6 a++F_6 b:=by unfold F_6;rw[yf,List.flatten_append]
theorem ad4 (r:List Keyed×Nat) (b:List (List Keyed×Nat)):F_6 (r::b)=r.1++F_6 b:=by unfold F_6;rw[qz,jo]
theorem ay7:∀ (a b:List (List Keyed×Nat)) (o:Nat),aI4 (a++b) o=aI4 a o++aI4 b (o+(F_6 a).length)
 |[],b,o=>rfl
 |r::a,b,o=>by
  rw[jh];show (o,r.1.length,r.2)::aI4 (a++b) (o+r.1.length)=(o,r.1.length,r.2)::(aI4 a (o+r.1.length)++aI4 b _);rw[ay7 a b,ad4,zh,Nat.add_assoc]
structure RunsOk (rk:Keyed->Nat) (κ:SortKind) (T:List Keyed) (post:List Keyed) (rs:List (List Keyed×Nat)) (st:SortSt):Prop where
 kind:kindOf st=κ
 fail:failedOf st=none
 pend:(pendingOf st).toList=aI4 rs 0
 arr:(arrOf st).toList=F_6 rs++post
 perm:(arrOf st).toList.Perm T
 ne:∀ r∈rs,r.1≠[]
 so:∀ r∈rs,r.1.Pairwise (leR rk)
end Fx
namespace Fx
open PySem PySem.W PySem.Spec PyProof.Rows
end Fx
namespace Fx
open PySem PySem.W PySem.Spec PyProof.Rows L2
section
theorem aU5  (h1:0<=n) (h2:n<=1000) (q:x.length<=1000):MulOk x n:=by
 refine⟨?_,λ _ _=>?_,λ _ _=>?_⟩
 ·rw[zy (by omega),zy (by omega)];rfl
 ·have:(x.length:Int)*n<=1000*1000:=Int.mul_le_mul (by omega) h2 (by omega) (by decide);have:=Int.le_ediv_of_mul_le (show 0<n by omega) (show (x.length:Int)*n<=2 ^ 63-1 by omega);omega
 ·have:x.length*n.toNat<=1000*1000:=Nat.mul_le_mul q (by omega);unfold Builtin.Str.tooLong;have big:1000*1000<=sizeLine:=by decide
  simp;omega
theorem bJ7:H_1 X .Mult aE9:=⟨λ x y H Q=>∃ a n,x=.str a/\y=.int n/\MulOk a n/\Q (.str (Txt.mul a n)) H,λ pins s σ H x y u v Q I rx ry O=>by
 obtain⟨a,n,ex,ey,ok,q⟩:=O;subst ex ey;obtain⟨t,rfl⟩:=rx;obtain⟨w,rfl⟩:=ry;exact SB.mul ok λ t' k=>⟨.str _,H,I.tok k,⟨t',rfl⟩,q⟩,λ c H0 H ρ σ x y d vx vy Q R Y Z e q=>by
  unfold aE9 at e;split at e
  ·obtain⟨⟨h1,h2,h3⟩,rfl⟩:=ifs e;subst Y Z;exact⟨_,_,rfl,rfl,aU5 h1 h2 h3,q _ H0 H (Same.refl _) R (by rfl)⟩
  ·cases e⟩
end
end Fx
namespace Fx
open PySem PySem.Spec PyProof.Rows L2
theorem L_4 :∀ l:List α,((List.range ((l.length+1) / 2)).filterMap λ m=>l[2*m]?)=evn l
 |[]=>by simp[evn]
 |[a]=>by simp[evn]
 |a::b::r=>by
  have q:=L_4 r;have e:((a::b::r).length+1) / 2=(r.length+1) / 2+1:=by simp only[zj];omega
  rw[e,Yo,Q4];show a::_=a::evn r;rw[Jb,<- q];congr 1
theorem R_0 :∀ l:List α,(evn l).length<=l.length
 |[]=>qj _
 |[a]=>qj _
 |a::b::r=>by
  have:=R_0 r;show (evn r).length+1<=r.length+1+1;omega
theorem X_7:∀ {xs:List V}{us:List Value},Vals xs us->Vals (evn xs) (evn us)
 |[],_,h=>by cases h;exact .nil
 |[_],_,h=>by
  cases h with
  |cons a t=>cases t;exact .cons a .nil
 |_::_::_,_,h=>by
  cases h with
  |cons a t =>
   cases t with
   |cons b c=>exact .cons a (X_7 c)
theorem F_7 {K:Frag}:∀ {ds:List D}{vs:List V},Reps K H ds vs->Reps K H (evn ds) (evn vs)
 |[],vs,h=>by subst h;exact Reps.nil_
 |[d],vs,h=>by
  obtain⟨v,r,rfl,a,h2⟩:=h;subst h2;exact Reps.one a
 |d::e::ds,vs,h=>by
  obtain⟨v,r,rfl,a,h2⟩:=h;obtain⟨Y,O,rfl,_,q⟩:=h2;exact Reps.cons a (F_7 q)
theorem ah4 (xs:Array Value) (i:Nat) (hi:i<=xs.size):((List.range (Builtin.Slice.slicePlaces (i:Int) (xs.size:Int) 2)).filterMap λ (m:Nat)=>xs[((i:Int)+(m:Int)*2).toNat]?).toArray=(evn (xs.toList.drop i)).toArray:=by
 have k:Builtin.Slice.slicePlaces (i:Int) (xs.size:Int) 2=((xs.toList.drop i).length+1) / 2:=by
  unfold Builtin.Slice.slicePlaces;rw[yr,yg,if_pos (by decide)];by_cases h:(i:Int)<(xs.size:Int)
  ·rw[if_pos h];omega
  ·rw[if_neg h];omega
 rw[k,<- L_4];congr 2;funext m;rw[List.getElem?_drop,Yy,show ((i:Int)+(m:Int)*2).toNat=i+2*m by omega]
section
theorem ah7 {lo:Option Int}{n:Nat} (hs:s.heap.IsSliceOf sl O .none (.int 2 t)) (pl:IsPart O lo)
  (h:Q (((HT.sIx n 0 lo:Nat):Int),2,Builtin.Slice.slicePlaces ((HT.sIx n 0 lo:Nat):Int) (n:Int) 2) s):wpAny (model prog w) A (Builtin.Slice.sliceApplied (.ref sl) (pure (n:Int))) Q E s:=by
 obtain⟨os,q,aa,hds⟩:=id hs;refine qb (qb (zx q hds rfl (qb (zx q hds rfl (qb (zx q hds rfl (qc ?_)))))));refine qb (HT.slicePart_ (.int 2 t) ?_);rw[if_neg (by decide)];refine qb (HT.slicePart_ pl (qb (HT.slicePart_ .none (qb (qc ?_)))));have Z:Builtin.Slice.sliceAdjust lo none 2 (n:Int)=(((HT.sIx n 0 lo:Nat):Int),(n:Int)):=by
  have Y:¬ ((2:Int)<0):=by omega
  unfold Builtin.Slice.sliceAdjust;refine Prod.ext ?_ rfl;cases lo with
  |none=>rfl
  |some v=>exact HT.clip_eq v n 0
 show wpAny _ _ (match Builtin.Slice.sliceAdjust lo none 2 (n:Int) with | (lo,hi)=>pure (lo,(2:Int),Builtin.Slice.slicePlaces lo hi 2)) _ _ s;rw[Z];exact qc h
theorem aC5 {items:Array Value}{lo:Option Int} (q:IsTup s.heap t items) (hs:s.heap.IsSliceOf Z vl .none (.int 2 tk)) (pl:IsPart vl lo)
  (h:Q (.ref s.heap.objs.size) {s with heap:=s.heap.push {cls:=.type "tuple",data:=.seq (evn (items.toList.drop (HT.sIx items.size 0 lo))).toArray}})
  (hsz:items.size<=sizeLine):wpAny (model prog w) A (getItem (.ref t) (.ref Z)) Q E s:=by
 have ok:sizeOk (.seq (evn (items.toList.drop (HT.sIx items.size 0 lo))).toArray):=by show (evn (items.toList.drop (HT.sIx items.size 0 lo))).toArray.size<=sizeLine;have l1:=R_0 (items.toList.drop (HT.sIx items.size 0 lo));have l2:=yr (i:=HT.sIx items.size 0 lo) (l:=items.toList);have l3:items.toList.length=items.size:=yg;rw[zc];omega
 obtain⟨os,aa,O,hds⟩:=id hs;have Y:s.TypeIs (.ref Z) "slice":=⟨os,aa,O⟩;unfold getItem
 try with_reducible refine yh ?_
 first | refine qb (qc ?_) | skip
 refine qb (wpAny_sequenceKey q.typeIs (by decide) ?_);refine qb (wpAny_callSpecial?_slot q.typeIs Qd
  (j4 Qd q.typeIs entry_tuple_getitem ?_ (args_tuple_getitem _ _)))
 show wpAny _ _ (Builtin.Tuple.tupleItemsOf (.ref t) >>= _) _ _ s;refine qb (tupleItemsOf_ q ?_);refine qb (Yl Y ?_);rw[if_pos (by decide)];refine qb (ah7 hs pl ?_);have no:¬ ((((HT.sIx items.size 0 lo:Nat):Int)==0&&(2:Int)==1&&Builtin.Slice.slicePlaces ((HT.sIx items.size 0 lo:Nat):Int) (items.size:Int) 2==items.size)=true):=by rw[show ((2:Int)==1)=false by decide,Y3,Bool.false_and];exact qp
 show wpAny _ _ (if (((HT.sIx items.size 0 lo:Nat):Int)==0&&(2:Int)==1&&Builtin.Slice.slicePlaces ((HT.sIx items.size 0 lo:Nat):Int) (items.size:Int) 2==items.size)=true then _ else _) _ _ s;rw[if_neg no,ah4 items _ (HT.sIx_le _ _ (yi _) lo)]
 first
  |exact qb (yj (qc ⟨_,rfl,qc h⟩) ok)
  |exact qb (yj (qb (qc (qc ⟨_,rfl,qc h⟩))) ok)
  |exact qb (qb (yj (qc (qc ⟨_,rfl,qc h⟩)) ok))
  |exact qb (qb (yj (qc ⟨_,rfl,qc h⟩) ok))
end
section
theorem aJ1 {lo:Option Expr} (he:PE X e te) (hl:PO X lo tl):PE X (.Subscript e (.Slice lo none (some (.Constant (.int 2) k p3)) p2) pos)
  (λ σ H Q=>te σ H λ x H1=>tl σ H1 λ o H2=>∃ a xs,x=.ref a/\SqT X.K H2 a xs/\∀ p,H2 p=none->Q (.ref p) (upd H2 p (.tup (evn (xs.drop (HT.sIx xs.length 0 o)))))):=by
 intro pins s σ H Q I h;refine Subscript_ (thn (he pins s σ H _ I h) λ v s1=>ex5 λ x H1 I1 r1 q1=>?_);refine wpAny_Slice (thn (hl pins s1 σ H1 _ I1 q1) λ vl s2 O=>?_);obtain⟨o,H2,I2,pl,a,xs,ex,sq,q⟩:=O;subst ex;cases r1;rw[Y7];refine qc ?_;rw[evalPart_some];refine thn (V_0 pins s2 σ H2 (λ y H'=>y=.int 2/\H'=H2) I2 ⟨rfl,rfl⟩) λ st Z O=>?_;obtain⟨y,H3,I3,ry,ey,eH⟩:=O;subst ey eH;obtain⟨t,rfl⟩:=ry;have I4:Inv X pins σ H3 {Z with heap:=Z.heap.push {cls:=.type "slice",data:=.fields #[vl,.none,.int 2 t]}}:=I3.kept λ b ob q=>qf _ q;obtain⟨aa,rv,ht,hz⟩:=I4.tuple sq;have Y:aa.toArray.size=xs.length:=by rw[zc];exact rv.length.symm
 refine tail_any ht.typeIs PyProof.Rows.slot_tuple_getitem.lookup ?_ (by with_unfolding_all rfl);refine aC5 ht (Heap.IsSliceOf.new ..) pl ?_ (by rw[Y];exact hz);rw[Y];refine⟨.ref _,_,I4.laid (λ b ob q=>qf _ q) (qj _) ?_,rfl,q _ (I4.hok.fresh (qj _))⟩;refine⟨zo (R_0 _) (by rw[yr];omega),_,X_7 (rv.drop _),IsTuN.new _ _⟩
theorem ah3  (h:e1 (af4 i) F ρ=some (d,ρ')):∃ xs,F ρ=some (.tup xs,ρ')/\d=.tup (evn (xs.drop i)):=by
 obtain⟨⟨x,q⟩,h1,f⟩:=a_0 h;obtain⟨d',h2,f⟩:=a_0 f;have O:=f;cases O;dsimp only at h2;unfold af4 at h2;split at h2
 ·cases h2;exact⟨_,h1,rfl⟩
 ·cases h2
theorem bS6  (he:XE X e F):XE X (.Subscript e (.Slice none none (some (.Constant (.int 2) k p3)) p2) pos) (e1 (af4 0) F):=PE.wk (aJ1 he aj5) λ σ H Q O=>by
 obtain⟨c,H0,ρ,d,ρ',R,f,q⟩:=O;obtain⟨xs,h1,rfl⟩:=ah3 f;refine⟨c,H0,ρ,_,_,R,h1,λ v H1 Hh s1 Y Z=>?_⟩;obtain⟨a,ws,rfl,sq,t⟩:=Z;refine⟨a,ws,rfl,Same.seqT Y.same sq,λ p hp=>?_⟩;have S:=Step.alloc (o:=.tup (evn (ws.drop 0))) Y.same hp;refine q _ _ _ (s1.trans S.s0) (Y.after S) ?_;exact⟨p,_,rfl,.inl (.inl a_4),Reps.mono S.s0 _ (F_7 t)⟩
theorem cd4  (he:XE X e F):XE X (.Subscript e (.Slice (some (.Constant (.int 1) k1 p4)) none (some (.Constant (.int 2) k p3)) p2) pos) (e1 (af4 1) F):=PE.wk (aJ1 he (aj4 V_0)) λ σ H Q O=>by
 obtain⟨c,H0,ρ,d,ρ',R,f,q⟩:=O;obtain⟨xs,h1,rfl⟩:=ah3 f;refine⟨c,H0,ρ,_,_,R,h1,λ v H1 Hh s1 Y Z=>?_⟩;obtain⟨a,ws,rfl,sq,t⟩:=Z;refine⟨1,rfl,a,ws,rfl,Same.seqT Y.same sq,λ p hp=>?_⟩;have e:ws.drop (HT.sIx ws.length 0 (some 1))=ws.drop 1:=by
  rw[show (some (1:Int))=some ((1:Nat):Int) from rfl,HT.sIx_nat];cases ws with
  |nil=>rfl
  |cons a r=>rw[show min 1 (a::r).length=1 by simp]
 rw[e];have S:=Step.alloc (o:=.tup (evn (ws.drop 1))) Y.same hp;refine q _ _ _ (s1.trans S.s0) (Y.after S) ?_;exact⟨p,_,rfl,.inl (.inl a_4),Reps.mono S.s0 _ (F_7 (Reps.drop 1 t))⟩
end
end Fx
namespace Fx
open PySem PySem.Spec
def SetS (P:Program) (w:World) (bt:Bool) (h:Heap) (a:Addr) (ss:List Str):Prop:=h.SetOf (PySem.strKind P w) a (λ k=>decide (k∈ss)) ss.length
section
theorem B_1  (e:v=.str y t):(PySem.strKind P w).is x v=decide (x=y):=by
 subst e;have h:(PySem.strKind P w).is y (.str y t)=true:=by show Value.isStrOf y (.str y t)=true;simp[Value.isStrOf]
 exact KeyKind.is_eq_decide h x
theorem aa3  (Z:SetS P w bt s.heap a ss) (O:ss.length+1<scanBound)
  (h:∀ h',Heap.SameBut a s.heap h'->SetS P w bt h' a (if x∈ss then ss else ss++[x])->Q (!decide (x∈ss)) {s with heap:=h'}) :
  wpAny (model P w) A (setAddHashed a (.str x tk) ((PySem.strKind P w).hash x)) Q E s:=by
 refine wpAny_setAddHashed_of (by rw[B_1 rfl];simp) rfl Z O λ h' sb Y=>h h' sb ?_;unfold SetS;by_cases c:x∈ss
 ·rw[yc c] at Y;rw[if_pos c];have e:(λ k=>decide (k∈ss)||decide (k=x))=λ k=>decide (k∈ss):=funext λ k=>by
   by_cases q:k=x
   ·rw[q];simp[c]
   ·simp[q]
  rw[e] at Y;exact Y
 ·rw[zy c] at Y;rw[if_neg c,zh];have e:(λ k=>decide (k∈ss)||decide (k=x))=λ k=>decide (k∈ss++[x]):=funext λ k=>by simp
  rw[e] at Y;exact Y
end
def ItAt:Bool->Heap->Addr->Addr->Nat->Prop
 |true,h,it,c,i=>h.IsTupleIter it c i
 |false,h,it,c,i=>h.IsListIter it c i
def SqAt:Bool->Heap->Addr->Array Value->Prop
 |true,h,c,us=>h.IsTuple c us
 |false,h,c,us=>h.IsList c us
section
theorem SqAt.keep  (q:SqAt T h c us) (k:∀ b o,h.get? b=some o->h'.get? b=some o):SqAt T h' c us:=by
 cases T with
 |true=>obtain⟨o,O,r⟩:=q;exact⟨o,k _ _ O,r⟩
 |false=>obtain⟨o,O,r⟩:=q;exact⟨o,k _ _ O,r⟩
theorem al6  (a:ItAt T s.heap it c i) (b:SqAt T s.heap c us) (q:us[i]?=some x)
  (k:∀ h',ItAt T h' it c (i+1)->Heap.SameBut it s.heap h'->Q (some x) {s with heap:=h'}):wpAny (model P w) A (pyNext (.ref it)) Q E s:=by
 cases T with
 |true=>exact wpAny_pyNext_tuple_item a b q k
 |false=>exact wpAny_pyNext_list_item a b q k
theorem aB6  (q:A.handled=none) (a:ItAt T s.heap it c i) (b:SqAt T s.heap c us) (O:us[i]?=none)
  (k:∀ h',Heap.ExtBut it s.heap h'->Q none {s with heap:=h'}):wpAny (model P w) A (pyNext (.ref it)) Q E s:=by
 cases T with
 |true=>exact wpAny_pyNext_tuple_end q a b O k
 |false=>exact wpAny_pyNext_list_end q a b O k
theorem ad1  (b:SqAt T s.heap c us)
  (k:∀ oI:Obj,ItAt T (s.heap.push oI) s.heap.objs.size c 0->Q (.ref s.heap.objs.size) {s with heap:=s.heap.push oI}):wpAny (model P w) A (pyIter (.ref c)) Q E s:=by
 cases T with
 |true=>exact wpAny_pyIter_tuple b (k _ ⟨_,qk _ rfl,rfl,rfl⟩)
 |false=>exact wpAny_pyIter_list b (k _ ⟨_,qk _ rfl,rfl,rfl⟩)
theorem ItAt.same  (q:ItAt T h it c i) (Y:Heap.SameBut b h h') (ne:it≠b):ItAt T h' it c i:=by
 cases T with
 |true=>obtain⟨o,O,r⟩:=q;exact⟨o,(Y.2 it ne).trans O,r⟩
 |false=>obtain⟨o,O,r⟩:=q;exact⟨o,(Y.2 it ne).trans O,r⟩
theorem SetS.same  (q:SetS P w bt h a ss) (O:Heap.SameBut b h h') (ne:a≠b):SetS P w bt h' a ss:=by obtain⟨o,es,ep,t,Y,r⟩:=q;exact⟨o,es,ep,t,(O.2 a ne).trans Y,r⟩
theorem SetS.ext  (q:SetS P w bt h a ss) (Y:Heap.ExtBut b h h') (ne:a≠b):SetS P w bt h' a ss:=by obtain⟨o,es,ep,t,O,r⟩:=q;exact⟨o,es,ep,t,Y a _ ne O,r⟩
theorem SetS.keep  (q:SetS P w bt h a ss) (k:∀ b o,h.get? b=some o->h'.get? b=some o):SetS P w bt h' a ss:=by obtain⟨o,es,ep,t,O,r⟩:=q;exact⟨o,es,ep,t,k _ _ O,r⟩
theorem aP5  (h:PyProof.Rows.StrsAre all xs)  (e:xs.drop i=x::r):∃ tk,all[i]?=some (.str x tk):=by
 induction h generalizing i with
 |nil=>simp at e
 |cons y t h O =>
  cases i with
  |zero =>
   rw[List.drop_zero] at e;injection e with e1 e2
   subst e1;exact⟨t,rfl⟩
  |succ i =>
   rw[List.drop_succ_cons] at e;obtain⟨tk,q⟩:=O e;exact⟨tk,by simpa using q⟩
theorem ax5  (an:hI.get? a=none) (ai:hI.get? it=none) (aa:a≠it) (sq:SqAt T hI c all.toArray) (sa:PyProof.Rows.StrsAre all Z) (hh:A.handled=none) :
  ∀ (xs:List Str) (O:List Str) (s:Shared) (i:Nat),Z.drop i=xs->(∀ b o,hI.get? b=some o->s.heap.get? b=some o)->ItAt T s.heap it c i->SetS P w bt s.heap a O->O.length+xs.length+1<scanBound ->
   (∀ h' ad,(∀ b o,hI.get? b=some o->h'.get? b=some o)->SetS P w bt h' a (j_1 O xs)->R (.ok (.ret .none)) {s with heap:=h',toks:=ad}) ->
   codeAny (model P w) A (.builtin "set.update.loop" ⟨[.ref a,.ref it],[]⟩) R s:=by
 intro xs;induction xs with
 |nil =>
  intro O s i e kp ac hS hz q;refine jy Y4 ?_;rw[jj Q3 _];have hl:all.length=Z.length:=by have:=sa.strs;rw[<- this,qy]
  have hx:all.toArray[i]?=none:=by have:=Yx (by rw[hl];simpa using e);simpa using this
  refine qb (aB6 hh ac (sq.keep kp) hx λ h' eb=>qc ?_);exact q h' s.toks (λ b o Y=>eb b o (λ z=>by rw[z,ai] at Y;cases Y) (kp _ _ Y)) (hS.ext eb aa)
 |cons x xs ih =>
  intro O s i e kp ac hS hz q;refine jy Y4 ?_;rw[jj Q3 _];obtain⟨tk,am⟩:=aP5 sa e;have hx:all.toArray[i]?=some (.str x tk):=by simpa using am
  refine qb (al6 ac (sq.keep kp) hx λ h1 ae ag=>?_);have ak:∀ b o,hI.get? b=some o->h1.get? b=some o:=λ b o Y=>(ag.2 b (λ z=>by rw[z,ai] at Y;cases Y)).trans (kp _ _ Y);refine qb (yh ?_);have af:(PySem.strKind P w).is x (.str x tk)=true:=by rw[B_1 rfl];simp
  refine yh (qb ((PySem.strKind P w).pyHash af ?_));simp only[zj] at hz;refine aa3 (hS.same ag aa) (by omega) λ h2 ah aj=>?_;have al:∀ b o,hI.get? b=some o->h2.get? b=some o:=λ b o Y=>(ah.2 b (λ z=>by rw[z,an] at Y;cases Y)).trans (ak _ _ Y);have l2:(bg7 O x).length<=O.length+1:=by
   unfold bg7;split
   ·omega
   ·rw[zh];exact qj _
  refine qc ⟨Zv Q3 _,?_⟩;exact ih (bg7 O x) {s with heap:=h2,toks:=s.toks+1} (i+1) (by rw[<- List.drop_drop,e];rfl) al (ae.same ah (yk aa)) aj (by omega) λ h' ad c1 c2=>q h' ad c1 c2
end
abbrev byT (w:World):Bool:=w.params.followText "set-order"
abbrev ac1 (w:World):Obj:={cls:=.type "set",dict:=none,data:=.set #[] 0 (.fresh 0 0 (!byT w))}
theorem C_5:isSubtype (.type "tuple") (.type "set")=pure false:=by rw[isSubtype_type];kernel_rfl
theorem o_0:isSubtype (.type "tuple") (.type "frozenset")=pure false:=by rw[isSubtype_type];kernel_rfl
section
variable {P:Program}{w:World}{A:Around}{E:Value->Shared->Prop}{s:Shared}
theorem ax6 (h:Heap):SetS P w (byT w) (h.push (ac1 w)) h.objs.size [] :=
 ⟨_,#[],0,_,qk _ rfl,⟨rfl,rfl,rfl⟩,rfl,λ e q=>(by simp at q),λ k=>by simp,by decide,by rfl,rfl⟩
theorem ae2 (v:Value) {Q₁:Value->Shared->Prop} (h:Q₁ (.ref s.heap.objs.size) {s with heap:=s.heap.push (ac1 w)}) :
  codeAny (model P w) A (.call (.builtin "set.__new__") ⟨[.type "set",v],[]⟩) (wants Q₁ E) s:=by
 refine Yr ?_;show wpAny _ A.in1 (checkBuiltinCall "set.__new__" ⟨[.type "set",v],[]⟩ >>= λ _=>again (.builtin "set.__new__" ⟨[.type "set",v],[]⟩)) _ _ s;refine qb (Z6 (F.newCall_set_1 v) (qc ⟨Zv F.plain_set_new _,jy F.entry_set_new ?_⟩));rw[jj F.plain_set_new _];unfold Builtin.«set.__new__» Builtin.Frozenset.newClass;have q:=sub_set_self;obtain⟨O,Y,d0,k0,Z⟩:=s;dsimp only;wp_walk;refine wpAny_askSetting (qc ?_);dsimp only;simp only[newObj];exact qb (wpAny_alloc (qc (qc h)))
set_option maxHeartbeats 3200000 in
theorem ar5 {T:Bool}{c:Addr}{all:List Value}{xs:List Str}{Q:Value->Shared->Prop} (hh:A.handled=none) (sq:SqAt T s.heap c all.toArray) (sa:PyProof.Rows.StrsAre all xs) (hz:xs.length+1<scanBound)
  (k:∀ (h':Heap) (tk:Nat),(∀ b o,s.heap.get? b=some o->h'.get? b=some o)->SetS P w (byT w) h' s.heap.objs.size (j_1 [] xs)->Q (.ref s.heap.objs.size) {s with heap:=h',toks:=tk}) :
  wpAny (model P w) A (call (.type "set") [.ref c]) Q E s:=by
 obtain⟨mc,mt,mr⟩:=F.called_set.mro;have md:=F.called_set.made;have su:=F.called_set.sub;refine Zn (Yr ?_);show wpAny _ _ (callAny (.type "set") _) _ _ _;refine qc ⟨Code.quiet_builtin _ (by decide +kernel),jy F.entry_type_call ?_⟩;rw[Around.under_plain (weight_type_call_type "set" [.ref c] []) rfl];have f1:=F.called_set.notType;have f2:=F.called_set.canCreate;have f3:=F.typeCall_set_1 (.ref c)
 repeat (any_goals (first | assumption | wp_step))
 refine Qx (ae2 (.ref c) (E:=E) (Q₁:=λ z s1=>z=.ref s.heap.objs.size/\s1={s with heap:=s.heap.push (ac1 w)}) ⟨rfl,rfl⟩) λ r s1 hr=>?_;cases r with
 |error e=>exact hr
 |ok fl =>
  cases fl with
  |ret z =>
   obtain⟨rfl,rfl⟩:=hr;have ad:(s.heap.push (ac1 w)).get? s.heap.objs.size=some (ac1 w):=qk _ rfl;have Z:Shared.TypeIs {s with heap:=s.heap.push (ac1 w)} (.ref s.heap.objs.size) "set":=⟨_,ad,rfl⟩;have li:=F.called_set.init.lookup;have bi:=F.called_set.init.bind (.ref s.heap.objs.size)
   repeat (any_goals (first | assumption | wp_step))
   refine Qx (Zw (R:=wants (λ r s2=>r=.none/\∃ h' tk,s2={s with heap:=h',toks:=tk}/\(∀ b o,s.heap.get? b=some o->h'.get? b=some o)/\SetS P w (byT w) h' s.heap.objs.size (j_1 [] xs)) E) F.called_set.init.plain F.entry_set_init (check_set_init_1 Z ?_)) λ r2 s2 q=>?_
   ·have O:SqAt T (s.heap.push (ac1 w)) c all.toArray:=sq.keep λ b o e=>qf _ e;have e1:∃ TT:String,Shared.TypeIs {s with heap:=s.heap.push (ac1 w)} (.ref c) TT ∧ (isSubtype (.type TT) (.type "set")=pure false) ∧ (isSubtype (.type TT) (.type "frozenset")=pure false) ∧ (Value.type TT==Value.type "dict")=false:=by
     cases T with
     |true=>obtain⟨o,ho,hc,_⟩:=O;exact⟨"tuple",⟨o,ho,hc⟩,C_5,o_0,by decide⟩
     |false=>obtain⟨o,ho,hc,_⟩:=O;exact⟨"list",⟨o,ho,hc⟩,F.sub_list_set,F.sub_list_frozenset,by decide⟩
    obtain⟨TT,ae,n1,n2,n3⟩:=e1;unfold Builtin.«set.__init__» noKeywords Builtin.Frozenset.updateFrom;generalize aa:pyIter=PI;wp_walk;subst aa;refine ad1 (s:={s with heap:=s.heap.push (ac1 w)}) O λ oI Y=>?_;have sz:(s.heap.push (ac1 w)).objs.size=s.heap.objs.size+1:=by rw[zw]
    have none_of:∀ n,s.heap.objs.size<=n->s.heap.get? n=none:=λ n hn=>by
     cases z:s.heap.get? n with
     |none=>rfl
     |some o=>exact absurd (qm z) (Nat.not_lt.mpr hn)
    refine qb (wpAny_runValue ?_);refine ax5 (A:=A.in1.in1) (bt:=byT w) (hI:=s.heap) (none_of _ (qj _)) (none_of _ (by show s.heap.objs.size<=(s.heap.push (ac1 w)).objs.size;rw[sz];exact Zc _)) (by show s.heap.objs.size≠(s.heap.push (ac1 w)).objs.size;rw[sz];exact qv (Nat.lt_succ_self _)) sq sa hh
     xs [] {s with heap:=(s.heap.push (ac1 w)).push oI} 0 rfl (λ b o e=>qf _ (qf _ e)) Y ((ax6 s.heap).keep λ b o e=>qf _ e) (by rw[Yv];omega) λ h' tk c1 c2=>?_
    refine qc (qc ?_);exact⟨rfl,h',tk,rfl,c1,c2⟩
   ·cases r2 with
    |error e=>exact q
    |ok ac =>
     cases ac with
     |ret r =>
      obtain⟨rfl,h',tk,rfl,c1,c2⟩:=q
      repeat (any_goals (first | assumption | wp_step))
      exact k _ _ c1 c2
     |_=>exact q.elim
  |_=>exact hr.elim
end
end Fx
namespace Fx
open PySem PySem.Spec PyProof.Rows L2
def ax7 (P:Program) (w:World) (a:Addr) (ss:List Str):HO:=.ext λ h=>SetS P w (byT w) h a ss
theorem aP6 {P:Program}{w:World}{H:Hp}{h:Heap}{a:Addr}{ss:List Str} (q:SetS P w (byT w) h a ss):ObjOk P w H h a (ax7 P w a ss):=by
 refine⟨q,?_,λ h1 h2 Y k=>?_⟩
 ·obtain⟨o,es,ep,t,O,_⟩:=q;exact⟨o,O⟩
 ·obtain⟨o,es,ep,t,O,r⟩:=Y;exact⟨o,es,ep,t,k _ O,r⟩
theorem Step.side {H0 H:Hp}{p:Addr}{o:HO} (s:Same H0 H) (O:H p=none):Step H0 H H0 (upd H p o):=by refine⟨Same.refl _,λ b u e=>by rw[a_8 (b_3 e O)];exact e,λ b u e=>?_,λ b u e=>.inl e⟩;have q:=s _ _ e;rw[a_8 (b_3 q O)];exact q
section
variable {X:Cx}
theorem bE7 {pins:List (Addr×Obj)}{σ:L2.St}{H:Hp}{s:Shared}{p:Addr}{xs:List V} (I:Inv X pins σ H s) (O:SqL X.K H p xs\/SqT X.K H p xs):∃ (T:Bool) (q:List Value),Vals xs q/\SqAt T s.heap p q.toArray:=by
 rcases O with O | O
 ·obtain⟨q,Y,Z,_⟩:=I.list O;exact⟨false,q,Y,Z.isList⟩
 ·obtain⟨q,Y,tp,_⟩:=I.tuple O;exact⟨true,q,Y,tp⟩
theorem ae4 (hc:X.calm=true):CallR X (.type "set") (λ xs H Q=>∃ p ss,xs=[.ref p] ∧ (SqL X.K H p (ss.map V.str) ∨ SqT X.K H p (ss.map V.str)) ∧ ss.length<1000 ∧ ∀ l,H l=none → Q (.ref l) (upd H l (ax7 X.prog X.w l (j_1 [] ss)))):=by
 intro pins s σ H xs us Q I r h;obtain⟨p,ss,rfl,hq,hz,q⟩:=h;obtain⟨u,rfl,Y⟩:=j_3 r;cases Y;obtain⟨T,O,Z,sq⟩:=bE7 I hq;refine ar5 (I.ok.hd hc) sq (A_2 Z) (by unfold scanBound;omega) λ h' tk kp hS=>?_;exact⟨.ref s.heap.objs.size,_,I.laid (o:=ax7 X.prog X.w s.heap.objs.size (j_1 [] ss)) kp (qj _) (aP6 hS),rfl,q _ (I.hok.fresh (qj _))⟩
end
section
variable {X:Cx}
theorem ae5:CallR X (.builtin "len") (λ xs H Q=>∃ p ss,xs=[.ref p] ∧ H p=some (ax7 X.prog X.w p ss) ∧ Q (.int ss.length) H):=by
 intro pins s σ H xs us Q I r h;obtain⟨p,ss,rfl,Y,q⟩:=h;obtain⟨u,rfl,O⟩:=j_3 r;cases O;obtain⟨o,es,ep,t,ho,ex,hd,aa,hm,sb,Z,hn⟩:=(show ObjOk X.prog X.w H s.heap p (ax7 X.prog X.w p ss) from I.hok p _ Y).1;have lt:(es.size:Int)<2 ^ 63:=by
  have:scanBound<=2 ^ 62:=by decide
  omega
 exact call_len_set ho ex hd Z lt ⟨.int ss.length,H,I.tok _,⟨_,by rw[hn]⟩,q⟩
theorem B_0 {xs:List D}{d:D} (h:o_6 xs=some d):∃ ss:List Str,xs=ss.map .str/\ss.length<1000/\d=.int ((j_1 [] ss).length:Int):=by unfold o_6 at h;obtain⟨ss,e,f⟩:=a_0 h;obtain⟨l,rfl⟩:=ifs f;exact⟨ss,strs_inv e,l,rfl⟩
theorem aO5 {a:Expr}{F:FE}{p p2 Y pos:Pos} (hm:X.mg "set"=none) (ae:X.mg "len"=none) (he:XE X a F) (hc:X.calm=true:=by rfl) (hg:Gl X "set":=by rfl) (af:Gl X "len":=by rfl)
  (h1:starEach [a] X.env=[(false,eval a X.env)]:=by rfl) (h2:starEach [.Call (.Name "set" p) [a] [] Y] X.env=[(false,eval (.Call (.Name "set" p) [a] [] Y) X.env)]:=by rfl) :
  XE X (.Call (.Name "len" p2) [.Call (.Name "set" p) [a] [] Y] [] pos) (eF y_4 (aC F aN)) :=
 PE.wk (m_5 ae5 af ae zr (e_2 (J_3 (ae4 hc) hg hm PyProof.Rows.boot_set (xaC he xaN h1) (by decide) (by decide) h1 rfl) k_4 h2) (by decide) (by decide) h2 rfl) λ σ H Q aa=>by
  obtain⟨c,H0,ρ,d,ρ',R,f,q⟩:=aa;unfold eF at f;obtain⟨⟨ds,ag⟩,g1,f⟩:=a_0 f;obtain⟨d',g2,f⟩:=a_0 f;have f':some (d',ag)=some (d,ρ'):=f;cases f';refine⟨c,H0,ρ,ds,_,R,g1,λ vs H1 Hh s1 R1 r1=>?_⟩;have Z:∀ (ad:Addr) (ss:List Str),vs=[.ref ad]->ss.length<1000->d=.int ((j_1 [] ss).length:Int)->(SqL X.K Hh ad (ss.map V.str)\/SqT X.K Hh ad (ss.map V.str)) ->
    ∃ p ss,vs=[.ref p]/\(SqL X.K Hh p (ss.map V.str)\/SqT X.K Hh p (ss.map V.str))/\ss.length<1000/\∀ l,Hh l=none->∃ p ac,[V.ref l]=[.ref p]/\upd Hh l (ax7 X.prog X.w l (j_1 [] ss)) p=some (ax7 X.prog X.w p ac) /\
     Q (.int ac.length) (upd Hh l (ax7 X.prog X.w l (j_1 [] ss))):=λ ad ss ev O ed sq=>by
   refine⟨ad,ss,ev,sq,O,λ l hl=>⟨l,j_1 [] ss,rfl,a_4,?_⟩⟩;have S1:=Step.side (o:=ax7 X.prog X.w l (j_1 [] ss)) R1.same hl;refine q _ _ _ (s1.trans S1.s0) (R1.after S1) ?_;rw[ed];exact d_3 _ _
  have g2:y_4 ds=some d:=g2;unfold y_4 at g2;split at g2
  ·obtain⟨ss,rfl,O,ed⟩:=B_0 g2;obtain⟨v,rfl,rv⟩:=Reps.v1 r1;unfold Rep at rv;obtain⟨p,ws,rfl,s,t⟩:=rv;rw[i_3 t] at s;exact Z p ss rfl O ed (.inl (Same.seq R1.same s))
  ·obtain⟨ss,rfl,O,ed⟩:=B_0 g2;obtain⟨v,rfl,rv⟩:=Reps.v1 r1;unfold Rep at rv;obtain⟨p,ws,rfl,s,t⟩:=rv;rw[i_3 t] at s;exact Z p ss rfl O ed (.inr (Same.seqT R1.same s))
  ·cases g2
end
open Sem (wp)
section
variable {prog:Program}{w:World}{A:Around}{E:Value->Shared->Prop}{s:Shared}
theorem bw8 {a:Addr}{Q:Option Obj->Shared->Prop} (h:Q (s.heap.get? a) s):wpAny (model prog w) A (loadIfAlive a) Q E s:=λ O p q=>by
 unfold loadIfAlive;rw[Sem.wp_loadIfAlive];exact (qc (M:=model prog w) (A:=A) (E:=E) h) O p q
theorem aE4 {it t:Addr}{k:Nat}{items:Array Value}{x:Value}{Q:Value->Shared->Prop} (st:IsTupIter s.heap it t k) (Y:IsTup s.heap t items) (hx:items[k]?=some x)
  (O:∀ h',IsTupIter h' it t (k+1)->Heap.SameBut it s.heap h'->Q x {s with heap:=h'}):wpAny (model prog w) A (Builtin.SmallTypes.nextOf (.ref it)) Q E s:=by
 obtain⟨o,g1,g2,q⟩:=id st;obtain⟨ot,Z,_,tn,t3⟩:=Y;unfold Builtin.SmallTypes.nextOf;refine qb (wpAny_callSpecial?_slot (name:=Str.ofString "__next__") st.typeIs Z0 (j4 Z0 st.typeIs entry_tupleiter_next ?_ (args_tupleiter_next _)));show wpAny _ _ (field (.ref it) 0 >>= _) _ _ s;refine qb (zx g1 q (x:=.ref t) rfl ?_);show wpAny _ _ (if (Value.ref t==Value.none)=true then _ else _) _ _ s;rw[if_neg (by exact zu)];refine qb (zx g1 q (x:=.int k 0) rfl ?_);refine qb (jw Z t3 ?_);simp only[jp,hx];refine qb (wpAny_setField g1 q (by simp) (qc ⟨x,rfl,qc (O _ ?_ (Y5 ..))⟩));refine⟨_,ju _ g1 (Obj.isFreed_of_fields (Obj.data_mapFields q _)),(Obj.cls_mapFields ..).trans g2,?_⟩;rw[Obj.data_mapFields q];simp[rawInt]
theorem aA8 {it t:Addr}{k:Nat}{items:Array Value}{Q:Value->Shared->Prop} (Y:A.handled=none) (st:IsTupIter s.heap it t k) (Z:IsTup s.heap t items) (hx:items[k]?=none)
  (q:∀ h' e,Heap.ExtBut it s.heap h' → (∃ o,h'.get? e=some o ∧ o.cls=.type "StopIteration") → E (.ref e) {s with heap:=h'}):wpAny (model prog w) A (Builtin.SmallTypes.nextOf (.ref it)) Q E s:=by
 obtain⟨o,g1,g2,O⟩:=id st;obtain⟨ot,t1,_,tn,t3⟩:=Z;unfold Builtin.SmallTypes.nextOf;refine qb (wpAny_callSpecial?_slot (name:=Str.ofString "__next__") st.typeIs Z0 (j4 Z0 st.typeIs entry_tupleiter_next ?_ (args_tupleiter_next _)));show wpAny _ _ (field (.ref it) 0 >>= _) _ _ s;refine qb (zx g1 O (x:=.ref t) rfl ?_);show wpAny _ _ (if (Value.ref t==Value.none)=true then _ else _) _ _ s;rw[if_neg (by exact zu)];refine qb (zx g1 O (x:=.int k 0) rfl ?_);refine qb (jw t1 t3 ?_);simp only[jp,hx];refine qb (wpAny_rule (qb (wpAny_setField g1 O (by simp) (qb ?_))));simp only[newExc,newTuple];refine qb (yj ?_ (by size_fits));refine qb (m:=firstArgMember _ _) (Z6 (a:=Value.none) (by first | rfl | (simp only[firstArgMember];rfl)) ?_);refine yj ?_ (by size_fits);simp only[raiseNew];refine qb (wpAny_handled ?_)
 first | rw[show A.in1.handled=none from Y] | rw[Y]
 exact qb (qc (wpAny_throw (q _ _ (((Y5 ..).extBut.push _).push _) ⟨_,qk _ rfl,rfl⟩)))
structure Nx (prog:Program) (w:World) (i:Addr) (fp:List Addr) (get:Nat->Option Value) (P:Nat->Heap->Prop):Prop where
 mem:i∈fp
 keep:∀ k h h',P k h->(∀ b∈fp,∀ o,h.get? b=some o->h'.get? b=some o)->P k h'
 there:∀ k h,P k h->∃ o vs,h.get? i=some o/\o.data=.fields vs
 draw:∀ (A:Around) (E:Value->Shared->Prop) (s:Shared) (Q:Value->Shared->Prop) (k:Nat) (x:Value),P k s.heap->get k=some x->(∀ h',P (k+1) h'->Heap.SameBut i s.heap h'->Q x {s with heap:=h'}) ->
  wpAny (model prog w) A (Builtin.SmallTypes.nextOf (.ref i)) Q E s
 over:∀ (A:Around) (E:Value->Shared->Prop) (s:Shared) (Q:Value->Shared->Prop) (k:Nat),A.handled=none->P k s.heap->get k=none ->
  (∀ h' e,Heap.ExtBut i s.heap h' → (∃ o,h'.get? e=some o ∧ o.cls=.type "StopIteration") → E (.ref e) {s with heap:=h'}) → wpAny (model prog w) A (Builtin.SmallTypes.nextOf (.ref i)) Q E s
theorem aU0 (i l:Addr) (ne:l≠i) (items:Array Value):Nx prog w i [i,l] (λ k=>items[k]?) (λ k h=>h.IsListIter i l k/\h.IsList l items) where
 mem:=qg
 keep:=λ k h h' ⟨a,b⟩ q=>⟨a.at λ o e=>q i (by simp) o e,b.at λ o e=>q l (by simp) o e⟩
 there:=λ k h ⟨⟨o,a,_,d⟩,_⟩=>⟨o,_,a,d⟩
 draw:=λ A E s Q k x ⟨a,b⟩ Y O=>wpAny_nextOf_list_item a b Y λ h' a' Z=>O h' ⟨a',b.extBut Z.extBut ne⟩ Z
 over:=λ A E s Q k hh ⟨a,b⟩ Y O=>wpAny_nextOf_list_end hh a b Y O
theorem bo5 (i t:Addr) (ne:t≠i) (items:Array Value):Nx prog w i [i,t] (λ k=>items[k]?) (λ k h=>IsTupIter h i t k/\IsTup h t items) where
 mem:=qg
 keep:=λ k h h' ⟨⟨o,a,b⟩,⟨o2,a2,b2⟩⟩ q=>⟨⟨o,q i (by simp) o a,b⟩,⟨o2,q t (by simp) o2 a2,b2⟩⟩
 there:=λ k h ⟨⟨o,a,_,d⟩,_⟩=>⟨o,_,a,d⟩
 draw:=λ A E s Q k x ⟨a,b⟩ Y O=>aE4 a b Y λ h' a' Z=>O h' ⟨a',let ⟨o,q,r⟩:=b;⟨o,Z.extBut _ _ ne q,r⟩⟩ Z
 over:=λ A E s Q k hh ⟨a,b⟩ Y O=>aA8 hh a b Y O
end
abbrev zO (f0:Value) (f1:Bool) (TI TO:Addr):Obj:={cls:=.type "zip",dict:=none,data:=.fields #[f0,.bool f1,.bool false,.ref TI,.ref TO],slots:=#[]}
structure Zs (z TI TO i1 i2:Addr) (P1 P2:Nat->Heap->Prop) (k1 k2:Nat) (f0:Value) (f1:Bool) (h:Heap):Prop where
 hz:h.get? z=some (zO f0 f1 TI TO)
 ti:IsPair h TI (.ref i1) (.ref i2)
 to:∃ a b,IsPair h TO a b
 p1:P1 k1 h
 p2:P2 k2 h
structure Za (z TI TO i1 i2:Addr) (fp1 fp2:List Addr):Prop where
 TIz:TI≠z
 TOz:TO≠z
 TITO:TI≠TO
 TI1:TI≠i1
 TI2:TI≠i2
 f1:∀ b∈fp1,b≠z/\b≠TO/\b≠i2
 f2:∀ b∈fp2,b≠z/\b≠TO/\b≠i1
section
variable {prog:Program}{w:World}{A:Around}{E:Value->Shared->Prop}{s:Shared}{z TI TO i1 i2:Addr}{fp1 fp2:List Addr}{g1 g2:Nat->Option Value}{P1 P2:Nat->Heap->Prop}{k1 k2:Nat}{f0:Value}{f1:Bool}
theorem av5 (N1:Nx prog w i1 fp1 g1 P1) (N2:Nx prog w i2 fp2 g2 P2) (D:Za z TI TO i1 i2 fp1 fp2) (Z:Zs z TI TO i1 i2 P1 P2 k1 k2 .none f1 s.heap) {x y:Value} (hx:g1 k1=some x) (hy:g2 k2=some y) {Q:Value->Shared->Prop}
  (ah:∀ h',Zs z TI TO i1 i2 P1 P2 (k1+1) (k2+1) (rawInt s.heap.objs.size) false h'->IsPair h' s.heap.objs.size x y->h'.objs.size=s.heap.objs.size+1->(∀ c o,c∉[z,TO,i1,i2]->s.heap.get? c=some o->h'.get? c=some o)->Q (.ref s.heap.objs.size) {s with heap:=h'}) :
  wpAny (model prog w) A (Builtin.«zip.__next__» ⟨[.ref z],[]⟩) (λ f s'=>∃ v,f=.done (.ret v)/\Q v s') E s:=by
 have m1:=D.f1 i1 N1.mem;have m2:=D.f2 i2 N2.mem;obtain⟨a,b,ak⟩:=Z.to;show wpAny _ _ (field (.ref z) 2 >>= _) _ _ _;refine qb (zx Z.hz rfl (x:=.bool false) rfl (qb (zx Z.hz rfl (x:=.ref TI) rfl (qb (jw Z.ti rfl ?_)))));refine qb (m:=Builtin.SmallTypes.ownedTupleIsFree (.ref z)) (qb (zx Z.hz rfl (x:=.none) rfl (qc ?_)));simp only[Jc];refine qb (wpAny_rule (qb (zx Z.hz rfl (x:=.ref TO) rfl (qb (j5 Z.hz (by simp) λ ha za sa=>?_)))));have za:ha.get? z=some (zO .ellipsis f1 TI TO):=za;have ai:P1 k1 ha:=N1.keep _ _ _ Z.p1 λ q O o e=>(sa.2 q (D.f1 q O).1).trans e;have ad:P2 k2 ha:=N2.keep _ _ _ Z.p2 λ q O o e=>(sa.2 q (D.f2 q O).1).trans e;have ta:IsPair ha TO a b:=(sa.2 TO D.TOz).trans ak;refine qb ?_;simp only[List.zipIdx_cons,List.zipIdx_nil,Zz,Y1];refine qb (qb (Yc (qb (N1.draw _ _ {s with heap:=ha} _ k1 x ai hx λ hb ac sb=>qc ?_))));have tb:IsPair hb TO a b:=(sb.2 TO (yk m1.2.1)).trans ta;refine qb (jw tb rfl (qb (Yz tb λ hc tc sc=>qb (wpAny_letGo (qc ?_)))));have ae:P2 k2 hc:=N2.keep _ _ _ ad λ q O o e=>(sc.2 q (D.f2 q O).2.1).trans ((sb.2 q (D.f2 q O).2.2).trans e);refine qb (qb (Yc (qb (N2.draw _ _ {s with heap:=hc} _ k2 y ae hy λ hd aj sd=>qc ?_))));have td:hd.get? TO=some {cls:=.type "tuple",data:=.seq #[x,b]}:=(sd.2 TO (yk m2.2.1)).trans tc;refine qb (jw td rfl (qb (Yz td λ Y te se=>qb (wpAny_letGo (qc (qc ?_))))));have te:IsPair Y TO x y:=te;have af:P1 (k1+1) Y:=N1.keep _ _ _ ac λ q O o e=>(se.2 q (D.f1 q O).2.1).trans ((sd.2 q (D.f1 q O).2.2).trans ((sc.2 q (D.f1 q O).2.1).trans e));have aa:P2 (k2+1) Y:=N2.keep _ _ _ aj λ q O o e=>(se.2 q (D.f2 q O).2.1).trans e;have ze:Y.get? z=some (zO .ellipsis f1 TI TO):=(se.2 z D.TOz.symm).trans ((sd.2 z (yk m2.1)).trans ((sc.2 z D.TOz.symm).trans ((sb.2 z (yk m1.1)).trans za)));have ag:IsPair Y TI (.ref i1) (.ref i2):=(se.2 TI D.TITO).trans ((sd.2 TI D.TI2).trans ((sc.2 TI D.TITO).trans ((sb.2 TI D.TI1).trans ((sa.2 TI D.TIz).trans Z.ti))));have size:Y.objs.size=s.heap.objs.size:=by rw[se.1,sd.1,sc.1,sb.1,sa.1]
 refine qb (jw te rfl (qb (wpAny_newTuple ?_)));refine qb (m:=Builtin.SmallTypes.ownedTupleHandOut (.ref z) (.ref Y.objs.size)) ?_;have zf:(Y.push {cls:=.type "tuple",data:=.seq #[x,y]}).get? z=some (zO .ellipsis f1 TI TO):=qf _ ze;unfold Builtin.SmallTypes.ownedTupleHandOut;refine qb (j5 zf (by simp) λ hg zg sg=>?_);have zg:hg.get? z=some (zO (rawInt Y.objs.size) f1 TI TO):=zg;refine j5 zg (by simp) λ hi zi si=>qc ⟨_,rfl,?_⟩;have up:∀ c o,c≠z->Y.get? c=some o->hi.get? c=some o:=λ c o c1 e=>(si.2 c c1).trans ((sg.2 c c1).trans (qf _ e));have nz:Y.objs.size≠z:=Zh (qm ze);have pr:IsPair hi Y.objs.size x y:=(si.2 _ nz).trans ((sg.2 _ nz).trans (qk _ rfl));have sz:hi.objs.size=Y.objs.size+1:=by rw[si.1,sg.1,zw]
 rw[size] at pr sz;show Q (.ref Y.objs.size) _;rw[size];refine ah hi ⟨by rw[<- size];exact zi,up _ _ D.TIz ag,⟨x,y,up _ _ D.TOz te⟩,N1.keep _ _ _ af λ q O o e=>up q o (D.f1 q O).1 e,N2.keep _ _ _ aa λ q O o e=>up q o (D.f2 q O).1 e⟩ pr sz λ c o hc e=>?_;simp only[ym,yd,j9,not_or] at hc;obtain⟨c1,c2,c3,c4⟩:=hc;exact up c o c1 ((se.2 c c2).trans ((sd.2 c c4).trans ((sc.2 c c2).trans ((sb.2 c c3).trans ((sa.2 c c1).trans e)))))
end
section
variable {prog:Program}{w:World}{A:Around}{E:Value->Shared->Prop}{s:Shared}{z TI TO i1 i2 T0:Addr}{fp1 fp2:List Addr}{g1 g2:Nat->Option Value}{P1 P2:Nat->Heap->Prop}{k1 k2:Nat}{f1:Bool}
theorem X_2 {Q:Bool->Shared->Prop} (O:s.heap.get? z=some (zO (rawInt T0) f1 TI TO)) {ot:Obj} (hT:s.heap.get? T0=some ot) (q:∀ h',h'.get? z=some (zO (rawInt T0) true TI TO)->Heap.SameBut z s.heap h'->Q false {s with heap:=h'}) :
  wpAny (model prog w) A (Builtin.SmallTypes.ownedTupleIsFree (.ref z)) Q E s:=by
 unfold Builtin.SmallTypes.ownedTupleIsFree;refine qb (zx O rfl (x:=rawInt T0) rfl ?_);show wpAny _ _ (loadIfAlive (Int.toNat (T0:Int)) >>= _) _ _ s;rw[jp];refine qb (bw8 ?_);rw[hT];show wpAny _ _ (field (.ref z) 1 >>= _) _ _ s;refine qb (zx O rfl (x:=.bool f1) rfl ?_);cases f1 with
 |false =>
  refine qb (j5 O (by simp) λ h' Z Y=>qc (q h' Z Y))
 |true=>exact qc (q s.heap O ⟨rfl,λ _ _=>rfl⟩)
theorem av3 (N1:Nx prog w i1 fp1 g1 P1) (N2:Nx prog w i2 fp2 g2 P2) (D:Za z TI TO i1 i2 fp1 fp2) (Z:Zs z TI TO i1 i2 P1 P2 k1 k2 (rawInt T0) f1 s.heap) {ot:Obj} (hT:s.heap.get? T0=some ot) {x y:Value} (hx:g1 k1=some x) (hy:g2 k2=some y) {Q:Value->Shared->Prop}
  (af:∀ h',Zs z TI TO i1 i2 P1 P2 (k1+1) (k2+1) (rawInt T0) true h'->IsPair h' s.heap.objs.size x y->h'.objs.size=s.heap.objs.size+1->(∀ c o,c∉[z,TO,i1,i2]->s.heap.get? c=some o->h'.get? c=some o)->Q (.ref s.heap.objs.size) {s with heap:=h'}) :
  wpAny (model prog w) A (Builtin.«zip.__next__» ⟨[.ref z],[]⟩) (λ f s'=>∃ v,f=.done (.ret v)/\Q v s') E s:=by
 have m1:=D.f1 i1 N1.mem;have m2:=D.f2 i2 N2.mem;show wpAny _ _ (field (.ref z) 2 >>= _) _ _ _;refine qb (zx Z.hz rfl (x:=.bool false) rfl (qb (zx Z.hz rfl (x:=.ref TI) rfl (qb (jw Z.ti rfl ?_)))));refine qb (m:=Builtin.SmallTypes.ownedTupleIsFree (.ref z)) (X_2 Z.hz hT λ ha za sa=>?_);obtain⟨a,b,ah⟩:=Z.to;have ag:P1 k1 ha:=N1.keep _ _ _ Z.p1 λ q Y o e=>(sa.2 q (D.f1 q Y).1).trans e;have ac:P2 k2 ha:=N2.keep _ _ _ Z.p2 λ q Y o e=>(sa.2 q (D.f2 q Y).1).trans e;rw[if_neg (by exact zu)];refine qb ?_;simp only[<- Array.forIn_toList,Zz,Y1];refine qb (qb (yh (qb (N1.draw _ _ {s with heap:=ha} _ k1 x ag hx λ hb aa sb=>qc (qc ?_)))));have ae:P2 k2 hb:=N2.keep _ _ _ ac λ q Y o e=>(sb.2 q (D.f2 q Y).2.2).trans e;refine qb (qb (yh (qb (N2.draw _ _ {s with heap:=hb} _ k2 y ae hy λ hc ad sc=>qc (qc (qc ?_))))));have size:hc.objs.size=s.heap.objs.size:=by rw[sc.1,sb.1,sa.1]
 refine qb (wpAny_newTuple (qc ⟨_,rfl,?_⟩) (by show (2:Nat)<=sizeLine;decide));have up:∀ c o,c≠z → c≠i1 → c≠i2 → s.heap.get? c=some o → (hc.push {cls:=.type "tuple",data:=.seq #[x,y]}).get? c=some o:=λ c o c1 c2 c3 e=>qf _ ((sc.2 c c3).trans ((sb.2 c c2).trans ((sa.2 c c1).trans e)));have pr:IsPair (hc.push {cls:=.type "tuple",data:=.seq #[x,y]}) hc.objs.size x y:=qk _ rfl;rw[size] at pr;show Q (.ref hc.objs.size) _;rw[size];refine af _ ⟨qf _ ((sc.2 z (yk m2.1)).trans ((sb.2 z (yk m1.1)).trans za)),up _ _ D.TIz D.TI1 D.TI2 Z.ti,⟨a,b,up _ _ D.TOz (yk m1.2.1) (yk m2.2.1) ah⟩,N1.keep _ _ _ aa λ q Y o e=>qf _ ((sc.2 q (D.f1 q Y).2.2).trans e),N2.keep _ _ _ ad λ q Y o e=>qf _ e⟩ pr (by rw[zw,size]) λ c o O e=>?_;simp only[ym,yd,j9,not_or] at O;exact up c o O.1 O.2.2.1 O.2.2.2 e
theorem bo8 {h:Heap}{e:Addr}{f0:Value}{f:Bool} (O:h.get? z=some (zO f0 f TI TO)) (Y:∃ o,h.get? e=some o ∧ o.cls=.type "StopIteration"):e≠z:=λ q=>by
 obtain⟨o,a,b⟩:=Y;rw[q,O] at a;cases a;simp at b
theorem av4 {f0:Value} (hh:A.handled=none) (N1:Nx prog w i1 fp1 g1 P1) (N2:Nx prog w i2 fp2 g2 P2) (D:Za z TI TO i1 i2 fp1 fp2) (Z:Zs z TI TO i1 i2 P1 P2 k1 k2 f0 f1 s.heap) (hf:f0=.none\/∃ (T0:Addr) (ot:Obj),f0=rawInt T0/\s.heap.get? T0=some ot)
  (ad:g1 k1=none ∨ g2 k2=none) {Q:Fin → Shared → Prop} (ac:∀ h' e,(∀ c o,c∉[z,TO,i1,i2] → s.heap.get? c=some o → h'.get? c=some o) → (∃ o,h'.get? e=some o ∧ o.cls=.type "StopIteration") → E (.ref e) {s with heap:=h'}) :
  wpAny (model prog w) A (Builtin.«zip.__next__» ⟨[.ref z],[]⟩) Q E s:=by
 have m1:=D.f1 i1 N1.mem;have m2:=D.f2 i2 N2.mem;obtain⟨a,b,ai⟩:=Z.to;have Y:∀ {c:Addr},c∉[z,TO,i1,i2]->c≠z/\c≠TO/\c≠i1/\c≠i2:=λ hc=>by
  simp only[ym,yd,j9,not_or] at hc;exact hc
 show wpAny _ _ (field (.ref z) 2 >>= _) _ _ _;refine qb (zx Z.hz rfl (x:=.bool false) rfl (qb (zx Z.hz rfl (x:=.ref TI) rfl (qb (jw Z.ti rfl ?_)))));rcases hf with rfl | ⟨T0,ot,rfl,hT⟩
 ·refine qb (m:=Builtin.SmallTypes.ownedTupleIsFree (.ref z)) (qb (zx Z.hz rfl (x:=.none) rfl (qc ?_)));simp only[Jc];refine qb (wpAny_rule (qb (zx Z.hz rfl (x:=.ref TO) rfl (qb (j5 Z.hz (by simp) λ ha za sa=>?_)))));have za:ha.get? z=some (zO .ellipsis f1 TI TO):=za;have aa:P1 k1 ha:=N1.keep _ _ _ Z.p1 λ q hq o e=>(sa.2 q (D.f1 q hq).1).trans e;have ae:P2 k2 ha:=N2.keep _ _ _ Z.p2 λ q hq o e=>(sa.2 q (D.f2 q hq).1).trans e;have ta:IsPair ha TO a b:=(sa.2 TO D.TOz).trans ai;refine qb ?_;simp only[List.zipIdx_cons,List.zipIdx_nil,Zz,Y1];cases hx:g1 k1 with
  |none =>
   refine qb (qb (Yc (qb (N1.over _ _ {s with heap:=ha} _ k1 hh aa hx λ hb e xb he=>?_))));have zb:hb.get? z=some (zO .ellipsis f1 TI TO):=xb z _ (yk m1.1) za;have ez:=bo8 zb he;obtain⟨oe,e1,e2⟩:=he;refine j5 zb (by simp) λ hc _ sc=>ac hc e (λ c o O q=>?_) ⟨oe,(sc.2 e ez).trans e1,e2⟩;obtain⟨c1,c2,c3,c4⟩:=Y O;exact (sc.2 c c1).trans (xb c o c3 ((sa.2 c c1).trans q))
  |some x =>
   have hy:g2 k2=none:=by
    rcases ad with h | h
    ·rw[hx] at h;cases h
    ·exact h
   refine qb (qb (Yc (qb (N1.draw _ _ {s with heap:=ha} _ k1 x aa hx λ hb af sb=>qc ?_))));have tb:IsPair hb TO a b:=(sb.2 TO (yk m1.2.1)).trans ta;refine qb (jw tb rfl (qb (Yz tb λ hc tc sc=>qb (wpAny_letGo (qc ?_)))));have ag:P2 k2 hc:=N2.keep _ _ _ ae λ q hq o e=>(sc.2 q (D.f2 q hq).2.1).trans ((sb.2 q (D.f2 q hq).2.2).trans e);refine qb (qb (Yc (qb (N2.over _ _ {s with heap:=hc} _ k2 hh ag hy λ hd e xd he=>?_))));have zd:hd.get? z=some (zO .ellipsis f1 TI TO):=xd z _ (yk m2.1) ((sc.2 z D.TOz.symm).trans ((sb.2 z (yk m1.1)).trans za));have ez:=bo8 zd he;obtain⟨oe,e1,e2⟩:=he;refine j5 zd (by simp) λ hg _ sg=>ac hg e (λ c o O q=>?_) ⟨oe,(sg.2 e ez).trans e1,e2⟩;obtain⟨c1,c2,c3,c4⟩:=Y O;exact (sg.2 c c1).trans (xd c o c4 ((sc.2 c c2).trans ((sb.2 c c3).trans ((sa.2 c c1).trans q))))
 ·refine qb (m:=Builtin.SmallTypes.ownedTupleIsFree (.ref z)) (X_2 Z.hz hT λ ha za sa=>?_);have aa:P1 k1 ha:=N1.keep _ _ _ Z.p1 λ q hq o e=>(sa.2 q (D.f1 q hq).1).trans e;have ae:P2 k2 ha:=N2.keep _ _ _ Z.p2 λ q hq o e=>(sa.2 q (D.f2 q hq).1).trans e;rw[if_neg (by exact zu)];refine qb ?_;simp only[<- Array.forIn_toList,Zz,Y1];cases hx:g1 k1 with
  |none =>
   refine qb (qb (yh (qb (N1.over _ _ {s with heap:=ha} _ k1 hh aa hx λ hb e xb he=>?_))));refine ac hb e (λ c o O q=>?_) he;obtain⟨c1,c2,c3,c4⟩:=Y O;exact xb c o c3 ((sa.2 c c1).trans q)
  |some x =>
   have hy:g2 k2=none:=by
    rcases ad with h | h
    ·rw[hx] at h;cases h
    ·exact h
   refine qb (qb (yh (qb (N1.draw _ _ {s with heap:=ha} _ k1 x aa hx λ hb af sb=>qc (qc ?_)))));have ah:P2 k2 hb:=N2.keep _ _ _ ae λ q hq o e=>(sb.2 q (D.f2 q hq).2.2).trans e;refine qb (qb (yh (qb (N2.over _ _ {s with heap:=hb} _ k2 hh ah hy λ hc e xc he=>?_))));refine ac hc e (λ c o O q=>?_) he;obtain⟨c1,c2,c3,c4⟩:=Y O;exact xc c o c4 ((sb.2 c c3).trans ((sa.2 c c1).trans q))
theorem K_2 (N1:Nx prog w i1 fp1 g1 P1) (O:Nx prog w i2 fp2 g2 P2) (D:Za z TI TO i1 i2 fp1 fp2) (Z:Zs z TI TO i1 i2 P1 P2 k1 k2 .none f1 s.heap) {x y:Value} (hx:g1 k1=some x) (Y:g2 k2=some y) {Q:Option Value->Shared->Prop}
  (q:∀ h',Zs z TI TO i1 i2 P1 P2 (k1+1) (k2+1) (rawInt s.heap.objs.size) false h'->IsPair h' s.heap.objs.size x y->h'.objs.size=s.heap.objs.size+1->(∀ c o,c∉[z,TO,i1,i2]->s.heap.get? c=some o->h'.get? c=some o)->Q (some (.ref s.heap.objs.size)) {s with heap:=h'}) :
  wpAny (model prog w) A (pyNext (.ref z)) Q E s:=by
 have ty:s.TypeIs (.ref z) "zip":=⟨_,Z.hz,rfl⟩;unfold pyNext;exact qb (Zu (wpAny_callSpecial?_slot (name:=Str.ofString "__next__") ty j6 (j4 j6 ty Ym (av5 N1 O D Z hx Y λ h' a b c d=>qc (q h' a b c d)) (Yj _))))
theorem al5 (N1:Nx prog w i1 fp1 g1 P1) (O:Nx prog w i2 fp2 g2 P2) (D:Za z TI TO i1 i2 fp1 fp2) (Z:Zs z TI TO i1 i2 P1 P2 k1 k2 (rawInt T0) f1 s.heap) {Y:Obj} (hT:s.heap.get? T0=some Y) {x y:Value} (hx:g1 k1=some x) (hy:g2 k2=some y) {Q:Option Value->Shared->Prop}
  (q:∀ h',Zs z TI TO i1 i2 P1 P2 (k1+1) (k2+1) (rawInt T0) true h'->IsPair h' s.heap.objs.size x y->h'.objs.size=s.heap.objs.size+1->(∀ c o,c∉[z,TO,i1,i2]->s.heap.get? c=some o->h'.get? c=some o)->Q (some (.ref s.heap.objs.size)) {s with heap:=h'}) :
  wpAny (model prog w) A (pyNext (.ref z)) Q E s:=by
 have ty:s.TypeIs (.ref z) "zip":=⟨_,Z.hz,rfl⟩;unfold pyNext;exact qb (Zu (wpAny_callSpecial?_slot (name:=Str.ofString "__next__") ty j6 (j4 j6 ty Ym (av3 N1 O D Z hT hx hy λ h' a b c d=>qc (q h' a b c d)) (Yj _))))
theorem K_1 {f0:Value} (hh:A.handled=none) (N1:Nx prog w i1 fp1 g1 P1) (Y:Nx prog w i2 fp2 g2 P2) (D:Za z TI TO i1 i2 fp1 fp2) (Z:Zs z TI TO i1 i2 P1 P2 k1 k2 f0 f1 s.heap) (hf:f0=.none\/∃ (T0:Addr) (ot:Obj),f0=rawInt T0/\s.heap.get? T0=some ot)
  (q:g1 k1=none\/g2 k2=none) {Q:Option Value->Shared->Prop} (O:∀ h',(∀ c o,c∉[z,TO,i1,i2]->s.heap.get? c=some o->h'.get? c=some o)->Q none {s with heap:=h'}) :
  wpAny (model prog w) A (pyNext (.ref z)) Q E s:=by
 have ty:s.TypeIs (.ref z) "zip":=⟨_,Z.hz,rfl⟩;unfold pyNext;refine qb (Zu (wpAny_callSpecial?_slot (name:=Str.ofString "__next__") ty j6 (j4 j6 ty Ym (av4 (A:=A.in1) hh N1 Y D Z hf q λ h' e k he=>?_) (Yj _))));obtain⟨o,a,b⟩:=he;exact qb (wpAny_isInstance (T:="StopIteration") (b:=true) ⟨o,a,b⟩ isSubtype_stop (qc (O h' k)))
end
def zq (h:Heap) (a b:Addr):Heap :=
 ((((h.push {cls:=.type "tuple_iterator",data:=.fields #[.ref a,.int 0 0]}).push {cls:=.type "tuple_iterator",data:=.fields #[.ref b,.int 0 0]}).push {cls:=.type "tuple",data:=.seq #[.ref h.objs.size,.ref (h.objs.size+1)]}).push
  {cls:=.type "tuple",data:=.seq #[.none,.none]}).push (zO .none false (h.objs.size+2) (h.objs.size+3))
theorem R_9 {h:Heap}{n:Nat}{o:Obj} (e:h.objs.size=n) (q:o.isFreed=false):(h.push o).get? n=some o:=by subst e;exact qk _ q
theorem IsTup.pushed {h:Heap}{t:Addr}{xs:Array Value} (x:IsTup h t xs) (o:Obj):IsTup (h.push o) t xs:=let ⟨p,e,r⟩:=x;⟨p,qf _ e,r⟩
theorem aB7 (O Y:Addr) (xs ys:Array Value):Meets (Builtin.«zip.__new__» ⟨[.type "zip",.ref O,.ref Y],[]⟩) (λ _ R s=>IsTup s.heap O xs ∧ IsTup s.heap Y ys ∧ R (.ok (.ret (.ref (s.heap.objs.size+4)))) {s with heap:=zq s.heap O Y}) :=
 .of_wp λ prog w A R s h=>by
  obtain⟨q,g,d,tk,os⟩:=s;obtain⟨h1,h2,h⟩:=h;have Z:=PySem.sub_zip;have a1:IsTup (Shared.heap ⟨q,g,d,tk,os⟩) O xs:=h1;have a2:IsTup (Shared.heap ⟨q.push {cls:=.type "tuple_iterator",data:=.fields #[.ref O,.int 0 0]},g,d,tk,os⟩) Y ys:=IsTup.pushed h2 _;wp_walk using iter_tuple a1,iter_tuple a2;refine⟨_,rfl,?_⟩;have z:∀ (u v w x y:Obj),((((q.push u).push v).push w).push x).objs.size=q.objs.size+4:=λ u v w x y=>by rw[zw,zw,zw,zw]
  have e1:∀ u:Obj,(q.push u).objs.size=q.objs.size+1:=λ u=>zw ..;have e2:∀ u v:Obj,((q.push u).push v).objs.size=q.objs.size+2:=λ u v=>by rw[zw,zw]
  have e3:∀ u v w:Obj,(((q.push u).push v).push w).objs.size=q.objs.size+3:=λ u v w=>by rw[zw,zw,zw]
  have e4:∀ u v w x:Obj,((((q.push u).push v).push w).push x).objs.size=q.objs.size+4:=λ u v w x=>by rw[zw,zw,zw,zw]
  simp only[e1,e2,e3,e4];exact h
section
variable {prog:Program}{w:World}{A:Around}{E:Value->Shared->Prop}{s:Shared}
theorem M_1 {q O:Addr}{xs ys:Array Value}{Q:Value->Shared->Prop} (h1:IsTup s.heap q xs) (h2:IsTup s.heap O ys)
  (Y:∀ h',h'.get? (s.heap.objs.size+4)=some (zO .none false (s.heap.objs.size+2) (s.heap.objs.size+3))->IsPair h' (s.heap.objs.size+2) (.ref s.heap.objs.size) (.ref (s.heap.objs.size+1))->IsPair h' (s.heap.objs.size+3) .none .none ->
   IsTupIter h' s.heap.objs.size q 0->IsTupIter h' (s.heap.objs.size+1) O 0->(∀ c o,s.heap.get? c=some o->h'.get? c=some o)->Q (.ref (s.heap.objs.size+4)) {s with heap:=h'}) :
  wpAny (model prog w) A (call (.type "zip") [.ref q,.ref O]) Q E s:=by
 refine callType_new F.called_zip (by decide) (F.typeCall_zip_2 _ _) (F.newCall_zip_2 _ _) (λ obj=>F.args_object_init_3 obj _ _) F.entry_zip_new (aB7 q O xs ys) ⟨h1,h2,?_⟩;have Z:∀ u:Obj,(s.heap.push u).objs.size=s.heap.objs.size+1:=λ u=>zw ..;have z2:∀ u v:Obj,((s.heap.push u).push v).objs.size=s.heap.objs.size+2:=λ u v=>by rw[zw,Z]
 have z3:∀ u v w:Obj,(((s.heap.push u).push v).push w).objs.size=s.heap.objs.size+3:=λ u v w=>by rw[zw,z2]
 have z4:∀ u v w x:Obj,((((s.heap.push u).push v).push w).push x).objs.size=s.heap.objs.size+4:=λ u v w x=>by rw[zw,z3]
 have p0:(zq s.heap q O).get? s.heap.objs.size=some _:=qf _ (qf _ (qf _ (qf _ (qk _ rfl))));have p1:(zq s.heap q O).get? (s.heap.objs.size+1)=some {cls:=.type "tuple_iterator",data:=.fields #[.ref O,.int 0 0]}:=by rw[← Z {cls:=.type "tuple_iterator",data:=.fields #[.ref q,.int 0 0]}];unfold zq;exact qf _ (qf _ (qf _ (qk _ rfl)))
 have p2:(zq s.heap q O).get? (s.heap.objs.size+2)=some {cls:=.type "tuple",data:=.seq #[.ref s.heap.objs.size,.ref (s.heap.objs.size+1)]}:=by unfold zq;exact qf _ (qf _ (R_9 (z2 _ _) rfl))
 have p3:(zq s.heap q O).get? (s.heap.objs.size+3)=some {cls:=.type "tuple",data:=.seq #[.none,.none]}:=by unfold zq;exact qf _ (R_9 (z3 _ _ _) rfl)
 have p4:(zq s.heap q O).get? (s.heap.objs.size+4)=some (zO .none false (s.heap.objs.size+2) (s.heap.objs.size+3)):=by unfold zq;exact R_9 (z4 _ _ _ _) rfl
 exact⟨⟨_,p4,rfl⟩,Y _ p4 p2 p3 ⟨_,p0,rfl,rfl⟩ ⟨_,p1,rfl,rfl⟩ λ c o e=>qf _ (qf _ (qf _ (qf _ (qf _ e))))⟩
end
end Fx
namespace Fx
open PySem PySem.Spec
section
variable {P:Program}{w:World}{A:Around}{E:Value->Shared->Prop}{s:Shared}{it a:Addr}
structure SObj (h:Heap) (a:Addr) (es:Array (Int×Value)) (ep:Nat) (t:SetTable):Prop where
 at_:∃ o,h.get? a=some o/\o.ExactSet/\o.data=.set es ep t
 fits:t.fits es.size=true
theorem SObj.keep {h h':Heap}{es:Array (Int×Value)}{ep:Nat}{t:SetTable} (q:SObj h a es ep t) (k:∀ o,h.get? a=some o->h'.get? a=some o):SObj h' a es ep t:=by obtain⟨⟨o,h1,h2⟩,f⟩:=q;exact⟨⟨o,k o h1,h2⟩,f⟩
end
end Fx
namespace Fx
open PySem PySem.Spec PyProof.Rows L2
structure Coll (X:Cx) (J:It) (fp:List Addr) (it:Addr) (tn:Nat->Heap->Prop):Prop where
 obj:∀ i h,tn i h->∀ b∈fp,b<h.objs.size
 keep:∀ i h h' (S:Addr),tn i h → S∉fp → (∀ o,h.get? S=some o → o.cls=.type "list") → (∀ b o,b≠S → h.get? b=some o → h'.get? b=some o) → tn i h'
 item:∀ (A:Around) (i:Nat) (pins:List (Addr×Obj)) (s:Shared) (σ:L2.St) (H:Hp) (E:Value->Shared->Prop),A.handled=none->Inv X pins σ H s->(∀ b∈fp,FpOk X pins H b)->tn i s.heap->J.go i H ->
  wpAny (model X.prog X.w) A (pyNext (.ref it)) (λ r s1=>∃ u x H',r=some u/\Inv X pins σ H' s1/\RelV x u/\J.yld i H x H'/\tn (i+1) s1.heap/\(∀ b,s.heap.objs.size<=b\/H b≠none\/H' b=none)/\∀ b o,b∉fp->s.heap.get? b=some o->s1.heap.get? b=some o) E s
 done:∀ (A:Around) (i:Nat) (pins:List (Addr×Obj)) (s:Shared) (σ:L2.St) (H:Hp) (E:Value->Shared->Prop),A.handled=none->Inv X pins σ H s->(∀ b∈fp,FpOk X pins H b)->tn i s.heap->J.stop i H ->
  wpAny (model X.prog X.w) A (pyNext (.ref it)) (λ r s1=>r=none/\Inv X pins σ H s1/\∀ b o,b∉fp->s.heap.get? b=some o->s1.heap.get? b=some o) E s
theorem ao7 {X:Cx}{pins:List (Addr×Obj)}{H H':Hp}{b:Addr} (h:FpOk X pins H b) (n:H' b=none):FpOk X pins H' b:=⟨n,h.2⟩
abbrev lO (q:List Value) (c:Nat):Obj:={cls:=.type "list",dict:=none,data:=.seq q.toArray c,slots:=#[]}
section
variable {X:Cx}{J:It}{fp:List Addr}{it S:Addr}{tn:Nat->Heap->Prop}{pins:List (Addr×Obj)}{σ:L2.St}{A:Around}{R:Result->Shared->Prop}{n:Nat}{W:Nat->Hp->List V->Prop}
theorem aE1 (C:Coll X J fp it tn) (hA:A.handled=none) (hS:S∉fp) (res:Value) (hn:n<=1000) (go:∀ i H vs,i<n->W i H vs->J.go i H/\∀ x H',J.yld i H x H'->W (i+1) H' (vs++[x])) (ae:∀ H vs,W n H vs->J.stop n H)
  (ag:∀ s' H' ac aa c',Inv X pins σ H' s'->H' S=none->s'.heap.get? S=some (lO aa c')->Vals ac aa->ac.length=n->W n H' ac->R (.ok (.ret res)) s') :
  ∀ (m i:Nat) (s:Shared) (H:Hp) (vs:List V) (O:List Value) (c:Nat),n-i=m->i<=n->Inv X pins σ H s->(∀ b∈S::fp,FpOk X pins H b)->tn i s.heap->s.heap.get? S=some (lO O c)->Vals vs O->vs.length=i->W i H vs ->
   codeAny (model X.prog X.w) A (.builtin "list.extend.loop" ⟨[.ref S,.ref it,res],[]⟩) R s:=by
 intro m;induction m with
 |zero =>
  intro i s H vs O c hm hi I hf ht hL rv hl hw;have e:i=n:=by omega
  subst e;refine jy PySem.F.entry_extend_loop ?_;rw[jj Q1 _];refine qb (m:=pyNext (.ref it)) (z0 (C.done A.in1 i pins s σ H _ hA I (λ b Y=>hf b (qh _ Y)) ht (ae H vs hw)) (λ r s1 Z=>?_) λ _ _ z=>z);obtain⟨q1,I1,k⟩:=Z;subst q1;exact qc (ag s1 H vs O c I1 (hf S qg).1 (k S _ hS hL) rv hl hw)
 |succ m ih =>
  intro i s H vs O c hm hi I hf ht hL rv hl hw;have lt:i<n:=by omega
  obtain⟨g1,g2⟩:=go i H vs lt hw;refine jy PySem.F.entry_extend_loop ?_;rw[jj Q1 _];refine qb (m:=pyNext (.ref it)) (z0 (C.item A.in1 i pins s σ H _ hA I (λ b Y=>hf b (qh _ Y)) ht g1) (λ r s1 Z=>?_) λ _ _ z=>z);obtain⟨u,x,H1,q1,I1,ru,hy,af,nw,k⟩:=Z;subst q1;have ad:=k S _ hS hL;have free:∀ b∈S::fp,FpOk X pins H1 b:=λ b Y=>ao7 (hf b Y) (by
   rcases nw b with z | z | z
   ·have lt:b<s.heap.objs.size:=by
     rcases qw Y with rfl | Y
     ·exact qm hL
     ·exact C.obj _ _ ht b Y
    exact absurd lt (Nat.not_lt.mpr z)
   ·exact absurd (hf b Y).1 z
   ·exact z)
  have ah:O.length=i:=by rw[<- rv.length];exact hl
  have big:(1001:Nat)<=sizeLine:=by decide
  refine qb (m:=updateSeq S (·.push u)) (Yq ad rfl (qc ⟨Zv Q1 _,ih (i+1) _ H1 (vs++[x]) (O++[u]) (c+1) (by omega) lt ?_ free ?_ ?_ (rv.append (.cons ru .nil)) (by rw[zh,hl];rfl) (g2 x H1 hy)⟩) (by rw[zc];omega) (by show (O.toArray.push u).size<=_;rw[Array.size_push,zc];omega))
  ·exact Inv.turnedL (t':=s1.toks) (fs:=[S]) I1 (λ b o Y q=>(jq _ _ (λ e=>Y (by simp[e]))).trans q) λ b Y=>by rw[List.mem_singleton.mp Y];exact free S qg
  ·exact C.keep _ _ _ S af hS (λ o q=>by rw[ad] at q;cases q;rfl) λ b o Y q=>(jq _ _ (yk Y)).trans q
  ·rw[ju _ ad rfl];simp[Obj.mapSeq]
end
theorem af9:typeLookup (.type "zip") "__len__"=pure none:=by rw[typeLookup_type,builtinLookup_eq_fast];kernel_rfl
theorem Z_8:typeLookup (.type "zip") "__length_hint__"=pure none:=by rw[typeLookup_type,builtinLookup_eq_fast];kernel_rfl
section
variable {prog:Program}{w:World}{A:Around}{E:Value->Shared->Prop}{s:Shared}{r:Addr}
theorem aD0 {Q:Bool → Shared → Prop} (q:s.TypeIs (.ref r) "zip") (h:Q true s):wpAny (model prog w) A (Builtin.List.listLengthHint (.ref r)) Q E s:=by unfold Builtin.List.listLengthHint;refine qb (wpAny_specialOf q af9 ?_);show wpAny _ _ (specialOf (.ref r) (Str.ofString "__length_hint__") >>= _) _ _ _;refine qb (wpAny_specialOf q Z_8 ?_);exact qc h
end
section
variable {X:Cx}{J:It}{fp:List Addr}{it S:Addr}{tn:Nat->Heap->Prop}{pins:List (Addr×Obj)}{σ:L2.St}{A:Around}{R:Result->Shared->Prop}{n:Nat}{W:Nat->Hp->List V->Prop}{s:Shared}{H:Hp}
theorem X_6 (C:Coll X J fp it tn) (hA:A.handled=none) (hS:S∉fp) (res:Value) (hn:n<=1000) (go:∀ i H vs,i<n->W i H vs->J.go i H/\∀ x H',J.yld i H x H'->W (i+1) H' (vs++[x])) (ac:∀ H vs,W n H vs->J.stop n H)
  (ad:∀ s' H' Z Y c',Inv X pins σ H' s'->H' S=none->s'.heap.get? S=some (lO Y c')->Vals Z Y->Z.length=n->W n H' Z->R (.ok (.ret res)) s')
  {f0:Value}{f1:Bool}{TI TO:Addr} (hz:s.heap.get? it=some (zO f0 f1 TI TO)) (ne:S≠it) (I:Inv X pins σ H s) (hf:∀ b∈S::fp,FpOk X pins H b) (ht:tn 0 s.heap) {c:Nat} (hL:s.heap.get? S=some (lO [] c)) (hw:W 0 H []) :
  wpAny (model X.prog X.w) A.in1 (Builtin.List.listExtendWith (.ref S) (.ref it) res) (λ f s'=>match f with | .done f=>R (.ok f) s' | .again c'=>c'.quiet=true/\codeAny (model X.prog X.w) A c' R s') (λ e s'=>R (.error e) s') s:=by
 have ty:s.TypeIs (.ref it) "zip":=⟨_,hz,rfl⟩;have big:(1001:Nat)<=sizeLine:=by decide
 unfold Builtin.List.listExtendWith;refine qb (Yl ty ?_);have n1:Builtin.List.listSameRef (.ref S) (.ref it)=false:=beq_eq_false_iff_ne.mpr ne;rw[n1];refine wpAny_ite_split (λ z=>absurd z (by decide)) λ _=>?_;have self:∀ {Q:Value->Shared->Prop}{E:Value->Shared->Prop},Q (.ref it) s->wpAny (model X.prog X.w) A.in1 (pyIter (.ref it)) Q E s:=λ {Q E} q=>by
  refine wpAny_pyIter_slot ty PySem.F.slot_zip_iter (j4 PySem.F.slot_zip_iter ty PySem.F.entry_zip_iter ?_ (PySem.F.args_zip_iter_1 _));exact qc ⟨_,rfl,"zip",_,ty,PySem.F.slot_zip_next.lookup,q⟩
 refine qb (self ?_);refine qb (yh (aD0 ty ?_));refine wpAny_ite_split (λ _=>?_) λ z=>absurd rfl z;refine qb (wpAny_rule ?_);unfold Builtin.List.listTouch;have u1:(s.heap.update S (Obj.mapSeq (·.push Value.none))).get? S=some (lO [.none] (c+1)):=by rw[ju _ hL rfl];simp[Obj.mapSeq]
 have u2:((s.heap.update S (Obj.mapSeq (·.push Value.none))).update S (Obj.mapSeq (·.pop))).get? S=some (lO [] (c+1+1)):=by rw[ju _ u1 rfl];simp[Obj.mapSeq]
 have aa:∀ b o,b≠S->s.heap.get? b=some o->((s.heap.update S (Obj.mapSeq (·.push Value.none))).update S (Obj.mapSeq (·.pop))).get? b=some o:=λ b o O q =>
  (jq _ _ (yk O)).trans ((jq _ _ (yk O)).trans q)
 refine qb (qb (m:=updateSeq S (·.push .none)) (Yq hL rfl (Yq u1 rfl ?_ (by show (1:Nat)<=sizeLine;decide) (by show (0:Nat)<=sizeLine+1;exact yi _)) (by show (0:Nat)<=sizeLine;exact yi _) (by show (1:Nat)<=sizeLine+1;decide)));refine qc ⟨Zv Q1 _,aE1 C hA hS res hn go ac ad n 0 _ H [] [] (c+1+1) rfl (yi _) (Inv.turnedL (s:=s) (t':=s.toks) (fs:=[S]) I (λ b o O q=>aa b o (λ e=>O (by simp[e])) q) λ b O=>by rw[List.mem_singleton.mp O];exact hf S qg) hf
  (C.keep _ _ _ S ht hS (λ o q=>by rw[hL] at q;cases q;rfl) λ b o O q=>aa b o O q) u2 .nil rfl hw⟩
end
end Fx
namespace L2
open PySem PySem.Spec PyProof.Rows
theorem Inv.track  (I:Inv X pins σ H s) (hf:FpOk X pins H a) (Y:X.s₀.heap.objs.size<=a) (new:ObjOk X.prog X.w (upd H a o) s.heap a o):Inv X pins σ (upd H a o) s:=by
 obtain⟨hn,hl,_,_,hc,hp⟩:=hf;have ne:∀ {b:Addr}{u:HO},H b=some u->b≠a:=λ q=>b_3 q hn;have lt:∀ {b:Addr}{u:Obj},X.s₀.heap.get? b=some u->b≠a:=λ q=>qv (qt (qm q) Y);refine⟨I.ok,I.os,I.bare,⟨I.base.keep,I.base.slot,λ b u q n hx=>by rw[a_8 (lt q)];exact I.base.free b u q n hx,I.base.there,λ b xs q=>?_,λ b u v q=>?_,λ b ps q=>?_⟩,I.loc,I.cell,by rw[a_8 (yk hl)];exact I.free,
  λ x c q=>by rw[a_8 (hc x c q)];exact I.freeC x c q,λ p Z=>?_,λ b u e=>?_,I.len⟩
 ·have z:=I.base.tups b xs q;rw[a_8 (ne z)];exact z
 ·have z:=I.base.frzs b u v q;rw[a_8 (ne z)];exact z
 ·obtain⟨O,z⟩:=I.base.tbls b ps q;exact⟨O,by rw[a_8 (ne z)];exact z⟩
 ·obtain⟨p1,p2,p3⟩:=I.pin p Z;exact⟨p1,by rw[a_8 (hp p Z)];exact p2,p3⟩
 ·by_cases hb:b=a
  ·subst hb;rw[a_4] at e;cases e;exact new
  ·rw[a_8 hb] at e;exact (I.hok b u e).stay (λ c v _ q=>q) (λ c q=>by rw[a_8 (ne q)];exact q) λ c xs q=>by rw[a_8 (ne q)];exact q
end L2
namespace Fx
open PySem PySem.Spec PyProof.Rows L2
section
variable {X:Cx}{J:It}{fp:List Addr}{it:Addr}{tn:Nat->Heap->Prop}{pins:List (Addr×Obj)}{σ:L2.St}{n:Nat}{W:Nat->Hp->List V->Prop}{s:Shared}{H:Hp}{f0:Value}{f1:Bool}{TI TO:Addr}
theorem aB8 (hc:X.calm=true) (C:Coll X J fp it tn) (hn:n<=1000) (go:∀ i H vs,i<n->W i H vs->J.go i H/\∀ x H',J.yld i H x H'->W (i+1) H' (vs++[x])) (aa:∀ H vs,W n H vs->J.stop n H)
  (hz:s.heap.get? it=some (zO f0 f1 TI TO)) (I:Inv X pins σ H s) (hf:∀ b∈fp,FpOk X pins H b) (ht:tn 0 s.heap) (hw:W 0 H []) 
  (ae:∀ H' O p,H' p=none->O.length=n->W n H' O->Q (.ref p) (upd H' p (.lst O))) :
  wpAny (model X.prog X.w) X.A (call (.type "list") [.ref it]) (EP X pins σ Q) X.xe s:=by
 have hh:=I.ok.hd hc;have big:(1001:Nat)<=sizeLine:=by decide
 refine callType_codes (Q₁:=λ o s1=>o=.ref s.heap.objs.size ∧ s1={s with heap:=s.heap.push {cls:=.type "list",data:=.seq #[]}}) PySem.F.called_list (PySem.F.typeCall_list_1 _) PySem.F.entry_list_init (code_list_new _ ⟨rfl,rfl⟩) λ o s1 h1=>?_;obtain⟨rfl,rfl⟩:=h1;have new:(s.heap.push {cls:=.type "list",data:=.seq #[]}).get? s.heap.objs.size=some {cls:=.type "list",data:=.seq #[]}:=qk _ rfl;have e2:((s.heap.push {cls:=.type "list",data:=.seq #[]}).update s.heap.objs.size (Obj.mapSeq (λ _=>(#[]:Array Value)))).get? s.heap.objs.size=some (lO [] 0):=by rw[ju (Obj.mapSeq (λ _=>(#[]:Array Value))) new rfl];simp[Obj.mapSeq]
 have up:∀ b o,s.heap.get? b=some o → ((s.heap.push {cls:=.type "list",data:=.seq #[]}).update s.heap.objs.size (Obj.mapSeq (λ _=>(#[]:Array Value)))).get? b=some o:=λ b o e =>
  (jq _ _ (Zh (qm e))).trans (qf _ e)
 have out:=λ z=>yp _ (C.obj _ _ ht _ z);have fS:=I.fpOk (qj _) (I.hok.fresh (qj _));refine⟨⟨_,new,rfl⟩,PySem.F.args_list_init_2 _ _,?_⟩;refine qb (qb (jw new rfl (qc ?_)));refine qb (Yq new rfl ?_);refine qb (wpAny_letGo ?_);refine X_6 (A:=X.A.in1) C hh out .none hn go aa (λ s' H' O Z c' I' Y ad rv hl ac=>?_) (up _ _ hz) (λ e=>yp _ (by rw[<- e] at hz;exact qm hz)) (I.kept up) (λ b hb=>?_) (C.keep _ _ _ s.heap.objs.size ht out (λ o q=>absurd (qm q) (yp _)) λ b o _ q=>up b o q) e2 hw
 ·refine⟨rfl,.ref s.heap.objs.size,_,I'.track (o:=.lst O) (ao7 fS Y) I.sz ⟨by omega,Z,c',rv,ad⟩,rfl,ae H' O _ Y hl ac⟩
 ·rcases qw hb with rfl | hb
  ·exact fS
  ·exact hf b hb
theorem R_6  (hA:A.handled=none) (C:Coll X J fp it tn) (hn:n<=1000) (go:∀ i H vs,i<n->W i H vs->J.go i H/\∀ x H',J.yld i H x H'->W (i+1) H' (vs++[x])) (ad:∀ H vs,W n H vs->J.stop n H)
  (hz:s.heap.get? it=some (zO f0 f1 TI TO)) (I:Inv X pins σ H s) (hf:∀ b∈fp,FpOk X pins H b) (ht:tn 0 s.heap) (hw:W 0 H [])
  (ae:∀ s' H' Y O,Inv X pins σ H' s'->Vals Y O->Y.length=n->W n H' Y->Qc O s'):wpAny (model X.prog X.w) A (collect (.ref it)) Qc E s:=by
 refine qb (wpAny_runValue (jy PySem.F.entry_proto_collect ?_));rw[jj PySem.F.plain_proto_collect _];refine qb (yj (qc ⟨Zv PySem.F.plain_list_iadd _,jy PySem.F.entry_list_iadd ?_⟩));rw[jj PySem.F.plain_list_iadd _];have l0:(s.heap.push {cls:=.type "list",data:=.seq ([]:List Value).toArray}).get? s.heap.objs.size=some (lO [] 0):=qk _ rfl;have up:∀ b o,s.heap.get? b=some o → (s.heap.push {cls:=.type "list",data:=.seq ([]:List Value).toArray}).get? b=some o:=λ b o e=>qf _ e;have out:=λ z=>yp _ (C.obj _ _ ht _ z);have fS:=I.fpOk (qj _) (I.hok.fresh (qj _));have key:=X_6 (R:=λ q (s':Shared)=>q=.ok (.ret (.ref s.heap.objs.size)) ∧ ∃ H' Y O c',Inv X pins σ H' s' ∧ s'.heap.get? s.heap.objs.size=some (lO O c') ∧ Vals Y O ∧ Y.length=n ∧ W n H' Y)
  C hA out (.ref s.heap.objs.size) hn go ad (λ s' H' Y O c' I' ag aa rv hl Z=>⟨rfl,H',Y,O,c',I',aa,rv,hl,Z⟩) (up _ _ hz) (λ e=>yp _ (by rw[<- e] at hz;exact qm hz)) (I.kept (t':=s.toks) up) (λ b hb=>by
   rcases qw hb with rfl | hb
   ·exact fS
   ·exact hf b hb) (C.keep _ _ _ s.heap.objs.size ht out (λ o q=>absurd (qm q) (yp _)) λ b o _ q=>up b o q) l0 hw
 refine z0 key (λ f s' x=>?_) λ e s' x=>?_
 ·cases f with
  |done f =>
   obtain⟨e,H',Y,O,c',I',aa,rv,hl,Z⟩:=x;cases e;exact qb (wpAny_load aa (qc (ae s' H' Y O I' rv hl Z)))
  |again af =>
   refine⟨x.1,Qx x.2 λ q ac y=>?_⟩;obtain⟨rfl,H',Y,O,c',I',aa,rv,hl,Z⟩:=y;exact qb (wpAny_load aa (qc (ae ac H' Y O I' rv hl Z)))
 ·cases x.1
end
section
variable {X:Cx}{J:It}{fp:List Addr}{it:Addr}{tn:Nat->Heap->Prop}{pins:List (Addr×Obj)}{σ:L2.St}{n:Nat}{W:Nat->Hp->List V->Prop}{s:Shared}{H:Hp}{f0:Value}{f1:Bool}{TI TO:Addr}
theorem ah0 (hc:X.calm=true) (C:Coll X J fp it tn) (hn:n<=1000) (go:∀ i H vs,i<n->W i H vs->J.go i H/\∀ x H',J.yld i H x H'->W (i+1) H' (vs++[x])) (Z:∀ H vs,W n H vs->J.stop n H)
  (hz:s.heap.get? it=some (zO f0 f1 TI TO)) (I:Inv X pins σ H s) (hf:∀ b∈fp,FpOk X pins H b) (ht:tn 0 s.heap) (hw:W 0 H []) 
  (ac:∀ H' Y p,H' p=none->Y.length=n->W n H' Y->Q (.ref p) (upd H' p (.tup Y))) :
  wpAny (model X.prog X.w) X.A (call (.type "tuple") [.ref it]) (EP X pins σ Q) X.xe s:=by
 have hh:=I.ok.hd hc;have big:(1001:Nat)<=sizeLine:=by decide
 have ty:s.TypeIs (.ref it) "zip":=⟨_,hz,rfl⟩;refine callType_codes (Q₁:=λ o s1=>s1.TypeIs o "tuple" ∧ EP X pins σ Q o s1) PySem.F.called_tuple (PySem.F.typeCall_tuple_1 _) PySem.F.entry_object_init (Yr ?_) λ o s1 h1=>⟨h1.1,PySem.F.args_object_init_2 o _,object_init_meets PySem.F.called_tuple.init.lookup PySem.F.called_tuple.made (by decide) X.prog X.w X.A.in1 _ s1 ⟨h1.1,rfl,h1.2⟩⟩
 refine qb (Z6 (PySem.F.newCall_tuple_1 _) (qc ⟨Zv PySem.F.plain_tuple_new _,jy PySem.F.entry_tuple_new ?_⟩));rw[jj PySem.F.plain_tuple_new _];have q1:=sub_tuple_self;have q2:=init_tuple_lookup;have q3:=madeHere_tuple;wp_walk using Yl ty,R_6 (A:=X.A.in1.in1) hh C hn go Z hz I hf ht hw;intro s' H' Y O I' rv hl aa;have ad:O.length=n:=by rw[<- rv.length];exact hl
 show wpAny _ _ (Builtin.Tuple.tupleExact O.toArray >>= λ v=>ret v) _ _ _;refine qb (yj (qc ?_) (by show O.toArray.size<=sizeLine;rw[zc];omega));refine⟨⟨_,qk _ rfl,rfl⟩,.ref s'.heap.objs.size,_,I'.laid (o:=.tup Y) (λ b o q=>qf _ q) (qj _) ⟨by omega,O,rv,IsTuN.new _ _⟩,rfl,ac H' Y _ (I'.hok.fresh (qj _)) hl aa⟩
end
def SqB (T:Bool) (K:Frag) (H:Hp) (a:Addr) (xs:List V):Prop:=if T=true then SqT K H a xs else SqL K H a xs
def bw9 (T:Bool) (h:Heap) (a:Addr) (q:Array Value):Prop:=if T=true then IsTup h a q else h.IsList a q
def IterB (T:Bool) (h:Heap) (i a:Addr) (k:Nat):Prop:=if T=true then IsTupIter h i a k else h.IsListIter i a k
theorem SqB.inv  (I:Inv X pins σ H s) (h:SqB T X.K H a xs):∃ q:List Value,Vals xs q/\bw9 T s.heap a q.toArray/\xs.length<=sizeLine:=by
 cases T with
 |true =>
  obtain⟨q,r,p,z⟩:=I.tuple h;exact⟨q,r,p,z⟩
 |false =>
  obtain⟨q,r,p,z⟩:=I.list h;exact⟨q,r,p.isList,z⟩
theorem SqB.inj  (I:Inv X pins σ H s) (h:SqB T X.K H a xs) (h':SqB T X.K H a ys):xs=ys:=by
 cases T with
 |true=>exact I.tuple_inj h h'
 |false=>exact I.list_inj h h'
theorem SqB.same {K:Frag} (s:Same H H') (h:SqB T K H a xs):SqB T K H' a xs:=by
 cases T with
 |true=>exact Same.seqT s h
 |false=>exact Same.seq s h
def PB (T:Bool) (i a:Addr) (q:Array Value) (k:Nat) (h:Heap):Prop:=IterB T h i a k/\bw9 T h a q
theorem au0  (T:Bool) (i a:Addr) (ne:a≠i) (q:Array Value):Nx prog w i [i,a] (λ k=>q[k]?) (PB T i a q):=by
 cases T with
 |true=>exact bo5 i a ne q
 |false=>exact aU0 i a ne q
theorem IterB.at  (x:IterB T h i a k) (q:∀ o,h.get? i=some o->h'.get? i=some o):IterB T h' i a k:=by
 cases T with
 |true=>obtain⟨o,e,r⟩:=x;exact⟨o,q o e,r⟩
 |false=>exact Heap.IsListIter.at x q
theorem IterB.there  (x:IterB T h i a k):∃ o vs,h.get? i=some o/\o.data=.fields vs:=by
 cases T with
 |true=>obtain⟨o,e,_,d⟩:=x;exact⟨o,_,e,d⟩
 |false=>obtain⟨o,e,_,d⟩:=x;exact⟨o,_,e,d⟩
def Itz (T:Bool) (K:Frag) (a b:Addr):It :=
  ⟨λ i H=>∃ xs ys,SqB T K H a xs/\SqB T K H b ys/\i<xs.length/\i<ys.length,
   λ i H x H'=>∃ v w p,(∀ xs,SqB T K H a xs->xs[i]?=some v)/\(∀ ys,SqB T K H b ys->ys[i]?=some w)/\x=.ref p/\H p=none/\H'=upd H p (.tup [v,w]),
   λ i H=>∃ xs ys,SqB T K H a xs/\SqB T K H b ys/\(xs.length<=i\/ys.length<=i)⟩
structure Zp (z TI TO i1 i2 a b:Addr):Prop where
 ap:Za z TI TO i1 i2 [i1,a] [i2,b]
 n1:a≠i1
 n2:b≠i2
def tZ (T:Bool) (z TI TO i1 i2 a b:Addr) (i:Nat) (f0:Value) (f1:Bool) (h:Heap):Prop :=
 h.get? z=some (zO f0 f1 TI TO)/\IsPair h TI (.ref i1) (.ref i2)/\(∃ u v,IsPair h TO u v)/\IterB T h i1 a i/\IterB T h i2 b i
theorem tZ.keep {z TI TO i1 i2 a b:Addr} (x:tZ T z TI TO i1 i2 a b i f0 f1 h) (k:∀ c∈[z,TI,TO,i1,i2],∀ o,h.get? c=some o->h'.get? c=some o):tZ T z TI TO i1 i2 a b i f0 f1 h':=by obtain⟨q,x2,⟨u,v,Z⟩,Y,O⟩:=x;exact⟨k z (by simp) _ q,k TI (by simp) _ x2,⟨u,v,k TO (by simp) _ Z⟩,Y.at λ o e=>k i1 (by simp) o e,O.at λ o e=>k i2 (by simp) o e⟩
theorem tZ.obj {z TI TO i1 i2 a b:Addr} (x:tZ T z TI TO i1 i2 a b i f0 f1 h):∀ c∈[z,TI,TO,i1,i2],∃ o,h.get? c=some o ∧ (∀ v,o.data≠.cell v) ∧ o.cls≠.type "list":=by
 obtain⟨x1,x2,⟨u,v,Z⟩,Y,x5⟩:=x;intro c O;have it:∀ {i a:Addr}{k:Nat},IterB T h i a k → ∃ o,h.get? i=some o ∧ (∀ v,o.data≠.cell v) ∧ o.cls≠.type "list":=λ {i a k} y=>by
  cases T with
  |true=>obtain⟨o,e,q,d⟩:=y;exact⟨o,e,(λ v z=>by rw[d] at z;cases z),by rw[q];decide⟩
  |false=>obtain⟨o,e,q,d⟩:=y;exact⟨o,e,(λ v z=>by rw[d] at z;cases z),by rw[q];decide⟩
 simp only[ym,yd,j9] at O;rcases O with rfl | rfl | rfl | rfl | rfl
 ·exact⟨_,x1,(λ v z=>by cases z),show (Value.type "zip")≠Value.type "list" by decide⟩
 ·exact⟨_,x2,(λ v z=>by cases z),show (Value.type "tuple")≠Value.type "list" by decide⟩
 ·exact⟨_,Z,(λ v z=>by cases z),show (Value.type "tuple")≠Value.type "list" by decide⟩
 ·exact it Y
 ·exact it x5
section
variable {z TI TO i1 i2 a b:Addr}
theorem tZ.zs  (x:tZ T z TI TO i1 i2 a b i f0 f1 h) (h1:bw9 T h a u) (h2:bw9 T h b v):Zs z TI TO i1 i2 (PB T i1 a u) (PB T i2 b v) i i f0 f1 h :=
 ⟨x.1,x.2.1,x.2.2.1,⟨x.2.2.2.1,h1⟩,⟨x.2.2.2.2,h2⟩⟩
theorem Zs.tz  (x:Zs z TI TO i1 i2 (PB T i1 a u) (PB T i2 b v) i i f0 f1 h):tZ T z TI TO i1 i2 a b i f0 f1 h:=⟨x.hz,x.ti,x.to,x.p1.1,x.p2.1⟩
theorem aH8  (I:Inv X pins σ H s) (Z:∀ c∈[z,TI,TO,i1,i2],FpOk X pins H c) (st:tZ T z TI TO i1 i2 a b i f0 f1 s.heap) (Y:RelV v x) (ry:RelV w y)
  (pr:IsPair h1 s.heap.objs.size x y) (k:∀ c o,c∉[z,TO,i1,i2]->s.heap.get? c=some o->h1.get? c=some o):Inv X pins σ (upd H s.heap.objs.size (.tup [v,w])) {s with heap:=h1}/\∀ c∈[z,TI,TO,i1,i2],FpOk X pins (upd H s.heap.objs.size (.tup [v,w])) c:=by
 have lt:=λ c O=>let ⟨_,e,_⟩:=st.obj c O;qm e;have fp:∀ c∈[z,TI,TO,i1,i2],FpOk X pins (upd H s.heap.objs.size (.tup [v,w])) c:=λ c O=>(Z c O).upd (qv (lt c O));have I0:=
  I.laid (t':=s.toks) (λ c o q=>qf _ q) (qj _) (show ObjOk X.prog X.w _ _ _ (.tup [v,w]) from ⟨by show (2:Nat)<=sizeLine;decide,[x,y],.cons Y (.cons ry .nil),IsTuN.new _ _⟩)
 refine⟨Inv.turnedL (s:={s with heap:=s.heap.push {cls:=.type "tuple",data:=.seq #[x,y]}}) (fs:=[z,TO,i1,i2]) I0 (λ c q O e=>?_) λ c O=>fp c (by
  simp only[ym,yd,j9] at O ⊢;rcases O with e | e | e | e
  ·exact .inl e
  ·exact .inr (.inr (.inl e))
  ·exact .inr (.inr (.inr (.inl e)))
  ·exact .inr (.inr (.inr (.inr e)))),fp⟩
 rcases Y2 e with ⟨z1,z2⟩ | e
 ·rw[z1,z2];exact pr
 ·exact k c q O e
def tC (T:Bool) (z TI TO i1 i2 a b:Addr) (i:Nat) (h:Heap):Prop:=∃ f0 f1,tZ T z TI TO i1 i2 a b i f0 f1 h/\(f0=.none\/∃ (T0:Addr) (u v:Value),f0=rawInt T0/\IsPair h T0 u v)
theorem Y_8 (D:Zp z TI TO i1 i2 a b):Coll X (Itz T X.K a b) [z,TI,TO,i1,i2] z (tC T z TI TO i1 i2 a b) where
 obj:=λ i h ⟨f0,f1,st,_⟩ c Y=>let ⟨_,e,_⟩:=st.obj c Y;qm e
 keep:=λ i h h' S O hS hl k=>by
  obtain⟨f0,f1,st,fr⟩:=O;refine⟨f0,f1,st.keep λ c Y o e=>k c o (λ q=>hS (q▸Y)) e,?_⟩;rcases fr with e | ⟨T0,u,v,e,p⟩
  ·exact .inl e
  ·refine .inr ⟨T0,u,v,e,k T0 _ (λ q=>?_) p⟩;exact absurd (hl _ (q▸p)) (show ¬ (Value.type "tuple"=Value.type "list") by decide)
 item:=λ A i pins s σ H E hh I hf O aa=>by
  obtain⟨f0,f1,st,fr⟩:=O;obtain⟨xs,ys,q1,q2,l1,l2⟩:=aa;obtain⟨us,r1,p1,_⟩:=q1.inv I;obtain⟨vs,r2,p2,_⟩:=q2.inv I;have e1:=zl l1;have e2:=zl l2;obtain⟨x,hx,rx⟩:=r1.get e1;obtain⟨y,hy,ry⟩:=r2.get e2;have hp:=I.hok.fresh (qj _);have done:∀ (h1:Heap) (g0:Value) (g1:Bool),tZ T z TI TO i1 i2 a b (i+1) g0 g1 h1->(∃ (T0:Addr) (u v:Value),g0=rawInt T0/\IsPair h1 T0 u v)->IsPair h1 s.heap.objs.size x y->(∀ c o,c∉[z,TO,i1,i2]->s.heap.get? c=some o->h1.get? c=some o) ->
    ∃ u x' H',some (Value.ref s.heap.objs.size)=some u/\Inv X pins σ H' {s with heap:=h1}/\RelV x' u/\(Itz T X.K a b).yld i H x' H'/\tC T z TI TO i1 i2 a b (i+1) h1/\(∀ c,s.heap.objs.size<=c\/H c≠none\/H' c=none)/\∀ c o,c∉[z,TI,TO,i1,i2]->s.heap.get? c=some o->h1.get? c=some o:=λ h1 g0 g1 t1 al pr k=>by
   obtain⟨I1,_⟩:=aH8 I hf st rx ry pr k;refine⟨_,.ref s.heap.objs.size,_,rfl,I1,rfl,⟨xs[i],ys[i],_,λ zs hz=>by rw[SqB.inj I hz q1];exact e1,λ zs hz=>by rw[SqB.inj I hz q2];exact e2,rfl,hp,rfl⟩,⟨g0,g1,t1,.inr al⟩,λ c=>?_,λ c o Y e=>k c o (λ m=>Y (by
    simp only[ym,yd,j9] at m ⊢;rcases m with e | e | e | e
    ·exact .inl e
    ·exact .inr (.inr (.inl e))
    ·exact .inr (.inr (.inr (.inl e)))
    ·exact .inr (.inr (.inr (.inr e))))) e⟩
   by_cases Y:c=s.heap.objs.size
   ·exact .inl (Yn Y.symm)
   ·cases hH:H c with
    |none=>exact .inr (.inr (by rw[a_8 Y];exact hH))
    |some u=>exact .inr (.inl (by simp))
  rcases fr with e | ⟨T0,u,v,e,p⟩
  ·subst e;exact K_2 (au0 T i1 a D.n1 us.toArray) (au0 T i2 b D.n2 vs.toArray) D.ap (st.zs p1 p2) (by simpa using hx) (by simpa using hy) λ h1 Z pr _ k=>done h1 _ _ Z.tz ⟨_,x,y,rfl,pr⟩ pr k
  ·subst e;have ad:T0∉[z,TO,i1,i2]\/T0=TO:=by
    by_cases h:T0=TO
    ·exact .inr h
    ·refine .inl λ m=>?_;simp only[ym,yd,j9] at m;obtain⟨o1,ts,af,d1⟩:=st.2.2.2.1.there;obtain⟨o2,ag,ae,d2⟩:=st.2.2.2.2.there;have p':s.heap.get? T0=some {cls:=.type "tuple",data:=.seq #[u,v]}:=p;rcases m with q | q | q | q
     ·rw[q,st.1] at p';exact absurd (jm Obj.cls (qi p')) (show ¬ (Value.type "zip"=Value.type "tuple") by decide)
     ·exact h q
     ·rw[q,af] at p';cases p';cases d1
     ·rw[q,ae] at p';cases p';cases d2
   refine al5 (au0 T i1 a D.n1 us.toArray) (au0 T i2 b D.n2 vs.toArray) D.ap (st.zs p1 p2) p (by simpa using hx) (by simpa using hy) λ h1 Z pr _ k=>done h1 _ _ Z.tz ?_ pr k;rcases ad with h | h
   ·exact⟨T0,u,v,rfl,k T0 _ h p⟩
   ·subst h;obtain⟨u',v',q⟩:=Z.to;exact⟨_,u',v',rfl,q⟩
 done:=λ A i pins s σ H E hh I hf O aa=>by
  obtain⟨f0,f1,st,fr⟩:=O;obtain⟨xs,ys,q1,q2,l⟩:=aa;obtain⟨us,r1,p1,_⟩:=q1.inv I;obtain⟨vs,r2,p2,_⟩:=q2.inv I;have n1:=r1.length;have n2:=r2.length;have ac:∀ {c:Addr},c∈[z,TO,i1,i2]->c∈[z,TI,TO,i1,i2]:=λ {c} m=>by
   simp only[ym,yd,j9] at m ⊢;rcases m with e | e | e | e
   ·exact .inl e
   ·exact .inr (.inr (.inl e))
   ·exact .inr (.inr (.inr (.inl e)))
   ·exact .inr (.inr (.inr (.inr e)))
  refine K_1 hh (au0 T i1 a D.n1 us.toArray) (au0 T i2 b D.n2 vs.toArray) D.ap (st.zs p1 p2) ?_ ?_ λ h1 k=>⟨rfl,Inv.turnedL I k λ c Y=>hf c (ac Y),λ c o Y e=>k c o (λ m=>Y (ac m)) e⟩
  ·rcases fr with e | ⟨T0,u,v,e,p⟩
   ·exact .inl e
   ·exact .inr ⟨T0,_,e,p⟩
  ·rcases l with l | l
   ·exact .inl (by simp;omega)
   ·exact .inr (by simp;omega)
end
theorem bg8  (h1:l<n) (h2:r<n):Zp (n+4) (n+2) (n+3) n (n+1) l r:=by
 have lt:∀ {c:Addr} (k:Nat),c<n->c≠n+k:=λ {c} k h e=>by
  have:=qt h (Qy n k);rw[<- e] at this;exact yp _ this
 refine⟨⟨?_,?_,?_,?_,?_,λ c q=>?_,λ c q=>?_⟩,λ e=>?_,lt 1 h2⟩
 ·exact qv (Qh (by decide) n)
 ·exact qv (Qh (by decide) n)
 ·exact qv (Qh (by decide) n)
 ·exact Zh (Qi (by decide))
 ·exact Zh (Qh (by decide) n)
 ·rcases qw q with rfl | q
  ·exact⟨qv (Qi (by decide)),qv (Qi (by decide)),qv (Qi (by decide))⟩
  ·rw[List.mem_singleton.mp q];exact⟨lt 4 h1,lt 3 h1,lt 1 h1⟩
 ·rcases qw q with rfl | q
  ·exact⟨qv (Qh (by decide) n),qv (Qh (by decide) n),Zh (Qi (by decide))⟩
  ·rw[List.mem_singleton.mp q];exact⟨lt 4 h2,lt 3 h2,lt 0 h2⟩
 ·exact lt 0 h1 e
section
variable {X:Cx}{pins:List (Addr×Obj)}{σ:L2.St}{H:Hp}{s:Shared}{a b:Expr}{ta:TA}{p pos:Pos}
theorem F_8 (T:Bool) {QQ:Addr → Addr → List V → List V → Hp → Prop} (hg:Gl X "zip") (hm:X.mg "zip"=none) (I:Inv X pins σ H s) (ha:PA X [a,b] ta)
  (h:ta σ H λ vs H1=>∃ l r xs ys,vs=[.ref l,.ref r]/\SqB T X.K H1 l xs/\SqB T X.K H1 r ys/\QQ l r xs ys H1)
  (ac:∀ O H1 z TI TO i1 i2 l r xs ys,Inv X pins σ H1 O->Zp z TI TO i1 i2 l r->tZ T z TI TO i1 i2 l r 0 .none false O.heap->(∀ c∈[z,TI,TO,i1,i2],FpOk X pins H1 c)->SqB T X.K H1 l xs->SqB T X.K H1 r ys->QQ l r xs ys H1->Φ (.ref z) O)
  (hs:starEach [a,b] X.env=[(false,eval a X.env),(false,eval b X.env)]:=by rfl) (aa:starEach [b] X.env=[(false,eval b X.env)]:=by rfl) :
  wpAny (model X.prog X.w) X.A (eval (.Call (.Name "zip" p) [a,b] [] pos) X.env) Φ X.xe s:=by
 refine jv (n_6 I hg hm (u:=.type "zip") (by decide +kernel) (yq (thn (ha pos pins s σ H _ I h) λ us O=>ex5 λ vs H1 Y r1 Z=>?_) (by rw[hs,aa]) (by rw[aa];rfl)));obtain⟨l,r,xs,ys,rfl,Z,q2,qq⟩:=Z;cases r1 with
 |cons r1 rr =>
  cases rr with
  |cons r2 rr =>
   cases rr;cases r1;cases r2;obtain⟨us,v1,p1,_⟩:=Z.inv Y;obtain⟨vs,v2,p2,_⟩:=q2.inv Y;have lt:∀ {c:Addr}{u:Array Value},bw9 T O.heap c u->c<O.heap.objs.size:=λ {c u} q=>by
    cases T with
    |true=>obtain⟨o,e,_⟩:=q;exact qm e
    |false=>obtain⟨o,e,_⟩:=q;exact qm e
   have D:=bg8 (lt p1) (lt p2);have fp:∀ c∈[O.heap.objs.size+4,O.heap.objs.size+2,O.heap.objs.size+3,O.heap.objs.size,O.heap.objs.size+1],FpOk X pins H1 c:=λ c hc=>by
    have le:O.heap.objs.size<=c:=by
     simp only[ym,yd,j9] at hc;rcases hc with rfl | rfl | rfl | rfl | rfl
     ·exact Qy _ _
     ·exact Qy _ _
     ·exact Qy _ _
     ·exact qj _
     ·exact Qy _ _
    exact Y.fpOk le (Y.hok.fresh le)
   cases T with
   |true=>exact M_1 p1 p2 λ h' z1 z2 z3 z4 z5 k=>ac {O with heap:=h'} H1 _ _ _ _ _ l r xs ys (Y.kept k) D ⟨z1,z2,⟨_,_,z3⟩,z4,z5⟩ fp Z q2 qq
   |false=>exact call_zip_2 p1 p2 λ h' z1 z2 z3 z4 z5 _ k=>ac {O with heap:=h'} H1 _ _ _ _ _ l r xs ys (Y.kept k) D ⟨z1,z2,⟨_,_,z3⟩,z4,z5⟩ fp Z q2 qq
end
theorem B_9 (xs ys:List D):(zpT xs ys).length=min xs.length ys.length:=by unfold zpT;rw[qy,Yu]
theorem af8 {i:Nat} (h1:xs[i]?=some d) (h2:ys[i]?=some e):(zpT xs ys)[i]?=some (.tup [d,e]):=by unfold zpT;have:=List.getElem?_zip_eq_some (l₁:=xs) (l₂:=ys) (z:=(d,e)) (i:=i);rw[yo,this.mpr ⟨h1,h2⟩];rfl
def Wz (K:Frag) (H0 H:Hp) (xs ys:List D) (i:Nat) (H':Hp) (vs:List V):Prop:=∃ H0',Step H0 H H0' H'/\Reps K H0' ((zpT xs ys).take i) vs
theorem bh9 {K:Frag} (sm:Same H0 H) (q1:SqB T K H l us) (q2:SqB T K H r vs) (Z:Reps K H0 xs us) (r2:Reps K H0 ys vs) (i:Nat) (H':Hp) (ws:List V) (hi:i<min xs.length ys.length) (hw:Wz K H0 H xs ys i H' ws) :
  (Itz T K l r).go i H'/\∀ x H'',(Itz T K l r).yld i H' x H''->Wz K H0 H xs ys (i+1) H'' (ws++[x]):=by
 obtain⟨H0',S,rp⟩:=hw;have g1:=q1.same S.s;have g2:=q2.same S.s;have n1:=Z.length;have n2:=r2.length;refine⟨⟨us,vs,g1,g2,by omega,by omega⟩,λ x H'' q=>?_⟩;obtain⟨v,w,p,e1,e2,ex,hp,eH⟩:=q;subst ex eH;have O:=Step.alloc (o:=.tup [v,w]) S.s' hp;have d1:xs[i]?=some xs[i]:=zl (by omega);have d2:ys[i]?=some ys[i]:=zl (by omega);obtain⟨v',e3,rv⟩:=Z.get d1;obtain⟨w',e4,Y⟩:=r2.get d2;have e1:=e1 us g1;have e2:=e2 vs g2;rw[e3] at e1;cases e1;rw[e4] at e2;cases e2;refine⟨_,S.trans O,?_⟩;rw[List.take_succ,af8 d1 d2];refine (Reps.mono O.s0 _ rp).app (Reps.one ?_);exact⟨p,_,rfl,.inl (.inl a_4),Reps.cons (Rep.mono (S.s0.trans O.s0) _ rv) (Reps.one (Rep.mono (S.s0.trans O.s0) _ Y))⟩
theorem ag2 {K:Frag} (Y:SqB T K H l us) (O:SqB T K H r vs) (q:Reps K H0 xs us) (r2:Reps K H0 ys vs) (H':Hp) (ws:List V) (Z:Wz K H0 H xs ys (min xs.length ys.length) H' ws):(Itz T K l r).stop (min xs.length ys.length) H':=by obtain⟨H0',S,_⟩:=Z;have n1:=q.length;have n2:=r2.length;exact⟨us,vs,Y.same S.s,O.same S.s,by omega⟩
section
theorem C_0 {K:Frag} (R:RS K c H0 H ρ σ) (h1:F ρ=some ((if T=true then .tup xs else .lst xs),q)) (h2:G q=some ((if T=true then .tup ys else .lst ys),ρ')) :
  tAa K (aC F (aC G aN)) σ H λ vs H1=>∃ l r us ws,vs=[.ref l,.ref r]/\SqB T K H1 l us/\SqB T K H1 r ws/\∃ O,Same H0 O/\RS K c O H1 ρ' σ/\Reps K O xs us/\Reps K O ys ws/\SqB T K O l us/\SqB T K O r ws:=by
 refine⟨c,H0,ρ,[if T=true then .tup xs else .lst xs,if T=true then .tup ys else .lst ys],ρ',R,by unfold aC;rw[h1];show bnd (bnd (G q) _) _=_;rw[h2];rfl,λ vs H1 Hh s1 Y r1=>?_⟩;obtain⟨v,r,rfl,rv,r1⟩:=r1;obtain⟨u,rfl,ru⟩:=Reps.v1 r1;cases T with
 |true =>
  obtain⟨l,us,rfl,q1,t1⟩:=rv;obtain⟨m,ws,rfl,Z,t2⟩:=ru;exact⟨l,m,us,ws,rfl,Same.seqT Y.same q1,Same.seqT Y.same Z,H1,s1,Y,t1,t2,q1,Z⟩
 |false =>
  obtain⟨l,us,rfl,q1,t1⟩:=rv;obtain⟨m,ws,rfl,Z,t2⟩:=ru;exact⟨l,m,us,ws,rfl,Same.seq Y.same q1,Same.seq Y.same Z,H1,s1,Y,t1,t2,q1,Z⟩
theorem aG5 (xs ys:List D):(zpT xs ys).take (min xs.length ys.length)=zpT xs ys:=Zi (by rw[B_9];exact qj _)
theorem av8 (hm:X.mg "list"=none) (hz:X.mg "zip"=none) (hc:X.calm=true) (ha:XE X a F) (hb:XE X b G) (hg:Gl X "list":=by rfl) (ac:Gl X "zip":=by rfl) (hs:starEach [a,b] X.env=[(false,eval a X.env),(false,eval b X.env)]:=by rfl) (O:starEach [b] X.env=[(false,eval b X.env)]:=by rfl)
  (Y:starEach [.Call (.Name "zip" p2) [a,b] [] pos2] X.env=[(false,eval (.Call (.Name "zip" p2) [a,b] [] pos2) X.env)]:=by rfl):XE X (.Call (.Name "list" p) [.Call (.Name "zip" p2) [a,b] [] pos2] [] pos) (e2 aE8 F G):=by
 intro pins s σ H Q J ⟨c,H0,ρ,d,ρ',R,f,q⟩;obtain⟨x,ae,y,h1,h2,Z⟩:=s_7 f;unfold aE8 at Z;split at Z
 ·rename_i xs ys;obtain⟨hl,rfl⟩:=ifs Z;refine jv (n_6 J hg hm Zg (yq ?_ Y rfl));rw[Y];refine Z5 (F_8 false ac hz J (xaC ha (xaC hb xaN O) (by rw[hs,O])) (C_0 R h1 h2) (λ s1 H1 z TI TO i1 i2 l r us ws I1 D tz fp q1 q2 qq=>Yb ?_) hs O);obtain⟨Hd,sd,Rd',r1,r2,_,_⟩:=qq;refine aB8 hc (Y_8 D) (by omega) (bh9 Rd'.same q1 q2 r1 r2) (ag2 q1 q2 r1 r2) tz.1 I1 fp ⟨.none,false,tz,.inl rfl⟩ ⟨Hd,Step.refl Rd'.same,by rw[List.take_zero];exact Reps.nil_⟩ λ H' aa pp hp ad hw=>?_;obtain⟨H0',S,rp⟩:=hw;rw[aG5] at rp;have S2:=Step.alloc (o:=.lst aa) S.s' hp;refine q _ _ _ (sd.trans (S.trans S2).s0) (Rd'.after (S.trans S2)) ?_;exact⟨pp,_,rfl,.inl (.inl a_4),Reps.mono S2.s0 _ rp⟩
 ·cases Z
theorem aN9 (hm:X.mg "tuple"=none) (hz:X.mg "zip"=none) (hc:X.calm=true) (ha:XE X a F) (hb:XE X b G) (hg:Gl X "tuple":=by rfl) (ac:Gl X "zip":=by rfl) (hs:starEach [a,b] X.env=[(false,eval a X.env),(false,eval b X.env)]:=by rfl) (O:starEach [b] X.env=[(false,eval b X.env)]:=by rfl)
  (Y:starEach [.Call (.Name "zip" p2) [a,b] [] pos2] X.env=[(false,eval (.Call (.Name "zip" p2) [a,b] [] pos2) X.env)]:=by rfl):XE X (.Call (.Name "tuple" p) [.Call (.Name "zip" p2) [a,b] [] pos2] [] pos) (e2 ae0 F G):=by
 intro pins s σ H Q J ⟨c,H0,ρ,d,ρ',R,f,q⟩;obtain⟨x,ae,y,h1,h2,Z⟩:=s_7 f;unfold ae0 at Z;split at Z
 ·rename_i xs ys;obtain⟨hl,rfl⟩:=ifs Z;refine jv (n_6 J hg hm yz (yq ?_ Y rfl));rw[Y];refine Z5 (F_8 true ac hz J (xaC ha (xaC hb xaN O) (by rw[hs,O])) (C_0 R h1 h2) (λ s1 H1 z TI TO i1 i2 l r us ws I1 D tz fp q1 q2 qq=>Yb ?_) hs O);obtain⟨Hd,sd,Rd',r1,r2,_,_⟩:=qq;refine ah0 hc (Y_8 D) (by omega) (bh9 Rd'.same q1 q2 r1 r2) (ag2 q1 q2 r1 r2) tz.1 I1 fp ⟨.none,false,tz,.inl rfl⟩ ⟨Hd,Step.refl Rd'.same,by rw[List.take_zero];exact Reps.nil_⟩ λ H' aa pp hp ad hw=>?_;obtain⟨H0',S,rp⟩:=hw;rw[aG5] at rp;have S2:=Step.alloc (o:=.tup aa) S.s' hp;refine q _ _ _ (sd.trans (S.trans S2).s0) (Rd'.after (S.trans S2)) ?_;exact⟨pp,_,rfl,.inl (.inl a_4),Reps.mono S2.s0 _ rp⟩
 ·cases Z
end
section
theorem aL8 :∀ l:List α,(∀ k∈l,f k=some (g k))->l.filterMap f=l.map g
 |[],_=>rfl
 |k::r,h=>by rw[Q4,h k Z4,qz,aL8 r λ x O=>h x (je _ O)]
theorem aA0 (q:List Value):slicePick q.toArray none none (some (-1))=q.reverse.toArray:=by
 unfold slicePick;have b:sliceBounds none none (some (-1)) q.toArray.size=((q.length:Int)-1,-1,-1):=by unfold sliceBounds;simp
 rw[b];have r:sliceRange ((q.length:Int)-1) (-1) (-1)=(List.range q.length).map λ k=>q.length-1-k:=by
  unfold sliceRange;have c:(if (-1:Int) > 0 then (if (q.length:Int)-1 < -1 then (-1-((q.length:Int)-1)+-1-1) / -1 else 0) else (if (q.length:Int)-1 > -1 then ((q.length:Int)-1 - -1 - -1-1) / (- -1) else 0)).toNat=q.length:=by
   rw[if_neg (by decide)];by_cases h:(q.length:Int)-1 > -1
   ·rw[if_pos h,show (- -1:Int)=1 by decide,Int.ediv_one];omega
   ·rw[if_neg h];omega
  simp only[c];refine List.map_congr_left λ k O=>?_;have:=List.mem_range.mp O;omega
 rw[r,Jb];congr 1;have e:((List.range q.length).filterMap λ k=>q.toArray[q.length-1-k]?)=(List.range q.length).map λ k=>q.getD (q.length-1-k) Value.none:=by
  refine aL8 _ λ k O=>?_;have:=List.mem_range.mp O;rw[List.getElem?_toArray,zl (by omega)];simp[show q.length-1-k<q.length by omega]
 refine Eq.trans ?_ (e.trans ?_)
 ·rfl
 ·refine List.ext_getElem (by simp) λ i h1 h2=>?_;have hi:i<q.length:=by simpa using h1
  rw[List.getElem_map,List.getElem_range,List.getElem_reverse];simp[show q.length-1-i<q.length by omega]
theorem bn1  (he:PE X e te):PE X (.Subscript e (.Slice none none (some (.UnaryOp .USub (.Constant (.int 1) k Z) p4)) p2) pos) (λ σ H Q=>te σ H λ x H1=>∃ a xs,x=.ref a/\SqL X.K H1 a xs/\∀ p,H1 p=none->Q (.ref p) (upd H1 p (.lst xs.reverse))):=by
 intro pins s σ H Q I h;refine Subscript_ (thn (he pins s σ H _ I h) λ v s1 O=>?_);obtain⟨x,H1,I1,r1,a,xs,ex,sq,q⟩:=O;subst ex;cases r1;refine wpAny_Slice ?_;rw[Y7];refine qc (qc ?_);rw[evalPart_some];refine thn (bn0 aH1 (V_0) pins s1 σ H1 (λ y H'=>y=.int (-1)/\H'=H1) I1 ⟨1,rfl,rfl,rfl⟩) λ st Y O=>?_;obtain⟨y,H2,I2,ry,ey,eH⟩:=O;subst ey eH;obtain⟨t,rfl⟩:=ry;have I4:Inv X pins σ H2 {Y with heap:=Y.heap.push {cls:=.type "slice",data:=.fields #[.none,.none,.int (-1) t]}}:=I2.kept λ b ob q=>qf _ q;obtain⟨ac,rv,ht,hz⟩:=I4.list sq;have aa:=rv.length;refine tail_any ht.isList.typeIs slot_list_getitem.lookup ?_ (by with_unfolding_all rfl);refine wpAny_getItem_list_slice ht.isList (Heap.IsSliceOf.new ..) .none .none (.int (-1) t) (by simp) ?_ (by rw[zc] <;> omega);rw[aA0];refine⟨.ref _,_,I4.laid (λ b ob q=>qf _ q) (qj _) ?_,rfl,q _ (I4.hok.fresh (qj _))⟩;exact⟨by rw[List.length_reverse];exact hz,_,0,Vals.reverse rv,qk _ rfl⟩
theorem U_2 {K:Frag}:∀ {ds:List D}{vs:List V},Reps K H ds vs->Reps K H ds.reverse vs.reverse
 |[],vs,r=>by subst r;exact Reps.nil_
 |d::ds,vs,r=>by
  obtain⟨v,Y,rfl,O,q⟩:=r;rw[Z7,Z7];exact (U_2 q).app (Reps.one O)
theorem bS3  (he:XE X e F):XE X (.Subscript e (.Slice none none (some (.UnaryOp .USub (.Constant (.int 1) k p3) p4)) p2) pos) (e1 bu7 F):=PE.wk (bn1 he) λ σ H Q O=>by
 obtain⟨c,H0,ρ,d,ρ',R,f,q⟩:=O;obtain⟨⟨x,Z⟩,h1,f⟩:=a_0 f;obtain⟨d',h2,f⟩:=a_0 f;have f':=f;cases f';cases x with
 |lst xs =>
  cases h2;refine⟨c,H0,ρ,_,_,R,h1,λ v H1 Hh s1 Y r1=>?_⟩;obtain⟨a,ws,rfl,sq,t⟩:=r1;refine⟨a,ws,rfl,Same.seq Y.same sq,λ p hp=>?_⟩;have S:=Step.alloc (o:=.lst ws.reverse) Y.same hp;refine q _ _ _ (s1.trans S.s0) (Y.after S) ?_;exact⟨p,_,rfl,.inl (.inl a_4),Reps.mono S.s0 _ (U_2 t)⟩
 |_=>cases h2
end
end Fx
namespace L2
open PySem PySem.Spec PyProof.Rows
def bC5 (K:Frag) (js:List Nat) (tt:TT) (te:TE) (σ:St) (Q:List V->Hp->Prop) (J:It) (H1:Hp):Prop :=
 ∃ W:Nat->Nat->List V->Hp->Prop,(∃ m,W 0 m [] H1)/\∀ i m ys H,W i m ys H ->
  (J.stop i H/\ys.length<=sizeLine/\Q ys H) \/
  (J.go i H/\ys.length<sizeLine/\∀ x H',J.yld i H x H'->∃ ta v1 v2,x=.ref ta/\SqT K H' ta [v1,v2]/\tt (some v1::some v2::frv σ js) H' λ b H2 =>
   if b=true then te (some v1::some v2::frv σ js) H2 λ v O=>∃ q,q<m/\W (i+1) q (ys++[v]) O else ∃ q,q<m/\W (i+1) q ys H2)
section
variable {X:Cx}{scope:Scope}{s:Shared}{H:Hp}{C:Addr}{fp:List Addr}{pins:List (Addr×Obj)}{H':Hp}{s':Shared}
theorem L_0  (I:Inv (cxB X N scope s H C fp) pins σ H' s') (hl:q.length=N'.length) (h:∀ (i:Nat) (x:Str) (v:V),N'[i]?=some x->q[i]?=some (some v)->∃ j:Nat,N[j]?=some x/\σ[j]?=some (some v)):Inv (cxB X N' scope s H C fp) pins q H' s' :=
 let k:=I.ok
 ⟨⟨k.mod,k.kind,k.glob,k.blt,k.above,k.inj,k.has,k.cab,k.hd,k.frames,k.stk,k.exf,k.bs,k.bsz,k.noex,k.exfs,k.funs,k.frf⟩,I.os,I.bare,I.base,by
  obtain⟨m,Y,Z⟩:=I.loc;refine⟨m,Y,λ i x v e1 e2 e3=>?_⟩;obtain⟨j,a1,O⟩:=h i x v e1 e2;exact Z j x v a1 O e3,I.cell,I.free,I.freeC,I.pin,I.hok,hl⟩
theorem aX7  (I:Inv (cxB X (x::frees) scope s H C fp) pins (none::q) H' s'):Inv (cxB X (x::x2::frees) scope s H C fp) pins (none::none::q) H' s' :=
 L_0 I (by have:(none::q).length=(x::frees).length:=I.len;simp at this;simp[this]) λ i y v e1 e2=>by
  match i,e1,e2 with
  |0,_,e2=>simp at e2
  |1,_,e2=>simp at e2
  |i+2,e1,e2=>exact⟨i+1,by simpa using e1,by simpa using e2⟩
theorem aX8  (I:Inv (cxB X (x::x2::frees) scope s H C fp) pins (none::none::q) H' s'):Inv (cxB X (x::frees) scope s H C fp) pins (none::q) H' s' :=
 L_0 I (by have:(none::none::q).length=(x::x2::frees).length:=I.len;simp at this;simp[this]) λ i y v e1 e2=>by
  match i,e1,e2 with
  |0,_,e2=>simp at e2
  |i+1,e1,e2=>exact⟨i+2,by simpa using e1,by simpa using e2⟩
end
section
variable {X:Cx}{pins:List (Addr×Obj)}{σ:St}{H:Hp}{s:Shared}{x x2:Str}{scope sc:Scope}{frees:List Str}{js:List Nat}{elt iter:Expr}{ifs:List Expr}{px py pt pos:Pos}{kt:Nat}{tt:TT}{te:TE}{E:Value->Shared->Prop}
theorem aV8 {RR:Value->Addr->Result->Shared->Prop} (I:Inv X pins σ H s) (hc:X.calm=true) (ae:X.env.scope=sc) (B:ScB X.N sc scope x frees js) (q:scope.names.lookup x2=some .local) (Y:(x::x2::frees).Nodup)
  (T:Turn X.prog X.w X.K (.Tuple [.Name x px,.Name x2 py] kt pt) J fp it tn) (st:tn 0 s.heap) (f:∀ b∈fp,FpOk X pins H b) (hW:bC5 X.K js tt te σ Qe J H)
  (ht:∀ s H C fp,PTs (cxB X (x::x2::frees) scope s H C fp) ifs tt) (he:∀ s H C fp,PE (cxB X (x::x2::frees) scope s H C fp) elt te)
  (hR:∀ (D C:Addr) (s':Shared) (H':Hp) (ys:List V) (ac:List Value) (n:Nat),s.heap.objs.size<=D->s.heap.objs.size<=C->D≠C->Inv (cxB X (x::x2::frees) scope s H C fp) pins (none::none::frv σ js) H' s'->H' D=none ->
   Vals ys ac->s'.heap.get? D=some (ac7 ac n)->ys.length<=sizeLine->Qe ys H'->RR (.ref D) C (.ok .next) s') :
  wpAny (model X.prog X.w) X.A (newList []) (λ aa s3=>wpAny (model X.prog X.w) X.A (newFunctionEnv scope X.env.globals (L_9 X.env.cells scope.names []) [] X.env.qual none .none (some X.env)) (λ O s4 =>
   codeAny (model X.prog X.w) X.A (.compStart (.ListComp elt [⟨.Tuple [.Name x px,.Name x2 py] kt pt,iter,ifs,0⟩] scope pos) 0 (.ref it) aa {O with scope:=relabel scope X.env}) (RR aa O.locals) s4) E s3) E s:=by
 refine am7 (tg:=bX2 X.K 2 (aY4 (ao5 0) (aY4 (ao5 1) bX3))) I hc ae B T st f aX7 (λ C=>aJ0 hc (D_5 (D_6 Y rfl (.inl (Qa B.own)) (.inr (Qa B.own))) (D_5 (D_6 Y rfl (.inl (Qa q)) (.inr (Qa q))) aj8)) rfl rfl) ?_ ht he hR;obtain⟨W,w0,Z⟩:=hW;refine⟨W,w0,λ i m ys H w=>?_⟩;rcases Z i m ys H w with h | ⟨go,lz,step⟩
 ·exact .inl h
 ·refine .inr ⟨go,lz,λ y H' yl=>?_⟩;obtain⟨ta,v1,v2,ey,sq,ad⟩:=step y H' yl;exact⟨ta,[v1,v2],ey,sq,rfl,v1,[v2],rfl,v2,[],rfl,rfl,⟨rfl,λ j v e=>by
   match j,e with
   |0,e=>simp at e
   |1,e=>simp at e
   |j+2,e=>simpa using e⟩,ad⟩
def ce7 (K:Frag) (q:TI) (js:List Nat) (tt:TT) (te:TE):TE:=λ σ H Q=>q σ H (bC5 K js tt te σ λ ys H'=>∀ D,H' D=none->Q (.ref D) (upd H' D (.lst ys)))
theorem aJ6  (hc:X.calm=true) (Y:X.env.scope=sc) (B:ScB X.N sc scope x frees js) (O:scope.names.lookup x2=some .local) (Z:(x::x2::frees).Nodup) (hi:PI X (.Tuple [.Name x px,.Name x2 py] kt pt) iter wi) (ht:∀ s H C fp,PTs (cxB X (x::x2::frees) scope s H C fp) ifs tt) (he:∀ s H C fp,PE (cxB X (x::x2::frees) scope s H C fp) elt te)
  (hs:∀ v,foldedSetIterable iter X.env v=pure v:=by intro _;rfl):PE X (.ListComp elt [⟨.Tuple [.Name x px,.Name x2 py] kt pt,iter,ifs,0⟩] scope pos) (ce7 X.K wi js tt te):=by
 intro pins s σ H Q I h;rw[eval_ListComp];refine Yd rfl hs (s_3 (K_6 I Y B)) B.kind B.locs (thn (hi pins s σ H _ I h) λ v s1 h1=>thn h1 λ ag s2 h2=>?_);obtain⟨it,fp,tn,J,H2,e,I2,T,ae,f2,hW⟩:=h2;subst e;refine aV8 I2 hc Y B O Z T ae f2 hW ht he ?_;intro D C s' H' ys af n hD hC aa J' nD rv gD hz q;obtain⟨m,hn,_⟩:=J'.loc;refine⟨m,hn,λ h' ac=>?_⟩;have A1:=E_8 I2 f2 hD (aX8 J') nD rv gD hz;have nC:(upd H' D (.lst ys)) C=none:=by rw[a_8 (yk aa)];exact J'.free
 exact⟨.ref D,_,aW2 I2 A1 hC nC ac,rfl,q D nD⟩
end
end L2
namespace Fx
open PySem PySem.Spec PyProof.Rows L2
theorem RS.block2 {K:Frag} (R:RS K c H0 H ρ σ) (hf:q_2 ρ js=some fr) (rx:Rep K H0 d x) (ry:Rep K H0 e y):RS K ⟨H0,H,[]⟩ H0 H (.im d::.im e::fr) (some x::some y::frv σ js):=by
 have B:=R.block hf ry;have O:∀ (i:Nat) (b:Bool) (o:MO),(Sl.im e::fr)[i]?≠some (.ow b o):=λ i b o z=>by
  obtain⟨a,_,y1,Y,w1⟩:=B.ow i b o z;cases b with
  |true=>exact absurd Y (by simp)
  |false =>
   have z2:H a=none:=Y;obtain⟨u,Z⟩:=w1.some;rw[z2] at Z;cases Z
 refine⟨B.same,B.init,B.fresh,B.keep,B.apt,by have:=B.len;simp at this;simp[this],λ i d' q=>?_,λ i b o q=>?_,λ i j b b' o o' a q=>?_⟩
 ·match i,q with
  |0,q=>cases q;exact⟨x,rfl,rx⟩
  |i+1,q=>exact B.im i d' (by simpa using q)
 ·match i,q with
  |0,q=>cases q
  |i+1,q=>exact absurd (by simpa using q) (O i b o)
 ·match i,q with
  |0,q=>cases q
  |i+1,q=>exact absurd (by simpa using q) (O i b o)
theorem ag6  (h:two d=some q):d=.tup [q.1,q.2]:=by
 unfold two at h;split at h
 ·cases h;rfl
 ·cases h
theorem aV9 {K:Frag} (R:RS K c H1 Hh ρ σ) (hf:q_2 ρ js=some fr) (hc:cGo2 T F fr xs=some out) (hz:xs.length<=sizeLine) (hy:t_3 K J H1 xs)
  (q:∀ ys H0 H,Same H1 H0->RS K c H0 H ρ σ->Reps K H0 out ys->Qf ys H):bC5 K js (tTt K T) (tE K F) σ Qf J Hh:=by
 refine⟨λ i m ys H=>m=xs.length-i/\i<=xs.length/\∃ H0,Same H1 H0/\RS K c H0 H ρ σ/\∃ Y rest,Reps K H0 Y ys/\Y.length<=i/\cGo2 T F fr (xs.drop i)=some rest/\Y++rest=out,⟨xs.length,by simp,yi _,H1,Same.refl _,R,[],out,Reps.nil_,yi _,by simpa using hc,rfl⟩,?_⟩;rintro i m ys H ⟨rfl,hi,H0,s0,R0,Y,rest,rp,lp,O,e⟩;obtain⟨y1,y2⟩:=hy H0 H i s0 R0.same;by_cases aa:i<xs.length
 ·have hd:xs[i]?=some xs[i]:=by simp[aa]
  obtain⟨go,yl⟩:=y1 _ hd;refine .inr ⟨go,by rw[<- rp.length];omega,λ x H' hx=>?_⟩;obtain⟨rfl,rx⟩:=yl x H' hx;rw[s_0 hd,k_6] at O;obtain⟨⟨d1,d2⟩,g0,O⟩:=a_0 O;rw[ag6 g0] at rx;obtain⟨ta,ws,rfl,sq,Z⟩:=rx;obtain⟨v1,w1,rfl,q1,Z⟩:=Z;obtain⟨v2,w2,rfl,q2,Z⟩:=Z;subst Z;refine⟨ta,v1,v2,rfl,Same.seqT R0.same sq,?_⟩;obtain⟨⟨b,ac⟩,g1,O⟩:=a_0 O;refine⟨⟨H0,H',[]⟩,H0,_,b,ac,R0.block2 hf q1 q2,g1,λ H2 Hh2 s2 R2=>?_⟩;cases b with
  |false =>
   rw[if_neg zu] at O ⊢;have S:=R2.step;exact⟨xs.length-(i+1),by omega,rfl,aa,H2,s0.trans S.s0,R0.after S,Y,rest,Reps.mono S.s0 _ rp,by omega,O,e⟩
  |true =>
   rw[if_pos rfl] at O ⊢;obtain⟨⟨z,ad⟩,g2,O⟩:=a_0 O;obtain⟨t,g3,O⟩:=a_0 O;have ae:=O;cases ae;refine⟨⟨H0,H',[]⟩,H2,ac,z,ad,R2,g2,λ v H3 Hh3 s3 R3 r3=>?_⟩;have S:=R3.step;refine⟨xs.length-(i+1),by omega,rfl,aa,H3,s0.trans S.s0,R0.after S,Y++[z],t,(Reps.mono S.s0 _ rp).app (Reps.one r3),?_,g3,?_⟩
   ·rw[zh,Zl];omega
   ·rw[jx];exact e
 ·have hn:xs.drop i=[]:=j3 (by omega);rw[hn,Z_2] at O;cases O;rw[yn] at e;subst e;exact .inl ⟨y2 (by omega),by rw[<- rp.length];omega,q ys H0 H s0 R0 rp⟩
structure ScB2 (N:List Str) (sc scope:Scope) (x x2:Str) (frees:List Str) (js:List Nat):Prop where
 B:ScB N sc scope x frees js
 own2:scope.names.lookup x2=some .local
 nd2:(x::x2::frees).Nodup
section
variable {ifs:List Expr}
theorem bS4 (hc:X.calm=true) (Y:X.env.scope=sc) (B:ScB2 X.N sc scope x x2 frees js) (hi:XE X iter I) (ht:∀ s H C fp,XTs (cxB X (x::x2::frees) scope s H C fp) ifs T) (he:∀ s H C fp,XE (cxB X (x::x2::frees) scope s H C fp) elt F)
  (hs:∀ v,foldedSetIterable iter X.env v=pure v:=by intro _;rfl):XE X (.ListComp elt [⟨.Tuple [.Name x px,.Name x2 py] kt pt,iter,ifs,0⟩] scope pos) (eLC2 js I T F) :=
 PE.wk (aJ6 (tt:=tTt X.K T) (te:=tE X.K F) hc Y B.B B.own2 B.nd2 (aA2 hi) ht he hs) λ σ H Q O=>by
  obtain⟨c,H0,ρ,d,ρ',R,f,q⟩:=O;obtain⟨⟨z,aa⟩,h1,f⟩:=a_0 f;obtain⟨xs,h2,f⟩:=a_0 f;obtain⟨fr,h3,f⟩:=a_0 f;obtain⟨ys,Z,f⟩:=a_0 f;obtain⟨hz,f⟩:=Fx.ifs f;cases f;refine j_5 R h1 h2 λ J H1 Hh s1 R1 hy=>?_;refine aV9 R1 h3 Z hz hy λ vs H2 Hh2 s2 R2 r2=>λ p hp=>?_;have S:=Step.alloc (o:=.lst vs) R2.same hp;refine q _ _ _ (s1.trans (s2.trans S.s0)) (R2.after S) ?_;exact⟨p,vs,rfl,.inl (.inl a_4),Reps.mono S.s0 _ r2⟩
end
theorem aW0 {K:Frag} (R:RS K c H1 Hh ρ σ) (hf:q_2 ρ js=some fr) (hc:cGo2 T F fr xs=some out) (hz:xs.length<=sizeLine) (hy:y_6 K J H1 xs)
  (q:∀ ys H0 H,Same H1 H0->RS K c H0 H ρ σ->Reps K H0 out ys->Qf ys H):bC5 K js (tTt K T) (tE K F) σ Qf J Hh:=by
 refine⟨λ i m ys H=>m=xs.length-i/\i<=xs.length/\∃ H0,Same H1 H0/\RS K c H0 H ρ σ/\∃ Y rest,Reps K H0 Y ys/\Y.length<=i/\cGo2 T F fr (xs.drop i)=some rest/\Y++rest=out,⟨xs.length,by simp,yi _,H1,Same.refl _,R,[],out,Reps.nil_,yi _,by simpa using hc,rfl⟩,?_⟩;rintro i m ys H ⟨rfl,hi,H0,s0,R0,Y,rest,rp,lp,O,e⟩;obtain⟨y1,y2⟩:=hy H0 H i s0 R0.same;by_cases aa:i<xs.length
 ·have hd:xs[i]?=some xs[i]:=by simp[aa]
  obtain⟨go,yl⟩:=y1 _ hd;refine .inr ⟨go,by rw[<- rp.length];omega,λ x H' hx=>?_⟩;obtain⟨H0',S0,rx⟩:=yl x H' hx;have R1:=R0.after S0;rw[s_0 hd,k_6] at O;obtain⟨⟨d1,d2⟩,g0,O⟩:=a_0 O;rw[ag6 g0] at rx;obtain⟨ta,ws,rfl,sq,Z⟩:=rx;obtain⟨v1,w1,rfl,q1,Z⟩:=Z;obtain⟨v2,w2,rfl,q2,Z⟩:=Z;subst Z;refine⟨ta,v1,v2,rfl,Same.seqT R1.same sq,?_⟩;obtain⟨⟨b,ac⟩,g1,O⟩:=a_0 O;refine⟨⟨H0',H',[]⟩,H0',_,b,ac,R1.block2 hf q1 q2,g1,λ H2 Hh2 s2 R2=>?_⟩;cases b with
  |false =>
   rw[if_neg zu] at O ⊢;have S:=R2.step;exact⟨xs.length-(i+1),by omega,rfl,aa,H2,s0.trans (S0.s0.trans S.s0),R1.after S,Y,rest,Reps.mono (S0.s0.trans S.s0) _ rp,by omega,O,e⟩
  |true =>
   rw[if_pos rfl] at O ⊢;obtain⟨⟨z,ad⟩,g2,O⟩:=a_0 O;obtain⟨t,g3,O⟩:=a_0 O;have ae:=O;cases ae;refine⟨⟨H0',H',[]⟩,H2,ac,z,ad,R2,g2,λ v H3 Hh3 s3 R3 r3=>?_⟩;have S:=R3.step;refine⟨xs.length-(i+1),by omega,rfl,aa,H3,s0.trans (S0.s0.trans S.s0),R1.after S,Y++[z],t,(Reps.mono (S0.s0.trans S.s0) _ rp).app (Reps.one r3),?_,g3,?_⟩
   ·rw[zh,Zl];omega
   ·rw[jx];exact e
 ·have hn:xs.drop i=[]:=j3 (by omega);rw[hn,Z_2] at O;cases O;rw[yn] at e;subst e;exact .inl ⟨y2 (by omega),by rw[<- rp.length];omega,q ys H0 H s0 R0 rp⟩
theorem am4  (h:lsX d=some xs):d=.lst xs:=by
 unfold lsX at h;split at h
 ·cases h;rfl
 ·cases h
theorem aZ1 {z TI TO i1 i2 c:Addr} (m:c∈[z,TO,i1,i2]):c∈[z,TI,TO,i1,i2]:=by
 simp only[ym,yd,j9] at m ⊢;rcases m with e | e | e | e
 ·exact .inl e
 ·exact .inr (.inr (.inl e))
 ·exact .inr (.inr (.inr (.inl e)))
 ·exact .inr (.inr (.inr (.inr e)))
theorem aw7 {K:Frag}{z TI TO i1 i2 a b:Addr} (D:Zp z TI TO i1 i2 a b):Turn P w K (.Tuple aa x1 pt) (Itz T K a b) [z,TI,TO,i1,i2] z (λ i h=>tZ T z TI TO i1 i2 a b i .none false h) where
 mem:=qg
 obj:=λ i h st c hc=>let ⟨o,e,d,_⟩:=st.obj c hc;⟨o,e,d⟩
 keep:=λ i h h' st k=>st.keep k
 item:=λ X hP hw hK hc i pins s σ H E I hf st Y=>by
  obtain⟨xs,ys,q1,q2,l1,l2⟩:=Y;subst hP hw hK;obtain⟨us,r1,p1,_⟩:=q1.inv I;obtain⟨vs,r2,p2,_⟩:=q2.inv I;have e1:=zl l1;have e2:=zl l2;obtain⟨x,hx,rx⟩:=r1.get e1;obtain⟨y,hy,ry⟩:=r2.get e2;have hp:=I.hok.fresh (qj _);refine K_2 (au0 T i1 a D.n1 us.toArray) (au0 T i2 b D.n2 vs.toArray) D.ap (st.zs p1 p2) (by simpa using hx) (by simpa using hy) λ h1 Z pr _ k=>⟨_,rfl,?_⟩
  obtain⟨I1,fp⟩:=aH8 I hf st rx ry pr k;have t1:=Z.tz;refine wpAny_letOwnedTupleGo_zip t1.1 λ h2 z2 sb=>?_;have m1:=D.ap.f1 i1 qg;have m2:=D.ap.f2 i2 qg;obtain⟨_,t2,⟨u,v,t3⟩,t4,t5⟩:=t1;have I2:=Inv.turnedL (s:={s with heap:=h1}) (t':=s.toks) (fs:=[z]) I1 (λ c o O e=>(sb.2 c (λ q=>O (by simp[q]))).trans e) λ c O=>by rw[List.mem_singleton.mp O];exact fp z qg
  exact⟨.ref s.heap.objs.size,_,I2,rfl,⟨xs[i],ys[i],_,λ zs hz=>by rw[SqB.inj I hz q1];exact e1,λ zs hz=>by rw[SqB.inj I hz q2];exact e2,rfl,hp,rfl⟩,
   ⟨z2,(sb.2 TI D.ap.TIz).trans t2,⟨u,v,(sb.2 TO D.ap.TOz).trans t3⟩,t4.at λ o e=>(sb.2 i1 m1.1).trans e,t5.at λ o e=>(sb.2 i2 m2.1).trans e⟩,λ c O=>(fp c O).1⟩
 done:=λ X hP hw hK hc i pins s σ H E I hf st Y=>by
  obtain⟨xs,ys,q1,q2,l⟩:=Y;subst hP hw hK;obtain⟨us,r1,p1,_⟩:=q1.inv I;obtain⟨vs,r2,p2,_⟩:=q2.inv I;have n1:=r1.length;have n2:=r2.length;refine K_1 (I.ok.hd hc) (au0 T i1 a D.n1 us.toArray) (au0 T i2 b D.n2 vs.toArray) D.ap (st.zs p1 p2) (.inl rfl) ?_ λ h1 k=>⟨rfl,Inv.turnedL I k λ c O=>hf c (aZ1 O)⟩
  rcases l with l | l
  ·exact .inl (by simp;omega)
  ·exact .inr (by simp;omega)
 self:=λ A i s Q E st h=>wpAny_pyIter_zip st.1 h
def ck9 (T:Bool) (K:Frag) (t:TA):TI:=λ σ H R=>t σ H λ vs H1=>∃ l r xs ys,vs=[.ref l,.ref r]/\SqB T K H1 l xs/\SqB T K H1 r ys/\R (Itz T K l r) H1
theorem bm6  (Y:Gl X "zip") (hm:X.mg "zip"=none) (ha:PA X [a,b] ta) (hs:starEach [a,b] X.env=[(false,eval a X.env),(false,eval b X.env)]:=by rfl) (O:starEach [b] X.env=[(false,eval b X.env)]:=by rfl) :
  PI X (.Tuple q x1 pt) (.Call (.Name "zip" p) [a,b] [] pos) (ck9 T X.K ta):=λ pins s σ H R I h =>
 F_8 T Y hm I ha h (λ s1 H1 z TI TO i1 i2 l r xs ys Z D tz fp q1 q2 qq=>wpAny_pyIter_zip tz.1 ⟨z,_,_,_,H1,rfl,Z,aw7 D,tz,fp,qq⟩) hs O
theorem Z_9 {K:Frag} (q1:SqB T K H1 l us) (q2:SqB T K H1 r vs) (Y:Reps K H1 xs us) (r2:Reps K H1 ys vs):y_6 K (Itz T K l r) H1 (zpT xs ys):=λ H0 H i s s'=>by
 have g1:=q1.same (s.trans s');have g2:=q2.same (s.trans s');have n1:=Y.length;have n2:=r2.length;refine⟨λ d e=>?_,λ h=>⟨us,vs,g1,g2,by rw[B_9] at h;omega⟩⟩;have hi:=(List.getElem?_eq_some_iff.mp e).1;rw[B_9] at hi;have d1:xs[i]?=some xs[i]:=zl (by omega);have Z:ys[i]?=some ys[i]:=zl (by omega);rw[af8 d1 Z] at e;cases e;obtain⟨v',e3,rv⟩:=Y.get d1;obtain⟨w',e4,O⟩:=r2.get Z;refine⟨⟨us,vs,g1,g2,by omega,by omega⟩,λ x H' q=>?_⟩;obtain⟨v,w,p,e1,e2,ex,hp,eH⟩:=q;subst ex eH;have e1:=e1 us g1;have e2:=e2 vs g2;rw[e3] at e1;cases e1;rw[e4] at e2;cases e2;have S:=Step.alloc (o:=.tup [v',w']) s' hp;refine⟨_,S,?_⟩;exact⟨p,_,rfl,.inl (.inl a_4),Reps.cons (Rep.mono (s.trans S.s0) _ rv) (Reps.one (Rep.mono (s.trans S.s0) _ O))⟩
section
variable {ifs:List Expr}
theorem cd1 (hm:X.mg "zip"=none) (hc:X.calm=true) (ad:X.env.scope=sc) (Bk:ScB2 X.N sc scope x x2 frees js) (ha:XE X a A) (hb:XE X b B) (ht:∀ s H C fp,XTs (cxB X (x::x2::frees) scope s H C fp) ifs T) (he:∀ s H C fp,XE (cxB X (x::x2::frees) scope s H C fp) elt F)
  (hg:Gl X "zip":=by rfl) (Z:starEach [a,b] X.env=[(false,eval a X.env),(false,eval b X.env)]:=by rfl) (O:starEach [b] X.env=[(false,eval b X.env)]:=by rfl)
  (hs:∀ v,foldedSetIterable (.Call (.Name "zip" p) [a,b] [] p2) X.env v=pure v:=by intro _;rfl):XE X (.ListComp elt [⟨.Tuple [.Name x px,.Name x2 py] kt pt,.Call (.Name "zip" p) [a,b] [] p2,ifs,0⟩] scope pos) (eLZ js A B T F) :=
 PE.wk (aJ6 (tt:=tTt X.K T) (te:=tE X.K F) hc ad Bk.B Bk.own2 Bk.nd2 (bm6 hg hm (xaC ha (xaC hb xaN O) (by rw[Z,O])) Z O) ht he hs) λ σ H Q Y=>by
  obtain⟨c,H0,ρ,d,ρ',R,f,q⟩:=Y;obtain⟨⟨d1,ae⟩,h1,f⟩:=a_0 f;obtain⟨xs,g1,f⟩:=a_0 f;obtain⟨⟨d2,af⟩,h2,f⟩:=a_0 f;obtain⟨ys,g2,f⟩:=a_0 f;obtain⟨fr,h3,f⟩:=a_0 f;obtain⟨out,h4,f⟩:=a_0 f;obtain⟨hz,f⟩:=Fx.ifs f;cases f;have l1:=am4 g1;have l2:=am4 g2;subst l1 l2;obtain⟨c',H0',aa,ds,ac,R',fa,qa⟩:=C_0 (T:=false) R h1 h2;refine⟨c',H0',aa,ds,ac,R',fa,λ vs H1 Hh s1 R1 r1=>?_⟩;obtain⟨l,r,us,ws,ev,q1,q2,Hd,sd,Rz,t1,t2,e1,e2⟩:=qa vs H1 Hh s1 R1 r1;refine⟨l,r,us,ws,ev,q1,q2,aW0 Rz h3 h4 (by rw[B_9];omega) (Z_9 e1 e2 t1 t2) λ vs H2 Hh2 s2 R2 r2=>λ pp hp=>?_⟩;have S:=Step.alloc (o:=.lst vs) R2.same hp;refine q _ _ _ (sd.trans (s2.trans S.s0)) (R2.after S) ?_;exact⟨pp,vs,rfl,.inl (.inl a_4),Reps.mono S.s0 _ r2⟩
end
inductive KEnt (w:World) (K:Frag):List DictEntry->List (Str×D)->Prop
 |nil:KEnt w K [] []
 |cons {k:Str}{d:D}{t:Tok}{v:Value}{es:List DictEntry}{kds:List (Str×D)}:KV1 K d v->KEnt w K es kds->KEnt w K (⟨hashStr w k,.str k t,v⟩::es) ((k,d)::kds)
def bC6 (w:World) (K:Frag) (a:Addr) (kds:List (Str×D)):Prop:=∃ es n,K.lookup a=some {cls:=.type "dict",data:=.dict es n} ∧ (a==sysModules)=false ∧ KEnt w K es.toList kds ∧ (kds.map (·.1)).Nodup
theorem KEnt.all {w:World}{K:Frag}:∀ {es:List DictEntry}{kds:List (Str×D)},KEnt w K es kds->∃ vs:List (Key×Value),vs.map (·.1)=kds.map (λ q=>Sum.inr q.1) /\
  (∀ (P:Program),PySem.Pairs (e_5 P w) es vs)/\(∀ (P:Program),∀ e∈es,∃ k,(e_5 P w).is k e.key=true/\e.hash=(e_5 P w).hash k) /\
  ∀ k d,j_8 k kds=some d->∃ u,valueAt vs (.inr k)=some u/\KV1 K d u
 |_,_,.nil=>⟨[],rfl,λ _=>.nil,λ _ e h=>(by cases h),λ k d h=>(by cases h)⟩
 |_,_,.cons (k:=k) (d:=d) (t:=t) (v:=v) (es:=es) (kds:=kds) h r=>by
  obtain⟨vs,e1,e2,e3,e4⟩:=r.all;refine⟨(.inr k,v)::vs,by rw[qz,qz,e1],λ P=>.cons (o_4 P w k t) rfl (e2 P),λ P e Y=>?_,λ Z d' O=>?_⟩
  ·rcases qw Y with rfl | Y
   ·exact⟨.inr k,o_4 P w k t,rfl⟩
   ·exact e3 P e Y
  ·unfold j_8 at O;unfold valueAt;rw[List.find?_cons];by_cases z:k=Z
   ·subst z;rw[if_pos rfl] at O;cases O;exact⟨v,by simp,h⟩
   ·rw[if_neg z] at O;obtain⟨u,e5,e6⟩:=e4 Z d' O;refine⟨u,?_,e6⟩;rw[zy (λ y=>z (Qu y))];exact e5
section
theorem xkd  (h:∃ a,X.mg x=some (.ref a) ∧ bC6 X.w X.K a kds) (hk:XE X k G) (hg:Gl X x:=by rfl) (hd:(x==("__debug__":Str))=false:=by decide) (hs:bC4 k:=by exact λ _ _=>rfl) :
  XE X (.Subscript (.Name x p) k pos) (e1 (dKx kds) G):=by
 obtain⟨a,hm,es,n,hl,lo,ke,nd⟩:=h;obtain⟨vs,ad,ae,ac,aa⟩:=ke.all;intro pins s σ H Q I ⟨c,H0,ρ,d,ρ',R,f,q⟩;obtain⟨⟨y,af⟩,h1,f⟩:=a_0 f;obtain⟨d',h2,f⟩:=a_0 f;have f':some (d',af)=some (d,ρ'):=f;cases f';refine ah2 PySem.F.slot_dict_getitem.lookup hs (m_0 I hg hm (thn (hk pins s σ H (λ v Y=>∃ H1,Same H0 H1/\RS X.K c H1 Y ρ' σ/\Rep X.K H1 y v) I ⟨c,H0,ρ,y,_,R,h1,λ v H1 Y s1 R1 Z=>⟨H1,s1,R1,Z⟩⟩) λ iv s2 O=>?_) hd);obtain⟨v,Y,I2,rv,H1,s1,R1,Z⟩:=O;cases y with
 |str kk =>
  subst Z;obtain⟨u,e5,w,rw,rp⟩:=aa kk d h2;have dd:s2.heap.DictOf (e_5 X.prog X.w) a vs:=⟨_,es,n,I2.kIn a _ hl,⟨rfl,rfl,rfl⟩,rfl,λ e he=>ac X.prog e (by simpa using he),ae X.prog,by
   rw[ad];exact List.pairwise_map.mpr ((List.pairwise_map.mp nd).imp λ ag z=>ag (Qu z))⟩
  exact⟨dd.typeIs,wpAny_getItem_of (ac9 (k:=.inr kk) rv) dd.mapOf e5 ⟨w,Y,I2.tok _,rw,q w H1 Y s1 R1 (rp H1)⟩⟩
 |_=>cases h2
end
theorem getK_in :∀ {kds:List (Str×D)},(j_8 k kds).isSome=true↔k∈kds.map (·.1)
 |[]=>by simp[j_8]
 |q::r=>by
  unfold j_8;by_cases h:q.1=k
  ·simp[h]
  ·rw[if_neg h,getK_in,qz,ym];exact⟨.inr,λ z=>z.resolve_left (λ y=>h y.symm)⟩
theorem aa4 :(valueAt vs (.inr k)).isSome=true↔(Sum.inr k:Key)∈vs.map (·.1):=by
 unfold valueAt;rw[Je,List.find?_isSome];constructor
 ·rintro ⟨x,q,e⟩;exact List.mem_map.mpr ⟨x,q,by simpa using e⟩
 ·intro h;obtain⟨x,q,e⟩:=List.mem_map.mp h;exact⟨x,q,by simpa using e⟩
section
theorem aT1  (h:∃ a,X.mg x=some (.ref a) ∧ bC6 X.w X.K a kds) (hk:XE X k G) (hg:Gl X x) (hd:(x==("__debug__":Str))=false):PC X .NotIn k (.Name x p) (tE X.K (e1 (z_5 kds) G)):=by
 obtain⟨a,hx,es,n,hl,lo,ke,nd⟩:=h;obtain⟨vs,O,ac,aa,af⟩:=ke.all;intro pins s σ H Q I ⟨c,H0,ρ,d,ρ',R,f,q⟩;obtain⟨⟨y,ad⟩,h1,f⟩:=a_0 f;obtain⟨d',h2,f⟩:=a_0 f;have f':some (d',ad)=some (d,ρ'):=f;cases f';refine thn (hk pins s σ H (λ v Z=>∃ H1,Same H0 H1/\RS X.K c H1 Z ρ' σ/\Rep X.K H1 y v) I ⟨c,H0,ρ,y,_,R,h1,λ v H1 Z s1 R1 r1=>⟨H1,s1,R1,r1⟩⟩) λ iv s2 Y=>?_;obtain⟨v,Z,I2,rv,H1,s1,R1,r1⟩:=Y;refine m_0 I2 hg hx ?_ hd;cases y with
 |str kk =>
  subst r1;have dd:s2.heap.DictOf (e_5 X.prog X.w) a vs:=⟨_,es,n,I2.kIn a _ hl,⟨rfl,rfl,rfl⟩,rfl,λ e he=>aa X.prog e (by simpa using he),ac X.prog,by
   rw[O];exact List.pairwise_map.mpr ((List.pairwise_map.mp nd).imp λ ae z=>ae (Qu z))⟩
  have same:(valueAt vs (.inr kk)).isSome=(j_8 kk kds).isSome:=by
   rw[j8,aa4,getK_in,O];constructor
   ·intro z;obtain⟨q,hq,e⟩:=List.mem_map.mp z;exact List.mem_map.mpr ⟨q,hq,Qu e⟩
   ·intro z;obtain⟨q,hq,e⟩:=List.mem_map.mp z;exact List.mem_map.mpr ⟨q,hq,by rw[e]⟩
  cases h2;refine wpAny_notIn_of (ac9 (k:=.inr kk) rv) lo dd.mapOf ?_;rw[same];exact⟨.bl _,Z,I2.tok _,rfl,q _ H1 Z s1 R1 (by rfl)⟩
 |_=>cases h2
theorem bh2  (h:∃ a,X.mg x=some (.ref a) ∧ bC6 X.w X.K a kds) (q:XE X k G) (O:Gl X x:=by rfl) (hd:(x==("__debug__":Str))=false:=by decide) (Y:behindInMarks .NotIn (.Name x p)=false:=by first | exact al2 _ | with_unfolding_all rfl) :
  XT X (.Compare k [.NotIn] [.Name x p] pos) (Fx.tB (e1 (z_5 kds) G)):=PT.wk (bm3 (aT1 h q O hd) Y) λ σ H Q h=>aP3 (λ Q h=>h) h
theorem W_7 {kvs:List (Key×V)} (h:KV kvs vs):Vals (kvs.map (·.2)) (vs.map (·.2)):=by
 induction h with
 |nil=>exact .nil
 |cons r _ q=>exact .cons r.2 q
theorem aw3 {vs:List (Key×Value)} (h:ItemsOf (λ i v=>∃ k,vs[i]?=some (k,v)) q vs.length):q=(vs.map (·.2)).toArray:=by
 refine Array.ext (by rw[h.1];simp) λ i h1 h2=>?_;obtain⟨k,e⟩:=h.2 i q[i] (Array.getElem?_eq_getElem h1);have:=(List.getElem?_eq_some_iff.mp e).2;simp[this]
theorem aS9  (hc:X.calm=true) (hm:X.mg "list"=none) (ho:PE X o to) (hg:Gl X "list") (O:attributeBase o "values" X.env (eval o X.env)=eval o X.env) (Y:(ap.endLine==cp.line)=true)
  (hs:starEach [.Call (.Attribute o "values" ap) [] [] cp] X.env=[(false,eval (.Call (.Attribute o "values" ap) [] [] cp) X.env)]) :
  PE X (.Call (.Name "list" p) [.Call (.Attribute o "values" ap) [] [] cp] [] pos) (λ σ H Q=>to σ H λ x H1=>∃ a kvs,x=.ref a ∧ H1 a=some (.dK kvs) ∧ ∀ l,H1 l=none → Q (.ref l) (upd H1 l (.lst (kvs.map (·.2))))):=by
 intro pins s σ H Q I h;refine jv (n_6 I hg hm Zg (yq ?_ hs rfl));rw[hs];refine Z5 (wpAny_Call_method0_late O Y (thn (ho pins s σ H _ I h) λ v s1 af=>?_));obtain⟨x,H1,I1,r1,a,kvs,ex,ea,q⟩:=af;subst ex;cases r1;obtain⟨z,hd,vs,ac,dd⟩:=bu3 I1.hok ea;have ty:=dd.typeIs;obtain⟨ob,es,ep,Z,aa,ag,ah,ad,ae⟩:=dd;refine⟨"dict","dict.values",PySem.F.plainAttrs_dict,PySem.F.slot_dict_values,PySem.F.type_dict_values,ty,λ b q=>by cases q;exact⟨ob,Z,aa.2.1⟩,Yp rfl (PySem.evalArgs_none ?_)⟩;refine call_meetsIn PySem.F.slot_dict_values ty PySem.F.entry_dict_values (PySem.F.args_dict_values_1 _) (meets_dict_values (e_5 X.prog X.w) a hd) ⟨⟨vs,ob,es,ep,Z,aa,ag,ah,ad,ae⟩,Yb ?_⟩;have I2:Inv X pins σ H1 {s1 with heap:=s1.heap.push {cls:=.type "dict_values",data:=.fields #[.ref a]}}:=I1.kept λ b o e=>qf _ e;have ai:vs.length=kvs.length:=by have:=(W_7 ac).length;simpa using this.symm
 refine PySem.W.kdl_call (PySem.W.kdl_values) (I.ok.hd hc) ⟨⟨_,qk _ rfl,rfl,rfl⟩,ob,es,qf _ Z,aa,ag,ah,ad,ae⟩ (by rw[ai];exact z) λ h' tk aj c k new it=>?_;rw[aw3 it] at new;refine⟨.ref _,_,I2.laid (o:=.lst (kvs.map (·.2))) k (qj _) ⟨by rw[qy];exact z,vs.map (·.2),c,W_7 ac,new⟩,rfl,q _ (I2.hok.fresh (qj _))⟩
theorem aG8 (i:Nat)  (hc:X.calm=true) (hm:X.mg "list"=none) (hN:X.N[i]?=some x:=by rfl) (hv:Vis X.env.scope x:=by first | exact Or.inl rfl | exact Or.inr (Or.inl rfl) | exact Or.inr (Or.inr rfl)) (hd:(x==("__debug__":Str))=false:=by decide)
  (ad:(x==("__classdict__":Str))=false:=by decide) (hg:Gl X "list":=by rfl) (O:attributeBase (.Name x Z) "values" X.env (eval (.Name x Z) X.env)=eval (.Name x Z) X.env:=by rfl) (Y:(ap.endLine==cp.line)=true:=by rfl)
  (hs:starEach [.Call (.Attribute (.Name x Z) "values" ap) [] [] cp] X.env=[(false,eval (.Call (.Attribute (.Name x Z) "values" ap) [] [] cp) X.env)]:=by rfl) :
  XO' X (.Call (.Name "list" p) [.Call (.Attribute (.Name x Z) "values" ap) [] [] cp] [] pos) (ab9 i) :=
 PE.wk (aS9 hc hm (n_4 hN hv hd ad) hg O Y hs) λ σ H Q aa=>by
  obtain⟨c,H0,ρ,ds,ρ',R,f,q⟩:=aa;obtain⟨⟨b,kds⟩,h1,f⟩:=a_0 f;obtain⟨hl,f'⟩:=ifs f;cases f';obtain⟨a,e1,_,_,ks,vs,e4,ek,t⟩:=R.ow i b _ (V_1 h1);refine⟨_,e1,a,_,rfl,e4,λ l ac=>?_⟩;have ae:=t.length;have lk:ks.length=vs.length:=by rw[ek,qy,<- ae,qy]
  have e5:((ks.map (Sum.inr:Str->Key)).zip vs).map (·.2)=vs:=Jg (by rw[qy];omega);rw[e5];exact q l vs H0 H (Same.refl _) R ac t
end
theorem aa5 {a b:Int} (p:O.Perm [a,b]) (h:O.Pairwise (·<=·)):O=if a<=b then [a,b] else [b,a]:=by
 by_cases z:a<=b
 ·rw[if_pos z];exact List.Perm.eq_of_pairwise (λ x y _ _ p q=>Int.le_antisymm p q) h (by simp[z]) p
 ·rw[if_neg z];exact List.Perm.eq_of_pairwise (λ x y _ _ p q=>Int.le_antisymm p q) h (by simp;omega) (p.trans (List.Perm.swap b a []))
theorem vals_ints:∀ {us:List Value}{q:List Int},IntsAre us q->Vals (q.map V.int) us
 |_,_,.nil=>.nil
 |_,_,.cons n t h=>.cons ⟨t,rfl⟩ (vals_ints h)
theorem ai2 {K:Frag} (h:Reps K H [.int a,.int b] vs):vs=[V.int a,V.int b]:=by obtain⟨v,r,rfl,h1,h2⟩:=h;obtain⟨u,rfl,q⟩:=Reps.v1 h2;rw[h1,q]
section
theorem ae3:CallR X (.builtin "sorted") (λ xs H Q=>∃ p a b,xs=[.ref p] ∧ SqL X.K H p [V.int a,V.int b] ∧ ∀ l,H l=none → Q (.ref l) (upd H l (.lst ((if a ≤ b then [a,b] else [b,a]).map V.int)))):=by
 intro pins s σ H xs us Q I r h;obtain⟨p,a,b,rfl,sq,q⟩:=h;obtain⟨u,rfl,ru⟩:=j_3 r;cases ru;obtain⟨O,Y,pl,hz⟩:=I.list sq;have ia:=intsAre_of (is:=[a,b]) Y;have aa:O.length=2:=by rw[<- Y.length];rfl
 refine sorted_ints pl.isList ia (by omega) λ out ac a1 a2 a3=>?_;obtain⟨e,he⟩:=sortedAll_at s.heap O out;have Z:=aa5 a2 a3;subst Z;have lz:((if a<=b then [a,b] else [b,a]).map V.int).length<=sizeLine:=by
  rw[qy];split
  ·show (2:Nat)<=sizeLine;decide
  ·show (2:Nat)<=sizeLine;decide
 refine⟨.ref (s.heap.objs.size+1),_,I.laid (o:=.lst ((if a<=b then [a,b] else [b,a]).map V.int)) (λ _ _=>sortedAll_old) (Zc _) ⟨lz,out.toList,e,vals_ints a1,he⟩,rfl,q _ (I.hok.fresh (Zc _))⟩
theorem as4:BOk X (.builtin "sorted") N_3:=⟨_,ae3,λ c H0 H ρ σ ds d vs Q R r e q=>by
 unfold N_3 at e;split at e
 ·rename_i a b;cases e;obtain⟨v,rfl,O⟩:=Reps.v1 r;obtain⟨p,ws,rfl,s,t⟩:=O;rw[ai2 t] at s;refine⟨p,a,b,rfl,Same.seq R.same s,λ l hl=>?_⟩;have S:=Step.alloc (o:=.lst ((if a<=b then [a,b] else [b,a]).map V.int)) R.same hl;refine q _ _ _ S.s0 (R.after S) ?_;refine⟨l,_,rfl,.inl (.inl a_4),?_⟩;split
  ·exact Reps.cons (d_3 _ _) (Reps.one (d_3 _ _))
  ·exact Reps.cons (d_3 _ _) (Reps.one (d_3 _ _))
 ·cases e⟩
end
section
theorem be4  (h:asL m=some d):∃ ds,m=.lst ds/\d=.lst ds:=by
 cases m with
 |lst ds=>cases h;exact⟨ds,rfl,rfl⟩
 |dic kds=>cases h
theorem xNL  (N:DefN X.prog X.w X.K X.mg X.base k x g) (hr:Room k X.A) (ha:XA X (e::es) A) (hg:Gl X x:=by rfl) (Y:(x==("__debug__":Str))=false:=by decide)
  (he:starEach (e::es) X.env=(false,eval e X.env)::starEach es X.env:=by rfl) (Z:(backTo pos (starEach es X.env)).any (·.1)=false:=by rfl):XE X (.Call (.Name x p) (e::es) [] pos) (eNL g A):=by
 obtain⟨f,fd,ps,Fn,hb,hk,hm⟩:=N.ex;refine PE.wk (ak2 Fn hr hg hm hk hb .nil bn4 ha Y he Z) λ σ H Q O=>?_;obtain⟨c,H0,ρ,d,ρ',R,z,q⟩:=O;obtain⟨⟨ds,aa⟩,h1,z⟩:=a_0 z;obtain⟨m,h2,z⟩:=a_0 z;obtain⟨d1,h3,z⟩:=a_0 z;have z':=z;cases z';obtain⟨es,rfl,rfl⟩:=be4 h3;refine⟨c,H0,ρ,ds,_,R,h1,λ vs H1 Hh s1 R1 r1=>⟨H1,ds,_,R1.same,by rw[yn];exact r1,h2,λ a Hi' H' nw=>?_⟩⟩;obtain⟨s0,s',s,fr,a0,aH,ws,ea,r⟩:=nw;have m0:Same Hi' (upd Hi' a (.lst ws)):=λ b u q=>by rw[a_8 (b_3 q a0)];exact q
 refine q _ (upd Hi' a (.lst ws)) H' (s1.trans (s0.trans m0)) (R1.after ⟨s0.trans m0,s,λ b u q=>?_,λ b u q=>?_⟩) ?_
 ·by_cases h:b=a
  ·subst h;rw[a_4] at q;cases q;exact ea
  ·rw[a_8 h] at q;exact s' b u q
 ·by_cases h:b=a
  ·subst h;exact .inr aH
  ·rw[a_8 h] at q;exact fr b u q
 ·exact⟨a,ws,rfl,.inl (.inl a_4),Reps.mono m0 _ r⟩
end
section
theorem bc4 {K:Frag}{ks:List Str} (s:Same H0 H) (Y:H0 a=some (.frz o (.dK ((ks.map Sum.inr).zip vs)))) (t:Reps K H0 ds vs) (l:ks.length=ds.length) :
  ∃ u,DGet H a (.str k) u/\(j_8 k (ks.zip ds)=none->u=none)/\∀ d,j_8 k (ks.zip ds)=some d->∃ v,u=some v/\Rep K H0 d v:=by
 have f1:(ks.zip ds).map (·.1)=ks:=Ji (by omega);have O:(ks.zip ds).map (·.2)=ds:=Jg (by omega);have ln:=t.length;refine⟨H_9 (q_9 ks vs) (.inr k),.inl ⟨_,.inr k,.inr ⟨o,s _ _ Y⟩,rfl,rfl⟩,λ h=>?_,λ d h=>?_⟩
 ·have:=T_0 (vs:=vs) (by rw[Yu];omega) h;rw[f1] at this;exact this
 ·obtain⟨v,q,Z⟩:=S_9 (by rw[O];exact t) h;rw[f1] at q;exact⟨v,q,Z⟩
theorem strX_inv  (h:bT5 d=some k):d=.str k:=by
 cases d with
 |str z=>cases h;rfl
 |_=>cases h
theorem bo2 (Y:X.A.units+1<cLine):OpR X (compareOp .In) (λ y x H Q=>∃ a o,x=.ref a/\DGet H a y o/\Q (.bl o.isSome) H):=by
 intro pins s σ H x y v u Q I O Z h;obtain⟨a,o,rfl,g,q⟩:=h;cases Z;exact cn1 Y I g O λ s' I'=>⟨.bl o.isSome,H,I',rfl,q⟩
theorem bu5 {K:Frag} (s:Same H0 H) (q:Rep K H0 (.str k) Y) (Z:Rep K H0 (.dct ks ds) O):∃ a o,O=.ref a/\DGet H a Y o/\o.isSome=(j_8 k (ks.zip ds)).isSome:=by
 subst q;obtain⟨a,ob,vs,rfl,ea,t,l⟩:=Z;obtain⟨u,dg,hn,hs⟩:=bc4 s ea t l;refine⟨a,u,rfl,dg,?_⟩;cases z:j_8 k (ks.zip ds) with
 |none=>rw[hn z];rfl
 |some d=>obtain⟨v,e,_⟩:=hs d z;rw[e];rfl
theorem cc0 (Y:X.A.units+1<cLine):l_2 X .In ar1:=⟨_,bo2 Y,λ c H0 H ρ σ x y d vx vy Q R O Z e q=>by
 obtain⟨⟨ks,ds⟩,g1,e⟩:=a_0 e;obtain⟨k,g2,e⟩:=a_0 e;cases dctX_inv g1;cases strX_inv g2;cases e;obtain⟨a,o,rfl,dg,z⟩:=bu5 R.same O Z;exact⟨a,o,rfl,dg,by rw[z];exact q _ H0 H (Same.refl _) R (by rfl)⟩⟩
end
structure YE (X:Cx) (e:Expr) (F:FE):Prop where
 go:XE X e F
structure YA (X:Cx) (es:List Expr) (F:FA):Prop where
 go:XA X es F
structure YS (X:Cx) (st:Stmt) (F:FS):Prop where
 go:XS X st F
structure YSs (X:Cx) (st:List Stmt) (F:FS):Prop where
 go:XSs X st F
section
variable {st:Stmt}
theorem ye (h:XE X e F):YE X e F:=⟨h⟩
theorem yb  (o:H_1 X q f) (O:YE X a F) (Y:YE X b G):YE X (.BinOp a q b pos) (e2 f F G):=⟨xb o O.go Y.go⟩
theorem yix (q:YE X a F) (Y:YE X b G) (O:S_4 b:=by intro _ _;rfl):YE X (.Subscript a b pos) (e2 a_9 F G):=⟨d_0 q.go Y.go O⟩
theorem aG6 (h:YA X es A):YE X (.List es pos) (j_2 A):=⟨y_7 h.go⟩
theorem af1  (h:YA X es A):YE X (.Tuple es x1 pos) (g_7 A):=⟨u_7 h.go⟩
theorem yaN:YA X [] aN:=⟨xaN⟩
theorem yaC (q:YE X e F) (O:YA X es A) (Y:starEach (e::es) X.env=(false,eval e X.env)::starEach es X.env:=by rfl):YA X (e::es) (aC F A):=⟨xaC q.go O.go Y⟩
theorem yx (h:XS X st B):YS X st B:=⟨h⟩
theorem ysN:YSs X [] sN:=⟨xsN⟩
theorem ys1 (h:YS X st B):YSs X [st] B:=⟨xs1 h.go⟩
theorem ysC (h:YS X st B) (k:YSs X ss C):YSs X (st::ss) (b_7 B C):=⟨xsC h.go k.go⟩
theorem H_2 (i:Nat)  (O:X.N.Nodup) (q:YE X e F) (hi:X.N[i]?=some x:=by rfl) (hx:Loc X.env.scope x:=by first | exact Or.inl rfl | exact Or.inr rfl) (Z:swapsWith e (some (.Name x pos')) pos.line X.env=pure false:=by rfl)
  (Y:X.fn x=true\/X.env.scope.names.lookup x=some .local:=by first | exact .inl rfl | exact .inr rfl):YS X (.Assign [.Name x pos'] e pos) (e_3 i F):=⟨j_4 i O q.go hi hx Z Y⟩
theorem N_9 (q:YE X e F):YS X (.Return (some e) pos) (d_6 F):=⟨g_1 q.go⟩
theorem yif (Y:XT X e T) (q:YSs X ss B) (O:YSs X body C):YS X (.If e ss body pos) (sIf T B C):=⟨i_1 Y q.go O.go⟩
end
section
theorem bh5 (ha:XE X a F):XE X (.UnaryOp .Not a pos) (ad7 F):=λ pins s σ H Q I O=>by
 obtain⟨c,H0,ρ,d,ρ',R,f,q⟩:=O;obtain⟨⟨z,aa⟩,h1,f⟩:=a_0 f;obtain⟨k,h2,f⟩:=a_0 f;cases f;refine UnaryOp_ (thn (ha pins s σ H (λ v Y=>∃ H1,Same H0 H1/\RS X.K c H1 Y aa σ/\Rep X.K H1 z v) I ⟨c,H0,ρ,z,_,R,h1,λ v H1 Y s1 Z r1=>⟨H1,s1,Z,r1⟩⟩) λ v s1 ⟨x,Y,I1,rx,H1,sm,Z,r1⟩=>not_of ?_);exact z0 (aH6 pins s1 σ Y x v (λ b H'=>b=k/\H'=Y) I1 rx ⟨k,aH7 Z.same r1 h2,rfl,rfl⟩) (λ b s2 O=>by obtain⟨H',I2,eb,eH⟩:=O;subst eb eH;exact⟨.bl (!b),H',I2,rfl,q _ H1 H' sm Z (by rfl)⟩) λ _ _ z=>z
theorem cd0  (h:XO' X e A):PS X (.Return (some e) Y) (tN X.K (nFr A)) :=
 PS.wk (U_9 h) λ Dn σ H Z=>by
  obtain⟨Hi,He,H0,ρ,o,R,f,q⟩:=Z;obtain⟨⟨ds,ac⟩,h1,f⟩:=a_0 f;cases f;refine⟨⟨Hi,He,[]⟩,H0,ρ,ds,ac,R,h1,λ p vs H1 Hh s1 O hp r1=>?_⟩;have pn:=O.same.free hp;refine q p H1 _ ⟨O.init,λ b u hb=>?_,λ b u hb=>?_,O.fresh,pn,?_,vs,a_4,r1⟩
  ·rw[a_8 (b_3 hb pn)];exact O.same b u hb
  ·have aa:=O.keep b u hb (by simp);rw[a_8 (b_3 aa hp)];exact aa
  ·cases hz:He p with
   |none=>rfl
   |some u=>have:=O.keep p u hz (by simp);rw[hp] at this;cases this
theorem xnL {st:Stmt} (h:PS X st (tN X.K N)):XN X [st] N:=o_3 h
end
def aP2 (r r' q:R2) (ta tb tc td:TE):TE:=λ σ H Q=>ta σ H λ x H1=>tb σ H1 λ y H2=>r x y H2 λ z Y=>∃ k,z=.bl k /\
 (if k=true then tc σ Y λ u H4=>r' y u H4 λ z' O=>∃ Z,z'=.bl Z/\(if Z=true then td σ O λ w' H6=>q u w' H6 Q else Q (.bl false) O) else Q (.bl false) Y)
section
theorem ak1  (ho:OpR X (compareOp op) r) (ac:OpR X (compareOp O) r') (Z:OpR X (compareOp q) Y) (ha:PE X a ta) (hb:PE X b tb) (hc:PE X c tc) (hd:PE X d td)
  (hm:lastMarks [op,O,q] [b,c,d]=false):PE X (.Compare a [op,O,q] [b,c,d] pos) (aP2 r r' Y ta tb tc td):=by
 intro pins s σ H Q I h;refine Compare_chain (thn (ha pins s σ H _ I h) λ v s1=>ex5 λ x H1 I1 r1 q1=>chain_link (thn (hb pins s1 σ H1 _ I1 q1) λ u s2=>ex5 λ y H2 I2 r2 q2 =>
  thn (ho pins s2 σ H2 x y v u _ I2 r1 r2 q2) λ dd s3 ⟨z,H3,I3,r3,k,e,q3⟩=>?_)) hm
 subst e;cases r3;refine yt ?_;cases k with
 |false=>exact ite_ff ⟨.bl false,H3,I3,rfl,q3⟩
 |true =>
  refine ite_tt (chain_link (thn (hc pins s3 σ H3 _ I3 q3) λ w' s4=>ex5 λ z' H4 I4 r4 q4=>thn (ac pins s4 σ H4 y z' u w' _ I4 r2 r4 q4) λ ee s5 aa=>?_));obtain⟨z5,H5,I5,r5,k5,e5,q5⟩:=aa;subst e5;cases r5;refine yt ?_;cases k5 with
  |false=>exact ite_ff ⟨.bl false,H5,I5,rfl,q5⟩
  |true=>exact ite_tt (chain_last (thn (hd pins s5 σ H5 _ I5 q5) λ w6 s6=>ex5 λ z6 H6 I6 r6 q6=>Z pins s6 σ H6 z' z6 w' w6 Q I6 r4 r6 q6))
theorem as7 {b:Bool} (h:blB z=some b):z=.bl b:=by
 cases z with
 |bl k=>cases h;rfl
 |_=>cases h
theorem bD0  (o:l_2 X op f) (o':l_2 X Z f') (aj:l_2 X O ag) (ha:XE X a F) (hb:XE X b G) (hc:XE X c L) (hd:XE X d M) (hm:lastMarks [op,Z,O] [b,c,d]=false:=by with_unfolding_all rfl) :
  XE X (.Compare a [op,Z,O] [b,c,d] pos) (e4 f f' ag F G L M):=by
 obtain⟨r,h1,h2⟩:=o;obtain⟨r',ak,ai⟩:=o';obtain⟨al,af,ad⟩:=aj;refine PE.wk (ak1 h1 ak af ha hb hc hd hm) λ σ H Q ae=>?_;obtain⟨c,H0,ρ,w,ρ',R,g,q⟩:=ae;obtain⟨⟨x,ah⟩,g1,t1⟩:=a_0 g;obtain⟨⟨y,ac⟩,g2,t2⟩:=a_0 t1;obtain⟨z,g3,t3⟩:=a_0 t2;obtain⟨k,g4,Y⟩:=a_0 t3;clear g t1 t2 t3;have ez:=as7 g4;subst ez;refine⟨c,H0,ρ,x,ah,R,g1,λ vx H1 Hh s1 R1 r1=>⟨c,H1,ah,y,ac,R1,g2,λ vy H2 Hh2 s2 R2 r2=>?_⟩⟩;refine h2 c H2 Hh2 ac σ x y _ vx vy _ R2 (Rep.mono s2 x r1) r2 g3 λ v H3 Hh3 s3 R3 r3=>?_;refine⟨k,r3,?_⟩;cases k with
 |false =>
  rw[if_neg zu] at Y ⊢;cases Y;exact q _ H3 Hh3 (s1.trans (s2.trans s3)) R3 (by rfl)
 |true =>
  rw[if_pos rfl] at Y ⊢;obtain⟨⟨u,aa⟩,g5,t5⟩:=a_0 Y;obtain⟨z',g6,t6⟩:=a_0 t5;obtain⟨k',g7,t7⟩:=a_0 t6;clear Y t5 t6;have ez:=as7 g7;subst ez;refine⟨c,H3,ac,u,aa,R3,g5,λ vu H4 Hh4 s4 R4 r4=>?_⟩;refine ai c H4 Hh4 aa σ y u _ vy vu _ R4 (Rep.mono s4 y (Rep.mono s3 y r2)) r4 g6 λ v' H5 Hh5 s5 R5 r5=>?_;refine⟨k',r5,?_⟩;cases k' with
  |false =>
   rw[if_neg zu] at t7 ⊢;cases t7;exact q _ H5 Hh5 (s1.trans (s2.trans (s3.trans (s4.trans s5)))) R5 (by rfl)
  |true =>
   rw[if_pos rfl] at t7 ⊢;obtain⟨⟨t,am⟩,g8,t8⟩:=a_0 t7;obtain⟨w',g9,t9⟩:=a_0 t8;dsimp only at g9 t9;cases t9;refine⟨c,H5,aa,t,ρ',R5,g8,λ vt H6 Hh6 s6 R6 r6=>?_⟩;exact ad c H6 Hh6 ρ' σ u t w vu vt Q R6 (Rep.mono s6 u (Rep.mono s5 u r4)) r6 g9 λ v7 H7 Hh7 s7 R7 r7=>q v7 H7 Hh7 (s1.trans (s2.trans (s3.trans (s4.trans (s5.trans (s6.trans s7)))))) R7 r7
end
end Fx
namespace L2
open PySem PySem.Spec PyProof.Rows
end L2
namespace Fx
open PySem PySem.Spec PyProof.Rows L2
end Fx
namespace Fx
open PySem PySem.W PySem.Spec PyProof.Rows L2
def ai8 (g:D->En->Option En) (B:FX) (ρ:En) (o:Option (List D)):Option RX:=bnd o λ xs=>xGo g B (x_2 0 xs) ρ
def ai9 (g:D->En->Option En) (B:FX) (o:Option (D×En)):Option RX:=bnd o λ p=>ai8 g B p.2 (lsX p.1)
def az5 (g:D->En->Option En) (F:FE) (B:FX) (ρ:En):Option RX:=ai9 g B (F ρ)
theorem aD7 {K:Frag} (R:RS K c H1 Hh ρ σ) (hf:xGo g B xs ρ=some r) (hy:y_6 K J H1 xs) (q:PostX K mg E c Dn H1 r) :
  ∃ W:Nat->Nat->L2.St->Hp->Prop,(∃ m,W 0 m σ Hh)/\∀ i m σ H,W i m σ H ->
   (J.stop i H/\Dn.nx σ H)\/(J.go i H/\∃ N:L2.St->Hp->Prop,(∀ O H',N O H'->∃ m',m'<m/\W (i+1) m' O H')/\∀ x H',J.yld i H x H'->tG K g x σ H' λ ad H2=>tX K mg E B {Dn with nx:=N,ct:=N,bk:=Dn.nx} ad H2):=by
 refine⟨λ i m σ H=>m=xs.length-i/\i<=xs.length/\∃ H0 ρ,Same H1 H0/\RS K c H0 H ρ σ/\xGo g B (xs.drop i) ρ=some r,⟨xs.length,by simp,yi _,H1,ρ,Same.refl _,R,by simpa using hf⟩,?_⟩;rintro i m σ H ⟨rfl,hi,H0,ρ,Z,R0,Y⟩;obtain⟨y1,y2⟩:=hy H0 H i Z R0.same;by_cases aa:i<xs.length
 ·have hd:xs[i]?=some xs[i]:=by simp[aa]
  obtain⟨go,yl⟩:=y1 _ hd;refine .inr ⟨go,λ O H'=>∃ m',m'<xs.length-i/\m'=xs.length-(i+1)/\i+1<=xs.length/\∃ H0 ρ,Same H1 H0/\RS K c H0 H' ρ O/\xGo g B (xs.drop (i+1)) ρ=some r,λ O H' ⟨m',a,b⟩=>⟨m',a,b⟩,λ x H' hx=>?_⟩;obtain⟨H0',S,rx⟩:=yl x H' hx;rw[s_0 hd,C_2] at Y;obtain⟨ac,g1,Y⟩:=a_0 Y;obtain⟨z,g2,Y⟩:=a_0 Y;have Z:=Z.trans S.s0;refine⟨c,H0',ρ,_,ac,R0.after S,rx,g1,λ ae H2 Hh2 s2 R2=>⟨c,H2,ac,z,R2,g2,?_⟩⟩
  match z,Y with
  |.ok (.nx ρ2),Y=>exact λ O H3 Hh3 s3 R3=>⟨_,by omega,rfl,aa,H3,ρ2,Z.trans (s2.trans s3),R3,Y⟩
  |.ok (.ct ρ2),Y=>exact λ O H3 Hh3 s3 R3=>⟨_,by omega,rfl,aa,H3,ρ2,Z.trans (s2.trans s3),R3,Y⟩
  |.ok (.bk ρ2),Y=>cases Y;exact λ O H3 Hh3 s3 R3=>q O H3 Hh3 (Z.trans (s2.trans s3)) R3
  |.ok (.rt d ρ2),Y=>cases Y;exact λ v O H3 Hh3 s3 R3 r3=>q v O H3 Hh3 (Z.trans (s2.trans s3)) R3 r3
  |.ex y,Y=>cases Y;exact λ C dd ρ' O H3 Hh3 m s3 R3 xd=>q C dd ρ' O H3 Hh3 m (Z.trans (s2.trans s3)) R3 xd
 ·have hn:xs.drop i=[]:=j3 (by omega);rw[hn,aO7] at Y;cases Y;exact .inl ⟨y2 (by omega),q σ H0 H Z R0⟩
section
theorem S_5 (hR:S_3 X E) (hm:X.mg x=some (.ref C)) (hx:ad5 X.K C fI=true) (h1:XS1 X.K C f) (Fk:FnOk X.prog X.w X.K X.mg X.base (CXE X.prog X.w) k fI fd ["self",f] (spI X.K f)) (hr:Room (k+1) X.A) (hb:Binds X.K fd ["self",f] [])
  (ha:XE X a F) (hc:X.calm=true:=by rfl) (Z:X.ex=[]:=by rfl) (hg:Gl X x:=by rfl) (hd:(x==("__debug__":Str))=false:=by decide) (hs:starEach [a] X.env=[(false,eval a X.env)]:=by rfl) :
  XX1 X E (.Raise (some (.Call (.Name x np) [a] [] cpos)) none pos) (v_8 x f F) :=
 PS.wk (aj2 hR hc Z hm hx h1 Fk hr hb ha hg hd hs) λ Dn σ H Y=>by
  obtain⟨c,H0,ρ,r,R,e,q⟩:=Y;obtain⟨⟨d,O⟩,h2,e⟩:=a_0 e;cases e;refine⟨c,H0,ρ,d,O,R,h2,λ v H1 Hh s1 R1 rv dx hx=>?_⟩;have S:=Step.alloc (o:=.xd [(f,v)]) R1.same hx;exact q C (some dx) O σ _ _ hm (s1.trans S.s0) (R1.after S) ⟨v,Rep.mono S.s0 _ rv,a_4⟩
theorem bh1  (hp:PassesOwn (model X.prog X.w) X.A X.env X.xe) (hm:X.mg "enumerate"=none) (hg:XG X (.Tuple O x1 pt) g) (ha:XE X a F) (hb:XX X E body B) (Z:Gl X "enumerate":=by rfl)
  (hc:X.calm=true:=by rfl) (aa:starEach [a] X.env=[(false,eval a X.env)]:=by rfl) (hs:∀ x,foldedSetIterable (.Call (.Name "enumerate" p) [a] [] pos') X.env x=pure x:=by intro _;rfl) :
  XX1 X E (.For (.Tuple O x1 pt) (.Call (.Name "enumerate" p) [a] [] pos') body [] pos) (az5 g F B):=PS.wk (J_0 hp hc (aj7 Z hm ha aa) hg hb hs) λ Dn σ H Y=>by
 obtain⟨c,H0,ρ,r,R,f,q⟩:=Y;obtain⟨⟨d,ac⟩,h1,f⟩:=a_0 f;obtain⟨xs,h2,f⟩:=a_0 f;cases d with
 |lst ys =>
  cases h2;refine⟨c,H0,ρ,_,ac,R,h1,λ v H1 Hh s1 R1 r1=>?_⟩;obtain⟨a,vs,rfl,sq,rs⟩:=r1;exact⟨a,vs,rfl,Same.seq R1.same sq,aD7 R1 f (u_6 sq rs) (q.mono s1)⟩
 |_=>cases h2
end
section
variable {K:Frag}
theorem XC.fld  (f:XC K C) (g:XS1 K C name) (X:K.In s.heap) (I:InstAt s.heap x ox C (some od)) (hl:lookIn name od=some (some v)) (hv:handedIn v=true) (h:Q v {s with toks:=s.toks+1}) :
  wpAny (model prog w) A (getAttr (.ref x) name true) Q E s:=by
 obtain⟨cd,Z,_,hd⟩:=g.cl;have O:=findObj_own (by unfold hasDictIn;rw[Z];exact hd) g.na rfl hl;obtain⟨hh,gs,d,t,os⟩:=s;have q:=I.type (M:=model prog w);have L1:=looks_findIn (M:=model prog w) X f.ga;have L2:=looks_findIn (M:=model prog w) X f.gh;have L3:=looks_find (M:=model prog w) X I O;have Y:(onTheHeap (.ref C)&&Value.builtin "BaseException.__getattribute__"==Value.builtin "object.__getattribute__")=false:=by rw[show (Value.builtin "BaseException.__getattribute__"==Value.builtin "object.__getattribute__")=false by decide +kernel];rfl
 refine qb (wpAny_mkText ?_);refine yh (qb (q.at (qb (L1.at ?_))));dsimp only;rw[Y,if_neg (by decide)];unfold getAttrByItsOwn hookBefore;refine qb ?_;rw[show onTheHeap (.ref C)=true from rfl,if_pos rfl];refine L2.at (qb (Zu (yh ?_)));unfold callGetattribute;rw[show (true&&onTheHeap (Value.builtin "BaseException.__getattribute__"))=false from rfl,if_neg (by decide)];refine qb (Z6 (F.attr_ValueError.ga.bind (.ref x)) ?_);refine Zn (Zw F.attr_ValueError.ga.plain F.entry_bexc_ga (f.ck X I ?_));refine qb (qc (qb (qc (qb (q.at (qb (L3.at ?_)))))));refine qc ?_;show wpAny _ _ (handedOut v) _ _ _;rw[handedOut_of hv];exact qc h
end
theorem aV2 {h:Heap} (n:h.Ns1 dx m) (e:m name=some u):∃ o,h.get? dx=some o/\lookIn name o=some (some u):=by
 obtain⟨o,es,ep,Y,O,Z,q4,q⟩:=n;refine⟨o,Y,?_⟩;unfold lookIn;rw[O];dsimp only;have z:=q name;rw[e] at z;unfold nsFind findBy at z;rw[<- Array.find?_toList] at z;cases w:es.toList.find? (λ e=>e.key.isStr name) with
 |none=>rw[w] at z;cases z
 |some k=>rw[w] at z;cases z;rfl
section
theorem bI6 (c:XC X.K C) (g:XS1 X.K C f) (he:PE (i_6 X a (rcd (.ref C) vs (some dx))) e te) (hb:attributeBase e f X.env (eval e X.env)=eval e X.env) :
  PE (i_6 X a (rcd (.ref C) vs (some dx))) (.Attribute e f pos) (λ σ H Q=>te σ H λ x H1=>x=.ref a/\∃ n,H1 dx=some (.xd [(f,.int n)])/\Q (.int n) H1):=by
 intro pins s σ H Q I h;refine be2 hb (thn (he pins s σ H _ I h) λ u s1=>ex5 λ x H1 Y rx z=>?_);obtain⟨rfl,n,hx,q⟩:=z;obtain rfl:u=.ref a:=rx;obtain⟨m,ns,rl⟩:=(show ObjOk _ _ H1 s1.heap dx (.xd [(f,.int n)]) from Y.hok dx _ hx);have O:=rl f;rw[show ([(f,V.int n)]:List (Str×V)).lookup f=some (.int n) by simp[List.lookup]] at O;cases Z:m f with
 |none=>rw[Z] at O;exact O.elim
 |some u =>
  rw[Z] at O;obtain⟨tk,rfl⟩:=O;obtain⟨o,q1,q2⟩:=aV2 ns Z;exact c.fld g Y.kIn ⟨(Y.pin (a,rcd (.ref C) vs (some dx)) (qg)).1,rfl,rfl,q1⟩ q2 rfl ⟨.int n,H1,Y.tok _,⟨tk,rfl⟩,q⟩
end
def clV (K:Frag) (C:Addr):Bool:=(clsIn K C).any λ c=>P_1 c.mro&&c.hasDict
theorem bv3 {K:Frag} (h:clV K C=true):∃ cd,clsIn K C=some cd/\P_1 cd.mro=true/\cd.hasDict=true:=by obtain⟨cd,a,b⟩:=any_some h;obtain⟨b,c⟩:=(zk ..).mp b;exact⟨cd,a,b,c⟩
structure XIn (K:Frag) (mg:Str->Option Value) (x y f qual:Str) (st:Stmt) (c0 c2 fI:Addr) (fd:FuncData):Prop where
 m0:mg x=some (.ref c0)
 m2:mg y=some (.ref c2)
 x0:ad5 K c0 fI=true
 s1:XS1 K c0 f
 k0:XC K c0
 e0:exmOne K (.ref c0) (.ref c2)=some true
 t0:kitOne K (.ref c0) (.ref c0)=some true
 n0:kitOne K (.type "NoneType") (.ref c0)=some false
 fn:Fun K "__init__" qual st fI fd
 b0:Binds K fd ["self",f] []
structure RfN (K:Frag) (mg:Str->Option Value) (c0 d1 d2 d3 d4 d5 d6:Addr):Prop where
 m0:mg "NoText"=some (.ref c0)
 m1:mg "Late"=some (.ref d1)
 m2:mg "NoCell"=some (.ref d2)
 m3:mg "NoComing"=some (.ref d3)
 m4:mg "NoOrder"=some (.ref d4)
 m5:mg "NoPaper"=some (.ref d5)
 m6:mg "NoWorks"=some (.ref d6)
 ka:kitAny K (.ref c0) [.ref d1,.ref d2,.ref d3,.ref d4,.ref d5,.ref d6]=some false
 kv:kitOne K (.ref c0) (.type "ValueError")=some true
 mv:mg "ValueError"=none
def bH6 (m:D):D ⊕ XV->Option D
 |.inr (x,some (f,.int n))=>if x="NoText" ∧ f="at" then (match m with | .int m=>some (.bl (decide (n=m))) | _=>none) else none
 |_=>none
def bU6 (g:List D->Option (D ⊕ XV)):List D->Option D
 |[t,m]=>bnd (g [t]) (bH6 m)
 |_=>none
theorem U_5 {g:List D → Option (D ⊕ XV)}{ds:List D}{d:D} (h:bU6 g ds=some d):∃ t m n,ds=[t,.int m] ∧ g [t]=some (.inr (Str.ofString "NoText",some (Str.ofString "at",D.int n))) ∧ d=.bl (decide (n=m)):=by
 match ds,h with
 |[t,m],h =>
  obtain⟨z,h1,h2⟩:=a_0 (show bnd (g [t]) (bH6 m)=some d from h)
  match z,h1,h2 with
  |.inr (x,some (f,.int n)),h1,h2 =>
   have h2:(if x="NoText" ∧ f="at" then (match m with | .int m=>some (D.bl (decide (n=m))) | _=>none) else none)=some d:=h2;split at h2
   ·rename_i q;obtain⟨rfl,rfl⟩:=q;cases m with
    |int m=>cases h2;exact⟨t,m,n,rfl,h1,rfl⟩
    |_=>cases h2
   ·cases h2
end Fx
namespace Fx
open PySem
noncomputable section
def G_8:FS :=
 (b_7 (sIf (tOr (tNot (tV (eTy .str (eV 0)))) (tNot (tB (e3 dLe dLe (zI 1) (eF e_0 (aC (eV 0) aN)) (zI 8)))))
 (d_6 (eC (.bl false)))
 sN)
 (d_6 (eF z_8 (aC (eLC [] (eV 0) tYes (e2 d_8 (eV 0) (zR "abcdefghijklmnopqrstuvwxyz"))) aN))))
def d_7:List D->Option D:=fnD 1 0 G_8
def j_0:FS :=
 (b_7 (e_3 1 (eIf (tV (e2 Y_6 (eV 0) (zR "-"))) (q_4 (eV 0) (oS (zI 1)) oN) (eV 0)))
 (b_7 (sIf (tOr (tNot (tB (e3 dLe dLe (zI 1) (eF e_0 (aC (eV 1) aN)) (zI 12)))) (tNot (tV (eF z_8 (aC (eLC [] (eV 1) tYes (e2 d_8 (eV 0) (zR "0123456789"))) aN)))))
 (d_6 (eC (.bl false)))
 sN)
 (d_6 (eOr (e2 dEq (eV 0) (zR "0")) (e2 dNe (e2 a_9 (eV 1) (zI 0)) (zR "0"))))))
def c_9:List D->Option D:=fnD 1 1 j_0
abbrev lit0:List (Str×D):=[((Str.ofString "in"),(.str "NAME LOW HIGH")),((Str.ofString "time"),(.str "NAME FROM BEGIN END")),((Str.ofString "only"),(.str "NAME FROM KEY ..")),((Str.ofString "but"),(.str "NAME FROM KEY ..")),((Str.ofString "span"),(.str "NAME FROM LOW HIGH")),((Str.ofString "rest"),(.str "NAME FROM M R")),((Str.ofString "turn"),(.str "NAME FROM A B")),((Str.ofString "later"),(.str "NAME FROM C")),((Str.ofString "put"),(.str "NAME FROM KEY OTHER ..")),((Str.ofString "pour"),(.str "NAME FROM FROM ..")),((Str.ofString "pair"),(.str "NAME LEFT RIGHT REACH HOW")),((Str.ofString "fixed"),(.str "NAME FROM WIDTH FOLD")),((Str.ofString "slide"),(.str "NAME FROM WIDTH STEP FOLD")),((Str.ofString "gaps"),(.str "NAME FROM GAP FOLD")),((Str.ofString "ever"),(.str "NAME FROM FOLD")),((Str.ofString "ask"),(.str "NAME FROM"))]
def l_0:FS :=
 (b_7 (e_3 2 (eIf (tAnd (tB (e2 dEq (eV 0) (zR "ask"))) (tB (e2 dGt (eV 1) (zI 2)))) (e2 e_7 (e1 (dKx lit0) (eV 0)) (zR " LOW HIGH")) (e1 (dKx lit0) (eV 0))))
 (b_7 (aI0 3 (oFr (e2 n_7 (eV 2) (zR " "))))
 (b_7 (sIf (T_5 3 (tB (e2 dEq (e2 a_9 (eV 3) (e1 au8 (zI 1))) (zR ".."))))
 (b_7 (bx7 3)
 (by2 3 (aT9 (aC (eHoldL 3 (e2 a_9 (eV 3) (e1 au8 (zI 1)))) aN) (e2 L_7 (eV 1) (eHoldL 3 (eF e_0 (aC (eV 3) aN)))))))
 sN)
 (aI1 3 (d_6 (eV 3))))))
def b_9:List D->Option D:=fnD 2 2 l_0
def t_1:FS :=
 (b_7 (sIf (tB (e2 d_8 (eV 0) (eC (.tup [(.str "NAME"),(.str "FROM"),(.str "LEFT"),(.str "RIGHT"),(.str "KEY"),(.str "OTHER")]))))
 (d_6 (eF d_7 (aC (eV 1) aN)))
 sN)
 (b_7 (sIf (tB (e2 dEq (eV 0) (zR "HOW")))
 (d_6 (e2 d_8 (eV 1) (eC (.tup [(.str "sum"),(.str "less"),(.str "left"),(.str "right")]))))
 sN)
 (b_7 (sIf (tB (e2 dEq (eV 0) (zR "FOLD")))
 (d_6 (e2 d_8 (eV 1) (eC (.tup [(.str "count"),(.str "sum"),(.str "most"),(.str "least")]))))
 sN)
 (d_6 (eOr (eF c_9 (aC (eV 1) aN)) (ad8 (e2 dEq (eV 1) (zR "*")) (e2 d_8 (eV 0) (eC (.tup [(.str "LOW"),(.str "HIGH"),(.str "END")])))))))))
def d_4:List D->Option D:=fnD 2 0 t_1
def j_9:FS :=
 (b_7 (sIf (tB (e2 dEq (eV 0) (zR "*")))
 (d_6 (eC .non))
 sN)
 (d_6 (eIf (tV (eF c_9 (aC (eV 0) aN))) (eF aG0 (aC (eV 0) aN)) (eV 0))))
def c_4:List D->Option D:=fnD 1 0 j_9
def ae8:FS :=
 (d_6 (eOr (e2 dIs (eV 0) (eC .non)) (eOr (e2 dIs (eV 1) (eC .non)) (e2 dLe (eV 0) (eV 1)))))
def m_7:List D->Option D:=fnD 2 0 ae8
def t_2:FS :=
 (d_6 (e2 dEq (eF y_4 (aC (eV 0) aN)) (eF e_0 (aC (eV 0) aN))))
def e_9:List D->Option D:=fnD 1 0 t_2
def n_8:FS :=
 (b_7 (sIf (tB (e2 d_8 (eV 0) (g_7 (aC (zR "in") (aC (zR "span") (aC (zR "ask") aN))))))
 (d_6 (eOr (ad7 (eV 2)) (eF m_7 (aC (e2 a_9 (eV 2) (zI 0)) (aC (e2 a_9 (eV 2) (zI 1)) aN)))))
 sN)
 (b_7 (sIf (tB (e2 dEq (eV 0) (zR "time")))
 (d_6 (ad8 (e2 dGe (e2 a_9 (eV 2) (zI 0)) (zI 0)) (eOr (e2 dIs (e2 a_9 (eV 2) (zI 1)) (eC .non)) (e2 dLt (e2 a_9 (eV 2) (zI 0)) (e2 a_9 (eV 2) (zI 1))))))
 sN)
 (b_7 (sIf (tB (e2 d_8 (eV 0) (g_7 (aC (zR "only") (aC (zR "but") aN)))))
 (d_6 (ad8 (e2 dLe (eF e_0 (aC (eV 2) aN)) (zI 8)) (eF e_9 (aC (eV 2) aN))))
 sN)
 (b_7 (sIf (tB (e2 dEq (eV 0) (zR "rest")))
 (d_6 (ad8 (e3 dLe dLe (zI 2) (e2 a_9 (eV 2) (zI 0)) (zI 1000)) (e3 dLe dLt (zI 0) (e2 a_9 (eV 2) (zI 1)) (e2 a_9 (eV 2) (zI 0)))))
 sN)
 (b_7 (sIf (tB (e2 dEq (eV 0) (zR "turn")))
 (d_6 (ad8 (e3 dLe dLe (e1 au8 (zI 1000)) (e2 a_9 (eV 2) (zI 0)) (zI 1000)) (e2 dNe (e2 a_9 (eV 2) (zI 0)) (zI 0))))
 sN)
 (b_7 (sIf (tB (e2 dEq (eV 0) (zR "put")))
 (d_6 (ad8 (e2 d_8 (eF e_0 (aC (eV 2) aN)) (g_7 (aC (zI 2) (aC (zI 4) (aC (zI 6) (aC (zI 8) aN)))))) (eF e_9 (aC (e1 (af4 0) (eV 2)) aN))))
 sN)
 (b_7 (sIf (tB (e2 dEq (eV 0) (zR "pour")))
 (d_6 (ad8 (e2 dLe (eF e_0 (aC (eV 1) aN)) (zI 8)) (eF e_9 (aC (eV 1) aN))))
 sN)
 (b_7 (sIf (tB (e2 d_8 (eV 0) (g_7 (aC (zR "later") (aC (zR "pair") aN)))))
 (d_6 (e2 dGe (e2 a_9 (eV 2) (zI 0)) (zI 0)))
 sN)
 (b_7 (sIf (tB (e2 dEq (eV 0) (zR "slide")))
 (d_6 (e4 dLe dLt dLe (zI 1) (e2 a_9 (eV 2) (zI 1)) (e2 a_9 (eV 2) (zI 0)) (e2 af5 (zI 20) (e2 a_9 (eV 2) (zI 1)))))
 sN)
 (d_6 (eOr (e2 dEq (eV 0) (zR "ever")) (e2 dGe (e2 a_9 (eV 2) (zI 0)) (zI 1)))))))))))))
def a_3:List D->Option D:=fnD 3 0 n_8
def n_0:FS :=
 (b_7 (e_3 1 (e2 n_7 (eV 0) (zR " ")))
 (b_7 (e_3 2 (e2 a_9 (eV 1) (zI 0)))
 (b_7 (sIf (tB (e1 (z_5 lit0) (eV 2)))
 (d_6 (eC .non))
 sN)
 (b_7 (e_3 3 (eF b_9 (aC (eV 2) (aC (e2 L_7 (eF e_0 (aC (eV 1) aN)) (zI 1)) aN))))
 (b_7 (e_3 4 (e2 aE8 (eV 3) (q_4 (eV 1) (oS (zI 1)) oN)))
 (b_7 (sIf (tOr (tB (e2 dNe (eF e_0 (aC (eV 3) aN)) (e2 L_7 (eF e_0 (aC (eV 1) aN)) (zI 1)))) (tNot (tV (eF z_8 (aC (eLC2 [] (eV 4) tYes (eF d_4 (aC (eV 0) (aC (eV 1) aN)))) aN)))))
 (d_6 (eC .non))
 sN)
 (b_7 (e_3 5 (eF m_3 (aC (eLC2 [] (eV 4) (tB (e2 d_8 (eV 0) (eC (.tup [(.str "FROM"),(.str "LEFT"),(.str "RIGHT")])))) (eV 1)) aN)))
 (b_7 (e_3 6 (eF m_3 (aC (eLC [] (q_4 (eV 1) (oS (e2 e_7 (zI 2) (eF e_0 (aC (eV 5) aN)))) oN) tYes (eF c_4 (aC (eV 0) aN))) aN)))
 (b_7 (sIf (tNot (tV (eF a_3 (aC (eV 2) (aC (eV 5) (aC (eV 6) aN))))))
 (d_6 (eC .non))
 sN)
 (b_7 (sIf (tB (e2 dEq (eV 2) (zR "put")))
 (e_3 6 (e2 ae0 (e1 (af4 0) (eV 6)) (e1 (af4 1) (eV 6))))
 sN)
 (d_6 (g_7 (aC (eV 2) (aC (e2 a_9 (eV 1) (zI 1)) (aC (eV 5) (aC (eV 6) aN))))))))))))))))
def b_4:List D->Option D:=fnD 1 6 n_0
def z_7:FS :=
 (b_7 (e_3 3 (e2 a_9 (e2 a_9 (eV 0) (zI 3)) (e1 au8 (zI 1))))
 (b_7 (sIf (tOr (tB (e2 dEq (e2 a_9 (eV 0) (zI 0)) (zR "gaps"))) (tOr (tB (e2 dEq (eV 3) (zR "sum"))) (tB (e2 dEq (e2 a_9 (e2 dDx (eV 1) (e2 a_9 (e2 a_9 (eV 0) (zI 2)) (zI 0))) (zI 0)) (zR "pair")))))
 (d_6 (eC (.bl false)))
 sN)
 (d_6 (eOr (e2 dNe (eV 3) (zR "count")) (ad8 (e2 aq9 (eV 2) (eC .non)) (e3 dLe dLe (zI 1) (eV 2) (zI 50)))))))
def e_6:List D->Option D:=fnD 3 1 z_7
def z_6:FS :=
 (b_7 (sIf (tOr (tB (e2 ar1 (e2 a_9 (eV 0) (zI 1)) (eV 1))) (tNot (tV (eF z_8 (aC (eLC [1] (e2 a_9 (eV 0) (zI 2)) tYes (e2 ar1 (eV 0) (eV 1))) aN)))))
 (d_6 (eC (.bl false)))
 sN)
 (b_7 (e_3 2 (eLC [1] (e2 a_9 (eV 0) (zI 2)) tYes (e2 dDx (eV 1) (eV 0))))
 (b_7 (sIf (tB (e2 dEq (e2 a_9 (eV 0) (zI 0)) (zR "ask")))
 (d_6 (ad8 (e2 d_8 (e2 a_9 (e2 a_9 (eV 2) (zI 0)) (zI 0)) (eC (.tup [(.str "fixed"),(.str "slide"),(.str "gaps"),(.str "ever")]))) (eOr (ad7 (e2 a_9 (eV 0) (zI 3))) (eF e_6 (aC (e2 a_9 (eV 2) (zI 0)) (aC (eV 1) (aC (e2 a_9 (e2 a_9 (eV 0) (zI 3)) (zI 0)) aN)))))))
 sN)
 (b_7 (sIf (tAnd (tB (e2 d_8 (e2 a_9 (eV 0) (zI 0)) (g_7 (aC (zR "fixed") (aC (zR "slide") (aC (zR "ever") aN)))))) (tB (e2 dEq (e2 a_9 (e2 a_9 (eV 2) (zI 0)) (zI 0)) (zR "pair"))))
 (d_6 (e2 dNe (e2 a_9 (e2 a_9 (eV 0) (zI 3)) (e1 au8 (zI 1))) (zR "sum")))
 sN)
 (d_6 (eF z_8 (aC (eLC [] (eV 2) tYes (e2 d_8 (e2 a_9 (eV 0) (zI 0)) (eC (.tup [(.str "in"),(.str "time"),(.str "only"),(.str "but"),(.str "span"),(.str "rest"),(.str "turn"),(.str "later"),(.str "put"),(.str "pour")])))) aN)))))))
def b_0:List D->Option D:=fnD 2 1 z_6
abbrev g_0:FS :=
 (b_7 (e_3 4 (eF b_4 (aC (eV 3) aN)))
 (b_7 (sIf (tHold 1 (tOr (tB (e2 dGe (eV 2) (zI 24))) (tOr (tB (e2 dIs (eV 4) (eC .non))) (tNot (tV (eF b_0 (aC (eV 4) (aC (eV 1) aN))))))))
 sNo
 sN)
 (sDK 1 (e2 a_9 (eV 4) (zI 1)) (eV 4))))
def s_8:En->Option MO :=
 (bf3 (sIf (tNot (tV (eTy .str (eV 0))))
 sNo
 sN)
 (bf3 (sDN 1)
 (bf3 (ax9 (gT [2,3]) (e2 n_7 (eV 0) (zR "\n"))
 g_0)
 (nFr (ab9 1)))))
def g_4:List D->Option MO:=fnN 1 4 s_8
abbrev c_1:FX :=
 (aR4 (rS (e_3 4 (eF b_4 (aC (eV 3) aN))))
 (aR4 (rIf (tHold 1 (tOr (tB (e2 dGe (eV 2) (zI 24))) (tOr (tB (e2 dIs (eV 4) (eC .non))) (tNot (tV (eF b_0 (aC (eV 4) (aC (eV 1) aN))))))))
 (v_8 (Str.ofString "NoText") (Str.ofString "at") (eV 2))
 (rS sN))
 (rS (sDK 1 (e2 a_9 (eV 4) (zI 1)) (eV 4)))))
def q_8:FX :=
 (aR4 (rIf (tNot (tV (eTy .str (eV 0))))
 (v_8 (Str.ofString "NoText") (Str.ofString "at") (zI 0))
 (rS sN))
 (aR4 (rS (sDN 1))
 (aR4 (az5 (gT [2,3]) (e2 n_7 (eV 0) (zR "\n"))
 c_1)
 (rS (d_6 (eFr (ab9 1)))))))
def f_1:List D->Option (D ⊕ XV):=fnX 1 4 q_8
def l_1:FS :=
 (b_7 (sIf (tB (e2 dLt (eV 1) (eF e_0 (aC (eV 0) aN))))
 (d_6 (e2 a_9 (eV 0) (eV 1)))
 sN)
 (d_6 (zI 0)))
def b_1:List D->Option D:=fnD 2 0 l_1
abbrev f_3:FS :=
 (b_7 (e_3 5 (eV 3))
 (b_7 (sIf (tOr (tB (e2 dLt (eV 0) (e2 au7 (zI 10) (zI 40)))) (tB (e2 dEq (eV 3) (zI 0))))
 (b_7 (e_3 5 (e2 f_4 (e2 af5 (e2 e_7 (e2 e_7 (e2 f_4 (eV 0) (zI 2147483647)) (e2 af5 (zI 7919) (eV 4))) (zI 1)) (zI 48271)) (zI 2147483647)))
 (b_7 (e_3 5 (e2 f_4 (e2 af5 (eV 5) (e2 e_7 (e2 L_8 (eV 5) (zI 1009)) (zI 69621))) (zI 2147483647)))
 (b_7 (e_3 5 (e2 f_4 (e2 af5 (e2 e_7 (eV 5) (e2 af5 (zI 7) (eV 4))) (e2 e_7 (e2 L_8 (eV 5) (zI 677)) (zI 40692))) (zI 2147483399)))
 (e_3 5 (e2 L_8 (eV 5) (zI 3))))))
 sN)
 (b_7 (aI3 2 (e2 f_4 (eV 5) (zI 64)))
 (e_3 3 (e2 L_8 (eV 3) (zI 64))))))
def t_0:FS :=
 (b_7 (aI0 2 (bf1 aN))
 (b_7 (e_3 3 (eV 0))
 (b_7 (D_1 (gN 4) (rng1 (eV 1)) f_3)
 (aI1 2 (d_6 (eV 2))))))
def e_1:List D->Option D:=fnD 2 4 t_0
abbrev h_7:FS :=
 (e_3 2 (e2 e_7 (e2 af5 (eV 2) (zI 64)) (e2 a_9 (eV 0) (e2 e_7 (eV 1) (eV 3)))))
def s_9:FS :=
 (b_7 (e_3 2 (e2 f_4 (e2 a_9 (eV 0) (eV 1)) (zI 16)))
 (b_7 (sIf (tB (e2 dGt (e2 a_9 (eV 0) (eV 1)) (zI 31)))
 (b_7 (D_1 (gN 3) (bz0 (zI 1) (zI 8)) h_7)
 (e_3 2 (e2 f_4 (eV 2) (e2 a_9 (j_2 (aC (zI 100) (aC (zI 1000) (aC (e2 au7 (zI 10) (zI 6)) (aC (e2 au7 (zI 10) (zI 12)) aN))))) (e2 f_4 (e2 a_9 (eV 0) (eV 1)) (zI 4))))))
 sN)
 (b_7 (sIf (tB (e2 dEq (e2 f_4 (e2 L_8 (e2 a_9 (eV 0) (eV 1)) (zI 16)) (zI 2)) (zI 1)))
 (d_6 (e2 L_7 (zI 0) (eV 2)))
 sN)
 (d_6 (eV 2)))))
def a_5:List D->Option D:=fnD 2 2 s_9
def N_1:FS :=
 (b_7 (e_3 2 (eF N_3 (aC (j_2 (aC (eF a_5 (aC (eV 0) (aC (eV 1) aN))) (aC (eF a_5 (aC (eV 0) (aC (e2 e_7 (eV 1) (zI 8)) aN))) aN))) aN)))
 (b_7 (e_3 3 (e2 a_9 (eV 2) (zI 0)))
 (b_7 (e_3 4 (e2 a_9 (eV 2) (zI 1)))
 (b_7 (sIf (tB (e2 dEq (e2 f_4 (e2 a_9 (eV 0) (e2 e_7 (eV 1) (zI 16))) (zI 4)) (zI 1)))
 (d_6 (g_7 (aC (eC .non) (aC (eV 4) aN))))
 sN)
 (b_7 (sIf (tB (e2 dEq (e2 f_4 (e2 a_9 (eV 0) (e2 e_7 (eV 1) (zI 16))) (zI 4)) (zI 2)))
 (d_6 (g_7 (aC (eV 3) (aC (eC .non) aN))))
 sN)
 (b_7 (sIf (tB (e2 dEq (e2 f_4 (e2 a_9 (eV 0) (e2 e_7 (eV 1) (zI 16))) (zI 8)) (zI 3)))
 (d_6 (g_7 (aC (eC .non) (aC (eC .non) aN))))
 sN)
 (d_6 (g_7 (aC (eV 3) (aC (eV 4) aN))))))))))
def g_9:List D->Option D:=fnD 2 3 N_1
abbrev i_0:FS :=
 (b_7 (e_3 6 (e2 a_9 (eV 3) (e2 f_4 (e2 e_7 (e2 a_9 (eV 0) (eV 1)) (e2 af5 (zI 7) (eV 5))) (zI 26))))
 (b_7 (e_3 7 (e2 a_9 (eV 3) (e2 f_4 (e2 a_9 (eV 0) (e2 e_7 (e2 e_7 (eV 1) (zI 1)) (eV 5))) (zI 26))))
 (aI3 4 (e2 e_7 (eV 6) (e2 aE9 (eV 7) (e2 f_4 (e2 a_9 (eV 0) (e2 e_7 (e2 e_7 (eV 1) (zI 2)) (eV 5))) (zI 8)))))))
def B_7:FS :=
 (b_7 (e_3 3 (zR "abcdefghijklmnopqrstuvwxyz"))
 (b_7 (aI0 4 (bf1 aN))
 (b_7 (D_1 (gN 5) (rng1 (eV 2)) i_0)
 (aI1 4 (d_6 (eV 4))))))
def c_3:List D->Option D:=fnD 3 5 B_7
def p_0:FS :=
 (b_7 (sIf (tOr (tB (e2 dEq (eV 0) (zR "in"))) (tB (e2 dEq (eV 0) (zR "span"))))
 (d_6 (eF g_9 (aC (eV 1) (aC (zI 20) aN))))
 sN)
 (b_7 (sIf (tB (e2 dEq (eV 0) (zR "time")))
 (b_7 (e_3 4 (e2 f_4 (eF af6 (aC (eF a_5 (aC (eV 1) (aC (zI 20) aN))) aN)) (e2 au7 (zI 10) (zI 11))))
 (b_7 (e_3 5 (e2 f_4 (eF af6 (aC (eF a_5 (aC (eV 1) (aC (zI 28) aN))) aN)) (e2 au7 (zI 10) (zI 11))))
 (d_6 (g_7 (aC (eV 4) (aC (e2 a_9 (j_2 (aC (eC .non) (aC (e2 e_7 (e2 e_7 (eV 4) (zI 1)) (eV 5)) aN))) (e2 f_4 (e2 a_9 (eV 1) (zI 37)) (zI 2))) aN))))))
 sN)
 (b_7 (sIf (tOr (tB (e2 dEq (eV 0) (zR "only"))) (tB (e2 dEq (eV 0) (zR "but"))))
 (d_6 (eF m_3 (aC (eF c_3 (aC (eV 1) (aC (zI 20) (aC (e2 e_7 (zI 1) (e2 f_4 (e2 a_9 (eV 1) (zI 31)) (zI 8))) aN)))) aN)))
 sN)
 (b_7 (sIf (tB (e2 dEq (eV 0) (zR "rest")))
 (b_7 (e_3 6 (e2 e_7 (zI 2) (e2 f_4 (eF af6 (aC (eF a_5 (aC (eV 1) (aC (zI 20) aN))) aN)) (zI 999))))
 (d_6 (g_7 (aC (eV 6) (aC (e2 f_4 (eF af6 (aC (eF a_5 (aC (eV 1) (aC (zI 28) aN))) aN)) (eV 6)) aN)))))
 sN)
 (b_7 (sIf (tB (e2 dEq (eV 0) (zR "turn")))
 (b_7 (e_3 6 (e2 L_7 (e2 f_4 (eF a_5 (aC (eV 1) (aC (zI 20) aN))) (zI 2001)) (zI 1000)))
 (d_6 (g_7 (aC (e2 a_9 (j_2 (aC (eV 6) (aC (zI 1) aN))) (eF av1 (aC (e2 dEq (eV 6) (zI 0)) aN))) (aC (eF a_5 (aC (eV 1) (aC (zI 28) aN))) aN)))))
 sN)
 (b_7 (sIf (tB (e2 dEq (eV 0) (zR "later")))
 (d_6 (g_7 (aC (eF af6 (aC (eF a_5 (aC (eV 1) (aC (zI 20) aN))) aN)) aN)))
 sN)
 (b_7 (e_3 2 (eF c_3 (aC (eV 1) (aC (zI 20) (aC (e2 e_7 (zI 1) (e2 f_4 (e2 a_9 (eV 1) (zI 31)) (zI 4))) aN)))))
 (b_7 (e_3 3 (e1 bu7 (eV 2)))
 (b_7 (sIf (tB (e2 dGt (e2 f_4 (e2 a_9 (eV 1) (zI 32)) (zI 3)) (zI 0)))
 (e_3 3 (eFr (aT9 (aC (e2 a_9 (j_2 (aC (e2 a_9 (eF c_3 (aC (eV 1) (aC (zI 33) (aC (zI 1) aN)))) (zI 0)) (aC (zR "z") aN))) (e2 f_4 (e2 a_9 (eV 1) (zI 32)) (zI 2))) aN) (eF e_0 (aC (eV 2) aN)))))
 sN)
 (d_6 (eF m_3 (aC (eLZ [] (eV 2) (eV 3) tYes (g_7 (aC (eV 0) (aC (eV 1) aN)))) aN))))))))))))
def c_0:List D->Option D:=fnD 2 5 p_0
def B_8:FS :=
 (b_7 (e_3 3 (e2 a_9 (j_2 (aC (zR "count") (aC (zR "most") (aC (zR "least") (aC (zR "sum") aN))))) (e2 f_4 (e2 a_9 (eV 1) (zI 40)) (e2 e_7 (zI 3) (eF av1 (aC (eV 2) aN))))))
 (b_7 (e_3 4 (e2 e_7 (zI 1) (e2 f_4 (eF af6 (aC (eF a_5 (aC (eV 1) (aC (zI 20) aN))) aN)) (e2 au7 (zI 10) (zI 10)))))
 (b_7 (sIf (tB (e2 dEq (eV 0) (zR "ever")))
 (d_6 (g_7 (aC (eV 3) aN)))
 sN)
 (b_7 (sIf (tB (e2 dEq (eV 0) (zR "slide")))
 (d_6 (g_7 (aC (e2 e_7 (e2 e_7 (eV 4) (zI 1)) (e2 af5 (e2 f_4 (e2 a_9 (eV 1) (zI 41)) (zI 19)) (eV 4))) (aC (eV 4) (aC (eV 3) aN)))))
 sN)
 (d_6 (g_7 (aC (eV 4) (aC (eV 3) aN))))))))
def g_6:List D->Option D:=fnD 3 2 B_8
def p_1:FS :=
 (b_7 (sIf (tOr (tB (e2 dEq (e2 f_4 (e2 a_9 (eV 2) (zI 42)) (zI 2)) (zI 0))) (tOr (tB (e2 dEq (e2 a_9 (eV 0) (zI 0)) (zR "gaps"))) (tB (e2 dEq (e2 a_9 (e2 a_9 (eV 0) (zI 3)) (e1 au8 (zI 1))) (zR "sum")))))
 (d_6 (g_7 aN))
 sN)
 (b_7 (sIf (tB (e2 dEq (e2 a_9 (e2 a_9 (eLC [0] (eV 1) (tB (e2 dEq (e2 a_9 (eV 0) (zI 1)) (e2 a_9 (e2 a_9 (eV 1) (zI 2)) (zI 0)))) (eV 0)) (zI 0)) (zI 0)) (zR "pair")))
 (d_6 (g_7 aN))
 sN)
 (b_7 (bx6 [3,4] (eF g_9 (aC (eV 2) (aC (zI 20) aN))))
 (b_7 (sIf (tB (e2 dEq (e2 a_9 (e2 a_9 (eV 0) (zI 3)) (e1 au8 (zI 1))) (zR "count")))
 (b_7 (e_3 3 (e2 e_7 (zI 1) (e2 f_4 (e2 a_9 (eV 2) (zI 43)) (zI 50))))
 (e_3 4 (e2 a_9 (j_2 (aC (eC .non) (aC (e2 e_7 (eV 3) (e2 a_9 (eV 2) (zI 44))) aN))) (e2 f_4 (e2 a_9 (eV 2) (zI 45)) (zI 2)))))
 sN)
 (d_6 (g_7 (aC (eV 3) (aC (eV 4) aN))))))))
def g_2:List D->Option D:=fnD 3 2 p_1
def N_2:FS :=
 (b_7 (e_3 2 (j_2 (aC (zR "in") (aC (zR "time") (aC (zR "only") (aC (zR "but") (aC (zR "span") (aC (zR "rest") (aC (zR "turn") (aC (zR "later") (aC (zR "put") (aC (zR "pour") (aC (zR "pair") aN)))))))))))))
 (b_7 (e_3 2 (e2 e_7 (eV 2) (j_2 (aC (zR "fixed") (aC (zR "slide") (aC (zR "gaps") (aC (zR "ever") (aC (zR "ask") (aC (zR "ask") (aC (zR "fixed") aN))))))))))
 (b_7 (e_3 3 (e2 a_9 (eV 2) (e2 f_4 (e2 a_9 (eV 1) (zI 0)) (eF e_0 (aC (eV 2) aN)))))
 (b_7 (e_3 4 (eLC [2] (eV 0) (tB (e2 d_8 (e2 a_9 (eV 0) (zI 0)) (q_4 (eV 1) oN (oS (zI 10))))) (e2 a_9 (eV 0) (zI 1))))
 (b_7 (e_3 5 (eLC [2] (eV 0) (tB (e2 d_8 (e2 a_9 (eV 0) (zI 0)) (q_4 (eV 1) (oS (zI 11)) (oS (zI 15))))) (eV 0)))
 (b_7 (e_3 6 (eLC [] (eV 0) (tB (e2 dEq (e2 a_9 (eV 0) (zI 0)) (zR "pair"))) (e2 a_9 (eV 0) (zI 1))))
 (b_7 (e_3 7 (e2 e_7 (e2 a_9 (zR "qhbxdmaztgkpcwrvfnyjuesl") (eF e_0 (aC (eV 0) aN))) (q_4 (e2 a_9 (eF c_3 (aC (eV 1) (aC (zI 46) (aC (zI 1) aN)))) (zI 0)) oN (oS (zI 7)))))
 (b_7 (e_3 8 (eLR [4,1] (rng1 (zI 2)) tYes (e2 a_9 (e2 e_7 (eV 1) (j_2 (aC (zR "a") aN))) (e2 f_4 (e2 a_9 (eV 2) (e2 e_7 (zI 1) (eV 0))) (eF be0 (aC (zI 1) (aC (eF e_0 (aC (eV 1) aN)) aN)))))))
 (b_7 (sIf (tOr (tB (e2 dEq (eV 4) (j_2 aN))) (tOr (tAnd (tB (e2 dEq (eV 3) (zR "ask"))) (tB (e2 dEq (eV 5) (j_2 aN)))) (tAnd (tB (e2 dEq (eV 3) (zR "pour"))) (tB (e2 dLt (eF e_0 (aC (eV 4) aN)) (zI 2))))))
 (e_3 3 (zR "in"))
 sN)
 (b_7 (sIf (tB (e2 dEq (eV 3) (zR "in")))
 (d_6 (g_7 (aC (zR "in") (aC (eV 7) (aC (g_7 aN) (aC (eF c_0 (aC (zR "in") (aC (eV 1) aN))) aN))))))
 sN)
 (b_7 (sIf (tB (e2 dEq (eV 3) (zR "pour")))
 (b_7 (e_3 9 (e2 e_7 (zI 2) (e2 f_4 (e2 a_9 (eV 1) (zI 3)) (eF bw1 (aC (zI 7) (aC (e2 L_7 (eF e_0 (aC (eV 4) aN)) (zI 1)) aN))))))
 (d_6 (g_7 (aC (eV 3) (aC (eV 7) (aC (eF m_3 (aC (q_4 (e1 bu7 (eV 4)) oN (oS (eV 9))) aN)) (aC (g_7 aN) aN)))))))
 sN)
 (b_7 (sIf (tB (e2 dEq (eV 3) (zR "pair")))
 (b_7 (e_3 10 (e2 a_9 (j_2 (aC (zR "sum") (aC (zR "less") (aC (zR "left") (aC (zR "right") aN))))) (e2 f_4 (e2 a_9 (eV 1) (zI 5)) (zI 4))))
 (d_6 (g_7 (aC (eV 3) (aC (eV 7) (aC (eF m_3 (aC (eV 8) aN)) (aC (g_7 (aC (eF af6 (aC (eF a_5 (aC (eV 1) (aC (zI 20) aN))) aN)) (aC (eV 10) aN))) aN)))))))
 sN)
 (b_7 (sIf (tB (e2 dEq (eV 3) (zR "ask")))
 (b_7 (e_3 11 (e2 a_9 (eV 5) (e2 f_4 (e2 a_9 (eV 1) (zI 1)) (eF e_0 (aC (eV 5) aN)))))
 (d_6 (g_7 (aC (eV 3) (aC (eV 7) (aC (g_7 (aC (e2 a_9 (eV 11) (zI 1)) aN)) (aC (eF g_2 (aC (eV 11) (aC (eV 0) (aC (eV 1) aN)))) aN)))))))
 sN)
 (b_7 (sIf (tB (e2 d_8 (eV 3) (q_4 (eV 2) (oS (zI 11)) (oS (zI 15)))))
 (b_7 (e_3 12 (eOr (e2 dEq (eV 3) (zR "gaps")) (eOr (e2 dEq (eV 6) (j_2 aN)) (e2 dEq (e2 f_4 (e2 a_9 (eV 1) (zI 4)) (zI 2)) (zI 0)))))
 (b_7 (e_3 13 (e2 a_9 (e2 a_9 (j_2 (aC (e2 e_7 (eV 6) (eV 8)) (aC (eV 8) aN))) (eF av1 (aC (eV 12) aN))) (zI 0)))
 (d_6 (g_7 (aC (eV 3) (aC (eV 7) (aC (g_7 (aC (eV 13) aN)) (aC (eF g_6 (aC (eV 3) (aC (eV 1) (aC (eV 12) aN)))) aN))))))))
 sN)
 (d_6 (g_7 (aC (eV 3) (aC (eV 7) (aC (g_7 (aC (e2 a_9 (eV 8) (zI 0)) aN)) (aC (eF c_0 (aC (eV 3) (aC (eV 1) aN))) aN))))))))))))))))))))
def f_9:List D->Option D:=fnD 2 12 N_2
abbrev d_2:FS :=
 (sIf (tV (eTy .tuple (eV 2)))
 (by8 1 (eF at4 (aC (eV 2) aN)))
 (aI3 1 (e2 a_9 (j_2 (aC (eF bg6 (aC (eV 2) aN)) (aC (zR "*") aN))) (eF av1 (aC (e2 dIs (eV 2) (eC .non)) aN)))))
def y_3:FS :=
 (b_7 (aI0 1 (oFr (e2 e_7 (j_2 (aC (e2 a_9 (eV 0) (zI 0)) (aC (e2 a_9 (eV 0) (zI 1)) aN))) (eF at4 (aC (e2 a_9 (eV 0) (zI 2)) aN)))))
 (b_7 (by1 (gN 2) (e2 a_9 (eV 0) (zI 3))
 d_2)
 (aI1 1 (d_6 (t_9 (Str.ofString " ") (eV 1))))))
def c_8:List D->Option D:=fnD 1 2 y_3
def f_0:List D->Option D:=bU6 f_1
def k_0:FS :=
 (b_7 (e_3 3 (e2 a_9 (eV 0) (eV 1)))
 (b_7 (e_3 4 (eF c_8 (aC (eV 3) aN)))
 (b_7 (e_3 5 (e2 n_7 (eV 4) (zR " ")))
 (b_7 (e_3 6 (e2 f_4 (eV 2) (zI 10)))
 (b_7 (sIf (tB (e2 dEq (eV 6) (zI 0)))
 (b_7 (e_3 7 (eLR [4] (rng1 (eF e_0 (aC (eV 4) aN))) (tB (e2 dEq (e2 a_9 (eV 1) (eV 0)) (zR " "))) (eV 0)))
 (b_7 (e_3 8 (e2 a_9 (eV 7) (e2 f_4 (e2 L_8 (eV 2) (zI 10)) (eF e_0 (aC (eV 7) aN)))))
 (d_6 (e2 e_7 (e2 e_7 (q_4 (eV 4) oN (oS (eV 8))) (zR " ")) (q_4 (eV 4) (oS (eV 8)) oN)))))
 sN)
 (b_7 (sIf (tB (e2 dEq (eV 6) (zI 1)))
 (d_6 (e2 e_7 (eV 4) (e2 a_9 (j_2 (aC (zR " -") (aC (zR " ") (aC (zR " *x") (aC (zR " Q") aN))))) (e2 f_4 (e2 L_8 (eV 2) (zI 10)) (zI 4)))))
 sN)
 (b_7 (sIf (tB (e2 dEq (eV 6) (zI 2)))
 (d_6 (t_9 (Str.ofString " ") (e2 e_7 (j_2 (aC (e2 a_9 (j_2 (aC (zR "ins") (aC (zR "In") (aC (zR "") (aC (zR "sum") (aC (zR "askk") aN)))))) (e2 f_4 (e2 L_8 (eV 2) (zI 10)) (zI 5))) aN)) (q_4 (eV 5) (oS (zI 1)) oN))))
 sN)
 (b_7 (sIf (tAnd (tB (e2 dEq (eV 6) (zI 3))) (tB (e2 dGt (eV 1) (zI 0))))
 (d_6 (t_9 (Str.ofString " ") (e2 e_7 (j_2 (aC (e2 a_9 (eV 5) (zI 0)) (aC (e2 a_9 (e2 a_9 (eV 0) (e2 f_4 (e2 L_8 (eV 2) (zI 10)) (eV 1))) (zI 1)) aN))) (q_4 (eV 5) (oS (zI 2)) oN))))
 sN)
 (b_7 (sIf (tB (e2 dEq (eV 6) (zI 4)))
 (b_7 (e_3 9 (e2 a_9 (j_2 (aC (zR "") (aC (e2 e_7 (e2 a_9 (eV 5) (zI 1)) (zR "A")) (aC (zR "abcdefghi") (aC (zR "a1") (aC (zR "-") aN)))))) (e2 f_4 (e2 L_8 (eV 2) (zI 10)) (zI 5))))
 (d_6 (t_9 (Str.ofString " ") (e2 e_7 (j_2 (aC (e2 a_9 (eV 5) (zI 0)) (aC (eV 9) aN))) (q_4 (eV 5) (oS (zI 2)) oN)))))
 sN)
 (b_7 (sIf (tAnd (tB (e2 dEq (eV 6) (zI 5))) (tB (e2 dNe (e2 a_9 (eV 3) (zI 2)) (g_7 aN))))
 (b_7 (e_3 10 (e2 a_9 (j_2 (aC (e2 a_9 (eV 3) (zI 1)) (aC (zR "nowhere") (aC (zR "") aN)))) (e2 f_4 (e2 L_8 (eV 2) (zI 10)) (zI 3))))
 (d_6 (t_9 (Str.ofString " ") (e2 e_7 (e2 e_7 (q_4 (eV 5) oN (oS (zI 2))) (j_2 (aC (eV 10) aN))) (q_4 (eV 5) (oS (zI 3)) oN)))))
 sN)
 (b_7 (sIf (tB (e2 dEq (eV 6) (zI 6)))
 (d_6 (t_9 (Str.ofString " ") (q_4 (eV 5) oN (oS (e2 e_7 (zI 1) (e2 f_4 (e2 L_8 (eV 2) (zI 10)) (zI 2)))))))
 sN)
 (b_7 (sIf (tB (e2 dEq (eV 6) (zI 7)))
 (d_6 (e2 e_7 (zR " ") (eV 4)))
 sN)
 (d_6 (e2 a_9 (j_2 (aC (zR "") (aC (zR " ") (aC (zR "x") (aC (zR "in") aN))))) (e2 f_4 (e2 L_8 (eV 2) (zI 10)) (zI 4))))))))))))))))
def g_5:List D->Option D:=fnD 3 8 k_0
def m_2:FS :=
 (b_7 (e_3 3 (eLR [0] (rng1 (e2 L_7 (eF e_0 (aC (eV 0) aN)) (zI 1))) (tB (e2 d_8 (e2 a_9 (e2 a_9 (eV 1) (eV 0)) (zI 1)) (e2 a_9 (e2 a_9 (eV 1) (e2 e_7 (eV 0) (zI 1))) (zI 2)))) (eV 0)))
 (b_7 (sIf (tB (e2 dEq (eV 3) (j_2 aN)))
 (d_6 (eC (.bl true)))
 sN)
 (b_7 (e_3 4 (e2 a_9 (eV 3) (e2 f_4 (eV 2) (eF e_0 (aC (eV 3) aN)))))
 (b_7 (e_3 5 (e2 e_7 (e2 e_7 (q_4 (eV 1) oN (oS (eV 4))) (j_2 (aC (e2 a_9 (eV 1) (e2 e_7 (eV 4) (zI 1))) (aC (e2 a_9 (eV 1) (eV 4)) aN)))) (q_4 (eV 1) (oS (e2 e_7 (eV 4) (zI 2))) oN)))
 (d_6 (eF f_0 (aC (t_9 (Str.ofString "\n") (eV 5)) (aC (eV 4) aN))))))))
def e_8:List D->Option D:=fnD 3 3 m_2
abbrev w_7:FS :=
 (aI3 1 (eHoldL 1 (eF f_9 (aC (eV 1) (aC (eF e_1 (aC (eF b_1 (aC (eV 0) (aC (e2 e_7 (zI 3) (eV 2)) aN))) (aC (zI 60) aN))) aN)))))
def bw0:FS :=
 (b_7 (aI0 1 (bf1 aN))
 (b_7 (D_1 (gN 2) (rng1 (e2 e_7 (zI 1) (e2 f_4 (eF b_1 (aC (eV 0) (aC (zI 0) aN))) (zI 9)))) w_7)
 (b_7 (aI1 1 (e_3 3 (eLC [] (eV 1) tYes (eF c_8 (aC (eV 0) aN)))))
 (b_7 (sIf (tB (e2 dNe (eNL g_4 (aC (t_9 (Str.ofString "\n") (eV 3)) aN)) (eV 1)))
 (d_6 (eC (.bl false)))
 sN)
 (b_7 (sIf (tNot (tV (eF e_8 (aC (eV 1) (aC (eV 3) (aC (eF b_1 (aC (eV 0) (aC (zI 1) aN))) aN))))))
 (d_6 (eC (.bl false)))
 sN)
 (b_7 (e_3 4 (e2 f_4 (eF b_1 (aC (eV 0) (aC (zI 1) aN))) (eF e_0 (aC (eV 1) aN))))
 (b_7 (e_3 5 (eF g_5 (aC (eV 1) (aC (eV 4) (aC (eF b_1 (aC (eV 0) (aC (zI 2) aN))) aN)))))
 (d_6 (eF f_0 (aC (t_9 (Str.ofString "\n") (e2 e_7 (e2 e_7 (q_4 (eV 3) oN (oS (eV 4))) (j_2 (aC (eV 5) aN))) (q_4 (eV 3) (oS (e2 e_7 (eV 4) (zI 1))) oN))) (aC (eV 4) aN)))))))))))
def ac6:List D->Option D:=fnD 1 5 bw0
end
end Fx
namespace Fx
open PySem PySem.Spec PyProof.Rows L2
def top (i:Nat):Stmt:=PySem.Challenge.pw_latewell_k22_spoilt_works.main.body.getD i (.Pass ⟨0,0,0,0⟩)
abbrev T_8:Stmt:=match top 6 with
 |.ClassDef _ _ _ b ..=>b.getD 0 (.Pass ⟨0,0,0,0⟩)
 |s=>s
structure EnD (K:Frag) (mg:Str->Option Value) (x:Str) (st:Stmt) (ps:List Str) (f:Addr) (fd:FuncData):Prop where
 F:Fun K x x st f fd
 b:Binds K fd ps []
 m:mg x=some (.ref f)
theorem EnD.ok {P:Program}{w:World}{K:Frag}{mg:Str->Option Value}{base:Heap}{x:Str}{st:Stmt}{ps:List Str}{f:Addr}{fd:FuncData}{k:Nat}{g:List D->Option D} (E:EnD K mg x st ps f fd) (h:FnOk P w K mg base CX0 k f fd ps (spP K g)):DefOk P w K mg base k x g:=⟨f,fd,ps,h,E.b,E.F.kp,E.m⟩
theorem scO {N P:List Str}{sc:Scope} (a:sc.kind=.function:=by rfl) (b:sc.isCoroutine=false:=by rfl) (c:sc.isGenerator=false:=by rfl) (d:N.Nodup:=by decide +kernel) (e:N.take P.length=P:=by rfl) (f:∀ x∈P,sc.names.lookup x=some .local\/sc.names.lookup x=some .cell:=by decide +kernel) (g:∀ y∈sc.names,y.2≠.free:=by decide +kernel):FnScope N P sc:=⟨a,b,c,d,e,f,g⟩
theorem scB {N:List Str}{sc scope:Scope}{x:Str}{frees:List Str}{js:List Nat} (a:scope.kind=.function:=by rfl) (b:sc.kind=.function:=by rfl) (c:∀ y∈scope.names,y.2≠.cell:=by decide +kernel) (d:∀ y∈scope.names,y.2=.local->scope.names.lookup y.1=some .local:=by decide +kernel) (e:scope.names.lookup x=some .local:=by rfl) (f:∀ y∈scope.names,y.2=.free->sc.names.lookup y.1=some .cell:=by decide +kernel) (g:(x::frees).Nodup:=by decide +kernel) (h:frees.length=js.length:=by rfl) (i:∀ p∈frees.zip js,N[p.2]?=some p.1/\sc.names.lookup p.1=some .cell/\scope.names.lookup p.1=some .free:=by decide +kernel):ScB N sc scope x frees js:=⟨a,b,c,d,e,f,g,h,i⟩
structure Blt (w:World) (K:Frag) (mg:Str->Option Value):Prop where
 z_abs:mg "abs"=none
 z_len:mg "len"=none
 z_max:mg "max"=none
 z_min:mg "min"=none
 z_any:mg "any"=none
 z_all:mg "all"=none
 z_range:mg "range"=none
 z_isinstance:mg "isinstance"=none
 z_int:mg "int"=none
 z_bool:mg "bool"=none
 z_str:mg "str"=none
 z_tuple:mg "tuple"=none
 z_list:mg "list"=none
 z_sorted:mg "sorted"=none
 z_dict:mg "dict"=none
 z_set:mg "set"=none
 z_sum:mg "sum"=none
 z_zip:mg "zip"=none
 z_enumerate:mg "enumerate"=none
 z_reversed:mg "reversed"=none
 c_LETTERS:∃ t,mg "LETTERS"=some (.str "abcdefghijklmnopqrstuvwxyz" t)
 c_LONGEST:∃ t,mg "LONGEST"=some (.int 8 t)
 c_CHAINS:∃ a,mg "CHAINS"=some (.ref a) ∧ KV1 K (.tup [(.str "in"),(.str "time"),(.str "only"),(.str "but"),(.str "span"),(.str "rest"),(.str "turn"),(.str "later"),(.str "put"),(.str "pour")]) (.ref a)
 c_FOLDS:∃ a,mg "FOLDS"=some (.ref a) ∧ KV1 K (.tup [(.str "fixed"),(.str "slide"),(.str "gaps"),(.str "ever")]) (.ref a)
 c_FROM_PLACES:∃ a,mg "FROM_PLACES"=some (.ref a) ∧ KV1 K (.tup [(.str "FROM"),(.str "LEFT"),(.str "RIGHT")]) (.ref a)
 c_KEY_PLACES:∃ a,mg "KEY_PLACES"=some (.ref a) ∧ KV1 K (.tup [(.str "NAME"),(.str "FROM"),(.str "LEFT"),(.str "RIGHT"),(.str "KEY"),(.str "OTHER")]) (.ref a)
 c_BOUND_PLACES:∃ a,mg "BOUND_PLACES"=some (.ref a) ∧ KV1 K (.tup [(.str "LOW"),(.str "HIGH"),(.str "END")]) (.ref a)
 c_HOWS:∃ a,mg "HOWS"=some (.ref a) ∧ KV1 K (.tup [(.str "sum"),(.str "less"),(.str "left"),(.str "right")]) (.ref a)
 c_FOLD_WORDS:∃ a,mg "FOLD_WORDS"=some (.ref a) ∧ KV1 K (.tup [(.str "count"),(.str "sum"),(.str "most"),(.str "least")]) (.ref a)
 c_FIGURES:∃ t,mg "FIGURES"=some (.str "0123456789" t)
 c_MOST_FIGURES:∃ t,mg "MOST_FIGURES"=some (.int 12 t)
 c_MOST_ROWS:∃ t,mg "MOST_ROWS"=some (.int 24 t)
 c_MOST_COUNTED:∃ t,mg "MOST_COUNTED"=some (.int 50 t)
 c_FORMS:∃ a,mg "FORMS"=some (.ref a) ∧ bC6 w K a lit0
 xn:∃ c0 c2 fI fd,XIn K mg "NoText" "WellError" "at" "NoText.__init__" T_8 c0 c2 fI fd
 xr:∃ c0 d1 d2 d3 d4 d5 d6,RfN K mg c0 d1 d2 d3 d4 d5 d6
section
variable {P:Program}{w:World}{K:Frag}{mg:Str->Option Value}{base:Heap}
abbrev p_7:Stmt:=top 12
theorem ah9:FnScope ["x"] ["x"] (a_2 p_7):=scO
theorem ak9 {f:Addr}{fd:FuncData} (En0:EnD K mg "is_key" p_7 ["x"] f fd) (T:Blt w K mg) :DefOk P w K mg base 1 "is_key" d_7 :=
 En0.ok (i_5 En0.F ah9 rfl rfl (λ q A outer s H E O =>
 (xsC (i_1 (xw (H_7 (t_5 (xtv (xty (t:=.str) T.z_isinstance T.z_str Zk (xv 0)) (λ _=>rfl))) (t_4 (t_5 (xt3 cLe cLe a_6 (xB c_6 rfl T.z_len zr (xaC (xv 0) xaN)) (bh6 T.c_LONGEST))))))
 (xs1 (g_1 xbl))
 xsN)
 (xs1 (g_1 (xB (x_8 rfl) rfl T.z_all Qq (xaC (xlc (sc:=a_2 p_7) rfl rfl (by show ScB ["x"] (a_2 p_7) _ "sign" [] [];exact scB) (xv 0) (λ _ _ _ _=>k_1) (λ _ _ _ _=>(n_1 H_6 (xv 0) (bS5 T.c_LETTERS)))) xaN)))))))
abbrev i_9:Stmt:=top 26
theorem Sa:FnScope ["word","figures"] ["word"] (a_2 i_9):=scO
theorem J_8 {f:Addr}{fd:FuncData} (En0:EnD K mg "is_number" i_9 ["word"] f fd) (T:Blt w K mg) :DefOk P w K mg base 1 "is_number" c_9 :=
 En0.ok (i_5 En0.F Sa rfl rfl (λ O A outer s H E q =>
 (xsC (j_4 1 Sa.nd (xif (xtv (aO1 (xv 0) c_7) (λ _=>rfl)) (A_0 (xv 0) (xoS a_6) xoN) (xv 0)))
 (xsC (i_1 (xw (H_7 (t_5 (xt3 cLe cLe a_6 (xB c_6 rfl T.z_len zr (xaC (xv 1) xaN)) (bh6 T.c_MOST_FIGURES))) (t_4 (t_5 (xtv (xB (x_8 rfl) rfl T.z_all Qq (xaC (xlc (sc:=a_2 i_9) rfl rfl (by show ScB ["word","figures"] (a_2 i_9) _ "sign" [] [];exact scB) (xv 1) (λ _ _ _ _=>k_1) (λ _ _ _ _=>(n_1 H_6 (xv 0) (bS5 T.c_FIGURES)))) xaN)) (λ _=>rfl))))))
 (xs1 (g_1 xbl))
 xsN)
 (xs1 (g_1 (xor (n_1 (cEq q.units) (xv 0) c_7) (H_3 (n_1 (cNe q.units) (d_0 (xv 1) a_6) c_7)))))))))
abbrev o_1:Stmt:=top 27
theorem Sb:FnScope ["word","count","form","places"] ["word","count"] (a_2 o_1):=scO
theorem J_4 {f:Addr}{fd:FuncData} (En0:EnD K mg "places_of" o_1 ["word","count"] f fd) (T:Blt w K mg) :DefOk P w K mg base 1 "places_of" b_9 :=
 En0.ok (i_5 En0.F Sb rfl rfl (λ O A outer s H E q =>
 (xsC (j_4 2 Sb.nd (xif (xw (aa2 (xt (cEq q.units) (xv 0) c_7) (z_9 (xt cGt (xv 1) a_6)))) (xb h_5 (xkd T.c_FORMS (xv 0)) c_7) (xkd T.c_FORMS (xv 0))))
 (xsC (bh3 3 Sb.nd (aO2 (xv 2) c_7))
 (xsC (i_1 (cc8 3 (xt (cEq q.units) (d_0 (xv 3) (aO4 a_6)) c_7))
 (xsC (cc9 3)
 (xs1 (cd3 3 (bh4 (xaC (xhl 3 (d_0 (xv 3) (aO4 a_6))) xaN) (xb aT8 (xv 1) (xhl 3 (xB c_6 rfl T.z_len zr (xaC (xv 3) xaN))))))))
 xsN)
 (xs1 (bh7 3 (g_1 (xv 3)))))))))
abbrev ai0:Stmt:=top 28
theorem aP9:FnScope ["place","word"] ["place","word"] (a_2 ai0):=scO
theorem aT6 {f:Addr}{fd:FuncData} (En0:EnD K mg "fits" ai0 ["place","word"] f fd) (T:Blt w K mg) (gi:DefOk P w K mg base 1 "is_key" d_7) (gj:DefOk P w K mg base 1 "is_number" c_9):DefOk P w K mg base 2 "fits" d_4 :=
 En0.ok (i_5 En0.F aP9 rfl rfl (λ O A outer s H E q =>
 (xsC (i_1 (xt H_6 (xv 0) (aO6 T.c_KEY_PLACES))
 (xs1 (g_1 (xG gi q (xaC (xv 1) xaN))))
 xsN)
 (xsC (i_1 (xt (cEq q.units) (xv 0) c_7)
 (xs1 (g_1 (n_1 H_6 (xv 1) (aO6 T.c_HOWS))))
 xsN)
 (xsC (i_1 (xt (cEq q.units) (xv 0) c_7)
 (xs1 (g_1 (n_1 H_6 (xv 1) (aO6 T.c_FOLD_WORDS))))
 xsN)
 (xs1 (g_1 (xor (xG gj q (xaC (xv 1) xaN)) (H_3 (aw0 (n_1 (cEq q.units) (xv 1) c_7) (H_3 (n_1 H_6 (xv 0) (aO6 T.c_BOUND_PLACES)))))))))))))
abbrev l_5:Stmt:=top 29
theorem C_8:FnScope ["word"] ["word"] (a_2 l_5):=scO
theorem D_8 {f:Addr}{fd:FuncData} (En0:EnD K mg "word_value" l_5 ["word"] f fd) (T:Blt w K mg) (gi:DefOk P w K mg base 1 "is_number" c_9):DefOk P w K mg base 2 "word_value" c_4 :=
 En0.ok (i_5 En0.F C_8 rfl rfl (λ O A outer s H E q =>
 (xsC (i_1 (xt (cEq q.units) (xv 0) c_7)
 (xs1 (g_1 H_8))
 xsN)
 (xs1 (g_1 (xif (xtv (xG gi q (xaC (xv 0) xaN)) (λ _=>rfl)) (xTy aF6 rfl T.z_int Qp (xaC (xv 0) xaN)) (xv 0)))))))
abbrev r_6:Stmt:=top 30
theorem O_5:FnScope ["low","high"] ["low","high"] (a_2 r_6):=scO
theorem P_5 {f:Addr}{fd:FuncData} (En0:EnD K mg "in_order" r_6 ["low","high"] f fd) (T:Blt w K mg) :DefOk P w K mg base 1 "in_order" m_7 :=
 En0.ok (i_5 En0.F O_5 rfl rfl (λ q A outer s H E O =>
 (xs1 (g_1 (xor (n_1 cIs (xv 0) H_8) (xor (n_1 cIs (xv 1) H_8) (H_3 (n_1 cLe (xv 0) (xv 1)))))))))
abbrev l_8:Stmt:=top 31
theorem C_9:FnScope ["names"] ["names"] (a_2 l_8):=scO
theorem E_3 {f:Addr}{fd:FuncData} (En0:EnD K mg "are_unlike" l_8 ["names"] f fd) (T:Blt w K mg) :DefOk P w K mg base 1 "are_unlike" e_9 :=
 En0.ok (i_5 En0.F C_9 rfl rfl (λ O A outer s H E q =>
 (xs1 (g_1 (n_1 (cEq q.units) (aO5 T.z_set T.z_len (xv 0)) (xB c_6 rfl T.z_len zr (xaC (xv 0) xaN)))))))
abbrev k_2:Stmt:=top 32
theorem v_3:FnScope ["word","froms","rest"] ["word","froms","rest"] (a_2 k_2):=scO
theorem w_1 {f:Addr}{fd:FuncData} (En0:EnD K mg "keeps_bounds" k_2 ["word","froms","rest"] f fd) (T:Blt w K mg) (gi:DefOk P w K mg base 1 "are_unlike" e_9) (gj:DefOk P w K mg base 1 "in_order" m_7):DefOk P w K mg base 2 "keeps_bounds" a_3 :=
 En0.ok (i_5 En0.F v_3 rfl rfl (λ O A outer s H E q =>
 (xsC (i_1 (xt H_6 (xv 0) (u_7 (xaC c_7 (xaC c_7 (xaC c_7 xaN)))))
 (xs1 (g_1 (xor (bh5 (xv 2)) (H_3 (xG gj q (xaC (d_0 (xv 2) a_6) (xaC (d_0 (xv 2) a_6) xaN)))))))
 xsN)
 (xsC (i_1 (xt (cEq q.units) (xv 0) c_7)
 (xs1 (g_1 (aw0 (n_1 cGe (d_0 (xv 2) a_6) a_6) (H_3 (xor (n_1 cIs (d_0 (xv 2) a_6) H_8) (H_3 (n_1 cLt (d_0 (xv 2) a_6) (d_0 (xv 2) a_6))))))))
 xsN)
 (xsC (i_1 (xt H_6 (xv 0) (u_7 (xaC c_7 (xaC c_7 xaN))))
 (xs1 (g_1 (aw0 (n_1 cLe (xB c_6 rfl T.z_len zr (xaC (xv 2) xaN)) a_6) (H_3 (xG gi q (xaC (xv 2) xaN))))))
 xsN)
 (xsC (i_1 (xt (cEq q.units) (xv 0) c_7)
 (xs1 (g_1 (aw0 (av9 cLe cLe a_6 (d_0 (xv 2) a_6) a_6) (H_3 (av9 cLe cLt a_6 (d_0 (xv 2) a_6) (d_0 (xv 2) a_6))))))
 xsN)
 (xsC (i_1 (xt (cEq q.units) (xv 0) c_7)
 (xs1 (g_1 (aw0 (av9 cLe cLe (aO4 a_6) (d_0 (xv 2) a_6) a_6) (H_3 (n_1 (cNe q.units) (d_0 (xv 2) a_6) a_6)))))
 xsN)
 (xsC (i_1 (xt (cEq q.units) (xv 0) c_7)
 (xs1 (g_1 (aw0 (n_1 H_6 (xB c_6 rfl T.z_len zr (xaC (xv 2) xaN)) (u_7 (xaC a_6 (xaC a_6 (xaC a_6 (xaC a_6 xaN)))))) (H_3 (xG gi q (xaC (bS6 (xv 2)) xaN))))))
 xsN)
 (xsC (i_1 (xt (cEq q.units) (xv 0) c_7)
 (xs1 (g_1 (aw0 (n_1 cLe (xB c_6 rfl T.z_len zr (xaC (xv 1) xaN)) a_6) (H_3 (xG gi q (xaC (xv 1) xaN))))))
 xsN)
 (xsC (i_1 (xt H_6 (xv 0) (u_7 (xaC c_7 (xaC c_7 xaN))))
 (xs1 (g_1 (n_1 cGe (d_0 (xv 2) a_6) a_6)))
 xsN)
 (xsC (i_1 (xt (cEq q.units) (xv 0) c_7)
 (xs1 (g_1 (bD0 cLe cLt cLe a_6 (d_0 (xv 2) a_6) (d_0 (xv 2) a_6) (xb aB3 a_6 (d_0 (xv 2) a_6)))))
 xsN)
 (xs1 (g_1 (xor (n_1 (cEq q.units) (xv 0) c_7) (H_3 (n_1 cGe (d_0 (xv 2) a_6) a_6))))))))))))))))
abbrev f_8:Stmt:=top 33
abbrev Sx:List Str:=["text","words","word","places","told","froms","rest"]
theorem Sc:FnScope Sx ["text"] (a_2 f_8):=scO
theorem P_2 {f:Addr}{fd:FuncData} (En0:EnD K mg "read_row" f_8 ["text"] f fd) (T:Blt w K mg) (gi:DefOk P w K mg base 2 "fits" d_4) (gj:DefOk P w K mg base 2 "keeps_bounds" a_3) (gk:DefOk P w K mg base 1 "places_of" b_9) (gl:DefOk P w K mg base 2 "word_value" c_4):DefOk P w K mg base 3 "read_row" b_4 :=
 En0.ok (i_5 En0.F Sc rfl rfl (λ O A outer s H E q =>
 (xsC (j_4 1 Sc.nd (S_6 (xv 0) c_7))
 (xsC (j_4 2 Sc.nd (d_0 (xv 1) a_6))
 (xsC (i_1 (bh2 T.c_FORMS (xv 2))
 (xs1 (g_1 H_8))
 xsN)
 (xsC (j_4 3 Sc.nd (xG gk q (xaC (xv 2) (xaC (xb aT8 (xB c_6 rfl T.z_len zr (xaC (xv 1) xaN)) a_6) xaN))))
 (xsC (j_4 4 Sc.nd (av8 T.z_list T.z_zip rfl (xv 3) (A_0 (xv 1) (xoS a_6) xoN)))
 (xsC (i_1 (xw (H_7 (xt (cNe q.units) (xB c_6 rfl T.z_len zr (xaC (xv 3) xaN)) (xb aT8 (xB c_6 rfl T.z_len zr (xaC (xv 1) xaN)) a_6)) (t_4 (t_5 (xtv (xB (x_8 rfl) rfl T.z_all Qq (xaC (bS4 (sc:=a_2 f_8) rfl rfl (by show ScB2 Sx (a_2 f_8) _ "place" "told_word" [] [];exact⟨scB,rfl,by decide +kernel⟩) (xv 4) (λ _ _ _ _=>k_1) (λ _ _ _ _=>(xG gi q (xaC (xv 0) (xaC (xv 1) xaN))))) xaN)) (λ _=>rfl))))))
 (xs1 (g_1 H_8))
 xsN)
 (xsC (j_4 5 Sc.nd (xTy k_5 rfl T.z_tuple yz (xaC (bS4 (sc:=a_2 f_8) rfl rfl (by show ScB2 Sx (a_2 f_8) _ "place" "told_word" [] [];exact⟨scB,rfl,by decide +kernel⟩) (xv 4) (λ _ _ _ _=>(n_9 (xt H_6 (xv 0) (aO6 T.c_FROM_PLACES)))) (λ _ _ _ _=>(xv 1))) xaN)))
 (xsC (j_4 6 Sc.nd (xTy k_5 rfl T.z_tuple yz (xaC (xlc (sc:=a_2 f_8) rfl rfl (by show ScB Sx (a_2 f_8) _ "told_word" [] [];exact scB) (A_0 (xv 1) (xoS (xb h_5 a_6 (xB c_6 rfl T.z_len zr (xaC (xv 5) xaN)))) xoN) (λ _ _ _ _=>k_1) (λ _ _ _ _=>(xG gl q (xaC (xv 0) xaN)))) xaN)))
 (xsC (i_1 (t_5 (xtv (xG gj q (xaC (xv 2) (xaC (xv 5) (xaC (xv 6) xaN)))) (λ _=>rfl)))
 (xs1 (g_1 H_8))
 xsN)
 (xsC (i_1 (xt (cEq q.units) (xv 2) c_7)
 (xs1 (j_4 6 Sc.nd (aN9 T.z_tuple T.z_zip rfl (bS6 (xv 6)) (cd4 (xv 6)))))
 xsN)
 (xs1 (g_1 (u_7 (xaC (xv 2) (xaC (d_0 (xv 1) a_6) (xaC (xv 5) (xaC (xv 6) xaN)))))))))))))))))))
abbrev k_3:Stmt:=top 34
theorem Sd:FnScope ["fold","above","low","fold_word"] ["fold","above","low"] (a_2 k_3):=scO
theorem w_2 {f:Addr}{fd:FuncData} (En0:EnD K mg "bears_bounds" k_3 ["fold","above","low"] f fd) (T:Blt w K mg) :DefOk P w K mg base 1 "bears_bounds" e_6 :=
 En0.ok (i_5 En0.F Sd rfl rfl (λ O A outer s H E q =>
 (xsC (j_4 3 Sd.nd (d_0 (d_0 (xv 0) a_6) (aO4 a_6)))
 (xsC (i_1 (xw (H_7 (xt (cEq q.units) (d_0 (xv 0) a_6) c_7) (H_7 (xt (cEq q.units) (xv 3) c_7) (t_4 (xt (cEq q.units) (d_0 (xdx (ad3 q) (xv 1) (d_0 (d_0 (xv 0) a_6) a_6)) a_6) c_7)))))
 (xs1 (g_1 xbl))
 xsN)
 (xs1 (g_1 (xor (n_1 (cNe q.units) (xv 3) c_7) (H_3 (aw0 (n_1 bv5 (xv 2) H_8) (H_3 (av9 cLe cLe a_6 (xv 2) (bh6 T.c_MOST_COUNTED))))))))))))
abbrev d_1:Stmt:=top 35
abbrev Sy:List Str:=["row","above","from_rows"]
theorem Se:FnScope Sy ["row","above"] (a_2 d_1):=scO
theorem w_0 {f:Addr}{fd:FuncData} (En0:EnD K mg "stands_right" d_1 ["row","above"] f fd) (T:Blt w K mg) (gi:DefOk P w K mg base 1 "bears_bounds" e_6):DefOk P w K mg base 2 "stands_right" b_0 :=
 En0.ok (i_5 En0.F Se rfl rfl (λ O A outer s H E q =>
 (xsC (i_1 (xw (H_7 (xt (cc0 (ad3 q)) (d_0 (xv 0) a_6) (xv 1)) (t_4 (t_5 (xtv (xB (x_8 rfl) rfl T.z_all Qq (xaC (xlc (sc:=a_2 d_1) rfl rfl (by show ScB Sy (a_2 d_1) _ "name" ["above"] [1];exact scB) (d_0 (xv 0) a_6) (λ _ _ _ _=>k_1) (λ _ _ _ _=>(n_1 (cc0 (ad3 q)) (xv 0) (xv 1)))) xaN)) (λ _=>rfl))))))
 (xs1 (g_1 xbl))
 xsN)
 (xsC (S_7 2 Se.nd (sc:=a_2 d_1) rfl rfl (by show ScB Sy (a_2 d_1) _ "name" ["above"] [1];exact scB) (d_0 (xv 0) a_6) (λ _ _ _ _=>k_1) (λ _ _ _ _=>(xdx (ad3 q) (xv 1) (xv 0))))
 (xsC (i_1 (xt (cEq q.units) (d_0 (xv 0) a_6) c_7)
 (xs1 (g_1 (aw0 (n_1 H_6 (d_0 (d_0 (xv 2) a_6) a_6) (aO6 T.c_FOLDS)) (H_3 (xor (bh5 (d_0 (xv 0) a_6)) (H_3 (xG gi q (xaC (d_0 (xv 2) a_6) (xaC (xv 1) (xaC (d_0 (d_0 (xv 0) a_6) a_6) xaN))))))))))
 xsN)
 (xsC (i_1 (xw (aa2 (xt H_6 (d_0 (xv 0) a_6) (u_7 (xaC c_7 (xaC c_7 (xaC c_7 xaN))))) (z_9 (xt (cEq q.units) (d_0 (d_0 (xv 2) a_6) a_6) c_7))))
 (xs1 (g_1 (n_1 (cNe q.units) (d_0 (d_0 (xv 0) a_6) (aO4 a_6)) c_7)))
 xsN)
 (xs1 (g_1 (xB (x_8 rfl) rfl T.z_all Qq (xaC (xlc (sc:=a_2 d_1) rfl rfl (by show ScB Sy (a_2 d_1) _ "from_row" [] [];exact scB) (xv 2) (λ _ _ _ _=>k_1) (λ _ _ _ _=>(n_1 H_6 (d_0 (xv 0) a_6) (aO6 T.c_CHAINS)))) xaN))))))))))
abbrev j_6:Stmt:=top 36
theorem Sf:FnScope ["text","above","number","row_text","row"] ["text"] (a_2 j_6):=scO
theorem D_9 {f:Addr}{fd:FuncData} (En0:EnD K mg "read_works" j_6 ["text"] f fd) (T:Blt w K mg) (gi:DefOk P w K mg base 3 "read_row" b_4) (gj:DefOk P w K mg base 2 "stands_right" b_0):DefN P w K mg base 4 "read_works" g_4 :=
 ⟨f,fd,["text"],bs6 En0.F Sf rfl rfl (λ O A outer s H E q =>
 (xnC (xnS (i_1 (t_5 (xtv (xty (t:=.str) T.z_isinstance T.z_str Zk (xv 0)) (λ _=>rfl)))
 (xs1 bS2)
 xsN))
 (xnC (xnS (xdn 1 Sf.nd))
 (xnC (xnS (bC9 T.z_enumerate (xgT (be8 (xgN 2 Sf.nd) (be8 (xgN 3 Sf.nd) bC8))) (S_6 (xv 0) c_7)
 (xsC (j_4 4 Sf.nd (xG gi q (xaC (xv 3) xaN)))
 (xsC (i_1 (aG7 1 (xw (H_7 (xt cGe (xv 2) (bh6 T.c_MOST_ROWS)) (H_7 (xt cIs (xv 4) H_8) (t_4 (t_5 (xtv (xG gj q (xaC (xv 4) (xaC (xv 1) xaN))) (λ _=>rfl))))))))
 (xs1 bS2)
 xsN)
 (xs1 (xdk 1 (ad3 q) (d_0 (xv 4) a_6) (xv 4)))))))
 (xnL (cd0 (aG8 1 rfl T.z_list))))))),En0.b,En0.F.kp,En0.m⟩
theorem aP8:FnScope ["self","at"] ["self","at"] (a_2 T_8):=scO
theorem z_2 {f:Addr}{fd:FuncData} (En0:EnD K mg "read_works" j_6 ["text"] f fd) (T:Blt w K mg) (gi:DefOk P w K mg base 3 "read_row" b_4) (gj:DefOk P w K mg base 2 "stands_right" b_0):DefX P w K mg base 4 "read_works" f_1:=by
 obtain⟨F,bF,O⟩:=En0;obtain⟨c0,c2,fI,Y,Z⟩:=T.xn;have I:=aY0 (CX:=CXE P w) (P:=P) (w:=w) (mg:=mg) (base:=base) (f:="at") Z.fn aP8 (by decide) rfl (λ _ _ _ _ _ _=>rfl) (by decide) (by decide);exact⟨f,fd,["text"],bs4 F Sf rfl rfl (λ aa A outer s H E q =>
 (xxC (bS1 (t_5 (xtv (xty (t:=.str) T.z_isinstance T.z_str Zk (xv 0)) (λ _=>rfl)))
 (xx1 (S_5 I_8 Z.m0 Z.x0 Z.s1 I (q.mono (by decide)) Z.b0 a_6))
 (bS0 xsN))
 (xxC (xxs (xdn 1 Sf.nd))
 (xxC (bh1 bI7 T.z_enumerate (xgT (be8 (xgN 2 Sf.nd) (be8 (xgN 3 Sf.nd) bC8))) (S_6 (xv 0) c_7)
 (xxC (xxs (j_4 4 Sf.nd (xG gi q (xaC (xv 3) xaN))))
 (xxC (bS1 (aG7 1 (xw (H_7 (xt cGe (xv 2) (bh6 T.c_MOST_ROWS)) (H_7 (xt cIs (xv 4) H_8) (t_4 (t_5 (xtv (xG gj q (xaC (xv 4) (xaC (xv 1) xaN))) (λ _=>rfl))))))))
 (xx1 (S_5 I_8 Z.m0 Z.x0 Z.s1 I (q.mono (by decide)) Z.b0 (xv 2)))
 (bS0 xsN))
 (xx1 (xxs (xdk 1 (ad3 q) (d_0 (xv 4) a_6) (xv 4)))))))
 (xx1 (xxs (g_1 (xfr (aG8 1 rfl T.z_list))))))))),bF,F.kp,O⟩
abbrev k_8:Stmt:=top 38
theorem y_9:FnScope ["_law_script","_law_k"] ["_law_script","_law_k"] (a_2 k_8):=scO
theorem z_1 {f:Addr}{fd:FuncData} (En0:EnD K mg "_law_cell_at" k_8 ["_law_script","_law_k"] f fd) (T:Blt w K mg) :DefOk P w K mg base 1 "_law_cell_at" b_1 :=
 En0.ok (i_5 En0.F y_9 rfl rfl (λ q A outer s H E O =>
 (xsC (i_1 (xt cLt (xv 1) (xB c_6 rfl T.z_len zr (xaC (xv 0) xaN)))
 (xs1 (g_1 (d_0 (xv 0) (xv 1))))
 xsN)
 (xs1 (g_1 a_6)))))
abbrev l_7:Stmt:=top 39
theorem Sg:FnScope ["_law_cell","_law_many","_law_found","_law_rest","_law_k","_law_number_here"] ["_law_cell","_law_many"] (a_2 l_7):=scO
theorem E_2 {f:Addr}{fd:FuncData} (En0:EnD K mg "_law_digits" l_7 ["_law_cell","_law_many"] f fd) (T:Blt w K mg) :DefOk P w K mg base 1 "_law_digits" e_1 :=
 En0.ok (i_5 En0.F Sg rfl rfl (λ O A outer s H E q =>
 (xsC (bh3 2 Sg.nd (aO3 xaN))
 (xsC (j_4 3 Sg.nd (xv 0))
 (xsC (ag1 T.z_range (xgN 4 Sg.nd) (xv 1) (xsC (j_4 5 Sg.nd (xv 3))
 (xsC (i_1 (xw (H_7 (xt cLt (xv 0) (xb bf0 a_6 a_6)) (t_4 (xt (cEq q.units) (xv 3) a_6))))
 (xsC (j_4 5 Sg.nd (xb i_4 (xb aB3 (xb h_5 (xb h_5 (xb i_4 (xv 0) a_6) (xb aB3 a_6 (xv 4))) a_6) a_6) a_6))
 (xsC (j_4 5 Sg.nd (xb i_4 (xb aB3 (xv 5) (xb h_5 (xb ac0 (xv 5) a_6) a_6)) a_6))
 (xsC (j_4 5 Sg.nd (xb i_4 (xb aB3 (xb h_5 (xv 5) (xb aB3 a_6 (xv 4))) (xb h_5 (xb ac0 (xv 5) a_6) a_6)) a_6))
 (xs1 (j_4 5 Sg.nd (xb ac0 (xv 5) a_6))))))
 xsN)
 (xsC (bx2 2 (xaC (xb i_4 (xv 5) a_6) xaN))
 (xs1 (j_4 3 Sg.nd (xb ac0 (xv 3) a_6)))))))
 (xs1 (bh7 2 (g_1 (xv 2)))))))))
abbrev l_6:Stmt:=top 40
theorem Si:FnScope ["_law_digits_here","_law_at","_law_number_here","_law_k"] ["_law_digits_here","_law_at"] (a_2 l_6):=scO
theorem E_1 {f:Addr}{fd:FuncData} (En0:EnD K mg "_law_number" l_6 ["_law_digits_here","_law_at"] f fd) (T:Blt w K mg) :DefOk P w K mg base 1 "_law_number" a_5 :=
 En0.ok (i_5 En0.F Si rfl rfl (λ O A outer s H E q =>
 (xsC (j_4 2 Si.nd (xb i_4 (d_0 (xv 0) (xv 1)) a_6))
 (xsC (i_1 (xt cGt (d_0 (xv 0) (xv 1)) a_6)
 (xsC (bh8 T.z_range (xgN 3 Si.nd) a_6 a_6 (xs1 (j_4 2 Si.nd (xb h_5 (xb aB3 (xv 2) a_6) (d_0 (xv 0) (xb h_5 (xv 1) (xv 3)))))))
 (xs1 (j_4 2 Si.nd (xb i_4 (xv 2) (d_0 (y_7 (xaC a_6 (xaC a_6 (xaC (xb bf0 a_6 a_6) (xaC (xb bf0 a_6 a_6) xaN))))) (xb i_4 (d_0 (xv 0) (xv 1)) a_6))))))
 xsN)
 (xsC (i_1 (xt (cEq q.units) (xb i_4 (xb ac0 (d_0 (xv 0) (xv 1)) a_6) a_6) a_6)
 (xs1 (g_1 (xb aT8 a_6 (xv 2))))
 xsN)
 (xs1 (g_1 (xv 2))))))))
abbrev v_4:Stmt:=top 41
theorem Sj:FnScope ["_law_digits_here","_law_at","_law_some","_law_low","_law_high"] ["_law_digits_here","_law_at"] (a_2 v_4):=scO
theorem ab7 {f:Addr}{fd:FuncData} (En0:EnD K mg "_law_two" v_4 ["_law_digits_here","_law_at"] f fd) (T:Blt w K mg) (gi:DefOk P w K mg base 1 "_law_number" a_5):DefOk P w K mg base 2 "_law_two" g_9 :=
 En0.ok (i_5 En0.F Sj rfl rfl (λ O A outer s H E q =>
 (xsC (j_4 2 Sj.nd (xB as4 rfl T.z_sorted PyProof.Rows.boot_sorted (xaC (y_7 (xaC (xG gi q (xaC (xv 0) (xaC (xv 1) xaN))) (xaC (xG gi q (xaC (xv 0) (xaC (xb h_5 (xv 1) a_6) xaN))) xaN))) xaN)))
 (xsC (j_4 3 Sj.nd (d_0 (xv 2) a_6))
 (xsC (j_4 4 Sj.nd (d_0 (xv 2) a_6))
 (xsC (i_1 (xt (cEq q.units) (xb i_4 (d_0 (xv 0) (xb h_5 (xv 1) a_6)) a_6) a_6)
 (xs1 (g_1 (u_7 (xaC H_8 (xaC (xv 4) xaN)))))
 xsN)
 (xsC (i_1 (xt (cEq q.units) (xb i_4 (d_0 (xv 0) (xb h_5 (xv 1) a_6)) a_6) a_6)
 (xs1 (g_1 (u_7 (xaC (xv 3) (xaC H_8 xaN)))))
 xsN)
 (xsC (i_1 (xt (cEq q.units) (xb i_4 (d_0 (xv 0) (xb h_5 (xv 1) a_6)) a_6) a_6)
 (xs1 (g_1 (u_7 (xaC H_8 (xaC H_8 xaN)))))
 xsN)
 (xs1 (g_1 (u_7 (xaC (xv 3) (xaC (xv 4) xaN)))))))))))))
abbrev r_4:Stmt:=top 42
theorem Sk:FnScope ["_law_digits_here","_law_at","_law_many","_law_some","_law_found","_law_k","_law_first","_law_sign"] ["_law_digits_here","_law_at","_law_many"] (a_2 r_4):=scO
theorem P_3 {f:Addr}{fd:FuncData} (En0:EnD K mg "_law_keys" r_4 ["_law_digits_here","_law_at","_law_many"] f fd) (T:Blt w K mg) :DefOk P w K mg base 1 "_law_keys" c_3 :=
 En0.ok (i_5 En0.F Sk rfl rfl (λ q A outer s H E O =>
 (xsC (j_4 3 Sk.nd c_7)
 (xsC (bh3 4 Sk.nd (aO3 xaN))
 (xsC (ag1 T.z_range (xgN 5 Sk.nd) (xv 2) (xsC (j_4 6 Sk.nd (d_0 (xv 3) (xb i_4 (xb h_5 (d_0 (xv 0) (xv 1)) (xb aB3 a_6 (xv 5))) a_6)))
 (xsC (j_4 7 Sk.nd (d_0 (xv 3) (xb i_4 (d_0 (xv 0) (xb h_5 (xb h_5 (xv 1) a_6) (xv 5))) a_6)))
 (xs1 (bx2 4 (xaC (xb h_5 (xv 6) (xb bJ7 (xv 7) (xb i_4 (d_0 (xv 0) (xb h_5 (xb h_5 (xv 1) a_6) (xv 5))) a_6))) xaN))))))
 (xs1 (bh7 4 (g_1 (xv 4)))))))))
abbrev i_7:Stmt:=top 43
theorem Sm:FnScope ["_law_word","_law_digits_here","_law_keys_here","_law_others","_law_begin","_law_far","_law_low"] ["_law_word","_law_digits_here"] (a_2 i_7):=scO
theorem J_6 {f:Addr}{fd:FuncData} (En0:EnD K mg "_law_chain" i_7 ["_law_word","_law_digits_here"] f fd) (T:Blt w K mg) (gi:DefOk P w K mg base 1 "_law_keys" c_3) (gj:DefOk P w K mg base 1 "_law_number" a_5) (gk:DefOk P w K mg base 2 "_law_two" g_9):DefOk P w K mg base 3 "_law_chain" c_0 :=
 En0.ok (i_5 En0.F Sm rfl rfl (λ O A outer s H E q =>
 (xsC (i_1 (xw (H_7 (xt (cEq q.units) (xv 0) c_7) (t_4 (xt (cEq q.units) (xv 0) c_7))))
 (xs1 (g_1 (xG gk q (xaC (xv 1) (xaC a_6 xaN)))))
 xsN)
 (xsC (i_1 (xt (cEq q.units) (xv 0) c_7)
 (xsC (j_4 4 Sm.nd (xb i_4 (xB o_9 rfl T.z_abs jr (xaC (xG gj q (xaC (xv 1) (xaC a_6 xaN))) xaN)) (xb bf0 a_6 a_6)))
 (xsC (j_4 5 Sm.nd (xb i_4 (xB o_9 rfl T.z_abs jr (xaC (xG gj q (xaC (xv 1) (xaC a_6 xaN))) xaN)) (xb bf0 a_6 a_6)))
 (xs1 (g_1 (u_7 (xaC (xv 4) (xaC (d_0 (y_7 (xaC H_8 (xaC (xb h_5 (xb h_5 (xv 4) a_6) (xv 5)) xaN))) (xb i_4 (d_0 (xv 1) a_6) a_6)) xaN)))))))
 xsN)
 (xsC (i_1 (xw (H_7 (xt (cEq q.units) (xv 0) c_7) (t_4 (xt (cEq q.units) (xv 0) c_7))))
 (xs1 (g_1 (xTy k_5 rfl T.z_tuple yz (xaC (xG gi q (xaC (xv 1) (xaC a_6 (xaC (xb h_5 a_6 (xb i_4 (d_0 (xv 1) a_6) a_6)) xaN)))) xaN))))
 xsN)
 (xsC (i_1 (xt (cEq q.units) (xv 0) c_7)
 (xsC (j_4 6 Sm.nd (xb h_5 a_6 (xb i_4 (xB o_9 rfl T.z_abs jr (xaC (xG gj q (xaC (xv 1) (xaC a_6 xaN))) xaN)) a_6)))
 (xs1 (g_1 (u_7 (xaC (xv 6) (xaC (xb i_4 (xB o_9 rfl T.z_abs jr (xaC (xG gj q (xaC (xv 1) (xaC a_6 xaN))) xaN)) (xv 6)) xaN))))))
 xsN)
 (xsC (i_1 (xt (cEq q.units) (xv 0) c_7)
 (xsC (j_4 6 Sm.nd (xb aT8 (xb i_4 (xG gj q (xaC (xv 1) (xaC a_6 xaN))) a_6) a_6))
 (xs1 (g_1 (u_7 (xaC (d_0 (y_7 (xaC (xv 6) (xaC a_6 xaN))) (xTy G_7 rfl T.z_int Qp (xaC (n_1 (cEq q.units) (xv 6) a_6) xaN))) (xaC (xG gj q (xaC (xv 1) (xaC a_6 xaN))) xaN))))))
 xsN)
 (xsC (i_1 (xt (cEq q.units) (xv 0) c_7)
 (xs1 (g_1 (u_7 (xaC (xB o_9 rfl T.z_abs jr (xaC (xG gj q (xaC (xv 1) (xaC a_6 xaN))) xaN)) xaN))))
 xsN)
 (xsC (j_4 2 Sm.nd (xG gi q (xaC (xv 1) (xaC a_6 (xaC (xb h_5 a_6 (xb i_4 (d_0 (xv 1) a_6) a_6)) xaN)))))
 (xsC (j_4 3 Sm.nd (bS3 (xv 2)))
 (xsC (i_1 (xt cGt (xb i_4 (d_0 (xv 1) a_6) a_6) a_6)
 (xs1 (j_4 3 Sm.nd (xfr (bh4 (xaC (d_0 (y_7 (xaC (d_0 (xG gi q (xaC (xv 1) (xaC a_6 (xaC a_6 xaN)))) a_6) (xaC c_7 xaN))) (xb i_4 (d_0 (xv 1) a_6) a_6)) xaN) (xB c_6 rfl T.z_len zr (xaC (xv 2) xaN))))))
 xsN)
 (xs1 (g_1 (xTy k_5 rfl T.z_tuple yz (xaC (cd1 T.z_zip (sc:=a_2 i_7) rfl rfl (by show ScB2 ["_law_word","_law_digits_here","_law_keys_here","_law_others","_law_begin","_law_far","_law_low"] (a_2 i_7) _ "_law_key" "_law_other" [] [];exact⟨scB,rfl,by decide +kernel⟩) (xv 2) (xv 3) (λ _ _ _ _=>k_1) (λ _ _ _ _=>(u_7 (xaC (xv 0) (xaC (xv 1) xaN))))) xaN)))))))))))))))
abbrev r_5:Stmt:=top 44
theorem Sn:FnScope ["_law_word","_law_digits_here","_law_summed","_law_fold_here","_law_wide"] ["_law_word","_law_digits_here","_law_summed"] (a_2 r_5):=scO
theorem P_4 {f:Addr}{fd:FuncData} (En0:EnD K mg "_law_fold" r_5 ["_law_word","_law_digits_here","_law_summed"] f fd) (T:Blt w K mg) (gi:DefOk P w K mg base 1 "_law_number" a_5):DefOk P w K mg base 2 "_law_fold" g_6 :=
 En0.ok (i_5 En0.F Sn rfl rfl (λ O A outer s H E q =>
 (xsC (j_4 3 Sn.nd (d_0 (y_7 (xaC c_7 (xaC c_7 (xaC c_7 (xaC c_7 xaN))))) (xb i_4 (d_0 (xv 1) a_6) (xb h_5 a_6 (xTy G_7 rfl T.z_int Qp (xaC (xv 2) xaN))))))
 (xsC (j_4 4 Sn.nd (xb h_5 a_6 (xb i_4 (xB o_9 rfl T.z_abs jr (xaC (xG gi q (xaC (xv 1) (xaC a_6 xaN))) xaN)) (xb bf0 a_6 a_6))))
 (xsC (i_1 (xt (cEq q.units) (xv 0) c_7)
 (xs1 (g_1 (u_7 (xaC (xv 3) xaN))))
 xsN)
 (xsC (i_1 (xt (cEq q.units) (xv 0) c_7)
 (xs1 (g_1 (u_7 (xaC (xb h_5 (xb h_5 (xv 4) a_6) (xb aB3 (xb i_4 (d_0 (xv 1) a_6) a_6) (xv 4))) (xaC (xv 4) (xaC (xv 3) xaN))))))
 xsN)
 (xs1 (g_1 (u_7 (xaC (xv 4) (xaC (xv 3) xaN)))))))))))
abbrev i_8:Stmt:=top 45
theorem So:FnScope ["_law_fold_here","_law_above","_law_digits_here","_law_low","_law_high"] ["_law_fold_here","_law_above","_law_digits_here"] (a_2 i_8):=scO
theorem J_7 {f:Addr}{fd:FuncData} (En0:EnD K mg "_law_asked" i_8 ["_law_fold_here","_law_above","_law_digits_here"] f fd) (T:Blt w K mg) (gi:DefOk P w K mg base 2 "_law_two" g_9):DefOk P w K mg base 3 "_law_asked" g_2 :=
 En0.ok (i_5 En0.F So rfl rfl (λ O A outer s H E q =>
 (xsC (i_1 (xw (H_7 (xt (cEq q.units) (xb i_4 (d_0 (xv 2) a_6) a_6) a_6) (H_7 (xt (cEq q.units) (d_0 (xv 0) a_6) c_7) (t_4 (xt (cEq q.units) (d_0 (d_0 (xv 0) a_6) (aO4 a_6)) c_7)))))
 (xs1 (g_1 (u_7 xaN)))
 xsN)
 (xsC (i_1 (xt (cEq q.units) (d_0 (d_0 (xlc (sc:=a_2 i_8) rfl rfl (by show ScB ["_law_fold_here","_law_above","_law_digits_here","_law_low","_law_high"] (a_2 i_8) _ "_law_row_here" ["_law_fold_here"] [0];exact scB) (xv 1) (λ _ _ _ _=>(n_9 (xt (cEq q.units) (d_0 (xv 0) a_6) (d_0 (d_0 (xv 1) a_6) a_6)))) (λ _ _ _ _=>(xv 0))) a_6) a_6) c_7)
 (xs1 (g_1 (u_7 xaN)))
 xsN)
 (xsC (aO0 (xgT (be8 (xgN 3 So.nd) (be8 (xgN 4 So.nd) bC8))) (xG gi q (xaC (xv 2) (xaC a_6 xaN))))
 (xsC (i_1 (xt (cEq q.units) (d_0 (d_0 (xv 0) a_6) (aO4 a_6)) c_7)
 (xsC (j_4 3 So.nd (xb h_5 a_6 (xb i_4 (d_0 (xv 2) a_6) a_6)))
 (xs1 (j_4 4 So.nd (d_0 (y_7 (xaC H_8 (xaC (xb h_5 (xv 3) (d_0 (xv 2) a_6)) xaN))) (xb i_4 (d_0 (xv 2) a_6) a_6)))))
 xsN)
 (xs1 (g_1 (u_7 (xaC (xv 3) (xaC (xv 4) xaN)))))))))))
abbrev f_5:Stmt:=top 46
abbrev Sz:List Str:=["_law_above","_law_digits_here","_law_words_here","_law_word","_law_chains","_law_folds","_law_pairs","_law_name","_law_froms","_law_many","_law_how","_law_fold_here","_law_summed","_law_one"]
theorem Sq:FnScope Sz ["_law_above","_law_digits_here"] (a_2 f_5):=scO
theorem ab8 {f:Addr}{fd:FuncData} (En0:EnD K mg "_law_row" f_5 ["_law_above","_law_digits_here"] f fd) (T:Blt w K mg) (gi:DefOk P w K mg base 3 "_law_asked" g_2) (gj:DefOk P w K mg base 3 "_law_chain" c_0) (gk:DefOk P w K mg base 2 "_law_fold" g_6) (gl:DefOk P w K mg base 1 "_law_keys" c_3) (gm:DefOk P w K mg base 1 "_law_number" a_5):DefOk P w K mg base 4 "_law_row" f_9 :=
 En0.ok (i_5 En0.F Sq rfl rfl (λ O A outer s H E q =>
 (@YSs.go _ _ _ (ysC (H_2 2 Sq.nd (aG6 (yaC (ye c_7) (yaC (ye c_7) (yaC (ye c_7) (yaC (ye c_7) (yaC (ye c_7) (yaC (ye c_7) (yaC (ye c_7) (yaC (ye c_7) (yaC (ye c_7) (yaC (ye c_7) (yaC (ye c_7) yaN))))))))))))) (ysC (H_2 2 Sq.nd (yb h_5 (ye (xv 2)) (aG6 (yaC (ye c_7) (yaC (ye c_7) (yaC (ye c_7) (yaC (ye c_7) (yaC (ye c_7) (yaC (ye c_7) (yaC (ye c_7) yaN)))))))))) (ysC (H_2 3 Sq.nd (yix (ye (xv 2)) (yb i_4 (yix (ye (xv 1)) (ye a_6)) (ye (xB c_6 rfl T.z_len zr (xaC (xv 2) xaN)))))) (ysC (H_2 4 Sq.nd (ye (xlc (sc:=a_2 f_5) rfl rfl (by show ScB Sz (a_2 f_5) _ "_law_row_here" ["_law_words_here"] [2];exact scB) (xv 0) (λ _ _ _ _=>(n_9 (xt H_6 (d_0 (xv 0) a_6) (A_0 (xv 1) xoN (xoS a_6))))) (λ _ _ _ _=>(d_0 (xv 0) a_6))))) (ysC (yx (S_7 5 Sq.nd (sc:=a_2 f_5) rfl rfl (by show ScB Sz (a_2 f_5) _ "_law_row_here" ["_law_words_here"] [2];exact scB) (xv 0) (λ _ _ _ _=>(n_9 (xt H_6 (d_0 (xv 0) a_6) (A_0 (xv 1) (xoS a_6) (xoS a_6))))) (λ _ _ _ _=>(xv 0)))) (ysC (yx (S_7 6 Sq.nd (sc:=a_2 f_5) rfl rfl (by show ScB Sz (a_2 f_5) _ "_law_row_here" [] [];exact scB) (xv 0) (λ _ _ _ _=>(n_9 (xt (cEq q.units) (d_0 (xv 0) a_6) c_7))) (λ _ _ _ _=>(d_0 (xv 0) a_6)))) (ysC (H_2 7 Sq.nd (yb h_5 (yix (ye c_7) (ye (xB c_6 rfl T.z_len zr (xaC (xv 0) xaN)))) (ye (A_0 (d_0 (xG gl q (xaC (xv 1) (xaC a_6 (xaC a_6 xaN)))) a_6) xoN (xoS a_6))))) (ysC (yx (O_1 8 Sq.nd T.z_range (sc:=a_2 f_5) rfl rfl (by show ScB Sz (a_2 f_5) _ "_law_k" ["_law_chains","_law_digits_here"] [4,1];exact scB) a_6 (λ _ _ _ _=>k_1) (λ _ _ _ _=>(d_0 (xb h_5 (xv 1) (y_7 (xaC c_7 xaN))) (xb i_4 (d_0 (xv 2) (xb h_5 a_6 (xv 0))) (xB (bd3 rfl) rfl T.z_max PyProof.Rows.boot_max (xaC a_6 (xaC (xB c_6 rfl T.z_len zr (xaC (xv 1) xaN)) xaN)))))))) (ysC (yif (xw (H_7 (xt (cEq q.units) (xv 4) (y_7 xaN)) (H_7 (xw (aa2 (xt (cEq q.units) (xv 3) c_7) (z_9 (xt (cEq q.units) (xv 5) (y_7 xaN))))) (t_4 (xw (aa2 (xt (cEq q.units) (xv 3) c_7) (z_9 (xt cLt (xB c_6 rfl T.z_len zr (xaC (xv 4) xaN)) a_6))))))))
 (ys1 (H_2 3 Sq.nd (ye c_7)))
 ysN) (ysC (yif (xt (cEq q.units) (xv 3) c_7)
 (ys1 (N_9 (af1 (yaC (ye c_7) (yaC (ye (xv 7)) (yaC (af1 yaN) (yaC (ye (xG gj q (xaC c_7 (xaC (xv 1) xaN)))) yaN)))))))
 ysN) (ysC (yif (xt (cEq q.units) (xv 3) c_7)
 (ysC (H_2 9 Sq.nd (yb h_5 (ye a_6) (yb i_4 (yix (ye (xv 1)) (ye a_6)) (ye (xB (bd2 rfl) rfl T.z_min PyProof.Rows.boot_min (xaC a_6 (xaC (xb aT8 (xB c_6 rfl T.z_len zr (xaC (xv 4) xaN)) a_6) xaN))))))) (ys1 (N_9 (af1 (yaC (ye (xv 3)) (yaC (ye (xv 7)) (yaC (ye (xTy k_5 rfl T.z_tuple yz (xaC (A_0 (bS3 (xv 4)) xoN (xoS (xv 9))) xaN))) (yaC (af1 yaN) yaN))))))))
 ysN) (ysC (yif (xt (cEq q.units) (xv 3) c_7)
 (ysC (H_2 10 Sq.nd (yix (aG6 (yaC (ye c_7) (yaC (ye c_7) (yaC (ye c_7) (yaC (ye c_7) yaN))))) (yb i_4 (yix (ye (xv 1)) (ye a_6)) (ye a_6)))) (ys1 (N_9 (af1 (yaC (ye (xv 3)) (yaC (ye (xv 7)) (yaC (ye (xTy k_5 rfl T.z_tuple yz (xaC (xv 8) xaN))) (yaC (af1 (yaC (ye (xB o_9 rfl T.z_abs jr (xaC (xG gm q (xaC (xv 1) (xaC a_6 xaN))) xaN))) (yaC (ye (xv 10)) yaN))) yaN))))))))
 ysN) (ysC (yif (xt (cEq q.units) (xv 3) c_7)
 (ysC (H_2 11 Sq.nd (yix (ye (xv 5)) (yb i_4 (yix (ye (xv 1)) (ye a_6)) (ye (xB c_6 rfl T.z_len zr (xaC (xv 5) xaN)))))) (ys1 (N_9 (af1 (yaC (ye (xv 3)) (yaC (ye (xv 7)) (yaC (af1 (yaC (yix (ye (xv 11)) (ye a_6)) yaN)) (yaC (ye (xG gi q (xaC (xv 11) (xaC (xv 0) (xaC (xv 1) xaN))))) yaN))))))))
 ysN) (ysC (yif (xt H_6 (xv 3) (A_0 (xv 2) (xoS a_6) (xoS a_6)))
 (ysC (H_2 12 Sq.nd (ye (xor (n_1 (cEq q.units) (xv 3) c_7) (xor (n_1 (cEq q.units) (xv 6) (y_7 xaN)) (H_3 (n_1 (cEq q.units) (xb i_4 (d_0 (xv 1) a_6) a_6) a_6)))))) (ysC (H_2 13 Sq.nd (yix (yix (aG6 (yaC (yb h_5 (ye (xv 6)) (ye (xv 8))) (yaC (ye (xv 8)) yaN))) (ye (xTy G_7 rfl T.z_int Qp (xaC (xv 12) xaN)))) (ye a_6))) (ys1 (N_9 (af1 (yaC (ye (xv 3)) (yaC (ye (xv 7)) (yaC (af1 (yaC (ye (xv 13)) yaN)) (yaC (ye (xG gk q (xaC (xv 3) (xaC (xv 1) (xaC (xv 12) xaN))))) yaN)))))))))
 ysN) (ys1 (N_9 (af1 (yaC (ye (xv 3)) (yaC (ye (xv 7)) (yaC (af1 (yaC (yix (ye (xv 8)) (ye a_6)) yaN)) (yaC (ye (xG gj q (xaC (xv 3) (xaC (xv 1) xaN)))) yaN))))))))))))))))))))))))
abbrev o_2:Stmt:=top 47
theorem Sr:FnScope ["_law_row_here","_law_words_here","_law_one"] ["_law_row_here"] (a_2 o_2):=scO
theorem J_5 {f:Addr}{fd:FuncData} (En0:EnD K mg "_law_words" o_2 ["_law_row_here"] f fd) (T:Blt w K mg) :DefOk P w K mg base 1 "_law_words" c_8 :=
 En0.ok (i_5 En0.F Sr rfl rfl (λ q A outer s H E O =>
 (xsC (bh3 1 Sr.nd (bC7 (y_7 (xaC (d_0 (xv 0) a_6) (xaC (d_0 (xv 0) a_6) xaN))) (xTy Z_1 rfl T.z_list Zg (xaC (d_0 (xv 0) a_6) xaN))))
 (xsC (cd2 (xgN 2 Sr.nd) (d_0 (xv 0) a_6)
 (xs1 (i_1 (xtv (xty (t:=.tuple) T.z_isinstance T.z_tuple yz (xv 2)) (λ _=>rfl))
 (xs1 (cd5 1 Sr.nd (xTy Z_1 rfl T.z_list Zg (xaC (xv 2) xaN))))
 (xs1 (bx2 1 (xaC (d_0 (y_7 (xaC (xTy bd1 rfl T.z_str Zk (xaC (xv 2) xaN)) (xaC c_7 xaN))) (xTy G_7 rfl T.z_int Qp (xaC (n_1 cIs (xv 2) H_8) xaN))) xaN))))))
 (xs1 (bh7 1 (g_1 (C_1 (xv 1)))))))))
abbrev g_8:Stmt:=top 48
theorem Ss:FnScope ["_law_text","_law_at","_law_error","e"] ["_law_text","_law_at"] (a_2 g_8):=scO
theorem z_0 {f:Addr}{fd:FuncData} (En0:EnD K mg "_law_refused" g_8 ["_law_text","_law_at"] f fd) (T:Blt w K mg) (GX:DefX P w K mg base 4 "read_works" f_1):DefOk P w K mg base 5 "_law_refused" f_0:=by
 obtain⟨F,bF,mF⟩:=En0;obtain⟨c0,c2,fI,aj,Z⟩:=T.xn;obtain⟨ag,d1,d2,d3,d4,d5,d6,Y⟩:=T.xr;obtain rfl:c0=ag:=Y8 (qi (Z.m0.symm.trans Y.m0));refine⟨f,fd,["_law_text","_law_at"],F.ok Ss (λ vs H Q E h=>?_) (λ ai A outer s H vs Q E hr h=>?_),bF,F.kp,mF⟩
 ·obtain⟨Hi,ds,d,_,r,e,_⟩:=h;rw[<- r.length];obtain⟨t,m,n,rfl,_⟩:=U_5 e;rfl
 ·obtain⟨Hi,ds,d,hs,r,e,q⟩:=h;obtain⟨d0,m,n,rfl,h1,rfl⟩:=U_5 e;have ac:∀ (dx:Addr) (σ:L2.St) (H1:Hp) (Dn:Ends),σ.length=4 → σ[1]?=some (some (.int m)) → H1 dx=some (.xd [("at",.int n)]) → (∀ H2,Same H1 H2 → Dn.rt (.bl (decide (V.int n=V.int m))) H2) →
    bR8 (H_5 CX0 P w K mg base ["_law_text","_law_at","_law_error","e"] "_law_refused" (a_2 g_8) f ai A outer s H E).nox 2 3 ((h_3 g_8).drop 2) Dn σ c0 (some dx) H1:=by
   intro dx σ H1 Dn ad hm O ah a us;have h3:(((σ.set 3 (some (V.ref a))).set 2 (some (.ref a))).set 3 none)[2]?=some (some (.ref a)):=by rw[zt (by decide),zv (by rw[jb,ad];decide)]
   have h4:(((σ.set 3 (some (V.ref a))).set 2 (some (.ref a))).set 3 none)[1]?=some (some (.int m)):=by rw[zt (by decide),zt (by decide),zt (by decide),hm]
   refine⟨_,p_9 (aS4 (bm1 (m_5 (aF3 (cs:=[d1,d2,d3,d4,d5,d6]) Z.k0 Y.ka) rfl T.z_isinstance rfl (e_2 (pv 2) (e_2 (aJ2 (e_2 (v_9 Y.m1) (e_2 (v_9 Y.m2) (e_2 (v_9 Y.m3) (e_2 (v_9 Y.m4) (e_2 (v_9 Y.m5) (e_2 (v_9 Y.m6) k_4))))))) k_4)))) (o_3 (U_9 bn3)) aj0)
    (o_3 (U_9 (ak4 (m_5 (Z_0 (v:=.ref c0) Z.k0 (λ w r=>r) Z.t0) rfl T.z_isinstance rfl (e_2 (pv 2) (e_2 (v_9 Z.m0) k_4)))
     (ak4 (m_5 (Z_0 (v:=.ty "ValueError") Z.k0 (λ w r=>r) Y.kv) rfl T.z_isinstance rfl (e_2 (pv 2) (e_2 (ak3 (v:=.ty "ValueError") (u:=.type "ValueError") rfl Y.mv rfl rfl) k_4)))
     (aJ4 (ak0 bJ2 (bI6 Z.k0 Z.s1 (pv 2) rfl) (pv 1) rfl)))))),?_⟩
   refine⟨.ref a,h3,(show 6<=sizeLine by decide),λ p hp=>⟨p,rfl,a_4,⟨_,p_6 hp _ _ O⟩,false,rfl,ck5 ⟨.ref a,h3,rfl,⟨_,p_6 hp _ _ O⟩,true,rfl,bW4 ⟨.ref a,h3,rfl,⟨_,p_6 hp _ _ O⟩,true,rfl,bW4 ⟨.ref a,h3,rfl,n,p_6 hp _ _ O,.int m,h4,rfl,ah _ (p_6 hp)⟩⟩⟩⟩⟩
  have R0:=(RS.start (n:=4) (m:=2) hs r (by rw[<- r.length];rfl)).set 2 (d:=.non) (v:=.non) (by unfold Rep;rfl);refine⟨_,p_9 (A_6 Ss.nd (i:=2) rfl (.inl rfl) aJ5) (aS3 (OK:=λ y=>y="NoText") (ie:=2) (ik:=3) (λ _ _ z=>z) GX hr (xaC (xv 0) xaN) rfl rfl Ss.nd rfl rfl rfl rfl rfl Z.m2 (λ y C m hy=>?_) aj1),⟨Hi,H,[]⟩,Hi,_,[d0],_,_,R0,rfl,h1,?_⟩
  ·subst hy;obtain rfl:c0=C:=Y8 (qi (Z.m0.symm.trans m));exact Z.e0
  ·have af:((vs.map some++List.replicate (4-vs.length) none:L2.St).set 2 (some .non)).length=4:=by rw[jb,zh,qy,j7,<- r.length];rfl
   refine⟨rfl,λ C dd H0' H' m' _ R' xd=>?_⟩;obtain rfl:c0=C:=Y8 (qi (Z.m0.symm.trans m'));obtain⟨v1,ae,aa⟩:=R'.im 1 (.int m) rfl;obtain rfl:v1=.int m:=by unfold Rep at aa;exact aa
   cases dd with
   |none=>exact xd.elim
   |some dx =>
    obtain⟨v,rv,O⟩:=xd;obtain rfl:v=.int n:=by unfold Rep at rv;exact rv
    refine ac dx _ H' _ af ae O λ H2 s2=>q _ H0' H2 ⟨R'.step.s0,R'.step.s.trans s2,R'.step.s'.trans s2,R'.step.fr⟩ ?_;unfold Rep;by_cases e:n=m
    ·simp[e]
    ·simp[e]
abbrev h_9:Stmt:=top 49
theorem Su:FnScope ["_law_works","_law_at","_law_cell","_law_row_here","_law_text","_law_words_here","_law_way","_law_blanks","_law_place","_law_bad","_law_other"] ["_law_works","_law_at","_law_cell"] (a_2 h_9):=scO
theorem E_0 {f:Addr}{fd:FuncData} (En0:EnD K mg "_law_spoilt" h_9 ["_law_works","_law_at","_law_cell"] f fd) (T:Blt w K mg) (gi:DefOk P w K mg base 1 "_law_words" c_8):DefOk P w K mg base 2 "_law_spoilt" g_5 :=
 En0.ok (i_5 En0.F Su rfl rfl (λ O A outer s H E q =>
 (@YSs.go _ _ _ (ysC (H_2 3 Su.nd (yix (ye (xv 0)) (ye (xv 1)))) (ysC (H_2 4 Su.nd (ye (xG gi q (xaC (xv 3) xaN)))) (ysC (H_2 5 Su.nd (ye (S_6 (xv 4) c_7))) (ysC (H_2 6 Su.nd (yb i_4 (ye (xv 2)) (ye a_6))) (ysC (yif (xt (cEq q.units) (xv 6) a_6)
 (ysC (yx (O_1 7 Su.nd T.z_range (sc:=a_2 h_9) rfl rfl (by show ScB ["_law_works","_law_at","_law_cell","_law_row_here","_law_text","_law_words_here","_law_way","_law_blanks","_law_place","_law_bad","_law_other"] (a_2 h_9) _ "_law_k" ["_law_text"] [4];exact scB) (xB c_6 rfl T.z_len zr (xaC (xv 4) xaN)) (λ _ _ _ _=>(n_9 (xt (cEq q.units) (d_0 (xv 1) (xv 0)) c_7))) (λ _ _ _ _=>(xv 0)))) (ysC (H_2 8 Su.nd (yix (ye (xv 7)) (yb i_4 (yb ac0 (ye (xv 2)) (ye a_6)) (ye (xB c_6 rfl T.z_len zr (xaC (xv 7) xaN)))))) (ys1 (N_9 (yb h_5 (yb h_5 (ye (A_0 (xv 4) xoN (xoS (xv 8)))) (ye c_7)) (ye (A_0 (xv 4) (xoS (xv 8)) xoN)))))))
 ysN) (ysC (yif (xt (cEq q.units) (xv 6) a_6)
 (ys1 (N_9 (yb h_5 (ye (xv 4)) (yix (aG6 (yaC (ye c_7) (yaC (ye c_7) (yaC (ye c_7) (yaC (ye c_7) yaN))))) (yb i_4 (yb ac0 (ye (xv 2)) (ye a_6)) (ye a_6))))))
 ysN) (ysC (yif (xt (cEq q.units) (xv 6) a_6)
 (ys1 (N_9 (ye (C_1 (xb h_5 (y_7 (xaC (d_0 (y_7 (xaC c_7 (xaC c_7 (xaC c_7 (xaC c_7 (xaC c_7 xaN)))))) (xb i_4 (xb ac0 (xv 2) a_6) a_6)) xaN)) (A_0 (xv 5) (xoS a_6) xoN))))))
 ysN) (ysC (yif (xw (aa2 (xt (cEq q.units) (xv 6) a_6) (z_9 (xt cGt (xv 1) a_6))))
 (ys1 (N_9 (ye (C_1 (xb h_5 (y_7 (xaC (d_0 (xv 5) a_6) (xaC (d_0 (d_0 (xv 0) (xb i_4 (xb ac0 (xv 2) a_6) (xv 1))) a_6) xaN))) (A_0 (xv 5) (xoS a_6) xoN))))))
 ysN) (ysC (yif (xt (cEq q.units) (xv 6) a_6)
 (ysC (H_2 9 Su.nd (yix (aG6 (yaC (ye c_7) (yaC (yb h_5 (yix (ye (xv 5)) (ye a_6)) (ye c_7)) (yaC (ye c_7) (yaC (ye c_7) (yaC (ye c_7) yaN)))))) (yb i_4 (yb ac0 (ye (xv 2)) (ye a_6)) (ye a_6)))) (ys1 (N_9 (ye (C_1 (xb h_5 (y_7 (xaC (d_0 (xv 5) a_6) (xaC (xv 9) xaN))) (A_0 (xv 5) (xoS a_6) xoN)))))))
 ysN) (ysC (yif (xw (aa2 (xt (cEq q.units) (xv 6) a_6) (z_9 (xt (cNe q.units) (d_0 (xv 3) a_6) (u_7 xaN)))))
 (ysC (H_2 10 Su.nd (yix (aG6 (yaC (yix (ye (xv 3)) (ye a_6)) (yaC (ye c_7) (yaC (ye c_7) yaN)))) (yb i_4 (yb ac0 (ye (xv 2)) (ye a_6)) (ye a_6)))) (ys1 (N_9 (ye (C_1 (xb h_5 (xb h_5 (A_0 (xv 5) xoN (xoS a_6)) (y_7 (xaC (xv 10) xaN))) (A_0 (xv 5) (xoS a_6) xoN)))))))
 ysN) (ysC (yif (xt (cEq q.units) (xv 6) a_6)
 (ys1 (N_9 (ye (C_1 (A_0 (xv 5) xoN (xoS (xb h_5 a_6 (xb i_4 (xb ac0 (xv 2) a_6) a_6))))))))
 ysN) (ysC (yif (xt (cEq q.units) (xv 6) a_6)
 (ys1 (N_9 (yb h_5 (ye c_7) (ye (xv 4)))))
 ysN) (ys1 (N_9 (yix (aG6 (yaC (ye c_7) (yaC (ye c_7) (yaC (ye c_7) (yaC (ye c_7) yaN))))) (yb i_4 (yb ac0 (ye (xv 2)) (ye a_6)) (ye a_6))))))))))))))))))))
abbrev f_6:Stmt:=top 50
theorem Sv:FnScope ["_law_works","_law_rows","_law_cell","_law_some","_law_at","_law_turned"] ["_law_works","_law_rows","_law_cell"] (a_2 f_6):=scO
theorem t_7 {f:Addr}{fd:FuncData} (En0:EnD K mg "_law_exchanged" f_6 ["_law_works","_law_rows","_law_cell"] f fd) (T:Blt w K mg) (gi:DefOk P w K mg base 5 "_law_refused" f_0):DefOk P w K mg base 6 "_law_exchanged" e_8 :=
 En0.ok (i_5 En0.F Sv rfl rfl (λ O A outer s H E q =>
 (xsC (O_1 3 Sv.nd T.z_range (sc:=a_2 f_6) rfl rfl (by show ScB ["_law_works","_law_rows","_law_cell","_law_some","_law_at","_law_turned"] (a_2 f_6) _ "_law_k" ["_law_works"] [0];exact scB) (xb aT8 (xB c_6 rfl T.z_len zr (xaC (xv 0) xaN)) a_6) (λ _ _ _ _=>(n_9 (xt H_6 (d_0 (d_0 (xv 1) (xv 0)) a_6) (d_0 (d_0 (xv 1) (xb h_5 (xv 0) a_6)) a_6)))) (λ _ _ _ _=>(xv 0)))
 (xsC (i_1 (xt (cEq q.units) (xv 3) (y_7 xaN))
 (xs1 (g_1 xbl))
 xsN)
 (xsC (j_4 4 Sv.nd (d_0 (xv 3) (xb i_4 (xv 2) (xB c_6 rfl T.z_len zr (xaC (xv 3) xaN)))))
 (xsC (j_4 5 Sv.nd (xb h_5 (xb h_5 (A_0 (xv 1) xoN (xoS (xv 4))) (y_7 (xaC (d_0 (xv 1) (xb h_5 (xv 4) a_6)) (xaC (d_0 (xv 1) (xv 4)) xaN)))) (A_0 (xv 1) (xoS (xb h_5 (xv 4) a_6)) xoN)))
 (xs1 (g_1 (xG gi q (xaC (C_1 (xv 5)) (xaC (xv 4) xaN)))))))))))
abbrev D_0:Stmt:=top 51
theorem Sw:FnScope ["_law_script","_law_works","_law_k","_law_rows","_law_at","_law_spoilt_here"] ["_law_script"] (a_2 D_0):=scO
theorem bs3 {f:Addr}{fd:FuncData} (F:Fun K "law" "law" D_0 f fd) (T:Blt w K mg) (gi:DefOk P w K mg base 1 "_law_cell_at" b_1) (gj:DefOk P w K mg base 1 "_law_digits" e_1) (gk:DefOk P w K mg base 6 "_law_exchanged" e_8) (gl:DefOk P w K mg base 5 "_law_refused" f_0) (gm:DefOk P w K mg base 4 "_law_row" f_9) (gp:DefOk P w K mg base 2 "_law_spoilt" g_5) (gq:DefOk P w K mg base 1 "_law_words" c_8) (gr:DefN P w K mg base 4 "read_works" g_4):FnOk P w K mg base CX0 7 f fd ["_law_script"] (spP K ac6) :=
 i_5 F Sw rfl rfl (λ O A outer s H E q =>
 (xsC (bh3 1 Sw.nd (aO3 xaN))
 (xsC (ag1 T.z_range (xgN 2 Sw.nd) (xb h_5 a_6 (xb i_4 (xG gi q (xaC (xv 0) (xaC a_6 xaN))) a_6)) (xs1 (bx2 1 (xaC (xhl 1 (xG gm q (xaC (xv 1) (xaC (xG gj q (xaC (xG gi q (xaC (xv 0) (xaC (xb h_5 a_6 (xv 2)) xaN))) (xaC a_6 xaN))) xaN)))) xaN))))
 (xsC (bh7 1 (S_7 3 Sw.nd (sc:=a_2 D_0) rfl rfl (by show ScB ["_law_script","_law_works","_law_k","_law_rows","_law_at","_law_spoilt_here"] (a_2 D_0) _ "_law_row_here" [] [];exact scB) (xv 1) (λ _ _ _ _=>k_1) (λ _ _ _ _=>(xG gq q (xaC (xv 0) xaN)))))
 (xsC (i_1 (xt (cNe q.units) (xNL gr (q.mono (by decide)) (xaC (C_1 (xv 3)) xaN)) (xv 1))
 (xs1 (g_1 xbl))
 xsN)
 (xsC (i_1 (t_5 (xtv (xG gk q (xaC (xv 1) (xaC (xv 3) (xaC (xG gi q (xaC (xv 0) (xaC a_6 xaN))) xaN)))) (λ _=>rfl)))
 (xs1 (g_1 xbl))
 xsN)
 (xsC (j_4 4 Sw.nd (xb i_4 (xG gi q (xaC (xv 0) (xaC a_6 xaN))) (xB c_6 rfl T.z_len zr (xaC (xv 1) xaN))))
 (xsC (j_4 5 Sw.nd (xG gp q (xaC (xv 1) (xaC (xv 4) (xaC (xG gi q (xaC (xv 0) (xaC a_6 xaN))) xaN)))))
 (xs1 (g_1 (xG gl q (xaC (C_1 (xb h_5 (xb h_5 (A_0 (xv 3) xoN (xoS (xv 4))) (y_7 (xaC (xv 5) xaN))) (A_0 (xv 3) (xoS (xb h_5 (xv 4) a_6)) xoN))) (xaC (xv 4) xaN)))))))))))))
end
end Fx
namespace Fx
open PySem
theorem ap2 {g:D->En->Option En}{B:FS} (P:En->Prop):∀ (n:Nat) (lo:Int) (ρ:En),(∀ (i:Nat) ρ,i<n->P ρ->∃ Y O,g (.int (lo+i)) ρ=some Y/\B Y=some (.nx O)/\P O)->P ρ->∃ ρ',fGo g B (n_2 lo n) ρ=some (.nx ρ')/\P ρ'
 |0,lo,ρ,_,p=>⟨ρ,rfl,p⟩
 |n+1,lo,ρ,h,p=>by
  obtain⟨Y,O,h1,h2,p2⟩:=h 0 ρ (by omega) p;have Z:g (.int lo) ρ=some Y:=by simpa using h1
  obtain⟨ρ',e,p'⟩:=ap2 P n (lo+1) O (λ i ρ hi q=>by
   obtain⟨a,b,c,d,e⟩:=h (i+1) ρ (by omega) q;refine⟨a,b,?_,d,e⟩;rw[show lo+1+(i:Int)=lo+((i+1:Nat):Int) by push_cast;omega];exact c) p2
  refine⟨ρ',?_,p'⟩;rw[show n_2 lo (n+1)=.int lo::n_2 (lo+1) n from rfl,aD8,Z,aE0,h2,aD9];exact e
theorem w_3 {i j:Int} (h:j.natAbs<2 ^ 64):l_3 i j=true:=by unfold l_3;rw[yc h];simp
theorem E_4 {i j:Int} (h:i.natAbs<2 ^ 64):l_3 i j=true:=by unfold l_3;rw[yc h];simp
theorem e_4 {j:Int} (q:j≠0) (h:j.natAbs<2 ^ 64):h_4 j=true:=by unfold h_4;rw[yc q,yc (Jf h (Nat.pow_lt_pow_right (by decide) (by decide)))];rfl
@[simp] theorem cp9 (n k:Nat) (F:En->Option MO) (ds:List D):fnN n k F ds=if ds.length=n then F (ds.map .im++List.replicate k .no) else none:=yI rfl
def bp4 (F:En->Option MO) (o:Option Res):Option MO:=bnd o λ r=>match r with
 |.nx ρ'=>F ρ'
 |_=>none
@[simp] theorem cj3 (A:FS) (F:En->Option MO) (ρ:En):bf3 A F ρ=bp4 F (A ρ):=yI rfl
@[simp] theorem bK6 (F:En->Option MO) (ρ:En):bp4 F (some (.nx ρ))=F ρ:=yI rfl
abbrev alpha:Str:=Str.ofString "abcdefghijklmnopqrstuvwxyz"
theorem N_5:alpha.length=26:=by decide +kernel
theorem aG3:∀ j:Nat,j<26->alpha.cps.toList[j]?=some (97+j):=by
 have e:alpha.cps.toList=List.range' 97 26:=by decide +kernel
 intro j q;rw[e,List.getElem?_range' q];simp
theorem a_1 {n:Nat} (h:n<=1000):n<=sizeLine:=zo h (by decide)
theorem am5 {i:Int} (q:0<=i) (h1:i<26):atS alpha i=some (.str (chS (97+i.toNat))):=by
 unfold atS;rw[if_pos (by rw[N_5];exact a_1 (by decide))];have l:alpha.cps.toList.length=26:=by decide +kernel
 unfold dPl;rw[l,if_pos q,if_pos (by exact_mod_cast h1),a_7,aG3 _ (by omega),a_7]
theorem bf5 (x:Int):0<=x.fmod 26/\x.fmod 26<26:=⟨Qm _ (by decide),Q9 _ (by decide)⟩
def ltr (x:Int):Str:=chS (97+(x.fmod 26).toNat)
theorem aK6 (x:Int):atS alpha (x.fmod 26)=some (.str (ltr x)):=am5 (bf5 x).1 (bf5 x).2
theorem aV1 (x:Int):(ltr x).length=1:=rfl
theorem G_9 (a b:Str):(a++b).length=a.length+b.length:=by show (a.cps++b.cps).size=_;rw[Array.size_append];rfl
theorem k_7 {α:Type} (f:α->D) (xs:List α) {i:Int} (q:0<=i) (h1:i<xs.length):∃ x,x∈xs/\atD (xs.map f) i=some (f x):=by
 have hi:i.toNat<xs.length:=by omega
 refine⟨xs[i.toNat],Qz hi,?_⟩;unfold atD dPl;rw[qy,if_pos q,if_pos h1];show (xs.map f)[i.toNat]?=_;rw[yo,zl hi];rfl
theorem bw6 {c:Nat}:∀ {X Y A B:List Nat},c∉X->c∉Y->X++c::A=Y++c::B->X=Y/\A=B
 |[],[],A,B,_,_,h=>⟨rfl,(jc h).2⟩
 |[],y::Y,A,B,_,hy,h=>absurd (by rw[(jc h).1];exact qg) hy
 |x::X,[],A,B,hx,_,h=>absurd (by rw[<- (jc h).1];exact qg) hx
 |x::X,y::Y,A,B,hx,hy,h=>by
  obtain⟨e1,e2⟩:=jc h;obtain⟨e3,e4⟩:=bw6 (λ z=>hx (qh _ z)) (λ z=>hy (qh _ z)) e2;exact⟨by rw[e1,e3],e4⟩
theorem r_2 {a b:Str} (h:a.cps.toList=b.cps.toList):a=b:=by obtain⟨⟨x⟩⟩:=a;obtain⟨⟨y⟩⟩:=b;cases h;rfl
theorem h_8 (a b:Str):(a++b).cps.toList=a.cps.toList++b.cps.toList:=by show (a.cps++b.cps).toList=_;rw[Array.toList_append]
theorem h_0 (c:Nat) (x y:Str) (r:List Str):(Str.join ⟨#[c]⟩ (x::y::r)).cps.toList=x.cps.toList++c::(Str.join ⟨#[c]⟩ (y::r)).cps.toList:=by show (x++⟨#[c]⟩++Str.join ⟨#[c]⟩ (y::r)).cps.toList=_;rw[h_8,h_8];simp
theorem K_7 {c:Nat}:∀ {ss ts:List Str},ss≠[]->ts≠[]->(∀ s∈ss,c∉s.cps.toList)->(∀ s∈ts,c∉s.cps.toList)->Str.join ⟨#[c]⟩ ss=Str.join ⟨#[c]⟩ ts->ss=ts
 |[],_,h,_,_,_,_=>absurd rfl h
 |_,[],_,h,_,_,_=>absurd rfl h
 |[x],[y],_,_,_,_,h=>by
  have h:x=y:=h;rw[h]
 |[x],y::y2::r,_,_,h1,_,h=>by
  have h:x=Str.join ⟨#[c]⟩ (y::y2::r):=h;have e:=jm (λ z:Str=>z.cps.toList) h;rw[h_0] at e;exact absurd (by rw[e];simp) (h1 x qg)
 |x::x2::r,[y],_,_,_,h2,h=>by
  have h:Str.join ⟨#[c]⟩ (x::x2::r)=y:=h;have e:=jm (λ z:Str=>z.cps.toList) h;rw[h_0] at e;exact absurd (by rw[<- e];simp) (h2 y qg)
 |x::x2::r,y::y2::q,_,_,h1,h2,h=>by
  have e:=jm (λ z:Str=>z.cps.toList) h;rw[h_0,h_0] at e;obtain⟨e1,e2⟩:=bw6 (h1 x qg) (h2 y qg) e;have Y:=K_7 (c:=c) (ss:=x2::r) (ts:=y2::q) (by simp) (by simp) (λ s O=>h1 s (qh _ O)) (λ s O=>h2 s (qh _ O)) (r_2 e2);rw[r_2 e1,Y]
theorem A_4 {c:Nat}{ss:List Str} (q:ss≠[]) (h:∀ s∈ss,c∉s.cps.toList):Txt.split (Str.join ⟨#[c]⟩ ss) ⟨#[c]⟩=ss:=by
 have ne:Txt.split (Str.join ⟨#[c]⟩ ss) ⟨#[c]⟩≠[]:=λ z=>by
  have:=PyProof.Rows.split_pos (Str.join ⟨#[c]⟩ ss) ⟨#[c]⟩;rw[z] at this;simp at this
 refine K_7 ne q ?_ h ?_
 ·first | exact StrLaws.split_free _ c | exact split_free _ c
 ·first | exact StrLaws.join_split _ _ | exact join_split _ _
abbrev blk:Str:=Str.ofString " "
abbrev lf:Str:=Str.ofString "\n"
theorem M_5:blk=(⟨#[32]⟩:Str):=by decide +kernel
theorem aV5:lf=(⟨#[10]⟩:Str):=by decide +kernel
theorem p_4 {ss:List Str} (q:ss≠[]) (h:∀ s∈ss,32∉s.cps.toList):Txt.split (Str.join blk ss) blk=ss:=by rw[M_5];exact A_4 q h
theorem T_7 {ss:List Str} (q:ss≠[]) (h:∀ s∈ss,10∉s.cps.toList):Txt.split (Str.join lf ss) lf=ss:=by rw[aV5];exact A_4 q h
theorem br5 (L:Str):∀ cs:List Nat,cGo tYes (e2 d_8 (eV 0) (eC (.str L))) [] (cs.map λ c=>.str (chS c))=some (cs.map λ c=>.bl (inS (chS c) L))
 |[]=>rfl
 |c::r=>by
  have f:e2 d_8 (eV 0) (eC (.str L)) [.im (.str (chS c))]=some (.bl (inS (chS c) L),[.im (.str (chS c))]):=by simp
  rw[qz,bd5];show cGa _ _ _ _ (some (true,_))=_;rw[bd7,f,bd6,br5 L r,B_6];rfl
theorem Z_3 (L:Str):∀ cs:List Nat,y_0 (cs.map λ c=>.bl (inS (chS c) L))=some (cs.map λ c=>inS (chS c) L)
 |[]=>rfl
 |c::r=>by rw[qz,R_7,Z_3 L r,B_6];rfl
theorem bc5 (w:Str):(chs w).length=w.length:=by unfold chs;rw[qy,yg];rfl
abbrev ap1:Str:=Str.ofString "0123456789"
theorem W_9:∀ c:Nat,c<123->inS (chS c) alpha=decide (97<=c):=by decide +kernel
theorem ao0:∀ c:Nat,c<123->inS (chS c) ap1=(decide (48<=c)&&decide (c<=57)):=by decide +kernel
def Key (w:Str):Prop:=1<=w.length/\w.length<=8/\∀ c∈w.cps.toList,97<=c/\c<123
theorem bw7 (L:Str) (cs:List Nat):z_8 [.lst (cs.map λ c=>.bl (inS (chS c) L))]=some (.bl (cs.all λ c=>inS (chS c) L)):=by rw[be1,Z_3,at7,List.all_map];rfl
theorem p_5 (L w:Str) (h:w.length<=1000) {ρ:En}{i:Nat} (hi:ρ[i]?=some (.im (.str w))):eF z_8 (aC (eLC [] (eV i) tYes (e2 d_8 (eV 0) (eC (.str L)))) aN) ρ=some (.bl (w.cps.toList.all λ c=>inS (chS c) L),ρ):=by
 have q:(chs w).length<=sizeLine:=by rw[bc5];exact a_1 h
 have g:cGo tYes (e2 d_8 (eV 0) (eC (.str L))) [] (chs w)=some (w.cps.toList.map λ c=>.bl (inS (chS c) L)):=br5 L _;have a:=bw7 L w.cps.toList;generalize (w.cps.toList.map λ c=>D.bl (inS (chS c) L))=C at g a;have v:eV i ρ=some (.str w,ρ):=by simp[hi]
 have e:eLC [] (eV i) tYes (e2 d_8 (eV 0) (eC (.str L))) ρ=some (.lst C,ρ):=by unfold eLC;rw[v,a_7];show bnd (some (chs w)) _=_;rw[a_7,X_0,a_7,g,a_7,if_pos q]
 generalize eLC [] (eV i) tYes (e2 d_8 (eV 0) (eC (.str L)))=F at e;simp[e,a]
theorem aL1 {w:Str} (h:Key w):d_7 [.str w]=some (.bl true):=by
 obtain⟨h1,h2,h3⟩:=h;have wz:w.length<=sizeLine:=a_1 (by omega);have g:=p_5 alpha w (by omega) (ρ:=[.im (.str w)]) (i:=0) rfl;have Y:(w.cps.toList.all λ c=>inS (chS c) alpha)=true:=by rw[Q0];intro c hc;obtain⟨c1,Z⟩:=h3 c hc;rw[W_9 c Z];simpa using c1
 rw[Y] at g;have e1:(1:Int)<=(w.length:Int):=by omega
 have q:(w.length:Int)<=8:=by omega
 generalize O:eF z_8 (aC (eLC [] (eV 0) tYes (e2 d_8 (eV 0) (eC (.str alpha)))) aN)=GG at g;unfold d_7 G_8;rw[O];simp[wz,g,e1,q]
def dg (m:Nat):List Nat:=(Nat.toDigits 10 m).map Char.toNat
theorem k_9 {m:Nat} (h:m<10):dg m=[48+m]:=by
 unfold dg;rw[Nat.toDigits_of_lt_base h];have:∀ d:Nat,d<10->(Nat.digitChar d).toNat=48+d:=by decide
 rw[qz,Ql,this m h]
theorem Y_5 {m:Nat} (h:¬ m<10):dg m=dg (m / 10)++[48+m % 10]:=by have q:m % 10<10:=Nat.mod_lt m (by decide);have t:Nat.toDigits 10 (m / 10)++Nat.toDigits 10 (m % 10)=Nat.toDigits 10 (10*(m / 10)+m % 10):=Nat.toDigits_append_toDigits (by decide) (by omega) q;rw[Nat.div_add_mod] at t;have e:=k_9 q;unfold dg at e ⊢;rw[<- t,yf,e]
theorem B_5 (m:Nat):∀ c∈dg m,48<=c/\c<=57:=by
 induction m using Nat.strongRecOn with
 |_ m O =>
  intro c q;by_cases h:m<10
  ·rw[k_9 h] at q;have:=List.mem_singleton.mp q;omega
  ·rw[Y_5 h] at q;rcases qx q with z | z
   ·exact O (m / 10) (by omega) c z
   ·have:=List.mem_singleton.mp z;omega
theorem aE7 (m:Nat):dg m≠[]:=by
 by_cases h:m<10
 ·rw[k_9 h];simp
 ·rw[Y_5 h];simp
theorem aq2:∀ (k m:Nat),m<10 ^ (k+1)->(dg m).length<=k+1
 |0,m,h=>by rw[k_9 (by simpa using h)];simp
 |k+1,m,h=>by
  by_cases q:m<10
  ·rw[k_9 q];simp
  ·rw[Y_5 q,zh];have:=aq2 k (m / 10) (by rw[Nat.pow_succ] at h;omega);simp;omega
theorem aq3 (m:Nat) (O:m≠0):∃ c r,dg m=c::r/\c≠48:=by
 induction m using Nat.strongRecOn with
 |_ m q =>
  by_cases h:m<10
  ·exact⟨48+m,[],k_9 h,by omega⟩
  ·obtain⟨c,r,e,n⟩:=q (m / 10) (by omega) (by omega);exact⟨c,r++[48+m % 10],by rw[Y_5 h,e];rfl,n⟩
def nT (n:Int):Str:=Str.ofString (toString n)
theorem W_0 (m:Nat):(nT (m:Int)).cps.toList=dg m:=PySem.W.KIN.signs_num m
theorem W_1 (m:Nat) (h:m≠0):(nT (-(m:Int))).cps.toList=45::dg m:=by obtain⟨k,rfl⟩:=Nat.exists_eq_succ_of_ne_zero h;have e:-((k.succ:Nat):Int)=Int.negSucc k:=rfl;unfold nT;rw[e,PyProof.Rows.signs_ofString];show ("-"++Nat.repr (k+1)).toList.map Char.toNat=_;rw[String.toList_append,yf,Nat.toList_repr];rfl
theorem c_5 (w:Str):w.length=w.cps.toList.length:=Array.length_toList.symm
abbrev mns:Str:=Str.ofString "-"
theorem bp6:mns=(⟨#[45]⟩:Str):=by decide +kernel
theorem r_3  (h:w.cps.toList=c::r):Txt.startswith w mns=decide (c=45):=by
 obtain⟨⟨l⟩⟩:=w;have h:=h;subst h;rw[bp6];show (decide (0+1<=(c::r).length)&&(List.toArray (c::r)).extract 0 (0+1)==#[45])=_;have e:(List.toArray (c::r)).extract 0 (0+1)=#[c]:=by simp
 rw[e];by_cases z:c=45
 ·subst z;simp
 ·simp[z]
theorem bj4  (h:w.cps.toList=c::r):Txt.slice w (some 1) none=⟨r.toArray⟩:=by
 have l:w.length=r.length+1:=by rw[c_5,h];rfl
 rw[PyProof.Rows.slice_from_eq (by decide) (by omega) rfl,h];have e:((c::r).drop (1:Int).toNat).take ((w.length:Int)-1).toNat=r:=by show r.take _=r;exact Zi (by omega)
 rw[e]
theorem aM4  (hm:m<10 ^ 12) (h:w.cps.toList=dg m\/(w.cps.toList=45::dg m/\m≠0)):c_9 [.str w]=some (.bl true):=by
 have ac:=aq2 11 m hm;have l1:=List.length_pos_iff.mpr (aE7 m);have al:((dg m).all λ c=>inS (chS c) ap1)=true:=by rw[Q0];intro c hc;obtain⟨c1,c2⟩:=B_5 m c hc;rw[ao0 c (by omega)];simp[c1,c2]
 have z1:(1:Int)<=((dg m).length:Int):=by omega
 have z2:((dg m).length:Int)<=12:=by omega
 have hF:∀ (F:Str) (ρ:En),F.cps.toList=dg m->ρ[1]?=some (.im (.str F))->eF z_8 (aC (eLC [] (eV 1) tYes (e2 d_8 (eV 0) (eC (.str ap1)))) aN) ρ=some (.bl true,ρ):=λ F ρ hf hi=>by
  have g:=p_5 ap1 F (by rw[c_5,hf];omega) hi;rw[hf,al] at g;exact g
 obtain⟨c,r,Y⟩:=List.exists_cons_of_ne_nil (aE7 m);have cd:=B_5 m c (by rw[Y];exact qg);generalize hG:eF z_8 (aC (eLC [] (eV 1) tYes (e2 d_8 (eV 0) (eC (.str ap1)))) aN)=GG at hF;rcases h with h | ⟨h,h0⟩
 ·have wl:w.length=(dg m).length:=by rw[c_5,h]
  have wz:w.length<=sizeLine:=a_1 (by omega);have st:Txt.startswith w (Str.ofString "-")=false:=by rw[r_3 (by rw[h,Y])];simp;omega
  have g:=hF w [.im (.str w),.im (.str w)] h rfl;have O:atS w 0=some (.str (chS c)):=by unfold atS dPl;rw[if_pos wz,h,if_pos (by omega),if_pos (by omega),a_7,Y];rfl
  have aa:(w=Str.ofString "0") ∨ ¬ (chS c=Str.ofString "0"):=by
   by_cases z:m=0
   ·subst z;refine .inl (r_2 ?_);rw[h,k_9 (by decide)];decide +kernel
   ·obtain⟨c',r',Z,n'⟩:=aq3 m z;rw[Y] at Z;cases Z;refine .inr λ q=>n' ?_;have:=jm (λ x:Str=>x.cps.toList) q;have e0:(Str.ofString "0").cps.toList=[48]:=by decide +kernel
    rw[e0] at this;have this:=this;exact (jc this).1
  unfold c_9 j_0;rw[hG];rw[<- wl] at z1 z2;by_cases z:w=Str.ofString "0"
  ·have zz:=eq_true z;clear z;simp[List.replicate,st,wz,g,z1,z2,zz]
  ·have zz:=Qn z;have yy:=Qn (aa.resolve_left z);clear z;simp[List.replicate,st,wz,g,z1,z2,O,zz,yy]
 ·have wl:w.length=(dg m).length+1:=by rw[c_5,h];rfl
  have wz:w.length<=sizeLine:=a_1 (by omega);have st:Txt.startswith w (Str.ofString "-")=true:=by rw[r_3 h];simp
  have sl:=bj4 h;generalize hf:(⟨(dg m).toArray⟩:Str)=f at sl;have fl:f.cps.toList=dg m:=by rw[<- hf]
  have fn:f.length=(dg m).length:=by rw[c_5,fl]
  have fz:f.length<=sizeLine:=a_1 (by omega);have g:=hF f [.im (.str w),.im (.str f)] fl rfl;have O:atS f 0=some (.str (chS c)):=by unfold atS dPl;rw[if_pos fz,fl,if_pos (by omega),if_pos (by omega),a_7,Y];rfl
  have z:¬ (chS c=Str.ofString "0"):=by
   obtain⟨c',r',Z,n'⟩:=aq3 m h0;rw[Y] at Z;cases Z;intro q;have:=jm (λ x:Str=>x.cps.toList) q;have e0:(Str.ofString "0").cps.toList=[48]:=by decide +kernel
   rw[e0] at this;have this:=this;exact n' (jc this).1
  have w0:¬ (w=Str.ofString "0"):=λ q=>by
   have:=jm (λ x:Str=>x.cps.toList) q;have e0:(Str.ofString "0").cps.toList=[48]:=by decide +kernel
   rw[e0,h] at this;cases this
  unfold c_9 j_0;rw[hG];rw[<- fn] at z1 z2;simp[List.replicate,st,wz,fz,sl,g,z1,z2,O,z,w0]
theorem aK0  (h:n.natAbs<10 ^ 12):c_9 [.str (nT n)]=some (.bl true):=by
 rcases (show n<0\/0<=n by omega) with z | z
 ·have e:n=-((n.natAbs:Nat):Int):=by omega
  rw[e];exact aM4 h (.inr ⟨W_1 _ (by omega),by omega⟩)
 ·have e:n=((n.natAbs:Nat):Int):=by omega
  rw[e];exact aM4 h (.inl (W_0 _))
theorem al8  (h:n.natAbs<10 ^ 12):(nT n).length<=13:=by
 have q:=aq2 11 n.natAbs h;rcases (show n<0\/0<=n by omega) with z | z
 ·have e:n=-((n.natAbs:Nat):Int):=by omega
  rw[c_5,e,W_1 _ (by omega)];simp;omega
 ·have e:n=((n.natAbs:Nat):Int):=by omega
  rw[c_5,e,W_0];omega
theorem E_6 :∀ c∈(nT n).cps.toList,c=45\/(48<=c/\c<=57):=by
 intro c O;rcases (show n<0\/0<=n by omega) with z | z
 ·have e:n=-((n.natAbs:Nat):Int):=by omega
  rw[e,W_1 _ (by omega)] at O;rcases qw O with q | q
  ·exact .inl q
  ·exact .inr (B_5 _ c q)
 ·have e:n=((n.natAbs:Nat):Int):=by omega
  rw[e,W_0] at O;exact .inr (B_5 _ c O)
theorem aM3 (m:Nat):PySem.NumText.digitsVal (dg m)=m:=PySem.W.KIN.val_back m
theorem br4  (h:n.natAbs<10 ^ 12):PySem.intText? (nT n)=some n:=by
 have l:=al8 h;rcases (show n<0\/0<=n by omega) with z | z
 ·have e:n=-((n.natAbs:Nat):Int):=by omega
  have q:=PySem.intText_neg (cs:=dg n.natAbs) (by rw[<- W_1 _ (by omega),<- e]) (B_5 _) (aE7 _) (by omega);rw[q,aM3,<- e]
 ·have e:n=((n.natAbs:Nat):Int):=by omega
  have c:(nT n).cps.toList=dg n.natAbs:=by rw[<- W_0,<- e]
  have q:=PySem.intText_digits (by rw[c];exact B_5 _) (by rw[c];exact aE7 _) (by omega);rw[q,c,aM3,<- e]
abbrev star:Str:=Str.ofString "*"
theorem aU4 :¬ (nT n=star):=λ q=>by
 have e:star.cps.toList=[42]:=by decide +kernel
 have:=E_6 42 (by rw[q,e];exact qg);omega
theorem aO9  (h:n.natAbs<10 ^ 12):c_4 [.str (nT n)]=some (.int n):=by
 have a:=aK0 h;have b:=br4 h;have c:=al8 h;have d:(nT n).length<=640:=by omega
 have e:=Qn (aU4 (n:=n));simp[c_4,j_9,a,b,d,e]
theorem aw4:c_4 [.str star]=some .non:=by simp[c_4,j_9]
theorem an0  (h:Key w):c_9 [.str w]=some (.bl false):=by
 obtain⟨h1,h2,h3⟩:=h;have wz:w.length<=sizeLine:=a_1 (by omega);obtain⟨c,r,q⟩:=List.exists_cons_of_ne_nil (l:=w.cps.toList) (λ z=>by rw[c_5,z] at h1;simp at h1);have hc:=h3 c (by rw[q];exact qg);have st:Txt.startswith w (Str.ofString "-")=false:=by rw[r_3 q];simp;omega
 have g:=p_5 ap1 w (by omega) (ρ:=[.im (.str w),.im (.str w)]) (i:=1) rfl;have Y:(w.cps.toList.all λ c=>inS (chS c) ap1)=false:=by rw[Ya];refine⟨c,by rw[q];exact qg,?_⟩;rw[ao0 c hc.2];simp;omega
 rw[Y] at g;generalize O:eF z_8 (aC (eLC [] (eV 1) tYes (e2 d_8 (eV 0) (eC (.str ap1)))) aN)=GG at g;have Z:(1:Int)<=(w.length:Int):=by omega
 have z2:(w.length:Int)<=12:=by omega
 unfold c_9 j_0;rw[O];simp[List.replicate,st,wz,g,Z,z2]
theorem aC2  (h:Key w):¬ (w=star):=λ q=>by
 have e:star.cps.toList=[42]:=by decide +kernel
 have:=h.2.2 42 (by rw[q,e];exact qg);omega
theorem O_2  (h:Key w):c_4 [.str w]=some (.str w):=by have a:=an0 h;have e:=Qn (aC2 h);simp[c_4,j_9,a,e]
abbrev KPd:D:=.tup [(.str "NAME"),(.str "FROM"),(.str "LEFT"),(.str "RIGHT"),(.str "KEY"),(.str "OTHER")]
abbrev BP:D:=.tup [(.str "LOW"),(.str "HIGH"),(.str "END")]
abbrev HP:D:=.tup [(.str "sum"),(.str "less"),(.str "left"),(.str "right")]
abbrev FP:D:=.tup [(.str "count"),(.str "sum"),(.str "most"),(.str "least")]
theorem L_3  (q:d_8 (.str p) KPd=some (.bl true)) (h:Key w):d_4 [.str p,.str w]=some (.bl true):=by have k:=aL1 h;simp[-i_2,d_4,t_1,q,k]
structure NumPl (p:Str):Prop where
 kp:d_8 (.str p) KPd=some (.bl false)
 nh:¬ (p=Str.ofString "HOW")
 nf:¬ (p=Str.ofString "FOLD")
theorem bt1  (q:NumPl p)  (h:n.natAbs<10 ^ 12):d_4 [.str p,.str (nT n)]=some (.bl true):=by have k:=aK0 h;have a:=q.kp;have b:=Qn q.nh;have c:=Qn q.nf;simp[-i_2,d_4,t_1,a,b,c,k]
theorem aa9:c_9 [.str star]=some (.bl false):=by
 have st:Txt.startswith star (Str.ofString "-")=false:=by decide +kernel
 have g:=p_5 ap1 star (by decide +kernel) (ρ:=[.im (.str star),.im (.str star)]) (i:=1) rfl;have O:(star.cps.toList.all λ c=>inS (chS c) ap1)=false:=by decide +kernel
 rw[O] at g;generalize q:eF z_8 (aC (eLC [] (eV 1) tYes (e2 d_8 (eV 0) (eC (.str ap1)))) aN)=GG at g;have wz:star.length<=sizeLine:=by decide +kernel
 have Y:(1:Int)<=(star.length:Int):=by decide +kernel
 have Z:(star.length:Int)<=12:=by decide +kernel
 unfold c_9 j_0;rw[q];simp[List.replicate,st,wz,g,Y,Z]
theorem bt0  (q:NumPl p) (O:d_8 (.str p) BP=some (.bl true)):d_4 [.str p,.str star]=some (.bl true):=by have a:=q.kp;have b:=Qn q.nh;have c:=Qn q.nf;have k:=aa9;simp[-i_2,d_4,t_1,a,b,c,k,O]
theorem bt2  (h:d_8 (.str w) HP=some (.bl true)):d_4 [.str "HOW",.str w]=some (.bl true):=by
 have a:d_8 (.str "HOW") KPd=some (.bl false):=by kernel_rfl
 simp[-i_2,d_4,t_1,a,h]
theorem bt3  (h:d_8 (.str w) FP=some (.bl true)):d_4 [.str "FOLD",.str w]=some (.bl true):=by
 have a:d_8 (.str "FOLD") KPd=some (.bl false):=by kernel_rfl
 have b:=Qn (show ¬ (Str.ofString "FOLD"=Str.ofString "HOW") by decide +kernel);simp[-i_2,d_4,t_1,a,b,h]
theorem al1:NumPl (Str.ofString "LOW"):=⟨by kernel_rfl,by decide +kernel,by decide +kernel⟩
theorem P_6:NumPl (Str.ofString "HIGH"):=⟨by kernel_rfl,by decide +kernel,by decide +kernel⟩
theorem aB5:NumPl (Str.ofString "BEGIN"):=⟨by kernel_rfl,by decide +kernel,by decide +kernel⟩
theorem bo7:NumPl (Str.ofString "END"):=⟨by kernel_rfl,by decide +kernel,by decide +kernel⟩
theorem ci7:NumPl (Str.ofString "M"):=⟨by kernel_rfl,by decide +kernel,by decide +kernel⟩
theorem ci6:NumPl (Str.ofString "R"):=⟨by kernel_rfl,by decide +kernel,by decide +kernel⟩
theorem cj0:NumPl (Str.ofString "A"):=⟨by kernel_rfl,by decide +kernel,by decide +kernel⟩
theorem ci9:NumPl (Str.ofString "B"):=⟨by kernel_rfl,by decide +kernel,by decide +kernel⟩
theorem ci8:NumPl (Str.ofString "C"):=⟨by kernel_rfl,by decide +kernel,by decide +kernel⟩
theorem aB4:NumPl (Str.ofString "REACH"):=⟨by kernel_rfl,by decide +kernel,by decide +kernel⟩
theorem V_5:NumPl (Str.ofString "WIDTH"):=⟨by kernel_rfl,by decide +kernel,by decide +kernel⟩
theorem aU1:NumPl (Str.ofString "STEP"):=⟨by kernel_rfl,by decide +kernel,by decide +kernel⟩
theorem bo6:NumPl (Str.ofString "GAP"):=⟨by kernel_rfl,by decide +kernel,by decide +kernel⟩
abbrev forms:List (Str×D):=lit0
theorem ab4  (hk:dKx forms (.str wd)=some (.str form)) (hl:form.length ≤ 100000) (hs:Txt.split form blk=ws++[l]) (hd:¬ (l=Str.ofString "..")) (ha:¬ (wd=Str.ofString "ask" ∧ 2<n)) :
  b_9 [.str wd,.int n]=some (.lst ((ws++[l]).map .str)):=by
 have la:atD ((ws++[l]).map D.str) (-1)=some (.str l):=by
  unfold atD dPl;rw[if_neg (by decide),if_pos (by simp;omega)];simp;have:((-1:Int)+(((ws.length:Nat):Int)+1)).toNat=ws.length:=by omega
  rw[this];simp
 have d0:=Qn hd;have bl:blk.length≠0:=by decide +kernel
 have Y:=bl;have O:tAnd (tB (e2 dEq (eV 0) (zR "ask"))) (tB (e2 dGt (eV 1) (zI 2))) [.im (.str wd),.im (.int n),.no,.no]=some (false,[.im (.str wd),.im (.int n),.no,.no]):=by
  by_cases z:wd=Str.ofString "ask"
  ·have z2:¬ (2<n):=λ q=>ha ⟨z,q⟩;have Z:=eq_true z;clear z;simp[Z,z2]
  ·have Z:=Qn z;simp[Z]
 generalize hC:tAnd (tB (e2 dEq (eV 0) (zR "ask"))) (tB (e2 dGt (eV 1) (zI 2)))=CC at O;unfold b_9 l_0;rw[hC];generalize hw:(ws++[l]).map D.str=LL at *;simp[List.replicate,O,hk,hl,hs,bl,hw,la,d0,r_8,bf2,u_9]
theorem Q_1 :atD ((ws++[l]).map D.str) (-1)=some (.str l):=by
 unfold atD dPl;rw[if_neg (by decide),if_pos (by simp;omega)];simp;have:((-1:Int)+(((ws.length:Nat):Int)+1)).toNat=ws.length:=by omega
 rw[this];simp
theorem ae7:¬ (blk.length=0):=by decide +kernel
theorem ab2  (hk:dKx forms (.str wd)=some (.str form)) (hl:form.length ≤ 100000) (hs:Txt.split form blk=(ws++[l])++[Str.ofString ".."]) (ha:¬ (wd=Str.ofString "ask")) (h1:ws.length ≤ 10) (h2:k ≤ 10) :
  b_9 [.str wd,.int ((ws.length+1+k:Nat):Int)]=some (.lst ((ws++[l]).map .str++List.replicate k (.str l))):=by
 have Y:=Q_1 (ws:=ws++[l]) (l:=Str.ofString "..");have O:=Q_1 (ws:=ws) (l:=l);have Z:=ae7;have zz:=Qn ha;have dl:(((ws++[l])++[Str.ofString ".."]).map D.str).dropLast=(ws++[l]).map D.str:=by simp
 have ne:¬ ((((ws++[l])++[Str.ofString ".."]).map D.str).length=0):=by simp
 have ln:((ws++[l]).map D.str).length=ws.length+1:=by simp
 have fl:(List.replicate k [D.str l]).flatten=List.replicate k (.str l):=by
  clear Y O;induction k with
  |zero=>rfl
  |succ k ih=>rw[yv,jo,ih (by omega),yv];rfl
 have i1:(((ws.length+1+k:Nat):Int)-((ws.length+1:Nat):Int))=(k:Int):=by omega
 have i2:(k:Int)<=1000:=by omega
 have i3:(-1000:Int)<=(k:Int):=by omega
 have i4:ws.length+1+k<1000:=by omega
 have i5:nl (.str l)=true:=rfl;have i6:∀ n:Int,nl (.int n)=true:=λ _=>rfl;generalize hW:(ws++[l])++[Str.ofString ".."]=W1 at *;generalize q:W1.map D.str=L1 at *;generalize ac:(ws++[l]).map D.str=L2 at *;generalize hn:((ws.length+1+k:Nat):Int)=N at *;generalize aa:ws.length+1=N1 at *;have lz:L2.length<=sizeLine:=a_1 (by omega);simp[b_9,l_0,List.replicate,zz,hk,hl,hs,Z,q,Y,O,dl,ne,r_8,bf2,u_9,L_5,i1,i2,i3,i4,i5,i6,ln,fl]
theorem ab5:b_9 [.str "ask",.int 4]=some (.lst ((["NAME","FROM","LOW","HIGH"].map Str.ofString).map .str)):=by
 have Z:dKx forms (.str "ask")=some (.str "NAME FROM"):=by kernel_rfl
 have O:Txt.split (Str.ofString "NAME FROM"++Str.ofString " LOW HIGH") blk=(["NAME","FROM","LOW"].map Str.ofString)++[Str.ofString "HIGH"]:=by decide +kernel
 have Y:=Q_1 (ws:=["NAME","FROM","LOW"].map Str.ofString) (l:=Str.ofString "HIGH");have d0:=Qn (show ¬ (Str.ofString "HIGH"=Str.ofString "..") by decide +kernel);have bl:=ae7;have hl:(Str.ofString "NAME FROM"++Str.ofString " LOW HIGH").length ≤ 100000:=by decide +kernel
 have hz:(Str.ofString "NAME FROM").length+(Str.ofString " LOW HIGH").length ≤ sizeLine:=by decide +kernel
 have hw:(["NAME","FROM","LOW"].map Str.ofString)++[Str.ofString "HIGH"]=["NAME","FROM","LOW","HIGH"].map Str.ofString:=rfl;rw[hw] at Y O;generalize ["NAME","FROM","LOW","HIGH"].map Str.ofString=WW at *;generalize q:WW.map D.str=L1 at *;generalize hF:Str.ofString "NAME FROM"++Str.ofString " LOW HIGH"=FF at *;simp[b_9,l_0,List.replicate,Z,O,bl,q,Y,d0,r_8,bf2,u_9,hl,hz,hF]
theorem y_5 (a b:D):atD [a,b] 0=some a:=rfl
theorem N_4 (a b:D):atD [a,b] 1=some b:=rfl
abbrev FR:D:=.tup [(.str "FROM"),(.str "LEFT"),(.str "RIGHT")]
inductive Item:Str->Str->D->Prop
 |num {p:Str}{n:Int} (hp:NumPl p) (hf:d_8 (.str p) FR=some (.bl false)) (h:n.natAbs<10 ^ 12):Item p (nT n) (.int n)
 |star {p:Str} (hp:NumPl p) (hf:d_8 (.str p) FR=some (.bl false)) (h:d_8 (.str p) BP=some (.bl true)):Item p star .non
 |key {p s:Str} (hp:d_8 (.str p) KPd=some (.bl true)) (hf:d_8 (.str p) FR=some (.bl false)) (h:Key s):Item p s (.str s)
 |how {s:Str} (h:d_8 (.str s) HP=some (.bl true)) (k:Key s):Item (Str.ofString "HOW") s (.str s)
 |fold {s:Str} (h:d_8 (.str s) FP=some (.bl true)) (k:Key s):Item (Str.ofString "FOLD") s (.str s)
theorem b_6  (k:Key s):32∉s.cps.toList/\10∉s.cps.toList/\s.length<=13 :=
 ⟨λ h=>by have:=k.2.2 _ h;omega,λ h=>by have:=k.2.2 _ h;omega,by have:=k.2.1;omega⟩
structure ItemF (p x:Str) (v:D):Prop where
 fits:d_4 [.str p,.str x]=some (.bl true)
 fr:d_8 (.str p) FR=some (.bl false)
 val:c_4 [.str x]=some v
 free:32∉x.cps.toList/\10∉x.cps.toList/\x.length<=13
 shw:∀ (R:D) (L:List D),L.length+1<1000->d_2 [.im R,.ow false (.lst L),.im v]=some (.nx [.im R,.ow false (.lst (L++[.str x])),.im v])
theorem ax3 (x:Str) (R:D) (L:List D) (hl:L.length+1<1000):d_2 [.im R,.ow false (.lst L),.im (.str x)]=some (.nx [.im R,.ow false (.lst (L++[.str x])),.im (.str x)]):=by simp[y_5];omega
theorem q_1  (h:Item p x v):ItemF p x v:=by
 cases h with
 |@num p n O Y h =>
  refine⟨bt1 O h,Y,aO9 h,⟨λ q=>?_,λ q=>?_,al8 h⟩,λ R L hl=>?_⟩
  ·have:=E_6 _ q;omega
  ·have:=E_6 _ q;omega
  ·have z:n.natAbs<10 ^ 100:=Jf h (by decide);have e:Str.ofString n.repr=nT n:=rfl;simp[z,e,y_5];omega
 |star O Y h =>
  refine⟨bt0 O h,Y,aw4,⟨by decide +kernel,by decide +kernel,by decide +kernel⟩,λ R L hl=>?_⟩;simp[N_4];omega
 |key O Y k=>exact⟨L_3 O k,Y,O_2 k,b_6 k,ax3 _⟩
 |how h k=>exact⟨bt2 h,by kernel_rfl,O_2 k,b_6 k,ax3 _⟩
 |fold h k=>exact⟨bt3 h,by kernel_rfl,O_2 k,b_6 k,ax3 _⟩
theorem ax4 (a b:Str) (R:D) (L:List D) (hl:L.length+2<1000):d_2 [.im R,.ow false (.lst L),.im (.tup [.str a,.str b])]=some (.nx [.im R,.ow false (.lst (L++[.str a,.str b])),.im (.tup [.str a,.str b])]):=by simp[hl]
def Shw (v:D) (xs:List Str):Prop:=∀ (R:D) (L:List D),L.length+xs.length<1000->d_2 [.im R,.ow false (.lst L),.im v]=some (.nx [.im R,.ow false (.lst (L++xs.map .str)),.im v])
theorem aH9 (R:D):∀ (qs:List (D×List Str)) (L:List D) (Y:Sl),(∀ q∈qs,Shw q.1 q.2)->L.length+(qs.flatMap (·.2)).length<1000->∃ O,fGo (gN 2) d_2 (qs.map (·.1)) [.im R,.ow false (.lst L),Y]=some (.nx [.im R,.ow false (.lst (L++(qs.flatMap (·.2)).map .str)),O])
 |[],L,Y,_,_=>⟨Y,by rw[Ql,bN5];simp⟩
 |(v,xs)::r,L,Y,h,hl=>by
  rw[Z9,zh] at hl;obtain⟨O,e⟩:=aH9 R r (L++xs.map .str) (.im v) (λ q Z=>h q (qh _ Z)) (by simp at hl ⊢;omega);refine⟨O,?_⟩;have g:gN 2 v [.im R,.ow false (.lst L),Y]=some [.im R,.ow false (.lst L),.im v]:=by simp
  have h1:=h _ qg R L (by simp at hl ⊢;omega);rw[qz,aD8,g,aE0,h1,aD9,e];simp
theorem C_3:∀ ss:List Str,aw6 (ss.map D.str)=some ss
 |[]=>rfl
 |s::r=>by rw[qz,v_1,C_3 r,a_7]
theorem F_1 (q:Str) (ss:List Str) (h:(ss.map (·.length)).sum+ss.length*q.length<=1000000):K_8 q (ss.map D.str)=some (.str (Str.join q ss)):=by unfold K_8;rw[C_3,a_7,if_pos h]
abbrev ay9 (w nm:Str) (froms:List Str) (rest:List D):D:=.tup [.str w,.str nm,.tup (froms.map .str),.tup rest]
theorem ag3 {qs:List (D×List Str)} (hq:∀ q∈qs,Shw q.1 q.2)  (Z:ws=[w,nm]++froms++qs.flatMap (·.2)) (hl:ws.length<1000) (Y:∀ s∈ws,s.length<=13):c_8 [ay9 w nm froms (qs.map (·.1))]=some (.str (Str.join blk ws)):=by
 have e0:D.str w::D.str nm::froms.map D.str=([w,nm]++froms).map D.str:=by simp
 obtain⟨aa,e⟩:=aH9 (ay9 w nm froms (qs.map (·.1))) qs (([w,nm]++froms).map .str) .no hq (by rw[Z] at hl;simp at hl ⊢;omega);rw[<- yf,<- Z] at e;have sm:∀ l:List Str,(∀ s∈l,s.length<=13)->(l.map (·.length)).sum<=13*l.length:=λ l=>by
  induction l with
  |nil=>intro _;simp
  |cons a r ih =>
   intro h;have:=ih λ s Y=>h s (qh _ Y);have:=h a qg;simp;omega
 have j:=F_1 blk ws (by
  have:=sm ws Y;have:blk.length=1:=by decide +kernel
  rw[this];omega)
 have fl:froms.length+2<1000:=by rw[Z] at hl;simp at hl;omega
 have fz:2+(froms.map D.str).length<=sizeLine:=a_1 (by simp;omega);generalize O:ay9 w nm froms (qs.map (·.1))=R at *;have r0:a_9 R (.int 0)=some (.str w):=by rw[<- O];rfl
 have r1:a_9 R (.int 1)=some (.str nm):=by rw[<- O];rfl
 have r2:a_9 R (.int 2)=some (.tup (froms.map .str)):=by rw[<- O];rfl
 have r3:a_9 R (.int 3)=some (.tup (qs.map (·.1))):=by rw[<- O];rfl
 generalize ws.map D.str=W at *;generalize hC:([w,nm]++froms).map D.str=C at *;generalize qs.map (·.1)=Q at *;generalize froms.map D.str=FF at *;clear O;simp[c_8,y_3,List.replicate,r0,r1,r2,r3,e0,e,j,fz]
theorem q_6 (A B:List D):r_0 (A++B) (some (A.length:Int)) none=B:=by unfold r_0;rw[Y_7,zh,Nat.min_eq_left (Qy ..),List.drop_left];exact Zi (Yn (Nat.add_sub_cancel_left ..).symm)
theorem S_0 (a:D) (r:List D):atD (a::r) 0=some a:=by unfold atD dPl;rw[if_pos (by decide),if_pos (by simp)];rfl
theorem bw4 (a b:D) (r:List D):atD (a::b::r) 1=some b:=by unfold atD dPl;rw[if_pos (by decide),if_pos (by simp;omega)];rfl
theorem am8  (h:cGo2 T F [] zs=some ys) (hi:ρ[i]?=some (.im (.lst zs))) (hl:zs.length<=1000):eLC2 [] (eV i) T F ρ=some (.lst ys,ρ):=by
 have v:eV i ρ=some (.lst zs,ρ):=by simp[hi]
 unfold eLC2;rw[v,a_7];show bnd (some zs) _=_;rw[a_7,X_0,a_7,h,a_7,if_pos (a_1 hl)]
abbrev tld (P:List (Str×Str)):List D:=P.map λ p=>.tup [.str p.1,.str p.2]
theorem af7:∀ P:List (Str×Str),zpT (P.map λ p=>.str p.1) (P.map λ p=>.str p.2)=tld P
 |[]=>rfl
 |p::r=>by
  have:=af7 r;unfold zpT at this ⊢;rw[qz,qz,Q8,qz,this];rfl
theorem ao9:∀ P:List (Str×Str),(∀ p∈P,d_4 [.str p.1,.str p.2]=some (.bl true))->cGo2 tYes (eF d_4 (aC (eV 0) (aC (eV 1) aN))) [] (tld P)=some (P.map λ _=>.bl true)
 |[],_=>rfl
 |(a,b)::r,h=>by
  have h1:=h _ qg;have e:eF d_4 (aC (eV 0) (aC (eV 1) aN)) [.im (.str a),.im (.str b)]=some (.bl true,[.im (.str a),.im (.str b)]):=by simp[h1]
  rw[tld,qz,k_6];show bnd (some (D.str a,D.str b)) _=_;rw[a_7];show bnd (some (true,_)) _=_;rw[a_7,if_pos rfl,e,a_7,ao9 r λ p q=>h p (je _ q),a_7];rfl
theorem H_0  (P:List α):z_8 [.lst (P.map λ _=>.bl true)]=some (.bl true):=by
 have e:y_0 (P.map λ _=>D.bl true)=some (P.map λ _=>true):=by
  induction P with
  |nil=>rfl
  |cons p r q=>rw[qz,R_7,q,B_6];rfl
 rw[be1,e,at7];simp
theorem F_4 :∀ P R:List (Str×Str),(∀ p∈P,d_8 (.str p.1) FR=some (.bl b))->cGo2 (tB (e2 d_8 (eV 0) (eC FR))) (eV 1) [] (tld (P++R))=bnd (cGo2 (tB (e2 d_8 (eV 0) (eC FR))) (eV 1) [] (tld R)) λ t=>some ((if b=true then P.map (λ p=>.str p.2) else [])++t)
 |[],R,_=>by
  rw[Q7];cases cGo2 (tB (e2 d_8 (eV 0) (eC FR))) (eV 1) [] (tld R) with
  |none=>rfl
  |some t=>rw[a_7];cases b <;> rfl
 |(x,y)::r,R,h=>by
  have h1:=h _ qg;have e:tB (e2 d_8 (eV 0) (eC FR)) [.im (.str x),.im (.str y)]=some (b,[.im (.str x),.im (.str y)]):=by simp[-i_2,h1]
  rw[jh,tld,qz,k_6];show bnd (some (D.str x,D.str y)) _=_;rw[a_7,e,a_7,F_4 r R λ p q=>h p (je _ q)];cases b with
  |false=>exact if_neg (show ¬ (false=true) by decide)
  |true =>
   rw[if_pos rfl];show bnd (some (D.str y,_)) _=_;rw[a_7];cases cGo2 (tB (e2 d_8 (eV 0) (eC FR))) (eV 1) [] (tld R) with
   |none=>rfl
   |some t=>rfl
theorem aH0:∀ ts:List (Str×Str×D),(∀ t∈ts,Item t.1 t.2.1 t.2.2)->cGo tYes (eF c_4 (aC (eV 0) aN)) [] (ts.map λ t=>.str t.2.1)=some (ts.map (·.2.2))
 |[],_=>rfl
 |(p,x,v)::r,h=>by
  have h1:=(q_1 (h _ qg)).val;have e:eF c_4 (aC (eV 0) aN) [.im (.str x)]=some (v,[.im (.str x)]):=by simp[h1]
  rw[qz,bd5];show cGa _ _ _ _ (some (true,_))=_;rw[bd7,e,bd6,aH0 r λ t q=>h t (je _ q),B_6];rfl
theorem aL9 :∀ xs:List α,(evn xs).length<=xs.length
 |[]=>qj _
 |[_]=>qj _
 |_::_::r=>by
  have:=aL9 r;unfold evn;simp;omega
abbrev prs (nm:Str) (fts:List (Str×Str)) (ts:List (Str×Str×D)):List (Str×Str):=(Str.ofString "NAME",nm)::(fts++ts.map λ t=>(t.1,t.2.1))
theorem Q_2  (ss:List Str) (h:∀ s∈ss,s.length<=m):(Str.join ⟨#[c]⟩ ss).length<=(m+1)*ss.length:=by
 induction ss with
 |nil=>exact qr rfl
 |cons a r O =>
  have h1:=h a qg;have h2:=O λ s Y=>h s (qh _ Y);rw[zj,Nat.mul_succ];cases r with
  |nil=>show a.length<=_;omega
  |cons b q =>
   have e:(Str.join ⟨#[c]⟩ (a::b::q)).length=a.length+1+(Str.join ⟨#[c]⟩ (b::q)).length:=by rw[c_5,c_5 a,c_5 (Str.join ⟨#[c]⟩ (b::q)),h_0];simp;omega
   rw[e];omega
theorem m_8 (ss:List Str) (h:∀ s∈ss,s.length<=13):(Str.join blk ss).length<=14*ss.length:=by rw[M_5];exact Q_2 ss h
theorem az0  (hw:j_8 w forms=some (.str form)) (kw:w.length<=13/\32∉w.cps.toList) (kn:Key nm)
  (hf:∀ p∈fts,d_8 (.str p.1) FR=some (.bl true)/\d_8 (.str p.1) KPd=some (.bl true)/\Key p.2) (ht:∀ t∈ts,Item t.1 t.2.1 t.2.2) (hn:(prs nm fts ts).length<=20)
  (O:b_9 [.str w,.int ((prs nm fts ts).length:Int)]=some (.lst ((prs nm fts ts).map λ p=>.str p.1)))
  (hb:a_3 [.str w,.tup ((fts.map (·.2)).map .str),.tup (ts.map (·.2.2))]=some (.bl true))
  (Z:(w=Str.ofString "put" ∧ rest=zpT (evn (ts.map (·.2.2))) (evn ((ts.map (·.2.2)).drop 1))) ∨ (¬ (w=Str.ofString "put") ∧ rest=ts.map (·.2.2))) :
  b_4 [.str (Str.join blk (w::(prs nm fts ts).map (·.2)))]=some (ay9 w nm (fts.map (·.2)) rest):=by
 have ft:∀ p∈prs nm fts ts,d_4 [.str p.1,.str p.2]=some (.bl true)/\32∉p.2.cps.toList/\p.2.length<=13:=λ p O=>by
  rcases qw O with q | q
  ·subst q;exact⟨L_3 (by kernel_rfl) kn,(b_6 kn).1,(b_6 kn).2.2⟩
  ·rcases qx q with q | q
   ·exact⟨L_3 (hf p q).2.1 (hf p q).2.2,(b_6 (hf p q).2.2).1,(b_6 (hf p q).2.2).2.2⟩
   ·obtain⟨t,h1,rfl⟩:=List.mem_map.mp q;exact⟨(q_1 (ht t h1)).fits,(q_1 (ht t h1)).free.1,(q_1 (ht t h1)).free.2.2⟩
 have Y:∀ s∈w::(prs nm fts ts).map (·.2),32∉s.cps.toList/\s.length<=13:=λ s hs=>by
  rcases qw hs with q | q
  ·subst q;exact⟨kw.2,kw.1⟩
  ·obtain⟨p,h1,rfl⟩:=List.mem_map.mp q;exact (ft p h1).2
 have sp:=p_4 (by simp) λ s hs=>(Y s hs).1;have sq:(Txt.split (Str.join blk (w::(prs nm fts ts).map (·.2))) blk).map D.str=(w::(prs nm fts ts).map (·.2)).map D.str:=by rw[sp]
 have jl:=m_8 (w::(prs nm fts ts).map (·.2)) λ s hs=>(Y s hs).2;generalize hJ:Str.join blk (w::(prs nm fts ts).map (·.2))=J at sq jl ⊢;have jz:J.length<=100000:=by simp at jl hn;omega
 have lF:(fts.map (·.2)).length=fts.length:=by simp
 have c2:=q_6 (.str w::.str nm::(fts.map (·.2)).map .str) (ts.map λ t=>.str t.2.1);have zp:=af7 (prs nm fts ts);have f1:=ao9 (prs nm fts ts) λ p O=>(ft p O).1;have f2:=H_0 (prs nm fts ts);have f3:cGo2 (tB (e2 d_8 (eV 0) (eC FR))) (eV 1) [] (tld (prs nm fts ts))=some ((fts.map (·.2)).map .str):=by
  have e1:=F_4 (b:=false) [(Str.ofString "NAME",nm)] (fts++ts.map λ t=>(t.1,t.2.1)) (by intro p O;rw[List.mem_singleton.mp O];kernel_rfl);have e2:=F_4 fts (ts.map λ t=>(t.1,t.2.1)) λ p O=>(hf p O).1;have e3:=F_4 (ts.map λ t=>(t.1,t.2.1)) [] (by intro p O;obtain⟨t,h1,rfl⟩:=List.mem_map.mp O;exact (q_1 (ht t h1)).fr);rw[yn] at e3;rw[e3] at e2;rw[e2] at e1;rw[List.singleton_append] at e1;rw[e1];show some _=some _;simp
 have f4:=aH0 ts ht;have ix:atD ((w::(prs nm fts ts).map (·.2)).map .str) 1=some (.str nm):=bw4 _ _ _;have i0:atD ((w::(prs nm fts ts).map (·.2)).map .str) 0=some (.str w):=S_0 _ _;have w1:(w::(prs nm fts ts).map (·.2)).map D.str=[.str w]++(prs nm fts ts).map λ p=>.str p.2:=by simp[Qs]
 have w2:(w::(prs nm fts ts).map (·.2)).map D.str=(.str w::.str nm::(fts.map (·.2)).map .str)++ts.map λ t=>.str t.2.1:=by simp[Qs]
 have ln:((w::(prs nm fts ts).map (·.2)).map D.str).length=(prs nm fts ts).length+1:=by simp
 have lp:((prs nm fts ts).map λ p=>D.str p.1).length=(prs nm fts ts).length:=by simp
 have lt:(tld (prs nm fts ts)).length<=1000:=by simp at hn ⊢;omega
 have l2:(ts.map λ t=>D.str t.2.1).length<=sizeLine:=a_1 (by simp at hn ⊢;omega);have c1:r_0 ((w::(prs nm fts ts).map (·.2)).map D.str) (some 1) none=(prs nm fts ts).map λ p=>.str p.2:=by rw[w1];exact q_6 [.str w] _
 rw[<- w2] at c2;have lf:((D.str w::D.str nm::(fts.map (·.2)).map .str).length:Int)=2+(fts.length:Int):=by simp;omega
 rw[lf] at c2;have lz:=a_1 (by omega);have ly:=a_1 (by omega);have lx:=a_1 (by simp at hn;omega);have lr:(prs nm fts ts).length<=1000:=by omega
 have lb:((fts.map (·.2)).map D.str).length=fts.length:=by simp
 have bl:=ae7;have le:(evn (ts.map (·.2.2))).length<=1000:=by have:=aL9 (ts.map (·.2.2));simp at hn this;omega
 have g1:∀ a b c d e f:Sl,eLC2 [] (eV 4) tYes (eF d_4 (aC (eV 0) (aC (eV 1) aN))) [a,b,c,d,.im (.lst (tld (prs nm fts ts))),e,f]=some (.lst ((prs nm fts ts).map λ _=>.bl true),[a,b,c,d,.im (.lst (tld (prs nm fts ts))),e,f]):=λ _ _ _ _ _ _=>am8 f1 rfl lt;have g2:∀ a b c d e f:Sl,eLC2 [] (eV 4) (tB (e2 d_8 (eV 0) (eC FR))) (eV 1) [a,b,c,d,.im (.lst (tld (prs nm fts ts))),e,f]=some (.lst ((fts.map (·.2)).map .str),[a,b,c,d,.im (.lst (tld (prs nm fts ts))),e,f]):=λ _ _ _ _ _ _=>am8 f3 rfl lt;have kk:z_5 forms (.str w)=some (.bl false):=by rw[R_5,hw];rfl
 clear f1 f3 ft Y hf ht w1 w2 hn jl lf lt hw kn kw sp;generalize ad:eLC2 [] (eV 4) tYes (eF d_4 (aC (eV 0) (aC (eV 1) aN)))=G1 at g1;generalize aa:eLC2 [] (eV 4) (tB (e2 d_8 (eV 0) (eC FR))) (eV 1)=G2 at g2;generalize hK:z_5 forms=KK at kk;generalize (w::(prs nm fts ts).map (·.2)).map D.str=W at *;generalize ag:(prs nm fts ts).length=N at *;generalize ah:((prs nm fts ts).map λ p=>D.str p.1)=P1 at *;generalize ae:((prs nm fts ts).map λ p=>D.str p.2)=P2 at *;generalize hB:((prs nm fts ts).map λ _=>D.bl true)=BB at *;generalize hT:tld (prs nm fts ts)=TL at *;generalize ac:(fts.map (·.2)).map D.str=FF at *;generalize af:ts.map (·.2.2)=VV at *;generalize ai:(ts.map λ t=>D.str t.2.1)=XX at *;have S:sIf (tB (e2 dEq (eV 2) (zR "put"))) (e_3 6 (e2 ae0 (e1 (af4 0) (eV 6)) (e1 (af4 1) (eV 6)))) sN [.im (.str J),.im (.lst W),.im (.str w),.im (.lst P1),.im (.lst TL),.im (.tup FF),.im (.tup VV)]=some (.nx [.im (.str J),.im (.lst W),.im (.str w),.im (.lst P1),.im (.lst TL),.im (.tup FF),.im (.tup rest)]):=by
  rcases Z with ⟨e,Z⟩ | ⟨e,Z⟩
  ·subst Z;have ee:=eq_true e;clear e;simp[le,ee]
  ·subst Z;have ee:=Qn e;clear e;simp[ee]
 generalize hS:sIf (tB (e2 dEq (eV 2) (zR "put"))) (e_3 6 (e2 ae0 (e1 (af4 0) (eV 6)) (e1 (af4 1) (eV 6)))) sN=SS at S;unfold b_4 n_0;rw[ad,aa,hK,hS];clear Z;simp[List.replicate,bl,jz,sq,i0,ix,kk,ln,O,c1,c2,zp,lp,g1,f2,g2,lb,f4,l2,hb,lr,S,ac]
theorem N_6:∀ (xs O:List Str),(O++xs).Nodup->j_1 O xs=O++xs
 |[],O,_=>by simp[j_1]
 |x::r,O,h=>by
  have h':((O++[x])++r).Nodup:=by simpa using h
  have nx:¬ (x∈O):=by
   have:=List.nodup_append.mp h;exact λ q=>this.2.2 x q x qg rfl
  have e:bg7 O x=O++[x]:=by
   first | exact if_neg nx | simp[nx]
  have:=N_6 r (O++[x]) h';unfold j_1 at this ⊢;rw[List.foldl_cons,e,this];simp
theorem u_8 {ss:List Str} (h:ss.Nodup) (hl:ss.length<1000):e_9 [.tup (ss.map .str)]=some (.bl true):=by
 have e:o_6 (ss.map .str)=some (.int (ss.length:Int)):=by unfold o_6;rw[C_3,a_7,if_pos hl,N_6 ss [] (by simpa using h)];rfl
 have q:(ss.map D.str).length<=sizeLine:=a_1 (by simp;omega);have O:(ss.map D.str).length=ss.length:=by simp
 generalize ss.map D.str=S at *;simp[e_9,t_2,e,O]
theorem w_9  (Y:c≠32):∀ ss:List Str,(∀ s∈ss,c∉s.cps.toList)->c∉(Str.join blk ss).cps.toList
 |[],_=>by rw[show (Str.join blk []).cps.toList=[] by decide +kernel];simp
 |[x],h=>h x qg
 |x::y::r,h=>by
  have O:=w_9 Y (y::r) λ s hs=>h s (qh _ hs);have Z:=h x qg;rw[M_5] at O ⊢;rw[h_0];intro q;rcases qx q with q | q
  ·exact Z q
  ·rcases qw q with q | q
   ·exact Y q
   ·exact O q
def Pl (m:Nat) (d:D):Prop:=nl d=true/\nd d=true/\dpD d<=m
structure Shp (w:Str) (fr:List Str) (ps:List (Str×Str)):Prop where
 fm:∃ form:Str,j_8 w forms=some (.str form)
 n:ps.length<=19
 pl:b_9 [.str w,.int ((ps.length+1:Nat):Int)]=some (.lst ((Str.ofString "NAME"::ps.map (·.1)).map .str))
 ft:∀ p∈ps,d_4 [.str p.1,.str p.2]=some (.bl true)/\32∉p.2.cps.toList/\10∉p.2.cps.toList/\p.2.length<=13
 fr:∃ fp r:List (Str×Str),ps=fp++r/\fp.map (·.2)=fr/\∀ p∈fp,d_8 (.str p.1) KPd=some (.bl true)
def SH (rest:List D) (ys:List Str):Prop:=∃ qs:List (D×List Str),rest=qs.map (·.1)/\(∀ q∈qs,Shw q.1 q.2)/\ys=qs.flatMap (·.2)/\ys.length<=20
structure Rd (w nm:Str) (froms:List Str) (rest:List D):Prop where
 txt:∃ t:Str,c_8 [ay9 w nm froms rest]=some (.str t)/\b_4 [.str t]=some (ay9 w nm froms rest)/\10∉t.cps.toList/\t.length<=400
 pl:∀ d∈rest,Pl 1 d
 kw:Key w
 sh:∃ (ps:List (Str×Str)) (ys:List Str),Shp w froms ps/\ps.map (·.2)=froms++ys/\SH rest ys/\c_8 [ay9 w nm froms rest]=some (.str (Str.join blk (w::nm::ps.map (·.2))))
theorem aX6  (h:Item p x v):Pl 0 v:=by cases h <;> exact⟨rfl,rfl,qj _⟩
theorem Q_9 :∀ {xs:List D},d∈evn xs->d∈xs
 |[],h=>h
 |[_],h=>h
 |a::_::r,h=>by
  rcases qw h with q | q
  ·rw[q];exact qg
  ·exact qh _ (qh _ (Q_9 q))
theorem bg9  (hx:∀ d∈xs,Pl 0 d) (O:∀ d∈ys,Pl 0 d):∀ d∈zpT xs ys,Pl 1 d:=λ d hd=>by
 obtain⟨⟨a,b⟩,q,rfl⟩:=List.mem_map.mp hd;have m:=Q6 q;obtain⟨p1,p2,p3⟩:=hx a m.1;obtain⟨q1,Y,Z⟩:=O b m.2;show (nl a&&(nl b&&true))=true/\(nd a&&(nd b&&true))=true/\max (dpD a) (max (dpD b) 0)+1<=1;rw[p1,p2,q1,Y];exact⟨rfl,rfl,Yk (Nat.max_le.mpr ⟨p3,Nat.max_le.mpr ⟨Z,qj _⟩⟩)⟩
theorem aI7 {qs:List (D×List Str)} (hw:j_8 w forms=some (.str form)) (kw:Key w) (kn:Key nm)
  (Y:∀ p∈fts,d_8 (.str p.1) FR=some (.bl true)/\d_8 (.str p.1) KPd=some (.bl true)/\Key p.2) (Z:∀ t∈ts,Item t.1 t.2.1 t.2.2) (hn:(prs nm fts ts).length<=20)
  (hp:b_9 [.str w,.int ((prs nm fts ts).length:Int)]=some (.lst ((prs nm fts ts).map λ p=>.str p.1)))
  (hb:a_3 [.str w,.tup ((fts.map (·.2)).map .str),.tup (ts.map (·.2.2))]=some (.bl true))
  (hr:(w=Str.ofString "put" ∧ rest=zpT (evn (ts.map (·.2.2))) (evn ((ts.map (·.2.2)).drop 1))) ∨ (¬ (w=Str.ofString "put") ∧ rest=ts.map (·.2.2)))
  (hq:rest=qs.map (·.1)) (ac:∀ q∈qs,Shw q.1 q.2) (aa:qs.flatMap (·.2)=ts.map (·.2.1)):Rd w nm (fts.map (·.2)) rest:=by
 have r:=az0 hw ⟨(b_6 kw).2.2,(b_6 kw).1⟩ kn Y Z hn hp hb hr;have fr:∀ s∈w::(prs nm fts ts).map (·.2),10∉s.cps.toList/\s.length<=13:=λ s O=>by
  rcases qw O with q | q
  ·subst q;exact (b_6 kw).2
  ·obtain⟨p,h1,rfl⟩:=List.mem_map.mp q;rcases qw h1 with q | q
   ·subst q;exact (b_6 kn).2
   ·rcases qx q with q | q
    ·exact (b_6 (Y p q).2.2).2
    ·obtain⟨t,h2,rfl⟩:=List.mem_map.mp q;exact (q_1 (Z t h2)).free.2
 have wd:=ag3 (w:=w) (nm:=nm) (froms:=fts.map (·.2)) ac (by rw[aa];simp[Qs]) (by simp at hn ⊢;omega) λ s O=>(fr s O).2;rw[<- hq] at wd;have pm:(Str.ofString "NAME"::(fts++ts.map λ t=>(t.1,t.2.1)).map (·.1)).map D.str=(prs nm fts ts).map λ p=>.str p.1:=by rw[qz,zm];rfl
 refine⟨⟨_,wd,r,w_9 (by decide) _ λ s O=>(fr s O).1,?_⟩,?_,kw,fts++ts.map λ t=>(t.1,t.2.1),ts.map (·.2.1),⟨⟨form,hw⟩,Nat.le_of_succ_le_succ hn,by rw[pm];exact hp,λ p h=>?_,fts,_,rfl,rfl,λ p h=>(Y p h).2.1⟩,by rw[yf,zm];rfl,⟨qs,hq,ac,aa.symm,by simp at hn ⊢;omega⟩,wd⟩
 ·have:=m_8 _ λ s O=>(fr s O).2;simp at this hn ⊢;omega
 ·have tv:∀ d∈ts.map (·.2.2),Pl 0 d:=λ d hd=>by
   obtain⟨t,h1,rfl⟩:=List.mem_map.mp hd;exact aX6 (Z t h1)
  rcases hr with ⟨_,e⟩ | ⟨_,e⟩ <;> rw[e]
  ·exact bg9 (λ d hd=>tv d (Q_9 hd)) λ d hd=>tv d (Qb (Q_9 hd))
  ·exact λ d hd=>⟨(tv d hd).1,(tv d hd).2.1,Nat.le_succ_of_le (tv d hd).2.2⟩
 ·rcases qx h with q | q
  ·exact⟨L_3 (Y p q).2.1 (Y p q).2.2,b_6 (Y p q).2.2⟩
  ·obtain⟨t,h1,rfl⟩:=List.mem_map.mp q;exact⟨(q_1 (Z t h1)).fits,(q_1 (Z t h1)).free⟩
theorem aI8  (hw:j_8 w forms=some (.str form)) (kw:Key w) (np:¬ (w=Str.ofString "put")) (kn:Key nm)
  (hf:∀ p∈fts,d_8 (.str p.1) FR=some (.bl true)/\d_8 (.str p.1) KPd=some (.bl true)/\Key p.2) (O:∀ t∈ts,Item t.1 t.2.1 t.2.2) (Z:(prs nm fts ts).length<=20)
  (Y:b_9 [.str w,.int ((prs nm fts ts).length:Int)]=some (.lst ((prs nm fts ts).map λ p=>.str p.1)))
  (hb:a_3 [.str w,.tup ((fts.map (·.2)).map .str),.tup (ts.map (·.2.2))]=some (.bl true)):Rd w nm (fts.map (·.2)) (ts.map (·.2.2)) :=
 aI7 (qs:=ts.map λ t=>(t.2.2,[t.2.1])) hw kw kn hf O Z Y hb (.inr ⟨np,rfl⟩) (by simp[Qs]) (by
  intro q hq;obtain⟨t,h1,rfl⟩:=List.mem_map.mp hq;exact (q_1 (O t h1)).shw) (by
  clear hb Y Z O;induction ts with
  |nil=>rfl
  |cons t r ih=>rw[qz,Z9,ih];rfl)
abbrev sS (x:String):Str:=Str.ofString x
theorem b_2  (h:T ρ=some (false,ρ)) (k:fnA (R ρ)=d):fnA (b_7 (sIf T A sN) R ρ)=d:=by simp[h,k]
theorem Q_6  (h:T ρ=some (true,ρ)) (k:E ρ=some (d,ρ')):fnA (b_7 (sIf T (d_6 E) sN) R ρ)=some d:=by simp[h,k]
theorem kb0 (a b c:D):a_3 [a,b,c]=fnA (n_8 [.im a,.im b,.im c]):=by kernel_rfl
theorem bL4 (w:Str) (q:w=sS "in" ∨ w=sS "span" ∨ w=sS "ask") (F:List D) (a b:Int) (h:a ≤ b):a_3 [.str w,.tup F,.tup [.int a,.int b]]=some (.bl true):=by
 have e:a_3 [.str w,.tup F,.tup [.int a,.int b]]=some (.bl (decide (a<=b))):=by rcases q with rfl | rfl | rfl <;> kernel_rfl
 rw[e,yc h]
theorem bL3 (w:Str) (q:w=sS "in" ∨ w=sS "span" ∨ w=sS "ask") (F:List D) (x:D):a_3 [.str w,.tup F,.tup [.non,x]]=some (.bl true):=by rcases q with rfl | rfl | rfl <;> kernel_rfl
theorem bL2 (w:Str) (q:w=sS "in" ∨ w=sS "span" ∨ w=sS "ask") (F:List D) (a:Int):a_3 [.str w,.tup F,.tup [.int a,.non]]=some (.bl true):=by rcases q with rfl | rfl | rfl <;> kernel_rfl
theorem aX2 (F:List D):a_3 [.str (sS "ask"),.tup F,.tup []]=some (.bl true):=by kernel_rfl
theorem aW6 (F:List D) (a:Int) (x:D) (h:0 ≤ a) (q:x=.non ∨ ∃ b,x=.int b ∧ a<b):a_3 [.str (sS "time"),.tup F,.tup [.int a,x]]=some (.bl true):=by
 rw[kb0];refine b_2 (by kernel_rfl) (Q_6 (ρ':=[.im (.str (sS "time")),.im (.tup F),.im (.tup [.int a,x])]) (by kernel_rfl) ?_);rcases q with rfl | ⟨b,rfl,hb⟩
 ·simp[h,y_5,N_4]
 ·simp[h,hb,y_5,N_4]
theorem aX0 (w:Str) (q:w=sS "only" ∨ w=sS "but") (F:List D) (ks:List Str) (hl:ks.length ≤ 8) (hd:ks.Nodup):a_3 [.str w,.tup F,.tup (ks.map .str)]=some (.bl true):=by
 have u:=u_8 hd (by omega);have Z:(ks.map D.str).length=ks.length:=by simp
 have O:(ks.length:Int)<=8:=by omega
 have Y:ks.length<=sizeLine:=a_1 (by omega);generalize ks.map D.str=K at *;rw[kb0];refine b_2 (by rcases q with rfl | rfl <;> kernel_rfl) (b_2 (by rcases q with rfl | rfl <;> kernel_rfl) (Q_6 (ρ':=[.im (.str w),.im (.tup F),.im (.tup K)]) (by rcases q with rfl | rfl <;> kernel_rfl) ?_));simp[Z,O,u]
theorem aW7 (F:List D) (a b:Int) (h1:2 ≤ a) (h2:a ≤ 1000) (O:0 ≤ b) (q:b<a):a_3 [.str (sS "rest"),.tup F,.tup [.int a,.int b]]=some (.bl true):=by rw[kb0];refine b_2 (by kernel_rfl) (b_2 (by kernel_rfl) (b_2 (by kernel_rfl) (Q_6 (ρ':=[.im (.str (sS "rest")),.im (.tup F),.im (.tup [.int a,.int b])]) (by kernel_rfl) ?_)));simp[h1,h2,O,q,y_5,N_4]
theorem aW5 (F:List D) (a b:Int) (h1:-1000 ≤ a) (h2:a ≤ 1000) (q:¬ (a=0)):a_3 [.str (sS "turn"),.tup F,.tup [.int a,.int b]]=some (.bl true):=by rw[kb0];refine b_2 (by kernel_rfl) (b_2 (by kernel_rfl) (b_2 (by kernel_rfl) (b_2 (by kernel_rfl) (Q_6 (ρ':=[.im (.str (sS "turn")),.im (.tup F),.im (.tup [.int a,.int b])]) (by kernel_rfl) ?_))));simp[h1,h2,q,y_5]
theorem bq7 (F R:List D) (ks:List Str) (hl:R.length=2 ∨ R.length=4 ∨ R.length=6 ∨ R.length=8) (O:evn R=ks.map .str) (Y:ks.length ≤ 8) (hd:ks.Nodup):a_3 [.str (sS "put"),.tup F,.tup R]=some (.bl true):=by
 have u:=u_8 hd (by omega);have q:R.length<=sizeLine:=a_1 (by omega);have i:d_8 (.int (R.length:Int)) (.tup [.int 2,.int 4,.int 6,.int 8])=some (.bl true):=by rcases hl with h | h | h | h <;> rw[h] <;> kernel_rfl
 rw[kb0];refine b_2 (by kernel_rfl) (b_2 (by kernel_rfl) (b_2 (by kernel_rfl) (b_2 (by kernel_rfl) (b_2 (by kernel_rfl) (Q_6 (ρ':=[.im (.str (sS "put")),.im (.tup F),.im (.tup R)]) (by kernel_rfl) ?_)))));simp[-i_2,i,O,u]
theorem aW8 (R:List D) (ks:List Str) (Z:ks.length ≤ 8) (hd:ks.Nodup):a_3 [.str (sS "pour"),.tup (ks.map .str),.tup R]=some (.bl true):=by
 have u:=u_8 hd (by omega);have Y:(ks.map D.str).length=ks.length:=by simp
 have q:(ks.length:Int)<=8:=by omega
 have O:ks.length<=sizeLine:=a_1 (by omega);generalize ks.map D.str=K at *;rw[kb0];refine b_2 (by kernel_rfl) (b_2 (by kernel_rfl) (b_2 (by kernel_rfl) (b_2 (by kernel_rfl) (b_2 (by kernel_rfl) (b_2 (by kernel_rfl) (Q_6 (ρ':=[.im (.str (sS "pour")),.im (.tup K),.im (.tup R)]) (by kernel_rfl) ?_))))));simp[Y,q,u]
theorem aC4 (F:List D) (a:Int) (h:0 ≤ a):a_3 [.str (sS "later"),.tup F,.tup [.int a]]=some (.bl true):=by
 have e:a_3 [.str (sS "later"),.tup F,.tup [.int a]]=some (.bl (decide (a≥0))):=by kernel_rfl
 rw[e,yc h]
theorem aW9 (F:List D) (a:Int) (x:D) (h:0 ≤ a):a_3 [.str (sS "pair"),.tup F,.tup [.int a,x]]=some (.bl true):=by
 have e:a_3 [.str (sS "pair"),.tup F,.tup [.int a,x]]=some (.bl (decide (a≥0))):=by kernel_rfl
 rw[e,yc h]
theorem bQ8 (b:Bool):blB (.bl b)=some b:=rfl
theorem aC3 (F:List D) (a b:Int) (x:D) (h1:1 ≤ b) (h2:b<a) (q:a ≤ 20*b) (Z:b.natAbs<2 ^ 64):a_3 [.str (sS "slide"),.tup F,.tup [.int a,.int b,x]]=some (.bl true):=by have O:atD [D.int a,.int b,x] 0=some (.int a):=rfl;have Y:atD [D.int a,.int b,x] 1=some (.int b):=rfl;have m:l_3 20 b=true:=w_3 Z;rw[kb0];refine b_2 (by kernel_rfl) (b_2 (by kernel_rfl) (b_2 (by kernel_rfl) (b_2 (by kernel_rfl) (b_2 (by kernel_rfl) (b_2 (by kernel_rfl) (b_2 (by kernel_rfl) (b_2 (by kernel_rfl) (Q_6 (ρ':=[.im (.str (sS "slide")),.im (.tup F),.im (.tup [.int a,.int b,x])]) (by kernel_rfl) ?_))))))));simp[h1,h2,q,O,Y,m,bQ8]
theorem an4 (w:Str) (q:w=sS "fixed" ∨ w=sS "gaps") (F:List D) (a:Int) (x:D) (h:1 ≤ a):a_3 [.str w,.tup F,.tup [.int a,x]]=some (.bl true):=by
 have e:a_3 [.str w,.tup F,.tup [.int a,x]]=some (.bl (decide (a>=1))):=by rcases q with rfl | rfl <;> kernel_rfl
 rw[e,yc h]
theorem aX1 (F:List D) (x:D):a_3 [.str (sS "ever"),.tup F,.tup [x]]=some (.bl true):=by kernel_rfl
def BV (v:D):Prop:=v=.non\/∃ n:Int,v=.int n/\n.natAbs<10 ^ 12
theorem x_0  (q:NumPl p) (O:d_8 (.str p) FR=some (.bl false)) (Y:d_8 (.str p) BP=some (.bl true))  (h:BV v):∃ x,Item p x v:=by
 rcases h with rfl | ⟨n,rfl,hn⟩
 ·exact⟨_,.star q O Y⟩
 ·exact⟨_,.num q O hn⟩
def Two (l h:D):Prop:=BV l/\BV h/\(l=.non\/h=.non\/∃ a b:Int,l=.int a/\h=.int b/\a<=b)
theorem an5 (w:Str) (q:w=sS "in" ∨ w=sS "span" ∨ w=sS "ask") (F:List D)  (t:Two l h):a_3 [.str w,.tup F,.tup [l,h]]=some (.bl true):=by
 obtain⟨O,Y,o⟩:=t;rcases O with rfl | ⟨a,rfl,_⟩
 ·exact bL3 w q F h
 ·rcases Y with rfl | ⟨b,rfl,_⟩
  ·exact bL2 w q F a
  ·rcases o with e | e | ⟨a',b',e1,e2,o⟩
   ·cases e
   ·cases e
   ·cases e1;cases e2;exact bL4 w q F a b o
abbrev FrK (f:Str):Prop:=d_8 (.str (sS "FROM")) FR=some (.bl true) ∧ d_8 (.str (sS "FROM")) KPd=some (.bl true) ∧ Key f
theorem frK  (h:Key f):FrK f:=⟨by kernel_rfl,by kernel_rfl,h⟩
theorem fr1  (h:Key f):∀ p∈[(sS "FROM",f)],d_8 (.str p.1) FR=some (.bl true) ∧ d_8 (.str p.1) KPd=some (.bl true) ∧ Key p.2:=λ p q=>by
 rw[List.mem_singleton.mp q];exact frK h
theorem bR6 {P:(Str×Str×D)->Prop} (h:P a):∀ t∈[a],P t:=λ t q=>by rw[List.mem_singleton.mp q];exact h
theorem av2 {P:(Str×Str×D)->Prop} (h:P a) (k:P b):∀ t∈[a,b],P t:=λ t O=>by
 rcases qw O with q | q
 ·rw[q];exact h
 ·exact bR6 k t q
theorem af2  (form:Str) (ws:List Str) (l:Str) (kw:Key w) (np:¬ (w=sS "put")) (kn:Key nm)
  (hf:∀ p∈fts,d_8 (.str p.1) FR=some (.bl true)/\d_8 (.str p.1) KPd=some (.bl true)/\Key p.2) (Z:∀ t∈ts,Item t.1 t.2.1 t.2.2)
  (hb:a_3 [.str w,.tup ((fts.map (·.2)).map .str),.tup (ts.map (·.2.2))]=some (.bl true))
  (O:j_8 w forms=some (.str form)) (hl:form.length ≤ 100000) (hs:Txt.split form blk=ws++[l]) (hd:¬ (l=Str.ofString "..")) (ha:¬ (w=Str.ofString "ask") ∨ (prs nm fts ts).length ≤ 2)
  (hq:ws++[l]=(prs nm fts ts).map (·.1)) (hn:(prs nm fts ts).length<=20):Rd w nm (fts.map (·.2)) (ts.map (·.2.2)):=by
 have Y:dKx forms (.str w)=some (.str form):=by
  first | exact O | (unfold dKx;exact O)
 have p:=ab4 (n:=((prs nm fts ts).length:Int)) Y hl hs hd (by rintro ⟨a,b⟩;rcases ha with q | q;exact q a;omega);rw[hq,zm] at p;exact aI8 O kw np kn hf Z hn p hb
theorem d_9  (h:(1<=s.length&&decide (s.length<=8)&&s.cps.toList.all λ c=>decide (97<=c)&&decide (c<123))=true):Key s:=by simp only[zk,yw,Q0] at h;exact⟨h.1.1,h.1.2,h.2⟩
theorem bH8  (kn:Key nm) (t:Two l h):Rd (sS "in") nm [] [l,h]:=by obtain⟨x,q⟩:=x_0 al1 (by kernel_rfl) (by kernel_rfl) t.1;obtain⟨y,O⟩:=x_0 P_6 (by kernel_rfl) (by kernel_rfl) t.2.1;exact af2 (fts:=[]) (ts:=[(sS "LOW",x,l),(sS "HIGH",y,h)]) (sS "NAME LOW HIGH") [sS "NAME",sS "LOW"] (sS "HIGH") (d_9 (by decide +kernel)) (by decide +kernel) kn (by simp) (av2 q O) (an5 _ (.inl rfl) _ t) (by kernel_rfl) (by decide +kernel) (by decide +kernel) (by decide +kernel) (.inl (by decide +kernel)) rfl (qr rfl)
theorem aQ7  (kn:Key nm) (q:Key f) (t:Two l h):Rd (sS "span") nm [f] [l,h]:=by obtain⟨x,O⟩:=x_0 al1 (by kernel_rfl) (by kernel_rfl) t.1;obtain⟨y,Y⟩:=x_0 P_6 (by kernel_rfl) (by kernel_rfl) t.2.1;exact af2 (ts:=[(sS "LOW",x,l),(sS "HIGH",y,h)]) (sS "NAME FROM LOW HIGH") [sS "NAME",sS "FROM",sS "LOW"] (sS "HIGH") (d_9 (by decide +kernel)) (by decide +kernel) kn (fr1 q) (av2 O Y) (an5 _ (.inr (.inl rfl)) _ t) (by kernel_rfl) (by decide +kernel) (by decide +kernel) (by decide +kernel) (.inl (by decide +kernel)) rfl (qr rfl)
theorem ai5  (kn:Key nm) (q:Key f) (h:0 ≤ a) (Y:a.natAbs<10 ^ 12) (bx:BV x) (Z:x=.non ∨ ∃ b,x=.int b ∧ a<b):Rd (sS "time") nm [f] [.int a,x]:=by obtain⟨y,O⟩:=x_0 bo7 (by kernel_rfl) (by kernel_rfl) bx;exact af2 (ts:=[(sS "BEGIN",nT a,.int a),(sS "END",y,x)]) (sS "NAME FROM BEGIN END") [sS "NAME",sS "FROM",sS "BEGIN"] (sS "END") (d_9 (by decide +kernel)) (by decide +kernel) kn (fr1 q) (av2 (.num aB5 (by kernel_rfl) Y) O) (aW6 _ a x h Z) (by kernel_rfl) (by decide +kernel) (by decide +kernel) (by decide +kernel) (.inl (by decide +kernel)) rfl (qr rfl)
theorem aQ8  (kn:Key nm) (q:Key f) (h1:2 ≤ a) (h2:a ≤ 1000) (Y:0 ≤ b) (O:b<a):Rd (sS "rest") nm [f] [.int a,.int b] :=
 af2 (ts:=[(sS "M",nT a,.int a),(sS "R",nT b,.int b)]) (sS "NAME FROM M R") [sS "NAME",sS "FROM",sS "M"] (sS "R") (d_9 (by decide +kernel)) (by decide +kernel) kn (fr1 q) (av2 (.num ci7 (by kernel_rfl) (by omega)) (.num ci6 (by kernel_rfl) (by omega))) (aW7 _ a b h1 h2 Y O) (by kernel_rfl) (by decide +kernel) (by decide +kernel) (by decide +kernel) (.inl (by decide +kernel)) rfl (qr rfl)
theorem ai4  (kn:Key nm) (q:Key f) (h1:-1000 ≤ a) (h2:a ≤ 1000) (Y:¬ (a=0)) (O:b.natAbs<10 ^ 12):Rd (sS "turn") nm [f] [.int a,.int b] :=
 af2 (ts:=[(sS "A",nT a,.int a),(sS "B",nT b,.int b)]) (sS "NAME FROM A B") [sS "NAME",sS "FROM",sS "A"] (sS "B") (d_9 (by decide +kernel)) (by decide +kernel) kn (fr1 q) (av2 (.num cj0 (by kernel_rfl) (by omega)) (.num ci9 (by kernel_rfl) O)) (aW5 _ a b h1 h2 Y) (by kernel_rfl) (by decide +kernel) (by decide +kernel) (by decide +kernel) (.inl (by decide +kernel)) rfl (qr rfl)
theorem az3  (kn:Key nm) (q:Key f) (h:0 ≤ a) (O:a.natAbs<10 ^ 12):Rd (sS "later") nm [f] [.int a] :=
 af2 (ts:=[(sS "C",nT a,.int a)]) (sS "NAME FROM C") [sS "NAME",sS "FROM"] (sS "C") (d_9 (by decide +kernel)) (by decide +kernel) kn (fr1 q) (bR6 (.num ci8 (by kernel_rfl) O)) (aC4 _ a h) (by kernel_rfl) (by decide +kernel) (by decide +kernel) (by decide +kernel) (.inl (by decide +kernel)) rfl (qr rfl)
theorem ai7  (kn:Key nm) (O:Key f) (Z:Key g) (h:0 ≤ a) (ha:a.natAbs<10 ^ 12) (hw:d_8 (.str w) HP=some (.bl true)) (kw:Key w):Rd (sS "pair") nm [f,g] [.int a,.str w] :=
 af2 (fts:=[(sS "LEFT",f),(sS "RIGHT",g)]) (ts:=[(sS "REACH",nT a,.int a),(sS "HOW",w,.str w)]) (sS "NAME LEFT RIGHT REACH HOW") [sS "NAME",sS "LEFT",sS "RIGHT",sS "REACH"] (sS "HOW") (d_9 (by decide +kernel)) (by decide +kernel) kn (λ p Y=>by
  rcases qw Y with q | q
  ·rw[q];exact⟨by kernel_rfl,by kernel_rfl,O⟩
  ·rw[List.mem_singleton.mp q];exact⟨by kernel_rfl,by kernel_rfl,Z⟩) (av2 (.num aB4 (by kernel_rfl) ha) (.how hw kw)) (aW9 _ a _ h) (by kernel_rfl) (by decide +kernel) (by decide +kernel) (by decide +kernel) (.inl (by decide +kernel)) rfl (qr rfl)
theorem az4  (kn:Key nm) (q:Key f) (h:1 ≤ a) (Y:a.natAbs<10 ^ 12) (O:d_8 (.str w) FP=some (.bl true)) (kw:Key w):Rd (sS "fixed") nm [f] [.int a,.str w] :=
 af2 (ts:=[(sS "WIDTH",nT a,.int a),(sS "FOLD",w,.str w)]) (sS "NAME FROM WIDTH FOLD") [sS "NAME",sS "FROM",sS "WIDTH"] (sS "FOLD") (d_9 (by decide +kernel)) (by decide +kernel) kn (fr1 q) (av2 (.num V_5 (by kernel_rfl) Y) (.fold O kw)) (an4 _ (.inl rfl) _ a _ h) (by kernel_rfl) (by decide +kernel) (by decide +kernel) (by decide +kernel) (.inl (by decide +kernel)) rfl (qr rfl)
theorem aR0  (kn:Key nm) (q:Key f) (h:1 ≤ a) (Y:a.natAbs<10 ^ 12) (O:d_8 (.str w) FP=some (.bl true)) (kw:Key w):Rd (sS "gaps") nm [f] [.int a,.str w] :=
 af2 (ts:=[(sS "GAP",nT a,.int a),(sS "FOLD",w,.str w)]) (sS "NAME FROM GAP FOLD") [sS "NAME",sS "FROM",sS "GAP"] (sS "FOLD") (d_9 (by decide +kernel)) (by decide +kernel) kn (fr1 q) (av2 (.num bo6 (by kernel_rfl) Y) (.fold O kw)) (an4 _ (.inr rfl) _ a _ h) (by kernel_rfl) (by decide +kernel) (by decide +kernel) (by decide +kernel) (.inl (by decide +kernel)) rfl (qr rfl)
theorem az2  (kn:Key nm) (O:Key f) (h1:1 ≤ b) (h2:b<a) (h3:a ≤ 20*b) (Z:a.natAbs<10 ^ 12) (hw:d_8 (.str w) FP=some (.bl true)) (kw:Key w):Rd (sS "slide") nm [f] [.int a,.int b,.str w] :=
 af2 (ts:=[(sS "WIDTH",nT a,.int a),(sS "STEP",nT b,.int b),(sS "FOLD",w,.str w)]) (sS "NAME FROM WIDTH STEP FOLD") [sS "NAME",sS "FROM",sS "WIDTH",sS "STEP"] (sS "FOLD") (d_9 (by decide +kernel)) (by decide +kernel) kn (fr1 O) (λ t Y=>by
  rcases qw Y with q | q
  ·rw[q];exact .num V_5 (by kernel_rfl) Z
  ·exact av2 (P:=λ t=>Item t.1 t.2.1 t.2.2) (.num aU1 (by kernel_rfl) (by omega)) (.fold hw kw) t q) (aC3 _ a b _ h1 h2 h3 (by omega)) (by kernel_rfl) (by decide +kernel) (by decide +kernel) (by decide +kernel) (.inl (by decide +kernel)) rfl (qr rfl)
theorem aR1  (kn:Key nm) (q:Key f) (O:d_8 (.str w) FP=some (.bl true)) (kw:Key w):Rd (sS "ever") nm [f] [.str w] :=
 af2 (ts:=[(sS "FOLD",w,.str w)]) (sS "NAME FROM FOLD") [sS "NAME",sS "FROM"] (sS "FOLD") (d_9 (by decide +kernel)) (by decide +kernel) kn (fr1 q) (bR6 (.fold O kw)) (aX1 _ _) (by kernel_rfl) (by decide +kernel) (by decide +kernel) (by decide +kernel) (.inl (by decide +kernel)) rfl (qr rfl)
theorem aR3  (kn:Key nm) (q:Key f):Rd (sS "ask") nm [f] [] :=
 af2 (ts:=[]) (sS "NAME FROM") [sS "NAME"] (sS "FROM") (d_9 (by decide +kernel)) (by decide +kernel) kn (fr1 q) (by simp) (aX2 _) (by kernel_rfl) (by decide +kernel) (by decide +kernel) (by decide +kernel) (.inr (qj 2)) rfl (qr rfl)
theorem aR2  (kn:Key nm) (q:Key f) (t:Two l h):Rd (sS "ask") nm [f] [l,h]:=by obtain⟨x,O⟩:=x_0 al1 (by kernel_rfl) (by kernel_rfl) t.1;obtain⟨y,Y⟩:=x_0 P_6 (by kernel_rfl) (by kernel_rfl) t.2.1;exact aI8 (ts:=[(sS "LOW",x,l),(sS "HIGH",y,h)]) (form:=sS "NAME FROM") (by kernel_rfl) (d_9 (by decide +kernel)) (by decide +kernel) kn (fr1 q) (av2 O Y) (qr rfl) ab5 (an5 _ (.inr (.inr rfl)) _ t)
def plB (w:Str) (n:Nat):Option (List Str):=match b_9 [.str w,.int n] with
 |some (.lst l)=>aw6 l
 |_=>none
abbrev vars:List Str:=[sS "only",sS "but",sS "put",sS "pour"]
abbrev allW:List Str:=forms.map (·.1)
def kpB (p:Str):Bool:=match d_8 (.str p) KPd with
 |some (.bl b)=>b
 |_=>false
def plC (w:Str) (n:Nat):Bool:=match plB w n,plB w (n+1) with
 |some a,some b=>decide (a.length ≤ 30)&&decide (b.length ≤ 30)&&(a.head?==some (sS "NAME"))&&!(n<2&&a.length==n)&&(if vars.contains w then a.all kpB&&b.all kpB else !(a.length==n&&b.length==n+1))
 |_,_=>false
theorem bm5:(allW.all λ w=>(List.range 21).all (plC w))=true:=by kernel_rfl
theorem T_1:∀ {l:List D}{ss:List Str},aw6 l=some ss->l=ss.map .str
 |[],ss,h=>by cases h;rfl
 |d::r,ss,h=>by
  cases d with
  |str s =>
   rw[v_1] at h;obtain⟨q,h1,h2⟩:=a_0 h;cases h2;rw[T_1 h1];rfl
  |_=>cases h
theorem D_4  (h:plB w n=some a):b_9 [.str w,.int n]=some (.lst (a.map .str)):=by
 unfold plB at h;split at h
 ·rename_i l e;rw[e,T_1 h]
 ·cases h
theorem aS7  (h:w∈allW)  (hn:n<21):∃ a b:List Str,plB w n=some a ∧ plB w (n+1)=some b ∧ a.length ≤ 30 ∧ b.length ≤ 30 ∧ a.head?=some (sS "NAME") ∧ (n<2 → a.length≠n) ∧ (if vars.contains w then (∀ p∈a,kpB p=true) ∧ ∀ p∈b,kpB p=true else ¬ (a.length=n ∧ b.length=n+1)):=by
 have e:=List.all_eq_true.mp (List.all_eq_true.mp bm5 w h) n (List.mem_range.mpr hn);unfold plC at e;split at e
 ·rename_i a b Z eb;refine⟨a,b,Z,eb,?_⟩;rw[zk,zk,zk,zk] at e;obtain⟨⟨⟨⟨Y,l2⟩,e1⟩,e2⟩,e3⟩:=e;refine⟨Qr Y,Qr l2,beq_iff_eq.mp e1,λ h2 h3=>?_,?_⟩
  ·rw[h3] at e2;simp[h2] at e2
  ·split
   ·rename_i v;rw[if_pos v,zk] at e3;exact⟨List.all_eq_true.mp e3.1,List.all_eq_true.mp e3.2⟩
   ·rename_i v;rw[if_neg v] at e3;intro ⟨q,O⟩;rw[q,O] at e3;simp at e3
 ·cases e
theorem bq0  (h:kpB p=true):d_8 (.str p) KPd=some (.bl true):=by
 unfold kpB at h;split at h
 ·rename_i e;rw[e,h]
 ·cases h
theorem ap0 (q:Str×Str->Bool):∀ P:List (Str×Str),(∀ p∈P,d_4 [.str p.1,.str p.2]=some (.bl (q p)))->cGo2 tYes (eF d_4 (aC (eV 0) (aC (eV 1) aN))) [] (tld P)=some (P.map λ p=>.bl (q p))
 |[],_=>rfl
 |(a,b)::r,h=>by
  have h1:=h _ qg;have e:eF d_4 (aC (eV 0) (aC (eV 1) aN)) [.im (.str a),.im (.str b)]=some (.bl (q (a,b)),[.im (.str a),.im (.str b)]):=by simp[h1]
  rw[tld,qz,k_6];show bnd (some (D.str a,D.str b)) _=_;rw[a_7];show bnd (some (true,_)) _=_;rw[a_7,if_pos rfl,e,a_7,ap0 q r λ p O=>h p (je _ O),a_7];rfl
theorem aN8  (q:α->Bool) (P:List α):z_8 [.lst (P.map λ p=>.bl (q p))]=some (.bl (P.all q)):=by
 have e:y_0 (P.map λ p=>D.bl (q p))=some (P.map q):=by
  induction P with
  |nil=>rfl
  |cons p r O=>rw[qz,R_7,O,B_6];rfl
 rw[be1,e,at7];simp
abbrev Wd (s:Str):Prop:=32∉s.cps.toList/\s.length<=13
theorem aK1  (O:∀ s∈w::us,Wd s) (hn:us.length<=21) (hw:j_8 w forms=none):b_4 [.str (Str.join blk (w::us))]=some .non:=by
 have sp:=p_4 (by simp) λ s h=>(O s h).1;have q:(Txt.split (Str.join blk (w::us)) blk).map D.str=(w::us).map D.str:=by rw[sp]
 have jl:=m_8 (w::us) λ s h=>(O s h).2;generalize Str.join blk (w::us)=J at q jl ⊢;have jz:J.length<=100000:=by simp at jl;omega
 have i0:atD ((w::us).map D.str) 0=some (.str w):=S_0 _ _;have Y:z_5 forms (.str w)=some (.bl true):=by rw[R_5,hw];rfl
 have bl:=ae7;generalize Z:z_5 forms=KK at Y;generalize (w::us).map D.str=W at *;unfold b_4 n_0;rw[Z];simp[List.replicate,bl,jz,q,i0,Y]
theorem V_7  (hs:∀ s∈w::us,Wd s) (hn:us.length<=21) (hw:∃ form:Str,j_8 w forms=some (.str form)) (hp:b_9 [.str w,.int (us.length:Int)]=some (.lst (ps.map .str))) (hq:ps.length<=30)
  (h:ps.length=us.length->∃ (P:List (Str×Str)) (q:Str×Str->Bool),P.map (·.1)=ps/\P.map (·.2)=us/\(∀ p∈P,d_4 [.str p.1,.str p.2]=some (.bl (q p)))/\P.all q=false):b_4 [.str (Str.join blk (w::us))]=some .non:=by
 have sp:=p_4 (by simp) λ s h=>(hs s h).1;have sq:(Txt.split (Str.join blk (w::us)) blk).map D.str=(w::us).map D.str:=by rw[sp]
 have jl:=m_8 (w::us) λ s h=>(hs s h).2;generalize Str.join blk (w::us)=J at sq jl ⊢;have jz:J.length<=100000:=by simp at jl;omega
 have i0:atD ((w::us).map D.str) 0=some (.str w):=S_0 _ _;obtain⟨form,hw⟩:=hw;have kk:z_5 forms (.str w)=some (.bl false):=by rw[R_5,hw];rfl
 have bl:=ae7;have c1:r_0 ((w::us).map D.str) (some 1) none=us.map .str:=q_6 [.str w] _;have ln:((w::us).map D.str).length=us.length+1:=by simp
 have lz:us.length+1<=sizeLine:=a_1 (by omega);have ly:us.length<=sizeLine:=a_1 (by omega);have lr:us.length<=1000:=by omega
 have l1:(us.map D.str).length=us.length:=qy ..;have Y:(ps.map D.str).length=ps.length:=qy ..;have O:=a_1 (by omega);have l4:ps.length<=1000:=by omega
 have T:∀ a b d e:Sl,tOr (tB (e2 dNe (eF e_0 (aC (eV 3) aN)) (e2 L_7 (eF e_0 (aC (eV 1) aN)) (zI 1)))) (tNot (tV (eF z_8 (aC (eLC2 [] (eV 4) tYes (eF d_4 (aC (eV 0) (aC (eV 1) aN)))) aN)))) [a,.im (.lst ((w::us).map D.str)),b,.im (.lst (ps.map .str)),.im (.lst (zpT (ps.map .str) (us.map .str))),d,e]=some (true,[a,.im (.lst ((w::us).map D.str)),b,.im (.lst (ps.map .str)),.im (.lst (zpT (ps.map .str) (us.map .str))),d,e]):=λ a b d e=>by
  by_cases hl:ps.length=us.length
  ·obtain⟨P,q,rfl,rfl,h1,h2⟩:=h hl;have zp:zpT ((P.map (·.1)).map D.str) ((P.map (·.2)).map D.str)=tld P:=by rw[zm,zm];exact af7 P
   rw[zp];have lp:P.length<=21:=by simpa using hn
   have g1:eLC2 [] (eV 4) tYes (eF d_4 (aC (eV 0) (aC (eV 1) aN))) [a,.im (.lst ((w::P.map (·.2)).map D.str)),b,.im (.lst ((P.map (·.1)).map .str)),.im (.lst (tld P)),d,e]=some (.lst (P.map λ p=>.bl (q p)),[a,.im (.lst ((w::P.map (·.2)).map D.str)),b,.im (.lst ((P.map (·.1)).map .str)),.im (.lst (tld P)),d,e]):=am8 (ap0 q P h1) rfl (by simp;omega);have f2:=aN8 q P;rw[h2] at f2;generalize eLC2 [] (eV 4) tYes (eF d_4 (aC (eV 0) (aC (eV 1) aN)))=G1 at g1 ⊢;have e1:((P.map (·.1)).length:Int)=((P.map (·.2)).length:Int):=by rw[hl]
   generalize (w::P.map (·.2)).map D.str=W at *;generalize hU:(P.map (·.1)).map D.str=U at *;generalize (P.map λ p=>D.bl (q p))=B at *;generalize tld P=TL at *;generalize (P.map (·.1)).length=n1 at *;generalize (P.map (·.2)).length=n2 at *;simp[ln,Y,e1,g1,f2]
  ·have hl:¬ ((ps.length:Int)=(us.length:Int)):=by omega
   generalize (w::us).map D.str=W at *;generalize us.map D.str=U at *;generalize ps.map D.str=Q at *;generalize zpT Q U=Z at *;simp[ln,Y,hl]
 clear h;generalize hT:tOr (tB (e2 dNe (eF e_0 (aC (eV 3) aN)) (e2 L_7 (eF e_0 (aC (eV 1) aN)) (zI 1)))) (tNot (tV (eF z_8 (aC (eLC2 [] (eV 4) tYes (eF d_4 (aC (eV 0) (aC (eV 1) aN)))) aN))))=TT at T;generalize hK:z_5 forms=KK at kk;generalize (w::us).map D.str=W at *;generalize us.map D.str=U at *;generalize ps.map D.str=Q at *;generalize hZ:zpT Q U=Z at *;unfold b_4 n_0;rw[hK,hT];simp[List.replicate,bl,jz,sq,i0,kk,ln,hp,c1,Y,l4,hZ,T]
theorem Q_8  (q:d_8 (.str p) KPd=some (.bl true)):d_4 [.str p,.str w]=d_7 [.str w]:=by
 cases e:d_7 [.str w] with
 |none=>simp[-i_2,d_4,t_1,q,e];rfl
 |some d=>simp[-i_2,d_4,t_1,q,e]
theorem aV0  (h:∃ form:Str,j_8 w forms=some (.str form)):w∈allW:=by obtain⟨form,h⟩:=h;exact getK_in.mp (by rw[h];rfl)
theorem o_5:∀ {a b:List Str},a.map D.str=b.map D.str->a=b
 |[],[],_=>rfl
 |_::_,_::_,h=>by
  obtain⟨h1,h2⟩:=jc h;rw[D.str.inj h1,o_5 h2]
theorem bh0 :∀ {a:List α}{b:List q},a.length=b.length->(a.zip b).map (·.1)=a/\(a.zip b).map (·.2)=b
 |[],[],_=>⟨rfl,rfl⟩
 |_::_,_::_,h=>by
  have:=bh0 (Nat.succ.inj h);simp[this.1,this.2]
section
variable {w nm:Str}{fr:List Str}{ps:List (Str×Str)} (S:Shp w fr ps) (kw:Key w) (kn:Key nm)
include S
theorem Shp.wd  (h:p∈ps):Wd p.2:=⟨(S.ft p h).2.1,(S.ft p h).2.2.2⟩
include kw kn
theorem aC9  (hb:d_7 [.str O]=some (.bl false)) (wb:Wd O)  (Z:nm::ps.map (·.2)=A++B):b_4 [.str (Str.join blk (w::(A++O::B)))]=some .non:=by
 have hn:=S.n;have ln:(A++B).length=ps.length+1:=by rw[<- Z];simp
 have Y:(A++O::B).length=ps.length+1+1:=by rw[zh] at ln ⊢;rw[zj];omega
 have mw:∀ s∈A++O::B,s=O\/s∈nm::ps.map (·.2):=λ s hs=>by
  rw[Z];rcases qx hs with q | q
  ·exact .inr (jf _ q)
  ·rcases qw q with q | q
   ·exact .inl q
   ·exact .inr (qo _ q)
 obtain⟨a,b,ea,eb,_,lb,_,_,hv⟩:=aS7 (aV0 S.fm) (n:=ps.length+1) (by omega);have pa:=D_4 ea;rw[S.pl] at pa;have ha:a=Str.ofString "NAME"::ps.map (·.1):=by have:=D.lst.inj (qi pa);exact (o_5 this).symm
 refine V_7 (λ s hs=>?_) (by rw[Y];omega) S.fm (by rw[Y];exact D_4 eb) lb λ hl=>?_
 ·rcases qw hs with q | q
  ·rw[q];exact⟨(b_6 kw).1,(b_6 kw).2.2⟩
  ·rcases mw s q with q | q
   ·rw[q];exact wb
   ·rcases qw q with q | q
    ·rw[q];exact⟨(b_6 kn).1,(b_6 kn).2.2⟩
    ·obtain⟨p,hp,rfl⟩:=List.mem_map.mp q;exact S.wd hp
 ·rw[Y] at hl;split at hv
  ·obtain⟨z1,z2⟩:=bh0 (a:=b) (by rw[Y,hl]);refine⟨b.zip (A++O::B),λ p=>decide (p.2≠O),z1,z2,λ p hp=>?_,?_⟩
   ·have m:=Q6 (show (p.1,p.2)∈b.zip (A++O::B) from hp);rw[Q_8 (bq0 (hv.2 p.1 m.1))];have tr:p.2∈nm::ps.map (·.2)->d_7 [.str p.2]=some (.bl true):=λ q=>by
     rcases qw q with q | q
     ·rw[q];exact aL1 kn
     ·obtain⟨x,hx,e⟩:=List.mem_map.mp q;have:=(S.ft x hx).1;rw[Q_8 (bq0 (hv.1 x.1 (by rw[ha];exact qh _ (zn hx))))] at this;rw[<- e];exact this
    by_cases c:p.2=O
    ·rw[c,hb];simp[c]
    ·rw[tr ((mw p.2 m.2).resolve_left c)];simp[c]
   ·rw[Ya];have:O∈(b.zip (A++O::B)).map (·.2):=by rw[z2];simp
    obtain⟨p,hp,e⟩:=List.mem_map.mp this;exact⟨p,hp,by simp[e]⟩
  ·exact absurd ⟨by rw[ha];simp,hl⟩ hv
theorem U_4 {P:List (Str×Str)} (hp:d_8 (.str p) KPd=some (.bl true)) (hb:d_7 [.str O]=some (.bl false)) (wb:Wd O) (Z:P.map (·.1)=Str.ofString "NAME"::ps.map (·.1)) (hm:(p,O)∈P) (Y:∀ q∈P,q=(p,O) ∨ q=(Str.ofString "NAME",nm) ∨ q∈ps):b_4 [.str (Str.join blk (w::P.map (·.2)))]=some .non:=by
 have hn:=S.n;have lP:P.length=ps.length+1:=by have:=jm List.length Z;simpa using this
 have fN:d_4 [.str "NAME",.str nm]=some (.bl true):=L_3 (by kernel_rfl) kn;refine V_7 (λ s hs=>?_) (by simp;omega) S.fm (by rw[qy,lP,Z];exact S.pl) (by simp;omega) λ _=>⟨P,λ q=>decide (q≠(p,O)),rfl,rfl,λ q hq=>?_,?_⟩
 ·rcases qw hs with z | z
  ·rw[z];exact⟨(b_6 kw).1,(b_6 kw).2.2⟩
  ·obtain⟨x,hx,rfl⟩:=List.mem_map.mp z;rcases Y x hx with z | z | z
   ·rw[z];exact wb
   ·rw[z];exact⟨(b_6 kn).1,(b_6 kn).2.2⟩
   ·exact S.wd z
 ·by_cases c:q=(p,O)
  ·rw[c,Q_8 hp,hb];simp
  ·have:d_4 [.str q.1,.str q.2]=some (.bl true):=by
    rcases (Y q hq).resolve_left c with z | z
    ·rw[z];exact fN
    ·exact (S.ft q z).1
   rw[this];simp[c]
 ·rw[Ya];exact⟨_,hm,by simp⟩
theorem X_4:b_4 [.str (Str.join blk [w])]=some .non/\b_4 [.str (Str.join blk [w,nm])]=some .non:=by
 have q:Wd w:=⟨(b_6 kw).1,(b_6 kw).2.2⟩;have knd:Wd nm:=⟨(b_6 kn).1,(b_6 kn).2.2⟩;obtain⟨a,b,ea,eb,la,_,_,h0,_⟩:=aS7 (aV0 S.fm) (n:=0) (by decide);obtain⟨a',b',O,aa,Z,_,_,h1,_⟩:=aS7 (aV0 S.fm) (n:=1) (by decide);refine⟨V_7 (λ s Y=>?_) (by decide) S.fm (D_4 ea) la λ z=>absurd z (h0 (by decide)),V_7 (λ s Y=>?_) (by simp) S.fm (D_4 O) Z λ z=>absurd z (h1 (by decide))⟩
 ·rw[List.mem_singleton.mp Y];exact q
 ·rcases qw Y with z | z
  ·rw[z];exact q
  ·rw[List.mem_singleton.mp z];exact knd
end
theorem bH7 {qs:List (D×List Str)} (form:Str) (ws:List Str) (l:Str) (k:Nat) (kw:Key w) (kn:Key nm)
  (hf:∀ p∈fts,d_8 (.str p.1) FR=some (.bl true)/\d_8 (.str p.1) KPd=some (.bl true)/\Key p.2) (ht:∀ t∈ts,Item t.1 t.2.1 t.2.2)
  (hb:a_3 [.str w,.tup ((fts.map (·.2)).map .str),.tup (ts.map (·.2.2))]=some (.bl true))
  (hw:j_8 w forms=some (.str form)) (hl:form.length ≤ 100000) (hs:Txt.split form blk=(ws++[l])++[Str.ofString ".."]) (ha:¬ (w=Str.ofString "ask"))
  (hq:(ws++[l])++List.replicate k l=(prs nm fts ts).map (·.1)) (h1:ws.length<=5) (h2:k<=10)
  (hr:(w=Str.ofString "put" ∧ rest=zpT (evn (ts.map (·.2.2))) (evn ((ts.map (·.2.2)).drop 1))) ∨ (¬ (w=Str.ofString "put") ∧ rest=ts.map (·.2.2)))
  (O:rest=qs.map (·.1)) (Z:∀ q∈qs,Shw q.1 q.2) (Y:qs.flatMap (·.2)=ts.map (·.2.1)):Rd w nm (fts.map (·.2)) rest:=by
 have hk:dKx forms (.str w)=some (.str form):=by
  first | exact hw | (unfold dKx;exact hw)
 have p:=ab2 hk hl hs ha (by omega) h2;have ln:(prs nm fts ts).length=ws.length+1+k:=by have:=jm List.length hq;rw[qy,zh,zh,j7] at this;exact this.symm
 rw[<- List.map_replicate,<- yf,hq,zm,<- ln] at p;exact aI7 hw kw kn hf ht (by omega) p hb hr O Z Y
theorem u_2  (b:q):∀ l:List α,l.map (λ _=>b)=List.replicate l.length b
 |[]=>rfl
 |_::r=>by rw[qz,u_2 b r];rfl
theorem bs9:∀ ks:List Str,(ks.map λ x=>(D.str x,[x])).flatMap (·.2)=ks
 |[]=>rfl
 |_::r=>by rw[qz,Z9,bs9 r];rfl
theorem aQ9  (O:w=sS "only" ∨ w=sS "but") (kn:Key nm) (Z:Key f) (kk:∀ k∈k0::ks,Key k) (hl:ks.length ≤ 7) (hd:(k0::ks).Nodup):Rd w nm [f] ((k0::ks).map .str):=by
 have e3:((k0::ks).map λ k=>(sS "KEY",k,D.str k)).map (·.2.2)=(k0::ks).map D.str:=by rw[zm];rfl
 have e4:((k0::ks).map λ k=>(sS "KEY",k,D.str k)).map (·.2.1)=k0::ks:=by rw[zm];exact List.map_id _
 have e5:([sS "NAME",sS "FROM"]++[sS "KEY"])++List.replicate ks.length (sS "KEY")=(prs nm [(sS "FROM",f)] ((k0::ks).map λ k=>(sS "KEY",k,D.str k))).map (·.1):=by have:=u_2 (sS "KEY") ks;simp only[prs,qz,zm,jh,Q7];rw[<- this];rfl
 have Y:=aX0 w O ([f].map .str) (k0::ks) (by simp;omega) hd;rw[<- e3] at Y;refine bH7 (sS "NAME FROM KEY ..") [sS "NAME",sS "FROM"] (sS "KEY") ks.length ?_ kn (fr1 Z) (λ t ht=>?_) Y ?_ (by decide +kernel) (by decide +kernel) ?_ e5 (by decide) (by omega) (.inr ⟨?_,e3.symm⟩) ?_ (λ q hq=>?_) (by rw[bs9,e4])
 ·rcases O with rfl | rfl <;> exact d_9 (by decide +kernel)
 ·obtain⟨k,h1,rfl⟩:=List.mem_map.mp ht;exact .key (by kernel_rfl) (by kernel_rfl) (kk k h1)
 ·rcases O with rfl | rfl <;> kernel_rfl
 ·rcases O with rfl | rfl <;> decide +kernel
 ·rcases O with rfl | rfl <;> decide +kernel
 ·rw[zm];rfl
 ·obtain⟨k,h1,rfl⟩:=List.mem_map.mp hq;exact ax3 k
theorem ai6  (kn:Key nm) (kk:∀ k∈a::b::fs,Key k) (hl:fs.length ≤ 6) (hd:(a::b::fs).Nodup):Rd (sS "pour") nm (a::b::fs) []:=by
 have e4:((a::b::fs).map λ k=>(sS "FROM",k)).map (·.2)=a::b::fs:=by rw[zm];exact List.map_id _
 have e5:([sS "NAME",sS "FROM"]++[sS "FROM"])++List.replicate fs.length (sS "FROM")=(prs nm ((a::b::fs).map λ k=>(sS "FROM",k)) []).map (·.1):=by have:=u_2 (sS "FROM") fs;simp only[prs,qz,zm,jh,Q7,Ql,yn];rw[<- this];rfl
 have O:=aW8 [] (a::b::fs) (by simp;omega) hd;rw[<- e4] at O;have r:=bH7 (ts:=[]) (qs:=[]) (sS "NAME FROM FROM ..") [sS "NAME",sS "FROM"] (sS "FROM") fs.length (d_9 (by decide +kernel)) kn (λ p Z=>by
  obtain⟨k,h1,rfl⟩:=List.mem_map.mp Z;exact frK (kk k h1)) (λ t Y=>by cases Y) O (by kernel_rfl) (by decide +kernel) (by decide +kernel) (by decide +kernel) e5 (by decide) (by omega) (.inr ⟨by decide +kernel,rfl⟩) rfl (λ q hq=>by cases hq) rfl
 rw[e4] at r;exact r
def pws (ps:List (Str×Str)):List Str:=ps.flatMap λ p=>[p.1,p.2]
theorem az6 (a b:Str) (r:List (Str×Str)):pws ((a,b)::r)=a::b::pws r:=rfl
theorem bl7:∀ ps:List (Str×Str),evn ((pws ps).map D.str)=(ps.map (·.1)).map .str
 |[]=>rfl
 |(a,b)::r=>by
  have:=bl7 r;rw[az6,qz,qz];unfold evn;rw[this];rfl
theorem bl6:∀ ps:List (Str×Str),zpT (evn ((pws ps).map D.str)) (evn (((pws ps).map D.str).drop 1))=ps.map λ p=>.tup [.str p.1,.str p.2]
 |[]=>rfl
 |[(a,b)]=>rfl
 |(a,b)::(c,d)::r=>by
  have q:=bl6 ((c,d)::r);rw[az6 a b,qz,qz,qz,<- q];rfl
theorem bl1  (kn:Key nm) (Z:Key f) (O:∀ p∈(a,b)::ps,Key p.1 ∧ Key p.2) (hl:ps.length ≤ 3) (hd:(((a,b)::ps).map (·.1)).Nodup):Rd (sS "put") nm [f] (((a,b)::ps).map λ p=>.tup [.str p.1,.str p.2]):=by
 have kw:∀ x∈pws ((a,b)::ps),Key x:=λ x hx=>by
  obtain⟨p,h1,h2⟩:=List.mem_flatMap.mp hx;rcases qw h2 with q | q
  ·rw[q];exact (O p h1).1
  ·rw[List.mem_singleton.mp q];exact (O p h1).2
 have ll:(pws ps).length=2*ps.length:=by
  clear kw O hd hl;induction ps with
  |nil=>rfl
  |cons p r ih=>rw[az6,zj,zj,ih,zj];omega
 have e3:((sS "KEY",a,D.str a)::(b::pws ps).map λ k=>(sS "OTHER",k,D.str k)).map (·.2.2)=(pws ((a,b)::ps)).map D.str:=by rw[qz,zm];rfl
 have e4:((sS "KEY",a,D.str a)::(b::pws ps).map λ k=>(sS "OTHER",k,D.str k)).map (·.2.1)=pws ((a,b)::ps):=by rw[qz,zm];exact jm (a::·) (List.map_id _)
 have e5:([sS "NAME",sS "FROM",sS "KEY"]++[sS "OTHER"])++List.replicate (pws ps).length (sS "OTHER")=(prs nm [(sS "FROM",f)] ((sS "KEY",a,D.str a)::(b::pws ps).map λ k=>(sS "OTHER",k,D.str k))).map (·.1):=by have:=u_2 (sS "OTHER") (pws ps);simp only[prs,qz,zm,jh,Q7];rw[<- this];rfl
 have Y:=bq7 ([f].map .str) ((pws ((a,b)::ps)).map D.str) _ (by rw[qy,az6,zj,zj,ll];omega) (bl7 _) (by simp;omega) hd;rw[<- e3] at Y;refine bH7 (qs:=((a,b)::ps).map λ p=>(D.tup [.str p.1,.str p.2],[p.1,p.2])) (sS "NAME FROM KEY OTHER ..") [sS "NAME",sS "FROM",sS "KEY"] (sS "OTHER") (pws ps).length (d_9 (by decide +kernel)) kn (fr1 Z) (λ t ht=>?_) Y (by kernel_rfl) (by decide +kernel) (by decide +kernel) (by decide +kernel) e5 (by decide) (by omega) (.inl ⟨rfl,by rw[e3,bl6]⟩) (by rw[zm];rfl) (λ q hq=>?_) (by rw[e4,List.flatMap_map];rfl)
 ·rcases qw ht with q | q
  ·rw[q];exact .key (by kernel_rfl) (by kernel_rfl) (kw a qg)
  ·obtain⟨k,h1,rfl⟩:=List.mem_map.mp q;exact .key (by kernel_rfl) (by kernel_rfl) (kw k (qh _ h1))
 ·obtain⟨p,h1,rfl⟩:=List.mem_map.mp hq;exact ax4 p.1 p.2
theorem c_2 {a b:Int} (h:0<b):a.fmod b=a % b:=Int.fmod_eq_emod_of_nonneg a (by omega)
theorem u_4 {a b:Int} (h:0<b):a.fdiv b=a / b:=Int.fdiv_eq_ediv_of_nonneg a (by omega)
theorem u_5  (P:Nat->En->Prop):∀ (n k:Nat) (ρ:En),(∀ (i:Nat) ρ,k<=i->i<k+n->P i ρ->∃ Y O,g (.int i) ρ=some Y/\B Y=some (.nx O)/\P (i+1) O)->P k ρ->∃ ρ',fGo g B (n_2 k n) ρ=some (.nx ρ')/\P (k+n) ρ'
 |0,k,ρ,_,p=>⟨ρ,rfl,p⟩
 |n+1,k,ρ,h,p=>by
  obtain⟨Y,O,h1,h2,p2⟩:=h k ρ (qj _) (by omega) p;obtain⟨ρ',e,Z⟩:=u_5 P n (k+1) O (λ i ρ a b q=>h i ρ (by omega) (by omega) q) p2;refine⟨ρ',?_,by rw[show k+(n+1)=k+1+n by omega];exact Z⟩;rw[show n_2 (k:Int) (n+1)=.int k::n_2 ((k:Int)+1) n from rfl,aD8,h1,aE0,h2,aD9];exact e
theorem at5 (xs:List Int)  (h:i<xs.length):atD (xs.map D.int) i=some (.int xs[i]):=by unfold atD dPl;rw[qy,if_pos (by omega),if_pos (by omega)];show (xs.map D.int)[((i:Int)).toNat]?=_;rw[show ((i:Int)).toNat=i by omega,yo,zl h];rfl
def Dig (xs:List Int):Prop:=∀ x∈xs,0<=x/\x<64
def dn1 (c:Int) (k:Nat):Int:=(c % 2147483647+7919*k+1)*48271 % 2147483647
def dn2 (c:Int) (k:Nat):Int:=dn1 c k*(dn1 c k / 1009+69621) % 2147483647
def dn3 (c:Int) (k:Nat):Int:=(dn2 c k+7*k)*(dn2 c k / 677+40692) % 2147483399 / 3
def PD (c n:Int) (k:Nat) (ρ:En):Prop:=∃ (xs:List Int) (r:Int) (O q:Sl),ρ=[.im (.int c),.im (.int n),.ow false (.lst (xs.map .int)),.im (.int r),O,q]/\xs.length=k/\Dig xs
theorem ad9  (k:Nat) (hk:k<1000) (ρ:En) (p:PD c n k ρ):∃ aa ac,gN 4 (.int k) ρ=some aa/\f_3 aa=some (.nx ac)/\PD c n (k+1) ac:=by
 obtain⟨xs,r,x4,x5,rfl,hl,hd⟩:=p;have app:∀ y:Int,Dig (xs++[y % 64]):=λ y x hx=>by
  rcases qx hx with h | h
  ·exact hd x h
  ·rw[List.mem_singleton.mp h];exact⟨j1 _ (by decide),jd _ (by decide)⟩
 have Z:∀ y:Int,(xs++[y % 64]).length=k+1:=λ y=>by rw[zh,hl];rfl
 have l6:xs.length<1000000:=by omega
 have q:∀ x:Int,x.fmod 64=x % 64:=λ x=>c_2 (by decide);have Y:∀ x:Int,x.fdiv 64=x / 64:=λ x=>u_4 (by decide);have O:h_4 64=true:=e_4 (by decide) (by decide);by_cases hc:c<10000000000000000000000000000000000000000\/r=0
 ·have m1:∀ x:Int,l_3 7919 x=true:=λ x=>E_4 (by decide);have m2:∀ x:Int,l_3 x 48271=true:=λ x=>w_3 (by decide);have m3:∀ x:Int,l_3 7 x=true:=λ x=>E_4 (by decide);have f1:∀ x:Int,x.fmod 2147483647=x % 2147483647:=λ x=>c_2 (by decide);have f2:∀ x:Int,x.fmod 2147483399=x % 2147483399:=λ x=>c_2 (by decide);have g1:∀ x:Int,x.fdiv 1009=x / 1009:=λ x=>u_4 (by decide);have g2:∀ x:Int,x.fdiv 677=x / 677:=λ x=>u_4 (by decide);have g3:∀ x:Int,x.fdiv 3=x / 3:=λ x=>u_4 (by decide);have d1:h_4 1009=true:=e_4 (by decide) (by decide);have d2:h_4 677=true:=e_4 (by decide) (by decide);have d3:h_4 3=true:=e_4 (by decide) (by decide);have b1:0<=dn1 c k/\dn1 c k<2147483647:=⟨j1 _ (by decide),jd _ (by decide)⟩;have b2:0<=dn2 c k/\dn2 c k<2147483647:=⟨j1 _ (by decide),jd _ (by decide)⟩;have m4:l_3 (dn1 c k) (dn1 c k / 1009+69621)=true:=E_4 (by omega);have m5:l_3 (dn2 c k+7*k) (dn2 c k / 677+40692)=true:=w_3 (by omega);have q1:(c % 2147483647+7919*k+1)*48271 % 2147483647=dn1 c k:=rfl;have q2:dn1 c k*(dn1 c k / 1009+69621) % 2147483647=dn2 c k:=rfl;have q3:(dn2 c k+7*k)*(dn2 c k / 677+40692) % 2147483399 / 3=dn3 c k:=rfl;refine⟨_,[.im (.int c),.im (.int n),.ow false (.lst ((xs++[dn3 c k % 64]).map .int)),.im (.int (r / 64)),.im (.int k),.im (.int (dn3 c k))],rfl,?_,_,_,_,_,rfl,Z _,app _⟩;have tt:tOr (tB (e2 dLt (eV 0) (e2 au7 (zI 10) (zI 40)))) (tB (e2 dEq (eV 3) (zI 0))) [.im (.int c),.im (.int n),.ow false (.lst (xs.map .int)),.im (.int r),.im (.int k),.im (.int r)]=some (true,[.im (.int c),.im (.int n),.ow false (.lst (xs.map .int)),.im (.int r),.im (.int k),.im (.int r)]):=by
   by_cases h:c<10000000000000000000000000000000000000000
   ·simp[h]
   ·simp[h,hc.resolve_left h]
  simp only[f_3];generalize tOr (tB (e2 dLt (eV 0) (e2 au7 (zI 10) (zI 40)))) (tB (e2 dEq (eV 3) (zI 0)))=TT at tt ⊢;simp[tt,m1,m2,m3,m4,m5,f1,f2,g1,g2,g3,d1,d2,d3,q,Y,O,l6,q1,q2,q3]
 ·have h1:¬ c<10000000000000000000000000000000000000000:=λ h=>hc (.inl h);have h2:¬ r=0:=λ h=>hc (.inr h);refine⟨_,[.im (.int c),.im (.int n),.ow false (.lst ((xs++[r % 64]).map .int)),.im (.int (r / 64)),.im (.int k),.im (.int r)],rfl,?_,_,_,_,_,rfl,Z _,app _⟩;simp[f_3,h1,h2,q,Y,O,l6]
theorem aq1 (c:Int) (n:Nat) (hn:n<=1000):∃ xs:List Int,e_1 [.int c,.int n]=some (.lst (xs.map .int))/\xs.length=n/\Dig xs:=by
 obtain⟨ρ',e,xs,r,Z,x5,rfl,hl,hd⟩:=u_5 (PD c n) n 0 [.im (.int c),.im (.int n),.ow false (.lst []),.im (.int c),.no,.no] (λ i ρ _ h p=>ad9 i (by omega) ρ p) ⟨[],c,_,_,rfl,rfl,λ x h=>by cases h⟩;refine⟨xs,?_,by omega,hd⟩;have O:-4611686018427387904<=(n:Int):=by omega
 have Y:(n:Int)<4611686018427387904:=by omega
 have q:fGo (gN 4) f_3 (n_2 0 n) [.im (.int c),.im (.int n),.ow false (.lst []),.im (.int c),.no,.no]=_:=e;simp[e_1,t_0,O,Y,q,List.replicate]
theorem be3  (hd:Dig xs) {i:Int} (q:0<=i) (h1:i<xs.length):∃ v:Int,atD (xs.map D.int) i=some (.int v)/\0<=v/\v<64:=by
 obtain⟨n,rfl⟩:=Int.eq_ofNat_of_zero_le q;have h:n<xs.length:=by omega
 exact⟨xs[n],at5 xs h,hd _ (Qz h)⟩
theorem G_5 (q:List Int) (i:Nat) (hl:q.length<=63):∃ v:Int,b_1 [.lst (q.map .int),.int i]=some (.int v):=by
 have O:q.length<=sizeLine:=a_1 (by omega);by_cases h:i<q.length
 ·have e:=at5 q h;have h':(i:Int)<(q.length:Int):=by omega
  exact⟨q[i],by simp[b_1,l_1,h',e]⟩
 ·have h':¬ ((i:Int)<(q.length:Int)):=by omega
  exact⟨0,by simp[b_1,l_1,h']⟩
theorem al7 {r M:Int} (q:0<=r) (h:r<M) (O:M<=1000000000000):r.natAbs<10 ^ 12:=by omega
theorem cj4 (v:Int):v % 4=0\/v % 4=1\/v % 4=2\/v % 4=3:=by omega
theorem f_7  (hl:xs.length=60) (hd:Dig xs) (a:Nat) (ha:a<=52):∃ r:Int,a_5 [.lst (xs.map .int),.int a]=some (.int r)/\r.natAbs<10 ^ 12:=by
 obtain⟨v,e,v0,v1⟩:=be3 hd (i:=(a:Int)) (by omega) (by omega);have lp:∀ y:Int,∃ (z:Int) (q:Sl),fGo (gN 3) h_7 (n_2 1 7) [.im (.lst (xs.map .int)),.im (.int a),.im (.int y),.no]=some (.nx [.im (.lst (xs.map .int)),.im (.int a),.im (.int z),q]):=λ y=>by
  obtain⟨ρ',e,z,q,rfl⟩:=ap2 (g:=gN 3) (B:=h_7) (λ ρ=>∃ (z:Int) (q:Sl),ρ=[.im (.lst (xs.map .int)),.im (.int a),.im (.int z),q]) 7 1 [.im (.lst (xs.map .int)),.im (.int a),.im (.int y),.no] (λ i ρ hi p=>by
   obtain⟨z,q,rfl⟩:=p;obtain⟨u,e,_,_⟩:=be3 hd (i:=(a:Int)+(1+(i:Int))) (by omega) (by omega);have m:l_3 z 64=true:=w_3 (by decide);generalize xs.map D.int=X at *;exact⟨_,[.im (.lst X),.im (.int a),.im (.int (z*64+u)),.im (.int (1+(i:Int)))],rfl,by simp[m,e],_,_,rfl⟩) ⟨y,.no,rfl⟩
  exact⟨z,q,e⟩
 obtain⟨z,q,el⟩:=lp (v % 16);have Y:v.fmod 16=v % 16:=c_2 (by decide);have f4:v.fmod 4=v % 4:=c_2 (by decide);have O:h_4 16=true:=e_4 (by decide) (by decide);have M:∃ m:Int,atD [.int 100,.int 1000,.int 1000000,.int 1000000000000] (v % 4)=some (.int m)/\0<m/\m<=1000000000000:=by
  have:=cj4 v;rcases this with h | h | h | h <;> rw[h]
  ·exact⟨100,rfl,by decide,by decide⟩
  ·exact⟨1000,rfl,by decide,by decide⟩
  ·exact⟨1000000,rfl,by decide,by decide⟩
  ·exact⟨1000000000000,rfl,by decide,by decide⟩
 obtain⟨m,em,m0,m1⟩:=M;have fm:z.fmod m=z % m:=c_2 m0;have zb:(z % m).natAbs<10 ^ 12:=al7 (j1 _ (by omega)) (jd _ m0) m1;have om:h_4 m=true:=e_4 (by omega) (by omega);have mz:¬ (m=0):=by omega
 generalize xs.map D.int=X at *;have tl:∀ (y:Int) (q:Sl),y.natAbs<10 ^ 12->∃ r:Int,fnA (b_7 (sIf (tB (e2 dEq (e2 f_4 (e2 L_8 (e2 a_9 (eV 0) (eV 1)) (zI 16)) (zI 2)) (zI 1))) (d_6 (e2 L_7 (zI 0) (eV 2))) sN) (d_6 (eV 2)) [.im (.lst X),.im (.int a),.im (.int y),q])=some (.int r)/\r.natAbs<10 ^ 12:=λ y q hy=>by
  by_cases c:(v.fdiv 16).fmod 2=1
  ·exact⟨-y,by simp[e,O,c],by omega⟩
  ·exact⟨y,by simp[e,O,c],hy⟩
 generalize hT:b_7 (sIf (tB (e2 dEq (e2 f_4 (e2 L_8 (e2 a_9 (eV 0) (eV 1)) (zI 16)) (zI 2)) (zI 1))) (d_6 (e2 L_7 (zI 0) (eV 2))) sN) (d_6 (eV 2))=T at tl;unfold a_5 s_9;rw[hT];by_cases c:v > 31
 ·obtain⟨r,er,Z⟩:=tl (z % m) q zb;exact⟨r,by simp[List.replicate,e,Y,f4,c,el,em,fm,mz,er],Z⟩
 ·obtain⟨r,er,Z⟩:=tl (v % 16) .no (by omega);exact⟨r,by simp[List.replicate,e,Y,c,er],Z⟩
structure Dgs (xs:List Int):Prop where
 len:xs.length=60
 dig:Dig xs
theorem Dgs.at  (h:Dgs xs) (i:Int) (q:0<=i) (h1:i<60):∃ v:Int,atD (xs.map D.int) i=some (.int v)/\0<=v/\v<64:=be3 h.dig q (by rw[h.len];omega)
theorem ag7  (g:Dgs xs):∃ l h:D,g_9 [.lst (xs.map .int),.int 20]=some (.tup [l,h])/\Two l h:=by
 obtain⟨x,ex,hx⟩:=f_7 g.len g.dig 20 (by decide);obtain⟨y,O,hy⟩:=f_7 g.len g.dig 28 (by decide);obtain⟨v,q,_,_⟩:=g.at 36 (by decide) (by decide);have ex:a_5 [.lst (xs.map .int),.int 20]=some (.int x):=ex;have O:a_5 [.lst (xs.map .int),.int 28]=some (.int y):=O;have S:∃ a b:Int,N_3 [.lst [.int x,.int y]]=some (.lst [.int a,.int b])/\a<=b/\a.natAbs<10 ^ 12/\b.natAbs<10 ^ 12:=by
  rw[Z_5];by_cases c:x<=y
  ·rw[if_pos c];exact⟨x,y,rfl,c,hx,hy⟩
  ·rw[if_neg c];exact⟨y,x,rfl,by omega,hy,hx⟩
 obtain⟨a,b,es,ab,ha,hb⟩:=S;generalize xs.map D.int=X at *;have st:g_9 [.lst X,.int 20]=fnA (b_7 (sIf (tB (e2 dEq (e2 f_4 (e2 a_9 (eV 0) (e2 e_7 (eV 1) (zI 16))) (zI 4)) (zI 1))) (d_6 (g_7 (aC (eC .non) (aC (eV 4) aN)))) sN) (b_7 (sIf (tB (e2 dEq (e2 f_4 (e2 a_9 (eV 0) (e2 e_7 (eV 1) (zI 16))) (zI 4)) (zI 2))) (d_6 (g_7 (aC (eV 3) (aC (eC .non) aN)))) sN) (b_7 (sIf (tB (e2 dEq (e2 f_4 (e2 a_9 (eV 0) (e2 e_7 (eV 1) (zI 16))) (zI 8)) (zI 3))) (d_6 (g_7 (aC (eC .non) (aC (eC .non) aN)))) sN) (d_6 (g_7 (aC (eV 3) (aC (eV 4) aN)))))) [.im (.lst X),.im (.int 20),.im (.lst [.int a,.int b]),.im (.int a),.im (.int b)]):=by simp[-Z_5,g_9,N_1,List.replicate,ex,O,es,y_5,N_4]
 rw[st];clear st;by_cases Z:v.fmod 4=1
 ·exact⟨.non,.int b,by simp[q,Z],.inl rfl,.inr ⟨b,rfl,hb⟩,.inl rfl⟩
 ·by_cases Y:v.fmod 4=2
  ·exact⟨.int a,.non,by simp[q,Y],.inr ⟨a,rfl,ha⟩,.inl rfl,.inr (.inl rfl)⟩
  ·by_cases c3:v.fmod 8=3
   ·exact⟨.non,.non,by simp[q,Z,Y,c3],.inl rfl,.inl rfl,.inl rfl⟩
   ·exact⟨.int a,.int b,by simp[q,Z,Y,c3],.inr ⟨a,rfl,ha⟩,.inr ⟨b,rfl,hb⟩,.inr (.inr ⟨a,b,rfl,rfl,ab⟩)⟩
def kTx (u v w:Int):Str:=ltr u++Txt.mul (ltr v) (w.fmod 8)
theorem W_5 (u v w:Int):(kTx u v w).cps.toList=(97+(u.fmod 26).toNat)::List.replicate (w.fmod 8).toNat (97+(v.fmod 26).toNat):=by unfold kTx;rw[h_8];show _++(Txt.mul ⟨#[97+(v.fmod 26).toNat]⟩ (w.fmod 8)).cps.toList=_;rw[PyProof.Rows.mul_one_list];rfl
theorem fm8 (x:Int):0<=x.fmod 8/\x.fmod 8<8:=⟨Qm _ (by decide),Q9 _ (by decide)⟩
theorem aX3 (u v w:Int):Key (kTx u v w):=by
 have h:=W_5 u v w;have a:=bf5 u;have b:=bf5 v;have c:=fm8 w;have l:(kTx u v w).length=(w.fmod 8).toNat+1:=by rw[c_5,h,zj,j7]
 refine⟨by omega,by omega,λ x O=>?_⟩;rw[h] at O;rcases qw O with q | q
 ·omega
 ·have:=List.eq_of_mem_replicate q;omega
def hd1 (s:Str):Nat:=s.cps.toList.headD 0
theorem bq8 (u v w:Int):hd1 (kTx u v w)=97+(u.fmod 26).toNat:=by unfold hd1;rw[W_5];rfl
def PK (X:D) (a n d:Int) (k:Nat) (ρ:En):Prop:=∃ (ks:List Str) (O Y q:Sl),ρ=[.im X,.im (.int a),.im (.int n),.im (.str alpha),.ow false (.lst (ks.map .str)),O,Y,q]/\ks.length=k/\(∀ x∈ks,Key x)/\ks.map hd1=(List.range k).map λ (i:Nat)=>97+((d+7*(i:Int)).fmod 26).toNat
theorem F_0  (g:Dgs xs) (a n:Nat) (h:a+n<=56):∃ (ks:List Str) (d:Int),c_3 [.lst (xs.map .int),.int a,.int n]=some (.lst (ks.map .str))/\ks.length=n/\(∀ x∈ks,Key x)/\ks.map hd1=(List.range n).map λ (i:Nat)=>97+((d+7*(i:Int)).fmod 26).toNat:=by
 obtain⟨d,ed,_,_⟩:=g.at a (by omega) (by omega);have m7:∀ x:Int,l_3 7 x=true:=λ x=>E_4 (by decide);have O:∀ (i:Nat) (ρ:En),i<n->PK (.lst (xs.map .int)) a n d i ρ->∃ Y Z,gN 5 (.int i) ρ=some Y/\i_0 Y=some (.nx Z)/\PK (.lst (xs.map .int)) a n d (i+1) Z:=λ i ρ hi p=>by
  obtain⟨ks,s5,s6,s7,rfl,hl,hk,hh⟩:=p;obtain⟨v,ev,_,_⟩:=g.at ((a:Int)+1+(i:Int)) (by omega) (by omega);obtain⟨w,ew,_,_⟩:=g.at ((a:Int)+2+(i:Int)) (by omega) (by omega);have a1:=aK6 (d+7*(i:Int));have a2:=aK6 v;have k:=aX3 (d+7*(i:Int)) v w;have c:=fm8 w;have c1:w.fmod 8<=1000:=by omega
  have lk:(ltr (d+7*(i:Int))).length+(Txt.mul (ltr v) (w.fmod 8)).length<=sizeLine:=by have:=k.2.1;unfold kTx at this;rw[G_9] at this;exact a_1 (by omega)
  have e:ltr (d+7*(i:Int))++Txt.mul (ltr v) (w.fmod 8)=kTx (d+7*(i:Int)) v w:=rfl;have lv:(ltr v).length<=1000:=by rw[aV1];decide
  have l6:(ks.map D.str).length<1000000:=by simp;omega
  refine⟨_,[.im (.lst (xs.map .int)),.im (.int a),.im (.int n),.im (.str alpha),.ow false (.lst ((ks++[kTx (d+7*(i:Int)) v w]).map .str)),.im (.int i),.im (.str (ltr (d+7*(i:Int)))),.im (.str (ltr v))],rfl,?_,ks++[kTx (d+7*(i:Int)) v w],_,_,_,rfl,by simp[hl],λ x hx=>?_,?_⟩
  ·have mp:(ks++[kTx (d+7*(i:Int)) v w]).map D.str=ks.map D.str++[.str (kTx (d+7*(i:Int)) v w)]:=by simp
   rw[mp];generalize ks.map D.str=KS at *;generalize xs.map D.int=X at *;generalize kTx (d+7*(i:Int)) v w=KT at *;simp[ed,ev,ew,a1,a2,m7,c.1,c1,lv,lk,e,l6]
  ·rcases qx hx with q | q
   ·exact hk x q
   ·rw[List.mem_singleton.mp q];exact k
  ·rw[yf,hh,List.range_succ,yf];show _++[hd1 _]=_++[_];rw[bq8]
 obtain⟨ρ',e,ks,s5,s6,s7,rfl,hl,hk,hh⟩:=u_5 (PK (.lst (xs.map .int)) a n d) n 0 [.im (.lst (xs.map .int)),.im (.int a),.im (.int n),.im (.str alpha),.ow false (.lst []),.no,.no,.no] (λ i ρ _ hi p=>O i ρ (by omega) p) ⟨[],_,_,_,rfl,rfl,λ x hx=>(by cases hx),rfl⟩;rw[Nat.zero_add] at hl hh;refine⟨ks,d,?_,hl,hk,hh⟩;have b1:-4611686018427387904<=(n:Int):=by omega
 have b2:(n:Int)<4611686018427387904:=by omega
 have e':fGo (gN 5) i_0 (n_2 0 n) [.im (.lst (xs.map .int)),.im (.int a),.im (.int n),.im (.str alpha),.ow false (.lst []),.no,.no,.no]=_:=e;generalize xs.map D.int=X at *;generalize ks.map D.str=KS at *;simp[c_3,B_7,b1,b2,e',List.replicate]
theorem m26 {i j:Nat} (O:i<j) (Y:j<8) (q:(d+7*(i:Int)) % 26=(d+7*(j:Int)) % 26):False:=by
 obtain⟨k,rfl⟩:=Nat.exists_eq_add_of_lt O;have h:=Int.emod_eq_emod_iff_emod_sub_eq_zero.mp q.symm;have e:d+7*((i+k+1:Nat):Int)-(d+7*(i:Int))=7*(k:Int)+7:=by omega
 rw[e] at h;have z:∀ k:Nat,k<7->(7*(k:Int)+7) % 26≠0:=by decide
 exact z k (by omega) h
theorem bp3 {ks:List Str} (h:ks.map hd1=(List.range n).map λ (i:Nat)=>97+((d+7*(i:Int)).fmod 26).toNat) (Z:n<=8):ks.Nodup:=by
 have nd:(ks.map hd1).Nodup:=by rw[h];show List.Pairwise _ _;rw[List.pairwise_map];refine List.Pairwise.imp_of_mem ?_ List.pairwise_lt_range;intro i j hi Y O q;rw[List.mem_range] at hi Y;have a:=bf5 (d+7*(i:Int));have b:=bf5 (d+7*(j:Int));refine m26 (d:=d) O (qt Y Z) ?_;rw[<- c_2 (by decide),<- c_2 (by decide)];generalize (d+7*(i:Int)).fmod 26=u at *;generalize (d+7*(j:Int)).fmod 26=v at *;clear h hi Y O Z;omega
 exact List.Pairwise.of_map hd1 (λ a b h q=>h (jm hd1 q)) nd
def rtD:Option Res->Option D
 |some (.rt d _)=>some d
 |_=>none
@[simp] theorem cg7 (d:D) (ρ:En):rtD (some (.rt d ρ))=some d:=yI rfl
theorem bk7  (h:rtD o=some d):∃ ρ,o=some (.rt d ρ):=by
 unfold rtD at h;split at h
 ·cases h;exact⟨_,rfl⟩
 ·cases h
theorem d_5  (h:T ρ=some (true,ρ)) (k:rtD (A ρ)=some d):fnA (b_7 (sIf T A sN) R ρ)=some d:=by obtain⟨ρ',e⟩:=bk7 k;simp[h,e]
theorem ch0 (a b:D):c_0 [a,b]=fnA (p_0 [.im a,.im b,.no,.no,.no,.no,.no]):=by kernel_rfl
theorem aF1  (g:Dgs xs):∃ l h:D,c_0 [.str (sS "in"),.lst (xs.map .int)]=some (.tup [l,h]) ∧ Two l h:=by obtain⟨l,h,e,t⟩:=ag7 g;refine⟨l,h,?_,t⟩;generalize xs.map D.int=X at *;rw[ch0];exact d_5 (by kernel_rfl) (by simp[e])
theorem bc8  (g:Dgs xs):∃ rest,c_0 [.str (sS "span"),.lst (xs.map .int)]=some (.tup rest) ∧ ∀ nm f,Key nm → Key f → Rd (sS "span") nm [f] rest:=by obtain⟨l,h,e,t⟩:=ag7 g;refine⟨[l,h],?_,λ nm f a b=>aQ7 a b t⟩;generalize xs.map D.int=X at *;rw[ch0];exact d_5 (by kernel_rfl) (by simp[e])
theorem bc7  (g:Dgs xs):∃ rest,c_0 [.str (sS "time"),.lst (xs.map .int)]=some (.tup rest) ∧ ∀ nm f,Key nm → Key f → Rd (sS "time") nm [f] rest:=by
 obtain⟨x,ex,hx⟩:=f_7 g.len g.dig 20 (by decide);obtain⟨y,O,hy⟩:=f_7 g.len g.dig 28 (by decide);obtain⟨v,ev,_,_⟩:=g.at 37 (by decide) (by decide);have ex:a_5 [.lst (xs.map .int),.int 20]=some (.int x):=ex;have O:a_5 [.lst (xs.map .int),.int 28]=some (.int y):=O;have q:h_4 100000000000=true:=e_4 (by decide) (by decide);have fx:((x.natAbs:Int)).fmod 100000000000=(x.natAbs:Int) % 100000000000:=c_2 (by decide);have fy:((y.natAbs:Int)).fmod 100000000000=(y.natAbs:Int) % 100000000000:=c_2 (by decide);generalize Y:(x.natAbs:Int) % 100000000000=B at *;generalize hC:(y.natAbs:Int) % 100000000000=C at *;have Y:0<=B/\B<100000000000:=by omega
 have Z:v.fmod 2=v % 2:=c_2 (by decide);have z:v % 2=0\/v % 2=1:=by omega
 rcases z with z | z
 ·refine⟨[.int B,.non],?_,λ nm f a b=>ai5 a b Y.1 (by omega) (.inl rfl) (.inl rfl)⟩;generalize xs.map D.int=X at *;rw[ch0];exact b_2 (by kernel_rfl) (d_5 (by kernel_rfl) (by simp[ex,O,ev,fx,fy,Z,z,y_5]))
 ·refine⟨[.int B,.int (B+1+C)],?_,λ nm f a b=>ai5 a b Y.1 (by omega) (.inr ⟨_,rfl,by omega⟩) (.inr ⟨_,rfl,by omega⟩)⟩;generalize xs.map D.int=X at *;rw[ch0];exact b_2 (by kernel_rfl) (d_5 (by kernel_rfl) (by simp[ex,O,ev,fx,fy,Z,z,N_4]))
theorem ar2  (g:Dgs xs)  (q:w=sS "only" ∨ w=sS "but"):∃ rest,c_0 [.str w,.lst (xs.map .int)]=some (.tup rest) ∧ ∀ nm f,Key nm → Key f → Rd w nm [f] rest:=by
 obtain⟨v,Z,v0,_⟩:=g.at 31 (by decide) (by decide);have f8:=fm8 v;obtain⟨n,hn⟩:∃ n:Nat,1+v.fmod 8=(n:Int):=⟨(1+v.fmod 8).toNat,by omega⟩;obtain⟨ks,d,O,Y,kk,kh⟩:=F_0 g 20 n (by omega);have nd:=bp3 kh (by omega);have O:c_3 [.lst (xs.map .int),.int 20,.int n]=some (.lst (ks.map .str)):=O;cases ks with
 |nil=>simp at Y;omega
 |cons k0 r =>
  refine⟨(k0::r).map .str,?_,λ nm f a b=>aQ9 q a b kk (by simp at Y;omega) nd⟩;generalize (k0::r).map D.str=KS at *;generalize xs.map D.int=X at *;rw[ch0];exact b_2 (by rcases q with rfl | rfl <;> kernel_rfl) (b_2 (by rcases q with rfl | rfl <;> kernel_rfl) (d_5 (by rcases q with rfl | rfl <;> kernel_rfl) (by simp[Z,hn,O])))
theorem bc9  (g:Dgs xs):∃ rest,c_0 [.str (sS "rest"),.lst (xs.map .int)]=some (.tup rest) ∧ ∀ nm f,Key nm → Key f → Rd (sS "rest") nm [f] rest:=by
 obtain⟨x,ex,hx⟩:=f_7 g.len g.dig 20 (by decide);obtain⟨y,O,hy⟩:=f_7 g.len g.dig 28 (by decide);have ex:a_5 [.lst (xs.map .int),.int 20]=some (.int x):=ex;have O:a_5 [.lst (xs.map .int),.int 28]=some (.int y):=O;have f9:((x.natAbs:Int)).fmod 999=(x.natAbs:Int) % 999:=c_2 (by decide);have d9:h_4 999=true:=e_4 (by decide) (by decide);generalize hB:2+(x.natAbs:Int) % 999=B at *;have q:2<=B/\B<=1000:=by omega
 have fB:((y.natAbs:Int)).fmod B=(y.natAbs:Int) % B:=c_2 (by omega);have dB:h_4 B=true:=e_4 (by omega) (by omega);have Y:¬ (B=0):=by omega
 have c1:=j1 (y.natAbs:Int) Y;have Z:=jd (y.natAbs:Int) (show 0<B by omega);refine⟨[.int B,.int ((y.natAbs:Int) % B)],?_,λ nm f a b=>aQ8 a b q.1 q.2 c1 Z⟩;generalize xs.map D.int=X at *;rw[ch0];exact b_2 (by kernel_rfl) (b_2 (by kernel_rfl) (b_2 (by kernel_rfl) (d_5 (by kernel_rfl) (by simp[ex,O,f9,hB,fB,Y]))))
theorem bc6  (g:Dgs xs):∃ rest,c_0 [.str (sS "turn"),.lst (xs.map .int)]=some (.tup rest) ∧ ∀ nm f,Key nm → Key f → Rd (sS "turn") nm [f] rest:=by
 obtain⟨x,ex,hx⟩:=f_7 g.len g.dig 20 (by decide);obtain⟨y,O,Y⟩:=f_7 g.len g.dig 28 (by decide);have ex:a_5 [.lst (xs.map .int),.int 20]=some (.int x):=ex;have O:a_5 [.lst (xs.map .int),.int 28]=some (.int y):=O;have f1:x.fmod 2001=x % 2001:=c_2 (by decide);have Z:h_4 2001=true:=e_4 (by decide) (by decide);by_cases z:x % 2001-1000=0
 ·refine⟨[.int 1,.int y],?_,λ nm f a b=>ai4 a b (by decide) (by decide) (by decide) Y⟩;generalize xs.map D.int=X at *;rw[ch0];exact b_2 (by kernel_rfl) (b_2 (by kernel_rfl) (b_2 (by kernel_rfl) (b_2 (by kernel_rfl) (d_5 (by kernel_rfl) (by simp[ex,O,f1,z,N_4])))))
 ·refine⟨[.int (x % 2001-1000),.int y],?_,λ nm f a b=>ai4 a b (by omega) (by omega) z Y⟩;generalize hq:x % 2001-1000=q at *;generalize xs.map D.int=X at *;rw[ch0];exact b_2 (by kernel_rfl) (b_2 (by kernel_rfl) (b_2 (by kernel_rfl) (b_2 (by kernel_rfl) (d_5 (by kernel_rfl) (by simp[ex,O,f1,hq,z,y_5])))))
theorem aF2  (g:Dgs xs):∃ rest,c_0 [.str (sS "later"),.lst (xs.map .int)]=some (.tup rest) ∧ ∀ nm f,Key nm → Key f → Rd (sS "later") nm [f] rest:=by obtain⟨x,ex,q⟩:=f_7 g.len g.dig 20 (by decide);have ex:a_5 [.lst (xs.map .int),.int 20]=some (.int x):=ex;refine⟨[.int (x.natAbs:Int)],?_,λ nm f a b=>az3 a b (by omega) (by omega)⟩;generalize xs.map D.int=X at *;rw[ch0];exact b_2 (by kernel_rfl) (b_2 (by kernel_rfl) (b_2 (by kernel_rfl) (b_2 (by kernel_rfl) (b_2 (by kernel_rfl) (d_5 (by kernel_rfl) (by simp[ex]))))))
theorem bp8:∀ A B:List D,cGo2 tYes (g_7 (aC (eV 0) (aC (eV 1) aN))) [] (zpT A B)=some (zpT A B)
 |[],_=>rfl
 |_::_,[]=>rfl
 |a::r,b::q=>by
  have O:=bp8 r q;have e:g_7 (aC (eV 0) (aC (eV 1) aN)) [.im a,.im b]=some (.tup [a,b],[.im a,.im b]):=by simp
  unfold zpT at O ⊢;rw[Q8,qz,k_6];show bnd (some (a,b)) _=_;rw[a_7];show bnd (some (true,_)) _=_;rw[a_7,if_pos rfl,e,a_7,O,a_7]
theorem aG4:∀ A B:List Str,zpT (A.map D.str) (B.map D.str)=(A.zip B).map λ p=>.tup [.str p.1,.str p.2]
 |[],_=>rfl
 |_::_,[]=>rfl
 |a::r,b::q=>by
  have O:=aG4 r q;unfold zpT at O ⊢;rw[qz,qz,Q8,qz,O];rfl
theorem X_3 (x:D):∀ k:Nat,(List.replicate k [x]).flatten=List.replicate k x
 |0=>rfl
 |k+1=>by rw[yv,jo,X_3 x k];rfl
theorem bv4  (g:Dgs xs):∃ rest,c_0 [.str (sS "put"),.lst (xs.map .int)]=some (.tup rest) ∧ ∀ nm f,Key nm → Key f → Rd (sS "put") nm [f] rest:=by
 obtain⟨v,ev,v0,_⟩:=g.at 31 (by decide) (by decide);obtain⟨u,eu,u0,_⟩:=g.at 32 (by decide) (by decide);have f4:v.fmod 4=v % 4:=c_2 (by decide);have f3:u.fmod 3=u % 3:=c_2 (by decide);have f2:u.fmod 2=u % 2:=c_2 (by decide);obtain⟨n,hn⟩:∃ n:Nat,1+v % 4=(n:Int):=⟨(1+v % 4).toNat,by omega⟩;obtain⟨ks,d,ek,kl,kk,kh⟩:=F_0 g 20 n (by omega);have nd:=bp3 kh (by omega);have ek:c_3 [.lst (xs.map .int),.int 20,.int n]=some (.lst (ks.map .str)):=ek;obtain⟨js,_,Z,jl,jk,_⟩:=F_0 g 33 1 (by decide);have Z:c_3 [.lst (xs.map .int),.int 33,.int 1]=some (.lst (js.map .str)):=Z;obtain⟨j,rfl⟩:∃ j,js=[j]:=by
  cases js with
  |nil=>cases jl
  |cons a r=>cases r with
   |nil=>exact⟨a,rfl⟩
   |cons=>cases jl
 have kj:=jk j qg;have kz:Key (sS "z"):=d_9 (by decide +kernel);have j0:atD ([j].map D.str) 0=some (.str j):=rfl;have O:∃ os:List Str,os.length=ks.length ∧ (∀ x∈os,Key x) ∧ sIf (tB (e2 dGt (e2 f_4 (e2 a_9 (eV 1) (zI 32)) (zI 3)) (zI 0))) (e_3 3 (eFr (aT9 (aC (e2 a_9 (j_2 (aC (e2 a_9 (eF c_3 (aC (eV 1) (aC (zI 33) (aC (zI 1) aN)))) (zI 0)) (aC (zR "z") aN))) (e2 f_4 (e2 a_9 (eV 1) (zI 32)) (zI 2))) aN) (eF e_0 (aC (eV 2) aN))))) sN [.im (.str (sS "put")),.im (.lst (xs.map .int)),.im (.lst (ks.map .str)),.im (.lst (ks.map .str).reverse),.no,.no,.no]=some (.nx [.im (.str (sS "put")),.im (.lst (xs.map .int)),.im (.lst (ks.map .str)),.im (.lst (os.map .str)),.no,.no,.no]):=by
  by_cases c:0<u % 3
  ·have R:∃ o:Str,Key o ∧ atD [.str j,.str "z"] (u % 2)=some (.str o):=by
    have z:u % 2=0\/u % 2=1:=by omega
    rcases z with z | z <;> rw[z]
    ·exact⟨j,kj,rfl⟩
    ·exact⟨_,kz,rfl⟩
   obtain⟨o,ko,Y⟩:=R;refine⟨List.replicate ks.length o,by simp,λ x hx=>by rw[List.eq_of_mem_replicate hx];exact ko,?_⟩;have fr:=X_3 (.str o) ks.length;have lz:ks.length<=sizeLine:=a_1 (by omega);have ln:(ks.map D.str).length=ks.length:=by simp
   have i1:(ks.length:Int)<=1000:=by omega
   have i2:(-1000:Int)<=(ks.length:Int):=by omega
   have mr:(List.replicate ks.length o).map D.str=List.replicate ks.length (.str o):=by simp
   rw[mr];generalize xs.map D.int=X at *;generalize [j].map D.str=J at *;generalize ks.map D.str=KS at *;simp[eu,f3,f2,c,Z,j0,Y,ln,i1,i2,fr]
  ·refine⟨ks.reverse,by simp,λ x hx=>kk x (List.mem_reverse.mp hx),?_⟩;rw[Jh];generalize xs.map D.int=X at *;generalize ks.map D.str=KS at *;simp[eu,f3,c]
 obtain⟨os,ol,ok,Y⟩:=O;have kz:=bp8 (ks.map .str) (os.map .str);have lz:ks.length<=sizeLine:=a_1 (by omega);refine⟨zpT (ks.map .str) (os.map .str),?_,λ nm f a b=>?_⟩
 ·have ln:(ks.map D.str).length=ks.length:=by simp
  generalize hF:sIf (tB (e2 dGt (e2 f_4 (e2 a_9 (eV 1) (zI 32)) (zI 3)) (zI 0))) (e_3 3 (eFr (aT9 (aC (e2 a_9 (j_2 (aC (e2 a_9 (eF c_3 (aC (eV 1) (aC (zI 33) (aC (zI 1) aN)))) (zI 0)) (aC (zR "z") aN))) (e2 f_4 (e2 a_9 (eV 1) (zI 32)) (zI 2))) aN) (eF e_0 (aC (eV 2) aN))))) sN=FI at Y;generalize xs.map D.int=X at *;generalize ks.map D.str=KS at *;generalize os.map D.str=OS at *;rw[ch0];unfold p_0;rw[hF];refine b_2 (by kernel_rfl) (b_2 (by kernel_rfl) (b_2 (by kernel_rfl) (b_2 (by kernel_rfl) (b_2 (by kernel_rfl) (b_2 (by kernel_rfl) ?_)))));simp[ev,f4,hn,ek,Y,kz,ln,lz]
 ·rw[aG4];cases ks with
  |nil=>simp at kl;omega
  |cons k0 r =>
   cases os with
   |nil=>cases ol
   |cons o0 q =>
    have ql:q.length=r.length:=by simpa using ol
    refine bl1 (ps:=r.zip q) a b (λ p hp=>?_) ?_ ?_
    ·have:=Q6 (l₁:=k0::r) (l₂:=o0::q) hp;exact⟨kk _ this.1,ok _ this.2⟩
    ·rw[Yu];simp at kl;omega
    ·have e:((k0,o0)::r.zip q).map (·.1)=k0::r:=by rw[qz,Ji (by omega)]
     rw[e];exact nd
structure FW (w:Str):Prop where
 fp:d_8 (.str w) FP=some (.bl true)
 key:Key w
theorem aD5:FW (sS "count"):=⟨by kernel_rfl,d_9 (by decide +kernel)⟩
theorem aY5:FW (sS "most"):=⟨by kernel_rfl,d_9 (by decide +kernel)⟩
theorem aD4:FW (sS "least"):=⟨by kernel_rfl,d_9 (by decide +kernel)⟩
theorem bs2:FW (sS "sum"):=⟨by kernel_rfl,d_9 (by decide +kernel)⟩
theorem bi1  (h:1+(x:Int) % 10000000000=W):1<=W/\W<=10000000000:=by omega
theorem bi0 {W:Int} (h:1<=W/\W<=10000000000):W.natAbs<10 ^ 12:=by omega
theorem O_3 {W A:Int} (h:1<=W/\W<=10000000000) (k:0<=A/\A<=18*W):W<W+1+A/\W+1+A<=20*W/\(W+1+A).natAbs<10 ^ 12:=by omega
theorem aY8  (g:Dgs xs) (Y:Bool)  (hw:w=sS "fixed" ∨ w=sS "slide" ∨ w=sS "gaps" ∨ w=sS "ever"):∃ (Z:List D) (q:Str),g_6 [.str w,.lst (xs.map .int),.bl Y]=some (.tup (Z++[.str q])) ∧ (∀ nm f,Key nm → Key f → Rd w nm [f] (Z++[.str q])) ∧ FW q ∧ (Y=false → ¬ (q=sS "sum")):=by
 obtain⟨x,ex,hx⟩:=f_7 g.len g.dig 20 (by decide);have ex:a_5 [.lst (xs.map .int),.int 20]=some (.int x):=ex;obtain⟨v,ev,v0,_⟩:=g.at 40 (by decide) (by decide);obtain⟨c,ec,c0,_⟩:=g.at 41 (by decide) (by decide);have fx:((x.natAbs:Int)).fmod 10000000000=(x.natAbs:Int) % 10000000000:=c_2 (by decide);have fc:c.fmod 19=c % 19:=c_2 (by decide);have aa:h_4 10000000000=true:=e_4 (by decide) (by decide);generalize hW:1+(x.natAbs:Int) % 10000000000=W at *;have O:=bi1 hW;have nW:=bi0 O;have cW:0<=c % 19*W/\c % 19*W<=18*W:=⟨Int.mul_nonneg (j1 _ (by decide)) (Int.le_trans (by decide) O.1),Int.mul_le_mul_of_nonneg_right (Int.le_of_lt_add_one (jd c (by decide))) (Int.le_trans (by decide) O.1)⟩;have mW:l_3 (c % 19) W=true:=w_3 (Jf nW (by decide));generalize hA:c % 19*W=A at *;have F:∃ q:Str,FW q ∧ (Y=false → ¬ (q=sS "sum")) ∧ e2 a_9 (j_2 (aC (zR "count") (aC (zR "most") (aC (zR "least") (aC (zR "sum") aN))))) (e2 f_4 (e2 a_9 (eV 1) (zI 40)) (e2 e_7 (zI 3) (eF av1 (aC (eV 2) aN)))) [.im (.str w),.im (.lst (xs.map .int)),.im (.bl Y),.no,.no]=some (.str q,[.im (.str w),.im (.lst (xs.map .int)),.im (.bl Y),.no,.no]):=by
  have I:∃ m:Int,3+(if Y=true then 1 else 0:Int)=m/\(m=3\/m=4)/\(Y=false->m=3):=by cases Y <;> exact⟨_,rfl,by decide,by decide⟩
  obtain⟨m,em,m1,m2⟩:=I;have fm:v.fmod m=v % m:=c_2 (by omega);have dm:h_4 m=true:=e_4 (by omega) (by omega);have nm:¬ (m=0):=by omega
  have z:v % m=0\/v % m=1\/v % m=2\/(v % m=3/\m=4):=by rcases m1 with h | h <;> subst h <;> omega
  have R:∃ q:Str,FW q ∧ (Y=false → ¬ (q=sS "sum")) ∧ atD [.str "count",.str "most",.str "least",.str "sum"] (v % m)=some (.str q):=by
   rcases z with z | z | z | ⟨z,z4⟩ <;> rw[z]
   ·exact⟨_,aD5,λ _=>by decide +kernel,rfl⟩
   ·exact⟨_,aY5,λ _=>by decide +kernel,rfl⟩
   ·exact⟨_,aD4,λ _=>by decide +kernel,rfl⟩
   ·exact⟨_,bs2,λ h=>absurd (m2 h) (by omega),rfl⟩
  obtain⟨q,r1,r2,r3⟩:=R;refine⟨q,r1,r2,?_⟩;generalize xs.map D.int=X at *;simp[ev,em,fm,nm,r3]
 obtain⟨q,f1,f2,ef⟩:=F;generalize hE:e2 a_9 (j_2 (aC (zR "count") (aC (zR "most") (aC (zR "least") (aC (zR "sum") aN))))) (e2 f_4 (e2 a_9 (eV 1) (zI 40)) (e2 e_7 (zI 3) (eF av1 (aC (eV 2) aN))))=EE at ef;have st:g_6 [.str w,.lst (xs.map .int),.bl Y]=fnA (b_7 (sIf (tB (e2 dEq (eV 0) (zR "ever"))) (d_6 (g_7 (aC (eV 3) aN))) sN) (b_7 (sIf (tB (e2 dEq (eV 0) (zR "slide"))) (d_6 (g_7 (aC (e2 e_7 (e2 e_7 (eV 4) (zI 1)) (e2 af5 (e2 f_4 (e2 a_9 (eV 1) (zI 41)) (zI 19)) (eV 4))) (aC (eV 4) (aC (eV 3) aN))))) sN) (d_6 (g_7 (aC (eV 4) (aC (eV 3) aN))))) [.im (.str w),.im (.lst (xs.map .int)),.im (.bl Y),.im (.str q),.im (.int W)]):=by generalize xs.map D.int=X at *;unfold g_6 B_8;rw[hE];simp[List.replicate,ef,ex,fx,hW]
 generalize xs.map D.int=X at *;rw[st];rcases hw with rfl | rfl | rfl | rfl
 ·exact⟨[.int W],q,b_2 (by kernel_rfl) (b_2 (by kernel_rfl) (by kernel_rfl)),λ nm f a b=>az4 a b O.1 nW f1.fp f1.key,f1,f2⟩
 ·refine⟨[.int (W+1+A),.int W],q,b_2 (by kernel_rfl) (d_5 (by kernel_rfl) ?_),λ nm f a b=>az2 a b O.1 (O_3 O cW).1 (O_3 O cW).2.1 (O_3 O cW).2.2 f1.fp f1.key,f1,f2⟩;simp[ec,fc,hA,mW]
 ·exact⟨[.int W],q,b_2 (by kernel_rfl) (b_2 (by kernel_rfl) (by kernel_rfl)),λ nm f a b=>aR0 a b O.1 nW f1.fp f1.key,f1,f2⟩
 ·exact⟨[],q,d_5 (by kernel_rfl) (by kernel_rfl),λ nm f a b=>aR1 a b f1.fp f1.key,f1,f2⟩
structure Rw where
 w:Str
 nm:Str
 fr:List Str
 rs:List D
abbrev Rw.d (r:Rw):D:=ay9 r.w r.nm r.fr r.rs
abbrev rds (A:List Rw):List D:=A.map Rw.d
abbrev nms (A:List Rw):List Str:=A.map Rw.nm
abbrev kds (A:List Rw):List (Str×D):=A.map λ r=>(r.nm,r.d)
abbrev dcA (A:List Rw):D:=.dct ((kds A).map (·.1)) ((kds A).map (·.2))
theorem cj2 (x:Str):[x].Nodup:=List.nodup_cons.mpr ⟨yd,List.nodup_nil⟩
theorem P_7 (A B:List Rw):nms (A++B)=nms A++nms B:=yf
theorem az1 (r:Rw) (A:List Rw):rds (r::A)=r.d::rds A:=rfl
theorem O_6 (A B:List Rw):rds (A++B)=rds A++rds B:=yf
theorem aU2 (A:List Rw):nms A.reverse=(nms A).reverse:=Jh
theorem l_9 (A:List Rw):(rds A).length=A.length:=qy ..
theorem an3 (A:List Rw):(kds A).length=A.length:=qy ..
theorem N_8:∀ l:List (Str×D),(l.map (·.1)).zip (l.map (·.2))=l
 |[]=>rfl
 |a::r=>by rw[qz,qz,Q8,N_8 r]
theorem bc0 (A:List Rw) (k:Str):ar1 (.str k) (dcA A)=some (.bl (j_8 k (kds A)).isSome):=by rw[bQ1,N_8]
theorem bZ7 (A:List Rw) (k:Str):dDx (dcA A) (.str k)=j_8 k (kds A):=by rw[bQ0,N_8]
theorem Q_5 :∀ {A:List Rw},k∉nms A->j_8 k (kds A)=none
 |[],_=>rfl
 |r::q,h=>(if_neg λ e:r.nm=k=>h (by rw[<- e];exact qg)).trans (Q_5 λ z=>h (qh _ z))
theorem r_9 :∀ {A:List Rw},(nms A).Nodup->r∈A->j_8 r.nm (kds A)=some r.d
 |a::q,nd,h=>by
  have O:=List.nodup_cons.mp nd;rcases qw h with e | e
  ·subst e;exact if_pos rfl
  ·exact (if_neg λ z:a.nm=r.nm=>O.1 (by rw[z];exact zn e)).trans (r_9 O.2 e)
abbrev CHs:List Str:=[sS "in",sS "time",sS "only",sS "but",sS "span",sS "rest",sS "turn",sS "later",sS "put",sS "pour"]
abbrev FOs:List Str:=[sS "fixed",sS "slide",sS "gaps",sS "ever"]
def aL4 (w:Str):Bool:=inD (.str w) (CHs.map .str)
def an6 (w:Str):Bool:=inD (.str w) (FOs.map .str)
def au5 (w:Str):Bool:=inD (.str w) [.str (sS "fixed"),.str (sS "slide"),.str (sS "ever")]
abbrev CHt:List D:=[.str "in",.str "time",.str "only",.str "but",.str "span",.str "rest",.str "turn",.str "later",.str "put",.str "pour"]
abbrev FOt:List D:=[.str "fixed",.str "slide",.str "gaps",.str "ever"]
abbrev FEt:List D:=[.str "fixed",.str "slide",.str "ever"]
theorem bN4  (h:au5 w=true) (q:au5 u=false):¬ (w=u):=λ e=>by rw[e,q] at h;cases h
theorem bz5  (h:an6 w=false) {P:Prop}:an6 w=true->P:=λ k=>by rw[h] at k;cases k
theorem bQ4  (h:aL4 w=true) (q:aL4 u=false):¬ (w=u):=λ e=>by rw[e,q] at h;cases h
theorem H_4  (h:F ρ=some (d,ρ)) (k:fnA (R (ρ.set i (.im d)))=x):fnA (b_7 (e_3 i F) R ρ)=x:=by simp[h,k]
theorem m_1 :∀ A:List α,(∀ r∈A,T (.im (g r)::fr)=some (p r,.im (g r)::fr))->(∀ r∈A,p r=true->F (.im (g r)::fr)=some (v r,.im (g r)::fr))->cGo T F fr (A.map g)=some ((A.filter p).map v)
 |[],_,_=>rfl
 |r::q,hT,hF=>by
  have Y:=m_1 q (λ x O=>hT x (qh _ O)) λ x O=>hF x (qh _ O);rw[qz,bd5,hT r Z4];cases e:p r with
  |false=>rw[bQ6,Y,List.filter_cons_of_neg (by rw[e];decide)]
  |true=>rw[bd7,hF r Z4 e,bd6,Y,B_6,List.filter_cons_of_pos e];rfl
theorem x_9 {α:Type}{g:α->D}{v:α->D} (A:List α) (O:∀ r∈A,F (.im (g r)::fr)=some (v r,.im (g r)::fr)):cGo tYes F fr (A.map g)=some (A.map v):=by
 have e:=m_1 (T:=tYes) A (λ r _=>rfl) λ r q _=>O r q;rw[e,List.filter_eq_self.mpr λ _ _=>rfl]
def bT0:FS:=(b_7 (sIf (tB (e2 dEq (e2 a_9 (eV 0) (zI 0)) (zR "ask")))
 (d_6 (ad8 (e2 d_8 (e2 a_9 (e2 a_9 (eV 2) (zI 0)) (zI 0)) (eC (.tup [(.str "fixed"),(.str "slide"),(.str "gaps"),(.str "ever")]))) (eOr (ad7 (e2 a_9 (eV 0) (zI 3))) (eF e_6 (aC (e2 a_9 (eV 2) (zI 0)) (aC (eV 1) (aC (e2 a_9 (e2 a_9 (eV 0) (zI 3)) (zI 0)) aN)))))))
 sN)
 (b_7 (sIf (tAnd (tB (e2 d_8 (e2 a_9 (eV 0) (zI 0)) (g_7 (aC (zR "fixed") (aC (zR "slide") (aC (zR "ever") aN)))))) (tB (e2 dEq (e2 a_9 (e2 a_9 (eV 2) (zI 0)) (zI 0)) (zR "pair"))))
 (d_6 (e2 dNe (e2 a_9 (e2 a_9 (eV 0) (zI 3)) (e1 au8 (zI 1))) (zR "sum")))
 sN)
 (d_6 (eF z_8 (aC (eLC [] (eV 2) tYes (e2 d_8 (e2 a_9 (eV 0) (zI 0)) (eC (.tup [(.str "in"),(.str "time"),(.str "only"),(.str "but"),(.str "span"),(.str "rest"),(.str "turn"),(.str "later"),(.str "put"),(.str "pour")])))) aN)))))
theorem ah5 {r:Rw} (nd:(nms A).Nodup) (hn:r.nm∉nms A) (Z:∀ q∈Rs,q∈A) (hf:r.fr=nms Rs) (hl:Rs.length<=1000):b_0 [r.d,dcA A]=fnA (bT0 [.im r.d,.im (dcA A),.im (.lst (rds Rs))]):=by
 have d0:ar1 (.str r.nm) (dcA A)=some (.bl false):=by rw[bc0,Q_5 hn];rfl
 have c1:cGo tYes (e2 ar1 (eV 0) (eV 1)) [.im (dcA A)] (Rs.map λ q=>.str q.nm)=some (Rs.map λ _=>.bl true):=x_9 Rs λ q O=>by
  have e:ar1 (.str q.nm) (dcA A)=some (.bl true):=by rw[bc0,r_9 nd (Z q O)];rfl
  simp[e]
 have c2:cGo tYes (e2 dDx (eV 1) (eV 0)) [.im (dcA A)] (Rs.map λ q=>.str q.nm)=some (rds Rs):=x_9 Rs λ q O=>by
  have e:dDx (dcA A) (.str q.nm)=some q.d:=by rw[bZ7,r_9 nd (Z q O)]
  simp[e]
 have al:=H_0 Rs;have Y:(Rs.map λ q=>D.str q.nm).length<=sizeLine:=a_1 (by simpa using hl);have i2:a_9 r.d (.int 2)=some (.tup (Rs.map λ q=>.str q.nm)):=by show some (D.tup (r.fr.map .str))=_;rw[hf,zm];rfl
 have i1:a_9 r.d (.int 1)=some (.str r.nm):=rfl;generalize hB:(Rs.map λ _=>D.bl true)=B at *;generalize (Rs.map λ q=>D.str q.nm)=F at *;generalize hR:rds Rs=R at *;generalize r.d=rd at *;generalize dcA A=dA at *;refine b_2 ?_ (H_4 ?_ rfl)
 ·simp[i1,i2,d0,c1,al,Y]
 ·simp[i2,c2,Y]
theorem at8 (r:Rw):a_9 r.d (.int 0)=some (.str r.w):=rfl
theorem be9 (r:Rw):a_9 r.d (.int 1)=some (.str r.nm):=rfl
theorem bk5 (r:Rw):a_9 r.d (.int 2)=some (.tup (r.fr.map .str)):=rfl
theorem by9 (r:Rw):a_9 r.d (.int 3)=some (.tup r.rs):=rfl
theorem am9 (q:List D) (x:D):atD (q++[x]) (-1)=some x:=by
 have l:(q++[x]).length=q.length+1:=by simp
 unfold atD dPl;rw[if_neg (by decide),l,if_pos (by omega)];rw[show (-1+((q.length+1:Nat):Int)).toNat=q.length by omega];simp
theorem bM6 (w:Str):d_8 (.str w) (.tup CHt)=some (.bl (aL4 w)):=by kernel_rfl
theorem bM5 (w:Str):d_8 (.str w) (.tup FOt)=some (.bl (an6 w)):=by kernel_rfl
theorem br6 (w:Str):d_8 (.str w) (.tup FEt)=some (.bl (au5 w)):=by kernel_rfl
theorem ax1 {r:Rw} (nd:(nms A).Nodup) (hn:r.nm∉nms A) (hr:∀ q∈Rs,q∈A) (hf:r.fr=nms Rs) (hl:Rs.length ≤ 1000) (Z:∀ q∈Rs,aL4 q.w=true) (ha:¬ (r.w=sS "ask")) (hw:au5 r.w=false ∨ ∃ q l,Rs=q::l):b_0 [r.d,dcA A]=some (.bl true):=by
 rw[ah5 nd hn hr hf hl];have c:cGo tYes (e2 d_8 (e2 a_9 (eV 0) (zI 0)) (eC (.tup CHt))) [] (rds Rs)=some (Rs.map λ _=>.bl true):=x_9 Rs λ q hq=>by
  have i:=bM6 q.w;rw[Z q hq] at i;have j:=at8 q;generalize q.d=O at *;simp[-i_2,i,j]
 have al:=H_0 Rs;have lz:(rds Rs).length<=sizeLine:=a_1 (by simpa using hl);have Y:=at8 r;have f:=br6 r.w;have T:au5 r.w=false ∨ (au5 r.w=true ∧ ∃ (O:D) (u:Str),atD (rds Rs) 0=some O ∧ a_9 O (.int 0)=some (.str u) ∧ ¬ (u=sS "pair")):=by
  rcases hw with h | ⟨q,l,rfl⟩
  ·exact .inl h
  ·cases h:au5 r.w with
   |false=>exact .inl rfl
   |true=>exact .inr ⟨rfl,q.d,q.w,S_0 _ _,at8 q,bQ4 (Z q qg) (by kernel_rfl)⟩
 generalize (Rs.map λ _=>D.bl true)=B at *;generalize rds Rs=R at *;generalize r.d=rd at *;generalize dcA A=dA at *;refine b_2 (by simp[Y,ha]) (b_2 ?_ (by simp[c,al,lz]));rcases T with h | ⟨h,O,u,e1,e2,e3⟩
 ·rw[h] at f;simp[-i_2,Y,f]
 ·rw[h] at f;simp[-i_2,Y,f,e1,e2,e3]
theorem bE6 {r p:Rw} (nd:(nms A).Nodup) (hn:r.nm∉nms A) (hp:p∈A) (hf:r.fr=[p.nm]) (hw:au5 r.w=true) (h2:p.w=sS "pair") (h3:r.rs=q++[.str O]) (h4:¬ (O=sS "sum")):b_0 [r.d,dcA A]=some (.bl true):=by have ha:¬ (r.w=sS "ask"):=bN4 hw (by kernel_rfl);rw[ah5 (Rs:=[p]) nd hn (by simpa using hp) hf (qr rfl)];have Z:=at8 r;have i3:=by9 r;rw[h3] at i3;have l:=am9 q (.str O);have f:=br6 r.w;rw[hw] at f;have Y:=at8 p;rw[h2] at Y;have a0:atD (rds [p]) 0=some p.d:=rfl;generalize q++[.str O]=P at *;generalize rds [p]=R at *;generalize p.d=pd at *;generalize r.d=rd at *;generalize dcA A=dA at *;refine b_2 (by simp[Z,ha]) (d_5 (by simp[-i_2,Z,f,a0,Y]) (by simp[i3,l,h4]))
theorem aF8 {f g:Rw} (nd:(nms A).Nodup) (hg:g∈A) (h1:¬ (f.w=sS "gaps")) (h2:f.fr=[g.nm]) (h3:f.rs=O++[.str q]) (Z:¬ (q=sS "sum")) (h5:¬ (g.w=sS "pair")) (h6:q=sS "count" → ∃ n:Int,l=.int n ∧ 1 ≤ n ∧ n ≤ 50):e_6 [f.d,dcA A,l]=some (.bl true):=by
 have i0:=at8 f;have i2:=bk5 f;rw[h2] at i2;have Y:=by9 f;rw[h3] at Y;have la:=am9 O (.str q);have j0:=at8 g;have a0:atD ([g.nm].map D.str) 0=some (.str g.nm):=rfl;have dx:dDx (dcA A) (.str g.nm)=some g.d:=by rw[bZ7,r_9 nd hg]
 generalize O++[.str q]=P at *;generalize [g.nm].map D.str=G at *;generalize g.d=gd at *;generalize f.d=fd at *;generalize dcA A=dA at *;refine H_4 (d:=.str q) (by simp[Y,la]) (b_2 (by simp[i0,h1,Z,i2,a0,dx,j0,h5]) ?_);by_cases c:q=sS "count"
 ·obtain⟨n,rfl,n1,n2⟩:=h6 c;simp[c,n1,n2]
 ·simp[c]
theorem bj1 {r f:Rw} (nd:(nms A).Nodup) (hn:r.nm∉nms A) (hp:f∈A) (hf:r.fr=[f.nm]) (hw:r.w=sS "ask") (h2:an6 f.w=true) (h3:r.rs=[] ∨ ∃ l h:D,r.rs=[l,h] ∧ e_6 [f.d,dcA A,l]=some (.bl true)):b_0 [r.d,dcA A]=some (.bl true):=by
 rw[ah5 (Rs:=[f]) nd hn (by simpa using hp) hf (qr rfl)];have i0:=at8 r;rw[hw] at i0;have q:=by9 r;have O:=bM5 f.w;rw[h2] at O;have Z:=at8 f;have Y:atD (rds [f]) 0=some f.d:=rfl;generalize rds [f]=R at *;generalize f.d=fd at *;generalize r.d=rd at *;generalize dcA A=dA at *;refine d_5 (by simp[i0]) ?_;rcases h3 with h | ⟨l,h,e,b⟩
 ·rw[h] at q;simp[-i_2,Y,Z,O,q]
 ·rw[e] at q;simp[-i_2,Y,Z,O,q,b,y_5]
def FrV (fr q:List Str):Prop:=q=fr\/∃ (f O:Str) (t:List Str),fr=f::t/\q=O::t/\Key O/\O∉t
structure RowOk (P:List Rw) (r:Rw):Prop where
 gn:∀ nm fr,Key nm->FrV r.fr fr->Rd r.w nm fr r.rs
 key:Key r.nm
 nn:r.nm∉nms P
 fo:an6 r.w=true->∃ (f:Str) (pre:List D) (fw:Str),r.fr=[f]/\r.rs=pre++[.str fw]
 fr:∀ f∈r.fr,f∈nms P
 frl:r.fr.length<=8
 st:b_0 [r.d,dcA P]=some (.bl true)
theorem RowOk.rd  (h:RowOk P r):Rd r.w r.nm r.fr r.rs:=h.gn _ _ h.key (.inl rfl)
theorem gn1  (q:Key f) (rd:∀ nm f,Key nm->Key f->Rd w nm [f] rest):∀ nm fr,Key nm->FrV [f] fr->Rd w nm fr rest:=λ nm fr kn v=>by
 rcases v with rfl | ⟨g,f',t,h1,rfl,kf',_⟩
 ·exact rd nm f kn q
 ·cases h1;exact rd nm f' kn kf'
def Z_7:List Rw->List Rw->Prop
 |_,[]=>True
 |P,r::q=>RowOk P r/\Z_7 (P++[r]) q
theorem pas (P:List Rw) (a:Rw) (q:List Rw):P++[a]++q=P++a::q:=by rw[jx];rfl
theorem L_1:∀ {A P:List Rw}{r:Rw},Z_7 P A->RowOk (P++A) r->Z_7 P (A++[r])
 |[],P,r,_,h=>⟨by rw[yn] at h;exact h,trivial⟩
 |a::q,P,r,g,h=>⟨g.1,L_1 g.2 (by rw[pas];exact h)⟩
theorem j_7:∀ {A P:List Rw}{r:Rw},Z_7 P A->r∈A->∃ Q,RowOk Q r/\∀ x∈nms Q,x∈nms (P++A)
 |a::q,P,r,g,h=>by
  rcases qw h with e | e
  ·subst e;exact⟨P,g.1,λ x O=>by rw[P_7];exact jf _ O⟩
  ·have:=j_7 g.2 e;rw[pas] at this;exact this
theorem ao4:∀ {A P:List Rw},(nms P).Nodup->Z_7 P A->(nms (P++A)).Nodup
 |[],P,n,_=>by rw[yn];exact n
 |a::q,P,n,g=>by
  have h:(nms (P++[a])).Nodup:=by rw[P_7];refine List.nodup_append.mpr ⟨n,cj2 _,λ x O y Y e=>?_⟩;rw[List.mem_singleton.mp Y] at e;exact g.1.nn (by rw[<- e];exact O)
  have:=ao4 h g.2;rw[pas] at this;exact this
theorem P_8:∀ {l:List D},(∀ d∈l,nl d=true/\nd d=true)->nls l=true/\nds l=true
 |[],_=>⟨rfl,rfl⟩
 |a::r,h=>by
  have h1:=h a qg;have h2:=P_8 λ d hd=>h d (qh _ hd);show (nl a&&nls r)=true/\(nd a&&nds r)=true;rw[h1.1,h1.2,h2.1,h2.2];exact⟨rfl,rfl⟩
theorem al4:∀ {l:List D},(∀ d∈l,nd d=true)->nds l=true
 |[],_=>rfl
 |a::r,h=>by
  show (nd a&&nds r)=true;rw[h a Z4,al4 λ d hd=>h d (je _ hd)];rfl
theorem x_5 :∀ {l:List D},(∀ d∈l,dpD d<=m)->p_2 l<=m
 |[],_=>yi _
 |a::r,h=>Nat.max_le.mpr ⟨h a qg,x_5 λ d hd=>h d (qh _ hd)⟩
theorem I_5 {r:Rw} (h:∀ d∈r.rs,Pl 1 d):Pl 3 r.d:=by
 have a:=P_8 λ d hd=>⟨(h d hd).1,(h d hd).2.1⟩
 have s:∀ d∈r.fr.map D.str,Pl 0 d:=λ d hd=>by
  obtain⟨x,_,rfl⟩:=List.mem_map.mp hd;exact⟨rfl,rfl,qj _⟩
 have b:=P_8 λ d hd=>⟨(s d hd).1,(s d hd).2.1⟩
 have c:=x_5 λ d hd=>(h d hd).2.2;have e:=x_5 λ d hd=>(s d hd).2.2;show (nls (r.fr.map .str)&&(nls r.rs&&true))=true/\(nds (r.fr.map .str)&&(nds r.rs&&true))=true/\max 0 (max 0 (max (p_2 (r.fr.map .str)+1) (max (p_2 r.rs+1) 0)))+1<=3;rw[a.1,a.2,b.1,b.2];exact⟨rfl,rfl,Yk (Nat.max_le.mpr ⟨yi _,Nat.max_le.mpr ⟨yi _,Nat.max_le.mpr ⟨Yk (zo e (yi 1)),Nat.max_le.mpr ⟨Yk c,yi _⟩⟩⟩⟩)⟩
theorem bb8 (A:List Str):dpD (.lst (A.map .str))<=30:=by
 have:=x_5 (m:=0) (l:=A.map D.str) λ d hd=>by
  obtain⟨x,_,rfl⟩:=List.mem_map.mp hd;exact qj _
 show p_2 _+1<=30;omega
theorem K_0  (h:f∈nms A):∃ r∈A,r.nm=f:=by obtain⟨r,h1,h2⟩:=List.mem_map.mp h;exact⟨r,h1,h2⟩
theorem as0 (a b c:D):g_2 [a,b,c]=fnA (p_1 [.im a,.im b,.im c,.no,.no]):=by kernel_rfl
theorem aG2  (g:Dgs xs)  (nd:(nms A).Nodup) {f O:Rw} (hg:O∈A) (h2:f.fr=[O.nm]) (h3:f.rs=Z++[.str Y]) (hl:A.length ≤ 1000):∃ rest,g_2 [f.d,.lst (rds A),.lst (xs.map .int)]=some (.tup rest) ∧ (rest=[] ∨ ∃ l h:D,rest=[l,h] ∧ Two l h ∧ ¬ (f.w=sS "gaps") ∧ ¬ (Y=sS "sum") ∧ ¬ (O.w=sS "pair") ∧ (Y=sS "count" → ∃ n:Int,l=.int n ∧ 1 ≤ n ∧ n ≤ 50)):=by
 obtain⟨v,ev,_,_⟩:=g.at 42 (by decide) (by decide);obtain⟨a,ea,a0,_⟩:=g.at 43 (by decide) (by decide);obtain⟨b,eb,b0,b1⟩:=g.at 44 (by decide) (by decide);obtain⟨c,ec,c0,_⟩:=g.at 45 (by decide) (by decide);obtain⟨l,h,et,t⟩:=ag7 g;have i0:=at8 f;have i2:=bk5 f;rw[h2] at i2;have i3:=by9 f;rw[h3] at i3;have la:=am9 Z (.str Y);have j0:atD ([O.nm].map D.str) 0=some (.str O.nm):=rfl;have lc:cGo (tB (e2 dEq (e2 a_9 (eV 0) (zI 1)) (e2 a_9 (e2 a_9 (eV 1) (zI 2)) (zI 0)))) (eV 0) [.im f.d] (rds A)=some ((A.filter λ r=>decide (r.nm=O.nm)).map Rw.d):=m_1 A (λ r _=>by
  have k1:=be9 r;generalize [O.nm].map D.str=G at *;generalize r.d=rd at *;generalize f.d=fd at *;simp[k1,i2,j0]) λ r _ _=>rfl
 have lz:(rds A).length<=sizeLine:=a_1 (by simpa using hl);have Q:∃ (qs:List D) (qd:D),(A.filter λ r=>decide (r.nm=O.nm)).map Rw.d=qs/\atD qs 0=some qd/\a_9 qd (.int 0)=some (.str O.w):=by
  have m:O∈A.filter λ r=>decide (r.nm=O.nm):=List.mem_filter.mpr ⟨hg,by simp⟩;generalize hF:(A.filter λ r=>decide (r.nm=O.nm))=F at m;cases F with
  |nil=>cases m
  |cons q r =>
   have hq:=List.mem_filter.mp (hF▸qg:q∈A.filter λ r=>decide (r.nm=O.nm));have e:q.nm=O.nm:=by simpa using hq.2
   have k:=r_9 nd hq.1;rw[e,r_9 nd hg] at k;exact⟨_,q.d,rfl,S_0 _ _,by rw[<- Yt k];rfl⟩
 obtain⟨qs,qd,eq,q0,q1⟩:=Q;rw[eq] at lc;generalize Z++[.str Y]=P at *;generalize [O.nm].map D.str=G at *;generalize rds A=R at *;generalize xs.map D.int=X at *;generalize f.d=fd at *;rw[as0];by_cases y1:v.fmod 2=0
 ·exact⟨[],d_5 (by simp[ev,y1]) (by kernel_rfl),.inl rfl⟩
 by_cases y2:f.w=sS "gaps"
 ·exact⟨[],d_5 (by simp[ev,y1,i0,y2]) (by kernel_rfl),.inl rfl⟩
 by_cases y3:Y=sS "sum"
 ·exact⟨[],d_5 (by simp[ev,y1,i0,y2,i3,la,y3]) (by kernel_rfl),.inl rfl⟩
 have K1:=λ d k=>(b_2 (by simp[ev,y1,i0,y2,i3,la,y3]) k:fnA (p_1 [.im fd,.im (.lst R),.im (.lst X),.no,.no])=d)
 by_cases y4:O.w=sS "pair"
 ·exact⟨[],K1 _ (d_5 (by simp[lc,lz,q0,q1,y4]) (by kernel_rfl)),.inl rfl⟩
 have K2:=λ d k=>K1 d (b_2 (by simp[lc,lz,q0,q1,y4]) k);by_cases y5:Y=sS "count"
 ·have fa:a.fmod 50=a % 50:=c_2 (by decide);have fc:c.fmod 2=c % 2:=c_2 (by decide);have H:∃ h:D,atD [.non,.int (1+a % 50+b)] (c % 2)=some h/\(h=.non\/h=.int (1+a % 50+b)):=by
   have z:c % 2=0\/c % 2=1:=by omega
   rcases z with z | z <;> rw[z]
   ·exact⟨_,rfl,.inl rfl⟩
   ·exact⟨_,rfl,.inr rfl⟩
  obtain⟨h,eh,hh⟩:=H;refine⟨[.int (1+a % 50),h],K2 _ (by simp[et,i3,la,y5,ea,eb,ec,fa,fc,eh]),.inr ⟨_,_,rfl,⟨.inr ⟨_,rfl,by omega⟩,?_,?_⟩,y2,y3,y4,λ _=>⟨_,rfl,by omega,by omega⟩⟩⟩
  ·rcases hh with rfl | rfl
   ·exact .inl rfl
   ·exact .inr ⟨_,rfl,by omega⟩
  ·rcases hh with rfl | rfl
   ·exact .inr (.inl rfl)
   ·exact .inr (.inr ⟨_,_,rfl,rfl,by omega⟩)
 ·exact⟨[l,h],K2 _ (by simp[et,i3,la,y5]),.inr ⟨l,h,rfl,t,y2,y3,y4,λ z=>absurd z y5⟩⟩
abbrev Wds:List Str:=CHs++(sS "pair"::FOs++[sS "ask",sS "ask",sS "fixed"])
abbrev W18:List D:=Wds.map .str
def bL7 (w:Str):Bool:=eqD (.str w) (.str (sS "pair"))
abbrev chn (A:List Rw):List Rw:=A.filter λ r=>aL4 r.w
abbrev fol (A:List Rw):List Rw:=A.filter λ r=>an6 r.w
abbrev prr (A:List Rw):List Rw:=A.filter λ r=>bL7 r.w
abbrev sNm (A:List Rw):List D:=A.map λ r=>.str r.nm
def I_1:FS:=(b_7 (sIf (tB (e2 dEq (eV 3) (zR "in")))
 (d_6 (g_7 (aC (zR "in") (aC (eV 7) (aC (g_7 aN) (aC (eF c_0 (aC (zR "in") (aC (eV 1) aN))) aN))))))
 sN)
 (b_7 (sIf (tB (e2 dEq (eV 3) (zR "pour")))
 (b_7 (e_3 9 (e2 e_7 (zI 2) (e2 f_4 (e2 a_9 (eV 1) (zI 3)) (eF bw1 (aC (zI 7) (aC (e2 L_7 (eF e_0 (aC (eV 4) aN)) (zI 1)) aN))))))
 (d_6 (g_7 (aC (eV 3) (aC (eV 7) (aC (eF m_3 (aC (q_4 (e1 bu7 (eV 4)) oN (oS (eV 9))) aN)) (aC (g_7 aN) aN)))))))
 sN)
 (b_7 (sIf (tB (e2 dEq (eV 3) (zR "pair")))
 (b_7 (e_3 10 (e2 a_9 (j_2 (aC (zR "sum") (aC (zR "less") (aC (zR "left") (aC (zR "right") aN))))) (e2 f_4 (e2 a_9 (eV 1) (zI 5)) (zI 4))))
 (d_6 (g_7 (aC (eV 3) (aC (eV 7) (aC (eF m_3 (aC (eV 8) aN)) (aC (g_7 (aC (eF af6 (aC (eF a_5 (aC (eV 1) (aC (zI 20) aN))) aN)) (aC (eV 10) aN))) aN)))))))
 sN)
 (b_7 (sIf (tB (e2 dEq (eV 3) (zR "ask")))
 (b_7 (e_3 11 (e2 a_9 (eV 5) (e2 f_4 (e2 a_9 (eV 1) (zI 1)) (eF e_0 (aC (eV 5) aN)))))
 (d_6 (g_7 (aC (eV 3) (aC (eV 7) (aC (g_7 (aC (e2 a_9 (eV 11) (zI 1)) aN)) (aC (eF g_2 (aC (eV 11) (aC (eV 0) (aC (eV 1) aN)))) aN)))))))
 sN)
 (b_7 (sIf (tB (e2 d_8 (eV 3) (q_4 (eV 2) (oS (zI 11)) (oS (zI 15)))))
 (b_7 (e_3 12 (eOr (e2 dEq (eV 3) (zR "gaps")) (eOr (e2 dEq (eV 6) (j_2 aN)) (e2 dEq (e2 f_4 (e2 a_9 (eV 1) (zI 4)) (zI 2)) (zI 0)))))
 (b_7 (e_3 13 (e2 a_9 (e2 a_9 (j_2 (aC (e2 e_7 (eV 6) (eV 8)) (aC (eV 8) aN))) (eF av1 (aC (eV 12) aN))) (zI 0)))
 (d_6 (g_7 (aC (eV 3) (aC (eV 7) (aC (g_7 (aC (eV 13) aN)) (aC (eF g_6 (aC (eV 3) (aC (eV 1) (aC (eV 12) aN)))) aN))))))))
 sN)
 (d_6 (g_7 (aC (eV 3) (aC (eV 7) (aC (g_7 (aC (e2 a_9 (eV 8) (zI 0)) aN)) (aC (eF c_0 (aC (eV 3) (aC (eV 1) aN))) aN)))))))))))
def hds:List Nat:=(Str.ofString "qhbxdmaztgkpcwrvfnyjuesl").cps.toList
theorem aY3:(List.range 24).all (λ n=>(match hds[n]? with | some c=>decide (97<=c)&&decide (c<123)&&(hds.take n).all (λ x=>decide (x≠c)) | none=>false))=true:=by decide +kernel
theorem aL6  (h:n<24):∃ c:Nat,hds[n]?=some c/\97<=c/\c<123/\c∉hds.take n:=by
 have e:=List.all_eq_true.mp aY3 n (List.mem_range.mpr h);cases O:hds[n]? with
 |none=>rw[O] at e;cases e
 |some c =>
  rw[O] at e;simp only[zk,yw,Q0] at e;exact⟨c,rfl,e.1.1,e.1.2,λ q=>e.2 c q rfl⟩
theorem bs1 {n c:Nat} (h:hds[n]?=some c):atS (Str.ofString "qhbxdmaztgkpcwrvfnyjuesl") (n:Int)=some (.str (chS c)):=by obtain⟨q,e⟩:=List.getElem?_eq_some_iff.mp h;unfold atS;rw[if_pos (by decide +kernel)];unfold dPl;rw[if_pos (by omega),if_pos (by exact_mod_cast q),a_7];show bnd hds[(n:Int).toNat]? _=_;rw[jp,h,a_7]
theorem cn6 (k:Str):∃ n,n<=7/\(Txt.slice k none (some 7)).cps.toList=k.cps.toList.take n:=by have e:=beq_iff_eq.mp (Jd (x:=k) (n:=7) (by decide) rfl);refine⟨_,?_,by rw[e];rfl⟩;split <;> omega
theorem bp1  (h1:97<=c) (h2:c<123) (Y:Key k):Key (chS c++Txt.slice k none (some 7))/\hd1 (chS c++Txt.slice k none (some 7))=c:=by
 obtain⟨n,Z,e⟩:=cn6 k;have l:(chS c++Txt.slice k none (some 7)).cps.toList=c::k.cps.toList.take n:=by rw[h_8,e];rfl
 have ln:(k.cps.toList.take n).length<=7:=zo (List.length_take_le ..) Z;refine⟨⟨?_,?_,λ x O=>?_⟩,by unfold hd1;rw[l];rfl⟩
 ·rw[c_5,l,zj];omega
 ·rw[c_5,l,zj];omega
 ·rw[l] at O;rcases qw O with q | q
  ·omega
  ·exact Y.2.2 x (Qv q)
theorem aW3  (h:cGo T F fr zs=some ys) (hi:ρ[i]?=some (.im (.lst zs))) (q:q_2 ρ js=some fr) (hl:zs.length<=1000):eLC js (eV i) T F ρ=some (.lst ys,ρ):=by
 have v:eV i ρ=some (.lst zs,ρ):=by simp[hi]
 unfold eLC;rw[v,a_7];show bnd (some zs) _=_;rw[a_7,q,a_7,h,a_7,if_pos (a_1 hl)]
theorem cg9 (a b:D):f_9 [a,b]=fnA (N_2 [.im a,.im b,.no,.no,.no,.no,.no,.no,.no,.no,.no,.no,.no,.no]):=by kernel_rfl
structure Pre (A:List Rw) (wd nm:Str) (f0 f1:Str):Prop where
 mem:wd∈Wds
 key:Key nm
 hd:hds[A.length]?=some (hd1 nm)
 ch:¬ (wd=sS "in") → chn A≠[] ∧ f0∈nms (chn A) ∧ f1∈nms (chn A)
 ask:wd=sS "ask" → fol A≠[]
 pour:wd=sS "pour" → 2 ≤ (chn A).length
theorem aD6  (g:Dgs xs) (A:List Rw) (hl:A.length ≤ 24)  (h1:ρ[1]?=some (.im (.lst (xs.map .int)))) (h4:ρ[4]?=some (.im (.lst (sNm (chn A))))):∃ f0 f1:Str,eLR [4,1] (rng1 (zI 2)) tYes (e2 a_9 (e2 e_7 (eV 1) (j_2 (aC (zR "a") aN))) (e2 f_4 (e2 a_9 (eV 2) (e2 e_7 (zI 1) (eV 0))) (eF be0 (aC (zI 1) (aC (eF e_0 (aC (eV 1) aN)) aN))))) ρ=some (.lst [.str f0,.str f1],ρ) ∧ (chn A≠[] → f0∈nms (chn A) ∧ f1∈nms (chn A)):=by
 have lc:(chn A).length<=24:=zo (jt ..) hl;have E:∀ k:Int,0 ≤ k → k<2 → ∃ f:Str,e2 a_9 (e2 e_7 (eV 1) (j_2 (aC (zR "a") aN))) (e2 f_4 (e2 a_9 (eV 2) (e2 e_7 (zI 1) (eV 0))) (eF be0 (aC (zI 1) (aC (eF e_0 (aC (eV 1) aN)) aN)))) [.im (.int k),.im (.lst (sNm (chn A))),.im (.lst (xs.map .int))]=some (.str f,[.im (.int k),.im (.lst (sNm (chn A))),.im (.lst (xs.map .int))]) ∧ (chn A≠[] → f∈nms (chn A)):=λ k k0 k1=>by
  obtain⟨v,ev,v0,_⟩:=g.at (1+k) (by omega) (by omega);generalize chn A=C at *;have ln:(sNm C).length=C.length:=qy ..;have lz:C.length<=sizeLine:=a_1 (by omega);have l1:C.length+1<=sizeLine:=a_1 (by omega);obtain⟨m,hm,m0,m1⟩:∃ m:Int,(if (C.length:Int) > 1 then (C.length:Int) else 1)=m/\0<m/\(m=C.length\/(m=1/\C.length<=1)):=⟨_,rfl,by split <;> omega,by split <;> omega⟩;have fm:v.fmod m=v % m:=c_2 m0;have O:=j1 v (show m≠0 by omega);have c1:=jd v m0;have dm:h_4 m=true:=e_4 (by omega) (by omega);have mz:¬ (m=0):=by omega
  have P:∃ f:Str,atD (sNm C++[.str "a"]) (v % m)=some (.str f) ∧ (C≠[] → f∈nms C):=by
   obtain⟨f,hf,q⟩:=k_7 D.str (nms C++[Str.ofString "a"]) O (by simp;omega);have e:(nms C++[Str.ofString "a"]).map D.str=sNm C++[.str "a"]:=by simp[Qs]
   rw[e] at q;refine⟨f,q,λ hC=>?_⟩;have hc:=List.length_pos_iff.mpr hC;have c2:v % m<C.length:=by omega
   obtain⟨f',Y,Z⟩:=k_7 D.str (nms C) O (by simp;omega);have:atD (sNm C++[.str "a"]) (v % m)=atD ((nms C).map .str) (v % m):=by
    have e2:sNm C=(nms C).map .str:=by simp[Qs]
    unfold atD dPl;rw[e2,if_pos O,if_pos (by simp;omega),if_pos O,if_pos (by simp;omega)];show (_++_)[(v % m).toNat]?=((nms C).map D.str)[(v % m).toNat]?;rw[yu (by simp;omega)]
   rw[this,Z] at q;cases q;exact Y
  obtain⟨f,q,hf⟩:=P;refine⟨f,?_,hf⟩;generalize xs.map D.int=X at *;generalize sNm C=S at *;simp[ev,ln,l1,hm,fm,mz,q]
 obtain⟨f0,e0,p0⟩:=E 0 (by decide) (by decide);obtain⟨f1,e1,p1⟩:=E 1 (by decide) (by decide);refine⟨f0,f1,?_,λ h=>⟨p0 h,p1 h⟩⟩;generalize hE:e2 a_9 (e2 e_7 (eV 1) (j_2 (aC (zR "a") aN))) (e2 f_4 (e2 a_9 (eV 2) (e2 e_7 (zI 1) (eV 0))) (eF be0 (aC (zI 1) (aC (eF e_0 (aC (eV 1) aN)) aN))))=EE at *;generalize xs.map D.int=X at *;generalize sNm (chn A)=S at *;have i:q_2 ρ [4,1]=some [.im (.lst S),.im (.lst X)]:=by simp[h1,h4]
 have z:(2:Nat)<=sizeLine:=a_1 (by decide);have c:cGo tYes EE [.im (.lst S),.im (.lst X)] [.int 0,.int 1]=some [.str f0,.str f1]:=by simp[e0,e1]
 have r:rng1 (zI 2) ρ=some ([.int 0,.int 1],ρ):=by kernel_rfl
 generalize rng1 (zI 2)=RR at *;unfold eLR;rw[r,a_7];rw[i,a_7,c,a_7];exact if_pos z
theorem X_8  (h:dpD (.lst l)<=30):dEq (.lst l) (.lst [])=some (.bl l.isEmpty):=by unfold dEq;rw[if_pos ⟨h,by decide⟩];cases l <;> rfl
theorem x_6 (a b:Str):dEq (.str a) (.str b)=some (.bl (decide (a=b))):=by simp
theorem bM9  (h:S ρ=some (.nx ρ')) (k:fnA (R ρ')=x):fnA (b_7 S R ρ)=x:=by simp[h,k]
theorem aO8  (h1:ρ[1]?=some (.im (.lst X))) (h2:ρ[2]?=some (.im (.lst q))) (Y:atD X 0=some (.int v)) (O:atD q (v.fmod 18)=some (.str wd)) (l:q.length=18):e2 a_9 (eV 2) (e2 f_4 (e2 a_9 (eV 1) (zI 0)) (eF e_0 (aC (eV 2) aN))) ρ=some (.str wd,ρ):=by have z:18<=sizeLine:=a_1 (by decide);simp[h1,h2,Y,O,l]
theorem aU3  (O:ρ[0]?=some (.im (.lst R))) (h1:ρ[1]?=some (.im (.lst X))) (ln:R.length=n) (lz:n ≤ sizeLine) (Z:atS (Str.ofString "qhbxdmaztgkpcwrvfnyjuesl") (n:Int)=some (.str (chS c))) (Y:c_3 [.lst X,.int 46,.int 1]=some (.lst K)) (k0:atD K 0=some (.str k)) (q:k.length ≤ sizeLine) (nz:(chS c).length+(Txt.slice k none (some 7)).length ≤ sizeLine) (hn:chS c++Txt.slice k none (some 7)=nm):e2 e_7 (e2 a_9 (zR "qhbxdmaztgkpcwrvfnyjuesl") (eF e_0 (aC (eV 0) aN))) (q_4 (e2 a_9 (eF c_3 (aC (eV 1) (aC (zI 46) (aC (zI 1) aN)))) (zI 0)) oN (oS (zI 7))) ρ=some (.str nm,ρ):=by have s:aq7 (.str k) none (some 7)=some (.str (Txt.slice k none (some 7))):=if_pos q;generalize hL:Str.ofString "qhbxdmaztgkpcwrvfnyjuesl"=L at *;simp[O,h1,ln,Z,Y,k0,s,nz,hn]
theorem aQ5  (g:Dgs xs)  (hl:A.length<24) (aa:dpD (.lst (rds (fol A)))<=30):∃ wd nm f0 f1:Str,Pre A wd nm f0 f1/\f_9 [.lst (rds A),.lst (xs.map .int)]=fnA (I_1 [.im (.lst (rds A)),.im (.lst (xs.map .int)),.im (.lst W18),.im (.str wd),.im (.lst (sNm (chn A))),.im (.lst (rds (fol A))),.im (.lst (sNm (prr A))),.im (.str nm),.im (.lst [.str f0,.str f1]),.no,.no,.no,.no,.no]):=by
 obtain⟨v,ev,v0,_⟩:=g.at 0 (by decide) (by decide);obtain⟨wd,hw,ew⟩:=k_7 D.str Wds (Qm _ (by decide)) (Q9 _ (by decide));obtain⟨ks,_,ek,kl,kk,_⟩:=F_0 g 46 1 (by decide);have ek:=ek;obtain⟨k,rfl⟩:∃ k,ks=[k]:=by
  cases ks with
  |nil=>cases kl
  |cons a r=>cases r with
   |nil=>exact⟨a,rfl⟩
   |cons=>cases kl
 have kk:=kk k qg;obtain⟨c,hc,c1,c2,_⟩:=aL6 hl;obtain⟨kn,hn⟩:=bp1 c1 c2 kk;have ix:=bs1 hc;have lA:(rds A).length=A.length:=qy ..;have lz:A.length<=sizeLine:=a_1 (by omega);have k0:atD ([k].map D.str) 0=some (.str k):=rfl;have kz:k.length<=sizeLine:=a_1 (by have:=kk.2.1;omega);have nz:(chS c).length+(Txt.slice k none (some 7)).length<=sizeLine:=by have:=kn.2.1;rw[G_9] at this;exact a_1 (by omega)
 generalize hN:chS c++Txt.slice k none (some 7)=nm at *;obtain⟨f0,f1,ef,hf⟩:=aD6 g A (by omega) (ρ:=[.im (.lst (rds A)),.im (.lst (xs.map .int)),.im (.lst W18),.im (.str wd),.im (.lst (sNm (chn A))),.im (.lst (rds (fol A))),.im (.lst (sNm (prr A))),.im (.str nm),.no,.no,.no,.no,.no,.no]) rfl rfl;have g4:cGo (tB (e2 d_8 (e2 a_9 (eV 0) (zI 0)) (q_4 (eV 1) oN (oS (zI 10))))) (e2 a_9 (eV 0) (zI 1)) [.im (.lst W18)] (rds A)=some (sNm (chn A)):=m_1 A (λ r _=>by kernel_rfl) λ r _ _=>rfl;have g5:cGo (tB (e2 d_8 (e2 a_9 (eV 0) (zI 0)) (q_4 (eV 1) (oS (zI 11)) (oS (zI 15))))) (eV 0) [.im (.lst W18)] (rds A)=some (rds (fol A)):=m_1 A (λ r _=>by kernel_rfl) λ r _ _=>rfl;have g6:cGo (tB (e2 dEq (e2 a_9 (eV 0) (zI 0)) (zR "pair"))) (e2 a_9 (eV 0) (zI 1)) [] (rds A)=some (sNm (prr A)):=m_1 A (λ r _=>by kernel_rfl) λ r _ _=>rfl;have l1:(rds A).length<=1000:=by omega
 have pr:∀ O:Str,(O=sS "in" ∨ (O=wd ∧ chn A≠[] ∧ (wd=sS "ask" → fol A≠[]) ∧ (wd=sS "pour" → 2 ≤ (chn A).length))) → Pre A O nm f0 f1:=λ O h=>by
  have hd:hds[A.length]?=some (hd1 nm):=by rw[hn];exact hc
  rcases h with rfl | ⟨rfl,Z,q2,q3⟩
  ·exact⟨by simp,kn,hd,λ z=>absurd rfl z,λ z=>absurd z (by decide +kernel),λ z=>absurd z (by decide +kernel)⟩
  ·exact⟨hw,kn,hd,λ _=>⟨Z,hf Z⟩,q2,q3⟩
 have T:∃ O:Str,Pre A O nm f0 f1 ∧ sIf (tOr (tB (e2 dEq (eV 4) (j_2 aN))) (tOr (tAnd (tB (e2 dEq (eV 3) (zR "ask"))) (tB (e2 dEq (eV 5) (j_2 aN)))) (tAnd (tB (e2 dEq (eV 3) (zR "pour"))) (tB (e2 dLt (eF e_0 (aC (eV 4) aN)) (zI 2)))))) (e_3 3 (zR "in")) sN [.im (.lst (rds A)),.im (.lst (xs.map .int)),.im (.lst W18),.im (.str wd),.im (.lst (sNm (chn A))),.im (.lst (rds (fol A))),.im (.lst (sNm (prr A))),.im (.str nm),.im (.lst [.str f0,.str f1]),.no,.no,.no,.no,.no]=some (.nx [.im (.lst (rds A)),.im (.lst (xs.map .int)),.im (.lst W18),.im (.str O),.im (.lst (sNm (chn A))),.im (.lst (rds (fol A))),.im (.lst (sNm (prr A))),.im (.str nm),.im (.lst [.str f0,.str f1]),.no,.no,.no,.no,.no]):=by
  have s4:(sNm (chn A)).isEmpty=(chn A).isEmpty:=by cases chn A <;> rfl
  have s5:(rds (fol A)).isEmpty=(fol A).isEmpty:=by cases fol A <;> rfl
  have e4:=X_8 (l:=sNm (chn A)) (by
   have:=bb8 (nms (chn A));rw[zm] at this;exact this)
  have e5:=X_8 aa;rw[s4] at e4;rw[s5] at e5;have l4:(sNm (chn A)).length=(chn A).length:=qy ..;have z4:(chn A).length<=sizeLine:=a_1 (zo (jt ..) (by omega));clear g4 g5 g6 ef hf ev ew ek ix lA lz k0 kz nz l1;generalize sNm (chn A)=S4 at *;generalize rds (fol A)=S5 at *;generalize sNm (prr A)=S6 at *;generalize hW:W18=WW at *;generalize xs.map D.int=X at *;generalize rds A=R at *;by_cases a:chn A=[]
  ·rw[a] at e4;exact⟨_,pr _ (.inl rfl),by simp[-au9,e4]⟩
  ·rw[List.isEmpty_eq_false_iff.mpr a] at e4;by_cases b:wd=sS "ask" ∧ fol A=[]
   ·rw[b.2] at e5;have Y:=yc b.1;exact⟨_,pr _ (.inl rfl),by simp[-au9,-decide_eq_true_eq,e4,e5,x_6,Y]⟩
   ·have hb:wd=sS "ask" → dEq (.lst S5) (.lst [])=some (.bl false) ∧ fol A≠[]:=λ q=>by
     have:=λ z=>b ⟨q,z⟩;rw[List.isEmpty_eq_false_iff.mpr this] at e5;exact⟨e5,this⟩
    by_cases c:wd=sS "pour" ∧ (chn A).length<2
    ·have cl:((chn A).length:Int)<2:=by omega
     have Y:decide (wd=Str.ofString "ask")=false:=zy (by rw[c.1];decide +kernel);have dP:=yc c.1;exact⟨_,pr _ (.inl rfl),by simp[-au9,e4,x_6,Y,dP,l4,cl]⟩
    ·refine⟨wd,pr _ (.inr ⟨rfl,a,λ q=>(hb q).2,λ q=>Zr λ z=>c ⟨q,z⟩⟩),?_⟩;by_cases Z:wd=sS "ask"
     ·have e5:=(hb Z).1;have Y:=yc Z;have dP:decide (wd=Str.ofString "pour")=false:=zy (by rw[Z];decide +kernel);simp[-au9,e4,x_6,Y,e5,dP]
     ·have Y:=zy Z;by_cases q2:wd=sS "pour"
      ·have cl:¬ (((chn A).length:Int)<2):=λ z=>c ⟨q2,by omega⟩;have dP:=yc q2;simp[-au9,e4,x_6,Y,dP,l4,cl]
      ·have dP:=zy q2;simp[-au9,e4,x_6,Y,dP]
 obtain⟨O,p,eT⟩:=T;refine⟨O,nm,f0,f1,p,?_⟩;rw[cg9];exact H_4 (d:=.lst ((CHs++[sS "pair"]).map .str)) (by kernel_rfl) (H_4 (by kernel_rfl) (H_4 (aO8 rfl rfl ev ew rfl) (H_4 (aW3 g4 rfl rfl l1) (H_4 (aW3 g5 rfl rfl l1) (H_4 (aW3 g6 rfl rfl l1) (H_4 (aU3 rfl rfl lA lz ix ek k0 kz nz hN) (H_4 ef (bM9 eT rfl))))))))
abbrev C8:List Str:=[sS "time",sS "only",sS "but",sS "span",sS "rest",sS "turn",sS "later",sS "put"]
theorem aH4  (h:ρ[3]?=some (.im (.str w))) (n:¬ (w=u)):tB (e2 dEq (eV 3) (eC (.str u))) ρ=some (false,ρ):=by simp[h,n]
theorem cd6  (h:ρ[3]?=some (.im (.str w))) (n:w=u):tB (e2 dEq (eV 3) (eC (.str u))) ρ=some (true,ρ):=by simp[h,n]
theorem tfo  (q:ρ[3]?=some (.im (.str w))) (h2:ρ[2]?=some (.im (.lst W18))) (O:an6 w=b):tB (e2 d_8 (eV 3) (q_4 (eV 2) (oS (zI 11)) (oS (zI 15)))) ρ=some (b,ρ):=by
 have s:aq7 (.lst W18) (some 11) (some 15)=some (.lst (FOs.map .str)):=by kernel_rfl
 have i:d_8 (.str w) (.lst (FOs.map .str))=some (.bl (an6 w)):=by kernel_rfl
 rw[O] at i;generalize FOs.map D.str=Y at *;generalize W18=Z at *;simp[-aM6,h2,q,s,i]
structure Upto (A:List Rw):Prop where
 good:Z_7 [] A
 hd:(nms A).map hd1=hds.take A.length
 len:A.length<=24
theorem Upto.nd  (u:Upto A):(nms A).Nodup:=by have:=ao4 (P:=[]) List.nodup_nil u.good;exact this
theorem Upto.row  (u:Upto A)  (h:r∈A):∃ Q,RowOk Q r/\∀ x∈nms Q,x∈nms A:=by have:=j_7 u.good h;exact this
theorem Upto.key  (u:Upto A)  (h:f∈nms A):Key f:=by obtain⟨r,q,rfl⟩:=K_0 h;obtain⟨Q,k,_⟩:=u.row q;exact k.key
theorem bp2  (u:Upto A) (hl:A.length<24)  (h:hds[A.length]?=some (hd1 nm)):nm∉nms A:=λ q=>by
 obtain⟨c,O,_,_,n⟩:=aL6 hl;rw[h] at O;cases O;exact n (by rw[<- u.hd];exact zn q)
theorem M_0  (h:f∈nms (chn A)):∃ r∈A,r.nm=f/\aL4 r.w=true:=by obtain⟨r,q,e⟩:=K_0 h;have:=List.mem_filter.mp q;exact⟨r,this.1,e,this.2⟩
theorem aJ9  (u:Upto A)  (kn:Key nm) (nn:nm∉nms A) (hf:f∈nms (chn A)) (rd:∀ nm f,Key nm → Key f → Rd w nm [f] rest) (ha:¬ (w=sS "ask")) (fo:an6 w=true → ∃ (O:List D) (Z:Str),rest=O++[.str Z]):RowOk A ⟨w,nm,[f],rest⟩:=by
 obtain⟨q,hq,rfl,hc⟩:=M_0 hf;have fm:∀ x∈[q.nm],x∈nms A:=λ x Y=>by rw[List.mem_singleton.mp Y];exact zn hq
 refine⟨gn1 (u.key (zn hq)) rd,kn,nn,λ h=>?_,fm,qr rfl,ax1 u.nd nn (λ x Y=>by rw[List.mem_singleton.mp Y];exact hq) rfl (qr rfl) (λ x Y=>by rw[List.mem_singleton.mp Y];exact hc) ha (.inr ⟨_,_,rfl⟩)⟩;obtain⟨O,Z,e⟩:=fo h;exact⟨_,O,Z,rfl,e⟩
abbrev be7 (A:List Rw) (nm:Str) (o:Option D):Prop:=∃ r:Rw,o=some r.d/\r.nm=nm/\RowOk A r
abbrev EV (A:List Rw) (X:List D) (wd nm f0 f1:Str):En:=[.im (.lst (rds A)),.im (.lst X),.im (.lst W18),.im (.str wd),.im (.lst (sNm (chn A))),.im (.lst (rds (fol A))),.im (.lst (sNm (prr A))),.im (.str nm),.im (.lst [.str f0,.str f1]),.no,.no,.no,.no,.no]
theorem bK8  (g:Dgs xs)  (u:Upto A)  (kn:Key nm) (O:nm∉nms A):be7 A nm (fnA (I_1 (EV A (xs.map .int) (sS "in") nm f0 f1))):=by
 obtain⟨l,h,e,t⟩:=aF1 g;refine⟨⟨sS "in",nm,[],[l,h]⟩,?_,rfl,(λ nm fr kn v=>by
  rcases v with rfl | ⟨_,_,_,z,_⟩
  ·exact bH8 kn t
  ·cases z),kn,O,bz5 (by kernel_rfl),λ f Y=>(by cases Y),yi _,ax1 (Rs:=[]) u.nd O (λ x q=>by cases q) rfl (by decide) (λ x q=>by cases q) (show ¬ (sS "in"=sS "ask") by decide +kernel) (.inl (by kernel_rfl))⟩
 generalize xs.map D.int=X at *;exact d_5 (cd6 rfl rfl) (by simp[e])
theorem aN1:C8.all (λ w=>aL4 w&&!(an6 w)&&!(eqD (.str w) (.str (sS "in")))&&!(eqD (.str w) (.str (sS "pour")))&&!(eqD (.str w) (.str (sS "pair")))&&!(eqD (.str w) (.str (sS "ask"))))=true:=by decide +kernel
theorem bQ7  (g:Dgs xs)  (h:w∈C8):∃ rest,c_0 [.str w,.lst (xs.map .int)]=some (.tup rest)/\∀ nm f,Key nm->Key f->Rd w nm [f] rest:=by
 simp only[ym,yd,j9] at h;rcases h with rfl | rfl | rfl | rfl | rfl | rfl | rfl | rfl
 ·exact bc7 g
 ·exact ar2 g (.inl rfl)
 ·exact ar2 g (.inr rfl)
 ·exact bc8 g
 ·exact bc9 g
 ·exact bc6 g
 ·exact aF2 g
 ·exact bv4 g
theorem bK9  (g:Dgs xs)  (u:Upto A)  (kn:Key nm) (nn:nm∉nms A) (hw:w∈C8) (O:f0∈nms (chn A)):be7 A nm (fnA (I_1 (EV A (xs.map .int) w nm f0 f1))):=by obtain⟨rest,e,rd⟩:=bQ7 g hw;have t:=List.all_eq_true.mp aN1 w hw;simp only[zk,Zj,g_3,Zb] at t;obtain⟨⟨⟨⟨⟨t1,Y⟩,t3⟩,t4⟩,t5⟩,Z⟩:=t;refine⟨⟨w,nm,[f0],rest⟩,?_,rfl,aJ9 u kn nn O rd Z λ h=>by rw[Y] at h;cases h⟩;generalize xs.map D.int=X at *;refine b_2 (aH4 rfl t3) (b_2 (aH4 rfl t4) (b_2 (aH4 rfl t5) (b_2 (aH4 rfl Z) (b_2 (tfo rfl rfl Y) ?_))));simp[e,y_5]
theorem aU8  (g:Dgs xs)  (u:Upto A)  (kn:Key nm) (nn:nm∉nms A) (h0:f0∈nms (chn A)) (h1:f1∈nms (chn A)):be7 A nm (fnA (I_1 (EV A (xs.map .int) (sS "pair") nm f0 f1))):=by
 obtain⟨x,ex,hx⟩:=f_7 g.len g.dig 20 (by decide);have ex:a_5 [.lst (xs.map .int),.int 20]=some (.int x):=ex;obtain⟨v,ev,v0,_⟩:=g.at 5 (by decide) (by decide);obtain⟨O,hh,eh⟩:=k_7 D.str [sS "sum",sS "less",sS "left",sS "right"] (i:=v.fmod 4) (Qm _ (by decide)) (Q9 _ (by decide));have H:=List.all_eq_true.mp (show [sS "sum",sS "less",sS "left",sS "right"].all (λ w=>inD (.str w) [.str (sS "sum"),.str (sS "less"),.str (sS "left"),.str (sS "right")]&&(1 ≤ w.length&&decide (w.length ≤ 8)&&w.cps.toList.all λ c=>decide (97 ≤ c)&&decide (c<123)))=true by decide +kernel) O hh;rw[zk] at H;have hp:d_8 (.str O) HP=some (.bl true):=by
  have:d_8 (.str O) HP=some (.bl (inD (.str O) [.str (sS "sum"),.str (sS "less"),.str (sS "left"),.str (sS "right")])):=by kernel_rfl
  rw[this,H.1]
 obtain⟨Z,a0,rfl,c0⟩:=M_0 h0;obtain⟨Y,a1,rfl,c1⟩:=M_0 h1;have k0:=u.key (zn a0);have k1:=u.key (zn a1);have two:∀ {P:Rw->Prop},P Z->P Y->∀ q∈[Z,Y],P q:=λ p0 p1 q hq=>by
  rcases qw hq with z | z
  ·rw[z];exact p0
  ·rw[List.mem_singleton.mp z];exact p1
 refine⟨⟨sS "pair",nm,[Z.nm,Y.nm],[.int (x.natAbs:Int),.str O]⟩,?_,rfl,(λ nm fr kn v=>by
  rcases v with rfl | ⟨_,f,t,h1,rfl,kf,_⟩
  ·exact ai7 kn k0 k1 (by omega) (by omega) hp (d_9 H.2)
  ·cases h1;exact ai7 kn kf k1 (by omega) (by omega) hp (d_9 H.2)),kn,nn,bz5 (by kernel_rfl),λ f hf=>?_,qr rfl,ax1 u.nd nn (two a0 a1) rfl (qr rfl) (two c0 c1) (show ¬ (sS "pair"=sS "ask") by decide +kernel) (.inl (by kernel_rfl))⟩
 ·generalize xs.map D.int=X at *;refine b_2 (by kernel_rfl) (b_2 (by kernel_rfl) (d_5 (by kernel_rfl) ?_));have eh:atD [.str "sum",.str "less",.str "left",.str "right"] (v.fmod 4)=some (.str O):=eh;simp[ev,eh,ex]
 ·rcases qw hf with z | z
  ·rw[z];exact zn a0
  ·rw[List.mem_singleton.mp z];exact zn a1
theorem bp7  (g:Dgs xs)  (u:Upto A)  (kn:Key nm) (nn:nm∉nms A) (hf:fol A≠[]):be7 A nm (fnA (I_1 (EV A (xs.map .int) (sS "ask") nm f0 f1))):=by
 obtain⟨v,ev,v0,_⟩:=g.at 1 (by decide) (by decide);have lp:=List.length_pos_iff.mpr hf;have aa:(fol A).length<=24:=zo (jt ..) u.len;have fm:v.fmod ((fol A).length:Int)=v % ((fol A).length:Int):=c_2 (by omega);obtain⟨f,q,Y⟩:=k_7 Rw.d (fol A) (j1 _ (by omega)) (jd _ (by omega));have q:=List.mem_filter.mp q;have O:=u.key (zn q.1);obtain⟨Q,ok,sub⟩:=u.row q.1;obtain⟨gn,ac,fw,e1,e2⟩:=ok.fo q.2;obtain⟨rg,hg,rfl⟩:=K_0 (sub gn (ok.fr gn (by rw[e1];exact qg)));obtain⟨rest,er,Z⟩:=aG2 g u.nd hg e1 e2 (zo u.len (by decide));have rd:∀ nm f,Key nm → Key f → Rd (sS "ask") nm [f] rest:=λ nm f kn O=>by
  rcases Z with rfl | ⟨l,h,rfl,t,_⟩
  ·exact aR3 kn O
  ·exact aR2 kn O t
 refine⟨⟨sS "ask",nm,[f.nm],rest⟩,?_,rfl,gn1 O rd,kn,nn,bz5 (by kernel_rfl),λ x hx=>by rw[List.mem_singleton.mp hx];exact zn q.1,qr rfl,bj1 u.nd nn q.1 rfl rfl q.2 ?_⟩
 ·have i1:=be9 f;have ln:(rds (fol A)).length=(fol A).length:=qy ..;have lz:(fol A).length<=sizeLine:=a_1 (by omega);have dm:h_4 ((fol A).length:Int)=true:=e_4 (by omega) (by omega);have nz:=hf;refine b_2 (by kernel_rfl) (b_2 (by kernel_rfl) (b_2 (by kernel_rfl) (d_5 (by kernel_rfl) ?_)));have Y:atD (rds (fol A)) (v % ((fol A).length:Int))=some f.d:=Y;simp only[EV];generalize rds (fol A)=S at *;generalize rds A=R at *;generalize sNm (chn A)=S4 at *;generalize sNm (prr A)=S6 at *;generalize hW:W18=WW at *;generalize xs.map D.int=X at *;generalize f.d=fd at *;simp[ev,ln,fm,nz,Y,i1,er]
 ·rcases Z with h | ⟨l,h,e,_,y2,y3,y4,y5⟩
  ·exact .inl h
  ·exact .inr ⟨l,h,e,aF8 u.nd hg y2 e1 e2 y3 y4 y5⟩
theorem G_3 (xs:List D) (n:Nat):r_0 xs none (some (n:Int))=xs.take n:=by unfold r_0;rw[Y_7];show (xs.drop 0).take (min n xs.length-0)=_;rw[List.drop_zero,Nat.sub_zero];exact List.take_eq_take_min.symm
theorem bk8  (h:F ρ=some (d,ρ)) (k:rtD (R (ρ.set i (.im d)))=x):rtD (b_7 (e_3 i F) R ρ)=x:=by simp[h,k]
theorem aU7  (g:Dgs xs)  (u:Upto A)  (kn:Key nm) (nn:nm∉nms A) (h2:2 ≤ (chn A).length):be7 A nm (fnA (I_1 (EV A (xs.map .int) (sS "pour") nm f0 f1))):=by
 obtain⟨v,ev,v0,_⟩:=g.at 3 (by decide) (by decide);have aa:(chn A).length<=24:=zo (jt ..) u.len;obtain⟨m,hm,m0,m7,mc⟩:∃ m:Int,(if ((chn A).length:Int)-1<7 then ((chn A).length:Int)-1 else 7)=m/\0<m/\m<=7/\m<=(chn A).length-1:=⟨_,rfl,by split <;> omega,by split <;> omega,by split <;> omega⟩;have fm:v.fmod m=v % m:=c_2 m0;have c0:=j1 v (show m≠0 by omega);have c1:=jd v m0;have dm:h_4 m=true:=e_4 (by omega) (by omega);have mz:¬ (m=0):=by omega
 obtain⟨n,hn⟩:∃ n:Nat,2+v % m=(n:Int):=⟨(2+v % m).toNat,by omega⟩;have sub:∀ q∈(chn A).reverse.take n,q∈A/\aL4 q.w=true:=λ q Z=>List.mem_filter.mp (List.mem_reverse.mp (Qv Z));have ln:((chn A).reverse.take n).length=n:=by rw[jg,List.length_reverse];omega
 have O:(nms ((chn A).reverse.take n)).Nodup:=by have s1:(nms ((chn A).reverse.take n)).Sublist (nms (chn A).reverse):=(List.take_sublist ..).map _;have s2:(nms (chn A)).Sublist (nms A):=List.filter_sublist.map _;refine List.Nodup.sublist s1 ?_;rw[aU2];exact List.pairwise_reverse.mpr ((List.Nodup.sublist s2 u.nd).imp λ h=>yk h)
 have ct:=G_3 (sNm (chn A)).reverse n;have ce:(sNm (chn A)).reverse.take n=(nms ((chn A).reverse.take n)).map .str:=by rw[<- Jh,<- Ja,zm];rfl
 rw[ce] at ct;have lS:(sNm (chn A)).length=(chn A).length:=qy ..;have lz:(chn A).length<=sizeLine:=a_1 (by omega);generalize hR:(chn A).reverse.take n=Rs at *;have rd:∀ nm fr,Key nm → FrV (nms Rs) fr → Rd (sS "pour") nm fr []:=λ nm fr kn v=>by
  have kk:∀ k∈nms Rs,Key k:=λ k hk=>by
   obtain⟨r,hr,rfl⟩:=K_0 hk;exact u.key (zn (sub r hr).1)
  have Y:(nms Rs).length=n:=by rw[qy];exact ln
  generalize nms Rs=N at *
  match N,kk,Y,O,v with
  |[],_,Y,_,_=>simp at Y;omega
  |[a],_,Y,_,_=>simp at Y;omega
  |a::b::fs,kk,Y,O,v =>
   rcases v with rfl | ⟨_,f,t,h1,rfl,kf,nf⟩
   ·exact ai6 kn kk (by simp at Y;omega) O
   ·cases h1;exact ai6 kn (λ k hk=>by
     rcases qw hk with z | z
     ·rw[z];exact kf
     ·exact kk k (qh _ z)) (by simp at Y;omega) (List.nodup_cons.mpr ⟨nf,(List.nodup_cons.mp O).2⟩)
 refine⟨⟨sS "pour",nm,nms Rs,[]⟩,?_,rfl,rd,kn,nn,bz5 (by kernel_rfl),λ f hf=>?_,by rw[qy];omega,ax1 u.nd nn (λ q Z=>(sub q Z).1) rfl (by omega) (λ q Z=>(sub q Z).2) (show ¬ (sS "pour"=sS "ask") by decide +kernel) (.inl (by kernel_rfl))⟩
 ·refine b_2 (by kernel_rfl) (d_5 (by kernel_rfl) ?_);show _=some (D.tup [.str (sS "pour"),.str nm,.tup ((nms Rs).map .str),.tup []]);simp only[EV];generalize (nms Rs).map D.str=NR at *;generalize sNm (chn A)=S4 at *;generalize rds (fol A)=S5 at *;generalize rds A=R at *;generalize sNm (prr A)=S6 at *;generalize hW:W18=WW at *;generalize xs.map D.int=X at *;simp[ev,lS,hm,fm,mz,hn,ct]
 ·obtain⟨r,hr,rfl⟩:=K_0 hf;exact zn (sub r hr).1
theorem bN3  (h:w∈FOs) (n:¬ (w=sS "gaps")):au5 w=true:=by have t:=List.all_eq_true.mp (show FOs.all (λ w=>au5 w||eqD (.str w) (.str (sS "gaps")))=true by decide +kernel) w h;rw[Bool.or_eq_true,g_3,yw] at t;exact t.resolve_right n
theorem bI2  (h:bL7 w=true):w=sS "pair":=by unfold bL7 at h;rw[g_3,yw] at h;exact h
theorem aL7:FOs.all (λ w=>an6 w&&!(eqD (.str w) (.str (sS "in")))&&!(eqD (.str w) (.str (sS "pour")))&&!(eqD (.str w) (.str (sS "pair")))&&!(eqD (.str w) (.str (sS "ask"))))=true:=by decide +kernel
def e12:FE:=(eOr (e2 dEq (eV 3) (zR "gaps")) (eOr (e2 dEq (eV 6) (j_2 aN)) (e2 dEq (e2 f_4 (e2 a_9 (eV 1) (zI 4)) (zI 2)) (zI 0))))
theorem aM7 (a b:Int):dEq (.int a) (.int b)=some (.bl (decide (a=b))):=by simp
theorem aU9  (g:Dgs xs)  (u:Upto A)  (kn:Key nm) (nn:nm∉nms A) (hw:w∈FOs) (hf:f0∈nms (chn A)):be7 A nm (fnA (I_1 (EV A (xs.map .int) w nm f0 f1))):=by
 have t:=List.all_eq_true.mp aL7 w hw;simp only[zk,Zj,g_3,Zb] at t;obtain⟨⟨⟨⟨t2,t3⟩,t4⟩,t5⟩,t6⟩:=t;obtain⟨v,ev,v0,_⟩:=g.at 4 (by decide) (by decide);have e6:=X_8 (l:=sNm (prr A)) (by
  have:=bb8 (nms (prr A));rw[zm] at this;exact this)
 have l6:(sNm (prr A)).length+2<=sizeLine:=a_1 (by
  have a:(prr A).length<=A.length:=jt ..;have:=u.len;rw[qy];omega)
 have S:∃ (O:Bool) (f:Str),e12 (EV A (xs.map .int) w nm f0 f1)=some (.bl O,EV A (xs.map .int) w nm f0 f1) ∧ (O=true → f=f0) ∧ (O=false → ¬ (w=sS "gaps") ∧ ∃ p∈A,p.nm=f ∧ p.w=sS "pair") ∧ atD (if O=true then [.str f0,.str f1] else sNm (prr A)++[.str f0,.str f1]) 0=some (.str f):=by
  have E:∃ O:Bool,e12 (EV A (xs.map .int) w nm f0 f1)=some (.bl O,EV A (xs.map .int) w nm f0 f1) ∧ (O=false → ¬ (w=sS "gaps") ∧ (sNm (prr A)).isEmpty=false):=by
   unfold e12;simp only[EV];generalize sNm (prr A)=S6 at *;generalize sNm (chn A)=S4 at *;generalize rds (fol A)=S5 at *;generalize rds A=R at *;generalize hW:W18=WW at *;generalize xs.map D.int=X at *;by_cases q1:w=sS "gaps"
   ·exact⟨true,by simp[q1],λ h=>by cases h⟩
   ·cases q2:S6.isEmpty with
    |true =>
     rw[q2] at e6;exact⟨true,by simp[-au9,x_6,q1,e6],λ h=>by cases h⟩
    |false =>
     rw[q2] at e6;refine⟨decide (v.fmod 2=0),?_,λ _=>⟨q1,rfl⟩⟩;simp[-au9,x_6,aM7,q1,e6,ev]
  obtain⟨O,e,h⟩:=E;cases O with
  |true=>exact⟨true,f0,e,λ _=>rfl,(λ z=>by cases z),rfl⟩
  |false =>
   obtain⟨n,q⟩:=h rfl;generalize hP:prr A=P at *;cases P with
   |nil=>cases q
   |cons p r =>
    have m:=List.mem_filter.mp (hP▸qg:p∈prr A);exact⟨false,p.nm,e,(λ z=>by cases z),λ _=>⟨n,p,m.1,rfl,bI2 m.2⟩,S_0 _ _⟩
 obtain⟨O,f,e,s1,s2,Z⟩:=S;have FK:f∈nms A:=by
  cases O with
  |true =>
   rw[s1 rfl];obtain⟨q,hq,rfl,_⟩:=M_0 hf;exact zn hq
  |false =>
   obtain⟨p,hp,rfl,_⟩:=(s2 rfl).2;exact zn hp
 have kf:=u.key FK;obtain⟨Y,fw,el,rd,_,ns⟩:=aY8 g O (by
  simp only[ym,yd,j9] at hw;exact hw)
 refine⟨⟨w,nm,[f],Y++[.str fw]⟩,?_,rfl,?_⟩
 ·refine b_2 (aH4 rfl t3) (b_2 (aH4 rfl t4) (b_2 (aH4 rfl t5) (b_2 (aH4 rfl t6) (d_5 (tfo rfl rfl t2) (bk8 e ?_)))));simp only[EV];generalize Y++[D.str fw]=PP at *;generalize sNm (prr A)=S6 at *;generalize sNm (chn A)=S4 at *;generalize rds (fol A)=S5 at *;generalize rds A=R at *;generalize hW:W18=WW at *;generalize xs.map D.int=X at *;have a0:∀ a b:D,atD [a,b] 0=some a:=λ _ _=>rfl;have a1:∀ a b:D,atD [a,b] 1=some b:=λ _ _=>rfl;cases O with
  |true =>
   have Z:atD [.str f0,.str f1] 0=some (.str f):=Z;simp[l6,a1,Z,el]
  |false =>
   have Z:atD (S6++[.str f0,.str f1]) 0=some (.str f):=Z;generalize hL:S6++[D.str f0,.str f1]=LL at *;simp[l6,hL,a0,Z,el]
 ·cases O with
  |true =>
   rw[s1 rfl] at kf ⊢;exact aJ9 u kn nn hf rd t6 λ _=>⟨Y,fw,rfl⟩
  |false =>
   obtain⟨n,p,hp,rfl,pw⟩:=s2 rfl;exact⟨gn1 kf rd,kn,nn,λ _=>⟨_,Y,fw,rfl,rfl⟩,λ x hx=>by rw[List.mem_singleton.mp hx];exact FK,qr rfl,bE6 u.nd nn hp rfl (bN3 hw n) pw rfl (ns rfl)⟩
theorem ag4:∀ w∈Wds,w=sS "in" ∨ w=sS "pour" ∨ w=sS "pair" ∨ w=sS "ask" ∨ w∈FOs ∨ w∈C8:=by decide +kernel
theorem ay8  (g:Dgs xs)  (u:Upto A) (hl:A.length<24):∃ r:Rw,f_9 [.lst (rds A),.lst (xs.map .int)]=some r.d/\Upto (A++[r]):=by
 obtain⟨wd,nm,f0,f1,p,e⟩:=aQ5 g hl (by
  have:=x_5 (l:=rds (fol A)) λ d hd=>by
   obtain⟨r,O,rfl⟩:=List.mem_map.mp hd;obtain⟨Q,ok,_⟩:=u.row (List.mem_filter.mp O).1;exact (I_5 ok.rd.pl).2.2
  show p_2 _+1<=30;omega)
 have q:=bp2 u hl p.hd;have M:be7 A nm (fnA (I_1 (EV A (xs.map .int) wd nm f0 f1))):=by
  rcases ag4 wd p.mem with rfl | rfl | rfl | rfl | h | h
  ·exact bK8 g u p.key q
  ·exact aU7 g u p.key q (p.pour rfl)
  ·have:=p.ch (by decide +kernel);exact aU8 g u p.key q this.2.1 this.2.2
  ·exact bp7 g u p.key q (p.ask rfl)
  ·have t:=List.all_eq_true.mp aL7 wd h;simp only[zk,Zj,g_3,Zb] at t;exact aU9 g u p.key q h (p.ch t.1.1.1.2).2.1
  ·have t:=List.all_eq_true.mp aN1 wd h;simp only[zk,Zj,g_3,Zb] at t;exact bK9 g u p.key q h (p.ch t.1.1.1.2).2.1
 obtain⟨r,er,rfl,ok⟩:=M;refine⟨r,e.trans er,L_1 u.good ok,?_,by rw[zh];show A.length+1<=24;omega⟩;rw[P_7,yf,u.hd,zh];show _++[hd1 r.nm]=hds.take (A.length+1);rw[List.take_add_one,p.hd];rfl
def txR (r:Rw):Str:=match c_8 [r.d] with
 |some (.str t)=>t
 |_=>⟨#[]⟩
theorem O_7  (h:Rd r.w r.nm r.fr r.rs):c_8 [r.d]=some (.str (txR r))/\b_4 [.str (txR r)]=some r.d/\10∉(txR r).cps.toList/\(txR r).length<=400:=by
 obtain⟨t,e,h2⟩:=h.txt;have:txR r=t:=by unfold txR;rw[e]
 rw[this];exact⟨e,h2⟩
theorem aR8  (q:r.nm∉nms P):at9 r.nm r.d (kds P)=kds (P++[r]):=by unfold at9;rw[Q_5 q];exact (yf (l₂:=[r])).symm
theorem bs0  (h1:owD ρ[i]?=some (false,K)) (h2:ρ.all ndS=true) (Y:ρ.set i (hld K)=q) (O:T q=some (b,q)):tHold i T ρ=some (b,ρ):=by rw[bi7,h1,aw9,if_pos ⟨rfl,h2⟩,Y,O];exact aw8 _ _ _
theorem aY1  (h1:aJ8 ρ[i]?=some ds) (h2:r_8 i ρ=true) (Z:ρ.set i (.im (.lst ds))=q) (Y:F q=some (d,q)) (O:nl d=true):eHoldL i F ρ=some (d,ρ):=by rw[bb7,h1,ap9,if_pos h2,Z,Y];exact L_5 _ _ _ O
abbrev Kv:=List (Str×D)
abbrev dcK (k:Kv):D:=.dct (k.map (·.1)) (k.map (·.2))
abbrev tst:FT:=tOr (tB (e2 dGe (eV 2) (zI 24))) (tOr (tB (e2 dIs (eV 4) (eC .non))) (tNot (tV (eF b_0 (aC (eV 4) (aC (eV 1) aN))))))
def bA2:D->Bool
 |.tup _=>true
 |_=>false
def p_8 (d:D) (k:Kv):Option Bool:=if bA2 d then (match b_0 [d,dcK k] with
 |some (.bl b)=>some b
 |_=>none) else (match d with
 |.non=>some false
 |_=>none)
theorem ai1  (h:p_8 d k=some b):(d=.non/\b=false)\/((∃ l,d=.tup l)/\b_0 [d,dcK k]=some (.bl b)):=by
 unfold p_8 at h;cases d with
 |non=>cases h;exact .inl ⟨rfl,rfl⟩
 |tup l =>
  refine .inr ⟨⟨l,rfl⟩,?_⟩;rw[if_pos (show bA2 (.tup l)=true from rfl)] at h;split at h
  ·rename_i e;cases h;exact e
  ·cases h
 |_=>cases h
theorem aH5 (T:D) {k:Kv} (hd:nds (k.map (·.2))=true) {n:Nat}{t:Str}{d:D}{b:Bool} (h:p_8 d k=some b) :
  tHold 1 tst [.im T,.ow false (.dic k),.im (.int n),.im (.str t),.im d]=some (decide (24<=n)||!b,[.im T,.ow false (.dic k),.im (.int n),.im (.str t),.im d]):=by
 have hh:hld k=.im (dcK k):=rfl;have Z:[Sl.im T,.ow false (.dic k),.im (.int n),.im (.str t),.im d].all ndS=true:=by show (true&&(nds (k.map (·.2))&&(true&&(true&&(true&&true)))))=true;rw[hd];rfl
 generalize O:dcK k=DA at *;refine bs0 rfl Z (by rw[hh,List.set_cons_succ,List.set_cons_zero]) ?_;by_cases c:24<=n
 ·have q:((n:Int)>=24):=by omega
  simp[c,q]
 ·have q:¬ ((n:Int)>=24):=by omega
  rcases ai1 h with ⟨rfl,rfl⟩ | ⟨⟨l,rfl⟩,st⟩
  ·simp[c,q]
  ·rw[O] at st;have Y:dIs (.tup l) .non=some (.bl false):=rfl;simp[c,q,Y,st]
def nmR:D->Option Str
 |.tup [_,.str x,_,_]=>some x
 |_=>none
theorem bK1  (h:nmR d=some x):a_9 d (.int 1)=some (.str x):=by
 unfold nmR at h;split at h
 ·cases h;rfl
 ·cases h
section
variable (T:D) {k:Kv} (hd:nds (k.map (·.2))=true) (hl:k.length<100) {n:Nat}{t:Str} (s4:Sl) {d:D} (er:b_4 [.str t]=some d)
include hd hl er
theorem bL0  (q:p_8 d k=some b) (O:(decide (24<=n)||!b)=true) :
  c_1 [.im T,.ow false (.dic k),.im (.int n),.im (.str t),s4]=some (.ex (Str.ofString "NoText",some (Str.ofString "at",.int n))):=by
 have z:=aH5 T hd (n:=n) (t:=t) q;rw[O] at z;simp only[c_1];generalize tHold 1 tst=TT at *;simp[er,z,a_7]
theorem bp9  (Y:p_8 d k=some true) (O:n<24) (Z:nmR d=some x) :
  c_1 [.im T,.ow false (.dic k),.im (.int n),.im (.str t),s4]=some (.ok (.nx [.im T,.ow false (.dic (at9 x d k)),.im (.int n),.im (.str t),.im d])) /\
  g_0 [.im T,.ow false (.dic k),.im (.int n),.im (.str t),s4]=some (.nx [.im T,.ow false (.dic (at9 x d k)),.im (.int n),.im (.str t),.im d]):=by
 have z:=aH5 T hd (n:=n) (t:=t) Y;rw[show (decide (24<=n)||!true)=false by simp;omega] at z;have i1:=bK1 Z;generalize q:at9 x d k=KN at *;simp only[c_1,g_0];generalize tHold 1 tst=TT at *;constructor
 ·simp[er,z,i1,hl,q,a_7]
 ·simp[er,z,i1,hl,q]
end
theorem bj0 {r:Rw} (hl:r.fr.length<=1000) (h:r.nm∈nms A\/∃ f∈r.fr,f∉nms A):b_0 [r.d,dcA A]=some (.bl false):=by
 have q:∀ k:Str,ar1 (.str k) (dcA A)=some (.bl (decide (k∈nms A))):=λ k=>by
  rw[bc0];have:(j_8 k (kds A)).isSome=decide (k∈nms A):=by rw[j8,getK_in,decide_eq_true_iff,zm];rfl
  rw[this]
 have c1:cGo tYes (e2 ar1 (eV 0) (eV 1)) [.im (dcA A)] (r.fr.map D.str)=some (r.fr.map λ f=>.bl (decide (f∈nms A))):=x_9 r.fr λ f _=>by
  have:=q f;generalize dcA A=O at *;simp[this]
 have Y:=aN8 (λ f=>decide (f∈nms A)) r.fr;have lz:(r.fr.map D.str).length<=sizeLine:=a_1 (by simpa using hl);have k1:=q r.nm;have i1:=be9 r;have i2:=bk5 r;have h:decide (r.nm∈nms A)=true\/(r.fr.all λ f=>decide (f∈nms A))=false:=by
  rcases h with h | ⟨f,h1,h2⟩
  ·exact .inl (yc h)
  ·exact .inr (List.all_eq_false.mpr ⟨f,h1,by simpa using h2⟩)
 generalize (r.fr.map λ f=>D.bl (decide (f∈nms A)))=B at *;generalize r.fr.map D.str=F at *;generalize r.d=rd at *;generalize dcA A=O at *;generalize decide (r.nm∈nms A)=Z at *;generalize (r.fr.all λ f=>decide (f∈nms A))=b2 at *;rcases h with rfl | rfl
 ·exact d_5 (by simp[i1,k1]) (by kernel_rfl)
 ·cases Z
  ·exact d_5 (by simp[i1,k1,i2,c1,Y,lz]) (by kernel_rfl)
  ·exact d_5 (by simp[i1,k1]) (by kernel_rfl)
theorem cj1 (r:Rw):nmR r.d=some r.nm:=rfl
theorem D_2 (T:D):∀ (A P:List Rw) (Z s3 s4:Sl),Z_7 P A->P.length+A.length<=24->(∀ r∈P,nd r.d=true)->∃ Y O aa,(∀ rest,xGo (gT [2,3]) c_1 (x_2 P.length (A.map λ r=>.str (txR r))++rest) [.im T,.ow false (.dic (kds P)),Z,s3,s4]=xGo (gT [2,3]) c_1 rest [.im T,.ow false (.dic (kds (P++A))),Y,O,aa]) /\
  fGo (gT [2,3]) g_0 (x_2 P.length (A.map λ r=>.str (txR r))) [.im T,.ow false (.dic (kds P)),Z,s3,s4]=some (.nx [.im T,.ow false (.dic (kds (P++A))),Y,O,aa])
 |[],P,Z,s3,s4,_,_,_=>⟨Z,s3,s4,λ _=>by rw[yn];rfl,by rw[yn];rfl⟩
 |r::q,P,Z,s3,s4,g,hl,hp=>by
  have ac:P.length+(q.length+1)<=24:=hl;have x:=O_7 g.1.rd;have hn:nds ((kds P).map (·.2))=true:=(al4 λ d hd=>by
   rw[zm] at hd;obtain⟨p,h,rfl⟩:=List.mem_map.mp hd;exact hp p h)
  have st:p_8 r.d (kds P)=some true:=by have:=g.1.st;unfold p_8;rw[if_pos (show bA2 r.d=true from rfl)];rw[this]
  obtain⟨t,t'⟩:=bp9 T hn (by rw[an3];omega) (n:=P.length) s4 x.2.1 st (by omega) (cj1 r);rw[aR8 g.1.nn] at t t';obtain⟨a,b,c,e,e'⟩:=D_2 T q (P++[r]) (.im (.int P.length)) (.im (.str (txR r))) (.im r.d) g.2 (by rw[zh];show P.length+1+_<=24;omega) (λ p h=>by
   rcases qx h with h | h
   ·exact hp p h
   ·rw[List.mem_singleton.mp h];exact (I_5 g.1.rd.pl).2.1)
  rw[pas] at e e';rw[zh] at e e';refine⟨a,b,c,λ rest=>?_,?_⟩
  ·show xGo _ _ (.tup [.int (P.length:Int),.str (txR r)]::(x_2 (P.length+1) (q.map _)++rest)) _=_;rw[C_2];show bnd (some [.im T,.ow false (.dic (kds P)),.im (.int (P.length:Int)),.im (.str (txR r)),s4]) _=_;rw[a_7,t,a_7];exact e rest
  ·show fGo _ _ (.tup [.int (P.length:Int),.str (txR r)]::x_2 (P.length+1) (q.map _)) _=_;rw[aD8];show fGa _ _ _ (some [.im T,.ow false (.dic (kds P)),.im (.int (P.length:Int)),.im (.str (txR r)),s4])=_;rw[aE0,t',aD9];exact e'
theorem aw1  (g:Z_7 [] A) (Y:A≠[]) (hl:A.length<=24):g_4 [.str (Str.join lf (A.map txR))]=some (.lst (rds A)):=by
 have sp:=T_7 (ss:=A.map txR) (by simpa using Y) λ s q=>by
  obtain⟨r,O,rfl⟩:=List.mem_map.mp q;obtain⟨Q,ok,_⟩:=j_7 g O;exact (O_7 ok.rd).2.2.1
 have Z:(Txt.split (Str.join lf (A.map txR)) lf).map D.str=A.map λ r=>.str (txR r):=by rw[sp,zm];rfl
 have jl:(Str.join lf (A.map txR)).length<=100000:=by
  have:=Q_2 (c:=10) (A.map txR) λ s q=>by
   obtain⟨r,O,rfl⟩:=List.mem_map.mp q;obtain⟨Q,ok,_⟩:=j_7 g O;exact (O_7 ok.rd).2.2.2
  rw[aV5];rw[qy] at this;omega
 have ln:¬ (lf.length=0):=by decide +kernel
 generalize Str.join lf (A.map txR)=J at *;obtain⟨a,b,c,_,e⟩:=D_2 (.str J) A [] .no .no .no g (by simpa using hl) (λ r h=>by cases h);have e:fGo (gT [2,3]) g_0 (x_2 0 (A.map λ r=>.str (txR r))) [.im (.str J),.ow false (.dic []),.no,.no,.no]=some (.nx [.im (.str J),.ow false (.dic (kds A)),a,b,c]):=e;have kv:(kds A).map (·.2)=rds A:=by rw[zm];rfl
 have lk:(kds A).length<=1000:=by rw[qy];omega
 generalize (A.map λ r=>D.str (txR r))=TS at *;generalize rds A=R at *;generalize kds A=K at *;simp[g_4,s_8,List.replicate,ln,jl,Z,e,lk,kv]
theorem ap6:∀ (xs ys:List D) (n:Nat),x_2 n (xs++ys)=x_2 n xs++x_2 (n+xs.length) ys
 |[],ys,n=>rfl
 |x::r,ys,n=>by
  show .tup [.int n,x]::x_2 (n+1) (r++ys)=.tup [.int n,x]::(x_2 (n+1) r++x_2 (n+(r.length+1)) ys);rw[ap6 r ys,show n+1+r.length=n+(r.length+1) by omega]
abbrev Tx (s:Str):Prop:=10∉s.cps.toList/\s.length<=500
theorem bK7  (O:ts≠[]) (h1:ts.length<=30) (h2:∀ s∈ts,Tx s):f_1 [.str (Str.join lf ts)]=bnd (bnd (xGo (gT [2,3]) c_1 (x_2 0 (ts.map D.str)) [.im (.str (Str.join lf ts)),.ow false (.dic []),.no,.no,.no]) (nxX (rS (d_6 (eFr (ab9 1)))))) bH5:=by
 have sp:=T_7 O λ s q=>(h2 s q).1;have jl:(Str.join lf ts).length<=100000:=by
  have:=Q_2 (c:=10) ts λ s q=>(h2 s q).2;rw[aV5];omega
 have Y:(Txt.split (Str.join lf ts) lf).map D.str=ts.map D.str:=by rw[sp]
 have Z:¬ (lf.length=0):=by decide +kernel
 generalize Str.join lf ts=J at *;generalize ts.map D.str=TS at *;generalize hx:xGo (gT [2,3]) c_1=GX at *;simp[f_1,q_8,fnX,List.replicate,a_7,az5,ai9,ai8,Z,jl,Y,hx]
theorem aI5  (g:Z_7 [] A) (hl:A.length<24)  (ht:Tx t) (hu:∀ s∈us,Tx s) (ul:A.length+us.length<=24)  (er:b_4 [.str t]=some d) (hd:d=.non\/∃ r:Rw,d=r.d/\b_0 [r.d,dcA A]=some (.bl false)) :
  f_0 [.str (Str.join lf (A.map txR++t::us)),.int A.length]=some (.bl true):=by
 have O:∀ s∈A.map txR++t::us,Tx s:=λ s hs=>by
  rcases qx hs with q | q
  ·obtain⟨r,Y,rfl⟩:=List.mem_map.mp q;obtain⟨Q,ok,_⟩:=j_7 g Y;have:=(O_7 ok.rd).2.2;exact⟨this.1,by omega⟩
  ·rcases qw q with q | q
   ·rw[q];exact ht
   ·exact hu s q
 have Z:=bK7 (by simp) (by simp;omega) O;have nA:∀ r∈A,nd r.d=true:=λ r Y=>by
  obtain⟨Q,ok,_⟩:=j_7 g Y;exact (I_5 ok.rd.pl).2.1
 have hn:nds ((kds A).map (·.2))=true:=al4 λ d hd=>by
  rw[zm] at hd;obtain⟨p,h,rfl⟩:=List.mem_map.mp hd;exact nA p h
 have rr:p_8 d (kds A)=some false:=by
  rcases hd with rfl | ⟨r,rfl,st⟩
  ·rfl
  ·unfold p_8;rw[if_pos (show bA2 r.d=true from rfl)];rw[st]
 generalize Str.join lf (A.map txR++t::us)=J at *;obtain⟨a,b,c,e,_⟩:=D_2 (.str J) A [] .no .no .no g (by simp;omega) (λ r h=>by cases h);have e:∀ rest,xGo (gT [2,3]) c_1 (x_2 0 (A.map λ r=>.str (txR r))++rest) [.im (.str J),.ow false (.dic []),.no,.no,.no]=xGo (gT [2,3]) c_1 rest [.im (.str J),.ow false (.dic (kds A)),a,b,c]:=e;have z:=bL0 (.str J) hn (by rw[an3];omega) (n:=A.length) c er rr (by simp);show bnd (f_1 _) (bH6 _)=_;have tm:(A.map txR).map D.str=A.map λ r=>.str (txR r):=by rw[zm];rfl
 rw[Z,yf,ap6,tm,e];have la:0+(A.map λ r=>D.str (txR r)).length=A.length:=by simp
 rw[la];show bnd (bnd (bnd (xGo _ _ (.tup [.int (A.length:Int),.str t]::x_2 (A.length+1) (us.map D.str)) _) _) _) _=_;rw[C_2];show bnd (bnd (bnd (bnd (some [.im (.str J),.ow false (.dic (kds A)),.im (.int (A.length:Int)),.im (.str t),c]) _) _) _) _=_;rw[a_7,z,a_7];show (if Str.ofString "NoText"=Str.ofString "NoText" ∧ Str.ofString "at"=Str.ofString "at" then some (D.bl (decide ((A.length:Int)=A.length))) else none)=_;rw[if_pos ⟨rfl,rfl⟩,yc rfl]
abbrev jl (ws:List Str):List Nat:=(Str.join blk ws).cps.toList
theorem u_3:∀ {A B:List Str},A≠[]->B≠[]->jl (A++B)=jl A++32::jl B
 |[],_,h,_=>absurd rfl h
 |[x],y::r,_,_=>by unfold jl;rw[M_5];exact h_0 32 x y r
 |[x],[],_,h=>absurd rfl h
 |x::x2::r,B,_,h=>by
  have q:=u_3 (A:=x2::r) (by simp) h;unfold jl at q ⊢;rw[M_5] at q ⊢;rw[jh,jh,h_0,h_0,<- jh,q,jx];rfl
theorem ck3 (x:Str):jl [x]=x.cps.toList:=rfl
theorem bq9  (h:B≠[]):jl (x::B)=x.cps.toList++32::jl B:=u_3 (A:=[x]) (by simp) h
theorem Z_4:∀ {ws:List Str},(∀ s∈ws,32∉s.cps.toList)->∀ {i:Nat},(jl ws)[i]?=some 32->∃ A B,ws=A++B/\A≠[]/\B≠[]/\(jl ws).take i=jl A/\(jl ws).drop i=32::jl B
 |[],_,i,e=>by
  rw[show jl []=[] by decide +kernel] at e;cases e
 |[x],h,i,e=>absurd (Qw e) (h x qg)
 |x::y::r,h,i,e=>by
  have Y:=bq9 (x:=x) (B:=y::r) (by simp);rw[Y] at e ⊢;have hx:=h x qg;by_cases c:i<x.cps.toList.length
  ·rw[yu c] at e;exact absurd (Qw e) hx
  ·obtain⟨j,rfl⟩:∃ j,i=x.cps.toList.length+j:=⟨i-x.cps.toList.length,by omega⟩;rw[ja (by omega),show x.cps.toList.length+j-x.cps.toList.length=j by omega] at e;have O:(x.cps.toList++32::jl (y::r)).take (x.cps.toList.length+j)=x.cps.toList++(32::jl (y::r)).take j:=List.take_length_add_append ..;have Z:(x.cps.toList++32::jl (y::r)).drop (x.cps.toList.length+j)=(32::jl (y::r)).drop j:=List.drop_length_add_append ..;rw[O,Z];cases j with
   |zero=>exact⟨[x],y::r,rfl,by simp,by simp,by rw[ck3];simp,rfl⟩
   |succ j =>
    obtain⟨A,B,e1,e2,e3,e4,q⟩:=Z_4 (λ s hs=>h s (qh _ hs)) (show (jl (y::r))[j]?=some 32 from e);refine⟨x::A,B,by rw[e1];rfl,by simp,e3,?_,q⟩;show x.cps.toList++32::(jl (y::r)).take j=_;rw[e4,bq9 e2]
theorem bj6 {i:Nat} (h:i<=t.length):(Txt.slice t none (some (i:Int))).cps.toList=t.cps.toList.take i:=by have e:=beq_iff_eq.mp (Jd (x:=t) (n:=(i:Int)) (by omega) rfl);rw[e,if_neg (by omega)];rfl
theorem bj8 {t:Str} (h:i<=t.length):(Txt.slice t (some (i:Int)) none).cps.toList=t.cps.toList.drop i:=by rw[PyProof.Rows.slice_from_eq (by omega) (by omega) rfl];refine Zi ?_;rw[yr,<- c_5];omega
theorem aK3:(Str.ofString "").cps.toList=[]:=by decide +kernel
theorem bd8:blk.cps.toList=[32]:=by decide +kernel
theorem aa6  (O:t=Str.join blk ws) (Y:∀ s∈ws,32∉s.cps.toList) {i:Nat} (e:t.cps.toList[i]?=some 32):∃ A B,ws=A++B ∧ A≠[] ∧ Txt.slice t none (some (i:Int))++blk++Txt.slice t (some (i:Int)) none=Str.join blk (A++Str.ofString ""::B):=by
 subst O;obtain⟨A,B,e1,e2,e3,e4,q⟩:=Z_4 Y e;have hi:i<=(Str.join blk ws).length:=by rw[c_5];exact Z2 (List.getElem?_eq_some_iff.mp e).1
 refine⟨A,B,e1,e2,r_2 ?_⟩;rw[h_8,h_8,bj6 hi,bj8 hi];show (jl ws).take i++_++(jl ws).drop i=jl _;rw[e4,q,bd8,u_3 e2 (by simp),bq9 e3,aK3];simp
theorem ax2  (h:ws≠[]):Str.join blk (ws++[b])=Str.join blk ws++(blk++b):=r_2 (by
 rw[h_8,h_8,bd8];exact u_3 h (by simp))
theorem aF0  (h:ws≠[]):Str.join blk (Str.ofString ""::ws)=blk++Str.join blk ws:=r_2 (by
 rw[h_8,bd8];show jl _=_;rw[bq9 h,aK3];rfl)
theorem bE8  (h1:Shw v xs) (h2:Shw v ys) (q:xs.length<=20) (O:ys.length<=20):xs=ys:=by have a:=h1 .non [] (by rw[Yv];omega);have b:=h2 .non [] (by rw[Yv];omega);rw[a] at b;simp only[Option.some.injEq,Res.nx.injEq,List.cons.injEq,Sl.ow.injEq,MO.lst.injEq,Q7,true_and,and_true] at b;exact o_5 b
theorem bT6:∀ {rest:List D}{xs ys:List Str},SH rest xs->SH rest ys->xs=ys:=λ {rest}=>by
 induction rest with
 |nil =>
  intro xs ys ⟨Z,e1,_,f1,_⟩ ⟨Y,e2,_,O,_⟩;rw[List.map_eq_nil_iff.mp e1.symm] at f1;rw[List.map_eq_nil_iff.mp e2.symm] at O;rw[f1,O]
 |cons v r ih =>
  intro xs ys ⟨Z,e1,s1,f1,l1⟩ ⟨Y,e2,s2,O,l2⟩;cases Z with
  |nil=>cases e1
  |cons a Z=>cases Y with
   |nil=>cases e2
   |cons b Y =>
    obtain⟨a1,a2⟩:=jc e1;obtain⟨b1,b2⟩:=jc e2;rw[Z9] at f1 O;have m1:a.2.length+(Z.flatMap (·.2)).length<=20:=by rw[f1,zh] at l1;exact l1
    have m2:b.2.length+(Y.flatMap (·.2)).length<=20:=by rw[O,zh] at l2;exact l2
    have z:=bE8 (v:=v) (by rw[a1];exact s1 a qg) (by rw[b1];exact s2 b qg) (by omega) (by omega);have i:=ih ⟨Z,a2,λ q h=>s1 q (qh _ h),rfl,by omega⟩ ⟨Y,b2,λ q h=>s2 q (qh _ h),rfl,by omega⟩;rw[f1,O,z,i]
theorem Rd.is  (R:Rd w nm fr rs)  (h:SH rs ys):b_4 [.str (Str.join blk (w::nm::(fr++ys)))]=some (ay9 w nm fr rs):=by obtain⟨ps,q,_,e,h',wd⟩:=R.sh;obtain⟨t,O,rd,_⟩:=R.txt;rw[O] at wd;rw[e,bT6 h' h] at wd;rw[<- D.str.inj (Yt wd)];exact rd
theorem bq4  (h:w.length<=100)  (hc:c∈w.cps.toList) (h1:c<97):d_7 [.str w]=some (.bl false):=by
 have q:w.length<=sizeLine:=a_1 (by omega);have g:=p_5 alpha w (by omega) (ρ:=[.im (.str w)]) (i:=0) rfl;have al:(w.cps.toList.all λ c=>inS (chS c) alpha)=false:=by rw[Ya];exact⟨c,hc,by rw[W_9 c (by omega)];simp;omega⟩
 rw[al] at g;generalize Z:eF z_8 (aC (eLC [] (eV 0) tYes (e2 d_8 (eV 0) (eC (.str alpha)))) aN)=GG at g;unfold d_7 G_8;rw[Z];by_cases O:(1:Int)<=(w.length:Int)
 ·by_cases Y:(w.length:Int)<=8
  ·simp[q,g,O,Y]
  ·simp[q,O,Y]
 ·simp[q,O]
abbrev Wt (s:Str):Prop:=32∉s.cps.toList/\10∉s.cps.toList/\s.length<=13
theorem I_0  (h:∀ s∈ws,Wt s) (hl:ws.length<=23):Tx (Str.join blk ws):=by
 have:=m_8 ws λ s q=>(h s q).2.2;exact⟨w_9 (by decide) ws λ s q=>(h s q).2.1,by omega⟩
theorem ad0  (h:∀ s∈ws,Wt s) (hl:ws.length ≤ 23):K_8 (Str.ofString " ") (ws.map D.str)=some (.str (Str.join blk ws)):=by
 have q:∀ l:List Str,(∀ s∈l,Wt s)->(l.map (·.length)).sum<=13*l.length:=λ l=>by
  induction l with
  |nil=>intro _;exact qj _
  |cons a r O =>
   intro h;have:=O λ s Y=>h s (qh _ Y);have:=(h a qg).2.2;simp only[qz,List.sum_cons,zj];omega
 refine F_1 blk ws ?_;have:=q ws h;have:blk.length=1:=by decide +kernel
 rw[this];omega
theorem v_5:∀ (n:Nat) (lo:Int),n_2 lo n=(List.range n).map λ k=>.int (lo+k)
 |0,_=>rfl
 |n+1,lo=>by
  rw[Yo,qz,zm];show .int lo::n_2 (lo+1) n=_;rw[v_5 n (lo+1),show lo+((0:Nat):Int)=lo by simp];congr 1;refine List.map_congr_left λ k _=>?_;congr 1;omega
theorem bd0 (c:Nat):(chS c=Str.ofString " ")↔c=32:=by
 constructor
 ·intro h;have:(chS c).cps.toList=[32]:=by rw[h];decide +kernel
  exact (jc this).1
 ·intro h;rw[h];decide +kernel
theorem sp0 (a b c:D):g_5 [a,b,c]=fnA (k_0 [.im a,.im b,.im c,.no,.no,.no,.no,.no,.no,.no,.no]):=by kernel_rfl
theorem q_3:∀ {A P B:List Rw},Z_7 P (A++B)->Z_7 P A/\Z_7 (P++A) B
 |[],P,B,h=>⟨trivial,by rw[yn];exact h⟩
 |a::q,P,B,h=>by
  have:=q_3 h.2;rw[pas] at this;exact⟨⟨h.1,this.1⟩,this.2⟩
def Bad (A:List Rw) (t:Str):Prop:=Tx t/\∃ d,b_4 [.str t]=some d/\(d=.non\/∃ r:Rw,d=r.d/\b_0 [r.d,dcA A]=some (.bl false))
theorem Bad.no  (h:Tx t) (e:b_4 [.str t]=some .non):Bad A t:=⟨h,_,e,.inl rfl⟩
theorem bw5 (A:List D) (x:D) (B:List D):atD (A++x::B) (A.length:Int)=some x:=by unfold atD dPl;rw[if_pos (by omega),if_pos (by simp;omega)];show (A++x::B)[((A.length:Nat):Int).toNat]?=_;rw[jp,ja (Nat.le_refl _),Nat.sub_self];rfl
theorem cb9 (A B:List D)  (h:n=A.length):r_0 (A++B) none (some n)=A:=by rw[h,G_3,List.take_left]
theorem bQ2 (A B:List D)  (h:n=A.length):r_0 (A++B) (some n) none=B:=by rw[h];exact q_6 A B
def isF:Option D->Bool
 |some (.bl b)=>!b
 |_=>false
theorem br2  (h:isF o=true):o=some (.bl false):=by
 unfold isF at h;split at h
 ·rename_i b;cases b
  ·rfl
  ·cases h
 ·cases h
def nok (b:Str):Bool:=isF (d_7 [.str b])&&decide (32∉b.cps.toList)&&decide (10∉b.cps.toList)&&decide (b.length<=13)
theorem bo9  (h:nok b=true):d_7 [.str b]=some (.bl false)/\Wt b:=by unfold nok at h;simp only[zk,yw] at h;exact⟨br2 h.1.1.1,h.1.1.2,h.1.2,h.2⟩
theorem aV4:[sS "-",sS "",sS "*x",sS "Q",sS "abcdefghi",sS "a1"].all nok=true:=by kernel_rfl
theorem q_0  (h:b∈[sS "-",sS "",sS "*x",sS "Q",sS "abcdefghi",sS "a1"]):d_7 [.str b]=some (.bl false) ∧ Wt b:=bo9 (List.all_eq_true.mp aV4 b h)
theorem aW4:[sS "",sS " ",sS "x",sS "in"].all (λ b=>(match b_4 [.str b] with | some .non=>true | _=>false)&&decide (10∉b.cps.toList)&&decide (b.length ≤ 500))=true:=by kernel_rfl
theorem aC1  (h:b∈[sS "",sS " ",sS "x",sS "in"]):Bad A b:=by
 have e:=List.all_eq_true.mp aW4 b h;simp only[zk,yw] at e;refine Bad.no ⟨e.1.2,e.2⟩ ?_;have:=e.1.1;split at this
 ·rename_i q;exact q
 ·cases this
theorem aY6:[sS "ins",sS "In",sS "",sS "sum",sS "askk"].all (λ b=>!(j_8 b forms).isSome&&decide (32∉b.cps.toList)&&decide (10∉b.cps.toList)&&decide (b.length ≤ 13))=true:=by kernel_rfl
theorem bN1  (h:b∈[sS "ins",sS "In",sS "",sS "sum",sS "askk"]):j_8 b forms=none ∧ Wt b:=by
 have e:=List.all_eq_true.mp aY6 b h;simp only[zk,yw] at e;refine⟨?_,e.1.1.2,e.1.2,e.2⟩;cases q:j_8 b forms with
 |none=>rfl
 |some d=>rw[q] at e;cases e.1.1.1
section
variable {A1 A2:List Rw}{r:Rw} (ok:RowOk A1 r) {ps:List (Str×Str)}{ys:List Str} (S:Shp r.w r.fr ps) (eps:ps.map (·.2)=r.fr++ys) (hsh:SH r.rs ys)
include ok S eps
theorem S_8:∀ s∈r.w::r.nm::(r.fr++ys),Wt s:=λ s Y=>by
 rcases qw Y with q | q
 ·rw[q];exact b_6 ok.rd.kw
 ·rcases qw q with q | q
  ·rw[q];exact b_6 ok.key
  ·rw[<- eps] at q;obtain⟨p,O,rfl⟩:=List.mem_map.mp q;exact (S.ft p O).2
theorem K_5:(r.fr++ys).length<=19:=by rw[<- eps,qy];exact S.n
theorem at3  (hb:d_7 [.str Y]=some (.bl false)) (wb:Wt Y)  (O:r.nm::(r.fr++ys)=A++B):Bad A1 (Str.join blk (r.w::(A++Y::B))):=by
 have ln:(A++B).length=(r.fr++ys).length+1:=by rw[<- O];rfl
 have:=K_5 ok S eps;refine Bad.no (I_0 (λ s hs=>?_) ?_) (aC9 S ok.rd.kw ok.key hb ⟨wb.1,wb.2.2⟩ (by rw[eps];exact O))
 ·have Z:=S_8 ok S eps;rw[O] at Z;rcases qw hs with q | q
  ·rw[q];exact Z _ qg
  ·rcases qx q with q | q
   ·exact Z s (qh _ (jf _ q))
   ·rcases qw q with q | q
    ·rw[q];exact wb
    ·exact Z s (qh _ (qo _ q))
 ·rw[zh] at ln;rw[zj,zh,zj];omega
theorem bv8  (hb:d_7 [.str O]=some (.bl false)) (Y:Wt O):Bad A1 (Str.join blk (r.w::O::(r.fr++ys))):=by
 have:=K_5 ok S eps;refine Bad.no (I_0 (λ s hs=>?_) (by simp only[zj];omega)) ?_
 ·have Z:=S_8 ok S eps;rcases qw hs with q | q
  ·rw[q];exact Z _ qg
  ·rcases qw q with q | q
   ·rw[q];exact Y
   ·exact Z s (qh _ (qh _ q))
 ·have:=U_4 S ok.rd.kw ok.key (by kernel_rfl) hb ⟨Y.1,Y.2.2⟩ rfl qg λ q hq=>by
   rcases qw hq with z | z
   ·exact .inl z
   ·exact .inr (.inr z)
  rw[qz,eps] at this;exact this
theorem bv9  (Z:r.fr=f::t) (hb:d_7 [.str O]=some (.bl false)) (wb:Wt O):Bad A1 (Str.join blk (r.w::r.nm::O::(t++ys))):=by
 have ln:=K_5 ok S eps;rw[Z,jh,zj] at ln;have Y:=S_8 ok S eps;rw[Z] at Y;refine Bad.no (I_0 (λ s hs=>?_) (by simp only[zj];omega)) ?_
 ·rcases qw hs with q | q
  ·rw[q];exact Y _ qg
  ·rcases qw q with q | q
   ·rw[q];exact Y _ (qh _ qg)
   ·rcases qw q with q | q
    ·rw[q];exact wb
    ·exact Y s (qh _ (qh _ (qh _ q)))
 ·obtain⟨fp,rr,e1,e2,e3⟩:=S.fr;rw[Z] at e2;cases fp with
  |nil=>cases e2
  |cons p fp =>
   obtain⟨z1,z2⟩:=jc e2;have es:(fp++rr).map (·.2)=t++ys:=by rw[e1,Z,jh,qz] at eps;exact (jc eps).2
   have:=U_4 S ok.rd.kw ok.key (P:=(Str.ofString "NAME",r.nm)::(p.1,O)::(fp++rr)) (e3 p qg) hb ⟨wb.1,wb.2.2⟩ (by rw[e1];rfl) (by simp) λ q hq=>by
    rcases qw hq with z | z
    ·exact .inr (.inl z)
    ·rcases qw z with z | z
     ·exact .inl z
     ·exact .inr (.inr (by rw[e1];exact qh _ z))
   rw[qz,qz,es] at this;exact this
include hsh
theorem at2  (kn:Key nm) (v:FrV r.fr fr) (hv:nm∈nms A1\/∃ f∈fr,f∉nms A1) (hl:fr.length=r.fr.length):Bad A1 (Str.join blk (r.w::nm::(fr++ys))):=by
 have R:=ok.gn nm fr kn v;obtain⟨aa,ac,S',Y,h',_⟩:=R.sh;obtain rfl:=bT6 h' hsh;have O:=K_5 ok S eps;refine⟨I_0 (λ s hs=>?_) (by rw[zh] at O;simp only[zj,zh];omega),_,R.is hsh,.inr ⟨⟨r.w,nm,fr,r.rs⟩,rfl,bj0 (by show fr.length<=1000;rw[zh] at O;omega) hv⟩⟩;rcases qw hs with q | q
 ·rw[q];exact b_6 R.kw
 ·rcases qw q with q | q
  ·rw[q];exact b_6 kn
  ·rw[<- Y] at q;obtain⟨p,Z,rfl⟩:=List.mem_map.mp q;exact (S'.ft p Z).2
end
theorem z_3 {c m:Int} (h:0<m):0<=c.fmod m/\c.fmod m<m:=⟨Qm _ h,Q9 _ h⟩
theorem as6 (t:Str) (hl:t.length ≤ 1000)  (Y:ρ[4]?=some (.im (.str t))):eLR [4] (rng1 (eF e_0 (aC (eV 4) aN))) (tB (e2 dEq (e2 a_9 (eV 1) (eV 0)) (zR " "))) (eV 0) ρ=some (.lst (((List.range t.length).filter λ k=>decide (t.cps.toList[k]?=some 32)).map λ (k:Nat)=>.int (k:Int)),ρ):=by
 have tz:=a_1 hl;have rg:rng1 (eF e_0 (aC (eV 4) aN)) ρ=some (n_2 0 t.length,ρ):=by
  have b1:-4611686018427387904<=(t.length:Int):=by omega
  have b2:(t.length:Int)<4611686018427387904:=by omega
  simp[Y,tz,b1,b2]
 have c:cGo (tB (e2 dEq (e2 a_9 (eV 1) (eV 0)) (zR " "))) (eV 0) [.im (.str t)] (n_2 0 t.length)=some (((List.range t.length).filter λ k=>decide (t.cps.toList[k]?=some 32)).map λ k=>.int (k:Int)):=by
  rw[v_5];simp only[Int.zero_add];refine m_1 (List.range t.length) (λ k O=>?_) λ k _ _=>rfl;have O:=List.mem_range.mp O;rw[c_5] at O;have e:atS t (k:Int)=some (.str (chS t.cps.toList[k])):=by unfold atS;rw[if_pos tz];unfold dPl;rw[if_pos (by omega),if_pos (by omega),a_7];rw[jp,zl O,a_7]
  have q:(chS t.cps.toList[k]=Str.ofString " ")=(t.cps.toList[k]?=some 32):=by rw[zl O,Option.some.injEq];exact propext (bd0 _)
  generalize chS t.cps.toList[k]=cc at *;generalize Str.ofString " "=bb at *;simp[e,q]
 have i:q_2 ρ [4]=some [.im (.str t)]:=by simp[Y]
 have Z:(n_2 0 t.length).length<=sizeLine:=by rw[v_5,qy,Z8];exact tz
 generalize rng1 (eF e_0 (aC (eV 4) aN))=RR at *;unfold eLR;rw[rg,a_7];rw[i,a_7,c,a_7];exact if_pos Z
abbrev FB:List Str:=[sS "ins",sS "In",sS "",sS "sum",sS "askk"]
abbrev LB:List Str:=[sS "",sS " ",sS "x",sS "in"]
theorem bK4 (a b:Int):dEq (.int a) (.int b)=some (.bl (decide (a=b))):=aM7 a b
theorem aK2  (kn:Key nm) (h:b∈[sS "",nm++sS "A",sS "abcdefghi",sS "a1",sS "-"]):d_7 [.str b]=some (.bl false) ∧ Wt b:=by
 simp only[ym,yd,j9] at h;rcases h with rfl | rfl | rfl | rfl | rfl
 ·exact q_0 (by simp)
 ·have l:(nm++sS "A").cps.toList=nm.cps.toList++[65]:=by rw[h_8];congr 1
  have O:(nm++sS "A").length ≤ 9:=by have:=kn.2.1;rw[c_5] at this;rw[c_5,l,zh];show _+1<=9;omega
  refine⟨bq4 (by omega) (c:=65) (by rw[l];simp) (by decide),?_,?_,by omega⟩ <;> rw[l] <;> intro q <;> rcases qx q with q | q
  ·exact (b_6 kn).1 q
  ·exact absurd (List.mem_singleton.mp q) (by decide)
  ·exact (b_6 kn).2.1 q
  ·exact absurd (List.mem_singleton.mp q) (by decide)
 ·exact q_0 (by simp)
 ·exact q_0 (by simp)
 ·exact q_0 (by simp)
theorem aL0:Key (sS "nowhere"):=d_9 (by decide +kernel)
theorem bN2  (kn:Key nm) (h:b∈[nm,sS "nowhere",sS ""]):Wt b:=by
 simp only[ym,yd,j9] at h;rcases h with rfl | rfl | rfl
 ·exact b_6 kn
 ·exact b_6 aL0
 ·exact (q_0 (by simp)).2
theorem bj3 {Q:Str->Prop} (f3:atD R a=some rd) (ak:∀ i:Int,0<=i->i<a->∃ (qd:D) (qn:Str),atD R i=some qd/\a_9 qd (.int 1)=some (.str qn)/\Q qn) (a9:a<=100)
  (wd:c_8 [rd]=some (.str O)) (i1:a_9 rd (.int 1)=some (.str nm)) (i2:a_9 rd (.int 2)=some (.tup FF)) (d2:dNe (.tup FF) (.tup [])=some (.bl ne)) (sp:(Txt.split O blk).map D.str=Wl) (af:O.length<=300) (lW:Wl.length<=30)
  (w0:atD Wl 0=some (.str w)) (w1:atD Wl 1=some (.str nm)) (c1:r_0 Wl (some 1) none=(nm::us).map .str) (c2:r_0 Wl (some 2) none=us.map .str) (aa:r_0 Wl none (some 2)=[w,nm].map D.str) (al:r_0 Wl none (some 1)=[w].map D.str) (c3:r_0 Wl (some 3) none=(us.drop 1).map .str)
  (lu:us.length<=19) (wa:∀ s∈w::nm::us,Wt s) (kn:Key nm) (nb:∃ i,i<O.length/\O.cps.toList[i]?=some 32) (wq:∀ q,Q q->Wt q) :
  ∃ t,fnA (k_0 [.im (.lst R),.im (.int a),.im (.int c),.no,.no,.no,.no,.no,.no,.no,.no])=some (.str t) /\
   ((∃ i:Nat,O.cps.toList[i]?=some 32 ∧ t=Txt.slice O none (some (i:Int))++blk++Txt.slice O (some (i:Int)) none) ∨ (∃ b∈[sS "-",sS "",sS "*x",sS "Q"],t=O++(blk++b)) ∨ (∃ b∈FB,t=Str.join blk (b::nm::us)) ∨ (∃ q,Q q ∧ t=Str.join blk (w::q::us)) ∨
    (∃ b∈[sS "",nm++sS "A",sS "abcdefghi",sS "a1",sS "-"],t=Str.join blk (w::b::us)) ∨ (ne=true ∧ ∃ b∈[nm,sS "nowhere",sS ""],t=Str.join blk (w::nm::b::us.drop 1)) ∨ t=Str.join blk [w] ∨ t=Str.join blk [w,nm] ∨ t=blk++O ∨ t∈LB):=by
 have bl:=ae7;have Y:h_4 10=true:=e_4 (by decide) (by decide);have jz:O.length<=100000:=by omega
 have tz:O.length<=sizeLine:=a_1 (by omega);have lz:us.length+2<=sizeLine:=a_1 (by omega);have ag:1+(us.length+1)<=sizeLine:=a_1 (by omega);have ae:2+us.length<=sizeLine:=a_1 (by omega);have ai:2+1<=sizeLine:=a_1 (by decide);have ah:3+(us.length-1)<=sizeLine:=a_1 (by omega);have ac:(us.map D.str).length=us.length:=qy ..;have K0:=λ o k=>(H_4 (d:=rd) (by simp[f3]) (H_4 (d:=.str O) (by simp[wd]) (H_4 (d:=.lst Wl) (by simp[bl,jz,sp]) (H_4 (d:=.int (c.fmod 10)) (by simp) k))):fnA (k_0 [.im (.lst R),.im (.int a),.im (.int c),.no,.no,.no,.no,.no,.no,.no,.no])=o)
 by_cases y0:c.fmod 10=0
 ·have be:=as6 O (by omega) (ρ:=[.im (.lst R),.im (.int a),.im (.int c),.im rd,.im (.str O),.im (.lst Wl),.im (.int (c.fmod 10)),.no,.no,.no,.no]) rfl;obtain⟨i0,n0,n1⟩:=nb;generalize hP:((List.range O.length).filter λ k=>decide (O.cps.toList[k]?=some 32))=P at be;have pl:0<P.length:=List.length_pos_of_mem (by rw[<- hP];exact List.mem_filter.mpr ⟨List.mem_range.mpr n0,by simpa using n1⟩);have pz:P.length<=300:=by rw[<- hP];exact zo (jt ..) (by rw[Z8];exact af)
  obtain⟨f0,f1⟩:=z_3 (c:=c.fdiv 10) (m:=P.length) (by omega);obtain⟨i,hi,ei⟩:=k_7 (λ (k:Nat)=>D.int (k:Int)) P f0 f1;rw[<- hP] at hi;have hi:=List.mem_filter.mp hi;refine⟨_,K0 _ (d_5 (by simp[y0]) (bk8 be (bk8 (d:=.int (i:Int)) ?_ ?_))),.inl ⟨i,by simpa using hi.2,rfl⟩⟩
  ·have lp:(P.map λ (k:Nat)=>D.int (k:Int)).length=P.length:=qy ..;have aj:P.length<=sizeLine:=a_1 (by omega);have pn:¬ (P=[]):=λ z=>by rw[z] at pl;cases pl
   have pd:h_4 (P.length:Int)=true:=e_4 (by omega) (by omega);generalize (P.map λ (k:Nat)=>D.int (k:Int))=PL at *;simp[Y,lp,pn,ei]
  ·have am:=List.mem_range.mp hi.1;have g1:=bj6 (t:=O) (i:=i) (by omega);have g2:=bj8 (t:=O) (i:=i) (by omega);have m1:(Txt.slice O none (some (i:Int))).length<=300:=by rw[c_5,g1,jg,<- c_5];omega
   have m2:(Txt.slice O (some (i:Int)) none).length<=300:=by rw[c_5,g2,yr,<- c_5];omega
   have s1:aq7 (.str O) none (some (i:Int))=some (.str (Txt.slice O none (some (i:Int)))):=if_pos tz;have s2:aq7 (.str O) (some (i:Int)) none=some (.str (Txt.slice O (some (i:Int)) none)):=if_pos tz;have lb:(Str.ofString " ").length=1:=by decide +kernel
   generalize Txt.slice O none (some (i:Int))=S1 at *;generalize Txt.slice O (some (i:Int)) none=S2 at *;have n1:S1.length+(Str.ofString " ").length ≤ sizeLine:=a_1 (by omega);have n2:(S1++Str.ofString " ").length+S2.length ≤ sizeLine:=a_1 (by rw[G_9];omega);generalize (P.map λ (k:Nat)=>D.int (k:Int))=PL at *;simp[s1,s2,n1,n2]
 have K1:=λ o k=>K0 o (b_2 (by simp[y0]) k);by_cases y1:c.fmod 10=1
 ·obtain⟨f0,f1⟩:=z_3 (m:=4) (by decide);obtain⟨b,hb,Z⟩:=k_7 (λ b=>D.str (blk++b)) [sS "-",sS "",sS "*x",sS "Q"] f0 f1;have Z:atD [.str " -",.str " ",.str " *x",.str " Q"] ((c.fdiv 10).fmod 4)=some (.str (blk++b)):=by rw[<- Z];congr 1
  have wb:=(q_0 (jf [sS "abcdefghi",sS "a1"] hb)).2.2.2;have lb:blk.length=1:=by decide +kernel
  have n2:O.length+(blk++b).length<=sizeLine:=a_1 (by rw[G_9];omega);refine⟨_,K1 _ (d_5 (by simp[y1]) ?_),.inr (.inl ⟨b,hb,rfl⟩)⟩;generalize blk++b=BB at *;simp[Y,Z,n2]
 have K2:=λ o k=>K1 o (b_2 (by simp[y1]) k);by_cases y2:c.fmod 10=2
 ·obtain⟨f0,f1⟩:=z_3 (m:=5) (by decide);obtain⟨b,hb,Z⟩:=k_7 D.str FB f0 f1;have Z:atD [.str "ins",.str "In",.str "",.str "sum",.str "askk"] ((c.fdiv 10).fmod 5)=some (.str b):=Z;have jn:=ad0 (λ s hs=>by
   rcases qw hs with q | q
   ·rw[q];exact (bN1 hb).2
   ·exact wa s (qh _ q)) (by simp;omega)
  refine⟨_,K2 _ (d_5 (by simp[y2]) ?_),.inr (.inr (.inl ⟨b,hb,rfl⟩))⟩;rw[qz,qz] at jn;rw[qz] at c1;generalize Str.join blk (b::nm::us)=J at *;generalize us.map D.str=U at *;simp[Y,Z,c1,jn,ac,ag]
 have K3:=λ o k=>K2 o (b_2 (by simp[y2]) k);by_cases y3:c.fmod 10=3/\a > 0
 ·obtain⟨y3,a0⟩:=y3;obtain⟨f0,f1⟩:=z_3 (c:=c.fdiv 10) a0;obtain⟨qd,qn,q1,q2,q3⟩:=ak _ f0 f1;have jn:=ad0 (λ s hs=>by
   rcases qw hs with q | q
   ·rw[q];exact wa _ qg
   ·rcases qw q with q | q
    ·rw[q];exact wq _ q3
    ·exact wa s (qh _ (qh _ q))) (by simp;omega)
  have an:¬ (a=0):=by omega
  have ad:=e_4 (by omega) (by omega);refine⟨_,K3 _ (d_5 (by simp[y3,a0]) ?_),.inr (.inr (.inr (.inl ⟨qn,q3,rfl⟩)))⟩;rw[qz,qz] at jn;generalize Str.join blk (w::qn::us)=J at *;generalize us.map D.str=U at *;simp[Y,w0,an,q1,q2,c2,jn,ac,ae]
 have K4:=λ o k=>K3 o (b_2 (by
  by_cases z:c.fmod 10=3
  ·have:¬ (a > 0):=λ h=>y3 ⟨z,h⟩;simp[z,this]
  ·simp[z]) k)
 by_cases y4:c.fmod 10=4
 ·obtain⟨f0,f1⟩:=z_3 (m:=5) (by decide);obtain⟨b,hb,Z⟩:=k_7 D.str [sS "",nm++sS "A",sS "abcdefghi",sS "a1",sS "-"] f0 f1;have Z:atD [.str "",.str (nm++Str.ofString "A"),.str "abcdefghi",.str "a1",.str "-"] ((c.fdiv 10).fmod 5)=some (.str b):=Z;have wb:=(aK2 kn hb).2;have jn:=ad0 (λ s hs=>by
   rcases qw hs with q | q
   ·rw[q];exact wa _ qg
   ·rcases qw q with q | q
    ·rw[q];exact wb
    ·exact wa s (qh _ (qh _ q))) (by simp;omega)
  have la:nm.length+(Str.ofString "A").length ≤ sizeLine:=a_1 (by
   have:=kn.2.1;have:(Str.ofString "A").length=1:=by decide +kernel
   omega)
  refine⟨_,K4 _ (d_5 (by simp[y4]) (bk8 (d:=.str b) ?_ ?_)),.inr (.inr (.inr (.inr (.inl ⟨b,hb,rfl⟩))))⟩
  ·simp[Y,w1,la,Z]
  ·rw[qz,qz] at jn;generalize Str.join blk (w::b::us)=J at *;generalize us.map D.str=U at *;simp[w0,c2,jn,ac,ae]
 have K5:=λ o k=>K4 o (b_2 (by simp[y4]) k);by_cases y5:c.fmod 10=5/\ne=true
 ·obtain⟨y5,en⟩:=y5;obtain⟨f0,f1⟩:=z_3 (m:=3) (by decide);obtain⟨b,hb,Z⟩:=k_7 D.str [nm,sS "nowhere",sS ""] f0 f1;have Z:atD [.str nm,.str "nowhere",.str ""] ((c.fdiv 10).fmod 3)=some (.str b):=Z;have wb:=bN2 kn hb;have jn:=ad0 (ws:=w::nm::b::us.drop 1) (λ s hs=>by
   rcases qw hs with q | q
   ·rw[q];exact wa _ qg
   ·rcases qw q with q | q
    ·rw[q];exact wa _ (qh _ qg)
    ·rcases qw q with q | q
     ·rw[q];exact wb
     ·exact wa s (qh _ (qh _ (Qb q)))) (by simp;omega)
  refine⟨_,K5 _ (d_5 ?_ (bk8 (d:=.str b) ?_ ?_)),.inr (.inr (.inr (.inr (.inr (.inl ⟨en,b,hb,rfl⟩)))))⟩
  ·rw[en] at d2;simp[-bC0,y5,i2,d2]
  ·simp[Y,i1,Z]
  ·rw[qz,qz,qz] at jn;have ld:((us.drop 1).map D.str).length=us.length-1:=by simp
   generalize Str.join blk (w::nm::b::us.drop 1)=J at *;generalize (us.drop 1).map D.str=U at *;have aa:=aa;simp[aa,c3,jn,ld,ai,ah]
 have K6:=λ o k=>K5 o (b_2 (by
  by_cases z:c.fmod 10=5
  ·have:ne=false:=by
    cases ne
    ·rfl
    ·exact absurd ⟨z,rfl⟩ y5
   rw[this] at d2;simp[-bC0,z,i2,d2]
  ·simp[-bC0,z]) k)
 by_cases y6:c.fmod 10=6
 ·obtain⟨f0,f1⟩:=z_3 (c:=c.fdiv 10) (m:=2) (by decide);have z:(c.fdiv 10).fmod 2=0\/(c.fdiv 10).fmod 2=1:=by omega
  rcases z with z | z
  ·have jn:=ad0 (λ s hs=>by rw[List.mem_singleton.mp hs];exact wa _ qg) (by simp);refine⟨_,K6 _ (d_5 (by simp[y6]) ?_),.inr (.inr (.inr (.inr (.inr (.inr (.inl rfl))))))⟩;generalize Str.join blk [w]=J at *;generalize [w].map D.str=U at *;simp[Y,z,al,jn]
  ·have jn:=ad0 (λ s hs=>wa s (by
    rcases qw hs with q | q
    ·rw[q];exact qg
    ·rw[List.mem_singleton.mp q];exact qh _ qg)) (by simp)
   refine⟨_,K6 _ (d_5 (by simp[y6]) ?_),.inr (.inr (.inr (.inr (.inr (.inr (.inr (.inl rfl)))))))⟩;generalize Str.join blk [w,nm]=J at *;generalize [w,nm].map D.str=U at *;simp[Y,z,aa,jn]
 have K7:=λ o k=>K6 o (b_2 (by simp[y6]) k);by_cases y7:c.fmod 10=7
 ·have la:(Str.ofString " ").length+O.length ≤ sizeLine:=a_1 (by
   have:(Str.ofString " ").length=1:=by decide +kernel
   omega)
  exact⟨_,K7 _ (d_5 (by simp[y7]) (by simp[la])),.inr (.inr (.inr (.inr (.inr (.inr (.inr (.inr (.inl rfl))))))))⟩
 obtain⟨f0,f1⟩:=z_3 (m:=4) (by decide);obtain⟨b,hb,Z⟩:=k_7 D.str LB f0 f1;have Z:atD [.str "",.str " ",.str "x",.str "in"] ((c.fdiv 10).fmod 4)=some (.str b):=Z;exact⟨_,K7 _ (b_2 (by simp[y7]) (by simp[Y,Z])),.inr (.inr (.inr (.inr (.inr (.inr (.inr (.inr (.inr hb))))))))⟩
theorem ah6  (g:Z_7 [] (A1++r::A2)) (hl:A1.length ≤ 9) (hw:sS "nowhere"∉nms A1) (c:Int):∃ t,g_5 [.lst (rds (A1++r::A2)),.int A1.length,.int c]=some (.str t) ∧ Bad A1 t:=by
 have ok:=(q_3 g).2.1;obtain⟨ps,ys,S,eps,hsh,wd⟩:=ok.rd.sh;rw[eps] at wd;have wa:=S_8 ok S eps;have lu:=K_5 ok S eps;have f3:atD (rds (A1++r::A2)) (A1.length:Int)=some r.d:=by have:=bw5 (rds A1) r.d (rds A2);rw[l_9] at this;rw[O_6,az1];exact this
 have ad:∀ i:Int,0<=i->i<A1.length->∃ (qd:D) (qn:Str),atD (rds (A1++r::A2)) i=some qd/\a_9 qd (.int 1)=some (.str qn)/\(qn∈nms A1/\Key qn):=λ i h0 h1=>by
  obtain⟨q,hq,e⟩:=k_7 Rw.d A1 h0 h1;obtain⟨Q,k,_⟩:=j_7 (q_3 g).1 hq;refine⟨q.d,q.nm,?_,be9 q,zn hq,k.key⟩;rw[<- e];unfold atD dPl;rw[if_pos h0,if_pos (by rw[l_9,zh];omega),if_pos h0,if_pos (by rw[qy];omega)];show (rds _)[i.toNat]?=(A1.map Rw.d)[i.toNat]?;rw[O_6,yu (by rw[l_9];omega)]
 have sp:=p_4 (by simp) λ s O=>(wa s O).1;have ac:=m_8 _ λ s O=>(wa s O).2.2;have aa:(Str.join blk (r.w::r.nm::(r.fr++ys))).length<=300:=by rw[zj,zj] at ac;omega
 have nb:∃ i,i<(Str.join blk (r.w::r.nm::(r.fr++ys))).length/\(Str.join blk (r.w::r.nm::(r.fr++ys))).cps.toList[i]?=some 32:=by have e:(Str.join blk (r.w::r.nm::(r.fr++ys))).cps.toList=r.w.cps.toList++32::jl (r.nm::(r.fr++ys)):=bq9 (by simp);refine⟨r.w.cps.toList.length,by rw[c_5,e];simp,?_⟩;rw[e,ja (Nat.le_refl _),Nat.sub_self];rfl
 have d2:dNe (.tup (r.fr.map .str)) (.tup [])=some (.bl (!r.fr.isEmpty)):=by have dp:=bb8 r.fr;unfold dNe;rw[if_pos ⟨dp,by decide⟩];cases r.fr <;> rfl
 have c3:r_0 ((r.w::r.nm::(r.fr++ys)).map D.str) (some 3) none=((r.fr++ys).drop 1).map .str:=by
  cases r.fr++ys with
  |nil=>rfl
  |cons a q=>exact bQ2 [.str r.w,.str r.nm,.str a] _ rfl
 rw[sp0];obtain⟨t,et,ht⟩:=bj3 f3 ad (by omega) wd (be9 r) (bk5 r) d2 (Wl:=(r.w::r.nm::(r.fr++ys)).map D.str) (by rw[sp]) aa (by simp only[qy,zj];omega) (S_0 _ _) (bw4 _ _ _) (bQ2 [.str r.w] _ rfl) (bQ2 [.str r.w,.str r.nm] _ rfl) (cb9 [.str r.w,.str r.nm] _ rfl) (cb9 [.str r.w] _ rfl) c3 lu wa ok.key nb λ q h=>b_6 h.2;refine⟨t,et,?_⟩;rcases ht with ⟨i,hi,rfl⟩ | ⟨b,hb,rfl⟩ | ⟨b,hb,rfl⟩ | ⟨q,⟨hq,kq⟩,rfl⟩ | ⟨b,hb,rfl⟩ | ⟨hn,b,hb,rfl⟩ | rfl | rfl | rfl | hb
 ·obtain⟨A,B,e1,e2,e3⟩:=aa6 rfl (λ s O=>(wa s O).1) hi;rw[e3];cases A with
  |nil=>exact absurd rfl e2
  |cons a A =>
   obtain⟨z1,z2⟩:=jc e1;rw[<- z1];obtain⟨Z,Y⟩:=q_0 (b:=sS "") (by simp);exact at3 ok S eps Z Y z2
 ·obtain⟨Z,Y⟩:=q_0 (jf [sS "abcdefghi",sS "a1"] hb);rw[<- ax2 (by simp)];exact at3 ok S eps Z Y (by simp)
 ·obtain⟨Z,Y⟩:=bN1 hb;have wx:∀ s∈b::r.nm::(r.fr++ys),Wt s:=λ s O=>by
   rcases qw O with q | q
   ·rw[q];exact Y
   ·exact wa s (qh _ q)
  exact Bad.no (I_0 wx (by simp only[zj];omega)) (aK1 (λ s O=>⟨(wx s O).1,(wx s O).2.2⟩) (by simp only[zj];omega) Z)
 ·exact at2 ok S eps hsh kq (.inl rfl) (.inl hq) rfl
 ·obtain⟨Z,Y⟩:=aK2 ok.key hb;exact bv8 ok S eps Z Y
 ·cases hf:r.fr with
  |nil=>rw[hf] at hn;cases hn
  |cons f t =>
   have ft:=λ x hx=>ok.fr x (by rw[hf];exact qh _ hx);have go:=λ b kb nb=>at2 ok S eps hsh (fr:=b::t) ok.key (.inr ⟨f,b,t,hf,rfl,kb,λ q=>nb (ft b q)⟩) (.inr ⟨b,qg,nb⟩) (by rw[hf];rfl);simp only[ym,yd,j9] at hb;rcases hb with rfl | rfl | rfl
   ·exact go _ ok.key ok.nn
   ·exact go _ aL0 hw
   ·obtain⟨Z,Y⟩:=q_0 (b:=sS "") (by simp);exact bv9 ok S eps hf Z Y
 ·exact Bad.no (I_0 (λ s O=>by rw[List.mem_singleton.mp O];exact wa _ qg) (by simp)) (X_4 S ok.rd.kw ok.key).1
 ·exact Bad.no (I_0 (λ s O=>wa s (by
   rcases qw O with q | q
   ·rw[q];exact qg
   ·rw[List.mem_singleton.mp q];exact qh _ qg)) (by simp)) (X_4 S ok.rd.kw ok.key).2
 ·rw[<- aF0 (by simp)];obtain⟨Z,Y⟩:=bN1 (b:=sS "") (by simp);have wx:∀ s∈sS ""::r.w::r.nm::(r.fr++ys),Wt s:=λ s O=>by
   rcases qw O with q | q
   ·rw[q];exact Y
   ·exact wa s q
  exact Bad.no (I_0 wx (by simp only[zj];omega)) (aK1 (λ s O=>⟨(wx s O).1,(wx s O).2.2⟩) (by simp only[zj];omega) Z)
 ·exact aC1 hb
mutual
theorem aM1:∀ d:D,dpD d<=30->eqD d d=true
 |.non,_=>by simp
 |.bl _,_=>by simp
 |.int _,_=>by simp
 |.str _,_=>by simp
 |.tup l,h=>(R_2 l l).trans (R_1 l (Nat.le_of_succ_le h))
 |.lst l,h=>(R_3 l l).trans (R_1 l (Nat.le_of_succ_le h))
 |.dct _ _,h=>absurd h (by show ¬ 1000<=30;decide)
theorem R_1:∀ l:List D,p_2 l<=30->y_8 l l=true
 |[],_=>by simp
 |d::r,h=>by
  have h:max (dpD d) (p_2 r)<=30:=h;have a:=aM1 d (by omega);have b:=R_1 r (by omega);simp[a,b]
end
theorem bK2  (h:dpD d<=30):dNe d d=some (.bl false):=by unfold dNe;rw[if_pos ⟨h,h⟩,aM1 d h];rfl
theorem Upto.dp  (u:Upto A):dpD (.lst (rds A))<=30:=by
 have:p_2 (rds A)<=3:=x_5 λ d hd=>by
  obtain⟨r,q,rfl⟩:=List.mem_map.mp hd;obtain⟨Q,k,_⟩:=u.row q;exact (I_5 k.rd.pl).2.2
 show p_2 (rds A)+1<=30;omega
theorem aX4  (h:∀ s∈ts,Tx s) (hl:ts.length ≤ 30):K_8 (Str.ofString "\n") (ts.map D.str)=some (.str (Str.join lf ts)):=by
 have q:∀ l:List Str,(∀ s∈l,Tx s)->(l.map (·.length)).sum<=500*l.length:=λ l=>by
  induction l with
  |nil=>intro _;exact qj _
  |cons a r O =>
   intro h;have:=O λ s Y=>h s (qh _ Y);have:=(h a qg).2;simp only[qz,List.sum_cons,zj];omega
 refine F_1 lf ts ?_;have:=q ts h;have:lf.length=1:=by decide +kernel
 rw[this];omega
abbrev tsA (A:List Rw):List D:=A.map λ r=>.str (txR r)
theorem bi2 (A:List Rw):tsA A=(A.map txR).map D.str:=by rw[zm];rfl
theorem aH3  (g:Z_7 [] A):∀ s∈A.map txR,Tx s:=λ s O=>by
 obtain⟨r,q,rfl⟩:=List.mem_map.mp O;obtain⟨Q,ok,_⟩:=j_7 g q;have:=(O_7 ok.rd).2.2;exact⟨this.1,by omega⟩
theorem aN7 {k:Nat} (h:A[k]?=some r):atD (rds A) (k:Int)=some r.d:=by obtain⟨q,e⟩:=List.getElem?_eq_some_iff.mp h;unfold atD dPl;rw[if_pos (by omega),if_pos (by rw[l_9];omega)];show (rds A)[((k:Nat):Int).toNat]?=_;rw[jp,yo,h];rfl
theorem aN6 {k:Nat} (h:A[k]?=some r):atD (tsA A) (k:Int)=some (.str (txR r)):=by obtain⟨q,e⟩:=List.getElem?_eq_some_iff.mp h;unfold atD dPl;rw[if_pos (by omega),if_pos (by rw[qy];omega)];show (tsA A)[((k:Nat):Int).toNat]?=_;rw[jp,yo,h];rfl
def bf4 (A:List Rw) (k:Nat):Bool:=match A[k]?,A[k+1]? with
 |some a,some b=>inD (.str a.nm) (b.fr.map .str)
 |_,_=>false
theorem ao1 :∀ {l:List Str},inD (.str x) (l.map .str)=true->x∈l
 |[],h=>by cases h
 |y::r,h=>by
  have h:(eqD (.str y) (.str x)||inD (.str x) (r.map .str))=true:=h;rw[Bool.or_eq_true,g_3,yw] at h;rcases h with h | h
  ·rw[h];exact qg
  ·exact qh _ (ao1 h)
theorem aA9 (k:Str) (ks:List Str):N_7 (.str k) (ks.map .str)=true:=by unfold N_7;rw[show Q_7 (.str k)=true from rfl,Bool.true_and,Q0];intro x q;obtain⟨y,_,rfl⟩:=List.mem_map.mp q;rfl
theorem aY2  (hl:A.length<=9) (h0:A≠[])  (h:ρ[0]?=some (.im (.lst (rds A)))):eLR [0] (rng1 (e2 L_7 (eF e_0 (aC (eV 0) aN)) (zI 1))) (tB (e2 d_8 (e2 a_9 (e2 a_9 (eV 1) (eV 0)) (zI 1)) (e2 a_9 (e2 a_9 (eV 1) (e2 e_7 (eV 0) (zI 1))) (zI 2)))) (eV 0) ρ=some (.lst (((List.range (A.length-1)).filter (bf4 A)).map λ (k:Nat)=>.int (k:Int)),ρ):=by
 have ap:=List.length_pos_iff.mpr h0;have rg:rng1 (e2 L_7 (eF e_0 (aC (eV 0) aN)) (zI 1)) ρ=some (n_2 0 (A.length-1),ρ):=by
  have ln:=l_9 A;have b1:-4611686018427387904<=(A.length:Int)-1:=by omega
  have b2:(A.length:Int)-1<4611686018427387904:=by omega
  have b3:((A.length:Int)-1).toNat=A.length-1:=by omega
  have b4:A.length<=sizeLine:=a_1 (by omega);generalize rds A=R at *;simp[h,ln,b1,b2,b3]
 have c:cGo (tB (e2 d_8 (e2 a_9 (e2 a_9 (eV 1) (eV 0)) (zI 1)) (e2 a_9 (e2 a_9 (eV 1) (e2 e_7 (eV 0) (zI 1))) (zI 2)))) (eV 0) [.im (.lst (rds A))] (n_2 0 (A.length-1))=some (((List.range (A.length-1)).filter (bf4 A)).map λ k=>.int (k:Int)):=by
  rw[v_5];simp only[Int.zero_add];refine m_1 (List.range (A.length-1)) (λ k O=>?_) λ k _ _=>rfl;have O:=List.mem_range.mp O;have Y:A[k]?=some A[k]:=zl (by omega);have Z:A[k+1]?=some A[k+1]:=zl (by omega);have e1:=aN7 Y;have q:atD (rds A) ((k:Int)+1)=some A[k+1].d:=aN7 Z;have hb:bf4 A k=inD (.str A[k].nm) (A[k+1].fr.map .str):=by unfold bf4;rw[Y,Z]
  have oi:=aA9 A[k].nm A[k+1].fr;have i1:=be9 A[k];have i2:=bk5 A[k+1];rw[hb];generalize A[k+1].fr.map D.str=FF at *;generalize A[k].d=d1 at *;generalize A[k+1].d=d2 at *;generalize rds A=R at *;generalize A[k].nm=n1 at *;simp[e1,q,i1,i2,oi]
 have i:q_2 ρ [0]=some [.im (.lst (rds A))]:=by simp[h]
 have z:(n_2 0 (A.length-1)).length<=sizeLine:=a_1 (by rw[v_5,qy,Z8];omega);generalize rng1 (e2 L_7 (eF e_0 (aC (eV 0) aN)) (zI 1))=RR at *;unfold eLR;rw[rg,a_7];rw[i,a_7,c,a_7];exact if_pos z
theorem aN0 {i:Nat}:r_0 A none (some (i:Int))=A.take i:=G_3 A i
theorem aM9 (A:List D)  (h:i<=A.length):r_0 A (some (i:Int)) none=A.drop i:=by have:=q_6 (A.take i) (A.drop i);rw[Yw,jg,Nat.min_eq_left h] at this;exact this
theorem aZ2  (u:Upto A) (hl:A.length<=9) (h0:A≠[]) (c:Int):e_8 [.lst (rds A),.lst (tsA A),.int c]=some (.bl true):=by
 have he:=aY2 hl h0 (ρ:=[.im (.lst (rds A)),.im (.lst (tsA A)),.im (.int c),.no,.no,.no]) rfl;generalize hP:(List.range (A.length-1)).filter (bf4 A)=P at he;have pz:P.length<=9:=by rw[<- hP];exact zo (jt ..) (by rw[Z8];omega)
 have en:=X_8 (l:=P.map λ (k:Nat)=>D.int (k:Int)) (by
  have:=x_5 (m:=0) (l:=P.map λ (k:Nat)=>D.int (k:Int)) λ d hd=>by
   obtain⟨x,_,rfl⟩:=List.mem_map.mp hd;exact qj _
  show p_2 _+1<=30;omega)
 have S0:e_8 [.lst (rds A),.lst (tsA A),.int c]=fnA (m_2 [.im (.lst (rds A)),.im (.lst (tsA A)),.im (.int c),.no,.no,.no]):=rfl;rw[S0];by_cases pn:P=[]
 ·subst pn;exact H_4 he (d_5 (by
   generalize rds A=R at *;generalize tsA A=T at *;kernel_rfl) (by kernel_rfl))
 have pl:=List.length_pos_iff.mpr pn;obtain⟨f0,f1⟩:=z_3 (c:=c) (m:=P.length) (by omega);obtain⟨i,hi,ei⟩:=k_7 (λ (k:Nat)=>D.int (k:Int)) P f0 f1;rw[<- hP] at hi;have hi:=List.mem_filter.mp hi;have il:=List.mem_range.mp hi.1;have ga:A[i]?=some A[i]:=zl (by omega);have gb:A[i+1]?=some A[i+1]:=zl (by omega);have ad:A[i].nm∈A[i+1].fr:=by have:=hi.2;unfold bf4 at this;rw[ga,gb] at this;exact ao1 this
 have dA:A=A.take i++A[i]::A[i+1]::A.drop (i+2):=by
  conv=>lhs;rw[<- Yw i A,Q2 (show i<A.length by omega),Q2 (show i+1<A.length by omega)]
 have gd:=u.good;rw[dA] at gd;obtain⟨g1,g2,g3⟩:=q_3 gd;have Z:(A.take i).length=i:=by rw[jg];omega
 have tA:=aH3 u.good;have Y:∀ r∈A,Tx (txR r):=λ r O=>tA _ (zn O);have aa:=g3.1;have rf:=aI5 g1 (by rw[Z];omega) (us:=txR A[i]::(A.drop (i+2)).map txR) (Y _ (Qz _)) (λ s hs=>by
  rcases qw hs with q | q
  ·rw[q];exact Y _ (Qz _)
  ·obtain⟨r,O,rfl⟩:=List.mem_map.mp q;exact Y r (Qb O)) (by rw[Z,zj,qy,yr];omega) (O_7 aa.rd).2.1 (.inr ⟨_,rfl,bj0 (zo aa.frl (by decide)) (.inr ⟨_,ad,g2.nn⟩)⟩)
 rw[Z] at rf;have jn:=aX4 (ts:=(A.take i).map txR++txR A[i+1]::txR A[i]::(A.drop (i+2)).map txR) (λ s hs=>by
  rcases qx hs with q | q
  ·obtain⟨r,O,rfl⟩:=List.mem_map.mp q;exact Y r (Qv O)
  ·rcases qw q with q | q
   ·rw[q];exact Y _ (Qz _)
   ·rcases qw q with q | q
    ·rw[q];exact Y _ (Qz _)
    ·obtain⟨r,O,rfl⟩:=List.mem_map.mp q;exact Y r (Qb O)) (by simp only[zh,qy,zj,jg,yr];omega)
 have t1:=aN6 ga;have t2:atD (tsA A) ((i:Int)+1)=some (.str (txR A[i+1])):=aN6 gb;have u1:r_0 (tsA A) none (some (i:Int))=((A.take i).map txR).map .str:=by rw[aN0,<- Ja,zm];rfl
 have u2:r_0 (tsA A) (some ((i:Int)+2)) none=((A.drop (i+2)).map txR).map .str:=by have:=aM9 (tsA A) (i:=i+2) (by rw[qy];omega);rw[<- List.map_drop] at this;rw[zm];exact this
 rw[yf,qz,qz] at jn;have m1:(((A.take i).map txR).map D.str).length+2<=sizeLine:=a_1 (by rw[qy,qy,Z];omega);have m2:(((A.take i).map txR).map D.str).length+(1+1)+(((A.drop (i+2)).map txR).map D.str).length<=sizeLine:=a_1 (by rw[qy,qy,Z,qy,qy,yr];omega);generalize Str.join lf ((A.take i).map txR++txR A[i+1]::txR A[i]::(A.drop (i+2)).map txR)=J at *;have pd:h_4 (P.length:Int)=true:=e_4 (by omega) (by omega);have ac:P.length<=sizeLine:=a_1 (by omega);have lp:(P.map λ (k:Nat)=>D.int (k:Int)).length=P.length:=qy ..;have ne:(P.map λ (k:Nat)=>D.int (k:Int)).isEmpty=false:=by cases P with
  |nil=>exact absurd rfl pn
  |cons=>rfl
 rw[ne] at en;generalize ((A.take i).map txR).map D.str=X1 at *;generalize ((A.drop (i+2)).map txR).map D.str=X2 at *;generalize (P.map λ (k:Nat)=>D.int (k:Int))=PL at *;generalize tsA A=T at *;generalize rds A=R at *;generalize txR A[i+1]=tb at *;generalize txR A[i]=ta at *;refine H_4 he (b_2 (by simp[-au9,en]) (H_4 (d:=.int (i:Int)) (by simp[lp,pn,ei]) (H_4 (d:=.lst (X1++.str tb::.str ta::X2)) ?_ ?_)))
 ·simp[u1,u2,t1,t2,m1,m2]
 ·simp[jn,rf]
def PW (X:D) (k:Nat) (ρ:En):Prop:=∃ (A:List Rw) (q:Sl),ρ=[.im X,.ow false (.lst (rds A)),q,.no,.no,.no]/\A.length=k/\Upto A/\bf2 q=true
theorem bK0 {A:List Rw} (u:Upto A) (hl:A.length ≤ 9):sS "nowhere"∉nms A:=λ q=>by
 have h:hd1 (sS "nowhere")∈hds.take A.length:=by rw[<- u.hd];exact zn q
 have h:hd1 (sS "nowhere")∈hds.take 9:=(List.take_subset_take_left hds hl) h;exact absurd h (by decide +kernel)
theorem law_true (O:List Int) (hl:O.length<=63):ac6 [.lst (O.map .int)]=some (.bl true):=by
 obtain⟨c0,e0⟩:=G_5 O 0 hl;obtain⟨c1,e1⟩:=G_5 O 1 hl;obtain⟨c2,Z⟩:=G_5 O 2 hl;have e0:b_1 [.lst (O.map .int),.int 0]=some (.int c0):=e0;have e1:b_1 [.lst (O.map .int),.int 1]=some (.int c1):=e1;have Z:b_1 [.lst (O.map .int),.int 2]=some (.int c2):=Z;have f9:c0.fmod 9=c0 % 9:=c_2 (by decide);obtain⟨n,hn⟩:∃ n:Nat,1+c0 % 9=(n:Int):=⟨(1+c0 % 9).toNat,by omega⟩;have aa:∀ (i:Nat) (ρ:En),i<n->PW (.lst (O.map .int)) i ρ->∃ ad ae,gN 2 (.int i) ρ=some ad/\w_7 ad=some (.nx ae)/\PW (.lst (O.map .int)) (i+1) ae:=λ i ρ hi p=>by
  obtain⟨A,s2,rfl,la,u,h2⟩:=p;obtain⟨c,ec⟩:=G_5 O (3+i) hl;have ec:b_1 [.lst (O.map .int),.int (3+(i:Int))]=some (.int c):=by rw[show (3+(i:Int))=((3+i:Nat):Int) by omega];exact ec
  obtain⟨xs,ex,xl,xd⟩:=aq1 c 60 (by decide);have ex:e_1 [.int c,.int 60]=some (.lst (xs.map .int)):=ex;obtain⟨r,er,u'⟩:=ay8 ⟨xl,xd⟩ u (by omega);have lr:=l_9 A;have l6:(rds A).length<1000000:=by omega
  have pl:nl r.d=true:=by obtain⟨Q,ok,_⟩:=u'.row (r:=r) (by simp);exact (I_5 ok.rd.pl).1
  refine⟨_,[.im (.lst (O.map .int)),.ow false (.lst (rds (A++[r]))),.im (.int i),.no,.no,.no],rfl,?_,A++[r],_,rfl,by rw[zh,la];rfl,u',rfl⟩;rw[show rds (A++[r])=rds A++[r.d] from O_6 A [r]];generalize xs.map D.int=XS at *;generalize O.map D.int=X at *;generalize rds A=R at *;generalize r.d=rd at *;have q:eF f_9 (aC (eV 1) (aC (eF e_1 (aC (eF b_1 (aC (eV 0) (aC (e2 e_7 (zI 3) (eV 2)) aN))) (aC (zI 60) aN))) aN)) [.im (.lst X),.im (.lst R),.im (.int i),.no,.no,.no]=some (rd,[.im (.lst X),.im (.lst R),.im (.int i),.no,.no,.no]):=by simp[ec,ex,er]
  have h:eHoldL 1 (eF f_9 (aC (eV 1) (aC (eF e_1 (aC (eF b_1 (aC (eV 0) (aC (e2 e_7 (zI 3) (eV 2)) aN))) (aC (zI 60) aN))) aN))) [.im (.lst X),.ow false (.lst R),.im (.int i),.no,.no,.no]=some (rd,[.im (.lst X),.ow false (.lst R),.im (.int i),.no,.no,.no]):=by exact aY1 rfl rfl rfl q pl
  show aI3 1 (eHoldL 1 _) _=_;generalize eHoldL 1 (eF f_9 (aC (eV 1) (aC (eF e_1 (aC (eF b_1 (aC (eV 0) (aC (e2 e_7 (zI 3) (eV 2)) aN))) (aC (zI 60) aN))) aN)))=EE at *;simp[h,l6]
 obtain⟨ρ',e,A,s2,rfl,la,u,h2⟩:=u_5 (g:=gN 2) (B:=w_7) (PW (.lst (O.map .int))) n 0 [.im (.lst (O.map .int)),.ow false (.lst []),.no,.no,.no,.no] (λ i ρ _ hi p=>aa i ρ (by omega) p) ⟨[],_,rfl,rfl,⟨trivial,rfl,by decide⟩,rfl⟩;have e:fGo (gN 2) w_7 (n_2 0 n) [.im (.lst (O.map .int)),.ow false (.lst []),.no,.no,.no,.no]=_:=e;have h0:A≠[]:=λ z=>by rw[z] at la;simp at la;omega
 have a9:A.length<=9:=by omega
 have ul:=u.len;have wk:=aw1 u.good h0 ul;have cw:cGo tYes (eF c_8 (aC (eV 0) aN)) [] (rds A)=some (tsA A):=x_9 A λ r Y=>by
  obtain⟨Q,ok,_⟩:=u.row Y;have x:=(O_7 ok.rd).1;generalize r.d=rd at *;simp[x]
 have lz:(rds A).length<=sizeLine:=a_1 (by rw[l_9];omega);have tA:=aH3 u.good;have jn:=aX4 tA (by rw[qy];omega);rw[<- bi2] at jn;have qn:=bK2 u.dp;have xc:=aZ2 u a9 h0 c1;have ap:0<A.length:=List.length_pos_iff.mpr h0;obtain⟨f0,f1⟩:=z_3 (c:=c1) (m:=A.length) (by omega);obtain⟨k,hk⟩:∃ k:Nat,c1.fmod (A.length:Int)=(k:Int):=⟨(c1.fmod (A.length:Int)).toNat,by omega⟩;have kl:k<A.length:=by omega
 have dA:A=A.take k++A[k]::A.drop (k+1):=by
  conv=>lhs;rw[<- Yw k A,Q2 kl]
 have gd:=u.good;rw[dA] at gd;have lk:(A.take k).length=k:=by rw[jg];omega
 have nw:sS "nowhere"∉nms (A.take k):=λ q=>bK0 u a9 (by
  rw[show nms (A.take k)=(nms A).take k from Ja ..] at q;exact Qv q)
 obtain⟨t,et,ht,d,ed,hd⟩:=ah6 gd (by omega) nw c2;rw[<- dA,lk] at et;have tx:∀ r∈A,Tx (txR r):=λ r Y=>tA _ (zn Y);have rf:=aI5 (q_3 gd).1 (by omega) (t:=t) (us:=(A.drop (k+1)).map txR) ht (λ s hs=>by
  obtain⟨r,Y,rfl⟩:=List.mem_map.mp hs;exact tx r (Qb Y)) (by rw[lk,qy,yr];omega) ed hd
 rw[lk] at rf;have ac:=aX4 (ts:=(A.take k).map txR++t::(A.drop (k+1)).map txR) (λ s hs=>by
  rcases qx hs with q | q
  ·obtain⟨r,Y,rfl⟩:=List.mem_map.mp q;exact tx r (Qv Y)
  ·rcases qw q with q | q
   ·rw[q];exact ht
   ·obtain⟨r,Y,rfl⟩:=List.mem_map.mp q;exact tx r (Qb Y)) (by simp only[zh,qy,zj,jg,yr];omega)
 have u1:r_0 (tsA A) none (some (k:Int))=((A.take k).map txR).map .str:=by rw[aN0,<- Ja,zm];rfl
 have u2:r_0 (tsA A) (some ((k:Int)+1)) none=((A.drop (k+1)).map txR).map .str:=by have:=aM9 (tsA A) (i:=k+1) (by rw[qy];omega);rw[<- List.map_drop] at this;rw[zm];exact this
 rw[yf,qz] at ac;have m1:(((A.take k).map txR).map D.str).length+1<=sizeLine:=a_1 (by rw[qy,qy,lk];omega);have m2:(((A.take k).map txR).map D.str).length+1+(((A.drop (k+1)).map txR).map D.str).length<=sizeLine:=a_1 (by rw[qy,qy,lk,qy,qy,yr];omega);have b1:-4611686018427387904<=(n:Int):=by omega
 have b2:(n:Int)<4611686018427387904:=by omega
 have d9:h_4 9=true:=e_4 (by decide) (by decide);have dl:h_4 (A.length:Int)=true:=e_4 (by omega) (by omega);have lr:=l_9 A;have af:A.length<=sizeLine:=a_1 (by omega);generalize Str.join lf ((A.take k).map txR++t::(A.drop (k+1)).map txR)=J2 at *;generalize ((A.take k).map txR).map D.str=X1 at *;generalize ((A.drop (k+1)).map txR).map D.str=X2 at *;generalize tsA A=TS at *;generalize Str.join lf (A.map txR)=J at *;generalize rds A=R at *;generalize O.map D.int=X at *;generalize ag:fGo (gN 2) w_7=G1 at *;unfold ac6 bw0;simp[-au9,-bC0,List.replicate,e0,e1,Z,f9,d9,hn,b1,b2,ag,e,cw,lz,jn,wk,qn,xc,lr,af,h0,dl,hk,et,u1,u2,m1,m2,ac,rf]
end Fx
namespace Fx
open PySem PySem.Spec PyProof.Rows L2
theorem I_6 {K:Frag}{H:Hp}:∀ q:List Int,Reps K H (q.map D.int) (q.map V.int)
 |[]=>Reps.nil_
 |n::r=>Reps.cons (d_3 H n) (I_6 r)
inductive EntF (K:Frag) (x:Str) (st:Stmt) (f:Addr):Prop
 |mk {od an:Option Addr}{sl:Array (Option Value)}{oc kV dc pm cd ct:Value} (a:nsIn K mainGlobals x=some (some (.ref f))) (l:K.lookup f=some ⟨oc,od,.func (fnOf x x (o_8 st) (h_3 st) (a_2 st) .none kV dc pm an cd ct),sl⟩) (c:codeIn K cd x=true) (k:keepIn K (.ref f)=true):EntF K x st f
inductive EntI (K:Frag) (st:Stmt) (f:Addr):Prop
 |mk {od an:Option Addr}{sl:Array (Option Value)}{oc kV dc pm cd ct:Value} (l:K.lookup f=some ⟨oc,od,.func (fnOf "__init__" "NoText.__init__" (o_8 st) (h_3 st) (a_2 st) .none kV dc pm an cd ct),sl⟩) (c:codeIn K cd "NoText.__init__"=true) (k:keepIn K (.ref f)=true):EntI K st f
theorem ent {K:Frag}{h:Heap}{mg:Str->Option Value}{x:Str}{st:Stmt}{ps:List Str}{f:Addr} (X:K.In h) (G:h.Ns mainGlobals mg) (e:EntF K x st f) (q:∀ fd,Fun K x x st f fd->Binds K fd ps []):∃ fd,EnD K mg x st ps f fd:=by obtain⟨a,l,c,k⟩:=e;have F:=ao6 (st:=st) l c k;exact⟨_,F,q _ F,mg_of X G a⟩
theorem us1 {P:List Value->Prop} (h:∀ a,P [a]):∀ us:List Value,us.length=1->P us
 |[_],_=>h ..
theorem us2 {P:List Value->Prop} (h:∀ a b,P [a,b]):∀ us:List Value,us.length=2->P us
 |[_,_],_=>h ..
theorem us3 {P:List Value->Prop} (h:∀ a b c,P [a,b,c]):∀ us:List Value,us.length=3->P us
 |[_,_,_],_=>h ..
theorem us4 {P:List Value->Prop} (h:∀ a b c d,P [a,b,c,d]):∀ us:List Value,us.length=4->P us
 |[_,_,_,_],_=>h ..
theorem us5 {P:List Value->Prop} (h:∀ a b c d e,P [a,b,c,d,e]):∀ us:List Value,us.length=5->P us
 |[_,_,_,_,_],_=>h ..
theorem all_mk {l:OpenLaw}{w:World}{K:Frag}{h:Heap}{mg:Str → Option Value}(X:K.In h) (G:h.Ns mainGlobals mg) (fi:mg "law"=some (.ref fa))
  (e1:EntF K "is_key" p_7 f1)
  (e2:EntF K "is_number" i_9 f2)
  (e3:EntF K "places_of" o_1 f3)
  (e4:EntF K "fits" ai0 f4)
  (e5:EntF K "word_value" l_5 f5)
  (e6:EntF K "in_order" r_6 f6)
  (e7:EntF K "are_unlike" l_8 f7)
  (e8:EntF K "keeps_bounds" k_2 f8)
  (e9:EntF K "read_row" f_8 f9)
  (eo:EntF K "bears_bounds" k_3 gb)
  (ed:EntF K "stands_right" d_1 fg)
  (e12:EntF K "read_works" j_6 em)
  (fz:EntF K "_law_cell_at" k_8 eu)
  (dt:EntF K "_law_digits" l_7 ew)
  (ee:EntF K "_law_number" l_6 d3)
  (d0:EntF K "_law_two" v_4 dv)
  (ft:EntF K "_law_keys" r_4 fh)
  (et:EntF K "_law_chain" i_7 fj)
  (dy:EntF K "_law_fold" r_5 ec)
  (ek:EntF K "_law_asked" i_8 fq)
  (fy:EntF K "_law_row" f_5 du)
  (eb:EntF K "_law_words" o_2 ef)
  (d8:EntF K "_law_refused" g_8 d4)
  (fw:EntF K "_law_spoilt" h_9 ev)
  (fu:EntF K "_law_exchanged" f_6 d2)
  (d1:EntF K "law" D_0 dr)
  (y1:nsIn K mainGlobals "LETTERS"=some (some (.str "abcdefghijklmnopqrstuvwxyz" fb))) (y2:nsIn K mainGlobals "LONGEST"=some (some (.int 8 ea))) (dn:K.lookup c0=some ⟨.type "tuple",none,.seq #[.str "in" b4,.str "time" bg,.str "only" bn,.str "but" br,.str "span" aw,.str "rest" b5,.str "turn" bj,.str "later" b1,.str "put" a6,.str "pour" b3] dm,bf⟩) (y3:nsIn K mainGlobals "CHAINS"=some (some (.ref c0))) (cu:K.lookup di=some ⟨.type "tuple",none,.seq #[.str "fixed" a1,.str "slide" a4,.str "gaps" cb,.str "ever" bv] c8,a3⟩) (y4:nsIn K mainGlobals "FOLDS"=some (some (.ref di))) (cv:K.lookup cy=some ⟨.type "tuple",none,.seq #[.str "FROM" ax,.str "LEFT" ce,.str "RIGHT" ay] c4,a2⟩) (y5:nsIn K mainGlobals "FROM_PLACES"=some (some (.ref cy))) (co:K.lookup c3=some ⟨.type "tuple",none,.seq #[.str "NAME" bu,.str "FROM" b7,.str "LEFT" bc,.str "RIGHT" b8,.str "KEY" b0,.str "OTHER" b6] cp,a0⟩) (y6:nsIn K mainGlobals "KEY_PLACES"=some (some (.ref c3))) (c7:K.lookup cn=some ⟨.type "tuple",none,.seq #[.str "LOW" ba,.str "HIGH" cf,.str "END" b9] c2,bi⟩) (y7:nsIn K mainGlobals "BOUND_PLACES"=some (some (.ref cn))) (cq:K.lookup cw=some ⟨.type "tuple",none,.seq #[.str "sum" bw,.str "less" a9,.str "left" av,.str "right" cj] dj,bo⟩) (y8:nsIn K mainGlobals "HOWS"=some (some (.ref cw))) (dc:K.lookup c5=some ⟨.type "tuple",none,.seq #[.str "count" bb,.str "sum" a7,.str "most" bz,.str "least" bq] de,bx⟩) (y9:nsIn K mainGlobals "FOLD_WORDS"=some (some (.ref c5))) (ei:nsIn K mainGlobals "FIGURES"=some (some (.str "0123456789" dk))) (eh:nsIn K mainGlobals "MOST_FIGURES"=some (some (.int 12 c1))) (eq:nsIn K mainGlobals "MOST_ROWS"=some (some (.int 24 cm))) (el:nsIn K mainGlobals "MOST_COUNTED"=some (some (.int 50 c9)))
  (cz:K.lookup az=some {cls:=.type "dict",data:=.dict #[⟨PyData.keyHash w.params (Str.ofString "in"),.str "in" b2,.str "NAME LOW HIGH" au⟩,⟨PyData.keyHash w.params (Str.ofString "time"),.str "time" cg,.str "NAME FROM BEGIN END" af⟩,⟨PyData.keyHash w.params (Str.ofString "only"),.str "only" bl,.str "NAME FROM KEY .." ao⟩,⟨PyData.keyHash w.params (Str.ofString "but"),.str "but" bp,.str "NAME FROM KEY .." an⟩,⟨PyData.keyHash w.params (Str.ofString "span"),.str "span" bh,.str "NAME FROM LOW HIGH" ap⟩,⟨PyData.keyHash w.params (Str.ofString "rest"),.str "rest" a8,.str "NAME FROM M R" ae⟩,⟨PyData.keyHash w.params (Str.ofString "turn"),.str "turn" a5,.str "NAME FROM A B" aj⟩,⟨PyData.keyHash w.params (Str.ofString "later"),.str "later" cc,.str "NAME FROM C" al⟩,⟨PyData.keyHash w.params (Str.ofString "put"),.str "put" be,.str "NAME FROM KEY OTHER .." ar⟩,⟨PyData.keyHash w.params (Str.ofString "pour"),.str "pour" bd,.str "NAME FROM FROM .." as⟩,⟨PyData.keyHash w.params (Str.ofString "pair"),.str "pair" am,.str "NAME LEFT RIGHT REACH HOW" Z⟩,⟨PyData.keyHash w.params (Str.ofString "fixed"),.str "fixed" ai,.str "NAME FROM WIDTH FOLD" ac⟩,⟨PyData.keyHash w.params (Str.ofString "slide"),.str "slide" ah,.str "NAME FROM WIDTH STEP FOLD" O⟩,⟨PyData.keyHash w.params (Str.ofString "gaps"),.str "gaps" aq,.str "NAME FROM GAP FOLD" xad⟩,⟨PyData.keyHash w.params (Str.ofString "ever"),.str "ever" ag,.str "NAME FROM FOLD" aa⟩,⟨PyData.keyHash w.params (Str.ofString "ask"),.str "ask" ak,.str "NAME FROM" Y⟩] c6}) (df:(az==sysModules)=false) (d9:nsIn K mainGlobals "FORMS"=some (some (.ref az)))
  (q0:nsIn K mainGlobals "NoText"=some (some (.ref q)))
  (q2:nsIn K mainGlobals "WellError"=some (some (.ref u2)))
  (q3:PySem.W.findIn K (.ref q) "__init__"=some (some (.ref u3)))
  (q4:EntI K T_8 u3)
  (q5:ad5 K q u3=true)
  (q6:clV K q=true)
  (q7:PySem.W.findIn K (.ref q) "__setattr__"=some (some (.builtin "object.__setattr__")))
  (q8:PySem.W.findIn K (.ref q) "at"=some none)
  (q9:PySem.W.findIn K (.ref q) "__getattribute__"=some (some (.builtin "BaseException.__getattribute__")))
  (fe:PySem.W.findIn K (.ref q) "__getattr__"=some none)
  (d7:PySem.W.findIn K (.ref q) "__class__"=some (some (.builtin "object.__class__")))
  (ga:PySem.W.specialIn K (.builtin "object.__class__") "__get__"=some (some (.builtin "getset_descriptor.__get__")))
  (ej:PySem.W.takesIn K (.builtin "object.__class__")=some true)
  (cx:PySem.W.mroIn K q (.type "object")=some true)
  (gd:PySem.W.mroIn K q (.type "BaseException")=some true)
  (fl:PySem.W.exmOne K (.ref q) (.ref u2)=some true)
  (fc:PySem.W.kitOne K (.ref q) (.ref q)=some true)
  (d5:PySem.W.kitOne K (.type "NoneType") (.ref q)=some false)
  (r1:nsIn K mainGlobals "Late"=some (some (.ref v1)))
  (r2:nsIn K mainGlobals "NoCell"=some (some (.ref v2)))
  (r3:nsIn K mainGlobals "NoComing"=some (some (.ref v3)))
  (r4:nsIn K mainGlobals "NoOrder"=some (some (.ref v4)))
  (r5:nsIn K mainGlobals "NoPaper"=some (some (.ref v5)))
  (r6:nsIn K mainGlobals "NoWorks"=some (some (.ref v6)))
  (r7:PySem.W.kitAny K (.ref q) [.ref v1,.ref v2,.ref v3,.ref v4,.ref v5,.ref v6]=some false)
  (r8:PySem.W.kitOne K (.ref q) (.type "ValueError")=some true)
  (r9:nsIn K mainGlobals "ValueError"=some none)
  (z1:nsIn K mainGlobals "abs"=some none) (z2:nsIn K mainGlobals "len"=some none) (z3:nsIn K mainGlobals "max"=some none) (z4:nsIn K mainGlobals "min"=some none) (z5:nsIn K mainGlobals "any"=some none) (z6:nsIn K mainGlobals "all"=some none) (z7:nsIn K mainGlobals "range"=some none) (z8:nsIn K mainGlobals "isinstance"=some none) (z9:nsIn K mainGlobals "int"=some none) (fo:nsIn K mainGlobals "bool"=some none) (fm:nsIn K mainGlobals "str"=some none) (en:nsIn K mainGlobals "tuple"=some none) (ey:nsIn K mainGlobals "list"=some none) (d6:nsIn K mainGlobals "sorted"=some none) (ez:nsIn K mainGlobals "dict"=some none) (dw:nsIn K mainGlobals "set"=some none) (ff:nsIn K mainGlobals "sum"=some none) (fk:nsIn K mainGlobals "zip"=some none) (dz:nsIn K mainGlobals "enumerate"=some none) (fv:nsIn K mainGlobals "reversed"=some none) :
  ∃ fd:FuncData,(∀ (s:Shared) (v:Value),BindsTo s fd ⟨[v],[]⟩ [("_law_script",v)]) ∧ ∀ base:Heap,K.In base → base.Ns mainGlobals mg → FnOk l.prog w K mg base CX0 7 fa fd ["_law_script"] (spP K ac6):=by
 obtain @⟨ge,dl,gg,gf,da,db,cr,dh,cl,dq,eg,fx,gc⟩:=d1;have e:=fi.symm.trans (mg_of X G dq);cases e;obtain⟨li,ci,ki⟩:=q4;have FI:=ao6 (st:=T_8) li ci ki;have bI:=FI.binds (ps:=["self","at"]) λ _ _ _ _ _ _=>us2 λ _ _=>rfl;have M:∀{x},nsIn K mainGlobals x=some none->mg x=none:=mg_none_of X G;have N:∀{x v},nsIn K mainGlobals x=some (some v)->mg x=some v:=mg_of X G;have T:Blt w K mg:=⟨M z1,M z2,M z3,M z4,M z5,M z6,M z7,M z8,M z9,M fo,M fm,M en,M ey,M d6,M ez,M dw,M ff,M fk,M dz,M fv,⟨_,N y1⟩,⟨_,N y2⟩,⟨_,N y3,(w_8 dn (by simp) (b_5 b_8 (b_5 b_8 (b_5 b_8 (b_5 b_8 (b_5 b_8 (b_5 b_8 (b_5 b_8 (b_5 b_8 (b_5 b_8 (b_5 b_8 o_7)))))))))))⟩,⟨_,N y4,(w_8 cu (by simp) (b_5 b_8 (b_5 b_8 (b_5 b_8 (b_5 b_8 o_7)))))⟩,⟨_,N y5,(w_8 cv (by simp) (b_5 b_8 (b_5 b_8 (b_5 b_8 o_7))))⟩,⟨_,N y6,(w_8 co (by simp) (b_5 b_8 (b_5 b_8 (b_5 b_8 (b_5 b_8 (b_5 b_8 (b_5 b_8 o_7)))))))⟩,⟨_,N y7,(w_8 c7 (by simp) (b_5 b_8 (b_5 b_8 (b_5 b_8 o_7))))⟩,⟨_,N y8,(w_8 cq (by simp) (b_5 b_8 (b_5 b_8 (b_5 b_8 (b_5 b_8 o_7)))))⟩,⟨_,N y9,(w_8 dc (by simp) (b_5 b_8 (b_5 b_8 (b_5 b_8 (b_5 b_8 o_7)))))⟩,⟨_,N ei⟩,⟨_,N eh⟩,⟨_,N eq⟩,⟨_,N el⟩,⟨_,N d9,_,_,cz,df,(.cons b_8 (.cons b_8 (.cons b_8 (.cons b_8 (.cons b_8 (.cons b_8 (.cons b_8 (.cons b_8 (.cons b_8 (.cons b_8 (.cons b_8 (.cons b_8 (.cons b_8 (.cons b_8 (.cons b_8 (.cons b_8 .nil)))))))))))))))),by decide⟩,⟨q,u2,u3,_,N q0,N q2,q5,⟨q7,q8,bv3 q6⟩,⟨bv2 cx,q9,fe,d7,ga,ej,cx,gd⟩,fl,fc,d5,FI,bI⟩,⟨q,v1,v2,v3,v4,v5,v6,N q0,N r1,N r2,N r3,N r4,N r5,N r6,r7,r8,M r9⟩⟩;obtain⟨_,E1⟩:=ent X G e1 (ps:=["x"]) λ _ F=>F.binds λ _ _ _ _ _ _=>us1 λ _=>rfl;obtain⟨_,E2⟩:=ent X G e2 (ps:=["word"]) λ _ F=>F.binds λ _ _ _ _ _ _=>us1 λ _=>rfl;obtain⟨_,E3⟩:=ent X G e3 (ps:=["word","count"]) λ _ F=>F.binds λ _ _ _ _ _ _=>us2 λ _ _=>rfl;obtain⟨_,E4⟩:=ent X G e4 (ps:=["place","word"]) λ _ F=>F.binds λ _ _ _ _ _ _=>us2 λ _ _=>rfl;obtain⟨_,E5⟩:=ent X G e5 (ps:=["word"]) λ _ F=>F.binds λ _ _ _ _ _ _=>us1 λ _=>rfl;obtain⟨_,E6⟩:=ent X G e6 (ps:=["low","high"]) λ _ F=>F.binds λ _ _ _ _ _ _=>us2 λ _ _=>rfl;obtain⟨_,E7⟩:=ent X G e7 (ps:=["names"]) λ _ F=>F.binds λ _ _ _ _ _ _=>us1 λ _=>rfl;obtain⟨_,E8⟩:=ent X G e8 (ps:=["word","froms","rest"]) λ _ F=>F.binds λ _ _ _ _ _ _=>us3 λ _ _ _=>rfl;obtain⟨_,E9⟩:=ent X G e9 (ps:=["text"]) λ _ F=>F.binds λ _ _ _ _ _ _=>us1 λ _=>rfl;obtain⟨_,E10⟩:=ent X G eo (ps:=["fold","above","low"]) λ _ F=>F.binds λ _ _ _ _ _ _=>us3 λ _ _ _=>rfl;obtain⟨_,E11⟩:=ent X G ed (ps:=["row","above"]) λ _ F=>F.binds λ _ _ _ _ _ _=>us2 λ _ _=>rfl;obtain⟨_,E12⟩:=ent X G e12 (ps:=["text"]) λ _ F=>F.binds λ _ _ _ _ _ _=>us1 λ _=>rfl;obtain⟨_,E13⟩:=ent X G fz (ps:=["_law_script","_law_k"]) λ _ F=>F.binds λ _ _ _ _ _ _=>us2 λ _ _=>rfl;obtain⟨_,E14⟩:=ent X G dt (ps:=["_law_cell","_law_many"]) λ _ F=>F.binds λ _ _ _ _ _ _=>us2 λ _ _=>rfl;obtain⟨_,E15⟩:=ent X G ee (ps:=["_law_digits_here","_law_at"]) λ _ F=>F.binds λ _ _ _ _ _ _=>us2 λ _ _=>rfl;obtain⟨_,E16⟩:=ent X G d0 (ps:=["_law_digits_here","_law_at"]) λ _ F=>F.binds λ _ _ _ _ _ _=>us2 λ _ _=>rfl;obtain⟨_,E17⟩:=ent X G ft (ps:=["_law_digits_here","_law_at","_law_many"]) λ _ F=>F.binds λ _ _ _ _ _ _=>us3 λ _ _ _=>rfl;obtain⟨_,E18⟩:=ent X G et (ps:=["_law_word","_law_digits_here"]) λ _ F=>F.binds λ _ _ _ _ _ _=>us2 λ _ _=>rfl;obtain⟨_,E19⟩:=ent X G dy (ps:=["_law_word","_law_digits_here","_law_summed"]) λ _ F=>F.binds λ _ _ _ _ _ _=>us3 λ _ _ _=>rfl;obtain⟨_,E20⟩:=ent X G ek (ps:=["_law_fold_here","_law_above","_law_digits_here"]) λ _ F=>F.binds λ _ _ _ _ _ _=>us3 λ _ _ _=>rfl;obtain⟨_,E21⟩:=ent X G fy (ps:=["_law_above","_law_digits_here"]) λ _ F=>F.binds λ _ _ _ _ _ _=>us2 λ _ _=>rfl;obtain⟨_,E22⟩:=ent X G eb (ps:=["_law_row_here"]) λ _ F=>F.binds λ _ _ _ _ _ _=>us1 λ _=>rfl;obtain⟨_,E23⟩:=ent X G d8 (ps:=["_law_text","_law_at"]) λ _ F=>F.binds λ _ _ _ _ _ _=>us2 λ _ _=>rfl;obtain⟨_,E24⟩:=ent X G fw (ps:=["_law_works","_law_at","_law_cell"]) λ _ F=>F.binds λ _ _ _ _ _ _=>us3 λ _ _ _=>rfl;obtain⟨_,E25⟩:=ent X G fu (ps:=["_law_works","_law_rows","_law_cell"]) λ _ F=>F.binds λ _ _ _ _ _ _=>us3 λ _ _ _=>rfl;have F26:=ao6 (st:=D_0) eg fx gc;have gh:=F26.binds (ps:=["_law_script"]) λ _ _ _ _ _ _=>us1 λ _=>rfl
 refine⟨fnOf "law" "law" (o_8 D_0) (h_3 D_0) (a_2 D_0) .none da db cr dl dh cl,λ s v=>.of_eq rfl,λ base _ _=>?_⟩;have G1:DefOk l.prog w K mg base 1 "is_key" d_7:=ak9 E1 T;have G2:DefOk l.prog w K mg base 1 "is_number" c_9:=J_8 E2 T;have G3:DefOk l.prog w K mg base 1 "places_of" b_9:=J_4 E3 T;have G6:DefOk l.prog w K mg base 1 "in_order" m_7:=P_5 E6 T;have G7:DefOk l.prog w K mg base 1 "are_unlike" e_9:=E_3 E7 T;have G10:DefOk l.prog w K mg base 1 "bears_bounds" e_6:=w_2 E10 T;have G13:DefOk l.prog w K mg base 1 "_law_cell_at" b_1:=z_1 E13 T;have G14:DefOk l.prog w K mg base 1 "_law_digits" e_1:=E_2 E14 T;have G15:DefOk l.prog w K mg base 1 "_law_number" a_5:=E_1 E15 T;have G17:DefOk l.prog w K mg base 1 "_law_keys" c_3:=P_3 E17 T;have G22:DefOk l.prog w K mg base 1 "_law_words" c_8:=J_5 E22 T;have G4:DefOk l.prog w K mg base 2 "fits" d_4:=aT6 E4 T G1 G2;have G5:DefOk l.prog w K mg base 2 "word_value" c_4:=D_8 E5 T G2;have G8:DefOk l.prog w K mg base 2 "keeps_bounds" a_3:=w_1 E8 T G7 G6;have G11:DefOk l.prog w K mg base 2 "stands_right" b_0:=w_0 E11 T G10;have G16:DefOk l.prog w K mg base 2 "_law_two" g_9:=ab7 E16 T G15;have G19:DefOk l.prog w K mg base 2 "_law_fold" g_6:=P_4 E19 T G15;have G24:DefOk l.prog w K mg base 2 "_law_spoilt" g_5:=E_0 E24 T G22;have G9:DefOk l.prog w K mg base 3 "read_row" b_4:=P_2 E9 T G4 G8 G3 G5;have G18:DefOk l.prog w K mg base 3 "_law_chain" c_0:=J_6 E18 T G17 G15 G16;have G20:DefOk l.prog w K mg base 3 "_law_asked" g_2:=J_7 E20 T G16;have G12:DefN l.prog w K mg base 4 "read_works" g_4:=D_9 E12 T G9 G11;have GX:DefX l.prog w K mg base 4 "read_works" f_1:=z_2 E12 T G9 G11;have G21:DefOk l.prog w K mg base 4 "_law_row" f_9:=ab8 E21 T G20 G18 G19 G17 G15;have G23:DefOk l.prog w K mg base 5 "_law_refused" f_0:=z_0 E23 T GX;have G25:DefOk l.prog w K mg base 6 "_law_exchanged" e_8:=t_7 E25 T G23;exact bs3 F26 T G13 G14 G25 G23 G21 G24 G22 G12
theorem walk {l:OpenLaw}{q:Program}{O:List Str}{XP:(Str->Option Value)->Heap->Prop}{YP:World->Heap->Prop}{d:DefRec}{K:Params->Frag} (hn:l.most=some 63) (Y:d.params.defaults=[])
  (hY:∀ (w:World) (h:Heap),YP w h->(K w.params).In h)
  (F:∀ (w:World) (mg:Str->Option Value) (fa:Addr) (h:Heap),(K w.params).In h->h.Ns mainGlobals mg->mg d.name=some (.ref fa) ->
   ∃ fd:FuncData,(∀ (s:Shared) (u:Value),BindsTo s fd ⟨[u],[]⟩ [("_law_script",u)]) ∧ ∀ base:Heap,(K w.params).In base → base.Ns mainGlobals mg → FnOk l.prog w (K w.params) mg base CX0 7 fa fd ["_law_script"] (spP (K w.params) ac6)) :
  PySem.W.WalkO q O XP YP l.row.toRowW d [] (λ f vs=>PySem.call f vs) :=
 L2.walk_of (n:=63) (k:=7) (x:="_law_script") (CX:=λ _=>CX0) (sp:=λ w=>spP (K w.params) ac6) hn (by decide) Y ⟨rfl,by decide,by decide⟩ hY F
  (λ w H a Z hl _ hS=>⟨H,[.lst (Z.map .int)],.bl true,Same.refl _,Reps.one (by unfold Rep;exact⟨a,_,rfl,hS,I_6 Z⟩),law_true Z hl,λ v Hi' H' S r=>by unfold Rep at r;exact r⟩) λ _ _ _ _ _ z=>z
end Fx
open PySem PySem.W PyProof.Rows
def PySem.W.Fast.tw10414323432861535871:=0
def PySem.W.Fast.tw16879271951269519025:=0
def PySem.W.Fast.tw9816302974604070874:=0
def PySem.W.Fast.tw12699500248552283315:=0
def PySem.W.Fast.tw12991475348174062391:=0
def PySem.W.Fast.tw9061197490608877253:=0
def PySem.W.Fast.tw11464671411099783407:=0
def PySem.W.Fast.tw4995897818823552100:=0
def PySem.W.Fast.tw17262599916265696174:=0
def PySem.W.Fast.tw12310533494136627965:=0
def PySem.W.Fast.tw5341288108316122525:=0
def PySem.W.Fast.tw9298807745213671638:=0
def PySem.W.Fast.tw15525998907898006270:=0
def PySem.W.Fast.tw7203511316993867178:=0
def PySem.W.Fast.tw3817110975367914363:=0
def PySem.W.Fast.tw5087246474816098071:=0
def PySem.W.Fast.tw9054729909145001361:=0
def PySem.W.Fast.tw15445478037695308250:=0
def PySem.W.Fast.tw14615322933255094120:=0
def PySem.W.Fast.tw3503696735101736427:=0
def PySem.W.Fast.tw4652942663953349619:=0
def PySem.W.Fast.tw6415749493857537865:=0
def PySem.W.Fast.tw1312399390499008503:=0
def PySem.W.Fast.tw1498869999038612445:=0
def PySem.W.Fast.tw13841214383154870494:=0
def PySem.W.Fast.tw13973379641440110640:=0
def PySem.W.Fast.tw69583763389086740:=0
def PySem.W.Fast.tw5506869009235249927:=0
def PySem.W.Fast.tw8949587998490412420:=0
def PySem.W.Fast.tw2800007723501679559:=0
def PySem.W.Fast.tw267756644313480372:=0
def PySem.W.Fast.tw14119684013663121313:=0
def PySem.W.Fast.tw685626111780810399:=0
def PySem.W.Fast.tw17703295929948602379:=0
def PySem.W.Fast.tw2939786259014413220:=0
def PySem.W.Fast.tw3446947197602518048:=0
def PySem.W.Fast.tw633857493911717475:=0
def PySem.W.Fast.tw10752876796115457224:=0
def PySem.W.Fast.tw8571450304267185462:=0
def PySem.W.Fast.tw10546845643964208654:=0
def PySem.W.Fast.tw4618614300566437217:=0
def PySem.W.Fast.tw8558581758074571624:=0
def PySem.W.Fast.tw12648317535206115053:=0
def PySem.W.Fast.tw17895240320158525727:=0
def PySem.W.Fast.tw4512299615618979838:=0
def PySem.W.Fast.tw13131607699246823311:=0
def PySem.W.Fast.tw3745069365134029024:=0
def PySem.W.Fast.tw4288597776141827382:=0
def PySem.W.Fast.tw4646369685393260132:=0
def PySem.W.Fast.tw13843464595327471764:=0
def PySem.W.Fast.tw9637756367677399436:=0
def PySem.W.Fast.tw1631638051824014006:=0
def PySem.W.Fast.tw16254389393081754520:=0
def PySem.W.Fast.tw893418882941665980:=0
def PySem.W.Fast.tw16353959921004322046:=0
def PySem.W.Fast.tw16905204606148401607:=0
def PySem.W.Fast.tw15949463157596867314:=0
def PySem.W.Fast.tw8300199823462880691:=0
def PySem.W.Fast.tw11735734559076372962:=0
def PySem.W.Fast.tw15232350275238454156:=0
def PySem.W.Fast.tw3361715419350271007:=0
def PySem.W.Fast.tw14050941219716748984:=0
def PySem.W.Fast.tw12575971182466709009:=0
def PySem.W.Fast.tw2419989535899803474:=0
set_option maxRecDepth 100000 in
set_option maxHeartbeats 0 in
theorem PySem.Challenge.cw_latewell_k22_spoilt_works_holds : PySem.Challenge.rw_latewell_k22_spoilt_works.Holds := by
 w_on;o_law;k_head;(case hw=>w_witness2)
 k_fill
 refine Fx.walk (l:=PySem.Challenge.rw_latewell_k22_spoilt_works) rfl rfl (λ w h Y=>PySem.W.kIn_of Y) ?F
 case F =>
  intro w mg fa h KX G hmg;refine' Fx.all_mk KX G hmg ?e1 ?e2 ?e3 ?e4 ?e5 ?e6 ?e7 ?e8 ?e9 ?e10 ?e11 ?e12 ?e13 ?e14 ?e15 ?e16 ?e17 ?e18 ?e19 ?e20 ?e21 ?e22 ?e23 ?e24 ?e25 ?e26 ?y1 ?y2 ?lec3 ?y3 ?lec4 ?y4 ?lec5 ?y5 ?lec6 ?y6 ?lec7 ?y7 ?lec8 ?y8 ?lec9 ?y9 ?y10 ?y11 ?y12 ?y13 ?led0 ?ysd0 ?yd0 ?q0 ?q2 ?q3 ?q4 ?q5 ?q6 ?q7 ?q8 ?q9 ?q10 ?q11 ?q12 ?q13 ?q14 ?q15 ?q16 ?q17 ?q18 ?r1 ?r2 ?r3 ?r4 ?r5 ?r6 ?r7 ?r8 ?r9 ?z1 ?z2 ?z3 ?z4 ?z5 ?z6 ?z7 ?z8 ?z9 ?z10 ?z11 ?z12 ?z13 ?z14 ?z15 ?z16 ?z17 ?z18 ?z19 ?z20
  all_goals try (refine' Fx.EntF.mk ?a ?l ?c ?k;(case a=>k_is);(case l=>k_is);(case c=>k_is);(case k=>k_is))
  (case y1|y2|y3|y4|y5|y6|y7|y8|y9|y10|y11|y12|y13|lec3|lec4|lec5|lec6|lec7|lec8|lec9|yd0=>k_is)
  (case ysd0=>rfl)
  (case led0|q0|q2|q3=>k_is)
  (case q4=>refine' Fx.EntI.mk ?l ?c ?k;(case l=>k_is);(case c=>k_is);(case k=>k_is))
  (case q5=>kernel_rfl)
  (case q6=>kernel_rfl)
  (case q7|q8|q9|q10|q11|q12|q13|q14|q15=>k_is)
  (case q16=>kts_exm)
  (case q17=>kit_is)
  (case q18=>kit_is)
  (case r1|r2|r3|r4|r5|r6=>k_is)
  (case r7=>kit_is)
  (case r8=>kit_is)
  (case r9|z1|z2|z3|z4|z5|z6|z7|z8|z9|z10|z11|z12|z13|z14|z15|z16|z17|z18|z19|z20=>k_is)

