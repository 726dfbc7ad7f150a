import PyProof.Rows.All
import Wide.All
import OpenK.AllK
import Wide.FinOn
import Lean
import PyProof.EqAt
import PyProof.EqKinds
import PyProof.TupleCall
import PySem.Sem
import PySem.Builtin.Int.W1All
import PyProof.StrBlockI
import PyProof.StrBlock2
import KE.KEqDict
import KE.KDictOf
import PyProof.Rows.SortStr
import PyProof.TupleOfSeq
import PyProof.AttrMissHeap
import PyProof.TupleIter
import PyProof.DictUpdate
import PyProof.ListNew
import PyProof.InstStoreFacts
import PyProof.LayNew
import PyProof.ExcInit
import PyProof.ExcClass3
import KE.KSortTup
import KE.KIntText
import PyProof.Rows.StrNews
import PyProof.Rows.StrItems
import PyProof.EnumMake
import PyProof.EnumFor
import PyProof.EnumStmt
import PyProof.EnumIter
import KE.KRevIter
import KE.KDictList
import PyProof.SetKind
import PyProof.DictKinds
import PyProof.SeqWrite
import PyProof.CollectWalk
import PyProof.FactsAll.set_1
import PyProof.FactsAll.set_2
import PyProof.FactsAll.set_3
import PyProof.Rows.SetFrom
import PyProof.Walks
import PyProof.WalksS
import PyProof.FactsAll.tuple_iterator
import PyProof.SetRoads
import PyProof.ZipIter
import PyProof.Rows.TupIter
import PyProof.TupleOfGen
import PyProof.Rows.SumAny
import KE.KDictLaws
import PyProof.Rows.SortWalk
import PyProof.AutoSeq1
import KE.KPairComp
import PySem.Challenge.RW_latewell_k44_origins_by_ways
set_option compiler.extract_closed false
set_option genSizeOfSpec false
set_option genSizeOf false
set_option Elab.async false
set_option linter.all false
set_option maxRecDepth 100000
set_option maxHeartbeats 4000000
theorem gO{A B C D:Prop}{G:Prop}(h:A/\B/\C/\D)(k:A->B->C->D->G):G:=let⟨p,q,r,s⟩:=h;k p q r s
theorem jV{A B C D E:Prop}{G:Prop}(h:A/\B/\C/\D/\E)(k:A->B->C->D->E->G):G:=let⟨p,q,r,s,t⟩:=h;k p q r s t
theorem eS{A B C D E F:Prop}{G:Prop}(h:A/\B/\C/\D/\E/\F)(k:A->B->C->D->E->F->G):G:=let⟨p,q,r,s,t,u⟩:=h;k p q r s t u
theorem aW{A B C:α→Prop}{G:Prop}(h:∃a,A a/\B a/\C a)(k:∀a,A a->B a->C a->G):G:=let⟨a,p,q,r⟩:=h;k a p q r
theorem dE{A B C D:α→Prop}{G:Prop}(h:∃a,A a/\B a/\C a/\D a)(k:∀a,A a->B a->C a->D a->G):G:=let⟨a,p,q,r,s⟩:=h;k a p q r s
theorem k6{A B C D E:α→Prop}{G:Prop}(h:∃a,A a/\B a/\C a/\D a/\E a)(k:∀a,A a->B a->C a->D a->E a->G):G:=let⟨a,p,q,r,s,t⟩:=h;k a p q r s t
theorem cX{A B:α→β→Prop}{G:Prop}(h:∃a b,A a b/\B a b)(k:∀a b,A a b->B a b->G):G:=let⟨a,b,p,q⟩:=h;k a b p q
theorem cF{A B C:α→β→Prop}{G:Prop}(h:∃a b,A a b/\B a b/\C a b)(k:∀a b,A a b->B a b->C a b->G):G:=let⟨a,b,p,q,r⟩:=h;k a b p q r
theorem d5{A B C D:α→β→Prop}{G:Prop}(h:∃a b,A a b/\B a b/\C a b/\D a b)(k:∀a b,A a b->B a b->C a b->D a b->G):G:=let⟨a,b,p,q,r,s⟩:=h;k a b p q r s
theorem iZ{A B C D E:α→β→Prop}{G:Prop}(h:∃a b,A a b/\B a b/\C a b/\D a b/\E a b)(k:∀a b,A a b->B a b->C a b->D a b->E a b->G):G:=let⟨a,b,p,q,r,s,t⟩:=h;k a b p q r s t
theorem ia{A:α→β→γ→Prop}{G:Prop}(h:∃a b c,A a b c)(k:∀a b c,A a b c->G):G:=let⟨a,b,c,p⟩:=h;k a b c p
theorem ib{A B:α→β→γ→Prop}{G:Prop}(h:∃a b c,A a b c/\B a b c)(k:∀a b c,A a b c->B a b c->G):G:=let⟨a,b,c,p,q⟩:=h;k a b c p q
theorem d7{A B C:α→β→γ→Prop}{G:Prop}(h:∃a b c,A a b c/\B a b c/\C a b c)(k:∀a b c,A a b c->B a b c->C a b c->G):G:=let⟨a,b,c,p,q,r⟩:=h;k a b c p q r
theorem fA{A B C D:α→β→γ→Prop}{G:Prop}(h:∃a b c,A a b c/\B a b c/\C a b c/\D a b c)(k:∀a b c,A a b c->B a b c->C a b c->D a b c->G):G:=let⟨a,b,c,p,q,r,s⟩:=h;k a b c p q r s
theorem k7{A B:α→β→γ→δ→Prop}{G:Prop}(h:∃a b c d,A a b c d/\B a b c d)(k:∀a b c d,A a b c d->B a b c d->G):G:=let⟨a,b,c,d,p,q⟩:=h;k a b c d p q
theorem bY{A B C:α→β→γ→δ→Prop}{G:Prop}(h:∃a b c d,A a b c d/\B a b c d/\C a b c d)(k:∀a b c d,A a b c d->B a b c d->C a b c d->G):G:=let⟨a,b,c,d,p,q,r⟩:=h;k a b c d p q r
theorem bL{A B C:α→β→γ→δ→ε→Prop}{G:Prop}(h:∃a b c d e,A a b c d e/\B a b c d e/\C a b c d e)(k:∀a b c d e,A a b c d e->B a b c d e->C a b c d e->G):G:=let⟨a,b,c,d,e,p,q,r⟩:=h;k a b c d e p q r
theorem br{a b:α}(h:some a=some b):a=b:=Option.some.inj h
theorem Ka{a:α}{G:Prop}(h:none=some a):G:=nomatch h
theorem i1{A B C D:Prop}(p:A)(q:B)(r:C)(s:D):A/\B/\C/\D:=⟨p,q,r,s⟩
theorem jW{A B C D E:Prop}(p:A)(q:B)(r:C)(s:D)(t:E):A/\B/\C/\D/\E:=⟨p,q,r,s,t⟩
theorem cN{A B C:α→Prop}(a:α)(p:A a)(q:B a)(r:C a):∃a,A a/\B a/\C a:=⟨a,p,q,r⟩
theorem gj{A B C D:α→Prop}(a:α)(p:A a)(q:B a)(r:C a)(s:D a):∃a,A a/\B a/\C a/\D a:=⟨a,p,q,r,s⟩
theorem ie{A B:α→β→Prop}(a:α)(b:β)(p:A a b)(q:B a b):∃a b,A a b/\B a b:=⟨a,b,p,q⟩
theorem bE{A B C:α→β→Prop}(a:α)(b:β)(p:A a b)(q:B a b)(r:C a b):∃a b,A a b/\B a b/\C a b:=⟨a,b,p,q,r⟩
theorem ig{A B C D:α→β→Prop}(a:α)(b:β)(p:A a b)(q:B a b)(r:C a b)(s:D a b):∃a b,A a b/\B a b/\C a b/\D a b:=⟨a,b,p,q,r,s⟩
theorem dF{A B C:α→β→γ→δ→Prop}(a:α)(b:β)(c:γ)(d:δ)(p:A a b c d)(q:B a b c d)(r:C a b c d):∃a b c d,A a b c d/\B a b c d/\C a b c d:=⟨a,b,c,d,p,q,r⟩
theorem bA{A B C:α→β→γ→δ→ε→Prop}(a:α)(b:β)(c:γ)(d:δ)(e:ε)(p:A a b c d e)(q:B a b c d e)(r:C a b c d e):∃a b c d e,A a b c d e/\B a b c d e/\C a b c d e:=⟨a,b,c,d,e,p,q,r⟩
noncomputable section
open PySem.W (Frag nsIn mg_of mg_none_of fnOf codeIn keepIn OpenLaw)
section
open PySem PyProof.Rows
abbrev qb:=@wpAny_bind
abbrev qc:=@wpAny_pure
abbrev qd:=@Heap.get?_push_of_some
abbrev qg:=@List.mem_cons_self
abbrev qh:=@List.mem_cons_of_mem
abbrev qi:=@Option.some.inj
abbrev qj:=@Nat.le_refl
abbrev qk:=@Heap.get?_push_size
abbrev qm:=@Heap.lt_size
abbrev qo:=@List.mem_append_right
abbrev qp:=@Nat.lt_of_lt_of_le
abbrev qr:=@Nat.ne_of_lt
theorem qt{α:Type _}{a b:α}{l:List α}(h:a∈b::l):a=b\/a∈l:=List.mem_cons.mp h
theorem qv{α:Type _}{a:α}{l k:List α}(h:a∈l++k):a∈l\/a∈k:=List.mem_append.mp h
abbrev qw:=@List.length_map
abbrev qx:=@List.map_cons
abbrev qy:=@Array.length_toList
abbrev zc:=@Nat.le_trans
abbrev zd:=@Bool.and_eq_true
abbrev ze:=@List.mem_of_getElem?
abbrev zf:=@List.getElem?_set_ne
abbrev zg:=@List.size_toArray
abbrev zh:=@List.length_cons
abbrev zi:=@List.length_append
abbrev zj:=@Bool.false_ne_true
abbrev zk:=@List.getElem?_eq_getElem
abbrev zl:=@List.getElem?_set_self
abbrev zm:=@decide_eq_true
abbrev zo:=@List.getElem?_map
abbrev zq:=@PySem.wpAny_setState_of
abbrev zr:=@PySem.Heap.get?_update_self
abbrev zt:=@Ne.symm
abbrev zv:=@List.map_append
abbrev zx:=@List.append_nil
abbrev zy:=@PySem.wpAny_mono
abbrev z0:=@PySem.wpAny_holding
abbrev yb:=@PySem.wpAny_ite_split
abbrev yd:=@List.map_map
abbrev ye:=@Nat.zero_le
abbrev yf:=@List.length_set
abbrev yg:=@List.map_nil
abbrev yh:=@PySem.Heap.get?_update_other
abbrev yi:=@PySem.wpAny_newObj_type
abbrev yj:=@Array.getElem?_eq_getElem
abbrev yk:=@Int.le_refl
abbrev ym:=@PySem.Heap.SameBut.update
abbrev yn:=@List.flatMap_cons
abbrev yo:=@decide_eq_true_iff
abbrev yp:=@Int.fdiv_eq_ediv_of_nonneg
abbrev yq:=@List.drop_eq_getElem_cons
abbrev yr:=@Bool.eq_iff_iff
abbrev yt:=@PySem.wpAny_askSetting
abbrev yu:=@PySem.Heap.get?_none_of_le
abbrev yv:=@Int.fmod_nonneg_of_pos
abbrev yx:=@List.length_nil
abbrev yy:=@List.getElem?_append_left
abbrev yz:=@List.not_mem_nil
abbrev y7:=@List.length_take
abbrev y8:=@List.getElem?_take
abbrev y9:=@Int.emod_lt_of_pos
abbrev ja:=@Nat.lt_irrefl
abbrev jb:=@List.mem_cons
abbrev jc:=@Int.mul_assoc
abbrev jd:=@List.mem_append_left
abbrev je:=@PySem.Around.under_plainId
abbrev jf:=@Int.emod_eq_of_lt
abbrev jg:=@decide_eq_false
abbrev jh:=@Int.emod_nonneg
abbrev ji:=@PySem.mem_of_lookup
abbrev jj:=@List.drop_of_length_le
abbrev jk:=@List.drop_eq_nil_of_le
abbrev jl:=@List.Perm.refl
abbrev jm:=@List.getElem?_eq_none
abbrev jn:=@Array.getElem?_toList
abbrev jo:=@PySem.codeAny_builtin
abbrev jp:=@PySem.W.kia_one
abbrev jq:=@PySem.wpAny_field
abbrev jr:=@Int.dvd_trans
abbrev jt:=@List.isEmpty_iff_length_eq_zero
abbrev ju:=@PySem.wpAny_setEntries_of
abbrev jv:=@PySem.wpAny_call_entry
abbrev jw:=@PyProof.Rows.boot_tuple
abbrev jx:=@List.drop_zero
abbrev jy:=@PySem.sizeLine_eq
abbrev jz:=@Nat.lt_of_le_of_lt
abbrev j0:=@List.take_of_length_le
abbrev j6:=@Int.fmod_lt_of_pos
abbrev j7:=@PySem.wpAny_passesOwn
abbrev j8:=@List.all_cons
abbrev j9:=@List.length_filter_le
abbrev Qa:=@PySem.wpAny_truthy_bool
abbrev Qb:=@of_decide_eq_true
abbrev Qc:=@PySem.fits_of_scanBound
abbrev Qd:=@List.nodup_append
abbrev Qg:=@List.append_assoc
abbrev Qh:=@Int.toNat_natCast
abbrev Qi:=@Int.natAbs_sub_le
abbrev Qj:=@PySem.wpAny_setField
abbrev Qk:=@True.intro
abbrev Ql:=@List.perm_ext_iff_of_nodup
abbrev Qm:=@List.nodup_nil
abbrev Qn:=@List.mem_cons_of_mem
abbrev Qo:=@List.getElem?_append_right
abbrev Qp:=@Int.mul_sub
abbrev Qq:=@Int.mul_neg
abbrev Qr:=@Int.add_mul_emod_self_left
abbrev Qs:=@PySem.codeAny_mono
abbrev Qt:=@List.map_fst_zip
abbrev Qu:=@List.getElem_mem
abbrev Qv:=@Int.mul_comm
abbrev Qw:=@Int.natAbs_ediv_le_natAbs
abbrev Qx:=@PyProof.Rows.F.plain_set_update_loop
abbrev Qy:=@PySem.wpAny_standAt
abbrev Qz:=@PySem.plainId_quiet
abbrev Q0:=@List.any_cons
abbrev Q1:=@Int.mul_ediv_cancel_left
abbrev Q2:=@PySem.wpAny_Call_Name_kw
abbrev Q3:=@PySem.putSet_of
abbrev Q4:=@Nat.le_succ
abbrev Q5:=@PySem.wpAny_storeSet_of
abbrev Q6:=@PySem.wpAny_loadPart_at
abbrev Q7:=@Nat.ne_of_lt
abbrev Q8:=@Int.ne_of_gt
abbrev Q9:=@PySem.Heap.SameBut.refl
abbrev Za:=@Bool.and_false
abbrev Zb:=@List.length_singleton
abbrev Zc:=@Int.mul_ediv_add_emod
abbrev Zd:=@Bool.beq_eq_decide_eq
abbrev Ze:=@beq_self_eq_true
abbrev Zf:=@List.flatMap_nil
abbrev Zg:=@Int.dvd_mul_left
abbrev Zh:=@Array.isEmpty_iff_size_eq_zero
abbrev Zi:=@List.mem_of_mem_take
abbrev Zj:=@PySem.wpAny_execs_nil
abbrev Zk:=@PySem.PassesOwn.never
abbrev Zl:=@List.nil_append
abbrev Zm:=@List.filterMap_cons
abbrev Zn:=@PySem.wpAny_typeOf
abbrev Zo:=@PyProof.Rows.callWith_type1
abbrev Zp:=@Nat.succ_pos
abbrev Zq:=@Nat.le_of_lt
abbrev Zr:=@Array.getD_eq_getD_getElem?
abbrev Zs:=@PySem.tupleKind_room_in1
abbrev Zt:=@or_false
abbrev Zu:=@PySem.Heap.size_push
abbrev Zv:=@Sum.inr.inj
abbrev Zw:=@Nat.pow_add
abbrev Zx:=@List.take_sublist
abbrev Zy:=@List.take_add_one
abbrev Zz:=@List.ext_getElem?
abbrev Z0:=@Int.mul_one
abbrev Z1:=@List.Perm.eq_of_pairwise
abbrev Z2:=@Int.pos_of_mul_pos_right
abbrev Z3:=@Int.le_of_dvd
abbrev Z4:=@PySem.wpAny_pyNext_tuple_item
abbrev Z5:=@PySem.wpAny_isInstance
abbrev Z6:=@decide_eq_false_iff_not
abbrev Z7:=@decide_eq_decide
abbrev Z8:=@congrArg
abbrev Z9:=@Nat.lt_succ_self
abbrev Ya:=@List.lookup_cons
abbrev Yb:=@List.filter_cons_of_neg
abbrev Yc:=@PySem.wpAny_pyNext_tuple_end
abbrev Yd:=@PySem.wpAny_call
abbrev Ye:=@if_true
abbrev Yf:=@PySem.Txt.slice_le
abbrev Yg:=@PyProof.Rows.boot_list
abbrev Yh:=@Nat.ne_of_gt
abbrev Yi:=@PySem.Calls.callWith_builtin
abbrev Yj:=@List.length_zip
abbrev Yk:=@Int.ediv_nonneg
abbrev Yl:=@PySem.builtinLookup_eq_fast
abbrev Ym:=@PySem.F.slot_dict_get
abbrev Yn:=@PySem.wpAny_fieldsOf
abbrev Yo:=@PySem.isSubtype_type
abbrev Yp:=@PySem.codeAny_call_builtin
abbrev Yq:=@Nat.pow_lt_pow_right
abbrev Yr:=@Nat.pow_le_pow_right
abbrev Ys:=@Nat.mul_le_mul_right
abbrev Yt:=@Int.natAbs_mul
abbrev Yu:=@PySem.Heap.get?_push_cases
abbrev Yv:=@PySem.Calls.evalArgs_plain
abbrev Yw:=@PyProof.Rows.F.entry_set_update_loop
abbrev Yx:=@PySem.intBits_le_64
abbrev Yy:=@PySem.Paired.length
abbrev Yz:=@beq_iff_eq
abbrev Y1:=@Nat.one_le_two_pow
abbrev Y2:=@List.zip_cons_cons
abbrev Y3:=@decide_eq_true_eq
abbrev Y4:=@Nat.zero_add
abbrev Y5:=@Nat.succ_mul
abbrev Y6:=@Nat.pow_succ
abbrev Y7:=@Nat.lt_succ_of_lt
abbrev Y8:=@List.map_set
abbrev Y9:=@List.length_range
abbrev Ja:=@List.Pairwise.nil
abbrev Jb:=@PyProof.Rows.slot_tuple_getitem
abbrev Jc:=@List.take_append
abbrev Jd:=@List.map_snd_zip
abbrev Je:=@List.le_antisymm
abbrev Jf:=@List.all_eq_true
end
namespace L2
open PySem PySem.Spec PyProof.Rows
noncomputable abbrev Key:=Sum Int Str
def ad0:Key->Value->Bool
 |.inl k,v=>Value.isInt k v
 |.inr x,v=>Value.isStrOf x v
def UD(w:World):Key->Int
 |.inl k=>hashInt k
 |.inr x=>hashStr w x
theorem g_5:∀{k:Key}{v:Value},ad0 k v=true->(∃i t,k=Sum.inl i/\v=Value.int i t)\/(∃x t,k=Sum.inr x/\v=Value.str x t)
 |.inl i,v,h=>by
  obtain⟨t,e⟩:=Value.isInt_shape h;exact .inl ⟨i,t,rfl,e⟩
 |.inr x,v,h=>by
  obtain⟨t,e⟩:=Value.isStrOf_shape h;exact .inr ⟨x,t,rfl,e⟩
theorem QB(i:Int)(t:Tok):ad0 (.inl i) (.int i t)=true:=by simp[ad0,Value.isInt]
theorem QA(x:Str)(t:Tok):ad0 (.inr x) (.str x t)=true:=by simp[ad0,Value.isStrOf]
theorem TB(a b:Int):decide ((Sum.inl a:Key)=Sum.inl b)=(a==b):=by grind
theorem Tw(a b:Str):decide ((Sum.inr a:Key)=Sum.inr b)=decide (a=b):=by grind
theorem Tz(a:Int)(b:Str):decide ((Sum.inl a:Key)=Sum.inr b)=false:=jg (λ q=>nomatch q)
theorem Tx(a:Str)(b:Int):decide ((Sum.inr a:Key)=Sum.inl b)=false:=jg (λ q=>nomatch q)
def fm(prog:Program)(w:World):PySem.KeyKind prog w Key where
 is:=ad0
 hash:=UD w
 inj:=λ v a b Z J=>by
  rcases g_5 Z with⟨i,t,rfl,rfl⟩|⟨x,t,rfl,rfl⟩
  .rcases g_5 J with⟨j,u,rfl,e⟩|⟨y,u,rfl,e⟩
   .injection e with e1 _;rw[e1]
   .exact nomatch e
  .rcases g_5 J with⟨j,u,rfl,e⟩|⟨y,u,rfl,e⟩
   .exact nomatch e
   .injection e with e1 _;rw[e1]
 byValue:=λ k v h=>by
  rcases g_5 h with⟨i,t,rfl,rfl⟩|⟨x,t,rfl,rfl⟩<;>rfl
 pyHash:=λ q h=>by
  rcases g_5 q with⟨i,t,rfl,rfl⟩|⟨x,t,rfl,rfl⟩
  .exact wpAny_pyHash_int h
  .exact wpAny_pyHash_str h
 eqBool:=λ Y q h=>by
  rcases g_5 Y with⟨i,t,rfl,rfl⟩|⟨x,t,rfl,rfl⟩
  .rcases g_5 q with⟨j,u,rfl,rfl⟩|⟨y,u,rfl,rfl⟩
   .rw[TB]at h;exact wpAny_eqBool_int h
   .rw[Tz]at h;exact SeqAt.EqAt.int_str i t y u _ _ _ _ h
  .rcases g_5 q with⟨j,u,rfl,rfl⟩|⟨y,u,rfl,rfl⟩
   .rw[Tx]at h;exact SeqAt.EqAt.str_int x t j u _ _ _ _ h
   .rw[Tw]at h;exact wpAny_eqBool_str h
 «strs»:=λ k x t v h=>by
  rcases g_5 h with⟨i,u,rfl,e⟩|⟨y,u,rfl,e⟩
  .exact nomatch e
  .injection e with e1 _
   subst e1;cases v<;>rfl
theorem OG(prog:Program)(w:World)(i:Int)(t:Tok):(fm prog w).is (.inl i) (.int i t)=true:=QB i t
theorem OF(prog:Program)(w:World)(x:Str)(t:Tok):(fm prog w).is (.inr x) (.str x t)=true:=QA x t
inductive V where
 |non|bl (b:Bool)|int (i:Int)|str (x:Str)|byt (b:Array UInt8)|flt (b:UInt64)|ref (a:Addr)|ty (n:String)
 deriving DecidableEq
noncomputable def aU:V->Value->Prop
 |.non,u=>u=Value.none
 |.bl b,u=>u=Value.bool b
 |.int i,u=>∃t,u=Value.int i t
 |.str x,u=>∃t,u=Value.str x t
 |.byt b,u=>∃t,u=Value.bytes b t
 |.flt b,u=>∃t,u=Value.float b t
 |.ref a,u=>u=Value.ref a
 |.ty n,u=>u=Value.type n
abbrev aQ:List V->List Value->Prop:=Paired aU
theorem aQ.length(r:aQ xs us):xs.length=us.length:=Yy r
theorem aQ.get:∀{xs:List V}{us:List Value}{i:Nat}{x:V},aQ xs us->xs[i]?=some x->∃u,us[i]?=some u/\aU x u
 |_,_,_,_,.nil,e=>by simp at e
 |_,_,0,_,.cons r _,e=>by simp at e;subst e;exact⟨_,rfl,r⟩
 |_,_,i+1,x,.cons _ t,e=>by
  obtain⟨u,a,b⟩:=aQ.get t (by simpa using e);exact⟨u,by simpa using a,b⟩
theorem aQ.set(r:aU x u):∀{xs:List V}{us:List Value}(i:Nat),aQ xs us->aQ (xs.set i x) (us.set i u)
 |_,_,_,.nil=>.nil
 |_,_,0,.cons _ t=>.cons r t
 |_,_,i+1,.cons q t=>.cons q (aQ.set r i t)
theorem aQ.append:∀{xs ys:List V}{us q:List Value},aQ xs us->aQ ys q->aQ (xs++ys) (us++q)
 |_,_,_,_,.nil,s=>s
 |_,_,_,_,.cons r t,s=>.cons r (aQ.append t s)
theorem aQ.take:∀{xs:List V}{us:List Value}(n:Nat),aQ xs us->aQ (xs.take n) (us.take n)
 |_,_,0,_=>.nil
 |_,_,_+1,.nil=>.nil
 |_,_,n+1,.cons r t=>.cons r (aQ.take n t)
theorem aQ.drop:∀{xs:List V}{us:List Value}(n:Nat),aQ xs us->aQ (xs.drop n) (us.drop n)
 |_,_,0,r=>r
 |_,_,_+1,.nil=>.nil
 |_,_,n+1,.cons _ t=>aQ.drop n t
theorem aQ.none_of:∀{xs:List V}{us:List Value}{i:Nat},aQ xs us->xs[i]?=none->us[i]?=none:=λ{xs us i}r e=>by
 have a:=r.length;have b:=List.getElem?_eq_none_iff.mp e;exact List.getElem?_eq_none_iff.mpr (by lia)
def dP:Option V->Option Value->Prop
 |some v,some u=>aU v u
 |none,none=>True
 |_,_=>False
def KV{κ:Type}:List (κ×V)->List (κ×Value)->Prop:=Paired λ(p:κ×V)(q:κ×Value)=>p.1=q.1/\aU p.2 q.2
def kV:Key->V
 |.inl i=>.int i
 |.inr x=>.str x
inductive HO where
 |lst (xs:List V)
 |tup (xs:List V)
 |dK (aH:List (Key×V))|dT (aH:List (List Key×V))
 |set (S:Int->Bool) (n:Nat)
 |ins (C dx:Addr) (fs:List (Str×V))
 |own (x:Addr)
 |xd (fs:List (Str×V))
 |met (f x:Addr)
 |rng (lo hi:Int)
 |frz (o:Obj) (u:HO)
 |tbl (ps:Array Value)
 |ext (φ:Heap->Prop)
noncomputable abbrev Hp:=Addr->Option HO
def upd(H:Hp)(a:Addr)(o:HO):Hp:=λ b=>if b=a then some o else H b
theorem bT:upd H a o a=some o:=by unfold upd;rw[if_pos rfl]
theorem a_(h:b≠a):upd H a o b=H b:=by unfold upd;rw[if_neg h]
theorem ne_of{H:Hp}(h:H a=some o)(h':H b=some u)(d:o≠u):a≠b:=by grind
theorem iw{H:Hp}(h:H a=some o)(h':H b=none):a≠b:=by intro e;subst e;rw[h]at h';simp at h'
def ec(h:Heap)(a:Addr)(items:Array Value):Prop:=∃o,h.get? a=some o∧o.cls=.type "tuple"∧(∃n,o.data=.seq items n)∧o.dict=none
theorem ec.tup(x:ec h a items):IsTup h a items:=let ⟨o,p,q,⟨n,r⟩,_⟩:=x;⟨o,p,q,n,r⟩
theorem ec.new(h:Heap)(items:Array Value):ec (h.push {cls:=.type "tuple",data:=.seq items}) h.objs.size items:=⟨_,qk _ rfl,rfl,⟨0,rfl⟩,rfl⟩
section
variable(P:Program)(w:World)
def aZ(H:Hp)(h:Heap)(a:Addr):HO->Prop
 |.lst xs=>xs.length≤sizeLine∧∃(J:List Value)(n:Nat),aQ xs J∧h.get? a=some {cls:=.type "list",data:=.seq J.toArray n}
 |.tup xs=>xs.length<=sizeLine/\∃J:List Value,aQ xs J/\ec h a J.toArray
 |.dK aH=>aH.length<=sizeLine/\(a==sysModules)=false/\∃vs,KV aH vs/\h.DictOf (fm P w) a vs
 |.dT aH=>aH.length<=sizeLine/\(a==sysModules)=false/\∃xs:List (List Key×Addr×Value),Paired (λ(p:List Key×V)(q:List Key×Addr×Value)=>p.1=q.1/\H q.2.1=some (.tup (p.1.map kV))/\aU p.2 q.2.2) aH xs/\∃o es ep,h.get? a=some o/\o.ExactDict/\o.data=.dict es ep/\es.toList=xs.map (entryOfKey (tupleKind (fm P w)))/\(xs.map (·.1)).Nodup
 |.set S n=>h.SetOf (intKind P w) a S n
 |.ins C dx fs=>H dx=some (.own a)/\fs.length<=1000/\dx≠a/\h.get? a=some (PySem.W.instObj C dx)/\∃Y,h.Ns1 dx Y/\(∀f,dP (fs.lookup f) (Y f))/\PySem.Within Y (fs.map (·.1))
 |.own _=>∃o,h.get? a=some o
 |.xd fs=>∃Y,h.Ns1 a Y/\∀f,dP (fs.lookup f) (Y f)
 |.rng lo hi=>∃t u v,h.get? a=some {cls:=.type "range",data:=.fields #[.int lo t,.int hi u,.int 1 v]}
 |.frz o u=>h.get? a=some o/\aZ H h a u
 |.tbl ps=>h.get? a=some {cls:=.none,data:=.fields ps}
 |.met f x=>h.get? a=some (PySem.W.methodObj (.ref f) (.ref x))
 |.ext Z=>Z h/\(∃o,h.get? a=some o)/\∀h1 h2:Heap,Z h1->(∀o,h1.get? a=some o->h2.get? a=some o)->Z h2
def dU(H:Hp)(h:Heap):Prop:=∀a o,H a=some o->aZ P w H h a o
end
section
theorem aZ.lt(x:aZ P w H h a o):a<h.objs.size:=by
 cases o with
 |lst xs=>obtain⟨_,_,_,_,e⟩:=x;exact qm e
 |tup xs=>obtain⟨_,_,_,p⟩:=x;exact p.tup.lt
 |dK aH=>obtain⟨_,_,_,_,o,_,_,e,_⟩:=x;exact qm e
 |dT aH=>obtain⟨_,_,_,_,o,_,_,e,_⟩:=x;exact qm e
 |set S n=>refine k7 x λ o _ _ _ e _=>?_;exact qm e
 |ins C dx fs=>refine jV x λ _ _ _ e _=>?_;exact qm e
 |own y=>obtain⟨_,e⟩:=x;exact qm e
 |xd fs=>obtain⟨_,⟨_,_,_,e,_⟩,_⟩:=x;exact qm e
 |rng lo hi=>refine ia x λ _ _ _ e=>?_;exact qm e
 |frz ob u=>obtain⟨e,_⟩:=x;exact qm e
 |tbl ps=>exact qm (show h.get? a=some _ from x)
 |met f y=>exact qm (show h.get? a=some _ from x)
 |ext q=>obtain⟨_,⟨_,e⟩,_⟩:=x;exact qm e
theorem Paired.mapP:∀{q:List α}{J:List β},Paired F q J->(∀a b,F a b->G a b)->Paired G q J
 |[],_,h,_=>by cases h;exact .nil
 |x::l,_,h,f=>by
  cases h with
  |cons r t=>exact .cons (f _ _ r) (Paired.mapP t f)
theorem aZ.stay(x:aZ P w H h a o)(k:∀b u,(b=a\/H b=some (.own a))->h.get? b=some u->h'.get? b=some u)(ho:∀b,H b=some (.own a)->H' b=some (.own a))(ht:∀b xs,H b=some (.tup xs)->H' b=some (.tup xs)):aZ P w H' h' a o:=by
 induction o with
 |lst xs=>obtain⟨z,J,n,r,e⟩:=x;exact⟨z,J,n,r,k _ _ (.inl rfl) e⟩
 |tup xs=>obtain⟨z,J,r,ob,e,c⟩:=x;exact⟨z,J,r,ob,k _ _ (.inl rfl) e,c⟩
 |dK aH=>obtain⟨z,y,l,r,ob,es,g,e,c⟩:=x;exact⟨z,y,l,r,ob,es,g,k _ _ (.inl rfl) e,c⟩
 |dT aH=>
  obtain⟨z,y,xs,r,ob,es,g,e,c⟩:=x;exact⟨z,y,xs,Paired.mapP r λ p q z=>⟨z.1,ht _ _ z.2.1,z.2.2⟩,ob,es,g,k _ _ (.inl rfl) e,c⟩
 |set S n=>refine k7 x λ ob es g t e c=>?_;exact⟨ob,es,g,t,k _ _ (.inl rfl) e,c⟩
 |ins C dx fs=>
  obtain⟨d,z,Z,e,Y,⟨i,es,g,e2,c⟩,r⟩:=x;exact⟨ho _ d,z,Z,k _ _ (.inl rfl) e,Y,⟨i,es,g,k _ _ (.inr d) e2,c⟩,r⟩
 |own y=>obtain⟨ob,e⟩:=x;exact⟨ob,k _ _ (.inl rfl) e⟩
 |xd fs=>obtain⟨Y,⟨i,es,g,e,c⟩,r⟩:=x;exact⟨Y,⟨i,es,g,k _ _ (.inl rfl) e,c⟩,r⟩
 |rng lo hi=>refine ia x λ t u v e=>?_;exact⟨t,u,v,k _ _ (.inl rfl) e⟩
 |frz ob u j=>obtain⟨e,q⟩:=x;exact⟨k _ _ (.inl rfl) e,j q⟩
 |tbl ps=>
  have e:=x;exact k a _ (.inl rfl) e
 |met f y=>
  have e:=x;exact k a _ (.inl rfl) e
 |ext m=>obtain⟨p,⟨o,e⟩,st⟩:=x;exact⟨st _ _ p λ o q=>k _ _ (.inl rfl) q,⟨o,k _ _ (.inl rfl) e⟩,st⟩
theorem dU.lt(x:dU P w H h)(e:H a=some o):a<h.objs.size:=(x a o e).lt
theorem dU.fresh(x:dU P w H h)(e:h.objs.size<=a):H a=none:=by
 cases q:H a with
 |none=>rfl
 |some u=>exact absurd (qp (x.lt q) e) (ja _)
theorem dU.kept(x:dU P w H h)(k:∀b u,h.get? b=some u->h'.get? b=some u):dU P w H h':=λ a o e=>
 (x a o e).stay (λ b u _ q=>k b u q) (λ _ q=>q) λ _ _ q=>q
theorem dU.laid(x:dU P w H h)(k:∀b u,h.get? b=some u->h'.get? b=some u)(Z:h.objs.size<=a)(new:aZ P w (upd H a o) h' a o):dU P w (upd H a o) h':=λ b u e=>by
 have J:=x.fresh Z;by_cases Y:b=a
 .grind[bT]
 .rw[a_ Y]at e;exact(x b u e).stay (λ c v _ q=>k c v q) (λ c q=>by grind[a_]) λ c xs q=>by grind[a_]
end
def Rd(H:Hp)(a:Addr)(u:HO):Prop:=H a=some u\/∃o,H a=some (.frz o u)
theorem Rd.ok(r:Rd H a u)(x:dU P w H h):aZ P w H h a u:=by
 rcases r with h|⟨o,h⟩
 .exact x _ _ h
 .exact(x _ _ h).2
noncomputable def q_:Option HO->Prop
 |some (.lst _)=>True
 |some (.dK _)=>True
 |some (.dT _)=>True
 |some (.set _ _)=>True
 |some (.ins _ _ _)=>True
 |some (.ext _)=>True
 |_=>False
section
theorem dU.write(ok:dU P w H h)(mu:q_ (H x))(he:e=x\/H e=some (.own x))(k:∀b u,b≠e->h.get? b=some u->h'.get? b=some u)(aa:∃u,h'.get? e=some u)(new:aZ P w (upd H x o') h' x o'):dU P w (upd H x o') h':=λ b u q=>by
 have Y:∀c y,H c=some (.own y)->c≠x:=λ c y r z=>by subst z;rw[r]at mu;exact mu
 have Z:∀c xs,H c=some (.tup xs)->c≠x:=λ c xs r z=>by subst z;rw[r]at mu;exact mu
 by_cases f:b=x
 .grind[bT]
 .rw[a_ f]at q;by_cases J:b=e
  .have d:H b=some (.own x):=by
    rcases he with z|z
    .grind
    .rw[J];exact z
   rw[q]at d;obtain rfl:=br d;obtain⟨v,g⟩:=aa;exact⟨v,by rw[J];exact g⟩
  .refine(ok b u q).stay (λ c v a r=>k c v ?_ r) (λ c r=>by grind[a_]) λ c xs r=>by rw[a_ (Z c xs r)];exact r
   rcases a with rfl|a
   .exact J
   .grind
end
structure Un(fs ex:List Addr)(H H':Hp)(h h':Heap):Prop where
 keep:∀b o,h.get? b=some o->H b=none->b∉fs->b∉ex->h'.get? b=some o
 slot:∀b o,h.get? b=some o->H b=none->b∈fs->b∉ex->∃sl,h'.get? b=some {o with slots:=sl}
 free:∀b o,h.get? b=some o->H b=none->b∉ex->H' b=none
 there:∀b o,h.get? b=some o->b∉ex->∃o',h'.get? b=some o'
 tups:∀b xs,H b=some (.tup xs)->H' b=some (.tup xs)
 frzs:∀b o u,H b=some (.frz o u)->H' b=some (.frz o u)
 tbls:∀b ps,H b=some (.tbl ps)->∃more,H' b=some (.tbl (ps++more))
section
theorem Un.any(u:Un fs ex H H1 h h1)(q:h.get? b=some ob)(n:H b=none)(hx:b∉ex):∃Y,h1.get? b=some {ob with slots:=Y}:=by
 by_cases J:b∈fs
 .exact u.slot b ob q n J hx
 .exact⟨ob.slots,u.keep b ob q n J hx⟩
theorem Un.kept(k:∀b u,h.get? b=some u->h'.get? b=some u):Un fs ex H H h h':=
 ⟨λ b ob q _ _ _=>k b ob q,λ b ob q _ _ _=>⟨ob.slots,k b ob q⟩,λ _ _ _ n _=>n,λ b ob q _=>⟨ob,k b ob q⟩,λ _ _ q=>q,λ _ _ _ q=>q,λ _ ps q=>⟨#[],by rw[q];simp⟩⟩
theorem Un.refl:Un fs ex H H h h:=Un.kept λ _ _ q=>q
theorem Un.laid(k:∀b u,h.get? b=some u->h'.get? b=some u)(Y:h.objs.size<=a)(J:H a=none):Un fs ex H (upd H a o) h h' where
 keep:=λ b u q _ _ _=>k b u q
 slot:=λ b u q _ _ _=>⟨u.slots,k b u q⟩
 free:=λ b u q n _=>by rw[a_ (Q7 (Nat.lt_of_lt_of_le (Heap.lt_size q) Y))];exact n
 there:=λ b u q _=>⟨u,k b u q⟩
 tups:=λ b xs q=>by grind[a_]
 frzs:=λ b u xs q=>by grind[a_]
 tbls:=λ b ps q=>⟨#[],by rw[a_ (iw q J),q];simp⟩
theorem Un.write(Y:q_ (H x))(he:e=x\/H e=some (.own x))(k:∀b u,b≠e->h.get? b=some u->h'.get? b=some u)(aa:∃u,h'.get? e=some u):Un fs ex H (upd H x o) h h':=by
 have hx:∀b,H b=none->b≠x:=λ b n z=>by subst z;rw[n]at Y;exact Y
 have a:∀b,H b=none->b≠e:=λ b n z=>by
  subst z;rcases he with r|r
  .exact hx b n r
  .rw[n]at r;simp at r
 have Z:∀b u,H b=some u->¬q_ (some u)->b≠x:=λ b u q nm z=>by grind
 refine⟨λ b u q n _ _=>k b u (a b n) q,λ b u q n _ _=>⟨u.slots,k b u (a b n) q⟩,λ b u q n _=>by rw[a_ (hx b n)];exact n,λ b u q _=>?_,λ b xs q=>by rw[a_ (Z b _ q λ z=>z)];exact q,λ b u xs q=>by rw[a_ (Z b _ q λ z=>z)];exact q,λ b ps q=>⟨#[],by rw[a_ (Z b _ q λ z=>z),q];simp⟩⟩
 by_cases J:b=e
 .subst J;exact aa
 .grind
theorem Un.mono(u:Un fs ex H H1 h h1)(Y:∀b∈fs,b∈fs')(hx:∀b∈ex,b∈ex'):Un fs' ex' H H1 h h1:=
 ⟨λ b ob q n Z J=>u.keep b ob q n (λ z=>Z (Y b z)) λ z=>J (hx b z),λ _ _ q n _ J=>u.any q n λ z=>J (hx _ z),λ b ob q n J=>u.free b ob q n λ z=>J (hx b z),λ b ob q J=>u.there b ob q λ z=>J (hx b z),u.tups,u.frzs,u.tbls⟩
end
def wA(h:Heap)(H:Hp):List Addr:=(List.range h.objs.size).filter λ a=>(H a).isSome
def l9(h:Heap)(H:Hp):Heap:=PySem.W.hideAll h (wA h H)
theorem Mw(h:Heap)(H:Hp):(l9 h H).objs.size=h.objs.size:=PySem.W.hideAll_size _ _
theorem Nm(e:h.get? b=some o)(n:H b=none):(l9 h H).get? b=some o:=
 PySem.W.hideAll_get _ e λ J=>by
  have q:=(List.mem_filter.mp J).2;grind
theorem R0(e:(l9 h H).get? b=some o):h.get? b=some o/\H b=none:=by
 have J:=PySem.W.of_hideAll (wA h H) e;refine⟨J,?_⟩;cases q:H b with
 |none=>rfl
 |some x=>
  have Y:b∈wA h H:=List.mem_filter.mpr ⟨List.mem_range.mpr (qm J),by simp[q]⟩;have z:(l9 h H).get? b=none:=PySem.W.hideAll_none (wA h H) Y;rw[z]at e;simp at e
noncomputable def SF(g h:Heap)(σ:Addr):List (Addr×Obj):=(List.range h.objs.size).filterMap λ a=>if a=σ\/(g.get? a).isSome=true then none else(h.get? a).map λ o=>(a,o)
def rest(g h:Heap)(σ d:Addr):List (Addr×Obj):=(SF g h σ).filter λ p=>decide (p.1≠d)
structure Mod(K:Frag)(mg:Str->Option Value)(base:Heap):Prop where
 kin:K.In base
 glob:base.Ns mainGlobals mg
 blt:∃mb,base.Ns builtinsNs mb∧∀x:Str,x≠"__name__"→mb x=bootBuiltins x
 nolimit:base.NoLimit
structure Cx where
 prog:Program
 w:World
 K:Frag
 mg:Str->Option Value
 base:Heap
 A:Around
 N:List Str
 s₀:Shared
 H₀:Hp
 env:Env
 outer:List Env
 stack:List Env
 ex:List Addr
 fn:Str->Bool
 calm:Bool
 pn:List (Addr×Obj)
 xe:Value->Shared->Prop
noncomputable def fM(l:List Env):List Addr:=l.filterMap (·.frame)
abbrev Cx.fs(X:Cx):List Addr:=fM X.outer
def fh(sc:Scope)(x:Str):Prop:=sc.names.lookup x=some .local\/sc.names.lookup x=some .cell\/sc.names.lookup x=some .free
def jI(sc:Scope)(x:Str):Prop:=sc.names.lookup x=some .local\/sc.names.lookup x=some .cell
def US(env:Env)(h:Heap)(m:Str->Option Value)(x:Str)(u:Value):Prop:=
 (env.kindOf x=some .local/\m x=some u)\/((env.kindOf x=some .cell\/env.kindOf x=some .free)/\∃c,env.cells.lookup x=some c/\h.IsCell c (some u))
structure Cx.Ok(X:Cx):Prop where
 mod:Mod X.K X.mg X.base
 kind:X.env.scope.kind=.function
 glob:X.env.globals=mainGlobals
 blt:X.env.builtins=builtinsNs
 above:X.s₀.heap.objs.size<=X.env.locals
 inj:∀x y c,X.env.cells.lookup x=some c->X.env.cells.lookup y=some c->x=y
 has:∀x,(X.env.kindOf x=some .cell\/X.env.kindOf x=some .free)->∃c,X.env.cells.lookup x=some c
 cab:∀x c,X.fn x=true->X.env.cells.lookup x=some c->X.s₀.heap.objs.size<=c
 hd:X.calm=true->X.A.handled=none
 frames:X.A.frames=some X.stack
 stk:X.stack=X.outer\/(X.stack=X.env::X.outer/\X.env.frame=some X.env.locals)
 exf:∀b∈X.ex,b≠X.env.locals/\∀x c,X.env.cells.lookup x=some c->c≠b
 bs:∀b o,X.base.get? b=some o->X.s₀.heap.get? b=some o/\X.H₀ b=none
 bsz:X.base.objs.size<=X.s₀.heap.objs.size
 noex:∀b o,X.base.get? b=some o->b∉X.ex
 exfs:∀b∈X.ex,b∉X.fs
 funs:X.s₀.heap.FunFrames X.base X.outer
 frf:∀b∈X.fs,X.H₀ b=none
structure aI(X:Cx)(aA:List (Addr×Obj))(L:List (Option V))(H:Hp)(s:Shared):Prop where
 ok:X.Ok
 os:s.os=X.s₀.os
 bare:AllBare s.gens
 base:Un X.fs X.ex X.H₀ H X.s₀.heap s.heap
 loc:∃m,s.heap.Ns X.env.locals m/\∀(i:Nat)(x:Str)(v:V),X.N[i]?=some x->L[i]?=some (some v)->fh X.env.scope x->∃u,aU v u/\US X.env s.heap m x u
 cell:∀x c,X.env.cells.lookup x=some c->∃v,s.heap.IsCell c v
 free:H X.env.locals=none
 freeC:∀x c,X.env.cells.lookup x=some c->H c=none
 pin:∀p∈X.pn++aA,s.heap.get? p.1=some p.2/\H p.1=none/\p.1≠X.env.locals/\p.1∉X.fs/\∀v,p.2.data≠.cell v
 hok:dU X.prog X.w H s.heap
 len:L.length=X.N.length
section
variable{X:Cx}{aA:List (Addr×Obj)}{L:List (Option V)}{H H':Hp}{s:Shared}{h':Heap}
theorem Cx.Ok.nofr(ok:X.Ok)(e:X.base.get? b=some o):b∉X.fs:=λ q=>by
 have:=(ok.funs.mem q).1;rw[e]at this;simp at this
theorem aI.bs(I:aI X aA L H s):∀b o,X.base.get? b=some o->s.heap.get? b=some o/\H b=none:=λ b o e=>
 ⟨I.base.keep b o (I.ok.bs b o e).1 (I.ok.bs b o e).2 (I.ok.nofr e) (I.ok.noex b o e),I.base.free b o (I.ok.bs b o e).1 (I.ok.bs b o e).2 (I.ok.noex b o e)⟩
theorem aI.bk(I:aI X aA L H s):∀b o,X.base.get? b=some o->s.heap.get? b=some o:=λ b o e=>(I.bs b o e).1
theorem aI.mod(I:aI X aA L H s):Mod X.K X.mg X.base:=I.ok.mod
theorem aI.kIn(I:aI X aA L H s):X.K.In s.heap:=I.ok.mod.kin.keeps I.bk
theorem aI.nolimit(I:aI X aA L H s):s.heap.NoLimit:=I.ok.mod.nolimit.keeps I.bk
theorem aI.fr(I:aI X aA L H s):∃m,Fr X.base X.env.locals s.heap m:=
 let ⟨m,hn,_⟩:=I.loc
 ⟨m,hn,I.bk,zc I.ok.bsz I.ok.above⟩
theorem aI.lt(I:aI X aA L H s):X.env.locals<s.heap.objs.size:=let ⟨_,hn,_⟩:=I.loc;hn.lt
theorem aI.sz(I:aI X aA L H s):X.s₀.heap.objs.size<=s.heap.objs.size:=zc I.ok.above (Zq I.lt)
theorem aI.nofs(I:aI X aA L H s)(h:s.heap.objs.size<=a):a∉X.fs:=λ q=>by
 obtain⟨_,o,J,_⟩:=I.ok.funs.mem q;exact absurd (qp (qm J) (zc I.sz h)) (ja _)
theorem aI.cne(I:aI X aA L H s):∀x c,X.env.cells.lookup x=some c->c≠X.env.locals:=λ x c e z=>by
 refine cX (I.cell x c e) λ v o Y hd=>?_;obtain⟨m,⟨b,es,a,q,J,_⟩,_⟩:=I.loc;grind
theorem aI.funs(I:aI X aA L H s):s.heap.FunFrames X.base X.outer:=by
 have all:∀(l:List Env),(∀b∈fM l,b∈X.fs)->X.s₀.heap.FunFrames X.base l->s.heap.FunFrames X.base l:=by
  intro l;induction l with
  |nil=>intro _ _;trivial
  |cons a r i=>
   intro Z d;obtain⟨c,⟨σ,o,Y,f,g,hd⟩,h⟩:=d;have q:=Z σ (by unfold fM;rw[Zm,Y];exact qg);obtain⟨j,e⟩:=I.base.slot σ o g (I.ok.frf σ q) q λ z=>I.ok.exfs σ z q;exact⟨c,⟨σ,_,Y,f,e,hd⟩,i (λ b J=>Z b (by unfold fM;rw[Zm,Y];exact qh _ J)) h⟩
 exact all X.outer (λ _ J=>J) I.ok.funs
theorem aI.stack(I:aI X aA L H s):s.heap.FunFrames X.base X.stack:=by
 rcases I.ok.stk with e|⟨e,a⟩
 .rw[e];exact I.funs
 .rw[e];obtain⟨m,q,_⟩:=I.loc;refine .cons (by rw[I.ok.kind];decide) a q ?_ I.funs;exact yu (zc I.ok.bsz I.ok.above)
theorem aI.stkSub(I:aI X aA L H s):∀b∈fM X.stack,b∈X.env.locals::X.fs:=λ b q=>by
 rcases I.ok.stk with e|⟨e,a⟩
 .grind
 .grind[fM]
theorem aI.stkFree(I:aI X aA L H s):∀b∈fM X.stack,H b=none:=λ b q=>by
 rcases qt (I.stkSub b q)with e|q
 .rw[e];exact I.free
 .obtain⟨_,o,J,_⟩:=I.ok.funs.mem q;exact I.base.free b o J (I.ok.frf b q) λ z=>I.ok.exfs b z q
theorem aI.step{ch:List Addr}(I:aI X aA L H s)(Y:∀b∈ch,(b∈X.ex\/X.s₀.heap.objs.size<=b)/\b≠X.env.locals/\(∀x c,X.env.cells.lookup x=some c->c≠b)/\∀p∈X.pn++aA,p.1≠b)(keep:∀b o,b≠X.env.locals->b∉X.fs->b∉ch->s.heap.get? b=some o->H b=none->h'.get? b=some o)(slot:∀b o,b≠X.env.locals->b∈X.fs->b∉ch->s.heap.get? b=some o->H b=none->∃sl,h'.get? b=some {o with slots:=sl})(free:∀b o,b∉ch->s.heap.get? b=some o->H b=none->H' b=none)(there:∀b o,b∉ch->s.heap.get? b=some o->∃o',h'.get? b=some o')(tups:∀b xs,H b=some (.tup xs)->H' b=some (.tup xs))(frzs:∀b o u,H b=some (.frz o u)->H' b=some (.frz o u))(tbls:∀b ps,H b=some (.tbl ps)->∃af,H' b=some (.tbl (ps++af)))(ns:∀m,s.heap.Ns X.env.locals m->h'.Ns X.env.locals m)(ag:dU X.prog X.w H' h')(hg:AllBare g'):aI X aA L H' {s with heap:=h',gens:=g',drawn:=d',toks:=t'}:=by
 have h:∀b o,X.s₀.heap.get? b=some o->b≠X.env.locals:=λ b o e=>qr (qp (qm e) I.ok.above);have g:∀b o,X.s₀.heap.get? b=some o->b∉X.ex->b∉ch:=λ b o e hx a=>by
  rcases(Y b a).1 with z|z
  .exact hx z
  .exact absurd (qp (qm e) z) (ja _)
 have Z:∀x c,X.env.cells.lookup x=some c->∀v,s.heap.IsCell c v->h'.IsCell c v:=λ x c e v B=>by
  obtain⟨o,f,hd⟩:=B;have J:=λ z=>(Y c z).2.2.1 x c e rfl;by_cases j:c∈X.fs
  .obtain⟨sl,q⟩:=slot c o (I.cne x c e) j J f (I.freeC x c e);exact⟨_,q,hd⟩
  .exact⟨o,keep c o (I.cne x c e) j J f (I.freeC x c e),hd⟩
 refine⟨I.ok,I.os,hg,⟨λ b o e n a hx=>?_,λ b o e n a hx=>?_,λ b o e n hx=>?_,λ b o e hx=>?_,λ b xs e=>tups b xs (I.base.tups b xs e),λ b o xs e=>frzs b o xs (I.base.frzs b o xs e),λ b ps e=>?_⟩,?_,λ x c e=>?_,?_,λ x c e=>?_,λ p t=>?_,ag,I.len⟩
 .exact keep b o (h b o e) a (g b o e hx) (I.base.keep b o e n a hx) (I.base.free b o e n hx)
 .obtain⟨sl,e1⟩:=I.base.slot b o e n a hx;obtain⟨C,e2⟩:=slot b _ (h b o e) a (g b o e hx) e1 (I.base.free b o e n hx);exact⟨C,e2⟩
 .obtain⟨o',e1⟩:=I.base.there b o e hx;exact free b o' (g b o e hx) e1 (I.base.free b o e n hx)
 .obtain⟨o',e1⟩:=I.base.there b o e hx;exact there b o' (g b o e hx) e1
 .obtain⟨F,e1⟩:=I.base.tbls b ps e;obtain⟨G,e2⟩:=tbls b _ e1;grind
 .obtain⟨m,E,D⟩:=I.loc;refine⟨m,ns m E,λ i x v e1 e2 e3=>?_⟩;obtain⟨u,r,l⟩:=D i x v e1 e2 e3;refine⟨u,r,?_⟩;rcases l with l|⟨k,c,e,z⟩
  .exact .inl l
  .exact .inr ⟨k,c,e,Z x c e _ z⟩
 .obtain⟨v,z⟩:=I.cell x c e;exact⟨v,Z x c e v z⟩
 .obtain⟨m,⟨o,_,_,f,_⟩,_⟩:=I.loc;exact free _ o (λ z=>(Y _ z).2.1 rfl) f I.free
 .refine cX (I.cell x c e) λ v o f hd=>?_;exact free c o (λ z=>(Y c z).2.2.1 x c e rfl) f (I.freeC x c e)
 .refine jV (I.pin p t) λ e n y A d=>?_;have J:=λ z=>(Y p.1 z).2.2.2 p t rfl;exact jW (keep p.1 p.2 y A J e n) (free p.1 p.2 J e n) y A d
theorem aI.un(I:aI X aA L H s)(u:Un X.fs [] H H' s.heap h')(Y:dU X.prog X.w H' h'):aI X aA L H' {s with heap:=h',toks:=t'}:=by
 obtain⟨m,⟨o,es,h,c,r⟩,_⟩:=id I.loc;obtain⟨k,d⟩:=u.any c I.free (by simp);exact I.step (ch:=[]) (λ _ z=>nomatch z) (λ b o _ a _ e n=>u.keep b o e n a (by simp)) (λ b o _ a _ e n=>u.slot b o e n a (by simp)) (λ b o _ e n=>u.free b o e n (by simp)) (λ b o _ e=>u.there b o e (by simp)) u.tups u.frzs u.tbls (λ i f=>by
  refine ib f λ j Z J q g=>?_;rw[c]at q;obtain rfl:=br q;exact⟨_,Z,J,d,g⟩) Y I.bare
theorem aI.call(I:aI X aA L H s)(u:Un (fM X.stack) ch H H' s.heap h')(aa:dU X.prog X.w H' h')(hg:AllBare g')(Y:∀b∈ch,(b∈X.ex\/X.s₀.heap.objs.size<=b)/\b≠X.env.locals/\(∀x c,X.env.cells.lookup x=some c->c≠b)/\∀p∈X.pn++aA,p.1≠b):aI X aA L H' {s with heap:=h',gens:=g',drawn:=d',toks:=t'}:=by
 obtain⟨m,⟨o,es,j,d,r⟩,_⟩:=id I.loc;obtain⟨t,a⟩:=u.any d I.free λ z=>(Y _ z).2.1 rfl;exact I.step Y (λ b o a g q e n=>u.keep b o e n (λ z=>(qt (I.stkSub b z)).elim a g) q) (λ b o _ _ q e n=>u.any e n q) (λ b o q e n=>u.free b o e n q) (λ b o q e=>u.there b o e q) u.tups u.frzs u.tbls (λ k h=>by
  refine ib h λ l f Z J i=>?_;rw[d]at J;obtain rfl:=br J;exact⟨_,f,Z,a,i⟩) aa hg
theorem aI.turned(I:aI X aA L H s)(k:∀b o,b≠it->s.heap.get? b=some o->h'.get? b=some o)(hn:H it=none)(Z:it≠X.env.locals)(h1:it∈X.ex\/X.s₀.heap.objs.size<=it)(h2:∀x c,X.env.cells.lookup x=some c->c≠it)(h3:∀p∈X.pn++aA,p.1≠it):aI X aA L H {s with heap:=h',toks:=t'}:=by
 have Y:∀b u,H b=some u->b≠it:=λ b u e z=>by rw[z,hn]at e;cases e
 refine I.step (ch:=[it]) (λ b d=>?_) (λ b o _ _ J e _=>k b o (λ z=>J (by simp[z])) e) (λ b o _ _ J e _=>⟨o.slots,k b o (λ z=>J (by simp[z])) e⟩) (λ _ _ _ _ n=>n)
  (λ b o J e=>⟨o,k b o (λ z=>J (by simp[z])) e⟩) (λ _ _ e=>e) (λ _ _ _ e=>e) (λ b ps e=>⟨#[],by rw[e];simp⟩) (λ m f=>?_) (λ b u e=>?_) I.bare
 .have e:b=it:=by simpa using d
  subst e;exact⟨h1,Z,h2,h3⟩
 .obtain⟨o,es,a,g,r⟩:=f;exact⟨o,es,a,k _ o (zt Z) g,r⟩
 .refine(I.hok b u e).stay (λ c v J q=>k c v ?_ q) (λ _ q=>q) λ _ _ q=>q;rcases J with z|z
  .rw[z];exact Y b u e
  .exact Y c _ z
theorem aI.tok(I:aI X aA L H s)(t:Nat):aI X aA L H {s with toks:=t}:=I.un Un.refl I.hok
theorem aI.kept(I:aI X aA L H s)(k:∀b u,s.heap.get? b=some u->h'.get? b=some u):aI X aA L H {s with heap:=h',toks:=t'}:=I.un (Un.kept k) (I.hok.kept k)
theorem aI.laid(I:aI X aA L H s)(k:∀b u,s.heap.get? b=some u->h'.get? b=some u)(q:s.heap.objs.size<=a)(new:aZ X.prog X.w (upd H a o) h' a o):aI X aA L (upd H a o) {s with heap:=h',toks:=t'}:=I.un (Un.laid k q (I.hok.fresh q)) (I.hok.laid k q new)
theorem aI.write(I:aI X aA L H s)(Y:q_ (H x))(J:e=x\/H e=some (.own x))(k:∀b u,b≠e->s.heap.get? b=some u->h'.get? b=some u)(q:∃u,h'.get? e=some u)(new:aZ X.prog X.w (upd H x o) h' x o):aI X aA L (upd H x o) {s with heap:=h',toks:=t'}:=I.un (Un.write Y J k q) (I.hok.write Y J k q new)
theorem aI.weak(I:aI X aA L H s)(J:q.length=L.length)(w:∀(i:Nat)v,q[i]?=some (some v)->L[i]?=some (some v)):aI X aA q H s:=
 ⟨I.ok,I.os,I.bare,I.base,let ⟨m,hn,hl'⟩:=I.loc;⟨m,hn,λ i x v e1 e2 e3=>hl' i x v e1 (w i v e2) e3⟩,I.cell,I.free,I.freeC,I.pin,I.hok,J.trans I.len⟩
theorem aI.pins_of{pins':List (Addr×Obj)}(I:aI X aA L H s)(h:∀p∈pins',s.heap.get? p.1=some p.2/\H p.1=none/\p.1≠X.env.locals/\p.1∉X.fs/\∀v,p.2.data≠.cell v):aI X pins' L H s:=
 ⟨I.ok,I.os,I.bare,I.base,I.loc,I.cell,I.free,I.freeC,λ p q=>(qv q).elim (λ z=>I.pin p (jd _ z)) (h p),I.hok,I.len⟩
theorem xK{N:List Str}(q:N.Nodup){i j:Nat}(a:N[i]?=some x)(b:N[j]?=some x):i=j:=by obtain⟨c,e1⟩:=List.getElem?_eq_some_iff.mp a;obtain⟨d,e2⟩:=List.getElem?_eq_some_iff.mp b;exact(List.getElem_inj q).mp (e1.trans e2.symm)
theorem DN{M:Model}{A:Around}{E:Value->Shared->Prop}{i:Nat}{x:Str}{v:V}{u:Value}{Q:Unit->Shared->Prop}(I:aI X aA L H s)(hN:X.N.Nodup)(hi:X.N[i]?=some x)(hx:jI X.env.scope x)(r:aU v u)(h:∀s',aI X aA (L.set i (some v)) H s'->(∃a,Heap.SameBut a s.heap s'.heap/\(a=X.env.locals\/X.env.cells.lookup x=some a))->Q () s')(hf:X.fn x=true\/X.env.scope.names.lookup x=some .local):wpAny M A (storeName X.env x u) Q E s:=by
 obtain⟨m,F,hl⟩:=id I.loc;have ag:(X.env.scope.kind==.class||(X.env.scope.kind==.module&&X.env.locals != X.env.globals))=false:=by rw[I.ok.kind];rfl
 have T:i<L.length:=by rw[I.len];exact(List.getElem?_eq_some_iff.mp hi).1
 have cne:=I.cne;have Y:∀{a:Addr}{h':Heap},(∃o,s.heap.get? a=some o/\H a=none)->Heap.SameBut a s.heap h'->dU X.prog X.w H h':=λ{a h'}ha J b ob e=>by
  obtain⟨_,_,aa⟩:=ha;refine(I.hok b ob e).stay (λ c C Z q=>(J.2 c ?_).trans q) (λ _ q=>q) λ _ _ q=>q;rintro rfl;rcases Z with rfl|Z
  .grind
  .grind
 rcases hx with l|l
 .refine wpAny_storeName_local l F (λ h' ak J=>?_) ag;refine ib (id F) λ oL _ _ al _=>?_;refine h _ ⟨I.ok,I.os,I.bare,⟨λ b o e n f hx=>?_,λ b o e n f hx=>?_,I.base.free,λ b o e hx=>?_,I.base.tups,I.base.frzs,I.base.tbls⟩,⟨_,ak,λ j y S e1 e2 e3=>?_⟩,λ y c e=>?_,I.free,I.freeC,λ p G=>?_,Y ⟨oL,al,I.free⟩ J,by simpa using I.len⟩ ⟨_,J,.inl rfl⟩
  .exact(J.2 b (qr (qp (qm e) I.ok.above))).trans (I.base.keep b o e n f hx)
  .obtain⟨P,e1⟩:=I.base.slot b o e n f hx;exact⟨P,(J.2 b (qr (qp (qm e) I.ok.above))).trans e1⟩
  .obtain⟨σ,e1⟩:=I.base.there b o e hx;exact⟨σ,(J.2 b (qr (qp (qm e) I.ok.above))).trans e1⟩
  .by_cases g:j=i
   .subst g;rw[hi]at e1;obtain rfl:=br e1;rw[zl T]at e2;cases e2;exact⟨u,r,.inl ⟨l,by simp⟩⟩
   .rw[zf (zt g)]at e2;obtain⟨R,O,q⟩:=hl j y S e1 e2 e3;refine⟨R,O,?_⟩;rcases q with⟨k,e⟩|⟨k,c,e,z⟩
    .refine .inl ⟨k,?_⟩;have:y≠x:=λ e=>g (xK hN e1 (e▸hi));simp[this,e]
    .exact .inr ⟨k,c,e,z.sameBut J (cne y c e)⟩
  .obtain⟨C,z⟩:=I.cell y c e;exact⟨C,z.sameBut J (cne y c e)⟩
  .refine jV (I.pin p G) λ e n B K d=>?_;exact jW ((J.2 p.1 B).trans e) n B K d
 .have D:X.fn x=true:=by
   rcases hf with z|z
   .exact z
   .grind
  obtain⟨c,Z⟩:=I.ok.has x (.inl l);obtain⟨C,z⟩:=I.cell x c Z;refine wpAny_storeName_cell I.ok.kind l Z z (λ h' ρ J=>?_);obtain⟨oc,aj,ai⟩:=id z;refine h {s with heap:=h'} ⟨I.ok,I.os,I.bare,⟨λ b o e n f hx=>?_,λ b o e n f hx=>?_,I.base.free,λ b o e hx=>?_,I.base.tups,I.base.frzs,I.base.tbls⟩,⟨m,F.sameBut J (zt (cne x c Z)),λ j y S e1 e2 e3=>?_⟩,λ y t e=>?_,I.free,I.freeC,λ p G=>?_,Y ⟨oc,aj,I.freeC x c Z⟩ J,by simpa using I.len⟩ ⟨c,J,.inr Z⟩
  .exact(J.2 b (qr (qp (qm e) (I.ok.cab x c D Z)))).trans (I.base.keep b o e n f hx)
  .obtain⟨P,e1⟩:=I.base.slot b o e n f hx;exact⟨P,(J.2 b (qr (qp (qm e) (I.ok.cab x c D Z)))).trans e1⟩
  .obtain⟨σ,e1⟩:=I.base.there b o e hx;exact⟨σ,(J.2 b (qr (qp (qm e) (I.ok.cab x c D Z)))).trans e1⟩
  .by_cases g:j=i
   .subst g;rw[hi]at e1;obtain rfl:=br e1;rw[zl T]at e2;cases e2;exact⟨u,r,.inr ⟨.inl l,c,Z,ρ⟩⟩
   .rw[zf (zt g)]at e2;obtain⟨R,O,q⟩:=hl j y S e1 e2 e3;refine⟨R,O,?_⟩;rcases q with q|⟨k,t,e,z'⟩
    .exact .inl q
    .refine .inr ⟨k,t,e,z'.sameBut J ?_⟩;rintro rfl;exact g (xK hN e1 (I.ok.inj _ _ _ e Z▸hi))
  .by_cases W:t=c
   .subst W;exact⟨_,ρ⟩
   .obtain⟨w2,z2⟩:=I.cell y t e;exact⟨w2,z2.sameBut J W⟩
  .refine jV (I.pin p G) λ e n B K d=>?_;refine jW ((J.2 p.1 ?_).trans e) n B K d;intro q;rw[q,aj]at e;have q':oc=p.2:=qi e;exact d C (by rw[<-q'];exact ai)
theorem wU{M:Model}{A:Around}{E:Value->Shared->Prop}{i:Nat}{x:Str}{v:V}{u:Value}{Q:Unit->Shared->Prop}(I:aI X aA L H s)(Y:X.N.Nodup)(hi:X.N[i]?=some x)(hx:jI X.env.scope x)(r:aU v u)(h:∀s',aI X aA (L.set i (some v)) H s'->Q () s')(J:X.fn x=true\/X.env.scope.names.lookup x=some .local):wpAny M A (storeName X.env x u) Q E s:=
 DN I Y hi hx r (λ s' q _=>h s' q) J
theorem aI.call'(I:aI X aA L H s)(Z:s'.os=s.os)(u:Un (fM X.stack) ch H H' s.heap s'.heap)(J:dU X.prog X.w H' s'.heap)(Y:AllBare s'.gens)(q:∀b∈ch,(b∈X.ex\/X.s₀.heap.objs.size<=b)/\b≠X.env.locals/\(∀x c,X.env.cells.lookup x=some c->c≠b)/\∀p∈X.pn++aA,p.1≠b):aI X aA L H' s':=by
 obtain⟨h',d,a,g,f⟩:=s';have e:=Z;subst e;exact I.call u J Y q
end
abbrev XK:=Value->Option Addr->Hp->Prop
noncomputable abbrev St:=List (Option V)
abbrev VK:=V->Hp->Prop
abbrev TE:=St->Hp->VK->Prop
abbrev TT:=St->Hp->(Bool->Hp->Prop)->Prop
abbrev TA:=St->Hp->(List V->Hp->Prop)->Prop
structure i0 where
 nx:St->Hp->Prop
 rt:VK
 bk:St->Hp->Prop:=λ _ _=>False
 ct:St->Hp->Prop:=λ _ _=>False
abbrev TS:=i0->St->Hp->Prop
def EP(X:Cx)(aA:List (Addr×Obj))(L:St)(Q:VK)(u:Value)(s':Shared):Prop:=∃v H',aI X aA L H' s'/\aU v u/\Q v H'
def TP(X:Cx)(aA:List (Addr×Obj))(L:St)(Q:Bool->Hp->Prop)(b:Bool)(s':Shared):Prop:=∃H',aI X aA L H' s'/\Q b H'
def AP(X:Cx)(aA:List (Addr×Obj))(L:St)(Q:List V->Hp->Prop)(us:List Value)(s':Shared):Prop:=∃vs H',aI X aA L H' s'/\aQ vs us/\Q vs H'
def SP(X:Cx)(aA:List (Addr×Obj))(D:i0)(f:Flow)(s':Shared):Prop:=
 match f with
 |.next=>∃q H',aI X aA q H' s'/\D.nx q H'
 |.brk=>∃q H',aI X aA q H' s'/\D.bk q H'
 |.cont=>∃q H',aI X aA q H' s'/\D.ct q H'
 |.ret u=>∃v q H',aI X aA q H' s'/\aU v u/\D.rt v H'
def PE(X:Cx)(e:Expr)(t:TE):Prop:=
 ∀(aA:List (Addr×Obj))(s:Shared)(L:St)(H:Hp)(Q:VK),aI X aA L H s->t L H Q->wpAny (model X.prog X.w) X.A (eval e X.env) (EP X aA L Q) X.xe s
def PT(X:Cx)(e:Expr)(t:TT):Prop:=
 ∀(aA:List (Addr×Obj))(s:Shared)(L:St)(H:Hp)(Q:Bool->Hp->Prop),aI X aA L H s->t L H Q->wpAny (model X.prog X.w) X.A (isTrue e X.env (eval e X.env)) (TP X aA L Q) X.xe s
def PW(X:Cx)(e:Expr)(t:TT):Prop:=
 ∀(q:Sem Value)(aA:List (Addr×Obj))(s:Shared)(L:St)(H:Hp)(Q:Bool->Hp->Prop),aI X aA L H s->t L H Q->wpAny (model X.prog X.w) X.A (isTrue e X.env q) (TP X aA L Q) X.xe s
theorem PW.pt(h:PW X e t):PT X e t:=h _
def PA(X:Cx)(es:List Expr)(t:TA):Prop:=
 ∀(pos:Pos)(aA:List (Addr×Obj))(s:Shared)(L:St)(H:Hp)(Q:List V->Hp->Prop),aI X aA L H s->t L H Q->wpAny (model X.prog X.w) X.A (spliced (backTo pos (starEach es X.env))) (AP X aA L Q) X.xe s
def PS(X:Cx)(st:Stmt)(t:TS):Prop:=
 ∀(aA:List (Addr×Obj))(s:Shared)(L:St)(H:Hp)(D:i0),aI X aA L H s->t D L H->wpAny (model X.prog X.w) X.A (exec st X.env) (SP X aA D) X.xe s
def d8(X:Cx)(st:List Stmt)(t:TS):Prop:=
 ∀(aA:List (Addr×Obj))(s:Shared)(L:St)(H:Hp)(D:i0),aI X aA L H s->t D L H->wpAny (model X.prog X.w) X.A (execs st X.env) (SP X aA D) X.xe s
theorem dJ{A B C:α->β->Prop}{P:Prop}(h:∀x y,A x y->B x y->C x y->P)(e:∃x y,A x y/\B x y/\C x y):P:=by
 refine cF e λ x y a b c=>?_;exact h x y a b c
theorem bN(h:wpAny M A t Q E s)(J:∀a s,Q a s->q a s):wpAny M A t q E s:=zy h J λ _ _ x=>x
section
variable{X:Cx}
def Hn(i:Nat):TE:=λ L H Q=>∃v,L[i]?=some (some v)/\Q v H
def tC(v:V):TE:=λ _ H Q=>Q v H
abbrev cH(x:Str):=(x==("__debug__":Str))=false
abbrev er(x:Str):=(x==("__classdict__":Str))=false
theorem eI{i:Nat}{x:Str}{pos:Pos}(hN:X.N[i]?=some x)(Z:fh X.env.scope x)(hd:cH x)(J:er x):PE X (.Name x pos) (Hn i):=by
 intro aA s L H Q I h;obtain⟨v,e,h⟩:=h;obtain⟨m,Y,b⟩:=I.loc;obtain⟨u,r,l⟩:=b i x v hN e Z;have fin:EP X aA L Q u s:=⟨v,H,I,r,h⟩;rcases l with⟨q,d⟩|⟨q,c,a,hcell⟩
 .exact wpAny_Name (wpAny_loadName_local I.ok.kind q Y d fin) hd
 .rcases q with q|q
  .exact wpAny_Name (wpAny_loadName_cell I.ok.kind q a hcell fin) hd
  .exact wpAny_Name (wpAny_loadName_free I.ok.kind q a hcell fin J) hd
theorem qY:PE X (.Constant (.int i) j pos) (tC (.int i)):=λ _ _ _ H _ I h=>wpAny_Constant_int ⟨.int i,H,I.tok _,⟨_,rfl⟩,h⟩
theorem QZ:PE X (.Constant (.bool b) j pos) (tC (.bl b)):=λ _ _ _ H _ I h=>Constant_bool ⟨.bl b,H,I,rfl,h⟩
theorem Ta:PE X (.Constant .none j pos) (tC .non):=λ _ _ _ H _ I h=>Constant_none ⟨.non,H,I,rfl,h⟩
theorem rJ:PE X (.Constant (.str x) j pos) (tC (.str x)):=λ _ _ _ H _ I h=>Calls.Constant_str ⟨.str x,H,I.tok _,⟨_,rfl⟩,h⟩
def Gl(X:Cx)(x:Str):Prop:=X.env.kindOf x=some .globalImplicit
theorem oe{E:Value->Shared->Prop}{aA:List (Addr×Obj)}{s:Shared}{L:St}{H:Hp}{x:Str}{u:Value}{pos:Pos}{Q:Value->Shared->Prop}(I:aI X aA L H s)(J:Gl X x)(q:X.mg x=some u)(h:Q u s)(hd:cH x):wpAny (model X.prog X.w) X.A (eval (.Name x pos) X.env) Q E s:=
 Calls.Name_function_global I.ok.kind J (Calls.loadGlobal_global (by rw[I.ok.glob];exact I.mod.glob.keeps I.bk) q h) hd
theorem rK(I:aI X aA L H s)(Z:Gl X x)(q:X.mg x=none)(Y:bootBuiltins x=some u)(h:Q u s)(J:x≠"__name__":=by decide)(hd:cH x:=by decide):wpAny (model X.prog X.w) X.A (eval (.Name x pos) X.env) Q E s:=by
 obtain⟨c,a,b⟩:=I.mod.blt;exact Calls.Name_function_global I.ok.kind Z (Calls.loadGlobal_builtin (by rw[I.ok.glob];exact I.mod.glob.keeps I.bk) q (by rw[I.ok.blt];exact a.keeps I.bk) ((b x J).trans Y) h) hd
theorem Oc{x:Str}{v:V}{u:Value}{pos:Pos}(J:Gl X x)(q:X.mg x=some u)(r:aU v u)(hd:cH x):PE X (.Name x pos) (tC v):=
 λ _ _ _ H _ I h=>oe I J q ⟨v,H,I,r,h⟩ hd
theorem Of(Z:Gl X x)(q:X.mg x=none)(Y:bootBuiltins x=some u)(r:aU v u)(J:x≠"__name__":=by decide)(hd:cH x:=by decide):PE X (.Name x pos) (tC v):=
 λ _ _ _ H _ I h=>rK I Z q Y ⟨v,H,I,r,h⟩ J hd
variable{a b:Expr}{ta tb:TE}{pos:Pos}
def tB(t:TE):TT:=λ L H Q=>t L H λ x H1=>∃c,x=.bl c/\Q c H1
variable{tA tB':TT}{rest:List Expr}
def b_(t u:TT):TT:=λ L H Q=>t L H λ c H1=>if c=true then u L H1 Q else Q false H1
def fq(t u:TT):TT:=λ L H Q=>t L H λ c H1=>if c=true then Q true H1 else u L H1 Q
def eH(t:TT):TT:=λ L H Q=>t L H λ c H1=>Q (!c) H1
theorem N3(q:PT X a tA):PW X (.BoolOp .And [a] pos) tA:=by
 intro J aA s L H Q I h;refine isTrue_and (bN (q aA s L H Q I h) λ c b e=>?_);cases c with
 |true=>exact isTrue_and_nil e
 |false=>exact e
theorem S1(q:PT X a tA):PW X (.BoolOp .Or [a] pos) tA:=by
 intro J aA s L H Q I h;refine isTrue_or (bN (q aA s L H Q I h) λ c b e=>?_);cases c with
 |false=>exact isTrue_or_nil e
 |true=>exact e
theorem S2(ha:PT X a tA)(Z:PW X (.BoolOp .And (b::rest) pos) tB'):PW X (.BoolOp .And (a::b::rest) pos) (b_ tA tB'):=by
 intro e aA s L H Q I h;refine isTrue_and (bN (ha aA s L H _ I h) λ c d q=>?_);obtain⟨H1,Y,J⟩:=q;cases c with
 |true=>exact Z e aA d L H1 Q Y J
 |false=>exact⟨H1,Y,J⟩
theorem QW(ha:PT X a tA)(Z:PW X (.BoolOp .Or (b::rest) pos) tB'):PW X (.BoolOp .Or (a::b::rest) pos) (fq tA tB'):=by
 intro e aA s L H Q I h;refine isTrue_or (bN (ha aA s L H _ I h) λ c d q=>?_);obtain⟨H1,Y,J⟩:=q;cases c with
 |true=>exact⟨H1,Y,J⟩
 |false=>exact Z e aA d L H1 Q Y J
theorem S4(q:PT X a tA):PT X (.UnaryOp .Not a pos) (eH tA):=by intro aA s L H Q I h;exact isTrue_not (q aA s L H (λ c H1=>Q (!c) H1) I h)
def QN(ta tb:TE):TE:=λ L H Q=>ta L H λ x H1=>∃c,x=.bl c/\if c=true then tb L H1 Q else Q (.bl false) H1
def RI(ta tb:TE):TE:=λ L H Q=>ta L H λ x H1=>∃c,x=.bl c/\if c=true then Q (.bl true) H1 else tb L H1 Q
theorem S_(h:PE X a t):PE X (.BoolOp op [a] pos) t:=λ aA s L H Q I q=>BoolOp_one (h aA s L H Q I q)
theorem Tc(Y:PE X a ta)(Z:PE X (.BoolOp .And (b::rest) pos) tb):PE X (.BoolOp .And (a::b::rest) pos) (QN ta tb):=by
 intro aA s L H Q I h;refine BoolOp_and (bN (Y aA s L H _ I h) λ v e=>dJ λ x H1 J d q=>?_);obtain⟨c,rfl,q⟩:=q;subst d;refine Qa ?_;cases c with
 |true=>exact Z aA e L H1 Q J q
 |false=>exact bE (.bl false) H1 J rfl q
theorem QY(Y:PE X a ta)(Z:PE X (.BoolOp .Or (b::rest) pos) tb):PE X (.BoolOp .Or (a::b::rest) pos) (RI ta tb):=by
 intro aA s L H Q I h;refine BoolOp_or (bN (Y aA s L H _ I h) λ v e=>dJ λ x H1 J d q=>?_);obtain⟨c,rfl,q⟩:=q;subst d;refine Qa ?_;cases c with
 |false=>exact Z aA e L H1 Q J q
 |true=>exact bE (.bl true) H1 J rfl q
def Ws(t:TT)(ta tb:TE):TE:=λ L H Q=>t L H λ c H1=>if c=true then ta L H1 Q else tb L H1 Q
theorem M9(hc:PT X c tA)(ha:PE X a ta)(Z:PE X b tb):PE X (.IfExp c a b pos) (Ws tA ta tb):=by
 intro aA s L H Q I h;refine wpAny_IfExp (bN (hc aA s L H _ I h) λ d e q=>?_);obtain⟨H1,Y,J⟩:=q;cases d with
 |true=>exact ha aA e L H1 Q Y J
 |false=>exact Z aA e L H1 Q Y J
end
def c7(K:Frag)(H:Hp)(a:Addr)(xs:List V):Prop:=
 Rd H a (.lst xs)\/
  ∃(o:Obj)(q:Array Value)(n:Nat),K.lookup a=some o∧o.cls=.type "list"∧o.dict=none∧o.data=.seq q n∧q.size≤sizeLine∧aQ xs q.toList
def dH(K:Frag)(H:Hp)(a:Addr)(xs:List V):Prop:=
 Rd H a (.tup xs)\/
  ∃(o:Obj)(q:Array Value)(n:Nat),K.lookup a=some o∧o.cls=.type "tuple"∧o.dict=none∧o.data=.seq q n∧q.size≤sizeLine∧aQ xs q.toList
noncomputable def UQ:Value->Option V
 |.none=>some .non
 |.bool b=>some (.bl b)
 |.int i _=>some (.int i)
 |.str x _=>some (.str x)
 |.bytes b _=>some (.byt b)
 |.float b _=>some (.flt b)
 |.ref a=>some (.ref a)
 |.type n=>some (.ty n)
 |_=>none
theorem aU.abs(r:aU x u):UQ u=some x:=by
 cases x with
 |non=>subst r;rfl
 |bl _=>subst r;rfl
 |int _=>obtain⟨t,rfl⟩:=r;rfl
 |str _=>obtain⟨t,rfl⟩:=r;rfl
 |byt _=>obtain⟨t,rfl⟩:=r;rfl
 |flt _=>obtain⟨t,rfl⟩:=r;rfl
 |ref _=>subst r;rfl
 |ty _=>subst r;rfl
theorem aU.inj(r:aU x u)(q:aU y u):x=y:=qi (r.abs.symm.trans q.abs)
theorem aQ.inj:∀{xs ys:List V}{us:List Value},aQ xs us->aQ ys us->xs=ys
 |[],ys,us,h,k=>by cases h;cases k;rfl
 |x::xs,ys,us,h,k=>by
  cases h with
  |cons r t=>
   cases k with
   |cons q a=>rw[r.inj q,aQ.inj t a]
section
variable{X:Cx}{aA:List (Addr×Obj)}{L:St}{H:Hp}{s:Shared}{a:Addr}{xs ys:List V}
theorem c7.of{K:Frag}(h:H a=some (.lst xs)):c7 K H a xs:=.inl (.inl h)
theorem aI.list(I:aI X aA L H s)(h:c7 X.K H a xs):∃q:List Value,aQ xs q/\PlainL s.heap a q.toArray/\xs.length<=sizeLine:=by
 rcases h with h|⟨o,q,n,c,b,hd,d,f,r⟩
 .obtain⟨z,q,n,r,e⟩:=h.ok I.hok;exact cN q r ⟨_,n,e,rfl,rfl,rfl⟩ z
 .refine cN q.toList r ⟨o,n,I.kIn a o c,b,hd,by simpa using d⟩ ?_;have e:=r.length;grind
theorem aI.tuple(I:aI X aA L H s)(h:dH X.K H a xs):∃q:List Value,aQ xs q/\IsTup s.heap a q.toArray/\xs.length<=sizeLine:=by
 rcases h with h|⟨o,q,n,c,b,_,d,f,r⟩
 .obtain⟨z,q,r,p⟩:=h.ok I.hok;exact cN q r p.tup z
 .refine cN q.toList r ⟨o,I.kIn a o c,b,n,by simpa using d⟩ ?_;have e:=r.length;grind
theorem aI.tupleN(I:aI X aA L H s)(h:dH X.K H a xs):∃q:List Value,aQ xs q/\ec s.heap a q.toArray/\xs.length<=sizeLine:=by
 rcases h with h|⟨o,q,n,c,b,hd,d,f,r⟩
 .obtain⟨z,q,r,p⟩:=h.ok I.hok;exact cN q r p z
 .refine cN q.toList r (⟨o,I.kIn a o c,b,⟨n,by simpa using d⟩,hd⟩) ?_;have e:=r.length;grind
theorem aI.list_inj(I:aI X aA L H s)(h:c7 X.K H a xs)(h':c7 X.K H a ys):xs=ys:=by
 obtain⟨q,r,⟨o,n,e,_,_,d⟩,_⟩:=I.list h;obtain⟨its',Y,⟨f,Z,J,_,_,b⟩,_⟩:=I.list h';rw[e]at J;obtain rfl:=br J;rw[d]at b;injection b with c _
 have:q=its':=by grind
 subst this;exact r.inj Y
theorem aI.tuple_inj(I:aI X aA L H s)(h:dH X.K H a xs)(h':dH X.K H a ys):xs=ys:=by
 obtain⟨q,r,⟨o,e,_,n,d⟩,_⟩:=I.tuple h;obtain⟨its',Y,⟨f,J,_,Z,b⟩,_⟩:=I.tuple h';rw[e]at J;obtain rfl:=br J;rw[d]at b;injection b with c _
 have:q=its':=by grind
 subst this;exact r.inj Y
end
noncomputable abbrev Cx.wish(X:Cx)(E:Value->Shared->Prop):Cx:={X with xe:=E}
abbrev Cx.nox(X:Cx):Cx:=X.wish λ _ _=>False
theorem Cx.Ok.wish{X:Cx}(ok:X.Ok)(E:Value->Shared->Prop):(X.wish E).Ok:=
 ⟨ok.mod,ok.kind,ok.glob,ok.blt,ok.above,ok.inj,ok.has,ok.cab,ok.hd,ok.frames,ok.stk,ok.exf,ok.bs,ok.bsz,ok.noex,ok.exfs,ok.funs,ok.frf⟩
theorem Cx.Ok.unwish{X:Cx}(ok:(X.wish E).Ok):X.Ok:=
 ⟨ok.mod,ok.kind,ok.glob,ok.blt,ok.above,ok.inj,ok.has,ok.cab,ok.hd,ok.frames,ok.stk,ok.exf,ok.bs,ok.bsz,ok.noex,ok.exfs,ok.funs,ok.frf⟩
section
variable{X:Cx}{aA:List (Addr×Obj)}{L:St}{H:Hp}{s:Shared}{E:Value->Shared->Prop}
theorem aI.wish(I:aI X aA L H s)(E:Value->Shared->Prop):aI (X.wish E) aA L H s:=⟨I.ok.wish E,I.os,I.bare,I.base,I.loc,I.cell,I.free,I.freeC,I.pin,I.hok,I.len⟩
theorem aI.unwish(I:aI (X.wish E) aA L H s):aI X aA L H s:=⟨I.ok.unwish,I.os,I.bare,I.base,I.loc,I.cell,I.free,I.freeC,I.pin,I.hok,I.len⟩
theorem SP.unwish(h:SP (X.wish E) aA D f s'):SP X aA D f s':=by
 cases f with
 |next=>refine cX h λ J H' I q=>?_;exact ie J H' I.unwish q
 |brk=>refine cX h λ J H' I q=>?_;exact ie J H' I.unwish q
 |cont=>refine cX h λ J H' I q=>?_;exact ie J H' I.unwish q
 |ret u=>refine d7 h λ v J H' I r q=>?_;exact⟨v,J,H',I.unwish,r,q⟩
theorem PE.nox(h:PE X.nox e t):PE X e t:=λ aA s L H Q I Y=>
 zy (h aA s L H Q (I.wish _) Y) (λ _ _⟨v,H',J,r,q⟩=>⟨v,H',J.unwish,r,q⟩) λ _ _ z=>False.elim z
theorem PT.nox(h:PT X.nox e t):PT X e t:=λ aA s L H Q I Y=>
 zy (h aA s L H Q (I.wish _) Y) (λ _ _⟨H',J,q⟩=>⟨H',J.unwish,q⟩) λ _ _ z=>False.elim z
theorem d8.nox{st:List Stmt}(h:d8 X.nox st t):d8 X st t:=λ aA s L H D I J=>
 zy (h aA s L H D (I.wish _) J) (λ _ _ q=>q.unwish) λ _ _ z=>False.elim z
end
section
variable{st:Stmt}{rest:List Stmt}
def QH:TS:=λ D L H=>D.nx L H
def RG(t u:TS):TS:=λ D L H=>t {D with nx:=u D} L H
theorem PL:d8 X [] QH:=λ _ _ L H _ I h=>Zj ⟨L,H,I,h⟩
theorem sZ(h1:PS X st t)(h2:d8 X rest u):d8 X (st::rest) (RG t u):=by
 intro aA s L H D I h;refine wpAny_execs_cons (bN (h1 aA s L H {D with nx:=u D} I h) λ f a q=>?_);cases f with
 |next=>
  refine cX q λ J H' Y q=>?_;exact h2 aA a J H' D Y q
 |ret v=>exact q
 |brk=>exact q
 |cont=>exact q
theorem nY(h1:PS X st t):d8 X [st] t:=by
 intro aA s L H D I h;refine wpAny_execs_cons (bN (h1 aA s L H D I h) λ f a q=>?_);cases f with
 |next=>exact Zj q
 |ret v=>exact q
 |brk=>exact q
 |cont=>exact q
theorem aI.quiet(I:aI X aA L H s):interactive X.env=false:=by simp[interactive,I.ok.kind]
def QI(te:TE):TS:=λ D L H=>te L H λ _ H1=>D.nx L H1
theorem GU(q:PE X e te)(Z:swapsWith e none pos.line X.env=pure false):PS X (.Expr e pos) (QI te):=by intro aA s L H D I h;exact wpAny_Expr_any (bN (q aA s L H _ I h) λ v b=>dJ λ x H1 Y a J=>⟨L,H1,Y,J⟩) I.quiet Z
def RH(te:TE):TS:=λ D L H=>te L H D.rt
theorem vi(q:PE X e te):PS X (.Return (some e) pos) (RH te):=by intro aA s L H D I h;exact wpAny_Return_some (bN (q aA s L H _ I h) λ v b=>dJ λ x H1 J a Y=>⟨x,L,H1,J,a,Y⟩)
def RL(c:TT)(t u:TS):TS:=λ D L H=>c L H λ b H1=>if b=true then t D L H1 else u D L H1
theorem Fi(hc:PT X c tc)(ha:d8 X a t)(Z:d8 X b u):PS X (.If c a b pos) (RL tc t u):=by
 intro aA s L H D I h;refine wpAny_If (bN (hc aA s L H _ I h) λ d e q=>?_);obtain⟨H1,Y,J⟩:=q;cases d with
 |true=>exact ha aA e L H1 D Y J
 |false=>exact Z aA e L H1 D Y J
end
abbrev TG:=V->St->Hp->(St->Hp->Prop)->Prop
abbrev kD:=List V->St->Hp->(St->Hp->Prop)->Prop
def PG(X:Cx)(q:Expr)(t:TG):Prop:=
 ∀(aA:List (Addr×Obj))(s:Shared)(L:St)(H:Hp)(v:V)(u:Value)(Q:St->Hp->Prop),aI X aA L H s->aU v u->t v L H Q->wpAny (model X.prog X.w) X.A (assign q X.env u) (λ _ s'=>∃J H',aI X aA J H' s'/\Q J H') X.xe s
def oO(X:Cx)(ts:List Expr)(t:kD):Prop:=
 ∀(aA:List (Addr×Obj))(s:Shared)(L:St)(H:Hp)(vs:List V)(us:List Value)(Q:St->Hp->Prop),aI X aA L H s->aQ vs us->t vs L H Q->wpAny (model X.prog X.w) X.A (assignInOrder ((assignEach ts X.env).map (·.2)) us) (λ _ s'=>∃q H',aI X aA q H' s'/\Q q H') X.xe s
abbrev Hg:=V->V->V->Hp->(Hp->Prop)->Prop
def HK(X:Cx)(t:Hg):Prop:=
 ∀(aA:List (Addr×Obj))(s:Shared)(L:St)(H:Hp)(o i v:V)(q J u:Value)(Q:Hp->Prop),aI X aA L H s->aU o q->aU i J->aU v u->t o i v H Q->wpAny (model X.prog X.w) X.A (setItem q J u) (λ _ s'=>∃H',aI X aA L H' s'/\Q H') X.xe s
section
def AW(i:Nat):TG:=λ v L H Q=>Q (L.set i (some v)) H
theorem GW{i:Nat}{x:Str}(Y:X.N.Nodup)(hi:X.N[i]?=some x)(hx:jI X.env.scope x)(J:X.fn x=true\/X.env.scope.names.lookup x=some .local):PG X (.Name x pos) (AW i):=by intro aA s L H v u Q I r h;exact wpAny_assign_Name (wU I Y hi hx r (λ s' q=>⟨_,H,q,h⟩) J)
def UK:kD:=λ vs L H Q=>vs=[]/\Q L H
def Rm(t:TG)(u:kD):kD:=λ vs L H Q=>∃v r,vs=v::r/\t v L H λ q H'=>u r q H' Q
theorem Ob:oO X [] UK:=by intro aA s L H a us Q I r h;obtain⟨e,h⟩:=h;subst e;cases r;exact assignInOrder_nil ⟨L,H,I,h⟩
theorem M8{e:Expr}{es:List Expr}{t:TG}{u:kD}(h1:PG X e t)(h2:oO X es u)(hs:(assignEach (e::es) X.env).map (·.2)=assign e X.env::(assignEach es X.env).map (·.2)):oO X (e::es) (Rm t u):=by
 intro aA s L H d us Q I r h;obtain⟨v,c,e1,h⟩:=h;subst e1;cases r with
 |cons r Z=>
  rw[hs];refine assignInOrder_cons (bN (h1 aA s L H _ _ _ I r h) λ _ b q=>?_);refine cX q λ J H1 a Y=>?_;exact h2 aA b J H1 _ _ Q a Z Y
def UI(K:Frag)(n:Nat)(t:kD):TG:=λ v L H Q=>∃a xs,v=.ref a/\dH K H a xs/\xs.length=n/\t xs L H Q
theorem S8{es:List Expr}{k:Nat}{t:kD}{n:Nat}(hc:X.calm=true)(h:oO X es t)(Z:(assignEach es X.env).length=n)(J:(assignEach es X.env).findIdx? (·.1)=none):PG X (.Tuple es k pos) (UI X.K n t):=by
 intro aA s L H v u Q I r q;obtain⟨a,xs,e1,f,d,q⟩:=q;subst e1;subst r;refine aW (I.tuple f) λ i Y g j=>?_;refine assign_Tuple_tuple (I.ok.hd hc) g (by simp[Z,<-d,Y.length]) J λ h' hx=>?_;have c:aI X aA L H {s with heap:=h'}:=I.kept (t':=s.toks) λ b o e=>hx b o (qr (qm e)) e;exact h aA _ L H xs _ Q c (by simpa using Y) q
def UJ(to q:TE)(t:Hg):TG:=λ v L H Q=>to L H λ o H1=>q L H1 λ i H2=>t o i v H2 λ J=>Q L J
theorem ER(ho:PE X o to)(hi:PE X i Z)(hs:HK X t)
  (ha:∀v,assign (.Subscript o i pos) X.env v=(do
   let q<-holding [v] (eval o X.env)
   let Y<-holding [v,q] (eval i X.env)
   standAt pos
   holding [v,q,Y] (setItem q Y v)
   release [v,q,Y] []):=by intro _;rfl):PG X (.Subscript o i pos) (UJ to Z t):=by
 intro aA s L H v u Q I r h;rw[ha];refine qb (z0 (bN (ho aA s L H _ I h) λ q m=>dJ λ x H1 c k f=>?_));refine qb (z0 (bN (hi aA m L H1 _ c f) λ Y n=>dJ λ y a d l g=>?_));refine qb (Qy (qb (z0 (bN (hs aA n L a x y v q Y u _ d k l r g) λ _ p J=>?_))));obtain⟨b,e,j⟩:=J;exact wpAny_release ⟨L,b,e,j⟩
def Ho(te:TE)(g:TG):TS:=λ D L H=>te L H λ x H1=>g x L H1 D.nx
theorem Aj(Y:PE X e te)(hg:PG X tg g)(hs:swapsWithSole [tg] e pos.line X.env=pure false:=by rfl)(hw:swappedStores [tg] e X.env=pure none:=by rfl)(h1:(assignEach [tg] X.env).map (·.2)=[assign tg X.env]:=by rfl):PS X (.Assign [tg] e pos) (Ho te g):=by
 intro aA s L H D I h;refine wpAny_Assign_stores (bN (Y aA s L H _ I h) λ v b=>dJ λ x H1 Z a J=>?_) hs hw;rw[h1];exact bN (hg aA b L H1 x v _ Z a J) λ _ c q=>q
theorem mP(Z:X.N.Nodup)(hi:X.N[i]?=some x)(hx:jI X.env.scope x)(J:PE X e te)(hs:swapsWith e (some (.Name x pos')) pos.line X.env=pure false:=by rfl)(hf:X.fn x=true\/X.env.scope.names.lookup x=some .local:=by first|exact .inl rfl|exact .inr rfl|assumption):PS X (.Assign [.Name x pos'] e pos) (Ho te (AW i)):=by
 intro aA s L H D I h;refine wpAny_Assign_Name (bN (J aA s L H _ I h) λ v c=>dJ λ y H1 Y b q=>?_) hs;exact wU Y Z hi hx b (λ d a=>⟨_,H1,a,q⟩) hf
end
section
def SU(c:TT)(tb:TS):TS:=λ D L H=>∃W:Nat->St->Hp->Prop,(∃m,W m L H)/\∀m L H,W m L H->c L H λ b H1=>if b=true then ∃N:St->Hp->Prop,(∀q H',N q H'->∃J,J<m/\W J q H')/\tb {D with nx:=N,ct:=N,bk:=D.nx} L H1 else D.nx L H1
theorem M5(hp:PassesOwn (model X.prog X.w) X.A X.env X.xe)(hc:PT X c tc)(hb:d8 X Y tb):PS X (.While c Y [] pos) (SU tc tb):=by
 intro aA s L H D I h;obtain⟨W,⟨u,z⟩,turn⟩:=h;refine wpAny_While (codeAny_whileLoop (λ n s'=>∃p H',aI X aA p H' s'/\W n p H') ?_ u ⟨L,H,I,z⟩);rintro n x ⟨J,H1,t,B⟩;refine j7 hp (bN (hc aA x J H1 _ t (turn n J H1 B)) λ b y Z=>?_);obtain⟨m,o,d⟩:=Z;cases b with
 |true=>
  obtain⟨N,r,d⟩:=d;rw[if_pos rfl];refine j7 hp (bN (hb aA y J m _ o d) λ f C e=>?_);cases f with
  |next=>
   refine cX e λ q a g k=>?_;obtain⟨j,i,l⟩:=r q a k;exact⟨j,i,q,a,g,l⟩
  |cont=>
   refine cX e λ q a g k=>?_;obtain⟨j,i,l⟩:=r q a k;exact⟨j,i,q,a,g,l⟩
  |brk=>exact e
  |ret v=>exact e
 |false=>
  rw[if_neg zj];exact Zj ⟨J,m,o,d⟩
end
structure It where
 go:Nat->Hp->Prop
 yld:Nat->Hp->V->Hp->Prop
 stop:Nat->Hp->Prop
def dN(X:Cx)(aA:List (Addr×Obj))(H:Hp)(b:Addr):Prop:=
 H b=none/\b≠X.env.locals/\b∉X.fs/\(b∈X.ex\/X.s₀.heap.objs.size<=b)/\(∀x c,X.env.cells.lookup x=some c->c≠b)/\∀p∈X.pn++aA,p.1≠b
theorem aI.fpOk(I:aI X aA L H s)(J:s.heap.objs.size<=b)(Y:H' b=none):dN X aA H' b:=by
 refine⟨Y,Yh (qp I.lt J),I.nofs J,.inr (zc I.sz J),λ x c e z=>?_,λ p Z z=>?_⟩
 .obtain⟨v,q⟩:=I.cell x c e;exact absurd (qp q.lt (by rw[z];exact J)) (ja _)
 .exact absurd (qp (qm (I.pin p Z).1) (by rw[z];exact J)) (ja _)
structure fG(P:Program)(w:World)(K:Frag)(tg:Expr)(J:It)(fp:List Addr)(it:Addr)(tn:Nat->Heap->Prop):Prop where
 mem:it∈fp
 obj:∀i h,tn i h->∀b∈fp,∃o,h.get? b=some o/\∀v,o.data≠.cell v
 keep:∀i h h',tn i h->(∀b∈fp,∀o,h.get? b=some o->h'.get? b=some o)->tn i h'
 item:∀(X:Cx),X.prog=P->X.w=w->X.K=K->X.calm=true->∀(i:Nat)(aA:List (Addr×Obj))(s:Shared)(L:St)(H:Hp)(E:Value->Shared->Prop),aI X aA L H s->(∀b∈fp,dN X aA H b)->tn i s.heap->J.go i H->wpAny (model P w) X.A (pyNext (.ref it)) (λ r s1=>∃u,r=some u/\wpAny (model P w) X.A (letOwnedTupleGo tg (.ref it) u) (λ _ s2=>∃x H',aI X aA L H' s2/\aU x u/\J.yld i H x H'/\tn (i+1) s2.heap/\∀b∈fp,H' b=none) E s1) E s
 done:∀(X:Cx),X.prog=P->X.w=w->X.K=K->X.calm=true->∀(i:Nat)(aA:List (Addr×Obj))(s:Shared)(L:St)(H:Hp)(E:Value->Shared->Prop),aI X aA L H s->(∀b∈fp,dN X aA H b)->tn i s.heap->J.stop i H->wpAny (model P w) X.A (pyNext (.ref it)) (λ r s1=>r=none/\aI X aA L H s1) E s
 self:∀(A:Around)(i:Nat)(s:Shared)(Q:Value->Shared->Prop)(E:Value->Shared->Prop),tn i s.heap->Q (.ref it) s->wpAny (model P w) A (pyIter (.ref it)) Q E s
abbrev TI:=St->Hp->(It->Hp->Prop)->Prop
def DE(X:Cx)(aA:List (Addr×Obj))(L:St)(tg:Expr)(R:It->Hp->Prop)(q:Value)(s2:Shared):Prop:=
 ∃(it:Addr)(Z:List Addr)(Y:Nat->Heap->Prop)(J:It)(H':Hp),q=.ref it/\aI X aA L H' s2/\fG X.prog X.w X.K tg J Z it Y/\Y 0 s2.heap/\(∀b∈Z,dN X aA H' b)/\R J H'
def PI(X:Cx)(tg iter:Expr)(q:TI):Prop:=
 ∀(aA:List (Addr×Obj))(s:Shared)(L:St)(H:Hp)(R:It->Hp->Prop),aI X aA L H s->q L H R->wpAny (model X.prog X.w) X.A (eval iter X.env) (λ v s1=>wpAny (model X.prog X.w) X.A (pyIter v) (DE X aA L tg R) X.xe s1) X.xe s
theorem rM(Z:s.heap.get? it=some o)(Y:o.cls=.type n)(hd:o.data=.fields vs)(J:["enumerate","zip","dict_itemiterator","dict_reverseitemiterator","odict_iterator","itertools.zip_longest","itertools.pairwise"].contains n=false)(q:Q () s):wpAny M A (letOwnedTupleGo tg (.ref it) u) Q E s:=by
 cases tg<;>first
  |exact qc q
  |(cases u<;>first
    |exact qc q
    |(refine qb (wpAny_load Z ?_);rw[Y,hd];show wpAny M A (if(["enumerate","zip","dict_itemiterator","dict_reverseitemiterator","odict_iterator","itertools.zip_longest","itertools.pairwise"].contains n&&vs[0]?==some (rawInt _))=true then _ else _) Q E s;rw[if_neg (by grind)];exact qc q))
noncomputable def um(K:Frag)(a:Addr):It:=
 ⟨λ i H=>∃xs x,c7 K H a xs/\xs[i]?=some x,λ i H x H'=>H'=H/\∀xs,c7 K H a xs->xs[i]?=some x,λ i H=>∃xs,c7 K H a xs/\xs.length<=i⟩
noncomputable def xj(K:Frag)(a:Addr):It:=
 ⟨λ i H=>∃xs x,dH K H a xs/\xs[i]?=some x,λ i H x H'=>H'=H/\∀xs,dH K H a xs->xs[i]?=some x,λ i H=>∃xs,dH K H a xs/\xs.length<=i⟩
noncomputable def uo(lo:Int)(n:Nat):It:=⟨λ i _=>i<n,λ i H x H'=>H'=H/\x=.int (lo+i),λ i _=>n<=i⟩
theorem Pw{K:Frag}(a it:Addr):fG P w K tg (um K a) [it] it (λ i h=>h.IsListIter it a i)where
 mem:=by simp
 obj:=λ i h st b q=>by
  have e:b=it:=by simpa using q
  subst e;refine aW st λ o e c d=>?_;exact⟨o,e,λ v z=>by rw[d]at z;simp at z⟩
 keep:=λ i h h' st k=>st.at λ o e=>k it (by simp) o e
 item:=by
  intro X r y n B i aA s L H E I Z st t;subst r y n;refine cX t λ xs x Y hx=>?_;refine aW (I.list Y) λ D A p N=>?_;obtain⟨u,σ,O⟩:=A.get hx;refine eS (Z it (by simp)) λ f g G j l m=>?_;refine wpAny_pyNext_list_item st p.isList (by simpa using σ) λ h' J Q=>?_;have C:=I.turned (t':=s.toks) (λ b o q e=>(Q.2 b q).trans e) f g j l m;refine aW (id J) λ o e c d=>?_;exact⟨u,rfl,rM e c d (by decide) ⟨x,H,C,O,⟨rfl,λ ys M=>by rw[I.list_inj M Y];exact hx⟩,J,λ b q=>(Z b q).1⟩⟩
 done:=by
  intro X r y n B i aA s L H E I Z st t;subst r y n;obtain⟨xs,Y,hx⟩:=t;refine aW (I.list Y) λ D A p N=>?_;refine eS (Z it (by simp)) λ f g G j l m=>?_;have R:=A.length;exact wpAny_pyNext_list_end (I.ok.hd B) st p.isList (by simp;lia) λ h' F=>⟨rfl,I.turned (λ b o q e=>F b o q e) f g j l m⟩
 self:=λ _ _ _ _ _ st h=>wpAny_pyIter_listiter st h
theorem O4{K:Frag}(a it:Addr):fG P w K tg (xj K a) [it] it (λ i h=>h.IsTupleIter it a i)where
 mem:=by simp
 obj:=λ i h st b J=>by
  have e:b=it:=by simpa using J
  subst e;refine aW st λ o e c d=>?_;exact⟨o,e,λ v z=>by rw[d]at z;simp at z⟩
 keep:=λ i h h' st k=>st.at λ o e=>k it (by simp) o e
 item:=by
  intro X t A r C i aA s L H E I f st y;subst t A r;refine cX y λ xs x Z hx=>?_;refine aW (I.tuple Z) λ q B p N=>?_;obtain⟨u,σ,O⟩:=B.get hx;refine eS (f it (by simp)) λ g j G l m n=>?_;refine Z4 st (show s.heap.IsTuple a q.toArray from p) (by simpa using σ) λ h' Y Q=>?_;have D:=I.turned (t':=s.toks) (λ b o J e=>(Q.2 b J).trans e) g j l m n;refine aW (id Y) λ o e c d=>?_;exact⟨u,rfl,rM e c d (by decide) ⟨x,H,D,O,⟨rfl,λ ys M=>by rw[I.tuple_inj M Z];exact hx⟩,Y,λ b J=>(f b J).1⟩⟩
 done:=by
  intro X t A r C i aA s L H E I f st y;subst t A r;obtain⟨xs,Z,hx⟩:=y;refine aW (I.tuple Z) λ q B p N=>?_;refine eS (f it (by simp)) λ g j G l m n=>?_;have R:=B.length;exact Yc (I.ok.hd C) st (show s.heap.IsTuple a q.toArray from p) (by simp;lia) λ h' F=>⟨rfl,I.turned (λ b o J e=>F b o J e) g j l m n⟩
 self:=λ _ _ _ _ _ st h=>wpAny_pyIter_tupleiter st h
theorem O5{K:Frag}(it:Addr)(lo:Int)(n:Nat):fG P w K tg (uo lo n) [it] it (λ i h=>IsRangeIter h it (lo+(i:Nat)*1) ((n:Int)-(i:Nat)) 1)where
 mem:=by simp
 obj:=λ i h st b q=>by
  have e:b=it:=by simpa using q
  subst e;exact⟨_,st,λ v z=>by
   have B:=z;cases B⟩
 keep:=λ i h h' st k=>k it (by simp) _ st
 item:=by
  intro X j p Z l i aA s L H E I Y st m;subst j p Z;obtain⟨a,c,x,d,f,g⟩:=Y it (by simp);have W:=Walks.range (prog:=X.prog) (w:=X.w) (I.ok.hd l) it lo 1 n;refine W.item i s _ _ m st λ v h' A y J kk=>?_;obtain⟨t,rfl⟩:=y;have r:aI X aA L H {s with heap:=h',toks:=A}:=I.turned (λ b o q e=>kk b o (by simpa using q) e) a c d f g;refine⟨_,rfl,rM J rfl rfl (by decide) ⟨.int (lo+i),H,r,⟨t,?_⟩,⟨rfl,rfl⟩,J,λ b q=>(Y b q).1⟩⟩;rw[Z0]
 done:=by
  intro X j p Z l i aA s L H E I Y st m;subst j p Z;obtain⟨a,c,x,d,f,g⟩:=Y it (by simp);exact wpAny_pyNext_range_end (I.ok.hd l) st (by have:n<=i:=m;lia) λ h' u=>⟨rfl,I.turned (λ b o q e=>u b o q e) a c d f g⟩
 self:=λ _ _ _ _ _ st h=>wpAny_pyIter_rangeiter st h
section
def Iw(K:Frag)(tl:TE):TI:=λ L H R=>tl L H λ x H1=>∃a,x=.ref a/\(∃xs,c7 K H1 a xs)/\R (um K a) H1
def HB(K:Frag)(tl:TE):TI:=λ L H R=>tl L H λ x H1=>∃a,x=.ref a/\(∃xs,dH K H1 a xs)/\R (xj K a) H1
theorem zG(hl:PE X l tl):PI X tg l (Iw X.K tl):=by
 intro aA s L H R I h;refine bN (hl aA s L H _ I h) λ v c=>dJ λ x H1 J f Y=>?_;obtain⟨a,e,⟨xs,d⟩,q⟩:=Y;subst e;subst f;refine aW (J.list d) λ g j p i=>?_;refine wpAny_pyIter_list p.isList ?_;refine⟨c.heap.objs.size,[c.heap.objs.size],_,_,H1,rfl,J.kept λ b o e=>qd _ e,Pw a _,⟨_,qk _ rfl,rfl,rfl⟩,λ b Z=>?_,q⟩;have e:b=c.heap.objs.size:=by simpa using Z
 subst e;exact J.fpOk (qj _) (J.hok.fresh (qj _))
theorem S5(hl:PE X l tl):PI X tg l (HB X.K tl):=by
 intro aA s L H R I h;refine bN (hl aA s L H _ I h) λ v c=>dJ λ x H1 J g Z=>?_;obtain⟨a,e,⟨xs,f⟩,q⟩:=Z;subst e;subst g;refine aW (J.tuple f) λ Y j p i=>?_;refine wpAny_pyIter_tuple (show c.heap.IsTuple a Y.toArray from p) ?_;refine⟨c.heap.objs.size,[c.heap.objs.size],_,_,H1,rfl,J.kept λ b o e=>qd _ e,O4 a _,⟨_,qk _ rfl,rfl,rfl⟩,λ b d=>?_,q⟩;have e:b=c.heap.objs.size:=by simpa using d
 subst e;exact J.fpOk (qj _) (J.hok.fresh (qj _))
theorem M1{lo hi:Int}(I:aI X aA L H s)(h1:-(2^62)<=lo)(h2:lo<2^62)(Y:-(2^62)<=hi)(Z:hi<2^62)(q:R (uo lo (hi-lo).toNat) H):wpAny (model X.prog X.w) X.A (pyIter (.ref s.heap.objs.size)) (DE X aA L tg R) E {s with heap:=s.heap.push {cls:=.type "range",data:=.fields #[.int lo t,.int hi u,.int 1 v]},toks:=tk}:=by
 refine wpAny_pyIter_range (IsRange.new ..) (small_one h1 h2 Y Z) ?_;have J:aI X aA L H {s with heap:=s.heap.push {cls:=.type "range",data:=.fields #[.int lo t,.int hi u,.int 1 v]},toks:=tk}:=I.kept λ b o e=>qd _ e;refine⟨(s.heap.push {cls:=.type "range",data:=.fields #[.int lo t,.int hi u,.int 1 v]}).objs.size,[(s.heap.push {cls:=.type "range",data:=.fields #[.int lo t,.int hi u,.int 1 v]}).objs.size],_,_,H,rfl,J.kept λ b o e=>qd _ e,O5 _ lo (hi-lo).toNat,?_,λ b a=>?_,q⟩
 .have e1:lo+((0:Nat):Int)*1=lo:=by simp
  have e2:(((hi-lo).toNat:Nat):Int)-((0:Nat):Int)=Builtin.Range.rangeSize lo hi 1:=by rw[rangeSize_one];split<;>lia
  rw[e1,e2];exact qk _ rfl
 .have e:b=(s.heap.push {cls:=.type "range",data:=.fields #[.int lo t,.int hi u,.int 1 v]}).objs.size:=by simpa using a
  subst e;exact J.fpOk (qj _) (J.hok.fresh (qj _))
def Rk(ta:TA):TI:=λ L H R=>ta L H λ vs H1=>∃j:Int,vs=[.int j]/\-(2^62)<=j/\j<2^62/\R (uo 0 j.toNat) H1
theorem PU{a:Expr}{ta:TA}{p pos:Pos}(hg:Gl X "range")(Y:X.mg "range"=none)(ha:PA X [a] ta)(hs:starEach [a] X.env=[(false,eval a X.env)]):PI X tg (.Call (.Name "range" p) [a] [] pos) (Rk ta):=by
 intro aA s L H R I h;refine Call_ (rK I hg Y boot_range (Zo (bN (ha pos aA s L H _ I h) λ us f=>dJ λ g H1 b d J=>?_) hs rfl));obtain⟨j,e,J,c,q⟩:=J;subst e;cases d with
 |cons r Z=>
  cases Z;obtain⟨t,rfl⟩:=r;exact call_range_1 (M1 b (by lia) (by lia) J c (by simpa using q))
def RM(wi:TI)(g:TG)(tb:TS):TS:=λ D L H=>wi L H λ J H1=>∃W:Nat->Nat->St->Hp->Prop,(∃m,W 0 m L H1)/\∀i m L H,W i m L H->(J.stop i H/\D.nx L H)\/(J.go i H/\∃N:St->Hp->Prop,(∀q H',N q H'->∃Z,Z<m/\W (i+1) Z q H')/\∀x H',J.yld i H x H'->g x L H' λ Y H2=>tb {D with nx:=N,ct:=N,bk:=D.nx} Y H2)
noncomputable def rH(q:List Addr)(h:Heap):List (Addr×Obj):=q.filterMap λ b=>(h.get? b).map λ o=>(b,o)
theorem wD(J:b∈q)(e:h.get? b=some o):(b,o)∈rH q h:=List.mem_filterMap.mpr ⟨b,J,by rw[e];rfl⟩
theorem P1(Z:p∈rH J h):p.1∈J/\h.get? p.1=some p.2:=by
 obtain⟨b,a,e⟩:=List.mem_filterMap.mp Z;cases q:h.get? b with
 |none=>rw[q]at e;cases e
 |some o=>
  rw[q]at e;have Y:=qi e;subst Y;exact⟨a,q⟩
theorem aI.pinned(I:aI X aA L H s)(hf:∀b∈q,dN X aA H b)(ho:∀b∈q,∃o,s.heap.get? b=some o/\∀v,o.data≠.cell v):aI X (aA++rH q s.heap) L H s:=
 I.pins_of λ p Z=>(qv Z).elim (λ z=>I.pin p (qo _ z)) λ z=>by
  obtain⟨Y,e⟩:=P1 z;obtain⟨a,c,f,_⟩:=hf p.1 Y;obtain⟨o,J,d⟩:=ho p.1 Y;rw[e]at J;cases J;exact⟨e,a,c,f,d⟩
theorem aI.unpinned{aA J:List (Addr×Obj)}{L:St}{H:Hp}{s:Shared}(I:aI X (aA++J) L H s):aI X aA L H s:=I.pins_of λ p q=>I.pin p (qo _ (jd _ q))
theorem rY{iter:Expr}{af:List Stmt}{wi:TI}{g:TG}{tb:TS}{pos:Pos}(hp:PassesOwn (model X.prog X.w) X.A X.env X.xe)(hc:X.calm=true)(hi:PI X tg iter wi)(hg:PG X tg g)(hb:d8 X af tb)(hs:∀x,foldedSetIterable iter X.env x=pure x):PS X (.For tg iter af [] pos) (RM wi g tb):=by
 intro aA s L H D I h;refine wpAny_For (bN (hi aA s L H _ I h) λ v s1 h1=>bN h1 λ am s2 h2=>?_) hs;obtain⟨it,p,Q,J,R,e,ρ,T,al,M,W,⟨m0,w0⟩,turn⟩:=h2;subst e;have z:∀{H':Hp},(∀b∈p,H' b=none)->∀b∈p,dN X aA H' b:=λ hn b hb=>⟨hn b hb,(M b hb).2⟩
 refine codeAny_forLoop_any (λ n s'=>∃i l H',aI X aA l H' s'/\Q i s'.heap/\(∀b∈p,H' b=none)/\W i n l H') ?_ m0 ⟨0,L,R,ρ,al,λ b hb=>(M b hb).1,w0⟩;rintro n O ⟨i,k,y,G,σ,K,w3⟩;rcases turn i n k y w3 with⟨stop,qn⟩|⟨go,N,hN,step⟩
 .refine j7 hp (bN (T.done X rfl rfl rfl hc i aA O k y X.xe G (z K) σ stop) λ r s4 q=>?_);obtain⟨C,V⟩:=q;subst C;exact Zj ⟨k,y,V,qn⟩
 .refine j7 hp (bN (T.item X rfl rfl rfl hc i aA O k y X.xe G (z K) σ go) λ r s4 q=>?_);obtain⟨u,C,h4⟩:=q;subst C;refine j7 hp (bN h4 λ _ P q=>?_);refine iZ q λ x F I5 r5 y5 B aj=>?_;have I5':=I5.pinned (z aj) (T.obj _ _ B);refine j7 hp (bN (hg _ P k F x u _ I5' r5 (step x F y5)) λ _ s6 q=>?_);refine cX q λ ak S I6 q6=>?_;refine j7 hp (bN (hb _ s6 ak S _ I6 q6) λ f E j=>?_);have Z:∀{Y:St}{a:Hp},aI X (aA++rH p P.heap) Y a E->N Y a->∃m,m<n/\∃i l H',aI X aA l H' E/\Q i E.heap/\(∀b∈p,H' b=none)/\W i m l H':=λ{Y a}c t=>by
   obtain⟨m',hm,w7⟩:=hN Y a t;refine⟨m',hm,i+1,Y,a,c.unpinned,T.keep _ _ _ B λ b hb o e=>(c.pin (b,o) (qo _ (qo _ (wD hb e)))).1,λ b hb=>?_,w7⟩;obtain⟨o,e,d⟩:=T.obj _ _ B b hb;exact(c.pin (b,o) (qo _ (qo _ (wD hb e)))).2.1
  cases f with
  |next=>refine cX j λ Y a c t=>?_;exact Z c t
  |cont=>refine cX j λ Y a c t=>?_;exact Z c t
  |brk=>refine cX j λ Y a c j=>?_;exact ie Y a c.unpinned j
  |ret v=>refine d7 j λ x7 Y a c r7 j=>?_;exact⟨x7,Y,a,c.unpinned,r7,j⟩
end
abbrev R2:=V->V->Hp->VK->Prop
def du(X:Cx)(f:Value->Value->Sem Value)(r:R2):Prop:=
 ∀(aA:List (Addr×Obj))(s:Shared)(L:St)(H:Hp)(x y:V)(v u:Value)(Q:VK),aI X aA L H s->aU x v->aU y u->r x y H Q->wpAny (model X.prog X.w) X.A (f v u) (EP X aA L Q) X.xe s
def x9(X:Cx)(f:Value->Sem Value)(r:V->Hp->VK->Prop):Prop:=
 ∀(aA:List (Addr×Obj))(s:Shared)(L:St)(H:Hp)(x:V)(v:Value)(Q:VK),aI X aA L H s->aU x v->r x H Q->wpAny (model X.prog X.w) X.A (f v) (EP X aA L Q) X.xe s
def bQ(X:Cx)(f:Value)(r:List V->Hp->VK->Prop):Prop:=
 ∀(aA:List (Addr×Obj))(s:Shared)(L:St)(H:Hp)(xs:List V)(us:List Value)(Q:VK),aI X aA L H s->aQ xs us->r xs H Q->wpAny (model X.prog X.w) X.A (call f us) (EP X aA L Q) X.xe s
def UR(X:Cx)(r:V->Hp->(Bool->Hp->Prop)->Prop):Prop:=
 ∀(aA:List (Addr×Obj))(s:Shared)(L:St)(H:Hp)(x:V)(v:Value)(Q:Bool->Hp->Prop),aI X aA L H s->aU x v->r x H Q->wpAny (model X.prog X.w) X.A (truthy v) (TP X aA L Q) X.xe s
def tJ(r:R2)(ta tb:TE):TE:=λ L H Q=>ta L H λ x H1=>tb L H1 λ y H2=>r x y H2 Q
def Ww(r:V->Hp->VK->Prop)(ta:TE):TE:=λ L H Q=>ta L H λ x H1=>r x H1 Q
def rI(C:Int->Int->Prop)(g:Int->Int->V):R2:=λ x y H Q=>∃i j,x=.int i/\y=.int j/\C i j/\Q (g i j) H
def kx(g:Int->Int->V):R2:=λ x y H Q=>∃i j,x=.int i/\y=.int j/\Q (g i j) H
def rU(g:Int->V):V->Hp->VK->Prop:=λ x H Q=>∃i,x=.int i/\Q (g i) H
section
theorem AN(ha:PE X a ta)(hb:PE X b tb){R:V->V->Hp->Prop}(I:aI X aA L H s)(h:ta L H λ x H1=>tb L H1 λ y H2=>R x y H2){f:Value->Value->Sem Value}(hf:∀v u s2 x y H2,aI X aA L H2 s2->aU x v->aU y u->R x y H2->wpAny (model X.prog X.w) X.A (f v u) Q X.xe s2):wpAny (model X.prog X.w) X.A (eval a X.env) (λ v J=>wpAny (model X.prog X.w) X.A (eval b X.env) (λ u q=>wpAny (model X.prog X.w) X.A (f v u) Q X.xe q) X.xe J) X.xe s:=by
 refine bN (ha aA s L H _ I h) λ v i=>dJ λ x H1 Z e Y=>?_;refine bN (hb aA i L H1 _ Z Y) λ u s2=>dJ λ y H2 c g d=>?_;exact hf v u s2 x y H2 c e g d
theorem yM(ho:du X (binaryOp op) r)(ha:PE X a ta)(Y:PE X b tb):PE X (.BinOp a op b pos) (tJ r ta tb):=by intro aA s L H Q I h;exact wpAny_BinOp (AN ha Y I h λ v u e x y c Z d J q=>ho aA e L c x y v u Q Z d J q)
theorem QX(Z:x9 X (unaryOp op) r)(Y:PE X a ta):PE X (.UnaryOp op a pos) (Ww r ta):=by intro aA s L H Q I h;exact UnaryOp_ (bN (Y aA s L H _ I h) λ v c=>dJ λ x H1 J b q=>Z aA c L H1 x v Q J b q)
theorem wg{g:Int->Int->Int}(J:∀(i j:Int)(t u:Tok)(s:Shared)(Q:Value->Shared->Prop)(E:Value->Shared->Prop),C i j->Q (.int (g i j) s.toks) {s with toks:=s.toks+1}->wpAny (model X.prog X.w) X.A (f (.int i t) (.int j u)) Q E s):du X f (rI C λ i j=>.int (g i j)):=by
 intro aA s L H x y v u Q I Y Z h;obtain⟨i,j,rfl,rfl,a,q⟩:=h;obtain⟨t,rfl⟩:=Y;obtain⟨b,rfl⟩:=Z;exact J i j t b s _ _ a ⟨.int (g i j),H,I.tok _,⟨_,rfl⟩,q⟩
theorem Hx{g:Int->Int->Int}(J:∀(i j:Int)(t u:Tok)(s:Shared)(Q:Value->Shared->Prop)(E:Value->Shared->Prop),Q (.int (g i j) s.toks) {s with toks:=s.toks+1}->wpAny (model X.prog X.w) X.A (f (.int i t) (.int j u)) Q E s):du X f (kx λ i j=>.int (g i j)):=by
 intro aA s L H x y v u Q I Y Z h;obtain⟨i,j,rfl,rfl,q⟩:=h;obtain⟨t,rfl⟩:=Y;obtain⟨a,rfl⟩:=Z;exact J i j t a s _ _ ⟨.int (g i j),H,I.tok _,⟨_,rfl⟩,q⟩
theorem vq{g:Int->Int->Bool}(J:∀(i j:Int)(t u:Tok)(s:Shared)(Q:Value->Shared->Prop)(E:Value->Shared->Prop),Q (.bool (g i j)) s->wpAny (model X.prog X.w) X.A (f (.int i t) (.int j u)) Q E s):du X f (kx λ i j=>.bl (g i j)):=by
 intro aA s L H x y v u Q I Y Z h;obtain⟨i,j,rfl,rfl,q⟩:=h;obtain⟨t,rfl⟩:=Y;obtain⟨a,rfl⟩:=Z;exact J i j t a s _ _ ⟨.bl (g i j),H,I,rfl,q⟩
def UT(i j:Int):Prop:=0<=j/\j<=1000000/\i.natAbs<2^64
def qO(i j:Int):Prop:=(-(2^64)<i/\i<2^64)\/(-(2^64)<j/\j<2^64)
theorem qO.ok(h:qO i j):IntMulOk i j:=by
 rcases h with⟨a,b⟩|⟨a,b⟩
 .exact .of_left (Yx a b)
 .exact .of_right (Yx a b)
theorem nU:du X (binaryOp .Add) (kx λ i j=>.int (i+j)):=Hx λ _ _ _ _ _ _ _ q=>add_int q
theorem Te:du X (binaryOp .Sub) (kx λ i j=>.int (i-j)):=Hx λ _ _ _ _ _ _ _ q=>sub_int q
theorem Oo:du X (binaryOp .Mod) (rI (λ _ j=>j≠0) λ i j=>.int (i.fmod j)):=wg λ _ _ _ _ _ _ _ J q=>mod_int' J q
theorem Tf:du X (binaryOp .Pow) (rI UT λ i j=>.int (i^j.toNat)):=wg λ _ _ _ _ _ _ _ J q=>pow_int_small J.1 J.2.1 J.2.2 q
theorem WA{g:Int->Int}(J:∀(i:Int)(t:Tok)(s:Shared)(Q:Value->Shared->Prop)(E:Value->Shared->Prop),Q (.int (g i) s.toks) {s with toks:=s.toks+1}->wpAny (model X.prog X.w) X.A (f (.int i t)) Q E s):x9 X f (rU λ i=>.int (g i)):=by
 intro aA s L H x v Q I Y h;obtain⟨i,rfl,q⟩:=h;obtain⟨t,rfl⟩:=Y;exact J i t s _ _ ⟨.int (g i),H,I.tok _,⟨_,rfl⟩,q⟩
theorem SN:x9 X (unaryOp .USub) (rU λ i=>.int (-i)):=WA λ _ _ _ _ _ q=>neg_int q
end
section
variable{X:Cx}{a b c:Expr}{ta tb tc:TE}{pos:Pos}
theorem yA(I:aI X aA L H s)(q:Q (.bl k) H)(e:k=k'):EP X aA L Q (.bool k') s:=by subst e;exact bE (.bl k) H I rfl q
theorem Ra:du X (compareOp .Lt) (kx λ i j=>.bl (decide (i<j))):=vq λ _ _ _ _ _ _ _ q=>lt_int q
theorem Rb:du X (compareOp .LtE) (kx λ i j=>.bl (decide (i<=j))):=vq λ _ _ _ _ _ _ _ q=>le_int q
theorem Rc:du X (compareOp .Gt) (kx λ i j=>.bl (decide (j<i))):=vq λ _ _ _ _ _ _ _ q=>gt_int q
theorem V4:du X (compareOp .GtE) (kx λ i j=>.bl (decide (j<=i))):=vq λ _ _ _ _ _ _ _ q=>ge_int q
theorem PZ:du X (compareOp .In) (λ x y H Q=>∃i j,x=.str i/\y=.str j/\Q (.bl (!(Builtin.Str.occurrences j i 0 j.length 1).isEmpty)) H):=by intro aA s L H x y v u Q I J Y h;obtain⟨i,j,rfl,rfl,q⟩:=h;obtain⟨t,rfl⟩:=J;obtain⟨a,rfl⟩:=Y;exact in_str (yA I q rfl)
theorem Ti:du X (compareOp .Is) (λ x y H Q=>y=.non/\Q (.bl (decide (x=.non))) H):=by
 intro aA s L H x y v u Q I J Y h;obtain⟨rfl,q⟩:=h;subst Y;refine is_none_gen (yA I q ?_);cases x<;>first
  |(subst J;rfl)
  |(obtain⟨t,rfl⟩:=J;rfl)
theorem Om:du X (compareOp .IsNot) (λ x y H Q=>y=.non/\Q (.bl (!decide (x=.non))) H):=by
 intro aA s L H x y v u Q I J Y h;obtain⟨rfl,q⟩:=h;subst Y;refine isnot_none_gen (yA I q ?_);cases x<;>first
  |(subst J;rfl)
  |(obtain⟨t,rfl⟩:=J;rfl)
theorem du.or(h:du X f r)(h':du X f Y):du X f (λ x y H Q=>r x y H Q\/Y x y H Q):=by
 intro aA s L H x y v u Q I J Z q;rcases q with q|q
 .exact h aA s L H x y v u Q I J Z q
 .exact h' aA s L H x y v u Q I J Z q
theorem Am(b:Expr)(h:op≠.In:=by decide)(h2:op≠.NotIn:=by decide):behindInMarks op b=false:=by
 have e1:(op==CmpOp.In)=false:=by cases op<;>first|rfl|exact absurd rfl h
 have e2:(op==CmpOp.NotIn)=false:=by cases op<;>first|rfl|exact absurd rfl h2
 cases b<;>simp[behindInMarks,e1,e2]
theorem Oe(ho:du X (compareOp op) r)(ha:PE X a ta)(Z:PE X b tb)(J:behindInMarks op b=false):PE X (.Compare a [op] [b] pos) (tJ r ta tb):=by intro aA s L H Q I h;exact wpAny_Compare1 (AN ha Z I h λ v u f x y c d e Y q=>ho aA f L c x y v u Q d e Y q) J
def yY(t:TE):TT:=λ L H Q=>t L H λ x H'=>∃k,x=.bl k/\Q k H'
theorem GS(ho:du X (compareOp op) r)(ha:PE X a ta)(hb:PE X b tb)(q:behindInMarks op b=false):PT X (.Compare a [op] [b] pos) (yY (tJ r ta tb)):=by
 intro aA s L H Q I h;refine wpAny_isTrue_Compare1 (bN (ha aA s L H _ I h) λ v n=>dJ λ x H1 g l J=>bN (hb aA n L H1 _ g J) λ u o=>dJ λ y d i m j=>
  bN (ho aA o L d x y v u _ i l m j) λ c p⟨z,f,Y,r3,k,e,Z⟩=>?_) q
 subst e;subst r3;exact Qa ⟨f,Y,Z⟩
def EE(r Y:R2)(ta tb tc:TE):TE:=λ L H Q=>ta L H λ x H1=>tb L H1 λ y H2=>r x y H2 λ z q=>∃k,z=.bl k/\(if k=true then tc L q λ J Z=>Y y J Z Q else Q (.bl false) q)
theorem M4{op q:CmpOp}{r r':R2}(ho:du X (compareOp op) r)(Y:du X (compareOp q) r')(ha:PE X a ta)(hb:PE X b tb)(hc:PE X c tc)(hm:lastMarks [op,q] [b,c]=false):PT X (.Compare a [op,q] [b,c] pos) (yY (EE r r' ta tb tc)):=by
 intro aA s L H Q I h;refine isTrue_chain (bN (ha aA s L H _ I h) λ v σ=>dJ λ x H1 n F B=>test_link (bN (hb aA σ L H1 _ n B) λ u M=>dJ λ y j o i C=>
  bN (ho aA M L j x y v u _ o F i C) λ d N⟨z,Z,f,r3,k,e,g⟩=>?_)) hm
 subst e;subst r3;refine Qa ?_;cases k with
 |false=>
  obtain⟨T,w,A⟩:=g;cases w;exact ite_ff ⟨Z,f,A⟩
 |true=>
  refine ite_tt (test_last (bN (hc aA N L Z _ f g) λ P O=>dJ λ R l p G D=>bN (Y aA O L l y R u P _ p i G D) λ S ρ J=>?_));obtain⟨V,m,t,K,k2,e2,E⟩:=J;subst e2;subst K;exact Qa ⟨m,t,E⟩
def AO(K:Frag)(x:V)(H:Hp)(k:Bool):Prop:=
 match x with
 |.non=>k=false
 |.bl b=>k=b
 |.int i=>k=(i != 0)
 |.str y=>y.length<=sizeLine/\k=((y.length:Int) != 0)
 |.byt y=>y.size<=sizeLine/\k=((y.size:Int) != 0)
 |.ref p=>(∃xs,c7 K H p xs/\k=!xs.isEmpty)\/(∃xs,dH K H p xs/\k=!xs.isEmpty)\/∃aH,H p=some (.dK aH)/\k=!aH.isEmpty
 |_=>False
theorem Pg(r:KV aH vs):(!vs.isEmpty)=!aH.isEmpty:=by cases r<;>rfl
theorem Dv(r:aQ xs q):(!q.toArray.isEmpty)=!xs.isEmpty:=by cases r<;>simp
theorem oF:(sizeLine:Nat)<2^63:=by rw[jy];decide
theorem SQ:UR X (λ x H Q=>∃k,AO X.K x H k/\Q k H):=by
 intro aA s L H x v Q I Z h;obtain⟨k,e,q⟩:=h;have j:=jy;cases x with
 |non=>
  cases Z;have J:=e;subst J;exact truthy_none ⟨H,I,q⟩
 |bl b=>
  cases Z;have J:=e;subst J;exact Qa ⟨H,I,q⟩
 |int i=>
  obtain⟨t,rfl⟩:=Z;have J:=e;subst J;exact PySem.P.truthy_int ⟨H,I,q⟩
 |str y=>
  obtain⟨t,rfl⟩:=Z;obtain⟨g,J⟩:=e;subst J;exact PySem.P.truthy_str (by lia) ⟨H,I.tok _,q⟩
 |byt y=>
  obtain⟨t,rfl⟩:=Z;obtain⟨g,J⟩:=e;subst J;exact PySem.W.truthy_bytes (by lia) ⟨H,I.tok _,q⟩
 |ref p=>
  cases Z;have J:=e;rcases J with⟨xs,hx,J⟩|⟨xs,hx,J⟩|⟨aH,hx,J⟩
  .subst J;obtain⟨d,r,a,c⟩:=I.list hx;have Y:=r.length;exact wpAny_truthy_list a.isList (by simp only[zg];lia) ⟨H,I.tok _,by rw[Dv r];exact q⟩
  .subst J;obtain⟨d,r,a,c⟩:=I.tuple hx;have Y:=r.length;exact truthy_tuple a (by simp only[zg];lia) ⟨H,I.tok _,by rw[Dv r];exact q⟩
  .subst J;obtain⟨c,f,l,r,m⟩:=I.hok p _ hx;have Y:=Yy r;exact wpAny_truthy_dict f m (by lia) ⟨H,I.tok _,by rw[Pg r];exact q⟩
 |_=>exact(show False from e).elim
theorem M3(ha:PE X a ta)(Y:∀q,isTrue a X.env q=(do let v<-q;standAt a.pos;holding [v] (truthy v))):PT X a (λ L H Q=>ta L H λ x H'=>∃k,AO X.K x H' k/\Q k H'):=by
 intro aA s L H Q I h;exact isTrue_plain (bN (ha aA s L H _ I h) λ v c=>dJ λ x H1 Z b J=>SQ aA c L H1 x v Q Z b J) (Y _)
theorem iI:du X (binaryOp .Add) (λ x y H Q=>∃i j,x=.str i/\y=.str j/\i.length+j.length<=sizeLine/\Q (.str (i++j)) H):=by intro aA s L H x y v u Q I J Y h;obtain⟨i,j,rfl,rfl,a,q⟩:=h;obtain⟨t,rfl⟩:=J;obtain⟨b,rfl⟩:=Y;exact add_str (λ b c=>⟨.str (i++j),H,I.tok _,⟨_,rfl⟩,q⟩) a
theorem h8(r:aQ [x] us):∃u,us=[u]/\aU x u:=by
 cases r with
 |cons a q=>cases q;exact⟨_,rfl,a⟩
theorem uR(r:aQ [x,y] us):∃u q,us=[u,q]/\aU x u/\aU y q:=by
 cases r with
 |cons a J=>
  cases J with
  |cons r3 Y=>cases Y;exact⟨_,_,rfl,a,r3⟩
theorem NB:bQ X (.builtin "abs") (λ xs H Q=>∃i,xs=[.int i]∧Q (.int (if i<0 then -i else i)) H):=by
 intro aA s L H xs us Q I r h;obtain⟨i,rfl,q⟩:=h;obtain⟨u,rfl,t,rfl⟩:=h8 r;exact call_abs_int λ u a=>⟨.int (if i<0 then -i else i),H,I.tok _,⟨_,rfl⟩,q⟩
theorem MJ(Y:X.calm=true):bQ X (.builtin "max") (λ xs H Q=>∃i j,xs=[.int i,.int j]∧Q (.int (if j>i then j else i)) H):=by
 intro aA s L H xs us Q I r h;obtain⟨i,j,rfl,q⟩:=h;obtain⟨u,Z,rfl,⟨t,rfl⟩,⟨a,rfl⟩⟩:=uR r;refine max_two_ints (I.ok.hd Y) λ h' b k=>⟨_,H,I.kept k,?_,q⟩
 by_cases J:j>i
 .rw[if_pos J,if_pos J];exact⟨_,rfl⟩
 .rw[if_neg J,if_neg J];exact⟨_,rfl⟩
theorem MH(Y:X.calm=true):bQ X (.builtin "min") (λ xs H Q=>∃i j,xs=[.int i,.int j]∧Q (.int (if j<i then j else i)) H):=by
 intro aA s L H xs us Q I r h;obtain⟨i,j,rfl,q⟩:=h;obtain⟨u,Z,rfl,⟨t,rfl⟩,⟨a,rfl⟩⟩:=uR r;refine min_two_ints (I.ok.hd Y) λ h' b k=>⟨_,H,I.kept k,?_,q⟩
 by_cases J:j<i
 .rw[if_pos J,if_pos J];exact⟨_,rfl⟩
 .rw[if_neg J,if_neg J];exact⟨_,rfl⟩
theorem MK:bQ X (.type "int") (λ xs H Q=>(∃i,xs=[.int i]∧Q (.int i) H)∨∃k,xs=[.bl k]∧Q (.int (if k then 1 else 0)) H):=by
 intro aA s L H xs us Q I r h;rcases h with⟨i,rfl,q⟩|⟨k,rfl,q⟩
 .obtain⟨u,rfl,t,rfl⟩:=h8 r;exact call_int_int ⟨.int i,H,I,⟨_,rfl⟩,q⟩
 .obtain⟨u,rfl,a⟩:=h8 r;subst a;exact call_int_bool ⟨.int (if k then 1 else 0),H,I.tok _,⟨_,rfl⟩,q⟩
end
theorem dP.some_of(r:dP (some v) o):∃u,o=some u/\aU v u:=by
 cases o with
 |none=>exact(show False from r).elim
 |some u=>exact⟨u,rfl,r⟩
theorem dP.none_of(r:dP none o):o=none:=by
 cases o;rfl;exact(show False from r).elim
structure C7(K:Frag)(C:Addr):Prop where
 pg:PySem.W.plainGet K C Str.empty=true
 hd:PySem.W.hasDictIn K C=true
 po:PySem.W.plainOver K C=true
 sa:PySem.W.findIn K (.ref C) "__setattr__"=some (some (.builtin "object.__setattr__"))
theorem C7.get{K:Frag}(c:C7 K C)(f:Str):PySem.W.plainGet K C f=true:=c.pg
section
variable{X:Cx}{aA:List (Addr×Obj)}{L:St}{H:Hp}{s:Shared}{a C dx:Addr}{fs:List (Str×V)}{f:Str}{v:V}{A:Around}{E:Value->Shared->Prop}
theorem SE(J:attributeBase e f env (eval e env)=eval e env)(h:wpAny (model prog w) A (eval e env) (λ o q=>wpAny (model prog w) A (getAttr o f true) Q E q) E s):wpAny (model prog w) A (eval (.Attribute e f pos) env) Q E s:=
 Attribute_any_ h (by rw[arm_eval_Attribute,J])
end
structure bJ(k:Nat)(A:Around):Prop where
 hd:A.handled=none
 dp:A.depth+3*k+5<recursionLimit
 un:A.units+16*k+200<cLine
theorem bJ.mono(r:bJ k A)(h:j<=k):bJ j A:=⟨r.hd,by have:=r.dp;lia,by have:=r.un;lia⟩
theorem bJ.deeper(r:bJ (k+1) A)(env:Env):bJ k (A.deeper env):=
 ⟨r.hd,by have:=r.dp;show A.depth+1+3*k+5<_;lia,by have:=r.un;show A.units+3+16*k+200<_;lia⟩
theorem bJ.in1(r:bJ (k+1) A):bJ k A.in1:=
 ⟨r.hd,by have:=r.dp;show A.depth+3*k+5<_;lia,by have:=r.un;show A.units+1+16*k+200<_;lia⟩
theorem Pe{A:Around}:(A.under (.builtin "type.__call__" ⟨.ref C::us,q⟩)).depth=A.depth+1:=by
 first|rfl|simp[Around.under,Code.weight,Code.isCreation,Code.isGuard,Code.isCaller,Code.frames,Code.isFrame,guardIds]
theorem Pd{A:Around}:(A.under (.builtin "type.__call__" ⟨.ref C::us,q⟩)).units=A.units+1:=by
 first|rfl|simp[Around.under,Code.cUnits,Code.frames,Code.isFrame]
theorem bJ.make(r:bJ (k+1) A)(C:Addr)(us:List Value)(q:List (Str×Value)):bJ k (A.under (.builtin "type.__call__" ⟨.ref C::us,q⟩)):=
 ⟨r.hd,by have:=r.dp;rw[Pe];lia,by have:=r.un;rw[Pd];lia⟩
theorem bJ.depth(r:bJ k A):A.depth<recursionLimit:=by have:=r.dp;lia
theorem bJ.units(r:bJ k A):A.units+64<cLine:=by have:=r.un;lia
def RJ:TA:=λ _ H Q=>Q [] H
def QL(ta:TE)(q:TA):TA:=λ L H Q=>ta L H λ x H1=>q L H1 λ xs H2=>Q (x::xs) H2
section
theorem jD:PA X [] RJ:=λ _ _ _ _ H Q I h=>Calls.spliced_nil ⟨[],H,I,.nil,h⟩
theorem gq(Y:PE X e te)(J:PA X es t)(hs:starEach (e::es) X.env=(false,eval e X.env)::starEach es X.env:=by rfl):PA X (e::es) (QL te t):=by
 intro pos aA s L H Q I h;rw[hs];refine Calls.spliced_cons (bN (Y aA s L H _ I h) λ u g=>dJ λ x H1 Z d q=>?_);exact bN (J pos aA g L H1 _ Z q) λ us i=>dJ λ xs a b f c=>⟨x::xs,a,b,.cons d f,c⟩
def RF(t:TA):TE:=λ L H Q=>t L H λ xs H1=>xs.length<=sizeLine/\∀p,H1 p=none->Q (.ref p) (upd H1 p (.tup xs))
def RK(t:TA):TE:=λ L H Q=>t L H λ xs H1=>xs.length<=sizeLine/\∀p,H1 p=none->Q (.ref p) (upd H1 p (.lst xs))
theorem vb(h:PA X es t):PE X (.Tuple es x1 pos) (RF t):=by intro aA s L H Q I Y;refine wpAny_Tuple_spliced (bN (h pos aA s L H _ I Y) λ us a⟨xs,H1,J,r,z,q⟩=>⟨by rw[<-r.length];exact z,?_⟩);have Z:=J.hok.fresh (qj _);refine bE (.ref a.heap.objs.size) (upd H1 a.heap.objs.size (.tup xs)) (J.laid (λ b u e=>qd _ e) (qj _) ?_) rfl (q _ Z);exact⟨z,us,r,⟨_,qk _ rfl,rfl,⟨_,rfl⟩,rfl⟩⟩
theorem Fz(h:PA X es t):PE X (.List es pos) (RK t):=by intro aA s L H Q I Y;refine wpAny_List_spliced (bN (h pos aA s L H _ I Y) λ us a⟨xs,H1,J,r,z,q⟩=>⟨by rw[<-r.length];exact z,?_⟩);have Z:=J.hok.fresh (qj _);refine bE (.ref a.heap.objs.size) (upd H1 a.heap.objs.size (.lst xs)) (J.laid (λ b u e=>qd _ e) (qj _) ?_) rfl (q _ Z);exact⟨z,us,0,r,qk _ rfl⟩
end
abbrev Sp:=List V->Hp->VK->XK->Prop
abbrev mR:=List Env->Hp->Shared->XK->Value->Shared->Prop
structure fB(P:Program)(w:World)(K:Frag)(mg:Str->Option Value)(base:Heap)(A:Around)(outer:List Env)(s:Shared)(H:Hp):Prop where
 frames:A.frames=some outer
 mod:Mod K mg base
 bs:∀b o,base.get? b=some o->s.heap.get? b=some o/\H b=none
 bsz:base.objs.size<=s.heap.objs.size
 funs:s.heap.FunFrames base outer
 frf:∀b∈fM outer,H b=none
 hok:dU P w H s.heap
 bare:AllBare s.gens
def CE(outer:List Env)(P:Program)(w:World)(H:Hp)(s:Shared)(Q:VK)(u:Value)(s':Shared):Prop:=
 ∃v H',s'.os=s.os/\AllBare s'.gens/\Un (fM outer) [] H H' s.heap s'.heap/\dU P w H' s'.heap/\aU v u/\Q v H'
def CR(CX:mR)(outer:List Env)(P:Program)(w:World)(H:Hp)(s:Shared)(Q:VK)(E:XK)(r:Result)(s':Shared):Prop:=
 match r with
 |.ok (.ret u)=>CE outer P w H s Q u s'
 |.ok _=>False
 |.error e=>CX outer H s E e s'
structure cB(P:Program)(w:World)(K:Frag)(mg:Str->Option Value)(base:Heap)(CX:mR)(k:Nat)(f:Addr)(fd:FuncData)(ps:List Str)(sp:Sp):Prop where
 len:∀vs H Q E,sp vs H Q E->vs.length=ps.length
 run:∀(A:Around)(outer:List Env)(s:Shared)(H:Hp)(args:Args)(us:List Value)(vs:List V)(Q:VK)(E:XK),bJ k A->fB P w K mg base A outer s H->BindsTo s fd args (ps.zip us)->aQ vs us->sp vs H Q E->codeAny (model P w) A (.call (.ref f) args) (CR CX outer P w H s Q E) s
theorem cB.mono{K:Frag}(F:cB P w K mg base CX j f fd ps sp)(h:j<=k):cB P w K mg base CX k f fd ps sp:=⟨F.len,λ A outer s H args us a Q E q=>F.run A outer s H args us a Q E (q.mono h)⟩
theorem cB.imp{K:Frag}(F:cB P w K mg base CX k f fd ps sp)(h:∀vs H Q E,J vs H Q E->sp vs H Q E):cB P w K mg base CX k f fd ps J:=
 ⟨λ vs H Q E q=>F.len vs H Q E (h _ _ _ _ q),λ A outer s H args us vs Q E b Y a Z c=>F.run A outer s H args us vs Q E b Y a Z (h _ _ _ _ c)⟩
theorem fB.make{K:Frag}(e:fB P w K mg base A outer s H)(C:Addr)(us:List Value)(q:List (Str×Value)):fB P w K mg base (A.under (.builtin "type.__call__" ⟨.ref C::us,q⟩)) outer s H:=⟨by first|exact e.frames|(simpa [Around.under,Code.envs,Code.isFrame,pushEnvs]using e.frames),e.mod,e.bs,e.bsz,e.funs,e.frf,e.hok,e.bare⟩
theorem fB.in1{K:Frag}(e:fB P w K mg base A outer s H):fB P w K mg base A.in1 outer s H:=⟨e.frames,e.mod,e.bs,e.bsz,e.funs,e.frf,e.hok,e.bare⟩
section
variable{X:Cx}{aA:List (Addr×Obj)}{L:St}{H:Hp}{s s':Shared}
theorem aI.env0(I:aI X aA L H s):fB X.prog X.w X.K X.mg X.base X.A X.stack s H:=
 ⟨I.ok.frames,I.ok.mod,I.bs,zc I.ok.bsz I.sz,I.stack,I.stkFree,I.hok,I.bare⟩
theorem aI.after(I:aI X aA L H s)(h:CE X.stack X.prog X.w H s Q u s'):EP X aA L Q u s':=by obtain⟨v,H',os,J,un,Z,r,q⟩:=h;obtain⟨a,g,d,t,Y⟩:=s';obtain rfl:Y=s.os:=os;exact bE v H' (I.call un Z J (λ b z=>absurd z (by simp))) r q
end
def QM(sp:Sp)(dvs:List V)(E:XK)(t:TA):TE:=λ L H Q=>t L H λ vs H1=>sp (vs++dvs) H1 Q E
def cV(K:Frag)(fd:FuncData)(ps:List Str)(ds:List Value):Prop:=
 ∀(s:Shared)(us:List Value),K.In s.heap->(us++ds).length=ps.length->BindsTo s fd ⟨us,[]⟩ (ps.zip (us++ds))
theorem cV.all{K:Frag}(h:∀us:List Value,us.length=ps.length->bindArgs fd ⟨us,[]⟩=pure (ps.zip us)):cV K fd ps []:=λ s us _ q=>by
 rw[zx]at q⊢;exact .of_eq (h us q)
def cZ(CX:mR)(X:Cx)(E:XK):Prop:=∀(aA:List (Addr×Obj))(L:St)(H:Hp)(s:Shared)(e:Value)(s':Shared),aI X aA L H s->CX X.stack H s E e s'->X.xe e s'
section
theorem Ia(F:cB X.prog X.w X.K X.mg X.base CX k f fd ps sp)(Y:bJ k X.A)(hb:cV X.K fd ps ds)(hd:aQ dvs ds)(hx:cZ CX X E)(I:aI X aA L H s)(r:aQ vs us)(h:sp (vs++dvs) H Q E):wpAny (model X.prog X.w) X.A (call (.ref f) us) (EP X aA L Q) X.xe s:=by
 have J:=r.append hd;have a:(us++ds).length=ps.length:=by rw[<-J.length];exact F.len _ _ _ _ h
 refine Yd (Qs (F.run X.A X.stack s H ⟨us,[]⟩ (us++ds) (vs++dvs) Q E Y I.env0 (hb s us I.kIn a) J h) λ r s' q=>?_);cases r with
 |error e=>exact hx aA L H s e s' I q
 |ok Z=>
  cases Z with
  |ret u=>exact I.after q
  |next=>exact False.elim q
  |brk=>exact False.elim q
  |cont=>exact False.elim q
theorem rg(F:cB X.prog X.w X.K X.mg X.base CX k f fd ps sp)(hr:bJ k X.A)(hg:Gl X x)(hm:X.mg x=some (.ref f))(hk:keepIn X.K (.ref f)=true)(hb:cV X.K fd ps ds)(hd:aQ dvs ds)(hx:cZ CX X E)(ha:PA X (e::es) t)(Y:cH x)(he:starEach (e::es) X.env=(false,eval e X.env)::starEach es X.env)(J:(backTo pos (starEach es X.env)).any (·.1)=false):PE X (.Call (.Name x p) (e::es) [] pos) (QM sp dvs E t):=by
 intro aA s L H Q I h;refine Q2 (oe I hg hm ?_ Y);refine PySem.W.callWith_K (h₀:=X.base) I.ok.mod.kin hk (bN (ha pos aA s L H _ I h) λ us a=>dJ λ b H1 Z r q=>⟨Z.kIn,?_⟩) he J;exact Ia F hr hb hd hx Z r q
end
structure aG(N P:List Str)(sc:Scope):Prop where
 kind:sc.kind=.function
 co:sc.isCoroutine=false
 gen:sc.isGenerator=false
 nd:N.Nodup
 pre:N.take P.length=P
 par:∀x∈P,sc.names.lookup x=some .local\/sc.names.lookup x=some .cell
 nofree:∀y∈sc.names,y.2≠.free
theorem D4:∀{binds:List (Str×Value)}{m:Str->Option Value},(∀v,(x,v)∉binds)->bindL q binds m x=m x
 |[],_,_=>rfl
 |(n,v)::r,m,h=>by
  unfold bindL;rw[D4 λ w J=>h w (Qn _ J)];split
  .grind
  .rfl
theorem D6:∀{binds:List (Str×Value)}{m:Str->Option Value},(∀v,(x,v)∉binds)->bindC q binds m x=m x
 |[],_,_=>rfl
 |(n,v)::r,m,h=>by
  unfold bindC;rw[D6 λ w J=>h w (Qn _ J)];split
  .rfl
  .grind
theorem D5:∀{P:List Str}{vs:List Value}{i:Nat}{m:Str->Option Value},P.Nodup->P[i]?=some x->vs[i]?=some v->q x=some .local->bindL q (P.zip vs) m x=some v
 |[],_,_,_,_,h,_,_=>by simp at h
 |_::_,[],_,_,_,_,h,_=>by simp at h
 |p::P,w::vs,0,m,nd,a,b,c=>by
  simp at a b;subst a;subst b;show bindL q ((p,w)::P.zip vs) m p=_;unfold bindL;rw[D4 λ v J=>(List.nodup_cons.mp nd).1 (List.of_mem_zip J).1,if_pos c];simp
 |p::P,w::vs,i+1,m,nd,a,b,c=>by
  show bindL q ((p,w)::P.zip vs) m x=_;exact D5 (List.nodup_cons.mp nd).2 (by simpa using a) (by simpa using b) c
theorem D7:∀{P:List Str}{vs:List Value}{i:Nat}{m:Str->Option Value},P.Nodup->P[i]?=some x->vs[i]?=some v->q x≠some .local->bindC q (P.zip vs) m x=some v
 |[],_,_,_,_,h,_,_=>by simp at h
 |_::_,[],_,_,_,_,h,_=>by simp at h
 |p::P,w::vs,0,m,nd,a,b,c=>by
  simp at a b;subst a;subst b;show bindC q ((p,w)::P.zip vs) m p=_;unfold bindC;rw[D6 λ v J=>(List.nodup_cons.mp nd).1 (List.of_mem_zip J).1,if_neg c];simp
 |p::P,w::vs,i+1,m,nd,a,b,c=>by
  show bindC q ((p,w)::P.zip vs) m x=_;exact D7 (List.nodup_cons.mp nd).2 (by simpa using a) (by simpa using b) c
def start(N:List Str)(vs:List V):St:=vs.map some++List.replicate (N.length-vs.length) none
def fS(CX:mR)(P:Program)(w:World)(K:Frag)(mg:Str->Option Value)(base:Heap)(N:List Str)(qual:Str)(scope:Scope)(f:Addr)(cd:Value)(A:Around)(outer:List Env)(s:Shared)(H:Hp)(E:XK):Cx where
 prog:=P
 w:=w
 K:=K
 mg:=mg
 base:=base
 A:=A.deeper (envOfC qual scope s.heap.objs.size f cd)
 N:=N
 s₀:=s
 H₀:=H
 env:=envOfC qual scope s.heap.objs.size f cd
 outer:=outer
 stack:=envOfC qual scope s.heap.objs.size f cd::outer
 ex:=[]
 calm:=true
 fn:=λ _=>true
 pn:=[]
 xe:=λ e s'=>wpAny (model P w) (A.deeper (envOfC qual scope s.heap.objs.size f cd)) (leaving (envOfC qual scope s.heap.objs.size f cd) e) (λ _ q=>CX outer H s E e q) (λ J q=>CX outer H s E J q) s'
theorem F7{sc:Scope}(h:sc.names.lookup x=some .cell):∃c,(cellsFrom n sc.names []).lookup x=some c:=by have q:=PySem.W.cellsFrom_some sc.names n [] (.inl h);exact Option.isSome_iff_exists.mp q
theorem Mu{K:Frag}(S:aG N ps scope)(hd:A.handled=none)(e0:fB P w K mg base A outer s H)(hl:vs.length=ps.length)(r:aQ vs us)(x:InCallC s s.heap.objs.size (bindL (envOfC qual scope s.heap.objs.size f cd).kindOf (ps.zip us) λ _=>none) (cellsFrom (s.heap.objs.size+1) scope.names []) (bindC (envOfC qual scope s.heap.objs.size f cd).kindOf (ps.zip us) λ _=>none) s1):aI (fS CX P w K mg base N qual scope f cd A outer s H E) [] (start N vs) H s1:=by
 have t:ps.length<=N.length:=by have:=Z8 List.length S.pre;rw[y7]at this;lia
 obtain⟨j,C,rfl,l⟩:=x.done;have J:∀b:Addr,b∉(fS CX P w K mg base N qual scope f cd A outer s H E).ex:=λ b z=>absurd (show b∈([]:List Addr)from z) (by simp);refine⟨⟨e0.mod,S.kind,rfl,rfl,qj _,λ y z c j d=>?_,λ y Y=>?_,λ y c _ h=>?_,λ _=>hd,Around.frames_deeper e0.frames,.inr ⟨rfl,rfl⟩,λ b z=>absurd z (J b),e0.bs,e0.bsz,λ b _ _=>J b,λ b z=>absurd z (J b),e0.funs,e0.frf⟩,rfl,e0.bare,Un.kept l,⟨_,x.toInCall.ns,λ i y v j d B=>?_⟩,λ y c h=>⟨_,x.cell y c h⟩,e0.hok.fresh (qj _),λ y c h=>?_,λ p g=>absurd (show p∈([]:List (Addr×Obj))from g) (by simp),e0.hok.kept l,?_⟩
 .exact name_of_addr x.apart (ji j) (ji d)
 .have Y:=Y;rcases Y with Y|Y
  .exact F7 Y
  .exact absurd rfl (S.nofree _ (ji Y))
 .exact Zq (x.above y c (ji h))
 .have hi:i<vs.length:=by
   unfold start at d;by_cases hi:i<vs.length
   .exact hi
   .rw[Qo (by simpa using hi)]at d;rw[List.getElem?_replicate]at d;split at d<;>cases d
  have n:vs[i]?=some v:=by
   unfold start at d;rw[yy (by simpa using hi),zo]at d;cases e:vs[i]? with
   |none=>rw[e]at d;cases d
   |some a=>rw[e]at d;cases d;rfl
  obtain⟨u,m,o⟩:=r.get n;have g:ps[i]?=some y:=by rw[<-S.pre,List.getElem?_take_of_lt (by lia)];exact j
  have Z:ps.Nodup:=by rw[<-S.pre];exact S.nd.sublist (Zx _ _)
  refine⟨u,o,?_⟩;rcases S.par y (ze g)with k|k
  .exact .inl ⟨k,D5 Z g m k⟩
  .obtain⟨c,e⟩:=F7 k;refine .inr ⟨.inl k,c,e,?_⟩;have q:=x.cell y c e;rw[D7 Z g m (by show scope.names.lookup y≠_;rw[k];decide)]at q;exact q
 .exact e0.hok.fresh (Zq (x.above y c (ji h)))
 .unfold start;show _=N.length;rw[zi,qw,List.length_replicate];lia
theorem AX{K:Frag}{dV kV ah pm Y ct oc:Value}(lk:K.lookup f=some ⟨oc,od,.func (fnOf name qual Z aa scope dV kV ah pm an Y ct),ak⟩)(al:codeIn K Y qual=true)(S:aG N ps scope)(len:∀vs H Q E,sp vs H Q E->vs.length=ps.length)(ae:∀(A:Around)(outer:List Env)(s:Shared)(H:Hp)(vs:List V)(Q:VK)(E:XK),bJ k (A.deeper (envOfC qual scope s.heap.objs.size f Y))->sp vs H Q E->∃t,d8 (fS CX P w K mg base N qual scope f Y A outer s H E) aa t/\t {nx:=λ _ H'=>Q .non H',rt:=Q} (start N vs) H):cB P w K mg base CX (k+1) f (fnOf name qual Z aa scope dV kV ah pm an Y ct) ps sp:=by
 refine⟨len,λ A outer s H args us vs Q E d e0 B r i=>?_⟩;have D:=len _ _ _ _ i;have h:=e0.mod.kin.keeps λ b o e=>(e0.bs b o e).1;have m:=e0.mod.nolimit.keeps λ b o e=>(e0.bs b o e).1;have j:∀y∈ps.zip us,scope.names.lookup y.1=some .local\/(scope.names.lookup y.1=some .cell/\((cellsFrom (s.heap.objs.size+1) scope.names []).lookup y.1).isSome=true):=λ l σ=>by
  obtain⟨n,v⟩:=l;rcases S.par n (List.of_mem_zip σ).1 with q|q
  .exact .inl q
  .exact .inr ⟨q,PySem.W.cellsFrom_some _ _ _ (.inl q)⟩
 refine codeAny_call_function d.depth (h _ _ lk) rfl S.co S.gen rfl (PySem.W.codeRec_of h al) (B _ _ _ _ ?_);refine wpAny_newFunctionEnv_cells S.kind j λ p C s1 x=>?_;subst C;refine⟨m.keeps x.toInCall.keep,codeAny_func ?_⟩;obtain⟨t,G,F⟩:=ae A outer s H vs Q E (d.deeper _) i;have I:aI (fS CX P w K mg base N qual scope f Y A outer s H E) [] (start N vs) H s1:=Mu S d.hd e0 D r x;refine zy (G [] s1 (start N vs) H _ I F) (λ z s' a=>?_) λ e s' a=>a;have fin:∀{c:St}{H':Hp}{v:V}{u:Value},aI (fS CX P w K mg base N qual scope f Y A outer s H E) [] c H' s'->aU v u->Q v H'->CE outer P w H s Q u s':=
  λ{c H' v u}J g q=>⟨v,H',J.os,J.bare,J.base,J.hok,g,q⟩
 cases z with
 |ret u=>
  refine d7 a λ v c H' J g q=>?_;exact fin J g q
 |next=>
  refine cX a λ c H' J q=>?_;exact fin (v:=V.non) J rfl q
 |brk=>
  refine cX a λ _ _ _ q=>?_;exact False.elim q
 |cont=>
  refine cX a λ _ _ _ q=>?_;exact False.elim q
section
variable{id T:String}
def CB(r:List V->Hp->VK->Prop)(t:TA):TE:=λ L H Q=>t L H λ vs H1=>r vs H1 Q
theorem wc(hc:bQ X (.builtin id) r)(hg:Gl X x)(Y:X.mg x=none)(hv:bootBuiltins x=some (.builtin id))(ha:PA X (e::es) t)(Z:x≠"__name__":=by decide)(J:cH x:=by decide)(he:starEach (e::es) X.env=(false,eval e X.env)::starEach es X.env:=by rfl)(q:(backTo pos (starEach es X.env)).any (·.1)=false:=by rfl):PE X (.Call (.Name x p) (e::es) [] pos) (CB r t):=by
 intro aA s L H Q I h;refine Q2 (rK I hg Y hv ?_ Z J);exact PyProof.Rows.callWith_builtin1 (bN (ha pos aA s L H _ I h) λ us d=>dJ λ f H1 a c b=>hc aA d L H1 f us Q a c b) he q
theorem qK(hc:bQ X (.type T) r)(hg:Gl X x)(Y:X.mg x=none)(hv:bootBuiltins x=some (.type T))(ha:PA X (e::es) t)(Z:x≠"__name__")(J:cH x)(he:starEach (e::es) X.env=(false,eval e X.env)::starEach es X.env)(q:(backTo pos (starEach es X.env)).any (·.1)=false):PE X (.Call (.Name x p) (e::es) [] pos) (CB r t):=by
 intro aA s L H Q I h;refine Q2 (rK I hg Y hv ?_ Z J);exact Zo (bN (ha pos aA s L H _ I h) λ us d=>dJ λ f H1 a c b=>hc aA d L H1 f us Q a c b) he q
end
end L2
namespace HT
open PySem PyProof.Rows
section
variable{prog:Program}{w:World}{A:Around}{E:Value->Shared->Prop}{s:Shared}
noncomputable def sIx(n d:Nat):Option Int->Nat
 |none=>d
 |some v=>if v<0 then(v+(n:Int)).toNat else min v.toNat n
theorem SW(n d:Nat)(hd:d<=n)(o:Option Int):sIx n d o<=n:=by
 cases o with
 |none=>exact hd
 |some v=>
  show(if v<0 then(v+(n:Int)).toNat else min v.toNat n)<=n;by_cases q:v<0
  .rw[if_pos q];lia
  .grind
theorem Eh(v:Int)(n d:Nat):(if v<0 then max (v+(n:Int)) 0 else min v (n:Int))=((sIx n d (some v):Nat):Int):=by
 show(if v<0 then max (v+(n:Int)) 0 else min v (n:Int))=(((if v<0 then(v+(n:Int)).toNat else min v.toNat n):Nat):Int);by_cases q:v<0
 .grind
 .grind
theorem Pq(lo hi:Option Int)(n:Nat):Builtin.Slice.sliceAdjust lo hi 1 (n:Int)=(((sIx n 0 lo:Nat):Int),((sIx n n hi:Nat):Int)):=by
 have a:¬((1:Int)<0):=by lia
 unfold Builtin.Slice.sliceAdjust;refine Prod.ext ?_ ?_
 .cases lo with
  |none=>rfl
  |some v=>exact Eh v n 0
 .cases hi with
  |none=>rfl
  |some v=>exact Eh v n n
theorem O_(i j:Nat):Builtin.Slice.slicePlaces (i:Int) (j:Int) 1=j-i:=by unfold Builtin.Slice.slicePlaces;grind
theorem Dq(p:IsPart v o)(h:Q o s):wpAny (model prog w) A (Builtin.Slice.slicePartIndex v) Q E s:=by
 cases p with
 |none=>exact slicePart_none h
 |int i t=>exact slicePart_int h
theorem K5{lo hi:Option Int}{n:Nat}(hs:s.heap.IsSliceOf sl Y Z .none)(pl:IsPart Y lo)(pu:IsPart Z hi)(h:Q (((sIx n 0 lo:Nat):Int),1,sIx n n hi-sIx n 0 lo) s):wpAny (model prog w) A (Builtin.Slice.sliceApplied (.ref sl) (pure (n:Int))) Q E s:=by
 refine aW (id hs) λ os q a J=>?_;refine qb (qb (jq q J rfl (qb (jq q J rfl (qb (jq q J rfl (qc ?_)))))));refine qb (slicePart_none ?_);rw[if_neg (by decide)];refine qb (Dq pl (qb (Dq pu (qb (qc ?_)))));show wpAny _ _ (match Builtin.Slice.sliceAdjust lo hi 1 (n:Int)with|(lo,hi)=>pure (lo,(1:Int),Builtin.Slice.slicePlaces lo hi 1)) _ _ s;rw[Pq lo hi n];show wpAny _ _ (pure (((sIx n 0 lo:Nat):Int),(1:Int),Builtin.Slice.slicePlaces ((sIx n 0 lo:Nat):Int) ((sIx n n hi:Nat):Int) 1)) _ _ s;rw[O_];exact qc h
theorem M7(xs:Array Value)(i k:Nat):((List.range k).filterMap λ(m:Nat)=>xs[((i:Int)+(m:Int)*1).toNat]?).toArray=((xs.toList.drop i).take k).toArray:=by
 have e:(λ(m:Nat)=>xs[((i:Int)+(m:Int)*1).toNat]?)=λ m=>xs[i+m]?:=by
  funext m;have:((i:Int)+(m:Int)*1).toNat=i+m:=by lia
  rw[this]
 rw[e];have:=pick_run xs i k;rw[List.filterMap_map]at this;have e2:((λ x=>xs[x]?)∘λ x=>i+x)=λ m=>xs[i+m]?:=rfl;rw[e2]at this;rw[this]
theorem getItem_tuple_cut{lo hi:Option Int}(Y:IsTup s.heap t items)(hs:s.heap.IsSliceOf sl vl vu .none)(pl:IsPart vl lo)(pu:IsPart vu hi)(hw:¬(sIx items.size 0 lo=0/\sIx items.size items.size hi=items.size))(h:Q (.ref s.heap.objs.size) {s with heap:=s.heap.push {cls:=.type "tuple",data:=.seq ((items.toList.drop (sIx items.size 0 lo)).take (sIx items.size items.size hi-sIx items.size 0 lo)).toArray}})(hsz:items.size<=sizeLine):wpAny (model prog w) A (getItem (.ref t) (.ref sl)) Q E s:=by
 have J:sizeOk (.seq ((items.toList.drop (sIx items.size 0 lo)).take (sIx items.size items.size hi-sIx items.size 0 lo)).toArray):=by show((items.toList.drop (sIx items.size 0 lo)).take (sIx items.size items.size hi-sIx items.size 0 lo)).toArray.size<=sizeLine;rw[zg,y7,List.length_drop,qy];lia
 have e:sIx items.size items.size hi<=items.size:=SW _ _ (qj _) hi;refine aW (id hs) λ os a Z d=>?_;have c:s.TypeIs (.ref sl) "slice":=⟨os,a,Z⟩;unfold getItem
 try with_reducible refine z0 ?_
 first|refine qb (qc ?_)|skip
 refine qb (wpAny_sequenceKey Y.typeIs (by decide) ?_);refine qb (wpAny_callSpecial?_slot Y.typeIs Jb
  (jv Jb Y.typeIs entry_tuple_getitem ?_ (args_tuple_getitem _ _)))
 show wpAny _ _ (Builtin.Tuple.tupleItemsOf (.ref t) >>= _) _ _ s;refine qb (tupleItemsOf_ Y ?_);refine qb (Zn c ?_);rw[if_pos (by decide)];refine qb (K5 hs pl pu ?_);have b:¬((((sIx items.size 0 lo:Nat):Int)==0&&(1:Int)==1&&(sIx items.size items.size hi-sIx items.size 0 lo)==items.size)=true):=by intro q;rw[zd,zd]at q;have f:=eq_of_beq q.1.1;have g:=eq_of_beq q.2;exact hw ⟨by lia,by lia⟩
 show wpAny _ _ (if(((sIx items.size 0 lo:Nat):Int)==0&&(1:Int)==1&&(sIx items.size items.size hi-sIx items.size 0 lo)==items.size)=true then _ else _) _ _ s;rw[if_neg b,M7]
 first
  |exact qb (yi (qc ⟨_,rfl,qc h⟩) J)
  |exact qb (yi (qb (qc (qc ⟨_,rfl,qc h⟩))) J)
  |exact qb (qb (yi (qc (qc ⟨_,rfl,qc h⟩)) J))
  |exact qb (qb (yi (qc ⟨_,rfl,qc h⟩) J))
end
end HT
namespace L2
open PySem PySem.Spec PyProof.Rows
abbrev TO:=St->Hp->(Option Int->Hp->Prop)->Prop
def PO(X:Cx)(e:Option Expr)(t:TO):Prop:=
 ∀(aA:List (Addr×Obj))(s:Shared)(L:St)(H:Hp)(Q:Option Int->Hp->Prop),aI X aA L H s->t L H Q->wpAny (model X.prog X.w) X.A (evalPart e X.env) (λ u s'=>∃o H',aI X aA L H' s'/\IsPart u o/\Q o H') X.xe s
def NV:TO:=λ _ H Q=>Q none H
def QG(t:TE):TO:=λ L H Q=>t L H λ x H1=>∃i,x=.int i/\Q (some i) H1
theorem el:∀{us:List Value},aQ (ns.map V.int) us->IntsAre us ns:=by
 induction ns with
 |nil=>intro us r;rw[yg]at r;cases r;exact .nil
 |cons n ns q=>
  intro us r;rw[qx]at r;cases r with
  |cons a J=>
   obtain⟨t,e⟩:=a;subst e;exact .cons n t (q J)
section
variable{lo hi:Option Expr}
theorem Oa:PO X none NV:=by intro aA s L H Q I h;rw[evalPart_none];exact qc ⟨none,H,I,.none,h⟩
theorem N_(h:PE X e te):PO X (some e) (QG te):=by
 intro aA s L H Q I Z;rw[evalPart_some];refine bN (h aA s L H _ I Z) λ u b=>dJ λ x H1 Y a J=>?_;obtain⟨i,rfl,q⟩:=J;obtain⟨t,rfl⟩:=a;exact bE (some i) H1 Y (.int i t) q
def lZ(X:Cx)(r:V->Option Int->Option Int->Hp->VK->Prop):Prop:=
 ∀(aA:List (Addr×Obj))(s:Shared)(L:St)(H:Hp)(x:V)(v Y q:Value)(lo hi:Option Int)(J:Addr)(Q:VK),aI X aA L H s->aU x v->s.heap.IsSliceOf J Y q .none->IsPart Y lo->IsPart q hi->r x lo hi H Q->∃T id,typeLookup (.type T) "__getitem__"=pure (some (.builtin id))∧s.TypeIs v T∧wpAny (model X.prog X.w) X.A (getItem v (.ref J)) (EP X aA L Q) X.xe s
theorem lZ.or(h:lZ X r)(h':lZ X r'):lZ X (λ x lo hi H Q=>r x lo hi H Q\/r' x lo hi H Q):=by
 intro aA s L H x v c d lo hi Y Q I b a Z J q;rcases q with q|q
 .exact h aA s L H x v c d lo hi Y Q I b a Z J q
 .exact h' aA s L H x v c d lo hi Y Q I b a Z J q
def Wv(r:V->Option Int->Option Int->Hp->VK->Prop)(te:TE)(tl th:TO):TE:=λ L H Q=>te L H λ x H1=>tl L H1 λ l H2=>th L H2 λ u q=>r x l u q Q
theorem Fy(hr:lZ X r)(he:PE X e te)(hl:PO X lo tl)(hu:PO X hi th):PE X (.Subscript e (.Slice lo hi none p2) pos) (Wv r te tl th):=by
 intro aA s L H Q I h;refine Subscript_ (bN (he aA s L H _ I h) λ v z=>dJ λ x H1 d y p=>?_);refine wpAny_Slice (bN (hl aA z L H1 _ d p) λ Y A=>dJ λ l c f n t=>bN (hu aA A L c _ f t) λ Z J=>dJ λ u a g o w=>?_);rw[evalPart_none];refine qc ?_;have i:aI X aA L a {J with heap:=J.heap.push {cls:=.type "slice",data:=.fields #[Y,Z,.none]}}:=g.kept λ b ob q=>qd _ q;refine cF (hr aA {J with heap:=J.heap.push {cls:=.type "slice",data:=.fields #[Y,Z,.none]}} L a x v Y Z l u J.heap.objs.size Q i y (Heap.IsSliceOf.new ..) n o w) λ T id j m k=>?_;exact tail_any m j k (by with_unfolding_all rfl)
def l6(xs:List V)(lo hi:Option Int):List V:=(xs.drop (HT.sIx xs.length 0 lo)).take (HT.sIx xs.length xs.length hi-HT.sIx xs.length 0 lo)
theorem Dg(xs:List V)(lo hi:Option Int):(l6 xs lo hi).length<=xs.length:=by unfold l6;rw[y7,List.length_drop];lia
def RP(K:Frag):V->Option Int->Option Int->Hp->VK->Prop:=λ x lo hi H Q=>∃a xs,x=.ref a/\dH K H a xs/\¬(HT.sIx xs.length 0 lo=0/\HT.sIx xs.length xs.length hi=xs.length)/\∀p,H p=none->Q (.ref p) (upd H p (.tup (l6 xs lo hi)))
theorem EH:lZ X (RP X.K):=by
 intro aA s L H x v k l lo hi j Q I i d f g h;obtain⟨a,xs,rfl,hx,e,q⟩:=h;subst i;refine aW (I.tuple hx) λ Y r Z c=>?_;have J:Y.toArray.size=xs.length:=by rw[zg];exact r.length.symm
 refine bE ("tuple") _ PyProof.Rows.slot_tuple_getitem.lookup Z.typeIs ?_;refine HT.getItem_tuple_cut Z d f g (by rw[J];exact e) ?_ (by rw[J];exact c);rw[J];refine bE (.ref s.heap.objs.size) _ (I.laid (λ b ob q=>qd _ q) (qj _) ?_) rfl (q _ (I.hok.fresh (qj _)));exact⟨zc (Dg xs lo hi) c,_,(r.drop (HT.sIx xs.length 0 lo)).take (HT.sIx xs.length xs.length hi-HT.sIx xs.length 0 lo),ec.new _ _⟩
end
noncomputable def iF(n:Nat)(i:Int):Option Nat:=if 0<=i then(if i<n then some i.toNat else none)else if -(n:Int)<=i then some (i+n).toNat else none
def i_{α:Type}(xs:List α)(i:Int):Option α:=(iF xs.length i).bind λ j=>xs[j]?
theorem G9(h:iF n i=some j):seqIndex? i n=some j/\j<n/\-(n:Int)<=i/\i<n:=by
 unfold iF at h;by_cases q:0<=i
 .rw[if_pos q]at h;by_cases a:i<n
  .rw[if_pos a]at h;have e:=qi h;exact⟨by rw[seqIndex_of q a,e],by lia,by lia,a⟩
  .rw[if_neg a]at h;cases h
 .rw[if_neg q]at h;by_cases a:-(n:Int)<=i
  .rw[if_pos a]at h;have e:=qi h;exact⟨by rw[seqIndex_neg (by lia) a,e],by lia,a,by lia⟩
  .rw[if_neg a]at h;cases h
theorem zQ(h:i_ xs i=some v):∃j,seqIndex? i xs.length=some j/\xs[j]?=some v/\j<xs.length/\-(xs.length:Int)<=i/\i<xs.length:=by
 unfold i_ at h;cases e:iF xs.length i with
 |none=>rw[e]at h;cases h
 |some j=>
  rw[e]at h;obtain⟨a,b,q,J⟩:=G9 e;exact⟨j,a,h,b,q,J⟩
theorem dX{xs:List α}{j:Nat}{v:α}(h:xs[j]?=some v):i_ xs (j:Int)=some v:=by
 have q:=(List.getElem?_eq_some_iff.mp h).1;have e:iF xs.length (j:Int)=some j:=by unfold iF;rw[if_pos (by lia),if_pos (by lia)];simp
 unfold i_;rw[e];exact h
def uJ(b:Expr):Prop:=∀o i,subscripted b false o i=operate [o,i] (getItem o i)
def k9(X:Cx)(r:R2):Prop:=
 ∀(value q:Expr)(aA:List (Addr×Obj))(s:Shared)(L:St)(H:Hp)(x y:V)(v u:Value)(Q:VK),aI X aA L H s->aU x v->aU y u->r x y H Q->subscripted q false v u=operate [v,u] (getItem v u)->wpAny (model X.prog X.w) X.A (subscriptTail value q v u) (EP X aA L Q) X.xe s
def qZ(X:Cx)(id:String)(r:V->List V->Hp->VK->Prop):Prop:=
 ∀(aA:List (Addr×Obj))(s:Shared)(L:St)(H:Hp)(x:V)(xs:List V)(v:Value)(us:List Value)(Q:VK),aI X aA L H s->aU x v->aQ xs us->r x xs H Q->wpAny (model X.prog X.w) X.A (call (.builtin id) (v::us)) (EP X aA L Q) X.xe s
section
variable{X:Cx}{a b:Expr}{ta tb:TE}{pos:Pos}
theorem k9.or(h:k9 X r)(h':k9 X Z):k9 X (λ x y H Q=>r x y H Q\/Z x y H Q):=by
 intro value J aA s L H x y v u Q I b Y q a;rcases q with q|q
 .exact h value J aA s L H x y v u Q I b Y q a
 .exact h' value J aA s L H x y v u Q I b Y q a
theorem qZ.or{id:String}(h:qZ X id r)(h':qZ X id Y):qZ X id (λ x xs H Q=>r x xs H Q\/Y x xs H Q):=by
 intro aA s L H x xs v us Q I J Z q;rcases q with q|q
 .exact h aA s L H x xs v us Q I J Z q
 .exact h' aA s L H x xs v us Q I J Z q
theorem o9(Y:k9 X r)(Z:PE X a ta)(hb:PE X b tb)(hs:uJ b):PE X (.Subscript a b pos) (tJ r ta tb):=by intro aA s L H Q I h;exact Subscript_ (AN Z hb I h λ v u f x y c d e J q=>Y a b aA f L c x y v u Q d e J q (hs _ _))
def Hv(K:Frag):R2:=λ x y H Q=>∃p xs i v,x=.ref p/\y=.int i/\c7 K H p xs/\i_ xs i=some v/\Q v H
def Ht(K:Frag):R2:=λ x y H Q=>∃p xs i v,x=.ref p/\y=.int i/\dH K H p xs/\i_ xs i=some v/\Q v H
def Hu:R2:=λ x y H Q=>∃z i c,x=.str z/\y=.int i/\z.length<=sizeLine/\i_ z.cps.toList i=some c/\Q (.str ⟨#[c]⟩) H
theorem fe:k9 X (Hv X.K):=by
 intro value B aA s L H x y v u Q I o A h e;obtain⟨p,xs,i,z,rfl,rfl,n,l,q⟩:=h;cases o;obtain⟨t,rfl⟩:=A;obtain⟨J,r,Y,E⟩:=I.list n;obtain⟨j,a,f,C,g,k⟩:=zQ l;obtain⟨w,c,Z⟩:=r.get f;have m:=r.length;have D:=oF;have fin:EP X aA L Q w s:=⟨z,H,I,Z,q⟩;by_cases d:0<=i
 .have b:i.toNat=j:=by rw[seqIndex_of d k]at a;exact qi a
  exact item_listR Y.isList d (by lia) (by rw[b];simpa using c) fin e
 .have b:(i+(J.toArray.size:Int)).toNat=j:=by rw[seqIndex_neg (by lia) g]at a;rw[zg,<-m];exact qi a
  exact subscriptTail_builtinR Y.isList.typeIs slot_list_getitem.lookup
   (wpAny_getItem_list_neg Y.isList (by lia) (by rw[zg]<;>lia) (by lia) (by rw[b];simpa using c) ⟨rfl,fin⟩) e
theorem iG:k9 X (Ht X.K):=by
 intro value Y aA s L H x y v u Q I k l h g;obtain⟨p,xs,i,z,rfl,rfl,f,d,q⟩:=h;subst k;obtain⟨t,rfl⟩:=l;refine aW (I.tuple f) λ m r Z C=>?_;refine k6 (zQ d) λ j b c n o A=>?_;obtain⟨w,a,J⟩:=r.get c;have e:=r.length;have B:=oF;have fin:EP X aA L Q w s:=⟨z,H,I,J,q⟩;exact subscriptTail_builtinR Z.typeIs slot_tuple_getitem.lookup
  (getItem_tuple Z (by lia) (by lia) (by rw[zg,<-e];exact b) (by simpa using a) ⟨rfl,fin⟩) g
theorem TC:k9 X Hu:=by
 intro value J aA s L H x y v u Q I g Z h f;obtain⟨z,i,c,rfl,rfl,n,Y,q⟩:=h;obtain⟨t,rfl⟩:=g;obtain⟨o,rfl⟩:=Z;refine k6 (zQ Y) λ j a k l b d=>?_;have e:z.cps.toList.length=z.length:=by simp[Str.length]
 rw[e]at a b d;have m:=oF;exact tail_any (typeIs_str s z t) slot_str_getitem.lookup (getItem_str (by
grind) (by grind) ⟨.str ⟨#[c]⟩,H,I.tok _,⟨_,rfl⟩,q⟩) f
def Kq(K:Frag):R2:=λ x y H Q=>Hv K x y H Q\/Ht K x y H Q\/Hu x y H Q
theorem TF:k9 X (Kq X.K):=fe.or (iG.or TC)
theorem Pc(q:List Value)(n j:Nat)(u:Value):Obj.mapSeq (·.setIfInBounds j u) {cls:=.type "list",data:=.seq q.toArray n}={cls:=.type "list",data:=.seq (q.set j u).toArray n}:=by simp[Obj.mapSeq]
theorem aI.lst(I:aI X aA L H s)(h:H p=some (.lst xs)):∃(q:List Value)(n:Nat),aQ xs q∧s.heap.get? p=some {cls:=.type "list",data:=.seq q.toArray n}∧xs.length≤sizeLine:=by
 obtain⟨z,q,n,r,e⟩:=I.hok p _ h;exact bE q n r e z
theorem aI.lstUpd{J its':List Value}(I:aI X aA L H s)(h:H p=some (.lst xs))(ho:s.heap.get? p=some {cls:=.type "list",data:=.seq J.toArray n})(Z:f {cls:=.type "list",data:=.seq J.toArray n}={cls:=.type "list",data:=.seq its'.toArray Y})(r:aQ ys its')(hz:ys.length≤sizeLine)(t:Nat):aI X aA L (upd H p (.lst ys)) {s with heap:=s.heap.update p f,toks:=t}:=by
 have e:(s.heap.update p f).get? p=some {cls:=.type "list",data:=.seq its'.toArray Y}:=by rw[zr f ho (by rw[Z]<;>rfl),Z]
 refine I.write (by rw[h];trivial) (.inl rfl) (λ b u a q=>(yh _ _ (zt a)).trans q) ⟨_,e⟩ ?_;exact⟨hz,its',Y,r,e⟩
def QS:V->V->V->Hp->(Hp->Prop)->Prop:=λ o i v H Q=>∃p xs k j,o=.ref p/\i=.int k/\H p=some (.lst xs)/\iF xs.length k=some j/\Q (upd H p (.lst (xs.set j v)))
theorem Fv:HK X QS:=by
 intro aA s L H o i v C B u Q I x w y h;obtain⟨p,xs,k,j,rfl,rfl,g,l,q⟩:=h;cases x;obtain⟨t,rfl⟩:=w;obtain⟨J,n,r,b,m⟩:=I.lst g;obtain⟨a,z,e,f⟩:=G9 l;have Z:=r.length;have A:=oF;have c:=
  I.lstUpd g b (Pc J n j u) (r.set y j) (by rw[yf];exact m) s.toks
 by_cases d:0<=k
 .have Y:k.toNat=j:=by rw[seqIndex_of d f]at a;exact qi a
  exact PySem.W.ki_setAt b d (by lia) (by rw[zg,<-Z];exact f) (by rw[Y];exact⟨_,c,q⟩)
 .have Y:(k+(J.toArray.size:Int)).toNat=j:=by rw[seqIndex_neg (by lia) e]at a;rw[zg,<-Z];exact qi a
  exact PySem.W.ki_setBack b (by lia) (by rw[zg,<-Z];exact e) (by lia) (by rw[Y];exact⟨_,c,q⟩)
theorem Me(lo hi:Option Int)(n:Nat):(sliceBounds lo hi none n).1=((HT.sIx n 0 lo:Nat):Int)/\(sliceBounds lo hi none n).2.1=((HT.sIx n n hi:Nat):Int)/\(sliceBounds lo hi none n).2.2=1:=by
 refine⟨?_,?_,rfl⟩
 .cases lo with
  |none=>simp[sliceBounds,HT.sIx]
  |some i=>
   simp only[sliceBounds,HT.sIx,Option.getD_none,show(1:Int)>0 by decide,Ye];by_cases h:i<0
   .simp only[h,Ye]<;>lia
   .simp only[h,if_false]<;>lia
 .cases hi with
  |none=>simp[sliceBounds,HT.sIx]
  |some i=>
   simp only[sliceBounds,HT.sIx,Option.getD_none,show(1:Int)>0 by decide,Ye];by_cases h:i<0
   .simp only[h,Ye]<;>lia
   .simp only[h,if_false]<;>lia
theorem Lr(q:List Value)(lo hi:Option Int):slicePick q.toArray lo hi none=((q.drop (HT.sIx q.length 0 lo)).take (HT.sIx q.length q.length hi-HT.sIx q.length 0 lo)).toArray:=by obtain⟨a,b,J⟩:=Me lo hi q.toArray.size;unfold slicePick;rw[a,b,J];simp only[sliceRange_one,pick_run,zg]<;>rfl
def RU(K:Frag):V->Option Int->Option Int->Hp->VK->Prop:=λ x lo hi H Q=>∃a xs,x=.ref a/\c7 K H a xs/\∀p,H p=none->Q (.ref p) (upd H p (.lst (l6 xs lo hi)))
theorem iW:lZ X (RU X.K):=by
 intro aA s L H x v j k lo hi i Q I f c e Z h;obtain⟨a,xs,rfl,hx,q⟩:=h;subst f;refine aW (I.list hx) λ g r Y d=>?_;have J:=r.length;refine bE ("list") _ slot_list_getitem.lookup Y.isList.typeIs ?_;refine wpAny_getItem_list_slice Y.isList c e Z .none (by simp) ?_ (by grind);rw[Lr,<-J];refine bE (.ref s.heap.objs.size) _ (I.laid (λ b ob q=>qd _ q) (qj _) ?_) rfl (q _ (I.hok.fresh (qj _)));exact⟨zc (Dg xs lo hi) d,_,0,(r.drop (HT.sIx xs.length 0 lo)).take (HT.sIx xs.length xs.length hi-HT.sIx xs.length 0 lo),qk _ rfl⟩
noncomputable def kB:V->Bool
 |.non=>true
 |.bl _=>true
 |.int _=>true
 |.str _=>true
 |_=>false
noncomputable def jC:V->V->Bool
 |.non,.non=>true
 |.bl a,.bl b=>a==b
 |.bl a,.int b=>(if a then 1 else 0)==b
 |.int a,.bl b=>a==(if b then 1 else 0)
 |.int a,.int b=>a==b
 |.str a,.str b=>a==b
 |_,_=>false
theorem T1(Y:aU y u)(q:aU x v)(Z:kB y=true)(J:kB x=true):SeqAt.EqAt A s u v (jC y x):=by
 cases y with
 |non=>
  subst Y;cases x with
  |non=>subst q;exact SeqAt.EqAt.same _
  |bl b=>subst q;exact SeqAt.EqAt.none_bool b
  |int b=>obtain⟨t,rfl⟩:=q;exact SeqAt.EqAt.none_int b t
  |str b=>obtain⟨t,rfl⟩:=q;exact SeqAt.EqAt.none_str b t
  |_=>exact absurd (show false=true from J) zj
 |bl a=>
  subst Y;cases x with
  |non=>subst q;exact SeqAt.EqAt.bool_none a
  |bl b=>subst q;exact SeqAt.EqAt.bool_bool a b
  |int b=>obtain⟨t,rfl⟩:=q;exact SeqAt.EqAt.bool_int a b t
  |str b=>obtain⟨t,rfl⟩:=q;exact SeqAt.EqAt.bool_str a b t
  |_=>exact absurd (show false=true from J) zj
 |int a=>
  obtain⟨c,rfl⟩:=Y;cases x with
  |non=>subst q;exact SeqAt.EqAt.int_none a c
  |bl b=>subst q;exact SeqAt.EqAt.int_bool a c b
  |int b=>obtain⟨t,rfl⟩:=q;exact SeqAt.EqAt.int_int a c b t
  |str b=>obtain⟨t,rfl⟩:=q;exact SeqAt.EqAt.int_str a c b t
  |_=>exact absurd (show false=true from J) zj
 |str a=>
  obtain⟨c,rfl⟩:=Y;cases x with
  |non=>subst q;exact SeqAt.EqAt.str_none a c
  |bl b=>subst q;exact SeqAt.EqAt.str_bool a c b
  |int b=>obtain⟨t,rfl⟩:=q;exact SeqAt.EqAt.str_int a c b t
  |str b=>obtain⟨t,rfl⟩:=q;exact SeqAt.EqAt.str_str a c b t
  |_=>exact absurd (show false=true from J) zj
 |_=>exact absurd (show false=true from Z) zj
def iB(x:V)(u:Value):Bool:=match u with
 |.none=>jC .non x
 |.bool b=>jC (.bl b) x
 |.int i _=>jC (.int i) x
 |.str z _=>jC (.str z) x
 |_=>false
theorem Fc(r:aU y u)(f:kB y=true):iB x u=jC y x:=by
 cases y with
 |non=>subst r;rfl
 |bl b=>subst r;rfl
 |int i=>obtain⟨t,rfl⟩:=r;rfl
 |str z=>obtain⟨t,rfl⟩:=r;rfl
 |_=>exact absurd (show false=true from f) zj
theorem qW:∀{xs:List V}{us:List Value},aQ xs us->xs.all kB=true->us.any (iB x)=xs.any λ y=>jC y x
 |_,_,.nil,_=>rfl
 |y::xs,u::us,.cons r t,f=>by
  rw[j8,zd]at f;rw[Q0,Q0,Fc r f.1,qW t f.2]
theorem tY(J:aU x v)(Y:kB x=true):∀{xs:List V}{us:List Value},aQ xs us->xs.all kB=true->∀u∈us,SeqAt.EqAt A s u v (iB x u)
 |_,_,.nil,_=>λ u q=>by cases q
 |y::xs,u::us,.cons r t,f=>λ Z q=>by
  rw[j8,zd]at f;rcases qt q with rfl|q
  .rw[Fc r f.1];exact T1 r J f.1 Y
  .exact tY J Y t f.2 Z q
def v8(x:V)(xs:List V):Bool:=xs.any λ y=>jC y x
def qB(K:Frag)(q:Bool):R2:=λ x y H Q=>∃p xs,y=.ref p/\(c7 K H p xs\/dH K H p xs)/\kB x=true/\xs.all kB=true/\Q (.bl (if q then !v8 x xs else v8 x xs)) H
theorem P0:du X (compareOp .In) (qB X.K false):=by
 intro aA s L H x y v u Q I c e h;obtain⟨p,xs,rfl,Y,b,fs,q⟩:=h;subst e;rcases Y with Y|Y
 .refine aW (I.list Y) λ J r Z d=>?_;refine SeqAt.in_listAt (iB x) Z.isList (λ w a=>tY c b r fs w (by simpa using a)) ⟨.bl _,H,I,rfl,?_⟩;rw[show J.toArray.any (iB x)=J.any (iB x) by simp,qW r fs];exact q
 .refine aW (I.tuple Y) λ J r Z d=>?_;refine SeqAt.in_tupleAt (iB x) Z (λ w a=>tY c b r fs w (by simpa using a)) ⟨.bl _,H,I,rfl,?_⟩;rw[show J.toArray.any (iB x)=J.any (iB x) by simp,qW r fs];exact q
theorem DU:du X (compareOp .NotIn) (qB X.K true):=by
 intro aA s L H x y v u Q I c e h;obtain⟨p,xs,rfl,Y,b,fs,q⟩:=h;subst e;rcases Y with Y|Y
 .refine aW (I.list Y) λ J r Z d=>?_;refine SeqAt.notIn_listAt (iB x) Z.isList (λ w a=>tY c b r fs w (by simpa using a)) ⟨.bl _,H,I,rfl,?_⟩;rw[show J.toArray.any (iB x)=J.any (iB x) by simp,qW r fs];exact q
 .refine aW (I.tuple Y) λ J r Z d=>?_;refine SeqAt.notIn_tupleAt (iB x) Z (λ w a=>tY c b r fs w (by simpa using a)) ⟨.bl _,H,I,rfl,?_⟩;rw[show J.toArray.any (iB x)=J.any (iB x) by simp,qW r fs];exact q
theorem NC:du X (compareOp .NotIn) (λ x y H Q=>∃i j,x=.str i/\y=.str j/\Q (.bl (!(!(Builtin.Str.occurrences j i 0 j.length 1).isEmpty))) H):=by intro aA s L H x y v u Q I J Y h;obtain⟨i,j,rfl,rfl,q⟩:=h;obtain⟨t,rfl⟩:=J;obtain⟨a,rfl⟩:=Y;exact notIn_str ⟨.bl _,H,I,rfl,q⟩
theorem eD:bQ X (.builtin "len") (λ xs H Q=>∃p ys,xs=[.ref p]∧(c7 X.K H p ys∨dH X.K H p ys)∧Q (.int ys.length) H):=by
 intro aA s L H xs us Q I r h;obtain⟨p,ys,rfl,Y,q⟩:=h;obtain⟨u,rfl,d⟩:=h8 r;subst d;have e:=oF;rcases Y with Y|Y
 .refine aW (I.list Y) λ b a Z c=>?_;have J:=a.length;exact Calls.call_len_list Z.isList (by grind) ⟨.int ys.length,H,I.tok _,⟨s.toks+1,by grind⟩,q⟩
 .refine aW (I.tuple Y) λ b a Z c=>?_;have J:=a.length;exact len_tuple Z (by grind) ⟨.int ys.length,H,I.tok _,⟨s.toks+1,by grind⟩,q⟩
theorem Ms:bQ X (.builtin "len") (λ xs H Q=>∃z,xs=[.str z]∧z.length≤sizeLine∧Q (.int z.length) H):=by intro aA s L H xs us Q I r h;obtain⟨z,rfl,a,q⟩:=h;obtain⟨u,rfl,t,rfl⟩:=h8 r;have J:=oF;exact len_str (by lia) ⟨.int z.length,H,I.tok _,⟨_,rfl⟩,q⟩
theorem bQ.or(h:bQ X f r)(h':bQ X f J):bQ X f (λ xs H Q=>r xs H Q\/J xs H Q):=by
 intro aA s L H xs us Q I Y q;rcases q with q|q
 .exact h aA s L H xs us Q I Y q
 .exact h' aA s L H xs us Q I Y q
theorem C2:bQ X (.type "list") (λ xs H Q=>∃p ys,xs=[.ref p]∧(c7 X.K H p ys∨dH X.K H p ys)∧∀l,H l=none→Q (.ref l) (upd H l (.lst ys))):=by
 intro aA s L H xs us Q I r h;obtain⟨p,ys,rfl,a,q⟩:=h;obtain⟨u,rfl,m⟩:=h8 r;subst m;have fin:∀(J:List Value),aQ ys J->ys.length<=sizeLine->∀(h':Heap)(Y:Nat),(∀b j,s.heap.get? b=some j->h'.get? b=some j)->h'.get? s.heap.objs.size=some {cls:=.type "list",dict:=none,data:=.seq J.toArray Y,slots:=#[]}→EP X aA L Q (.ref s.heap.objs.size) {s with heap:=h'}:=λ J Z c h' Y d e=>
  ⟨.ref s.heap.objs.size,_,I.laid d (qj _) (show aZ X.prog X.w _ h' _ (.lst ys)from⟨c,J,Y,Z,e⟩),rfl,q _ (I.hok.fresh (qj _))⟩
 rcases a with a|a
 .refine aW (I.list a) λ J Z i c=>?_;have k:=Z.length;obtain⟨o,g,f,n,hd⟩:=i.isList;exact call_list_seq p (.inl rfl) g f hd (λ h' Y d e=>fin J Z c h' Y d e) (by grind)
 .refine aW (I.tuple a) λ J Z i c=>?_;have k:=Z.length;obtain⟨o,g,f,n,hd⟩:=i;exact call_list_seq p (.inr rfl) g f hd (λ h' Y d e=>fin J Z c h' Y d e) (by grind)
theorem LA:bQ X (.type "tuple") (λ xs H Q=>∃p ys,xs=[.ref p]∧((c7 X.K H p ys∧∀l,H l=none→Q (.ref l) (upd H l (.tup ys)))∨(dH X.K H p ys∧Q (.ref p) H))):=by
 intro aA s L H xs us Q I r h;obtain⟨p,ys,rfl,h⟩:=h;obtain⟨u,rfl,i⟩:=h8 r;subst i;rcases h with⟨a,q⟩|⟨a,q⟩
 .refine aW (I.list a) λ J Z Y d=>?_;have j:=Z.length;refine call_tuple_list Y.isList (λ h' g=>?_) (by grind);have c:=I.kept (t':=s.toks) g;have f:=
   c.laid (t':=s.toks) (λ b o e=>qd _ e) (qj _) (show aZ X.prog X.w _ _ _ (.tup ys)from⟨d,J,Z,ec.new _ _⟩)
  exact bE (.ref h'.objs.size) _ f rfl (q _ (c.hok.fresh (qj _)))
 .refine aW (I.tuple a) λ J Z Y d=>?_;exact call_tuple_same Y ⟨.ref p,H,I,rfl,q⟩
def wC(K:Frag)(T:String)(x:V)(H:Hp):Prop:=match x with
 |.str _=>T="str"
 |.int _=>T="int"
 |.ref p=>(T="list"∧∃xs,c7 K H p xs)∨(T="tuple"∧∃o,K.lookup p=some o∧o.cls=.type "tuple"∧o.dict=none)∨
   (T="dict"∧((∃aH,H p=some (.dK aH))∨∃aH,H p=some (.dT aH)))∨(T="set"∧∃S n,H p=some (.set S n))
 |_=>False
theorem SO(I:aI X aA L H s)(r:aU x v)(ty:wC X.K T x H):s.TypeIs v T/\∀a,v=.ref a->∃ob,s.heap.get? a=some ob/\ob.dict=none:=by
 cases x with
 |str z=>
  obtain⟨t,rfl⟩:=r;cases(show T="str" from ty);exact⟨typeIs_str s z t,λ _ e=>nomatch e⟩
 |int i=>
  obtain⟨t,rfl⟩:=r;cases(show T="int" from ty);exact⟨typeIs_int s i t,λ _ e=>nomatch e⟩
 |ref p=>
  subst r;rcases ty with⟨rfl,xs,f⟩|⟨rfl,o,q,d,hd⟩|⟨rfl,q⟩|⟨rfl,S,n,q⟩
  .refine aW (I.list f) λ Y _ J _=>?_;refine⟨J.isList.typeIs,λ a e=>?_⟩;cases e;refine d5 J λ o n e c hd _=>?_;exact⟨o,e,hd⟩
  .refine⟨⟨o,I.kIn p o q,d⟩,λ a e=>?_⟩;cases e;exact⟨o,I.kIn _ o q,hd⟩
  .have z:∃o,s.heap.get? p=some o/\o.ExactDict:=by
    rcases q with⟨aH,q⟩|⟨aH,q⟩
    .obtain⟨_,_,_,_,o,_,_,e,b,_⟩:=I.hok p _ q;exact⟨o,e,b⟩
    .obtain⟨_,_,_,_,o,_,_,e,b,_⟩:=I.hok p _ q;exact⟨o,e,b⟩
   obtain⟨o,e,b⟩:=z;refine⟨⟨o,e,b.1⟩,λ a e2=>?_⟩;cases e2;exact⟨o,e,b.2.1⟩
  .refine bY (I.hok p _ q) λ o _ _ _ e b _=>?_;refine⟨⟨o,e,b.1⟩,λ a e2=>?_⟩;cases e2;exact⟨o,e,b.2.1⟩
 |_=>exact False.elim ty
def Wl(K:Frag)(T:String)(r:V->List V->Hp->VK->Prop)(to:TE)(t:TA):TE:=λ L H Q=>to L H λ x H1=>wC K T x H1/\t L H1 λ xs H2=>r x xs H2 Q
variable{T id:String}
theorem Ij(pa:PlainAttrs T)(slot:Slot T name id)(ac:typeOf (.builtin id)=pure (.type "method_descriptor"))(hm:qZ X id r)(ho:PE X o to)(ha:PA X (e::es) t)(Y:attributeBase o name X.env (eval o X.env)=eval o X.env)(aa:((backTo cpos (starEach (e::es) X.env)).all (λ x=>!x.1)&&(backToKw cpos (keywordEach [] X.env)).all (λ x=>x.1.isSome)
   &&decide ((e::es).length+([]:List Keyword).length+(if([]:List Keyword).isEmpty then 0 else 1)<30))=true)(J:(apos.endLine==cpos.line)=true)(hs:starEach (e::es) X.env=(false,eval e X.env)::starEach es X.env)(q:(backTo cpos (starEach es X.env)).any (·.1)=false):PE X (.Call (.Attribute o name apos) (e::es) [] cpos) (Wl X.K T r to t):=by
 intro aA s L H Q I h;refine wpAny_Call_method_late Y aa J rfl (bN (ho aA s L H _ I h) λ v m Z=>?_);obtain⟨x,H1,a,c,ty,j⟩:=Z;obtain⟨g,i⟩:=SO a c ty;refine⟨T,id,pa,slot,ac,g,i,?_⟩;have b:=ha cpos aA m L H1 _ a j;rw[hs]at b⊢;refine Yi (by show(false||(backTo cpos (starEach es X.env)).any (·.1))=false;rw[q]<;>rfl) (Yv ?_);exact bN b λ us n=>dJ λ p d f l k=>hm aA n L d x p v us Q f c l k
end
def DC(X:Cx)(id:String)(r:V->List V->Hp->VK->Prop):Prop:=
 ∀(aA:List (Addr×Obj))(s:Shared)(L:St)(H:Hp)(x:V)(xs:List V)(v:Value)(us:List Value)(Q:VK),aI X aA L H s->aU x v->aQ xs us->r x xs H Q->wpAny (model X.prog X.w) X.A (call (.builtin id) (v::us)) (EP X aA L Q) X.xe s
theorem aQ.one:∀{x:V}{us:List Value},aQ [x] us->∃u,us=[u]/\aU x u
 |_,_,h=>by
  cases h with
  |cons r t=>cases t;exact⟨_,rfl,r⟩
theorem aQ.two:∀{x y:V}{us:List Value},aQ [x,y] us->∃u v,us=[u,v]/\aU x u/\aU y v
 |_,_,_,h=>by
  cases h with
  |cons r t=>
   cases t with
   |cons q z=>cases z;grind
theorem aQ.zero:∀{us:List Value},aQ [] us->us=[]
 |_,.nil=>rfl
theorem aQ.eraseIdx:∀{xs:List V}{us:List Value}(i:Nat),aQ xs us->aQ (xs.eraseIdx i) (us.eraseIdx i)
 |_,_,_,.nil=>.nil
 |_,_,0,.cons _ t=>t
 |_,_,i+1,.cons r t=>.cons r (aQ.eraseIdx i t)
section
variable{X:Cx}{aA:List (Addr×Obj)}{L:St}{H:Hp}{s:Shared}{l b:Addr}{xs ys zs:List V}
theorem aI.lset{J its':List Value}(I:aI X aA L H s)(hH:H l=some (.lst xs))(e:s.heap.get? l=some {cls:=.type "list",data:=.seq J.toArray n})(hf:f J.toArray=its'.toArray)(Y:aQ ys its')(hz:ys.length≤sizeLine):aI X aA L (upd H l (.lst ys)) {s with heap:=s.heap.update l (Obj.mapSeq f),toks:=t'}:=by
 have q:=PySem.IsL.update e f;rw[hf]at q;refine I.write (by rw[hH];exact trivial) (.inl rfl) (λ b u a Z=>(yh s.heap (Obj.mapSeq f) (zt a)).trans Z) ⟨_,q⟩ ?_;exact⟨hz,its',_,Y,q⟩
theorem aI.lnew(I:aI X aA L H s)(Y:aQ ys J)(hz:ys.length<=sizeLine):aI X aA L (upd H s.heap.objs.size (.lst ys)) {s with heap:=s.heap.push {cls:=.type "list",data:=.seq J.toArray},toks:=t'}:=
 I.laid (λ _ _ q=>qd _ q) (qj _) ⟨hz,J,0,Y,qk _ rfl⟩
theorem aI.fresh(I:aI X aA L H s):H s.heap.objs.size=none:=I.hok.fresh (qj _)
theorem aI.lstM(I:aI X aA L H s)(J:H l=some (.lst xs)):xs.length≤sizeLine∧∃(q:List Value)(n:Nat),aQ xs q∧xs.length=q.length∧s.heap.get? l=some {cls:=.type "list",data:=.seq q.toArray n}:=by obtain⟨z,q,n,r,e⟩:=I.hok l _ J;exact⟨z,q,n,r,r.length,e⟩
theorem M_(h:n<=sizeLine):Builtin.List.listTooLong n=false:=by exact jg (by lia)
end
section
def N2:V->List V->Hp->VK->Prop:=λ x vs H Q=>∃l xs y,x=.ref l/\vs=[y]/\H l=some (.lst xs)/\xs.length<sizeLine/\Q .non (upd H l (.lst (xs++[y])))
theorem P4:DC X "list.append" N2:=by intro aA s L H x f v us Q I b Z h;obtain⟨l,xs,y,rfl,rfl,Y,d,q⟩:=h;cases b;obtain⟨u,rfl,a⟩:=Z.one;obtain⟨z,J,n,r,c,e⟩:=I.lstM Y;refine call_meets F.slot_list_append ⟨_,e,rfl⟩ F.entry_list_append (F.args_list_append_2 _ _) (PySem.list_append l J.toArray n u (by rw[zg];lia)) ⟨e,?_⟩;refine⟨.non,_,I.lset Y e (by simp) (r.append (.cons a .nil)) ?_,rfl,q⟩;rw[zi,Zb];lia
end
end L2
namespace Att
open PySem PySem.W PySem.Calls PyProof.Rows
theorem Lb:∀(ns:List Int)(vs:List Value),WellAll P h vs (ns.map WData.int)->IntsAre vs ns:=by
 intro ns;induction ns with
 |nil=>
  intro vs w;rw[yg]at w;cases w;exact .nil
 |cons n ns q=>
  intro vs w;rw[qx]at w;cases w with
  |cons a b=>
   cases a;exact .cons _ _ (q _ b)
theorem PF{l:OpenLaw}(hn:l.most=some n)(Y:l.row.toRowW.claim.pre args=true)(ae:WellAll P h J args):∃a vs ns,J=[Value.ref a]∧args=[WData.list (ns.map WData.int)]∧h.get? a=some {cls:=.type "list",data:=.seq vs.toArray}∧IntsAre vs ns∧ns.length≤n:=by
 have f:=(pre_splitW Y).1;have k:l.pre.holds [] {args:=args}=true:=(pre_splitW Y).2;obtain⟨d,r,rfl,g,i⟩:=hasAllW_cons f;obtain rfl:=hasAllW_nil i;obtain⟨xs,rfl,j⟩:=hasW_list g;obtain⟨ns,rfl⟩:=items_int j;have Z:ns.length<=n:=by
  have b:(WTm.not (.lt (.lit (.int (n:Int))) (.len (.arg 0)))).holds [] {args:=[.list (ns.map .int)]}=true:=by have b:=(holds_andW k).1;rw[hn]at b;exact b
  have c:=condW_of b (w_not (w_lt w_lit (w_len_list (w_arg rfl))));rw[qw]at c;refine Nat.le_of_not_lt λ q=>?_;have o:(n:Int)<((ns.length:Nat):Int):=by lia
  first
   |(rw[zm o]at c;exact absurd c (by decide))
   |(simp at c;lia)
 cases ae with
 |cons p s=>
  cases s;cases p with
  |list m e=>exact⟨_,_,ns,rfl,rfl,m,Lb ns _ e,Z⟩
theorem PQ(l:OpenLaw)(args:List WData):l.row.toRowW.claim.post args (.bool true) args=true:=
 postW_of
  (show WShape.has [] (.bool true) .bool=true by first|rfl|decide|simp[WShape.has,WShape.arms,WShape.armsAll])
  (show(WTm.eq .res (.lit (.bool true))).value [] {args:=args,res:=some (.bool true),after:=args}=some (.bool (true==true))from w_eq_bool (w_res rfl) w_lit) rfl
theorem attach_call{l:OpenLaw}(hn:l.most=some n)(ai:d.params.defaults=[])(call:∀(w:World)(s₀ J:Shared)(mg mb:Str->Option Value)(fa:Addr)(o:Obj)(pm cd aa:Value)(a:Addr)(vs:List Value)(ns:List Int),Ground q Z [] XP w s₀ mg mb J.heap->YP w J.heap->J.heap.get? fa=some o->o.data=.func (docDef d.name d.params d.body d.scope pm cd aa)->J.heap.CodeRec cd d.name->mg d.name=some (.ref fa)->J.heap.get? a=some {cls:=.type "list",data:=.seq vs.toArray}→IntsAre vs ns→ns.length≤n→J.gens=#[]→codeAny (model l.prog w) callerA (.call (.ref fa) ⟨[.ref a],[]⟩) (λ r s'=>r=.ok (.ret (.bool true))/\OldK J.heap s'.heap/\s'.os=J.os/\AllBare s'.gens) J):WalkO q Z XP YP l.row.toRowW d [] (λ f vs=>PySem.call f vs):=by
 intro w s₀ J mg mb G Y fa o pm cd aa m kV x hd j b k u args z D h A C i B;obtain rfl:m=.none:=Dflts.none b ai;obtain rfl:kV=.none:=Dflts.noKw b;obtain⟨a,vs,ns,rfl,rfl,e,c,g⟩:=PF hn h i;refine enter_call (Qs (call w s₀ J mg mb fa o pm cd aa a vs ns G Y x (fd_plain hd) j k e c g u) λ r s' y=>?_);obtain⟨rfl,p,s,t⟩:=y;exact i1 (.inl ⟨.bool true,.bool true,[],rfl,λ _=>rfl,.bool true,PQ l _,λ _=>⟨Ja,λ _ v=>(nomatch v)⟩⟩) p s t
end Att
namespace L2
open PySem PySem.Spec PyProof.Rows
theorem d0:∀{vs:List Value}{ns:List Int},IntsAre vs ns->aQ (ns.map V.int) vs
 |_,_,.nil=>.nil
 |_,_,.cons n t h=>.cons ⟨t,rfl⟩ (d0 h)
def AQ(H:Hp):Prop:=∀b,H b=none\/∃o xs,H b=some (.frz o (.lst xs))
theorem Ni{K:Frag}(KX:K.In J.heap)(aj:J.heap.Ns mainGlobals mg)(Z:J.heap.Ns builtinsNs mb)(am:∀x:Str,x≠"__name__"→mb x=bootBuiltins x)(ai:J.heap.NoLimit)(hg:J.gens=#[])(ha:J.heap.get? a=some {cls:=.type "list",data:=.seq vs.toArray})(hi:IntsAre vs ns)(hl:ns.length≤sizeLine)(hr:bJ k callerA)(F:∀base:Heap,K.In base->base.Ns mainGlobals mg->cB P w K mg base CX k fa fd [x] sp)(ae:∀(s:Shared)(u:Value),BindsTo s fd ⟨[u],[]⟩ [(x,u)])(ap:∀H:Hp,AQ H->c7 K H a (ns.map V.int)->sp [.ref a] H (λ v _=>v=.bl true) λ _ _ _=>False)(ao:∀H e s',CX [] H J (λ _ _ _=>False) e s'->False):codeAny (model P w) callerA (.call (.ref fa) ⟨[.ref a],[]⟩) (λ r s'=>r=.ok (.ret (.bool true))/\OldK J.heap s'.heap/\s'.os=J.os/\AllBare s'.gens) J:=by
 have N:=d0 hi;have R:=hi.length;have i:∀H:Hp,AQ H->c7 K H a (ns.map V.int)->dU P w H J.heap->(∀b,H b≠none->b=a)->(H a≠none->K.lookup a=none)->codeAny (model P w) callerA (.call (.ref fa) ⟨[.ref a],[]⟩) (λ r s'=>r=.ok (.ret (.bool true))/\OldK J.heap s'.heap/\s'.os=J.os/\AllBare s'.gens) J:=by
  intro H p I j E S;have Y:∀{b:Addr}{o:Obj},J.heap.get? b=some o->H b=none->(l9 J.heap H).get? b=some o:=λ e n=>Nm e n;have A:∀{b:Addr}{o:Obj}{es:Array DictEntry}{f:Nat},J.heap.get? b=some o->o.data=.dict es f->H b=none:=λ{b o es f}e d=>by
   cases q:H b with
   |none=>rfl
   |some u=>
    have C:=E b (by rw[q];simp);subst C;rw[ha]at e;obtain rfl:=br e;have B:=d;simp at B
  have c:∀{b:Addr}{m:Str->Option Value},J.heap.Ns b m->(l9 J.heap H).Ns b m:=λ{b m}⟨o,es,f,e,d,r⟩=>⟨o,es,f,Y e (A e d),d,r⟩
  have l:=λ b o e=>Y (KX b o e) (by
grind)
  have G:Mod K mg (l9 J.heap H):=⟨l,c aj,⟨mb,c Z,am⟩,let ⟨mc,h1,h2⟩:=ai;⟨mc,c h1,h2⟩⟩;have e0:fB P w K mg (l9 J.heap H) callerA [] J H:=⟨rfl,G,λ b o e=>R0 e,Nat.le_of_eq (Mw _ _),trivial,λ b Z=>absurd (show b∈([]:List Addr)from Z) (by simp),j,.of_eq hg⟩;refine Qs ((F _ l (c aj)).run callerA [] J H ⟨[.ref a],[]⟩ [.ref a] [.ref a] _ _ hr e0 (ae J (.ref a)) (.cons rfl .nil) (ap H p I)) λ r s' h=>?_;cases r with
  |error e=>exact(ao H e s' h).elim
  |ok D=>
   cases D with
   |next=>exact False.elim h
   |brk=>exact False.elim h
   |cont=>exact False.elim h
   |ret u=>
    obtain⟨v,H',os,y,un,t,M,q⟩:=h;have σ:=q;subst σ;obtain rfl:u=Value.bool true:=M;refine i1 rfl (OldK.of_keep λ b o e=>?_) os y;cases q:H b with
    |none=>exact un.keep b o e q (by intro z;exact absurd (show b∈([]:List Addr)from z) (by simp)) (by simp)
    |some u=>
     rcases p b with z|⟨ob,xs,z⟩
     .rw[q]at z;simp at z
     .have Q:=un.frzs b ob _ z;obtain⟨e1,_⟩:=j b _ z;obtain⟨e2,_⟩:=t b _ Q;grind
 cases g:K.lookup a with
 |some o=>
  have e:=KX a o g;rw[ha]at e;obtain rfl:=br e;refine i (λ _=>none) (λ _=>.inl rfl) (.inr ⟨_,vs.toArray,_,g,rfl,rfl,rfl,by grind⟩) (λ b u z=>by grind) (λ b z=>absurd rfl z) λ z=>absurd rfl z
 |none=>
  refine i (λ b=>if b=a then some (.frz {cls:=.type "list",data:=.seq vs.toArray} (.lst (ns.map V.int)))else none) (λ b=>?_) (.inl (.inr ⟨{cls:=.type "list",data:=.seq vs.toArray},if_pos rfl⟩)) (λ b u z=>?_) (λ b z=>?_) λ _=>g
  .grind
  .by_cases Z:b=a
   .have O:=(if_pos Z).symm.trans z;obtain rfl:=br O;subst Z;exact⟨ha,by rw[qw];exact hl,vs,_,N,ha⟩
   .grind
  .grind
theorem walk_of{l:OpenLaw}{K:Params->Frag}{CX:World->mR}{sp:World->Sp}(hn:l.most=some n)(ag:n<=sizeLine)(af:d.params.defaults=[])(hr:bJ k callerA)(hY:∀(w:World)(h:Heap),YP w h->(K w.params).In h)(F:∀(w:World)(mg:Str->Option Value)(fa:Addr)(h:Heap),(K w.params).In h->h.Ns mainGlobals mg->mg d.name=some (.ref fa)->∃fd:FuncData,(∀(s:Shared)(u:Value),BindsTo s fd ⟨[u],[]⟩ [(x,u)])/\∀base:Heap,(K w.params).In base->base.Ns mainGlobals mg->cB l.prog w (K w.params) mg base (CX w) k fa fd [x] (sp w))(aj:∀(w:World)(H:Hp)(a:Addr)(ns:List Int),ns.length<=n->AQ H->c7 (K w.params) H a (ns.map V.int)->sp w [.ref a] H (λ v _=>v=.bl true) λ _ _ _=>False)(ah:∀(w:World)(H:Hp)(s:Shared)(e:Value)(s':Shared),CX w [] H s (λ _ _ _=>False) e s'->False):PySem.W.WalkO q aa XP YP l.row.toRowW d [] (λ f vs=>PySem.call f vs):=by
 refine Att.attach_call hn af λ w i m mg I fa o σ D B a vs ns G Y E hd C p j Z J A=>?_;have c:=hY w _ Y;obtain⟨fd,z,r⟩:=F w mg fa _ c G.T.g p;exact Ni c G.T.g G.T.b G.T.builtins G.T.nolimit A j Z (zc J ag) hr r z (λ H t y=>aj w H a ns J t y) λ H e s'=>ah w H m e s'
noncomputable def mO(s:Stmt):Arguments:=match s with
 |.FunctionDef _ a _ _ _ _ _ _ _ _=>a
 |_=>{posonlyargs:=[],args:=[],vararg:=none,kwonlyargs:=[],kw_defaults:=[],kwarg:=none,defaults:=[]}
noncomputable def fZ(s:Stmt):List Stmt:=match s with
 |.FunctionDef _ _ b _ _ _ _ _ _ _=>b
 |_=>[]
noncomputable def aX(s:Stmt):Scope:=match s with
 |.FunctionDef _ _ _ _ _ _ sc _ _ _=>sc
 |_=>{kind:=.function,names:=[],isGenerator:=false,isCoroutine:=false}
abbrev ft:mR:=λ _ _ _ _ _ _=>False
abbrev E0:XK:=λ _ _ _=>False
theorem oX:cZ ft X E0:=λ _ _ _ _ _ _ _ h=>h.elim
structure ic(K:Frag)(x qual:Str)(st:Stmt)(f:Addr)(fd:FuncData):Prop where
 ex:∃(oc:Value)(od:Option Addr)(kV doc pm:Value)(an:Option Addr)(cdv ct:Value)(osl:Array (Option Value)),fd=fnOf x qual (mO st) (fZ st) (aX st) .none kV doc pm an cdv ct/\K.lookup f=some ⟨oc,od,.func fd,osl⟩/\codeIn K cdv qual=true
 kp:keepIn K (.ref f)=true
section
variable{K:Frag}
theorem ic.ok{st:Stmt}(F:ic K x qual st f fd)(S:aG N ps (aX st))(len:∀vs H Q E,sp vs H Q E->vs.length=ps.length)(Y:∀(J:Value)(A:Around)(outer:List Env)(s:Shared)(H:Hp)(vs:List V)(Q:VK)(E:XK),bJ k (A.deeper (envOfC qual (aX st) s.heap.objs.size f J))->sp vs H Q E->∃t,d8 (fS ft P w K mg base N qual (aX st) f J A outer s H E).nox (fZ st) t/\t {nx:=λ _ H'=>Q .non H',rt:=Q} (start N vs) H):cB P w K mg base ft (k+1) f fd ps sp:=by
 obtain⟨j,l,kV,e,m,g,J,i,d,rfl,c,a⟩:=F.ex;refine AX c a S len λ A outer s H vs Q E b Z=>?_;obtain⟨t,h,q⟩:=Y J A outer s H vs Q E b Z;exact⟨t,h.nox,q⟩
theorem ic.binds{st:Stmt}(F:ic K x qual st f fd)(h:∀(kV J Y:Value)(Z:Option Addr)(q ct:Value)(us:List Value),us.length=ps.length->bindArgs (fnOf x qual (mO st) (fZ st) (aX st) .none kV J Y Z q ct) ⟨us,[]⟩=pure (ps.zip us)):cV K fd ps []:=by
 obtain⟨d,e,kV,J,Y,Z,q,ct,a,rfl,c,b⟩:=F.ex;exact .all (h kV J Y Z q ct)
theorem BN{st:Stmt}{kV J Z q ct:Value}(l:K.lookup f=some ⟨oc,od,.func (fnOf x qual (mO st) (fZ st) (aX st) .none kV J Z an q ct),Y⟩)(c:codeIn K q qual=true)(k:keepIn K (.ref f)=true):ic K x qual st f (fnOf x qual (mO st) (fZ st) (aX st) .none kV J Z an q ct):=⟨⟨oc,od,kV,J,Z,an,q,ct,Y,rfl,l,c⟩,k⟩
end
theorem gc(q:bJ k A):A.units+1<cLine:=jz (Nat.add_le_add_left (by decide:1<=64) _) q.units
theorem wW(h:n<=1000):n<sizeLine:=jz h (by decide)
section
theorem pv(i:Nat)(Y:X.N[i]?=some x:=by rfl)(J:fh X.env.scope x:=by first|exact Or.inl rfl|exact Or.inr (Or.inl rfl)|exact Or.inr (Or.inr rfl))(hd:cH x:=by decide)(q:er x:=by decide):PE X (.Name x pos) (Hn i):=eI Y J hd q
end
def aD(H H':Hp):Prop:=∀b o,H b=some o->H' b=some o
theorem aD.refl(H:Hp):aD H H:=λ _ _ h=>h
theorem aD.trans(a:aD H H1)(b:aD H1 H2):aD H H2:=λ c o h=>b c o (a c o h)
theorem aD.free(e:aD H H')(h:H' l=Option.none):H l=Option.none:=by
 cases q:H l with
 |none=>rfl
 |some o=>
  rw[e l o q]at h;simp at h
theorem aD.seq{K:Frag}(e:aD H H')(h:c7 K H a xs):c7 K H' a xs:=by
 rcases h with(h|⟨o,h⟩)|h
 .exact .inl (.inl (e _ _ h))
 .exact .inl (.inr ⟨o,e _ _ h⟩)
 .exact .inr h
section
variable[DecidableEq κ]
noncomputable def fC(aH:List (κ×V))(k:κ):Option V:=(aH.find? λ q=>decide (q.1=k)).map (·.2)
noncomputable def fP(aH:List (κ×V))(k:κ)(v:V):List (κ×V):=
 if(aH.any λ q=>decide (q.1=k))=true then aH.map (λ q=>if q.1=k then(q.1,v)else q)else aH++[(k,v)]
theorem wR{k:κ}(e:p.1=k):fC (p::r) k=some p.2:=by simp[fC,e]
theorem tP{k:κ}(e:¬p.1=k):fC (p::r) k=fC r k:=by simp[fC,e]
theorem tQ(k:κ):∀aH:List (κ×V),(aH.any λ q=>decide (q.1=k))=(fC aH k).isSome
 |[]=>rfl
 |p::r=>by
  rw[Q0];by_cases e:p.1=k
  .simp only[wR e,zm e,Bool.true_or,Option.isSome_some]
  .rw[tP e,jg e,Bool.false_or];exact tQ k r
theorem CM(aH:List (κ×V))(k:κ)(v:V):(fP aH k v).length<=aH.length+1:=by grind[fP]
theorem Eu{k:κ}(v:V)(h:fC aH k=none):fP aH k v=aH++[(k,v)]:=by grind[fP,tQ]
theorem dP.isSome_eq(r:dP o u):o.isSome=u.isSome:=by
 cases o with
 |none=>cases u with
  |none=>rfl
  |some _=>exact(show False from r).elim
 |some _=>cases u with
  |none=>exact(show False from r).elim
  |some _=>rfl
theorem dP.getD(r:dP o u)(rd:aU d d'):aU (o.getD d) (u.getD d'):=by
 cases o with
 |none=>cases u with
  |none=>exact rd
  |some _=>exact(show False from r).elim
 |some _=>cases u with
  |none=>exact(show False from r).elim
  |some _=>exact r
theorem KV.val(r:KV aH vs)(k:κ):dP (fC aH k) (valueAt vs k):=by
 induction r with
 |nil=>exact Qk
 |@cons p q ps J h t Z=>
  obtain⟨a,c⟩:=h;by_cases e:p.1=k
  .have Y:=a.symm.trans e;have b:valueAt (q::J) k=some q.2:=by simp[valueAt,Y]
   rw[wR e,b];exact c
  .have Y:¬q.1=k:=λ z=>e (a.trans z);have b:valueAt (q::J) k=valueAt J k:=by simp[valueAt,Y]
   rw[tP e,b];exact Z
theorem KV.any(r:KV aH vs)(k:κ):(aH.any λ q=>decide (q.1=k))=vs.any λ q=>decide (q.1=k):=by
 induction r with
 |nil=>rfl
 |cons h t J=>rw[Q0,Q0,J,h.1]
theorem KV.repl(r:KV aH vs)(k:κ)(Y:aU y u):KV (aH.map λ J=>if J.1=k then(J.1,y)else J) (vs.map λ J=>if J.1=k then(J.1,u)else J):=by
 induction r with
 |nil=>exact .nil
 |@cons p q ps a h t Z=>
  rw[qx,qx];refine .cons ?_ Z;grind
theorem KV.put(r:KV aH vs)(k:κ)(q:aU y u):KV (fP aH k y) (stored vs k u):=by
 unfold fP stored;rw[r.any k];by_cases e:(vs.any λ J=>decide (J.1=k))=true
 .rw[if_pos e,if_pos e];exact r.repl k q
 .rw[if_neg e,if_neg e];exact Paired.snoc r ⟨rfl,q⟩
theorem KV.keys{aH:List (κ×V)}(r:KV aH vs):aH.map (·.1)=vs.map (·.1):=by
 induction r with
 |nil=>rfl
 |cons h t q=>rw[qx,qx,q,h.1]
theorem KV.length(r:KV aH vs):aH.length=vs.length:=Yy r
end
theorem m9(r:aU (kV k) u):(fm P w).is k u=true:=by
 cases k with
 |inl i=>obtain⟨t,e⟩:=(show ∃t,u=Value.int i t from r);subst e;exact OG P w i t
 |inr x=>obtain⟨t,e⟩:=(show ∃t,u=Value.str x t from r);subst e;exact OF P w x t
theorem D1:∀{q:List Key}{us:List Value},aQ (q.map kV) us->ItemsAre (fm P w) q us
 |[],_,r=>by rw[yg]at r;cases r;exact .nil
 |k::q,_,r=>by
  rw[qx]at r;cases r with
  |cons h t=>exact .cons (m9 h) (D1 t)
abbrev KT(H:Hp):List (List Key×V)->List (List Key×Addr×Value)->Prop:=Paired λ p q=>p.1=q.1/\H q.2.1=some (.tup (p.1.map kV))/\aU p.2 q.2.2
theorem KT.val(r:KT H aH xs)(k:List Key):dP (fC aH k) ((atKey xs k).map (·.2)):=by
 induction r with
 |nil=>exact Qk
 |@cons p q ps J h t Z=>
  obtain⟨a,_,c⟩:=h;by_cases e:p.1=k
  .have Y:=a.symm.trans e;have b:atKey (q::J) k=some q.2:=by simp[atKey,Y]
   rw[wR e,b];exact c
  .have Y:¬q.1=k:=λ z=>e (a.trans z);have b:atKey (q::J) k=atKey J k:=by simp[atKey,Y]
   rw[tP e,b];exact Z
theorem KT.repl(r:KT H aH xs)(k:List Key)(Z:aU y u):KT H (aH.map λ J=>if J.1=k then(J.1,y)else J) (xs.map (putAt k u)):=by
 induction r with
 |nil=>exact .nil
 |@cons p q ps d h t c=>
  rw[qx,qx];refine .cons ?_ c;obtain⟨a,b,Y⟩:=h;unfold putAt;by_cases e:p.1=k
  .rw[if_pos e,if_pos (a.symm.trans e)];exact⟨a,b,Z⟩
  .rw[if_neg e,if_neg (λ z=>e (a.trans z))];exact⟨a,b,Y⟩
theorem KT.put(r:KT H aH xs)(k:List Key)(Z:H b=some (.tup (k.map kV)))(J:aU y u):KT H (fP aH k y) (storedH xs k b u):=by
 have e:(aH.any λ Y=>decide (Y.1=k))=(atKey xs k).isSome:=by rw[tQ,(r.val k).isSome_eq,Option.isSome_map]
 unfold fP storedH;rw[e];by_cases q:(atKey xs k).isSome=true
 .rw[if_pos q,if_pos q];exact r.repl k J
 .rw[if_neg q,if_neg q];exact Paired.snoc r ⟨rfl,Z,J⟩
theorem KT.keeps(r:KT H aH xs)(q:∀b ys,H b=some (.tup ys)->H' b=some (.tup ys)):KT H' aH xs:=
 Paired.mapP r λ _ _ z=>⟨z.1,q _ _ z.2.1,z.2.2⟩
section
theorem Ie(ok:dU P w H h)(e:Rd H a u):aZ P w H h a u:=e.ok ok
theorem oZ(ok:dU P w H h)(e:Rd H a (.dK aH)):aH.length<=sizeLine/\(a==sysModules)=false/\∃vs,KV aH vs/\h.DictOf (fm P w) a vs:=
 show aZ P w H h a (.dK aH)from Ie ok e
theorem IK(ok:dU P w H h)(e:H a=some (.dK aH)):aH.length<=sizeLine/\(a==sysModules)=false/\∃vs,KV aH vs/\h.DictOf (fm P w) a vs:=oZ ok (.inl e)
theorem rZ(ok:dU P w H h)(e:H a=some (.tup (q.map kV))):(tupleKind (fm P w)).is h q a:=by obtain⟨_,J,r,o,b,c,⟨n,Y⟩,_⟩:=(show aZ P w H h a (.tup (q.map kV))from ok a _ e);exact⟨o,J.toArray,n,b,c,Y,by simpa using D1 r⟩
theorem oY(ok:dU P w H h)(e:Rd H a (.dT aH)):aH.length<=sizeLine/\(a==sysModules)=false/\∃xs,KT H aH xs/\h.DictOfH (tupleKind (fm P w)) a xs:=by
 obtain⟨z,y,xs,r,o,es,b,c,d,Y,f,g⟩:=(show aZ P w H h a (.dT aH)from Ie ok e);refine⟨z,y,xs,r,o,es,b,c,d,Y,f,λ x hx=>?_,g⟩;have all:∀{l:List (List Key×V)}{m:List (List Key×Addr×Value)},KT H l m->∀x∈m,(tupleKind (fm P w)).is h x.1 x.2.1:=by
  intro l m q;induction q with
  |nil=>intro x hx;exact nomatch hx
  |@cons p q ps i J t Z=>
   intro x hx;rcases qt hx with e|hx
   .subst e;exact rZ ok (by rw[<-J.1];exact J.2.1)
   .exact Z x hx
 exact all r x hx
theorem Ro(ok:dU P w H h)(e:H a=some (.dT aH)):aH.length<=sizeLine/\(a==sysModules)=false/\∃xs,KT H aH xs/\h.DictOfH (tupleKind (fm P w)) a xs:=oY ok (.inl e)
end
def d4(H:Hp)(a:Addr)(y:V)(r:Option V):Prop:=
 (∃aH k,Rd H a (.dK aH)/\y=kV k/\r=fC aH k)\/∃aH k b,Rd H a (.dT aH)/\y=.ref b/\H b=some (.tup (k.map kV))/\r=fC aH k
def gM(H:Hp)(a:Addr)(y v:V)(H':Hp):Prop:=
 (∃aH k,H a=some (.dK aH)/\y=kV k/\aH.length<sizeLine/\H'=upd H a (.dK (fP aH k v)))\/
 ∃aH k b,H a=some (.dT aH)/\y=.ref b/\H b=some (.tup (k.map kV))/\aH.length<sizeLine/\H'=upd H a (.dT (fP aH k v))
theorem d4.k{H:Hp}{a:Addr}{aH:List (Key×V)}{k:Key}(e:H a=some (.dK aH)):d4 H a (kV k) (fC aH k):=.inl ⟨aH,k,.inl e,rfl,rfl⟩
theorem d4.t{k:List Key}(e:H a=some (.dT aH))(q:H b=some (.tup (k.map kV))):d4 H a (.ref b) (fC aH k):=.inr ⟨aH,k,b,.inl e,rfl,q,rfl⟩
theorem gM.k{H:Hp}{a:Addr}{aH:List (Key×V)}{k:Key}{v:V}(e:H a=some (.dK aH))(q:aH.length<sizeLine):gM H a (kV k) v (upd H a (.dK (fP aH k v))):=.inl ⟨aH,k,e,rfl,q,rfl⟩
theorem gM.t{k:List Key}(e:H a=some (.dT aH))(q:H b=some (.tup (k.map kV)))(J:aH.length<sizeLine):gM H a (.ref b) v (upd H a (.dT (fP aH k v))):=.inr ⟨aH,k,b,e,rfl,q,J,rfl⟩
section
variable{X:Cx}{aA:List (Addr×Obj)}{L:St}{H:Hp}{s:Shared}{a:Addr}{y v:V}{u r:Value}{o:Option V}{A:Around}{E:Value->Shared->Prop}
theorem aI.big(I:aI X aA L H s):sysModules<s.heap.objs.size:=by have h:=(I.mod.glob.keeps I.bk).lt;exact Nat.lt_trans (by decide) h
theorem MD(hu:A.units+1<cLine)(I:aI X aA L H s)(g:d4 H a y (some v))(ry:aU y u)(h:∀Y s',aI X aA L H s'->aU v Y->Q Y s'):wpAny (model X.prog X.w) A (getItem (.ref a) u) Q E s:=by
 rcases g with⟨aH,k,e,c,l⟩|⟨aH,k,b,e,c,f,l⟩
 .subst c;obtain⟨z,hd,j,J,dd⟩:=oZ I.hok e;obtain⟨Y,d,q⟩:=dP.some_of (by rw[l];exact J.val k);exact wpAny_getItem_of (m9 ry) dd.mapOf d (h Y _ (I.tok _) q)
 .subst c;cases(show u=Value.ref b from ry);obtain⟨z,hd,xs,J,dd⟩:=oY I.hok e;obtain⟨Y,d,q⟩:=dP.some_of (by rw[l];exact J.val k);obtain⟨p,i,Z⟩:=Option.map_eq_some_iff.mp d;refine wpAny_getItem_heap (Zs hu) (rZ I.hok f) dd i ?_;rw[Z];exact h Y _ (I.tok _) q
theorem Sy(Z:A.units+1<cLine)(I:aI X aA L H s)(g:d4 H a y o)(Y:aU y u)(h:∀s',aI X aA L H s'->Q (.bool (!o.isSome)) s'):wpAny (model X.prog X.w) A (compareOp .NotIn u (.ref a)) Q E s:=by
 rcases g with⟨aH,k,e,c,l⟩|⟨aH,k,b,e,c,d,l⟩
 .subst c;obtain⟨z,hd,f,J,dd⟩:=oZ I.hok e;refine wpAny_notIn_of (m9 Y) hd dd.mapOf ?_;rw[<-(J.val k).isSome_eq,<-l];exact h _ (I.tok _)
 .subst c;cases(show u=Value.ref b from Y);obtain⟨z,hd,xs,J,dd⟩:=oY I.hok e;refine wpAny_notIn_heap (Zs Z) (rZ I.hok d) hd dd ?_;have q:=(J.val k).isSome_eq;rw[Option.isSome_map]at q;rw[<-q,<-l];exact h _ (I.tok _)
theorem zM(I:aI X aA L H s)(mu:q_ (H a))(Y:Heap.SameBut a s.heap h')(J:∃q,h'.get? a=some q)(new:aZ X.prog X.w (upd H a ob) h' a ob):aI X aA L (upd H a ob) {s with heap:=h',toks:=t'}:=
 I.write mu (.inl rfl) (λ b q Z z=>(Y.2 b Z).trans z) J new
theorem uO(z:aH.length<=sizeLine)(hd:(a==sysModules)=false)(q:KV aH vs)(dd:h'.DictOf (fm P w) a vs):aZ P w H' h' a (.dK aH):=⟨z,hd,vs,q,dd⟩
theorem MC(hu:A.units+1<cLine)(I:aI X aA L H s)(g:gM H a y v H')(ry:aU y u)(rv:aU v r)(h:∀s',aI X aA L H' s'->Q () s'):wpAny (model X.prog X.w) A (setItem (.ref a) u r) Q E s:=by
 rcases g with⟨aH,k,e,f,l,d⟩|⟨aH,k,b,e,f,m,l,d⟩
 .subst f d;obtain⟨z,hd,F,J,dd⟩:=IK I.hok e;have D:F.length<=sizeLine:=by rw[<-J.length];exact z
  have i:(fP aH k v).length<=sizeLine:=by have:=CM aH k v;lia
  refine wpAny_setItem_pairs (m9 ry) dd λ h' Y j=>h _ ?_;have C:∃q,h'.get? a=some q:=let ⟨q,_,_,Z,_⟩:=Y;⟨q,Z⟩;exact zM I (by rw[e];exact Qk) j C (uO i hd (J.put k rv) Y)
 .subst f d;cases(show u=Value.ref b from ry);obtain⟨z,hd,xs,J,dd⟩:=Ro I.hok e;have D:xs.length<=sizeLine:=by rw[<-Yy J];exact z
  have i:(fP aH k v).length<=sizeLine:=by have:=CM aH k v;lia
  refine wpAny_setItem_heap (Zs hu) (rZ I.hok m) dd λ h' Y j=>h _ ?_;obtain⟨q,es,o,Z,p,t,x,_,B⟩:=Y;refine zM I (by rw[e];exact Qk) j ⟨q,Z⟩ ⟨i,hd,_,(J.put k m rv).keeps λ c ys n=>?_,q,es,o,Z,p,t,x,B⟩;rw[a_ (ne_of n e (λ z=>nomatch z))];exact n
end
def sh(i:Expr):Prop:=∀q J,subscripted i false q J=operate [q,J] (getItem q J)
theorem NW{T id:String}(hl:typeLookup (.type T) "__getitem__"=pure (some (.builtin id)))(hs:sh q)(h:wpAny (model prog w) A (eval value env) (λ o Z=>wpAny (model prog w) A (eval q env) (λ i J=>J.TypeIs o T/\wpAny (model prog w) A (getItem o i) Q E J) E Z) E s):wpAny (model prog w) A (eval (.Subscript value q pos) env) Q E s:=by
 refine Subscript_ (zy h (λ o Z d=>zy d (λ i J Y=>?_) λ _ _ x=>x) λ _ _ x=>x);obtain⟨b,Y⟩:=Y;refine qb ?_;rw[getitemInPython_of_ne b.not_modules];refine qb (wpAny_specialOf b hl ?_);have fin:wpAny (model prog w) A (subscripted q false o i) (λ r a=>wpAny (model prog w) A (letTemporaryGo value o r >>= λ _=>pure r) Q E a) E J:=by rw[hs o i];exact wpAny_operating (zy Y (λ r a c=>qb (wpAny_letTemporaryGo (qc c))) λ _ _ x=>x)
 first
  |exact qc (qb fin)
  |exact qb (qc (qb fin))
  |exact qb fin
theorem OR(I:aI X aA L H s)(g:d4 H a y o):s.TypeIs (.ref a) "dict":=by
 rcases g with⟨aH,k,e,_,_⟩|⟨aH,k,b,e,_,_,_⟩
 .obtain⟨_,_,c,_,dd⟩:=oZ I.hok e;exact dd.typeIs
 .obtain⟨_,_,xs,_,dd⟩:=oY I.hok e;exact dd.typeIs
def QK(td ty:TE):TE:=λ L H Q=>td L H λ x H1=>ty L H1 λ y H2=>∃a v,x=.ref a/\d4 H2 a y (some v)/\Q v H2
def QR(td ty tv:TE):TS:=λ D L H=>tv L H λ v H1=>td L H1 λ x H2=>ty L H2 λ y J=>∃a q,x=.ref a/\gM J a y v q/\D.nx L q
section
theorem vj(hu:X.A.units+1<cLine)(ho:PE X o td)(hi:PE X i ty)(hs:sh i):PE X (.Subscript o i pos) (QK td ty):=by intro aA s L H Q I h;refine NW PySem.F.slot_dict_getitem.lookup hs (bN (ho aA s L H _ I h) λ u l⟨x,H1,c,j,Z⟩=>bN (hi aA l L H1 _ c Z) λ m n q=>?_);obtain⟨y,b,Y,k,a,v,e,g,f⟩:=q;subst e;obtain rfl:u=Value.ref a:=j;exact⟨OR Y g,MD hu Y g k λ r p d J=>⟨v,b,d,J,f⟩⟩
theorem Fj(Y:X.A.units+1<cLine)(ho:PE X o td)(hi:PE X i ty)(hv:PE X value tv)(hs:swapsWith value (some (.Subscript o i pos')) pos.line X.env=pure false):PS X (.Assign [.Subscript o i pos'] value pos) (QR td ty tv):=by
 intro aA s L H D I h;refine wpAny_Assign_Subscript (bN (hv aA s L H _ I h) λ r t⟨v,H1,d,n,J⟩=>bN (ho aA t L H1 _ d J) λ u w⟨x,b,e,Z,l⟩=>bN (hi aA w L b _ e l) λ B C q=>?_) hs;obtain⟨y,z,f,p,a,c,k,g,m⟩:=q;subst k;obtain rfl:u=Value.ref a:=Z;exact MC Y f g p n λ E j=>⟨L,c,j,m⟩
end
theorem Ey(h:Heap)(q:sysModules<h.objs.size):aZ P w H (h.push {cls:=.type "dict",data:=.dict #[]}) h.objs.size (.dK []):=
 ⟨ye _,beq_eq_false_iff_ne.mpr (zt (qr q)),[],.nil,Heap.DictOf.new h⟩
def VD:TE:=λ _ H Q=>∀p,H p=none->Q (.ref p) (upd H p (.dK []))
section
variable{X:Cx}{pos:Pos}
theorem Vd:PE X (.Dict [] [] pos) VD:=λ aA s L H Q I h=>
 wpAny_Dict_empty ⟨.ref s.heap.objs.size,_,I.laid (a:=s.heap.objs.size) (o:=.dK []) (t':=s.toks) (λ _ _ q=>qd _ q) (qj _) (Ey s.heap I.big),rfl,h _ (I.hok.fresh (qj _))⟩
end
def u_:List (TE×TE)->St->Hp->(List (V×V)->Hp->Prop)->Prop
 |[],_,H,Q=>Q [] H
 |(tk,tv)::r,L,H,Q=>tk L H λ x H1=>tv L H1 λ y H2=>u_ r L H2 λ ps q=>Q ((x,y)::ps) q
abbrev VV:List (V×V)->List (Value×Value)->Prop:=Paired λ p q=>aU p.1 q.1/\aU p.2 q.2
def rj(X:Cx)(pos:Pos)(keys:List (Option Expr))(q:List Expr)(J:List (TE×TE)):Prop:=
 ∀(aA:List (Addr×Obj))(s:Shared)(L:St)(H:Hp)(Q:List (V×V)->Hp->Prop),aI X aA L H s->u_ J L H Q->wpAny (model X.prog X.w) X.A (evalPairs (pairTrees keys q X.env pos)) (λ vs s'=>∃ps H',aI X aA L H' s'/\VV ps vs/\Q ps H') X.xe s
theorem N8:rj X pos [] [] []:=λ aA s L H Q I h=>pairTrees_nil_walk ⟨[],H,I,.nil,h⟩
theorem M6(hk:PE X k tk)(hv:PE X v tv)(hr:rj X pos Y vs q):rj X pos (some k::Y) (v::vs) ((tk,tv)::q):=λ aA s L H Q I h=>
 pairTrees_cons_walk (bN (hk aA s L H _ I h) λ u l⟨x,H1,c,i,Z⟩=>bN (hv aA l L H1 _ c Z) λ o m⟨y,a,d,j,f⟩=>
  bN (hr aA m L a _ d f) λ p n⟨ps,b,e,J,g⟩=>⟨(x,y)::ps,b,e,.cons ⟨i,j⟩ J,g⟩)
def lS(aH q:List (Key×V)):List (Key×V):=q.foldl (λ aY J=>fP aY J.1 J.2) aH
theorem KV.merge:∀{J:List (Key×V)}{Y:List (Key×Value)}{aH:List (Key×V)}{vs:List (Key×Value)},KV J Y->KV aH vs->KV (lS aH J) (merged vs Y):=by
 intro J Y aH vs r;induction r generalizing aH vs with
 |nil=>intro q;exact q
 |@cons p q ps b h t Z=>
  intro a;have e:KV (fP aH p.1 p.2) (stored vs q.1 q.2):=by have:=a.put p.1 h.2;rw[<-h.1];exact this
  exact Z e
theorem WS:∀(q aH:List (Key×V)),(lS aH q).length<=aH.length+q.length:=by intro a;induction a<;>grind[CM,lS]
theorem Dx:∀{aH:List (Key×V)}{Z:List (Value×Value)},VV (aH.map λ Y=>(kV Y.1,Y.2)) Z->∃J,Carries (fm P w) Z J/\KV aH J
 |[],_,r=>by rw[yg]at r;cases r;exact⟨[],Qk,.nil⟩
 |p::aH,_,r=>by
  rw[qx]at r;cases r with
  |@cons a b e bs h t=>
   obtain⟨J,c,q⟩:=Dx t;obtain⟨f,d⟩:=b;exact⟨(p.1,d)::J,⟨m9 h.1,rfl,c⟩,.cons ⟨rfl,h.2⟩ q⟩
def QJ(q:List (TE×TE)):TE:=λ L H Q=>∀p,H p=none->u_ q L (upd H p (.dK [])) λ ps H2=>H2 p=some (.dK [])/\∃aH:List (Key×V),ps=aH.map (λ J=>(kV J.1,J.2))/\aH.length<=15/\Q (.ref p) (upd H2 p (.dK (lS [] aH)))
theorem Od(h:rj X pos keys J aa)(ac:keys.all (·.isSome)=true)(hl:keys.length=J.length)(h0:keys≠[])(ae:keys.length<=15):PE X (.Dict keys J pos) (QJ aa):=by
 intro aA s L H Q I q;have j:=I.hok.fresh (qj s.heap.objs.size);have b:=I.laid (t':=s.toks) (λ _ _ q=>qd _ q) (qj _) (Ey s.heap I.big);refine wpAny_Dict_walk (knd:=fm X.prog X.w) ac hl h0 ae (bN (h aA _ L _ _ b (q _ j)) λ x v Y=>?_);obtain⟨ps,r,a,d,e,aH,f,u,m⟩:=Y;subst f;obtain⟨p,c,o⟩:=Dx d;obtain⟨z,hd,t,n,dd⟩:=IK a.hok e;cases n;refine cN p c dd λ h' Z k=>⟨.ref s.heap.objs.size,_,?_,rfl,m⟩
 have l:(lS [] aH).length<=sizeLine:=by have g:=WS aH [];rw[yx]at g;rw[jy];lia
 have i:∃q,h'.get? s.heap.objs.size=some q:=let ⟨q,_,_,hq,_⟩:=Z;⟨q,hq⟩;exact zM a (by rw[e];exact Qk) k i (uO l hd (o.merge .nil) Z)
structure M2(X:Cx)(o:Expr)(m:Str)(apos:Pos)(e f:Expr)(cpos:Pos):Prop where
 base:attributeBase o m X.env (eval o X.env)=eval o X.env
 few:((backTo cpos (starEach [e,f] X.env)).all (λ x=>!x.1)&&(backToKw cpos (keywordEach [] X.env)).all (λ x=>x.1.isSome)
  &&decide (([e,f]:List Expr).length+([]:List Keyword).length+(if([]:List Keyword).isEmpty then 0 else 1)<30))=true
 line:(apos.endLine==cpos.line)=true
 trees:backTo cpos (starEach [e,f] X.env)=[(false,eval e X.env),(false,eval f X.env)]
def Dk(H:Hp)(a:Addr):Prop:=(∃aH,Rd H a (.dK aH))\/∃aH,Rd H a (.dT aH)
theorem VL{X:Cx}{aA:List (Addr×Obj)}{L:St}{H:Hp}{s:Shared}{a:Addr}(I:aI X aA L H s)(d:Dk H a):s.TypeIs (.ref a) "dict"∧(∀b,Value.ref a=.ref b→∃ob,s.heap.get? b=some ob∧ob.dict=none)∧(a==sysModules)=false:=by
 rcases d with⟨aH,e⟩|⟨aH,e⟩
 .obtain⟨_,hd,g,_,dd⟩:=oZ I.hok e;refine⟨dd.typeIs,λ b q=>?_,hd⟩;cases q;refine d7 dd λ ob _ _ c f _=>?_;exact⟨ob,c,f.2.1⟩
 .obtain⟨_,hd,xs,_,dd⟩:=oY I.hok e;refine⟨dd.typeIs,λ b q=>?_,hd⟩;cases q;refine d7 dd λ ob _ _ c f _=>?_;exact⟨ob,c,f.2.1⟩
section
variable{X:Cx}{aA:List (Addr×Obj)}{L:St}{H:Hp}{s:Shared}{a:Addr}{y d:V}{u r:Value}{o:Option V}{A:Around}{E:Value->Shared->Prop}
theorem VR{Q:Value->Shared->Prop}(Z:A.units+1<cLine)(I:aI X aA L H s)(g:d4 H a y o)(Y:aU y u)(rd:aU d r)(h:∀J s',aI X aA L H s'->aU (o.getD d) J->Q J s'):wpAny (model X.prog X.w) A (call (.builtin "dict.get") [.ref a,u,r]) Q E s:=by
 rcases g with⟨aH,k,e,c,l⟩|⟨aH,k,b,e,c,f,l⟩
 .subst c;obtain⟨z,hd,i,q,dd⟩:=oZ I.hok e;refine call_meetsIn Ym dd.typeIs PySem.F.entry_dict_get (PySem.F.args_dict_get_3 _ _ _) (meets_dict_get_default (fm X.prog X.w) a (m9 Y) hd r) ⟨_,dd.mapOf,h _ _ (I.tok _) ?_⟩;rw[l];exact(q.val k).getD rd
 .subst c;cases(show u=Value.ref b from Y);obtain⟨z,hd,xs,q,dd⟩:=oY I.hok e;refine call_meetsIn Ym dd.typeIs PySem.F.entry_dict_get (PySem.F.args_dict_get_3 _ _ _) (meetsH_dict_get_default (tupleKind (fm X.prog X.w)) a b hd r) ⟨Zs Z,k,xs,rZ I.hok f,dd,h _ _ (I.tok _) ?_⟩;rw[l];exact(q.val k).getD rd
end
def VE(td ty tx:TE):TE:=λ L H Q=>td L H λ x H1=>∃a,x=.ref a/\Dk H1 a/\ty L H1 λ y H2=>tx L H2 λ z q=>∃o,d4 q a y o/\Q (o.getD z) q
section
variable{X:Cx}{o e f:Expr}{apos cpos:Pos}{td ty tx:TE}
theorem Ve(hu:X.A.units+1<cLine)(ho:PE X o td)(he:PE X e ty)(hf:PE X f tx)(m:M2 X o "get" apos e f cpos):PE X (.Call (.Attribute o "get" apos) [e,f] [] cpos) (VE td ty tx):=by
 intro aA s L H Q I h;refine wpAny_Call_method m.base m.few m.line PySem.F.plainAttrs_dict Ym PySem.F.type_dict_get (bN (ho aA s L H _ I h) λ u w q=>?_);obtain⟨x,H1,Y,r,a,l,d,Z⟩:=q;subst l;obtain rfl:u=Value.ref a:=r;obtain⟨C,D,_⟩:=VL Y d;refine⟨C,D,?_⟩;rw[m.trees];refine Yi rfl (Yv (Calls.spliced_cons (bN (he aA w L H1 _ Y Z) λ G B⟨y,b,i,t,n⟩=>
  Calls.spliced_cons (bN (hf aA B L b _ i n) λ E σ⟨z,c,j,v,K,g,p⟩=>Calls.spliced_nil ?_))))
 exact VR hu j g t v λ N M k J=>⟨_,c,k,J,p⟩
end
end L2
namespace L2
open PySem PySem.Spec PyProof.Rows
section
variable[DecidableEq κ]
theorem NS{k:κ}(h:fC aH k=some v):k∈aH.map (·.1):=by
 have q:(aH.any λ J=>decide (J.1=k))=true:=by
  rw[tQ,h]
  all_goals rfl
 obtain⟨p,Y,e⟩:=List.any_eq_true.mp q;grind
end
theorem jH{n:Nat}(h:a<n)(h':n<=b):a≠b:=qr (qp h h')
theorem ET{n:Nat}(h:a<n)(h':n<=b):b≠a:=(jH h h').symm
noncomputable def i4(cells:List (Str×Addr)):List (Str×NameKind)->List (Str×Addr)->List (Str×Addr)
 |[],aY=>aY
 |(n,k)::r,aY=>i4 cells r (if(k==NameKind.free)=true then(n,(cells.lookup n).getD 0)::aY else aY)
theorem wN:∀(l:List (Str×NameKind))(aY:List (Str×Addr)),(∀y∈l,y.2=.free->∃c,env.cells.lookup y.1=some c)->(forIn l aY λ y(J:List (Str×Addr))=>(match y with
   |(name,kind)=>if(kind==NameKind.free)=true then do let c<-cellOf env name;pure (ForInStep.yield ((name,c)::J))else pure (ForInStep.yield J):Sem _))=pure (i4 env.cells l aY)
 |[],aY,_=>rfl
 |(n,k)::r,aY,h=>by
  rw[List.forIn_cons];unfold i4;by_cases e:(k==NameKind.free)=true
  .have Y:k=NameKind.free:=by simpa using e
   obtain⟨c,Z⟩:=h (n,k) qg Y;simp only[e,Ye,cellOf,Z,pure_bind,Option.getD_some];exact wN r _ λ y q=>h y (qh _ q)
  .simp only[e,if_false];exact wN r _ λ y q=>h y (qh _ q)
theorem Dw(h:∀y∈sc.names,y.2=.free->∃c,env.cells.lookup y.1=some c):closureFor sc env=pure (i4 env.cells sc.names []):=by have e:=wN sc.names [] h;exact(bind_pure _).trans e
theorem R_6:∀(l:List (Str×NameKind))(aY:List (Str×Addr)),(∀y∈l,y.2=.free->∃c,cells.lookup y.1=some c)->(i4 cells l aY).lookup y=some c->cells.lookup y=some c\/aY.lookup y=some c
 |[],aY,_,e=>.inr e
 |(n,k)::r,aY,h,e=>by
  have b:=λ y d=>h y (qh _ d);rcases R_6 r _ b e with q|q
  .exact .inl q
  .by_cases z:(k==NameKind.free)=true
   .rw[if_pos z]at q;rw[Ya]at q;cases Z:y==n with
    |true=>
     rw[Z]at q;obtain⟨a,Y⟩:=h (n,k) qg (by simpa using z);have J:=Y;rw[J]at q;have e1:y=n:=by simpa using Z
     have f:a=c:=qi q;exact .inl (by rw[e1,J,f])
    |false=>
     rw[Z]at q;exact .inr q
   .rw[if_neg z]at q;exact .inr q
theorem ub:∀(l:List (Str×NameKind))(aY:List (Str×Addr)),((y,NameKind.free)∈l\/∃c,aY.lookup y=some c)->∃c,(i4 cells l aY).lookup y=some c
 |[],aY,h=>by
  rcases h with h|h
  .cases h
  .exact h
 |(n,k)::r,aY,h=>by
  have q:∀v:Addr,(∃c,aY.lookup y=some c)->∃c,((n,v)::aY).lookup y=some c:=λ v J=>by
   obtain⟨c,Y⟩:=J;rw[Ya];cases y==n with
   |true=>exact⟨v,rfl⟩
   |false=>exact⟨c,Y⟩
  rcases h with h|h
  .rcases qt h with e|h
   .have e1:=Z8 Prod.fst e;have e2:=Z8 Prod.snd e;subst e1 e2;refine ub r _ (.inr ?_);rw[if_pos (by rfl)];refine⟨(cells.lookup y).getD 0,?_⟩;rw[Ya];simp
   .exact ub r _ (.inl h)
  .refine ub r _ (.inr ?_);split
   .exact q _ h
   .exact h
theorem DS(Z:∀z∈scope.names,z.2≠.cell)(h:(relabel scope env).names.lookup y=some k)(Y:k=.cell\/k=.free):(y,NameKind.free)∈scope.names:=by have m:=ji h;obtain⟨⟨n,a⟩,q,e⟩:=List.mem_map.mp m;grind
theorem Lj{env:Env}(Y:env.scope.kind=.function):∀{names:List (Str×NameKind)}{y:Str},names.lookup y=some .free->env.kindOf y=some .cell->(names.map λ(n,k)=>if(k==NameKind.free&&env.scope.kind==.function&&env.kindOf n==some .cell)then(n,NameKind.cell)else(n,k)).lookup y=some .cell:=by intro a;induction a<;>grind
structure eA(N:List Str)(sc scope:Scope)(x:Str)(aV:List Str)(js:List Nat):Prop where
 kind:scope.kind=.function
 fk:sc.kind=.function
 cells:∀y∈scope.names,y.2≠.cell
 locs:∀y∈scope.names,y.2=.local->scope.names.lookup y.1=some .local
 own:scope.names.lookup x=some .local
 fr:∀y∈scope.names,y.2=.free->sc.names.lookup y.1=some .cell
 nd:(x::aV).Nodup
 ln:aV.length=js.length
 zp:∀p∈aV.zip js,N[p.2]?=some p.1/\sc.names.lookup p.1=some .cell/\scope.names.lookup p.1=some .free
def df(X:Cx)(N:List Str)(scope:Scope)(s:Shared)(H:Hp)(C:Addr)(q:List Addr):Cx where
 prog:=X.prog
 w:=X.w
 K:=X.K
 mg:=X.mg
 base:=X.base
 A:=X.A
 N:=N
 s₀:=s
 H₀:=H
 env:=compEnvC scope (i4 X.env.cells scope.names []) C X.env
 outer:=X.stack
 stack:=X.stack
 ex:=q
 fn:=λ _=>false
 calm:=X.calm
 pn:=[]
 xe:=λ _ _=>False
def fN(L:St)(js:List Nat):St:=js.map λ j=>(L[j]?).join
def jX(X:Cx)(bU:List Expr)(t:TT):Prop:=
 ∀(aA:List (Addr×Obj))(s:Shared)(L:St)(H:Hp)(Q:Bool->Hp->Prop),aI X aA L H s->t L H Q->
  wpAny (model X.prog X.w) X.A (forIn bU true λ c r=>if r=true then do let ok<-isTrue c X.env (eval c X.env);pure (ForInStep.yield ok)else pure (ForInStep.yield r)) (TP X aA L Q) X.xe s
def dA:TT:=λ _ H Q=>Q true H
theorem N5:jX X [] dA:=λ _ _ _ H _ I h=>wpAny_tests_nil ⟨H,I,h⟩
theorem N4(h:PT X c t):jX X [c] t:=λ aA s L H Q I q=>wpAny_tests_one (h aA s L H Q I q)
def mU(js:List Nat)(tt:TT)(te:TE)(L:St)(Q:List V->Hp->Prop)(J:It)(H1:Hp):Prop:=
 ∃W:Nat->Nat->List V->Hp->Prop,(∃m,W 0 m [] H1)/\∀i m ys H,W i m ys H->(J.stop i H/\ys.length<=sizeLine/\Q ys H)\/
  (J.go i H/\ys.length<sizeLine/\∀x H',J.yld i H x H'->tt (some x::fN L js) H' λ b H2=>
   if b=true then te (some x::fN L js) H2 λ v Y=>∃q,q<m/\W (i+1) q (ys++[v]) Y else ∃q,q<m/\W (i+1) q ys H2)
section
variable{X:Cx}{aA:List (Addr×Obj)}{L:St}{H:Hp}{s:Shared}{x:Str}{scope sc:Scope}{aV:List Str}{js:List Nat}
theorem aj2(I:aI X aA L H s)(q:X.env.scope=sc)(B:eA X.N sc scope x aV js):∀y∈scope.names,y.2=.free->∃c,X.env.cells.lookup y.1=some c:=λ y Y J=>
 I.ok.has y.1 (.inl (show X.env.scope.names.lookup y.1=some .cell by rw[q];exact B.fr y Y J))
theorem GI:∀{l:List α}{r:List β}{k:Nat}{a:α},l.length=r.length->l[k]?=some a->∃b,r[k]?=some b/\(a,b)∈l.zip r
 |[],_,_,_,_,h=>by simp at h
 |_::_,[],_,_,c,_=>by simp at c
 |e::l,d::r,0,a,_,h=>by
  simp at h;subst h;exact⟨d,rfl,by simp⟩
 |e::l,d::r,k+1,a,c,h=>by
  obtain⟨b,f,g⟩:=GI (by simpa using c) (by simpa using h);exact⟨b,by simpa using f,by rw[Y2];exact qh _ g⟩
theorem MM(I:aI X aA L H s)(ac:X.env.scope=sc)(B:eA X.N sc scope x aV js)(hf:∀b∈fp,dN X aA H b)(af:∀b∈fp,b<s.heap.objs.size)(hC:s.heap.objs.size<=C)(hD:s.heap.objs.size<=D)(ag:D≠C)(Y:∀b o,s.heap.get? b=some o->J.get? b=some o)(ns:J.Ns C mC)(gD:J.get? D=some oD)(nD:∀v,oD.data≠.cell v):aI (df X (x::aV) scope s H C fp) (aA++[(D,oD)]) (none::fN L js) H {s with heap:=J,toks:=tk}:=by
 have lc:=aj2 I ac B;have sub:∀y c,(i4 X.env.cells scope.names []).lookup y=some c->X.env.cells.lookup y=some c:=λ y c e=>by
  rcases R_6 scope.names [] lc e with q|q
  .exact q
  .cases q
 have G:=λ b Z=>(hf b Z).2.2.2.1;obtain⟨m,hn,Q⟩:=I.loc;refine⟨⟨I.ok.mod,B.kind,I.ok.glob,I.ok.blt,hC,?_,?_,?_,I.ok.hd,I.ok.frames,.inl rfl,?_,?_,zc I.ok.bsz I.sz,?_,?_,I.stack,I.stkFree⟩,rfl,I.bare,Un.kept Y,⟨mC,ns,?_⟩,?_,I.hok.fresh hC,?_,?_,I.hok.kept Y,?_⟩
 .exact λ y z c e1 e2=>I.ok.inj y z c (sub y c e1) (sub z c e2)
 .intro y T;have R:(y,NameKind.free)∈scope.names:=by
   rcases T with q|q
   .exact DS B.cells q (.inl rfl)
   .exact DS B.cells q (.inr rfl)
  exact ub scope.names [] (.inl R)
 .exact λ y c z _=>absurd z zj
 .intro b Z;refine⟨λ z=>?_,λ y c e z=>(hf b Z).2.2.2.2.1 y c (sub y c e) z⟩;have h:=z;exact absurd (qp (af b Z) hC) (by rw[h];exact ja _)
 .exact λ b o e=>I.bs b o e
 .intro b o e Z;rcases G b Z with z|z
  .exact I.ok.noex b o e z
  .exact absurd (qp (qm (I.ok.bs b o e).1) z) (ja _)
 .intro b Z z;rcases qt (I.stkSub b z)with e|e
  .exact(hf b Z).2.1 e
  .exact(hf b Z).2.2.1 e
 .intro i y v e1 e2 e3;cases i with
  |zero=>simp at e2
  |succ k=>
   have K:aV[k]?=some y:=by have e0:(x::aV)[k+1]?=some y:=e1;simpa using e0
   obtain⟨j,P,ρ⟩:=GI B.ln K;obtain⟨z1,z2,t⟩:=B.zp _ ρ;have d:(fN L js)[k]?=some (some v):=by simpa using e2
   have e4:L[j]?=some (some v):=by
    unfold fN at d;rw[zo,P]at d;have a:(L[j]?).join=some v:=qi d;cases q:L[j]? with
    |none=>rw[q]at a;cases a
    |some w'=>rw[q]at a;cases w' with
     |none=>cases a
     |some w2=>cases a;rfl
   have g:X.env.kindOf y=some .cell:=by show X.env.scope.names.lookup y=_;rw[ac];exact z2
   obtain⟨u,r,q⟩:=Q j y v z1 e4 (.inr (.inl g));refine⟨u,r,?_⟩;rcases q with⟨q,_⟩|⟨_,c,O,V⟩
   .rw[g]at q;cases q
   .have W:=Lj (by rw[ac];exact B.fk) t g;refine .inr ⟨.inl W,c,?_,?_⟩
    .obtain⟨M,n⟩:=ub scope.names [] (.inl (ji t));have:=sub y M n;rw[O]at this;cases this;exact n
    .obtain⟨o,f,hd⟩:=V;exact⟨o,Y c o f,hd⟩
 .intro y c e;obtain⟨v,o,f,hd⟩:=I.cell y c (sub y c e);exact⟨v,o,Y c o f,hd⟩
 .exact λ y c e=>I.freeC y c (sub y c e)
 .intro p S;have σ:p∈aA++[(D,oD)]:=by simpa [df]using S
  rcases qv σ with z|z
  .obtain⟨l,w,A,E,F⟩:=I.pin p (qo _ z);refine⟨Y _ _ l,w,λ e=>?_,λ e=>?_,F⟩
   .exact absurd (qp (qm l) hC) (by rw[show p.1=C from e];exact ja _)
   .rcases qt (I.stkSub p.1 e)with e|e
    .exact A e
    .exact E e
  .have h:p=(D,oD):=by simpa using z
   subst h;refine⟨gD,I.hok.fresh hD,ag,λ e=>?_,nD⟩;rcases qt (I.stkSub D e)with e|e
   .exact absurd (qp I.lt hD) (by rw[show D=X.env.locals from e];exact ja _)
   .exact I.nofs hD e
 .show(none::fN L js).length=(x::aV).length;rw[zh,zh,B.ln,fN,qw]
end
theorem Pj(I:Nat->Shared->Prop)(turn:∀n s,I n s->wpAny (model prog w) A (pyNext it) (λ r s1=>match r with
   |none=>R (.ok .next) s1
   |some v=>wpAny (model prog w) A (letOwnedTupleGo q it v) (λ _ s2=>wpAny (model prog w) A (assign q env v) (λ _ Y=>
     wpAny (model prog w) A (forIn bU true λ c r=>if r=true then do let ok<-isTrue c env (eval c env);pure (ForInStep.yield ok)else pure (ForInStep.yield r)) (λ ok J=>
      if ok=true then wpAny (model prog w) A (eval elt env) (λ y s5=>wpAny (model prog w) A (call (.builtin "list.append") [aY,y]) (λ _ Z=>∃m,m<n∧I m Z) (λ _ _=>False) s5) (λ _ _=>False) J
      else ∃m,m<n/\I m J) (λ _ _=>False) Y) (λ _ _=>False) s2) (λ _ _=>False) s1) (λ _ _=>False) s)(n:Nat)(h:I n s):codeAny (model prog w) A (.compLoop (.ListComp elt [⟨q,iter,bU,0⟩] scope pos) 0 it aY env) R s:=by
 refine codeAny_loop rfl I (λ n s i=>?_) n h;refine wpAny_noted ?_;rw[compTurn_list];refine qb (Qy (qb (zy (turn n s i) (λ r s1 a=>?_) λ _ _ z=>z.elim)));cases r with
 |none=>exact qc a
 |some v=>
  refine qb (zy a (λ _ s2 d=>?_) λ _ _ z=>z.elim);refine qb (zy d (λ _ Y e=>?_) λ _ _ z=>z.elim);refine qb (zy e (λ ok J b=>?_) λ _ _ z=>z.elim);cases ok with
  |false=>exact qc ⟨rfl,b⟩
  |true=>
   refine qb (qb (zy b (λ y s5 f=>?_) λ _ _ z=>z.elim));exact qb (zy f (λ _ Z g=>qc (qc ⟨rfl,g⟩)) λ _ _ z=>z.elim)
section
variable{X:Cx}{aA:List (Addr×Obj)}{L:St}{H:Hp}{s:Shared}{x:Str}{scope sc:Scope}{aV:List Str}{js:List Nat}{elt iter:Expr}{bU:List Expr}{px pos:Pos}{tt:TT}{te:TE}{E:Value->Shared->Prop}
noncomputable abbrev jK(q:List Value)(n:Nat):Obj:={cls:=.type "list",data:=.seq q.toArray n}
def Ll(tg:TG)(Z:St)(tt:TT)(te:TE)(Q:List V->Hp->Prop)(J:It)(H1:Hp):Prop:=
 ∃W:Nat->Nat->List V->Hp->Prop,(∃m,W 0 m [] H1)/\∀i m ys H,W i m ys H->(J.stop i H/\ys.length<=sizeLine/\Q ys H)\/
  (J.go i H/\ys.length<sizeLine/\∀x H',J.yld i H x H'->tg x Z H' λ q H'=>(Z.length=q.length/\∀(j:Nat)v,Z[j]?=some (some v)->q[j]?=some (some v))/\tt q H' λ b H2=>
   if b=true then te q H2 λ v H3=>∃Y,Y<m/\W (i+1) Y (ys++[v]) H3 else ∃Y,Y<m/\W (i+1) Y ys H2)
theorem Sd{al:Expr}{N':List Str}{τ:St}{tg:TG}{it:Addr}{fp:List Addr}{tn:Nat->Heap->Prop}{J:It}{Qe:List V->Hp->Prop}{RR:Value->Addr->Result->Shared->Prop}(I:aI X aA L H s)(hc:X.calm=true)(a1:X.env.scope=sc)(B:eA X.N sc scope x aV js)(T:fG X.prog X.w X.K al J fp it tn)(st:tn 0 s.heap)(f:∀b∈fp,dN X aA H b)(S0:∀{C pl H' s'},aI (df X (x::aV) scope s H C fp) pl (none::fN L js) H' s'->aI (df X N' scope s H C fp) pl τ H' s')(hg:∀C,PG (df X N' scope s H C fp) al tg)(hW:Ll tg τ tt te Qe J H)(ht:∀s H C fp,jX (df X N' scope s H C fp) bU tt)(he:∀s H C fp,PE (df X N' scope s H C fp) elt te)(hR:∀(D C:Addr)(s':Shared)(H':Hp)(ys:List V)(Y:List Value)(n:Nat),s.heap.objs.size<=D->s.heap.objs.size<=C->D≠C->aI (df X N' scope s H C fp) aA τ H' s'->H' D=none->aQ ys Y->s'.heap.get? D=some (jK Y n)->ys.length<=sizeLine->Qe ys H'->RR (.ref D) C (.ok .next) s'):wpAny (model X.prog X.w) X.A (newList []) (λ aY s3=>wpAny (model X.prog X.w) X.A (newFunctionEnv scope X.env.globals (i4 X.env.cells scope.names []) [] X.env.qual none .none (some X.env)) (λ as s4=>
   codeAny (model X.prog X.w) X.A (.compStart (.ListComp elt [⟨al,iter,bU,0⟩] scope pos) 0 (.ref it) aY {as with scope:=relabel scope X.env}) (RR aY as.locals) s4) E s3) E s:=by
 obtain⟨W,⟨m0,w0⟩,turn⟩:=hW;refine yi (wpAny_newFunctionEnv B.cells (by intro y hy;simp at hy) (λ ai M t=>?_) B.kind);dsimp only at M t⊢;generalize hG:s.heap.push {cls:=.type "list",dict:=none,data:=.seq ([]:List Value).toArray}=G at M t⊢;have a0:G.objs.size=s.heap.objs.size+1:=by rw[<-hG,Zu]
 have ar:s.heap.objs.size<=G.objs.size:=by rw[a0];exact Q4 _
 have ap:s.heap.objs.size≠G.objs.size:=by rw[a0];exact qr (Z9 _)
 obtain⟨C,bg⟩:∃C:Addr,C=G.objs.size:=⟨_,rfl⟩;obtain⟨D,O⟩:∃D:Addr,D=s.heap.objs.size:=⟨_,rfl⟩;rw[<-bg]at M t ap ar⊢;have d:s.heap.objs.size<=D:=by rw[O];exact qj _
 have Q:s.heap.objs.size<=C:=ar;have σ:D≠C:=by rw[O];exact ap
 have ax:∀b o,s.heap.get? b=some o->ai.get? b=some o:=λ b o e=>by
  refine t.extBut b o (jH (qm e) Q) (qd _ ?_);rw[<-hG];exact qd _ e
 have gD:ai.get? D=some (jK [] 0):=by refine t.extBut D _ σ (qd _ ?_);rw[<-hG,O];exact qk _ rfl
 have au:∀b∈fp,b<s.heap.objs.size:=λ b a=>by
  obtain⟨o,e,_⟩:=T.obj 0 _ st b a;exact qm e
 show codeAny (model X.prog X.w) X.A (.compStart (.ListComp elt [⟨al,iter,bU,0⟩] scope pos) 0 (.ref it) (.ref s.heap.objs.size) (compEnvC scope (i4 X.env.cells scope.names []) C X.env)) (RR (.ref s.heap.objs.size) C) _;rw[<-O];have be:D∉fp:=λ z=>jH (au D z) d rfl;have Y0:=S0 (MM (tk:=s.toks+([]:List (Str×Value)).length) (x:=x) I a1 B f au Q d σ ax M gD (λ v z=>nomatch z));have ay:tn 0 ai:=T.keep 0 _ _ st λ b _ o e=>ax b o e;have sub:∀y c,(i4 X.env.cells scope.names []).lookup y=some c->X.env.cells.lookup y=some c:=λ y c e=>by
  rcases R_6 scope.names [] (aj2 I a1 B) e with q|q
  .exact q
  .simp at q
 have az:∀p∈aA,p.1<s.heap.objs.size:=λ p j=>qm (I.pin p (qo _ j)).1;have ak:∀{H':Hp}{o:Obj},(∀b∈fp,H' b=none)->∀b∈fp,dN (df X N' scope s H C fp) (aA++[(D,o)]) H' b:=λ{H' o}hn b a=>by
  refine eS (f b a) λ _ a2 a3 a4 a5 a6=>?_;have lt:=au b a;refine⟨hn b a,?_,λ z=>?_,.inl a,λ y c e=>a5 y c (sub y c e),λ p j=>?_⟩
  .exact jH lt Q
  .rcases qt (I.stkSub b z)with e|e
   .exact a2 e
   .exact a3 e
  .have aw:p∈aA++[(D,o)]:=by simpa [df]using j
   rcases qv aw with z|z
   .exact a6 p (qo _ z)
   .have z':p=(D,o):=by simpa using z
    subst z';exact ET lt d
 have aq:∀s3:Shared,s3={s with heap:=ai,toks:=s.toks+([]:List (Str×Value)).length}->codeAny (model X.prog X.w) X.A (.compLoop (.ListComp elt [⟨al,iter,bU,0⟩] scope pos) 0 (.ref it) (.ref D) (compEnvC scope (i4 X.env.cells scope.names []) C X.env)) (RR (.ref D) C) s3:=by
  rintro s3 rfl;refine Pj (λ n s'=>∃i ys Y k H',aI (df X N' scope s H C fp) (aA++[(D,jK Y k)]) τ H' s'/\tn i s'.heap/\(∀b∈fp,H' b=none)/\aQ ys Y/\W i n ys H') ?_ m0
   ⟨0,[],[],0,H,Y0,ay,λ b a=>(f b a).1,.nil,w0⟩
  rintro n s4 ⟨i,ys,Y,k,m,I4,a7,bc,ρ,w4⟩;have pD:∀{pl:List (Addr×Obj)}{h:St}{H':Hp}{s':Shared},aI (df X N' scope s H C fp) (aA++[(D,jK Y k)]++pl) h H' s'->s'.heap.get? D=some (jK Y k)/\H' D=none:=λ g=>by
   have q:=g.pin (D,jK Y k) (qo _ (jd _ (qo _ qg)));exact⟨q.1,q.2.1⟩
  have ae:∀{pl:List (Addr×Obj)}{h:St}{H':Hp}{s':Shared},aI (df X N' scope s H C fp) (aA++pl) h H' s'->aI (df X N' scope s H C fp) aA h H' s':=λ g=>g.unpinned;rcases turn i n ys m w4 with⟨stop,lz,qe⟩|⟨go,lz,step⟩
  .refine bN (T.done (df X N' scope s H C fp) rfl rfl rfl hc i _ s4 _ m (λ _ _=>False) I4 (ak bc) a7 stop) λ r s5 Z=>?_;obtain⟨hr,I5⟩:=Z;subst hr;have I5':aI (df X N' scope s H C fp) (aA++[(D,jK Y k)]++[]) τ m s5:=by simpa using I5
   exact hR D C s5 m ys Y k d Q σ (ae I5) (pD I5').2 ρ (pD I5').1 lz qe
  .refine bN (T.item (df X N' scope s H C fp) rfl rfl rfl hc i _ s4 _ m (λ _ _=>False) I4 (ak bc) a7 go) λ r s5 Z=>?_;obtain⟨u,hr,h5⟩:=Z;subst hr;refine bN h5 λ _ s6 Z=>?_;refine iZ Z λ y H6 I6 r6 y6 P bh=>?_;have I6':=I6.pinned (ak bh) (T.obj _ _ P);have bf:D∉(df X N' scope s H C fp).fs:=λ z=>by
    rcases qt (I.stkSub D z)with e|e
    .exact jH I.lt d e.symm
    .exact I.nofs d e
   refine bN (hg C _ s6 _ H6 y u _ I6' r6 (step y H6 y6)) λ _ s7 Z=>?_;refine cF Z λ ba H7 I7 e7 q7=>?_;have back:∀{h:St}{H':Hp}{s':Shared},aI (df X N' scope s H C fp) (aA++[(D,jK Y k)]++rH fp s6.heap) h H' s'->(∀b∈fp,∀o,s6.heap.get? b=some o->s'.heap.get? b=some o)/\∀b∈fp,H' b=none:=λ{h H' s'}g=>
    ⟨λ b a o e=>(g.pin (b,o) (qo _ (qo _ (wD a e)))).1,λ b a=>by
     obtain⟨o,e,_⟩:=T.obj _ _ P b a;exact(g.pin (b,o) (qo _ (qo _ (wD a e)))).2.1⟩
   have ah:∀{pl:List (Addr×Obj)}{H':Hp}{s':Shared},aI (df X N' scope s H C fp) pl ba H' s'->aI (df X N' scope s H C fp) pl τ H' s':=λ g=>g.weak e7.1 e7.2;refine bN (ht s H C fp _ s7 _ H7 _ I7 q7) λ ok s8 Z=>?_;obtain⟨H8,I8,S⟩:=Z;cases ok with
   |false=>
    rw[if_neg zj]at S⊢;obtain⟨m',hm,w8⟩:=S;obtain⟨b1,b2⟩:=back I8;exact⟨m',hm,i+1,ys,Y,k,H8,ah I8.unpinned,T.keep _ _ _ P b1,b2,ρ,w8⟩
   |true=>
    rw[if_pos rfl]at S⊢;refine bN (he s H C fp _ s8 _ H8 _ I8 S) λ v l Z=>?_;obtain⟨vv,H9,I9,r9,m',hm,w9⟩:=Z;obtain⟨av,a8⟩:=pD I9;obtain⟨b1,b2⟩:=back I9;have bi:=ρ.length;refine call_meets F.slot_list_append ⟨_,av,rfl⟩ F.entry_list_append (F.args_list_append_2 _ _) (PySem.list_append D Y.toArray k v (by rw[zg];lia)) ⟨av,?_⟩;have ea:Y.toArray.push v=(Y++[v]).toArray:=by simp
    obtain⟨R,q⟩:∃R,(l.heap.update D (Obj.mapSeq (·.push v))).get? D=some (jK (Y++[v]) R):=by have q0:=PySem.IsL.update av (·.push v);rw[ea]at q0;exact⟨_,q0⟩
    have a9:∀b o,b≠D->l.heap.get? b=some o->(l.heap.update D (Obj.mapSeq (·.push v))).get? b=some o:=λ b o a e=>(yh l.heap (Obj.mapSeq (·.push v)) (zt a)).trans e;have I10:aI (df X N' scope s H C fp) aA ba H9 {l with heap:=l.heap.update D (Obj.mapSeq (·.push v))}:=
     (ae I9.unpinned).turned (t':=l.toks) (it:=D) a9 a8 σ (.inr d) (λ y' c e z=>by
      obtain⟨w',q'⟩:=I.cell y' c (sub y' c e);exact jH q'.lt d z) (λ p j z=>by
      have aw:p∈aA:=by simpa [df]using j
      exact jH (az p aw) d z)
    refine⟨m',hm,i+1,ys++[vv],Y++[v],R,H9,ah (I10.pins_of λ p j=>?_),T.keep _ _ _ P λ b a o e=>a9 b o (λ z=>be (z▸a)) (b1 b a o e),b2,ρ.append (.cons r9 .nil),w9⟩;rcases qv j with z|z
    .exact I10.pin p (qo _ z)
    .have z':p=(D,jK (Y++[v]) R):=List.mem_singleton.mp z;subst z';exact jW q a8 σ bf λ w' z2=>nomatch z2
 exact codeAny_compStart_list (aq _ rfl) (T.self _ 0 _ _ _ ay (aq _ rfl))
theorem EX{RR:Value->Addr->Result->Shared->Prop}(I:aI X aA L H s)(hc:X.calm=true)(aa:X.env.scope=sc)(B:eA X.N sc scope x aV js)(T:fG X.prog X.w X.K (.Name x px) J Y it tn)(st:tn 0 s.heap)(f:∀b∈Y,dN X aA H b)(hW:mU js tt te L Qe J H)(ht:∀s H C Y,jX (df X (x::aV) scope s H C Y) bU tt)(he:∀s H C Y,PE (df X (x::aV) scope s H C Y) elt te)(hR:∀(D C:Addr)(s':Shared)(H':Hp)(ys:List V)(Z:List Value)(n:Nat),s.heap.objs.size<=D->s.heap.objs.size<=C->D≠C->aI (df X (x::aV) scope s H C Y) aA (none::fN L js) H' s'->H' D=none->aQ ys Z->s'.heap.get? D=some (jK Z n)->ys.length<=sizeLine->Qe ys H'->RR (.ref D) C (.ok .next) s'):wpAny (model X.prog X.w) X.A (newList []) (λ aY s3=>wpAny (model X.prog X.w) X.A (newFunctionEnv scope X.env.globals (i4 X.env.cells scope.names []) [] X.env.qual none .none (some X.env)) (λ q s4=>
   codeAny (model X.prog X.w) X.A (.compStart (.ListComp elt [⟨.Name x px,iter,bU,0⟩] scope pos) 0 (.ref it) aY {q with scope:=relabel scope X.env}) (RR aY q.locals) s4) E s3) E s:=by
 refine Sd (tg:=AW 0) I hc aa B T st f (λ h=>h) (λ C=>GW B.nd rfl (.inl (lookup_relabel_local B.own)) (.inr (lookup_relabel_local B.own))) ?_ ht he hR;obtain⟨W,c,turn⟩:=hW;refine⟨W,c,λ i m ys H w=>?_⟩;rcases turn i m ys H w with h|⟨go,a,step⟩
 .exact .inl h
 .exact .inr ⟨go,a,λ y H' d=>⟨⟨rfl,λ j v e=>by
   cases j with
   |zero=>simp at e
   |succ j=>simpa using e⟩,step y H' d⟩⟩
theorem FN(I:aI X aA L H s)(f:∀b∈fp,dN X aA H b)(hD:s.heap.objs.size<=D)(J:aI (df X (x::aV) scope s H C fp) aA (none::fN L js) H' s')(nD:H' D=none)(rv:aQ ys Y)(gD:s'.heap.get? D=some (jK Y n))(hz:ys.length<=sizeLine):aI X aA L (upd H' D (.lst ys)) s':=by
 have u:=J.base;have j:=J.hok;refine I.call' J.os ⟨u.keep,u.slot,λ b o e k hx=>?_,u.there,λ b xs e=>?_,λ b o v e=>?_,λ b ps e=>?_⟩ (λ b o e=>?_) J.bare λ b a=>?_
 .rw[a_ (jH (Heap.lt_size e) hD)];exact u.free b o e k hx
 .have q:=u.tups b xs e;rw[a_ (iw q nD)];exact q
 .have q:=u.frzs b o v e;rw[a_ (iw q nD)];exact q
 .obtain⟨Z,q⟩:=u.tbls b ps e;exact⟨Z,by grind[a_]⟩
 .by_cases a:b=D
  .subst a;rw[bT]at e;obtain rfl:=br e;exact⟨hz,Y,n,rv,gD⟩
  .rw[a_ a]at e;exact(j b o e).stay (λ c v _ q=>q) (λ c q=>by grind[a_]) λ c xs q=>by grind[a_]
 .refine eS (f b a) λ _ d l g h i=>?_;exact i1 g d h i
theorem Iq(I:aI X aA L H s)(J:aI X aA Y H' s')(Z:s.heap.objs.size<=C)(nC:H' C=none)(hs:Heap.SameBut C s'.heap h'):aI X aA Y H' {s' with heap:=h'}:=by
 refine J.turned (λ b o a e=>(hs.2 b a).trans e) nC (λ z=>?_) (.inr (zc I.sz Z)) (λ y c e z=>?_) λ p d z=>?_
 .exact jH I.lt Z z.symm
 .obtain⟨v,q⟩:=I.cell y c e;exact jH q.lt Z z
 .exact jH (qm (I.pin p d).1) Z z
def Wt(q:TI)(js:List Nat)(tt:TT)(te:TE):TE:=λ L H Q=>q L H (mU js tt te L λ ys H'=>∀D,H' D=none->Q (.ref D) (upd H' D (.lst ys)))
theorem Ii{wi:TI}(hc:X.calm=true)(Y:X.env.scope=sc)(B:eA X.N sc scope x aV js)(hi:PI X (.Name x px) iter wi)(ht:∀s H C Z,jX (df X (x::aV) scope s H C Z) bU tt)(he:∀s H C Z,PE (df X (x::aV) scope s H C Z) elt te)(hs:∀v,foldedSetIterable iter X.env v=pure v):PE X (.ListComp elt [⟨.Name x px,iter,bU,0⟩] scope pos) (Wt wi js tt te):=by
 intro aA s L H Q I h;rw[eval_ListComp];refine wpAny_comprehension_free (use:=none) rfl hs (Dw (aj2 I Y B)) B.kind B.locs (bN (hi aA s L H _ I h) λ v M o=>bN o λ σ O p=>?_);obtain⟨it,Z,P,J,G,e,a,T,k,d,u⟩:=p;subst e;refine EX (RR:=λ c C=>compPost (model X.prog X.w) X.A X.xe none (EP X aA L Q) c C) a hc Y B T k d u ht he ?_;intro D C s' H' ys K n t r i b f F l z q;obtain⟨m,y,_⟩:=b.loc;refine⟨m,y,λ h' j=>?_⟩;have g:=FN a d t b f F l z;have E:(upd H' D (.lst ys)) C=none:=by rw[a_ (zt i)];exact b.free
 exact bE (.ref D) _ (Iq a g r E j) rfl (q D f)
def SV(i:Nat)(q:TI)(js:List Nat)(tt:TT)(te:TE):TS:=λ D L H=>q L H (mU js tt te L λ ys H'=>∀a,H' a=none->D.nx (L.set i (some (.ref a))) (upd H' a (.lst ys)))
theorem tU{wi:TI}{i:Nat}{y:Str}{py spos:Pos}(hN:X.N.Nodup)(ac:X.N[i]?=some y)(hy:X.env.scope.names.lookup y=some .local)(hc:X.calm=true)(Z:X.env.scope=sc)(B:eA X.N sc scope x aV js)(hi:PI X (.Name x px) iter wi)(ht:∀s H C fp,jX (df X (x::aV) scope s H C fp) bU tt)(he:∀s H C fp,PE (df X (x::aV) scope s H C fp) elt te)(aa:swapsWith (.ListComp elt [⟨.Name x px,iter,bU,0⟩] scope pos) (some (.Name y py)) spos.line X.env=pure true)(hs:∀v,foldedSetIterable iter X.env v=pure v):PS X (.Assign [.Name y py] (.ListComp elt [⟨.Name x px,iter,bU,0⟩] scope pos) spos) (SV i wi js tt te):=by
 intro aA s L H D I h;rw[exec_Assign_Name_used _ _ _ _ aa];refine qb (Qy (qb ?_));show wpAny _ X.A (do let _<-comprehension (.ListComp elt [⟨.Name x px,iter,bU,0⟩] scope pos) scope X.env _ (newList []) false (eval iter X.env) (some (assign (.Name y py) X.env))) _ _ s;refine qb (zy (wpAny_comprehension_free (use:=some (assign (.Name y py) X.env)) (Q:=λ _ s'=>SP X aA D .next s') rfl hs (Dw (aj2 I Z B)) B.kind B.locs
  (bN (hi aA s L H _ I h) λ v s1 K=>bN K λ ai s2 σ=>?_)) (λ _ s' q=>qc (qc q)) λ _ _ z=>z)
 obtain⟨it,fp,tn,J,H2,e,c,T,E,j,P⟩:=σ;subst e;refine EX (RR:=λ f C=>compPost (model X.prog X.w) X.A X.xe (some (assign (.Name y py) X.env)) (λ _ s'=>SP X aA D .next s') f C) c hc Z B T E j P ht he ?_;intro a C s' H' ys ah n M g t d k rv G V q;have l:=FN c j M d k rv G V;have W:(upd H' a (.lst ys)) C=none:=by rw[a_ (zt t)];exact d.free
 obtain⟨m,S,_⟩:=d.loc;have O:C≠X.env.locals:=ET c.lt g;show wpAny _ X.A (assign (.Name y py) X.env (.ref a)) _ _ s';refine wpAny_assign_Name (DN l hN ac (.inl hy) (v:=.ref a) rfl (λ s3 p Y=>?_) (.inr hy));obtain⟨b,sb,R⟩:=Y;have nb:C≠b:=by
  rcases R with z|z
  .rw[z];exact O
  .intro e;obtain⟨v,q'⟩:=c.cell y b z;exact jH q'.lt g e.symm
 refine ib S λ o es F ρ r=>?_;refine⟨m,⟨o,es,F,(sb.2 C nb).trans ρ,r⟩,λ h' u=>?_⟩;exact ie _ _ (Iq c p g W u) (q a k)
end
end L2
namespace Fx
open PySem
inductive D where
 |non|bl (b:Bool)|int (i:Int)|str (x:Str)|tup (xs:List D)|lst (xs:List D)
 |opq
 |dct (ks:List Str) (vs:List D)
inductive MO where
 |lst (xs:List D)|dic (aH:List (Str×D))
inductive Sl where
 |no|im (d:D)|ow (b:Bool) (o:MO)
noncomputable abbrev En:=List Sl
inductive bM where
 |nx (U:En)|rt (d:D) (U:En)|bk (U:En)|ct (U:En)
abbrev FE:=En->Option (D×En)
abbrev FT:=En->Option (Bool×En)
abbrev FA:=En->Option (List D×En)
abbrev FS:=En->Option bM
noncomputable def aF{α β:Type}(x:Option α)(f:α->Option β):Option β:=x.bind f
theorem c8(a:α)(f:α->Option β):aF (some a) f=f a:=rfl
mutual
noncomputable def b8:D->D->Bool
 |.non,.non=>true
 |.bl a,.bl b=>a==b
 |.bl a,.int b=>(if a then 1 else 0)==b
 |.int a,.bl b=>a==(if b then 1 else 0)
 |.int a,.int b=>a==b
 |.str a,.str b=>a==b
 |.tup a,.tup b=>gn a b
 |.lst a,.lst b=>gn a b
 |_,_=>false
noncomputable def gn:List D->List D->Bool
 |[],[]=>true
 |a::r,b::t=>b8 a b&&gn r t
 |_,_=>false
end
@[simp] theorem Xc:b8 (.bl x) (.bl y)=decide (x=y):=Zd _ _
@[simp] theorem Xb:b8 (.int x) (.int y)=decide (x=y):=Zd _ _
@[simp] theorem OP:b8 (.str x) (.str y)=decide (x=y):=Zd _ _
@[simp] theorem OO(x:List D)(y:List D):b8 (.tup x) (.tup y)=gn x y:=Eq.trans rfl rfl
@[simp] theorem OQ(x:List D)(y:List D):b8 (.lst x) (.lst y)=gn x y:=Eq.trans rfl rfl
@[simp] theorem Xa:b8 .non .non=true/\(∀y,b8 .non (.bl y)=false)/\(∀y,b8 .non (.int y)=false)/\(∀y,b8 .non (.str y)=false)/\(∀y,b8 .non (.tup y)=false)/\(∀y,b8 .non (.lst y)=false)/\(∀x,b8 (.bl x) .non=false)/\(∀x y,b8 (.bl x) (.int y)=((if x then 1 else 0)==y))/\(∀x y,b8 (.bl x) (.str y)=false)/\(∀x y,b8 (.bl x) (.tup y)=false)/\(∀x y,b8 (.bl x) (.lst y)=false)/\(∀x,b8 (.int x) .non=false)/\(∀x y,b8 (.int x) (.bl y)=(x==(if y then 1 else 0)))/\(∀x y,b8 (.int x) (.str y)=false)/\(∀x y,b8 (.int x) (.tup y)=false)/\(∀x y,b8 (.int x) (.lst y)=false)/\(∀x,b8 (.str x) .non=false)/\(∀x y,b8 (.str x) (.bl y)=false)/\(∀x y,b8 (.str x) (.int y)=false)/\(∀x y,b8 (.str x) (.tup y)=false)/\(∀x y,b8 (.str x) (.lst y)=false)/\(∀x,b8 (.tup x) .non=false)/\(∀x y,b8 (.tup x) (.bl y)=false)/\(∀x y,b8 (.tup x) (.int y)=false)/\(∀x y,b8 (.tup x) (.str y)=false)/\(∀x y,b8 (.tup x) (.lst y)=false)/\(∀x,b8 (.lst x) .non=false)/\(∀x y,b8 (.lst x) (.bl y)=false)/\(∀x y,b8 (.lst x) (.int y)=false)/\(∀x y,b8 (.lst x) (.str y)=false)/\(∀x y,b8 (.lst x) (.tup y)=false)/\gn [] []=true/\(∀a r b t,gn (a::r) (b::t)=(b8 a b&&gn r t))/\(∀b t,gn [] (b::t)=false)/\(∀b t,gn (b::t) []=false):=by and_intros<;>(intros;rfl)
mutual
noncomputable def cD:D->Nat
 |.tup xs=>ez xs+1
 |.lst xs=>ez xs+1
 |.opq=>1000
 |.dct _ _=>1000
 |_=>0
noncomputable def ez:List D->Nat
 |[]=>0
 |d::r=>max (cD d) (ez r)
end
@[simp] theorem Su:cD .opq=1000:=rfl
@[simp] theorem Sv:cD (.dct q vs)=1000:=rfl
@[simp] theorem Xl:cD .non=0:=rfl
@[simp] theorem Xv(b:Bool):cD (.bl b)=0:=rfl
@[simp] theorem Xm(i:Int):cD (.int i)=0:=rfl
@[simp] theorem Vy(x:Str):cD (.str x)=0:=rfl
@[simp] theorem uD:cD (.tup xs)=ez xs+1:=rfl
@[simp] theorem lY:cD (.lst xs)=ez xs+1:=rfl
@[simp] theorem X0:ez []=0:=rfl
@[simp] theorem ya:ez (d::r)=max (cD d) (ez r):=rfl
noncomputable def kd(i:Int):Bool:=decide (i.natAbs<2^1000)
def eZ(i j:Int):Bool:=decide (i.natAbs<2^64)||decide (j.natAbs<2^64)||(kd i&&kd j)
noncomputable def jS(j:Int):Bool:=decide (j≠0)&&decide (j.natAbs<2^1000)
noncomputable def pF:D->Option Int
 |.int i=>some i
 |_=>none
def nR(g:Int->Int->Option D)(x y:D):Option D:=aF (pF x) λ i=>aF (pF y) (g i)
theorem oJ(e:nR g x y=some d):∃i j,x=.int i/\y=.int j/\g i j=some d:=by
 cases x with
 |int i=>
  cases y with
  |int j=>exact bE i j rfl rfl e
  |_=>cases e
 |_=>cases e
noncomputable def cw:D->D->Option D
 |.int i,.int j=>some (.int (i+j))
 |.str a,.str b=>if a.length+b.length<=sizeLine then some (.str (a++b))else none
 |.lst a,.lst b=>if a.length+b.length<=sizeLine then some (.lst (a++b))else none
 |_,_=>none
def fR:D->D->Option D:=nR λ i j=>some (.int (i-j))
def gF:D->D->Option D:=nR λ i j=>if eZ i j=true then some (.int (i*j))else none
def kG:D->D->Option D:=nR λ i j=>if jS j=true then some (.int (i.fdiv j))else none
def cu:D->D->Option D:=nR λ i j=>if j≠0 then some (.int (i.fmod j))else none
def vt:D->D->Option D:=nR λ i j=>if 0<=j/\j<=64/\i.natAbs<2^64 then some (.int (i^j.toNat))else none
noncomputable def rP:D->Option D
 |.int i=>some (.int (-i))
 |_=>none
def sF(p:Int->Int->Bool):D->D->Option D:=nR λ i j=>some (.bl (p i j))
def hZ:D->D->Option D:=sF λ i j=>decide (i<j)
def my:D->D->Option D:=sF λ i j=>decide (i<=j)
def kj:D->D->Option D:=sF λ i j=>decide (j<i)
def pP:D->D->Option D:=sF λ i j=>decide (j<=i)
def eQ(x y:D):Option D:=if cD x<=30/\cD y<=30 then some (.bl (b8 x y))else none
def gW(x y:D):Option D:=if cD x<=30/\cD y<=30 then some (.bl (!b8 x y))else none
noncomputable def fy:D->Bool
 |.non=>true
 |_=>false
@[simp] theorem Xg:fy .opq=false:=rfl
@[simp] theorem Xk(q:List Str)(vs:List D):fy (.dct q vs)=false:=rfl
@[simp] theorem Xh:fy .non=true:=rfl
@[simp] theorem Xs(b:Bool):fy (.bl b)=false:=rfl
@[simp] theorem Xj(b:Int):fy (.int b)=false:=rfl
@[simp] theorem Xf(b:Str):fy (.str b)=false:=rfl
@[simp] theorem Xe(b:List D):fy (.tup b)=false:=rfl
@[simp] theorem Xi(b:List D):fy (.lst b)=false:=rfl
def mx(x y:D):Option D:=match y with
 |.non=>some (.bl (fy x))
 |_=>none
def fU(x y:D):Option D:=match y with
 |.non=>some (.bl (!fy x))
 |_=>none
noncomputable def nj:D->Option Bool
 |.non=>some false
 |.bl b=>some b
 |.int i=>some (i != 0)
 |.lst xs=>some (!xs.isEmpty)
 |.tup xs=>some (!xs.isEmpty)
 |_=>none
noncomputable def ny(n:Nat)(i:Int):Option Nat:=if 0<=i then(if i<n then some i.toNat else none)else if -(n:Int)<=i then some (i+n).toNat else none
def di(xs:List D)(i:Int):Option D:=(ny xs.length i).bind λ j=>xs[j]?
noncomputable def gU(n d:Nat):Option Int->Nat
 |none=>d
 |some v=>if v<0 then(v+(n:Int)).toNat else min v.toNat n
theorem Ny(n d k:Nat):gU n d (some (k:Int))=min k n:=by show(if(k:Int)<0 then((k:Int)+(n:Int)).toNat else min (k:Int).toNat n)=_;exact if_neg (Int.not_lt.mpr (Int.natCast_nonneg k))
def iO(xs:List D)(lo hi:Option Int):List D:=(xs.drop (gU xs.length 0 lo)).take (gU xs.length xs.length hi-gU xs.length 0 lo)
noncomputable def j_:List D->Option D
 |[.int i]=>some (.int (if i<0 then -i else i))
 |_=>none
def oM:List D->Option (List Int)
 |[]=>some []
 |.int i::r=>aF (oM r) λ is=>some (i::is)
 |_=>none
theorem OL(i:Int)(r:List D):oM (.int i::r)=aF (oM r) λ is=>some (i::is):=rfl
noncomputable def kH:Int->List Int->Int
 |m,[]=>m
 |m,x::r=>kH (if x<m then x else m) r
noncomputable def kI:Int->List Int->Int
 |m,[]=>m
 |m,x::r=>kI (if m<x then x else m) r
noncomputable def A2(f:Int->List Int->Int):List Int->Option D
 |[]=>none
 |i::r=>some (.int (f i r))
def lC:List D->Option D
 |[.int i,.int j]=>some (.int (if j>i then j else i))
 |[.lst xs]=>aF (oM xs) λ is=>A2 kI is
 |_=>none
def pH:List D->Option D
 |[.int i,.int j]=>some (.int (if j<i then j else i))
 |[.lst xs]=>aF (oM xs) λ is=>A2 kH is
 |_=>none
inductive Ty where
 |int|bool|str|tuple|list
noncomputable def lD:Ty->D->Bool
 |.int,.int _=>true
 |.int,.bl _=>true
 |.bool,.bl _=>true
 |.str,.str _=>true
 |.tuple,.tup _=>true
 |.list,.lst _=>true
 |_,_=>false
def Cw(U:En):Option Sl->Option (D×En)
 |some (.im d)=>some (d,U)
 |_=>none
def eV(i:Nat)(U:En):Option (D×En):=Cw U U[i]?
def u4:FE:=λ _=>none
def eC(d:D)(U:En):Option (D×En):=some (d,U)
abbrev zI(n:Int):=eC (.int n)
abbrev zR(x:Str):=eC (.str x)
theorem yI(h:a=b):a=b:=h
def e1(op:D->Option D)(F:FE)(U:En):Option (D×En):=aF (F U) λ p=>aF (op p.1) λ d=>some (d,p.2)
def e2(op:D->D->Option D)(F G:FE)(U:En):Option (D×En):=aF (F U) λ p=>aF (G p.2) λ q=>aF (op p.1 q.1) λ d=>some (d,q.2)
noncomputable def jN:D->Option Bool
 |.bl b=>some b
 |_=>none
def e3(op J:D->D->Option D)(F G σ:FE)(U:En):Option (D×En):=aF (F U) λ p=>aF (G p.2) λ q=>aF (op p.1 q.1) λ z=>aF (jN z) λ b=>
 if b=true then aF (σ q.2) λ r=>aF (J q.1 r.1) λ d=>some (d,r.2)else some (.bl false,q.2)
def aN(U:En):Option (List D×En):=some ([],U)
def aC(F:FE)(A:FA)(U:En):Option (List D×En):=aF (F U) λ p=>aF (A p.2) λ q=>some (p.1::q.1,q.2)
def bZ(A:FA)(U:En):Option (D×En):=aF (A U) λ p=>if p.1.length<=1000 then some (.tup p.1,p.2)else none
def eK(A:FA)(U:En):Option (D×En):=aF (A U) λ p=>if p.1.length<=1000 then some (.lst p.1,p.2)else none
def eF(g:List D->Option D)(A:FA)(U:En):Option (D×En):=aF (A U) λ p=>aF (g p.1) λ d=>some (d,p.2)
def sL(t:Ty)(F:FE)(U:En):Option (D×En):=aF (F U) λ p=>some (.bl (lD t p.1),p.2)
abbrev FO:=En->Option (Option Int×En)
def oN(U:En):Option (Option Int×En):=some (none,U)
def oS(F:FE)(U:En):Option (Option Int×En):=aF (F U) λ p=>aF (pF p.1) λ i=>some (some i,p.2)
def tB(F:FE)(U:En):Option (Bool×En):=aF (F U) λ p=>aF (jN p.1) λ b=>some (b,p.2)
def tV(F:FE)(U:En):Option (Bool×En):=aF (F U) λ p=>aF (nj p.1) λ b=>some (b,p.2)
def b_(T ρ:FT)(U:En):Option (Bool×En):=aF (T U) λ p=>if p.1=true then ρ p.2 else some (false,p.2)
def fq(T ρ:FT)(U:En):Option (Bool×En):=aF (T U) λ p=>if p.1=true then some (true,p.2)else ρ p.2
def eH(T:FT)(U:En):Option (Bool×En):=aF (T U) λ p=>some (!p.1,p.2)
def dA(U:En):Option (Bool×En):=some (true,U)
def gX(T:FT)(F G:FE)(U:En):Option (D×En):=aF (T U) λ p=>if p.1=true then F p.2 else G p.2
def l_(F G:FE)(U:En):Option (D×En):=aF (F U) λ p=>aF (jN p.1) λ b=>if b=true then G p.2 else some (.bl false,p.2)
def nB(F G:FE)(U:En):Option (D×En):=aF (F U) λ p=>aF (jN p.1) λ b=>if b=true then some (.bl true,p.2)else G p.2
noncomputable def qD:Option Sl->Option Sl
 |some (.im d)=>some (.im d)
 |_=>none
def fQ(U:En):List Nat->Option En
 |[]=>some []
 |j::js=>aF (qD U[j]?) λ s=>aF (fQ U js) λ r=>some (s::r)
theorem Mv(U:En)(j:Nat)(js:List Nat):fQ U (j::js)=aF (qD U[j]?) λ s=>aF (fQ U js) λ r=>some (s::r):=rfl
def dw(T:FT)(F:FE)(fr:En):List D->Option (List D)
 |[]=>some []
 |d::r=>aF (T (.im d::fr)) λ p=>if p.1=true then aF (F p.2) λ q=>aF (dw T F fr r) λ t=>some (q.1::t)else dw T F fr r
theorem El(T:FT)(F:FE)(fr:En):dw T F fr []=some []:=rfl
theorem F8(T:FT)(F:FE)(fr:En)(d:D)(r:List D):dw T F fr (d::r)=aF (T (.im d::fr)) λ p=>if p.1=true then aF (F p.2) λ q=>aF (dw T F fr r) λ t=>some (q.1::t)else dw T F fr r:=rfl
noncomputable def iy(c:Nat):Str:=⟨#[c]⟩
def kh(z:Str):List D:=z.cps.toList.map λ c=>.str (iy c)
def items:D->Option (List D)
 |.lst xs=>some xs
 |.tup xs=>some xs
 |.str z=>some (kh z)
 |_=>none
def iT(js:List Nat)(I:FE)(T:FT)(F:FE)(U:En):Option (D×En):=aF (I U) λ p=>aF (items p.1) λ xs=>aF (fQ p.2 js) λ fr=>aF (dw T F fr xs) λ ys=>if xs.length<=sizeLine then some (.lst ys,p.2)else none
def sN(U:En):Option bM:=some (.nx U)
def Kg(G:FS):bM->Option bM
 |.nx ρ'=>G ρ'
 |.rt d U=>some (.rt d U)
 |.bk U=>some (.bk U)
 |.ct U=>some (.ct U)
def aM(F G:FS)(U:En):Option bM:=aF (F U) λ r=>Kg G r
def bC(i:Nat)(F:FE)(U:En):Option bM:=aF (F U) λ p=>some (.nx (p.2.set i (.im p.1)))
def kz:List Nat->List D->En->En
 |i::is,d::ds,U=>kz is ds (U.set i (.im d))
 |_,_,U=>U
theorem Ow(i:Nat)(is:List Nat)(d:D)(ds:List D)(U:En):kz (i::is) (d::ds) U=kz is ds (U.set i (.im d)):=rfl
theorem O7(ds:List D)(U:En):kz [] ds U=U:=by cases ds<;>rfl
noncomputable def Ar:D->Option (List D)
 |.tup xs=>some xs
 |.lst xs=>some xs
 |_=>none
def gN(i:Nat)(d:D)(U:En):Option En:=some (U.set i (.im d))
def gT(is:List Nat)(d:D)(U:En):Option En:=aF (Ar d) λ xs=>if xs.length=is.length then some (kz is xs U)else none
def sE(is:List Nat)(F:FE)(U:En):Option bM:=aF (F U) λ p=>aF (gT is p.1 p.2) λ ρ'=>some (.nx ρ')
def bP(T:FT)(F G:FS)(U:En):Option bM:=aF (T U) λ p=>if p.1=true then F p.2 else G p.2
def bD(F:FE)(U:En):Option bM:=aF (F U) λ p=>some (.rt p.1 p.2)
def pT(G:FS):bM->Option bM
 |.nx U=>G U
 |.ct U=>G U
 |.bk U=>some (.nx U)
 |.rt d U=>some (.rt d U)
def cK(g:D->En->Option En)(B:FS):List D->FS
 |[],U=>some (.nx U)
 |d::r,U=>aF (g d U) λ q=>aF (B q) λ z=>pT (cK g B r) z
theorem Ed(g:D->En->Option En)(B:FS)(U:En):cK g B [] U=some (.nx U):=rfl
theorem FW(g:D->En->Option En)(B:FS)(d:D)(r:List D)(U:En):cK g B (d::r) U=aF (g d U) λ q=>aF (B q) λ z=>pT (cK g B r) z:=rfl
def jM(g:D->En->Option En)(F:FE)(B:FS)(U:En):Option bM:=aF (F U) λ p=>aF (items p.1) λ xs=>cK g B xs p.2
noncomputable def eL(lo:Int):Nat->List D
 |0=>[]
 |n+1=>.int lo::eL (lo+1) n
def l7(F:FE)(U:En):Option (List D×En):=aF (F U) λ p=>aF (pF p.1) λ j=>if -(2^62)<=j/\j<2^62 then some (eL 0 j.toNat,p.2)else none
def lX(g:D->En->Option En)(R:FA)(B:FS)(U:En):Option bM:=aF (R U) λ p=>cK g B p.1 p.2
def iX(T:FT)(B:FS):Nat->FS
 |0,_=>none
 |n+1,U=>aF (T U) λ p=>if p.1=true then aF (B p.2) λ z=>pT (iX T B n) z else some (.nx p.2)
theorem MQ(T:FT)(B:FS)(n:Nat)(U:En):iX T B (n+1) U=aF (T U) λ p=>if p.1=true then aF (B p.2) λ z=>pT (iX T B n) z else some (.nx p.2):=rfl
def rX(q:En->Nat)(T:FT)(B:FS)(U:En):Option bM:=iX T B (q U) U
def sv(A:FA)(U:En):Option (List D×En):=aF (A U) λ p=>if p.1.length<=1000 then some p else none
def lA(i:Nat)(A:FA)(U:En):Option bM:=aF (A U) λ p=>some (.nx (p.2.set i (.ow false (.lst p.1))))
noncomputable def jE:Option Sl->Option (List D)
 |some (.ow false (.lst ds))=>some ds
 |_=>none
def iR(i:Nat)(F:FE)(U:En):Option bM:=aF (jE U[i]?) λ _=>aF (F U) λ p=>aF (jE p.2[i]?) λ ds=>if ds.length<1000000 then some (.nx (p.2.set i (.ow false (.lst (ds++[p.1])))))else none
def frz(i:Nat)(U:En):En:=match U[i]? with
 |some (.ow false (.lst ds))=>U.set i (.im (.lst ds))
 |_=>U
def i8(i:Nat)(F:FS)(U:En):Option bM:=F (frz i U)
noncomputable def vH:bM->Option D
 |.rt d _=>some d
 |.nx _=>some .non
 |_=>none
def c9(n k:Nat)(B:FS)(ds:List D):Option D:=if ds.length=n then aF (B (ds.map .im++List.replicate k .no)) λ r=>vH r else none
end Fx
namespace Fx
open PySem PySem.Spec PyProof.Rows L2
mutual
noncomputable def aS(K:Frag)(H:Hp):D->V->Prop
 |.non,v=>v=.non
 |.bl b,v=>v=.bl b
 |.int i,v=>v=.int i
 |.str x,v=>v=.str x
 |.tup ds,v=>∃a vs,v=.ref a/\dH K H a vs/\aB K H ds vs
 |.lst ds,v=>∃a vs,v=.ref a/\c7 K H a vs/\aB K H ds vs
 |.opq,v=>∃a aH,v=.ref a/\H a=some (.dK aH)
 |.dct ks ds,v=>∃a o vs,v=.ref a/\H a=some (.frz o (.dK ((ks.map Sum.inr).zip vs)))/\aB K H ds vs/\ks.length=ds.length
noncomputable def aB(K:Frag)(H:Hp):List D->List V->Prop
 |[],vs=>vs=[]
 |d::ds,vs=>∃v r,vs=v::r/\aS K H d v/\aB K H ds r
end
theorem aD.rd(e:aD H H')(h:Rd H a u):Rd H' a u:=by grind[aD,Rd]
theorem aD.seqT{K:Frag}(e:aD H H')(h:dH K H a xs):dH K H' a xs:=by
 rcases h with h|h
 .exact .inl (aD.rd e h)
 .exact .inr h
section
variable{K:Frag}
mutual
theorem aS.mono(e:aD H H'):∀(d:D){v:V},aS K H d v->aS K H' d v
 |.non,_,h=>h
 |.bl _,_,h=>h
 |.int _,_,h=>h
 |.str _,_,h=>h
 |.tup ds,_,h=>by
  unfold aS at h⊢;obtain⟨a,vs,q,s,r⟩:=h;exact⟨a,vs,q,aD.seqT e s,aB.mono e ds r⟩
 |.lst ds,_,h=>by
  unfold aS at h⊢;obtain⟨a,vs,q,s,r⟩:=h;exact⟨a,vs,q,aD.seq e s,aB.mono e ds r⟩
 |.opq,_,h=>by
  unfold aS at h⊢;obtain⟨a,aH,q,s⟩:=h;exact⟨a,aH,q,e _ _ s⟩
 |.dct ks ds,_,h=>by
  unfold aS at h⊢;obtain⟨a,o,vs,q,s,r,l⟩:=h;exact⟨a,o,vs,q,e _ _ s,aB.mono e ds r,l⟩
theorem aB.mono(e:aD H H'):∀(ds:List D){vs:List V},aB K H ds vs->aB K H' ds vs
 |[],_,h=>h
 |d::ds,_,h=>by
  unfold aB at h⊢;obtain⟨v,r,q,s,t⟩:=h;exact⟨v,r,q,aS.mono e d s,aB.mono e ds t⟩
end
theorem aB.length:∀{ds:List D}{vs:List V},aB K H ds vs->ds.length=vs.length:=by intro a;induction a<;>grind[aB]
theorem aB.get:∀{ds:List D}{vs:List V}{i:Nat}{d:D},aB K H ds vs->ds[i]?=some d->∃v,vs[i]?=some v/\aS K H d v
 |[],_,_,_,_,e=>by simp at e
 |d::ds,_,0,_,h,e=>by
  obtain⟨v,r,rfl,s,_⟩:=h;simp at e;subst e;exact⟨v,rfl,s⟩
 |d::ds,_,i+1,c,h,e=>by
  obtain⟨v,r,rfl,_,t⟩:=h;obtain⟨w,a,b⟩:=aB.get t (by simpa using e);exact⟨w,by simpa using a,b⟩
theorem aB.app:∀{ds es:List D}{vs q:List V},aB K H ds vs->aB K H es q->aB K H (ds++es) (vs++q)
 |[],_,_,_,h,h'=>by rw[h];exact h'
 |d::ds,es,_,q,h,h'=>by
  obtain⟨v,r,rfl,s,t⟩:=h;exact⟨v,r++q,rfl,s,aB.app t h'⟩
theorem aB.take:∀{ds:List D}{vs:List V}(n:Nat),aB K H ds vs->aB K H (ds.take n) (vs.take n)
 |[],_,n,h=>by rw[h];simp[aB]
 |d::ds,vs,0,h=>by simp[aB]
 |d::ds,_,n+1,h=>by
  obtain⟨v,r,rfl,s,t⟩:=h;exact bE v (r.take n) rfl s (aB.take n t)
theorem aB.drop:∀{ds:List D}{vs:List V}(n:Nat),aB K H ds vs->aB K H (ds.drop n) (vs.drop n)
 |[],_,n,h=>by rw[h];simp[aB]
 |d::ds,vs,0,h=>by simpa using h
 |d::ds,_,n+1,h=>by
  obtain⟨v,r,rfl,s,t⟩:=h;simpa using aB.drop n t
theorem aB.one(h:aS K H d v):aB K H [d] [v]:=by exact bE v ([]) rfl h rfl
theorem aB.cons(h:aS K H d v)(t:aB K H ds vs):aB K H (d::ds) (v::vs):=by exact bE v vs rfl h t
theorem aB.nil_:aB K H [] []:=by rfl
end
structure FC where
 Hi:Hp
 He:Hp
 Ap:List Addr
def dG(K:Frag)(H0 H:Hp)(a:Addr):MO->Prop
 |.lst ds=>∃vs,H a=some (.lst vs)/\aB K H0 ds vs
 |.dic aO=>∃q vs,H a=some (.dK ((q.map Sum.inr).zip vs))/\q=aO.map (·.1)/\aB K H0 (aO.map (·.2)) vs
structure RS(K:Frag)(c:FC)(H0 H:Hp)(U:En)(L:L2.St):Prop where
 same:aD H0 H
 init:aD c.Hi H0
 fresh:∀b o,H0 b=some o->c.Hi b=some o\/c.He b=none
 keep:∀b o,c.He b=some o->b∉c.Ap->H b=some o
 apt:∀a∈c.Ap,H a≠none
 len:U.length=L.length
 im:∀(i:Nat)(d:D),U[i]?=some (.im d)->∃v,L[i]?=some (some v)/\aS K H0 d v
 ow:∀(i:Nat)(b:Bool)(o:MO),U[i]?=some (.ow b o)->∃a,L[i]?=some (some (.ref a))/\H0 a=none/\(if b=true then a∈c.Ap else c.He a=none)/\dG K H0 H a o
 ne:∀(i j:Nat)(b b':Bool)(o o':MO)(a:Addr),U[i]?=some (.ow b o)->U[j]?=some (.ow b' o')->L[i]?=some (some (.ref a))->L[j]?=some (some (.ref a))->i=j
section
variable{K:Frag}
theorem dG.some(h:dG K H0 H a o):∃u,H a=Option.some u:=by
 cases o with
 |lst b=>obtain⟨c,e,_⟩:=h;exact⟨_,e⟩
 |dic b=>refine cX h λ q c e _=>?_;exact⟨_,e⟩
theorem dG.step(h:dG K H0 H a o)(J:aD H0 aR)(s:∀u,H a=Option.some u->H' a=Option.some u):dG K aR H' a o:=by
 cases o with
 |lst c=>obtain⟨b,e,r⟩:=h;exact⟨b,s _ e,aB.mono J c r⟩
 |dic c=>refine cF h λ Y b e q r=>?_;exact bE Y b (s _ e) q (aB.mono J _ r)
structure bR(H0 H aR H':Hp):Prop where
 s0:aD H0 aR
 s:aD H H'
 s':aD aR H'
 fr:∀b o,aR b=some o->H0 b=some o\/H b=none
theorem RS.after(R:RS K c H0 H U L)(S:bR H0 H aR H'):RS K c aR H' U L:=by
 refine⟨S.s',R.init.trans S.s0,λ b o e=>?_,λ b o e n=>S.s _ _ (R.keep b o e n),λ a Y e=>?_,R.len,λ i d e=>?_,λ i b o e=>?_,R.ne⟩
 .rcases S.fr b o e with h|h
  .exact R.fresh b o h
  .refine .inr ?_;cases q:c.He b with
   |none=>rfl
   |some u=>
    by_cases J:b∈c.Ap
    .exact absurd h (R.apt b J)
    .rw[R.keep b u q J]at h;simp at h
 .cases q:H a with
  |none=>exact R.apt a Y q
  |some u=>rw[S.s _ _ q]at e;simp at e
 .obtain⟨v,a,b⟩:=R.im i d e;exact⟨v,a,aS.mono S.s0 d b⟩
 .refine dE (R.ow i b o e) λ a x y z w=>?_;refine gj a x ?_ z (w.step S.s0 λ u q=>S.s _ _ q);obtain⟨u,q⟩:=w.some;cases t:aR a with
  |none=>rfl
  |some f=>
   rcases S.fr a f t with h|h
   .rw[y]at h;simp at h
   .rw[q]at h;simp at h
theorem bR.trans(x:bR H0 H aR H')(y:bR aR H' A B):bR H0 H A B:=by
 refine⟨x.s0.trans y.s0,x.s.trans y.s,y.s',λ b o e=>?_⟩;rcases y.fr b o e with h|h
 .exact x.fr b o h
 .exact .inr (x.s.free h)
theorem bR.alloc(s:aD H0 H)(J:H p=none):bR H0 H (upd H0 p o) (upd H p o):=by
 have Y:=s.free J;refine⟨λ b u e=>by rw[a_ (iw e Y)];exact e,λ b u e=>by rw[a_ (iw e J)];exact e,λ b u e=>?_,λ b u e=>?_⟩
 .by_cases q:b=p
  .grind[bT]
  .rw[a_ q]at e⊢;exact s _ _ e
 .grind[a_]
end
def tE(K:Frag)(F:FE):TE:=λ L H Q=>∃c H0 U d ρ',RS K c H0 H U L/\F U=some (d,ρ')/\∀v aR H',aD H0 aR->RS K c aR H' ρ' L->aS K aR d v->Q v H'
def iK(K:Frag)(F:FT):TT:=λ L H Q=>∃c H0 U b ρ',RS K c H0 H U L/\F U=some (b,ρ')/\∀aR H',aD H0 aR->RS K c aR H' ρ' L->Q b H'
def KD(K:Frag)(F:FA):TA:=λ L H Q=>∃c H0 U ds ρ',RS K c H0 H U L/\F U=some (ds,ρ')/\∀vs aR H',aD H0 aR->RS K c aR H' ρ' L->aB K aR ds vs->Q vs H'
def Wu(K:Frag)(F:FO):TO:=λ L H Q=>∃c H0 U o ρ',RS K c H0 H U L/\F U=some (o,ρ')/\∀aR H',aD H0 aR->RS K c aR H' ρ' L->Q o H'
def XE(X:Cx)(e:Expr)(F:FE):Prop:=PE X e (tE X.K F)
def XT(X:Cx)(e:Expr)(F:FT):Prop:=PT X e (iK X.K F)
def XW(X:Cx)(e:Expr)(F:FT):Prop:=PW X e (iK X.K F)
def XA(X:Cx)(es:List Expr)(F:FA):Prop:=PA X es (KD X.K F)
def XO(X:Cx)(e:Option Expr)(F:FO):Prop:=PO X e (Wu X.K F)
theorem aL(h:aF x f=some b):∃a,x=some a/\f a=some b:=by
 cases x with
 |none=>cases h
 |some a=>exact⟨a,rfl,h⟩
theorem PE.wk(h:PE X e t)(w:∀L H Q,t' L H Q->t L H Q):PE X e t':=λ aA s L H Q I q=>h aA s L H Q I (w L H Q q)
theorem PT.wk(h:PT X e t)(w:∀L H Q,t' L H Q->t L H Q):PT X e t':=λ aA s L H Q I q=>h aA s L H Q I (w L H Q q)
theorem PW.wk(h:PW X e t)(w:∀L H Q,t' L H Q->t L H Q):PW X e t':=λ J aA s L H Q I q=>h J aA s L H Q I (w L H Q q)
theorem PA.wk(h:PA X e t)(w:∀L H Q,t' L H Q->t L H Q):PA X e t':=λ pos aA s L H Q I q=>h pos aA s L H Q I (w L H Q q)
theorem PS.wk(h:PS X e t)(w:∀D L H,t' D L H->t D L H):PS X e t':=λ aA s L H D I q=>h aA s L H D I (w D L H q)
theorem d8.wk(h:d8 X e t)(w:∀D L H,t' D L H->t D L H):d8 X e t':=λ aA s L H D I q=>h aA s L H D I (w D L H q)
section
theorem xv(i:Nat)(hN:X.N[i]?=some x:=by rfl)(Z:fh X.env.scope x:=by first|exact Or.inl rfl|exact Or.inr (Or.inl rfl)|exact Or.inr (Or.inr rfl))(hd:cH x:=by decide)(Y:er x:=by decide):XE X (.Name x pos) (eV i):=
 PE.wk (eI hN Z hd Y) λ L H Q J=>by
  refine bL J λ c H0 U d g R f q=>?_;unfold eV at f;cases z:U[i]? with
  |none=>rw[z]at f;cases f
  |some e=>
   rw[z]at f;cases e with
   |no=>cases f
   |ow b o=>cases f
   |im h=>
    have a:=f;cases a;obtain⟨v,e1,e2⟩:=R.im i _ z;exact⟨v,e1,q v H0 H (aD.refl _) R e2⟩
theorem A3:XE X e u4:=λ aA s L H Q I J=>by refine bL J λ c H0 U d a R f q=>?_;cases f
theorem rL(h:eC d U=some (d',ρ')):d'=d/\ρ'=U:=by have h':=h;cases h';exact⟨rfl,rfl⟩
theorem eU:XE X (.Constant (.int i) j pos) (zI i):=PE.wk qY λ L H Q J=>by
 refine bL J λ c H0 U d a R f q=>?_;obtain⟨rfl,rfl⟩:=rL f;exact q _ H0 H (aD.refl _) R (by rfl)
theorem WD:XE X (.Constant (.bool i) j pos) (eC (.bl i)):=PE.wk QZ λ L H Q J=>by
 refine bL J λ c H0 U d a R f q=>?_;obtain⟨rfl,rfl⟩:=rL f;exact q _ H0 H (aD.refl _) R (by rfl)
theorem J4:XE X (.Constant .none j pos) (eC .non):=PE.wk Ta λ L H Q J=>by
 refine bL J λ c H0 U d a R f q=>?_;obtain⟨rfl,rfl⟩:=rL f;exact q _ H0 H (aD.refl _) R (by rfl)
theorem mz:XE X (.Constant (.str x) j pos) (eC (.str x)):=PE.wk rJ λ L H Q J=>by
 refine bL J λ c H0 U d a R f q=>?_;obtain⟨rfl,rfl⟩:=rL f;exact q _ H0 H (aD.refl _) R (by rfl)
abbrev wQ(K:Frag)(c:FC)(H0:Hp)(U:En)(L:L2.St)(d:D)(Q:VK):Prop:=∀v aR H',aD H0 aR->RS K c aR H' U L->aS K aR d v->Q v H'
def iN(K:Frag)(r:R2)(op:D->D->Option D):Prop:=∀(c:FC)(H0 H:Hp)(U:En)(L:L2.St)(x y d:D)(q J:V)(Q:VK),RS K c H0 H U L->aS K H0 x q->aS K H0 y J->op x y=some d->wQ K c H0 U L d Q->r q J H Q
def l5(X:Cx)(op:Operator)(f:D->D->Option D):Prop:=∃r,du X (binaryOp op) r/\iN X.K r f
def hF(X:Cx)(op:CmpOp)(f:D->D->Option D):Prop:=∃r,du X (compareOp op) r/\iN X.K r f
theorem yU(h:e2 op F G U=some (d,ρ')):∃x q y,F U=some (x,q)/\G q=some (y,ρ')/\op x y=some d:=by obtain⟨⟨x,q⟩,a,h⟩:=aL h;obtain⟨⟨y,J⟩,b,h⟩:=aL h;obtain⟨z,Y,h⟩:=aL h;have h':=h;cases h';exact⟨x,q,y,a,b,Y⟩
theorem u9{K:Frag}(o:iN K r op)(h:tE K (e2 op F G) L H Q):tJ r (tE K F) (tE K G) L H Q:=by
 refine bL h λ c H0 U d a R f q=>?_;refine d7 (yU f) λ x J y j k Y=>?_;refine bA c H0 U x J R j λ s H1 Hh n g l=>?_;refine bA c H1 J y a g k λ t e cJ b R2 m=>?_;exact o c e cJ a L x y d s t Q R2 (aS.mono b x l) m Y λ v Z dC p i r3=>q v Z dC (n.trans (b.trans p)) i r3
theorem xb(o:l5 X op f)(q:XE X a F)(J:XE X b G):XE X (.BinOp a op b pos) (e2 f F G):=by
 obtain⟨r,c,d⟩:=o;exact PE.wk (yM c q J) λ L H Q h=>u9 d h
theorem Ea(o:hF X op f)(J:XE X a F)(Y:XE X b G)(q:behindInMarks op b=false:=by first|exact Am _|with_unfolding_all rfl):XE X (.Compare a [op] [b] pos) (e2 f F G):=by
 obtain⟨r,c,d⟩:=o;exact PE.wk (Oe c J Y q) λ L H Q h=>u9 d h
theorem yZ{K:Frag}(w:∀Q,tE K F L H Q->t L H Q)(h:iK K (tB F) L H Q):yY t L H Q:=by
 obtain⟨c,H0,U,b,l,R,f,q⟩:=h;obtain⟨⟨d,J⟩,g,f⟩:=aL f;obtain⟨m,a,f⟩:=aL f;have Z:=f;cases Z;refine w _ ⟨c,H0,U,d,_,R,g,λ v H1 Hh j Y i=>?_⟩;cases d with
 |bl k=>
  have e:=qi a;exact⟨k,i,by rw[e];exact q H1 Hh j Y⟩
 |_=>cases a
theorem xt(o:hF X op f)(J:XE X a F)(Y:XE X b G)(q:behindInMarks op b=false:=by first|exact Am _|with_unfolding_all rfl):XT X (.Compare a [op] [b] pos) (tB (e2 f F G)):=by
 obtain⟨r,c,d⟩:=o;exact PT.wk (GS c J Y q) λ L H Q h=>yZ (λ Q h=>u9 d h) h
theorem MW{K:Frag}(o:iN K r op)(o':iN K r' Y)(h:tE K (e3 op Y F G σ) L H Q):EE r r' (tE K F) (tE K G) (tE K σ) L H Q:=by
 refine bL h λ c H0 U d ρ' R f q=>?_;obtain⟨⟨x,Z⟩,I,f⟩:=aL f;obtain⟨⟨y,J⟩,M,f⟩:=aL f;obtain⟨z,N,f⟩:=aL f;obtain⟨k,l,f⟩:=aL f;refine bA c H0 U x Z R I λ X H1 Hh p C S=>?_;refine bA c H1 Z y J C M λ t u cJ b R2 n=>?_;refine o c u cJ J L x y z X t _ R2 (aS.mono b x S) n N λ v i dC g j r3=>?_;cases z with
 |bl m=>
  have e:=qi l;subst e;refine⟨m,r3,?_⟩;cases m with
  |false=>
   rw[if_neg zj]at f⊢;have a:=f;cases a;exact q _ i dC (p.trans (b.trans g)) j (by rfl)
  |true=>
   rw[if_pos rfl]at f⊢;obtain⟨⟨w,aa⟩,O,f⟩:=aL f;obtain⟨d',P,f⟩:=aL f;have a:=f;cases a;refine bA c i J w _ j O λ W A Hh4 s D T=>?_;exact o' c A Hh4 _ L y w d t W Q D (aS.mono s y (aS.mono g y n)) T P λ v B Hh5 V E ρ=>q v B Hh5 (p.trans (b.trans (g.trans (s.trans V)))) E ρ
 |_=>cases l
theorem WM{op q:CmpOp}{f Z:D->D->Option D}{m:Expr}(o:hF X op f)(o':hF X q Z)(ha:XE X a F)(hb:XE X b G)(hc:XE X m σ)(hm:lastMarks [op,q] [b,m]=false):XT X (.Compare a [op,q] [b,m] pos) (tB (e3 f Z F G σ)):=by
 obtain⟨r,c,d⟩:=o;obtain⟨e,J,Y⟩:=o';exact PT.wk (M4 c J ha hb hc hm) λ L H Q h=>yZ (λ Q h=>MW d Y h) h
theorem WH(hc:XT X c T)(ha:XE X a F)(hb:XE X b G):XE X (.IfExp c a b pos) (gX T F G):=PE.wk (M9 hc ha hb) λ L H Q Y=>by
 refine bL Y λ c H0 U d e R f q=>?_;obtain⟨⟨k,J⟩,l,f⟩:=aL f;refine bA c H0 U k J R l λ H1 Hh j i=>?_;cases k with
 |true=>
  rw[if_pos rfl]at f⊢;exact bA c H1 J d e i f λ v g cJ h R2 Z=>q v g cJ (j.trans h) R2 Z
 |false=>
  rw[if_neg zj]at f⊢;exact bA c H1 J d e i f λ v g cJ h R2 Z=>q v g cJ (j.trans h) R2 Z
theorem SJ(h:XE X a F):XE X (.BoolOp op [a] pos) F:=S_ h
variable{rest:List Expr}
theorem Ua(ha:XE X a F)(hb:XE X (.BoolOp .And (b::rest) pos) G):XE X (.BoolOp .And (a::b::rest) pos) (l_ F G):=PE.wk (Tc ha hb) λ L H Q Y=>by
 refine bL Y λ c H0 U d g R f q=>?_;obtain⟨⟨z,J⟩,n,f⟩:=aL f;obtain⟨k,h,f⟩:=aL f;refine bA c H0 U z J R n λ v H1 Hh j Z o=>?_;cases z with
 |bl i=>
  have e:=qi h;subst e;refine⟨i,o,?_⟩;cases i with
  |true=>
   rw[if_pos rfl]at f⊢;exact bA c H1 J d g Z f λ v l cJ r R2 p=>q v l cJ (j.trans r) R2 p
  |false=>
   rw[if_neg zj]at f⊢;have m:=f;cases m;exact q _ H1 Hh j Z (by rfl)
 |_=>cases h
theorem WK(ha:XE X a F)(hb:XE X (.BoolOp .Or (b::rest) pos) G):XE X (.BoolOp .Or (a::b::rest) pos) (nB F G):=PE.wk (QY ha hb) λ L H Q Y=>by
 refine bL Y λ c H0 U d g R f q=>?_;obtain⟨⟨z,J⟩,n,f⟩:=aL f;obtain⟨k,h,f⟩:=aL f;refine bA c H0 U z J R n λ v H1 Hh j Z o=>?_;cases z with
 |bl i=>
  have e:=qi h;subst e;refine⟨i,o,?_⟩;cases i with
  |true=>
   rw[if_pos rfl]at f⊢;have m:=f;cases m;exact q _ H1 Hh j Z (by rfl)
  |false=>
   rw[if_neg zj]at f⊢;exact bA c H1 J d g Z f λ v l cJ r R2 p=>q v l cJ (j.trans r) R2 p
 |_=>cases h
theorem xw(h:XW X a T):XT X a T:=PW.pt h
theorem KO(q:XT X a T):XW X (.BoolOp .And [a] pos) T:=N3 q
theorem o8(q:XT X a T):XW X (.BoolOp .Or [a] pos) T:=S1 q
theorem Dc(ha:XT X a T)(hb:XW X (.BoolOp .And (b::rest) pos) ρ):XW X (.BoolOp .And (a::b::rest) pos) (b_ T ρ):=PW.wk (S2 ha hb) λ L H Q Y=>by
 obtain⟨c,H0,U,k,d,R,f,q⟩:=Y;obtain⟨⟨e,J⟩,j,f⟩:=aL f;refine⟨c,H0,U,e,J,R,j,λ H1 Hh g Z=>?_⟩;cases e with
 |true=>
  rw[if_pos rfl]at f⊢;exact⟨c,H1,J,k,d,Z,f,λ h cJ l R2=>q h cJ (g.trans l) R2⟩
 |false=>
  rw[if_neg zj]at f⊢;have i:=f;cases i;exact q H1 Hh g Z
theorem o6(ha:XT X a T)(hb:XW X (.BoolOp .Or (b::rest) pos) ρ):XW X (.BoolOp .Or (a::b::rest) pos) (fq T ρ):=PW.wk (QW ha hb) λ L H Q Y=>by
 refine bL Y λ c H0 U k d R f q=>?_;obtain⟨⟨e,J⟩,j,f⟩:=aL f;refine bA c H0 U e J R j λ H1 Hh g Z=>?_;cases e with
 |true=>
  rw[if_pos rfl]at f⊢;have i:=f;cases i;exact q H1 Hh g Z
 |false=>
  rw[if_neg zj]at f⊢;exact bA c H1 J k d Z f λ h cJ l R2=>q h cJ (g.trans l) R2
theorem o7(ha:XT X a T):XT X (.UnaryOp .Not a pos) (eH T):=PT.wk (S4 ha) λ L H Q J=>by
 refine bL J λ c H0 U k h R f q=>?_;obtain⟨⟨e,Y⟩,d,f⟩:=aL f;have Z:=f;cases Z;exact bA c H0 U e _ R d λ H1 Hh g b=>q H1 Hh g b
theorem SR{K:Frag}(s:aD H0 H)(r:aS K H0 d v)(h:nj d=some k):AO K v H k:=by
 cases d with
 |non=>unfold aS at r;subst r;obtain rfl:=br h;rfl
 |bl b=>unfold aS at r;subst r;obtain rfl:=br h;rfl
 |int i=>unfold aS at r;subst r;obtain rfl:=br h;rfl
 |str x=>cases h
 |opq=>cases h
 |dct J a=>cases h
 |tup c=>
  obtain⟨p,a,rfl,q,t⟩:=r;have e:=qi h;have e2:c.isEmpty=a.isEmpty:=by rw[yr,jt,jt,t.length]
  exact .inr (.inl ⟨a,aD.seqT s q,by grind⟩)
 |lst c=>
  obtain⟨p,a,rfl,q,t⟩:=r;have e:=qi h;have e2:c.isEmpty=a.isEmpty:=by rw[yr,jt,jt,t.length]
  exact .inl ⟨a,aD.seq s q,by grind⟩
theorem lP(ha:XE X a F)(he:∀J,isTrue a X.env J=(do let v<-J;standAt a.pos;holding [v] (truthy v))):XT X a (tV F):=PT.wk (M3 ha he) λ L H Q Y=>by
 refine bL Y λ c H0 U k l R f q=>?_;obtain⟨⟨d,Z⟩,g,f⟩:=aL f;obtain⟨m,h,f⟩:=aL f;have e:=f;cases e;exact bA c H0 U d _ R g λ v H1 Hh j b i=>⟨k,SR b.same i h,q H1 Hh j b⟩
theorem fb:XA X [] aN:=PA.wk jD λ L H Q J=>by
 refine bL J λ c H0 U b a R f q=>?_;have Y:=f;cases Y;exact q [] H0 H (aD.refl _) R aB.nil_
theorem d3(ha:XE X e F)(hr:XA X es A)(hs:starEach (e::es) X.env=(false,eval e X.env)::starEach es X.env:=by rfl):XA X (e::es) (aC F A):=PA.wk (gq ha hr hs) λ L H Q J=>by
 refine bL J λ c H0 U o n R f q=>?_;obtain⟨⟨d,Y⟩,i,f⟩:=aL f;obtain⟨⟨r,Z⟩,j,f⟩:=aL f;have h:=f;cases h;refine bA c H0 U d Y R i λ v H1 Hh m g k=>?_;refine bA c H1 Y r _ g j λ p b cJ a R2 l=>?_;exact q _ b cJ (m.trans a) R2 (aB.cons (aS.mono a d k) l)
theorem y_(h:n<=1000):n<=sizeLine:=Zq (wW h)
theorem s_(h:XA X es A):XE X (.Tuple es x1 pos) (bZ A):=PE.wk (vb h) λ L H Q J=>by
 refine bL J λ c H0 U d k R f q=>?_;obtain⟨⟨a,l⟩,g,f⟩:=aL f;split at f
 .rename_i i;cases f;refine bA c H0 U a _ R g λ e H1 Hh j Y b=>⟨by rw[<-b.length];exact y_ i,λ p Z=>?_⟩
  have S:=bR.alloc (o:=.tup e) Y.same Z;refine q _ _ _ (j.trans S.s0) (Y.after S) ?_;exact bE p e rfl (.inl (.inl bT)) (aB.mono S.s0 a b)
 .simp at f
theorem uq(h:XA X es A):XE X (.List es pos) (eK A):=PE.wk (Fz h) λ L H Q J=>by
 refine bL J λ c H0 U d k R f q=>?_;obtain⟨⟨a,l⟩,g,f⟩:=aL f;split at f
 .rename_i i;cases f;refine bA c H0 U a _ R g λ e H1 Hh j Y b=>⟨by rw[<-b.length];exact y_ i,λ p Z=>?_⟩
  have S:=bR.alloc (o:=.lst e) Y.same Z;refine q _ _ _ (j.trans S.s0) (Y.after S) ?_;exact bE p e rfl (.inl (.inl bT)) (aB.mono S.s0 a b)
 .simp at f
theorem T3:@ny=@iF:=rfl
theorem IM{K:Frag}(r:aB K H ds vs)(h:di ds i=some d):∃v,i_ vs i=some v/\aS K H d v:=by obtain⟨j,a,b⟩:=aL h;obtain⟨v,e1,e2⟩:=r.get b;refine⟨v,?_,e2⟩;unfold i_;rw[<-r.length,<-T3,a];exact e1
theorem PO.wk(h:PO X e t)(w:∀L H Q,t' L H Q->t L H Q):PO X e t':=λ aA s L H Q I q=>h aA s L H Q I (w L H Q q)
theorem KW:XO X none oN:=PO.wk Oa λ L H Q J=>by
 refine bL J λ c H0 U o a R f q=>?_;have Y:=f;cases Y;exact q H0 H (aD.refl _) R
theorem KY(h:XE X e F):XO X (some e) (oS F):=PO.wk (N_ h) λ L H Q J=>by
 refine bL J λ c H0 U o m R f q=>?_;obtain⟨⟨d,Y⟩,g,f⟩:=aL f;obtain⟨i,a,f⟩:=aL f;have b:=f;cases b;refine bA c H0 U d _ R g λ v H1 Hh l Z k=>?_;cases d with
 |int j=>
  have e:=qi a;subst e;exact⟨j,k,q H1 Hh l Z⟩
 |_=>cases a
theorem uE(n d:Nat)(o:Option Int):gU n d o=HT.sIx n d o:=by cases o<;>rfl
theorem yF{K:Frag}(r:aB K H ds vs)(lo hi:Option Int):aB K H (iO ds lo hi) (l6 vs lo hi):=by unfold iO l6;rw[uE,uE,r.length];exact(r.drop _).take _
end
section
variable{K:Frag}
theorem uv(h:∀x y d,f x y=some d->∃i j,x=.int i/\y=.int j/\C i j/\∀H,aS K H d (g i j)):iN K (rI C g) f:=λ c H0 H U L x y d b k Q R a J e q=>by
 obtain⟨i,j,rfl,rfl,Z,Y⟩:=h x y d e;exact ig i j a J Z (q _ H0 H (aD.refl _) R (Y H0))
theorem FF(h:∀x y d,f x y=some d->∃i j,x=.int i/\y=.int j/\∀H,aS K H d (g i j)):iN K (kx g) f:=λ c H0 H U L x y d Z b Q R a J e q=>by
 obtain⟨i,j,rfl,rfl,Y⟩:=h x y d e;exact bE i j a J (q _ H0 H (aD.refl _) R (Y H0))
theorem fw(H:Hp)(i:Int):aS K H (.int i) (.int i):=by rfl
theorem kv(H:Hp)(i:Bool):aS K H (.bl i) (.bl i):=by rfl
theorem bU[Decidable c](h:(if c then some a else none)=some d):c/\a=d:=by grind
theorem Mc:l5 X .Sub fR:=⟨_,Te,FF λ x y d e=>by
 obtain⟨i,j,rfl,rfl,e⟩:=oJ e;obtain rfl:=br e;exact bE _ _ rfl rfl λ H=>fw H _⟩
def iM(i j:Int):Prop:=eZ i j=true
theorem C1(h:kd i=true):Builtin.Int.intBits i<=1000:=by
 have h:=Qb h;unfold Builtin.Int.intBits;split
 .exact ye _
 .rename_i a;have a:i≠0:=by simpa using a
  have q:i.natAbs≠0:=by lia
  have:=(Nat.log2_lt q).mpr h;lia
theorem iM.ok(h:iM i j):IntMulOk i j:=by
 unfold iM eZ at h;simp only[Bool.or_eq_true,zd,Y3]at h;rcases h with(h|h)|⟨a,b⟩
 .exact IntMulOk.of_left (Yx (by lia) (by lia))
 .exact IntMulOk.of_right (Yx (by lia) (by lia))
 .unfold IntMulOk;have J:=C1 a;have q:=C1 b;have:Builtin.Int.intTooBig ((Builtin.Int.intBits i:Int)+(Builtin.Int.intBits j:Int))=false:=by
   refine jg ?_;have:(2000:Int)<=bitsLine:=by decide
   lia
  simp[this]
theorem OE:l5 X .Mult gF:=⟨rI iM λ i j=>.int (i*j),wg λ _ _ _ _ _ _ _ J q=>mul_int q J.ok,uv λ x y d e=>by
 obtain⟨i,j,rfl,rfl,e⟩:=oJ e;obtain⟨h,rfl⟩:=bU e;exact ig _ _ rfl rfl h λ H=>fw H _⟩
def IS(i j:Int):Prop:=jS j=true
theorem R1:l5 X .FloorDiv kG:=⟨rI IS λ i j=>.int (i.fdiv j),wg λ i j _ _ _ _ _ J q=>by
  unfold IS jS at J;simp only[zd,Y3]at J;refine floordiv_int J.1 q (.inl (PyProof.noPylong_of_log2 ?_));have Y:j.natAbs≠0:=by have:=J.1;lia
  have:=(Nat.log2_lt Y).mpr J.2
  lia,uv λ x y d e=>by
 obtain⟨i,j,rfl,rfl,e⟩:=oJ e;obtain⟨h,rfl⟩:=bU e;exact ig _ _ rfl rfl h λ H=>fw H _⟩
theorem v9:l5 X .Mod cu:=⟨_,Oo,uv λ x y d e=>by
 obtain⟨i,j,rfl,rfl,e⟩:=oJ e;obtain⟨h,rfl⟩:=bU e;exact ig _ _ rfl rfl h λ H=>fw H _⟩
theorem Uy:l5 X .Pow vt:=⟨_,Tf,uv λ x y d e=>by
 obtain⟨i,j,rfl,rfl,e⟩:=oJ e;obtain⟨h,rfl⟩:=bU e;exact ig _ _ rfl rfl ⟨h.1,by lia,h.2.2⟩ λ H=>fw H _⟩
def Ig(K:Frag):R2:=λ x y H Q=>∃l b xs zs,x=.ref l/\y=.ref b/\c7 K H l xs/\c7 K H b zs/\xs.length+zs.length<=sizeLine/\∀p,H p=none->Q (.ref p) (upd H p (.lst (xs++zs)))
theorem GZ:du X (binaryOp .Add) (Ig X.K):=by
 intro aA s L H x y v u Q I w z h;obtain⟨l,b,xs,zs,rfl,rfl,m,k,G,q⟩:=h;subst w;subst z;refine aW (I.list m) λ Y r t _=>?_;refine aW (I.list k) λ J d i _=>?_;have E:=r.length;have D:=d.length;obtain⟨⟨j,dd,data,A⟩,c,o,n,hd⟩:=t.isList;obtain⟨⟨C,f,B,g⟩,a,Z,p,hd2⟩:=i.isList;subst o hd Z hd2;have e:Y.toArray++J.toArray=(Y++J).toArray:=by simp
 refine concat_meets ⟨_,c,rfl⟩ ⟨_,a,rfl⟩ noFill_list_add seq_list_add PySem.F.slot_list_add PySem.F.entry_list_add (PySem.F.args_list_add_2 _ _) (list_addW l b Y.toArray J.toArray n p dd f A g (by grind)) ⟨c,a,?_⟩;rw[e];exact bE (.ref _) _ (I.lnew (r.append d) (by grind)) rfl (q _ I.fresh)
def QV(K:Frag):R2:=λ x y H Q=>kx (λ i j=>.int (i+j)) x y H Q\/((∃i j,x=.str i/\y=.str j/\i.length+j.length<=sizeLine/\Q (.str (i++j)) H)\/Ig K x y H Q)
theorem B3:l5 X .Add cw:=⟨QV X.K,nU.or (iI.or GZ),λ c H0 H U L x y d n r Q R a J e q=>by
 cases x with
 |int i=>
  cases y with
  |int j=>
   obtain rfl:=br e;exact .inl ⟨_,_,a,J,q _ H0 H (aD.refl _) R (fw H0 _)⟩
  |_=>cases e
 |str i=>
  cases y with
  |str j=>
   obtain⟨h,rfl⟩:=bU e;exact .inr (.inl ⟨_,_,a,J,h,q _ H0 H (aD.refl _) R (by rfl)⟩)
  |_=>cases e
 |lst m=>
  cases y with
  |lst es=>
   obtain⟨h,rfl⟩:=bU e;obtain⟨p,f,rfl,s,t⟩:=a;obtain⟨k,Y,rfl,l,b⟩:=J;refine .inr (.inr ⟨p,k,f,Y,rfl,rfl,aD.seq R.same s,aD.seq R.same l,by rw[<-t.length,<-b.length];exact h,λ g Z=>?_⟩);have S:=bR.alloc (o:=.lst (f++Y)) R.same Z;refine q _ _ _ S.s0 (R.after S) ?_;exact bE g _ rfl (.inl (.inl bT)) (aB.mono S.s0 _ (t.app b))
  |_=>cases e
 |_=>cases y<;>cases e⟩
theorem T_(ha:XE X a F):XE X (.UnaryOp .USub a pos) (e1 rP F):=PE.wk (QX SN ha) λ L H Q J=>by
 refine bL J λ c H0 U d l R f q=>?_;obtain⟨⟨x,Y⟩,h,f⟩:=aL f;obtain⟨m,b,f⟩:=aL f;have Z:=f;cases Z;refine bA c H0 U x _ R h λ v H1 Hh k g j=>?_;cases x with
 |int i=>
  have e:=qi b;subst e;exact⟨i,j,q _ H1 Hh k g (fw _ _)⟩
 |_=>cases b
theorem vz:iN K (kx λ i j=>.bl (p i j)) (sF p):=FF λ x y d e=>by
 obtain⟨i,j,rfl,rfl,e⟩:=oJ e;cases e;exact⟨_,_,rfl,rfl,λ H=>kv H _⟩
theorem Uw:hF X .Lt hZ:=⟨_,Ra,vz⟩
theorem Uv:hF X .LtE my:=⟨_,Rb,vz⟩
theorem Ut:hF X .Gt kj:=⟨_,Rc,vz⟩
theorem Us:hF X .GtE pP:=⟨_,V4,vz⟩
theorem E4(r:aS K H x v):fy x=decide (v=.non):=by
 cases x with
 |non=>unfold aS at r;subst r;rfl
 |bl b=>unfold aS at r;subst r;rfl
 |int b=>unfold aS at r;subst r;rfl
 |str b=>unfold aS at r;subst r;rfl
 |tup c=>unfold aS at r;obtain⟨p,a,rfl,_⟩:=r;rfl
 |opq=>unfold aS at r;obtain⟨p,aH,rfl,_⟩:=r;rfl
 |dct q a=>unfold aS at r;obtain⟨p,o,us,rfl,_⟩:=r;rfl
 |lst c=>unfold aS at r;obtain⟨p,a,rfl,_⟩:=r;rfl
theorem Uu:hF X .Is mx:=⟨_,Ti,λ c H0 H U L x y d Z b Q R a J e q=>by
 cases y with
 |non=>
  have Y:D.bl (fy x)=d:=by cases x<;>exact qi e
  subst Y;exact⟨J,by rw[<-E4 a];exact q _ H0 H (aD.refl _) R (kv _ _)⟩
 |_=>cases x<;>cases e⟩
theorem Ek:hF X .IsNot fU:=⟨_,Om,λ c H0 H U L x y d Z b Q R a J e q=>by
 cases y with
 |non=>
  have Y:D.bl (!fy x)=d:=by cases x<;>exact qi e
  subst Y;exact⟨J,by rw[<-E4 a];exact q _ H0 H (aD.refl _) R (kv _ _)⟩
 |_=>cases x<;>cases e⟩
end
theorem qH:∀(ds es:List D),gn ds es=((List.range (min ds.length es.length)).all (λ j=>b8 (ds.getD j .non) (es.getD j .non))&&ds.length==es.length)
 |[],[]=>by simp
 |[],e::es=>by simp
 |d::ds,[]=>by simp
 |d::ds,e::es=>by
  show(_&&_)=_;rw[qH ds es];have h:min (d::ds).length (e::es).length=min ds.length es.length+1:=Nat.succ_min_succ ..;rw[h,List.range_succ_eq_map,j8,List.all_map];have a:((d::ds).length==(e::es).length)=(ds.length==es.length):=by simp
  rw[a,Bool.and_assoc];rfl
theorem oi:∀{ds:List D}{n:Nat}{j:Nat}{d:D},ez ds<=n->ds[j]?=some d->cD d<=n
 |[],_,_,_,_,e=>by simp at e
 |d::ds,n,0,_,h,e=>by
  rw[ya]at h;simp at e;subst e;lia
 |d::ds,n,j+1,a,h,e=>by
  rw[ya]at h;exact oi (ds:=ds) (by lia) (by simpa using e)
section
variable{X:Cx}{aA:List (Addr×Obj)}{L:L2.St}{H:Hp}{s:Shared}
theorem Ss(hd:aB X.K H ds vs)(Y:aB X.K H es vs)(h:∀(j:Nat)(d e:D)(v:V),vs[j]?=some v->ds[j]?=some d->es[j]?=some e->aS X.K H d v->aS X.K H e v->b8 d e=true):gn ds es=true:=by
 rw[qH];have g:=hd.length;have k:=Y.length;rw[zd,Jf];refine⟨λ j f=>?_,by simp;lia⟩;have q:j<ds.length:=by have:=List.mem_range.mp f;lia
 have J:j<es.length:=by lia
 obtain⟨v,a,b⟩:=hd.get (i:=j) (d:=ds[j]) (by simp[q]);obtain⟨l,Z,c⟩:=Y.get (i:=j) (d:=es[j]) (by simp[J]);rw[a]at Z;cases Z;have:=h j ds[j] es[j] v a (by simp[q]) (by simp[J]) b c;simpa [List.getD,q,J]using this
theorem Io(I:aI X aA L H s)(h:dH X.K H a xs)(h':c7 X.K H a ys):False:=by obtain⟨_,_,⟨o,e,c,_⟩,_⟩:=I.tuple h;obtain⟨_,_,⟨b,n,q,J,_⟩,_⟩:=I.list h';grind
theorem UO(h:cD (.tup ds)<1000):ez ds<999:=by rw[uD]at h;lia
theorem UP(h:cD (.lst ds)<1000):ez ds<999:=by rw[lY]at h;lia
theorem HI(h:ez ds<999){j:Nat}(e:ds[j]?=some d):cD d<1000:=by
 have:=oi (n:=998) (by lia) e
 lia
inductive Sh(X:Cx)(H:Hp)(s:Shared):D->V->Value->Prop
 |non:Sh X H s .non .non .none
 |bl (b:Bool):Sh X H s (.bl b) (.bl b) (.bool b)
 |int (i:Int) (t:Tok):Sh X H s (.int i) (.int i) (.int i t)
 |str (x:Str) (t:Tok):Sh X H s (.str x) (.str x) (.str x t)
 |tup {ds:List D}{p:Addr}{vs:List V}{its:List Value} (s1:dH X.K H p vs) (q:aB X.K H ds vs) (rv:aQ vs its) (tp:IsTup s.heap p its.toArray) (z:ez ds<999):Sh X H s (.tup ds) (.ref p) (.ref p)
 |lst {ds:List D}{p:Addr}{vs:List V}{its:List Value} (s1:c7 X.K H p vs) (q:aB X.K H ds vs) (rv:aQ vs its) (tp:s.heap.IsList p its.toArray) (z:ez ds<999):Sh X H s (.lst ds) (.ref p) (.ref p)
theorem l0(I:aI X aA L H s)(hz:cD d<1000)(r:aS X.K H d x)(w:aU x u):Sh X H s d x u:=by
 cases d with
 |opq=>exact absurd hz (by rw[Su];lia)
 |dct Z e=>exact absurd hz (by rw[Sv];lia)
 |non=>unfold aS at r;subst r;cases(show u=Value.none from w);exact .non
 |bl b=>unfold aS at r;subst r;cases(show u=Value.bool _ from w);exact .bl b
 |int i=>unfold aS at r;subst r;obtain⟨t,rfl⟩:=w;exact .int i t
 |str i=>unfold aS at r;subst r;obtain⟨t,rfl⟩:=w;exact .str i t
 |tup f=>
  obtain⟨p,e,rfl,a,q⟩:=r;cases(show u=Value.ref _ from w);refine aW (I.tuple a) λ J Y c _=>?_;exact .tup a q Y c (UO hz)
 |lst f=>
  obtain⟨p,e,rfl,a,q⟩:=r;cases(show u=Value.ref _ from w);refine aW (I.list a) λ J Y c _=>?_;exact .lst a q Y c.isList (UP hz)
theorem PH(I:aI X aA L H s):∀(n:Nat)(d e:D)(v:V)(u:Value),cD d<=n->cD d<1000->cD e<1000->aS X.K H d v->aS X.K H e v->aU v u->b8 d e=true:=by
  intro n;induction n using Nat.strongRecOn with|_ n B=>?_
  intro d e v u J Y Z p r w;have go:∀{f es:List D}{i:List V}{m:List Value},ez f+1<=n->ez f<999->ez es<999->aB X.K H f i->aB X.K H es i->aQ i m->gn f es=true:=by
   intro f es i m J G σ C E g;cases n with
   |zero=>lia
   |succ n=>
    refine Ss C E λ j d e v y o A a b=>?_;obtain⟨u,_,w⟩:=g.get y;exact B n (Z9 n) d e v u (oi (by lia) o) (HI G o) (HI σ A) a b w
  have k1:=l0 I Y p w;have k2:=l0 I Z r w;clear p r w Y Z;cases k1 with
  |tup h q g F z=>cases k2 with
   |tup c k x t l=>
    cases I.tuple_inj h c;rw[uD]at J;exact go J z l q k g
   |lst c=>exact(Io I h c).elim
  |lst h q g F z=>cases k2 with
   |lst c k x t l=>
    cases I.list_inj h c;rw[lY]at J;exact go J z l q k g
   |tup c=>exact(Io I c h).elim
  |_=>cases k2;simp
def xS(X:Cx)(H:Hp)(s:Shared)(n:Nat):Prop:=∀(A:Around)(d e:D)(x y:V)(u v:Value),cD d<=n->cD d<1000->cD e<1000->A.units+n<cLine->aS X.K H d x->aU x u->aS X.K H e y->aU y v->SeqAt.RcAt A s u v (b8 d e)
def ui(X:Cx)(H:Hp)(s:Shared)(n:Nat):Prop:=∀(A:Around)(d e:D)(x y:V)(u v:Value),cD d<=n->cD d<1000->cD e<1000->A.units+n<cLine->aS X.K H d x->aU x u->aS X.K H e y->aU y v->SeqAt.EqAt A s u v (b8 d e)
theorem TZ(I:aI X aA L H s)(rc:xS X H s n):ui X H s n:=by
 intro A d e x y u v w Y Z t f i g k;have J:A.units<cLine:=by lia
 have j:=rc A d e x y u v w Y Z t f i g k;have one:x=y->b8 d e=true:=λ z=>PH I _ d e x u (qj _) Y Z f (z▸g) i;have c:∀a b,x=.ref a->y=.ref b->u=.ref a->v=.ref b->SeqAt.EqAt A s u v (b8 d e):=λ a b m o p r=>by
  subst m o p r;by_cases h:a=b
  .rw[one (by rw[h]),h];exact SeqAt.EqAt.same _
  .exact SeqAt.EqAt.of_refs h j
 clear j one;have k1:=l0 I Y f i;have k2:=l0 I Z g k;cases k1 with
 |non=>cases k2;exact SeqAt.EqAt.same _;exact SeqAt.EqAt.none_bool _;exact SeqAt.EqAt.none_int _ _;exact SeqAt.EqAt.none_str _ _;exact SeqAt.EqAt.none_tuple ‹_› J;exact SeqAt.EqAt.none_list ‹_› J
 |bl=>cases k2;exact SeqAt.EqAt.bool_none _;exact SeqAt.EqAt.bool_bool _ _;exact SeqAt.EqAt.bool_int _ _ _;exact SeqAt.EqAt.bool_str _ _ _;exact SeqAt.EqAt.bool_tuple _ ‹_› J;exact SeqAt.EqAt.bool_list _ ‹_› J
 |int=>cases k2;exact SeqAt.EqAt.int_none _ _;exact SeqAt.EqAt.int_bool _ _ _;exact SeqAt.EqAt.int_int _ _ _ _;exact SeqAt.EqAt.int_str _ _ _ _;exact SeqAt.EqAt.int_tuple _ _ ‹_› J;exact SeqAt.EqAt.int_list _ _ ‹_› J
 |str=>cases k2;exact SeqAt.EqAt.str_none _ _;exact SeqAt.EqAt.str_bool _ _ _;exact SeqAt.EqAt.str_int _ _ _ _;exact SeqAt.EqAt.str_str _ _ _ _;exact SeqAt.EqAt.str_tuple _ _ ‹_› J;exact SeqAt.EqAt.str_list _ _ ‹_› J
 |tup C B l q=>cases k2;exact SeqAt.EqAt.tuple_none q J;exact SeqAt.EqAt.tuple_bool _ q J;exact SeqAt.EqAt.tuple_int _ _ q J;exact SeqAt.EqAt.tuple_str _ _ q J;exact c _ _ rfl rfl rfl rfl;exact c _ _ rfl rfl rfl rfl
 |lst C B l q=>cases k2;exact SeqAt.EqAt.list_none q J;exact SeqAt.EqAt.list_bool _ q J;exact SeqAt.EqAt.list_int _ _ q J;exact SeqAt.EqAt.list_str _ _ q J;exact c _ _ rfl rfl rfl rfl;exact c _ _ rfl rfl rfl rfl
theorem Ep{q:List Value}(h:j<q.toArray.size):q[j]?=some q.toArray[j]:=by
 have h':j<q.length:=by simpa using h
 simp[h']
theorem uC{A:Around}(Z:ui X H s n)(hn:ez ds<=n)(aa:ez ds<1000)(ac:ez es<1000)(hA:A.in1.units+n<cLine)(q1:aB X.K H ds vs)(q2:aB X.K H es Y)(rv:aQ vs q)(J:aQ Y its')(j:Nat)(h1:j<q.toArray.size)(h2:j<its'.toArray.size):SeqAt.EqAt A.in1 s q.toArray[j] its'.toArray[j] (b8 (ds.getD j .non) (es.getD j .non)):=by
 have o:=q1.length;have p:=q2.length;have r:=rv.length;have t:=J.length;have k1:j<ds.length:=by rw[zg]at h1;lia
 have k2:j<es.length:=by rw[zg]at h2;lia
 have e1:ds[j]?=some ds[j]:=by simp[k1]
 have e2:es[j]?=some es[j]:=by simp[k2]
 obtain⟨v,c,d⟩:=q1.get e1;obtain⟨m,e,f⟩:=q2.get e2;obtain⟨u,a,g⟩:=rv.get c;obtain⟨l,b,h⟩:=J.get e;rw[Ep h1]at a;rw[Ep h2]at b;have i:ds.getD j .non=ds[j]:=by simp[List.getD,k1]
 have k:es.getD j .non=es[j]:=by simp[List.getD,k2]
 rw[i,k,Option.some.inj a,Option.some.inj b];exact Z A.in1 ds[j] es[j] v m u l (oi hn e1) (by have z:=oi (n:=999) (by lia) e1;lia) (by have z:=oi (n:=999) (by lia) e2;lia) hA d g f h
theorem Ku(I:aI X aA L H s)(n:Nat)(ih:∀m,m<n->ui X H s m):xS X H s n:=by
 intro A d e x y u v g o p B i k j l;have J:A.units<cLine:=by omega
 have hi:=λ _=>by show A.units+1+(n-1)<cLine;omega
 have k1:=l0 I o i k;have k2:=l0 I p j l;clear i j k l;cases k1 with
 |non=>cases k2;exact SeqAt.RcAt.none_none;exact SeqAt.RcAt.none_bool _;exact SeqAt.RcAt.none_int _ _;exact SeqAt.RcAt.none_str _ _;exact SeqAt.RcAt.none_tuple ‹_› J;exact SeqAt.RcAt.none_list ‹_› J
 |bl=>cases k2;exact SeqAt.RcAt.bool_none _;exact SeqAt.RcAt.bool_bool _ _;exact SeqAt.RcAt.bool_int _ _ _;exact SeqAt.RcAt.bool_str _ _ _;exact SeqAt.RcAt.bool_tuple _ ‹_› J;exact SeqAt.RcAt.bool_list _ ‹_› J
 |int=>cases k2;exact SeqAt.RcAt.int_none _ _;exact SeqAt.RcAt.int_bool _ _ _;exact SeqAt.RcAt.int_int _ _ _ _;exact SeqAt.RcAt.int_str _ _ _ _;exact SeqAt.RcAt.int_tuple _ _ ‹_› J;exact SeqAt.RcAt.int_list _ _ ‹_› J
 |str=>cases k2;exact SeqAt.RcAt.str_none _ _;exact SeqAt.RcAt.str_bool _ _ _;exact SeqAt.RcAt.str_int _ _ _ _;exact SeqAt.RcAt.str_str _ _ _ _;exact SeqAt.RcAt.str_tuple _ _ ‹_› J;exact SeqAt.RcAt.str_list _ _ ‹_› J
 |@tup a r _ Z t b Y q w=>
  cases k2
  case tup es p2 _ its2 s2 q2 rv2 tp2 z2=>
   rw[uD]at g;have z:=SeqAt.RcAt.tuples q tp2 J (uC (ih (n-1) (by omega)) (by omega) (by omega) (by omega) (hi (by omega)) b q2 Y rv2);rw[zg,zg,<-Y.length,<-rv2.length,<-b.length,<-q2.length]at z;rw[OO,qH];exact z
  exact SeqAt.RcAt.tuple_none q J;exact SeqAt.RcAt.tuple_bool _ q J;exact SeqAt.RcAt.tuple_int _ _ q J;exact SeqAt.RcAt.tuple_str _ _ q J;exact SeqAt.RcAt.tuple_list q ‹_› J
 |@lst a r _ Z t b Y q w=>
  cases k2
  case lst es p2 _ its2 s2 q2 rv2 tp2 z2=>
   rw[lY]at g;have f:Z.toArray.size=a.length:=by rw[zg,<-Y.length,<-b.length]
   have h:its2.toArray.size=es.length:=by rw[zg,<-rv2.length,<-q2.length]
   rw[OQ,qH];by_cases c:a.length=es.length
   .have z:=SeqAt.RcAt.lists q tp2 (by rw[f,h];exact c) J (uC (ih (n-1) (by omega)) (by omega) (by omega) (by omega) (hi (by omega)) b q2 Y rv2);rw[f]at z;rw[show min a.length es.length=a.length by omega,show(a.length==es.length)=true by simp[c],Bool.and_true];exact z
   .rw[show(a.length==es.length)=false by simp[c],Za];exact SeqAt.RcAt.lists_lengths q tp2 (by rw[f,h];simp[c]) J
  exact SeqAt.RcAt.list_none q J;exact SeqAt.RcAt.list_bool _ q J;exact SeqAt.RcAt.list_int _ _ q J;exact SeqAt.RcAt.list_str _ _ q J;exact SeqAt.RcAt.list_tuple q ‹_› J
theorem yC(I:aI X aA L H s)(n:Nat):ui X H s n:=by
 induction n using Nat.strongRecOn with
 |ind n q=>exact TZ I (Ku I n q)
theorem Wg(I:aI X aA L H s)(n:Nat):xS X H s n:=Ku I n λ m _=>yC I m
def Hw(K:Frag):R2:=λ x y H Q=>∃d e,aS K H d x/\aS K H e y/\cD d<=30/\cD e<=30/\Q (.bl (b8 d e)) H
theorem Tj(hu:X.A.units+64<cLine):du X (compareOp .Eq) (Hw X.K):=by
 intro aA s L H x y v u Q I J Y h;refine iZ h λ d e a Z hd hd2 q=>?_;exact Wg I 30 X.A d e x y v u hd (by lia) (by lia) (by lia) a J Z Y X.prog X.w X.xe _ ⟨.bl _,H,I,rfl,q⟩
theorem Rn{K:Frag}:iN K (Hw K) eQ:=λ c H0 H U L x y d Y Z Q R a J e q=>by
 unfold eQ at e;split at e
 .rename_i hd;obtain rfl:=br e;exact⟨x,y,aS.mono R.same x a,aS.mono R.same y J,hd.1,hd.2,q _ H0 H (aD.refl _) R (kv _ _)⟩
 .simp at e
theorem nr(q:X.A.units+64<cLine):hF X .Eq eQ:=⟨_,Tj q,Rn⟩
theorem Wd(I:aI X aA L H s)(n:Nat)(A:Around)(d e:D)(x y:V)(u v:Value)(hn:cD d<=n)(aa:cD d<1000)(ac:cD e<1000)(hA:A.units+n<cLine)(r1:aS X.K H d x)(w1:aU x u)(r2:aS X.K H e y)(w2:aU y v):SeqAt.RcNeAt A s u v (!b8 d e):=by
 have J:A.units<cLine:=by omega
 have hi:=λ _=>by show A.units+1+(n-1)<cLine;omega
 have k1:=l0 I aa r1 w1;have k2:=l0 I ac r2 w2;clear r1 r2 w1 w2;cases k1 with
 |non=>cases k2;exact SeqAt.RcNeAt.none_none;exact SeqAt.RcNeAt.none_bool _;exact SeqAt.RcNeAt.none_int _ _;exact SeqAt.RcNeAt.none_str _ _;exact SeqAt.RcNeAt.none_tuple ‹_› J;exact SeqAt.RcNeAt.none_list ‹_› J
 |bl=>cases k2;exact SeqAt.RcNeAt.bool_none _;exact SeqAt.RcNeAt.bool_bool _ _;exact SeqAt.RcNeAt.bool_int _ _ _;exact SeqAt.RcNeAt.bool_str _ _ _;exact SeqAt.RcNeAt.bool_tuple _ ‹_› J;exact SeqAt.RcNeAt.bool_list _ ‹_› J
 |int=>cases k2;exact SeqAt.RcNeAt.int_none _ _;exact SeqAt.RcNeAt.int_bool _ _ _;exact SeqAt.RcNeAt.int_int _ _ _ _;exact SeqAt.RcNeAt.int_str _ _ _ _;exact SeqAt.RcNeAt.int_tuple _ _ ‹_› J;exact SeqAt.RcNeAt.int_list _ _ ‹_› J
 |str=>cases k2;exact SeqAt.RcNeAt.str_none _ _;exact SeqAt.RcNeAt.str_bool _ _ _;exact SeqAt.RcNeAt.str_int _ _ _ _;exact SeqAt.RcNeAt.str_str _ _ _ _;exact SeqAt.RcNeAt.str_tuple _ _ ‹_› J;exact SeqAt.RcNeAt.str_list _ _ ‹_› J
 |@tup b h _ Z i a Y q j=>
  cases k2
  case tup es p2 _ its2 s2 q2 rv2 tp2 z2=>
   rw[uD]at hn;have z:=SeqAt.RcNeAt.tuples q tp2 J (uC (yC I (n-1)) (by omega) (by omega) (by omega) (hi (by omega)) a q2 Y rv2);rw[zg,zg,<-Y.length,<-rv2.length,<-a.length,<-q2.length]at z;rw[OO,qH];exact z
  exact SeqAt.RcNeAt.tuple_none q J;exact SeqAt.RcNeAt.tuple_bool _ q J;exact SeqAt.RcNeAt.tuple_int _ _ q J;exact SeqAt.RcNeAt.tuple_str _ _ q J;exact SeqAt.RcNeAt.tuple_list q ‹_› J
 |@lst b h _ Z i a Y q j=>
  cases k2
  case lst es p2 _ its2 s2 q2 rv2 tp2 z2=>
   rw[lY]at hn;have f:Z.toArray.size=b.length:=by rw[zg,<-Y.length,<-a.length]
   have g:its2.toArray.size=es.length:=by rw[zg,<-rv2.length,<-q2.length]
   rw[OQ,qH];by_cases c:b.length=es.length
   .have z:=SeqAt.RcNeAt.lists q tp2 (by rw[f,g];exact c) J (uC (yC I (n-1)) (by omega) (by omega) (by omega) (hi (by omega)) a q2 Y rv2);rw[f]at z;grind
   .rw[show(b.length==es.length)=false by simp[c],Za];exact SeqAt.RcNeAt.lists_lengths q tp2 (by rw[f,g];simp[c]) J
  exact SeqAt.RcNeAt.list_none q J;exact SeqAt.RcNeAt.list_bool _ q J;exact SeqAt.RcNeAt.list_int _ _ q J;exact SeqAt.RcNeAt.list_str _ _ q J;exact SeqAt.RcNeAt.list_tuple q ‹_› J
def Hs(K:Frag):R2:=λ x y H Q=>∃d e,aS K H d x/\aS K H e y/\cD d<=30/\cD e<=30/\Q (.bl (!b8 d e)) H
theorem Tg(hu:X.A.units+64<cLine):du X (compareOp .NotEq) (Hs X.K):=by
 intro aA s L H x y v u Q I J Y h;refine iZ h λ d e a Z hd hd2 q=>?_;exact Wd I 30 X.A d e x y v u hd (by lia) (by lia) (by lia) a J Z Y X.prog X.w X.xe _ ⟨.bl _,H,I,rfl,q⟩
theorem Ri{K:Frag}:iN K (Hs K) gW:=λ c H0 H U L x y d Y Z Q R a J e q=>by
 unfold gW at e;split at e
 .rename_i hd;obtain rfl:=br e;exact⟨x,y,aS.mono R.same x a,aS.mono R.same y J,hd.1,hd.2,q _ H0 H (aD.refl _) R (kv _ _)⟩
 .simp at e
theorem IZ(q:X.A.units+64<cLine):hF X .NotEq gW:=⟨_,Tg q,Ri⟩
end
section
variable{X:Cx}
def jF(X:Cx)(f:Value)(g:List D->Option D):Prop:=∃r,bQ X f r/\∀(c:FC)(H0 H:Hp)(U:En)(L:L2.St)(ds:List D)(d:D)(vs:List V)(Q:VK),RS X.K c H0 H U L->aB X.K H0 ds vs->g ds=some d->wQ X.K c H0 U L d Q->r vs H Q
theorem II(o:∀(c:FC)(H0 H:Hp)(U:En)(L:L2.St)(ds:List D)(d:D)(vs:List V)(Q:VK),RS X.K c H0 H U L->aB X.K H0 ds vs->g ds=some d->wQ X.K c H0 U L d Q->r vs H Q)(h:tE X.K (eF g A) L H Q):CB r (KD X.K A) L H Q:=by
 refine bL h λ c H0 U d m R f q=>?_;obtain⟨⟨ds,J⟩,b,f⟩:=aL f;obtain⟨n,e,f⟩:=aL f;have Z:=f;cases Z;exact bA c H0 U ds _ R b λ vs H1 Hh k Y i=>o c H1 Hh _ L ds d vs Q Y i e λ v a cJ l R2 j=>q v a cJ (k.trans l) R2 j
theorem xB{id:String}(o:jF X (.builtin id) g)(hg:Gl X x)(Y:X.mg x=none)(hv:bootBuiltins x=some (.builtin id))(ha:XA X (e::es) A)(Z:x≠"__name__":=by decide)(J:cH x:=by decide)(he:starEach (e::es) X.env=(false,eval e X.env)::starEach es X.env:=by rfl)(q:(backTo pos (starEach es X.env)).any (·.1)=false:=by rfl):XE X (.Call (.Name x p) (e::es) [] pos) (eF g A):=by
 obtain⟨r,a,b⟩:=o;exact PE.wk (wc a hg Y hv ha Z J he q) λ L H Q h=>II b h
theorem aB.v1{K:Frag}(h:aB K H [d] vs):∃v,vs=[v]/\aS K H d v:=by obtain⟨v,r,e,a,b⟩:=h;exact⟨v,by rw[e,b],a⟩
theorem aB.v2{K:Frag}(h:aB K H [d,d'] vs):∃v q,vs=[v,q]/\aS K H d v/\aS K H d' q:=by obtain⟨v,r,e,a,b⟩:=h;obtain⟨q,J,Y⟩:=aB.v1 b;exact⟨v,q,by rw[e,J],a,Y⟩
theorem NG(h:j_ ds=some d):∃i,ds=[.int i]/\d=.int (if i<0 then -i else i):=by
 unfold j_ at h;split at h
 .cases h;exact⟨_,rfl,rfl⟩
 .cases h
theorem Ld:jF X (.builtin "abs") j_:=⟨_,NB,λ c H0 H U L a d b Q R r e q=>by
 obtain⟨i,rfl,rfl⟩:=NG e;obtain⟨v,rfl,J⟩:=aB.v1 r;subst J;exact⟨i,rfl,q _ H0 H (aD.refl _) R (fw _ _)⟩⟩
theorem xO{K:Frag}:∀{ds:List D}{is:List Int}{vs:List V},oM ds=some is->aB K H ds vs->vs=is.map V.int
 |[],_,_,e,r=>by
  have q:=qi e;rw[r,<-q];rfl
 |d::ds,_,_,e,r=>by
  cases d with
  |int i=>
   rw[OL]at e;obtain⟨is,e1,e2⟩:=aL e;obtain rfl:=br e2;obtain⟨v,J,rfl,a,t⟩:=r;rw[a,xO e1 t];rfl
  |_=>cases e
theorem el:∀{is:List Int}{us:List Value},aQ (is.map V.int) us->IntsAre us is:=by
 intro is;induction is with
 |nil=>intro us h;cases h;exact .nil
 |cons b r q=>
  intro us h;cases h with
  |cons a t=>obtain⟨c,rfl⟩:=(show ∃t,_=Value.int b t from a);exact .cons b c (q t)
theorem Ml:∀(r:List Int)(m:Int),(kH m r=m\/kH m r∈r)/\kH m r<=m/\∀a∈r,kH m r<=a:=by intro b;induction b<;>grind[kH]
theorem Mm:∀(r:List Int)(m:Int),(kI m r=m\/kI m r∈r)/\m<=kI m r/\∀a∈r,a<=kI m r:=by intro b;induction b<;>grind[kI]
theorem P6(h:M∈i::r)(h':∀a∈i::r,M<=a):M=kH i r:=by grind[Ml]
theorem P8(h:M∈i::r)(h':∀a∈i::r,a<=M):M=kI i r:=by grind[Mm]
theorem MG(hc:X.calm=true):bQ X (.builtin "min") (λ xs H Q=>∃(p:Addr)(i:Int)(r:List Int),xs=[.ref p]∧c7 X.K H p ((i::r).map V.int)∧Q (.int (kH i r)) H):=by
 intro aA s L H xs us Q I r h;obtain⟨l,i,is,rfl,k,q⟩:=h;obtain⟨u,rfl,o⟩:=h8 r;cases o;obtain⟨x,w,n,z⟩:=I.list k;have hi:=el w;have Z:=n.isList;obtain⟨ys,e⟩:=hi.allInts.items;have J:i::is=ys.toList.map (·.1):=by rw[<-hi.numsOf,<-nums_intItems,<-e]
 have b:0<ys.size:=by have Y:0<(i::is).length:=Zp _;rw[J,qw,qy]at Y;exact Y
 rw[e]at Z;refine min_intList (I.ok.hd hc) Z b λ v h' A m g=>?_;obtain⟨t,rfl⟩:=intItems_at m;obtain⟨y,d⟩:=argBest_lt (numAt ys) (ys.size-1);refine⟨_,H,I.kept g,?_,q⟩;have:numAt ys (argBest (λ i j=>decide (numAt ys i<numAt ys j)) (ys.size-1))=kH i is:=P6 (by rw[J,numAt_eq];exact getD_mem (by rw[qw,qy];lia)) λ a c=>by
  rw[J]at c;obtain⟨j,f,rfl⟩:=mem_getD c;rw[qw,qy]at f;rw[<-numAt_eq];exact d j (by lia)
 rw[this];exact⟨_,rfl⟩
theorem MI(hc:X.calm=true):bQ X (.builtin "max") (λ xs H Q=>∃(p:Addr)(i:Int)(r:List Int),xs=[.ref p]∧c7 X.K H p ((i::r).map V.int)∧Q (.int (kI i r)) H):=by
 intro aA s L H xs us Q I r h;obtain⟨l,i,is,rfl,k,q⟩:=h;obtain⟨u,rfl,o⟩:=h8 r;cases o;obtain⟨x,w,n,z⟩:=I.list k;have hi:=el w;have Z:=n.isList;obtain⟨ys,e⟩:=hi.allInts.items;have J:i::is=ys.toList.map (·.1):=by rw[<-hi.numsOf,<-nums_intItems,<-e]
 have b:0<ys.size:=by have Y:0<(i::is).length:=Zp _;rw[J,qw,qy]at Y;exact Y
 rw[e]at Z;refine max_intList (I.ok.hd hc) Z b λ v h' A m g=>?_;obtain⟨t,rfl⟩:=intItems_at m;obtain⟨y,d⟩:=argBest_gt (numAt ys) (ys.size-1);refine⟨_,H,I.kept g,?_,q⟩;have:numAt ys (argBest (λ i j=>decide (numAt ys i>numAt ys j)) (ys.size-1))=kI i is:=P8 (by rw[J,numAt_eq];exact getD_mem (by rw[qw,qy];lia)) λ a c=>by
  rw[J]at c;obtain⟨j,f,rfl⟩:=mem_getD c;rw[qw,qy]at f;rw[<-numAt_eq];exact d j (by lia)
 rw[this];exact⟨_,rfl⟩
theorem bQ.or(h:bQ X f r)(h':bQ X f q):bQ X f (λ xs H Q=>r xs H Q\/q xs H Q):=
 λ aA s L H xs us Q I v z=>z.elim (λ a=>h aA s L H xs us Q I v a) (λ a=>h' aA s L H xs us Q I v a)
theorem D8(h:A2 f is=some d):∃i r,is=i::r/\d=.int (f i r):=by
 cases is with
 |nil=>cases h
 |cons i r=>cases h;exact⟨i,r,rfl,rfl⟩
theorem OS(Z:X.calm=true):jF X (.builtin "max") lC:=⟨_,(MJ Z).or (MI Z),λ c H0 H U L b d g Q R r e q=>by
 unfold lC at e;split at e
 .obtain rfl:=br e;obtain⟨v,f,rfl,a,Y⟩:=aB.v2 r;subst a Y;exact .inl ⟨_,_,rfl,q _ H0 H (aD.refl _) R (fw _ _)⟩
 .obtain⟨is,e1,e2⟩:=aL e;obtain⟨i,is,rfl,rfl⟩:=D8 e2;obtain⟨v,rfl,J⟩:=aB.v1 r;obtain⟨p,h,rfl,s,t⟩:=J;have:=xO e1 t;subst this;exact .inr ⟨p,i,is,rfl,aD.seq R.same s,q _ H0 H (aD.refl _) R (fw _ _)⟩
 .simp at e⟩
theorem ML(Z:X.calm=true):jF X (.builtin "min") pH:=⟨_,(MH Z).or (MG Z),λ c H0 H U L b d g Q R r e q=>by
 unfold pH at e;split at e
 .obtain rfl:=br e;obtain⟨v,f,rfl,a,Y⟩:=aB.v2 r;subst a Y;exact .inl ⟨_,_,rfl,q _ H0 H (aD.refl _) R (fw _ _)⟩
 .obtain⟨is,e1,e2⟩:=aL e;obtain⟨i,is,rfl,rfl⟩:=D8 e2;obtain⟨v,rfl,J⟩:=aB.v1 r;obtain⟨p,h,rfl,s,t⟩:=J;have:=xO e1 t;subst this;exact .inr ⟨p,i,is,rfl,aD.seq R.same s,q _ H0 H (aD.refl _) R (fw _ _)⟩
 .simp at e⟩
noncomputable def wB:Ty->String
 |.int=>"int"| .bool=>"bool"| .str=>"str"| .tuple=>"tuple"| .list=>"list"
noncomputable def wC(d:D):Value:=match d with
 |.non=>.type "NoneType"| .bl _=>.type "bool"| .int _=>.type "int"| .str _=>.type "str"| .tup _=>.type "tuple"| .lst _=>.type "list"| .opq=>.type "dict"| .dct _ _=>.type "dict"
theorem VH(K:Frag)(t:Ty)(d:D):PySem.W.kitOne K (wC d) (.type (wB t))=some (lD t d):=by cases t<;>cases d<;>rfl
theorem Vr(t:Ty):bQ X (.builtin "isinstance") (λ xs H Q=>∃d x,xs=[x,.ty (wB t)]∧aS X.K H d x∧Q (.bl (lD t d)) H):=by
 intro aA s L H xs us Q I r h;obtain⟨d,x,rfl,J,q⟩:=h;obtain⟨u,w,rfl,Y,Z⟩:=uR r;cases(show w=Value.type _ from Z);have k:=VH X.K t d;have fin:∀j,EP X aA L Q (.bool (lD t d)) {s with toks:=j}:=λ j=>⟨.bl _,H,I.tok j,rfl,q⟩
 cases d with
 |non=>unfold aS at J;subst J;cases(show u=Value.none from Y);exact jp PySem.W.kitx_none I.kIn Qk k (λ z=>nomatch z) fin
 |bl y=>unfold aS at J;subst J;cases(show u=Value.bool y from Y);exact jp PySem.W.kitx_bool I.kIn Qk k (λ z=>nomatch z) fin
 |int i=>unfold aS at J;subst J;obtain⟨t,z⟩:=(show ∃t,u=Value.int i t from Y);subst z;exact jp PySem.W.kitx_int I.kIn Qk k (λ z=>nomatch z) fin
 |str y=>unfold aS at J;subst J;obtain⟨t,z⟩:=(show ∃t,u=Value.str y t from Y);subst z;exact jp PySem.W.kitx_str I.kIn Qk k (λ z=>nomatch z) fin
 |tup m=>
  unfold aS at J;obtain⟨a,l,rfl,g,_⟩:=J;cases(show u=Value.ref a from Y);obtain⟨_,_,⟨o,b,c,_⟩,_⟩:=I.tuple g;exact jp PySem.W.kitx_tuple I.kIn ⟨o,b,c⟩ k (λ z=>nomatch z) fin
 |dct v m=>
  unfold aS at J;obtain⟨a,ob,us,rfl,e,_⟩:=J;cases(show u=Value.ref a from Y);obtain⟨_,_,_,l,_,f⟩:=(show aZ X.prog X.w H s.heap a (.frz ob (.dK _))from I.hok a _ e);refine d7 f λ o es p b c _=>?_;exact jp PySem.W.kitx_dict I.kIn ⟨o,b,c.1⟩ k (λ z=>nomatch z) fin
 |opq=>
  unfold aS at J;obtain⟨a,aH,rfl,e⟩:=J;cases(show u=Value.ref a from Y);obtain⟨_,_,l,_,f⟩:=(show aZ X.prog X.w H s.heap a (.dK aH)from I.hok a _ e);refine d7 f λ o es p b c _=>?_;exact jp PySem.W.kitx_dict I.kIn ⟨o,b,c.1⟩ k (λ z=>nomatch z) fin
 |lst m=>
  unfold aS at J;obtain⟨a,l,rfl,g,_⟩:=J;cases(show u=Value.ref a from Y);obtain⟨_,_,⟨o,n,b,c,_⟩,_⟩:=I.list g;exact jp PySem.W.kitx_list I.kIn ⟨o,b,c⟩ k (λ z=>nomatch z) fin
theorem KZ{t:Ty}{T:Str}{p J pos:Pos}{e:Expr}{F:FE}(hi:X.mg "isinstance"=none)(hm:X.mg T=none)(hT:bootBuiltins T=some (.type (wB t)))(ha:XE X e F)(hg:Gl X "isinstance":=by rfl)(ac:Gl X T:=by rfl)(hn:T≠"__name__":=by decide)(hd:cH T:=by decide)(hs:starEach [e,.Name T J] X.env=(false,eval e X.env)::starEach [.Name T J] X.env:=by rfl)(ae:starEach [.Name T J] X.env=[(false,eval (.Name T J) X.env)]:=by rfl)(Z:(backTo pos (starEach [.Name T J] X.env)).any (·.1)=false:=by rfl):XE X (.Call (.Name "isinstance" p) [e,.Name T J] [] pos) (sL t F):=
 PE.wk (wc (Vr t) hg hi PyProof.Rows.boot_isinstance (gq ha (gq (Of (v:=.ty (wB t)) ac hm hT rfl hn hd) jD ae) hs) (by decide) (by decide) hs Z) λ L H Q Y=>by
  refine bL Y λ c H0 U d a R f q=>?_;unfold sL at f;obtain⟨⟨x,g⟩,i,f⟩:=aL f;have h:some (D.bl (lD t x),g)=some (d,a):=f;cases h;exact bA c H0 U x _ R i λ v H1 Hh k b j=>⟨x,v,rfl,aS.mono b.same x j,q _ H1 Hh k b (kv _ _)⟩
def qE(K:Frag)(g:List D->Option D):Sp:=λ vs H Q _=>∃q ds d,aD q H/\aB K q ds vs/\g ds=some d/\∀v cG H',bR q H cG H'->aS K cG d v->Q v H'
structure aK(P:Program)(w:World)(K:Frag)(mg:Str->Option Value)(base:Heap)(k:Nat)(x:Str)(g:List D->Option D):Prop where
 ex:∃f fd ps,cB P w K mg base ft k f fd ps (qE K g)/\cV K fd ps []/\keepIn K (.ref f)=true/\mg x=some (.ref f)
theorem xF{k:Nat}{x:Str}{g:List D→Option D}{A:FA}{p pos:Pos}{e:Expr}{es:List Expr}(G:aK X.prog X.w X.K X.mg X.base k x g)(hr:bJ k X.A)(ha:XA X (e::es) A)(hg:Gl X x)(aa:cH x)(he:starEach (e::es) X.env=(false,eval e X.env)::starEach es X.env)(Y:(backTo pos (starEach es X.env)).any (·.1)=false):XE X (.Call (.Name x p) (e::es) [] pos) (eF g A):=by
 refine fA G.ex λ f fd ps F m n o=>?_;refine PE.wk (rg F hr hg o n m .nil oX ha aa he Y) λ L H Q J=>?_;refine bL J λ c H0 U d a R z q=>?_;unfold eF at z;obtain⟨⟨h,Z⟩,j,z⟩:=aL z;obtain⟨i,l,z⟩:=aL z;have u:some (i,Z)=some (d,a):=z;cases u;exact bA c H0 U h _ R j λ y H1 Hh t b r=>⟨H1,h,d,b.same,by rw[zx];exact r,l,λ v cG H' S s=>q v cG H' (t.trans S.s0) (b.after S) s⟩
end
def lQ(K:Frag)(J:It)(H1:Hp)(xs:List D):Prop:=∀(H0 H:Hp)(i:Nat),aD H1 H0->aD H0 H->(∀d,xs[i]?=some d->J.go i H/\∀x H',J.yld i H x H'->H'=H/\aS K H0 d x)/\(xs.length<=i->J.stop i H)
theorem Oq{K:Frag}(rd:c7 K H1 a vs)(r:aB K H1 xs vs):lQ K (um K a) H1 xs:=λ H0 H i s s'=>by
 have q:=aD.seq (s.trans s') rd;refine⟨λ d e=>?_,λ h=>⟨vs,q,by rw[<-r.length];exact h⟩⟩;obtain⟨v,e1,e2⟩:=r.get e;refine⟨⟨vs,v,q,e1⟩,λ x H'⟨b,c⟩=>⟨b,?_⟩⟩;have:=c vs q;rw[e1]at this;cases this;exact aS.mono s d e2
theorem OZ{K:Frag}(rd:dH K H1 a vs)(r:aB K H1 xs vs):lQ K (xj K a) H1 xs:=λ H0 H i s s'=>by
 have q:=aD.seqT (s.trans s') rd;refine⟨λ d e=>?_,λ h=>⟨vs,q,by rw[<-r.length];exact h⟩⟩;obtain⟨v,e1,e2⟩:=r.get e;refine⟨⟨vs,v,q,e1⟩,λ x H'⟨b,c⟩=>⟨b,?_⟩⟩;have:=c vs q;grind[e1,aS.mono,aS,e2]
theorem Dd:∀(n:Nat)(lo:Int),(eL lo n).length=n
 |0,_=>rfl
 |n+1,lo=>by show(eL (lo+1) n).length+1=n+1;rw[Dd n]
theorem Fw:∀(n:Nat)(lo:Int)(i:Nat)(d:D),(eL lo n)[i]?=some d->d=.int (lo+i)/\i<n
 |0,lo,i,d,h=>by simp[eL]at h
 |n+1,lo,0,d,h=>by
  simp[eL]at h;exact⟨by rw[<-h];simp,by lia⟩
 |n+1,lo,i+1,d,h=>by
  have h':(eL (lo+1) n)[i]?=some d:=by simpa [eL]using h
  obtain⟨a,b⟩:=Fw n (lo+1) i d h';refine⟨by rw[a];congr 1;push_cast;lia,by lia⟩
theorem O1{K:Frag}(lo:Int)(n:Nat):lQ K (uo lo n) H1 (eL lo n):=λ H0 H i s s'=>by
 refine⟨λ d e=>?_,λ h=>by rw[Dd]at h;exact h⟩;obtain⟨rfl,hi⟩:=Fw n lo i d e;refine⟨hi,λ x H'⟨a,b⟩=>⟨a,?_⟩⟩;exact b
def xi(z:Str):It:=⟨λ i _=>i<z.cps.size,λ i H x H'=>H'=H/\∃c,z.cps[i]?=some c/\x=.str (iy c),λ i _=>z.cps.size<=i⟩
theorem Fq{K:Frag}(z:Str)(t:Tok)(it:Addr)(hn:["enumerate","zip","dict_itemiterator","dict_reverseitemiterator","odict_iterator","itertools.zip_longest","itertools.pairwise"].contains n=false)(W:∀A:Around,A.handled=none->Walks P w A it [it] [it] z.cps.size (SignAt z) (λ i h=>h.IsStrIter it n z t i))(fin:∀(A:Around)(s:Shared)(i:Nat)(Q:Option Value->Shared->Prop)(E:Value->Shared->Prop),A.handled=none->s.heap.IsStrIter it n z t i->z.cps[i]?=none->(∀h',Heap.ExtBut it s.heap h'->Q none {s with heap:=h'})->wpAny (model P w) A (pyNext (.ref it)) Q E s)(aa:∀(A:Around)(i:Nat)(s:Shared)(Q:Value->Shared->Prop)(E:Value->Shared->Prop),s.heap.IsStrIter it n z t i->Q (.ref it) s->wpAny (model P w) A (pyIter (.ref it)) Q E s):fG P w K tg (xi z) [it] it (λ i h=>h.IsStrIter it n z t i)where
 mem:=by simp
 obj:=λ i h st b q=>by
  have e:b=it:=by simpa using q
  subst e;refine aW st λ o e c d=>?_;exact⟨o,e,λ v z=>by rw[d]at z;simp at z⟩
 keep:=λ i h h' st k=>let ⟨o,e,r⟩:=st;⟨o,k it (by simp) o e,r⟩
 item:=by
  intro X p y m x i aA s L H E I Z st J;subst p y m;refine eS (Z it (by simp)) λ a f F g j l=>?_;refine(W X.A (I.ok.hd x)).item i s _ _ J st λ v h' σ G Y kk=>?_;obtain⟨B,u,e1,rfl⟩:=G;have C:aI X aA L H {s with heap:=h',toks:=σ}:=I.turned (λ b o q e=>kk b o (by simpa using q) e) a f g j l;refine aW (id Y) λ o e c d=>?_;exact⟨_,rfl,rM e c d hn ⟨.str (iy B),H,C,⟨u,rfl⟩,⟨rfl,B,e1,rfl⟩,Y,λ b q=>(Z b q).1⟩⟩
 done:=by
  intro X p y m x i aA s L H E I Z st J;subst p y m;refine eS (Z it (by simp)) λ a f F g j l=>?_;have J:z.cps.size<=i:=J;exact fin X.A s i _ _ (I.ok.hd x) st (by simp[J]) λ h' D=>⟨rfl,I.turned (λ b o q e=>D b o q e) a f g j l⟩
 self:=λ A i s Q E st h=>aa A i s Q E st h
def HC(t:TE):TI:=λ L H R=>t L H λ x H1=>∃z,x=.str z/\R (xi z) H1
def JY(K:Frag)(t:TE):TI:=λ L H R=>Iw K t L H R\/HB K t L H R\/HC t L H R
theorem S6(hl:PE X l tl):PI X tg l (HC tl):=by
 intro aA s L H R I h;refine bN (hl aA s L H _ I h) λ v a=>dJ λ x H1 Y j g=>?_;obtain⟨z,e,q⟩:=g;subst e;obtain⟨t,rfl⟩:=j;have c:∀(o:Obj),∀b∈[a.heap.objs.size],dN X aA H1 b:=λ o b f=>by
  have e:b=a.heap.objs.size:=by simpa using f
  subst e;exact Y.fpOk (qj _) (Y.hok.fresh (qj _))
 cases d:z.cps.all (·<128)
 .refine wpAny_pyIter_wide d ?_;exact⟨a.heap.objs.size,[a.heap.objs.size],_,_,H1,rfl,Y.kept λ b o e=>qd _ e,Fq z t _ (by decide) (λ A J=>Walks.strWide J _ z t) (λ A s i Q E J st hx Z=>wpAny_pyNext_wide_end J st hx Z) (λ _ _ _ _ _ st h=>wpAny_pyIter_striter_wide st h),⟨_,qk _ rfl,rfl,rfl⟩,c {cls:=.none,data:=.fields #[]},q⟩
 .refine wpAny_pyIter_ascii d ?_;exact⟨a.heap.objs.size,[a.heap.objs.size],_,_,H1,rfl,Y.kept λ b o e=>qd _ e,Fq z t _ (by decide) (λ A J=>Walks.strAscii J _ z t) (λ A s i Q E J st hx Z=>wpAny_pyNext_ascii_end J st hx Z) (λ _ _ _ _ _ st h=>wpAny_pyIter_striter_ascii st h),⟨_,qk _ rfl,rfl,rfl⟩,c {cls:=.none,data:=.fields #[]},q⟩
theorem O0{K:Frag}(z:Str):lQ K (xi z) H1 (kh z):=λ H0 H i s s'=>by
 have q:(kh z).length=z.cps.size:=by unfold kh;rw[qw,qy]
 refine⟨λ d e=>?_,λ h=>by rw[q]at h;exact h⟩;have hi:i<z.cps.size:=by rw[<-q];exact(List.getElem?_eq_some_iff.mp e).1
 refine⟨hi,λ x H'⟨a,c,b,Y⟩=>⟨a,?_⟩⟩;unfold kh at e;rw[zo,jn,b]at e;have J:=qi e;subst J;exact Y
theorem sd(q:PE X l tl):PI X tg l (JY X.K tl):=λ aA s L H R I h=>by
 rcases h with h|h|h
 .exact zG q aA s L H R I h
 .exact S5 q aA s L H R I h
 .exact S6 q aA s L H R I h
theorem tw{K:Frag}(Y:RS K c H0 H U L)(f:F U=some (d,ρ'))(hx:items d=some xs)(h:∀J H1 Hh,aD H0 H1->RS K c H1 Hh ρ' L->lQ K J H1 xs->R J Hh):JY K (tE K F) L H R:=by
 cases d with
 |lst j=>
  have e:=qi hx;subst e;refine .inl ⟨c,H0,U,_,ρ',Y,f,λ v H1 Hh g q b=>?_⟩;obtain⟨a,i,rfl,rd,r⟩:=b;exact cN a rfl ⟨i,aD.seq q.same rd⟩ (h _ H1 Hh g q (Oq rd r))
 |tup j=>
  have e:=qi hx;subst e;refine .inr (.inl ⟨c,H0,U,_,ρ',Y,f,λ v H1 Hh g q b=>?_⟩);obtain⟨a,i,rfl,rd,r⟩:=b;exact cN a rfl ⟨i,aD.seqT q.same rd⟩ (h _ H1 Hh g q (OZ rd r))
 |str z=>
  have e:=qi hx;subst e;refine .inr (.inr ⟨c,H0,U,_,ρ',Y,f,λ v H1 Hh g q b=>?_⟩);exact⟨z,b,h _ H1 Hh g q (O0 z)⟩
 |_=>cases hx
theorem FQ:∀{js:List Nat}{fr:En},fQ U js=some fr->fr.length=js.length/\∀(k:Nat)(s:Sl),fr[k]?=some s->∃j d,js[k]?=some j/\U[j]?=some (.im d)/\s=.im d
 |[],_,h=>by
  have h':=qi h;subst h';exact⟨rfl,λ k s e=>by simp at e⟩
 |j::js,_,h=>by
  rw[Mv]at h;obtain⟨s,c,h⟩:=aL h;obtain⟨r,f,h⟩:=aL h;obtain rfl:=br h;obtain⟨a,b⟩:=FQ f;refine⟨by rw[zh,zh,a],λ k s' e=>?_⟩;cases k with
  |zero=>
   simp at e;subst e;cases z:U[j]? with
   |none=>rw[z]at c;cases c
   |some Z=>
    rw[z]at c;cases Z with
    |im d=>exact bE j d rfl z ((qi c).symm)
    |_=>cases c
  |succ k=>
   refine cF (b k s' (by simpa using e)) λ q d J g Y=>?_;exact bE q d (by simpa using J) g Y
theorem RS.block{K:Frag}(R:RS K c H0 H U L)(hf:fQ U js=some fr)(rx:aS K H0 d x):RS K ⟨H0,H,[]⟩ H0 H (.im d::fr) (some x::fN L js):=by
 obtain⟨l,g⟩:=FQ hf;refine⟨R.same,aD.refl _,λ b o e=>.inl e,λ b o e _=>e,λ a h=>(by cases h),?_,λ i f e=>?_,λ i b o e=>?_,λ i j b p o r a e=>?_⟩
 .rw[zh,zh,l,fN,qw]
 .cases i with
  |zero=>simp at e;subst e;exact⟨x,rfl,rx⟩
  |succ k=>
   obtain⟨j,J,Y,m,q⟩:=g k _ (by simpa using e);cases q;obtain⟨v,Z,n⟩:=R.im j f m;refine⟨v,?_,n⟩;show(fN L js)[k]?=some (some v);unfold fN;rw[zo,Y];show some (L[j]?).join=some (some v);rw[Z];rfl
 .cases i with
  |zero=>simp at e
  |succ k=>
   obtain⟨j,J,_,_,q⟩:=g k _ (by simpa using e);cases q
 .cases i with
  |zero=>simp at e
  |succ k=>
   obtain⟨j,J,_,_,q⟩:=g k _ (by simpa using e);cases q
theorem RS.step{K:Frag}(R:RS K ⟨q,J,[]⟩ H0 H U L):bR q J H0 H:=
 ⟨R.init,λ b o e=>R.keep b o e (by simp),R.same,R.fresh⟩
theorem oh{xs:List α}{d:α}(h:xs[i]?=some d):xs.drop i=d::xs.drop (i+1):=by obtain⟨hi,e⟩:=List.getElem?_eq_some_iff.mp h;rw[<-e];exact yq hi
theorem AV{K:Frag}(R:RS K c H1 Hh U L)(hf:fQ U js=some fr)(hc:dw T F fr xs=some out)(hz:xs.length<=sizeLine)(hy:lQ K J H1 xs)(q:∀ys H0 H,aD H1 H0->RS K c H0 H U L->aB K H0 out ys->Qf ys H):mU js (iK K T) (tE K F) L Qf J Hh:=by
 refine⟨λ i m ys H=>m=xs.length-i/\i<=xs.length/\∃H0,aD H1 H0/\RS K c H0 H U L/\∃pre rest,aB K H0 pre ys/\pre.length<=i/\dw T F fr (xs.drop i)=some rest/\pre++rest=out,⟨xs.length,by simp,ye _,H1,aD.refl _,R,[],out,aB.nil_,ye _,by simpa using hc,rfl⟩,?_⟩;rintro i m ys H ⟨rfl,hi,H0,s0,a,pre,rest,d,lp,Y,e⟩;obtain⟨u,w⟩:=hy H0 H i s0 a.same;by_cases Z:i<xs.length
 .have hd:xs[i]?=some xs[i]:=by simp[Z]
  obtain⟨go,y⟩:=u _ hd;refine .inr ⟨go,by rw[<-d.length];lia,λ x H' hx=>?_⟩;obtain⟨rfl,s⟩:=y x H' hx;rw[oh hd,F8]at Y;obtain⟨⟨b,h⟩,n,Y⟩:=aL Y;refine⟨⟨H0,H',[]⟩,H0,_,b,h,a.block hf s,n,λ g cJ B R2=>?_⟩;cases b with
  |false=>
   rw[if_neg zj]at Y⊢;have S:=R2.step;exact⟨xs.length-(i+1),by lia,rfl,Z,g,s0.trans S.s0,a.after S,pre,rest,aB.mono S.s0 _ d,by lia,Y,e⟩
  |true=>
   rw[if_pos rfl]at Y⊢;obtain⟨⟨z,l⟩,o,Y⟩:=aL Y;obtain⟨t,p,Y⟩:=aL Y;have f:=Y;cases f;refine⟨⟨H0,H',[]⟩,g,h,z,l,R2,o,λ v j dC C k r3=>?_⟩;have S:=k.step;refine⟨xs.length-(i+1),by lia,rfl,Z,j,s0.trans S.s0,a.after S,pre++[z],t,(aB.mono S.s0 _ d).app (aB.one r3),?_,p,?_⟩
   .rw[zi,Zb];lia
   .rw[Qg];exact e
 .have A:i=xs.length:=by lia
  have r:xs.drop i=[]:=jk (by lia);rw[r,El]at Y;have f:=qi Y;subst f;rw[zx]at e;subst e;exact .inl ⟨w (by lia),by rw[<-d.length];lia,q ys H0 H s0 a d⟩
def lb(X:Cx)(bU:List Expr)(T:FT):Prop:=jX X bU (iK X.K T)
theorem jX.wk(h:jX X e t)(w:∀L H Q,t' L H Q->t L H Q):jX X e t':=λ aA s L H Q I q=>h aA s L H Q I (w L H Q q)
theorem n7:lb X [] Fx.dA:=jX.wk N5 λ L H Q J=>by
 refine bL J λ c H0 U b a R f q=>?_;have Y:=f;cases Y;exact q H0 H (aD.refl _) R
theorem lV(h:XT X c T):lb X [c] T:=N4 h
section
variable{bU:List Expr}
theorem Ef(h:iT js I T F U=some (d,ρ')):∃z xs fr ys,I U=some (z,ρ')/\items z=some xs/\fQ ρ' js=some fr/\dw T F fr xs=some ys/\xs.length<=sizeLine/\d=.lst ys:=by
 obtain⟨⟨z,Y⟩,a,h⟩:=aL h;obtain⟨xs,b,h⟩:=aL h;obtain⟨fr,q,h⟩:=aL h;obtain⟨ys,J,h⟩:=aL h;split at h
 .rename_i c;cases h;exact⟨z,xs,fr,ys,a,b,q,J,c,rfl⟩
 .cases h
theorem tW(hc:X.calm=true)(Z:X.env.scope=sc)(B:eA X.N sc scope x aV js)(hi:XE X iter I)(ht:∀s H C fp,lb (df X (x::aV) scope s H C fp) bU T)(he:∀s H C fp,XE (df X (x::aV) scope s H C fp) elt F)(hs:∀v,foldedSetIterable iter X.env v=pure v:=by intro _;rfl):XE X (.ListComp elt [⟨.Name x px,iter,bU,0⟩] scope pos) (iT js I T F):=
 PE.wk (Ii (tt:=iK X.K T) (te:=tE X.K F) hc Z B (sd hi) ht he hs) λ L H Q Y=>by
  refine bL Y λ c H0 U d t R f q=>?_;obtain⟨z,xs,fr,ys,e,g,h,i,l,rfl⟩:=Ef f;refine tw R e g λ J H1 Hh n b k=>?_;refine AV b h i l k λ a u cJ r R2 m=>λ p j=>?_;have S:=bR.alloc (o:=.lst a) R2.same j;refine q _ _ _ (n.trans (r.trans S.s0)) (R2.after S) ?_;exact bE p a rfl (.inl (.inl bT)) (aB.mono S.s0 _ m)
end
def fE(K:Frag)(c:FC)(Dn:i0)(H0:Hp):bM->Prop
 |.nx ρ'=>∀q aR H',aD H0 aR->RS K c aR H' ρ' q->Dn.nx q H'
 |.rt d ρ'=>∀v q aR H',aD H0 aR->RS K c aR H' ρ' q->aS K aR d v->Dn.rt v H'
 |.bk ρ'=>∀q aR H',aD H0 aR->RS K c aR H' ρ' q->Dn.bk q H'
 |.ct ρ'=>∀q aR H',aD H0 aR->RS K c aR H' ρ' q->Dn.ct q H'
def tS(K:Frag)(F:FS):TS:=λ Dn L H=>∃c H0 U r,RS K c H0 H U L/\F U=some r/\fE K c Dn H0 r
def XS(X:Cx)(st:Stmt)(F:FS):Prop:=PS X st (tS X.K F)
def fJ(X:Cx)(sts:List Stmt)(F:FS):Prop:=d8 X sts (tS X.K F)
theorem fE.mono{K:Frag}(s:aD H0 H1):∀{r:bM},fE K c Dn H0 r->fE K c Dn H1 r
 |.nx _,h=>λ q aR H' z=>h q aR H' (s.trans z)
 |.rt _ _,h=>λ v q aR H' z=>h v q aR H' (s.trans z)
 |.bk _,h=>λ q aR H' z=>h q aR H' (s.trans z)
 |.ct _,h=>λ q aR H' z=>h q aR H' (s.trans z)
theorem RS.set{K:Frag}(R:RS K c H0 H U L)(i:Nat)(r:aS K H0 d v):RS K c H0 H (U.set i (.im d)) (L.set i (some v)):=by
 have l:=R.len;have J:∀(j:Nat)(sl:Sl),j≠i->(U.set i (.im d))[j]?=some sl->U[j]?=some sl:=λ j sl Y e=>by grind
 have q:∀(j:Nat),j≠i->(L.set i (some v))[j]?=L[j]?:=λ j Y=>zf (zt Y);have same:∀(sl:Sl),(U.set i (.im d))[i]?=some sl->sl=.im d/\i<U.length:=λ sl e=>by
  by_cases hi:i<U.length
  .grind
  .grind
 refine⟨R.same,R.init,R.fresh,R.keep,R.apt,by rw[yf,yf,l],λ j h e=>?_,λ j bb o e=>?_,λ j k f g o m a e1 e2 e3 e4=>?_⟩
 .by_cases Y:j=i
  .grind
  .rw[q j Y];exact R.im j h (J j _ Y e)
 .by_cases Y:j=i
  .grind
  .rw[q j Y];exact R.ow j bb o (J j _ Y e)
 .by_cases Y:j=i
  .grind
  .by_cases b:k=i
   .grind
   .rw[q j Y]at e3;rw[q k b]at e4;exact R.ne j k f g o m a (J j _ Y e1) (J k _ b e2) e3 e4
section
variable{X:Cx}{pos:Pos}{e:Expr}{F:FE}{T:FT}{A B:FS}
theorem h_:fJ X [] sN:=d8.wk PL λ Dn L H J=>by
 refine bY J λ c H0 U r R f q=>?_;have Y:=f;obtain rfl:=br Y;exact q L H0 H (aD.refl _) R
theorem de{st:Stmt}(h:XS X st A):fJ X [st] A:=nY h
theorem bI{st:Stmt}{rest:List Stmt}(h1:XS X st A)(h2:fJ X rest B):fJ X (st::rest) (aM A B):=d8.wk (sZ h1 h2) λ Dn L H Z=>by
 refine bY Z λ c H0 U r R f q=>?_;obtain⟨z,h,f⟩:=aL f;refine dF c H0 U z R h ?_;cases z with
 |nx J=>exact λ b aR H' s a=>⟨c,aR,J,r,a,f,q.mono s⟩
 |rt d J=>have Y:=f;obtain rfl:=br Y;exact q
 |bk J=>have Y:=f;obtain rfl:=br Y;exact q
 |ct J=>have Y:=f;obtain rfl:=br Y;exact q
theorem mK(i:Nat)(hN:X.N.Nodup)(Z:XE X e F)(hi:X.N[i]?=some x:=by rfl)(hx:jI X.env.scope x:=by first|exact Or.inl rfl|exact Or.inr rfl)(hs:swapsWith e (some (.Name x pos')) pos.line X.env=pure false:=by rfl)(hf:X.fn x=true\/X.env.scope.names.lookup x=some .local:=by first|exact .inl rfl|exact .inr rfl):XS X (.Assign [.Name x pos'] e pos) (bC i F):=PS.wk (mP hN hi hx Z hs hf) λ Dn L H J=>by
 refine bY J λ c H0 U r R f q=>?_;obtain⟨⟨d,Y⟩,g,f⟩:=aL f;have b:=f;obtain rfl:=br b;exact bA c H0 U d Y R g λ v H1 Hh j a h=>q _ H1 Hh j (a.set i h)
theorem r_(i:Nat){bU:List Expr}(hN:X.N.Nodup)(hc:X.calm=true)(ac:X.env.scope=sc)(Bk:eA X.N sc scope x aV js)(hi:XE X iter I)(ht:∀s H C fp,lb (df X (x::aV) scope s H C fp) bU T)(he:∀s H C fp,XE (df X (x::aV) scope s H C fp) elt F)(aa:X.N[i]?=some y:=by rfl)(hy:X.env.scope.names.lookup y=some .local:=by rfl)(Z:swapsWith (.ListComp elt [⟨.Name x px,iter,bU,0⟩] scope pos) (some (.Name y py)) spos.line X.env=pure true:=by rfl)(hs:∀v,foldedSetIterable iter X.env v=pure v:=by intro _;rfl):XS X (.Assign [.Name y py] (.ListComp elt [⟨.Name x px,iter,bU,0⟩] scope pos) spos) (bC i (iT js I T F)):=
 PS.wk (tU (tt:=iK X.K T) (te:=tE X.K F) hN aa hy hc ac Bk (sd hi) ht he Z hs) λ Dn L H Y=>by
  refine bY Y λ c H0 U r R f q=>?_;obtain⟨⟨d,B⟩,h,f⟩:=aL f;have e:=f;obtain rfl:=br e;obtain⟨z,xs,fr,ys,g,j,k,l,n,rfl⟩:=Ef h;refine tw R g j λ J H1 Hh u b hy=>?_;refine AV b k l n hy λ a A cJ w R2 t=>λ p m=>?_;have S:=bR.alloc (o:=.lst a) R2.same m;refine q _ _ _ (u.trans (w.trans S.s0)) ((R2.after S).set i ?_);exact bE p a rfl (.inl (.inl bT)) (aB.mono S.s0 _ t)
theorem fz(hc:XT X c T)(ha:fJ X a A)(hb:fJ X b B):XS X (.If c a b pos) (bP T A B):=PS.wk (Fi hc ha hb) λ Dn L H Y=>by
 refine bY Y λ c H0 U r R f q=>?_;obtain⟨⟨k,J⟩,e,f⟩:=aL f;refine bA c H0 U k J R e λ H1 Hh d Z=>?_;cases k with
 |true=>
  rw[if_pos rfl]at f⊢;exact dF c H1 J r Z f (q.mono d)
 |false=>
  rw[if_neg zj]at f⊢;exact dF c H1 J r Z f (q.mono d)
theorem kQ(Z:XE X e F):XS X (.Return (some e) pos) (bD F):=PS.wk (vi Z) λ Dn L H J=>by
 refine bY J λ c H0 U r R f q=>?_;obtain⟨⟨d,Y⟩,g,f⟩:=aL f;have b:=f;obtain rfl:=br b;exact bA c H0 U d Y R g λ v H1 Hh i a h=>q v L H1 Hh i a h
abbrev GD:=D->En->Option En
def tG(K:Frag)(g:GD):TG:=λ v L H Q=>∃c H0 U d ρ',RS K c H0 H U L/\aS K H0 d v/\g d U=some ρ'/\∀q aR H',aD H0 aR->RS K c aR H' ρ' q->Q q H'
def Wr(K:Frag)(is:List Nat):kD:=λ vs L H Q=>∃c H0 U ds,RS K c H0 H U L/\aB K H0 ds vs/\ds.length=is.length/\∀q aR H',aD H0 aR->RS K c aR H' (kz is ds U) q->Q q H'
def XG(X:Cx)(tg:Expr)(g:GD):Prop:=PG X tg (tG X.K g)
def uK(X:Cx)(q:List Expr)(is:List Nat):Prop:=oO X q (Wr X.K is)
theorem ey(i:Nat)(hN:X.N.Nodup)(hi:X.N[i]?=some x:=by rfl)(hx:jI X.env.scope x:=by first|exact Or.inl rfl|exact Or.inr rfl)(hf:X.fn x=true\/X.env.scope.names.lookup x=some .local:=by first|exact .inl rfl|exact .inr rfl):XG X (.Name x pos) (gN i):=
 λ aA s L H v u Q I Z J=>by obtain⟨c,H0,U,d,a,R,r,f,q⟩:=J;exact GW hN hi hx hf aA s L H v u Q I Z (by
  have Y:=f;obtain rfl:=br Y;exact q _ H0 H (aD.refl _) (R.set i r))
theorem nq:uK X [] []:=λ aA s L H a us Q I Y J=>by obtain⟨c,H0,U,b,R,r,l,q⟩:=J;exact Ob aA s L H a us Q I Y (by
 have e:=List.length_eq_zero_iff.mp l;subst e;exact⟨r,q L H0 H (aD.refl _) (by simpa [O7]using R)⟩)
theorem hU(h1:XG X e (gN i))(h2:uK X es is)(hs:(assignEach (e::es) X.env).map (·.2)=assign e X.env::(assignEach es X.env).map (·.2):=by rfl):uK X (e::es) (i::is):=
 λ aA s L H n us Q I k J=>by obtain⟨c,H0,U,a,R,r,l,q⟩:=J;exact M8 h1 h2 hs aA s L H n us Q I k (by
  cases a with
  |nil=>simp at l
  |cons d a=>
   obtain⟨v,Z,rfl,h,j⟩:=r;refine⟨v,Z,rfl,c,H0,U,d,_,R,h,rfl,λ o H1 Hh b g=>?_⟩;exact⟨c,H1,_,a,g,aB.mono b _ j,by simpa using l,λ Y f cJ m R2=>q Y f cJ (b.trans m) (by simpa [Ow]using R2)⟩)
theorem K2{items:Array Value}(Z:X.A.handled=none)(hl:s.heap.IsList l items)(Y:(assignEach q X.env).length=items.size)(J:(assignEach q X.env).findIdx? (·.1)=none)(h:∀h',Heap.ExtBut s.heap.objs.size s.heap h'->wpAny (model X.prog X.w) X.A (assignInOrder ((assignEach q X.env).map (·.2)) items.toList) Q E {s with heap:=h'}):wpAny (model X.prog X.w) X.A (assign (.Tuple q k pos) X.env (.ref l)) Q E s:=by
 rw[assign_Tuple];refine qb (Qy ?_);unfold unpack;rw[Y,J];exact qb (z0 (PySem.W.kun_itemsOf Z hl h))
def UL(K:Frag)(n:Nat)(t:kD):TG:=λ v L H Q=>∃a xs,v=.ref a/\c7 K H a xs/\xs.length=n/\t xs L H Q
theorem S9{es:List Expr}{k:Nat}{t:kD}{n:Nat}(hc:X.calm=true)(h:oO X es t)(Z:(assignEach es X.env).length=n)(q:(assignEach es X.env).findIdx? (·.1)=none):PG X (.Tuple es k pos) (UL X.K n t):=by
 intro aA s L H v u Q I r J;obtain⟨a,xs,e1,f,d,J⟩:=J;subst e1;subst r;refine aW (I.list f) λ i Y g j=>?_;refine K2 (I.ok.hd hc) g.isList (by simp[Z,<-d,Y.length]) q λ h' hx=>?_;have c:aI X aA L H {s with heap:=h'}:=I.kept (t':=s.toks) λ b o e=>hx b o (qr (qm e)) e;exact h aA _ L H xs _ Q c (by simpa using Y) J
theorem n6(h:uK X es is)(hc:X.calm=true:=by rfl)(hn:(assignEach es X.env).length=is.length:=by rfl)(Y:(assignEach es X.env).findIdx? (·.1)=none:=by rfl):XG X (.Tuple es k pos) (gT is):=
 λ aA s L H v u Q I l J=>by
  obtain⟨c,H0,U,d,m,R,r,f,q⟩:=J;obtain⟨xs,g,f⟩:=aL f;split at f
  .rename_i Z;obtain rfl:=br f;cases d with
   |tup b=>
    refine S8 hc h hn Y aA s L H v u Q I l ?_;have e:=qi g;subst e;obtain⟨a,j,rfl,i,r⟩:=r;exact⟨a,j,rfl,aD.seqT R.same i,by rw[<-r.length];exact Z,c,H0,U,b,R,r,Z,q⟩
   |lst b=>
    refine S9 hc h hn Y aA s L H v u Q I l ?_;have e:=qi g;subst e;obtain⟨a,j,rfl,i,r⟩:=r;exact⟨a,j,rfl,aD.seq R.same i,by rw[<-r.length];exact Z,c,H0,U,b,R,r,Z,q⟩
   |_=>cases g
  .simp at f
theorem yW(hg:XG X tg (gT is))(he:XE X e F)(hs:swapsWithSole [tg] e pos.line X.env=pure false:=by rfl)(hw:swappedStores [tg] e X.env=pure none:=by rfl)(h1:(assignEach [tg] X.env).map (·.2)=[assign tg X.env]:=by rfl):XS X (.Assign [tg] e pos) (sE is F):=PS.wk (Aj he hg hs hw h1) λ Dn L H Y=>by
 refine bY Y λ c H0 U r R f q=>?_;obtain⟨⟨d,Z⟩,h1,f⟩:=aL f;obtain⟨J,i,f⟩:=aL f;have h:=f;obtain rfl:=br h;exact bA c H0 U d Z R h1 λ v H1 Hh k b j=>⟨c,H1,Z,d,J,b,j,i,λ g a cJ l R2=>q g a cJ (k.trans l) R2⟩
theorem E9{K:Frag}(R:RS K c H1 Hh U L)(hf:cK g B xs U=some r)(hy:lQ K J H1 xs)(q:fE K c Dn H1 r):∃W:Nat->Nat->L2.St->Hp->Prop,(∃m,W 0 m L Hh)/\∀i m L H,W i m L H->(J.stop i H/\Dn.nx L H)\/(J.go i H/\∃N:L2.St->Hp->Prop,(∀Y H',N Y H'->∃m',m'<m/\W (i+1) m' Y H')/\∀x H',J.yld i H x H'->tG K g x L H' λ af H2=>tS K B {Dn with nx:=N,ct:=N,bk:=Dn.nx} af H2):=by
 refine⟨λ i m L H=>m=xs.length-i/\i<=xs.length/\∃H0 U,aD H1 H0/\RS K c H0 H U L/\cK g B (xs.drop i) U=some r,⟨xs.length,by simp,ye _,H1,U,aD.refl _,R,by simpa using hf⟩,?_⟩;rintro i m L H ⟨rfl,hi,H0,U,k,o,e⟩;obtain⟨A,C⟩:=hy H0 H i k o.same;by_cases p:i<xs.length
 .have hd:xs[i]?=some xs[i]:=by simp[p]
  obtain⟨go,D⟩:=A _ hd;refine .inr ⟨go,λ Y H'=>∃m',m'<xs.length-i/\m'=xs.length-(i+1)/\i+1<=xs.length/\∃H0 U,aD H1 H0/\RS K c H0 H' U Y/\cK g B (xs.drop (i+1)) U=some r,λ Y H'⟨m',a,b⟩=>⟨m',a,b⟩,λ x H' hx=>?_⟩;obtain⟨rfl,y⟩:=D x H' hx;rw[oh hd,FW]at e;obtain⟨s,t,e⟩:=aL e;obtain⟨z,u,e⟩:=aL e;refine⟨c,H0,U,_,s,o,y,t,λ E H2 cJ n R2=>⟨c,H2,s,z,R2,u,?_⟩⟩;cases z with
  |nx Z=>exact λ Y f dC j h=>⟨_,by lia,rfl,p,f,Z,k.trans (n.trans j),h,e⟩
  |ct Z=>exact λ Y f dC j h=>⟨_,by lia,rfl,p,f,Z,k.trans (n.trans j),h,e⟩
  |bk Z=>
   have l:=e;cases l;exact λ Y f dC j h=>q Y f dC (k.trans (n.trans j)) h
  |rt d Z=>
   have l:=e;cases l;exact λ v Y f dC j h r3=>q v Y f dC (k.trans (n.trans j)) h r3
 .have w:xs.drop i=[]:=jk (by lia);rw[w,Ed]at e;have l:=e;cases l;exact .inl ⟨C (by lia),q L H0 H k o⟩
theorem kM(hg:XG X tg g)(hi:XE X iter F)(hb:fJ X Y B)(hp:PassesOwn (model X.prog X.w) X.A X.env X.xe:=by exact Zk)(hc:X.calm=true:=by rfl)(hs:∀x,foldedSetIterable iter X.env x=pure x:=by intro _;rfl):XS X (.For tg iter Y [] pos) (jM g F B):=PS.wk (rY hp hc (sd hi) hg hb hs) λ Dn L H Z=>by
 refine bY Z λ c H0 U r R f q=>?_;obtain⟨⟨d,j⟩,b,f⟩:=aL f;obtain⟨xs,e,f⟩:=aL f;exact tw R b e λ J H1 Hh i a h=>E9 a f h (q.mono i)
theorem oT(hm:X.mg "range"=none)(hg:XG X tg g)(ha:XE X a F)(hb:fJ X J B)(aa:Gl X "range":=by rfl)(hp:PassesOwn (model X.prog X.w) X.A X.env X.xe:=by exact Zk)(hc:X.calm=true:=by rfl)(Z:starEach [a] X.env=[(false,eval a X.env)]:=by rfl)(hs:∀x,foldedSetIterable (.Call (.Name "range" p) [a] [] pos') X.env x=pure x:=by intro _;rfl):XS X (.For tg (.Call (.Name "range" p) [a] [] pos') J [] pos) (lX g (l7 F) B):=PS.wk (rY hp hc (PU aa hm (gq ha jD Z) Z) hg hb hs) λ Dn L H Y=>by
 refine bY Y λ c H0 U r R f q=>?_;obtain⟨⟨xs,t⟩,b,f⟩:=aL f;obtain⟨⟨d,s⟩,m,b⟩:=aL b;obtain⟨j,h,b⟩:=aL b;split at b
 .rename_i i;cases b;refine bA c H0 U d _ R m λ v H1 Hh o l n=>?_;cases d with
  |int k=>
   have e:=qi h;subst e;subst n;exact gj k rfl i.1 i.2 (E9 l f (O1 0 k.toNat) (q.mono o))
  |_=>cases h
 .simp at b
theorem yR(hc:XT X c T)(hb:fJ X ae B)(hp:PassesOwn (model X.prog X.w) X.A X.env X.xe:=by exact Zk):XS X (.While c ae [] pos) (rX ac T B):=PS.wk (M5 hp hc hb) λ Dn L H s=>by
 refine bY s λ c H0 U r R f q=>?_;refine⟨λ m L H=>∃H1 U,aD H0 H1/\RS X.K c H1 H U L/\iX T B m U=some r,⟨ac U,H0,U,aD.refl _,R,f⟩,?_⟩;rintro m u Hh ⟨H1,t,j,p,Z⟩;cases m with
 |zero=>cases Z
 |succ m=>
  rw[MQ]at Z;obtain⟨⟨b,n⟩,x,Z⟩:=aL Z;refine bA c H1 t b n p x λ l cJ k R2=>?_;cases b with
  |false=>
   rw[if_neg zj]at Z⊢;have i:=Z;obtain rfl:=br i;exact q u l cJ (j.trans k) R2
  |true=>
   rw[if_pos rfl]at Z⊢;obtain⟨z,y,Z⟩:=aL Z;refine⟨λ J H'=>∃o,o<m+1/\∃H1 U,aD H0 H1/\RS X.K c H1 H' U J/\iX T B o U=some r,λ J H' h=>h,⟨c,l,n,z,R2,y,?_⟩⟩;cases z with
   |nx Y=>exact λ J a dC g e=>⟨m,by lia,a,Y,j.trans (k.trans g),e,Z⟩
   |ct Y=>exact λ J a dC g e=>⟨m,by lia,a,Y,j.trans (k.trans g),e,Z⟩
   |bk Y=>
    have i:=Z;obtain rfl:=br i;exact λ J a dC g e=>q J a dC (j.trans (k.trans g)) e
   |rt d Y=>
    have i:=Z;obtain rfl:=br i;exact λ v J a dC g e r3=>q v J a dC (j.trans (k.trans g)) e r3
end
theorem RS.nq{ds:List D}{m i:Nat}{b:Bool}{o:MO}:¬(ds.map Sl.im++List.replicate m Sl.no)[i]?=some (.ow b o):=λ e=>by
 by_cases hi:i<ds.length
 .rw[yy (by simpa using hi),zo]at e;cases z:ds[i]? with
  |none=>rw[z]at e;cases e
  |some k=>rw[z]at e;cases e
 .rw[Qo (by simpa using Nat.le_of_not_lt hi),List.getElem?_replicate]at e;split at e<;>cases e
theorem RS.start{K:Frag}(s:aD q H)(r:aB K q ds vs)(Y:n-vs.length=m):RS K ⟨q,H,[]⟩ q H (ds.map .im++List.replicate m .no) (vs.map some++List.replicate (n-vs.length) none):=by
 have Z:=r.length;refine⟨s,aD.refl _,λ b o e=>.inl e,λ b o e _=>e,λ a h=>(by simp at h),by simp[Z,Y],λ i d e=>?_,λ i b o e=>(RS.nq e).elim,λ i j b f o g a e=>(RS.nq e).elim⟩
 by_cases hi:i<ds.length
 .rw[yy (by simpa using hi),zo]at e;cases z:ds[i]? with
  |none=>rw[z]at e;cases e
  |some c=>
   rw[z]at e;have J:c=d:=by have:=qi e;injection this
   subst J;obtain⟨v,a,b⟩:=r.get z;exact⟨v,by rw[yy (by simpa[Z]using hi),zo,a];rfl,b⟩
 .rw[Qo (by simpa using Nat.le_of_not_lt hi),List.getElem?_replicate]at e;split at e<;>cases e
theorem B0{K:Frag}{st:Stmt}(F:ic K x qual st f fd)(S:aG N ps (aX st))(hn:ps.length=n)(hN:N.length=n+m)(hb:∀(J:Value)(A:Around)(outer:List Env)(s:Shared)(H:Hp)(E:XK),bJ k (A.deeper (envOfC qual (aX st) s.heap.objs.size f J))->fJ (fS ft P w K mg base N qual (aX st) f J A outer s H E).nox (fZ st) B):cB P w K mg base ft (k+1) f fd ps (qE K (c9 n m B)):=by
 have Y:∀{b:List D}{d:D},c9 n m B b=some d->b.length=n/\∃r,B (b.map .im++List.replicate m .no)=some r/\vH r=some d:=λ{b d}h=>by
  unfold c9 at h;split at h
  .rename_i l;obtain⟨r,j,c⟩:=aL h;exact⟨l,r,j,c⟩
  .cases h
 refine F.ok S (λ z H Q E h=>?_) (λ J A outer s H z Q E p h=>?_)
 .obtain⟨i,b,d,_,r,e,_⟩:=h;rw[hn,<-r.length];exact(Y e).1
 .obtain⟨i,b,d,t,r,e,q⟩:=h;obtain⟨l,g,j,c⟩:=Y e;refine⟨_,hb J A outer s H E p,⟨i,H,[]⟩,i,_,g,RS.start t r (by rw[<-r.length];lia),j,?_⟩;cases g with
  |nx a=>
   have Z:=qi c;subst Z;exact λ o aR H' y R=>q .non aR H' R.step (by rfl)
  |rt C a=>
   have Z:=qi c;subst Z;exact λ v o aR H' y R u=>q v aR H' R.step u
  |bk a=>cases c
  |ct a=>cases c
end Fx
namespace Fx
open PySem
@[simp] theorem W7:(∀i j,cw (.int i) (.int j)=some (.int (i+j)))/\(∀a b,cw (.lst a) (.lst b)=if a.length+b.length<=sizeLine then some (.lst (a++b))else none)/\(∀a b,cw (.str a) (.str b)=if a.length+b.length<=sizeLine then some (.str (a++b))else none)/\(∀i j,fR (.int i) (.int j)=some (.int (i-j)))/\(∀i j,gF (.int i) (.int j)=if eZ i j=true then some (.int (i*j))else none)/\(∀i j,kG (.int i) (.int j)=if jS j=true then some (.int (i.fdiv j))else none)/\(∀i j,cu (.int i) (.int j)=if j≠0 then some (.int (i.fmod j))else none)/\(∀i j,vt (.int i) (.int j)=if 0<=j/\j<=64/\i.natAbs<2^64 then some (.int (i^j.toNat))else none)/\(∀i,rP (.int i)=some (.int (-i)))/\(∀i j,hZ (.int i) (.int j)=some (.bl (decide (i<j))))/\(∀i j,my (.int i) (.int j)=some (.bl (decide (i<=j))))/\(∀i j,kj (.int i) (.int j)=some (.bl (decide (j<i))))/\(∀i j,pP (.int i) (.int j)=some (.bl (decide (j<=i))))/\(∀x y,eQ x y=if cD x<=30/\cD y<=30 then some (.bl (b8 x y))else none)/\(∀x y,gW x y=if cD x<=30/\cD y<=30 then some (.bl (!b8 x y))else none)/\(∀x,mx x .non=some (.bl (fy x)))/\(∀x,fU x .non=some (.bl (!fy x)))/\(∀b,nj (.bl b)=some b)/\(∀xs,nj (.lst xs)=some (!xs.isEmpty))/\(∀xs,nj (.tup xs)=some (!xs.isEmpty)):=by and_intros<;>intros<;>rfl
@[simp] theorem XQ:j_ [.int i]=some (.int (i.natAbs:Int)):=by grind[j_]
@[simp] theorem XM:lC [.int i,.int j]=some (.int (if j>i then j else i)):=yI rfl
@[simp] theorem XJ:pH [.int i,.int j]=some (.int (if j<i then j else i)):=yI rfl
def HJ{α:Type}(x:α)(o:Option (List α)):Option (List α):=aF o λ t=>some (x::t)
@[simp] theorem lg(x:α)(t:List α):HJ x (some t)=some (x::t):=yI rfl
def gx(o:Option D)(U:En):Option (D×En):=aF o λ d=>some (d,U)
def JO(op:D->Option D)(o:Option (D×En)):Option (D×En):=aF o λ p=>aF (op p.1) λ d=>some (d,p.2)
def BR(op:D->D->Option D)(x:D)(o:Option (D×En)):Option (D×En):=aF o λ q=>aF (op x q.1) λ d=>some (d,q.2)
def BQ(op:D->D->Option D)(G:FE)(o:Option (D×En)):Option (D×En):=aF o λ p=>aF (G p.2) λ q=>aF (op p.1 q.1) λ d=>some (d,q.2)
def BS(q:D->D->Option D)(σ:FE)(y:D)(U:En)(o:Option D):Option (D×En):=aF o λ z=>aF (jN z) λ b=>if b=true then aF (σ U) λ r=>aF (q y r.1) λ d=>some (d,r.2)else some (.bl false,U)
def JQ(op J:D->D->Option D)(σ:FE)(x:D)(o:Option (D×En)):Option (D×En):=aF o λ q=>aF (op x q.1) λ z=>aF (jN z) λ b=>if b=true then aF (σ q.2) λ r=>aF (J q.1 r.1) λ d=>some (d,r.2)else some (.bl false,q.2)
def JP(op J:D->D->Option D)(G σ:FE)(o:Option (D×En)):Option (D×En):=aF o λ p=>aF (G p.2) λ q=>aF (op p.1 q.1) λ z=>aF (jN z) λ b=>if b=true then aF (σ q.2) λ r=>aF (J q.1 r.1) λ d=>some (d,r.2)else some (.bl false,q.2)
def Ej(x:D)(o:Option (List D×En)):Option (List D×En):=aF o λ q=>some (x::q.1,q.2)
def Ei(A:FA)(o:Option (D×En)):Option (List D×En):=aF o λ p=>aF (A p.2) λ q=>some (p.1::q.1,q.2)
def Hm(o:Option (List D×En)):Option (D×En):=aF o λ p=>if p.1.length<=1000 then some (.tup p.1,p.2)else none
def Hz(o:Option (List D×En)):Option (D×En):=aF o λ p=>if p.1.length<=1000 then some (.lst p.1,p.2)else none
def JR(g:List D->Option D)(o:Option (List D×En)):Option (D×En):=aF o λ p=>aF (g p.1) λ d=>some (d,p.2)
def IW(t:Ty)(o:Option (D×En)):Option (D×En):=aF o λ p=>some (.bl (lD t p.1),p.2)
@[simp] theorem XF:(∀d U,gx (some d) U=some (d,U))/\(∀U d,Cw U (some (.im d))=some (d,U))/\(∀i U,eV i U=Cw U U[i]?)/\(∀d U,eC d U=some (d,U))/\(∀op F U,e1 op F U=JO op (F U))/\(∀op x U,JO op (some (x,U))=gx (op x) U)/\(∀op F G U,e2 op F G U=BQ op G (F U))/\(∀op G x U,BQ op G (some (x,U))=BR op x (G U))/\(∀op x y U,BR op x (some (y,U))=gx (op x y) U)/\(∀op q F G σ U,e3 op q F G σ U=JP op q G σ (F U))/\(∀op q G σ x U,JP op q G σ (some (x,U))=JQ op q σ x (G U))/\(∀op q σ x y U,JQ op q σ x (some (y,U))=BS q σ y U (op x y))/\(∀q σ y U,BS q σ y U (some (.bl true))=BR q y (σ U))/\(∀q σ y U,BS q σ y U (some (.bl false))=some (.bl false,U))/\(∀U,aN U=some ([],U))/\(∀F A U,aC F A U=Ei A (F U))/\(∀A x U,Ei A (some (x,U))=Ej x (A U))/\(∀x xs U,Ej x (some (xs,U))=some (x::xs,U))/\(∀A U,bZ A U=Hm (A U))/\(∀xs U,Hm (some (xs,U))=if xs.length<=1000 then some (.tup xs,U)else none)/\(∀A U,eK A U=Hz (A U))/\(∀xs U,Hz (some (xs,U))=if xs.length<=1000 then some (.lst xs,U)else none)/\(∀g A U,eF g A U=JR g (A U))/\(∀g xs U,JR g (some (xs,U))=gx (g xs) U)/\(∀t F U,sL t F U=IW t (F U))/\(∀t x U,IW t (some (x,U))=some (.bl (lD t x),U))/\(∀U,oN U=some (none,U)):=by and_intros<;>intros<;>rfl
def Kh(o:Option (D×En)):Option (Option Int×En):=aF o λ p=>aF (pF p.1) λ i=>some (some i,p.2)
def J_(o:Option Bool)(U:En):Option (Bool×En):=aF o λ b=>some (b,U)
def CA(o:Option (D×En)):Option (Bool×En):=aF o λ p=>aF (jN p.1) λ b=>some (b,p.2)
def KG(o:Option (D×En)):Option (Bool×En):=aF o λ p=>aF (nj p.1) λ b=>some (b,p.2)
def y4(ρ:FT)(o:Option (Bool×En)):Option (Bool×En):=aF o λ p=>if p.1=true then ρ p.2 else some (false,p.2)
def As(ρ:FT)(o:Option (Bool×En)):Option (Bool×En):=aF o λ p=>if p.1=true then some (true,p.2)else ρ p.2
def HU(o:Option (Bool×En)):Option (Bool×En):=aF o λ p=>some (!p.1,p.2)
@[simp] theorem X1:(∀F U,oS F U=Kh (F U))/\(∀i U,Kh (some (.int i,U))=some (some i,U))/\(∀b U,J_ (some b) U=some (b,U))/\(∀F U,tB F U=CA (F U))/\(∀b U,CA (some (.bl b,U))=some (b,U))/\(∀F U,tV F U=KG (F U))/\(∀x U,KG (some (x,U))=J_ (nj x) U)/\(∀T ρ U,b_ T ρ U=y4 ρ (T U))/\(∀ρ U,y4 ρ (some (true,U))=ρ U)/\(∀ρ U,y4 ρ (some (false,U))=some (false,U))/\(∀T ρ U,fq T ρ U=As ρ (T U))/\(∀ρ U,As ρ (some (true,U))=some (true,U))/\(∀ρ U,As ρ (some (false,U))=ρ U)/\(∀T U,eH T U=HU (T U))/\(∀b U,HU (some (b,U))=some (!b,U))/\(∀U,dA U=some (true,U)):=by and_intros<;>intros<;>rfl
@[simp high] theorem X2:(∀d r,eV 0 (.im d::r)=some (d,.im d::r))/\(∀d z r o,e2 o (eV 0) (eC z) (.im d::r)=gx (o d z) (.im d::r))/\(∀a d r,eV 1 (a::.im d::r)=some (d,a::.im d::r))/\(∀a d z r o,e2 o (eV 1) (eC z) (a::.im d::r)=gx (o d z) (a::.im d::r))/\(∀a b d r,eV 2 (a::b::.im d::r)=some (d,a::b::.im d::r))/\(∀a b d z r o,e2 o (eV 2) (eC z) (a::b::.im d::r)=gx (o d z) (a::b::.im d::r))/\(∀a b c d r,eV 3 (a::b::c::.im d::r)=some (d,a::b::c::.im d::r))/\(∀a b c d z r o,e2 o (eV 3) (eC z) (a::b::c::.im d::r)=gx (o d z) (a::b::c::.im d::r))/\(∀a b c e d r,eV 4 (a::b::c::e::.im d::r)=some (d,a::b::c::e::.im d::r))/\(∀a b c e d z r o,e2 o (eV 4) (eC z) (a::b::c::e::.im d::r)=gx (o d z) (a::b::c::e::.im d::r))/\(∀a b c e f d r,eV 5 (a::b::c::e::f::.im d::r)=some (d,a::b::c::e::f::.im d::r))/\(∀a b c e f d z r o,e2 o (eV 5) (eC z) (a::b::c::e::f::.im d::r)=gx (o d z) (a::b::c::e::f::.im d::r))/\(∀a b c e f g d r,eV 6 (a::b::c::e::f::g::.im d::r)=some (d,a::b::c::e::f::g::.im d::r))/\(∀a b c e f g h d r,eV 7 (a::b::c::e::f::g::h::.im d::r)=some (d,a::b::c::e::f::g::h::.im d::r))/\(∀a b c e f g h i d r,eV 8 (a::b::c::e::f::g::h::i::.im d::r)=some (d,a::b::c::e::f::g::h::i::.im d::r))/\(∀o x z r,BQ o (eC z) (some (x,r))=gx (o x z) r)/\(∀b r,CA (gx (some (.bl b)) r)=some (b,r)):=by and_intros<;>intros<;>rfl
def AG(F G:FE)(o:Option (Bool×En)):Option (D×En):=aF o λ p=>if p.1=true then F p.2 else G p.2
@[simp] theorem UN:gX T F G U=AG F G (T U):=yI rfl
def Bb(G:FE)(o:Option (D×En)):Option (D×En):=aF o λ p=>aF (jN p.1) λ b=>if b=true then G p.2 else some (.bl false,p.2)
def Bm(G:FE)(o:Option (D×En)):Option (D×En):=aF o λ p=>aF (jN p.1) λ b=>if b=true then some (.bl true,p.2)else G p.2
def JZ(o:Option Sl)(q:Option En):Option En:=aF o λ s=>aF q λ r=>some (s::r)
def IY(T:FT)(F:FE)(fr:En)(r:List D)(o:Option (D×En)):Option (List D):=aF o λ q=>aF (dw T F fr r) λ t=>some (q.1::t)
def sG(T:FT)(F:FE)(fr:En)(r:List D)(o:Option (Bool×En)):Option (List D):=aF o λ p=>if p.1=true then aF (F p.2) λ q=>aF (dw T F fr r) λ t=>some (q.1::t)else dw T F fr r
@[simp] theorem W4:(∀F G U,AG F G (some (true,U))=F U)/\(∀F G U,AG F G (some (false,U))=G U)/\(∀F G U,l_ F G U=Bb G (F U))/\(∀G U,Bb G (some (.bl true,U))=G U)/\(∀G U,Bb G (some (.bl false,U))=some (.bl false,U))/\(∀F G U,nB F G U=Bm G (F U))/\(∀G U,Bm G (some (.bl true,U))=some (.bl true,U))/\(∀G U,Bm G (some (.bl false,U))=G U)/\(∀s r,JZ (some s) (some r)=some (s::r))/\(∀d,qD (some (.im d))=some (.im d))/\(∀U,fQ U []=some [])/\(∀U j js,fQ U (j::js)=JZ (qD U[j]?) (fQ U js))/\(∀T F fr,dw T F fr []=some []):=by and_intros<;>intros<;>rfl
@[simp] theorem lj:dw T F fr (d::r)=sG T F fr r (T (.im d::fr)):=yI rfl
@[simp] theorem lq:sG T F fr r (some (true,U))=IY T F fr r (F U):=yI rfl
@[simp] theorem pC:sG T F fr r (some (false,U))=dw T F fr r:=yI rfl
@[simp] theorem ll:IY T F fr r (some (x,U))=HJ x (dw T F fr r):=yI rfl
def AD(U:En)(xs:List D)(o:Option (List D)):Option (D×En):=aF o λ ys=>if xs.length<=sizeLine then some (.lst ys,U)else none
def AE(T:FT)(F:FE)(U:En)(xs:List D)(o:Option En):Option (D×En):=aF o λ fr=>AD U xs (dw T F fr xs)
def AF(js:List Nat)(T:FT)(F:FE)(U:En)(o:Option (List D)):Option (D×En):=aF o λ xs=>AE T F U xs (fQ U js)
def HF(js:List Nat)(T:FT)(F:FE)(o:Option (D×En)):Option (D×En):=aF o λ p=>AF js T F p.2 (items p.1)
@[simp] theorem WZ:(∀xs,items (.lst xs)=some xs)/\(∀z,items (.str z)=some (kh z))/\(∀xs,items (.tup xs)=some xs)/\(∀js I T F U,iT js I T F U=HF js T F (I U))/\(∀js T F x U,HF js T F (some (x,U))=AF js T F U (items x))/\(∀js T F U xs,AF js T F U (some xs)=AE T F U xs (fQ U js))/\(∀T F U xs fr,AE T F U xs (some fr)=AD U xs (dw T F fr xs))/\(∀U xs ys,AD U xs (some ys)=if xs.length<=sizeLine then some (.lst ys,U)else none)/\(∀U,sN U=some (.nx U)):=by and_intros<;>intros<;>rfl
def zB(G:FS)(o:Option bM):Option bM:=aF o λ r=>Kg G r
@[simp] theorem HM:aM F G U=zB G (F U):=yI rfl
@[simp] theorem Hb:zB G (some (.nx U))=G U:=yI rfl
def HX(i:Nat)(o:Option (D×En)):Option bM:=aF o λ p=>some (.nx (p.2.set i (.im p.1)))
@[simp] theorem WY:(∀G d U,zB G (some (.rt d U))=some (.rt d U))/\(∀i F U,bC i F U=HX i (F U))/\(∀i x U,HX i (some (x,U))=some (.nx (U.set i (.im x))))/\(∀i is d ds U,kz (i::is) (d::ds) U=kz is ds (U.set i (.im d))):=by and_intros<;>intros<;>rfl
@[simp] theorem XZ(ds:List D)(U:En):kz [] ds U=U:=by cases ds<;>exact Eq.trans rfl rfl
def JW(is:List Nat)(U:En)(o:Option (List D)):Option En:=aF o λ xs=>if xs.length=is.length then some (kz is xs U)else none
def zA(o:Option En):Option bM:=aF o λ U=>some (.nx U)
def HW(is:List Nat)(o:Option (D×En)):Option bM:=aF o λ p=>zA (gT is p.1 p.2)
def Au(F G:FS)(o:Option (Bool×En)):Option bM:=aF o λ p=>if p.1=true then F p.2 else G p.2
def HY(o:Option (D×En)):Option bM:=aF o λ p=>some (.rt p.1 p.2)
@[simp] theorem Xo:(∀xs,Ar (.tup xs)=some xs)/\(∀is d U,gT is d U=JW is U (Ar d))/\(∀is U xs,JW is U (some xs)=if xs.length=is.length then some (kz is xs U)else none)/\(∀is F U,sE is F U=HW is (F U))/\(∀is x U,HW is (some (x,U))=zA (gT is x U))/\(∀U,zA (some U)=some (.nx U))/\(∀T F G U,bP T F G U=Au F G (T U))/\(∀F G U,Au F G (some (true,U))=F U)/\(∀F G U,Au F G (some (false,U))=G U)/\(∀F U,bD F U=HY (F U))/\(∀x U,HY (some (x,U))=some (.rt x U)):=by and_intros<;>intros<;>rfl
def sP(g:D->En->Option En)(B:FS)(r:List D)(o:Option bM):Option bM:=aF o λ z=>pT (cK g B r) z
def fY(g:D->En->Option En)(B:FS)(r:List D)(o:Option En):Option bM:=aF o λ q=>sP g B r (B q)
theorem Ba(g:D->En->Option En)(B:FS)(U:En):cK g B [] U=some (.nx U):=yI rfl
theorem gB(g:D->En->Option En)(B:FS)(d:D)(r:List D)(U:En):cK g B (d::r) U=fY g B r (g d U):=yI rfl
@[simp] theorem gC:fY g B r (some U)=sP g B r (B U):=yI rfl
@[simp] theorem gE:sP g B r (some (.nx U))=cK g B r U:=yI rfl
@[simp] theorem uW:sP g B r (some (.rt d U))=some (.rt d U):=yI rfl
def zD(g:D->En->Option En)(B:FS)(U:En)(o:Option (List D)):Option bM:=aF o λ xs=>cK g B xs U
def H5(g:D->En->Option En)(B:FS)(o:Option (D×En)):Option bM:=aF o λ p=>zD g B p.2 (items p.1)
def Ib(o:Option (D×En)):Option (List D×En):=aF o λ p=>aF (pF p.1) λ j=>if -(2^62)<=j/\j<2^62 then some (eL 0 j.toNat,p.2)else none
def EK(g:D->En->Option En)(B:FS)(o:Option (List D×En)):Option bM:=aF o λ p=>cK g B p.1 p.2
@[simp] theorem W9:(∀g F B U,jM g F B U=H5 g B (F U))/\(∀g B x U,H5 g B (some (x,U))=zD g B U (items x))/\(∀g B U xs,zD g B U (some xs)=cK g B xs U)/\(∀F U,l7 F U=Ib (F U))/\(∀j U,Ib (some (.int j,U))=if -(2^62)<=j/\j<2^62 then some (eL 0 j.toNat,U)else none)/\(∀g X B U,lX g X B U=EK g B (X U))/\(∀g B xs U,EK g B (some (xs,U))=cK g B xs U):=by and_intros<;>intros<;>rfl
def CL(T:FT)(B:FS)(n:Nat)(o:Option bM):Option bM:=aF o λ z=>pT (iX T B n) z
def CK(T:FT)(B:FS)(n:Nat)(o:Option (Bool×En)):Option bM:=aF o λ p=>if p.1=true then CL T B n (B p.2)else some (.nx p.2)
theorem A4(T:FT)(B:FS)(n:Nat)(U:En):iX T B (n+1) U=CK T B n (T U):=yI rfl
@[simp] theorem Ha:CK T B n (some (true,U))=CL T B n (B U):=yI rfl
@[simp] theorem QD:CK T B n (some (false,U))=some (.nx U):=yI rfl
@[simp] theorem G_:CL T B n (some (.nx U))=iX T B n U:=yI rfl
def JV(o:Option bM):Option D:=aF o λ r=>vH r
def Im(o:Option (List D×En)):Option (List D×En):=aF o λ p=>if p.1.length<=1000 then some p else none
def HZ(i:Nat)(o:Option (List D×En)):Option bM:=aF o λ p=>some (.nx (p.2.set i (.ow false (.lst p.1))))
def zE(i:Nat)(x:D)(U:En)(o:Option (List D)):Option bM:=aF o λ ds=>if ds.length<1000000 then some (.nx (U.set i (.ow false (.lst (ds++[x])))))else none
def zF(i:Nat)(o:Option (D×En)):Option bM:=aF o λ p=>zE i p.1 p.2 (jE p.2[i]?)
def H_(i:Nat)(F:FE)(U:En)(o:Option (List D)):Option bM:=aF o λ _=>zF i (F U)
@[simp] theorem WX:(∀q T B U,rX q T B U=iX T B (q U) U)/\(∀d U,JV (some (.rt d U))=some d)/\(∀n k B ds,c9 n k B ds=if ds.length=n then JV (B (ds.map .im++List.replicate k .no))else none)/\(∀A U,sv A U=Im (A U))/\(∀xs U,Im (some (xs,U))=if xs.length<=1000 then some (xs,U)else none)/\(∀i A U,lA i A U=HZ i (A U))/\(∀i xs U,HZ i (some (xs,U))=some (.nx (U.set i (.ow false (.lst xs)))))/\(∀ds,jE (some (.ow false (.lst ds)))=some ds)/\(∀i F U,iR i F U=H_ i F U (jE U[i]?))/\(∀i F U ds,H_ i F U (some ds)=zF i (F U))/\(∀i x U,zF i (some (x,U))=zE i x U (jE U[i]?))/\(∀i x U ds,zE i x U (some ds)=if ds.length<1000000 then some (.nx (U.set i (.ow false (.lst (ds++[x])))))else none):=by and_intros<;>intros<;>rfl
def vK(i:Nat)(U:En):Option Sl->En
 |some (.ow false (.lst ds))=>U.set i (.im (.lst ds))
 |_=>U
@[simp] theorem XU:frz i U=vK i U U[i]?:=by unfold frz vK;split<;>simp_all
@[simp] theorem W2:vK i U (some (.ow false (.lst ds)))=U.set i (.im (.lst ds)):=yI rfl
@[simp] theorem W3:vK i U (some (.im d))=U:=yI rfl
@[simp] theorem W8:i8 i F U=F (frz i U):=yI rfl
open PySem.Spec PyProof.Rows L2
theorem RS.heNone{K:Frag}(R:RS K c H0 H U L)(J:H p=none):c.He p=none:=by
 cases q:c.He p with
 |none=>rfl
 |some u=>
  by_cases Y:p∈c.Ap
  .exact absurd J (R.apt p Y)
  .rw[R.keep p u q Y]at J;simp at J
theorem RS.setOwn{K:Frag}(R:RS K c H0 H U L)(i:Nat)(hp:H p=none)(r:dG K H0 (upd H p u) p o):RS K c H0 (upd H p u) (U.set i (.ow false o)) (L.set i (some (.ref p))):=by
 have D:=R.len;have A:=R.same.free hp;have C:=R.heNone hp;have up:∀b v,H b=some v->(upd H p u) b=some v:=λ b v e=>by rw[a_ (iw e hp)];exact e
 have Y:∀(j:Nat)(sl:Sl),j≠i->(U.set i (.ow false o))[j]?=some sl->U[j]?=some sl:=λ j sl Z e=>by rwa [zf (zt Z)]at e
 have J:∀(j:Nat),j≠i->(L.set i (some (V.ref p)))[j]?=L[j]?:=λ j Z=>zf (zt Z);have same:∀(sl:Sl),(U.set i (.ow false o))[i]?=some sl->sl=.ow false o/\i<U.length:=λ sl e=>by
  by_cases hi:i<U.length
  .rw[zl hi]at e;exact⟨(qi e).symm,hi⟩
  .rw[jm (by rw[yf];lia)]at e;cases e
 have g:∀(j:Nat)(b:Bool)(o:MO)(a:Addr),U[j]?=some (.ow b o)->L[j]?=some (some (.ref a))->a≠p:=λ j b o a e1 e2=>by
  obtain⟨F,x,_,_,w⟩:=R.ow j b o e1;rw[x]at e2;cases e2;obtain⟨u,q⟩:=w.some;exact iw q hp
 refine⟨λ b u e=>up b u (R.same b u e),R.init,R.fresh,λ b o e n=>up b o (R.keep b o e n),λ a B e=>?_,by rw[yf,yf,D],λ j t e=>?_,λ j bb E e=>?_,λ j k h l m s a e1 e2 e3 e4=>?_⟩
 .cases q:H a with
  |none=>exact R.apt a B q
  |some v=>rw[up a v q]at e;cases e
 .by_cases Z:j=i
  .subst Z;obtain⟨f,_⟩:=same _ e;cases f
  .rw[J j Z];exact R.im j t (Y j _ Z e)
 .by_cases Z:j=i
  .subst Z;obtain⟨f,hi⟩:=same _ e;cases f;exact⟨p,by rw[zl (by lia)],A,C,r⟩
  .rw[J j Z];obtain⟨a,x,y,z,w⟩:=R.ow j bb E (Y j _ Z e);exact⟨a,x,y,z,w.step (aD.refl _) λ v q=>up a v q⟩
 .by_cases Z:j=i
  .by_cases d:k=i
   .lia
   .subst Z;obtain⟨_,hi⟩:=same _ e1;rw[zl (by lia)]at e3;cases e3;rw[J k d]at e4;exact absurd rfl (g k l s _ (Y k _ d e2) e4)
  .by_cases d:k=i
   .subst d;obtain⟨_,hi⟩:=same _ e2;rw[zl (by lia)]at e4;cases e4;rw[J j Z]at e3;exact absurd rfl (g j h m _ (Y j _ Z e1) e3)
   .rw[J j Z]at e3;rw[J k d]at e4;exact R.ne j k h l m s a (Y j _ Z e1) (Y k _ d e2) e3 e4
theorem RS.lent{K:Frag}(R:RS K c H0 H U L)(hi:U[i]?=some (.ow b o))(ha:L[i]?=some (some (.ref a)))(s0:aD H0 aR)(s':aD aR H')(kp:∀x u,H x=some u->x≠a->H' x=some u)(fr:∀x u,aR x=some u->H0 x=some u\/H x=none)(r:dG K aR H' a o'):RS K c aR H' (U.set i (.ow b o')) L:=by
 obtain⟨ρ,x,y,z,w⟩:=R.ow i b o hi;rw[ha]at x;cases x;obtain⟨V,O⟩:=w.some;have I:=(List.getElem?_eq_some_iff.mp hi).1;have g:∀x,H0 x=none->H x≠none->aR x=none:=λ x F G=>by
  cases q:aR x with
  |none=>rfl
  |some u=>
   rcases fr x u q with h|h
   .rw[F]at h;cases h
   .exact absurd h G
 have J:∀(j:Nat)(Z:Sl),j≠i->(U.set i (.ow b o'))[j]?=some Z->U[j]?=some Z:=λ j Z Y e=>by rwa [zf (zt Y)]at e
 have same:∀(Z:Sl),(U.set i (.ow b o'))[i]?=some Z->Z=.ow b o':=λ Z e=>by
  rw[zl I]at e;exact(qi e).symm
 have f:∀(j:Nat)(bb:Bool)(d:MO),(U.set i (.ow b o'))[j]?=some (.ow bb d)->∃bb B,U[j]?=some (.ow bb B):=λ j bb d e=>by
  by_cases Y:j=i
  .exact⟨b,o,by rw[Y];exact hi⟩
  .exact⟨bb,d,J j _ Y e⟩
 refine⟨s',R.init.trans s0,λ x u e=>?_,λ x u e n=>?_,λ x hx e=>?_,by rw[yf];exact R.len,λ j E e=>?_,λ j bb d e=>?_,λ j k C D M N x e1 e2 e3 e4=>?_⟩
 .rcases fr x u e with h|h
  .exact R.fresh x u h
  .exact .inr (R.heNone h)
 .have:x≠a:=λ h=>by
   cases b with
   |true=>exact n (h▸z)
   |false=>
    have S:=z;rw[h,S]at e;cases e
  exact kp x u (R.keep x u e n) this
 .by_cases h:x=a
  .obtain⟨u,q⟩:=r.some;rw[h,q]at e;cases e
  .cases q:H x with
   |none=>exact R.apt x hx q
   |some u=>rw[kp x u q h]at e;cases e
 .by_cases Y:j=i
  .subst Y;cases same _ e
  .obtain⟨v,t,A⟩:=R.im j E (J j _ Y e);exact⟨v,t,aS.mono s0 _ A⟩
 .by_cases Y:j=i
  .subst Y;cases same _ e;exact⟨a,ha,g a y (by rw[O];intro h;cases h),z,r⟩
  .have l:=J j _ Y e;obtain⟨x,s,Q,T,m⟩:=R.ow j bb d l;have σ:x≠a:=λ h=>Y (R.ne j i bb b d o x l hi s (by rw[h];exact ha));obtain⟨u,P⟩:=m.some;exact⟨x,s,g x Q (by rw[P];intro h;cases h),T,m.step s0 λ v q=>kp x v q σ⟩
 .obtain⟨_,p,e1⟩:=f j C M e1;obtain⟨_,q,e2⟩:=f k D N e2;exact R.ne j k _ _ p q x e1 e2 e3 e4
theorem RS.mutOwn{K:Frag}(R:RS K c H0 H U L)(hi:U[i]?=some (.ow b o))(q:L[i]?=some (some (.ref a)))(r:dG K H0 (upd H a u) a o'):RS K c H0 (upd H a u) (U.set i (.ow b o')) L:=by
 refine dE (R.ow i b o hi) λ J x y z w=>?_;rw[q]at x;simp at x;refine R.lent hi q (aD.refl _) (λ x v e=>?_) (λ x v e n=>by rw[a_ n];exact e) (λ x v e=>.inl e) r;have:x≠a:=λ h=>by grind
 rw[a_ this];exact R.same x v e
theorem RS.freeze{K:Frag}(R:RS K c H0 H U L)(hi:U[i]?=some (.ow false (.lst ds))):∃aR,aD H0 aR/\RS K c aR H (U.set i (.im (.lst ds))) L:=by
 obtain⟨a,x,y,z,g,e,r⟩:=R.ow i _ _ hi;have B:=z;have C:=(List.getElem?_eq_some_iff.mp hi).1;have d:aD H0 (upd H0 a (.lst g)):=λ b u q=>by rw[a_ (iw q y)];exact q
 have J:∀(j:Nat)(Z:Sl),j≠i->(U.set i (.im (.lst ds)))[j]?=some Z->U[j]?=some Z:=λ j Z Y e=>by rwa [zf (zt Y)]at e
 have same:∀(Z:Sl),(U.set i (.im (.lst ds)))[i]?=some Z->Z=.im (.lst ds):=λ Z e=>by
  rw[zl C]at e;exact(qi e).symm
 refine⟨upd H0 a (.lst g),d,λ b u q=>?_,R.init.trans d,λ b u q=>?_,R.keep,R.apt,by rw[yf];exact R.len,λ j A q=>?_,λ j bb f q=>?_,λ j k t w f s b e1 e2 e3 e4=>?_⟩
 .by_cases h:b=a
  .subst h;rw[bT]at q;cases q;exact e
  .rw[a_ h]at q;exact R.same b u q
 .by_cases h:b=a
  .subst h;exact .inr B
  .rw[a_ h]at q;exact R.fresh b u q
 .by_cases Y:j=i
  .subst Y;cases same _ q;refine⟨.ref a,x,?_⟩;exact⟨a,g,rfl,.inl (.inl bT),aB.mono d _ r⟩
  .obtain⟨v,o,p⟩:=R.im j A (J j _ Y q);exact⟨v,o,aS.mono d _ p⟩
 .by_cases Y:j=i
  .subst Y;cases same _ q
  .have m:=J j _ Y q;obtain⟨b,n,E,F,D⟩:=R.ow j bb f m;have nb:b≠a:=λ h=>Y (R.ne j i bb false f _ b m hi n (by rw[h];exact x));exact⟨b,n,by rw[a_ nb];exact E,F,D.step d λ u q=>q⟩
 .by_cases Y:j=i
  .subst Y;cases same _ e1
  .by_cases l:k=i
   .subst l;cases same _ e2
   .exact R.ne j k t w f s b (J j _ Y e1) (J k _ l e2) e3 e4
def Wo(K:Frag)(A:FA):TE:=λ L H Q=>∃c H0 U ds ρ',RS K c H0 H U L/\A U=some (ds,ρ')/\∀p vs aR H',aD H0 aR->RS K c aR H' ρ' L->H' p=none->aB K aR ds vs->Q (.ref p) (upd H' p (.lst vs))
def uL(X:Cx)(e:Expr)(A:FA):Prop:=PE X e (Wo X.K A)
theorem lO(h:jE o=some ds):o=some (.ow false (.lst ds)):=by
 unfold jE at h;split at h
 .obtain rfl:=br h;rfl
 .simp at h
section
theorem yX(h:XA X es A):uL X (.List es pos) (sv A):=PE.wk (Fz h) λ L H Q J=>by
 refine bL J λ c H0 U d k R f q=>?_;obtain⟨⟨m,l⟩,e,f⟩:=aL f;obtain⟨g,Y⟩:=bU f;cases Y;exact bA c H0 U d _ R e λ j H1 Hh i b a=>⟨by rw[<-a.length];exact y_ g,λ p Z=>q p j H1 Hh i b Z a⟩
theorem sA(i:Nat)(hN:X.N.Nodup)(Z:uL X e A)(hi:X.N[i]?=some x:=by rfl)(hx:jI X.env.scope x:=by first|exact Or.inl rfl|exact Or.inr rfl)(hs:swapsWith e (some (.Name x pos')) pos.line X.env=pure false:=by rfl)(hf:X.fn x=true\/X.env.scope.names.lookup x=some .local:=by first|exact .inl rfl|exact .inr rfl):XS X (.Assign [.Name x pos'] e pos) (lA i A):=PS.wk (mP hN hi hx Z hs hf) λ Dn L H J=>by
 refine bY J λ c H0 U r R f q=>?_;obtain⟨⟨b,Y⟩,g,f⟩:=aL f;have d:=f;obtain rfl:=br d;exact bA c H0 U b Y R g λ p l H1 Hh k a h j=>q _ H1 _ k (a.setOwn i h ⟨l,bT,j⟩)
theorem jY(i:Nat)(ha:XA X [e] (aC F aN))(hN:X.N[i]?=some x:=by rfl)(hv:fh X.env.scope x:=by first|exact Or.inl rfl|exact Or.inr (Or.inl rfl)|exact Or.inr (Or.inr rfl))(hd:cH x:=by decide)(ai:er x:=by decide)(J:attributeBase (.Name x p1) "append" X.env (eval (.Name x p1) X.env)=eval (.Name x p1) X.env:=by rfl)(ac:((backTo Z (starEach [e] X.env)).all (λ x=>!x.1)&&(backToKw Z (keywordEach [] X.env)).all (λ x=>x.1.isSome)&&decide ([e].length+([]:List Keyword).length+(if([]:List Keyword).isEmpty then 0 else 1)<30))=true:=by rfl)(Y:(p2.endLine==Z.line)=true:=by rfl)(ag:starEach [e] X.env=(false,eval e X.env)::starEach [] X.env:=by rfl)(ae:(backTo Z (starEach [] X.env)).any (·.1)=false:=by rfl)(hs:swapsWith (.Call (.Attribute (.Name x p1) "append" p2) [e] [] Z) none pos.line X.env=pure false:=by rfl):XS X (.Expr (.Call (.Attribute (.Name x p1) "append" p2) [e] [] Z) pos) (iR i F):=
 PS.wk (GU (Ij PySem.F.plainAttrs_list PySem.F.slot_list_append PySem.F.type_list_append P4 (eI hN hv hd ai) ha J ac Y ag ae) hs) λ Dn L H l=>by
  refine bY l λ c H0 U r R f q=>?_;obtain⟨D,p,f⟩:=aL f;obtain⟨⟨d,n⟩,s,f⟩:=aL f;obtain⟨E,h,f⟩:=aL f;obtain⟨t,o⟩:=bU f;subst o;obtain⟨a,b,_,_,m,A,_⟩:=R.ow i _ _ (lO p);refine⟨.ref a,b,.inl ⟨rfl,m,c7.of A⟩,c,H0,U,[d],n,R,by unfold aC aN;rw[s];rfl,λ G H1 Hh y g u=>?_⟩;obtain⟨v,rfl,w⟩:=aB.v1 u;obtain⟨C,j,_,_,z,B,k⟩:=g.ow i _ _ (lO h);rw[b]at j;cases j;refine⟨a,z,v,rfl,rfl,B,?_,?_⟩
  .rw[<-k.length];exact qp t (by rw[jy];decide)
  .exact q L H1 _ y (g.mutOwn (lO h) b ⟨_,bT,k.app (aB.one w)⟩)
theorem ma(i:Nat){st:Stmt}(h:XS X st G):XS X st (i8 i G):=PS.wk h λ Dn L H J=>by
 refine bY J λ c H0 U r R f q=>?_;unfold i8 frz at f;cases z:U[i]? with
 |none=>rw[z]at f;exact dF c H0 U r R f q
 |some a=>
  rw[z]at f;cases a with
  |no=>exact dF c H0 U r R f q
  |im d=>exact dF c H0 U r R f q
  |ow b o=>
   cases b with
   |true=>exact dF c H0 U r R f q
   |false=>
   cases o with
   |dic aO=>exact dF c H0 U r R f q
   |lst e=>
    obtain⟨aR,Y,Z⟩:=R.freeze z;exact dF c aR _ r Z f (q.mono Y)
end
end Fx
namespace Fx
open PySem
def nc(z:Str)(i:Int):Option D:=if z.length<=sizeLine then aF (aF (ny z.cps.toList.length i) λ j=>z.cps.toList[j]?) λ c=>some (.str (iy c))else none
def bK:D->D->Option D
 |.tup xs,.int i=>di xs i
 |.lst xs,.int i=>di xs i
 |.str z,.int i=>nc z i
 |_,_=>none
noncomputable def fO:List D->Option D
 |[.lst xs]=>some (.int xs.length)
 |[.tup xs]=>some (.int xs.length)
 |[.str z]=>if z.length<=sizeLine then some (.int z.length)else none
 |_=>none
noncomputable def m4:D->Bool
 |.opq=>false
 |.dct _ _=>false
 |.tup _=>false
 |.lst _=>false
 |_=>true
def fc(x:D)(xs:List D):Bool:=xs.any λ y=>b8 y x
def fV(x:D)(xs:List D):Bool:=m4 x&&xs.all m4
def V8:D->D->Option D
 |x,.tup xs=>if fV x xs=true then some (.bl (fc x xs))else none
 |x,.lst xs=>if fV x xs=true then some (.bl (fc x xs))else none
 |_,_=>none
def VS:D->D->Option D
 |x,.tup xs=>if fV x xs=true then some (.bl (!fc x xs))else none
 |x,.lst xs=>if fV x xs=true then some (.bl (!fc x xs))else none
 |_,_=>none
noncomputable def ml:List D->Option D
 |[.int i]=>some (.int i)
 |[.bl b]=>some (.int (if b then 1 else 0))
 |_=>none
noncomputable def iV:List D->Option D
 |[.lst xs]=>some (.tup xs)
 |[.tup xs]=>some (.tup xs)
 |_=>none
noncomputable def zP:List D->Option D
 |[.lst xs]=>some (.lst xs)
 |[.tup xs]=>some (.lst xs)
 |_=>none
@[simp] theorem W6:(∀xs i,bK (.tup xs) (.int i)=di xs i)/\(∀xs i,bK (.lst xs) (.int i)=di xs i)/\(∀z i,bK (.str z) (.int i)=nc z i)/\(∀xs,fO [.lst xs]=some (.int xs.length))/\(∀z,fO [.str z]=if z.length<=sizeLine then some (.int z.length)else none)/\(∀b,ml [.bl b]=some (.int (if b then 1 else 0)))/\(∀xs,iV [.lst xs]=some (.tup xs))/\(∀xs,zP [.lst xs]=some (.lst xs)):=by and_intros<;>intros<;>rfl
open PySem.Spec PyProof.Rows L2
section
variable{K:Frag}
theorem qQ(H:Hp)(x:Str):aS K H (.str x) (.str x):=by rfl
theorem UE:iN K (Kq K) bK:=λ c H0 H U L x y d Y Z Q R b J e q=>by
 cases y with
 |int i=>
  subst J;cases x with
  |tup h=>
   obtain⟨p,f,rfl,s,t⟩:=b;obtain⟨v,e1,e2⟩:=IM t e;exact .inr (.inl ⟨p,f,i,v,rfl,rfl,aD.seqT R.same s,e1,q v H0 H (aD.refl _) R e2⟩)
  |lst h=>
   obtain⟨p,f,rfl,s,t⟩:=b;obtain⟨v,e1,e2⟩:=IM t e;exact .inl ⟨p,f,i,v,rfl,rfl,aD.seq R.same s,e1,q v H0 H (aD.refl _) R e2⟩
  |str z=>
   subst b;have e:nc z i=some d:=e;unfold nc at e;by_cases a:z.length<=sizeLine
   .rw[if_pos a]at e;obtain⟨g,e1,e2⟩:=aL e;have e2:=e2;cases e2;exact .inr (.inr ⟨z,i,g,rfl,rfl,a,e1,q _ H0 H (aD.refl _) R (qQ H0 (iy g))⟩)
   .rw[if_neg a]at e;cases e
  |_=>cases e
 |_=>cases x<;>cases e
theorem gr(q:XE X a F)(Y:XE X b G)(J:uJ b:=by intro _ _;rfl):XE X (.Subscript a b pos) (e2 bK F G):=PE.wk (o9 TF q Y J) λ L H Q h=>u9 UE h
theorem J3:jF X (.builtin "len") fO:=⟨_,eD.or Ms,λ c H0 H U L b d f Q R r e q=>by
 unfold fO at e;split at e
 .obtain rfl:=br e;obtain⟨v,rfl,J⟩:=aB.v1 r;obtain⟨p,Y,rfl,s,t⟩:=J;exact .inl ⟨p,Y,rfl,.inl (aD.seq R.same s),by rw[<-t.length];exact q _ H0 H (aD.refl _) R (fw _ _)⟩
 .obtain rfl:=br e;obtain⟨v,rfl,J⟩:=aB.v1 r;obtain⟨p,Y,rfl,s,t⟩:=J;exact .inl ⟨p,Y,rfl,.inr (aD.seqT R.same s),by rw[<-t.length];exact q _ H0 H (aD.refl _) R (fw _ _)⟩
 .rename_i z;obtain⟨a,rfl⟩:=bU e;obtain⟨v,rfl,J⟩:=aB.v1 r;subst J;exact .inr ⟨z,rfl,a,q _ H0 H (aD.refl _) R (fw _ _)⟩
 .simp at e⟩
theorem tR(o:jF X (.type T) g)(hg:Gl X x)(Y:X.mg x=none)(hv:bootBuiltins x=some (.type T))(ha:XA X (e::es) A)(Z:x≠"__name__":=by decide)(J:cH x:=by decide)(he:starEach (e::es) X.env=(false,eval e X.env)::starEach es X.env:=by rfl)(q:(backTo pos (starEach es X.env)).any (·.1)=false:=by rfl):XE X (.Call (.Name x p) (e::es) [] pos) (eF g A):=by
 obtain⟨r,a,b⟩:=o;exact PE.wk (qK a hg Y hv ha Z J he q) λ L H Q h=>II b h
theorem L8:jF X (.type "int") ml:=⟨_,MK,λ c H0 H U L a d b Q R r e q=>by
 unfold ml at e;split at e
 .obtain rfl:=br e;obtain⟨v,rfl,J⟩:=aB.v1 r;subst J;exact .inl ⟨_,rfl,q _ H0 H (aD.refl _) R (fw _ _)⟩
 .obtain rfl:=br e;obtain⟨v,rfl,J⟩:=aB.v1 r;subst J;exact .inr ⟨_,rfl,q _ H0 H (aD.refl _) R (fw _ _)⟩
 .simp at e⟩
theorem sS:jF X (.type "tuple") iV:=⟨_,LA,λ c H0 H U L b d f Q R r e q=>by
 unfold iV at e;split at e
 .obtain rfl:=br e;obtain⟨v,rfl,J⟩:=aB.v1 r;obtain⟨p,Y,rfl,s,t⟩:=J;refine ie p Y rfl (.inl ⟨aD.seq R.same s,λ l a=>?_⟩);have S:=bR.alloc (o:=.tup Y) R.same a;refine q _ _ _ S.s0 (R.after S) ?_;exact bE l _ rfl (.inl (.inl bT)) (aB.mono S.s0 _ t)
 .obtain rfl:=br e;obtain⟨v,rfl,J⟩:=aB.v1 r;have Z:=J;obtain⟨p,Y,rfl,s,t⟩:=J;exact ie p Y rfl (.inr ⟨aD.seqT R.same s,q _ H0 H (aD.refl _) R Z⟩)
 .simp at e⟩
theorem uf(h:m4 d=true)(r:aS K H d v):kB v=true/\∀d' q,m4 d'=true->aS K H d' q->jC v q=b8 d d':=by
 cases d with
 |tup xs=>cases h
 |lst xs=>cases h
 |opq=>cases h
 |dct Y a=>cases h
 |_=>
  subst r;refine⟨rfl,λ d' q h' J=>?_⟩;cases d' with
  |tup xs=>cases h'
  |lst xs=>cases h'
  |opq=>cases h'
  |dct Y a=>cases h'
  |_=>
   subst J
   rfl
theorem vf(hx:m4 x=true)(r:aS K H x v):∀{ds:List D}{vs:List V},ds.all m4=true->aB K H ds vs->vs.all kB=true/\v8 v vs=fc x ds
 |[],vs,_,t=>by
  subst t;exact⟨rfl,rfl⟩
 |d::ds,vs,h,t=>by
  obtain⟨u,us,rfl,a,b⟩:=t;rw[j8,zd]at h;obtain⟨q,J⟩:=vf hx r h.2 b;obtain⟨Y,Z⟩:=uf h.1 a;refine⟨by rw[j8,Y,q];rfl,?_⟩;unfold v8 fc at*;rw[Q0,Q0,Z x v hx r,J]
theorem Iv(hf:∀x y d,f x y=some d->∃xs,(y=.tup xs\/y=.lst xs)/\fV x xs=true/\d=.bl (if J then !fc x xs else fc x xs)):iN K (qB K J) f:=λ c H0 H U L x y d i j Q R a Y e q=>by
 obtain⟨xs,h,ok,rfl⟩:=hf x y d e;unfold fV at ok;rw[zd]at ok;rcases h with rfl|rfl
 .obtain⟨p,g,rfl,s,t⟩:=Y;obtain⟨Z,b⟩:=vf ok.1 a ok.2 t;exact⟨p,g,rfl,.inr (aD.seqT R.same s),(uf ok.1 a).1,Z,by rw[b];exact q _ H0 H (aD.refl _) R (kv _ _)⟩
 .obtain⟨p,g,rfl,s,t⟩:=Y;obtain⟨Z,b⟩:=vf ok.1 a ok.2 t;exact⟨p,g,rfl,.inl (aD.seq R.same s),(uf ok.1 a).1,Z,by rw[b];exact q _ H0 H (aD.refl _) R (kv _ _)⟩
end
end Fx
namespace Fx
open PySem
noncomputable def cy(k:Str):List (Str×D)->Option D
 |[]=>none
 |q::r=>if q.1=k then some q.2 else cy k r
noncomputable def hQ(k:Str)(d:D):List (Str×D)->List (Str×D)
 |[]=>[]
 |q::r=>(if q.1=k then(q.1,d)else q)::hQ k d r
noncomputable def gf:Option Sl->Option (Bool×MO)
 |some (.ow b o)=>some (b,o)
 |_=>none
noncomputable def gL:Option Sl->Option (Bool×List (Str×D))
 |some (.ow b (.dic aO))=>some (b,aO)
 |_=>none
def fX(i:Nat)(k:Str)(U:En):Option (D×En):=aF (gL U[i]?) λ p=>aF (cy k p.2) λ d=>some (d,U)
def lL(i:Nat)(k:Str)(F:FE)(U:En):Option bM:=aF (F U) λ p=>aF (gL p.2[i]?) λ q=>aF (cy k q.2) λ _=>if q.2.length<100 then some (.nx (p.2.set i (.ow q.1 (.dic (hQ k p.1 q.2)))))else none
def cv(i:Nat)(g:MO->List D->Option (D×MO))(A:FA)(U:En):Option (D×En):=aF (gf U[i]?) λ _=>aF (A U) λ p=>aF (gf p.2[i]?) λ q=>aF (g q.2 p.1) λ z=>some (z.1,p.2.set i (.ow q.1 z.2))
def Ay:bM->Option (D×MO)
 |.rt d U=>aF (gf U[0]?) λ q=>if q.1=true then some (d,q.2)else none
 |.nx U=>aF (gf U[0]?) λ q=>if q.1=true then some (.non,q.2)else none
 |_=>none
def iD(n k:Nat)(B:FS)(o:MO)(ds:List D):Option (D×MO):=if ds.length=n then aF (B (.ow true o::(ds.map .im++List.replicate k .no))) λ r=>Ay r else none
noncomputable def gG:Sl->Bool
 |.ow _ _=>false
 |_=>true
def vI(q:List Str)(A:FA)(U:En):Option MO:=if U.all gG=true then aF (A U) λ p=>if p.1.length=q.length/\q.length<=15/\q.Nodup then some (.dic (q.zip p.1))else none else none
def pI(A:FS)(F:En->Option MO)(U:En):Option MO:=aF (A U) λ r=>match r with
 |.nx ρ'=>F ρ'
 |_=>none
def nJ(n k:Nat)(F:En->Option MO)(ds:List D):Option MO:=if ds.length=n then F (ds.map .im++List.replicate k .no)else none
def A5(i:Nat)(g:List D->Option MO)(A:FA)(U:En):Option bM:=aF (A U) λ p=>aF (g p.1) λ o=>some (.nx (p.2.set i (.ow false o)))
def HH(k:Str)(U:En)(o:Option (Bool×List (Str×D))):Option (D×En):=aF o λ p=>aF (cy k p.2) λ d=>some (d,U)
def Av(i:Nat)(k:Str)(d:D)(U:En)(b:Bool)(aO:List (Str×D))(o:Option D):Option bM:=aF o λ _=>if aO.length<100 then some (.nx (U.set i (.ow b (.dic (hQ k d aO)))))else none
def Ax(i:Nat)(k:Str)(d:D)(U:En)(o:Option (Bool×List (Str×D))):Option bM:=aF o λ q=>Av i k d U q.1 q.2 (cy k q.2)
def Hr(i:Nat)(k:Str)(o:Option (D×En)):Option bM:=aF o λ p=>Ax i k p.1 p.2 (gL p.2[i]?)
def AH(i:Nat)(U:En)(b:Bool)(o:Option (D×MO)):Option (D×En):=aF o λ z=>some (z.1,U.set i (.ow b z.2))
def AI(i:Nat)(g:MO->List D->Option (D×MO))(ds:List D)(U:En)(o:Option (Bool×MO)):Option (D×En):=aF o λ q=>AH i U q.1 (g q.2 ds)
def AJ(i:Nat)(g:MO->List D->Option (D×MO))(o:Option (List D×En)):Option (D×En):=aF o λ p=>AI i g p.1 p.2 (gf p.2[i]?)
def HG(i:Nat)(g:MO->List D->Option (D×MO))(A:FA)(U:En)(o:Option (Bool×MO)):Option (D×En):=aF o λ _=>AJ i g (A U)
def zC(i:Nat)(U:En)(o:Option MO):Option bM:=aF o λ o=>some (.nx (U.set i (.ow false o)))
def H4(i:Nat)(g:List D->Option MO)(o:Option (List D×En)):Option bM:=aF o λ p=>zC i p.2 (g p.1)
@[simp] theorem W_:(∀b o,gf (some (.ow b o))=some (b,o))/\(∀b o,gL (some (.ow b (.dic o)))=some (b,o))/\(∀i k U,fX i k U=HH k U (gL U[i]?))/\(∀k U b aO,HH k U (some (b,aO))=gx (cy k aO) U)/\(∀i k F U,lL i k F U=Hr i k (F U))/\(∀i k d U,Hr i k (some (d,U))=Ax i k d U (gL U[i]?))/\(∀i k d U b aO,Ax i k d U (some (b,aO))=Av i k d U b aO (cy k aO))/\(∀i k d U b aO z,Av i k d U b aO (some z)=if aO.length<100 then some (.nx (U.set i (.ow b (.dic (hQ k d aO)))))else none)/\(∀i g A U,cv i g A U=HG i g A U (gf U[i]?))/\(∀i g A U q,HG i g A U (some q)=AJ i g (A U))/\(∀i g ds U,AJ i g (some (ds,U))=AI i g ds U (gf U[i]?))/\(∀i g ds U b o,AI i g ds U (some (b,o))=AH i U b (g o ds))/\(∀i U b d o,AH i U b (some (d,o))=some (d,U.set i (.ow b o)))/\(∀i g A U,A5 i g A U=H4 i g (A U))/\(∀i g ds U,H4 i g (some (ds,U))=zC i U (g ds))/\(∀i U o,zC i U (some o)=some (.nx (U.set i (.ow false o)))):=by and_intros<;>intros<;>rfl
open PySem.Spec PyProof.Rows L2
def cY(q:List Str)(vs:List V):List (Key×V):=(q.map Sum.inr).zip vs
theorem tO(k:Str)(q:List Str)(v:V)(vs:List V):cY (k::q) (v::vs)=(Sum.inr k,v)::cY q vs:=rfl
section
variable{K:Frag}
theorem pb:∀{aO:List (Str×D)}{vs:List V},aB K H (aO.map (·.2)) vs->cy k aO=some d->∃v,fC (cY (aO.map (·.1)) vs) (.inr k)=some v/\aS K H d v:=by intro a;induction a<;>grind[tO,cy,aB,fC]
theorem EU(rv:aS K H d v):∀{aO:List (Str×D)}{vs:List V},aB K H (aO.map (·.2)) vs->∃J,(cY (aO.map (·.1)) vs).map (λ Z=>if Z.1=Sum.inr k then(Z.1,v)else Z)=cY ((hQ k d aO).map (·.1)) J/\aB K H ((hQ k d aO).map (·.2)) J
 |[],vs,t=>⟨[],rfl,aB.nil_⟩
 |q::r,vs,t=>by
  rw[qx]at t;obtain⟨u,c,rfl,a,b⟩:=t;obtain⟨J,e1,e2⟩:=EU rv b;unfold hQ;rw[qx,tO,qx,e1];by_cases Y:q.1=k
  .refine⟨v::J,?_,?_⟩
   .rw[if_pos (show(Sum.inr q.1:Key)=Sum.inr k by rw[Y]),if_pos Y];rfl
   .rw[if_pos Y];exact aB.cons rv e2
  .refine⟨u::J,?_,?_⟩
   .rw[if_neg (show ¬(Sum.inr q.1:Key)=Sum.inr k from λ z=>Y (Zv z)),if_neg Y];rfl
   .rw[if_neg Y];exact aB.cons a e2
theorem Ih(Y:aS K H d v)(t:aB K H (aO.map (·.2)) vs)(h:cy k aO=some J):∃q,fP (cY (aO.map (·.1)) vs) (.inr k) v=cY ((hQ k d aO).map (·.1)) q/\aB K H ((hQ k d aO).map (·.2)) q:=by
 obtain⟨u,e,_⟩:=pb t h;obtain⟨q,e1,e2⟩:=EU Y t;refine⟨q,?_,e2⟩;grind[fP,tQ,e1]
end
theorem mY(h:gL o=some q):o=some (.ow q.1 (.dic q.2)):=by
 unfold gL at h;split at h
 .obtain rfl:=br h;rfl
 .simp at h
theorem lR(h:gf o=some q):o=some (.ow q.1 q.2):=by
 unfold gf at h;split at h
 .obtain rfl:=br h;rfl
 .simp at h
section
theorem WE(i:Nat){x k:Str}{j:Nat}{p p2:Pos}(Z:X.A.units+1<cLine)(hN:X.N[i]?=some x)(hv:fh X.env.scope x)(hd:cH x)(Y:er x):XE X (.Subscript (.Name x p) (.Constant (.str k) j p2) pos) (fX i k):=
 PE.wk (vj Z (eI hN hv hd Y) rJ (λ _ _=>rfl)) λ L H Q J=>by
  refine bL J λ c H0 U d e R f q=>?_;unfold fX at f;obtain⟨⟨b,aO⟩,l,f⟩:=aL f;obtain⟨g,m,f⟩:=aL f;have h:some (g,U)=some (d,e):=f;cases h;obtain⟨a,e1,e2,e3,s,t,e4,rfl,r⟩:=R.ow i b _ (mY l);obtain⟨v,n,o⟩:=pb r m;refine⟨_,e1,a,v,rfl,?_,q v H0 H (aD.refl _) R o⟩;rw[<-n];exact d4.k (k:=.inr k) e4
theorem Hc(h:n<100):n<sizeLine:=wW (by lia)
theorem Er{K:Frag}{aO:List (Str×D)}(t:aB K H (aO.map (·.2)) vs):(cY (aO.map (·.1)) vs).length=aO.length:=by have q:=t.length;grind[cY]
theorem WG(i:Nat){x k:Str}{j:Nat}{p p2 p3:Pos}(hu:X.A.units+1<cLine)(he:XE X e F)(hN:X.N[i]?=some x)(hv:fh X.env.scope x)(hd:cH x)(aa:er x)(hs:swapsWith e (some (.Subscript (.Name x p) (.Constant (.str k) j p2) p3)) pos.line X.env=pure false):XS X (.Assign [.Subscript (.Name x p) (.Constant (.str k) j p2) p3] e pos) (lL i k F):=
 PS.wk (Fj hu (eI hN hv hd aa) rJ he hs) λ Dn L H J=>by
  refine bY J λ c H0 U r R f q=>?_;unfold lL at f;obtain⟨⟨d,Z⟩,h,f⟩:=aL f;obtain⟨⟨b,aO⟩,l,f⟩:=aL f;obtain⟨B,m,f⟩:=aL f;obtain⟨n,rfl⟩:=bU f;refine bA c H0 U d Z R h λ v H1 Hh s g o=>?_;have z:=mY l;obtain⟨a,e1,e2,e3,C,D,e4,rfl,t⟩:=g.ow i b _ z;obtain⟨Y,u,w⟩:=Ih o t m;refine⟨_,e1,a,_,rfl,gM.k (k:=.inr k) e4 (by have:=Er t;unfold cY at this;rw[this];exact Hc n),?_⟩;exact q L H1 _ s (g.mutOwn z e1 ⟨_,Y,by rw[bT];exact Z8 (λ y=>some (HO.dK y)) u,rfl,w⟩)
def Ky(K:Frag)(g:MO->List D->Option (D×MO)):Sp:=λ vs H Q _=>∃q a o J ds d o',vs=.ref a::J/\aD q H/\q a=none/\dG K q H a o/\aB K q ds J/\g o ds=some (d,o')/\∀v cG H',aD q cG->aD cG H'->(∀b u,H b=some u->b≠a->H' b=some u)->(∀b u,cG b=some u->q b=some u\/H b=none)->dG K cG H' a o'->aS K cG d v->Q v H'
structure dh(P:Program)(w:World)(K:Frag)(mg:Str->Option Value)(base:Heap)(k:Nat)(x:Str)(g:MO->List D->Option (D×MO)):Prop where
 ex:∃f fd ps,cB P w K mg base ft k f fd ps (Ky K g)/\cV K fd ps []/\keepIn K (.ref f)=true/\mg x=some (.ref f)
theorem KR(i:Nat)(G:dh X.prog X.w X.K X.mg X.base k x g)(hr:bJ k X.A)(ha:XA X es A)(hN:X.N[i]?=some y:=by rfl)(hg:Gl X x:=by rfl)(hv:fh X.env.scope y:=by first|exact Or.inl rfl|exact Or.inr (Or.inl rfl)|exact Or.inr (Or.inr rfl))(ae:cH x:=by decide)(hd:cH y:=by decide)(af:er y:=by decide)(aa:(backTo pos (starEach es X.env)).any (·.1)=false:=by rfl):XE X (.Call (.Name x p) (.Name y py::es) [] pos) (cv i g A):=by
 refine fA G.ex λ f fd ps F E I σ=>?_;refine PE.wk (rg F hr hg σ I E .nil oX (gq (eI hN hv hd af) ha rfl) ae rfl aa) λ L H Q J=>?_;refine bL J λ c H0 U d h R z q=>?_;obtain⟨⟨s,O⟩,u,z⟩:=aL z;obtain⟨⟨j,Z⟩,B,z⟩:=aL z;obtain⟨⟨b,o⟩,C,z⟩:=aL z;obtain⟨⟨t,l⟩,D,z⟩:=aL z;have z':some (t,Z.set i (.ow b l))=some (d,h):=z;cases z';obtain⟨a,e1,_⟩:=R.ow i s O (lR u);refine⟨_,e1,c,H0,U,j,Z,R,B,λ V H1 Hh T e P=>?_⟩;have n:=lR C;refine dE (e.ow i b o n) λ a' Y r ag W=>?_;rw[e1]at Y;cases Y;refine⟨H1,a,o,V,j,d,l,by rw[zx],e.same,r,W,P,D,λ v cG H' m ρ M fr ok S=>?_⟩;exact q v cG H' (T.trans m) (e.lent n e1 m ρ M fr ok) S
end
theorem RS.startB{K:Frag}(s:aD J H)(h0:J a=none)(ok:dG K J H a o)(r:aB K J ds vs)(hn:n-(vs.length+1)=m):RS K ⟨J,H,[a]⟩ J H (.ow true o::(ds.map .im++List.replicate m .no)) (some (.ref a)::(vs.map some++List.replicate (n-(vs.length+1)) none)):=by
 have R:=RS.start (n:=n-1) (m:=m) s r (by lia);have Y:n-1-vs.length=n-(vs.length+1):=by lia
 rw[Y]at R
 refine⟨s,aD.refl _,λ b o e=>.inl e,λ b o e _=>e,λ b f e=>?_,?_,λ i d e=>?_,λ i b g e=>?_,λ i j b h l p x e1 e2 e3 e4=>?_⟩
 .obtain⟨u,Z⟩:=ok.some;have:b=a:=by simpa using f
  have e:=e;rw[this,Z]at e;cases e
 .rw[zh,zh,R.len]
 .cases i with
  |zero=>cases e
  |succ i=>exact R.im i d e
 .cases i with
  |zero=>
   have c:=qi e;cases c;exact⟨a,rfl,h0,by rw[if_pos rfl];exact List.mem_singleton.mpr rfl,ok⟩
  |succ i=>exact(RS.nq e).elim
 .cases i with
  |zero=>
   cases j with
   |zero=>rfl
   |succ j=>exact(RS.nq e2).elim
  |succ i=>exact(RS.nq e1).elim
theorem WT{K:Frag}{st:Stmt}(F:ic K x qual st f fd)(S:aG N ps (aX st))(hn:ps.length=n+1)(hN:N.length=n+1+m)(hb:∀(Y:Value)(A:Around)(outer:List Env)(s:Shared)(H:Hp)(E:XK),bJ k (A.deeper (envOfC qual (aX st) s.heap.objs.size f Y))->fJ (fS ft P w K mg base N qual (aX st) f Y A outer s H E).nox (fZ st) B):cB P w K mg base ft (k+1) f fd ps (Ky K (iD n m B)):=by
 have G:∀{o:MO}{i:List D}{z:D×MO},iD n m B o i=some z->i.length=n/\∃r,B (.ow true o::(i.map .im++List.replicate m .no))=some r/\Ay r=some z:=λ{o i z}h=>by
  unfold iD at h;split at h
  .rename_i I;obtain⟨r,p,j⟩:=aL h;exact⟨I,r,p,j⟩
  .cases h
 have fin:∀{g H aR H':Hp}{a:Addr}{o':MO}{c:En}{Z:L2.St},RS K ⟨g,H,[a]⟩ aR H' c Z->c[0]?=some (.ow true o')->aD g aR/\aD aR H'/\(∀b u,H b=some u->b≠a->H' b=some u)/\(∀b u,aR b=some u->g b=some u\/H b=none)/\dG K aR H' a o':=
  λ{g H aR H' a o' c Z}R e=>by
   obtain⟨σ,_,_,z,ok⟩:=R.ow 0 true o' e;rw[if_pos rfl]at z;have za:σ=a:=by simpa using z
   subst za;exact⟨R.init,R.same,λ b u h n=>R.keep b u h (by simpa using n),R.fresh,ok⟩
 refine F.ok S (λ vs H Q E h=>?_) (λ Y A outer s H vs Q E T h=>?_)
 .obtain⟨g,a,o,vr,i,d,o',rfl,_,_,_,r,e,_⟩:=h;rw[hn,zh,<-r.length,(G e).1]
 .obtain⟨g,a,o,vr,i,d,o',rfl,ρ,O,ok,r,e,q⟩:=h;obtain⟨I,l,p,j⟩:=G e;have ac:=r.length;have R:=RS.startB (n:=N.length) (m:=m) ρ O ok r (by lia);refine⟨_,hb Y A outer s H E T,⟨g,H,[a]⟩,g,_,l,R,p,?_⟩;cases l with
  |nx c=>
   obtain⟨⟨b,V⟩,t,y⟩:=aL (show aF (gf c[0]?) (λ q=>if q.1=true then some (D.non,q.2)else none)=some (d,o')from j);obtain⟨J,C⟩:=bU y;cases C;have J:=J;subst J;exact λ Z aR H' X R=>let ⟨x1,x2,x3,x4,x5⟩:=fin R (lR t);q .non aR H' x1 x2 x3 x4 x5 (by rfl)
  |rt M c=>
   obtain⟨⟨b,V⟩,t,y⟩:=aL (show aF (gf c[0]?) (λ q=>if q.1=true then some (M,q.2)else none)=some (d,o')from j);obtain⟨J,C⟩:=bU y;cases C;have J:=J;subst J;exact λ v Z aR H' X R W=>let ⟨x1,x2,x3,x4,x5⟩:=fin R (lR t);q v aR H' x1 x2 x3 x4 x5 W
  |bk c=>cases j
  |ct c=>cases j
def vC(K:Frag)(q H:Hp)(o:MO)(a:Addr)(cG H':Hp):Prop:=
 aD q cG/\aD cG H'/\aD H H'/\(∀b u,cG b=some u->q b=some u\/H b=none)/\cG a=none/\H a=none/\dG K cG H' a o
def Kz(K:Frag)(g:List D->Option MO):Sp:=λ vs H Q _=>∃q ds o,aD q H/\aB K q ds vs/\g ds=some o/\∀a cG H',vC K q H o a cG H'->Q (.ref a) H'
structure iY(P:Program)(w:World)(K:Frag)(mg:Str->Option Value)(base:Heap)(k:Nat)(x:Str)(g:List D->Option MO):Prop where
 ex:∃f fd ps,cB P w K mg base ft k f fd ps (Kz K g)/\cV K fd ps []/\keepIn K (.ref f)=true/\mg x=some (.ref f)
theorem RS.got{K:Frag}(R:RS K c H0 H U L)(i:Nat)(h:vC K H0 H o a aR H'):RS K c aR H' (U.set i (.ow false o)) (L.set i (some (.ref a))):=by
 obtain⟨Y,s',s,fr,d,f,ok⟩:=h;obtain⟨u,Z⟩:=ok.some;have R2:=R.after ⟨Y,λ b v e=>by
  have:b≠a:=λ z=>by grind
  show(if b=a then none else H' b)=some v;rw[if_neg this];exact s b v e,λ b v e=>by
  have:b≠a:=λ z=>by grind
  rw[if_neg this];exact s' b v e,fr⟩
 have q:upd (λ b=>if b=a then none else H' b) a u=H':=by
  funext b;by_cases J:b=a
  .rw[J,bT,Z]
  .rw[a_ J];exact if_neg J
 have:=R2.setOwn i (if_pos rfl) (by rw[q];exact ok);rw[q]at this;exact this
section
theorem Rx(i:Nat)(hN:X.N.Nodup)(G:iY X.prog X.w X.K X.mg X.base k x g)(hr:bJ k X.A)(ha:XA X (e::es) A)(hi:X.N[i]?=some y:=by rfl)(hx:jI X.env.scope y:=by first|exact Or.inl rfl|exact Or.inr rfl)(hs:swapsWith (.Call (.Name x p) (e::es) [] cpos) (some (.Name y pos')) pos.line X.env=pure false:=by rfl)(hf:X.fn y=true\/X.env.scope.names.lookup y=some .local:=by first|exact .inl rfl|exact .inr rfl)(hg:Gl X x:=by rfl)(aa:cH x:=by decide)(he:starEach (e::es) X.env=(false,eval e X.env)::starEach es X.env:=by rfl)(Z:(backTo cpos (starEach es X.env)).any (·.1)=false:=by rfl):XS X (.Assign [.Name y pos'] (.Call (.Name x p) (e::es) [] cpos) pos) (A5 i g A):=by
 refine fA G.ex λ f fd ps F n s t=>?_;refine PS.wk (mP hN hi hx (rg F hr hg t s n .nil oX ha aa he Z) hs hf) λ Dn L H J=>?_;refine bY J λ c H0 U r R f q=>?_;obtain⟨⟨d,Y⟩,l,f⟩:=aL f;obtain⟨o,m,f⟩:=aL f;have j:=f;obtain rfl:=br j;exact bA c H0 U d Y R l λ z H1 Hh v b u=>⟨H1,d,o,b.same,by rw[zx];exact u,m,λ a cG H' h=>q _ cG H' (v.trans h.1) (b.got i h)⟩
def tN(K:Frag)(F:En->Option MO):TS:=λ Dn L H=>∃q J H0 U o,RS K ⟨q,J,[]⟩ H0 H U L/\F U=some o/\∀a aR H',vC K q J o a aR H'->Dn.rt (.ref a) H'
def XN(X:Cx)(sts:List Stmt)(F:En->Option MO):Prop:=d8 X sts (tN X.K F)
theorem CS{st:Stmt}{rest:List Stmt}(h1:PS X st (λ Dn L H=>∃Hi Z H0 U r,RS X.K ⟨Hi,Z,[]⟩ H0 H U L/\B U=some r/\fE X.K ⟨Hi,Z,[]⟩ Dn H0 r))(h2:XN X rest N):XN X (st::rest) (pI B N):=
 d8.wk (sZ h1 h2) λ Dn L H Y=>by
  refine bL Y λ Hi Z H0 U o R f q=>?_;obtain⟨z,h,f⟩:=aL f;refine bA Hi Z H0 U z R h ?_;cases z with
  |nx J=>exact λ b aR H' s a=>⟨Hi,Z,aR,J,o,a,f,q⟩
  |rt d J=>cases f
  |bk J=>cases f
  |ct J=>simp at f
theorem CT{st:Stmt}(h:XS X st B):PS X st (λ Dn L H=>∃J Y H0 U r,RS X.K ⟨J,Y,[]⟩ H0 H U L/\B U=some r/\fE X.K ⟨J,Y,[]⟩ Dn H0 r):=
 PS.wk h λ Dn L H⟨J,Y,H0,U,r,R,f,q⟩=>⟨⟨J,Y,[]⟩,H0,U,r,R,f,q⟩
def uM(X:Cx)(pos:Pos)(Y:List Str)(keys:List (Option Expr))(q:List Expr)(A:FA):Prop:=∃J,rj X pos keys q J/\Y.length=keys.length/\keys.length=q.length/\keys.all (·.isSome)=true/\∀(c:FC)(H0 H:Hp)(U ρ':En)(ds:List D)(L:L2.St)(Q:List (V×V)->Hp->Prop),RS X.K c H0 H U L->A U=some (ds,ρ')->(∀vs aR H',aD H0 aR->RS X.K c aR H' ρ' L->aB X.K aR ds vs->Q ((Y.map V.str).zip vs) H')->u_ J L H Q
theorem WL:uM X pos [] [] [] aN:=⟨[],N8,rfl,rfl,rfl,λ c H0 H U a b L Q R f q=>by
 have J:=f;cases J;exact q [] H0 H (aD.refl _) R aB.nil_⟩
theorem qM(he:XE X e F)(hr:uM X pos ks keys J A):uM X pos (k::ks) (some (.Constant (.str k) j p2)::keys) (e::J) (aC F A):=by
 refine k6 hr λ h n o p s t=>?_;refine⟨(tC (.str k),tE X.K F)::h,M6 rJ he n,by rw[zh,zh,o],by rw[zh,zh,p],by rw[j8,s];rfl,λ c H0 H U z B L Q R f q=>?_⟩;obtain⟨⟨d,Y⟩,l,f⟩:=aL f;obtain⟨⟨r,Z⟩,m,f⟩:=aL f;have i:=f;cases i;refine bA c H0 U d Y R l λ v H1 Hh x g u=>?_;exact t c H1 Hh Y _ r L _ g m λ y b cJ a R2 w=>q (v::y) b cJ (x.trans a) R2 (aB.cons (aS.mono a d u) w)
theorem FK:∀(J aH:List (Key×V)),((aH++J).map (·.1)).Nodup->lS aH J=aH++J
 |[],aH,_=>by rw[zx];rfl
 |p::r,aH,h=>by
  have Z:fC aH p.1=none:=by
   cases q:fC aH p.1 with
   |none=>rfl
   |some v=>
    have Y:=NS q;rw[zv,qx,Qd]at h;exact absurd rfl (h.2.2 _ Y _ (qg ..))
  show lS (fP aH p.1 p.2) r=_;rw[Eu p.2 Z,FK r _ (by simpa using h)];simp
theorem GJ:∀(q:List Str)(vs:List V),(q.map V.str).zip vs=(cY q vs).map λ J=>(kV J.1,J.2)
 |[],_=>rfl
 |_::_,[]=>rfl
 |k::q,v::vs=>by
  rw[tO,qx,qx,Y2,GJ q vs];rfl
theorem RS.fence{K:Frag}(R:RS K c H0 H U L)(no:U.all gG=true)(J:H p=none):RS K ⟨H0,upd H p u,[]⟩ H0 (upd H p u) U L:=by
 have q:∀(i:Nat)(b:Bool)(o:MO),¬U[i]?=some (.ow b o):=λ i b o e=>by
  have:=List.all_eq_true.mp no _ (ze e);cases this
 refine⟨λ b v e=>?_,aD.refl _,λ b o e=>.inl e,λ b o e _=>e,λ a h=>(by simp at h),R.len,R.im,λ i b o e=>absurd e (q i b o),λ i j b Y o d a e=>absurd e (q i b o)⟩;have:b≠p:=λ z=>by rw[z,R.same.free J]at e;simp at e
 rw[a_ this];exact R.same b v e
theorem WI(h:uM X pos Y keys J A)(h0:keys≠[]:=by simp)(ac:keys.length<=15:=by simp):XN X [.Return (some (.Dict keys J pos)) aa] (vI Y A):=by
 obtain⟨E,r,F,t,u,w⟩:=h;refine d8.wk (nY (vi (Od r u t h0 ac))) λ Dn L H Z=>?_;obtain⟨D,C,H0,U,o,R,f,q⟩:=Z;unfold vI at f;by_cases no:U.all gG=true
 .rw[if_pos no]at f;obtain⟨⟨ds,l⟩,n,f⟩:=aL f;obtain⟨⟨i,I,B⟩,rfl⟩:=bU f;have i:ds.length=Y.length:=i;intro p d;refine w _ H0 _ U l ds L _ (R.fence no d) n λ vs H1 Hh K g k=>?_;have G:=k.length;have x:=g.keep p _ bT (by simp);refine⟨x,cY Y vs,?_,?_,?_⟩
  .exact GJ Y vs
  .unfold cY;rw[Yj,qw];lia
  .have nd:lS [] (cY Y vs)=cY Y vs:=by
    rw[FK]
    .rfl
    .rw[Zl];unfold cY;rw[Qt (by rw[qw];lia)];exact List.pairwise_map.mpr (B.imp λ m z=>m (Zv z))
   rw[nd];have a:=R.step;have c:=g.step;have j:H1 p=none:=by
    cases z:H1 p with
    |none=>rfl
    |some v=>
     rcases c.fr p v z with y|y
     .rw[R.same.free d]at y;cases y
     .rw[bT]at y;cases y
   refine q p H1 _ ⟨a.s0.trans c.s0,λ b v e=>?_,λ b v e=>?_,λ b v e=>?_,j,a.s.free d,?_⟩
   .have:b≠p:=λ z=>by rw[z,j]at e;cases e
    rw[a_ this];exact c.s' b v e
   .have e1:=a.s b v e;have:b≠p:=λ z=>by rw[z,d]at e1;cases e1
    rw[a_ this];exact c.s b v (by rw[a_ this];exact e1)
   .rcases c.fr b v e with y|y
    .exact a.fr b v y
    .have:b≠p:=λ z=>by rw[z,bT]at y;cases y
     rw[a_ this]at y;exact .inr (a.s.free y)
   .have e1:(Y.zip ds).map (·.1)=Y:=Qt (by lia);have e2:(Y.zip ds).map (·.2)=ds:=Jd (by lia);exact⟨Y,vs,by rw[bT];rfl,e1.symm,by rw[e2];exact k⟩
 .rw[if_neg no]at f;cases f
end
theorem Iz{K:Frag}{st:Stmt}(F:ic K x qual st f fd)(S:aG N ps (aX st))(hn:ps.length=n)(hN:N.length=n+m)(hb:∀(J:Value)(A:Around)(outer:List Env)(s:Shared)(H:Hp)(E:XK),bJ k (A.deeper (envOfC qual (aX st) s.heap.objs.size f J))->XN (fS ft P w K mg base N qual (aX st) f J A outer s H E).nox (fZ st) B):cB P w K mg base ft (k+1) f fd ps (Kz K (nJ n m B)):=by
 refine F.ok S (λ d H Q E h=>?_) (λ J A outer s H d Q E b h=>?_)
 .refine fA h λ Y a o _ r e _=>?_;unfold nJ at e;split at e
  .rename_i Z;rw[hn,<-r.length];exact Z
  .simp at e
 .refine fA h λ Y a o c r e q=>?_;unfold nJ at e;split at e
  .rename_i Z;exact⟨_,hb J A outer s H E b,Y,H,Y,_,o,RS.start c r (by rw[<-r.length];lia),e,q⟩
  .simp at e
end Fx
namespace Fx
open PySem
def mf:D->Option Int->Option Int->Option D
 |.lst xs,lo,hi=>some (.lst (iO xs lo hi))
 |.tup xs,lo,hi=>if gU xs.length 0 lo=0/\gU xs.length xs.length hi=xs.length then none else some (.tup (iO xs lo hi))
 |.str z,lo,hi=>if z.length<=sizeLine then some (.str (Txt.slice z lo hi))else none
 |_,_,_=>none
def gQ(F:FE)(lo hi:FO)(U:En):Option (D×En):=aF (F U) λ p=>aF (lo p.2) λ l=>aF (hi l.2) λ h=>aF (mf p.1 l.1 h.1) λ d=>some (d,h.2)
noncomputable def J0(x z:Str):Bool:=!(Builtin.Str.occurrences z x 0 z.length 1).isEmpty
def jJ:D->D->Option D
 |x,.tup xs=>if fV x xs=true then some (.bl (fc x xs))else none
 |x,.lst xs=>if fV x xs=true then some (.bl (fc x xs))else none
 |.str x,.str z=>some (.bl (J0 x z))
 |_,_=>none
def r4:D->D->Option D
 |x,.tup xs=>if fV x xs=true then some (.bl (!fc x xs))else none
 |x,.lst xs=>if fV x xs=true then some (.bl (!fc x xs))else none
 |.str x,.str z=>some (.bl (!J0 x z))
 |_,_=>none
def IA(x:D)(l:Option Int)(o:Option (Option Int×En)):Option (D×En):=aF o λ h=>aF (mf x l h.1) λ d=>some (d,h.2)
def IB(hi:FO)(x:D)(o:Option (Option Int×En)):Option (D×En):=aF o λ l=>aF (hi l.2) λ h=>aF (mf x l.1 h.1) λ d=>some (d,h.2)
def IC(lo hi:FO)(o:Option (D×En)):Option (D×En):=aF o λ p=>aF (lo p.2) λ l=>aF (hi l.2) λ h=>aF (mf p.1 l.1 h.1) λ d=>some (d,h.2)
@[simp] theorem XH:(∀F lo hi U,gQ F lo hi U=IC lo hi (F U))/\(∀lo hi x U,IC lo hi (some (x,U))=IB hi x (lo U))/\(∀hi x l U,IB hi x (some (l,U))=IA x l (hi U))/\(∀x l h U,IA x l (some (h,U))=gx (mf x l h) U)/\(∀xs lo hi,mf (.lst xs) lo hi=some (.lst (iO xs lo hi)))/\(∀xs lo hi,mf (.tup xs) lo hi=if gU xs.length 0 lo=0/\gU xs.length xs.length hi=xs.length then none else some (.tup (iO xs lo hi)))/\(∀z lo hi,mf (.str z) lo hi=if z.length<=sizeLine then some (.str (Txt.slice z lo hi))else none):=by and_intros<;>intros<;>rfl
@[simp] theorem T4:jJ x (.tup xs)=if fV x xs=true then some (.bl (fc x xs))else none:=by cases x<;>rfl
@[simp] theorem T5:jJ x (.lst xs)=if fV x xs=true then some (.bl (fc x xs))else none:=by cases x<;>rfl
@[simp] theorem U9(x:D)(xs:List D):r4 x (.tup xs)=if fV x xs=true then some (.bl (!fc x xs))else none:=by cases x<;>rfl
@[simp] theorem U_(x:D)(xs:List D):r4 x (.lst xs)=if fV x xs=true then some (.bl (!fc x xs))else none:=by cases x<;>rfl
open PySem.Spec PyProof.Rows L2
section
variable{K:Frag}
def RQ:V->Option Int->Option Int->Hp->VK->Prop:=λ x lo hi H Q=>∃z,x=.str z/\z.length<=sizeLine/\Q (.str (Txt.slice z lo hi)) H
theorem Ik(p:IsPart v o):∃l:Option (Int×Tok),v=partValue l/\l.map (·.1)=o:=by
 cases p with
 |none=>exact⟨none,rfl,rfl⟩
 |int i t=>exact⟨some (i,t),rfl,rfl⟩
theorem EJ:lZ X RQ:=by intro aA s L H x v e f lo hi c Q I Z a Y J h;obtain⟨z,rfl,b,q⟩:=h;obtain⟨t,rfl⟩:=Z;obtain⟨l,rfl,rfl⟩:=Ik Y;obtain⟨u,rfl,rfl⟩:=Ik J;refine bE ("str") _ slot_str_getitem.lookup (typeIs_str _ _ _) (wpAny_getItem_str_slice (st:=none) a rfl ?_);exact post_val_or_str ⟨zc (Yf z _ _) b,λ d k=>⟨.str (Txt.slice z (l.map (·.1)) (u.map (·.1))),H,I.tok _,⟨_,rfl⟩,q⟩⟩
theorem NL{lo hi:Option Expr}(he:XE X e F)(hl:XO X lo A)(hh:XO X hi B):XE X (.Subscript e (.Slice lo hi none p2) pos) (gQ F A B):=PE.wk (Fy ((iW.or EH).or EJ) he hl hh) λ L H Q Z=>by
 obtain⟨c,H0,U,d,O,R,f,q⟩:=Z;obtain⟨⟨x,y⟩,I,f⟩:=aL f;obtain⟨⟨l,Y⟩,K,f⟩:=aL f;obtain⟨⟨u,P⟩,σ,f⟩:=aL f;obtain⟨T,g,f⟩:=aL f;have G:=f;cases G;refine⟨c,H0,U,x,y,R,I,λ v H1 Hh r E N=>?_⟩;refine⟨c,H1,y,l,Y,E,K,λ C cJ i R2=>?_⟩;refine⟨c,C,Y,u,_,R2,σ,λ w dC j J=>?_⟩;have r3:=aS.mono j x (aS.mono i x N);cases x with
 |lst a=>
  have e:=qi g;subst e;obtain⟨p,b,rfl,s,t⟩:=r3;refine .inl (.inl ⟨p,b,rfl,aD.seq J.same s,λ n m=>?_⟩);have S:=bR.alloc (o:=.lst (l6 b l u)) J.same m;refine q _ _ _ (r.trans (i.trans (j.trans S.s0))) (J.after S) ?_;exact⟨n,_,rfl,.inl (.inl bT),aB.mono S.s0 _ (yF t l u)⟩
 |tup a=>
  have h:(if gU a.length 0 l=0/\gU a.length a.length u=a.length then none else some (D.tup (iO a l u)))=some d:=g;by_cases k:gU a.length 0 l=0/\gU a.length a.length u=a.length
  .rw[if_pos k]at h;cases h
  .rw[if_neg k]at h;cases h;obtain⟨p,b,rfl,s,t⟩:=r3;refine .inl (.inr ⟨p,b,rfl,aD.seqT J.same s,?_,λ n m=>?_⟩)
   .rw[<-uE,<-uE,<-t.length];exact k
   have S:=bR.alloc (o:=.tup (l6 b l u)) J.same m;refine q _ _ _ (r.trans (i.trans (j.trans S.s0))) (J.after S) ?_;exact⟨n,_,rfl,.inl (.inl bT),aB.mono S.s0 _ (yF t l u)⟩
 |str z=>
  obtain⟨M,rfl⟩:=bU g;exact .inr ⟨z,r3,M,q _ w dC (r.trans (i.trans j)) J (qQ w _)⟩
 |_=>cases g
theorem du.or(h:du X f r)(h':du X f Y):du X f (λ x y H Q=>r x y H Q\/Y x y H Q):=by
 intro aA s L H x y v u Q I J Z q;rcases q with q|q
 .exact h aA s L H x y v u Q I J Z q
 .exact h' aA s L H x y v u Q I J Z q
theorem Iu:iN K (qB K false) V8:=Iv λ x y d e=>by
 cases y with
 |tup xs=>obtain⟨h,rfl⟩:=bU e;exact cN xs (.inl rfl) h rfl
 |lst xs=>obtain⟨h,rfl⟩:=bU e;exact cN xs (.inr rfl) h rfl
 |_=>cases e
theorem IQ:iN K (qB K true) VS:=Iv λ x y d e=>by
 cases y with
 |tup xs=>obtain⟨h,rfl⟩:=bU e;exact cN xs (.inl rfl) h rfl
 |lst xs=>obtain⟨h,rfl⟩:=bU e;exact cN xs (.inr rfl) h rfl
 |_=>cases e
theorem AL:hF X .In jJ:=⟨_,du.or P0 PZ,λ c H0 H U L x y d Y Z Q R f J e q=>by
 cases y with
 |tup xs=>rw[T4]at e;exact .inl (Iu c H0 H U L x (.tup xs) d Y Z Q R f J e q)
 |lst xs=>rw[T5]at e;exact .inl (Iu c H0 H U L x (.lst xs) d Y Z Q R f J e q)
 |str b=>
  cases x with
  |str a=>
   have g:=e;obtain rfl:=br g;subst f J;exact .inr ⟨a,b,rfl,rfl,q _ H0 H (aD.refl _) R (kv _ _)⟩
  |_=>cases e
 |_=>cases x<;>cases e⟩
theorem Vz:hF X .NotIn r4:=⟨_,du.or DU NC,λ c H0 H U L x y d Y Z Q R f J e q=>by
 cases y with
 |tup xs=>rw[U9]at e;exact .inl (IQ c H0 H U L x (.tup xs) d Y Z Q R f J e q)
 |lst xs=>rw[U_]at e;exact .inl (IQ c H0 H U L x (.lst xs) d Y Z Q R f J e q)
 |str b=>
  cases x with
  |str a=>
   have g:=e;obtain rfl:=br g;subst f J;exact .inr ⟨a,b,rfl,rfl,q _ H0 H (aD.refl _) R (kv _ _)⟩
  |_=>cases e
 |_=>cases x<;>cases e⟩
end
end Fx
namespace Fx
open PySem
noncomputable def nV:Option Sl->Option MO
 |some (.ow true o)=>some o
 |_=>none
def kF(U:En)(i:Nat)(o:MO):List Nat->Option En
 |[]=>some []
 |j::js=>aF (if j=i then some (.ow true o)else qD U[j]?) λ s=>aF (kF U i o js) λ r=>some (s::r)
def iQ(T:FT)(F:FE)(U:En)(i:Nat)(js:List Nat)(q:Nat):MO->List D->Option (List D×MO)
 |o,[]=>some ([],o)
 |o,d::r=>aF (kF U i o js) λ fr=>aF (T (.im d::fr)) λ p=>if p.1=true then aF (F p.2) λ z=>aF (nV z.2[q+1]?) λ o'=>aF (iQ T F U i js q o' r) λ t=>some (z.1::t.1,t.2)
   else aF (nV p.2[q+1]?) λ o'=>iQ T F U i js q o' r
theorem NF(T:FT)(F:FE)(U:En)(i:Nat)(js:List Nat)(q:Nat)(o:MO):iQ T F U i js q o []=some ([],o):=rfl
theorem w_(T:FT)(F:FE)(U:En)(i:Nat)(js:List Nat)(q:Nat)(o:MO)(d:D)(r:List D):iQ T F U i js q o (d::r)=aF (kF U i o js) λ fr=>aF (T (.im d::fr)) λ p=>if p.1=true then aF (F p.2) λ z=>aF (nV z.2[q+1]?) λ o'=>aF (iQ T F U i js q o' r) λ t=>some (z.1::t.1,t.2)
   else aF (nV p.2[q+1]?) λ o'=>iQ T F U i js q o' r:=rfl
def tj(js:List Nat)(i q:Nat)(T:FT)(F:FE)(xs:List D)(U:En):Option (D×En):=aF (gf U[i]?) λ w=>aF (iQ T F U i js q w.2 xs) λ t=>if xs.length<=sizeLine/\js[q]?=some i/\js.Nodup then some (.lst t.1,U.set i (.ow w.1 t.2))else none
def sj(js:List Nat)(i q:Nat)(I:FE)(T:FT)(F:FE)(U:En):Option (D×En):=aF (I U) λ p=>aF (items p.1) λ xs=>tj js i q T F xs p.2
open PySem.Spec PyProof.Rows L2
theorem Td(h:nV s=some o):s=some (.ow true o):=by
 unfold nV at h;split at h
 .obtain rfl:=br h;rfl
 .simp at h
theorem FV:∀{js:List Nat}{fr:En},kF U i o js=some fr->fr.length=js.length/\∀(k:Nat)(s:Sl),fr[k]?=some s->∃j,js[k]?=some j/\((j=i/\s=.ow true o)\/∃d,U[j]?=some (.im d)/\s=.im d)
 |[],_,h=>by
  have h':=qi h;subst h';exact⟨rfl,λ k s e=>by simp at e⟩
 |j::js,_,h=>by
  obtain⟨s,c,h⟩:=aL h;obtain⟨r,f,h⟩:=aL h;cases h;obtain⟨a,b⟩:=FV f;refine⟨by rw[zh,zh,a],λ k s' e=>?_⟩;cases k with
  |zero=>
   simp at e;subst e;refine⟨j,rfl,?_⟩;by_cases q:j=i
   .rw[if_pos q]at c;cases c;exact .inl ⟨q,rfl⟩
   .rw[if_neg q]at c;cases z:U[j]? with
    |none=>rw[z]at c;cases c
    |some Z=>
     rw[z]at c;cases Z with
     |im d=>exact .inr ⟨d,rfl,(qi c).symm⟩
     |_=>cases c
  |succ k=>
   obtain⟨J,Y,g⟩:=b k s' (by simpa using e);exact⟨J,by simpa using Y,g⟩
theorem FR:∀js:List Nat,kF (U.set i s) i o js=kF U i o js
 |[]=>rfl
 |j::js=>by
  unfold kF;rw[FR js];by_cases q:j=i
  .rw[if_pos q,if_pos q]
  .rw[if_neg q,if_neg q,zf (zt q)]
theorem Na{js:List Nat}(h:js.Nodup){k l i:Nat}(a:js[k]?=some i)(b:js[l]?=some i):k=l:=by obtain⟨Y,q⟩:=List.getElem?_eq_some_iff.mp a;obtain⟨Z,J⟩:=List.getElem?_eq_some_iff.mp b;exact(List.getElem_inj h).mp (q.trans J.symm)
theorem RS.blockB{K:Frag}(R:RS K c H0 H U L)(hi:U[i]?=some (.ow b o))(ha:L[i]?=some (some (.ref a)))(nd:js.Nodup)(hf:kF U i o js=some fr)(rx:aS K H0 d x):RS K ⟨H0,H,[a]⟩ H0 H (.im d::fr) (some x::fN L js):=by
 obtain⟨l,g⟩:=FV hf;refine dE (R.ow i b o hi) λ F r E Q s=>?_;rw[ha]at r;cases r;refine⟨R.same,aD.refl _,λ b o e=>.inl e,λ b o e _=>e,λ z B e=>?_,?_,λ k w e=>?_,λ k G N e=>?_,λ k n I σ O P z e1 e2 e3 e4=>?_⟩
 .obtain⟨u,A⟩:=s.some;have Z:z=a:=by simpa using B
  have e:=e;rw[Z,A]at e;simp at e
 .rw[zh,zh,l,fN,qw]
 .cases k with
  |zero=>simp at e;subst e;exact⟨x,rfl,rx⟩
  |succ k=>
   obtain⟨j,J,q⟩:=g k _ (by simpa using e);rcases q with⟨_,f⟩|⟨y,q,f⟩
   .simp at f
   .cases f;obtain⟨v,C,D⟩:=R.im j w q;refine⟨v,?_,D⟩;show(fN L js)[k]?=some (some v);unfold fN;rw[zo,J];show some (L[j]?).join=some (some v);rw[C];rfl
 .cases k with
  |zero=>simp at e
  |succ k=>
   obtain⟨j,J,q⟩:=g k _ (by simpa using e);rcases q with⟨h,f⟩|⟨y,_,f⟩
   .cases f;subst h;refine gj a ?_ E (by rw[if_pos rfl];exact List.mem_singleton.mpr rfl) s;show(fN L js)[k]?=some (some (.ref a));unfold fN;rw[zo,J];show some (L[j]?).join=some (some (.ref a));rw[ha];rfl
   .simp at f
 .cases k with
  |zero=>simp at e1
  |succ k=>
   cases n with
   |zero=>simp at e2
   |succ n=>
    obtain⟨j,J,q⟩:=g k _ (by simpa using e1);obtain⟨M,Y,t⟩:=g n _ (by simpa using e2);rcases q with⟨h,_⟩|⟨_,_,f⟩
    .rcases t with⟨m,_⟩|⟨_,_,p⟩
     .rw[h]at J;rw[m]at Y;rw[Na nd J Y]
     .simp at p
    .simp at f
theorem RS.unblock{K:Frag}(R:RS K c H0 H U L)(hi:U[i]?=some (.ow b o))(ha:L[i]?=some (some (.ref a)))(R2:RS K ⟨H0,H,[a]⟩ H2 cJ J (some x::fN L js))(hq:nV J[q+1]?=some o'):RS K c H2 cJ (U.set i (.ow b o')) L:=by
 refine dE (R2.ow (q+1) true o' (Td hq)) λ Z _ _ Y d=>?_;rw[if_pos rfl]at Y;have e:Z=a:=by simpa using Y
 subst e;exact R.lent hi ha R2.init R2.same (λ y u e n=>R2.keep y u e (by simpa using n)) R2.fresh d
theorem EZ{K:Frag}(R:RS K c H1 Hh U L)(hi:U[i]?=some (.ow b o))(nd:js.Nodup)(hc:iQ T F U i js q o xs=some (out,o'))(hz:xs.length<=sizeLine)(hy:lQ K J H1 xs)(qf:∀ys H0 H,aD H1 H0->RS K c H0 H (U.set i (.ow b o')) L->aB K H0 out ys->Qf ys H):mU js (iK K T) (tE K F) L Qf J Hh:=by
 have C:=(List.getElem?_eq_some_iff.mp hi).1;obtain⟨a,s,_⟩:=R.ow i b o hi;have Z:∀o,(U.set i (.ow b o))[i]?=some (.ow b o):=λ o=>zl C;have e0:U.set i (.ow b o)=U:=by obtain⟨_,e⟩:=List.getElem?_eq_some_iff.mp hi;rw[<-e];exact List.set_getElem_self C
 refine⟨λ n m ys H=>m=xs.length-n/\n<=xs.length/\∃H0 d,aD H1 H0/\RS K c H0 H (U.set i (.ow b d)) L/\∃pre rest,aB K H0 pre ys/\pre.length<=n/\iQ T F U i js q d (xs.drop n)=some (rest,o')/\pre++rest=out,⟨xs.length,by simp,ye _,H1,o,aD.refl _,by rw[e0];exact R,[],out,aB.nil_,ye _,by simpa using hc,rfl⟩,?_⟩
 rintro n m ys H ⟨rfl,B,H0,d,j,f,pre,rest,g,lp,Y,e⟩;obtain⟨Q,S⟩:=hy H0 H n j f.same;by_cases l:n<xs.length
 .have hd:xs[n]?=some xs[n]:=by simp[l]
  obtain⟨go,ρ⟩:=Q _ hd;refine .inr ⟨go,by rw[<-g.length];lia,λ x H' hx=>?_⟩;obtain⟨rfl,P⟩:=ρ x H' hx;rw[oh hd,w_]at Y;obtain⟨fr,σ,Y⟩:=aL Y;obtain⟨⟨bb,A⟩,M,Y⟩:=aL Y;have G:=f.blockB (Z d) s nd (by rw[FR];exact σ) P;refine⟨⟨H0,H',[a]⟩,H0,_,bb,A,G,M,λ w cJ k R2=>?_⟩;cases bb with
  |false=>
   rw[if_neg zj]at Y⊢;obtain⟨u,r,Y⟩:=aL Y;have h:=f.unblock (Z d) s R2 r;rw[List.set_set]at h;exact⟨xs.length-(n+1),by lia,rfl,l,w,u,j.trans k,h,pre,rest,aB.mono k _ g,by lia,Y,e⟩
  |true=>
   rw[if_pos rfl]at Y⊢;obtain⟨⟨z,I⟩,N,Y⟩:=aL Y;obtain⟨u,r,Y⟩:=aL Y;obtain⟨⟨t,W⟩,O,Y⟩:=aL Y;have p:=Y;cases p;refine⟨⟨H0,H',[a]⟩,w,A,z,I,R2,N,λ v E dC D h r3=>?_⟩;have y:=f.unblock (Z d) s h r;rw[List.set_set]at y;refine⟨xs.length-(n+1),by lia,rfl,l,E,u,j.trans (k.trans D),y,pre++[z],t,(aB.mono (k.trans D) _ g).app (aB.one r3),?_,O,?_⟩
   .rw[zi,Zb];lia
   .rw[Qg];exact e
 .have V:n=xs.length:=by lia
  have B:xs.drop n=[]:=jk (by lia);rw[B,NF]at Y;have p:=Y;cases p;rw[zx]at e;subst e;exact .inl ⟨S (by lia),by rw[<-g.length];lia,qf ys H0 H j f g⟩
theorem G7(h:tj js i q T F xs U=some (d,ρ')):∃b o ys o',U[i]?=some (.ow b o)/\iQ T F U i js q o xs=some (ys,o')/\xs.length<=sizeLine/\js.Nodup/\d=.lst ys/\ρ'=U.set i (.ow b o'):=by obtain⟨⟨b,o⟩,a,h⟩:=aL h;obtain⟨⟨ys,o'⟩,c,h⟩:=aL h;obtain⟨⟨Y,Z,J⟩,h⟩:=bU h;cases h;exact⟨b,o,ys,o',lR a,c,Y,J,rfl,rfl⟩
section
variable{bU:List Expr}
theorem Ry(i q:Nat)(hc:X.calm=true)(Z:X.env.scope=sc)(B:eA X.N sc scope x aV js)(hi:XE X iter I)(ht:∀s H C fp,lb (df X (x::aV) scope s H C fp) bU T)(he:∀s H C fp,XE (df X (x::aV) scope s H C fp) elt F)(hs:∀v,foldedSetIterable iter X.env v=pure v:=by intro _;rfl):XE X (.ListComp elt [⟨.Name x px,iter,bU,0⟩] scope pos) (sj js i q I T F):=
 PE.wk (Ii (tt:=iK X.K T) (te:=tE X.K F) hc Z B (sd hi) ht he hs) λ L H Q Y=>by
  refine bL Y λ c H0 U d u R f m=>?_;obtain⟨⟨z,y⟩,g,f⟩:=aL f;obtain⟨xs,h,f⟩:=aL f;obtain⟨b,o,ys,A,k1,k2,k3,l,rfl,rfl⟩:=G7 f;refine tw R g h λ J H1 Hh r e k=>?_;refine EZ e k1 l k2 k3 k λ a w cJ t R2 n=>λ p j=>?_;have S:=bR.alloc (o:=.lst a) R2.same j;refine m _ _ _ (r.trans (t.trans S.s0)) (R2.after S) ?_;exact bE p a rfl (.inl (.inl bT)) (aB.mono S.s0 _ n)
end
section
variable{bU:List Expr}
theorem NO(n:Nat)(hN:X.N.Nodup)(i q:Nat)(hc:X.calm=true)(ac:X.env.scope=sc)(Bk:eA X.N sc scope x aV js)(hi:XE X iter I)(ht:∀s H C fp,lb (df X (x::aV) scope s H C fp) bU T)(he:∀s H C fp,XE (df X (x::aV) scope s H C fp) elt F)(aa:X.N[n]?=some y:=by rfl)(hy:X.env.scope.names.lookup y=some .local:=by rfl)(Z:swapsWith (.ListComp elt [⟨.Name x px,iter,bU,0⟩] scope pos) (some (.Name y py)) spos.line X.env=pure true:=by rfl)(hs:∀v,foldedSetIterable iter X.env v=pure v:=by intro _;rfl):XS X (.Assign [.Name y py] (.ListComp elt [⟨.Name x px,iter,bU,0⟩] scope pos) spos) (bC n (sj js i q I T F)):=
 PS.wk (tU (tt:=iK X.K T) (te:=tE X.K F) hN aa hy hc ac Bk (sd hi) ht he Z hs) λ Dn L H Y=>by
  refine bY Y λ c H0 U r R f t=>?_;obtain⟨⟨d,D⟩,a,f⟩:=aL f;have h:=f;obtain rfl:=br h;obtain⟨⟨z,E⟩,j,a⟩:=aL a;obtain⟨xs,k,a⟩:=aL a;obtain⟨b,o,ys,G,k1,k2,k3,m,rfl,rfl⟩:=G7 a;refine tw R j k λ J H1 Hh w g hy=>?_;refine EZ g k1 m k2 k3 hy λ e B cJ A R2 u=>λ p l=>?_;have S:=bR.alloc (o:=.lst e) R2.same l;refine t _ _ _ (w.trans (A.trans S.s0)) ((R2.after S).set n ?_);exact bE p e rfl (.inl (.inl bT)) (aB.mono S.s0 _ u)
end
end Fx
namespace Fx
open PySem
noncomputable def f_(a b:Str):Bool:=decide (a.cps.toList<b.cps.toList)
def l8(x:Str):List Str->List Str
 |[]=>[x]
 |y::r=>if f_ y x=true then y::l8 x r else x::y::r
def dy:List Str->List Str
 |[]=>[]
 |x::r=>l8 x (dy r)
def mZ:List D->Option (List Str)
 |[]=>some []
 |.str x::r=>aF (mZ r) λ t=>some (x::t)
 |_=>none
theorem DM(x:Str)(r:List D):mZ (.str x::r)=aF (mZ r) λ t=>some (x::t):=rfl
def k8(xs:List D):Option D:=aF (mZ xs) λ ss=>if ss.length<64 then some (.lst ((dy ss).map .str))else none
def mQ:List D->Option D
 |[.tup xs]=>k8 xs
 |[.lst xs]=>k8 xs
 |_=>none
noncomputable def vp:D->Option Str
 |.str x=>some x
 |_=>none
def kZ:List D->Option (List (Str×D))
 |[]=>some []
 |.tup [.str k,v]::r=>aF (kZ r) λ t=>some ((k,v)::t)
 |_=>none
theorem OA(k:Str)(v:D)(r:List D):kZ (.tup [.str k,v]::r)=aF (kZ r) λ t=>some ((k,v)::t):=rfl
def sH(xs:List D)(k:D)(d:D):Option D:=aF (kZ xs) λ aH=>aF (vp k) λ k=>if aH.length<=1000/\(aH.map (·.1)).Nodup then some ((cy k aH).getD d)else none
noncomputable def vU:D->Option (List D)
 |.tup xs=>some xs
 |_=>none
def BA(E Y J:FE)(U:En):Option (D×En):=aF (E U) λ p=>aF (vU p.1) λ xs=>if p.2.all gG=true then aF (Y p.2) λ q=>aF (J q.2) λ r=>aF (sH xs q.1 r.1) λ d=>some (d,r.2)else none
def Bs(xs:List D)(k:D)(o:Option (D×En)):Option (D×En):=aF o λ r=>aF (sH xs k r.1) λ d=>some (d,r.2)
def Bt(J:FE)(xs:List D)(o:Option (D×En)):Option (D×En):=aF o λ q=>Bs xs q.1 (J q.2)
def Bu(J q:FE)(U:En)(o:Option (List D)):Option (D×En):=aF o λ xs=>if U.all gG=true then Bt q xs (J U)else none
def JB(J q:FE)(o:Option (D×En)):Option (D×En):=aF o λ p=>Bu J q p.2 (vU p.1)
@[simp] theorem Xn:(∀xs,vU (.tup xs)=some xs)/\(∀d,gG (.im d)=true)/\(∀xs,mQ [.tup xs]=k8 xs)/\(∀xs,mQ [.lst xs]=k8 xs)/\(∀E J q U,BA E J q U=JB J q (E U))/\(∀J q x U,JB J q (some (x,U))=Bu J q U (vU x))/\(∀J q U xs,Bu J q U (some xs)=if U.all gG=true then Bt q xs (J U)else none)/\(∀q xs k U,Bt q xs (some (k,U))=Bs xs k (q U))/\(∀xs k d U,Bs xs k (some (d,U))=gx (sH xs k d) U):=by and_intros<;>intros<;>rfl
theorem mem_insS:∀{l:List Str},y∈l8 x l↔y=x\/y∈l:=by intro a;induction a<;>grind[l8]
theorem ud:∀(ss:List Str),mZ (ss.map .str)=some ss
 |[]=>rfl
 |x::r=>by rw[qx,DM,ud r];rfl
noncomputable def hM(aY:List Str)(x:Str):List Str:=if x∈aY then aY else aY++[x]
def dj(aY:List Str)(xs:List Str):List Str:=xs.foldl hM aY
def tT(xs:List D):Option D:=aF (mZ xs) λ ss=>if ss.length<64 then some (.lst ((dy (dj [] ss)).map .str))else none
theorem Lq(q:List Str)(h:q.length<64):tT (q.map .str)=some (.lst ((dy (dj [] q)).map .str)):=by unfold tT;rw[ud,c8,if_pos h]
theorem lI:∀{xs aY:List Str},y∈dj aY xs↔y∈aY\/y∈xs
 |[],aY=>by simp[dj]
 |x::r,aY=>by
  have J:=lI (y:=y) (xs:=r) (aY:=hM aY x);grind[dj,hM]
noncomputable def lM:D->Option (List D)
 |.tup xs=>some xs
 |.lst xs=>some xs
 |_=>none
def oo:List D->Option D
 |[x,y]=>aF (lM x) λ xs=>aF (lM y) λ ys=>if xs.length+ys.length<=60 then tT (xs++ys)else none
 |_=>none
@[simp] theorem HV:lM (.tup xs)=some xs:=yI rfl
theorem DB(x y:D):oo [x,y]=aF (lM x) λ xs=>aF (lM y) λ ys=>if xs.length+ys.length<=60 then tT (xs++ys)else none:=rfl
noncomputable def kS:D->Option Str
 |.str k=>some k
 |_=>none
def kN(k:Str)(d:D)(aO:List (Str×D)):List (Str×D):=if(cy k aO).isSome=true then hQ k d aO else aO++[(k,d)]
def wt(i:Nat)(U:En):Option bM:=some (.nx (U.set i (.ow false (.dic []))))
def BD(i:Nat)(d:D)(U:En)(k:Str)(o:Option (Bool×List (Str×D))):Option bM:=aF o λ q=>if q.2.length<100 then some (.nx (U.set i (.ow q.1 (.dic (kN k d q.2)))))else none
def BE(i:Nat)(d:D)(U:En)(o:Option Str):Option bM:=aF o λ k=>BD i d U k (gL U[i]?)
def BF(i:Nat)(d:D)(o:Option (D×En)):Option bM:=aF o λ p=>BE i d p.2 (kS p.1)
def BG(i:Nat)(G:FE)(d:D)(U:En)(o:Option (Bool×List (Str×D))):Option bM:=aF o λ _=>BF i d (G U)
def BH(i:Nat)(G:FE)(o:Option (D×En)):Option bM:=aF o λ p=>BG i G p.1 p.2 (gL p.2[i]?)
def mM(i:Nat)(G F:FE)(U:En):Option bM:=BH i G (F U)
noncomputable def wb:Option Sl->Option MO
 |some (.ow false o)=>some o
 |_=>none
def vN(i:Nat)(U:En):Option MO:=wb U[i]?
@[simp] theorem XB:(∀k,kS (.str k)=some k)/\(∀i U,wt i U=some (.nx (U.set i (.ow false (.dic [])))))/\(∀i G F U,mM i G F U=BH i G (F U))/\(∀i G d U,BH i G (some (d,U))=BG i G d U (gL U[i]?))/\(∀i G d U q,BG i G d U (some q)=BF i d (G U))/\(∀i d x U,BF i d (some (x,U))=BE i d U (kS x))/\(∀i d U k,BE i d U (some k)=BD i d U k (gL U[i]?))/\(∀i d U k b aO,BD i d U k (some (b,aO))=if aO.length<100 then some (.nx (U.set i (.ow b (.dic (kN k d aO)))))else none)/\(∀o,wb (some (.ow false o))=some o)/\(∀i U,vN i U=wb U[i]?):=by and_intros<;>intros<;>rfl
mutual
noncomputable def nd:D->Bool
 |.opq=>false
 |.dct _ _=>false
 |.tup xs=>iU xs
 |.lst xs=>iU xs
 |_=>true
noncomputable def iU:List D->Bool
 |[]=>true
 |d::r=>nd d&&iU r
end
def iH:Sl->Bool
 |.ow _ (.lst ds)=>iU ds
 |.ow _ (.dic aO)=>iU (aO.map (·.2))
 |_=>true
noncomputable def gK(aO:List (Str×D)):Sl:=.im (.dct (aO.map (·.1)) (aO.map (·.2)))
noncomputable def rR(U q:En)(o:Option (D×En)):Option (D×En):=aF o λ p=>@ite _ (nd p.1=true/\p.2=q) (Classical.propDecidable _) (some (p.1,U)) none
def Bn(i:Nat)(F:FE)(U:En)(o:Option (Bool×List (Str×D))):Option (D×En):=aF o λ q=>if q.1=false/\U.all iH=true then rR U (U.set i (gK q.2)) (F (U.set i (gK q.2)))else none
def Bz(i:Nat)(F:FE)(U:En):Option (D×En):=Bn i F U (gL U[i]?)
@[simp] theorem Xt:(∀i F U,Bz i F U=Bn i F U (gL U[i]?))/\(∀i F U b aO,Bn i F U (some (b,aO))=if b=false/\U.all iH=true then rR U (U.set i (gK aO)) (F (U.set i (gK aO)))else none):=by and_intros<;>intros<;>rfl
theorem Vp(U q:En)(d:D)(h:nd d=true):rR U q (some (d,q))=some (d,U):=by exact if_pos ⟨h,rfl⟩
noncomputable def vh:MO->Option D
 |.dic aO=>some (.dct (aO.map (·.1)) (aO.map (·.2)))
 |_=>none
def BI(U:En)(o:Option D):Option (D×En):=aF o λ d=>some (d,U)
def BJ(U:En)(o:Option MO):Option (D×En):=aF o λ m=>BI U (vh m)
def BK(g:List D->Option MO)(o:Option (List D×En)):Option (D×En):=aF o λ p=>BJ p.2 (g p.1)
def BU(g:List D->Option MO)(A:FA)(U:En):Option (D×En):=BK g (A U)
def pO:D->D->Option D
 |.dct ks ds,.str k=>cy k (ks.zip ds)
 |_,_=>none
@[simp] theorem Xz:(∀aO,vh (.dic aO)=some (.dct (aO.map (·.1)) (aO.map (·.2))))/\(∀g A U,BU g A U=BK g (A U))/\(∀g ds U,BK g (some (ds,U))=BJ U (g ds))/\(∀U m,BJ U (some m)=BI U (vh m))/\(∀U d,BI U (some d)=some (d,U))/\(∀q ds k,pO (.dct q ds) (.str k)=cy k (q.zip ds)):=by and_intros<;>intros<;>rfl
open PySem.Spec PyProof.Rows L2
section
variable{K:Frag}{H:Hp}
theorem Jo:∀{aO:List (Str×D)}{vs:List V},aB K H (aO.map (·.2)) vs->cy k aO=none->fC (cY (aO.map (·.1)) vs) (.inr k)=none
 |[],_,_,_=>rfl
 |q::r,vs,t,e=>by
  rw[qx]at t;obtain⟨v,Y,rfl,_,a⟩:=t;rw[qx,tO];unfold cy at e;by_cases J:q.1=k
  .rw[if_pos J]at e;simp at e
  .rw[if_neg J]at e;rw[tP λ z=>J (Zv z)];exact Jo a e
theorem Va(h:q.length=vs.length):cY q vs++[(Sum.inr k,v)]=cY (q++[k]) (vs++[v]):=by unfold cY;rw[zv,List.zip_append (by rw[qw];exact h)];rfl
theorem Vu(Y:aS K H d v)(t:aB K H (aO.map (·.2)) vs):∃J,fP (cY (aO.map (·.1)) vs) (.inr k) v=cY ((kN k d aO).map (·.1)) J/\aB K H ((kN k d aO).map (·.2)) J:=by
 unfold kN;cases q:cy k aO with
 |some a=>rw[if_pos (show(some a).isSome=true from rfl)];exact Ih Y t q
 |none=>
  rw[if_neg (by simp)];have Z:=t.length;rw[qw]at Z;refine⟨vs++[v],?_,?_⟩
  .rw[Eu v (Jo t q),Va (by rw[qw];exact Z),zv];rfl
  .rw[zv];exact t.app (aB.one Y)
end
section
variable{X:Cx}{pos:Pos}{e:Expr}{F G:FE}{A:FA}
theorem KU(i:Nat)(Z:X.N.Nodup)(hi:X.N[i]?=some x:=by rfl)(hx:jI X.env.scope x:=by first|exact Or.inl rfl|exact Or.inr rfl)(hs:swapsWith (.Dict [] [] p2) (some (.Name x p)) pos.line X.env=pure false:=by rfl)(hf:X.fn x=true\/X.env.scope.names.lookup x=some .local:=by first|exact .inl rfl|exact .inr rfl):XS X (.Assign [.Name x p] (.Dict [] [] p2) pos) (wt i):=
 PS.wk (mP Z hi hx Vd hs hf) λ Dn L H J=>by
  refine bY J λ c H0 U r R f q=>?_;have Y:=f;obtain rfl:=br Y;exact λ a b=>q _ H0 _ (aD.refl _) (R.setOwn i b ⟨[],[],by rw[bT];rfl,rfl,aB.nil_⟩)
theorem qL(i:Nat)(hu:X.A.units+1<cLine)(hk:XE X k G)(he:XE X e F)(hN:X.N[i]?=some x:=by rfl)(hv:fh X.env.scope x:=by first|exact Or.inl rfl|exact Or.inr (Or.inl rfl)|exact Or.inr (Or.inr rfl))(hd:cH x:=by decide)(ac:er x:=by decide)(hs:swapsWith e (some (.Subscript (.Name x p) k p3)) pos.line X.env=pure false:=by rfl):XS X (.Assign [.Subscript (.Name x p) k p3] e pos) (mM i G F):=
 PS.wk (Fj hu (eI hN hv hd ac) hk he hs) λ Dn L H J=>by
  refine bY J λ c H0 U r R f q=>?_;obtain⟨⟨d,Y⟩,u,f⟩:=aL f;obtain⟨⟨s,P⟩,w,f⟩:=aL f;obtain⟨⟨l,o⟩,B,f⟩:=aL f;obtain⟨k2,h,f⟩:=aL f;obtain⟨⟨b,aO⟩,C,f⟩:=aL f;obtain⟨D,rfl⟩:=bU f;have Z:l=.str k2:=by
   cases l with
   |str z=>obtain rfl:=br h;rfl
   |_=>cases h
  subst Z;refine bA c H0 U d Y R u λ v H1 Hh K g E=>?_;obtain⟨a,e1,_⟩:=g.ow i s _ (mY w);refine⟨_,e1,c,H1,Y,_,o,g,B,λ y m cJ j R2 I=>?_⟩;subst I;have z:=mY C;obtain⟨O,e2,_,_,Q,S,e4,rfl,t⟩:=R2.ow i b _ z;rw[e1]at e2;cases e2;obtain⟨n,σ,M⟩:=Vu (aS.mono j d E) t;refine bE a _ rfl (gM.k (k:=.inr k2) e4 (by have:=Er t;unfold cY at this;rw[this];exact Hc D)) ?_;exact q L m _ (K.trans j) (R2.mutOwn z e1 ⟨_,n,by rw[bT];exact Z8 (λ y=>some (HO.dK y)) σ,rfl,M⟩)
theorem WJ(i:Nat)(hN:X.N[i]?=some x:=by rfl)(hv:fh X.env.scope x:=by first|exact Or.inl rfl|exact Or.inr (Or.inl rfl)|exact Or.inr (Or.inr rfl))(hd:cH x:=by decide)(Z:er x:=by decide):XN X [.Return (some (.Name x p)) Y] (vN i):=
 d8.wk (nY (vi (eI hN hv hd Z))) λ Dn L H J=>by
  refine bL J λ e d H0 U o R f q=>?_;unfold vN wb at f;split at f
  .rename_i g c;obtain rfl:=br f;refine dE (R.ow i false _ c) λ a e1 e2 e3 ok=>?_;exact⟨_,e1,q a H0 H ⟨R.init,R.same,λ b u h=>R.keep b u h (by simp),R.fresh,e2,e3,ok⟩⟩
  .simp at f
end
section
variable{X:Cx}{aA:List (Addr×Obj)}{L:L2.St}{H:Hp}{s:Shared}{a:Addr}{aH:List (Key×V)}
theorem Jy(I:aI X aA L H s)(e:H a=some (.dK aH)):∃ob,aI X aA L (upd H a (.frz ob (.dK aH))) s:=by obtain⟨z,n,c,J,o,es,b,Y,r⟩:=(show aZ X.prog X.w H s.heap a (.dK aH)from I.hok a _ e);exact⟨o,I.write (by rw[e];trivial) (.inl rfl) (λ _ _ _ q=>q) ⟨o,Y⟩ ⟨Y,z,n,c,J,o,es,b,Y,r⟩⟩
def vW(X:Cx)(a:Addr):Prop:=(∀xs,X.H₀ a≠some (.tup xs))/\(∀o u,X.H₀ a≠some (.frz o u))/\∀ps,X.H₀ a≠some (.tbl ps)
theorem Vm(I:aI X aA L H s)(e:H a=some (.dK aH)):vW X a:=by
 refine⟨λ xs z=>?_,λ o u z=>?_,λ ps z=>?_⟩
 .have q:=I.base.tups a xs z;rw[e]at q;simp at q
 .have q:=I.base.frzs a o u z;rw[e]at q;simp at q
 .obtain⟨m,q⟩:=I.base.tbls a ps z;rw[e]at q;simp at q
theorem Vl(I:aI X aA L H s)(e:H a=some (.frz ob (.dK aH)))(Y:vW X a):aI X aA L (upd H a (.dK aH)) s:=by
 have J:∀{b:Addr},H b=none->b≠a:=λ z h=>by rw[h,e]at z;simp at z
 have un:=I.base;refine⟨I.ok,I.os,I.bare,⟨un.keep,un.slot,λ b o q n hx=>?_,un.there,λ b xs q=>?_,λ b o u q=>?_,λ b ps q=>?_⟩,I.loc,I.cell,?_,λ x c q=>?_,λ p i=>?_,λ b u q=>?_,I.len⟩
 .have z:=un.free b o q n hx;rw[a_ (J z)];exact z
 .rw[a_ λ h=>Y.1 xs (by rw[<-h];exact q)];exact un.tups b xs q
 .rw[a_ λ h=>Y.2.1 o u (by rw[<-h];exact q)];exact un.frzs b o u q
 .rw[a_ λ h=>Y.2.2 ps (by rw[<-h];exact q)];exact un.tbls b ps q
 .rw[a_ (J I.free)];exact I.free
 .have z:=I.freeC x c q;rw[a_ (J z)];exact z
 .obtain⟨f,d,g⟩:=I.pin p i;exact⟨f,by rw[a_ (J d)];exact d,g⟩
 .by_cases Z:b=a
  .subst Z;rw[bT]at q;obtain rfl:=br q;obtain⟨_,w⟩:=(show aZ X.prog X.w H s.heap b (.frz ob (.dK aH))from I.hok b _ e);exact w
  .rw[a_ Z]at q;refine(I.hok b u q).stay (λ _ _ _ r=>r) (λ c r=>?_) λ c xs r=>?_
   .rw[a_ λ h=>by rw[h,e]at r;cases r];exact r
   .rw[a_ λ h=>by rw[h,e]at r;cases r];exact r
end
section
variable{X:Cx}{e:Expr}{st:Stmt}{t:TE}
def Wq(i:Nat)(t:TE):TE:=λ L H Q=>∃a aH,L[i]?=some (some (.ref a))/\H a=some (.dK aH)/\∀ob,t L (upd H a (.frz ob (.dK aH))) λ v H2=>H2 a=some (.frz ob (.dK aH))/\Q v (upd H2 a (.dK aH))
theorem V3(i:Nat)(h:PE X e t):PE X e (Wq i t):=λ aA s L H Q I J=>by
 refine cF J λ a aH _ Y q=>?_;obtain⟨ob,Z⟩:=Jy I Y;exact bN (h aA s L _ _ Z (q ob)) λ u g⟨v,f,b,d,e2,c⟩=>⟨v,_,Vl b e2 (Vm I Y),d,c⟩
def Wx(t:TE):TE:=λ L H Q=>t L H λ v H1=>∃a aH,v=.ref a/\H1 a=some (.dK aH)/\∀ob,Q v (upd H1 a (.frz ob (.dK aH)))
theorem V2(h:PE X e t):PE X e (Wx t):=λ aA s L H Q I q=>bN (h aA s L H _ I q) λ u i J=>by
 obtain⟨v,f,b,Z,a,aH,g,c,d⟩:=J;obtain⟨ob,Y⟩:=Jy b c;exact bE v _ Y Z (d ob)
end
def less(H:Hp)(a:Addr):Hp:=λ b=>if b=a then none else H b
theorem Jh:less H a a=none:=if_pos rfl
theorem se(h:b≠a):less H a b=H b:=if_neg h
theorem zu(h:less H a b=some u):b≠a/\H b=some u:=by
 by_cases e:b=a
 .rw[e,Jh]at h;simp at h
 .exact⟨e,by rw[se e]at h;exact h⟩
section
variable{K:Frag}{H:Hp}{a:Addr}{ob:Obj}{aH:List (Key×V)}
theorem Rd.less(q:H a=some (.frz ob (.dK aH)))(h:Rd H b u)(n:∀aH,u≠.dK aH)(Y:∀o v,u≠.frz o v):Rd (less H a) b u:=by
 have J:b≠a:=λ e=>by
  rw[e]at h;rcases h with h|⟨o,h⟩
  .rw[q]at h;exact Y _ _ (qi h).symm
  .rw[q]at h;cases h;exact n aH rfl
 rcases h with h|⟨o,h⟩
 .exact .inl (by rw[se J];exact h)
 .exact .inr ⟨o,by rw[se J];exact h⟩
mutual
theorem aS.less(q:H a=some (.frz ob (.dK aH))):∀(d:D){v:V},nd d=true->aS K H d v->aS K (less H a) d v
 |.non,_,_,h=>by unfold aS at h⊢;exact h
 |.bl _,_,_,h=>by unfold aS at h⊢;exact h
 |.int _,_,_,h=>by unfold aS at h⊢;exact h
 |.str _,_,_,h=>by unfold aS at h⊢;exact h
 |.tup ds,_,n,h=>by
  unfold aS at h⊢;obtain⟨b,vs,e,s,r⟩:=h;refine⟨b,vs,e,?_,aB.less q ds n r⟩;rcases s with s|s
  .exact .inl (Rd.less q s (λ _ z=>nomatch z) λ _ _ z=>nomatch z)
  .exact .inr s
 |.lst ds,_,n,h=>by
  unfold aS at h⊢;obtain⟨b,vs,e,s,r⟩:=h;refine⟨b,vs,e,?_,aB.less q ds n r⟩;rcases s with s|s
  .exact .inl (Rd.less q s (λ _ z=>nomatch z) λ _ _ z=>nomatch z)
  .exact .inr s
 |.opq,_,n,_=>by cases n
 |.dct _ _,_,n,_=>by cases n
theorem aB.less(q:H a=some (.frz ob (.dK aH))):∀(ds:List D){vs:List V},iU ds=true->aB K H ds vs->aB K (less H a) ds vs
 |[],_,_,h=>by unfold aB at h⊢;exact h
 |d::r,_,n,h=>by
  unfold iU at n;rw[zd]at n;unfold aB at h⊢;obtain⟨v,J,e,h1,h2⟩:=h;exact⟨v,J,e,aS.less q d n.1 h1,aB.less q r n.2 h2⟩
end
end
section
variable{K:Frag}{c:FC}{H0 H:Hp}{U:En}{L:L2.St}{i:Nat}{aO:List (Str×D)}
theorem RS.asData(R:RS K c H0 H U L)(hi:U[i]?=some (.ow false (.dic aO))):∃a vs,L[i]?=some (some (.ref a))/\H0 a=none/\c.He a=none/\H a=some (.dK (cY (aO.map (·.1)) vs))/\aB K H0 (aO.map (·.2)) vs/\∀ob,aD H0 (upd H0 a (.frz ob (.dK (cY (aO.map (·.1)) vs))))/\RS K c (upd H0 a (.frz ob (.dK (cY (aO.map (·.1)) vs)))) (upd H a (.frz ob (.dK (cY (aO.map (·.1)) vs)))) (U.set i (gK aO)) L:=by
 obtain⟨a,x,y,z,S,vs,e,rfl,r⟩:=R.ow i _ _ hi;have p:c.He a=none:=z;have E:i<U.length:=(List.getElem?_eq_some_iff.mp hi).1;refine⟨a,vs,x,y,p,e,r,λ ob=>?_⟩;have g:aD H0 (upd H0 a (.frz ob (.dK (cY (aO.map (·.1)) vs)))):=λ b u q=>by rw[a_ (iw q y)];exact q
 have J:∀{j:Nat}{sl:Sl},j≠i->(U.set i (gK aO))[j]?=some sl->U[j]?=some sl:=λ Z q=>by rwa [zf (zt Z)]at q
 have l:∀{sl:Sl},(U.set i (gK aO))[i]?=some sl->sl=gK aO:=λ q=>by rw[zl E]at q;exact(qi q).symm
 refine⟨g,λ b u q=>?_,R.init.trans g,λ b u q=>?_,λ b u q m=>?_,λ b m=>?_,by rw[yf];exact R.len,λ j d q=>?_,λ j b o q=>?_,λ j k C D I σ b t Y M N=>?_⟩
 .by_cases h:b=a
  .subst h;rw[bT]at q⊢;exact q
  .rw[a_ h]at q⊢;exact R.same b u q
 .by_cases h:b=a
  .subst h;exact .inr p
  .rw[a_ h]at q;exact R.fresh b u q
 .rw[a_ (iw q p)];exact R.keep b u q m
 .by_cases h:b=a
  .subst h;rw[bT];exact Option.some_ne_none _
  .rw[a_ h];exact R.apt b m
 .by_cases Z:j=i
  .subst Z;have Y:=l q;unfold gK at Y;cases Y;refine⟨.ref a,x,?_⟩;unfold aS;exact⟨a,ob,vs,rfl,bT,aB.mono g _ r,by rw[qw,qw]⟩
  .obtain⟨v,A,B⟩:=R.im j d (J Z q);exact⟨v,A,aS.mono g _ B⟩
 .by_cases Z:j=i
  .subst Z;have Y:=l q;unfold gK at Y;cases Y
  .have s:=J Z q;obtain⟨n,w,P,Q,O⟩:=R.ow j b o s;have nb:n≠a:=λ h=>Z (R.ne j i b false o _ n s hi w (by rw[h];exact x));exact⟨n,w,by rw[a_ nb];exact P,Q,O.step g λ u q=>by rw[a_ nb];exact q⟩
 .have F:j≠i:=λ h=>by subst h;have f:=l t;unfold gK at f;cases f
  have G:k≠i:=λ h=>by subst h;have f:=l Y;unfold gK at f;cases f
  exact R.ne j k C D I σ b (J F t) (J G Y) M N
theorem RS.back{aR H':Hp}{a:Addr}{vs:List V}{ob:Obj}(R:RS K c H0 H U L)(hi:U[i]?=some (.ow false (.dic aO)))(x:L[i]?=some (some (.ref a)))(y:H0 a=none)(he:c.He a=none)(r:aB K H0 (aO.map (·.2)) vs)(sm:aD (upd H0 a (.frz ob (.dK (cY (aO.map (·.1)) vs)))) aR)(Y:RS K c aR H' (U.set i (gK aO)) L)(hn:U.all iH=true):aD H0 (less aR a)/\H' a=some (.frz ob (.dK (cY (aO.map (·.1)) vs)))/\RS K c (less aR a) (upd H' a (.dK (cY (aO.map (·.1)) vs))) U L:=by
 have e:aR a=some (.frz ob (.dK (cY (aO.map (·.1)) vs))):=sm a _ bT;have g:aD H0 (less aR a):=λ b u q=>by
  have nb:b≠a:=λ h=>by rw[h,y]at q;cases q
  rw[se nb];exact sm b u (by rw[a_ nb];exact q)
 have B:∀{j:Nat}{sl:Sl},j≠i->U[j]?=some sl->(U.set i (gK aO))[j]?=some sl:=λ f q=>by rw[zf (zt f)];exact q
 have J:dG K (less aR a) (upd H' a (.dK (cY (aO.map (·.1)) vs))) a (.dic aO):=⟨_,vs,bT,rfl,aB.mono g _ r⟩;have Z:∀{b:Bool}{o:MO},U[i]?=some (.ow b o)->b=false/\o=.dic aO:=λ q=>by rw[hi]at q;cases q;exact⟨rfl,rfl⟩
 refine⟨g,Y.same a _ e,λ b u q=>by rw[a_ (zu q).1];exact Y.same b u (zu q).2,λ b u q=>?_,λ b u q=>Y.fresh b u (zu q).2,λ b u q m=>?_,λ b m=>?_,R.len,λ j d q=>?_,λ j b o q=>?_,R.ne⟩
 .exact g b u (R.init b u q)
 .rw[a_ (iw q he)];exact Y.keep b u q m
 .by_cases h:b=a
  .subst h;rw[bT];exact Option.some_ne_none _
  .rw[a_ h];exact Y.apt b m
 .obtain⟨v,z,A⟩:=R.im j d q;exact⟨v,z,aS.mono g _ A⟩
 .by_cases f:j=i
  .subst f;obtain⟨rfl,rfl⟩:=Z q;exact⟨a,x,Jh,he,J⟩
  .obtain⟨s,F,p,G,w⟩:=Y.ow j b o (B f q);have nb:s≠a:=λ h=>by rw[h,e]at p;cases p
   refine⟨s,F,by rw[se nb];exact p,G,?_⟩;have t:iH (.ow b o)=true:=List.all_eq_true.mp hn _ (ze q);cases o with
   |lst D=>obtain⟨n,k,l⟩:=w;exact⟨n,by rw[a_ nb];exact k,aB.less e D t l⟩
   |dic I=>obtain⟨C,n,k,l,E⟩:=w;exact⟨C,n,by rw[a_ nb];exact k,l,aB.less e _ t E⟩
end
section
variable{X:Cx}{pos:Pos}{e:Expr}{F G:FE}{A:FA}
theorem VY(i:Nat)(he:XE X e F):XE X e (Bz i F):=PE.wk (V3 i he) λ L H Q Y=>by
 refine bL Y λ c H0 U d g R f q=>?_;obtain⟨⟨b,aO⟩,t,f⟩:=aL f;by_cases h:b=false/\U.all iH=true
 .have Z:rR U (U.set i (gK aO)) (F (U.set i (gK aO)))=some (d,g):=by
   have J:=f
   rwa [if_pos h]at J
  obtain⟨rfl,A⟩:=h;obtain⟨⟨j,n⟩,u,Z⟩:=aL Z;by_cases hd:nd j=true/\n=U.set i (gK aO)
  .have J:=(if_pos hd).symm.trans Z;have s:some (j,U)=some (d,g):=J;cases s;obtain⟨o,rfl⟩:=hd;have z:=mY t;obtain⟨a,D,x,y,w,e4,r,m⟩:=R.asData z;refine bE a _ x e4 λ ob=>⟨c,_,_,d,_,(m ob).2,u,λ v aR H' k l B=>?_⟩
   obtain⟨C,p,R2⟩:=R.back z x y w r k l A;exact⟨p,q v _ _ C R2 (aS.less (k a _ bT) d o B)⟩
  .have J:=(if_neg hd).symm.trans Z;simp at J
 .have J:=f;rw[if_neg h]at J;simp at J
end
section
variable{K:Frag}
theorem Vi(R:RS K c H1 Hh U L)(Z:vC K H1 Hh (.dic aO) a cG H'):∃vs,H' a=some (.dK (cY (aO.map (·.1)) vs))/\∀ob,∃H2,aD H1 H2/\RS K c H2 (upd H' a (.frz ob (.dK (cY (aO.map (·.1)) vs)))) U L/\aS K H2 (.dct (aO.map (·.1)) (aO.map (·.2))) (.ref a):=by
 obtain⟨J,s',s,fr,d,Y,f,vs,e,rfl,r⟩:=Z;refine⟨vs,e,λ ob=>?_⟩;have m:aD cG (upd cG a (.frz ob (.dK (cY (aO.map (·.1)) vs)))):=λ b u q=>by rw[a_ (iw q d)];exact q
 refine cN _ (J.trans m) (R.after ⟨J.trans m,λ b u q=>by rw[a_ (iw q Y)];exact s b u q,λ b u q=>?_,λ b u q=>?_⟩) ?_
 .by_cases h:b=a
  .subst h;rw[bT]at q⊢;exact q
  .rw[a_ h]at q⊢;exact s' b u q
 .by_cases h:b=a
  .subst h;exact .inr Y
  .rw[a_ h]at q;exact fr b u q
 .exact⟨a,ob,vs,rfl,bT,aB.mono m _ r,by rw[qw,qw]⟩
end
section
variable{X:Cx}{pos:Pos}{e:Expr}{F G:FE}{A:FA}
theorem VA(h:vh m=some d):∃aO,m=.dic aO/\d=.dct (aO.map (·.1)) (aO.map (·.2)):=by
 cases m with
 |dic aO=>obtain rfl:=br h;exact⟨aO,rfl,rfl⟩
 |lst a=>cases h
theorem WC(N:iY X.prog X.w X.K X.mg X.base k x g)(hr:bJ k X.A)(ha:XA X (e::es) A)(hg:Gl X x:=by rfl)(Z:cH x:=by decide)(he:starEach (e::es) X.env=(false,eval e X.env)::starEach es X.env:=by rfl)(Y:(backTo pos (starEach es X.env)).any (·.1)=false:=by rfl):XE X (.Call (.Name x p) (e::es) [] pos) (BU g A):=by
 refine fA N.ex λ f fd ps i r s t=>?_;refine PE.wk (V2 (rg i hr hg t s r .nil oX ha Z he Y)) λ L H Q J=>?_;refine bL J λ c H0 U d G R z q=>?_;obtain⟨⟨h,I⟩,l,z⟩:=aL z;obtain⟨m,n,z⟩:=aL z;obtain⟨σ,o,z⟩:=aL z;have F:=z;cases F;obtain⟨aO,rfl,rfl⟩:=VA o;refine bA c H0 U h _ R l λ M H1 Hh E b D=>⟨H1,h,_,b.same,by rw[zx];exact D,n,λ a cG H' C=>?_⟩
 obtain⟨O,e0,B⟩:=Vi b C;refine bE a _ rfl e0 λ ob=>?_;refine aW (B ob) λ j u v y=>?_;exact q _ j _ (E.trans u) v y
theorem CQ(hu:X.A.units+1<cLine)(ho:XE X o F)(hk:XE X k G)(hs:sh k:=by exact λ _ _=>rfl):XE X (.Subscript o k pos) (e2 pO F G):=
 PE.wk (vj hu ho hk hs) λ L H Q J=>by
  refine bL J λ c H0 U d e R f q=>?_;refine d7 (yU f) λ x Y y r s b=>?_;unfold pO at b;split at b
  .rename_i ks ds k;refine bA c H0 U _ Y R r λ v1 H1 Hh z j u=>⟨c,H1,Y,_,e,j,s,λ v2 g cJ h R2 w=>?_⟩
   have Z:=aS.mono h _ u;obtain⟨a,o,C,rfl,m,t,l⟩:=Z;have rd:Rd g a (.dK ((ks.map Sum.inr).zip C)):=.inr ⟨o,m⟩;subst w;have n:(ks.zip ds).map (·.1)=ks:=Qt (by lia);have p:(ks.zip ds).map (·.2)=ds:=Jd (by lia);obtain⟨v,i,B⟩:=pb (by rw[p];exact t) b;rw[n]at i;exact bE a v rfl (.inl ⟨_,.inr k,aD.rd R2.same rd,rfl,i.symm⟩) (q v g cJ (z.trans h) R2 B)
  .simp at b
end
end Fx
namespace Fx
open PySem PySem.Spec PyProof.Rows
theorem Dm:∀{x:Str}{l:List Str},risingS x l=true->(x::l).Pairwise λ a b=>f_ b a=false
 |x,[],_=>List.pairwise_singleton _ _
 |x,y::r,h=>by
  have h':(!ltCps y.cps.toList x.cps.toList&&risingS y r)=true:=h;rw[zd]at h';have Z:=Dm h'.2;have J:f_ y x=false:=by have:=h'.1;rw[ltCps_eq]at this;simpa [f_]using this
  refine List.pairwise_cons.mpr ⟨λ z c=>?_,Z⟩;rcases qt c with rfl|q
  .exact J
  .have Y:=(List.pairwise_cons.mp Z).1 z q;unfold f_ at J Y⊢;grind
theorem E5:∀{l:List Str},(l.Pairwise λ a b=>f_ b a=false)->(l8 x l).Pairwise λ a b=>f_ b a=false
 |[],_=>List.pairwise_singleton _ _
 |y::r,h=>by
  unfold l8;obtain⟨d,e⟩:=List.pairwise_cons.mp h;by_cases q:f_ y x=true
  .rw[if_pos q];refine List.pairwise_cons.mpr ⟨λ z c=>?_,E5 e⟩;rcases mem_insS.mp c with rfl|c
   .grind[f_]
   .exact d z c
  .rw[if_neg q];have q:f_ y x=false:=by simpa using q
   refine List.pairwise_cons.mpr ⟨λ z c=>?_,h⟩;rcases qt c with rfl|c
   .exact q
   .grind[f_]
theorem n5:∀l:List Str,(dy l).Pairwise λ a b=>f_ b a=false
 |[]=>Ja
 |x::r=>E5 (n5 r)
theorem gZ{x:Str}:∀{l:List Str},(l8 x l).Perm (x::l)
 |[]=>jl _
 |y::r=>by
  unfold l8;split
  .exact((gZ (l:=r)).cons y).trans (List.Perm.swap x y r)
  .exact jl _
theorem gJ:∀l:List Str,(dy l).Perm l
 |[]=>jl _
 |x::r=>by exact gZ.trans ((gJ r).cons x)
theorem Dp(J:t.Perm l)(Y:sortedS t=true):t=dy l:=by
 have c:t.Pairwise λ a b=>f_ b a=false:=by
  cases t with
  |nil=>exact Ja
  |cons x r=>exact Dm Y
 refine Z1 (λ a b _ _ p q=>?_) c (n5 l) (J.trans (gJ l).symm);unfold f_ at p q;rw[Z6]at p q;have:=Je (List.not_lt.mp p) (List.not_lt.mp q);obtain⟨⟨d⟩⟩:=a;obtain⟨⟨Z⟩⟩:=b;subst this;rfl
section
variable{prog:Program}{w:World}{A:Around}{E:Value->Shared->Prop}{s:Shared}
theorem Ov(hT:T="list"∨T="tuple")(ho:s.heap.get? it=some ob)(hc:ob.cls=.type T)(hd:ob.data=.seq us.toArray n)(J:StrsAre us ss)(Y:us.length<64)(k:∀(h1 h2:Heap)(out:Array Value)(e:Nat),(∀b o',s.heap.get? b=some o'→h1.get? b=some o')→(∀b o',h1.get? b=some o'→h2.get? b=some o')→h2.get? h1.objs.size=some (seqObj "list" out e)→StrsAre out.toList (dy ss)→Q (.ref h1.objs.size) {s with heap:=h2}):wpAny (model prog w) A (call (.builtin "sorted") [.ref it]) Q E s:=by
 refine Calls.call_function_entry kind_sorted plain_sorted entry_sorted (args_sorted1 _) ?_;refine qb (qc ?_);have g:us.toArray.size<=sizeLine:=by rw[zg,jy];lia
 refine qb (wpAny_collect_seq it hT ho hc hd (λ h1 h=>?_) g);refine qb (wpAny_newList ?_);have q:(h1.push (seqObj "list" us.toArray 0)).get? h1.objs.size=some (seqObj "list" us.toArray 0):=qk _ rfl;refine qb (z0 (jv slot_list_sort ⟨_,q,rfl⟩ entry_list_sort (list_sort_treeK strKind_oneLt q J.keysOf (λ v1 v2 r e=>keyKind_strs (by rw[<-e];exact J)) Y λ st d f=>⟨_,rfl,?_⟩) (args_list_sort _)));refine aW (sorted_out_str J d f) λ l Z i j=>?_;obtain⟨e,c⟩:=sortedHeap_at q;rw[Dp i j]at Z;refine qc ⟨_,rfl,k h1 _ _ e h (λ b o' a=>?_) c Z⟩;have lt:=qm a;rw[sortedHeap_old (Q7 lt) (by rw[size_push'];exact Y7 lt)];exact qd _ a
end
end Fx
namespace Fx
open PySem
theorem Lo:typeLookup (.type "tuple") "keys"=pure none:=by rw[typeLookup_type,Yl];kernel_rfl
set_option maxHeartbeats 4000000 in
theorem OJ{prog:Program}{w:World}{A:Around}{E:Value->Shared->Prop}{s:Shared}{a:Addr}{ob:Obj}{us:Array Value}{n:Nat}{Q:Option Value->Shared->Prop}(ho:s.heap.get? a=some ob)(hc:ob.cls=.type "tuple")(J:ob.data=.seq us n)(Y:ob.dict=none)(hh:A.handled=none)(k:∀h' tk e,Heap.NewExcOf s.heap h' e "AttributeError"→Q none {s with heap:=h',toks:=tk}):wpAny (model prog w) A (getAttr? (.ref a) "keys") Q E s:=by
 obtain⟨oc,od,ac,Z⟩:=ob;simp only at hc J Y;subst hc J Y;obtain⟨hp,gg,dd,tk,os⟩:=s;have ty:∀q,(⟨hp,gg,dd,q,os⟩:Shared).TypeIs (.ref a) "tuple":=λ _=>⟨_,ho,rfl⟩
 have e1:=sub_AttributeError;have e3:=F.slot_tuple_getattribute.lookup;have e4:=F.slot_tuple_getattribute.bind (.ref a);have e5:=am_tuple_getattr_none;unfold getAttr? getAttrBy? getAttrBy
 repeat (any_goals (first|assumption|exact ty _|((with_reducible show wpAny _ _ (call (Value.builtin "tuple.__getattribute__") _ _) _ _ _);refine call_meets F.slot_tuple_getattribute (ty _) am_entry_tuple_getattribute (F.args_tuple_getattribute_2 _ _) (meets_getattribute_miss_tuple a us n Z "keys" _ Lo (by decide) (by decide)) ⟨ho,hh,λ h' q e hx=>?_⟩)|wp_step))
 obtain⟨t1,u1,he⟩:=hx.there;have tx:∀aa,(⟨h',gg,dd,aa,os⟩:Shared).TypeIs (.ref e) "AttributeError":=λ _=>⟨_,he,rfl⟩
 show wpAny _ _ (getattributeRaised _ _ _ _ _ _ _) _ _ _;unfold getattributeRaised
 repeat (any_goals (first|assumption|exact tx _|wp_step))
 all_goals exact k _ _ _ hx.of
theorem KQ:entryFor table "dict.update.loop"=some Builtin.«dict.update.loop»:=entryFor_of_tree (by kernel_rfl)
theorem wa:plainId "dict.update.loop"=true:=by decide+kernel
section
variable{prog:Program}{w:World}{K:Type}[DecidableEq K]{knd:KeyKind prog w K}{A:Around}{E:Value->Shared->Prop}{s:Shared}
inductive dW(knd:KeyKind prog w K)(h:Heap):List Value->List (K×Value)->Prop
 |nil:dW knd h [] []
 |cons {p:Addr}{u v:Value}{k:K}{us:List Value}{aH:List (K×Value)} (a:h.IsTuple p #[u,v]) (b:knd.is k u=true) (r:dW knd h us aH):dW knd h (.ref p::us) ((k,v)::aH)
theorem MS{hI:Heap}{d it t:Addr}{all:List Value}{R:Result->Shared->Prop}(ap:hI.get? d=none)(ah:hI.get? it=none)(aa:d≠it)(tu:hI.IsTuple t all.toArray)(hh:A.handled=none):∀(us:List Value)(aY J:List (K×Value))(s:Shared)(i:Nat)(tk:Tok),all.drop i=us->dW knd hI us J->(∀b o,hI.get? b=some o->s.heap.get? b=some o)->s.heap.IsTupleIter it t i->s.heap.DictOf knd d aY->aY.length+J.length<=sizeLine->(∀h' ac,(∀b o,hI.get? b=some o->h'.get? b=some o)->h'.DictOf knd d (merged aY J)->R (.ok (.ret .none)) {s with heap:=h',toks:=ac})->codeAny (model prog w) A (.builtin "dict.update.loop" ⟨[.ref d,.ref it,.int i tk,.none],[]⟩) R s:=by
 intro us;induction us with
 |nil=>
  intro aY J s i tk e ps f m h v q;cases ps;refine jo KQ ?_;rw[je wa _];show wpAny _ A.in1 (pyNext (.ref it) >>= _) _ _ s;have j:s.heap.IsTuple t all.toArray:=by obtain⟨o,c,r⟩:=tu;exact⟨o,f _ _ c,r⟩
  have hx:all.toArray[i]?=none:=by
   have:all[i]?=none:=by
    have l:all.length<=i:=by simpa using e
    exact jm l
   simpa using this
  refine qb (Yc hh m j hx λ h' D=>?_);show wpAny _ _ (Builtin.Dict.addKeywords d [] >>= _) _ _ _;refine qb (qc (qc ?_));exact q h' s.toks (λ b o Y=>D b o (λ z=>by rw[z,ah]at Y;cases Y) (f _ _ Y)) (h.extBut D aa)
 |cons u us W=>
  intro aY J s i tk e ps f m h v q;cases ps with
  |@cons p F g k _ aH a b r=>
   refine jo KQ ?_;rw[je wa _];show wpAny _ A.in1 (pyNext (.ref it) >>= _) _ _ s;have j:s.heap.IsTuple t all.toArray:=by obtain⟨o,c,r⟩:=tu;exact⟨o,f _ _ c,r⟩
   have M:all[i]?=some (.ref p):=by have:=Z8 (λ l=>l[0]?) e;simpa using this
   have hx:all.toArray[i]?=some (.ref p):=by simpa using M
   refine qb (Z4 m j hx λ E G C=>?_);have B:∀b o,hI.get? b=some o->E.get? b=some o:=λ b o Y=>(C.2 b (λ z=>by rw[z,ah]at Y;cases Y)).trans (f _ _ Y);have σ:E.DictOf knd d aY:=by obtain⟨o,es,V,c,x⟩:=h;exact⟨o,es,V,(C.2 d aa).trans c,x⟩
   obtain⟨X,I,P,on,N⟩:=a;have Z:=B _ _ I;refine qb (z0 (qb (wpAny_tryCatch ?_)));unfold Builtin.Dict.pairItems;refine qb (Zn (T:="tuple") ⟨X,Z,P⟩ ?_);rw[if_pos (by decide)];refine qb (wpAny_seqItems Z N ?_);refine qc ?_;show wpAny _ _ (holding [F,g] (dictSet d F g)) _ _ _;refine z0 (wpAny_dictSet_pairs b σ (λ n hd2 y=>?_) (by simp only[zh]at v;lia));refine qc ⟨Qz wa _,?_⟩;have O:∀b o,hI.get? b=some o->n.get? b=some o:=λ b o Y=>(y.2 b (λ z=>by rw[z,ap]at Y;cases Y)).trans (B _ _ Y);have H:n.IsTupleIter it t (i+1):=by obtain⟨o,c,x⟩:=G;exact⟨o,(y.2 it (zt aa)).trans c,x⟩
   have ρ:(stored aY k g).length+aH.length<=sizeLine:=by
    have:(stored aY k g).length<=aY.length+1:=by
     unfold stored;split
     .rw[qw];lia
     .rw[zi];exact qj _
    simp only[zh]at v;lia
   have:=W (stored aY k g) aH {s with heap:=n,toks:=s.toks+1} (i+1) 0 (by rw[<-List.drop_drop,e];rfl) r O H hd2 ρ (λ h' ac Q S=>q h' ac Q S);exact this
theorem GH{t:Addr}{ob:Obj}{n:Nat}{all:List Value}{aH:List (K×Value)}{Q:Value→Shared→Prop}(ho:s.heap.get? t=some ob)(hc:ob.cls=.type "tuple")(Y:ob.data=.seq all.toArray n)(af:ob.dict=none)(hh:A.handled=none)(ps:dW knd s.heap all aH)(nd:(aH.map (·.1)).Nodup)(hz:aH.length<=sizeLine)(q:∀h' tk,(∀b o,s.heap.get? b=some o->h'.get? b=some o)->h'.DictOf knd s.heap.objs.size aH->Q (.ref s.heap.objs.size) {s with heap:=h',toks:=tk}):wpAny (model prog w) A (call (.type "dict") [.ref t]) Q E s:=by
 refine callType_codes (Q₁:=λ z j=>z=.ref s.heap.objs.size∧j={s with heap:=s.heap.push {cls:=.type "dict",data:=.dict #[]}}) F.kt_called_dict (F.kt_typeCall_dict_1 _) F.entry_dict_init (kt_code_dict_new _ ⟨rfl,rfl⟩) ?_;rintro z j ⟨rfl,rfl⟩;have dn:(s.heap.push {cls:=.type "dict",data:=.dict #[]}).DictOf knd s.heap.objs.size []:=Heap.DictOf.new s.heap;have J:(s.heap.push {cls:=.type "dict",data:=.dict #[]}).get? t=some ob:=qd _ ho;refine⟨dn.typeIs,F.args_dict_init_2 _ _,?_⟩;unfold Builtin.«dict.__init__»;refine qb ?_;unfold Builtin.Dict.selfAndRest;refine qb (wpAny_notOrdered_dict dn.typeIs (qc ?_));show wpAny _ _ (Builtin.Dict.updateFrom "dict.__init__" s.heap.objs.size (.ref t) [] .none) _ _ _;unfold Builtin.Dict.updateFrom;refine qb (Zn (T:="tuple") ⟨ob,J,hc⟩ ?_);rw[if_pos (by decide)];refine qb (OJ (A:=A.in1.in1) J hc Y af hh λ a tk e hx=>?_);rw[if_pos (show(none:Option Value).isNone=true from rfl)];have m:a.get? t=some ob:=hx.keeps _ _ J;have Z:a.DictOf knd s.heap.objs.size []:=by obtain⟨o,es,h,c,i⟩:=dn;exact⟨o,es,h,hx.keeps _ _ c,i⟩
 have f:∀b o,s.heap.get? b=some o->a.get? b=some o:=λ b o d=>hx.keeps _ _ (qd _ d);refine qb (wpAny_rule (qb (wpAny_pyIter_tuple (items:=all.toArray) ⟨ob,m,hc,n,Y⟩ ?_)));refine qc ⟨Qz wa _,?_⟩;have r:s.heap.get? s.heap.objs.size=none:=by
  cases z:s.heap.get? s.heap.objs.size with
  |none=>rfl
  |some o=>exact absurd (qm z) (ja _)
 have l:s.heap.objs.size<a.objs.size:=by obtain⟨o,es,h,c,i⟩:=Z;exact qm c
 have u:s.heap.get? a.objs.size=none:=by
  cases z:s.heap.get? a.objs.size with
  |none=>rfl
  |some o=>exact absurd (qm (f _ _ z)) (ja _)
 refine MS (A:=A.in1) (knd:=knd) (all:=all) (hI:=s.heap) (t:=t) r u (qr l) ⟨ob,ho,hc,n,Y⟩ hh all [] aH {s with heap:=a.push {cls:=.type "tuple_iterator",data:=.fields #[.ref t,.int 0 0]},toks:=tk} 0 0 rfl ps
  (λ b o d=>qd _ (f _ _ d)) ⟨_,qk _ rfl,rfl,rfl⟩ (Z.push _) (by rw[yx,Y4];exact hz) λ h' k p g=>?_
 rw[merged_nil_of_nodup aH nd]at g;exact⟨rfl,q h' k p g⟩
end
open PySem.Spec PyProof.Rows L2
def k_(K:Frag)(d:D)(u:Value):Prop:=∃v,aU v u/\∀H,aS K H d v
def uu(K:Frag)(ds:List D)(us:List Value):Prop:=∃vs,aQ vs us/\∀H,aB K H ds vs
section
variable{K:Frag}
theorem E2:k_ K .non .none:=⟨.non,rfl,λ H=>by rfl⟩
theorem E3:k_ K (.int i) (.int i t):=⟨.int i,⟨t,rfl⟩,λ H=>fw H i⟩
theorem ky:k_ K (.str x) (.str x t):=⟨.str x,⟨t,rfl⟩,λ H=>qQ H x⟩
theorem uA:uu K [] []:=⟨[],.nil,λ H=>aB.nil_⟩
theorem h6(a:k_ K d u)(b:uu K ds us):uu K (d::ds) (u::us):=by obtain⟨v,r,p⟩:=a;obtain⟨c,q,ps⟩:=b;exact⟨v::c,.cons r q,λ H=>aB.cons (p H) (ps H)⟩
theorem vd(l:K.lookup a=some ⟨.type "tuple",none,.seq us.toArray n,q⟩)(hz:us.length≤1000)(h:uu K ds us):k_ K (.tup ds) (.ref a):=by
 obtain⟨b,J,ps⟩:=h;refine⟨.ref a,rfl,λ H=>?_⟩;refine bE a b rfl (.inr ⟨_,us.toArray,n,l,rfl,rfl,rfl,?_,?_⟩) (ps H)
 .rw[zg];exact Zq (wW hz)
 .exact J
end
theorem xq:∀{xs:List D}{ss:List Str},mZ xs=some ss->xs=ss.map .str
 |[],ss,h=>by obtain rfl:=br h;rfl
 |.str x::r,ss,h=>by
  rw[DM]at h;obtain⟨t,e,f⟩:=aL h;obtain rfl:=br f;rw[xq e];rfl
 |.non::_,_,h=>by cases h
 |.bl _::_,_,h=>by cases h
 |.int _::_,_,h=>by cases h
 |.tup _::_,_,h=>by cases h
 |.lst _::_,_,h=>by cases h
theorem wI{K:Frag}:∀ss:List Str,aB K H (ss.map D.str) (ss.map V.str)
 |[]=>aB.nil_
 |x::r=>aB.cons (qQ H x) (wI r)
theorem v_{K:Frag}:∀{ss:List Str}{vs:List V},aB K H (ss.map D.str) vs->vs=ss.map V.str:=by intro a;induction a<;>grind[aB,aS]
theorem CV:∀{ss:List Str}{us:List Value},aQ (ss.map V.str) us->StrsAre us ss
 |[],us,h=>by rw[yg]at h;cases h;exact .nil
 |x::r,us,h=>by
  rw[qx]at h;cases h with
  |cons a b=>obtain⟨t,rfl⟩:=a;exact .cons x t (CV b)
theorem Cu:∀{us:List Value}{ss:List Str},StrsAre us ss->aQ (ss.map V.str) us
 |_,_,.nil=>.nil
 |_,_,.cons x t h=>.cons ⟨t,rfl⟩ (Cu h)
section
variable{X:Cx}
theorem K8:bQ X (.builtin "sorted") (λ xs H Q=>∃p ss,xs=[.ref p]∧(c7 X.K H p (ss.map V.str)∨dH X.K H p (ss.map V.str))∧ss.length<64∧∀l,H l=none→Q (.ref l) (upd H l (.lst ((dy ss).map V.str)))):=by
 intro aA s L H xs us Q I r h;obtain⟨p,ss,rfl,Z,y,q⟩:=h;obtain⟨u,rfl,v⟩:=h8 r;subst v;have fin:∀(J:List Value)(T:String)(ob:Obj)(n:Nat),(T="list"∨T="tuple")→s.heap.get? p=some ob→ob.cls=.type T→ob.data=.seq J.toArray n→aQ (ss.map V.str) J→wpAny (model X.prog X.w) X.A (call (.builtin "sorted") [.ref p]) (EP X aA L Q) X.xe s:=λ J T ob n i m j hd Y=>by
  have k:=Y.length;rw[qw]at k;refine Ov i m j hd (CV Y) (by lia) λ a b d e k1 k2 g x=>?_;have f:=I.kept (t':=s.toks) k1;have t:((dy ss).map V.str).length<=sizeLine:=by rw[qw,(gJ ss).length_eq,jy];lia
  refine⟨.ref a.objs.size,_,f.laid (o:=.lst ((dy ss).map V.str)) k2 (qj _) ⟨t,d.toList,e,Cu x,?_⟩,rfl,q _ (f.hok.fresh (qj _))⟩;rw[g]
 rcases Z with Z|Z
 .obtain⟨J,Y,⟨ob,n,a,b,z,c⟩,_⟩:=I.list Z;exact fin J "list" ob n (.inl rfl) a b c Y
 .obtain⟨J,Y,⟨ob,a,b,n,c⟩,_⟩:=I.tuple Z;exact fin J "tuple" ob n (.inr rfl) a b c Y
theorem DO(h:k8 xs=some d):∃ss:List Str,xs=ss.map .str/\ss.length<64/\d=.lst ((dy ss).map .str):=by obtain⟨ss,e,f⟩:=aL h;obtain⟨l,rfl⟩:=bU f;exact⟨ss,xq e,l,rfl⟩
theorem Lm:jF X (.builtin "sorted") mQ:=⟨_,K8,λ c H0 H U L b d f Q R r e q=>by
 unfold mQ at e;split at e
 .obtain⟨ss,rfl,J,rfl⟩:=DO e;obtain⟨v,rfl,Y⟩:=aB.v1 r;obtain⟨p,a,rfl,s,t⟩:=Y;rw[v_ t]at s;refine ig p ss rfl (.inr (aD.seqT R.same s)) J λ l Z=>?_;have S:=bR.alloc (o:=.lst ((dy ss).map V.str)) R.same Z;refine q _ _ _ S.s0 (R.after S) ?_;exact bE l _ rfl (.inl (.inl bT)) (wI _)
 .obtain⟨ss,rfl,J,rfl⟩:=DO e;obtain⟨v,rfl,Y⟩:=aB.v1 r;obtain⟨p,a,rfl,s,t⟩:=Y;rw[v_ t]at s;refine ig p ss rfl (.inl (aD.seq R.same s)) J λ l Z=>?_;have S:=bR.alloc (o:=.lst ((dy ss).map V.str)) R.same Z;refine q _ _ _ S.s0 (R.after S) ?_;exact bE l _ rfl (.inl (.inl bT)) (wI _)
 .simp at e⟩
end
inductive PV(K:Frag)(H:Hp):List V->List (Key×V)->Prop
 |nil:PV K H [] []
 |cons {a:Addr}{k:Str}{v:V}{vs:List V}{aH:List (Key×V)} (p:dH K H a [.str k,v]) (r:PV K H vs aH):PV K H (.ref a::vs) ((.inr k,v)::aH)
theorem EN{K:Frag}:∀{vs:List V}{aH:List (Key×V)},PV K H vs aH->aH.length=vs.length:=by intro b c a;induction a<;>grind
section
variable{X:Cx}
theorem z_(I:aI X aA L H s):∀{vs:List V}{aH:List (Key×V)}{us:List Value},PV X.K H vs aH->aQ vs us->∃q:List (Key×Value),dW (fm X.prog X.w) s.heap us q/\KV aH q
 |_,_,us,.nil,h=>by cases h;exact⟨[],.nil,.nil⟩
 |_,_,us,.cons (a:=a) (k:=k) p r,h=>by
  cases h with
  |@cons x u xs l b c=>
   subst b;obtain⟨q,Y,d⟩:=z_ I r c;refine aW (I.tuple p) λ Z g i _=>?_;obtain⟨j,J,rfl,e,f⟩:=uR g;exact⟨(.inr k,J)::q,.cons (show s.heap.IsTuple a #[j,J]from i) (m9 e) Y,.cons ⟨rfl,f⟩ d⟩
theorem Aq:∀{aH:List (Key×V)}{q:List (Key×Value)},KV aH q->q.map (·.1)=aH.map (·.1)
 |_,_,.nil=>rfl
 |_,_,.cons h t=>by rw[qx,qx,h.1,Aq t]
theorem E1:∀{aH:List (Key×V)}{q:List (Key×Value)},KV aH q->q.length=aH.length:=by intro b c a;induction a<;>grind
theorem O6(hc:X.calm=true):bQ X (.type "dict") (λ xs H Q=>∃p J aH,xs=[.ref p]∧dH X.K H p J∧PV X.K H J aH∧(aH.map (·.1)).Nodup∧∀l,H l=none→Q (.ref l) (upd H l (.dK aH))):=by
 intro aA s L H xs us Q I r h;obtain⟨p,J,aH,rfl,e,pv,nd,q⟩:=h;obtain⟨u,rfl,j⟩:=h8 r;subst j;obtain⟨m,k,⟨ob,a,b,⟨n,c⟩,d⟩,f⟩:=I.tupleN e;obtain⟨o,i,Y⟩:=z_ I pv k;have Z:aH.length<=sizeLine:=by rw[EN pv];exact f
 refine GH a b c d (I.ok.hd hc) i (by rw[Aq Y];exact nd) (by rw[E1 Y];exact Z) λ h' t g dd=>?_;exact⟨.ref s.heap.objs.size,_,I.laid g (qj _) (uO Z (beq_eq_false_iff_ne.mpr (zt (qr I.big))) Y dd),rfl,q _ (I.hok.fresh (qj _))⟩
end
theorem RS.unfence{K:Frag}(R:RS K c H0 H U L)(hp:H p=none)(J:RS K ⟨H0,upd H p u,[]⟩ aR H' ρ' Y):RS K c aR H' ρ' Y:=by
 have up:∀b o,H b=some o->upd H p u b=some o:=λ b o e=>by
  rw[a_ (λ z=>by grind)];exact e
 have dn:∀b,upd H p u b=none->c.He b=none:=λ b e=>by
  cases q:c.He b with
  |none=>rfl
  |some o=>
   by_cases Z:b∈c.Ap
   .cases z:H b with
    |none=>exact absurd z (R.apt b Z)
    |some f=>rw[up b f z]at e;simp at e
   .rw[up b o (R.keep b o q Z)]at e;simp at e
 refine⟨J.same,R.init.trans J.init,λ b o e=>?_,λ b o e n=>J.keep b o (up b o (R.keep b o e n)) (by simp),λ a d e=>?_,J.len,J.im,λ i b o e=>?_,J.ne⟩
 .rcases J.fresh b o e with h|h
  .exact R.fresh b o h
  .grind
 .cases z:H a with
  |none=>exact R.apt a d z
  |some o=>rw[J.keep a o (up a o z) (by simp)]at e;simp at e
 .refine dE (J.ow i b o e) λ a x y z w=>?_;refine gj a x y ?_ w;grind
theorem et:∀{xs:List D}{aH:List (Str×D)},kZ xs=some aH->xs=aH.map λ q=>.tup [.str q.1,q.2]
 |[],aH,h=>by obtain rfl:=br h;rfl
 |x::r,aH,h=>by
  unfold kZ at h;split at h
  .rename_i J;simp at J
  .rename_i k v Y J;cases J;obtain⟨t,e,f⟩:=aL h;obtain rfl:=br f;rw[et e];rfl
  .simp at h
theorem A6{K:Frag}(s:aD H0 H):∀{aH:List (Str×D)}{J:List V},aB K H0 (aH.map λ q=>.tup [.str q.1,q.2]) J->∃vs,PV K H J (cY (aH.map (·.1)) vs)/\aB K H0 (aH.map (·.2)) vs
 |[],J,h=>by
  rw[yg]at h;subst h;exact⟨[],.nil,aB.nil_⟩
 |q::r,J,h=>by
  rw[qx]at h;obtain⟨v,t,rfl,a,b⟩:=h;obtain⟨vs,c,d⟩:=A6 s b;obtain⟨g,us,rfl,Y,Z⟩:=a;obtain⟨v1,v2,rfl,e,f⟩:=aB.v2 Z;subst e;exact⟨v2::vs,.cons (aD.seqT s Y) c,aB.cons f d⟩
theorem zT:∀{aO:List (Str×D)}{vs:List V},aO.length=vs.length->cy k aO=none->fC (cY (aO.map (·.1)) vs) (.inr k)=none
 |[],vs,_,_=>rfl
 |q::r,[],l,_=>by cases l
 |q::r,v::vs,l,h=>by
  unfold cy at h;by_cases J:q.1=k
  .grind
  .rw[if_neg J]at h;rw[qx,tO,tP λ z=>J (Zv z)];exact zT (Nat.succ.inj l) h
section
variable{X:Cx}
theorem V0(hm:X.mg "dict"=none)(hu:X.A.units+1<cLine)(he:XE X a E)(hk:XE X b Kf)(hd:XE X e Df)(hc:X.calm=true:=by rfl)(hg:Gl X "dict":=by rfl)(h1:starEach [a] X.env=[(false,eval a X.env)]:=by rfl)(m:M2 X (.Call (.Name "dict" p) [a] [] Y) "get" apos b e cpos:=by exact⟨rfl,rfl,rfl,rfl⟩):XE X (.Call (.Attribute (.Call (.Name "dict" p) [a] [] Y) "get" apos) [b,e] [] cpos) (BA E Kf Df):=
 PE.wk (Ve hu (qK (O6 hc) hg hm PyProof.Rows.boot_dict (d3 he fb h1) (by decide) (by decide) h1 rfl) hk hd m) λ L H Q σ=>by
  refine bL σ λ c H0 U d ρ' R f q=>?_;obtain⟨⟨n,J⟩,P,f⟩:=aL f;obtain⟨xs,o,f⟩:=aL f;by_cases no:J.all gG=true
  .have f:=f;rw[if_pos no]at f;obtain⟨⟨w,j⟩,S,f⟩:=aL f;obtain⟨⟨dd,af⟩,T,f⟩:=aL f;obtain⟨d',Z,f⟩:=aL f;have O:=f;cases O;have e1:n=.tup xs:=by
    cases n with
    |tup ys=>obtain rfl:=br o;rfl
    |_=>cases o
   subst e1;obtain⟨aH,ρ,Z⟩:=aL Z;obtain⟨k,r,Z⟩:=aL Z;obtain⟨⟨_,nd⟩,rfl⟩:=bU Z;have e2:w=.str k:=by
    cases w with
    |str z=>obtain rfl:=br r;rfl
    |_=>cases r
   subst e2;cases et ρ;refine bA c H0 U ([.tup (aH.map λ q=>.tup [.str q.1,q.2])]) J R ?_ λ vs H1 Hh s1 g r1=>?_
   .unfold aC;rw[P];rfl
   obtain⟨v,rfl,rv⟩:=aB.v1 r1;obtain⟨M,ws,rfl,sq,t⟩:=rv;obtain⟨vv,p1,C⟩:=A6 g.same t;have B:=C.length;rw[qw]at B;have V:(cY (aH.map (·.1)) vv).map (·.1)=(aH.map (·.1)).map Sum.inr:=by unfold cY;rw[Qt (by rw[qw,qw];lia)]
   have N:((cY (aH.map (·.1)) vv).map (·.1)).Nodup:=by rw[V];exact List.Pairwise.map _ (λ x y h z=>h (Zv z)) nd
   refine⟨M,ws,_,rfl,aD.seqT g.same sq,p1,N,λ l s=>?_⟩;refine cN l rfl (.inl ⟨_,.inl bT⟩) ?_;have K:=g.fence (u:=.dK (cY (aH.map (·.1)) vv)) no s;refine bA _ H1 J _ j K S λ y G cJ D R2 r2=>?_;refine bA _ G j dd _ R2 T λ z I dC F i r3=>?_;subst r2;have W:=i.keep l _ bT (by simp);refine⟨_,d4.k (k:=.inr k) W,q _ I dC (s1.trans (D.trans F)) (g.unfence s i) ?_⟩;cases hk:cy k aH with
   |none=>
    rw[zT (by rw[<-B]) hk];exact r3
   |some dv=>
    obtain⟨v',w1,w2⟩:=pb C hk;rw[w1];exact aS.mono (D.trans F) _ w2
  .have f:=f;rw[if_neg no]at f;simp at f
theorem uQ(h:∃a,X.mg x=some (.ref a)∧k_ X.K d (.ref a))(Z:Gl X x:=by rfl)(hd:cH x:=by decide):XE X (.Name x pos) (eC d):=by
 obtain⟨a,h,v,b,Y⟩:=h;exact PE.wk (Oc Z h b hd) λ L H Q J=>by
  refine bL J λ c H0 U d e R f q=>?_;obtain⟨rfl,rfl⟩:=rL f;exact q _ H0 H (aD.refl _) R (Y H0)
end
end Fx
namespace Fx
open PySem
noncomputable def mn:D->Option (List Str×List D)
 |.dct q vs=>some (q,vs)
 |_=>none
@[simp] theorem Xw(q:List Str)(vs:List D):mn (.dct q vs)=some (q,vs):=yI rfl
def m_:List D->Option D
 |[.tup xs]=>aF (kZ xs) λ aH=>if aH.length<=1000/\(aH.map (·.1)).Nodup then some (.dct (aH.map (·.1)) (aH.map (·.2)))else none
 |_=>none
theorem SD(xs:List D):m_ [.tup xs]=aF (kZ xs) λ aH=>if aH.length<=1000/\(aH.map (·.1)).Nodup then some (.dct (aH.map (·.1)) (aH.map (·.2)))else none:=rfl
def sy(d k:D):Option D:=aF (mn d) λ q=>aF (vp k) λ s=>cy s (q.1.zip q.2)
def uP(k d:D):Option D:=aF (mn d) λ q=>aF (vp k) λ s=>some (.bl (!(cy s (q.1.zip q.2)).isSome))
def Bj(js:List Nat)(I:FE)(T:FT)(F:FE)(U:En):Option (D×En):=aF (I U) λ p=>aF (mn p.1) λ q=>aF (fQ p.2 js) λ fr=>aF (dw T F fr (q.1.map .str)) λ ys=>if q.1.length<=sizeLine then some (.lst ys,p.2)else none
def rN(n:Nat)(U:En)(o:Option (List D)):Option (D×En):=aF o λ ys=>if n<=sizeLine then some (.lst ys,U)else none
def AZ(q:List Str)(T:FT)(F:FE)(U:En)(o:Option En):Option (D×En):=aF o λ fr=>rN q.length U (dw T F fr (q.map .str))
def IE(js:List Nat)(T:FT)(F:FE)(o:Option (D×En)):Option (D×En):=aF o λ p=>aF (mn p.1) λ q=>AZ q.1 T F p.2 (fQ p.2 js)
noncomputable def me:Option Sl->Option (List D)
 |some (.ow _ (.lst ds))=>some ds
 |_=>none
def pj(js:List Nat)(i:Nat)(T:FT)(F:FE)(U:En):Option (D×En):=aF (me U[i]?) λ ds=>aF (fQ U js) λ fr=>aF (dw T F fr ds) λ ys=>if ds.length<=sizeLine then some (.lst ys,U)else none
def AY(ds:List D)(T:FT)(F:FE)(U:En)(o:Option En):Option (D×En):=aF o λ fr=>rN ds.length U (dw T F fr ds)
def ID(js:List Nat)(T:FT)(F:FE)(U:En)(o:Option (List D)):Option (D×En):=aF o λ ds=>AY ds T F U (fQ U js)
def pq(q:Bool)(F:FE)(i:Nat)(U:En):Option (D×En):=aF (F U) λ p=>aF (me p.2[i]?) λ ds=>if fV p.1 ds=true then some (.bl (if q then !fc p.1 ds else fc p.1 ds),p.2)else none
def A1(q:Bool)(x:D)(U:En)(o:Option (List D)):Option (D×En):=aF o λ ds=>if fV x ds=true then some (.bl (if q then !fc x ds else fc x ds),U)else none
def IG(q:Bool)(i:Nat)(o:Option (D×En)):Option (D×En):=aF o λ p=>A1 q p.1 p.2 (me p.2[i]?)
@[simp] theorem XI:(∀q vs k,sy (.dct q vs) (.str k)=cy k (q.zip vs))/\(∀k q vs,uP (.str k) (.dct q vs)=some (.bl (!(cy k (q.zip vs)).isSome)))/\(∀js I T F U,Bj js I T F U=IE js T F (I U))/\(∀js T F q vs U,IE js T F (some (.dct q vs,U))=AZ q T F U (fQ U js))/\(∀q T F U fr,AZ q T F U (some fr)=rN q.length U (dw T F fr (q.map .str)))/\(∀n U ys,rN n U (some ys)=if n<=sizeLine then some (.lst ys,U)else none)/\(∀b ds,me (some (.ow b (.lst ds)))=some ds)/\(∀js i T F U,pj js i T F U=ID js T F U (me U[i]?))/\(∀js T F U ds,ID js T F U (some ds)=AY ds T F U (fQ U js))/\(∀ds T F U fr,AY ds T F U (some fr)=rN ds.length U (dw T F fr ds))/\(∀q F i U,pq q F i U=IG q i (F U))/\(∀q i x U,IG q i (some (x,U))=A1 q x U (me U[i]?))/\(∀q x U ds,A1 q x U (some ds)=if fV x ds=true then some (.bl (if q then !fc x ds else fc x ds),U)else none):=by and_intros<;>intros<;>rfl
open PySem.Spec PyProof.Rows L2
theorem Hf(h:(fm P w).is k u=true):aU (kV k) u:=by
 rcases g_5 (show ad0 k u=true from h)with⟨i,t,rfl,rfl⟩|⟨x,t,rfl,rfl⟩
 .exact⟨t,rfl⟩
 .exact⟨t,rfl⟩
theorem Ir:∀{aH:List (Key×V)}{J:List (Key×Value)}{i:Nat}{k:Key}{x:Value},KV aH J->J[i]?=some (k,x)->∃v,aH[i]?=some (k,v)
 |_,_,_,_,_,.nil,e=>by simp at e
 |_,_,0,k,x,.cons (a:=p) (b:=q) h t,e=>by
  have e:q=(k,x):=by simpa using e
  subst e;exact⟨p.2,by grind⟩
 |_,_,i+1,_,_,.cons h t,e=>by
  obtain⟨v,q⟩:=Ir t (by simpa using e);exact⟨v,by simpa using q⟩
theorem eG(h:mn d=some q):d=.dct q.1 q.2:=by
 cases d with
 |dct J a=>obtain rfl:=br h;rfl
 |_=>cases h
def xg(a:Addr)(ob:Obj)(aH:List (Key×V)):It:=
 ⟨λ i H=>i<aH.length/\H a=some (.frz ob (.dK aH)),λ i H x H'=>H'=H/\∃k v,aH[i]?=some (k,v)/\x=kV k,λ i H=>aH.length<=i/\H a=some (.frz ob (.dK aH))⟩
theorem MV{K:Frag}(a it:Addr)(ob:Obj)(aH:List (Key×V))(es:Array DictEntry)(ep:Nat)(Y:ob.data=.dict es ep):fG P w K tg (xg a ob aH) [it] it (λ i h=>h.IsKeyIter it a i aH.length ep)where
 mem:=by simp
 obj:=λ i h st b f=>by
  have e:b=it:=by simpa using f
  subst e;refine aW st λ o e c d=>?_;exact⟨o,e,λ v z=>by rw[d]at z;simp at z⟩
 keep:=λ i h h' st k=>st.at λ o e=>k it (by simp) o e
 item:=by
  intro X F O D R i aA s L H E I l st G;subst F O D;obtain⟨hi,u⟩:=G;refine eS (l it (by simp)) λ x y f2 A B C=>?_;obtain⟨j,z,sm,g,Z,Q,W,ρ,m,n,J,σ,N,M⟩:=(show aZ X.prog X.w H s.heap a (.frz ob (.dK aH))from I.hok a _ u);have e1:=qi (m.symm.trans j);subst e1;rw[Y]at J;cases J;have len:=Z.length;have t:s.heap.DictAt (fm X.prog X.w) a g ep:=⟨Q,es,j,n,Y,σ,N,M⟩;obtain⟨⟨k,v⟩,hx⟩:∃p,g[i]?=some p:=⟨g[i]'(by lia),by simp⟩;have r:s.heap.IsKeyIter it a i g.length ep:=by rw[<-len];exact st
  refine wpAny_pyNext_dict_item r t hx λ ai h' T q sb=>?_;have S:=I.turned (t':=s.toks) (λ b o f e=>(sb.2 b f).trans e) x y A B C;obtain⟨v',e3⟩:=Ir Z hx;refine aW (id q) λ o e c d=>?_;rw[<-len]at q;exact⟨ai,rfl,rM e c d (by decide) ⟨kV k,H,S,Hf T,⟨rfl,k,v',e3,rfl⟩,q,λ b f=>(l b f).1⟩⟩
 done:=by
  intro X F O D R i aA s L H E I l st G;subst F O D;obtain⟨hi,u⟩:=G;refine eS (l it (by simp)) λ x y f2 A B C=>?_;obtain⟨j,z,sm,g,Z,Q,W,ρ,m,n,J,σ,N,M⟩:=(show aZ X.prog X.w H s.heap a (.frz ob (.dK aH))from I.hok a _ u);have e1:=qi (m.symm.trans j);subst e1;rw[Y]at J;cases J;have len:=Z.length;have t:s.heap.DictAt (fm X.prog X.w) a g ep:=⟨Q,es,j,n,Y,σ,N,M⟩;have r:s.heap.IsKeyIter it a i g.length ep:=by rw[<-len];exact st
  exact wpAny_pyNext_dict_end (I.ok.hd R) r t (by simp;lia) λ h' eb=>⟨rfl,I.turned (λ b o f e=>eb b o f e) x y A B C⟩
 self:=λ _ _ _ _ _ st h=>wpAny_pyIter_keyiter st h
def UH(t:TE):TI:=λ L H R=>t L H λ x H1=>∃a ob aH,x=.ref a/\H1 a=some (.frz ob (.dK aH))/\R (xg a ob aH) H1
theorem S7(hl:PE X l tl):PI X tg l (UH tl):=by
 intro aA s L H R I h;refine bN (hl aA s L H _ I h) λ v c Y=>?_;refine cF Y λ x H1 d B A=>?_;refine d7 A λ a ob aH e p q=>?_;subst e;subst B;obtain⟨g,z,C,D,m,i,Z,J,j,k,f,t,y,u⟩:=(show aZ X.prog X.w H1 c.heap a (.frz ob (.dK aH))from d.hok a _ p);have e1:=qi (j.symm.trans g);subst e1;have len:=m.length;have n:c.heap.DictAt (fm X.prog X.w) a D J:=⟨i,Z,g,k,f,t,y,u⟩;refine wpAny_pyIter_dict C n ?_;refine⟨c.heap.objs.size,[c.heap.objs.size],_,_,H1,rfl,d.kept λ b o e=>qd _ e,MV a _ i aH Z J f,⟨_,qk _ rfl,rfl,by rw[len];rfl⟩,λ b r=>?_,q⟩;have e:b=c.heap.objs.size:=by simpa using r
 subst e;exact d.fpOk (qj _) (d.hok.fresh (qj _))
theorem O2{K:Frag}{q:List Str}(ea:H1 a=some (.frz ob (.dK ((q.map Sum.inr).zip vs))))(l:q.length=vs.length):lQ K (xg a ob ((q.map Sum.inr).zip vs)) H1 (q.map .str):=λ H0 H i s s'=>by
 have J:=s' _ _ (s _ _ ea);have Y:((q.map Sum.inr).zip vs:List (Key×V)).length=q.length:=by rw[Yj,qw];lia
 refine⟨λ d e=>?_,λ h=>⟨by rw[Y];simpa using h,J⟩⟩;rw[zo]at e;cases z:q[i]? with
 |none=>rw[z]at e;cases e
 |some k=>
  rw[z]at e;obtain rfl:=br e;have hi:=(List.getElem?_eq_some_iff.mp z).1;refine⟨⟨by rw[Y];exact hi,J⟩,λ x H'⟨c,f,g,b,Z⟩=>⟨c,?_⟩⟩;rw[List.getElem?_zip_eq_some]at b;obtain⟨b,_⟩:=b;rw[zo,z]at b;obtain rfl:=br b;exact Z
section
variable{bU:List Expr}
theorem NN(i:Nat)(hN:X.N.Nodup)(hc:X.calm=true)(ae:X.env.scope=sc)(Bk:eA X.N sc scope x aV js)(hi:XE X iter I)(ht:∀s H C fp,lb (df X (x::aV) scope s H C fp) bU T)(he:∀s H C fp,XE (df X (x::aV) scope s H C fp) elt F)(aa:X.N[i]?=some y:=by rfl)(hy:X.env.scope.names.lookup y=some .local:=by rfl)(Z:swapsWith (.ListComp elt [⟨.Name x px,iter,bU,0⟩] scope pos) (some (.Name y py)) spos.line X.env=pure true:=by rfl)(hs:∀v,foldedSetIterable iter X.env v=pure v:=by intro _;rfl):XS X (.Assign [.Name y py] (.ListComp elt [⟨.Name x px,iter,bU,0⟩] scope pos) spos) (bC i (Bj js I T F)):=
 PS.wk (tU (tt:=iK X.K T) (te:=tE X.K F) hN aa hy hc ae Bk (S7 hi) ht he Z hs) λ Dn L H Y=>by
  obtain⟨c,H0,U,r,R,f,q⟩:=Y;obtain⟨⟨d,M⟩,J,f⟩:=aL f;have j:=f;cases j;obtain⟨⟨z,h⟩,m,J⟩:=aL J;obtain⟨⟨P,O⟩,k,J⟩:=aL J;obtain⟨fr,n,J⟩:=aL J;obtain⟨ys,u,J⟩:=aL J;obtain⟨A,J⟩:=Fx.bU J;cases J;cases eG k;refine⟨c,H0,U,_,h,R,m,λ v H1 Hh E e B=>?_⟩;obtain⟨a,ob,b,rfl,g,t,l⟩:=B;refine⟨a,ob,_,rfl,e.same _ _ g,?_⟩;refine AV e n u (by rw[qw];exact A) (O2 g (by rw[l,t.length])) λ b σ cJ G R2 D=>λ p w=>?_;have S:=bR.alloc (o:=.lst b) R2.same w;refine q _ _ _ (E.trans (G.trans S.s0)) ((R2.after S).set i ?_);exact⟨p,b,rfl,.inl (.inl bT),aB.mono S.s0 _ D⟩
end
end Fx
namespace Fx
open PySem PySem.W L2
structure XC(K:Frag)(C:Addr):Prop where
 is:(clsIn K C).isSome=true
 ga:findIn K (.ref C) "__getattribute__"=some (some (.builtin "BaseException.__getattribute__"))
 gh:findIn K (.ref C) "__getattr__"=some none
 cl:findIn K (.ref C) "__class__"=some (some (.builtin "object.__class__"))
 ge:specialIn K (.builtin "object.__class__") "__get__"=some (some (.builtin "getset_descriptor.__get__"))
 tk:takesIn K (.builtin "object.__class__")=some true
 mo:mroIn K C (.type "object")=some true
 mb:mroIn K C (.type "BaseException")=some true
section
theorem XC.ck{tk:Tok}(f:XC K C)(X:K.In s.heap)(I:InstAt s.heap x ox C od)(h:Q () s):wpAny (model prog w) A (checkBuiltinCall "BaseException.__getattribute__" ⟨[.ref x,.str n tk],[]⟩) Q E s:=by
 have e3:=F.args_bexc_ga (.ref x) (.str n tk);obtain⟨q,g,d,t,os⟩:=s;have J:Looks (model prog w) q (isInstance (.ref x) (.type "BaseException")) true:=(I.type).andThen (looks_mroIn X f.mb);refine qb (J.at ?_);rw[if_neg (by decide)];exact wpAny_of_eq e3 h
end
noncomputable def eg(c:Value)(vs:Array Value)(dd:Option Addr:=none):Obj:={cls:=c,dict:=dd,data:=.fields vs,slots:=#[]}
theorem vF(q:s.heap.get? a=some (eg c vs dd))(J:k<vs.size)(h:∀h',h'.get? a=some (eg c (vs.setIfInBounds k x) dd)->Heap.SameBut a s.heap h'->Q () {s with heap:=h'}):wpAny (model prog w) A (setField (.ref a) k x) Q E s:=
 Qj q rfl J (h _ (zr _ q rfl) (ym s.heap a _))
def Aw(fs es:List Addr)(h h':Heap):Prop:=∀b o,h.get? b=some o->b∉es->(b∉fs->h'.get? b=some o)/\∃q,h'.get? b=some {o with slots:=q}
theorem Aw.of(k:∀b o,b∉es->h.get? b=some o->h'.get? b=some o):Aw fs es h h':=λ b o e n=>⟨λ _=>k b o n e,o.slots,k b o n e⟩
def hK(h:Heap)(e T C:Addr)(dd:Option Addr)(q:Value):Prop:=T≠e∧(∃vs,h.get? e=some (eg (.ref C) vs dd)∧vs[1]?=some (.ref T))∧∃ts,h.get? T=some (eg (.type "traceback") ts)∧ts[3]?=some q
section
variable{s:Shared}{σ e C T:Addr}
theorem FG(Z:s.heap.FunFrames base l)(J:s.heap.get? e=some (eg c vs dd)):e∉fM l:=λ z=>by
 obtain⟨_,o,q,Y⟩:=Z.mem z;rw[J]at q;obtain rfl:=br q;exact Y vs rfl
theorem F0(aa:A.frames=some (env::outer))(hl:s.heap.FunFrames base (env::outer))(hf:env.frame=some σ)(he:s.heap.get? e=some (eg (.ref C) vs dd))(h1:1<vs.size)(k:∀h' T,Aw (fM (env::outer)) [e] s.heap h'->s.heap.objs.size<=T->hK h' e T C dd (rawInt σ)->Q () {s with heap:=h'}):
  wpAny (model prog w) A (do setField (.ref e) 1 (<-EntryCells.newEntry J (<-frameOf env) .none (rawInt σ) .none (<-entryPlaceOf σ nx))) Q E s:=by
 refine qb (wpAny_frameOf_fun aa hl hf λ g Z=>qb (wpAny_entryPlaceOf λ Y h=>qb ?_));refine yi ?_ (h.sizeOk5 J (.ref σ) .none (rawInt σ) .none);have c:([J,.ref σ,.none,rawInt σ,.none]++(if Y.isEmpty then List.replicate 6 Value.none else Y)).toArray[3]?=some (rawInt σ):=rfl;generalize ([J,.ref σ,.none,rawInt σ,.none]++(if Y.isEmpty then List.replicate 6 Value.none else Y)).toArray=ts at c⊢;have a:=(Z.2.1 e (FG hl he)).trans he;refine vF (qd _ a) h1 λ h' e1 d=>?_;have te:=Yh (qm a);refine k h' g.objs.size (λ b o q n=>?_) (Nat.le_of_eq Z.1.symm) ⟨te,⟨_,e1,by simp[h1]⟩,ts,?_,c⟩
 .have f:b≠e:=λ z=>n (by simp[z]);have up:∀o',g.get? b=some o'->h'.get? b=some o':=λ o' z=>(d.2 b f).trans (qd _ z);obtain⟨i,z⟩:=Z.2.2 b o q;exact⟨λ m=>up o ((Z.2.1 b m).trans q),i,up _ z⟩
 .exact(d.2 _ te).trans (qk _ rfl)
theorem Ds(q:A.frames=some (env::outer))(Z:s.heap.FunFrames base (env::outer))(Y:env.frame=some σ)(J:s.heap.get? e=some (eg (.ref C) vs dd))(h1:vs[1]?=some .none)(k:∀h' T,Aw (fM (env::outer)) [e] s.heap h'->s.heap.objs.size<=T->hK h' e T C dd (rawInt σ)->Q () {s with heap:=h'}):wpAny (model prog w) A (noteFrame (.ref e) env) Q E s:=by
 simp only[noteFrame,Y];refine qb (jq J rfl h1 ?_);rw[show(Value.none != Value.none)=false from rfl,if_neg (by decide)];exact F0 q Z Y J (Array.getElem?_eq_some_iff.mp h1).1 k
theorem wY(ac:A.frames=some (env::outer))(hl:s.heap.FunFrames base (env::outer))(hf:env.frame=some σ)(x:hK s.heap e T C dd .none)(k:∀h' Z,Aw (fM (env::outer)) [e,T] s.heap h'->s.heap.objs.size<=Z->hK h' e Z C dd (rawInt σ)->Q () {s with heap:=h'}):wpAny (model prog w) A (noteFrame (.ref e) env) Q E s:=by
 obtain⟨te,⟨l,h,d⟩,j,c,g⟩:=x;simp only[noteFrame,hf];refine qb (jq h rfl d ?_);rw[show(Value.ref T != Value.none)=true from rfl,if_pos rfl];refine qb (jq c rfl g ?_);rw[show(Value.none==rawInt σ)=false from rfl,if_neg (by decide)];refine qb (vF c (Array.getElem?_eq_some_iff.mp g).1 λ J e1 Y=>?_);have i:=hl.of_keeps λ b o q n=>by
  have bt:b≠T:=λ z=>by subst z;rw[c]at q;obtain rfl:=br q;exact n j rfl
  exact⟨o,(Y.2 b bt).trans q,rfl⟩
 refine F0 ac i hf ((Y.2 e te.symm).trans h) (Array.getElem?_eq_some_iff.mp d).1 λ h' Z a z f=>k h' Z (λ b o q n=>?_) (zc (Nat.le_of_eq Y.1.symm) z) f;simp only[jb,yz,Zt,not_or]at n;exact a b o ((Y.2 b n.2).trans q) (by simp[n.1])
theorem uz(x:hK s.heap e T C dd fl)(k:∀h',Heap.SameBut T s.heap h'->hK h' e T C dd .none->Q () {s with heap:=h'}):wpAny (model prog w) A (setFlight (.ref e) none) Q E s:=by
 obtain⟨te,⟨c,q,a⟩,d,b,Z⟩:=x;have J:=(Array.getElem?_eq_some_iff.mp Z).1;refine qb (jq q rfl a ?_);rw[show(Value.ref T != Value.none)=true from rfl,if_pos rfl];exact vF b J λ h' e1 Y=>k h' Y ⟨te,⟨c,(Y.2 e te.symm).trans q,a⟩,_,e1,by simp[J]⟩
theorem DW(Y:env.frame=some σ)(x:hK s.heap e T C dd (rawInt σ))(k:Q () s):wpAny (model prog w) A (noteFrame (.ref e) env) Q E s:=by obtain⟨te,⟨c,q,a⟩,b,Z,J⟩:=x;simp only[noteFrame,Y];refine qb (jq q rfl a ?_);rw[show(Value.ref T != Value.none)=true from rfl,if_pos rfl];refine qb (jq Z rfl J ?_);rw[if_pos (Ze _)];exact qc k
theorem TV(x:hK s.heap e T C dd fl)(k:∀h',Heap.SameBut T s.heap h'->hK h' e T C dd (rawInt σ)->Q () {s with heap:=h'}):
    wpAny (model prog w) A (do if(← field (.ref e) 1)==.none then unsupported "frame.own-activation:exception-without-traceback"
                               setFlight (.ref e) (some σ)) Q E s:=by
  obtain⟨te,⟨c,q,a⟩,d,b,Z⟩:=x;have J:=(Array.getElem?_eq_some_iff.mp Z).1;refine qb (jq q rfl a ?_);rw[show(Value.ref T==Value.none)=false from rfl,if_neg (by decide)];refine qb (jq q rfl a ?_);rw[show(Value.ref T != Value.none)=true from rfl,if_pos rfl];exact vF b J λ h' e1 Y=>k h' Y ⟨te,⟨c,(Y.2 e te.symm).trans q,a⟩,_,e1,by simp[J]⟩
end
open PySem.Spec PyProof.Rows
def hJ(P:Program)(w:World):mR:=λ outer H s E e s'=>∃a T C dd H',e=.ref a/\s'.os=s.os/\AllBare s'.gens/\Un (fM outer) [] H H' s.heap s'.heap/\dU P w H' s'.heap/\s.heap.get? a=none/\s.heap.get? T=none/\H' a=none/\H' T=none/\hK s'.heap a T C dd .none/\E (.ref C) dd H'
theorem R_{P:Program}{w:World}{H:Hp}{h:Heap}{a:Addr}{o:HO}(k:aZ P w H h a o):∃u,h.get? a=some u:=by
 cases o with
 |lst=>obtain⟨_,_,_,_,e⟩:=k;exact⟨_,e⟩
 |tup=>obtain⟨_,_,_,o,e,_⟩:=k;exact⟨_,e⟩
 |dK=>obtain⟨_,_,_,_,o,_,_,e,_⟩:=k;exact⟨_,e⟩
 |dT=>obtain⟨_,_,_,_,o,_,_,e,_⟩:=k;exact⟨_,e⟩
 |set=>refine k7 k λ _ _ _ _ e _=>?_;exact⟨_,e⟩
 |ins=>refine jV k λ _ _ _ e _=>?_;exact⟨_,e⟩
 |own=>exact k
 |xd=>obtain⟨_,x,_⟩:=k;refine ib x λ o _ _ e _=>?_;exact⟨_,e⟩
 |rng=>refine ia k λ _ _ _ e=>?_;exact⟨_,e⟩
 |frz=>exact⟨_,k.1⟩
 |tbl=>exact⟨_,k⟩
 |met=>exact⟨_,k⟩
 |ext=>obtain⟨_,e,_⟩:=k;exact e
theorem wK(ok:dU P w H h)(n:h.get? a=none):H a=none:=by
 cases e:H a with
 |none=>rfl
 |some o=>
  obtain⟨u,q⟩:=R_ (ok a o e);rw[n]at q;simp at q
section
variable{X:Cx}{aA:List (Addr×Obj)}{L:L2.St}{H:Hp}{s:Shared}{h':Heap}{es:List Addr}
theorem E6(ok:dU P w H h)(a:Aw fs es h h')(Z:∀b∈fs,H b=none)(Y:∀b∈es,H b=none):dU P w H h':=λ b o e=>by
 have d:∀c,H c≠none->c∉fs/\c∉es:=λ c n=>⟨λ z=>n (Z c z),λ z=>n (Y c z)⟩
 refine(ok b o e).stay (λ c u J q=>?_) (λ _ z=>z) (λ _ _ z=>z);have n:H c≠none:=by
  rcases J with rfl|J
  .grind
  .grind
 exact(a c u q (d c n).2).1 (d c n).1
def r8(X:Cx)(aA:List (Addr×Obj))(H:Hp)(b:Addr):Prop:=
 H b=none/\b≠X.env.locals/\(b∈X.ex\/X.s₀.heap.get? b=none)/\(∀x c,X.env.cells.lookup x=some c->c≠b)/\∀p∈X.pn++aA,p.1≠b
theorem An(I:aI X aA L H s)(n:s.heap.get? b=none)(J:H' b=none):r8 X aA H' b:=by
 refine jW J (λ z=>?_) ?_ (λ x c e z=>?_) λ p Y z=>?_
 .obtain⟨m,⟨o,_,_,q,_⟩,_⟩:=I.loc;rw[<-z,n]at q;simp at q
 .by_cases hx:b∈X.ex
  .exact .inl hx
  .refine .inr ?_;cases e:X.s₀.heap.get? b with
   |none=>rfl
   |some o=>
    obtain⟨a,q⟩:=I.base.there b o e hx;rw[n]at q;simp at q
 .refine cX (I.cell x c e) λ v o q _=>?_;rw[z,n]at q;simp at q
 .have q:=(I.pin p Y).1;rw[z,n]at q;simp at q
theorem oK(I:aI X aA L H s)(a:Aw (fM X.stack) es s.heap h')(Y:∀b∈es,r8 X aA H b):aI X aA L H {s with heap:=h',toks:=t'}:=by
 have J:∀b o,X.s₀.heap.get? b=some o->b∉X.ex->b≠X.env.locals/\b∉es:=λ b o q hx=>by
  refine⟨qr (qp (qm q) I.ok.above),λ z=>?_⟩;rcases(Y b z).2.2.1 with y|y
  .exact hx y
  .rw[q]at y;cases y
 have fr:∀b,b≠X.env.locals->b∉X.fs->b∉fM X.stack:=λ b n m z=>(qt (I.stkSub b z)).elim n m;have un:=I.base;have Z:∀x c v,X.env.cells.lookup x=some c->s.heap.IsCell c v->h'.IsCell c v:=λ x c v e D=>by
  obtain⟨o,q,d⟩:=D;obtain⟨_,C,g⟩:=a c o q λ z=>(Y c z).2.2.2.1 x c e rfl;exact⟨_,g,d⟩
 refine⟨I.ok,I.os,I.bare,⟨λ b o q n f hx=>?_,λ b o q n f hx=>?_,un.free,λ b o q hx=>?_,un.tups,un.frzs,un.tbls⟩,?_,λ x c e=>?_,I.free,I.freeC,λ p w=>?_,E6 I.hok a I.stkFree λ b z=>(Y b z).1,I.len⟩
 .exact(a b o (un.keep b o q n f hx) (J b o q hx).2).1 (fr b (J b o q hx).1 f)
 .obtain⟨C,h⟩:=un.slot b o q n f hx;obtain⟨_,t,j⟩:=a b _ h (J b o q hx).2;exact⟨t,j⟩
 .obtain⟨σ,h⟩:=un.there b o q hx;obtain⟨_,t,j⟩:=a b _ h (J b o q hx).2;exact⟨_,j⟩
 .obtain⟨m,⟨o,E,F,q,r⟩,G⟩:=I.loc;obtain⟨_,C,g⟩:=a _ o q λ z=>(Y _ z).2.1 rfl;refine⟨m,⟨_,E,F,g,r⟩,λ i x v e1 e2 e3=>?_⟩;obtain⟨u,K,l⟩:=G i x v e1 e2 e3;refine⟨u,K,l.imp id ?_⟩;rintro ⟨k,c,e,z⟩;exact⟨k,c,e,Z x c _ e z⟩
 .obtain⟨v,z⟩:=I.cell x c e;exact⟨v,Z x c v e z⟩
 .obtain⟨q,n,A,B,d⟩:=I.pin p w;exact⟨(a p.1 p.2 q λ z=>(Y _ z).2.2.2.2 p w rfl).1 (fr p.1 A B),n,A,B,d⟩
end
section
variable{K:Frag}
theorem Ng(I:aI (fS (hJ P w) P w K mg base N qual scope f cd A outer s H E) aA L H1 s2)(fa:H1 a=none)(na:s.heap.get? a=none)(there:(∃vs,s2.heap.get? a=some (eg (.ref C) vs dd)/\vs[1]?=some .none)\/∃T Y,(Y=.none\/Y=rawInt s.heap.objs.size)/\H1 T=none/\s.heap.get? T=none/\hK s2.heap a T C dd Y)(e:E (.ref C) dd H1):(fS (hJ P w) P w K mg base N qual scope f cd A outer s H E).xe (.ref a) s2:=by
 have u:=I.stack;have t:=I.ok.frames;have un:=I.base;have M:∀b,s2.heap.get? b=none->s.heap.get? b=none:=λ b z=>by
  cases q:s.heap.get? b with
  |none=>rfl
  |some o=>
   obtain⟨V,F⟩:=un.there b o q (by intro y;cases y);rw[z]at F;cases F
 have ρ:∀b o,s.heap.get? b=some o->b≠s.heap.objs.size:=λ b o q=>qr (qm q);have fin:∀(h':Heap)(T:Addr)(es:List Addr),Aw (fM (envOfC qual scope s.heap.objs.size f cd::outer)) es s2.heap h'->(∀b∈es,H1 b=none/\s.heap.get? b=none)->T∈es->hK h' a T C dd .none->hJ P w outer H s E (.ref a) {s2 with heap:=h'}:=by
  intro h' T es d J B Y;have k:∀b o,s.heap.get? b=some o->b∉es:=λ b o q z=>by rw[(J b z).2]at q;cases q
  refine⟨a,T,C,dd,H1,rfl,I.os,I.bare,⟨λ b o q n g _=>?_,λ b o q n g _=>?_,λ b o q n hx=>un.free b o q n hx,λ b o q hx=>?_,un.tups,un.frzs,un.tbls⟩,E6 I.hok d (λ b z=>I.stkFree b z) (λ b z=>(J b z).1),na,(J T B).2,fa,(J T B).1,Y,e⟩
  .have c:=un.keep b o q n g (by intro z;cases z);refine(d b o c (k b o q)).1 λ z=>?_;rcases qt (show b∈s.heap.objs.size::fM outer from z)with z|z
   .exact ρ b o q z
   .exact g z
  .obtain⟨G,c⟩:=un.slot b o q n g (by intro z;cases z);obtain⟨_,v,r⟩:=d b _ c (k b o q);exact⟨v,r⟩
  .obtain⟨V,c⟩:=un.there b o q hx;obtain⟨_,v,r⟩:=d b _ c (k b o q);exact⟨_,r⟩
 have Z:∀(h':Heap)(T:Addr)(es:List Addr),Aw (fM (envOfC qual scope s.heap.objs.size f cd::outer)) es s2.heap h'->s2.heap.objs.size<=T->(∀b∈es,H1 b=none/\s.heap.get? b=none)->hK h' a T C dd (rawInt s.heap.objs.size)->wpAny (model P w) (A.deeper (envOfC qual scope s.heap.objs.size f cd)) (setFlight (.ref a) none) (λ _ l=>hJ P w outer H s E (.ref a) l) (λ Q l=>hJ P w outer H s E Q l) {s2 with heap:=h'}:=by
  intro h' T es d X J Y;have dT:=yu X;refine uz Y λ p h j=>fin p T (T::es) (λ b o q n=>?_) (λ b z=>?_) (by simp) j
  .simp only[jb,not_or]at n;obtain⟨W,G,c⟩:=d b o q n.2;exact⟨λ m=>(h.2 b n.1).trans (W m),G,(h.2 b n.1).trans c⟩
  .rcases qt z with rfl|z
   .exact⟨wK I.hok dT,M _ dT⟩
   .exact J b z
 show wpAny _ _ (leaving _ _) _ _ _;rcases there with⟨vs,R,S⟩|⟨T,_,rfl|rfl,x,D,Y⟩
 .exact qb (Ds t u rfl R S λ h' T i z Y=>Z h' T [a] i z (by simpa using⟨fa,na⟩) Y)
 .exact qb (wY t u rfl Y λ h' σ i z O=>Z h' σ [a,T] i z (by simpa using⟨⟨fa,na⟩,x,D⟩) O)
 .exact qb (DW rfl Y (uz Y λ p h j=>fin p T [T] (Aw.of λ b o n z=>(h.2 b (by simpa using n)).trans z) (by simpa using⟨x,D⟩) (by simp) j))
def zS(X:Cx)(E:XK):Prop:=∀(aA:List (Addr×Obj))(L:L2.St)(H:Hp)(s:Shared)(e C:Addr)(dd:Option Addr)(vs:Array Value),aI X aA L H s->H e=none->X.s₀.heap.get? e=none->s.heap.get? e=some (eg (.ref C) vs dd)->vs[1]?=some .none->E (.ref C) dd H->X.xe (.ref e) s
end
abbrev bmV:List Value:=[.type "ValueError",.type "Exception",.type "BaseException",.type "object"]
end Fx
namespace Fx
open PySem
noncomputable abbrev XV:=Str×Option (Str×D)
inductive RX where
 |ok (r:bM)|ex (x:XV)
abbrev FX:=En->Option RX
noncomputable def Ce(r:bM):Option RX:=some (.ok r)
def rS(A:FS)(U:En):Option RX:=aF (A U) Ce
def Ca(B:FX):RX->Option RX
 |.ok (.nx U)=>B U
 |r=>some r
def Az(A B:FX)(U:En):Option RX:=aF (A U) (Ca B)
def v5(A B:FX)(p:Bool×En):Option RX:=if p.1=true then A p.2 else B p.2
def wm(T:FT)(A B:FX)(U:En):Option RX:=aF (T U) (v5 A B)
def xy(x f:Str)(o:Option (D×En)):Option RX:=aF o λ p=>some (.ex (x,some (f,p.1)))
def xA(x f:Str)(F:FE)(U:En):Option RX:=xy x f (F U)
def vG:RX->Option (D⊕XV)
 |.ok r=>aF (vH r) λ d=>some (.inl d)
 |.ex x=>some (.inr x)
def nK(n k:Nat)(B:FX)(ds:List D):Option (D⊕XV):=if ds.length=n then aF (B (ds.map .im++List.replicate k .no)) vG else none
@[simp] theorem Xd:(∀x f F U,xA x f F U=xy x f (F U))/\(∀x f d U,xy x f (some (d,U))=some (.ex (x,some (f,d))))/\(∀A U,rS A U=aF (A U) Ce)/\(∀r,Ce r=some (.ok r))/\(∀B U,Ca B (.ok (.nx U))=B U)/\(∀A B U,Az A B U=aF (A U) (Ca B))/\(∀A B U,v5 A B (true,U)=A U)/\(∀A B U,v5 A B (false,U)=B U)/\(∀T A B U,wm T A B U=aF (T U) (v5 A B))/\(∀U,vG (.ok (.nx U))=some (.inl .non))/\(∀x,vG (.ex x)=some (.inr x)):=by and_intros<;>intros<;>rfl
open PySem.W PySem.Spec PyProof.Rows L2
def XD(K:Frag)(H0 H:Hp):Option (Str×D)->Option Addr->Prop
 |none,none=>True
 |some p,some dx=>∃v,aS K H0 p.2 v/\H dx=some (.xd [(p.1,v)])
 |_,_=>False
def gR(K:Frag)(mg:Str->Option Value)(E:XK)(c:FC)(Dn:i0)(H0:Hp):RX->Prop
 |.ok r=>fE K c Dn H0 r
 |.ex x=>∀C dd ρ' q aR H',mg x.1=some (.ref C)->aD H0 aR->RS K c aR H' ρ' q->XD K aR H' x.2 dd->E (.ref C) dd H'
theorem gR.mono{K:Frag}(s:aD H0 H1):∀{r:RX},gR K mg E c Dn H0 r->gR K mg E c Dn H1 r
 |.ok _,h=>fE.mono s h
 |.ex _,h=>λ C dd a q aR H' m z=>h C dd a q aR H' m (s.trans z)
def tX(K:Frag)(mg:Str->Option Value)(E:XK)(F:FX):TS:=λ Dn L H=>∃c H0 U r,RS K c H0 H U L/\F U=some r/\gR K mg E c Dn H0 r
def oV(X:Cx)(E:XK)(st:Stmt)(F:FX):Prop:=PS X st (tX X.K X.mg E F)
def XX(X:Cx)(E:XK)(sts:List Stmt)(F:FX):Prop:=d8 X sts (tX X.K X.mg E F)
section
variable{st:Stmt}
theorem EM(h:rS S U=some r):∃z,S U=some z/\r=.ok z:=by obtain⟨z,a,b⟩:=aL h;exact⟨z,a,(qi b).symm⟩
theorem WO(h:XS X st S):oV X E st (rS S):=PS.wk h λ Dn L H J=>by
 refine bY J λ c H0 U r R f q=>?_;obtain⟨z,a,rfl⟩:=EM f;exact dF c H0 U z R a q
theorem Hj(h:fJ X sts S):XX X E sts (rS S):=d8.wk h λ Dn L H J=>by
 refine bY J λ c H0 U r R f q=>?_;obtain⟨z,a,rfl⟩:=EM f;exact dF c H0 U z R a q
theorem wJ(h:oV X E st A):XX X E [st] A:=nY h
theorem WN(h1:oV X E st A)(h2:XX X E sts B):XX X E (st::sts) (Az A B):=d8.wk (sZ h1 h2) λ Dn L H J=>by
 refine bY J λ c H0 U r R f q=>?_;obtain⟨z,h,f⟩:=aL f;refine dF c H0 U z R h ?_
 match z,f with
 |.ok (.nx a),f=>exact λ Z aR H' s Y=>⟨c,aR,a,r,Y,f,q.mono s⟩
 |.ok (.rt _ _),f=>obtain rfl:=br f;exact q
 |.ok (.bk _),f=>obtain rfl:=br f;exact q
 |.ok (.ct _),f=>obtain rfl:=br f;exact q
 |.ex _,f=>obtain rfl:=br f;exact q
theorem Hk(hc:XT X c T)(ha:XX X E a A)(hb:XX X E b B):oV X E (.If c a b pos) (wm T A B):=PS.wk (Fi hc ha hb) λ Dn L H Y=>by
 refine bY Y λ c H0 U r R f q=>?_;obtain⟨⟨k,J⟩,e,f⟩:=aL f;refine bA c H0 U k J R e λ H1 Hh d Z=>?_;cases k with
 |true=>rw[if_pos rfl];exact dF c H1 J r Z f (q.mono d)
 |false=>rw[if_neg zj];exact dF c H1 J r Z f (q.mono d)
end
def UM(K:Frag)(mg:Str->Option Value)(q H:Hp)(Q:VK)(E:XK):D⊕XV->Prop
 |.inl d=>∀v cG H',bR q H cG H'->aS K cG d v->Q v H'
 |.inr x=>∀C dd cG H',mg x.1=some (.ref C)->bR q H cG H'->XD K cG H' x.2 dd->E (.ref C) dd H'
def wz(K:Frag)(mg:Str->Option Value)(g:List D->Option (D⊕XV)):Sp:=λ vs H Q E=>∃q ds r,aD q H/\aB K q ds vs/\g ds=some r/\UM K mg q H Q E r
structure jU(P:Program)(w:World)(K:Frag)(mg:Str->Option Value)(base:Heap)(k:Nat)(x:Str)(g:List D->Option (D⊕XV)):Prop where
 ex:∃f fd ps,cB P w K mg base (hJ P w) k f fd ps (wz K mg g)/\cV K fd ps []/\keepIn K (.ref f)=true/\mg x=some (.ref f)
theorem TU{K:Frag}{st:Stmt}(F:ic K x qual st f fd)(S:aG N ps (aX st))(hn:ps.length=n)(hN:N.length=n+m)(hb:∀(J:Value)(A:Around)(outer:List Env)(s:Shared)(H:Hp)(E:XK),bJ k (A.deeper (envOfC qual (aX st) s.heap.objs.size f J))->XX (fS (hJ P w) P w K mg base N qual (aX st) f J A outer s H E) E (fZ st) B):cB P w K mg base (hJ P w) (k+1) f fd ps (wz K mg (nK n m B)):=by
 have Z:∀{b:List D}{r:D⊕XV},nK n m B b=some r->b.length=n/\∃z,B (b.map .im++List.replicate m .no)=some z/\vG z=some r:=λ{b r}h=>by
  unfold nK at h;split at h
  .rename_i i;obtain⟨z,g,a⟩:=aL h;exact⟨i,z,g,a⟩
  .cases h
 obtain⟨T,ρ,kV,σ,V,O,J,ct,M,rfl,t,l⟩:=F.ex;refine AX t l S (λ y H Q E h=>?_) λ A outer s H y Q E o h=>?_
 .obtain⟨c,b,d,_,r,e,_⟩:=h;rw[hn,<-r.length];exact(Z e).1
 .obtain⟨c,b,d,p,r,e,q⟩:=h;obtain⟨i,z,g,a⟩:=Z e;refine⟨_,hb J A outer s H E o,⟨c,H,[]⟩,c,_,z,RS.start p r (by rw[<-r.length];lia),g,?_⟩
  match z,a with
  |.ok (.nx _),a=>cases a;exact λ Y aR H' j R=>q .non aR H' R.step (by rfl)
  |.ok (.rt _ _),a=>cases a;exact λ v Y aR H' j R u=>q v aR H' R.step u
  |.ok (.bk _),a=>cases a
  |.ok (.ct _),a=>cases a
  |.ex _,a=>cases a;exact λ C dd I Y aR H' m j R G=>q C dd aR H' m R.step G
section
variable{X:Cx}{aA:List (Addr×Obj)}{L:L2.St}{H:Hp}{s:Shared}{a:Addr}{o:Obj}
noncomputable abbrev nX(X:Cx)(a:Addr)(o:Obj):Cx:={X with pn:=(a,o)::X.pn}
theorem Rf(k:X.Ok):(nX X a o).Ok:=⟨k.mod,k.kind,k.glob,k.blt,k.above,k.inj,k.has,k.cab,k.hd,k.frames,k.stk,k.exf,k.bs,k.bsz,k.noex,k.exfs,k.funs,k.frf⟩
theorem QE(k:(nX X a o).Ok):X.Ok:=⟨k.mod,k.kind,k.glob,k.blt,k.above,k.inj,k.has,k.cab,k.hd,k.frames,k.stk,k.exf,k.bs,k.bsz,k.noex,k.exfs,k.funs,k.frf⟩
theorem SG(I:aI X aA L H s)(q:s.heap.get? a=some o)(n:H a=none)(J:a≠X.env.locals)(Z:a∉X.fs)(d:∀v,o.data≠.cell v):aI X ((a,o)::aA) L H s:=
 ⟨I.ok,I.os,I.bare,I.base,I.loc,I.cell,I.free,I.freeC,λ p Y=>by
  rcases qv Y with z|z
  .exact I.pin p (List.mem_append.mpr (.inl z))
  .rcases qt z with rfl|z
   .exact⟨q,n,J,Z,d⟩
   .exact I.pin p (List.mem_append.mpr (.inr z)),I.hok,I.len⟩
theorem QF(I:aI X ((a,o)::aA) L H s):aI (nX X a o) aA L H s:=
 ⟨Rf I.ok,I.os,I.bare,I.base,I.loc,I.cell,I.free,I.freeC,λ p q=>I.pin p (by grind),I.hok,I.len⟩
theorem Tn(I:aI (nX X a o) aA L H s):aI X aA L H s:=
 ⟨QE I.ok,I.os,I.bare,I.base,I.loc,I.cell,I.free,I.freeC,λ p q=>I.pin p (qh _ q),I.hok,I.len⟩
noncomputable abbrev zJ(X:Cx)(a:Addr)(E:Value->Shared->Prop):Cx:={X with A:=X.A.mark (some (.ref a)),calm:=false,xe:=E}
theorem FP(I:aI X aA L H s)(b:Addr):aI (zJ X b E) aA L H s:=
 let k:=I.ok
 ⟨⟨k.mod,k.kind,k.glob,k.blt,k.above,k.inj,k.has,k.cab,(λ z=>nomatch z),k.frames,k.stk,k.exf,k.bs,k.bsz,k.noex,k.exfs,k.funs,k.frf⟩,I.os,I.bare,I.base,I.loc,I.cell,I.free,I.freeC,I.pin,I.hok,I.len⟩
theorem MU(ok:X.Ok)(I:aI (zJ X b E) aA L H s):aI X aA L H s:=
 ⟨ok,I.os,I.bare,I.base,I.loc,I.cell,I.free,I.freeC,I.pin,I.hok,I.len⟩
theorem Nk(I:aI X aA L H s)(hN:X.N.Nodup)(hi:X.N[i]?=some x)(hm:s.heap.Ns X.env.locals m)(hn:h'.Ns X.env.locals (λ y=>if y=x then v else m y))(Y:Heap.SameBut X.env.locals s.heap h'):aI X aA (L.set i none) H {s with heap:=h',toks:=t'}:=by
 have Z:∀b o,X.s₀.heap.get? b=some o->b≠X.env.locals:=λ b o q=>qr (qp (qm q) I.ok.above);refine⟨I.ok,I.os,I.bare,⟨λ b o e n g hx=>(Y.2 b (Z b o e)).trans (I.base.keep b o e n g hx),λ b o e n g hx=>?_,I.base.free,λ b o e hx=>?_,I.base.tups,I.base.frzs,I.base.tbls⟩,?_,λ y c e=>?_,I.free,I.freeC,λ p G=>?_,λ b u e=>?_,by simpa using I.len⟩
 .obtain⟨P,q⟩:=I.base.slot b o e n g hx;exact⟨P,(Y.2 b (Z b o e)).trans q⟩
 .obtain⟨M,q⟩:=I.base.there b o e hx;exact⟨M,(Y.2 b (Z b o e)).trans q⟩
 .obtain⟨V,B,F⟩:=I.loc;obtain⟨W,ρ,S,O,C,k1,D⟩:=B;obtain⟨Q,T,R,A,t,k2,E⟩:=hm;rw[O]at A;cases A;rw[C]at t;cases t;have K:=funext λ y=>(E y).symm.trans (D y);subst K;refine⟨_,hn,λ j y u e1 e2 e3=>?_⟩;by_cases h:j=i
  .subst h;rw[zl (by rw[I.len];exact(List.getElem?_eq_some_iff.mp hi).1)]at e2;cases e2
  .rw[zf (zt h)]at e2;obtain⟨w,r,l⟩:=F j y u e1 e2 e3;have f:y≠x:=λ z=>h (xK hN e1 (z▸hi));refine⟨w,r,?_⟩;rcases l with⟨k,e⟩|⟨k,c,e,z⟩
   .exact .inl ⟨k,by simp[f,e]⟩
   .exact .inr ⟨k,c,e,z.sameBut Y (I.cne y c e)⟩
 .obtain⟨w,z⟩:=I.cell y c e;exact⟨w,z.sameBut Y (I.cne y c e)⟩
 .obtain⟨q,n,f,σ,d⟩:=I.pin p G;exact⟨(Y.2 p.1 f).trans q,n,f,σ,d⟩
 .refine(I.hok b u e).stay (λ c w a q=>(Y.2 c λ z=>?_).trans q) (λ _ q=>q) λ _ _ q=>q;subst z;have J:=I.free;rcases a with rfl|a
  .rw[J]at e;cases e
  .rw[J]at a;cases a
end
section
variable{X:Cx}{k:Nat}{x:Str}{g:List D->Option (D⊕XV)}{e0:Expr}{es:List Expr}{A:FA}{p pos:Pos}
def HL(X:Cx)(aA:List (Addr×Obj))(L:L2.St)(c:FC)(H0:Hp)(ρ':En)(y:XV)(e:Value)(s':Shared):Prop:=
 ∃C a T dd aR H',X.mg y.1=some (.ref C)/\e=.ref a/\aI X aA L H' s'/\aD H0 aR/\RS X.K c aR H' ρ' L/\r8 X aA H' a/\r8 X aA H' T/\hK s'.heap a T C dd .none/\XD X.K aR H' y.2 dd
end
theorem T8{K:Frag}(h:mroIn K c v=some b):(clsIn K c).isSome=true:=by
 unfold mroIn at h;cases e:clsIn K c with
 |none=>rw[e]at h;cases h
 |some d=>rfl
end Fx
namespace Fx
open PySem
def BX(G:FX):RX->Option RX
 |.ok (.nx U)=>G U
 |.ok (.ct U)=>G U
 |.ok (.bk U)=>some (.ok (.nx U))
 |z=>some z
def jR(g:D->En->Option En)(B:FX):List D->FX
 |[],U=>some (.ok (.nx U))
 |d::r,U=>aF (g d U) λ q=>aF (B q) λ z=>BX (jR g B r) z
theorem NQ(g:D->En->Option En)(B:FX)(U:En):jR g B [] U=some (.ok (.nx U)):=rfl
theorem Fp(g:D->En->Option En)(B:FX)(d:D)(r:List D)(U:En):jR g B (d::r) U=aF (g d U) λ q=>aF (B q) λ z=>BX (jR g B r) z:=rfl
open PySem.W PySem.Spec PyProof.Rows L2
def wX(X:Cx)(E:XK)(e:Value)(s':Shared):Prop:=∃L H1 a C dd,e=.ref a/\aI X [] L H1 s'/\H1 a=none/\X.s₀.heap.get? a=none/\((∃vs,s'.heap.get? a=some (eg (.ref C) vs dd)/\vs[1]?=some .none)\/∃T q,(q=.none\/q=rawInt X.env.locals)/\H1 T=none/\X.s₀.heap.get? T=none/\hK s'.heap a T C dd q)/\E (.ref C) dd H1
section
theorem vc(Y:X.pn=[])(I:aI X [] L H s)(q:s.heap.get? a=some (eg c vs dd))(h:H a=none)(n:X.s₀.heap.get? a=none):r8 X [] H a:=by
 refine⟨h,λ z=>?_,.inr n,λ x Z e z=>?_,λ p m=>?_⟩
 .obtain⟨m,⟨o,es,b,J,d,_⟩,_⟩:=I.loc;rw[<-z,q]at J;cases J;cases d
 .obtain⟨v,o,J,d⟩:=I.cell x Z e;rw[z,q]at J;cases J;cases d
 .rw[Y]at m;cases m
theorem Sr(Y:X.stack=X.env::X.outer)(J:X.env.frame=some X.env.locals)(hx:X.ex=[])(hp:X.pn=[]):PassesOwn (model X.prog X.w) X.A X.env (wX X E):=by
 rintro e s' ⟨L,H1,a,C,dd,rfl,I,h,j,x,q⟩;have fr:=I.ok.frames;rw[Y]at fr;have st:=I.stack;rw[Y]at st;have p:∀b,s'.heap.get? b=none->X.s₀.heap.get? b=none:=λ b z=>by
  cases w:X.s₀.heap.get? b with
  |none=>rfl
  |some o=>
   obtain⟨G,r⟩:=I.base.there b o w (by rw[hx];intro y;cases y);rw[z]at r;cases r
 have k:∀(h':Heap)(T:Addr),aI X [] L H1 {s' with heap:=h'}->H1 T=none->X.s₀.heap.get? T=none->hK h' a T C dd (rawInt X.env.locals)->cameBackBy (model X.prog X.w) X.A X.env (wX X E) (.ref a) {s' with heap:=h'}:=λ h' T l d f Z=>by
  unfold cameBackBy;rw[J];refine TV Z λ F v s=>⟨L,H1,a,C,dd,rfl,?_,h,j,.inr ⟨T,_,.inr rfl,d,f,s⟩,q⟩
  obtain⟨_,_,B,i,_⟩:=id Z;exact oK (es:=[T]) l (Aw.of λ b o n z=>(v.2 b (by simpa using n)).trans z) (by simpa using vc hp l i d f)
 rcases x with⟨D,g,u⟩|⟨T,_,rfl|rfl,d,f,Z⟩
 .refine Ds fr st J g u λ h' T c z Z=>?_;have dT:=yu z;rw[<-Y]at c;exact k h' T (oK I c (by simpa using vc hp I g h j)) (wK I.hok dT) (p T dT) Z
 .obtain⟨_,⟨D,g,_⟩,B,i,_⟩:=id Z;refine wY fr st J Z λ h' m c z t=>?_;have dT:=yu z;rw[<-Y]at c;exact k h' m (oK I c (by simpa using⟨vc hp I g h j,vc hp I i d f⟩)) (wK I.hok dT) (p m dT) t
 .exact DW J Z (k s'.heap T I d f Z)
end
section
variable{K:Frag}
abbrev pN(P:Program)(w:World)(K:Frag)(mg:Str->Option Value)(base:Heap)(N:List Str)(qual:Str)(scope:Scope)(f:Addr)(cd:Value)(A:Around)(outer:List Env)(s:Shared)(H:Hp)(E:XK):Cx:=
 (fS (hJ P w) P w K mg base N qual scope f cd A outer s H E).wish (wX (fS (hJ P w) P w K mg base N qual scope f cd A outer s H E) E)
theorem Q_:PassesOwn (model P w) (pN P w K mg base N qual scope f cd A outer s H E).A (pN P w K mg base N qual scope f cd A outer s H E).env (pN P w K mg base N qual scope f cd A outer s H E).xe:=
 Sr rfl rfl rfl rfl
theorem PJ:zS (pN P w K mg base N qual scope f cd A outer s H E) E:=λ aA L H1 c e C dd b I Y Z J a q=>⟨L,H1,e,C,dd,rfl,(I.pins_of (pins':=[]) λ p z=>nomatch z).unwish,Y,Z,.inl ⟨b,J,a⟩,q⟩
theorem Sa(h:d8 (pN P w K mg base N qual scope f cd A outer s H E) sts t):d8 (fS (hJ P w) P w K mg base N qual scope f cd A outer s H E) sts t:=λ aA d L H1 D I b=>
 zy (h aA d L H1 D (I.wish _) b) (λ _ _ q=>q.unwish) λ e s' J=>by
  obtain⟨L,H1,a,C,dd,Z,I,Y,c,g,q⟩:=J;subst Z;exact Ng I Y c g q
end
theorem TR{K:Frag}{st:Stmt}(F:ic K x qual st f fd)(S:aG N ps (aX st))(J:ps.length=n)(hN:N.length=n+m)(Z:∀(q:Value)(A:Around)(outer:List Env)(s:Shared)(H:Hp)(E:XK),bJ k (A.deeper (envOfC qual (aX st) s.heap.objs.size f q))->XX (pN P w K mg base N qual (aX st) f q A outer s H E) E (fZ st) B):cB P w K mg base (hJ P w) (k+1) f fd ps (wz K mg (nK n m B)):=TU F S J hN λ q A outer s H E Y=>Sa (Z q A outer s H E Y)
section
variable{X:Cx}{E:XK}{A:FA}{B:FX}{F:FE}{k:Nat}{x:Str}{g:List D->Option (D⊕XV)}{e0:Expr}{es:List Expr}{p pos p6:Pos}
theorem Oh:cZ (hJ X.prog X.w) X E0:=λ _ _ _ _ _ _ _ q=>by
 obtain⟨_,_,_,_,_,_,_,_,_,_,_,_,_,_,_,q⟩:=q;exact q.elim
end
open Builtin.ObjectAttr
def m3:List Value->Bool
 |[]=>false
 |v::r=>v::r==bmV||match v with
  |.ref _=>m3 r
  |_=>false
theorem bp1(h:m3 (v::r)=true):v::r=bmV\/∃c,v=.ref c/\m3 r=true:=by
 rcases Bool.or_eq_true_iff.mp h with h|h
 .grind
 .grind
theorem ES(self:Value):∀{l:List Value},m3 l=true→refuseLoop self "__setattr__" l=pure ()∧l.contains (.type "object")=true
 |[],e=>nomatch e
 |v::r,e=>by
  rcases bp1 e with h|⟨c,rfl,h⟩
  .rw[h];exact⟨PySem.F.store_ValueError.passes self,by decide⟩
  .obtain⟨a,b⟩:=ES self h;exact⟨(refuseLoop_ref ..).trans a,by grind⟩
section
variable{K:Frag}
structure kE(K:Frag)(C:Addr)(name:Str):Prop where
 sa:findIn K (.ref C) "__setattr__"=some (some (.builtin "object.__setattr__"))
 na:findIn K (.ref C) name=some none
 cl:∃cd,clsIn K C=some cd/\m3 cd.mro=true/\cd.hasDict=true
theorem Mz(X:K.In s.heap)(f:kE K C name)(he:s.heap.get? e=some (eg (.ref C) vs))(h:∀h' dx tk,dx=s.heap.objs.size->h'.get? e=some (eg (.ref C) vs (some dx))->h'.Ns1 dx (λ y=>if y=name then some v else none)->(∀b o,b≠e->s.heap.get? b=some o->h'.get? b=some o)->dx≠e->Q () {s with heap:=h',toks:=tk}):wpAny (model prog w) A (setAttr (.ref e) name v) Q E s:=by
 obtain⟨J,g,d,t,os⟩:=s;have I:InstAt J e (eg (.ref C) vs) C none:=⟨he,rfl,rfl,trivial⟩;refine aW f.cl λ c l j hd=>?_;obtain⟨G,H⟩:=ES (.ref e) j;have D:c.mro.isEmpty=false:=by
  cases z:c.mro with
  |nil=>rw[z]at j;cases j
  |cons _ _=>rfl
 have Y:=PySem.F.store_object;have a:=I.type (M:=model prog w);have k:=looks_clsIn (M:=model prog w) X l;have sub:Looks (model prog w) J (isInstance (.ref e) (.type "object")) true:=a.andThen (looks_mroIn X (by unfold mroIn;rw[l,Option.bind_some,D,H];rfl));have B:Looks (model prog w) J (mroOf (.ref C)) c.mro:=k.andThen .now;have r:=looks_findIn (M:=model prog w) X f.na;refine set_plain X I f.sa ?_;refine Yp Y.slot.plain Y.entry (@check_slot (model prog w) _ _ ⟨J,g,d,t+1,os⟩ "object.__setattr__" "object" "__setattr__" (.ref e) [.str name t,v] [] _ Y.kind Y.split sub (Y.args (.ref e) (.str name t) v) ?_);rw[osa_eq,refuse_eq];refine qb (qb (a.at (qb (B.at ?_))));rw[G];refine qc (qb (a.at (qb (r.at (qb (qc ?_))))));refine qb (qc (qb (qb (wpAny_loadPart he (qb (k.at ?_))))));rw[hd];have big:=qr (qm he);have Z:=qd {cls:=.type "dict",data:=.dict #[]} he;refine qb (wpAny_alloc' (qb (wpAny_update' Z (qc ?_))));generalize i:(J.push {cls:=.type "dict",data:=.dict #[]}).update e (λ o=>{o with dict:=some J.objs.size})=ρ;have u:ρ.get? J.objs.size=some {cls:=.type "dict",data:=.dict #[]}:=by rw[<-i];exact(Heap.get?_update_ne _ _ _ _ big.symm).trans (Heap.get?_push_at rfl rfl)
 have x:ρ.get? e=some (eg (.ref C) vs (some J.objs.size)):=by rw[<-i];exact zr _ Z rfl
 have go:∀b o,b≠e->J.get? b=some o->ρ.get? b=some o:=λ b o n q=>by
  rw[<-i];exact(Heap.get?_update_ne _ _ _ _ n).trans (qd _ q)
 have nd:ρ.Ns J.objs.size (λ _=>none):=⟨_,#[],_,u,rfl,λ _ z=>absurd z (by simp),λ _=>rfl⟩;show wpAny _ _ (storeInDict J.objs.size (.str name t) name v) _ _ _;refine qb (qc (qb (wpAny_nsSet1 (Heap.Ns1.of_empty nd) λ h' m p=>?_)));refine d7 (m.count (Within.cons name v Within.nil)) λ R es P σ N O=>?_;refine qb (wpAny_lookBehind σ ?_ (qc ?_))
 .rw[N];exact pastItsLine_dict (zc O (show 1<=sizeLine+1 by decide))
 .exact h h' J.objs.size _ rfl ((p.2 e big).trans x) m (λ b o n q=>(p.2 b (qr (qm q))).trans (go b o n q)) big.symm
end
noncomputable abbrev i7(e:Addr)(o:Obj):HO:=.ext λ h=>h.get? e=some o
theorem EL(q:h.get? e=some o):aZ P w H h e (i7 e o):=⟨q,⟨o,q⟩,λ _ _ a k=>k o a⟩
section
def QQ(K:Frag)(ta tv:TE)(f:Str):TS:=λ Dn L H=>tv L H λ y H1=>ta L H1 λ x H2=>∃e C vs,x=.ref e/\kE K C f/\H2 e=some (i7 e (eg (.ref C) vs))/\∀dx,H2 dx=none->dx≠e->Dn.nx L (upd (upd H2 dx (.xd [(f,y)])) e (i7 e (eg (.ref C) vs (some dx))))
theorem N7(ha:PE X o ta)(hv:PE X value tv)(hs:swapsWith value (some (.Attribute o f pos')) pos.line X.env=pure false):PS X (.Assign [.Attribute o f pos'] value pos) (QQ X.K ta tv f):=by
 intro aA s L H D I h;refine plainObj_wpAny_Assign_Attribute (bN (hv aA s L H _ I h) λ u G=>dJ λ y H1 k F q=>bN (ha aA G L H1 _ k q) λ w a=>dJ λ x d J E A=>?_) hs;obtain⟨e,C,j,rfl,c,Z,B⟩:=A;obtain rfl:w=.ref e:=E;obtain⟨q,_,_⟩:=(show aZ _ _ d a.heap e (i7 e (eg (.ref C) j))from J.hok e _ Z);refine Mz J.kIn c q λ h' dx σ p g t v i=>?_;subst p;have fr:=J.fresh;obtain⟨Y,es,r,k1,k2⟩:=id t;have l:aI X aA L (upd d a.heap.objs.size (.xd [(f,y)])) {a with heap:=a.heap.push Y}:=by
  refine J.laid (t':=a.toks) (λ b u z=>qd _ z) (qj _) ⟨_,⟨Y,es,r,qk _ ?_,k2⟩,λ n=>?_⟩
  .exact(Heap.get?_some_iff.mp k1).2
  .by_cases z:n=f
   .subst z;simpa [List.lookup,dP]using F
   .simp[List.lookup,beq_false_of_ne z,z,dP]
 have m:=l.write (t':=σ) (x:=e) (e:=e) (o:=i7 e (eg (.ref C) j (some a.heap.objs.size))) (h':=h') (by rw[a_ i.symm,Z];trivial) (.inl rfl) (λ b u n z=>?_) ⟨_,g⟩ (EL g)
 .exact⟨L,_,m,B _ fr i⟩
 .rcases Yu z with⟨rfl,rfl⟩|z
  .exact k1
  .exact v b u n z
end
end Fx
namespace Fx
open PySem PySem.W PySem.Spec PyProof.Rows L2
section
variable{prog:Program}{w:World}{A:Around}{E:Value->Shared->Prop}{h:Heap}{g:Array GenState}{d:Drawn}{t:Nat}{os:OsState}
variable{nm qn:Str}{C N fI:Addr}{bs bm:List Value}{hd:Bool}{sn:List Str}{sub:List Value}{ab:Bool}{col:Option Bool}{dd:Option Addr}{k0 k1 k2 k3 k5:Option Value}{mN:Str->Option Value}{oI:Obj}{us:List Value}
noncomputable abbrev pM(nm qn:Str)(C N:Addr)(bs bm:List Value)(hd:Bool)(sn:List Str)(sub:List Value)(ab:Bool)(col:Option Bool)(dd:Option Addr)(k0 k1 k2 k3 k5:Option Value):Obj:=excClassObj nm qn C N bs bm hd sn sub ab col dd k0 k1 k2 k3 k5 "ValueError.__new__"
theorem SS(T:OwnTail h bmV bm)(J:h.get? C=some (pM nm qn C N bs bm hd sn sub ab col dd k0 k1 k2 k3 k5))(nN:h.Ns N mN)(hi:mN "__init__"=some (.ref fI))(gI:h.get? fI=some oI)(cI:oI.cls=.type "function")(hz:us.length≤sizeLine)(go:∀h' e,h.objs.size<=e->Heap.MadeExcOf h h' e (.ref C) us->wpAny (model prog w) A (call (.ref fI) (.ref e::us)) (λ r s'=>r=.none/\Q (.done (.ret (.ref e))) s') E ⟨h',g,d,t,os⟩):wpAny (model prog w) A (Builtin.«type.__call__» ⟨.ref C::us,[]⟩) Q E ⟨h,g,d,t,os⟩:=by
 have B:=F.excBase_ValueError;have Y:bmV.contains (.type "ValueError")=true:=by decide
 repeat (first
  |with_reducible refine Q6 J ?_
  |with_reducible refine wpAny_madeBy_exc J ?_
  |wp_step)
 refine codeAny_call_builtin_code (Code.quiet_builtin _ B.quiet) (wpAny_check_new_subU B Y T J ?_);refine codeAny_exc_new_subU B Y B T J ?_ hz;have up:∀b o,h.get? b=some o→((h.push {cls:=.type "tuple",data:=.seq us.toArray}).push {cls:=.ref C,data:=.fields #[.ref h.objs.size,.none,.none,.none,.bool false,.none]}).get? b=some o:=λ b o q=>qd _ (qd _ q);have a:((h.push {cls:=.type "tuple",data:=.seq us.toArray}).push {cls:=.ref C,data:=.fields #[.ref h.objs.size,.none,.none,.none,.bool false,.none]}).get? (h.objs.size+1)=some {cls:=.ref C,data:=.fields #[.ref h.objs.size,.none,.none,.none,.bool false,.none]}:=Heap.get?_push_at (by rw[Zu]) rfl;have f:((h.push {cls:=.type "tuple",data:=.seq us.toArray}).push {cls:=.ref C,data:=.fields #[.ref h.objs.size,.none,.none,.none,.bool false,.none]}).get? h.objs.size=some {cls:=.type "tuple",data:=.seq us.toArray}:=qd _ (qk _ rfl);generalize (h.push {cls:=.type "tuple",data:=.seq us.toArray}).push {cls:=.ref C,data:=.fields #[.ref h.objs.size,.none,.none,.none,.bool false,.none]}=ρ at*;have Z:=up _ _ J;have i:ρ.Ns N mN:=let ⟨o,es,ep,q,r⟩:=nN;⟨o,es,ep,up _ _ q,r⟩;have c:=T.keeps up;have self:(Value.ref C::bm).contains (.ref C)=true:=by simp
 repeat (first
  |with_reducible refine Q6 a ?_
  |(with_reducible refine wpAny_isSubtype_exc Z ?_;rw[self])
  |wp_step)
 refine wpAny_typeLookup_tail Z i c B.mroIs B.init.lookup ?_;rw[hi];refine z0 (qb ?_);refine qb (Zn ⟨_,up _ _ gI,cI⟩ ?_);rw[if_pos (by decide)];refine qc (qb (zy (go ρ (h.objs.size+1) (Q4 _) ⟨up,yu (Q4 _),h.objs.size,a,yu (qj _),f⟩) (λ r s' z=>?_) λ _ _ z=>z));obtain⟨rfl,z⟩:=z;wp_walk;exact z
theorem Rp(T:OwnTail h bmV bm)(q:h.get? C=some (pM nm qn C N bs bm hd sn sub ab col dd k0 k1 k2 k3 k5))(Y:h.Ns N mN)(hi:mN "__init__"=some (.ref fI))(J:h.get? fI=some oI)(Z:oI.cls=.type "function")(hz:us.length≤sizeLine)(go:∀h' e,h.objs.size≤e→Heap.MadeExcOf h h' e (.ref C) us→wpAny (model prog w) (A.under (.builtin "type.__call__" ⟨.ref C::us,[]⟩)) (call (.ref fI) (.ref e::us)) (λ r s'=>r=.none∧Q (.ref e) s') E ⟨h',g,d,t,os⟩):wpAny (model prog w) A (call (.ref C) us) Q E ⟨h,g,d,t,os⟩:=by
 have a:=tc_lookup;have b:=tc_bind (.ref C);have ty:(⟨h,g,d,t,os⟩:Shared).TypeIs (.ref C) "type":=⟨_,q,rfl⟩;refine Yd (codeAny_of_tree ?_)
 repeat (any_goals (first
  |assumption
  |with_reducible refine Q6 q ?_
  |wp_step))
 refine⟨rfl,codeAny_call_builtin_at (Code.quiet_builtin _ (by decide+kernel)) entry_typeCall (wpAny_check_type_call_sub q (SS T q Y hi J Z hz λ h' e z m=>?_))⟩;exact go h' e z m
end
section
variable{sub:List Value}
theorem RN(hb:bm.contains (.type "BaseException")=true)(hh:A.handled=none)(h:wpAny (model prog w) A x (λ v s1=>∃e t od,v=.ref e/\s1.heap.get? C=some (pM nm qn C N bs bm hd sn sub ab col dd k0 k1 k2 k3 k5)/\s1.heap.get? e=some (eg (.ref C) #[.ref t,.none,.none,.none,.bool false,.none] od)/\E (.ref e) s1) E s):wpAny (model prog w) A (raiseStmt env (some x) none) Q E s:=by
 have a:(Value.ref C::bm).contains (.type "BaseException")=true:=by grind
 refine qb (zy h (λ v s1 z=>?_) λ _ _ z=>z);obtain⟨e,t,od,rfl,Y,J,q⟩:=z;obtain⟨Z,g,d,b,os⟩:=s1;have J:Z.get? e=some {cls:=.ref C,dict:=od,data:=.fields #[.ref t,.none,.none,.none,.bool false,.none],slots:=#[]}:=J
 repeat (first
  |with_reducible refine Q6 J ?_
  |with_reducible refine Q6 Y ?_
  |(with_reducible refine wpAny_isSubtype_exc Y ?_;rw[a])
  |wp_step)
 exact wpAny_raiseNew_none hh q
theorem SY(hb:bm.contains (.type "BaseException")=true)(hh:A.handled=none)(Y:(backTo cpos (starEach args env)).any (·.1)=false)(h:wpAny (model prog w) A (eval (.Name x np) env) (λ f s1=>f=.ref C/\wpAny (model prog w) A (evalArgs (.ref C) true (backTo cpos (starEach args env)) [])
   (λ a s2=>a.kw=[]∧a.pos.length≤sizeLine∧s2.heap.get? C=some (pM nm qn C N bs bm hd sn sub ab col dd k0 k1 k2 k3 k5)∧s2.heap.Ns N mN∧mN "__init__"=some (.ref fI)∧s2.heap.get? fI=some oI∧oI.cls=.type "function"∧OwnTail s2.heap bmV bm∧∀h' e,s2.heap.objs.size≤e→Heap.MadeExcOf s2.heap h' e (.ref C) a.pos→wpAny (model prog w) (A.under (.builtin "type.__call__" ⟨.ref C::a.pos,[]⟩)) (call (.ref fI) (.ref e::a.pos)) (λ r J=>r=.none∧J.heap.get? C=some (pM nm qn C N bs bm hd sn sub ab col dd k0 k1 k2 k3 k5)∧(∃t od,J.heap.get? e=some (eg (.ref C) #[.ref t,.none,.none,.none,.bool false,.none] od))/\E (.ref e) J) E {s2 with heap:=h'}) E s1) E s):wpAny (model prog w) A (exec (.Raise (some (.Call (.Name x np) args [] cpos)) none pos) env) Q E s:=by
 rw[arm_exec_Raise];refine qb (Qy (RN hb hh (C:=C) (nm:=nm) (qn:=qn) (N:=N) (bs:=bs) (hd:=hd) (sn:=sn) (sub:=sub) (ab:=ab) (col:=col) (dd:=dd) (k0:=k0) (k1:=k1) (k2:=k2) (k3:=k3) (k5:=k5) ?_));refine qb (zy (wpAny_Call_ofName (zy h (λ f s1 z=>?_) λ _ _ z=>z)) (λ v J z=>qb (Qy (qc z))) λ _ _ z=>z);obtain⟨rfl,z⟩:=z;refine qb (z0 (zy z (λ a s2 y=>qb (Qy ?_)) λ _ _ z=>z));obtain⟨us,kw⟩:=a;obtain⟨rfl,k,Z,l,hi,i,c,T,go⟩:=y;obtain⟨n,g,d,o,os⟩:=s2;simp only[Y];refine qb (wpAny_keeperOf_exc Z (qb (Rp T Z l hi i c k λ h' e y m=>zy (go h' e y m) (λ r J y=>⟨y.1,?_⟩) λ _ _ z=>z)));obtain⟨_,b,⟨t,od,j⟩,q⟩:=y;exact qb (z0 (wpAny_point (qc ⟨e,t,od,rfl,b,j,q⟩)))
end
def pe(K:Frag)(C fI:Addr):Bool:=
 match K.lookup C with
 |some ⟨.type "type",_,.cls c,sl⟩=>
  (match c.mro,sl.toList with
  |.ref C'::bm,[_,_,_,_,some (.builtin n),_]=>C'==C&&n=="ValueError.__new__"&&!c.hasDel&&tailIn K bmV bm&&nsOkIn K c.ns&&nsIn K c.ns "__init__"==some (some (.ref fI))&&(K.lookup fI).any λ o=>o.cls==.type "function"
  |_,_=>false)
 |_=>false
theorem Rg{K:Frag}(X:K.In h)(G:h.Ns N m)(e:nsIn K N x=some (some v)):m x=some v:=by
 obtain⟨o,es,a,Z,hd,_,Y⟩:=G;unfold nsIn at e;split at e
 case h_2=>cases e
 case h_1 q=>
  have z:=X _ _ q;rw[Z]at z;cases z;cases hd;split at e
  .rename_i J;cases e;rw[<-Y];unfold nsFind findBy;rw[<-Array.find?_toList,J];rfl
  .split at e<;>cases e
theorem Nt{K:Frag}(X:K.In h)(x:pe K C fI=true):∃bm N nm q bs hd sn sub ab col dd k0 k1 k2 k3 k5 m oI,h.get? C=some (pM nm q C N bs bm hd sn sub ab col dd k0 k1 k2 k3 k5)∧h.Ns N m∧m "__init__"=some (.ref fI)∧OwnTail h bmV bm∧h.get? fI=some oI∧oI.cls=.type "function":=by
 revert x;unfold pe;intro x;split at x
 case h_2=>simp at x
 case h_1 dd c a l=>
  split at x
  case h_2=>simp at x
  case h_1 C' bm k0 k1 k2 k3 n k5 e1 e2=>
   simp only[zd,Yz,Bool.not_eq_true']at x;obtain⟨⟨⟨⟨⟨⟨u,v⟩,w⟩,y⟩,d⟩,z⟩,A⟩:=x;have Y:=X C _ l;obtain⟨e,f,D,b,g,i,j,k,p,Z,B⟩:=c;obtain⟨a⟩:=a;subst e1;subst u;subst v;subst w;cases(show a=_ from e2);have J:∃oI,h.get? fI=some oI∧oI.cls=.type "function":=by obtain⟨o,s,t⟩:=any_some A;exact⟨o,X fI o s,beq_iff_eq.mp t⟩
   obtain⟨oI,J,r⟩:=J;exact⟨bm,b,e,g,f,i,j,k,p,Z,dd,k0,k1,k2,k3,k5,h.nsMap b,oI,Y,.of_isNs (isNs_of_in X d),Rg X (.of_isNs (isNs_of_in X d)) z,tail_of_in X y,J,r⟩
def nA(H:Hp)(e:Addr):Hp:=λ b=>if b=e then none else H b
theorem yD(h:b≠e):nA H e b=H b:=if_neg h
theorem F3:nA H e e=none:=if_pos rfl
section
variable{X:Cx}{aA:List (Addr×Obj)}{L:L2.St}{H:Hp}{s:Shared}
theorem Sf(I:aI X aA L H s)(Z:H e=some (.ext Y)):aI X aA L (nA H e) s:=by
 have un:=I.base;have no:∀b,H b=none->nA H e b=none:=λ b z=>by grind[nA]
 have is:∀b u,H b=some u->(∀g,u≠.ext g)->nA H e b=some u:=λ b u z n=>by
  rw[yD λ y=>by grind];exact z
 refine⟨I.ok,I.os,I.bare,⟨un.keep,un.slot,λ b o q n x=>no b (un.free b o q n x),un.there,λ b xs q=>is b _ (un.tups b xs q) (λ _ z=>nomatch z),λ b o u q=>is b _ (un.frzs b o u q) (λ _ z=>nomatch z),λ b ps q=>?_⟩,I.loc,I.cell,no _ I.free,λ x c q=>no c (I.freeC x c q),λ p a=>?_,λ b u q=>?_,I.len⟩
 .obtain⟨J,f⟩:=un.tbls b ps q;exact⟨J,is b _ f λ _ z=>nomatch z⟩
 .obtain⟨q,n,z⟩:=I.pin p a;exact⟨q,no _ n,z⟩
 .have d:b≠e:=λ y=>by subst y;rw[F3]at q;simp at q
  rw[yD d]at q;exact(I.hok b u q).stay (λ _ _ _ z=>z) (λ c z=>is c _ z λ _ y=>nomatch y) λ c xs z=>is c _ z λ _ y=>nomatch y
end
def wu(K:Frag)(f:Str):Sp:=λ vs H Q _=>∃e v C us,vs=[.ref e,v]/\kE K C f/\H e=some (i7 e (eg (.ref C) us))/\∀dx,H dx=none->dx≠e->Q .non (upd (upd H dx (.xd [(f,v)])) e (i7 e (eg (.ref C) us (some dx))))
theorem Sg{K:Frag}{st:Stmt}(Fu:ic K x qual st fI fd)(S:aG ["self",f] ["self",f] (aX st))(hn:("self":Str)≠f)(hb:fZ st=[.Assign [.Attribute (.Name "self" p1) f p2] (.Name f p3) pos])(hs:∀(J:Value)(A:Around)(outer:List Env)(s:Shared)(H:Hp)(E:XK),swapsWith (.Name f p3) (some (.Attribute (.Name "self" p1) f p2)) pos.line (fS CX P w K mg base ["self",f] qual (aX st) fI J A outer s H E).env=pure false)(h1:cH f)(h2:er f):cB P w K mg base CX 1 fI fd ["self",f] (wu K f):=by
 obtain⟨r,t,kV,k,u,l,J,o,j,rfl,d,Z⟩:=Fu.ex;refine AX d Z S (λ g H Q E h=>?_) λ A outer s H g Q E p h=>?_
 .obtain⟨e,v,C,us,rfl,_⟩:=h;rfl
 .obtain⟨e,v,C,us,rfl,c,a,q⟩:=h;rw[hb];have Y:∀y∈(["self",f]:List Str),fh (fS CX P w K mg base ["self",f] qual (aX st) fI J A outer s H E).env.scope y:=λ y b=>(S.par y b).imp id .inl;refine⟨_,nY (N7 (eI (i:=0) rfl (Y _ (by simp)) (by decide) (by decide)) (eI (i:=1) rfl (Y _ (by simp)) h1 h2) (hs ..)),?_⟩;exact⟨v,rfl,.ref e,rfl,e,C,us,rfl,c,a,λ dx n m=>q dx n m⟩
def Hy(P:V->Hp->Prop):List V->Hp->Prop
 |[v],H=>P v H
 |_,_=>False
theorem RZ:∀{vs:List V},Hy P vs H->∃v,vs=[v]/\P v H
 |[v],h=>⟨v,rfl,h⟩
 |[],h=>h.elim
 |_::_::_,h=>h.elim
section
theorem PM(hR:zS X E)(hc:X.calm=true)(ac:X.ex=[])(hm:X.mg x=some (.ref C))(hx:pe X.K C fI=true)(h1:kE X.K C f)(Fk:cB X.prog X.w X.K X.mg X.base (hJ X.prog X.w) k fI fd ["self",f] (wu X.K f))(hr:bJ (k+1) X.A)(Z:cV X.K fd ["self",f] [])(ha:PE X a ta)(hg:Gl X x)(hd:cH x)(hs:starEach [a] X.env=[(false,eval a X.env)]):PS X (.Raise (some (.Call (.Name x np) [a] [] cpos)) none pos) (λ _ L H=>ta L H λ v H1=>∀dx,H1 dx=none->E (.ref C) (some dx) (upd H1 dx (.xd [(f,v)]))):=by
 intro aA s L H D I q;obtain⟨bm,N,nm,qn,bs,W,sn,sub,ab,col,dd,k0,k1,k2,k3,k5,m,oI,t,M,O,B,P,Q⟩:=Nt I.mod.kin hx;have G:=hs▸gq ha jD hs cpos aA s L H (Hy λ v H'=>∀dx,H' dx=none->E (.ref C) (some dx) (upd H' dx (.xd [(f,v)]))) I q;refine SY (nm:=nm) (qn:=qn) (N:=N) (bs:=bs) (hd:=W) (sn:=sn) (sub:=sub) (ab:=ab) (col:=col) (dd:=dd) (k0:=k0) (k1:=k1) (k2:=k2) (k3:=k3) (k5:=k5) (fI:=fI) (oI:=oI) (mN:=m) (B.hasType (by decide)) (I.ok.hd hc) (by rw[hs];rfl) (oe I hg hm ⟨rfl,hs▸Yv (bN G λ us s2 z=>?_)⟩ hd);obtain⟨vs,d,Y,r,z⟩:=z;obtain⟨v,rfl,q2⟩:=RZ z;obtain⟨u,rfl,ru⟩:=h8 r;refine⟨rfl,(show 1<=sizeLine by decide),Y.bk C _ t,M.keeps Y.bk,O,Y.bk fI _ P,Q,B.keeps Y.bk,λ h' e z mk=>?_⟩;obtain⟨c,ρ,_,_⟩:=mk.there;have J:=Y.laid (t':=s2.toks) mk.keeps z (EL ρ);have e0:=Y.hok.fresh z;have r2:aQ [V.ref e,v] [Value.ref e,u]:=.cons rfl (.cons ru .nil);have sp:wu X.K f [.ref e,v] (upd d e (i7 e (eg (.ref C) #[.ref c,.none,.none,.none,.bool false,.none]))) (λ y H'=>y=.non/\∃dx,d dx=none/\dx≠e/\H'=upd (upd (upd d e (i7 e (eg (.ref C) #[.ref c,.none,.none,.none,.bool false,.none]))) dx (.xd [(f,v)])) e (i7 e (eg (.ref C) #[.ref c,.none,.none,.none,.bool false,.none] (some dx)))) E0:=
  ⟨e,v,C,_,rfl,h1,bT,λ dx n h=>⟨rfl,dx,by rwa [a_ h]at n,h,rfl⟩⟩
 refine Yd (Qs (Fk.run _ X.stack _ _ ⟨[.ref e,u],[]⟩ [.ref e,u] _ _ E0 (hr.make C [u] []) (J.env0.make C [u] []) (Z _ [.ref e,u] J.kIn rfl) r2 sp) λ rr s' g=>?_);cases rr with
 |error R=>exact Oh aA L _ _ R s' J g
 |ok T=>
  cases T with
  |ret y=>
   obtain⟨y',H',l,rv,S,dx,σ,h,j⟩:=J.after g;subst S j;obtain rfl:y=.none:=rv;have p:=(show aZ _ _ _ s'.heap e (i7 e _)from l.hok e _ bT).1;have i:=Sf l bT;have j:nA (upd (upd (upd d e (i7 e (eg (.ref C) #[.ref c,.none,.none,.none,.bool false,.none]))) dx (.xd [(f,v)])) e (i7 e (eg (.ref C) #[.ref c,.none,.none,.none,.bool false,.none] (some dx)))) e=upd d dx (.xd [(f,v)]):=by
    funext b;by_cases Z:b=e
    .subst Z;rw[F3,a_ h.symm,e0]
    .rw[yD Z,a_ Z];by_cases hd:b=dx
     .subst hd;rw[bT,bT]
     .rw[a_ hd,a_ hd,a_ Z]
   rw[j]at i;refine⟨rfl,i.bk C _ t,⟨c,some dx,p⟩,hR aA L _ s' e C (some dx) _ i (by rw[a_ h.symm];exact e0) ?_ p rfl (q2 dx σ)⟩;cases w0:X.s₀.heap.get? e with
   |none=>rfl
   |some o=>
    obtain⟨o',F⟩:=Y.base.there e o w0 (by rw[ac];intro z;cases z);rw[yu z]at F;cases F
  |next=>exact False.elim g
  |brk=>exact False.elim g
  |cont=>exact False.elim g
end
end Fx
namespace Fx
open PySem
noncomputable def r3:D->Bool
 |.tup [.int _,.str _,.int _]=>true
 |_=>false
noncomputable def two:D->Option (D×D)
 |.tup [a,b]=>some (a,b)
 |_=>none
def vP(U:En)(k:Str)(o:Option (Bool×List (Str×D))):Option (D×En):=aF o λ q=>gx (cy k q.2) U
def vQ(i:Nat)(U:En)(o:Option Str):Option (D×En):=aF o λ k=>vP U k (gL U[i]?)
def vR(i:Nat)(o:Option (D×En)):Option (D×En):=aF o λ p=>vQ i p.2 (kS p.1)
def vS(i:Nat)(G:FE)(U:En)(o:Option (Bool×List (Str×D))):Option (D×En):=aF o λ _=>vR i (G U)
def ki(i:Nat)(G:FE)(U:En):Option (D×En):=vS i G U (gL U[i]?)
@[simp] theorem Xx:(∀i G U,ki i G U=vS i G U (gL U[i]?))/\(∀i G U q,vS i G U (some q)=vR i (G U))/\(∀i d U,vR i (some (d,U))=vQ i U (kS d))/\(∀i U k,vQ i U (some k)=vP U k (gL U[i]?))/\(∀U k b aO,vP U k (some (b,aO))=gx (cy k aO) U):=by and_intros<;>intros<;>rfl
noncomputable def AA:Option Sl->Option (List D)
 |some (.ow false (.lst ds))=>some ds
 |_=>none
def vm(i:Nat)(U:En):Bool:=(U.set i .no).all gG
mutual
noncomputable def nl:D->Bool
 |.lst _=>false
 |.dct _ _=>false
 |.opq=>false
 |.tup xs=>eR xs
 |_=>true
noncomputable def eR:List D->Bool
 |[]=>true
 |d::r=>nl d&&eR r
end
def B4(o:Option (D×En)):Option (List D×En):=aF o λ p=>match p.1 with
 |.lst ds=>some (ds,p.2)
 |_=>none
def nQ(F:FE)(U:En):Option (List D×En):=B4 (F U)
noncomputable def lK:D->Option (List D)
 |.lst xs=>some xs
 |_=>none
def Ae(i:Nat)(U:En)(xs:List D)(o:Option (List D)):Option bM:=aF o λ ds=>if ds.length+xs.length<1000 then some (.nx (U.set i (.ow false (.lst (ds++xs)))))else none
def Af(i:Nat)(U:En)(o:Option (List D)):Option bM:=aF o λ xs=>Ae i U xs (jE U[i]?)
def Ag(i:Nat)(o:Option (D×En)):Option bM:=aF o λ p=>Af i p.2 (lK p.1)
def Ah(i:Nat)(F:FE)(U:En)(o:Option (List D)):Option bM:=aF o λ _=>Ag i (F U)
def rQ(i:Nat)(F:FE)(U:En):Option bM:=Ah i F U (jE U[i]?)
noncomputable def ij:Nat->List D->List D
 |_,[]=>[]
 |k,d::r=>.tup [.int (k:Int),d]::ij (k+1) r
def zV(g:D->En->Option En)(B:FS)(U:En)(o:Option (List D)):Option bM:=aF o λ xs=>cK g B (ij 0 xs) U
def zW(g:D->En->Option En)(B:FS)(o:Option (D×En)):Option bM:=aF o λ p=>zV g B p.2 (lK p.1)
def yK(g:D->En->Option En)(F:FE)(B:FS)(U:En):Option bM:=zW g B (F U)
@[simp] theorem XR:(∀F U,nQ F U=B4 (F U))/\(∀ds U,B4 (some (.lst ds,U))=some (ds,U))/\(∀xs,lK (.lst xs)=some xs)/\(∀i F U,rQ i F U=Ah i F U (jE U[i]?))/\(∀i F U ds,Ah i F U (some ds)=Ag i (F U))/\(∀i d U,Ag i (some (d,U))=Af i U (lK d))/\(∀i U xs,Af i U (some xs)=Ae i U xs (jE U[i]?))/\(∀i U xs ds,Ae i U xs (some ds)=if ds.length+xs.length<1000 then some (.nx (U.set i (.ow false (.lst (ds++xs)))))else none)/\(∀g F B U,yK g F B U=zW g B (F U))/\(∀g B d U,zW g B (some (d,U))=zV g B U (lK d))/\(∀g B U xs,zV g B U (some xs)=cK g B (ij 0 xs) U):=by and_intros<;>intros<;>rfl
def Wa(op:D->D->Option D)(x:D)(o:Option (D×En)):Option (D×En):=aF o λ r=>gx (op x r.1) r.2
def UB(op:D->D->Option D)(M:FE)(y:D)(U:En)(o:Option Bool):Option (D×En):=aF o λ b=>if b=true then Wa op y (M U)else some (.bl false,U)
def UC(op:D->D->Option D)(M:FE)(y:D)(U:En)(o:Option D):Option (D×En):=aF o λ z=>UB op M y U (jN z)
def Wb(op q:D->D->Option D)(M:FE)(x:D)(o:Option (D×En)):Option (D×En):=aF o λ r=>UC q M r.1 r.2 (op x r.1)
def Uz(op q:D->D->Option D)(σ M:FE)(y:D)(U:En)(o:Option Bool):Option (D×En):=aF o λ b=>if b=true then Wb op q M y (σ U)else some (.bl false,U)
def UA(op q:D->D->Option D)(σ M:FE)(y:D)(U:En)(o:Option D):Option (D×En):=aF o λ z=>Uz op q σ M y U (jN z)
def Wc(op J q:D->D->Option D)(σ M:FE)(x:D)(o:Option (D×En)):Option (D×En):=aF o λ r=>UA J q σ M r.1 r.2 (op x r.1)
def V9(op J q:D->D->Option D)(G σ M:FE)(o:Option (D×En)):Option (D×En):=aF o λ p=>Wc op J q σ M p.1 (G p.2)
def e4(op J q:D->D->Option D)(F G σ M:FE)(U:En):Option (D×En):=V9 op J q G σ M (F U)
open PySem.Spec PyProof.Rows L2
def lss(H:Hp)(a:Addr):Hp:=λ b=>if b=a then none else H b
theorem yS:lss H a a=none:=if_pos rfl
theorem m5(h:b≠a):lss H a b=H b:=if_neg h
theorem EV(h:lss H a b=some u):b≠a/\H b=some u:=by grind[yS,m5]
theorem Oi(h:AA o=some ds):o=some (.ow false (.lst ds)):=by
 unfold AA at h;split at h
 .obtain rfl:=br h;rfl
 .simp at h
section
variable{K:Frag}
theorem dH.lss(J:H a=some (.lst us))(h:dH K H b vs):dH K (lss H a) b vs:=by
 rcases h with h|h
 .refine .inl ?_;have q:b≠a:=λ e=>by
   rw[e]at h;rcases h with h|⟨o,h⟩<;>rw[J]at h<;>simp at h
  rcases h with h|⟨o,h⟩
  .exact .inl (by rw[m5 q];exact h)
  .exact .inr ⟨o,by rw[m5 q];exact h⟩
 .exact .inr h
mutual
theorem aS.lss(q:H a=some (.lst us)):∀(d:D){v:V},nl d=true->aS K H d v->aS K (lss H a) d v
 |.non,_,_,h=>by unfold aS at h⊢;exact h
 |.bl _,_,_,h=>by unfold aS at h⊢;exact h
 |.int _,_,_,h=>by unfold aS at h⊢;exact h
 |.str _,_,_,h=>by unfold aS at h⊢;exact h
 |.tup ds,_,n,h=>by
  unfold aS at h⊢;obtain⟨b,vs,e,s,r⟩:=h;exact⟨b,vs,e,dH.lss q s,aB.lss q ds n r⟩
 |.lst _,_,n,_=>by cases n
 |.opq,_,n,_=>by cases n
 |.dct _ _,_,n,_=>by cases n
theorem aB.lss(q:H a=some (.lst us)):∀(ds:List D){vs:List V},eR ds=true->aB K H ds vs->aB K (lss H a) ds vs
 |[],_,_,h=>by unfold aB at h⊢;exact h
 |d::r,_,n,h=>by
  unfold eR at n;rw[zd]at n;unfold aB at h⊢;obtain⟨v,J,e,h1,h2⟩:=h;exact⟨v,J,e,aS.lss q d n.1 h1,aB.lss q r n.2 h2⟩
end
end
section
variable{K:Frag}
theorem RS.asList(R:RS K c H0 H U L)(hi:U[i]?=some (.ow false (.lst ds))):∃a vs,L[i]?=some (some (.ref a))/\H0 a=none/\c.He a=none/\H a=some (.lst vs)/\aB K H0 ds vs/\aD H0 (upd H0 a (.lst vs))/\RS K c (upd H0 a (.lst vs)) H (U.set i (.im (.lst ds))) L:=by
 obtain⟨a,x,y,z,vs,e,r⟩:=R.ow i _ _ hi;have w:=z;have B:=(List.getElem?_eq_some_iff.mp hi).1;have Z:aD H0 (upd H0 a (.lst vs)):=λ b u q=>by grind[a_]
 have Y:∀{j:Nat}{sl:Sl},j≠i->(U.set i (.im (.lst ds)))[j]?=some sl->U[j]?=some sl:=λ J e=>by grind
 have f:∀{sl:Sl},(U.set i (.im (.lst ds)))[i]?=some sl->sl=.im (.lst ds):=λ e=>by
  rw[zl B]at e;exact(qi e).symm
 refine⟨a,vs,x,y,w,e,r,Z,λ b u q=>?_,R.init.trans Z,λ b u q=>?_,R.keep,R.apt,by rw[yf];exact R.len,λ j t q=>?_,λ j bb d q=>?_,λ j k p s d o b e1 e2 e3 e4=>?_⟩
 .by_cases h:b=a
  .grind[bT]
  .rw[a_ h]at q;exact R.same b u q
 .by_cases h:b=a
  .grind
  .rw[a_ h]at q;exact R.fresh b u q
 .by_cases J:j=i
  .subst J;cases f q;refine⟨.ref a,x,?_⟩;exact⟨a,vs,rfl,.inl (.inl bT),aB.mono Z _ r⟩
  .obtain⟨v,m,n⟩:=R.im j t (Y J q);exact⟨v,m,aS.mono Z _ n⟩
 .by_cases J:j=i
  .subst J;cases f q
  .have g:=Y J q;obtain⟨b,l,D,E,C⟩:=R.ow j bb d g;have nb:b≠a:=λ h=>J (R.ne j i bb false d _ b g hi l (by rw[h];exact x));exact⟨b,l,by rw[a_ nb];exact D,E,C.step Z λ u q=>q⟩
 .by_cases J:j=i
  .grind
  .by_cases A:k=i
   .grind
   .exact R.ne j k p s d o b (Y J e1) (Y A e2) e3 e4
theorem RS.backL(R:RS K c H0 H U L)(hi:U[i]?=some (.ow false (.lst ds)))(one:vm i U=true)(x:L[i]?=some (some (.ref a)))(y:H0 a=none)(he:c.He a=none)(r:aB K H0 ds vs)(Z:aD (upd H0 a (.lst vs)) aR)(J:RS K c aR H' (U.set i (.im (.lst ds))) L):aD H0 (lss aR a)/\RS K c (lss aR a) H' U L:=by
 have Y:aD H0 (lss aR a):=λ b u q=>by
  have nb:b≠a:=λ h=>by grind
  rw[m5 nb];exact Z b u (by rw[a_ nb];exact q)
 refine⟨Y,λ b u q=>J.same b u (EV q).2,λ b u q=>Y b u (R.init b u q),λ b u q=>J.fresh b u (EV q).2,J.keep,J.apt,R.len,λ j d q=>?_,λ j b o q=>?_,R.ne⟩
 .obtain⟨v,f,g⟩:=R.im j d q;exact⟨v,f,aS.mono Y _ g⟩
 .by_cases e:j=i
  .subst e;rw[hi]at q;cases q;exact⟨a,x,yS,he,vs,J.same a _ (Z a _ bT),aB.mono Y _ r⟩
  .have:=List.all_eq_true.mp one (.ow b o) (ze (by rw[zf (zt e)];exact q));cases this
end
section
theorem RC(i:Nat)(hX:X.N.Nodup)(he:XE X e F)(hN:X.N[i]?=some x:=by rfl)(hx:jI X.env.scope x:=by first|exact Or.inl rfl|exact Or.inr rfl)(hv:fh X.env.scope x:=by first|exact Or.inl rfl|exact Or.inr (Or.inl rfl)|exact Or.inr (Or.inr rfl))(hd:cH x:=by decide)(aa:er x:=by decide)(hs:swapsWith (.BinOp (.Name x p1) .Add e J) (some (.Name x pos')) pos.line X.env=pure false:=by rfl)(hf:X.fn x=true\/X.env.scope.names.lookup x=some .local:=by first|exact .inl rfl|exact .inr rfl):XS X (.Assign [.Name x pos'] (.BinOp (.Name x p1) .Add e J) pos) (rQ i F):=
 PS.wk (mP hX hN hx (yM GZ (eI hN hv hd aa) he) hs hf) λ Dn L H Y=>by
  obtain⟨c,H0,U,r,R,f,q⟩:=Y;obtain⟨D,s,f⟩:=aL f;obtain⟨⟨d,Z⟩,t,f⟩:=aL f;obtain⟨xs,g,f⟩:=aL f;obtain⟨G,j,f⟩:=aL f;dsimp only at g j f;obtain⟨I,o⟩:=bU f;subst o;obtain⟨a,l,_,_,E,M,_⟩:=R.ow i _ _ (lO s);refine⟨.ref a,l,c,H0,U,d,Z,R,t,λ v H1 Hh y h w=>?_⟩;unfold lK at g;split at g
  rotate_left
  .simp at g
  obtain rfl:=br g;obtain⟨b,zs,rfl,z,k⟩:=w;obtain⟨C,m,_,_,A,B,n⟩:=h.ow i _ _ (lO j);rw[l]at m;cases m;have K:=n.length;have σ:=k.length;refine⟨a,b,A,zs,rfl,rfl,c7.of B,aD.seq h.same z,?_,λ p u=>?_⟩
  .have:(1000:Nat)<=sizeLine:=by decide
   lia
  .exact q _ H1 _ y (h.setOwn i u ⟨_,bT,n.app k⟩)
end
end Fx
namespace L2
open PySem PySem.Spec PyProof.Rows
theorem aI.turnedL{fs:List Addr}(I:aI X aA L H s)(k:∀b o,b∉fs->s.heap.get? b=some o->h'.get? b=some o)(Y:∀b∈fs,dN X aA H b):aI X aA L H {s with heap:=h',toks:=t'}:=by
 have a:∀b u,H b=some u->b∉fs:=λ b u e z=>by rw[(Y b z).1]at e;cases e
 refine I.step (λ b f=>?_) (λ b o _ _ J e _=>k b o J e) (λ b o _ _ J e _=>⟨o.slots,k b o J e⟩) (λ _ _ _ _ n=>n)
  (λ b o J e=>⟨o,k b o J e⟩) (λ _ _ e=>e) (λ _ _ _ e=>e) (λ b ps e=>⟨#[],by rw[e];simp⟩) (λ m Z=>?_) (λ b u e=>?_) I.bare
 .obtain⟨_,h,_,i,j,l⟩:=Y b f;exact⟨i,h,j,l⟩
 .obtain⟨o,es,d,g,r⟩:=Z;exact⟨o,es,d,k _ o (λ z=>(Y _ z).2.1 rfl) g,r⟩
 .refine(I.hok b u e).stay (λ c v J q=>k c v ?_ q) (λ _ q=>q) λ _ _ q=>q;rcases J with z|z
  .rw[z];exact a b u e
  .exact a _ _ z
theorem dN.upd(h:dN X aA H b)(n:b≠p):dN X aA (upd H p u) b:=⟨by rw[a_ n];exact h.1,h.2⟩
end L2
namespace Fx
open PySem PySem.Spec PyProof.Rows L2
def u7(K:Frag)(J:It)(H1:Hp)(xs:List D):Prop:=∀(H0 H:Hp)(i:Nat),aD H1 H0->aD H0 H->(∀d,xs[i]?=some d->J.go i H/\∀x H',J.yld i H x H'->∃aR,bR H0 H aR H'/\aS K aR d x)/\(xs.length<=i->J.stop i H)
theorem HP{K:Frag}(R:RS K c H1 Hh U L)(hf:cK g B xs U=some r)(hy:u7 K J H1 xs)(q:fE K c Dn H1 r):∃W:Nat->Nat->L2.St->Hp->Prop,(∃m,W 0 m L Hh)/\∀i m L H,W i m L H->(J.stop i H/\Dn.nx L H)\/(J.go i H/\∃N:L2.St->Hp->Prop,(∀Y H',N Y H'->∃m',m'<m/\W (i+1) m' Y H')/\∀x H',J.yld i H x H'->tG K g x L H' λ ag H2=>tS K B {Dn with nx:=N,ct:=N,bk:=Dn.nx} ag H2):=by
 refine⟨λ i m L H=>m=xs.length-i/\i<=xs.length/\∃H0 U,aD H1 H0/\RS K c H0 H U L/\cK g B (xs.drop i) U=some r,⟨xs.length,by simp,ye _,H1,U,aD.refl _,R,by simpa using hf⟩,?_⟩;rintro i m L H ⟨rfl,hi,H0,U,s0,o,e⟩;obtain⟨A,C⟩:=hy H0 H i s0 o.same;by_cases p:i<xs.length
 .have hd:xs[i]?=some xs[i]:=by simp[p]
  obtain⟨go,D⟩:=A _ hd;refine .inr ⟨go,λ Y H'=>∃m',m'<xs.length-i/\m'=xs.length-(i+1)/\i+1<=xs.length/\∃H0 U,aD H1 H0/\RS K c H0 H' U Y/\cK g B (xs.drop (i+1)) U=some r,λ Y H'⟨m',a,b⟩=>⟨m',a,b⟩,λ x H' hx=>?_⟩;obtain⟨aR,S,y⟩:=D x H' hx;rw[oh hd,FW]at e;obtain⟨s,t,e⟩:=aL e;obtain⟨z,u,e⟩:=aL e;refine⟨c,aR,U,_,s,o.after S,y,t,λ E H2 cJ n R2=>⟨c,H2,s,z,R2,u,?_⟩⟩;have l:=s0.trans S.s0;cases z with
  |nx Z=>exact λ Y f dC j h=>⟨_,by lia,rfl,p,f,Z,l.trans (n.trans j),h,e⟩
  |ct Z=>exact λ Y f dC j h=>⟨_,by lia,rfl,p,f,Z,l.trans (n.trans j),h,e⟩
  |bk Z=>
   have k:=e;cases k;exact λ Y f dC j h=>q Y f dC (l.trans (n.trans j)) h
  |rt d Z=>
   have k:=e;cases k;exact λ v Y f dC j h r3=>q v Y f dC (l.trans (n.trans j)) h r3
 .have w:xs.drop i=[]:=jk (by lia);rw[w,Ed]at e;have k:=e;cases k;exact .inl ⟨C (by lia),q L H0 H s0 o⟩
def uk(K:Frag)(l:Addr):It:=
 ⟨λ i H=>∃xs x,c7 K H l xs/\xs[i]?=some x,λ i H x H'=>∃v p,(∀xs,c7 K H l xs->xs[i]?=some v)/\x=.ref p/\H p=none/\H'=upd H p (.tup [.int i,v]),λ i H=>∃xs,c7 K H l xs/\xs.length<=i⟩
theorem Px{K:Frag}(l e it:Addr)(ne:e≠it):fG P w K (.Tuple ac x1 pt) (uk K l) [e,it] e (λ i h=>∃Z,IsEnum h e it i Z/\h.IsListIter it l i)where
 mem:=qg
 obj:=λ i h J b Y=>by
  obtain⟨Z,st,f⟩:=J;rcases qt Y with rfl|Y
  .exact⟨_,st,λ v z=>by cases z⟩
  .obtain⟨o,a,c,d⟩:=f;rw[List.mem_singleton.mp Y];exact⟨o,a,λ v z=>by rw[d]at z;cases z⟩
 keep:=λ i h h'⟨Z,st,f⟩k=>⟨Z,k e (by simp) _ st,f.at λ o q=>k it (by simp) o q⟩
 item:=λ X n r m D i aA s L H E I p J j=>by
  obtain⟨Z,st,f⟩:=J;obtain⟨xs,x,g,hx⟩:=j;subst n r m;obtain⟨N,A,t,W⟩:=I.list g;obtain⟨u,ρ,ru⟩:=A.get hx;have O:=qm st;have M:it<s.heap.objs.size:=by obtain⟨_,q,_⟩:=id f;exact qm q
  have T:=I.hok.fresh (qj _);refine wpAny_pyNext_enum_item st f t.isList (by simpa using ρ) ne λ h1 k1 k2 k3 k4 k5=>⟨_,rfl,?_⟩
  refine wpAny_letOwnedTupleGo_enum k1 λ S e2 F=>?_;have G:=
   I.laid (t':=s.toks+1) (λ b o q=>qd _ q) (qj _) (show aZ X.prog X.w _ _ _ (.tup [.int i,x])from⟨by show(2:Nat)<=sizeLine;decide,[.int i s.toks,u],.cons ⟨_,rfl⟩ (.cons ru .nil),ec.new _ _⟩)
  have C:∀b∈[e,it],dN X aA (upd H s.heap.objs.size (.tup [.int i,x])) b:=λ b Y=>(p b Y).upd (by
   rcases qt Y with rfl|Y
   .exact qr O
   .rw[List.mem_singleton.mp Y];exact qr M)
  have σ:aI X aA L (upd H s.heap.objs.size (.tup [.int i,x])) {s with heap:=S,toks:=s.toks+1}:=aI.turnedL (s:={s with heap:=s.heap.push {cls:=.type "tuple",data:=.seq #[.int i s.toks,u]},toks:=s.toks+1}) G (λ b q Y z=>by
   have B:b≠e:=λ y=>Y (by simp[y]);have Q:b≠it:=λ y=>Y (by simp[y]);refine(F.2 b B).trans ?_;rcases Yu z with⟨z1,z2⟩|z
   .rw[z1,z2];exact k3
   .exact k5 b q B Q z) C
  refine⟨.ref s.heap.objs.size,_,σ,rfl,⟨x,_,λ ys V=>by rw[I.list_inj V g];exact hx,rfl,T,rfl⟩,⟨_,by rw[show((i+1:Nat):Int)=(i:Int)+1 by lia];exact e2,k2.at λ o q=>(F.2 it (zt ne)).trans q⟩,λ b Y=>(C b Y).1⟩
 done:=λ X n r m D i aA s L H E I p J j=>by
  obtain⟨Z,st,f⟩:=J;obtain⟨xs,g,hx⟩:=j;subst n r m;obtain⟨N,A,t,W⟩:=I.list g;have hl:=A.length;exact wpAny_pyNext_enum_end (I.ok.hd D) st f t.isList (by simp;lia) λ h' R=>⟨rfl,I.turnedL (λ b o Y q=>R b o (λ y=>Y (by simp[y])) q) p⟩
 self:=λ _ _ _ _ _⟨_,st,_⟩h=>wpAny_pyIter_enum st h
def UG(K:Frag)(t:TE):TI:=λ L H R=>t L H λ x H1=>∃a xs,x=.ref a/\c7 K H1 a xs/\R (uk K a) H1
theorem GV(hg:Gl X "enumerate")(hm:X.mg "enumerate"=none)(hl:PE X l tl)(hs:starEach [l] X.env=[(false,eval l X.env)]):PI X (.Tuple Y x1 pt) (.Call (.Name "enumerate" p) [l] [] pos) (UG X.K tl):=by
 intro aA s L H R I h;refine Call_ (rK I hg hm (u:=.type "enumerate") (by decide+kernel) (Zo (bN (gq hl jD hs pos aA s L H (λ f H1=>match f with|[x]=>(∃a xs,x=.ref a∧c7 X.K H1 a xs∧R (uk X.K a) H1)|_=>False) I h) λ us c=>dJ λ f H1 J e Z=>?_) hs rfl))
 match f,Z,e with
 |[x],Z,e=>
  obtain⟨a,xs,rfl,m,q⟩:=Z;obtain⟨u,rfl,j⟩:=h8 e;subst j;obtain⟨n,r,i,o⟩:=J.list m;refine call_enumerate_list i.isList λ h' st g sz k=>?_;refine wpAny_pyIter_enum st ⟨c.heap.objs.size+1,[c.heap.objs.size+1,c.heap.objs.size],_,_,H1,rfl,J.kept k,Px a (c.heap.objs.size+1) c.heap.objs.size (Nat.succ_ne_self _),⟨_,st,g⟩,λ b d=>?_,q⟩;rcases qt d with rfl|d
  .exact J.fpOk (Q4 _) (J.hok.fresh (Q4 _))
  .rw[List.mem_singleton.mp d];exact J.fpOk (qj _) (J.hok.fresh (qj _))
theorem FY:∀(xs:List D)(k:Nat),(ij k xs).length=xs.length
 |[],_=>rfl
 |_::r,k=>by show(ij (k+1) r).length+1=r.length+1;rw[FY r]
theorem FZ:∀(xs:List D)(k i:Nat){d:D},(ij k xs)[i]?=some d->∃y,xs[i]?=some y/\d=.tup [.int ((k+i:Nat):Int),y]
 |[],_,_,_,h=>by cases h
 |x::r,k,0,d,h=>by cases h;exact⟨x,rfl,rfl⟩
 |x::r,k,i+1,d,h=>by
  obtain⟨y,a,b⟩:=FZ r (k+1) i (show(ij (k+1) r)[i]?=some d from h);exact⟨y,a,by rw[b,show k+1+i=k+(i+1) by lia]⟩
theorem C_{K:Frag}(rd:c7 K H1 a vs)(r:aB K H1 xs vs):u7 K (uk K a) H1 (ij 0 xs):=λ H0 H i s s'=>by
 have Y:=aD.seq (s.trans s') rd;refine⟨λ d e=>?_,λ h=>⟨vs,Y,by rw[<-r.length,<-FY xs 0];exact h⟩⟩;obtain⟨y,e1,rfl⟩:=FZ xs 0 i e;obtain⟨v,e2,f⟩:=r.get e1;refine⟨⟨vs,v,Y,e2⟩,λ x H' q=>?_⟩;obtain⟨g,p,J,c,Z,b⟩:=q;have J:=J vs Y;subst c b;rw[e2]at J;obtain rfl:=br J;have S:=bR.alloc (o:=.tup [.int i,v]) s' Z;refine⟨_,S,?_⟩;rw[Y4];exact⟨p,_,rfl,.inl (.inl bT),aB.cons (fw _ _) (aB.one (aS.mono (s.trans S.s0) _ f))⟩
section
theorem Ue(hm:X.mg "enumerate"=none)(hg:XG X (.Tuple J x1 pt) g)(ha:XE X a F)(hb:fJ X Y B)(ac:Gl X "enumerate":=by rfl)(hp:PassesOwn (model X.prog X.w) X.A X.env X.xe:=by exact Zk)(hc:X.calm=true:=by rfl)(ae:starEach [a] X.env=[(false,eval a X.env)]:=by rfl)(hs:∀x,foldedSetIterable (.Call (.Name "enumerate" p) [a] [] pos') X.env x=pure x:=by intro _;rfl):XS X (.For (.Tuple J x1 pt) (.Call (.Name "enumerate" p) [a] [] pos') Y [] pos) (yK g F B):=PS.wk (rY hp hc (GV ac hm ha ae) hg hb hs) λ Dn L H Z=>by
 obtain⟨c,H0,U,r,R,f,q⟩:=Z;obtain⟨⟨d,i⟩,j,f⟩:=aL f;obtain⟨xs,b,f⟩:=aL f;dsimp only at b f;unfold lK at b;split at b
 rotate_left
 .simp at b
 simp at b;refine⟨c,H0,U,_,i,R,j,λ v H1 Hh m e k=>?_⟩;obtain⟨a,n,rfl,h,l⟩:=k;exact⟨a,n,rfl,aD.seq e.same h,HP e f (C_ h l) (q.mono m)⟩
end
end Fx
namespace Fx
open PySem PySem.W PyProof.Rows
structure Gm(le:Keyed->Keyed->Prop)(T out P Q:List Keyed):Prop where
 perm:(out++P++Q).Perm T
 so:out.Pairwise le
 bp:∀x∈out,∀y∈P,le x y
 bq:∀x∈out,∀y∈Q,le x y
 sp:P.Pairwise le
 sq:Q.Pairwise le
end Fx
namespace Fx
open PySem PySem.Spec
theorem wM:∀{l:List α}{i:Nat}(h:i<l.length),(l[i]::l.eraseIdx i).Perm l
 |x::r,0,_=>jl _
 |x::r,i+1,h=>by
  have h':i<r.length:=by simpa using h
  exact(List.Perm.swap x r[i] _).trans ((wM h').cons x)
section
variable{M:Model}{A:Around}{E:Value->Shared->Prop}{s:Shared}
theorem O3(J:n≠0)(h:∀i Y,i<n->Q i {s with drawn:=Y}):wpAny M A (choose q n) Q E s:=λ Z p _=>by
 unfold choose;rw[Sem.wp_choose];exact⟨J,h _ _ (Nat.mod_lt _ (Nat.pos_of_ne_zero J))⟩
theorem Cb:∀(n:Nat)(xs:List α)(s:Shared)(Q:List α->Shared->Prop),n=xs.length->(∀ys J,ys.Perm xs->Q ys {s with drawn:=J})->wpAny M A (drawOrder n xs) Q E s
 |0,xs,s,Q,e,h=>by
  have:=List.length_eq_zero_iff.mp e.symm;subst this;exact qc (h [] s.drawn (jl _))
 |n+1,[],s,Q,e,h=>by cases e
 |n+1,x::r,s,Q,e,h=>by
  refine qb (O3 (by simp) λ i J hi=>?_);have e1:=zk hi;rw[e1];refine qb (Cb n ((x::r).eraseIdx i) _ _ ?_ λ ys q Y=>qc ?_)
  .rw[List.length_eraseIdx_of_lt hi];lia
  .refine h _ q ?_;exact(Y.cons _).trans (wM hi)
end
theorem DT(f:Nat->Nat):∀(n k:Nat)(l:List α)(out:Array α),n=l.length->(pickOrder.go f n k l out).toList.Perm (out.toList++l)
 |0,k,l,out,e=>by
  have:=List.length_eq_zero_iff.mp e.symm;subst this;unfold pickOrder.go;rw[zx]
 |n+1,k,l,out,e=>by
  unfold pickOrder.go;have q:f k%l.length<l.length:=Nat.mod_lt _ (by lia);rw[zk q];refine(DT f n (k+1) _ _ (by rw[List.length_eraseIdx_of_lt q];lia)).trans ?_;rw[Array.toList_push,Qg];exact List.Perm.append_left _ (wM q)
theorem KP(f:Nat->Nat)(xs:Array α):(pickOrder f xs).toList.Perm xs.toList:=by unfold pickOrder;grind[DT]
theorem Mp(t:SetTable)(es:Array (Int×Value))(h:Int)(x:Value):(layNew t es h x).2.1.led=t.led/\((layNew t es h x).2.1.plain=true->t.plain=true):=by
 have st:∀(u:SetTable)(n:Nat),(u.standIn n).led=u.led/\(u.standIn n).plain=false:=λ u n=>⟨rfl,rfl⟩
 unfold layNew;split
 .rename_i slot Y _;have J:(t.put slot).1.led=t.led/\(t.put slot).1.plain=t.plain:=⟨rfl,rfl⟩;dsimp only;unfold SetTable.orStandIn;split
  .grind
  .grind
 .grind
theorem Lf(t:SetTable)(es:Array (Int×Value))(n:Nat):(relayAll t es n).2.1.led=t.led/\((relayAll t es n).2.1.plain=true->t.plain=true):=by
 unfold relayAll;split
 .rename_i a J e;have m:a.led=t.led/\a.plain=t.plain:=by
   unfold SetTable.relaid SetTable.laid at e;cases z:SetTable.layClean (SetTable.sizeAbove n-1) (es.map (·.1))with
   |none=>rw[z]at e;cases e
   |some b=>rw[z]at e;cases e;exact⟨rfl,rfl⟩
  dsimp only;split
  .grind
  .exact⟨rfl,λ q=>by cases q⟩
 .exact⟨rfl,λ q=>by cases q⟩
def bG(P:Program)(w:World)(bt:Bool)(h:Heap)(a:Addr)(ss:List Str):Prop:=
 ∃o es ep t,h.get? a=some o/\o.ExactSet/\o.data=.set es ep t/\ElemsOf (PySem.strKind P w) es.toList/\(es.toList.map λ e=>PyProof.Rows.strOf e.2).Perm ss/\ss.Nodup/\es.size<scanBound/\t.fits es.size=true/\(t.plain=true->es.size=0)/\(bt=false->t.led=true)
section
variable{P:Program}{w:World}{bt:Bool}{A:Around}{E:Value->Shared->Prop}{s:Shared}{a:Addr}{ss:List Str}
theorem ua(h:ElemsOf (PySem.strKind P w) es):∀e∈es,∃x t,e.2=.str x t/\e.1=(PySem.strKind P w).hash x:=λ e q=>by
 obtain⟨⟨k,Y,J⟩,_⟩:=h e q;obtain⟨t,Z⟩:=Value.isStrOf_shape Y;exact⟨k,t,Z,J⟩
theorem wF(e:v=.str y t):(PySem.strKind P w).is x v=decide (x=y):=by
 subst e;have h:(PySem.strKind P w).is y (.str y t)=true:=by show Value.isStrOf y (.str y t)=true;simp[Value.isStrOf]
 exact KeyKind.is_eq_decide h x
theorem Dl(hS:bG P w bt s.heap a ss)(aj:ss.length+1<scanBound)(h:∀h',Heap.SameBut a s.heap h'->bG P w bt h' a (if x∈ss then ss else ss++[x])->Q (!decide (x∈ss)) {s with heap:=h'}):wpAny (model P w) A (setAddHashed a (.str x tk) ((PySem.strKind P w).hash x)) Q E s:=by
 obtain⟨o,es,p,t,u,F,hd,i,v,V,hb,M,ao,D⟩:=hS;have S:(PySem.strKind P w).is x (.str x tk)=true:=by rw[wF rfl];simp
 have G:(Value.str x tk).scannable=true:=rfl;have hn:es.size=ss.length:=by have:=v.length_eq;rw[qw,qy]at this;exact this
 have mem:(∃e∈es.toList,(PySem.strKind P w).is x e.2=true)↔x∈ss:=by
  rw[<-v.mem_iff,List.mem_map];constructor
  .rintro ⟨e,d,q⟩;obtain⟨y,t,r,_⟩:=ua i e d;rw[wF r,yo]at q;exact⟨e,d,by rw[r,q];rfl⟩
  .rintro ⟨e,d,q⟩;obtain⟨y,t,r,_⟩:=ua i e d;rw[r]at q;exact⟨e,d,by rw[wF r,yo,<-q];rfl⟩
 refine z0 (qb (zq u hd M ?_));dsimp only;rw[byScan_of G hb i];refine qb (qb (wpAny_rule (qb (wpAny_setScan_of S u hd M i ?_))));cases hr:List.findIdx? (λ e=>(PySem.strKind P w).is x e.2) es.toList with
 |some j=>
  obtain⟨hj,ar,_⟩:=List.findIdx?_eq_some_iff_getElem.mp hr;have hx:=mem.mp ⟨es.toList[j],Qu hj,ar⟩;refine qc (qc ?_);have:=h s.heap (Q9 a s.heap) (by rw[if_pos hx];exact⟨o,es,p,t,u,F,hd,i,v,V,hb,M,ao,D⟩);rw[zm hx]at this;exact this
 |none=>
  have hx:¬x∈ss:=λ q=>by
   obtain⟨e,d,q⟩:=mem.mpr q;have:=List.findIdx?_eq_none_iff.mp hr e d;rw[q]at this;simp at this
  have lp:=layNew_perm t es ((PySem.strKind P w).hash x) (.str x tk);have N:=layNew_fits t es ((PySem.strKind P w).hash x) (.str x tk);have O:=Mp t es ((PySem.strKind P w).hash x) (.str x tk);generalize layNew t es ((PySem.strKind P w).hash x) (.str x tk)=σ at lp N O⊢;obtain⟨J,t1,wd,au⟩:=σ;rw[Array.toList_push]at lp;have T:=(i.push S G).perm lp;have W:(J.toList.map λ e=>PyProof.Rows.strOf e.2).Perm (ss++[x]):=by refine(lp.map _).trans ?_;rw[zv];exact v.append (jl _)
  have ρ:(ss++[x]).Nodup:=by rw[Qd];exact⟨V,by grind⟩
  have ap:J.size=es.size+1:=by have:=lp.length_eq;rw[zi,qy,qy]at this;exact this
  have K:∀(b:Bool)(Y:Shared)(f:Unit→Shared→Prop),f () Y→wpAny (model P w) A (match b with|true=>rule "set.scan.the-table-gave-way"|false=>pure ()) f E Y:=
   λ b Y f q=>by cases b<;>first|exact qc q|exact wpAny_rule q
  refine qb (K _ _ _ ?_);have fin:∀(g:Bool->Sem Unit),(∀(b:Bool)(Y:Shared)(f:Unit->Shared->Prop),f () Y->wpAny (model P w) A (g b) f E Y)->∀(R:Option Bool->Shared->Prop)(c:SetTable),c.fits J.size=true->c.led=t.led->c.plain=false->(∀h',Heap.SameBut a s.heap h'->bG P w bt h' a (ss++[x])->R (some true) {s with heap:=h'})->
    wpAny (model P w) A (do
     storeSet a J c
     if(!wd&&c.tooFull)=true then do
       g (relayAll c J (SetTable.grown J.size)).2.2
       storeSet a (relayAll c J (SetTable.grown J.size)).1 (relayAll c J (SetTable.grown J.size)).2.1
       pure (some true)
      else pure (some true)) R E s:=λ g hg R c f2 l2 p2 k=>by
   have I:J.size<scanBound:=by rw[ap,hn];exact aj
   refine qb (Q5 u hd ?_ (Qc I));have H:(s.heap.update a (Obj.putSet J c)).get? a=some {o with data:=.set J (p+1) c}:=by have z:=zr (Obj.putSet J c) u (by rw[Q3 J c hd];rfl);rw[Q3 J c hd]at z;exact z
   have X:=ym s.heap a (Obj.putSet J c);split
   .have C:=relayAll_perm c J (SetTable.grown J.size);have rf:=relayAll_fits c J (SetTable.grown J.size);have B:=Lf c J (SetTable.grown J.size);generalize relayAll c J (SetTable.grown J.size)=Rl at C rf B⊢;obtain⟨Z,l,g2⟩:=Rl;have as:Z.size=J.size:=by rw[<-qy,C.length_eq,qy]
    have b2:Z.size<scanBound:=by rw[as];exact I
    refine qb (hg _ _ _ (qb (Q5 H rfl (qc (k _ (X.trans (ym _ a _)) ?_)) (Qc b2))));have aq:((s.heap.update a (Obj.putSet J c)).update a (Obj.putSet Z l)).get? a=some {o with data:=.set Z (p+1+1) l}:=by have z:=zr (Obj.putSet Z l) H (by rw[Q3 Z l rfl];rfl);rw[Q3 Z l rfl]at z;exact z
    exact⟨_,Z,p+1+1,l,aq,F,rfl,T.perm C,(C.map _).trans W,ρ,b2,rf,λ q=>(by rw[p2]at B;exact absurd (B.2 q) (by simp)),λ q=>by rw[B.1,l2];exact D q⟩
   .exact qc (k _ X ⟨_,J,p+1,c,H,F,rfl,T,W,ρ,I,f2,λ q=>(by rw[p2]at q;simp at q),λ q=>by rw[l2];exact D q⟩)
  have done:=λ h' m n=>by
   have:=h h' m (by rw[if_neg hx];exact n);rw[jg hx]at this;exact this
  split
  .refine qb ?_;rw[hashByValue_scannable 8 G];refine qc (fin _ K _ _ ?_ ?_ ?_ λ h' m n=>?_)
   .exact SetTable.fits_plain_off N
   .exact O.1
   .rfl
   .exact qc (done h' m n)
  .rename_i np;refine qb (qc ?_);refine fin _ K _ _ N O.1 (by simpa using np) λ h' m n=>?_;exact qc (done h' m n)
end
theorem qA:∀(xs aY:List Str),(dj aY xs).length<=aY.length+xs.length
 |[],aY=>qj _
 |x::r,aY=>by
  have h:=qA r (hM aY x);have a:(hM aY x).length<=aY.length+1:=by
   unfold hM;split
   .lia
   .rw[zi];exact qj _
  show(dj (hM aY x) r).length<=_;rw[zh];lia
noncomputable def gP:Bool->Heap->Addr->Addr->Nat->Prop
 |true,h,it,c,i=>h.IsTupleIter it c i
 |false,h,it,c,i=>h.IsListIter it c i
noncomputable def fF:Bool->Heap->Addr->Array Value->Prop
 |true,h,c,us=>h.IsTuple c us
 |false,h,c,us=>h.IsList c us
section
variable{P:Program}{w:World}{A:Around}{E:Value->Shared->Prop}{s:Shared}{it c:Addr}{i:Nat}{us:Array Value}
theorem fF.keep(q:fF T h c us)(k:∀b o,h.get? b=some o->h'.get? b=some o):fF T h' c us:=by
 cases T with
 |true=>obtain⟨o,J,r⟩:=q;exact⟨o,k _ _ J,r⟩
 |false=>obtain⟨o,J,r⟩:=q;exact⟨o,k _ _ J,r⟩
theorem P2(a:gP T s.heap it c i)(b:fF T s.heap c us)(hx:us[i]?=some x)(k:∀h',gP T h' it c (i+1)->Heap.SameBut it s.heap h'->Q (some x) {s with heap:=h'}):wpAny (model P w) A (pyNext (.ref it)) Q E s:=by
 cases T with
 |true=>exact Z4 a b hx k
 |false=>exact wpAny_pyNext_list_item a b hx k
theorem Nb(q:A.handled=none)(a:gP T s.heap it c i)(b:fF T s.heap c us)(hx:us[i]?=none)(k:∀h',Heap.ExtBut it s.heap h'->Q none {s with heap:=h'}):wpAny (model P w) A (pyNext (.ref it)) Q E s:=by
 cases T with
 |true=>exact Yc q a b hx k
 |false=>exact wpAny_pyNext_list_end q a b hx k
theorem Pf(b:fF T s.heap c us)(k:∀oI:Obj,gP T (s.heap.push oI) s.heap.objs.size c 0->Q (.ref s.heap.objs.size) {s with heap:=s.heap.push oI}):wpAny (model P w) A (pyIter (.ref c)) Q E s:=by
 cases T with
 |true=>exact wpAny_pyIter_tuple b (k _ ⟨_,qk _ rfl,rfl,rfl⟩)
 |false=>exact wpAny_pyIter_list b (k _ ⟨_,qk _ rfl,rfl,rfl⟩)
theorem gP.same(q:gP T h it c i)(Y:Heap.SameBut b h h')(Z:it≠b):gP T h' it c i:=by
 cases T with
 |true=>obtain⟨o,J,r⟩:=q;exact⟨o,(Y.2 it Z).trans J,r⟩
 |false=>obtain⟨o,J,r⟩:=q;exact⟨o,(Y.2 it Z).trans J,r⟩
theorem bG.same(q:bG P w bt h a ss)(Y:Heap.SameBut b h h')(Z:a≠b):bG P w bt h' a ss:=by obtain⟨o,es,c,t,J,r⟩:=q;exact⟨o,es,c,t,(Y.2 a Z).trans J,r⟩
theorem bG.ext(q:bG P w bt h a ss)(Y:Heap.ExtBut b h h')(Z:a≠b):bG P w bt h' a ss:=by obtain⟨o,es,c,t,J,r⟩:=q;exact⟨o,es,c,t,Y a _ Z J,r⟩
theorem bG.keep(q:bG P w bt h a ss)(k:∀b o,h.get? b=some o->h'.get? b=some o):bG P w bt h' a ss:=by obtain⟨o,es,c,t,J,r⟩:=q;exact⟨o,es,c,t,k _ _ J,r⟩
theorem NX(h:PyProof.Rows.StrsAre all xs)(e:xs.drop i=x::r):∃tk,all[i]?=some (.str x tk):=by
 induction h generalizing i with
 |nil=>simp at e
 |cons y t h J=>
  cases i with
  |zero=>
   rw[jx]at e;injection e with e1 e2
   subst e1;exact⟨t,rfl⟩
  |succ i=>
   rw[List.drop_succ_cons]at e;grind
theorem MY{bt T:Bool}{hI:Heap}{a:Addr}{all:List Value}{aa:List Str}{R:Result->Shared->Prop}(an:hI.get? a=none)(ae:hI.get? it=none)(Y:a≠it)(sq:fF T hI c all.toArray)(sa:PyProof.Rows.StrsAre all aa)(hh:A.handled=none):∀(xs:List Str)(aY:List Str)(s:Shared)(i:Nat),aa.drop i=xs->(∀b o,hI.get? b=some o->s.heap.get? b=some o)->gP T s.heap it c i->bG P w bt s.heap a aY->aY.length+xs.length+1<scanBound->(∀h' Z,(∀b o,hI.get? b=some o->h'.get? b=some o)->bG P w bt h' a (dj aY xs)->R (.ok (.ret .none)) {s with heap:=h',toks:=Z})->codeAny (model P w) A (.builtin "set.update.loop" ⟨[.ref a,.ref it],[]⟩) R s:=by
 intro xs;induction xs with
 |nil=>
  intro aY s i e d g h p q;refine jo Yw ?_;rw[je Qx _];show wpAny _ A.in1 (pyNext (.ref it) >>= _) _ _ s;have E:all.length=aa.length:=by have:=sa.strs;rw[<-this,qw]
  have hx:all.toArray[i]?=none:=by have:all[i]?=none:=jm (by rw[E];simpa using e);simpa using this
  refine qb (Nb hh g (sq.keep d) hx λ h' l=>qc ?_);exact q h' s.toks (λ b o J=>l b o (λ z=>by rw[z,ae]at J;cases J) (d _ _ J)) (h.ext l Y)
 |cons x xs F=>
  intro aY s i e d g h p q;refine jo Yw ?_;rw[je Qx _];show wpAny _ A.in1 (pyNext (.ref it) >>= _) _ _ s;obtain⟨f,v⟩:=NX sa e;have hx:all.toArray[i]?=some (.str x f):=by simpa using v
  refine qb (P2 g (sq.keep d) hx λ m t k=>?_);have y:∀b o,hI.get? b=some o->m.get? b=some o:=λ b o J=>(k.2 b (λ z=>by rw[z,ae]at J;cases J)).trans (d _ _ J);show wpAny _ A.in1 (holding [Value.str x f] (setAdd a (.str x f)) >>= _) _ _ _;refine qb (z0 ?_);unfold setAdd;have r:(PySem.strKind P w).is x (.str x f)=true:=by rw[wF rfl];simp
  refine z0 (qb ((PySem.strKind P w).pyHash r ?_));simp only[zh]at p;refine Dl (s:={s with heap:=m,toks:=s.toks+1}) (h.same k Y) (by lia) λ n j u=>?_;have B:∀b o,hI.get? b=some o->n.get? b=some o:=λ b o J=>(j.2 b (λ z=>by rw[z,an]at J;cases J)).trans (y _ _ J);have G:(hM aY x).length<=aY.length+1:=by
   unfold hM;split
   .lia
   .rw[zi];exact qj _
  refine qc ⟨Qz Qx _,?_⟩;exact F (hM aY x) {s with heap:=n,toks:=s.toks+1} (i+1) (by rw[<-List.drop_drop,e];rfl) B (t.same j (zt Y)) u (by lia) λ h' Z C D=>q h' Z C D
end
noncomputable abbrev cQ(w:World):Bool:=w.params.followText "set-order"
abbrev dk(w:World):Obj:={cls:=.type "set",dict:=none,data:=.set #[] 0 (.fresh 0 0 (!cQ w))}
theorem Lp:isSubtype (.type "tuple") (.type "set")=pure false:=by rw[Yo];kernel_rfl
theorem WB:isSubtype (.type "tuple") (.type "frozenset")=pure false:=by rw[Yo];kernel_rfl
section
variable{P:Program}{w:World}{A:Around}{E:Value->Shared->Prop}{s:Shared}
theorem MZ(h:Heap):bG P w (cQ w) (h.push (dk w)) h.objs.size []:=
 ⟨_,#[],0,_,qk _ rfl,⟨rfl,rfl,rfl⟩,rfl,λ e q=>(by simp at q),jl _,Qm,by decide,by rfl,λ _=>rfl,λ e=>by rw[e];rfl⟩
theorem Nc(h:Q (.ref s.heap.objs.size) {s with heap:=s.heap.push (dk w)}):wpAny (model P w) A (newSet (.type "set")) Q E s:=by refine qb (qb (yt (qc ?_)));exact qb (wpAny_alloc (qc h))
theorem Pk(v:Value)(h:Q₁ (.ref s.heap.objs.size) {s with heap:=s.heap.push (dk w)}):codeAny (model P w) A (.call (.builtin "set.__new__") ⟨[.type "set",v],[]⟩) (wants Q₁ E) s:=by
 refine codeAny_of_tree ?_;refine qb (wpAny_of_eq (F.newCall_set_1 v) (qc ⟨Qz F.plain_set_new _,jo F.entry_set_new ?_⟩));rw[je F.plain_set_new _];have J:=sub_set_self;obtain⟨Y,q,a,k0,Z⟩:=s;wp_walk;refine yt (qc ?_);exact qb (wpAny_alloc (qc (qc h)))
set_option maxHeartbeats 3200000 in
theorem MF{T:Bool}{c:Addr}{all:List Value}{xs:List Str}{Q:Value->Shared->Prop}(hh:A.handled=none)(sq:fF T s.heap c all.toArray)(sa:PyProof.Rows.StrsAre all xs)(hz:xs.length+1<scanBound)(k:∀(h':Heap)(tk:Nat),(∀b o,s.heap.get? b=some o->h'.get? b=some o)->bG P w (cQ w) h' s.heap.objs.size (dj [] xs)->Q (.ref s.heap.objs.size) {s with heap:=h',toks:=tk}):wpAny (model P w) A (call (.type "set") [.ref c]) Q E s:=by
 obtain⟨mc,mt,mr⟩:=F.called_set.mro;have md:=F.called_set.made;have su:=F.called_set.sub;refine Yd (codeAny_of_tree ?_);show wpAny _ _ (callAny (.type "set") _) _ _ _;refine qc ⟨Code.quiet_builtin _ (by decide+kernel),jo F.entry_type_call ?_⟩;rw[Around.under_plain (weight_type_call_type "set" [.ref c] []) rfl];have f1:=F.called_set.notType;have f2:=F.called_set.canCreate;have f3:=F.typeCall_set_1 (.ref c)
 repeat (any_goals (first|assumption|wp_step))
 refine Qs (Pk (.ref c) (E:=E) (Q₁:=λ z s1=>z=.ref s.heap.objs.size/\s1={s with heap:=s.heap.push (dk w)}) ⟨rfl,rfl⟩) λ r s1 Z=>?_;cases r with
 |error e=>exact Z
 |ok fl=>
  cases fl with
  |ret z=>
   obtain⟨rfl,rfl⟩:=Z;have ac:(s.heap.push (dk w)).get? s.heap.objs.size=some (dk w):=qk _ rfl;have ae:Shared.TypeIs {s with heap:=s.heap.push (dk w)} (.ref s.heap.objs.size) "set":=⟨_,ac,rfl⟩;have li:=F.called_set.init.lookup;have bi:=F.called_set.init.bind (.ref s.heap.objs.size)
   repeat (any_goals (first|assumption|wp_step))
   refine Qs (Yp (R:=wants (λ r s2=>r=.none/\∃h' tk,s2={s with heap:=h',toks:=tk}/\(∀b o,s.heap.get? b=some o->h'.get? b=some o)/\bG P w (cQ w) h' s.heap.objs.size (dj [] xs)) E) F.called_set.init.plain F.entry_set_init (check_set_init_1 ae ?_)) λ r2 s2 q=>?_
   .have J:fF T (s.heap.push (dk w)) c all.toArray:=sq.keep λ b o e=>qd _ e;have e1:∃TT:String,Shared.TypeIs {s with heap:=s.heap.push (dk w)} (.ref c) TT∧(isSubtype (.type TT) (.type "set")=pure false)∧(isSubtype (.type TT) (.type "frozenset")=pure false)∧(Value.type TT==Value.type "dict")=false:=by
     cases T with
     |true=>obtain⟨o,ho,hc,_⟩:=J;exact⟨"tuple",⟨o,ho,hc⟩,Lp,WB,by decide⟩
     |false=>obtain⟨o,ho,hc,_⟩:=J;exact⟨"list",⟨o,ho,hc⟩,F.sub_list_set,F.sub_list_frozenset,by decide⟩
    obtain⟨TT,ah,n1,n2,n3⟩:=e1;unfold Builtin.«set.__init__» noKeywords Builtin.Frozenset.updateFrom;generalize af:pyIter=PI;wp_walk;subst af;refine Pf (s:={s with heap:=s.heap.push (dk w)}) J λ oI ag=>?_;have sz:(s.heap.push (dk w)).objs.size=s.heap.objs.size+1:=by rw[Zu]
    have none_of:∀n,s.heap.objs.size<=n->s.heap.get? n=none:=λ n hn=>by
     cases z:s.heap.get? n with
     |none=>rfl
     |some o=>exact absurd (qm z) (Nat.not_lt.mpr hn)
    refine qb (wpAny_runValue ?_);refine MY (A:=A.in1.in1) (bt:=cQ w) (hI:=s.heap) (none_of _ (qj _)) (none_of _ (by show s.heap.objs.size<=(s.heap.push (dk w)).objs.size;rw[sz];exact Q4 _)) (by show s.heap.objs.size≠(s.heap.push (dk w)).objs.size;rw[sz];exact qr (Z9 _)) sq sa hh
     xs [] {s with heap:=(s.heap.push (dk w)).push oI} 0 rfl (λ b o e=>qd _ (qd _ e)) ag ((MZ s.heap).keep λ b o e=>qd _ e) (by rw[yx];lia) λ h' tk c1 Y=>?_
    refine qc (qc ?_);exact⟨rfl,h',tk,rfl,c1,Y⟩
   .cases r2 with
    |error e=>exact q
    |ok aa=>
     cases aa with
     |ret r=>
      obtain⟨rfl,h',tk,rfl,c1,Y⟩:=q
      repeat (any_goals (first|assumption|wp_step))
      exact k _ _ c1 Y
     |_=>exact q.elim
  |_=>exact Z.elim
end
theorem cx:Slot "set_iterator" "__next__" "set_iterator.__next__":=
 .of (owner:="set_iterator") (n:="__next__") (by rw[typeLookup_type,Yl];kernel_rfl) (by decide+kernel) (by decide+kernel) (by decide+kernel) (by first|exact .inl (by decide+kernel)|exact .inr (by decide+kernel)) (by rw[Yo];kernel_rfl)
theorem KS:Slot "set_iterator" "__iter__" "set_iterator.__iter__":=
 .of (owner:="set_iterator") (n:="__iter__") (by rw[typeLookup_type,Yl];kernel_rfl) (by decide+kernel) (by decide+kernel) (by decide+kernel) (by first|exact .inl (by decide+kernel)|exact .inr (by decide+kernel)) (by rw[Yo];kernel_rfl)
theorem Lh:entryFor table "set_iterator.__next__"=some Builtin.«set_iterator.__next__»:=entryFor_of_tree (by kernel_rfl)
theorem Li:entryFor table "set_iterator.__iter__"=some Builtin.«dict_keyiterator.__iter__»:=
 entryFor_alias (id':="dict_keyiterator.__iter__") (by kernel_rfl) (by first|rfl|decide+kernel) (by decide+kernel) (by kernel_rfl)
theorem Lc:entryFor table "set.__iter__"=some Builtin.«frozenset.__iter__»:=
 entryFor_alias (id':="frozenset.__iter__") (by kernel_rfl) (by first|rfl|decide+kernel) (by decide+kernel) (by kernel_rfl)
theorem Ma(v:Value):argsOk "set_iterator.__next__" ⟨[v],[]⟩:=by kernel_rfl
theorem Mb(v:Value):argsOk "set_iterator.__iter__" ⟨[v],[]⟩:=by kernel_rfl
noncomputable abbrev iP(first:Value)(i:Int)(a:Addr)(n ep:Nat):Obj:={cls:=.type "set_iterator",data:=.fields #[first,.int i 0,.ref a,.int n 0,.int ep 0]}
section
theorem xu(J:s.heap.get? it=some o)(q:o.cls=.type "set_iterator")(h:Q (.ref it) s):wpAny (model P w) A (pyIter (.ref it)) Q E s:=by have ty:s.TypeIs (.ref it) "set_iterator":=⟨o,J,q⟩;refine wpAny_pyIter_slot ty KS (jv KS ty Li ?_ (Mb _));exact qc ⟨_,rfl,"set_iterator",_,ty,cx.lookup,h⟩
theorem ue(Z:s.heap.get? it=some o)(Y:o.cls=.type "set_iterator")(h:wpAny (model P w) A.in1 (Builtin.«set_iterator.__next__» ⟨[.ref it],[]⟩) (λ fin s'=>∃v,fin=.done (.ret v)∧Q (some v) s') (λ e s'=>∃x J,e=.ref x∧s'.heap.get? x=some J∧J.cls=.type "StopIteration"∧Q none s') s):wpAny (model P w) A (pyNext (.ref it)) Q E s:=by
 have ty:s.TypeIs (.ref it) "set_iterator":=⟨o,Z,Y⟩;refine qb (wpAny_attempt (wpAny_callSpecial?_slot ty cx (jv cx ty Lh (zy h (λ fin s' q=>?_) λ e s' q=>?_) (Ma _))))
 .obtain⟨v,rfl,q⟩:=q;exact⟨v,rfl,qc q⟩
 .obtain⟨x,J,rfl,a,b,q⟩:=q;exact qb (Z5 ⟨J,a,b⟩ isSubtype_stop (qc q))
theorem EG(J:A.handled=none)(k:∀(h':Heap)(x:Addr)(q:Obj),(∀b o,s.heap.get? b=some o→h'.get? b=some o)→h'.get? x=some q→q.cls=.type "StopIteration"→E (.ref x) {s with heap:=h'}):wpAny (model P w) A (newExc (.type "StopIteration") [] >>= λ e=>raiseNew e) Q E s:=by
 refine qb ?_;refine qb (yi ?_ (by size_fits));refine qb (wpAny_of_eq (by first|rfl|(simp only[firstArgMember];rfl)) (yi ?_ (by size_fits)));refine qb (wpAny_handled ?_);rw[J];exact qb (qc (wpAny_throw (k _ _ _ (λ b o e=>qd _ (qd _ e)) (qk _ rfl) rfl)))
end
section
structure d9(h:Heap)(a:Addr)(es:Array (Int×Value))(ep:Nat)(t:SetTable):Prop where
 at_:∃o,h.get? a=some o/\o.ExactSet/\o.data=.set es ep t
 fits:t.fits es.size=true
theorem d9.keep(q:d9 h a es ep t)(k:∀o,h.get? a=some o->h'.get? a=some o):d9 h' a es ep t:=by obtain⟨⟨o,b,c⟩,f⟩:=q;exact⟨⟨o,k o b,c⟩,f⟩
theorem Pb{J:List Nat}{i p:Nat}(hI:s.heap.get? it=some (iP (.ref tp) i a es.size ep))(hO:d9 s.heap a es ep t)(hT:s.heap.IsTuple tp (J.map λ q:Nat=>Value.int q 0).toArray)(hp:J[i]?=some p)(he:es[p]?=some e)(k:∀h',h'.get? it=some (iP (.ref tp) (i+1:Nat) a es.size ep)->Heap.SameBut it s.heap h'->Q (some e.2) {s with heap:=h'}):wpAny (model P w) A (pyNext (.ref it)) Q E s:=by
 obtain⟨⟨o,b,h,Y⟩,Z⟩:=hO;obtain⟨j,f,l,m,g⟩:=hT;refine ue hI rfl ?_;show wpAny _ _ (fieldsOf (.ref it) >>= _) _ _ s;refine qb (Yn hI rfl ?_);refine qb (ju b Y Z ?_);rw[if_neg (by simp)];refine qb (wpAny_seqItems f g ?_);have d:(J.map λ q:Nat=>Value.int q 0).toArray[((i:Nat):Int).toNat]?=some (.int p 0):=by simp[hp]
 dsimp only;rw[d];refine qb ?_;refine qb (zq b Y Z ?_);dsimp only;rw[if_neg (by simp)];have c:es[((p:Nat):Int).toNat]?=some (e.1,e.2):=by simpa using he
 rw[c];refine qc (qb (Qj hI rfl (by simp) (qc ⟨_,rfl,k _ ?_ (ym ..)⟩)));have z:=zr (Obj.mapFields (·.setIfInBounds 1 (rawInt (((i:Nat):Int)+1)))) hI rfl;rw[z];rfl
theorem MB{J:List Nat}{i:Nat}(hh:A.handled=none)(hI:s.heap.get? it=some (iP (.ref tp) i a es.size ep))(Z:d9 s.heap a es ep t)(hT:s.heap.IsTuple tp (J.map λ q:Nat=>Value.int q 0).toArray)(hp:J[i]?=none)(k:∀h',Heap.ExtBut it s.heap h'->Q none {s with heap:=h'}):wpAny (model P w) A (pyNext (.ref it)) Q E s:=by
 obtain⟨⟨o,c,p,d⟩,g⟩:=Z;obtain⟨r,m,u,v,n⟩:=hT;refine ue hI rfl ?_;show wpAny _ _ (fieldsOf (.ref it) >>= _) _ _ s;refine qb (Yn hI rfl ?_);refine qb (ju c d g ?_);rw[if_neg (by simp)];refine qb (wpAny_seqItems m n ?_);have l:(J.map λ q:Nat=>Value.int q 0).toArray[((i:Nat):Int).toNat]?=none:=by simp[hp]
 dsimp only;rw[l];refine qb (Qj hI rfl (by simp) ?_);have z:=zr (Obj.mapFields (·.setIfInBounds 0 (rawInt 0))) hI rfl;refine qb (Qj z rfl (by simp[iP]) ?_);refine EG hh λ h' x j h hx f=>⟨x,j,rfl,hx,f,k h' λ b ob Y e=>h b ob ?_⟩
 rw[yh _ _ (zt Y),yh _ _ (zt Y)];exact e
theorem DX{q nx i:Nat}(hI:s.heap.get? it=some (iP (.int q 0) i a es.size ep))(Y:d9 s.heap a es ep t)(hN:∀(A':Around)(J:Option (Value×Nat)->Shared->Prop)(E':Value->Shared->Prop),J (some (v,nx)) s->wpAny (model P w) A' (setNext a q i ep) J E' s)(k:∀h',h'.get? it=some (iP (.int nx 0) (i+1:Nat) a es.size ep)->Heap.SameBut it s.heap h'->Q (some v) {s with heap:=h'}):wpAny (model P w) A (pyNext (.ref it)) Q E s:=by
 obtain⟨⟨o,b,e,Z⟩,c⟩:=Y;refine ue hI rfl ?_;show wpAny _ _ (fieldsOf (.ref it) >>= _) _ _ s;refine qb (Yn hI rfl ?_);refine qb (ju b Z c ?_);rw[if_neg (by simp)];show wpAny _ _ (setNext a ((q:Nat):Int).toNat ((i:Nat):Int).toNat ((ep:Nat):Int).toNat >>= _) _ _ s;rw[Qh,Qh,Qh];refine qb (hN _ _ _ ?_);refine qb (Qj hI rfl (by simp) ?_);have z:=zr (Obj.mapFields (·.setIfInBounds 0 (rawInt (nx:Int)))) hI rfl;refine qb (Qj z rfl (by simp[iP]) (qc ⟨_,rfl,k _ ?_ ((ym ..).trans (ym ..))⟩));have d:=zr (Obj.mapFields (·.setIfInBounds 1 (rawInt (((i:Nat):Int)+1)))) z rfl;rw[d];rfl
theorem F1{q i:Nat}(hh:A.handled=none)(hI:s.heap.get? it=some (iP (.int q 0) i a es.size ep))(Y:d9 s.heap a es ep t)(hN:∀(A':Around)(J:Option (Value×Nat)->Shared->Prop)(E':Value->Shared->Prop),J none s->wpAny (model P w) A' (setNext a q i ep) J E' s)(k:∀h',Heap.ExtBut it s.heap h'->Q none {s with heap:=h'}):wpAny (model P w) A (pyNext (.ref it)) Q E s:=by
 obtain⟨⟨o,c,l,Z⟩,g⟩:=Y;refine ue hI rfl ?_;show wpAny _ _ (fieldsOf (.ref it) >>= _) _ _ s;refine qb (Yn hI rfl ?_);refine qb (ju c Z g ?_);rw[if_neg (by simp)];show wpAny _ _ (setNext a ((q:Nat):Int).toNat ((i:Nat):Int).toNat ((ep:Nat):Int).toNat >>= _) _ _ s;rw[Qh,Qh,Qh];refine qb (hN _ _ _ ?_);refine qb (Qj hI rfl (by simp) ?_);refine EG hh λ h' x j h hx f=>⟨x,j,rfl,hx,f,k h' λ b ob d e=>h b ob ?_⟩
 rw[yh _ _ (zt d)];exact e
theorem DP(hO:d9 s.heap a es ep t)(bt:cQ w=true)(q:Q (((pickOrder (w.params.setOrder a ep) es)[i]?).map λ e=>(e.2,Z)) s):wpAny (model P w) A (setNext a Z i ep) Q E s:=by
 obtain⟨⟨o,b,d,J⟩,Y⟩:=hO;refine qb (zq b J Y ?_);refine qb (qb (yt (qc ?_)));split
 .rw[if_neg (by simp)];refine qb (qb (zq b J Y ?_));refine qb (qb (yt (qc ?_)));split
  .exact qb (yt (qc (qc q)))
  .grind
 .rename_i c;exact absurd bt c
theorem DQ(Z:d9 s.heap a es ep t)(bt:cQ w=false)(le:es.size<=1)(ld:t.led=true)(q:Q (match es[SetTable.below t.place J]?,t.place[SetTable.below t.place J]? with|some (_,x),some j=>some (x,j+1)|_,_=>none) s):wpAny (model P w) A (setNext a J i ep) Q E s:=by
 obtain⟨⟨o,b,g,d⟩,e⟩:=Z;refine qb (zq b d e ?_);refine qb (qb (yt (qc ?_)));split
 .rename_i c;have c:cQ w=true:=c;rw[bt]at c;cases c
 .split
  .rename_i c;have c:(!t.plain&&decide (es.size>1))=true:=c;simp at c;lia
  .have m:∀(Y:Unit→Shared→Prop),Y () s→wpAny (model P w) A (if(!t.led&&!es.isEmpty)=true then unsupported "set:maker-not-led" else pure ()) Y E s:=λ Y f=>by
    rw[if_neg (by simp[ld])];exact qc f
   exact qb (m _ (qc q))
end
section
def uY(P:Program)(w:World)(X:Addr->Prop)(I:Addr)(vs:List Value)(h:Heap):Prop:=
 ∃(q:List Addr)(St:Nat->Heap->Prop),(∀A:Around,A.handled=none->Walks P w A I q [I] vs.length (λ i v=>vs[i]?=some v) St)/\St 0 h/\∀b∈q,b<h.objs.size/\X b
theorem O9(es:Array (Int×Value)):((List.range es.size).map λ p=>(es.getD p default).2)=es.toList.map (·.2):=by
 apply Zz;intro i;by_cases h:i<es.size
 .simp[h,Array.getD]
 .have h':=Nat.not_lt.mp h;simp[h']
theorem Oz{J:List Nat}(hI:h.get? I=some (iP (.ref tp) 0 a es.size ep))(hO:d9 h a es ep t)(hT:h.IsTuple tp (J.map λ q:Nat=>Value.int q 0).toArray)(hp:J.Perm (List.range es.size))(n1:a≠I)(n2:tp≠I)(xI:X I)(xa:X a)(xt:X tp):uY P w X I (J.map λ p=>(es.getD p default).2) h:=by
 refine⟨[I,a,tp],λ i h=>h.get? I=some (iP (.ref tp) (i:Nat) a es.size ep)/\d9 h a es ep t/\h.IsTuple tp (J.map λ q:Nat=>Value.int q 0).toArray,λ A m=>?_,⟨hI,hO,hT⟩,λ b Y=>?_⟩
 .refine⟨λ b Y=>(by simp at Y;simp[Y]),λ i h h' st k=>⟨k I (by simp) _ st.1,st.2.1.keep (k a (by simp)),?_⟩,λ i s Q E hi st q=>?_,λ s Q E st q=>?_,λ i s Q E st q=>xu st.1 rfl q⟩
  .obtain⟨o,d,r⟩:=st.2.2;exact⟨o,k tp (by simp) _ d,r⟩
  .rw[qw]at hi;have Z:=zk hi;have g:J[i]<es.size:=by have:=hp.mem_iff.mp (Qu hi);simpa using this
   refine Pb st.1 st.2.1 st.2.2 Z (e:=es[J[i]]) (by simp[g]) λ h' j f=>q _ h' s.toks ?_ ⟨j,st.2.1.keep λ o e=>(f.2 a n1).trans e,?_⟩ λ b o Y e=>(f.2 b λ z=>Y (by simp[z])).trans e
   .rw[zo,Z];simp[Array.getD,g]
   .obtain⟨o,d,r⟩:=st.2.2;exact⟨o,(f.2 tp n2).trans d,r⟩
  .rw[qw]at st;exact MB m st.1 st.2.1 st.2.2 (jm (qj _)) λ h' c=>q h' s.toks λ b o Y e=>c b o (λ z=>Y (by simp[z])) e
 .have:b=I\/b=a\/b=tp:=by simpa using Y
  rcases this with rfl|rfl|rfl
  .exact⟨qm hI,xI⟩
  .obtain⟨⟨o,l,_⟩,_⟩:=hO;exact⟨qm l,xa⟩
  .obtain⟨o,d,_⟩:=hT;exact⟨qm d,xt⟩
theorem O8(bt:cQ w=true)(hI:h.get? I=some (iP (.int 0 0) 0 a es.size ep))(hO:d9 h a es ep t)(n1:a≠I)(xI:X I)(xa:X a):uY P w X I ((pickOrder (w.params.setOrder a ep) es).toList.map (·.2)) h:=by
 refine⟨[I,a],λ i h=>h.get? I=some (iP (.int ((0:Nat):Int) 0) (i:Nat) a es.size ep)/\d9 h a es ep t,λ A m=>?_,⟨hI,hO⟩,λ b J=>?_⟩
 .refine⟨λ b J=>(by simp at J;simp[J]),λ i h h' st k=>⟨k I (by simp) _ st.1,st.2.keep (k a (by simp))⟩,λ i s Q E hi st q=>?_,λ s Q E st q=>?_,λ i s Q E st q=>xu st.1 rfl q⟩
  .rw[qw,qy]at hi;refine DX st.1 st.2 (λ d g f Y=>DP st.2 bt (by rw[yj hi];exact Y)) λ h' j Z=>q _ h' s.toks ?_ ⟨j,st.2.keep λ o e=>(Z.2 a n1).trans e⟩ λ b o J e=>(Z.2 b λ z=>J (by simp[z])).trans e;rw[zo,jn,yj hi];rfl
  .rw[qw,qy]at st;exact F1 m st.1 st.2 (λ d g f Y=>DP st.2 bt (by grind)) λ h' c=>q h' s.toks λ b o J e=>c b o (λ z=>J (by simp[z])) e
 .have:b=I\/b=a:=by simpa using J
  rcases this with rfl|rfl
  .exact⟨qm hI,xI⟩
  .obtain⟨⟨o,l,_⟩,_⟩:=hO;exact⟨qm l,xa⟩
theorem OT(xs:Array Nat)(le:xs.size<=1):SetTable.below xs 0=0/\∀j,xs[0]?=some j->SetTable.below xs (j+1)=1:=by
 obtain⟨l⟩:=xs
 match l,le with
 |[],_=>exact⟨rfl,λ j e=>by simp at e⟩
 |[x],_=>
  refine⟨?_,λ j e=>?_⟩
  .simp[SetTable.below,SetTable.below.go]
  .have:x=j:=by simpa using e
   subst this;simp[SetTable.below,SetTable.below.go]
 |x::y::r,h=>simp at h
theorem Oy(bt:cQ w=false)(le:es.size<=1)(ld:t.led=true)(hI:h.get? I=some (iP (.int 0 0) 0 a es.size ep))(hO:d9 h a es ep t)(n1:a≠I)(xI:X I)(xa:X a):uY P w X I (es.toList.map (·.2)) h:=by
 have ps:t.place.size=es.size:=by have:=hO.fits;unfold SetTable.fits at this;simp at this;exact this.1
 obtain⟨r,u⟩:=OT t.place (by lia);refine⟨[I,a],λ i h=>(∃d:Nat,h.get? I=some (iP (.int (d:Int) 0) (i:Nat) a es.size ep)/\SetTable.below t.place d=i)/\d9 h a es ep t,λ A y=>?_,⟨⟨0,hI,r⟩,hO⟩,λ b Y=>?_⟩
 .refine⟨λ b Y=>(by simp at Y;simp[Y]),λ i h h' st k=>?_,λ i s Q E hi st q=>?_,λ s Q E st q=>?_,λ i s Q E st q=>?_⟩
  .obtain⟨⟨d,Z,f⟩,J⟩:=st;exact⟨⟨d,k I (by simp) _ Z,f⟩,J.keep (k a (by simp))⟩
  .obtain⟨⟨d,Z,f⟩,J⟩:=st;rw[qw,qy]at hi;have B:i=0:=by lia
   subst B;have j:0<t.place.size:=by lia
   refine DX Z J (λ m p n g=>DQ J bt le ld (by rw[f,yj hi,yj j];exact g)) λ h' v l=>q _ h' s.toks ?_ ⟨⟨_,v,u _ (yj j)⟩,J.keep λ o e=>(l.2 a n1).trans e⟩ λ b o Y e=>(l.2 b λ z=>Y (by simp[z])).trans e;rw[zo,jn,yj hi];rfl
  .rw[qw,qy]at st;obtain⟨⟨d,Z,f⟩,J⟩:=st;exact F1 y Z J (λ m p n g=>DQ J bt le ld (by rw[f,Array.getElem?_eq_none (Nat.le_refl _)];exact g)) λ h' c=>q h' s.toks λ b o Y e=>c b o (λ z=>Y (by simp[z])) e
  .obtain⟨⟨d,Z,f⟩,J⟩:=st;exact xu Z rfl q
 .have:b=I\/b=a:=by simpa using Y
  rcases this with rfl|rfl
  .exact⟨qm hI,xI⟩
  .obtain⟨⟨o,x,_⟩,_⟩:=hO;exact⟨qm x,xa⟩
end
section
theorem wV{es:Array (Int×Value)}(J:ElemsOf (PySem.strKind P w) es.toList)(hp:(es.toList.map λ e=>PyProof.Rows.strOf e.2).Perm ss)(pv:vs.Perm (es.toList.map (·.2))):∃ts,PyProof.Rows.StrsAre vs ts/\ts.Perm ss:=by
 refine⟨vs.map PyProof.Rows.strOf,PyProof.Rows.strsAre_map vs λ v Z=>?_,?_⟩
 .obtain⟨e,Y,rfl⟩:=List.mem_map.mp (pv.mem_iff.mp Z);refine cX (ua J e Y) λ x t q _=>?_;exact⟨x,t,q⟩
 .refine(pv.map _).trans ?_;rw[yd];exact hp
theorem QC(hS:bG P w (cQ w) s.heap a ss)(k:∀(I:Addr)(vs:List Value)(ts:List Str)(h':Heap)(dr:Drawn),(∀b o,s.heap.get? b=some o->h'.get? b=some o)->s.heap.get? I=none->I<h'.objs.size->uY P w (λ b=>b=a\/s.heap.get? b=none) I vs h'->PyProof.Rows.StrsAre vs ts->ts.Perm ss->Q (.ref I) {s with heap:=h',drawn:=dr}):wpAny (model P w) A (pyIter (.ref a)) Q E s:=by
 obtain⟨o,es,v,t,d,J,hd,Y,r,M,B,f,y,x⟩:=hS;have ty:s.TypeIs (.ref a) "set":=⟨o,d,J.1⟩;have m:d9 s.heap a es v t:=⟨⟨o,d,J,hd⟩,f⟩;have fresh:∀n,s.heap.objs.size<=n->s.heap.get? n=none:=λ n C=>by
  cases z:s.heap.get? n with
  |none=>rfl
  |some o=>exact absurd (qm z) (Nat.not_lt.mpr C)
 have l:=qm d;refine wpAny_pyIter_slot ty PySem.F.slot_set_iter (jv PySem.F.slot_set_iter ty Lc ?_ (PySem.F.args_set_iter_1 _));refine qb (qc ?_);refine qb (qb (ju d hd f (qc ?_)));refine qb ?_;refine qb (zq d hd f ?_);refine qb (qb (yt (qc (qc ?_))));split
 .rename_i c;have c:=c;refine qb (Cb _ _ _ _ (by simp) λ q dr u=>?_);have G:q.length=es.size:=by rw[u.length_eq,Y9]
  have H:(q.map λ i:Nat=>rawInt i).length<=sizeLine:=by rw[qw,G];exact Qc B
  refine qb (wpAny_newTuple ?_ H);have Z:∀b o,s.heap.get? b=some o→(s.heap.push {cls:=.type "tuple",data:=.seq (q.map λ i:Nat=>rawInt i).toArray}).get? b=some o:=λ b o e=>qd _ e;obtain⟨j,K,N,σ⟩:∃j,(s.heap.push {cls:=.type "tuple",data:=.seq (q.map λ i:Nat=>rawInt i).toArray}).get? a=some j∧j.ExactSet∧j.data=.set es v t:=⟨o,Z _ _ d,J,hd⟩;refine qb (wpAny_setEpoch_of K σ f ?_);refine qb (yi (qc ⟨_,rfl,"set_iterator",_,⟨_,qk _ rfl,rfl⟩,cx.lookup,?_⟩));have sz:(s.heap.push {cls:=.type "tuple",data:=.seq (q.map λ i:Nat=>rawInt i).toArray}).objs.size=s.heap.objs.size+1:=by rw[Zu]
  obtain⟨ts,g,h⟩:=wV (vs:=q.map λ p=>(es.getD p default).2) Y r (by rw[<-O9];exact u.map _);refine k _ _ ts _ dr (λ b o e=>qd _ (Z b o e)) (fresh _ (by rw[sz];exact Q4 _)) (qm (qk _ rfl)) (Oz (qk _ rfl) (m.keep λ o e=>qd _ (Z _ o e)) ⟨_,qd _ (qk _ rfl),rfl,0,rfl⟩ u ?_ ?_ (.inr (fresh _ (by rw[sz];exact Q4 _))) (.inl rfl) (.inr (fresh _ (qj _)))) g h
  .rw[sz];exact qr (Y7 l)
  .rw[sz];exact qr (Z9 _)
 .rename_i c;have c:¬(!cQ w&&(!t.plain&&decide (es.size>1)))=true:=c;refine qb (qc ?_);refine qb (wpAny_setEpoch_of d hd f ?_);refine qb (yi (qc ⟨_,rfl,"set_iterator",_,⟨_,qk _ rfl,rfl⟩,cx.lookup,?_⟩));cases bt:cQ w with
  |true=>
   obtain⟨ts,g,h⟩:=wV Y r ((KP _ es).map _);exact k _ _ ts _ s.drawn (λ b o e=>qd _ e) (fresh _ (qj _)) (qm (qk _ rfl)) (O8 bt (qk _ rfl) (m.keep λ o e=>qd _ e) (qr l) (.inr (fresh _ (qj _))) (.inl rfl)) g h
  |false=>
   have D:es.size<=1:=by
    rw[bt]at c;cases q:t.plain with
    |true=>have:=y q;lia
    |false=>rw[q]at c;simp at c;exact c
   obtain⟨ts,g,h⟩:=wV Y r (jl _);exact k _ _ ts _ s.drawn (λ b o e=>qd _ e) (fresh _ (qj _)) (qm (qk _ rfl)) (Oy bt D (x bt) (qk _ rfl) (m.keep λ o e=>qd _ e) (qr l) (.inr (fresh _ (qj _))) (.inl rfl)) g h
end
section
theorem Nl(ty:s.TypeIs (.ref a) "set")(q:Q false s):wpAny (model P w) A (Builtin.List.listLengthHint (.ref a)) Q E s:=by
 have sp:splitId "set.__len__"=some ("set","__len__"):=by decide+kernel
 have J:=sub_set_self;refine qb (wpAny_specialOf ty PySem.F.slot_set_len.lookup ?_);dsimp only;rw[sp];refine qb (Z5 ty J ?_);refine yb (λ z=>absurd z (by decide)) λ _=>yb (λ _=>?_) λ z=>absurd (by decide+kernel) z;exact qb (Zn ty (qc q))
theorem ON(hh:A.handled=none)(hS:bG P w (cQ w) s.heap a ss)(S:Addr)(nS:S≠a)(res:Value)(c0:Nat)(hL:s.heap.get? S=some {cls:=.type "list",data:=.seq #[] c0})(hR:∀h' tk Z(aY:Array Value)Y(ts:List Str),(∀b o,b≠S→s.heap.get? b=some o→h'.get? b=some o)→h'.get? S=some {cls:=.type "list",dict:=none,data:=.seq aY Y,slots:=#[]}→PyProof.Rows.StrsAre aY.toList ts→ts.Perm ss→R (.ok (.ret res)) {s with heap:=h',toks:=tk,drawn:=Z}):wpAny (model P w) A.in1 (Builtin.List.listExtendWith (.ref S) (.ref a) res)
   (λ fin s'=>match fin with| .done f=>R (.ok f) s'| .again Y=>Y.quiet=true/\codeAny (model P w) A Y R s') (λ e s'=>R (.error e) s') s:=by
 have ty:s.TypeIs (.ref a) "set":=by obtain⟨o,es,D,t,c,l,_⟩:=hS;exact⟨o,c,l.1⟩
 have B:ss.length<=sizeLine:=by obtain⟨o,es,D,t,c,l,hd,X,M,V,J,_⟩:=hS;have:=M.length_eq;rw[qw,qy]at this;rw[<-this];exact Qc J
 refine qb (Zn ty ?_);have G:Builtin.List.listSameRef (.ref S) (.ref a)=false:=by simp[Builtin.List.listSameRef,nS]
 have H:(Value.type "set"==Value.type "list")=false:=by decide
 have K:(Value.type "set"==Value.type "tuple")=false:=by decide
 simp only[G,H,K,Bool.or_false,Bool.false_eq_true,if_false];refine qb (QC hS λ I vs ts h' Z d fI aj rd y x=>?_);obtain⟨fp,St,W,st,T⟩:=rd;have ρ:vs.length=ss.length:=by
  have:=y.strs;have q:vs.length=ts.length:=by rw[<-this,qw]
  rw[q,x.length_eq]
 have p:S∉fp:=λ m=>by
  rcases(T S m).2 with z|z
  .exact nS z
  .rw[hL]at z;cases z
 have n:∀(h:Heap)(g tk:Nat),St 0 h→(∀b o,b≠S→s.heap.get? b=some o→h.get? b=some o)→h.get? S=some {cls:=.type "list",data:=.seq #[] g}→codeAny (model P w) A (.builtin "list.extend.loop" ⟨[.ref S,.ref I,res],[]⟩) R {s with heap:=h,toks:=tk,drawn:=Z}:=λ h g tk C k0 O=>by
  refine codeAny_extend_loopS (W A.in1 hh).toS (by rw[ρ];exact B) S p res vs.length 0 _ #[] g rfl (ye _) C O (ItemsOf.nil _) λ s' aY Y r N u=>?_;have E:aY.toList=vs:=by
   apply Zz;intro j;rw[jn];by_cases i:j<aY.size
   .rw[u.2 j _ (yj i),yj i]
   .rw[Array.getElem?_eq_none (Nat.not_lt.mp i),jm (by have:=u.1;lia)]
  rw[Moved.eq_with r];refine hR s'.heap s'.toks Z aY Y ts (λ b o J e=>r.heap b o (λ m=>?_) (k0 b o J e)) N (by rw[E];exact y) x;rcases qt m with z|m
  .exact J z
  .rw[List.mem_singleton.mp m,fI]at e;cases e
 have k:=d _ _ hL;refine qb (z0 (Nl ?_ ?_))
 .obtain⟨o,c,σ⟩:=ty;exact⟨o,d _ _ c,σ⟩
 refine yb (λ _=>?_) (λ _=>qc ⟨Qz PySem.F.plain_extend_loop _,n _ c0 _ st (λ b o _ e=>d _ _ e) k⟩);refine qb (wpAny_rule (qb ?_));refine qb (wpAny_updateSeq k rfl ?_);have v:=zr (Obj.mapSeq λ z=>z.push Value.none) k rfl;refine wpAny_updateSeq v rfl ?_;have Q:=zr (Obj.mapSeq λ z=>z.pop) v rfl;refine qc ⟨Qz PySem.F.plain_extend_loop _,n _ _ _ ?_ (λ b o J e=>?_) Q⟩
 .refine(W A.in1 hh).frame 0 _ _ st λ b J o e=>?_;have nb:S≠b:=λ z=>p (by rw[z];exact J);exact(yh _ _ nb).trans ((yh _ _ nb).trans e)
 .exact(yh _ _ (zt J)).trans ((yh _ _ (zt J)).trans (d _ _ e))
end
open PyProof.Rows
section
theorem Mr(hh:A.handled=none)(hS:bG P w (cQ w) s.heap a ss)(k:∀(h':Heap)(tk:Nat)(J:Drawn)(vs:List Value)(ts:List Str),(∀b o,s.heap.get? b=some o->h'.get? b=some o)->StrsAre vs ts->ts.Perm ss->Q vs {s with heap:=h',toks:=tk,drawn:=J}):wpAny (model P w) A (collect (.ref a)) Q E s:=by
 have j:a<s.heap.objs.size:=by obtain⟨o,es,u,t,m,_⟩:=hS;exact qm m
 refine qb (wpAny_runValue (jo PySem.F.entry_proto_collect ?_));rw[je PySem.F.plain_proto_collect _];refine qb (yi (qc ⟨Qz PySem.F.plain_list_iadd _,jo PySem.F.entry_list_iadd ?_⟩));rw[je PySem.F.plain_list_iadd _];have n:(s.heap.push {cls:=.type "list",data:=.seq ([]:List Value).toArray}).get? s.heap.objs.size=some {cls:=.type "list",data:=.seq #[]}:=qk _ rfl;have i:=ON (s:={s with heap:=s.heap.push {cls:=.type "list",data:=.seq ([]:List Value).toArray}})
  (R:=λ q(s':Shared)=>∃(h':Heap)(tk:Nat)(J:Drawn)(c:Array Value)(Z:Nat)(ts:List Str),q=.ok (.ret (.ref s.heap.objs.size))/\s'={s with heap:=h',toks:=tk,drawn:=J}/\(∀b o,s.heap.get? b=some o→h'.get? b=some o)∧h'.get? s.heap.objs.size=some {cls:=.type "list",dict:=none,data:=.seq c Z,slots:=#[]}∧StrsAre c.toList ts∧ts.Perm ss)
  hh (hS.keep λ b o e=>qd _ e) s.heap.objs.size (Yh j) (.ref s.heap.objs.size) 0 n
  (λ h' tk J c Z ts d Y g h=>⟨h',tk,J,c,Z,ts,rfl,rfl,λ b o e=>d b o (qr (qm e)) (qd _ e),Y,g,h⟩)
 refine zy i (λ fin s' x=>?_) λ e s' x=>?_
 .cases fin with
  |done f=>
   obtain⟨h',tk,J,c,Z,ts,e,rfl,d,Y,g,h⟩:=x;cases e;exact qb (wpAny_load Y (qc (k h' tk J c.toList ts d g h)))
  |again p=>
   refine⟨x.1,Qs x.2 λ q r y=>?_⟩;obtain⟨h',tk,J,c,Z,ts,rfl,rfl,d,Y,g,h⟩:=y;exact qb (wpAny_load Y (qc (k h' tk J c.toList ts d g h)))
 .obtain⟨_,_,_,_,_,_,l,_⟩:=x;cases l
theorem Kw(h:l.Perm m):dy l=dy m:=by refine Z1 (λ a b _ _ p q=>?_) (n5 l) (n5 m) ((gJ l).trans (h.trans (gJ m).symm));unfold f_ at p q;rw[Z6]at p q;have:=Je (List.not_lt.mp p) (List.not_lt.mp q);obtain⟨⟨Y⟩⟩:=a;obtain⟨⟨J⟩⟩:=b;subst this;rfl
theorem Ou(hh:A.handled=none)(hS:bG P w (cQ w) s.heap a ss)(aa:ss.length<64)(k:∀(h1 h2:Heap)(tk:Nat)(Z:Drawn)(out:Array Value)(e:Nat),(∀b o',s.heap.get? b=some o'→h1.get? b=some o')→(∀b o',h1.get? b=some o'→h2.get? b=some o')→h2.get? h1.objs.size=some (seqObj "list" out e)→StrsAre out.toList (dy ss)→Q (.ref h1.objs.size) {s with heap:=h2,toks:=tk,drawn:=Z}):wpAny (model P w) A (call (.builtin "sorted") [.ref a]) Q E s:=by
 refine Calls.call_function_entry kind_sorted plain_sorted entry_sorted (args_sorted1 _) ?_;refine qb (qc (qb (Mr hh hS λ h1 tk Z us p l Y d=>?_)));have g:us.length=ss.length:=by have q:=Y.strs;rw[<-d.length_eq,<-q,qw]
 refine qb (wpAny_newList ?_ (by rw[g,jy];lia));have J:(h1.push (seqObj "list" us.toArray 0)).get? h1.objs.size=some (seqObj "list" us.toArray 0):=qk _ rfl;refine qb (z0 (jv slot_list_sort ⟨_,J,rfl⟩ entry_list_sort (list_sort_treeK strKind_oneLt J Y.keysOf (λ v1 v2 r e=>keyKind_strs (by rw[<-e];exact Y)) (by rw[g];exact aa) λ st i j=>⟨_,rfl,?_⟩) (args_list_sort _)));refine aW (sorted_out_str Y i j) λ o f m n=>?_;obtain⟨e,h⟩:=sortedHeap_at J;rw[Dp m n,Kw d]at f;refine qc ⟨_,rfl,k h1 _ tk Z _ e l (λ b o' c=>?_) h f⟩;have lt:=qm c;rw[sortedHeap_old (Q7 lt) (by rw[size_push'];exact Y7 lt)];exact qd _ c
end
open L2
def lx(P:Program)(w:World)(a:Addr)(ss:List Str):HO:=.ext λ h=>bG P w (cQ w) h a ss
theorem GO(q:bG P w (cQ w) h a ss):aZ P w H h a (lx P w a ss):=by
 refine⟨q,?_,λ c d Y k=>?_⟩
 .obtain⟨o,es,b,t,J,_⟩:=q;exact⟨o,J⟩
 .obtain⟨o,es,b,t,J,r⟩:=Y;exact⟨o,es,b,t,k _ J,r⟩
theorem aI.drawn(q:Drawn)(I:aI X aA L H s):aI X aA L H {s with drawn:=q}:=
 ⟨I.ok,I.os,I.bare,I.base,I.loc,I.cell,I.free,I.freeC,I.pin,I.hok,I.len⟩
theorem bR.side(s:aD H0 H)(J:H p=none):bR H0 H H0 (upd H p o):=by refine⟨aD.refl _,λ b u e=>by rw[a_ (iw e J)];exact e,λ b u e=>?_,λ b u e=>.inl e⟩;have q:=s _ _ e;grind[a_]
section
theorem QP(I:aI X aA L H s)(J:c7 X.K H p xs\/dH X.K H p xs):∃(T:Bool)(q:List Value),aQ xs q/\fF T s.heap p q.toArray:=by
 rcases J with J|J
 .refine aW (I.list J) λ q Y Z _=>?_;exact⟨false,q,Y,Z.isList⟩
 .refine aW (I.tuple J) λ q Y a _=>?_;exact⟨true,q,Y,a⟩
theorem Dy(hc:X.calm=true):bQ X (.type "set") (λ xs H Q=>∃p ss,xs=[.ref p]∧(c7 X.K H p (ss.map V.str)∨dH X.K H p (ss.map V.str))∧ss.length<1000∧∀l,H l=none→Q (.ref l) (upd H l (lx X.prog X.w l (dj [] ss)))):=by
 intro aA s L H xs us Q I r h;obtain⟨p,ss,rfl,a,e,q⟩:=h;obtain⟨u,rfl,c⟩:=h8 r;subst c;refine cX (QP I a) λ T d Z J=>?_;refine MF (I.ok.hd hc) J (CV Z) (by unfold scanBound;lia) λ h' f b Y=>?_;exact⟨.ref s.heap.objs.size,_,I.laid b (qj _) (GO Y),rfl,q _ (I.hok.fresh (qj _))⟩
theorem LB(hc:X.calm=true):bQ X (.builtin "sorted") (λ xs H Q=>∃p ss,xs=[.ref p]∧H p=some (lx X.prog X.w p ss)∧ss.length<64∧∀l,H l=none→Q (.ref l) (upd H l (.lst ((dy ss).map V.str)))):=by
 intro aA s L H xs us Q I r h;obtain⟨p,ss,rfl,f,Y,q⟩:=h;obtain⟨u,rfl,i⟩:=h8 r;subst i;have d:=(I.hok p _ f).1;refine Ou (I.ok.hd hc) d Y λ c m k Z a e k1 k2 J j=>?_;have b:=aI.drawn Z (I.kept (t':=k) k1);have g:((dy ss).map V.str).length<=sizeLine:=by rw[qw,(gJ ss).length_eq,jy];lia
 refine⟨.ref c.objs.size,_,b.laid (o:=.lst ((dy ss).map V.str)) k2 (qj _) ⟨g,a.toList,e,Cu j,?_⟩,rfl,q _ (b.hok.fresh (qj _))⟩;rw[J]
end
open Sem (wp)
section
variable{prog:Program}{w:World}{A:Around}{E:Value->Shared->Prop}{s:Shared}
structure Nx(prog:Program)(w:World)(i:Addr)(fp:List Addr)(get:Nat->Option Value)(P:Nat->Heap->Prop):Prop where
 mem:i∈fp
 keep:∀k h h',P k h->(∀b∈fp,∀o,h.get? b=some o->h'.get? b=some o)->P k h'
 there:∀k h,P k h->∃o vs,h.get? i=some o/\o.data=.fields vs
 draw:∀(A:Around)(E:Value->Shared->Prop)(s:Shared)(Q:Value->Shared->Prop)(k:Nat)(x:Value),P k s.heap->get k=some x->(∀h',P (k+1) h'->Heap.SameBut i s.heap h'->Q x {s with heap:=h'})->wpAny (model prog w) A (Builtin.SmallTypes.nextOf (.ref i)) Q E s
 over:∀(A:Around)(E:Value->Shared->Prop)(s:Shared)(Q:Value->Shared->Prop)(k:Nat),A.handled=none->P k s.heap->get k=none->(∀h' e,Heap.ExtBut i s.heap h'→(∃o,h'.get? e=some o∧o.cls=.type "StopIteration")→E (.ref e) {s with heap:=h'})→wpAny (model prog w) A (Builtin.SmallTypes.nextOf (.ref i)) Q E s
end
abbrev zO(q:Value)(J:Bool)(TI TO:Addr):Obj:={cls:=.type "zip",dict:=none,data:=.fields #[q,.bool J,.bool false,.ref TI,.ref TO],slots:=#[]}
end Fx
namespace Fx
open PySem PySem.Spec PyProof.Rows L2
def IP(T:Bool)(h:Heap)(i a:Addr)(k:Nat):Prop:=if T=true then IsTupIter h i a k else h.IsListIter i a k
def tZ(T:Bool)(z TI TO J q a b:Addr)(i:Nat)(Y:Value)(Z:Bool)(h:Heap):Prop:=
 h.get? z=some (zO Y Z TI TO)/\IsPair h TI (.ref J) (.ref q)/\(∃u v,IsPair h TO u v)/\IP T h J a i/\IP T h q b i
theorem Ui{d:D}{k:Str}(h:kS d=some k):d=.str k:=by
 cases d with
 |str z=>obtain rfl:=br h;rfl
 |_=>cases h
section
variable{X:Cx}{pos:Pos}{e k:Expr}{F G:FE}{A:FA}
theorem mq(i:Nat){x:Str}{p:Pos}(hu:X.A.units+1<cLine)(hk:XE X k G)(hN:X.N[i]?=some x:=by rfl)(hv:fh X.env.scope x:=by first|exact Or.inl rfl|exact Or.inr (Or.inl rfl)|exact Or.inr (Or.inr rfl))(hd:cH x:=by decide)(Z:er x:=by decide)(hs:sh k:=by exact λ _ _=>rfl):XE X (.Subscript (.Name x p) k pos) (ki i G):=
 PE.wk (vj hu (eI hN hv hd Z) hk hs) λ L H Q J=>by
  refine bL J λ c H0 U d e R f q=>?_;unfold ki vS at f;obtain⟨⟨j,E⟩,n,f⟩:=aL f;unfold vR at f;obtain⟨⟨y,Y⟩,o,f⟩:=aL f;unfold vQ at f;obtain⟨kk,r,f⟩:=aL f;unfold vP at f;obtain⟨⟨b,aO⟩,s,f⟩:=aL f;unfold gx at f;obtain⟨l,u,f⟩:=aL f;have m:some (l,Y)=some (d,e):=f;cases m;have w:y=.str kk:=Ui r;subst w;obtain⟨a,e1,_⟩:=R.ow i j _ (mY n);refine⟨_,e1,c,H0,U,_,_,R,o,λ v H1 Hh z g h=>?_⟩;unfold aS at h;subst h;obtain⟨D,e2,_,_,F,I,e4,rfl,t⟩:=g.ow i b _ (mY s);rw[e1]at e2;cases e2;obtain⟨v,B,C⟩:=pb t u;refine⟨a,v,rfl,?_,q v H1 Hh z g C⟩;rw[<-B];exact d4.k (k:=.inr kk) e4
end
theorem d0:∀{us:List Value}{ns:List Int},IntsAre us ns->aQ (ns.map V.int) us
 |_,_,.nil=>.nil
 |_,_,.cons n t h=>.cons ⟨t,rfl⟩ (d0 h)
section
variable{X:Cx}
theorem Eg{K:Frag}{q:List Str}(s:aD H0 H)(ea:H0 a=some (.frz o (.dK ((q.map Sum.inr).zip vs))))(t:aB K H0 ds vs)(l:q.length=ds.length):∃u,d4 H a (.str k) u/\(cy k (q.zip ds)=none->u=none)/\∀d,cy k (q.zip ds)=some d->∃v,u=some v/\aS K H0 d v:=by
 have Y:(q.zip ds).map (·.1)=q:=Qt (by lia);have b:(q.zip ds).map (·.2)=ds:=Jd (by lia);have c:=t.length;refine⟨fC (cY q vs) (.inr k),.inl ⟨_,.inr k,.inr ⟨o,s _ _ ea⟩,rfl,rfl⟩,λ h=>?_,λ d h=>?_⟩
 .grind[zT]
 .obtain⟨v,J,Z⟩:=pb (by rw[b];exact t) h;rw[Y]at J;exact⟨v,J,Z⟩
theorem g9(h:vp d=some k):d=.str k:=by
 cases d with
 |str z=>obtain rfl:=br h;rfl
 |_=>cases h
theorem RY(Y:X.A.units+1<cLine):du X (compareOp .NotIn) (λ y x H Q=>∃a o,x=.ref a/\d4 H a y o/\Q (.bl (!o.isSome)) H):=by
 intro aA s L H x y v u Q I J b h;obtain⟨a,o,rfl,g,q⟩:=h;subst b;exact Sy Y I g J λ s' Z=>⟨.bl (!o.isSome),H,Z,rfl,q⟩
theorem T2{K:Frag}(s:aD H0 H)(r1:aS K H0 (.str k) J)(Y:aS K H0 (.dct q ds) Z):∃a o,Z=.ref a/\d4 H a J o/\o.isSome=(cy k (q.zip ds)).isSome:=by
 subst r1;obtain⟨a,ob,h,rfl,c,t,l⟩:=Y;obtain⟨u,b,f,g⟩:=Eg s c t l;refine⟨a,u,rfl,b,?_⟩;cases z:cy k (q.zip ds)with
 |none=>rw[f z];rfl
 |some d=>obtain⟨v,e,_⟩:=g d z;rw[e];rfl
theorem Rq(Y:X.A.units+1<cLine):hF X .NotIn uP:=⟨_,RY Y,λ c H0 H U L x y d j l Q R f g e q=>by
 obtain⟨⟨i,h⟩,J,e⟩:=aL e;obtain⟨k,b,e⟩:=aL e;cases eG J;cases g9 b;obtain rfl:=br e;obtain⟨a,o,rfl,Z,z⟩:=T2 R.same f g;exact⟨a,o,rfl,Z,by rw[z];exact q _ H0 H (aD.refl _) R (by rfl)⟩⟩
end
end Fx
namespace Fx
open PySem
noncomputable def iq:Option Sl->Option (Bool×List D)
 |some (.ow b (.lst xs))=>some (b,xs)
 |_=>none
def Ac(U:En)(o:Option (Bool×List D)):Option (D×En):=aF o λ q=>some (.int q.2.length,U)
def yN(i:Nat)(U:En):Option (D×En):=Ac U (iq U[i]?)
noncomputable def v7:D->Option Int
 |.int k=>some k
 |_=>none
noncomputable def p0(xs:List D)(k:Int):Option D:=if 0<=k then xs[k.toNat]? else none
def yO(U:En)(k:Int)(o:Option (Bool×List D)):Option (D×En):=aF o λ q=>aF (p0 q.2 k) λ d=>some (d,U)
def yP(i:Nat)(o:Option (D×En)):Option (D×En):=aF o λ p=>aF (v7 p.1) λ k=>yO p.2 k (iq p.2[i]?)
def Bl(i:Nat)(F:FE)(U:En):Option (D×En):=aF (iq U[i]?) λ _=>yP i (F U)
def yG(i:Nat)(U:En)(d:D)(k:Int)(o:Option (Bool×List D)):Option bM:=aF o λ q=>if 0<=k/\k.toNat<q.2.length then some (.nx (U.set i (.ow q.1 (.lst (q.2.set k.toNat d)))))else none
def yH(i:Nat)(d:D)(o:Option (D×En)):Option bM:=aF o λ p=>aF (v7 p.1) λ k=>yG i p.2 d k (iq p.2[i]?)
def yJ(i:Nat)(I:FE)(o:Option (D×En)):Option bM:=aF o λ p=>aF (iq p.2[i]?) λ _=>yH i p.1 (I p.2)
def Bi(i:Nat)(I F:FE)(U:En):Option bM:=yJ i I (F U)
def sD(n k:Nat)(F:En->Option (List D×MO))(o:MO)(ds:List D):Option (List D×MO):=if ds.length=n then F (.ow true o::(ds.map .im++List.replicate k .no))else none
def yQ(j:Nat)(U:En):Option (List D×MO):=aF (jE U[j]?) λ xs=>aF (gf U[0]?) λ q=>if q.1=true then some (xs,q.2)else none
def AM(F:En->Option (List D×MO)):bM->Option (List D×MO)
 |.nx ρ'=>F ρ'
 |_=>none
def mX(A:FS)(F:En->Option (List D×MO))(U:En):Option (List D×MO):=aF (A U) (AM F)
def Bf(j i:Nat)(U:En)(b:Bool)(o:Option (List D×MO)):Option bM:=aF o λ z=>some (.nx ((U.set i (.ow b z.2)).set j (.ow false (.lst z.1))))
def Bg(j i:Nat)(g:MO->List D->Option (List D×MO))(ds:List D)(U:En)(o:Option (Bool×MO)):Option bM:=aF o λ q=>Bf j i U q.1 (g q.2 ds)
def Bh(j i:Nat)(g:MO->List D->Option (List D×MO))(o:Option (List D×En)):Option bM:=aF o λ p=>Bg j i g p.1 p.2 (gf p.2[i]?)
def Cr(j i:Nat)(g:MO->List D->Option (List D×MO))(A:FA)(U:En):Option bM:=aF (gf U[i]?) λ _=>Bh j i g (A U)
noncomputable def ni(ds:List D)(k:Int):Option (D×List D):=if 0<=k then match (ds[k.toNat]?:Option D),(ds[(0:Nat)]?:Option D)with
 |some (.tup (w::n::r)),some (.tup (_::m::_))=>some (.tup (w::n::r),ds.set k.toNat (.tup [.str "later",n,.tup [m],.tup [.int 1]]))
 |_,_=>none
 else none
noncomputable def vJ:Option Sl->Bool
 |some .no=>true
 |_=>false
def rG(i ir:Nat)(U:En)(ds:List D)(E:FS):D⊕XV->Option bM
 |.inl _=>E U
 |.inr (x,some (f,.int k))=>if x=Str.ofString "NoWorks"∧f=Str.ofString "at" then aF (ni ds k) λ q=>some (.nx ((U.set ir (.im q.1)).set i (.ow false (.lst q.2))))else none
 |_=>none
def zU(i ir ik:Nat)(g:List D->Option (D⊕XV))(E:FS)(U:En)(o:Option (List D)):Option bM:=aF o λ ds=>if vm i U=true/\vJ U[ik]?=true/\ir<U.length then aF (g [.lst ds]) (rG i ir U ds E)else none
def Fh(i ir ik:Nat)(g:List D->Option (D⊕XV))(E:FS)(U:En):Option bM:=zU i ir ik g E U (AA U[i]?)
def zX(g:D->En->Option En)(B:FX)(U:En)(o:Option (List D)):Option RX:=aF o λ xs=>jR g B (ij 0 xs) U
def zY(g:D->En->Option En)(B:FX)(o:Option (D×En)):Option RX:=aF o λ p=>zX g B p.2 (lK p.1)
def yL(g:D->En->Option En)(F:FE)(B:FX)(U:En):Option RX:=zY g B (F U)
@[simp] theorem W0:(∀b xs,iq (some (.ow b (.lst xs)))=some (b,xs))/\(∀i U,yN i U=Ac U (iq U[i]?))/\(∀U q,Ac U (some q)=some (.int q.2.length,U))/\(∀i F U,Bl i F U=aF (iq U[i]?) λ _=>yP i (F U))/\(∀i k U,yP i (some (.int k,U))=yO U k (iq U[i]?))/\(∀U k b xs,yO U k (some (b,xs))=aF (p0 xs k) λ d=>some (d,U))/\(∀i I F U,Bi i I F U=yJ i I (F U))/\(∀i I d U,yJ i I (some (d,U))=aF (iq U[i]?) λ _=>yH i d (I U))/\(∀i d k U,yH i d (some (.int k,U))=yG i U d k (iq U[i]?))/\(∀i U d k b xs,yG i U d k (some (b,xs))=if 0<=k/\k.toNat<xs.length then some (.nx (U.set i (.ow b (.lst (xs.set k.toNat d)))))else none)/\(∀A F U,mX A F U=aF (A U) (AM F))/\(∀F U,AM F (.nx U)=F U)/\(∀j i g A U,Cr j i g A U=aF (gf U[i]?) λ _=>Bh j i g (A U))/\(∀j i g ds U,Bh j i g (some (ds,U))=Bg j i g ds U (gf U[i]?))/\(∀j i g ds U b o,Bg j i g ds U (some (b,o))=Bf j i U b (g o ds))/\(∀j i U b xs o,Bf j i U b (some (xs,o))=some (.nx ((U.set i (.ow b o)).set j (.ow false (.lst xs)))))/\(∀g F B U,yL g F B U=zY g B (F U))/\(∀g B x U,zY g B (some (x,U))=zX g B U (lK x))/\(∀g B U xs,zX g B U (some xs)=jR g B (ij 0 xs) U):=by and_intros<;>intros<;>rfl
open PySem.W PySem.Spec PyProof.Rows L2
theorem Nq{K:Frag}(R:RS K c H1 Hh U L)(hf:jR g B xs U=some r)(hy:u7 K J H1 xs)(q:gR K mg E c Dn H1 r):∃W:Nat->Nat->L2.St->Hp->Prop,(∃m,W 0 m L Hh)/\∀i m L H,W i m L H->(J.stop i H/\Dn.nx L H)\/(J.go i H/\∃N:L2.St->Hp->Prop,(∀Y H',N Y H'->∃m',m'<m/\W (i+1) m' Y H')/\∀x H',J.yld i H x H'->tG K g x L H' λ ae H2=>tX K mg E B {Dn with nx:=N,ct:=N,bk:=Dn.nx} ae H2):=by
 refine⟨λ i m L H=>m=xs.length-i/\i<=xs.length/\∃H0 U,aD H1 H0/\RS K c H0 H U L/\jR g B (xs.drop i) U=some r,⟨xs.length,by simp,ye _,H1,U,aD.refl _,R,by simpa using hf⟩,?_⟩;rintro i m L H ⟨rfl,hi,H0,U,s0,l,Z⟩;obtain⟨D,F⟩:=hy H0 H i s0 l.same;by_cases n:i<xs.length
 .have hd:xs[i]?=some xs[i]:=by simp[n]
  obtain⟨go,G⟩:=D _ hd;refine .inr ⟨go,λ Y H'=>∃m',m'<xs.length-i/\m'=xs.length-(i+1)/\i+1<=xs.length/\∃H0 U,aD H1 H0/\RS K c H0 H' U Y/\jR g B (xs.drop (i+1)) U=some r,λ Y H'⟨m',a,b⟩=>⟨m',a,b⟩,λ x H' hx=>?_⟩;obtain⟨aR,S,w⟩:=G x H' hx;rw[oh hd,Fp]at Z;obtain⟨p,s,Z⟩:=aL Z;obtain⟨z,t,Z⟩:=aL Z;have s0:=s0.trans S.s0;refine⟨c,aR,U,_,p,l.after S,w,s,λ I H2 cJ k R2=>⟨c,H2,p,z,R2,t,?_⟩⟩
  match z,Z with
  |.ok (.nx e),Z=>exact λ Y f dC j h=>⟨_,by lia,rfl,n,f,e,s0.trans (k.trans j),h,Z⟩
  |.ok (.ct e),Z=>exact λ Y f dC j h=>⟨_,by lia,rfl,n,f,e,s0.trans (k.trans j),h,Z⟩
  |.ok (.bk e),Z=>cases Z;exact λ Y f dC j h=>q Y f dC (s0.trans (k.trans j)) h
  |.ok (.rt d e),Z=>cases Z;exact λ v Y f dC j h r3=>q v Y f dC (s0.trans (k.trans j)) h r3
  |.ex y,Z=>cases Z;exact λ C dd o Y f dC m j h A=>q C dd o Y f dC m (s0.trans (k.trans j)) h A
 .have u:xs.drop i=[]:=jk (by lia);rw[u,NQ]at Z;cases Z;exact .inl ⟨F (by lia),q L H0 H s0 l⟩
section
theorem MP(hR:zS X E)(hm:X.mg x=some (.ref C))(hx:pe X.K C fI=true)(h1:kE X.K C f)(Fk:cB X.prog X.w X.K X.mg X.base (hJ X.prog X.w) k fI fd ["self",f] (wu X.K f))(hr:bJ (k+1) X.A)(hb:cV X.K fd ["self",f] [])(ha:XE X a F)(hc:X.calm=true:=by rfl)(Z:X.ex=[]:=by rfl)(hg:Gl X x:=by rfl)(hd:cH x:=by decide)(hs:starEach [a] X.env=[(false,eval a X.env)]:=by rfl):oV X E (.Raise (some (.Call (.Name x np) [a] [] cpos)) none pos) (xA x f F):=
 PS.wk (PM hR hc Z hm hx h1 Fk hr hb ha hg hd hs) λ Dn L H J=>by
  refine bY J λ c H0 U r R e q=>?_;obtain⟨⟨d,Y⟩,g,e⟩:=aL e;obtain rfl:=br e;refine⟨c,H0,U,d,Y,R,g,λ v H1 Hh i b h dx hx=>?_⟩;have S:=bR.alloc (o:=.xd [(f,v)]) b.same hx;exact q C (some dx) Y L _ _ hm (i.trans S.s0) (b.after S) ⟨v,aS.mono S.s0 _ h,bT⟩
theorem SH(hp:PassesOwn (model X.prog X.w) X.A X.env X.xe)(hm:X.mg "enumerate"=none)(hg:XG X (.Tuple J x1 pt) g)(ha:XE X a F)(hb:XX X E Y B)(ac:Gl X "enumerate":=by rfl)(hc:X.calm=true:=by rfl)(ae:starEach [a] X.env=[(false,eval a X.env)]:=by rfl)(hs:∀x,foldedSetIterable (.Call (.Name "enumerate" p) [a] [] pos') X.env x=pure x:=by intro _;rfl):oV X E (.For (.Tuple J x1 pt) (.Call (.Name "enumerate" p) [a] [] pos') Y [] pos) (yL g F B):=PS.wk (rY hp hc (GV ac hm ha ae) hg hb hs) λ Dn L H Z=>by
 refine bY Z λ c H0 U r R f q=>?_;obtain⟨⟨d,i⟩,j,f⟩:=aL f;obtain⟨xs,e,f⟩:=aL f;cases d with
 |lst ys=>
  obtain rfl:=br e;refine bA c H0 U _ i R j λ v H1 Hh m b k=>?_;obtain⟨a,n,rfl,h,l⟩:=k;exact bE a n rfl (aD.seq b.same h) (Nq b f (C_ h l) (q.mono m))
 |_=>cases e
end
section
variable{K:Frag}
theorem XC.fld(f:XC K C)(g:kE K C name)(X:K.In s.heap)(I:InstAt s.heap x ox C (some od))(hl:lookIn name od=some (some v))(J:handedIn v=true)(h:Q v {s with toks:=s.toks+1}):wpAny (model prog w) A (getAttr (.ref x) name true) Q E s:=by
 refine aW g.cl λ e Y _ hd=>?_;have Z:=findObj_own (by unfold hasDictIn;rw[Y];exact hd) g.na rfl hl;obtain⟨j,i,d,t,os⟩:=s;have q:=I.type (M:=model prog w);have a:=looks_findIn (M:=model prog w) X f.ga;have L2:=looks_findIn (M:=model prog w) X f.gh;have b:=looks_find (M:=model prog w) X I Z;have c:(onTheHeap (.ref C)&&Value.builtin "BaseException.__getattribute__"==Value.builtin "object.__getattribute__")=false:=by rw[show(Value.builtin "BaseException.__getattribute__"==Value.builtin "object.__getattribute__")=false by decide+kernel];rfl
 refine qb (wpAny_mkText ?_);refine z0 (qb (q.at (qb (a.at ?_))));dsimp only;rw[c,if_neg (by decide)];unfold getAttrByItsOwn hookBefore;refine qb ?_;rw[show onTheHeap (.ref C)=true from rfl,if_pos rfl];refine L2.at (qb (wpAny_attempt (z0 ?_)));unfold callGetattribute;rw[show(true&&onTheHeap (Value.builtin "BaseException.__getattribute__"))=false from rfl,if_neg (by decide)];refine qb (wpAny_of_eq (F.attr_ValueError.ga.bind (.ref x)) ?_);refine Yd (Yp F.attr_ValueError.ga.plain F.entry_bexc_ga (f.ck X I ?_));refine qb (qc (qb (qc (qb (q.at (qb (b.at ?_)))))));refine qc ?_;show wpAny _ _ (handedOut v) _ _ _;rw[handedOut_of J];exact qc h
end
theorem R9{h:Heap}(n:h.Ns1 dx m)(e:m name=some u):∃o,h.get? dx=some o/\lookIn name o=some (some u):=by obtain⟨o,es,a,q,Y,Z,b,J⟩:=n;refine⟨o,q,?_⟩;unfold lookIn;rw[Y];dsimp only;have z:=J name;rw[e]at z;unfold nsFind findBy at z;grind
section
theorem Fl(c:XC X.K C)(g:kE X.K C f)(he:PE (nX X a (eg (.ref C) vs (some dx))) e te)(hb:attributeBase e f X.env (eval e X.env)=eval e X.env):PE (nX X a (eg (.ref C) vs (some dx))) (.Attribute e f pos) (λ L H Q=>te L H λ x H1=>x=.ref a/\∃n,H1 dx=some (.xd [(f,.int n)])/\Q (.int n) H1):=by
 intro aA s L H Q I h;refine SE hb (bN (he aA s L H _ I h) λ u k=>dJ λ x H1 Y j z=>?_);obtain⟨rfl,n,hx,q⟩:=z;obtain rfl:u=.ref a:=j;obtain⟨m,ns,i⟩:=(show aZ _ _ H1 k.heap dx (.xd [(f,.int n)])from Y.hok dx _ hx);have J:=i f;rw[show([(f,V.int n)]:List (Str×V)).lookup f=some (.int n) by simp[List.lookup]]at J;cases Z:m f with
 |none=>rw[Z]at J;exact J.elim
 |some u=>
  rw[Z]at J;obtain⟨l,rfl⟩:=J;obtain⟨o,b,d⟩:=R9 ns Z;exact c.fld g Y.kIn ⟨(Y.pin (a,eg (.ref C) vs (some dx)) (qg)).1,rfl,rfl,b⟩ d rfl ⟨.int n,H1,Y.tok _,⟨l,rfl⟩,q⟩
end
def Jl(K:Frag)(C:Addr):Bool:=(clsIn K C).any λ c=>m3 c.mro&&c.hasDict
theorem T9{K:Frag}(h:Jl K C=true):∃cd,clsIn K C=some cd/\m3 cd.mro=true/\cd.hasDict=true:=by obtain⟨cd,a,b⟩:=any_some h;grind
structure Mn(K:Frag)(mg:Str->Option Value)(x y f qual:Str)(st:Stmt)(c0 c2 fI:Addr)(fd:FuncData):Prop where
 m0:mg x=some (.ref c0)
 m2:mg y=some (.ref c2)
 x0:pe K c0 fI=true
 s1:kE K c0 f
 k0:XC K c0
 e0:exmOne K (.ref c0) (.ref c2)=some true
 t0:kitOne K (.ref c0) (.ref c0)=some true
 n0:kitOne K (.type "NoneType") (.ref c0)=some false
 fn:ic K "__init__" qual st fI fd
 b0:cV K fd ["self",f] []
end Fx
namespace Fx
open PySem PySem.SetTable
noncomputable def lp(m:Nat)(q:Nat×Nat):Nat×Nat:=leap m q.1 q.2
def gw(m:Nat):Nat->Nat×Nat->Nat×Nat
 |0,q=>q
 |n+1,q=>gw m n (lp m q)
theorem qU(m:Nat):∀(a b:Nat)(q:Nat×Nat),gw m (a+b) q=gw m b (gw m a q)
 |0,b,q=>by rw[Y4];rfl
 |a+1,b,q=>by rw[Nat.add_right_comm];exact qU m a b (lp m q)
theorem AU(m:Nat):∀(n:Nat)(q:Nat×Nat),(gw m n q).2=q.2/32^n
 |0,q=>by simp[gw]
 |n+1,q=>by
  rw[gw,AU m n];show q.2/32/32^n=_;rw[Nat.div_div_eq_div_mul,Y6,Nat.mul_comm]
theorem Ip(m:Nat):∀(n:Nat)(q:Nat×Nat),q.1<=m->(gw m n q).1<=m
 |0,q,h=>h
 |n+1,q,h=>Ip m n (lp m q) (Nat.le_of_lt_succ (Nat.mod_lt _ (Zp m)))
def i9(m:Nat):Prop:=∀i j,i<=m->j<=m->∃n,n<=m/\(gw m n (i,0)).1=j
noncomputable def wh(m:Nat):Nat->Nat->List Nat
 |0,_=>[]
 |n+1,i=>i::wh m n ((i*5+1)%(m+1))
theorem G4(m:Nat):∀(n:Nat)(i:Nat),∀j∈wh m n i,∃k,k<n/\(gw m k (i,0)).1=j
 |0,i,j,h=>by cases h
 |n+1,i,j,h=>by
  rw[wh,jb]at h;rcases h with rfl|h
  .exact⟨0,Zp _,rfl⟩
  .obtain⟨k,q,e⟩:=G4 m n _ j h;refine⟨k+1,Nat.succ_lt_succ q,?_⟩;have z:lp m (i,0)=((i*5+1)%(m+1),0):=by show leap m i 0=_;unfold leap;simp
   rw[gw,z];exact e
theorem qV(h:(List.range (m+1)).all (λ j=>(wh m (m+1) 0).contains j)=true)(hz:gw m (m+1) (0,0)=(0,0)):i9 m:=λ i j hi Z=>by
 rw[Jf]at h;have q:∀x,x<=m->∃k,k<=m/\gw m k (0,0)=(x,0):=λ x hx=>by
  obtain⟨k,g,e⟩:=G4 m (m+1) 0 x (List.contains_iff_mem.mp (h x (List.mem_range.mpr (by lia))));have e2:(gw m k (0,0)).2=0:=by rw[AU];simp
  exact⟨k,by lia,Prod.ext e e2⟩
 obtain⟨a,d,Y⟩:=q i hi;obtain⟨b,f,J⟩:=q j Z;by_cases c:a<=b
 .refine⟨b-a,by lia,?_⟩;rw[<-Y,<-qU,show a+(b-a)=b by lia,J]
 .refine⟨m+1-a+b,by lia,?_⟩;rw[<-Y,<-qU,show a+(m+1-a+b)=(m+1)+b by lia,qU,hz,J]
theorem Iy:i9 7:=qV (by decide+kernel) (by decide+kernel)
theorem TM:i9 15:=qV (by decide+kernel) (by decide+kernel)
theorem TL:i9 31:=qV (by decide+kernel) (by decide+kernel)
theorem TK:i9 63:=qV (by decide+kernel) (by decide+kernel)
theorem So:i9 127:=qV (by decide+kernel) (by decide+kernel)
theorem SA(h:Int):bits h<2^64:=by
 unfold bits;have a:=jh h (show(2^64:Int)≠0 by decide)
 lia
theorem Rj(F:i9 m)(hi:i<=m)(J:p<2^64)(q:j<=m):∃n,n<turns m/\(gw m n (i,p)).1=j:=by
 have e2:(gw m 13 (i,p)).2=0:=by rw[AU];exact Nat.div_eq_of_lt (qp J (by decide))
 have e1:=Ip m 13 (i,p) hi;obtain⟨n,Y,e⟩:=F _ j e1 q;refine⟨13+n,by unfold turns;lia,?_⟩;rw[qU];have:gw m 13 (i,p)=((gw m 13 (i,p)).1,0):=by rw[<-e2]
 rw[this];exact e
theorem Ec:∀(J i p:Nat),(∃n,n<J/\ow.getD (gw m n (i,p)).1 (some 0)=none)->∃j,layClean.free m ow J i p=some j/\ow.getD j (some 0)=none
 |0,i,p,⟨n,h,_⟩=>absurd h (Nat.not_lt_zero n)
 |J+1,i,p,⟨n,h,e⟩=>by
  unfold layClean.free;cases q:List.find? (λ k=>(ow.getD (i+k) (some 0)).isNone) (List.range (runEnd m i+1-i))with
  |some k=>
   refine⟨i+k,rfl,?_⟩;have:=List.find?_some q;exact Option.isNone_iff_eq_none.mp this
  |none=>
   cases n with
   |zero=>
    have:=List.find?_eq_none.mp q 0 (List.mem_range.mpr (by unfold runEnd;split<;>lia));rw[Nat.add_zero]at this;have Y:ow.getD i (some 0)=none:=e;rw[Y]at this;exact absurd rfl this
   |succ n=>
    exact Ec J _ _ ⟨n,Nat.lt_of_succ_lt_succ h,e⟩
noncomputable def Cy(m:Nat)(aY:Option (Array (Option Nat)×Nat))(h:Int):Option (Array (Option Nat)×Nat):=
 aY.bind λ q=>(layClean.free m q.1 (turns m) (bits h%(m+1)) (bits h)).bind λ j=>some (q.1.setIfInBounds j (some q.2),q.2+1)
theorem Tu(m:Nat)(q:Array Int):layClean m q=(q.foldl (Cy m) (some (Array.replicate (m+1) none,0))).map (·.1):=rfl
theorem BV(x:Nat)(r:List (Option Nat)):List.filterMap id (some x::r)=x::List.filterMap id r:=rfl
theorem JU(r:List (Option Nat)):List.filterMap id (none::r)=List.filterMap id r:=rfl
def pG(m:Nat)(ow:Array (Option Nat))(k:Nat):Prop:=ow.size=m+1/\(ow.toList.filterMap id).Perm (List.range k)
theorem E_:∀l:List (Option Nat),(∀x∈l,x≠none)->(l.filterMap id).length=l.length
 |[],_=>rfl
 |none::r,h=>absurd rfl (h none (by simp))
 |some x::r,h=>by
  rw[BV,zh,zh,E_ r λ y q=>h y (by simp[q])]
theorem yl:∀(l:List (Option Nat))(j k:Nat),l[j]?=some none->((l.set j (some k)).filterMap id).Perm (k::l.filterMap id)
 |[],j,k,h=>by simp at h
 |x::r,0,k,h=>by
  have e:x=none:=by simpa using h
  subst e;simp
 |none::r,j+1,k,h=>by
  rw[List.set_cons_succ,JU,JU];exact yl r j k (by simpa using h)
 |some x::r,j+1,k,h=>by
  rw[List.set_cons_succ,BV,BV];exact((yl r j k (by simpa using h)).cons x).trans (List.Perm.swap k x _)
theorem getD_none{ow:Array (Option Nat)}(h:ow.getD j (some 0)=none):ow.toList[j]?=some none:=by rw[Zr]at h;grind
theorem QO(F:i9 m)(I:pG m ow k)(hk:k<=m)(h:Int):∃q,Cy m (some (ow,k)) h=some (q,k+1)/\pG m q (k+1):=by
 obtain⟨a,Z⟩:=I;have fr:∃j,j<=m/\ow.getD j (some 0)=none:=Classical.byContradiction λ no=>by
  have all:∀x∈ow.toList,x≠none:=λ x hx e=>by
   obtain⟨j,J,Y⟩:=List.mem_iff_getElem.mp hx;rw[qy]at J;refine no ⟨j,by lia,?_⟩;rw[Zr,<-jn,zk (by rw[qy];exact J),Y,e];rfl
  have i:=E_ _ all;rw[Z.length_eq,Y9,qy,a]at i;lia
 obtain⟨j,J,Y⟩:=fr;obtain⟨n,f,c⟩:=Rj F (Nat.le_of_lt_succ (Nat.mod_lt _ (Zp m))) (SA h) J;obtain⟨g,b,d⟩:=Ec (turns m) _ _ ⟨n,f,by rw[c];exact Y⟩;refine⟨ow.setIfInBounds g (some k),?_,by rw[Array.size_setIfInBounds];exact a,?_⟩
 .show((layClean.free m ow (turns m) (bits h%(m+1)) (bits h)).bind _)=_;rw[b];rfl
 .rw[Array.toList_setIfInBounds];refine(yl _ _ _ (getD_none d)).trans ((Z.cons k).trans ?_);rw[List.range_succ];exact(List.perm_append_singleton k (List.range k)).symm
theorem EF(F:i9 m):∀(l:List Int)(ow:Array (Option Nat))(k:Nat),pG m ow k->k+l.length<=m+1->∃q,l.foldl (Cy m) (some (ow,k))=some (q,k+l.length)/\pG m q (k+l.length)
 |[],ow,k,I,_=>⟨ow,rfl,I⟩
 |h::r,ow,k,I,a=>by
  rw[zh]at a;obtain⟨J,e1,Y⟩:=QO F I (by lia) h;obtain⟨Z,e2,b⟩:=EF F r J (k+1) Y (by lia);refine⟨Z,?_,?_⟩
  .grind
  .grind
theorem Tt(F:i9 m)(q:Array Int)(Z:q.size<=m+1):∃ow,layClean m q=some ow/\pG m ow q.size:=by
 have Y:pG m (Array.replicate (m+1) none) 0:=⟨Array.size_replicate,by
  rw[Array.toList_replicate];have:∀n,List.filterMap id (List.replicate n (none:Option Nat))=[]:=λ n=>by induction n with
   |zero=>rfl
   |succ n J=>rw[List.replicate_succ,List.filterMap_cons_none rfl,J]
  rw[this];exact .refl _⟩
 obtain⟨ow,e,I⟩:=EF F q.toList _ 0 Y (by rw[qy];lia);rw[qy,Y4]at I e;refine⟨ow,?_,I⟩;rw[Tu,<-Array.foldl_toList,e];rfl
theorem G5(ow:Array (Option Nat)):((List.range ow.size).filterMap λ j=>(ow.getD j none).map (j,·)).map (·.2)=ow.toList.filterMap id:=by
 rw[List.map_filterMap];have:∀(l:List (Option Nat)),(List.range l.length).filterMap (λ j=>((l[j]?.getD none).map (j,·)).map (·.2))=l.filterMap id:=λ l=>by
  induction l with
  |nil=>rfl
  |cons x r q=>
   rw[zh,List.range_succ_eq_map,Zm,List.filterMap_map];have z:(λ j=>Option.map (λ x=>x.2) (Option.map (λ x=>(j,x)) ((x::r)[j]?.getD none)))∘Nat.succ=λ j=>((((r[j]?.getD none).map ((j+1),·)).map (·.2):Option Nat)):=by funext j;simp
   rw[z];have J:(λ j=>((((r[j]?.getD none).map ((j+1),·)).map (·.2):Option Nat)))=λ j=>((r[j]?.getD none).map (j,·)).map (·.2):=by funext j;cases r[j]?.getD none<;>rfl
   rw[J,q];cases x<;>rfl
 have t:=this ow.toList;rw[qy]at t;rw[<-t];congr 1;funext j;rw[Zr,jn]
theorem G8(F:i9 m)(J:Array Int)(Y:J.size<=m):∃t q,laid m fi mv l p J=some (t,q)/\q.toList.Perm (List.range J.size)/\t.fits J.size=true/\t.led=l/\t.plain=p/\t.mask=m/\t.dummies=#[]:=by
 obtain⟨a,e,I⟩:=Tt F J (by lia);refine⟨_,_,by unfold laid;rw[e];rfl,?_,?_,rfl,rfl,rfl,rfl⟩
 .rw[<-I.1,G5];exact I.2
 .have sz:(((List.range (m+1)).filterMap λ j=>(a.getD j none).map (j,·)).map (·.1)).length=J.size:=by rw[qw,<-qw,<-I.1,G5,I.2.length_eq,Y9]
  unfold fits fill;simp only[zg,zd,Yz,Y3];refine⟨sz,?_⟩;rw[sz];exact Y
end Fx
namespace Fx
open PySem PySem.Spec
theorem D2(n:Nat)(h:n<=120):i9 (SetTable.sizeAbove n-1)/\n<=SetTable.sizeAbove n-1/\SetTable.sizeAbove n<=128:=by
 have q:∀k<121,(SetTable.sizeAbove k=8\/SetTable.sizeAbove k=16\/SetTable.sizeAbove k=32\/SetTable.sizeAbove k=64\/SetTable.sizeAbove k=128)/\k<=SetTable.sizeAbove k-1:=by decide+kernel
 obtain⟨k1,k2⟩:=q n (by lia);refine⟨?_,k2,by lia⟩;rcases k1 with e|e|e|e|e<;>rw[e]
 .exact Iy
 .exact TM
 .exact TL
 .exact TK
 .exact So
section
theorem Dr{es:Array (Int×Value)}{q:Array Nat}(h:q.toList.Perm (List.range es.size)):(q.filterMap (es[·]?)).toList.Perm es.toList:=by rw[Array.toList_filterMap];exact(h.filterMap _).trans (by rw[filterMap_getElem?_range])
theorem CY(ho:s.heap.get? a=some o)(hd:o.data=.set es ep t)(hf:t.fits es.size=true)(hw:q<=120)(hz:es.size<=q)(h:∀(Z:Array (Int×Value))(t':SetTable),Z.toList.Perm es.toList->t'.fits Z.size=true->t'.led=t.led->t'.plain=t.plain->t'.mask=SetTable.sizeAbove q-1->t'.fill=Z.size->Q () {s with heap:=s.heap.update a (Obj.putSet Z t')}):wpAny (model P w) A (setRelay a q) Q E s:=by
 obtain⟨F,j,m⟩:=D2 q hw;refine qb (zq ho hd hf ?_);obtain⟨t',J,e,b,Y,k,f,l,g⟩:=G8 F (Array.map (λ x=>x.fst) es) (by rw[Array.size_map];lia);rw[Array.size_map]at b Y;have i:t.relaid (Array.map (λ x=>x.fst) es) q=some (t',J):=e;have d:=Dr b;have sz:(J.filterMap (es[·]?)).size=es.size:=by rw[<-qy,d.length_eq,qy]
 refine yb (λ c=>absurd c (by rw[jy];lia)) λ _=>?_;rw[i];refine qb (yb (λ c=>absurd sz (by simpa using c)) λ _=>qc ?_);refine Q5 ho hd (h _ _ d (by rw[sz];exact Y) k f l ?_) (by rw[sz];have:=j;rw[jy];lia);unfold SetTable.fits at Y;simp only[zd,Yz]at Y;unfold SetTable.fill;rw[g,sz,Y.1];rfl
end
section
variable{ss os:List Str}
theorem N0(J:h.get? a=some (dk w)):bG P w (cQ w) h a []:=
 ⟨_,#[],0,_,J,⟨rfl,rfl,rfl⟩,rfl,λ e q=>(by simp at q),jl _,Qm,by decide,by rfl,λ _=>rfl,λ e=>by rw[e];rfl⟩
theorem Du{aj:Sem Unit}{h1:Heap}{oa:Obj}{ae:Nat}{t1:SetTable}{Q:Unit->Shared->Prop}{ob:Obj}{Z:Array (Int×Value)}{epb:Nat}{tb:SetTable}(af:s.heap.get? a=some oa)(ag:oa.ExactSet)(ac:oa.data=.set #[] ae t1)(ar:t1.fits 0=true)(fi:t1.fill=0)(F:i9 t1.mask)(hz:Z.size<=t1.mask)(ai:cQ w=false->t1.led=true)(al:ElemsOf (PySem.strKind P w) Z.toList)(ao:(Z.toList.map λ e=>PyProof.Rows.strOf e.2).Perm os)(ap:os.Nodup)(an:Z.size<scanBound)(aq:tb.fits Z.size=true)(ak:tb.plain=true->Z.size=0)(aa:cQ w=false->tb.led=true)(k:∀h',Heap.SameBut a s.heap h'->bG P w (cQ w) h' a os->Q () {s with heap:=h'}):
  wpAny (model P w) A (do
   let (_,_,ts)<-setState a
   match ts.road tb with
   |.slotForSlot=>storeSet a Z {tb with finger:=ts.finger,led:=ts.led&&tb.led,moves:=ts.moves,plain:=ts.plain&&tb.plain}
   |.clean=>
    let (es,t)<-(match SetTable.laid ts.mask ts.finger ts.moves (led:=ts.led&&tb.led) (plain:=ts.plain&&tb.plain) (Z.map (·.1))with
     |some (t,Y)=>if(Y.filterMap (Z[·]?)).size != Z.size then(do unsupported "internal:set-table-lost-an-element";pure (Y.filterMap (Z[·]?),t))else pure (Y.filterMap (Z[·]?),t)
     |_=>unsupported "internal:set-table-without-room":Sem (Array (Int×Value)×SetTable))
    storeSet a es t
   |.oneByOne=>aj) Q E s:=by
 refine qb (zq af ac ar ?_);dsimp only;have done:∀(J:Array (Int×Value))(b:SetTable),J.toList.Perm Z.toList->b.fits J.size=true->(b.plain=true->tb.plain=true)->(cQ w=false->b.led=true)->wpAny (model P w) A (storeSet a J b) Q E s:=λ J b d j n m=>by
  have sz:J.size=Z.size:=by rw[<-qy,d.length_eq,qy]
  have f:J.size<scanBound:=by rw[sz];exact an
  have i:(s.heap.update a (Obj.putSet J b)).get? a=some {oa with data:=.set J (ae+1) b}:=by have z:=zr (Obj.putSet J b) af (by rw[Q3 J b ac];rfl);rw[Q3 J b ac]at z;exact z
  refine Q5 af ac (k _ (ym _ a _) ?_) (Qc f);exact⟨_,J,ae+1,b,i,ag,rfl,al.perm d,(d.map _).trans ao,ap,f,j,λ q=>by rw[sz];exact ak (n q),m⟩
 have rd:t1.road tb=if t1.mask==tb.mask&&tb.dummies.isEmpty then .slotForSlot else .clean:=by unfold SetTable.road;rw[fi];rfl
 rw[rd];by_cases c:(t1.mask==tb.mask&&tb.dummies.isEmpty)=true
 .rw[if_pos c];dsimp only;exact done _ _ (.refl _) aq (λ q=>(Bool.and_eq_true_iff.mp q).2) λ q=>by grind
 .rw[if_neg c];dsimp only;obtain⟨b,Y,e,g,h,u,o,v,r⟩:=G8 F (fi:=t1.finger) (mv:=t1.moves) (l:=t1.led&&tb.led) (p:=t1.plain&&tb.plain) (Array.map (λ x=>x.fst) Z) (by grind);rw[Array.size_map]at g h;have d:=Dr g;have sz:(Y.filterMap (Z[·]?)).size=Z.size:=by rw[<-qy,d.length_eq,qy]
  rw[e];grind
theorem Kx(ai:a≠b)(ho:s.heap.get? a=some (dk w))(hS:bG P w (cQ w) s.heap b os)(hz:os.length<=60)(k:∀h',Heap.SameBut a s.heap h'->bG P w (cQ w) h' a os->(os≠[]\/h'=s.heap)->Q () {s with heap:=h'}):wpAny (model P w) A (setMerge a b ah) Q E s:=by
 obtain⟨ob,d,epb,tb,v,K,t,Z,f,l,j,h,Y,J⟩:=hS;have o:d.size=os.length:=by have:=f.length_eq;rw[qw,qy]at this;exact this
 unfold setMerge;have G:(a==b)=false:=by simpa using ai
 rw[G];refine yb (λ c=>absurd c (by decide)) λ _=>?_;refine qb (zq v t h ?_);refine yb (λ c=>?_) λ c=>?_
 .have z:os=[]:=by rw[Zh,o]at c;exact List.length_eq_zero_iff.mp c
  subst z;exact qc (k s.heap (Q9 a _) (N0 ho) (.inr rfl))
 .have r:os≠[]:=λ z=>by
   subst z;exact c (by rw[Zh];exact o)
  refine qb ?_;refine qb (zq ho rfl rfl ?_);have I:(SetTable.fresh 0 0 !cQ w).roomFor d.size=if(0+d.size)*5>=7*3 then some ((0+d.size)*2)else none:=rfl;rw[I]
  by_cases m:(0+d.size)*5>=7*3
  .rw[if_pos m];have p:(0+d.size)*2<=120:=by lia
   obtain⟨F,M,_⟩:=D2 _ p;refine CY ho rfl rfl p (ye _) λ x e H C D σ n u=>?_;have z:x=#[]:=by have:=H.length_eq;rw[qy,qy]at this;exact Array.eq_empty_of_size_eq_zero this
   subst z;have y:(s.heap.update a (Obj.putSet #[] e)).get? a=some {dk w with data:=.set #[] (0+1) e}:=by have z:=zr (Obj.putSet #[] e) ho rfl;exact z
   have B:=ym s.heap a (Obj.putSet #[] e);refine Du (h1:=s.heap) (ob:=ob) (epb:=epb) y ⟨rfl,rfl,rfl⟩ rfl C u (by rw[n];exact F) (by rw[n];lia) (λ q=>by rw[D];rw[q];rfl) Z f l j h Y J λ h' i g=>?_;exact k h' (B.trans i) g (.inl r)
  .rw[if_neg m];refine qc ?_;exact Du (h1:=s.heap) (ob:=ob) (epb:=epb) ho ⟨rfl,rfl,rfl⟩ rfl rfl rfl Iy (by show d.size<=7;lia) (λ q=>by rw[q];rfl) Z f l j h Y J λ h' i g=>k h' i g (.inl r)
end
section
variable{ss os:List Str}
theorem WU(ha:bG P w bt s.heap a ss)(hb:bG P w bt s.heap b os)(q:Q true s):wpAny (model P w) A (setsQuiet [b,a]) Q E s:=by
 refine qb (wpAny_forIn_list _ (λ l d s'=>(∀c∈l,∃xs,bG P w bt s.heap c xs)/\d=(none,())/\s=s') _ (λ c rest d s' h=>?_) (λ d s' h=>?_) _ _ ⟨λ c J=>?_,rfl,rfl⟩)
 .obtain⟨Y,rfl,g⟩:=h;subst g;obtain⟨xs,o,es,z,t,k,r,hd,m,B,u,y,j,p,n⟩:=Y c (by simp);refine qb (ju k hd j (qb ?_));refine wpAny_forIn_array' _ (λ l d s'=>(∀e∈l,∃x t,e.2=Value.str x t)/\d=(none,())/\s=s') _ (λ e rest d s' h=>?_) (λ d s' h=>?_) _ _ ⟨λ e Z=>?_,rfl,rfl⟩
  .obtain⟨Y,rfl,g⟩:=h;subst g;obtain⟨i,v⟩:=e;obtain⟨x,t,f⟩:=Y (i,v) (by simp);have f:=f;subst f;exact qc ⟨λ e Z=>Y e (by simp[Z]),rfl,rfl⟩
  .obtain⟨_,rfl,rfl⟩:=h;exact qc ⟨λ c J=>Y c (by simp[J]),rfl,rfl⟩
  .grind[e1,ua]
 .obtain⟨_,rfl,rfl⟩:=h;exact qc q
 .grind
theorem PD(ho:s.heap.get? a=some o)(hd:o.data=.set es ep t)(hf:t.fits es.size=true)(Y:cQ w=false->t.led=true)(q:∀(J:Array (Int×Value))(Z:Drawn),J.toList.Perm es.toList->Q J {s with drawn:=Z}):wpAny (model P w) A (setWalk a) Q E s:=by
 refine qb (zq ho hd hf ?_);refine qb (qb (yt (qc ?_)));split
 .exact qb (yt (qc (q _ s.drawn (KP _ es))))
 .rename_i c;have d:cQ w=false:=by cases z:cQ w with
   |false=>rfl
   |true=>exact absurd z c
  split
  .refine qb (Cb _ _ _ _ (by simp) λ g Z e=>qc (q _ Z ?_));exact e
  .have m:∀(b:Unit→Shared→Prop),b () s→wpAny (model P w) A (if(!t.led&&decide (es.size>1))=true then unsupported "set:maker-not-led" else pure ()) b E s:=λ b f=>by
    rw[if_neg (by simp[Y d])];exact qc f
   exact qb (m _ (qc (q es s.drawn (.refl _))))
theorem bG.perm(S:bG P w bt h a xs)(p:xs.Perm ys):bG P w bt h a ys:=by obtain⟨o,es,c,t,f,Z,hd,Y,g,b,d,e,J,q⟩:=S;exact⟨o,es,c,t,f,Z,hd,Y,g.trans p,p.nodup_iff.mp b,d,e,J,q⟩
theorem K3(ha:bG P w (cQ w) s.heap a ss)(am:bG P w (cQ w) s.heap b os)(ho:s.heap.get? b=some o)(hd:o.data=.set es ep t)(hf:t.fits es.size=true)(ah:cQ w=false->t.led=true)(q:∀(Z:Array (Int×Value))(h':Heap)(dr:Drawn),Z.toList.Perm es.toList->Heap.SameBut a s.heap h'->bG P w (cQ w) h' a ss->Q Z {s with heap:=h',drawn:=dr}):wpAny (model P w) A (setWalkUnseen b [a] (some a)) Q E s:=by
 refine qb (zq ho hd hf ?_);refine qb (qb (yt (qc ?_)));have walk:wpAny (model P w) A (setWalk b) Q E s:=PD ho hd hf ah λ Z dr v=>q Z s.heap dr v (Q9 a _) ha;refine yb (λ c=>walk) λ c=>?_;refine qb (WU ha am ?_);refine yb (λ c=>absurd c (by decide)) λ _=>?_;refine qb (wpAny_rule ?_);obtain⟨p,d,i,ta,f,j,Y,k,n,m,g,h,l,J⟩:=ha;refine qb (zq f Y h ?_);refine yb (λ x=>?_) λ _=>?_
 .refine qb (Q5 f Y (qc (q es _ s.drawn (.refl _) (ym _ a _) ?_)) (Qc g));generalize u:({ta with led:=ta.led&&t.led,plain:=ta.plain&&t.plain}:SetTable)=e;have r:(s.heap.update a (Obj.putSet d e)).get? a=some {p with data:=.set d (i+1) e}:=by have z:=zr (Obj.putSet d e) f (by rw[Q3 d e Y];rfl);rw[Q3 d e Y]at z;exact z
  subst u;exact⟨_,d,i+1,_,r,j,rfl,k,n,m,g,h,λ z=>l (Bool.and_eq_true_iff.mp z).1,λ z=>by rw[J z,ah z];rfl⟩
 .exact qc (q es s.heap s.drawn (.refl _) (Q9 a _) ⟨p,d,i,ta,f,j,Y,k,n,m,g,h,l,J⟩)
end
section
variable{ss os:List Str}
theorem Pa(h:aY.Nodup):(hM aY x).Nodup:=by grind[hM]
theorem mG:∀(xs aY:List Str),aY.Nodup->(dj aY xs).Nodup
 |[],aY,h=>h
 |x::r,aY,h=>mG r (hM aY x) (Pa h)
theorem OV(h:aY.Nodup)(p:xs.Perm ys):(dj aY xs).Perm (dj aY ys):=
 (Ql (mG xs aY h) (mG ys aY h)).mpr λ y=>by rw[lI,lI,p.mem_iff]
theorem DY{f g:Array (Int×Value)×Nat×SetTable->Sem Unit}(ae:a≠b)(aw:ss≠[])(hA:bG P w (cQ w) s.heap a ss)(hB:bG P w (cQ w) s.heap b os)(aj:s.heap.get? b=some ob)(af:ob.data=.set eb epb tb)(al:tb.fits eb.size=true)(Z:cQ w=false->tb.led=true)(an:ElemsOf (PySem.strKind P w) eb.toList)(ap:(eb.toList.map λ e=>PyProof.Rows.strOf e.2).Perm os)(hz:ss.length+os.length<=60)(ac:∀(s':Shared)(Q':Unit->Shared->Prop),s'.heap.get? b=some ob->Q' () s'->wpAny (model P w) A Y Q' E s')(k:∀h' dr,Heap.SameBut a s.heap h'->bG P w (cQ w) h' a (dj ss os)->Q () {s with heap:=h',drawn:=dr}):
  wpAny (model P w) A (do
   let sa<-setState a
   match sa.2.2.road tb with
   |.slotForSlot=>f sa
   |.clean=>g sa
   |.oneByOne=>do
    let q<-setWalkUnseen b [a] (some a)
    let _<-forIn q PUnit.unit λ x(_:PUnit)=>do
     let _<-holding [x.2] (setAddHashed a x.2 x.1)
     Y
     let st<-setState b
     if(st.2.1 != epb)=true then do
       unsupported "set.changed-during-merge"
       pure (ForInStep.yield PUnit.unit)
      else pure (ForInStep.yield PUnit.unit)
    pure ()) Q E s:=by
 have I:=hA;obtain⟨oa,M,W,ta,H,S,K,T,D,u,V,j,ρ,X⟩:=hA;have hn:M.size=ss.length:=by have:=D.length_eq;rw[qw,qy]at this;exact this
 refine qb (zq H K j ?_);have N:ta.fill≠0:=by
  unfold SetTable.fits at j;simp only[zd,Yz]at j;unfold SetTable.fill;have:ss.length≠0:=λ z=>aw (List.length_eq_zero_iff.mp z)
  lia
 have rd:ta.road tb=.oneByOne:=by unfold SetTable.road;rw[if_pos (by simpa using N)]
 rw[rd];refine qb (K3 I hB aj af al Z λ q O dr r σ F=>qb ?_);have G:=an.perm r;have n:=(r.map _).trans ap;have B:q.toList.length=os.length:=by rw[<-n.length_eq,qw]
 refine wpAny_forIn_array' _ (λ l _ s'=>∃h' xs,s'={s with heap:=h',drawn:=dr}/\Heap.SameBut a s.heap h'/\bG P w (cQ w) h' a xs/\(∀e∈l,∃x t,e.2=Value.str x t/\e.1=(PySem.strKind P w).hash x)/\xs.length+l.length<=60/\dj xs (l.map λ e=>PyProof.Rows.strOf e.2)=dj ss (q.toList.map λ e=>PyProof.Rows.strOf e.2)) _ (λ e rest _ s' h=>?_) (λ _ s' h=>?_) _ _ ⟨O,ss,rfl,σ,F,ua G,by rw[B];exact hz,rfl⟩
 .obtain⟨h',xs,rfl,i,d,p,y,J⟩:=h;obtain⟨x,tk,e2,e1⟩:=p e (by simp);obtain⟨h0,v⟩:=e;subst e1;subst e2;rw[zh]at y;refine qb (z0 (Dl d (by unfold scanBound;lia) λ o m C=>?_));have bb:o.get? b=some ob:=by rw[m.2 b (zt ae),i.2 b (zt ae)];exact aj
  refine qb (ac _ _ bb (qb (zq bb af al ?_)));refine yb (λ c=>absurd c (by simp)) λ _=>qc ?_;refine⟨o,hM xs x,rfl,i.trans m,C,λ e R=>p e (by simp[R]),?_,J⟩;have l2:(hM xs x).length<=xs.length+1:=by
   unfold hM;split
   .lia
   .rw[zi];exact qj _
  lia
 .obtain⟨h',xs,rfl,i,d,_,_,J⟩:=h;have e:xs=dj ss (q.toList.map λ e=>PyProof.Rows.strOf e.2):=J;refine qc (k h' dr i ?_);rw[e]at d;exact d.perm (OV u n)
end
section
variable{P:Program}{w:World}{A:Around}{E:Value->Shared->Prop}{s:Shared}{a b:Addr}{ss os:List Str}
theorem K4(Y:a≠b)(av:ss≠[])(hA:bG P w (cQ w) s.heap a ss)(hB:bG P w (cQ w) s.heap b os)(hz:ss.length+os.length<=60)(ae:∀(s':Shared)(Q':Unit->Shared->Prop),s'.heap.get? b=s.heap.get? b->Q' () s'->wpAny (model P w) A ag Q' E s')(k:∀h' dr,Heap.SameBut a s.heap h'->bG P w (cQ w) h' a (dj ss os)->Q () {s with heap:=h',drawn:=dr}):wpAny (model P w) A (setMerge a b ag) Q E s:=by
 have u:=hB;obtain⟨ob,g,N,tb,Z,a2,j,t,i,a5,a3,m,a1,r⟩:=hB;have T:g.size=os.length:=by have:=i.length_eq;rw[qw,qy]at this;exact this
 unfold setMerge;have ρ:(a==b)=false:=by simpa using Y
 rw[ρ];refine yb (λ c=>absurd c (by decide)) λ _=>?_;refine qb (zq Z j m ?_);refine yb (λ c=>?_) λ c=>?_
 .have z:os=[]:=by rw[Zh,T]at c;exact List.length_eq_zero_iff.mp c
  subst z;exact qc (k s.heap s.drawn (Q9 a _) hA)
 .refine qb ?_;have M:=hA;obtain⟨V,o,x,ta,l,F,h,G,v,I,σ,f,H,D⟩:=hA;have ha:o.size=ss.length:=by have:=v.length_eq;rw[qw,qy]at this;exact this
  have pl:ta.place.size=o.size:=by unfold SetTable.fits at f;simp only[zd,Yz]at f;exact f.1
  refine qb (zq l h f ?_);have W:ta.roomFor g.size=if(ta.fill+g.size)*5>=ta.mask*3 then some ((ta.place.size+g.size)*2)else none:=rfl;rw[W]
  by_cases y:(ta.fill+g.size)*5>=ta.mask*3
  .rw[if_pos y];refine CY l h f (by lia) (by lia) λ J d p O S K hm a4=>?_;have C:(s.heap.update a (Obj.putSet J d)).get? a=some {V with data:=.set J (x+1) d}:=by have z:=zr (Obj.putSet J d) l (by rw[Q3 J d h];rfl);rw[Q3 J d h]at z;exact z
   have sz:J.size=o.size:=by rw[<-qy,p.length_eq,qy]
   have n:=ym s.heap a (Obj.putSet J d);have B:bG P w (cQ w) (s.heap.update a (Obj.putSet J d)) a ss:=⟨_,J,x+1,d,C,F,rfl,G.perm p,(p.map _).trans v,I,by rw[sz];exact σ,O,λ q=>by rw[sz];exact H (K▸q),λ q=>by rw[S];exact D q⟩;have bb:(s.heap.update a (Obj.putSet J d)).get? b=some ob:=by rw[n.2 b (zt Y)];exact Z
   exact DY Y av B (u.same n (zt Y)) bb j m r t i hz (λ s' Q' e q=>ae s' Q' (by rw[e,Z]) q) λ h' dr X R=>k h' dr (n.trans X) R
  .rw[if_neg y];exact qc (DY Y av M u Z j m r t i hz (λ s' Q' e q=>ae s' Q' (by rw[e,Z]) q) k)
end
theorem Mq:entryFor table "set.__or__"=some Builtin.«frozenset.__or__»:=
 entryFor_alias (id':="frozenset.__or__") (by kernel_rfl) rfl (by decide+kernel) (by kernel_rfl)
section
variable{s:Shared}
theorem bG.ty(J:bG P w bt s.heap a ss):s.TypeIs (.ref a) "set":=by
 refine bY J λ o es b t Y q _=>?_;exact⟨o,Y,q.1⟩
theorem xX(ty:s.TypeIs (.ref a) "set")(q:Q true s):wpAny (model P w) A (Builtin.Frozenset.isAnySet (.ref a)) Q E s:=by have J:=sub_set_self;refine qb (Z5 ty J ?_);exact qc q
theorem T7(J:bG P w (cQ w) s.heap a ss)(hz:ss.length<=60)(k:∀h',(∀b o,s.heap.get? b=some o->h'.get? b=some o)->bG P w (cQ w) h' s.heap.objs.size ss->(ss=[]->h'.get? s.heap.objs.size=some (dk w))->Q (.ref s.heap.objs.size) {s with heap:=h'}):wpAny (model P w) A (Builtin.Frozenset.copyOf a) Q E s:=by
 have d:a<s.heap.objs.size:=by
  refine k7 J λ o es h t f _=>?_;exact qm f
 have g:=sub_set_self;refine qb (qb (Z5 J.ty g (qc (qb ?_))));refine Nc ?_;have q:(s.heap.push (dk w)).get? s.heap.objs.size=some (dk w):=qk _ rfl;refine qb (qc (qb ?_));refine Kx (Yh d) q (J.keep λ b o e=>qd _ e) hz λ h' Z Y c=>qc (k h' (λ b o e=>?_) Y λ z=>?_)
 .rw[Z.2 b (Q7 (Heap.lt_size e))];exact qd _ e
 .grind
end
section
variable{ss os:List Str}
theorem Le{ys:List Str}(h:ys.Nodup):ys.Perm (dj [] ys):=
 (Ql h (mG ys [] Qm)).mpr λ y=>by rw[lI];simp
theorem NZ(q:Q (u,v) s):wpAny (model P w) A (Builtin.Frozenset.slot1 "__or__" ⟨[u,v],[]⟩) Q E s:=
 qb (qc (qc q))
theorem MR{id:String}(Y:r≠b)(hR:bG P w (cQ w) s.heap r ss)(hN:ss=[]->s.heap.get? r=some (dk w))(hB:bG P w (cQ w) s.heap b os)(hz:ss.length+os.length<=60)(k:∀h' dr,Heap.SameBut r s.heap h'->bG P w (cQ w) h' r (dj ss os)->Q () {s with heap:=h',drawn:=dr}):wpAny (model P w) A (Builtin.Frozenset.updateFrom id r (.ref b)) Q E s:=by
 have J:=hB;obtain⟨ob,u,g,tb,a,o,Z,n,t,f,p,d,m,l⟩:=hB;refine qb (xX J.ty ?_);rw[if_pos rfl];refine qb (qc ?_);refine qb (qb (zq a Z d (qc ?_)));by_cases z:ss=[]
 .subst z;refine Kx Y (hN rfl) J (by grind) λ h' i h _=>k h' s.drawn i (h.perm (Le f))
 .refine K4 Y z hR J hz (λ s' j e q=>?_) k;refine qb (qb (zq (e.trans a) Z d (qc ?_)));refine yb (λ c=>absurd c (by simp)) λ _=>qc q
theorem Ux(Z:a≠b)(J:bG P w (cQ w) s.heap a ss)(q:bG P w (cQ w) s.heap b os)(hz:ss.length+os.length<=60)(k:∀h' Y,(∀b o,s.heap.get? b=some o->h'.get? b=some o)->bG P w (cQ w) h' s.heap.objs.size (dj ss os)->Q (.ref s.heap.objs.size) {s with heap:=h',drawn:=Y}):wpAny (model P w) A (binaryOp .BitOr (.ref a) (.ref b)) Q E s:=by
 refine wpAny_binaryOp_same J.ty q.ty F.fills_set_or F.slot_set_or (jv F.slot_set_or J.ty Mq ?_ (F.args_set_or_2 _ _));refine qb (NZ ?_);have h:b<s.heap.objs.size:=by obtain⟨o,es,p,t,l,_⟩:=q;exact qm l
 refine qb (qb (xX J.ty (xX q.ty ?_)));refine yb (λ c=>absurd c (by decide)) λ _=>?_;refine qb (qc (qb ?_));refine qb (T7 J (by lia) λ r d g j=>?_);have m:(Value.ref b != Value.ref a)=true:=by simpa using(zt Z)
 refine yb (λ _=>?_) λ c=>absurd m c;refine qb (qc (qb (z0 ?_)));refine MR (Yh h) g j (q.keep d) hz λ i Y n f=>qc (qc ⟨_,rfl,by simp,k i Y (λ c o e=>?_) f⟩);rw[n.2 c (Q7 (Heap.lt_size e))];exact d c o e
end
open PyProof.Rows L2
section
variable{K:Frag}
theorem RS.holdF(R:RS K c H0 H U L)(q:H l=none):l∉c.Ap/\c.He l=none/\H0 l=none:=by
 have J:=λ m=>R.apt l m q;refine⟨J,?_,?_⟩
 .cases z:c.He l with
  |none=>rfl
  |some u=>have:=R.keep l u z J;rw[q]at this;simp at this
 .cases z:H0 l with
  |none=>rfl
  |some u=>have:=R.same l u z;rw[q]at this;simp at this
theorem RS.hold(R:RS K c H0 H U L)(J:H l=none):RS K ⟨c.Hi,upd c.He l o,c.Ap⟩ H0 (upd H l o) U L:=by
 obtain⟨d,f,g⟩:=R.holdF J;have ne_of:∀{b:Addr}{u:HO},H b=some u->b≠l:=λ e z=>by grind
 refine⟨λ b u e=>?_,R.init,λ b u e=>?_,λ b u e n=>?_,λ a Y=>?_,R.len,R.im,λ i b o e=>?_,R.ne⟩
 .have h:=R.same b u e;rw[a_ (ne_of h)];exact h
 .have h:=R.same b u e;rcases R.fresh b u e with q|q
  .exact .inl q
  .grind[upd,a_]
 .by_cases z:b=l
  .grind[upd,bT]
  .have e:upd c.He l _ b=some u:=e;rw[a_ z]at e⊢;exact R.keep b u e n
 .by_cases z:a=l
  .grind
  .rw[a_ z];exact R.apt a Y
 .refine dE (R.ow i b o e) λ a e1 e2 e3 e4=>?_;obtain⟨u,Z⟩:=e4.some;refine gj a e1 e2 ?_ (e4.step (aD.refl _) λ u h=>by grind[a_]);cases b with
  |true=>exact e3
  |false=>
   have e3:=e3;grind[upd,a_,e3]
theorem RS.unhold(R:RS K ⟨c.Hi,upd c.He l o,c.Ap⟩ H0 H U L)(Z:l∉c.Ap)(Y:c.He l=none):RS K c H0 H U L/\H l=some o:=by
 have J:=R.keep l o bT Z;refine⟨⟨R.same,R.init,λ b u e=>?_,λ b u e n=>?_,R.apt,R.len,R.im,λ i b o e=>?_,R.ne⟩,J⟩
 .rcases R.fresh b u e with q|q
  .exact .inl q
  .grind[upd,bT,a_]
 .have z:b≠l:=λ z=>by rw[z,Y]at e;simp at e
  exact R.keep b u (by grind[upd,a_]) n
 .refine dE (R.ow i b o e) λ a e1 e2 e3 e4=>?_;refine gj a e1 e2 ?_ e4;grind[e3,upd,bT,a_]
end
section
theorem Ol:du X (binaryOp .BitOr) (λ x y H Q=>∃p q ss ys,x=.ref p/\y=.ref q/\p≠q/\H p=some (lx X.prog X.w p ss)/\H q=some (lx X.prog X.w q ys)/\ss.length+ys.length<=60/\∀l,H l=none->Q (.ref l) (upd H l (lx X.prog X.w l (dj ss ys)))):=by
 intro aA s L H x y v u Q I Y f h;obtain⟨p,q,ss,ys,rfl,rfl,J,Z,c,d,k⟩:=h;subst Y;subst f;refine Ux J (I.hok p _ Z).1 (I.hok q _ c).1 d λ h' a e b=>?_;exact bE (.ref s.heap.objs.size) _ (aI.drawn a (I.laid e (qj _) (GO b))) rfl (k _ (I.hok.fresh (qj _)))
theorem GK{K:Frag}{ss:List Str}(s:aD H0 H)(h:lM d=some (ss.map .str))(r:aS K H0 d v):∃ad,v=.ref ad/\(c7 K H ad (ss.map V.str)\/dH K H ad (ss.map V.str)):=by
 unfold lM at h;split at h
 .simp at h;obtain⟨ad,J,rfl,q,t⟩:=r;grind[v_,aD.seqT,aD]
 .simp at h;obtain⟨ad,J,rfl,q,t⟩:=r;grind[v_,aD.seq,aD]
 .simp at h
theorem MX(ss ys:List Str):dy (dj (dj [] ss) (dj [] ys))=dy (dj [] (ss++ys)):=
 Kw ((Ql (mG _ _ (mG _ _ Qm)) (mG _ _ Qm)).mpr λ y=>by
  rw[lI,lI,lI,lI,List.mem_append];simp)
theorem UY{F G:FE}{U ρ':En}{d:D}(f:eF oo (aC F (aC G aN)) U=some (d,ρ')):∃d1 Y d2 l1 l2,F U=some (d1,Y)/\G Y=some (d2,ρ')/\lM d1=some (List.map D.str l1)/\lM d2=some (l2.map .str)/\l1.length+l2.length<=60/\.lst ((dy (dj [] (l1++l2))).map .str)=d:=by
 unfold eF at f;obtain⟨⟨u,c⟩,a,f⟩:=aL f;obtain⟨g,q,f⟩:=aL f;have m:some (g,c)=some (d,ρ'):=f;cases m;unfold aC at a;obtain⟨⟨d1,Y⟩,e1,a⟩:=aL a;obtain⟨⟨t,s⟩,J,a⟩:=aL a;obtain⟨⟨d2,e⟩,e2,J⟩:=aL J;obtain⟨⟨dn,p⟩,Z,J⟩:=aL J;unfold aN at Z;cases Z;cases J;cases a;have e2:G Y=some (d2,e):=e2;have q:oo [d1,d2]=some d:=q;rw[DB]at q;obtain⟨xs,n,q⟩:=aL q;obtain⟨ys,o,q⟩:=aL q;have b:xs.length+ys.length<=60:=Classical.byContradiction λ z=>by rw[if_neg z]at q;simp at q
 rw[if_pos b]at q;unfold tT at q;obtain⟨zs,l,q⟩:=aL q;obtain⟨r,i⟩:=bU q;have h:=xq l;obtain⟨l1,l2,rfl,j,k⟩:=List.append_eq_map_iff.mp h;subst j;subst k;rw[qw,qw]at b;exact⟨d1,Y,d2,l1,l2,e1,e2,n,o,b,i⟩
theorem Pr{a b:Expr}{F G:FE}{p p' p2 Y J Z pos:Pos}(hm:X.mg "set"=none)(ai:X.mg "sorted"=none)(ha:XE X a F)(hb:XE X b G)(hc:X.calm=true:=by rfl)(hg:Gl X "set":=by rfl)(af:Gl X "sorted":=by rfl)(h1:starEach [a] X.env=[(false,eval a X.env)]:=by rfl)(ac:starEach [b] X.env=[(false,eval b X.env)]:=by rfl)(h2:starEach [.BinOp (.Call (.Name "set" p) [a] [] Y) .BitOr (.Call (.Name "set" p') [b] [] J) Z] X.env=[(false,eval (.BinOp (.Call (.Name "set" p) [a] [] Y) .BitOr (.Call (.Name "set" p') [b] [] J) Z) X.env)]:=by rfl):XE X (.Call (.Name "sorted" p2) [.BinOp (.Call (.Name "set" p) [a] [] Y) .BitOr (.Call (.Name "set" p') [b] [] J) Z] [] pos) (eF oo (aC F (aC G aN))):=
 PE.wk (wc (LB hc) af ai PyProof.Rows.boot_sorted (gq (yM Ol (qK (Dy hc) hg hm PyProof.Rows.boot_set (d3 ha fb h1) (by decide) (by decide) h1 rfl) (qK (Dy hc) hg hm PyProof.Rows.boot_set (d3 hb fb ac) (by decide) (by decide) ac rfl)) jD h2) (by decide) (by decide) h2 rfl) λ L H Q z=>by
  obtain⟨c,H0,U,d,g,R,f,q⟩:=z;obtain⟨K,u,σ,h,i,e1,e2,x1,y1,al,M⟩:=UY f;have one:∀{F:FE}{U g:En}{d:D},F U=some (d,g)->aC F aN U=some ([d],g):=λ{F U g d}e=>by unfold aC;rw[e];rfl
  have k1:=qA h [];have k2:=qA i [];have k3:=qA (dj [] i) (dj [] h);rw[yx]at k1 k2;refine⟨c,H0,U,[K],u,R,one e1,λ vs H1 Hh s1 j T=>?_⟩;obtain⟨v,rfl,W⟩:=aB.v1 T;obtain⟨B,rfl,sq⟩:=GK j.same x1 W;refine⟨B,h,rfl,sq,by lia,λ l y=>?_⟩;obtain⟨P,S,n3⟩:=j.holdF y;refine⟨⟨c.Hi,upd c.He l (lx X.prog X.w l (dj [] h)),c.Ap⟩,H1,u,[σ],g,j.hold y,one e2,λ ak H2 cJ s2 R2 ρ=>?_⟩;obtain⟨v2,rfl,I⟩:=aB.v1 ρ;obtain⟨C,rfl,E⟩:=GK R2.same y1 I;obtain⟨R2',x⟩:=R2.unhold P S;refine⟨C,i,rfl,E,by lia,λ m hm=>?_⟩;have A:l≠m:=λ z=>by rw[<-z,x]at hm;cases hm
  refine⟨l,m,dj [] h,dj [] i,rfl,rfl,A,by rw[a_ A];exact x,bT,by lia,λ r N=>?_⟩;refine⟨r,_,rfl,bT,by lia,λ t O=>?_⟩;have k:=bR.side (o:=lx X.prog X.w m (dj [] i)) R2'.same hm;have n:=bR.side (o:=lx X.prog X.w r (dj (dj [] h) (dj [] i))) k.s' N;have s:=bR.alloc (o:=.lst ((dy (dj (dj [] h) (dj [] i))).map V.str)) n.s' O;refine q _ _ _ (s1.trans (s2.trans ((k.trans n).trans s).s0)) (R2'.after ((k.trans n).trans s)) ?_;rw[<-M,<-MX];unfold aS;exact⟨t,_,rfl,.inl (.inl bT),wI _⟩
end
section
variable{X:Cx}
theorem L7(hc:X.calm=true):bQ X (.type "dict") (λ xs H Q=>∃p J aH,xs=[.ref p]∧dH X.K H p J∧PV X.K H J aH∧(aH.map (·.1)).Nodup∧∀l o,H l=none→Q (.ref l) (upd H l (.frz o (.dK aH)))):=by
 intro aA s L H xs us Q I r h;obtain⟨p,J,aH,rfl,g,pv,nd,q⟩:=h;obtain⟨u,rfl,m⟩:=h8 r;subst m;obtain⟨v,t,⟨ob,c,d,⟨n,e⟩,f⟩,i⟩:=I.tupleN g;obtain⟨x,k,Z⟩:=z_ I pv t;have a:aH.length<=sizeLine:=by rw[EN pv];exact i
 refine GH c d e f (I.ok.hd hc) k (by rw[Aq Z];exact nd) (by rw[E1 Z];exact a) λ h' y j dd=>?_;refine ib (id dd) λ Y es w b rest=>?_;exact bE (.ref s.heap.objs.size) _ (I.laid (o:=.frz Y (.dK aH)) j (qj _) ⟨b,uO a (beq_eq_false_iff_ne.mpr (zt (qr I.big))) Z dd⟩) rfl (q _ _ (I.hok.fresh (qj _)))
theorem ND(hc:X.calm=true):jF X (.type "dict") m_:=⟨_,L7 hc,λ c H0 H U L n d p Q R r e q=>by
 unfold m_ at e;split at e
 .obtain⟨aH,f,e⟩:=aL e;obtain⟨⟨_,nd⟩,rfl⟩:=bU e;cases et f;obtain⟨v,rfl,Y⟩:=aB.v1 r;obtain⟨b,m,rfl,Z,t⟩:=Y;obtain⟨vv,k,a⟩:=A6 R.same t;have j:=a.length;rw[qw]at j;have i:(cY (aH.map (·.1)) vv).map (·.1)=(aH.map (·.1)).map Sum.inr:=by unfold cY;rw[Qt (by rw[qw,qw];lia)]
  have J:((cY (aH.map (·.1)) vv).map (·.1)).Nodup:=by rw[i];exact List.Pairwise.map _ (λ x y h z=>h (Zv z)) nd
  refine⟨b,m,_,rfl,aD.seqT R.same Z,k,J,λ l o g=>?_⟩;have S:=bR.alloc (o:=.frz o (.dK (cY (aH.map (·.1)) vv))) R.same g;refine q _ _ _ S.s0 (R.after S) ?_;exact⟨l,o,vv,rfl,bT,aB.mono S.s0 _ a,by rw[qw,qw]⟩
 .simp at e⟩
theorem Uh(hu:X.A.units+1<cLine)(ho:XE X o F)(hi:XE X i G)(hs:sh i:=by exact λ _ _=>rfl):XE X (.Subscript o i pos) (e2 sy F G):=
 PE.wk (vj hu ho hi hs) λ L H Q Y=>by
  refine bL Y λ c H0 U d b R f q=>?_;refine d7 (yU f) λ x Z y s w J=>?_;obtain⟨⟨I,E⟩,p,J⟩:=aL J;obtain⟨k,r,J⟩:=aL J;cases eG p;cases g9 r;refine bA c H0 U _ Z R s λ σ H1 Hh D h z=>⟨c,H1,Z,_,b,h,w,λ M g cJ e R2 B=>?_⟩
  have j:=aS.mono e _ z;obtain⟨a,ob,K,rfl,n,t,l⟩:=j;subst B;obtain⟨u,m,_,hs⟩:=Eg R2.same n t l;obtain⟨v,rfl,C⟩:=hs d J;exact bE a v rfl m (q v g cJ (D.trans e) R2 C)
end
theorem Ts{K:Frag}(R:RS K c H1 Hh U L)(hf:fQ U js=some fr)(hc:dw T F fr xs=some out)(hz:xs.length<=sizeLine)(hy:∀(H0 H:Hp)(i:Nat),aD H1 H0->RS K c H0 H U L->(∀d,xs[i]?=some d->J.go i H/\∀x H',J.yld i H x H'->H'=H/\aS K H0 d x)/\(xs.length<=i->J.stop i H))(q:∀ys H0 H,aD H1 H0->RS K c H0 H U L->aB K H0 out ys->Qf ys H):mU js (iK K T) (tE K F) L Qf J Hh:=by
 refine⟨λ i m ys H=>m=xs.length-i/\i<=xs.length/\∃H0,aD H1 H0/\RS K c H0 H U L/\∃pre rest,aB K H0 pre ys/\pre.length<=i/\dw T F fr (xs.drop i)=some rest/\pre++rest=out,⟨xs.length,by simp,ye _,H1,aD.refl _,R,[],out,aB.nil_,ye _,by simpa using hc,rfl⟩,?_⟩;rintro i m ys H ⟨rfl,hi,H0,s0,a,pre,rest,f,lp,Y,e⟩;obtain⟨w,y⟩:=hy H0 H i s0 a;by_cases Z:i<xs.length
 .have hd:xs[i]?=some xs[i]:=by simp[Z]
  obtain⟨go,A⟩:=w _ hd;refine .inr ⟨go,by rw[<-f.length];lia,λ x H' hx=>?_⟩;obtain⟨rfl,u⟩:=A x H' hx;rw[oh hd,F8]at Y;obtain⟨⟨b,j⟩,o,Y⟩:=aL Y;refine bA ⟨H0,H',[]⟩ H0 _ b j (a.block hf u) o λ h cJ C R2=>?_;cases b with
  |false=>
   rw[if_neg zj]at Y⊢;have S:=R2.step;exact⟨xs.length-(i+1),by lia,rfl,Z,h,s0.trans S.s0,a.after S,pre,rest,aB.mono S.s0 _ f,by lia,Y,e⟩
  |true=>
   rw[if_pos rfl]at Y⊢;obtain⟨⟨z,n⟩,p,Y⟩:=aL Y;obtain⟨t,r,Y⟩:=aL Y;have g:=Y;simp at g;refine bA ⟨H0,H',[]⟩ h j z n R2 p λ v k dC D l r3=>?_;have S:=l.step;refine⟨xs.length-(i+1),by lia,rfl,Z,k,s0.trans S.s0,a.after S,pre++[z],t,(aB.mono S.s0 _ f).app (aB.one r3),?_,r,?_⟩
   .grind
   .grind
 .have B:i=xs.length:=by lia
  have s:xs.drop i=[]:=jk (by lia);rw[s,El]at Y;have g:=qi Y;subst g;rw[zx]at e;subst e;exact .inl ⟨y (by lia),by rw[<-f.length];lia,q ys H0 H s0 a f⟩
theorem GY(h:me o=some ds):∃b,o=some (.ow b (.lst ds)):=by
 unfold me at h;split at h
 .obtain rfl:=br h;exact⟨_,rfl⟩
 .simp at h
section
variable{X:Cx}
theorem TJ(h:tE X.K (pq J F i) L H Q):tE X.K F L H λ Z H1=>∃v,L[i]?=some (some v)/\qB X.K J Z v H1 Q:=by
 refine bL h λ c H0 U d n R f q=>?_;obtain⟨⟨x,Y⟩,g,f⟩:=aL f;obtain⟨o,a,f⟩:=aL f;obtain⟨ok,f⟩:=bU f;cases f;refine bA c H0 U x Y R g λ Z H1 Hh l b e=>?_;obtain⟨bb,a⟩:=GY a;obtain⟨p,e1,_,_,m,e4,t⟩:=b.ow i bb _ a;unfold fV at ok;rw[zd]at ok;obtain⟨j,k⟩:=vf ok.1 e ok.2 t;exact⟨_,e1,p,m,rfl,.inl (.inl (.inl e4)),(uf ok.1 e).1,j,by rw[k];exact q _ H1 Hh l b (kv _ _)⟩
theorem SI(i:Nat)(ha:XE X a F)(Z:X.N[i]?=some y:=by rfl)(Y:fh X.env.scope y:=by first|exact Or.inl rfl|exact Or.inr (Or.inl rfl)|exact Or.inr (Or.inr rfl))(hd:cH y:=by decide)(q:er y:=by decide)(J:behindInMarks .NotIn (.Name y py)=false:=by first|exact Am _|with_unfolding_all rfl):XT X (.Compare a [.NotIn] [.Name y py] pos) (tB (pq true F i)):=
 PT.wk (GS DU ha (eI Z Y hd q) J) λ L H Q h=>yZ (λ Q h=>TJ h) h
end
theorem oy(h:iq o=some q):o=some (.ow q.1 (.lst q.2)):=by
 unfold iq at h;split at h
 .obtain rfl:=br h;rfl
 .simp at h
theorem ko(h:v7 d=some k):d=.int k:=by
 unfold v7 at h;split at h
 .obtain rfl:=br h;rfl
 .simp at h
theorem N1{K:Frag}(t:aB K H ds vs)(h:p0 ds k=some d):∃v,i_ vs k=some v/\aS K H d v:=by
 unfold p0 at h;split at h
 .rename_i q;obtain⟨v,e,r⟩:=t.get h;refine⟨v,?_,r⟩;have J:=(List.getElem?_eq_some_iff.mp e).1;have e2:iF vs.length k=some k.toNat:=by unfold iF;simp only[q,Ye];rw[if_pos (by lia)]
  unfold i_;rw[e2];exact e
 .cases h
section
theorem Ud(i:Nat)(Z:X.mg "len"=none)(hN:X.N[i]?=some x:=by rfl)(hv:fh X.env.scope x:=by first|exact Or.inl rfl|exact Or.inr (Or.inl rfl)|exact Or.inr (Or.inr rfl))(hd:cH x:=by decide)(Y:er x:=by decide)(hg:Gl X "len":=by rfl):XE X (.Call (.Name "len" p) [.Name x p2] [] pos) (yN i):=
 PE.wk (wc eD hg Z PySem.boot_len (gq (eI hN hv hd Y) jD)) λ L H Q J=>by
  refine bL J λ c H0 U d h R f q=>?_;obtain⟨⟨b,xs⟩,e,f⟩:=aL f;cases f;obtain⟨a,e1,_,_,g,e4,t⟩:=R.ow i b _ (oy e);exact⟨_,e1,a,g,rfl,.inl (.inl (.inl e4)),by rw[<-t.length];exact q _ H0 H (aD.refl _) R (fw _ _)⟩
theorem Rz(i:Nat)(he:XE X e F)(hs:uJ e:=by intro _ _;rfl)(hN:X.N[i]?=some x:=by rfl)(hv:fh X.env.scope x:=by first|exact Or.inl rfl|exact Or.inr (Or.inl rfl)|exact Or.inr (Or.inr rfl))(hd:cH x:=by decide)(Y:er x:=by decide):XE X (.Subscript (.Name x p) e pos) (Bl i F):=
 PE.wk (o9 fe (eI hN hv hd Y) he hs) λ L H Q J=>by
  refine bL J λ c H0 U d C R f q=>?_;obtain⟨⟨j,D⟩,l,f⟩:=aL f;obtain⟨⟨I,E⟩,m,f⟩:=aL f;obtain⟨k,n,f⟩:=aL f;obtain⟨⟨b,xs⟩,o,f⟩:=aL f;obtain⟨G,r,f⟩:=aL f;cases ko n;cases f;obtain⟨h,e1,_⟩:=R.ow i j _ (oy l);refine⟨_,e1,c,H0,U,_,_,R,m,λ v H1 Hh u g s=>?_⟩;subst s;obtain⟨a,Z,_,_,y,B,t⟩:=g.ow i b _ (oy o);rw[e1]at Z;cases Z;obtain⟨w,z,A⟩:=N1 t r;exact⟨h,y,k,w,rfl,rfl,.inl (.inl B),z,q w H1 Hh u g A⟩
theorem xx{K:Frag}(r:aS K H d v):∀{ds:List D}{vs:List V}(n:Nat),aB K H ds vs->aB K H (ds.set n d) (vs.set n v)
 |[],vs,n,t=>by
  have:=t.length;cases vs with
  |nil=>exact t
  |cons=>cases this
 |x::ds,vs,n,t=>by
  obtain⟨u,J,rfl,q,a⟩:=t;cases n with
  |zero=>exact aB.cons r a
  |succ n=>exact aB.cons q (xx r n a)
theorem Ru(i:Nat)(ha:XE X a I)(he:XE X e F)(hN:X.N[i]?=some x:=by rfl)(hv:fh X.env.scope x:=by first|exact Or.inl rfl|exact Or.inr (Or.inl rfl)|exact Or.inr (Or.inr rfl))(hd:cH x:=by decide)(ae:er x:=by decide)(hs:swapsWithSole [.Subscript (.Name x p) a J] e pos.line X.env=pure false:=by rfl)(hw:swappedStores [.Subscript (.Name x p) a J] e X.env=pure none:=by rfl)(h1:(assignEach [.Subscript (.Name x p) a J] X.env).map (·.2)=[assign (.Subscript (.Name x p) a J) X.env]:=by rfl)
  (hq:∀v,assign (.Subscript (.Name x p) a J) X.env v=(do
   let ov<-holding [v] (eval (.Name x p) X.env)
   let iv<-holding [v,ov] (eval a X.env)
   standAt J
   holding [v,ov,iv] (setItem ov iv v)
   release [v,ov,iv] []):=by intro _;rfl):XS X (.Assign [.Subscript (.Name x p) a J] e pos) (Bi i I F):=
 PS.wk (Aj he (ER (eI hN hv hd ae) ha Fv hq) hs hw h1) λ Dn L H Y=>by
  refine bY Y λ c H0 U r R f q=>?_;obtain⟨⟨d,h⟩,w,f⟩:=aL f;obtain⟨⟨u,σ⟩,y,f⟩:=aL f;obtain⟨⟨O,M⟩,A,f⟩:=aL f;obtain⟨k,B,f⟩:=aL f;obtain⟨⟨b,xs⟩,C,f⟩:=aL f;obtain⟨⟨s,Z⟩,f⟩:=bU f;subst f;cases ko B;refine bA c H0 U d h R w λ v H1 Hh G g D=>?_;obtain⟨o,e1,_⟩:=g.ow i u _ (oy y);refine⟨_,e1,c,H1,h,_,_,g,A,λ P n cJ j R2 E=>?_⟩;subst E;have z:=oy C;obtain⟨a,m,_,_,l,K,t⟩:=R2.ow i b _ z;rw[e1]at m;cases m;have e2:iF l.length k=some k.toNat:=by unfold iF;have Z:=Z;have:=t.length;simp only[show 0<=k from s,Ye];rw[if_pos (by lia)]
  refine⟨o,l,k,k.toNat,rfl,rfl,K,e2,q L n _ (G.trans j) (R2.mutOwn z e1 ⟨_,bT,xx (aS.mono j _ D) _ t⟩)⟩
end
section
theorem Rv{lo hi:Option Expr}(he:XE X e F)(hl:XO X lo A)(hh:XO X hi B):uL X (.Subscript e (.Slice lo hi none p2) pos) (nQ (gQ F A B)):=PE.wk (Fy ((iW.or EH).or EJ) he hl hh) λ L H Q J=>by
 refine bL J λ c H0 U d M R f q=>?_;obtain⟨⟨dd,N⟩,f,g⟩:=aL f;obtain⟨⟨x,Y⟩,w,f⟩:=aL f;obtain⟨⟨l,Z⟩,y,f⟩:=aL f;obtain⟨⟨u,O⟩,C,f⟩:=aL f;obtain⟨P,b,f⟩:=aL f;have r:=f;cases r;refine bA c H0 U x Y R w λ v H1 Hh K o I=>?_;refine bA c H1 Y l Z o y λ m cJ j R2=>?_;refine bA c m Z u _ R2 C λ n dC k i=>?_;have r3:=aS.mono k x (aS.mono j x I);cases x with
 |lst a=>
  have e:=qi b;subst e;cases g;obtain⟨p,σ,rfl,s,t⟩:=r3;exact .inl (.inl ⟨p,σ,rfl,aD.seq i.same s,λ G E=>q G _ n dC (K.trans (j.trans k)) i E (yF t l u)⟩)
 |tup a=>
  have h:(if gU a.length 0 l=0/\gU a.length a.length u=a.length then none else some (D.tup (iO a l u)))=some dd:=b;split at h
  .simp at h
  .obtain rfl:=br h;cases g
 |str z=>
  obtain⟨S,rfl⟩:=bU b;cases g
 |_=>cases b
end
def AR(K:Frag)(q H:Hp)(a:Addr)(z:List D×MO)(l:Addr)(cG H':Hp):Prop:=
 aD q cG/\aD cG H'/\(∀b u,H b=some u->b≠a->H' b=some u)/\(∀b u,cG b=some u->q b=some u\/H b=none)/\dG K cG H' a z.2/\H l=none/\cG l=none/\dG K cG H' l (.lst z.1)
def Hq(K:Frag)(g:MO->List D->Option (List D×MO)):Sp:=λ vs H Q _=>∃q a o J ds z,vs=.ref a::J/\aD q H/\q a=none/\dG K q H a o/\aB K q ds J/\g o ds=some z/\∀l cG H',AR K q H a z l cG H'->Q (.ref l) H'
structure jT(P:Program)(w:World)(K:Frag)(mg:Str->Option Value)(base:Heap)(k:Nat)(x:Str)(g:MO->List D->Option (List D×MO)):Prop where
 ex:∃f fd ps,cB P w K mg base ft k f fd ps (Hq K g)/\cV K fd ps []/\keepIn K (.ref f)=true/\mg x=some (.ref f)
theorem RS.gotB{K:Frag}(R:RS K c H0 H U L)(j:Nat)(hi:U[i]?=some (.ow b o))(ha:L[i]?=some (some (.ref a)))(h:AR K H0 H a z l aR H'):RS K c aR H' ((U.set i (.ow b z.2)).set j (.ow false (.lst z.1))) (L.set j (some (.ref l))):=by
 obtain⟨k,s',t,fr,ok,s,r,Y⟩:=h;refine dE (R.ow i b o hi) λ m d _ _ w=>?_;rw[ha]at d;simp at d;obtain⟨y,Z⟩:=w.some;have p:a≠l:=λ q=>by grind
 obtain⟨u,g⟩:=Y.some;have R2:=R.lent hi ha k (λ x v e=>by
  have:x≠l:=λ q=>by grind
  show(if x=l then none else H' x)=some v;rw[if_neg this];exact s' x v e) (λ x v e n=>by
grind) fr (ok.step (aD.refl _) λ v q=>by
grind)
 have J:upd (λ x=>if x=l then none else H' x) l u=H':=by
  funext x;by_cases f:x=l
  .rw[f,bT,g]
  .grind[a_]
 have:=R2.setOwn j (if_pos rfl) (by rw[J];exact Y);rw[J]at this;exact this
section
theorem Uc(j i:Nat)(hN:X.N.Nodup)(G:jT X.prog X.w X.K X.mg X.base k x g)(hr:bJ k X.A)(ha:XA X es A)(hj:X.N[j]?=some z:=by rfl)(hi:X.N[i]?=some y:=by rfl)(hx:jI X.env.scope z:=by first|exact Or.inl rfl|exact Or.inr rfl)(hs:swapsWith (.Call (.Name x p) (.Name y py::es) [] cpos) (some (.Name z pos')) pos.line X.env=pure false:=by rfl)(hf:X.fn z=true\/X.env.scope.names.lookup z=some .local:=by first|exact .inl rfl|exact .inr rfl)(hg:Gl X x:=by rfl)(hv:fh X.env.scope y:=by first|exact Or.inl rfl|exact Or.inr (Or.inl rfl)|exact Or.inr (Or.inr rfl))(ac:cH x:=by decide)(hd:cH y:=by decide)(af:er y:=by decide)(Z:(backTo cpos (starEach es X.env)).any (·.1)=false:=by rfl):XS X (.Assign [.Name z pos'] (.Call (.Name x p) (.Name y py::es) [] cpos) pos) (Cr j i g A):=by
 refine fA G.ex λ f fd ps F D E I=>?_;refine PS.wk (mP hN hj hx (rg F hr hg I E D .nil oX (gq (eI hi hv hd af) ha rfl) ac rfl Z) hs hf) λ Dn L H J=>?_;refine bY J λ c H0 U r R f q=>?_;obtain⟨⟨t,σ⟩,u,f⟩:=aL f;obtain⟨⟨e,s⟩,v,f⟩:=aL f;obtain⟨⟨b,o⟩,B,f⟩:=aL f;obtain⟨w,C,f⟩:=aL f;obtain rfl:=br f;obtain⟨a,e1,_⟩:=R.ow i t σ (lR u);refine⟨_,e1,c,H0,U,e,s,R,v,λ P H1 Hh O d M=>?_⟩;have m:=lR B;refine dE (d.ow i b o m) λ S Y n T Q=>?_;rw[e1]at Y;cases Y;exact⟨H1,a,o,P,e,w,by rw[zx],d.same,n,Q,M,C,λ l cG H' h=>q _ cG H' (O.trans h.1) (d.gotB j m e1 h)⟩
def Wm(K:Frag)(F:En->Option (List D×MO)):TS:=λ Dn L H=>∃q J a H0 U z,RS K ⟨q,J,[a]⟩ H0 H U L/\F U=some z/\∀l aR H',AR K q J a z l aR H'->Dn.rt (.ref l) H'
def oU(X:Cx)(sts:List Stmt)(F:En->Option (List D×MO)):Prop:=d8 X sts (Wm X.K F)
theorem sC{st:Stmt}{rest:List Stmt}(h1:XS X st B)(h2:oU X rest N):oU X (st::rest) (mX B N):=
 d8.wk (sZ h1 h2) λ Dn L H Y=>by
  obtain⟨b,Z,a,H0,U,z,R,f,q⟩:=Y;obtain⟨r,h,f⟩:=aL f;refine dF ⟨b,Z,[a]⟩ H0 U r R h ?_;cases r with
  |nx J=>exact λ e aR H' s c=>⟨b,Z,a,aR,J,z,c,f,q⟩
  |rt d J=>cases f
  |bk J=>cases f
  |ct J=>cases f
theorem RD(j:Nat)(hN:X.N[j]?=some x:=by rfl)(hv:fh X.env.scope x:=by first|exact Or.inl rfl|exact Or.inr (Or.inl rfl)|exact Or.inr (Or.inr rfl))(hd:cH x:=by decide)(ac:er x:=by decide):oU X [.Return (some (.Name x p)) Y] (yQ j):=
 d8.wk (nY (vi (eI hN hv hd ac))) λ Dn L H J=>by
  obtain⟨r,m,a,H0,U,z,R,f,q⟩:=J;obtain⟨xs,g,f⟩:=aL f;obtain⟨⟨b,o⟩,i,f⟩:=aL f;obtain⟨Z,f⟩:=bU f;subst f;have Z:=Z;subst Z;refine dE (R.ow j false _ (lO g)) λ l e1 e2 e3 e=>?_;refine dE (R.ow 0 true o (lR i)) λ d _ _ c ok=>?_;rw[if_pos rfl]at c;have k:d=a:=by simpa using c
  subst k;exact⟨_,e1,q l H0 H ⟨R.init,R.same,λ b u h n=>R.keep b u h (by simpa using n),R.fresh,ok,e3,e2,e⟩⟩
end
theorem Sq{K:Frag}{st:Stmt}(F:ic K x qual st f fd)(S:aG N ps (aX st))(hn:ps.length=n+1)(hN:N.length=n+1+m)(hb:∀(J:Value)(A:Around)(outer:List Env)(s:Shared)(H:Hp)(E:XK),bJ k (A.deeper (envOfC qual (aX st) s.heap.objs.size f J))->oU (fS ft P w K mg base N qual (aX st) f J A outer s H E).nox (fZ st) B):cB P w K mg base ft (k+1) f fd ps (Hq K (sD n m B)):=by
 have Y:∀{o:MO}{b:List D}{z:List D×MO},sD n m B o b=some z->b.length=n/\B (.ow true o::(b.map .im++List.replicate m .no))=some z:=λ{o b z}h=>by
  unfold sD at h;split at h
  .exact⟨by assumption,h⟩
  .cases h
 refine F.ok S (λ l H Q E h=>?_) (λ J A outer s H l Q E g h=>?_)
 .obtain⟨Z,a,o,j,b,z,rfl,_,_,_,r,e,_⟩:=h;rw[hn,zh,<-r.length,(Y e).1]
 .obtain⟨Z,a,o,j,b,z,rfl,i,c,ok,r,e,q⟩:=h;obtain⟨t,d⟩:=Y e;have p:=r.length;have R:=RS.startB (n:=N.length) (m:=m) i c ok r (by lia);exact⟨_,hb J A outer s H E g,Z,H,a,Z,_,z,R,d,q⟩
open PySem.W
abbrev PC(X:Cx)(a:Addr)(o:Obj):Cx:=nX (zJ X a λ _ _=>False) a o
section
variable{X:Cx}{k:Nat}{x:Str}{g:List D->Option (D⊕XV)}{e0:Expr}{es:List Expr}{A:FA}{p pos:Pos}
theorem MA(hf:∀e s,X.xe e s→False)(G:jU X.prog X.w X.K X.mg X.base k x g)(hr:bJ k X.A)(ha:XA X (e0::es) A)(hg:Gl X x)(ae:cH x)(he:starEach (e0::es) X.env=(false,eval e0 X.env)::starEach es X.env)(aa:(backTo pos (starEach es X.env)).any (·.1)=false)(I:aI X aA L H s)(R:RS X.K c H0 H U L)(h1:A U=some (ds,ρ'))(h2:g ds=some r):wpAny (model X.prog X.w) X.A (eval (.Call (.Name x p) (e0::es) [] pos) X.env) (λ u s'=>∃d v aR H',r=.inl d/\aU v u/\aI X aA L H' s'/\aD H0 aR/\RS X.K c aR H' ρ' L/\aS X.K aR d v) (λ e s'=>∃y,r=.inr y/\HL X aA L c H0 ρ' y e s') s:=by
 refine fA G.ex λ f fd ps F V W hm=>?_;refine Q2 (oe I hg hm ?_ ae);refine callWith_K I.ok.mod.kin W (zy (ha pos aA s L H (λ j H'=>∃aR,aD H0 aR/\RS X.K c aR H' ρ' L/\aB X.K aR ds j) I ⟨c,H0,U,ds,ρ',R,h1,λ j aR H' a b d=>⟨aR,a,b,d⟩⟩) (λ us i h=>?_) λ e i z=>(hf e i z).elim) he aa;obtain⟨j,H1,J,l,aR,σ,B,rp⟩:=h;refine⟨J.kIn,?_⟩;have sp:wz X.K X.mg g j H1 (λ v H'=>∃d H0'',r=.inl d/\aD H0 H0''/\RS X.K c H0'' H' ρ' L/\aS X.K H0'' d v) (λ O dd H'=>∃y C H0'',r=.inr y/\X.mg y.1=some (.ref C)/\O=.ref C/\aD H0 H0''/\RS X.K c H0'' H' ρ' L/\XD X.K H0'' H' y.2 dd):=by
  refine⟨aR,ds,r,B.same,rp,h2,?_⟩;cases r with
  |inl d=>exact λ v cG H' S l=>⟨d,cG,rfl,σ.trans S.s0,B.after S,l⟩
  |inr y=>exact λ C dd cG H' m S E=>⟨y,C,cG,rfl,m,rfl,σ.trans S.s0,B.after S,E⟩
 have hl:us.length=ps.length:=by rw[<-l.length];exact F.len _ _ _ _ sp
 have Y:=V i us J.kIn (by grind);rw[zx]at Y;refine Yd (Qs (F.run X.A X.stack i H1 ⟨us,[]⟩ us j _ _ hr J.env0 Y l sp) λ z s' Z=>?_);cases z with
 |error e=>
  obtain⟨a,T,C,dd,H',rfl,os,ρ,un,ok,na,nT,Q,P,D,y,C',H0'',hy,m,z,q,o,E⟩:=Z;cases z;obtain⟨hh,gg,d,t,N⟩:=s';obtain rfl:N=i.os:=os;have n:=J.call (d':=d) (t':=t) un ok ρ (λ b z=>absurd z (by simp));exact⟨y,hy,C,a,T,dd,H0'',H',m,rfl,n,q,o,An J na Q,An J nT P,D,E⟩
 |ok D=>
  cases D with
  |ret u=>
   obtain⟨v,H',n,M,d,H0'',e,q,o,rd⟩:=J.after Z;exact⟨d,v,H0'',H',e,M,n,q,o,rd⟩
  |next=>exact False.elim Z
  |brk=>exact False.elim Z
  |cont=>exact False.elim Z
def xZ(X:Cx)(ik:Nat)(q:List Stmt)(Nx:L2.St->Hp->Prop)(L:L2.St)(C:Addr)(dd:Option Addr)(H:Hp):Prop:=
 ∀a vs,∃t,d8 (PC X a (eg (.ref C) vs dd)) q t/\t {nx:=λ J H'=>Nx (J.set ik none) H',rt:=λ _ _=>False} (L.set ik (some (.ref a))) H
theorem Lk(J:X.stack=X.env::X.outer)(ai:X.env.frame=some X.env.locals)(hN:X.N.Nodup)(aa:X.N[ik]?=some xk)(lk:X.env.scope.names.lookup xk=some .local)(hg:Gl X wn)(hW:X.mg wn=some (.ref W))(an:cH wn)(as:cH xk)(au:er xk)(aj:∀C,X.mg y.1=some (.ref C)→exmOne X.K (.ref C) (.ref W)=some true)(q:∀C dd aR H',X.mg y.1=some (.ref C)->aD H0 aR->RS X.K c aR H' ρ' L->XD X.K aR H' y.2 dd->xZ X ik (b0::sr) Dn.nx L C dd H')(h:HL X aA L c H0 ρ' y e s):wpAny (model X.prog X.w) X.A (noteFrame e X.env) (λ _ ac=>wpAny (model X.prog X.w) X.A (setFlight e none) (λ _ ag=>
   wpAny (model X.prog X.w) X.A (handleBy e X.env [.ExceptHandler (some (.Name wn p1)) (some xk) (b0::sr) p5]) (SP X aA Dn) X.xe ag) X.xe ac) X.xe s:=by
 obtain⟨C,a,T,dd,aR,H',m,rfl,Y,sm,R,j,yT,fl,xd⟩:=h;have fr:=Y.ok.frames;rw[J]at fr;have st:=Y.stack;rw[J]at st;refine wY fr st ai fl λ h2 l Z z2 P=>?_;rw[<-J]at Z;have H:=oK (t':=s.toks) Y Z (by simpa using⟨j,yT⟩);have x:=yu z2;have F:=An Y x (wK Y.hok x);refine uz P λ h3 ap p=>?_;have g:=oK (t':=s.toks) (es:=[l]) H (Aw.of λ b o n z=>(ap.2 b (by simpa using n)).trans z) (by simpa using F);refine wpAny_handleBy_cons (codeAny_handlers_test (oe (FP (E:=X.xe) g a) hg hW ?_ an)) (by intro z;cases z);have O:Looks (model X.prog X.w) h3 (typeOf (.ref a)) (.ref C):=by obtain⟨_,⟨D,q1,_⟩,_⟩:=p;exact(Looks.ld q1).andThen .now
 refine(exm_one g.kIn O (aj C m)).at ?_;refine codeAny_handlers_suite_as (uz p λ h4 Q aq=>?_);have k:=oK (t':=s.toks) (es:=[l]) g (Aw.of λ b o n z=>(Q.2 b (by simpa using n)).trans z) (by simpa using F);obtain⟨_,⟨D,B,_⟩,_⟩:=id aq;have nf:=λ z=>FG k.funs B z;have I:=SG k B j.1 j.2.1 nf (λ v z=>nomatch z);refine wU (v:=.ref a) I hN aa (.inl lk) rfl (λ s5 σ=>?_) (.inr lk);obtain⟨t,ht,hq⟩:=q C dd aR H' m sm R xd a D;refine zy (ht aA s5 _ H' _ (QF (FP σ a)) hq) (λ f s6 d=>?_) λ _ _ z=>z.elim;cases f with
 |brk=>obtain⟨_,_,_,z⟩:=d;exact z.elim
 |cont=>obtain⟨_,_,_,z⟩:=d;exact z.elim
 |ret u=>obtain⟨_,_,_,_,_,z⟩:=d;exact z.elim
 |next=>
  obtain⟨ar,G,M,S⟩:=d;have i:=MU Y.ok (Tn M);obtain⟨m8,r,_⟩:=id i.loc;refine wpAny_nameGoes_keeps lk r (by rw[i.ok.kind];rfl) λ h9 v ρ V=>?_;exact⟨_,G,Nk i hN aa r ρ V,S⟩
theorem N6{OK:Str->Prop}{J xk:Str}{W:Addr}{ik:Nat}{b0:Stmt}{sr orelse:List Stmt}{tN:TS}{p1 p5 p6 p7:Pos}(hf:∀e s,X.xe e s->False)(G:jU X.prog X.w X.K X.mg X.base k x g)(hr:bJ k X.A)(ha:XA X (e0::es) A)(af:X.stack=X.env::X.outer)(Z:X.env.frame=some X.env.locals)(hN:X.N.Nodup)(ae:X.N[ik]?=some xk)(lk:X.env.scope.names.lookup xk=some .local)(ak:Gl X J)(hW:X.mg J=some (.ref W))(aa:∀y C,X.mg y=some (.ref C)->OK y->exmOne X.K (.ref C) (.ref W)=some true)(hs:d8 X orelse tN)(ag:swapsWith (.Call (.Name x p) (e0::es) [] pos) none p6.line X.env=pure false:=by rfl)(aj:cH J:=by decide)(ah:cH xk:=by decide)(ai:er xk:=by decide)(hg:Gl X x:=by rfl)(ac:cH x:=by decide)(he:starEach (e0::es) X.env=(false,eval e0 X.env)::starEach es X.env:=by rfl)(Y:(backTo pos (starEach es X.env)).any (·.1)=false:=by rfl):PS X (.Try [.Expr (.Call (.Name x p) (e0::es) [] pos) p6] [.ExceptHandler (some (.Name J p1)) (some xk) (b0::sr) p5] orelse [] p7)
   (λ Dn L H=>∃c H0 U ds ρ' r,RS X.K c H0 H U L/\A U=some (ds,ρ')/\g ds=some r/\match r with
    |.inl _=>∀aR H',aD H0 aR->RS X.K c aR H' ρ' L->tN Dn L H'
    |.inr y=>OK y.1/\∀C dd aR H',X.mg y.1=some (.ref C)->aD H0 aR->RS X.K c aR H' ρ' L->XD X.K aR H' y.2 dd->xZ X ik (b0::sr) Dn.nx L C dd H'):=by
 intro aA s L H Dn I z;obtain⟨c,H0,U,ds,ρ',r,R,h,i,q⟩:=z;refine wpAny_Try_except (wpAny_execs_cons (wpAny_Expr_any (zy (MA hf G hr ha hg ac he Y I R h i) (λ v a z=>?_) λ e a z=>?_) I.quiet ag))
 .obtain⟨d,_,aR,H',rfl,_,b,j,f,_⟩:=z;exact Zj (hs aA a L H' Dn b (q aR H' j f))
 .obtain⟨y,rfl,z⟩:=z;exact Lk af Z hN ae lk ak hW aj ah ai (λ C m=>aa y.1 C m q.1) q.2 z
end
theorem Nf(h:ni ds k=some q):∃w n r J m r0,0≤k∧ds[k.toNat]?=some (.tup (w::n::r))∧ds[0]?=some (.tup (J::m::r0))∧q=(.tup (w::n::r),ds.set k.toNat (.tup [.str "later",n,.tup [m],.tup [.int 1]])):=by
 unfold ni at h;split at h
 .rename_i Y;split at h
  .rename_i w n r J m r0 e1 e2;cases h;exact⟨w,n,r,J,m,r0,Y,e1,e2,rfl⟩
  .cases h
 .cases h
theorem RS.junk{K:Frag}(R:RS K c H0 H U L)(hi:vJ U[i]?=true)(v:Option V):RS K c H0 H U (L.set i v):=by
 have q:∀(j:Nat)(J:Sl),U[j]?=some J->J≠.no->j≠i:=λ j J e n z=>by
  subst z;rw[e]at hi;cases J with
  |no=>exact n rfl
  |im=>cases hi
  |ow=>cases hi
 refine⟨R.same,R.init,R.fresh,R.keep,R.apt,by rw[yf];exact R.len,λ j d e=>?_,λ j b o e=>?_,λ j k b Y o f a e1 e2 e3 e4=>?_⟩
 .rw[zf (zt (q j _ e (λ z=>nomatch z)))];exact R.im j d e
 .rw[zf (zt (q j _ e (λ z=>nomatch z)))];exact R.ow j b o e
 .rw[zf (zt (q j _ e1 (λ z=>nomatch z)))]at e3;rw[zf (zt (q k _ e2 (λ z=>nomatch z)))]at e4;exact R.ne j k b Y o f a e1 e2 e3 e4
theorem dX(q:0<=k)(e:vs[k.toNat]?=some v):i_ vs k=some v/\iF vs.length k=some k.toNat:=by
 have J:=(List.getElem?_eq_some_iff.mp e).1;have e2:iF vs.length k=some k.toNat:=by unfold iF;simp only[q,Ye];rw[if_pos (by lia)]
 exact⟨by unfold i_;rw[e2];exact e,e2⟩
theorem qJ(q:H p=none)(e:H b=some u):upd H p o b=some u:=by rw[a_ (iw e q)];exact e
section
theorem PB{Nx:L2.St→Hp→Prop}(k0:XC X.K c0)(s1:kE X.K c0 "at")(hN:X.N.Nodup)(hi:X.N[i]?=some y)(ah:X.N[ir]?=some xr)(aj:X.N[ik]?=some xk)(n1:i≠ir)(n2:ik≠i)(n3:ik≠ir)(vy:X.env.scope.names.lookup y=some .local)(vr:X.env.scope.names.lookup xr=some .local)(vk:X.env.scope.names.lookup xk=some .local)(aa:cH y)(hd2:er y)(aw:cH xr)(hd4:er xr)(ag:cH xk)(ai:er xk)(ar:swapsWith (.Subscript (.Name y q2) (.Attribute (.Name xk q3) "at" q4) q5) (some (.Name xr q1)) q6.line X.env=pure false)(hs:swapsWithSole [.Subscript (.Name y q7) (.Attribute (.Name xk q8) "at" q9) q10] (.Tuple [.Constant (.str "later") j1 t1,.Subscript (.Name xr t2) (.Constant (.int 1) j2 t3) t4,.Tuple [.Subscript (.Subscript (.Name y t5) (.Constant (.int 0) j3 t6) t7) (.Constant (.int 1) j4 t8) t9] x1 ta,.Tuple [.Constant (.int 1) j5 tb] x2 tc] x3 td) te.line X.env=pure false)(hw:swappedStores [.Subscript (.Name y q7) (.Attribute (.Name xk q8) "at" q9) q10] (.Tuple [.Constant (.str "later") j1 t1,.Subscript (.Name xr t2) (.Constant (.int 1) j2 t3) t4,.Tuple [.Subscript (.Subscript (.Name y t5) (.Constant (.int 0) j3 t6) t7) (.Constant (.int 1) j4 t8) t9] x1 ta,.Tuple [.Constant (.int 1) j5 tb] x2 tc] x3 td) X.env=pure none)(R:RS X.K c H0 H U L)(aq:U[i]?=some (.ow false (.lst ds)))(ax:vJ U[ik]?=true)(an:ir<U.length)(hx:H dx=some (.xd [("at",.int k)]))(hq:ni ds k=some q)(am:ik<L.length)(fin:∀al aR H',aD H0 aR->RS X.K c aR H' ((U.set ir (.im q.1)).set i (.ow false (.lst q.2))) al->Nx al H'):xZ X ik [.Assign [.Name xr q1] (.Subscript (.Name y q2) (.Attribute (.Name xk q3) "at" q4) q5) q6, .Assign [.Subscript (.Name y q7) (.Attribute (.Name xk q8) "at" q9) q10] (.Tuple [.Constant (.str "later") j1 t1,.Subscript (.Name xr t2) (.Constant (.int 1) j2 t3) t4,.Tuple [.Subscript (.Subscript (.Name y t5) (.Constant (.int 0) j3 t6) t7) (.Constant (.int 1) j4 t8) t9] x1 ta,.Tuple [.Constant (.int 1) j5 tb] x2 tc] x3 td) te] Nx L c0 (some dx) H:=by
 obtain⟨w,n,r,w0,m,r0,z,e1,e2,rfl⟩:=Nf hq;obtain⟨Y,p,a7,a5,h,f,t⟩:=R.ow i false _ aq;obtain⟨a2,s,C⟩:=t.get e1;obtain⟨v0,ρ,rz⟩:=t.get e2;have Q:=C;obtain⟨J,ws,rfl,sk,tk⟩:=C;obtain⟨l,us,rfl,sz,tz⟩:=rz;obtain⟨vw,wr,rfl,a1,σ⟩:=tk;obtain⟨E,a3,rfl,P,a8⟩:=σ;obtain⟨uw,ur,rfl,a6,I⟩:=tz;obtain⟨D,a0,rfl,O,a4⟩:=I;intro a vx;refine⟨_,sZ (mP hN ah (.inl vr) (o9 fe (eI hi (.inl vy) aa hd2) (Fl k0 s1 (eI aj (.inl vk) ag ai) rfl) (λ _ _=>rfl)) ar (.inr vr))
  (nY (Aj (vb (gq rJ (gq (o9 iG (eI ah (.inl vr) aw hd4) qY (λ _ _=>rfl)) (gq (vb (gq (o9 iG (o9 fe (eI hi (.inl vy) aa hd2) qY (λ _ _=>rfl)) qY (λ _ _=>rfl)) jD)) (gq (vb (gq qY jD)) jD)))))
   (ER (eI hi (.inl vy) aa hd2) (Fl k0 s1 (eI aj (.inl vk) ag ai) rfl) Fv) hs hw)),?_⟩
 have hl:=R.len;have M:ir<(L.set ik (some (V.ref a))).length:=by rw[yf,<-hl];exact an
 have u:(L.set ik (some (V.ref a)))[i]?=some (some (.ref Y)):=by rw[zf n2];exact p
 have v:(L.set ik (some (V.ref a)))[ik]?=some (some (.ref a)):=zl am;have x:((L.set ik (some (V.ref a))).set ir (some (.ref J)))[i]?=some (some (.ref Y)):=by rw[zf (zt n1)];exact u
 have W:((L.set ik (some (V.ref a))).set ir (some (.ref J)))[ik]?=some (some (.ref a)):=by rw[zf (zt n3)];exact v
 have g5:((L.set ik (some (V.ref a))).set ir (some (.ref J)))[ir]?=some (some (.ref J)):=zl M;refine⟨.ref Y,u,.ref a,v,rfl,k,hx,Y,h,k,.ref J,rfl,rfl,.inl (.inl f),(dX z s).1,?_⟩;refine⟨.ref J,g5,J,_,1,E,rfl,rfl,aD.seqT R.same sk,(dX (by decide) rfl).1,?_⟩;refine⟨.ref Y,x,Y,h,0,.ref l,rfl,rfl,.inl (.inl f),(dX (by decide) ρ).1,l,_,1,D,rfl,rfl,aD.seqT R.same sz,(dX (by decide) rfl).1,(show 1<=sizeLine by decide),λ A e=>⟨(show 1<=sizeLine by decide),λ B g=>⟨(show 4<=sizeLine by decide),λ p3 Z=>?_⟩⟩⟩;have j:=bR.alloc (o:=.tup [D]) R.same e;have b:=bR.alloc (o:=.tup [.int 1]) j.s' g;have d:=bR.alloc (o:=.tup [.str "later",E,.ref A,.ref B]) b.s' Z;have S:=(j.trans b).trans d;have F:=R.after S;have k1:=dX z s;refine⟨.ref Y,x,.ref a,W,rfl,k,qJ Z (qJ g (qJ e hx)),Y,h,k,k.toNat,rfl,rfl,qJ Z (qJ g (qJ e f)),k1.2,?_⟩;have R2:=(F.set ir (aS.mono S.s0 _ Q));have G:=R2.mutOwn (o':=.lst (ds.set k.toNat (.tup [.str "later",n,.tup [m],.tup [.int 1]]))) (by rw[zf (zt n1)];exact aq) (by rw[zf (zt n1)];exact p) ⟨_,bT,xx (by
  refine⟨p3,_,rfl,.inl (.inl bT),?_⟩;refine aB.cons (qQ _ _) (aB.cons (aS.mono S.s0 _ P) (aB.cons ?_ (aB.one ?_)))
  .exact⟨A,_,rfl,.inl (.inl (d.s0 _ _ (b.s0 _ _ bT))),aB.one (aS.mono S.s0 _ O)⟩
  .exact⟨B,_,rfl,.inl (.inl (d.s0 _ _ bT)),aB.one (fw _ _)⟩) _ (aB.mono S.s0 _ t)⟩
 refine fin _ _ _ S.s0 ?_;have T:((L.set ik (some (V.ref a))).set ir (some (.ref J))).set ik none=(L.set ir (some (.ref J))).set ik none:=by rw[List.set_comm _ _ n3,List.set_set]
 rw[T];refine G.junk ?_ none;rw[zf (zt n2),zf (zt n3)];exact ax
end
theorem Hd[Decidable c](h:(if c then x else none)=some d):c/\x=some d:=by grind
theorem M0(h:rG i ir U ds E (.inr y)=some r):∃k q,y=(Str.ofString "NoWorks",some (Str.ofString "at",.int k))∧ni ds k=some q∧r=.nx ((U.set ir (.im q.1)).set i (.ow false (.lst q.2))):=by
 unfold rG at h;split at h
 .rename_i e;cases e
 .rename_i x f k e;cases e;split at h
  .rename_i J;obtain⟨rfl,rfl⟩:=J;obtain⟨q,a,b⟩:=aL h;cases b;exact⟨k,q,rfl,a,rfl⟩
  .cases h
 .cases h
section
variable{X:Cx}{xr xk y x:Str}{c0:Addr}{kk:Nat}{g:List D->Option (D⊕XV)}{E:FS}{orelse:List Stmt}
 {p py pos p1 p5 p6 p7 q1 q2 q3 q4 q5 q6 q7 q8 q9 q10 t1 t2 t3 t4 t5 t6 t7 t8 t9 ta tb tc td te tf:Pos}{j1 j2 j3 j4 j5 x1 x2 x3:Nat}
theorem Ub(i ir ik:Nat)(hf:∀e s,X.xe e s→False)(G:jU X.prog X.w X.K X.mg X.base kk x g)(hr:bJ kk X.A)(hE:fJ X orelse E)(hW:X.mg "NoWorks"=some (.ref c0))(ai:exmOne X.K (.ref c0) (.ref c0)=some true)(k0:XC X.K c0)(s1:kE X.K c0 "at")(al:X.stack=X.env::X.outer)(ah:X.env.frame=some X.env.locals)(hN:X.N.Nodup)(aq:Gl X "NoWorks":=by rfl)(hi:X.N[i]?=some y:=by rfl)(aj:X.N[ir]?=some xr:=by rfl)(ac:X.N[ik]?=some xk:=by rfl)(n1:i≠ir:=by decide)(n2:ik≠i:=by decide)(n3:ik≠ir:=by decide)(vy:X.env.scope.names.lookup y=some .local:=by rfl)(vr:X.env.scope.names.lookup xr=some .local:=by rfl)(vk:X.env.scope.names.lookup xk=some .local:=by rfl)(af:cH y:=by decide)(hd2:er y:=by decide)(ap:cH xr:=by decide)(hd4:er xr:=by decide)(Z:cH xk:=by decide)(aa:er xk:=by decide)(ag:swapsWith (.Subscript (.Name y q2) (.Attribute (.Name xk q3) "at" q4) q5) (some (.Name xr q1)) q6.line X.env=pure false:=by rfl)(hs:swapsWithSole [.Subscript (.Name y q7) (.Attribute (.Name xk q8) "at" q9) q10] (.Tuple [.Constant (.str "later") j1 t1,.Subscript (.Name xr t2) (.Constant (.int 1) j2 t3) t4,.Tuple [.Subscript (.Subscript (.Name y t5) (.Constant (.int 0) j3 t6) t7) (.Constant (.int 1) j4 t8) t9] x1 ta,.Tuple [.Constant (.int 1) j5 tb] x2 tc] x3 td) te.line X.env=pure false:=by rfl)(hw:swappedStores [.Subscript (.Name y q7) (.Attribute (.Name xk q8) "at" q9) q10] (.Tuple [.Constant (.str "later") j1 t1,.Subscript (.Name xr t2) (.Constant (.int 1) j2 t3) t4,.Tuple [.Subscript (.Subscript (.Name y t5) (.Constant (.int 0) j3 t6) t7) (.Constant (.int 1) j4 t8) t9] x1 ta,.Tuple [.Constant (.int 1) j5 tb] x2 tc] x3 td) X.env=pure none:=by rfl)(ao:swapsWith (.Call (.Name x p) [.Name y py] [] pos) none p6.line X.env=pure false:=by rfl)(hg:Gl X x:=by rfl)(ak:cH x:=by decide):XS X (.Try [.Expr (.Call (.Name x p) [.Name y py] [] pos) p6] [.ExceptHandler (some (.Name "NoWorks" p1)) (some xk) [.Assign [.Name xr q1] (.Subscript (.Name y q2) (.Attribute (.Name xk q3) "at" q4) q5) q6, .Assign [.Subscript (.Name y q7) (.Attribute (.Name xk q8) "at" q9) q10] (.Tuple [.Constant (.str "later") j1 t1,.Subscript (.Name xr t2) (.Constant (.int 1) j2 t3) t4,.Tuple [.Subscript (.Subscript (.Name y t5) (.Constant (.int 0) j3 t6) t7) (.Constant (.int 1) j4 t8) t9] x1 ta,.Tuple [.Constant (.int 1) j5 tb] x2 tc] x3 td) te] p5] orelse [] p7) (Fh i ir ik g E):=by
 refine PS.wk (N6 (OK:=λ y=>y="NoWorks") hf G hr (d3 (xv i hi (.inl vy) af hd2) fb) al ah hN ac vk aq hW (λ y C m hy=>?_) hE ao (by decide) Z aa hg ak) λ Dn L H⟨c,H0,U,r,R,f,q⟩=>?_
 .grind
 obtain⟨h,O,f⟩:=aL f;obtain⟨⟨one,Y,ρ⟩,f⟩:=Hd f;obtain⟨z,P,f⟩:=aL f;have J:=Oi O;have T:=(List.getElem?_eq_some_iff.mp J).1;obtain⟨a,vs,n,B,o,_,t,_,D⟩:=R.asList J;have Q:aC (eV i) aN (U.set i (.im (.lst h)))=some ([.lst h],U.set i (.im (.lst h))):=by unfold aC eV;rw[zl T];rfl
 refine⟨c,_,_,_,_,z,D,Q,P,?_⟩;cases z with
 |inl d=>
  intro aR H' l b;obtain⟨j,R2⟩:=R.backL J one n B o t l b;exact dF c _ U r R2 f (q.mono j)
 |inr y=>
  obtain⟨k,w,rfl,S,rfl⟩:=M0 f;refine⟨rfl,λ C dd aR H' m l b u=>?_⟩;obtain rfl:c0=C:=Value.ref.inj (qi (hW.symm.trans m));cases dd with
  |none=>exact u.elim
  |some dx=>
   obtain⟨v,V,hx⟩:=u;obtain rfl:v=.int k:=by exact V
   obtain⟨j,R2⟩:=R.backL J one n B o t l b;have I:=R.len;have σ:ik<L.length:=by
    rw[<-I];cases e:U[ik]? with
    |none=>rw[e]at Y;cases Y
    |some sl=>exact(List.getElem?_eq_some_iff.mp e).1
   exact PB k0 s1 hN hi aj ac n1 n2 n3 vy vr vk af hd2 ap hd4 Z aa ag hs hw R2 J Y ρ hx S σ λ M H1 Hh W F=>q M H1 Hh (j.trans W) F
end
end Fx
namespace L2
open PySem PySem.Spec PyProof.Rows
set_option maxRecDepth 8000 in
theorem Nr(l:Addr)(xs:Array Value)(n:Nat)(b:Addr)(ys:Array Value)(m:Nat)(J:Array (Option Value))(h0:¬(!xs.isEmpty&&Builtin.List.listTooLong (xs.size+ys.size))=true)(h1:xs.size<=sizeLine)(h2:xs.size+ys.size<=sizeLine+1):Meets (Builtin.«list.extend» ⟨[.ref l,.ref b],[]⟩) (λ _ R s=>s.heap.get? l=some {cls:=.type "list",data:=.seq xs n}∧s.heap.get? b=some {cls:=.type "list",dict:=none,data:=.seq ys m,slots:=J}∧R (.ok (.ret Value.none)) {s with heap:=s.heap.update l (Obj.mapSeq λ x=>x++ys),toks:=s.toks}):=
 .of_wp λ prog w A R s h=>by
  obtain⟨Z,g,d,tk,os⟩:=s;obtain⟨q,Y,h⟩:=h;have t2:=AutoSeq1.sub_list_list;have hz:=Array.size_append▸h2;wp_walk using(wpAny_updateSeq q rfl),wpAny_loadPart' q,wpAny_loadPart' Y;exact⟨_,rfl,h⟩
section
variable{X:Cx}
def QU(K:Frag):V->List V->Hp->VK->Prop:=λ x vs H Q=>∃l b xs zs,x=.ref l/\vs=[.ref b]/\H l=some (.lst xs)/\c7 K H b zs/\xs.length+zs.length<=sizeLine/\Q .non (upd H l (.lst (xs++zs)))
theorem R3:DC X "list.extend" (QU X.K):=by
 intro aA s L H x y v us Q I i g h;obtain⟨l,b,xs,zs,rfl,rfl,Y,a,w,q⟩:=h;cases i;obtain⟨u,rfl,f⟩:=g.one;cases f;obtain⟨_,J,n,r,t,e⟩:=I.lstM Y;obtain⟨ys,Z,⟨⟨o,dd,p,j⟩,m,e2,c,hd,d⟩,_⟩:=I.list a;cases c;cases hd;cases d;have k:=Z.length;have big:J.toArray.size+ys.toArray.size<=sizeLine:=by rw[zg,zg];lia
 refine call_meets F.slot_list_extend ⟨_,e,rfl⟩ F.entry_list_extend (F.args_list_extend_2 _ _)
  (Nr l J.toArray n b ys.toArray m j (by rw[M_ big,Za];exact zj) (by rw[zg];lia) (by lia)) ⟨e,e2,?_⟩
 refine⟨.non,_,I.lset Y e (by simp) (r.append Z) ?_,rfl,q⟩;rw[zi];lia
end
end L2
namespace Fx
open PySem PySem.Spec PyProof.Rows L2
section
theorem Ug(i:Nat)(he:XE X e F)(hN:X.N[i]?=some x:=by rfl)(hv:fh X.env.scope x:=by first|exact Or.inl rfl|exact Or.inr (Or.inl rfl)|exact Or.inr (Or.inr rfl))(hd:cH x:=by decide)(ai:er x:=by decide)(J:attributeBase (.Name x p1) "extend" X.env (eval (.Name x p1) X.env)=eval (.Name x p1) X.env:=by rfl)(ae:((backTo Z (starEach [e] X.env)).all (λ x=>!x.1)&&(backToKw Z (keywordEach [] X.env)).all (λ x=>x.1.isSome)&&decide ([e].length+([]:List Keyword).length+(if([]:List Keyword).isEmpty then 0 else 1)<30))=true:=by rfl)(Y:(p2.endLine==Z.line)=true:=by rfl)(ac:starEach [e] X.env=(false,eval e X.env)::starEach [] X.env:=by rfl)(af:(backTo Z (starEach [] X.env)).any (·.1)=false:=by rfl)(hs:swapsWith (.Call (.Attribute (.Name x p1) "extend" p2) [e] [] Z) none pos.line X.env=pure false:=by rfl):XS X (.Expr (.Call (.Attribute (.Name x p1) "extend" p2) [e] [] Z) pos) (rQ i F):=
 PS.wk (GU (Ij PySem.F.plainAttrs_list PySem.F.slot_list_extend PySem.F.type_list_extend R3 (eI hN hv hd ai) (gq he jD ac) J ae Y ac af) hs) λ Dn L H o=>by
  refine bY o λ c H0 U r R f q=>?_;obtain⟨I,u,f⟩:=aL f;obtain⟨⟨d,s⟩,w,f⟩:=aL f;obtain⟨xs,j,f⟩:=aL f;obtain⟨K,k,f⟩:=aL f;obtain⟨σ,t⟩:=bU f;subst t;obtain⟨a,h,_,_,p,D,_⟩:=R.ow i _ _ (lO u);refine⟨.ref a,h,.inl ⟨rfl,p,c7.of D⟩,c,H0,U,d,s,R,w,λ v H1 Hh z g y=>?_⟩;cases d with
  |lst zs=>
   obtain rfl:=br j;obtain⟨b,C,rfl,A,l⟩:=y;obtain⟨G,m,_,_,B,E,n⟩:=g.ow i _ _ (lO k);rw[h]at m;cases m;have M:=n.length;have O:=l.length;refine⟨a,b,B,C,rfl,rfl,E,aD.seq g.same A,?_,?_⟩
   .have:(1000:Nat)<=sizeLine:=by decide
    lia
   .exact q L _ _ z (g.mutOwn (lO k) h ⟨_,bT,n.app l⟩)
  |_=>cases j
theorem SK(hm:X.mg "list"=none)(he:XE X e F)(hg:Gl X "list":=by rfl)(Z:starEach [e] X.env=(false,eval e X.env)::starEach [] X.env:=by rfl)(aa:(backTo pos (starEach [] X.env)).any (·.1)=false:=by rfl):uL X (.Call (.Name "list" p) [e] [] pos) (nQ (eF zP (aC F aN))):=
 PE.wk (qK C2 hg hm Yg (gq he jD Z) (by decide) (by decide) Z aa) λ L H Q J=>by
  refine bL J λ c H0 U C r R f q=>?_;obtain⟨⟨d,y⟩,f,j⟩:=aL f;obtain⟨⟨A,u⟩,b,f⟩:=aL f;obtain⟨B,h,f⟩:=aL f;cases f;obtain⟨⟨x,z⟩,n,b⟩:=aL b;obtain⟨⟨ys,w⟩,o,b⟩:=aL b;cases b;cases o;refine bA c H0 U x _ R n λ v H1 Hh m g k=>?_;cases x with
  |lst xs=>
   obtain rfl:=br h;cases j;obtain⟨a,Y,rfl,s,t⟩:=k;exact bE a Y rfl (.inl (aD.seq g.same s)) λ l i=>q l Y H1 Hh m g i t
  |tup xs=>
   obtain rfl:=br h;cases j;obtain⟨a,Y,rfl,s,t⟩:=k;exact bE a Y rfl (.inr (aD.seqT g.same s)) λ l i=>q l Y H1 Hh m g i t
  |_=>cases h
end
section
variable{X:Cx}{bU:List Expr}
theorem EY(R:RS X.K c H0 H U L)(f:pj js i T F U=some (d,ρ'))(q:∀ds vs H2 cJ,d=.lst ds->ρ'=U->aD H0 H2->RS X.K c H2 cJ U L->aB X.K H2 ds vs->Qf vs cJ):∃a,L[i]?=some (some (.ref a))/\(∃vs,c7 X.K H a vs)/\mU js (iK X.K T) (tE X.K F) L Qf (um X.K a) H:=by
 obtain⟨ds,g,f⟩:=aL f;obtain⟨fr,p,f⟩:=aL f;obtain⟨ys,r,f⟩:=aL f;obtain⟨u,f⟩:=Fx.bU f;cases f;obtain⟨b,g⟩:=GY g;obtain⟨a,e1,_,_,vs,e4,t⟩:=R.ow i b _ g;refine cN a e1 ⟨vs,.inl (.inl e4)⟩ ?_;refine Ts R p r u (λ aR H' j s m=>?_) λ vs H2 cJ y R2 w=>q _ vs H2 cJ rfl rfl y R2 w;obtain⟨k,Y,_,_,J,n,l⟩:=m.ow i b _ g;have o:k=a:=by rw[e1]at Y;have:=qi (qi Y);cases this;rfl
 subst o;have Z:c7 X.K H' k J:=.inl (.inl n);refine⟨λ d e=>?_,λ h=>⟨J,Z,by rw[<-l.length];exact h⟩⟩;obtain⟨v,z,A⟩:=l.get e;refine⟨⟨J,v,Z,z⟩,λ x H''⟨k1,k2⟩=>⟨k1,?_⟩⟩;have:=k2 J Z;grind
theorem NM(j i:Nat)(hN:X.N.Nodup)(hc:X.calm=true)(Z:X.env.scope=sc)(B:eA X.N sc scope x aV js)(ht:∀s H C fp,lb (df X (x::aV) scope s H C fp) bU T)(he:∀s H C fp,XE (df X (x::aV) scope s H C fp) elt F)(hi:X.N[i]?=some y:=by rfl)(hv:fh X.env.scope y:=by first|exact Or.inl rfl|exact Or.inr (Or.inl rfl)|exact Or.inr (Or.inr rfl))(hd:cH y:=by decide)(ae:er y:=by decide)(hj:X.N[j]?=some z:=by rfl)(hz:X.env.scope.names.lookup z=some .local:=by rfl)(Y:swapsWith (.ListComp elt [⟨.Name x px,.Name y py,bU,0⟩] scope pos) (some (.Name z pz)) spos.line X.env=pure true:=by rfl)(hs:∀v,foldedSetIterable (.Name y py) X.env v=pure v:=by intro _;rfl):XS X (.Assign [.Name z pz] (.ListComp elt [⟨.Name x px,.Name y py,bU,0⟩] scope pos) spos) (bC j (pj js i T F)):=
 PS.wk (tU (tt:=iK X.K T) (te:=tE X.K F) hN hj hz hc Z B (zG (eI hi hv hd ae)) ht he Y hs) λ Dn L H J=>by
  refine bY J λ c H0 U r R f q=>?_;obtain⟨⟨d,u⟩,k,f⟩:=aL f;have h:=f;obtain rfl:=br h;obtain⟨a,e1,e2,e3⟩:=EY (Qf:=λ ys H'=>∀a,H' a=none->Dn.nx (L.set j (some (.ref a))) (upd H' a (.lst ys))) R k λ w b t cJ g e n R2 m=>λ p l=>by
   subst g;subst e;have S:=bR.alloc (o:=.lst b) R2.same l;refine q _ _ _ (n.trans S.s0) ((R2.after S).set j ?_);exact bE p b rfl (.inl (.inl bT)) (aB.mono S.s0 _ m)
  exact⟨_,e1,a,rfl,e2,e3⟩
theorem NP(j i:Nat)(hN:X.N.Nodup)(hc:X.calm=true)(ac:X.env.scope=sc)(B:eA X.N sc scope x aV js)(ht:∀s H C fp,lb (df X (x::aV) scope s H C fp) bU T)(he:∀s H C fp,XE (df X (x::aV) scope s H C fp) elt F)(hi:X.N[i]?=some y:=by rfl)(hv:fh X.env.scope y:=by first|exact Or.inl rfl|exact Or.inr (Or.inl rfl)|exact Or.inr (Or.inr rfl))(hd:cH y:=by decide)(ae:er y:=by decide)(hj:X.N[j]?=some z:=by rfl)(hz:X.env.scope.names.lookup z=some .local:=by rfl)(aa:swapsWith (.ListComp elt [⟨.Name x px,.Name y py,bU,0⟩] scope pos) (some (.Name z pz)) spos.line X.env=pure true:=by rfl)(hs:∀v,foldedSetIterable (.Name y py) X.env v=pure v:=by intro _;rfl):XS X (.Assign [.Name z pz] (.ListComp elt [⟨.Name x px,.Name y py,bU,0⟩] scope pos) spos) (lA j (nQ (pj js i T F))):=
 PS.wk (tU (tt:=iK X.K T) (te:=tE X.K F) hN hj hz hc ac B (zG (eI hi hv hd ae)) ht he aa hs) λ Dn L H Y=>by
  refine bY Y λ c H0 U r R f q=>?_;obtain⟨⟨J,Z⟩,b,f⟩:=aL f;obtain⟨⟨d,w⟩,b,l⟩:=aL b;have k:=f;obtain rfl:=br k;obtain⟨a,e1,e2,e3⟩:=EY (Qf:=λ ys H'=>∀a,H' a=none->Dn.nx (L.set j (some (.ref a))) (upd H' a (.lst ys))) R b λ A t u cJ h g o R2 n=>λ p m=>by
   subst h;subst g;have e:=l;cases e;exact q _ _ _ o (R2.setOwn j m ⟨t,bT,n⟩)
  exact⟨_,e1,a,rfl,e2,e3⟩
end
end Fx
namespace Fx
open PySem
noncomputable def mw(q:List Str)(ds:List D):List D:=(q.zip ds).map λ p=>.tup [.str p.1,p.2]
def A7(g:GD)(B:FS)(U:En)(o:Option (List Str×List D)):Option bM:=aF o λ q=>cK g B (mw q.1 q.2) U
def A8(g:GD)(B:FS)(o:Option (D×En)):Option bM:=aF o λ p=>A7 g B p.2 (mn p.1)
def By(g:GD)(F:FE)(B:FS)(U:En):Option bM:=A8 g B (F U)
@[simp] theorem Xp:(∀g F B U,By g F B U=A8 g B (F U))/\(∀g B x U,A8 g B (some (x,U))=A7 g B U (mn x))/\(∀g B U q,A7 g B U (some q)=cK g B (mw q.1 q.2) U):=by and_intros<;>intros<;>rfl
noncomputable def hd4:List D->Bool
 |.tup [_,_,_,_]::_=>true
 |_=>false
noncomputable def hd2:List D->Bool
 |.tup [_,_]::_=>true
 |_=>false
def Br(i:Nat)(U:En):D->Option bM
 |.lst es=>if hd2 es=true/\eR es=true then some (.nx (U.set i (.ow false (.lst es))))else none
 |_=>none
def vD(i:Nat)(g:List D->Option D)(p:List D×En):Option bM:=match p.1 with
 |.lst ws::r=>if hd4 ws=true/\eR ws=true/\eR r=true then aF (g (.lst ws::r)) (Br i p.2)else none
 |_=>none
def Bw(i:Nat)(g:List D->Option D)(A:FA)(U:En):Option bM:=aF (A U) (vD i g)
def BL(i:Nat)(U:En):Option (D×En):=aF (iq U[i]?) λ q=>some (.lst q.2,U)
open PySem.Spec PyProof.Rows L2
theorem Jx:∀{aH:List (Key×V)}{J:List (Key×Value)}{i:Nat}{k:Key}{x:Value},KV aH J->J[i]?=some (k,x)->∃v,aH[i]?=some (k,v)/\aU v x
 |_,_,_,_,_,.nil,e=>by simp at e
 |_,_,0,k,x,.cons (a:=p) (b:=q) h t,e=>by
  have e:q=(k,x):=by simpa using e
  subst e;exact⟨p.2,by rw[List.getElem?_cons_zero,<-show p.1=k from h.1],h.2⟩
 |_,_,i+1,_,_,.cons h t,e=>by
  obtain⟨v,q⟩:=Jx t (by simpa using e);exact⟨v,by simpa using q⟩
def xh(a:Addr)(ob:Obj)(aH:List (Key×V)):It:=
 ⟨λ i H=>i<aH.length/\H a=some (.frz ob (.dK aH)),λ i H x H'=>∃k v p,aH[i]?=some (k,v)/\x=.ref p/\H p=none/\H'=upd H p (.tup [kV k,v]),λ i H=>aH.length<=i/\H a=some (.frz ob (.dK aH))⟩
theorem vo(I:aI X aA L H s)(ea:H a=some (.frz ob (.dK aH))):∃vs ep,s.heap.DictAt (fm X.prog X.w) a vs ep/\KV aH vs/\(a==sysModules)=false/\s.heap.get? a=some ob/\ob.ExactDict/\∃es,ob.data=.dict es ep:=by
 obtain⟨b,z,i,vs,d,h,q,Z,c,J,Y,e,g,f⟩:=(show aZ X.prog X.w H s.heap a (.frz ob (.dK aH))from I.hok a _ ea);have e1:=qi (c.symm.trans b);subst e1;exact⟨vs,Z,⟨h,q,b,J,Y,e,g,f⟩,d,i,b,J,q,Y⟩
theorem Vc{K:Frag}(a it:Addr)(ob:Obj)(aH:List (Key×V))(es:Array DictEntry)(ep:Nat)(ae:ob.data=.dict es ep):fG P w K (.Tuple ag x1 pt) (xh a ob aH) [it] it (λ i h=>∃x y,IsItemIter h it a i aH.length ep x y)where
 mem:=List.mem_singleton.mpr rfl
 obj:=λ i h J b c=>by
  obtain⟨x,y,st⟩:=J;rw[List.mem_singleton.mp c];exact⟨_,st,λ v z=>by simp at z⟩
 keep:=λ i h h'⟨x,y,st⟩k=>⟨x,y,k it (List.mem_singleton.mpr rfl) _ st⟩
 item:=λ X u B t D i aA s L H E I A J Y=>by
  obtain⟨x,y,st⟩:=J;obtain⟨hi,j⟩:=Y;subst u B t;refine eS (A it (List.mem_singleton.mpr rfl)) λ f l S m n r=>?_;obtain⟨C,N,g,d,_,_,_,Q,Z⟩:=vo I j;rw[ae]at Z;cases Z;have len:=d.length;obtain⟨⟨k,v⟩,hx⟩:∃p,C[i]?=some p:=⟨C[i]'(by lia),by simp⟩;obtain⟨v',e3,rv⟩:=Jx d hx;refine wpAny_pyNext_items_item (by rw[<-len];exact st) g hx λ M h1 σ k1 k2 k3 ρ=>⟨_,rfl,?_⟩
  have T:=I.hok.fresh (qj _);refine wpAny_letOwnedTupleGo_items k1 λ h2 O sb=>?_;have lt:=qm st;have F:=
   I.laid (t':=s.toks) (λ b o q=>qd _ q) (qj _) (show aZ X.prog X.w _ _ _ (.tup [kV k,v'])from⟨by show(2:Nat)<=sizeLine;decide,[M,v],.cons (Hf σ) (.cons rv .nil),ec.new _ _⟩)
  have G:=F.turned (t':=s.toks) (λ b q c e=>(sb.2 b c).trans (by
   rcases Yu e with⟨z1,z2⟩|z
   .rw[z1,z2];exact k2
   .exact ρ b q c z)) (by rw[a_ (Q7 lt)];exact f) l m n r
  exact⟨.ref s.heap.objs.size,_,G,rfl,⟨_,_,_,e3,rfl,T,rfl⟩,⟨_,_,by rw[len];exact O⟩,λ b c=>by rw[List.mem_singleton.mp c,a_ (Q7 lt)];exact f⟩
 done:=λ X u B t D i aA s L H E I A J Y=>by
  obtain⟨x,y,st⟩:=J;obtain⟨hi,j⟩:=Y;subst u B t;refine eS (A it (List.mem_singleton.mpr rfl)) λ f l S m n r=>?_;obtain⟨C,N,g,d,_,_,_,Q,Z⟩:=vo I j;rw[ae]at Z;cases Z;have len:=d.length;exact wpAny_pyNext_items_end (I.ok.hd D) (by rw[<-len];exact st) g (jm (by lia)) λ h' R=>⟨rfl,I.turned (t':=s.toks) (λ b o c e=>R b o c e) f l m n r⟩
 self:=λ _ _ _ _ _⟨_,_,st⟩h=>PySem.W.kcp_self st h
theorem NU(hd:(d==sysModules)=false):MeetsIn P w (Builtin.«dict.items» ⟨[.ref d],[]⟩) (λ _ R s=>s.TypeIs (.ref d) "dict"∧∀h',(∀b o,s.heap.get? b=some o->h'.get? b=some o)->h'.IsItemsView s.heap.objs.size d->h'.objs.size=s.heap.objs.size+1->R (.ok (.ret (.ref s.heap.objs.size))) {s with heap:=h'}):=
 .of_wp λ A R s J=>by
  obtain⟨ty,q⟩:=J;refine qb (qb (wpAny_notOrdered_dict ty (show wpAny _ _ (pure d) _ _ s from qc (show wpAny _ _ (Builtin.Dict.showsAll d >>= _) _ _ s from ?_))));unfold Builtin.Dict.showsAll;rw[hd];exact qb (qc (qb (yi (qc ⟨_,rfl,q _ (λ b o e=>qd _ e) ⟨_,qk _ rfl,rfl,rfl⟩ (Zu ..)⟩))))
def Uq(t:TE):TI:=λ L H R=>t L H λ x H1=>∃a ob aH,x=.ref a/\H1 a=some (.frz ob (.dK aH))/\R (xh a ob aH) H1
theorem VF(hl:PE X l tl)(Y:attributeBase l "items" X.env (eval l X.env)=eval l X.env)(Z:(apos.endLine==cpos.line)=true):PI X (.Tuple ah x1 pt) (.Call (.Attribute l "items" apos) [] [] cpos) (Uq tl):=by
 intro aA s L H R I h;refine wpAny_Call_method0_late Y Z (bN (hl aA s L H _ I h) λ v m n=>?_);obtain⟨x,H1,d,z,a,ob,aH,e,i,q⟩:=n;subst e;subst z;obtain⟨K,u,G,B,A,j,f,es,g⟩:=vo d i;have ty:m.TypeIs (.ref a) "dict":=⟨ob,j,f.1⟩;refine⟨"dict","dict.items",PySem.F.plainAttrs_dict,PySem.F.slot_dict_items,PySem.F.type_dict_items,ty,λ b q=>by cases q;exact⟨ob,j,f.2.1⟩,Yi rfl (PySem.evalArgs_none ?_)⟩;refine call_meetsIn PySem.F.slot_dict_items ty PySem.F.entry_dict_items (PySem.F.args_dict_items_1 _) (NU A) ⟨ty,λ k k1 y σ=>?_⟩;have c:=d.kept (t':=m.toks) k1;obtain⟨D,C,t,p,_,_,_,E,J⟩:=vo c i;rw[g]at J;cases J;have r:=p.length;refine wpAny_pyIter_items y t ?_;refine⟨k.objs.size,[k.objs.size],_,_,H1,rfl,c.kept λ b o e=>qd _ e,Vc a _ ob aH es u g,⟨.none,.none,?_⟩,λ b w=>?_,q⟩
 .rw[r];exact qk _ rfl
 .rw[List.mem_singleton.mp w];exact c.fpOk (qj _) (c.hok.fresh (qj _))
theorem UU{K:Frag}(ea:H1 a=some (.frz ob (.dK ((J.map Sum.inr).zip vs))))(r:aB K H1 ds vs)(l:J.length=ds.length):u7 K (xh a ob ((J.map Sum.inr).zip vs)) H1 (mw J ds):=λ H0 H i s s'=>by
 have Z:=s' _ _ (s _ _ ea);have u:=r.length;have t:((J.map Sum.inr).zip vs:List (Key×V)).length=J.length:=by rw[Yj,qw];lia
 have n:(mw J ds).length=J.length:=by unfold mw;rw[qw,Yj];lia
 refine⟨λ d e=>?_,λ h=>⟨by lia,Z⟩⟩;unfold mw at e;rw[zo]at e;cases z:(J.zip ds)[i]? with
 |none=>rw[z]at e;cases e
 |some q=>
  rw[z]at e;obtain rfl:=br e;obtain⟨b,m⟩:=List.getElem?_zip_eq_some.mp z;have hi:=(List.getElem?_eq_some_iff.mp b).1;obtain⟨v,j,k⟩:=r.get m;refine⟨⟨by lia,Z⟩,λ x H' Y=>?_⟩;refine fA Y λ k' v' p e1 f g c=>?_;obtain⟨e2,e3⟩:=List.getElem?_zip_eq_some.mp e1;rw[zo,b]at e2;obtain rfl:Sum.inr q.1=k':=qi e2;rw[j]at e3;obtain rfl:v=v':=qi e3;subst f c;have S:=bR.alloc (o:=.tup [kV (Sum.inr q.1),v]) s' g;refine⟨_,S,?_⟩;exact⟨p,_,rfl,.inl (.inl bT),aB.cons (by rfl) (aB.one (aS.mono (s.trans S.s0) _ k))⟩
section
variable{X:Cx}{pos:Pos}{F:FE}{B:FS}
theorem VZ(hg:XG X (.Tuple Y x1 pt) g)(ha:XE X a F)(hb:fJ X J B)(Z:attributeBase a "items" X.env (eval a X.env)=eval a X.env:=by rfl)(aa:(ap.endLine==cp.line)=true:=by rfl)(hp:PassesOwn (model X.prog X.w) X.A X.env X.xe:=by exact Zk)(hc:X.calm=true:=by rfl)(hs:∀x,foldedSetIterable (.Call (.Attribute a "items" ap) [] [] cp) X.env x=pure x:=by intro _;rfl):XS X (.For (.Tuple Y x1 pt) (.Call (.Attribute a "items" ap) [] [] cp) J [] pos) (By g F B):=PS.wk (rY hp hc (VF ha Z aa) hg hb hs) λ Dn L H h=>by
 refine bY h λ c H0 U r R f q=>?_;obtain⟨⟨d,i⟩,j,f⟩:=aL f;obtain⟨⟨t,s⟩,k,f⟩:=aL f;cases eG k;refine bA c H0 U _ i R j λ v H1 Hh p b m=>?_;obtain⟨a,o,u,rfl,e,n,l⟩:=m;exact⟨a,o,_,rfl,b.same _ _ e,HP b f (UU e n l) (q.mono p)⟩
end
def xD(K:Frag):Prop:=∀a o,K.lookup a=some o→o.cls≠.type "list"
theorem VC(h:H a=some u):upd H a u=H:=by
 funext b;by_cases z:b=a
 .rw[z,bT,h]
 .rw[a_ z]
section
variable{X:Cx}{aA:List (Addr×Obj)}{L:L2.St}{H:Hp}{s:Shared}{a:Addr}
theorem Vs(I:aI X aA L H s)(e:H a=none):vW X a:=by
 refine⟨λ xs z=>?_,λ o u z=>?_,λ ps z=>?_⟩
 .have q:=I.base.tups a xs z;rw[e]at q;simp at q
 .have q:=I.base.frzs a o u z;rw[e]at q;simp at q
 .obtain⟨m,q⟩:=I.base.tbls a ps z;rw[e]at q;simp at q
theorem V1(I:aI X aA L H s)(e:H a=some (.frz ob (.lst us)))(Y:vW X a):aI X aA L (upd H a (.lst us)) s:=by
 have J:∀{b:Addr},H b=none->b≠a:=λ z h=>by rw[h,e]at z;simp at z
 have un:=I.base;refine⟨I.ok,I.os,I.bare,⟨un.keep,un.slot,λ b o q n hx=>?_,un.there,λ b xs q=>?_,λ b o u q=>?_,λ b ps q=>?_⟩,I.loc,I.cell,?_,λ x c q=>?_,λ p i=>?_,λ b u q=>?_,I.len⟩
 .have z:=un.free b o q n hx;rw[a_ (J z)];exact z
 .rw[a_ λ h=>Y.1 xs (by rw[<-h];exact q)];exact un.tups b xs q
 .rw[a_ λ h=>Y.2.1 o u (by rw[<-h];exact q)];exact un.frzs b o u q
 .rw[a_ λ h=>Y.2.2 ps (by rw[<-h];exact q)];exact un.tbls b ps q
 .rw[a_ (J I.free)];exact I.free
 .have z:=I.freeC x c q;rw[a_ (J z)];exact z
 .obtain⟨f,d,g⟩:=I.pin p i;exact⟨f,by rw[a_ (J d)];exact d,g⟩
 .by_cases Z:b=a
  .subst Z;rw[bT]at q;obtain rfl:=br q;obtain⟨_,w⟩:=(show aZ X.prog X.w H s.heap b (.frz ob (.lst us))from I.hok b _ e);exact w
  .rw[a_ Z]at q;refine(I.hok b u q).stay (λ _ _ _ r=>r) (λ c r=>?_) λ c xs r=>?_
   .rw[a_ λ h=>by rw[h,e]at r;cases r];exact r
   .rw[a_ λ h=>by rw[h,e]at r;cases r];exact r
end
theorem HQ:∀{xs ys:List V}{us:List Value},aQ xs us->aQ ys us->xs=ys
 |[],ys,us,h,h'=>by cases h;cases h';rfl
 |x::xs,ys,us,h,h'=>by
  cases h with
  |cons a b=>
   cases h' with
   |cons q J=>rw[aU.inj a q,HQ b J]
section
variable{X:Cx}{k:Nat}{f:Addr}{fd:FuncData}{ps:List Str}{sp:Sp}{x:Str}{p pos:Pos}{e:Expr}{es:List Expr}{t:TA}
def Up(X:Cx)(H1:Hp)(Q:VK):VK:=λ v H2=>(∀b xs ys,dH X.K H2 b xs->dH X.K H2 b ys->xs=ys)->Q v H2\/∃a ob us,v=.ref a/\H1 a=none/\H2 a=some (.frz ob (.lst us))/\Q v (upd H2 a (.lst us))
theorem Vf(F:cB X.prog X.w X.K X.mg X.base ft k f fd ps sp)(hr:bJ k X.A)(hg:Gl X x)(hm:X.mg x=some (.ref f))(hk:keepIn X.K (.ref f)=true)(hb:cV X.K fd ps [])(ha:PA X (e::es) t)(aa:cH x)(he:starEach (e::es) X.env=(false,eval e X.env)::starEach es X.env)(Z:(backTo pos (starEach es X.env)).any (·.1)=false):PE X (.Call (.Name x p) (e::es) [] pos) (λ L H Q=>t L H λ vs H1=>sp (vs++[]) H1 (Up X H1 Q) E0):=by
 intro aA s L H Q I h;refine Q2 (oe I hg hm ?_ aa);refine PySem.W.callWith_K I.ok.mod.kin hk (bN (ha pos aA s L H _ I h) λ us M=>dJ λ vs H1 c r q=>⟨c.kIn,?_⟩) he Z;refine zy (Ia F hr hb .nil oX c r q) (λ u N J=>?_) λ _ _ z=>z;refine cF J λ v j Y i z=>?_;rcases z λ b xs ys o y=>by
  obtain⟨B,v1,⟨G,m,_,D,l⟩,_⟩:=Y.tuple o;obtain⟨i2,v2,⟨σ,g,_,E,d⟩,_⟩:=Y.tuple y;rw[m]at g;obtain rfl:=br g;rw[l]at d;have e2:B=i2:=by have:=(Data.seq.inj d).1;simpa using this
  rw[<-e2]at v2;exact HQ v1 v2 with z|⟨a,ob,us,C,n,e2,z⟩
 .exact bE v j Y i z
 .exact bE v _ (V1 Y e2 (Vs c n)) i z
end
def pY:HO->Bool
 |.lst _=>true
 |.frz _ (.lst _)=>true
 |_=>false
def noL(H:Hp):Hp:=λ b=>match H b with
 |some u=>if pY u=true then none else some u
 |none=>none
theorem ab7(h:noL H b=some u):H b=some u/\pY u=false:=by
 unfold noL at h;split at h
 .rename_i v e;by_cases z:pY v=true
  .rw[if_pos z]at h;simp at h
  .rw[if_neg z]at h;obtain rfl:=br h;exact⟨e,Bool.eq_false_iff.mpr z⟩
 .simp at h
theorem Jv(h:H b=some u)(z:pY u=false):noL H b=some u:=by unfold noL;rw[h];exact if_neg (by rw[z];exact zj)
section
variable{K:Frag}{H H':Hp}
mutual
theorem aS.noL:∀(d:D){v:V},nl d=true->aS K H d v->aS K (noL H) d v
 |.non,_,_,h=>by unfold aS at h⊢;exact h
 |.bl _,_,_,h=>by unfold aS at h⊢;exact h
 |.int _,_,_,h=>by unfold aS at h⊢;exact h
 |.str _,_,_,h=>by unfold aS at h⊢;exact h
 |.tup ds,_,n,h=>by
  unfold aS at h⊢;obtain⟨b,vs,e,s,r⟩:=h;refine⟨b,vs,e,?_,aB.noL ds n r⟩;rcases s with(s|⟨o,s⟩)|s
  .exact .inl (.inl (Jv s rfl))
  .exact .inl (.inr ⟨o,Jv s rfl⟩)
  .exact .inr s
 |.lst _,_,n,_=>by cases n
 |.opq,_,n,_=>by cases n
 |.dct _ _,_,n,_=>by cases n
theorem aB.noL:∀(ds:List D){vs:List V},eR ds=true->aB K H ds vs->aB K (noL H) ds vs
 |[],_,_,h=>by unfold aB at h⊢;exact h
 |d::r,_,n,h=>by
  unfold eR at n;rw[zd]at n;unfold aB at h⊢;obtain⟨v,q,e,h1,h2⟩:=h;exact⟨v,q,e,aS.noL d n.1 h1,aB.noL r n.2 h2⟩
end
end
section
variable{K:Frag}{c:FC}{H1 Hh cG H':Hp}{U:En}{L:L2.St}{wq r:Addr}{uw:HO}{us:List V}{es:List D}
theorem RS.toldL(R:RS K c H1 Hh U L)(i:Nat)(w0:H1 wq=some uw)(S:bR (upd (noL H1) wq uw) Hh cG H')(hr:Hh r=none)(aa:eR es=true)(re:aB K cG es us)(hu:∃u,cG r=some u/\pY u=true):∃H0n,aD H1 H0n/\RS K c H0n (upd H' r (.lst us)) (U.set i (.ow false (.lst es))) (L.set i (some (.ref r))):=by
 obtain⟨u,j,l⟩:=hu;have g:=R.same.free hr
 let H0n:Hp:=λ b=>match H1 b with
  |some u=>some u
  |none=>noL cG b
 have J:∀{b:Addr}{u:HO},H1 b=some u->H0n b=some u:=λ h=>by grind
 have Y:∀{b:Addr},H1 b=none->H0n b=noL cG b:=λ h=>by grind
 have m:H0n r=none:=by
  rw[Y g];cases z:noL cG r with
  |none=>rfl
  |some a=>
   obtain⟨e,f⟩:=ab7 z;rw[j]at e;obtain rfl:=br e;rw[l]at f;simp at f
 have Z:∀{b:Addr}{u:HO},H0n b=some u->H' b=some u:=λ{b u}h=>by
  cases q:H1 b with
  |some a=>rw[J q]at h;obtain rfl:=br h;exact S.s _ _ (R.same _ _ q)
  |none=>rw[Y q]at h;exact S.s' _ _ (ab7 h).1
 have St:bR H1 Hh H0n (lss (upd H' r (.lst us)) r):=by
  refine⟨λ b u h=>J h,λ b u h=>?_,λ b u h=>?_,λ b u h=>?_⟩
  .have nb:b≠r:=λ z=>by rw[z,hr]at h;simp at h
   rw[m5 nb,a_ nb];exact S.s _ _ h
  .grind[m5,a_]
  .cases q:H1 b with
   |some a=>rw[J q]at h;exact .inl h
   |none=>
    rw[Y q]at h;rcases S.fr b u (ab7 h).1 with d|d
    .grind[a_,ab7]
    .exact .inr d
 have k:aD (noL cG) H0n:=λ b u h=>by
  cases q:H1 b with
  |some a=>
   have e1:=S.s _ _ (R.same _ _ q);have e2:=S.s' _ _ (ab7 h).1;rw[e1]at e2;obtain rfl:=br e2;exact J q
  |none=>rw[Y q];exact h
 have e3:upd (lss (upd H' r (.lst us)) r) r (.lst us)=upd H' r (.lst us):=by
  funext b;by_cases z:b=r
  .rw[z,bT,bT]
  .rw[a_ z,m5 z]
 refine⟨H0n,λ b u h=>J h,?_⟩;have:=(R.after St).setOwn (o:=.lst es) i yS ⟨us,bT,aB.mono k _ (aB.noL es aa re)⟩;grind
theorem Uk(F2:∀b xs ys,dH K H' b xs->dH K H' b ys->xs=ys)(Y:hd4 ws=true)(h2:hd2 es=true)(q:aB K H' ws us)(re:aB K H' es us):False:=by
 unfold hd4 at Y;split at Y
 .unfold hd2 at h2;split at h2
  .obtain⟨j,k,rfl,Z,_⟩:=q;refine cF re λ v1 h e1 d _=>?_;cases e1;obtain⟨b,xs,rfl,g,e⟩:=Z;refine cF d λ i ys e2 J f=>?_;cases e2;have a:=e.length;have c:=f.length;rw[F2 b xs ys g J,<-c]at a;simp at a
  .simp at h2
 .simp at Y
end
section
variable{X:Cx}{pos:Pos}{e:Expr}{es:List Expr}{A:FA}
theorem VX(i:Nat)(hN:X.N.Nodup)(G:aK X.prog X.w X.K X.mg X.base k x g)(hr:bJ k X.A)(kl:xD X.K)(ha:XA X (e::es) A)(hi:X.N[i]?=some y:=by rfl)(hx:jI X.env.scope y:=by first|exact Or.inl rfl|exact Or.inr rfl)(hs:swapsWith (.Call (.Name x p) (e::es) [] cpos) (some (.Name y pos')) pos.line X.env=pure false:=by rfl)(hf:X.fn y=true\/X.env.scope.names.lookup y=some .local:=by first|exact .inl rfl|exact .inr rfl)(hg:Gl X x:=by rfl)(ag:cH x:=by decide)(he:starEach (e::es) X.env=(false,eval e X.env)::starEach es X.env:=by rfl)(af:(backTo cpos (starEach es X.env)).any (·.1)=false:=by rfl):XS X (.Assign [.Name y pos'] (.Call (.Name x p) (e::es) [] cpos) pos) (Bw i g A):=by
 refine fA G.ex λ f fd ps T Y hk hm=>?_;refine PS.wk (mP hN hi hx (Vf T hr hg hm hk Y ha ag he af) hs hf) λ Dn L H ρ=>?_;refine bY ρ λ c H0 U r R f q=>?_;obtain⟨⟨ds,V⟩,h1,f⟩:=aL f;unfold vD at f;dsimp only at f;split at f
 rotate_left
 .simp at f
 rename_i P σ;obtain⟨⟨c1,c2,c3⟩,f⟩:=Hd f;obtain⟨d,h2,f⟩:=aL f;unfold Br at f;split at f
 rotate_left
 .simp at f
 rename_i ls;obtain⟨⟨c4,I⟩,f⟩:=bU f;subst f;refine bA c H0 U _ V R h1 λ vs H1 Hh O j r1=>?_;obtain⟨v,vr,rfl,ra,rb⟩:=r1;obtain⟨wq,Z,rfl,l,F⟩:=ra;obtain⟨uw,m,D⟩:∃uw,H1 wq=some uw/\(uw=.lst Z\/∃ob,uw=.frz ob (.lst Z)):=by
  rcases l with(l|⟨ob,l⟩)|⟨o,t,n,k1,k2,_⟩
  .exact⟨_,l,.inl rfl⟩
  .exact⟨_,l,.inr ⟨ob,rfl⟩⟩
  .exact absurd k2 (kl _ _ k1)
 have E:aD (noL H1) (upd (noL H1) wq uw):=λ b u Y=>by
  by_cases z:b=wq
  .subst z;rw[(ab7 Y).1]at m;obtain rfl:=br m;exact bT
  .rw[a_ z];exact Y
 rw[zx];refine⟨upd (noL H1) wq uw,.lst P::σ,.lst ls,λ b u Y=>?_,aB.cons ?_ (aB.mono E _ (aB.noL σ c3 rb)),h2,λ v cG H' S rv Q=>?_⟩
 .by_cases z:b=wq
  .subst z;rw[bT]at Y;obtain rfl:=br Y;exact j.same _ _ m
  .rw[a_ z]at Y;exact j.same _ _ (ab7 Y).1
 .refine bE wq Z rfl (.inl ?_) (aB.mono E _ (aB.noL P c2 F));rcases D with rfl|⟨ob,rfl⟩
  .exact .inl bT
  .exact .inr ⟨ob,bT⟩
 .obtain⟨a,us,rfl,J,B⟩:=rv;have fin:∀u,cG a=some u->pY u=true->(u=.lst us\/∃ob,u=.frz ob (.lst us))->Hh a=none:=λ u hu M eu=>by
   rcases S.fr a u hu with h|h
   .by_cases z:a=wq
    .exfalso;subst z;rw[bT]at h;obtain rfl:=br h;have W:us=Z:=by
      rcases eu with rfl|⟨ob,rfl⟩
      .rcases D with h|⟨_,h⟩<;>cases h;rfl
      .rcases D with h|⟨_,h⟩<;>cases h;rfl
     subst W;exact Uk Q c1 c4 (aB.mono (λ b u Y=>S.s _ _ (j.same _ _ Y)) _ F) (aB.mono S.s' _ B)
    .rw[a_ z]at h;rw[(ab7 h).2]at M;simp at M
   .exact h
  rcases J with(J|⟨ob,J⟩)|⟨o,t,n,k1,k2,_⟩
  .have z:=fin _ J rfl (.inl rfl);obtain⟨H0n,C,R2⟩:=j.toldL i m S z I B ⟨_,J,rfl⟩;rw[VC (S.s' _ _ J)]at R2;exact .inl (q _ H0n _ (O.trans C) R2)
  .have z:=fin _ J rfl (.inr ⟨ob,rfl⟩);obtain⟨H0n,C,R2⟩:=j.toldL i m S z I B ⟨_,J,rfl⟩;exact .inr ⟨a,ob,us,rfl,z,S.s' _ _ J,q _ H0n _ (O.trans C) R2⟩
  .exact absurd k2 (kl _ _ k1)
theorem Uo(i:Nat)(hm:X.mg "list"=none)(hN:X.N[i]?=some x:=by rfl)(hv:fh X.env.scope x:=by first|exact Or.inl rfl|exact Or.inr (Or.inl rfl)|exact Or.inr (Or.inr rfl))(hd:cH x:=by decide)(aa:er x:=by decide)(hg:Gl X "list":=by rfl)(Y:starEach [.Name x p2] X.env=(false,eval (.Name x p2) X.env)::starEach [] X.env:=by rfl)(Z:(backTo pos (starEach [] X.env)).any (·.1)=false:=by rfl):XE X (.Call (.Name "list" p) [.Name x p2] [] pos) (BL i):=
 PE.wk (qK C2 hg hm Yg (gq (eI hN hv hd aa) jD Y) (by decide) (by decide) Y Z) λ L H Q J=>by
  refine bL J λ c H0 U d j R f q=>?_;obtain⟨⟨b,xs⟩,g,f⟩:=aL f;cases f;obtain⟨a,e1,_,_,e,e4,t⟩:=R.ow i b _ (oy g);refine⟨_,e1,a,e,rfl,.inl (.inl (.inl e4)),λ l h=>?_⟩;have S:=bR.alloc (o:=.lst e) R.same h;refine q _ _ _ S.s0 (R.after S) ?_;exact bE l e rfl (.inl (.inl bT)) (aB.mono S.s0 _ t)
structure Mo(K:Frag)(mg:Str→Option Value)(st:Stmt)(c0 c2 fI:Addr)(fd:FuncData):Prop extends Mn K mg "NoWorks" "WellError" "at" "NoWorks.__init__" st c0 c2 fI fd where
 ee:PySem.W.exmOne K (.ref c0) (.ref c0)=some true
theorem V6{K:Frag}(h:(K.all λ e=>!(e.2.cls==.type "list"))=true):xD K:=λ a o e z=>by
 induction K with
 |nil=>cases e
 |cons p r q=>
  rw[j8,zd]at h;obtain⟨b,c⟩:=p;rw[Ya]at e;split at e
  .obtain rfl:=br e;rw[z]at h;exact absurd h.1 (by decide)
  .exact q h.2 e
end
end Fx
namespace Fx
open PySem
noncomputable section
abbrev aP(i:Nat)(k:Int):FE:=e2 bK (eV i) (zI k)
abbrev bV(s:Str):FE:=eC (.str s)
abbrev aT(k:Int):FE:=eC (.int k)
abbrev gv(x:FE):FT:=tB (e2 mx x (eC .non))
abbrev cz(x y:FE):FT:=tB (e2 eQ x y)
def Dj:FS:=
 (bD (e2 eQ (e2 jJ (eV 1) (aP 0 1)) (e2 eQ (aP 0 0) (bV "only"))))
def lG:List D->Option D:=c9 2 0 Dj
def Ct:FS:=
 (aM (bP (b_ (cz (aP 0 0) (bV "but")) (cz (aP 1 0) (bV "but")))
 (bD u4)
 sN)
 (aM (bP (cz (aP 0 0) (bV "but"))
 (bD u4)
 sN)
 (aM (bC 2 (eF iV (aC (iT [1] (aP 0 1) (tV (eF lG (aC (eV 1) (aC (eV 0) aN)))) (eV 0)) aN)))
 (bD (gX (tV (eV 2)) (bZ (aC (bV "only") (aC (eV 2) aN))) (eC .non))))))
def p8:List D->Option D:=c9 2 1 Ct
def tH:FS:=
 (aM (bP (b_ (cz (aP 0 0) (bV "but")) (cz (aP 1 0) (bV "but")))
 (bD (bZ (aC (bV "but") (aC (eF iV (aC (eF oo (aC (aP 0 1) (aC (aP 1 1) aN))) aN)) aN))))
 sN)
 (aM (bP (cz (aP 0 0) (bV "but"))
 (bD (eF p8 (aC (eV 1) (aC (eV 0) aN))))
 sN)
 (aM (bC 2 (eF iV (aC (iT [1] (aP 0 1) (tV (eF lG (aC (eV 1) (aC (eV 0) aN)))) (eV 0)) aN)))
 (bD (gX (tV (eV 2)) (bZ (aC (bV "only") (aC (eV 2) aN))) (eC .non))))))
def jO:List D->Option D:=c9 2 1 tH
def xH:FS:=
 (bD (e2 eQ (eF jO (aC (eV 0) (aC (eV 1) aN))) (eV 0)))
def qN:List D->Option D:=c9 2 0 xH
def Cd:FS:=
 (aM (bC 2 (eF m_ (aC (eV 1) aN)))
 (aM (bC 3 (iT [2] (aP 0 1) (tB (e2 uP (eV 0) (eV 1))) (eV 0)))
 (aM (bC 4 (Bj [2,0] (eV 2) (tB (e2 jJ (e2 sy (eV 1) (eV 0)) (aP 2 1))) (eV 0)))
 (aM (bC 5 (eF iV (aC (eF mQ (aC (e2 cw (eV 3) (eV 4)) aN)) aN)))
 (aM (bP (b_ (cz (aP 0 0) (bV "only")) (eH (tV (eV 5))))
 (bD (eC .non))
 sN)
 (bD (bZ (aC (aP 0 0) (aC (eV 5) aN)))))))))
def sO:List D->Option D:=c9 2 4 Cd
def lF:FS:=
 (aM (bP (eH (tB (e3 my hZ (aT 0) (eV 3) (eV 2))))
 (bD (eC .non))
 sN)
 (aM (bC 4 (gX (gv (eV 0)) (eC .non) (e2 cw (eV 0) (e2 cu (e2 fR (eV 3) (eV 0)) (eV 2)))))
 (aM (bC 5 (gX (gv (eV 1)) (eC .non) (e2 fR (eV 1) (e2 cu (e2 fR (eV 1) (eV 3)) (eV 2)))))
 (aM (bP (fq (gv (eV 4)) (gv (eV 5)))
 (bD (bZ (aC (eV 4) (aC (eV 5) (aC (eV 2) (aC (eV 3) aN))))))
 sN)
 (aM (bP (tB (e2 kj (eV 4) (eV 5)))
 (bD (eC .non))
 sN)
 (aM (bP (cz (eV 4) (eV 5))
 (bD (bZ (aC (eV 4) (aC (eV 5) (aC (aT 1) (aC (aT 0) aN))))))
 sN)
 (bD (bZ (aC (eV 4) (aC (eV 5) (aC (eV 2) (aC (eV 3) aN))))))))))))
def fj:List D->Option D:=c9 4 2 lF
def Mt:FS:=
 (bD (l_ (nB (e2 mx (eV 1) (eC .non)) (e2 my (eV 1) (eV 0))) (nB (e2 mx (eV 2) (eC .non)) (e2 my (eV 0) (eV 2)))))
def Km:List D->Option D:=c9 3 0 Mt
def L_:FS:=
 (bD (l_ (eF Km (aC (eV 1) (aC (aP 0 0) (aC (aP 0 1) aN)))) (e2 eQ (e2 cu (eV 1) (aP 0 2)) (aP 0 3))))
def WR:List D->Option D:=c9 2 0 L_
def Cp:FS:=
 (aM (bP (fq (gv (eV 0)) (gv (eV 1)))
 (bD (gX (gv (eV 0)) (eV 1) (eV 0)))
 sN)
 (bD (eF lC (aC (eV 0) (aC (eV 1) aN)))))
def sR:List D->Option D:=c9 2 0 Cp
def Co:FS:=
 (aM (bP (fq (gv (eV 0)) (gv (eV 1)))
 (bD (gX (gv (eV 0)) (eV 1) (eV 0)))
 sN)
 (bD (eF pH (aC (eV 0) (aC (eV 1) aN)))))
def nH:List D->Option D:=c9 2 0 Co
def Kp:FS:=
 (bD (eF fj (aC (eF sR (aC (aP 0 0) (aC (eV 1) aN))) (aC (eF nH (aC (aP 0 1) (aC (eV 2) aN))) (aC (aP 0 2) (aC (aP 0 3) aN))))))
def vZ:List D->Option D:=c9 3 0 Kp
def BY:FS:=
 (aM (bC 3 (iT [2,1] (gQ (eV 0) oN (oS (aT 2))) dA (gX (gv (eV 0)) (eC .non) (e2 cw (e2 gF (eV 2) (eV 0)) (eV 1)))))
 (aM (bP (tB (e2 hZ (eV 1) (aT 0)))
 (bC 3 (eK (aC (aP 3 1) (aC (aP 3 0) aN))))
 sN)
 (aM (bC 4 (e2 gF (eF j_ (aC (eV 1) aN)) (aP 0 2)))
 (bD (eF fj (aC (aP 3 0) (aC (aP 3 1) (aC (eV 4) (aC (e2 cu (e2 cw (e2 gF (eV 1) (aP 0 3)) (eV 2)) (eV 4)) aN)))))))))
def sI:List D->Option D:=c9 3 2 BY
abbrev J6:FS:=
 (aM (bC 6 (e2 kG (eV 2) (eV 4)))
 (aM (bC 7 (e2 fR (eV 2) (e2 gF (eV 6) (eV 4))))
 (aM (bC 2 (eV 4))
 (aM (bC 4 (eV 7))
 (aM (bC 7 (e2 fR (eV 3) (e2 gF (eV 6) (eV 5))))
 (aM (bC 3 (eV 5))
 (bC 5 (eV 7))))))))
abbrev J5:FT:=
 (tB (e2 gW (eV 4) (aT 0)))
def J9:FS:=
 (aM (bC 2 (e2 cu (eV 0) (eV 1)))
 (aM (bC 3 (aT 1))
 (aM (bC 4 (eV 1))
 (aM (bC 5 (aT 0))
 (aM (rX (λ U=>match U[1]? with|some (Sl.im (D.int m))=>m.toNat+2|_=>0) J5
 J6)
 (bD (bZ (aC (eV 2) (aC (eV 3) aN)))))))))
def sM:List D->Option D:=c9 2 6 J9
def BO:FS:=
 (aM (bP (cz (eV 1) (aT 0))
 (bD u4)
 sN)
 (aM (bC 3 (eF sM (aC (eV 1) (aC (aP 0 2) aN))))
 (aM (bC 4 (aP 3 0))
 (aM (bC 5 (e2 fR (aP 0 3) (eV 2)))
 (aM (bP (tB (e2 gW (e2 cu (eV 5) (eV 4)) (aT 0)))
 (bD (eC .non))
 sN)
 (aM (bC 6 (e2 kG (aP 0 2) (eV 4)))
 (aM (bC 7 (gX (tB (e2 kj (eV 1) (aT 0))) (eK (aC (aP 0 0) (aC (aP 0 1) aN))) (eK (aC (aP 0 1) (aC (aP 0 0) aN)))))
 (aM (bC 8 (gX (gv (aP 7 0)) (eC .non) (e1 rP (e2 kG (e2 fR (eV 2) (aP 7 0)) (eV 1)))))
 (aM (bC 9 (gX (gv (aP 7 1)) (eC .non) (e2 kG (e2 fR (aP 7 1) (eV 2)) (eV 1))))
 (bD (eF fj (aC (eV 8) (aC (eV 9) (aC (eV 6) (aC (e2 cu (e2 gF (e2 kG (eV 5) (eV 4)) (aP 3 1)) (eV 6)) aN)))))))))))))))
def nh:List D->Option D:=c9 3 7 BO
def Ck:FS:=
 (aM (bC 2 (eF nh (aC (eV 1) (aC (aP 0 2) (aC (aP 0 3) aN)))))
 (aM (bP (gv (eV 2))
 (bD (eC .non))
 sN)
 (bD (eF vZ (aC (eF sI (aC (eV 2) (aC (aP 0 2) (aC (aP 0 3) aN)))) (aC (aP 0 0) (aC (aP 0 1) aN)))))))
def pS:List D->Option D:=c9 2 1 Ck
def xm:FS:=
 (bD (e2 eQ (eF pS (aC (eV 0) (aC (eV 1) aN))) (eV 0)))
def mF:List D->Option D:=c9 2 0 xm
def qu:FS:=
 (aM (bP (fq (gv (eV 0)) (gv (eV 3)))
 (bD (eC .non))
 sN)
 (aM (bC 1 (eF lC (aC (eV 1) (aC (aT 0) aN))))
 (aM (bP (b_ (tB (e2 fU (eV 2) (eC .non))) (tB (e2 my (eV 2) (eV 1))))
 (bD (eC .non))
 sN)
 (bD (bZ (aC (eV 0) (aC (eV 1) (aC (eV 2) (aC (eV 3) aN)))))))))
def fu:List D->Option D:=c9 4 0 qu
def DA:FS:=
 (aM (bC 2 (eF jO (aC (aP 0 0) (aC (aP 1 0) aN))))
 (aM (bC 3 (eF pS (aC (aP 0 3) (aC (aP 1 3) aN))))
 (bD (eF fu (aC (eV 2) (aC (eF lC (aC (aP 0 1) (aC (aP 1 1) aN))) (aC (eF nH (aC (aP 0 2) (aC (aP 1 2) aN))) (aC (eV 3) aN))))))))
def lH:List D->Option D:=c9 2 2 DA
def oB:FS:=
 (aM (bP (fq (tB (e2 hZ (aP 0 1) (aP 1 1))) (tB (e2 gW (eF nH (aC (aP 0 2) (aC (aP 1 2) aN))) (aP 0 2))))
 (bD (eC (.bl false)))
 sN)
 (bD (l_ (eF qN (aC (aP 0 0) (aC (aP 1 0) aN))) (eF mF (aC (aP 0 3) (aC (aP 1 3) aN))))))
def kT:List D->Option D:=c9 2 0 oB
def lE:FS:=
 (aM (bC 1 (aP 0 0))
 (aM (bC 2 (aP 0 3))
 (aM (bP (cz (eV 1) (bV "time"))
 (bD (eF fu (aC (eC (.tup [(.str "but"),(.tup [])])) (aC (aP 2 0) (aC (aP 2 1) (aC (eC (.tup [.non,.non,(.int 1),(.int 0)])) aN))))))
 sN)
 (aM (bP (fq (cz (eV 1) (bV "only")) (cz (eV 1) (bV "but")))
 (bD (eF fu (aC (bZ (aC (eV 1) (aC (eF iV (aC (eF mQ (aC (eV 2) aN)) aN)) aN))) (aC (aT 0) (aC (eC .non) (aC (eC (.tup [.non,.non,(.int 1),(.int 0)])) aN))))))
 sN)
 (aM (bP (cz (eV 1) (bV "span"))
 (bD (eF fu (aC (eC (.tup [(.str "but"),(.tup [])])) (aC (aT 0) (aC (eC .non) (aC (eF fj (aC (aP 2 0) (aC (aP 2 1) (aC (aT 1) (aC (aT 0) aN))))) aN))))))
 sN)
 (aM (bP (cz (eV 1) (bV "rest"))
 (bD (eF fu (aC (eC (.tup [(.str "but"),(.tup [])])) (aC (aT 0) (aC (eC .non) (aC (eF fj (aC (eC .non) (aC (eC .non) (aC (aP 2 0) (aC (aP 2 1) aN))))) aN))))))
 sN)
 (bD (eC .non))))))))
def jL:List D->Option D:=c9 1 2 lE
def CO:FS:=
 (aM (bC 2 (gX (gv (aP 0 2)) (eC .non) (e2 cw (aP 0 2) (eV 1))))
 (bD (eF fu (aC (aP 0 0) (aC (e2 cw (aP 0 1) (eV 1)) (aC (eV 2) (aC (aP 0 3) aN)))))))
def sV:List D->Option D:=c9 2 1 CO
def p_:FS:=
 (aM (bC 2 (eF jL (aC (eV 0) aN)))
 (aM (bP (tB (e2 fU (eV 2) (eC .non)))
 (bD (eF lH (aC (eV 2) (aC (eV 1) aN))))
 sN)
 (aM (bC 3 (aP 0 3))
 (aM (bP (cz (aP 0 0) (bV "later"))
 (bD (eF sV (aC (eV 1) (aC (e1 rP (aP 3 0)) aN))))
 sN)
 (aM (bP (cz (aP 0 0) (bV "turn"))
 (bD (eF fu (aC (aP 1 0) (aC (aP 1 1) (aC (aP 1 2) (aC (eF nh (aC (aP 1 3) (aC (aP 3 0) (aC (aP 3 1) aN)))) aN))))))
 sN)
 (bD (eF fu (aC (eF sO (aC (aP 1 0) (aC (eV 3) aN))) (aC (aP 1 1) (aC (aP 1 2) (aC (aP 1 3) aN)))))))))))
def iS:List D->Option D:=c9 2 2 p_
abbrev p9:FS:=
 (bP (cz (aP 2 1) (eV 1))
 (bD (eV 2))
 sN)
def Dh:FS:=
 (aM (jM (gN 2) (eV 0)
 p9)
 (bD (eC .non)))
def mI:List D->Option D:=c9 2 1 Dh
def F9:FS:=
 (bD (eF fu (aC (eC (.tup [(.str "but"),(.tup [])])) (aC (eV 1) (aC (eC .non) (aC (eF fj (aC (e2 bK (aP 0 3) (aT 0)) (aC (e2 bK (aP 0 3) (aT 1)) (aC (aT 1) (aC (aT 0) aN))))) aN))))))
def nW:List D->Option D:=c9 2 0 F9
abbrev we(FUEL_:List D->Option D):FS:=
 (rQ 5 (eF FUEL_ (aC (eV 0) (aC (eV 6) (aC (eV 4) aN)))))
def pR(FUEL_:List D->Option D):FS:=
 (aM (bP (gv (eV 2))
 (bD (eK aN))
 sN)
 (aM (bC 3 (eF mI (aC (eV 0) (aC (eV 1) aN))))
 (aM (bP (cz (aP 3 0) (bV "in"))
 (aM (bC 7 (eF lH (aC (eF nW (aC (eV 3) (aC (aT 0) aN))) (aC (eV 2) aN))))
 (bD (gX (gv (eV 7)) (eK aN) (eK (aC (bZ (aC (eV 1) (aC (eV 7) aN))) aN)))))
 sN)
 (aM (bC 4 (gX (cz (aP 3 0) (bV "pour")) (eV 2) (eF iS (aC (eV 3) (aC (eV 2) aN)))))
 (aM (lA 5 (sv aN))
 (aM (jM (gN 6) (aP 3 2)
 (we FUEL_))
 (i8 5 (bD (eV 5)))))))))
def fW:Nat->List D->Option D
 |0=>c9 3 5 λ _=>none
 |n+1=>c9 3 5 (pR (fW n))
def C3:FS:=
 (bD (eF (fW 24) (aC (eV 0) (aC (eV 1) (aC (eF fu (aC (eC (.tup [(.str "but"),(.tup [])])) (aC (aT 0) (aC (eC .non) (aC (eC (.tup [.non,.non,(.int 1),(.int 0)])) aN))))) aN)))))
def iE:List D->Option D:=c9 2 0 C3
abbrev i3:FS:=
 (bP (b_ (cz (aP 2 0) (aP 3 0)) (tB (e2 fU (eF lH (aC (aP 2 1) (aC (aP 3 1) aN))) (eC .non))))
 (bD (eC (.bl true)))
 sN)
abbrev vL:FS:=
 (jM (gN 3) (gQ (eV 0) oN (oS (eV 1)))
 i3)
def B5:FS:=
 (aM (yK (gT [1,2]) (eV 0)
 vL)
 (bD (eC (.bl false))))
def nu:List D->Option D:=c9 1 3 B5
abbrev kK:FX:=
 (wm (tB (e2 jJ (aP 2 0) (eC (.tup [(.str "in"),(.str "time"),(.str "only"),(.str "but"),(.str "span"),(.str "rest"),(.str "turn"),(.str "later"),(.str "put"),(.str "pour")]))))
 (Az (rS (bC 3 (eF iE (aC (eV 0) (aC (aP 2 1) aN)))))
 (wm (fq (eH (tV (eV 3))) (b_ (cz (aP 2 0) (bV "pour")) (tV (eF nu (aC (eV 3) aN)))))
 (xA (Str.ofString "NoWorks") (Str.ofString "at") (eV 1))
 (rS sN)))
 (rS sN))
def Cj:FX:=(yL (gT [1,2]) (eV 0)
 kK)
def kg:List D->Option (D⊕XV):=nK 1 3 Cj
def Cs:FS:=
 (aM (bP (tB (e2 hZ (eV 1) (eF fO (aC (eV 0) aN))))
 (bD (e2 bK (eV 0) (eV 1)))
 sN)
 (bD (aT 0)))
def nI:List D->Option D:=c9 2 0 Cs
def CN:FS:=
 (aM (bC 2 (e2 cu (e2 gF (e2 cw (e2 cw (eV 0) (e2 gF (aT 7919) (eV 1))) (aT 1)) (aT 48271)) (aT 2147483647)))
 (bD (e2 cu (e2 gF (eV 2) (e2 cw (e2 kG (eV 2) (aT 1009)) (aT 69621))) (aT 2147483647))))
def mJ:List D->Option D:=c9 2 1 CN
def Di:En->Option MO:=
 (pI (bC 1 (eF nI (aC (eV 0) (aC (aT 0) aN)))) (vI [(Str.ofString "script"),(Str.ofString "way"),(Str.ofString "left"),(Str.ofString "at"),(Str.ofString "number"),(Str.ofString "k")] (aC (eV 0) (aC (e2 cu (eV 1) (aT 2)) (aC (aT 0) (aC (aT 1) (aC (eV 1) (aC (aT 0) aN))))))))
def sU:List D->Option MO:=nJ 1 1 Di
abbrev wj:FS:=
 (aM (lL 0 (Str.ofString "left") (eF j_ (aC (e2 bK (fX 0 (Str.ofString "script")) (fX 0 (Str.ofString "at"))) aN)))
 (lL 0 (Str.ofString "at") (e2 cw (fX 0 (Str.ofString "at")) (aT 1))))
abbrev mH:FT:=
 (b_ (cz (fX 0 (Str.ofString "way")) (aT 1)) (b_ (cz (fX 0 (Str.ofString "left")) (aT 0)) (tB (e2 hZ (fX 0 (Str.ofString "at")) (eF fO (aC (fX 0 (Str.ofString "script")) aN))))))
def tI:FS:=
 (aM (rX (λ _=>200) mH
 wj)
 (aM (bP (tB (e2 kj (fX 0 (Str.ofString "left")) (aT 0)))
 (aM (bC 2 (e2 cu (fX 0 (Str.ofString "left")) (aT 1000003)))
 (aM (lL 0 (Str.ofString "left") (e2 kG (fX 0 (Str.ofString "left")) (aT 1000003)))
 (bD (eV 2))))
 sN)
 (aM (lL 0 (Str.ofString "k") (e2 cw (fX 0 (Str.ofString "k")) (aT 1)))
 (aM (bC 1 (e2 cw (fX 0 (Str.ofString "number")) (eF nI (aC (fX 0 (Str.ofString "script")) (aC (fX 0 (Str.ofString "k")) aN)))))
 (aM (lL 0 (Str.ofString "number") (eF mJ (aC (eV 1) (aC (fX 0 (Str.ofString "k")) aN))))
 (bD (eF mJ (aC (fX 0 (Str.ofString "number")) (aC (aT 7) aN)))))))))
def cC:MO->List D->Option (D×MO):=iD 0 2 tI
abbrev Ci:FS:=
 (bC 2 (e2 cw (eV 2) (e2 bK (eV 1) (e2 cu (cv 0 cC aN) (aT 26)))))
def Dz:FS:=
 (aM (bC 1 (bV "abcdefghijklmnopqrstuvwxyz"))
 (aM (bC 2 (bV ""))
 (aM (lX (gN 3) (l7 (e2 cw (aT 1) (e2 cu (cv 0 cC aN) (aT 8)))) Ci)
 (aM (bC 4 (e2 cu (cv 0 cC aN) (eF fO (aC (eV 2) aN))))
 (bD (iT [2,4] (bV "abcdefghz") dA (e2 cw (e2 cw (gQ (eV 1) oN (oS (eV 2))) (eV 0)) (gQ (eV 1) (oS (e2 cw (eV 2) (aT 1))) oN))))))))
def tr:MO->List D->Option (D×MO):=iD 0 4 Dz
def fK:FS:=
 (aM (bC 2 (aP 0 0))
 (aM (bC 3 (aP 0 3))
 (aM (sE [4,5,6] (eV 1))
 (aM (bP (b_ (cz (eV 2) (bV "time")) (fq (tB (e2 hZ (eV 4) (aP 3 0))) (b_ (tB (e2 fU (aP 3 1) (eC .non))) (tB (e2 pP (eV 4) (aP 3 1))))))
 (bD (eC .non))
 sN)
 (aM (bP (fq (b_ (cz (eV 2) (bV "only")) (tB (e2 r4 (eV 5) (eV 3)))) (b_ (cz (eV 2) (bV "but")) (tB (e2 jJ (eV 5) (eV 3)))))
 (bD (eC .non))
 sN)
 (aM (bP (b_ (cz (eV 2) (bV "span")) (b_ (tB (e2 fU (aP 3 0) (eC .non))) (tB (e2 hZ (eV 6) (aP 3 0)))))
 (bD (eC .non))
 sN)
 (aM (bP (b_ (cz (eV 2) (bV "span")) (b_ (tB (e2 fU (aP 3 1) (eC .non))) (tB (e2 kj (eV 6) (aP 3 1)))))
 (bD (eC .non))
 sN)
 (aM (bP (b_ (cz (eV 2) (bV "rest")) (tB (e2 gW (e2 cu (eV 6) (aP 3 0)) (aP 3 1))))
 (bD (eC .non))
 sN)
 (aM (bP (cz (eV 2) (bV "turn"))
 (bD (bZ (aC (eV 4) (aC (eV 5) (aC (e2 cw (e2 gF (aP 3 0) (eV 6)) (aP 3 1)) aN)))))
 sN)
 (aM (bP (cz (eV 2) (bV "later"))
 (bD (bZ (aC (e2 cw (eV 4) (aP 3 0)) (aC (eV 5) (aC (eV 6) aN)))))
 sN)
 (aM (bP (cz (eV 2) (bV "put"))
 (bD (bZ (aC (eV 4) (aC (BA (eV 3) (eV 5) (eV 5)) (aC (eV 6) aN)))))
 sN)
 (bD (eV 1)))))))))))))
def eM:List D->Option D:=c9 2 5 fK
abbrev B7:FS:=
 (aM (bC 5 (sj [3] 3 0 (eV 1) (tB (pq true (eV 0) 1)) (eV 0)))
 (iR 3 (e2 bK (eV 5) (e2 cu (cv 0 cC aN) (eF fO (aC (eV 5) aN))))))
def C4:FS:=
 (aM (lA 3 (sv aN))
 (aM (lX (gN 4) (l7 (eV 2)) B7)
 (i8 3 (bD (eV 3)))))
def nG:MO->List D->Option (D×MO):=iD 2 3 C4
def JX:FS:=
 (aM (bC 1 (e2 fR (e2 cu (cv 0 cC aN) (aT 41)) (aT 20)))
 (aM (bP (cz (e2 cu (cv 0 cC aN) (aT 5)) (aT 1))
 (bC 1 (e2 gF (eV 1) (e2 vt (aT 10) (aT 10))))
 sN)
 (aM (bC 2 (e2 cw (eV 1) (e2 cu (cv 0 cC aN) (aT 40))))
 (aM (bP (cz (e2 cu (cv 0 cC aN) (aT 4)) (aT 1))
 (bC 2 (eC .non))
 sN)
 (aM (bP (cz (e2 cu (cv 0 cC aN) (aT 4)) (aT 1))
 (bC 1 (eC .non))
 sN)
 (bD (bZ (aC (eV 1) (aC (eV 2) aN)))))))))
def nt:MO->List D->Option (D×MO):=iD 0 2 JX
def V_:FS:=
 (aM (bP (cz (eV 1) (bV "time"))
 (aM (bC 6 (e2 cu (cv 0 cC aN) (aT 40)))
 (aM (bC 7 (e2 cw (e2 cw (eV 6) (aT 1)) (e2 cu (cv 0 cC aN) (aT 40))))
 (aM (bP (cz (e2 cu (cv 0 cC aN) (aT 3)) (aT 1))
 (bC 7 (eC .non))
 sN)
 (bD (bZ (aC (bV "time") (aC (eV 2) (aC (eV 3) (aC (bZ (aC (eV 6) (aC (eV 7) aN))) aN)))))))))
 sN)
 (aM (bP (fq (cz (eV 1) (bV "only")) (cz (eV 1) (bV "but")))
 (bD (bZ (aC (eV 1) (aC (eV 2) (aC (eV 3) (aC (eF iV (aC (cv 0 nG (aC (eV 4) (aC (e2 cw (aT 1) (e2 cu (cv 0 cC aN) (aT 8))) aN))) aN)) aN))))))
 sN)
 (aM (bP (cz (eV 1) (bV "span"))
 (bD (bZ (aC (bV "span") (aC (eV 2) (aC (eV 3) (aC (cv 0 nt aN) aN))))))
 sN)
 (aM (bP (cz (eV 1) (bV "rest"))
 (aM (bC 8 (e2 cw (aT 2) (e2 cu (cv 0 cC aN) (e2 bK (eK (aC (aT 4) (aC (aT 4) (aC (aT 999) aN)))) (e2 cu (cv 0 cC aN) (aT 3))))))
 (bD (bZ (aC (bV "rest") (aC (eV 2) (aC (eV 3) (aC (bZ (aC (eV 8) (aC (e2 cu (cv 0 cC aN) (eV 8)) aN))) aN)))))))
 sN)
 (aM (bP (cz (eV 1) (bV "turn"))
 (aM (bC 9 (e2 cw (aT 1) (e2 cu (cv 0 cC aN) (e2 bK (eK (aC (aT 3) (aC (aT 3) (aC (aT 1000) aN)))) (e2 cu (cv 0 cC aN) (aT 3))))))
 (aM (bP (cz (e2 cu (cv 0 cC aN) (aT 2)) (aT 1))
 (bC 9 (e2 fR (aT 0) (eV 9)))
 sN)
 (bD (bZ (aC (bV "turn") (aC (eV 2) (aC (eV 3) (aC (bZ (aC (eV 9) (aC (e2 fR (e2 cu (cv 0 cC aN) (aT 31)) (aT 15)) aN))) aN))))))))
 sN)
 (aM (bP (cz (eV 1) (bV "later"))
 (bD (bZ (aC (bV "later") (aC (eV 2) (aC (eV 3) (aC (bZ (aC (e2 cu (cv 0 cC aN) (e2 bK (eK (aC (aT 20) (aC (aT 20) (aC (aT 1000000) aN)))) (e2 cu (cv 0 cC aN) (aT 3)))) aN)) aN))))))
 sN)
 (aM (bC 5 (cv 0 nG (aC (eV 4) (aC (e2 cw (aT 1) (e2 cu (cv 0 cC aN) (aT 4))) aN))))
 (bD (bZ (aC (bV "put") (aC (eV 2) (aC (eV 3) (aC (eF iV (aC (sj [4,0] 0 1 (eV 5) dA (bZ (aC (eV 0) (aC (e2 bK (eV 1) (e2 cu (cv 2 cC aN) (aT 9))) aN)))) aN)) aN)))))))))))))
def pK:MO->List D->Option (D×MO):=iD 4 5 V_
abbrev si:FS:=
 (aM (bC 9 (e2 bK (eK (aC (eC .non) (aC (e2 cw (e2 cw (eV 6) (e2 gF (aT 4) (eV 8))) (aT 1)) aN))) (eF ml (aC (e2 kj (eV 8) (aT 0)) aN))))
 (aM (bC 10 (e2 bK (eK (aC (eC .non) (aC (e2 cw (e2 cw (eV 6) (e2 gF (aT 4) (eV 8))) (aT 4)) aN))) (eF ml (aC (e2 hZ (e2 cw (eV 8) (aT 1)) (eV 5)) aN))))
 (aM (bC 11 (e2 bK (eK (aC (aT 0) (aC (e2 gF (e2 cw (eF j_ (aC (eV 6) aN)) (aT 1)) (eV 8)) aN))) (eF ml (aC (e2 kj (eV 8) (aT 0)) aN))))
 (aM (bC 12 (e2 bK (eK (aC (eC .non) (aC (e2 gF (e2 cw (eF j_ (aC (eV 6) aN)) (aT 1)) (e2 cw (eV 8) (aT 1))) aN))) (eF ml (aC (e2 hZ (e2 cw (eV 8) (aT 1)) (eV 5)) aN))))
 (bP (cz (eV 4) (aT 0))
 (iR 7 (bZ (aC (bV "rest") (aC (e2 bK (eV 1) (eV 8)) (aC (bZ (aC (eV 2) aN)) (aC (bZ (aC (e2 cw (eV 5) (e2 cu (eF j_ (aC (eV 6) aN)) (aT 4))) (aC (eV 8) aN))) aN))))))
 (bP (b_ (cz (eV 4) (aT 1)) (tB (e2 hZ (e2 cw (eV 8) (aT 1)) (eV 5))))
 (iR 7 (bZ (aC (bV "only") (aC (e2 bK (eV 1) (eV 8)) (aC (bZ (aC (eV 2) aN)) (aC (bZ (aC (e2 bK (eV 3) (eV 8)) aN)) aN))))))
 (bP (cz (eV 4) (aT 1))
 (iR 7 (bZ (aC (bV "but") (aC (e2 bK (eV 1) (eV 8)) (aC (bZ (aC (eV 2) aN)) (aC (eF iV (aC (gQ (eV 3) oN (oS (eV 8))) aN)) aN))))))
 (bP (cz (eV 4) (aT 2))
 (iR 7 (bZ (aC (bV "span") (aC (e2 bK (eV 1) (eV 8)) (aC (bZ (aC (eV 2) aN)) (aC (bZ (aC (eV 9) (aC (eV 10) aN))) aN))))))
 (iR 7 (bZ (aC (bV "time") (aC (e2 bK (eV 1) (eV 8)) (aC (bZ (aC (eV 2) aN)) (aC (bZ (aC (eV 11) (aC (eV 12) aN))) aN))))))))))))))
def C5:En->Option (List D×MO):=
 (mX (bC 4 (e2 cu (cv 0 cC aN) (aT 4)))
 (mX (bC 5 (e2 cw (aT 2) (e2 cu (cv 0 cC aN) (aT 3))))
 (mX (bC 6 (e2 fR (e2 cu (cv 0 cC aN) (aT 31)) (aT 10)))
 (mX (lA 7 (sv aN))
 (mX (lX (gN 8) (l7 (eV 5)) si)
 (yQ 7))))))
def sY:MO->List D->Option (List D×MO):=sD 3 9 C5
def Kn:FS:=
 (aM (Cr 5 0 sY (aC (eV 1) (aC (eV 2) (aC (eV 4) aN))))
 (aM (lA 6 (nQ (pj [] 5 dA (aP 0 1))))
 (aM (bC 7 (e2 cu (cv 0 cC aN) (yN 6)))
 (aM (bC 8 (e2 bK (eK (aC (bV "turn") (aC (bV "later") (aC (bV "put") aN)))) (e2 cu (cv 0 cC aN) (aT 3))))
 (aM (iR 5 (cv 0 pK (aC (eV 8) (aC (aP 1 5) (aC (bZ (aC (Bl 6 (eV 7)) aN)) (aC (eV 4) aN))))))
 (aM (Bi 6 (eV 7) (aP 1 5))
 (aM (bC 9 (e2 bK (eV 3) (e2 cu (cv 0 cC aN) (eF fO (aC (eV 3) aN)))))
 (aM (bP (b_ (cz (e2 cu (cv 0 cC aN) (aT 2)) (aT 1)) (tB (e2 gW (eV 9) (eV 2))))
 (iR 6 (eV 9))
 sN)
 (i8 5 (i8 6 (bD (e2 cw (eV 5) (eK (aC (bZ (aC (bV "pour") (aC (aP 1 6) (aC (eF iV (aC (eV 6) aN)) (aC (bZ aN) aN))))) aN))))))))))))))
def pQ:MO->List D->Option (D×MO):=iD 4 5 Kn
abbrev mD:FS:=
 (aM (bC 4 (pj [] 2 dA (aP 0 1)))
 (aM (bC 5 (iT [3] (bV "cdefghi") dA (e2 cw (eV 0) (e2 bK (bV "klmnopq") (eV 1)))))
 (aM (bC 6 (e2 bK (eV 4) (e2 cu (cv 0 cC aN) (eF fO (aC (eV 4) aN)))))
 (aM (bC 7 (e2 cu (cv 0 cC aN) (aT 5)))
 (bP (cz (eV 7) (aT 0))
 (rQ 2 (cv 0 pQ (aC (eV 5) (aC (eV 6) (aC (eV 4) (aC (eV 1) aN))))))
 (bP (b_ (cz (eV 7) (aT 1)) (tB (e2 kj (eF fO (aC (eV 4) aN)) (aT 1))))
 (aM (bC 8 (cv 0 nG (aC (eV 4) (aC (eF pH (aC (eF fO (aC (eV 4) aN)) (aC (e2 cw (aT 2) (e2 cu (cv 0 cC aN) (aT 4))) aN))) aN))))
 (iR 2 (bZ (aC (bV "pour") (aC (aP 5 0) (aC (eF iV (aC (eV 8) aN)) (aC (bZ aN) aN)))))))
 (aM (bC 9 (eK (aC (bV "time") (aC (bV "only") (aC (bV "but") (aC (bV "span") (aC (bV "rest") (aC (bV "turn") (aC (bV "later") (aC (bV "put") aN))))))))))
 (iR 2 (cv 0 pK (aC (e2 bK (eV 9) (e2 cu (cv 0 cC aN) (aT 8))) (aC (aP 5 0) (aC (bZ (aC (eV 6) aN)) (aC (eV 1) aN)))))))))))))
def C6:FS:=
 (aM (lA 2 (nQ (gQ (eK (aC (bZ (aC (bV "in") (aC (bV "a") (aC (bZ aN) (aC (cv 0 nt aN) aN))))) (aC (bZ (aC (bV "in") (aC (bV "b") (aC (bZ aN) (aC (cv 0 nt aN) aN))))) aN))) oN (oS (e2 cw (aT 1) (e2 cu (cv 0 cC aN) (aT 2)))))))
 (aM (lX (gN 3) (l7 (e2 cu (cv 0 cC aN) (aT 4))) mD)
 (i8 2 (bD (eV 2)))))
def pV:MO->List D->Option (D×MO):=iD 1 8 C6
abbrev pW:FS:=
 (Fh 1 3 4 kg (i8 1 (bD (eV 1))))
def CD:FS:=
 (aM (lA 1 (nQ (eF zP (aC (eV 0) aN))))
 (aM (lX (gN 2) (l7 (aT 25)) pW)
 (i8 1 (i8 1 (bD (gQ (eV 1) oN (oS (aT 1))))))))
def pU:List D->Option D:=c9 1 4 CD
abbrev qR:FS:=
 (mM 3 (aP 4 1) (e2 cw (ki 3 (aP 4 1)) (ki 3 (eV 5))))
abbrev nZ:FS:=
 (bP (cz (aP 4 0) (bV "in"))
 (aM (mM 3 (aP 4 1) (eK aN))
 (bP (cz (aP 4 1) (eV 1))
 (mM 3 (aP 4 1) (eK (aC (eV 2) aN)))
 sN))
 (bP (cz (aP 4 0) (bV "pour"))
 (aM (mM 3 (aP 4 1) (eK aN))
 (jM (gN 5) (aP 4 2)
 qR))
 (aM (bC 6 (iT [4] (ki 3 (e2 bK (aP 4 2) (aT 0))) dA (eF eM (aC (eV 1) (aC (eV 0) aN)))))
 (mM 3 (aP 4 1) (iT [] (eV 6) (tB (e2 fU (eV 0) (eC .non))) (eV 0))))))
def F_:En->Option MO:=
 (pI (wt 3)
 (pI (jM (gN 4) (eV 0)
 nZ)
 (vN 3)))
def oG:List D->Option MO:=nJ 3 4 F_
def Ff:FS:=
 (bD (e2 bK (iT [1] (eV 0) (cz (aP 0 1) (eV 1)) (eV 0)) (aT 0)))
def oH:List D->Option D:=c9 2 0 Ff
def oA:FS:=
 (bD (l_ (nB (e2 mx (aP 0 0) (eC .non)) (e2 pP (eV 1) (aP 0 0))) (nB (e2 mx (aP 0 1) (eC .non)) (e2 my (eV 1) (aP 0 1)))))
def lN:List D->Option D:=c9 2 0 oA
def I0:FS:=
 (bD (e2 eQ (e2 jJ (eV 1) (aP 0 1)) (e2 eQ (aP 0 0) (bV "only"))))
def u6:List D->Option D:=c9 2 0 I0
def mL:FS:=
 (aM (bP (fq (b_ (tB (e2 fU (aP 0 0) (eC .non))) (tB (e2 hZ (eV 1) (aP 0 0)))) (b_ (tB (e2 fU (aP 0 1) (eC .non))) (tB (e2 kj (eV 1) (aP 0 1)))))
 (bD (eC (.bl false)))
 sN)
 (bD (e2 eQ (e2 cu (eV 1) (aP 0 2)) (aP 0 3))))
def kP:List D->Option D:=c9 2 0 mL
def ri:FS:=
 (aM (bP (fq (tB (e2 hZ (aP 1 0) (aP 0 1))) (b_ (tB (e2 fU (aP 0 2) (eC .non))) (tB (e2 pP (aP 1 0) (aP 0 2)))))
 (bD (eC (.bl false)))
 sN)
 (bD (l_ (eF u6 (aC (aP 0 0) (aC (aP 1 1) aN))) (eF kP (aC (aP 0 3) (aC (aP 1 2) aN))))))
def kA:List D->Option D:=c9 2 0 ri
def U2:FS:=
 (aM (bC 3 (e2 fR (e2 cw (aP 1 1) (e2 cu (cv 0 cC aN) (aT 5))) (aT 2)))
 (aM (bP (b_ (cz (e2 cu (cv 0 cC aN) (aT 2)) (aT 1)) (tB (e2 fU (aP 1 2) (eC .non))))
 (bC 3 (e2 fR (e2 cw (aP 1 2) (e2 cu (cv 0 cC aN) (aT 5))) (aT 3)))
 sN)
 (aM (bC 4 (aT 0))
 (aM (bC 5 (e2 bK (aP 1 3) (e2 cu (cv 0 cC aN) (aT 2))))
 (aM (bP (tB (e2 fU (eV 5) (eC .non)))
 (bC 4 (eV 5))
 sN)
 (aM (bC 4 (e2 fR (e2 cw (eV 4) (e2 cu (cv 0 cC aN) (aT 13))) (aT 6)))
 (bD (bZ (aC (eF lC (aC (eV 3) (aC (aT 0) aN))) (aC (e2 bK (e2 cw (eV 2) (eK (aC (bV "q") aN))) (e2 cu (cv 0 cC aN) (aT 10))) (aC (eV 4) aN)))))))))))
def qX:MO->List D->Option (D×MO):=iD 2 3 U2
abbrev wG:FS:=
 (aM (bP (fq (eH (tV (sL .tuple (eV 3)))) (tB (e2 gW (eF fO (aC (eV 3) aN)) (aT 2))))
 (bD (eC (.bl false)))
 sN)
 (aM (bC 4 (eF oH (aC (eV 0) (aC (aP 3 0) aN))))
 (bP (fq (tB (e2 gW (aP 4 0) (bV "in"))) (eH (tV (eF mF (aC (e2 bK (aP 3 1) (aT 3)) (aC (eF fj (aC (e2 bK (aP 4 3) (aT 0)) (aC (e2 bK (aP 4 3) (aT 1)) (aC (aT 1) (aC (aT 0) aN))))) aN))))))
 (bD (eC (.bl false)))
 sN)))
def xo:FS:=
 (aM (bP (fq (eH (tV (sL .list (eV 2)))) (cz (eV 2) (eK aN)))
 (bD (eC (.bl false)))
 sN)
 (aM (jM (gN 3) (eV 2)
 wG)
 (aM (bP (cz (aP 1 0) (bV "in"))
 (bD (e2 eQ (eV 2) (eK (aC (bZ (aC (aP 1 1) (aC (bZ (aC (bZ (aC (bV "but") (aC (bZ aN) aN))) (aC (aT 0) (aC (eC .non) (aC (eF fj (aC (e2 bK (aP 1 3) (aT 0)) (aC (e2 bK (aP 1 3) (aT 1)) (aC (aT 1) (aC (aT 0) aN))))) aN))))) aN))) aN))))
 sN)
 (bD (eC (.bl true))))))
def qF:List D->Option D:=c9 3 2 xo
abbrev qq:FS:=
 (bC 2 (e2 cw (eV 2) (e2 pO (eV 1) (eV 3))))
abbrev tL:FS:=
 (bC 4 (e2 cw (eV 4) (aT 1)))
abbrev nE:FT:=
 (b_ (tB (e2 hZ (eV 4) (eF fO (aC (eV 2) aN)))) (fq (tB (e2 gW (e2 bK (e2 bK (eV 2) (eV 4)) (aT 0)) (eV 5))) (eH (tV (eF kT (aC (eV 6) (aC (e2 bK (e2 bK (eV 2) (eV 4)) (aT 1)) aN)))))))
abbrev wo:FS:=
 (aM (rX (λ _=>1000) nE
 tL)
 (aM (bP (cz (eV 4) (eF fO (aC (eV 2) aN)))
 (bD (eC (.bl false)))
 sN)
 (bC 4 (e2 cw (eV 4) (aT 1)))))
def uc:FS:=
 (aM (bP (cz (aP 0 0) (bV "in"))
 (bD (eC (.bl true)))
 sN)
 (aM (bC 2 (eK aN))
 (aM (jM (gN 3) (aP 0 2)
 qq)
 (aM (bP (cz (aP 0 0) (bV "pour"))
 (bD (e2 eQ (e2 pO (eV 1) (aP 0 1)) (eV 2)))
 sN)
 (aM (bC 4 (aT 0))
 (aM (jM (gT [5,6]) (e2 pO (eV 1) (aP 0 1))
 wo)
 (bD (eC (.bl true)))))))))
def nO:List D->Option D:=c9 2 5 uc
abbrev uS:FS:=
 (aM (mM 4 (aP 5 1) (eF iE (aC (eV 3) (aC (aP 5 1) aN))))
 (bP (fq (eH (tV (eF qF (aC (eV 3) (aC (eV 5) (aC (ki 4 (aP 5 1)) aN)))))) (eH (tV (Bz 4 (eF nO (aC (eV 5) (aC (eV 4) aN)))))))
 (bD (eC (.bl false)))
 sN))
abbrev yE:FS:=
 (aM (bC 18 (iT [11,13,14,15] (ki 4 (eV 16)) (b_ (cz (aP 0 0) (eV 1)) (tV (eF kA (aC (aP 0 1) (aC (bZ (aC (eV 2) (aC (eV 3) (aC (eV 4) aN)))) aN))))) (eV 0)))
 (bP (tB (e2 gW (eF fO (aC (eV 18) aN)) (eF fO (aC (eV 17) aN))))
 (bD (eC (.bl false)))
 sN))
abbrev Aa:FS:=
 (aM (bC 7 (e2 bK (e2 bK (eV 3) (e2 cu (cv 1 cC aN) (eF fO (aC (eV 3) aN)))) (aT 1)))
 (aM (sE [11,12] (e2 bK (ki 4 (eV 7)) (e2 cu (cv 1 cC aN) (eF fO (aC (ki 4 (eV 7)) aN)))))
 (aM (bC 8 (e2 bK (eF oH (aC (eV 3) (aC (eV 11) aN))) (aT 3)))
 (aM (sE [13,14,15] (cv 1 qX (aC (eV 12) (aC (eV 2) aN))))
 (bP (tV (eF lN (aC (eV 8) (aC (eV 15) aN))))
 (By (gT [16,17]) (BU oG (aC (eV 3) (aC (eV 11) (aC (bZ (aC (eV 13) (aC (eV 14) (aC (eV 15) aN)))) aN))))
 yE)
 sN)))))
abbrev vn:FS:=
 (aM (Bw 9 iE (aC (eV 3) (aC (aP 5 1) aN)))
 (aM (bC 10 (BL 9))
 (aM (iR 9 (bZ (aC (bV "a") (aC (bZ (aC (bZ (aC (bV "but") (aC (bZ aN) aN))) (aC (aT 0) (aC (eC .non) (aC (bZ (aC (aT 0) (aC (aT 0) (aC (aT 1) (aC (aT 0) aN))))) aN))))) aN))))
 (bP (fq (tB (e2 gW (eV 10) (ki 4 (aP 5 1)))) (tB (e2 gW (eF iE (aC (eV 3) (aC (aP 5 1) aN))) (eV 10))))
 (bD (eC (.bl false)))
 sN))))
def IL:FS:=
 (aM (A5 1 sU (aC (eV 0) aN))
 (aM (bC 2 (cv 1 tr aN))
 (aM (bC 3 (eF pU (aC (cv 1 pV (aC (eV 2) aN)) aN)))
 (aM (wt 4)
 (aM (jM (gN 5) (eV 3)
 uS)
 (aM (lX (gN 6) (l7 (aT 30)) Aa)
 (aM (jM (gN 5) (eV 3)
 vn)
 (bD (eC (.bl true))))))))))
def o_:List D->Option D:=c9 1 18 IL
end
open PySem.Spec PyProof.Rows L2
noncomputable def top(i:Nat):Stmt:=PySem.Challenge.pw_latewell_k44_origins_by_ways.main.body.getD i (.Pass ⟨0,0,0,0⟩)
abbrev va:Stmt:=match top 28 with
 |.ClassDef _ _ _ b ..=>b.getD 0 (.Pass ⟨0,0,0,0⟩)
 |s=>s
theorem xG{X:Cx}{k j:Nat}{x:Str}{g:List D→Option D}{A:FA}{p pos:Pos}{e:Expr}{es:List Expr}(G:aK X.prog X.w X.K X.mg X.base k x g)(Z:bJ j X.A)(ha:XA X (e::es) A)(hk:k≤j:=by decide)(hg:Gl X x:=by rfl)(J:cH x:=by decide)(Y:starEach (e::es) X.env=(false,eval e X.env)::starEach es X.env:=by rfl)(q:(backTo pos (starEach es X.env)).any (·.1)=false:=by rfl):XE X (.Call (.Name x p) (e::es) [] pos) (eF g A):=xF G (Z.mono hk) ha hg J Y q
theorem cP{N P:List Str}{sc:Scope}(a:sc.kind=.function:=by rfl)(b:sc.isCoroutine=false:=by rfl)(c:sc.isGenerator=false:=by rfl)(d:N.Nodup:=by decide+kernel)(e:N.take P.length=P:=by rfl)(f:∀x∈P,sc.names.lookup x=some .local\/sc.names.lookup x=some .cell:=by decide+kernel)(g:∀y∈sc.names,y.2≠.free:=by decide+kernel):aG N P sc:=⟨a,b,c,d,e,f,g⟩
theorem iJ{N:List Str}{sc scope:Scope}{x:Str}{aV:List Str}{js:List Nat}(a:scope.kind=.function:=by rfl)(b:sc.kind=.function:=by rfl)(c:∀y∈scope.names,y.2≠.cell:=by decide+kernel)(d:∀y∈scope.names,y.2=.local->scope.names.lookup y.1=some .local:=by decide+kernel)(e:scope.names.lookup x=some .local:=by rfl)(f:∀y∈scope.names,y.2=.free->sc.names.lookup y.1=some .cell:=by decide+kernel)(g:(x::aV).Nodup:=by decide+kernel)(h:aV.length=js.length:=by rfl)(i:∀p∈aV.zip js,N[p.2]?=some p.1/\sc.names.lookup p.1=some .cell/\scope.names.lookup p.1=some .free:=by decide+kernel):eA N sc scope x aV js:=⟨a,b,c,d,e,f,g,h,i⟩
structure jG(w:World)(K:Frag)(mg:Str->Option Value):Prop where
 z_abs:mg "abs"=none
 z_len:mg "len"=none
 z_max:mg "max"=none
 z_min:mg "min"=none
 z_any:mg "any"=none
 z_all:mg "all"=none
 z_range:mg "range"=none
 z_isinstance:mg "isinstance"=none
 z_int:mg "int"=none
 z_bool:mg "bool"=none
 z_str:mg "str"=none
 z_tuple:mg "tuple"=none
 z_list:mg "list"=none
 z_sorted:mg "sorted"=none
 z_dict:mg "dict"=none
 z_set:mg "set"=none
 z_sum:mg "sum"=none
 z_zip:mg "zip"=none
 z_enumerate:mg "enumerate"=none
 z_reversed:mg "reversed"=none
 c_EVERY_KEY:∃a,mg "EVERY_KEY"=some (.ref a)∧k_ K (.tup [(.str "but"),(.tup [])]) (.ref a)
 c_EVERY_VALUE:∃a,mg "EVERY_VALUE"=some (.ref a)∧k_ K (.tup [.non,.non,(.int 1),(.int 0)]) (.ref a)
 c_CHAINS:∃a,mg "CHAINS"=some (.ref a)∧k_ K (.tup [(.str "in"),(.str "time"),(.str "only"),(.str "but"),(.str "span"),(.str "rest"),(.str "turn"),(.str "later"),(.str "put"),(.str "pour")]) (.ref a)
 xn:∃c0 c2 fI fd,Mo K mg va c0 c2 fI fd
 kl:xD K
structure Pl(e:Expr):Prop where
 st:∀es env,starEach (e::es) env=(false,eval e env)::starEach es env
 sw:∀t l env,swapsWith e t l env=pure false
 im:∀op,behindInMarks op e=false
 ix:uJ e
noncomputable def kW:Expr->Bool
 |.Starred .. | .ListComp .. | .SetComp .. | .DictComp .. | .Set .. | .Slice ..=>false
 |_=>true
theorem kJ(h:kW e=true):Pl e:=by cases e<;>first|exact⟨λ _ _=>rfl,λ _ _ _=>rfl,λ _=>rfl,λ _ _=>rfl⟩|cases h
noncomputable abbrev oq:=Str×((List D->Option D)⊕(MO->List D->Option (D×MO)))
def Um(X:Cx):oq->Prop
 |(x,.inl g)=>∃k,aK X.prog X.w X.K X.mg X.base k x g/\bJ k X.A
 |(x,.inr g)=>∃k,dh X.prog X.w X.K X.mg X.base k x g/\bJ k X.A
structure Ox(N:List Str)(sc:Scope)(C:List oq)(X:Cx):Prop where
 n:X.N=N
 s:X.env.scope=sc
 ca:X.calm=true
 u:X.A.units+64<cLine
 t:jG X.w X.K X.mg
 c:∀c∈C,Um X c
noncomputable def pZ:(N:List Str)->(x:Str)->Option {i:Nat//N[i]?=some x}
 |[],_=>none
 |y::r,x=>if h:y=x then some ⟨0,by rw[h];rfl⟩else(pZ r x).map λ i=>⟨i.1+1,i.2⟩
def JT:(C:List oq)->(x:Str)->Option {s:(List D->Option D)⊕(MO->List D->Option (D×MO))//(x,s)∈C}
 |[],_=>none
 |(y,s)::r,x=>if h:y=x then some ⟨s,h▸.head _⟩else(JT r x).map λ d=>⟨d.1,.tail _ d.2⟩
def We:(op:Operator)->Option {f:D->D->Option D//∀X,l5 X op f}
 |.Add=>some ⟨cw,λ _=>B3⟩
 |.Sub=>some ⟨fR,λ _=>Mc⟩
 |.Mult=>some ⟨gF,λ _=>OE⟩
 |.FloorDiv=>some ⟨kG,λ _=>R1⟩
 |.Mod=>some ⟨cu,λ _=>v9⟩
 |.Pow=>some ⟨vt,λ _=>Uy⟩
 |_=>none
def vT:(op:CmpOp)->Option {f:D->D->Option D//∀X:Cx,X.A.units+64<cLine->hF X op f}
 |.Is=>some ⟨mx,λ _ _=>Uu⟩
 |.IsNot=>some ⟨fU,λ _ _=>Ek⟩
 |.Lt=>some ⟨hZ,λ _ _=>Uw⟩
 |.LtE=>some ⟨my,λ _ _=>Uv⟩
 |.Gt=>some ⟨kj,λ _ _=>Ut⟩
 |.Eq=>some ⟨eQ,λ _=>nr⟩
 |.GtE=>some ⟨pP,λ _ _=>Us⟩
 |.NotIn=>some ⟨r4,λ _ _=>Vz⟩
 |.NotEq=>some ⟨gW,λ _=>IZ⟩
 |.In=>some ⟨jJ,λ _ _=>AL⟩
section
variable(N:List Str)(sc:Scope)(C:List oq)
abbrev RE(e:Expr):={F:FE//∀X,Ox N sc C X->XE X e F}
abbrev RT(e:Expr):={F:FT//∀X,Ox N sc C X->XT X e F}
abbrev RW(e:Expr):={F:FT//∀X,Ox N sc C X->XW X e F}
abbrev RO(e:Option Expr):={F:FO//∀X,Ox N sc C X->XO X e F}
abbrev RA(es:List Expr):={F:FA//∀X,Ox N sc C X->XA X es F/\∀pos env,(backTo pos (starEach es env)).any (·.1)=false}
abbrev Gk(x:Str):Prop:=sc.names.lookup x=some .globalImplicit∧cH x
abbrev Vk(x:Str):Prop:=(sc.names.lookup x=some .local∨sc.names.lookup x=some .cell∨sc.names.lookup x=some .free)∧cH x∧er x
variable{N sc C}
theorem Ox.vv(k:Ox N sc C X)(i:{i:Nat//N[i]?=some x})(h:Vk sc x):XE X (.Name x pos) (eV i.1):=xv i.1 (k.n▸i.2) (k.s▸h.1) h.2.1 h.2.2
theorem Ox.gl(k:Ox N sc C X)(h:Gk sc x):Gl X x:=by unfold Gl Env.kindOf;rw[k.s];exact h.1
theorem Ox.ff(k:Ox N sc C X)(m:(x,.inl g)∈C)(J:Gk sc x)(Z:XA X (e::es) A)(Y:Pl e)(hs:∀pos env,(backTo pos (starEach (e::es) env)).any (·.1)=false):XE X (.Call (.Name x p) (e::es) [] pos) (eF g A):=by obtain⟨j,G,r⟩:=k.c _ m;have q:=hs pos X.env;rw[Y.st]at q;exact xF G r Z (k.gl J) J.2 (Y.st ..) q
theorem Ox.bb(k:Ox N sc C X)(m:(x,.inr g)∈C)(q:Gk sc x)(i:{i:Nat//N[i]?=some y})(h:Vk sc y)(J:XA X es A)(Y:∀pos env,(backTo pos (starEach es env)).any (·.1)=false):XE X (.Call (.Name x p) (.Name y py::es) [] pos) (cv i.1 g A):=by obtain⟨j,G,r⟩:=k.c _ m;exact KR i.1 G r J (k.n▸i.2) (k.gl q) (k.s▸h.1) q.2 h.2.1 h.2.2 (Y ..)
def IX(X:Cx)(x:Str)(g:List D→Option D):Prop:=X.mg x=none∧x≠"__name__"∧((∃i,jF X (.builtin i) g∧bootBuiltins x=some (.builtin i))∨∃i,jF X (.type i) g∧bootBuiltins x=some (.type i))
theorem Ox.kk(k:Ox N sc C X)(b:IX X x g)(J:Gk sc x)(Z:XA X (e::es) A)(Y:Pl e)(hs:∀pos env,(backTo pos (starEach (e::es) env)).any (·.1)=false):XE X (.Call (.Name x p) (e::es) [] pos) (eF g A):=by
 obtain⟨m,n,b⟩:=b;have q:=hs pos X.env;rw[Y.st]at q;rcases b with⟨i,o,v⟩|⟨i,o,v⟩
 .exact xB o (k.gl J) m v Z n J.2 (Y.st ..) q
 .exact tR o (k.gl J) m v Z n J.2 (Y.st ..) q
def SX(x:Str):Option {g:List D->Option D//∀X:Cx,jG X.w X.K X.mg->X.calm=true->IX X x g}:=
 if h:x="len" then some ⟨fO,λ X t c=>h▸⟨t.z_len,by decide,.inl ⟨_,J3,PySem.boot_len⟩⟩⟩else
 if h:x="tuple" then some ⟨iV,λ X t c=>h▸⟨t.z_tuple,by decide,.inr ⟨_,sS,boot_tuple⟩⟩⟩else
 if h:x="max" then some ⟨lC,λ X t c=>h▸⟨t.z_max,by decide,.inl ⟨_,(OS c),boot_max⟩⟩⟩else
 if h:x="min" then some ⟨pH,λ X t c=>h▸⟨t.z_min,by decide,.inl ⟨_,(ML c),boot_min⟩⟩⟩else
 if h:x="abs" then some ⟨j_,λ X t c=>h▸⟨t.z_abs,by decide,.inl ⟨_,Ld,boot_abs⟩⟩⟩else
 if h:x="int" then some ⟨ml,λ X t c=>h▸⟨t.z_int,by decide,.inr ⟨_,L8,boot_int⟩⟩⟩else
 if h:x="dict" then some ⟨m_,λ X t c=>h▸⟨t.z_dict,by decide,.inr ⟨_,(ND c),boot_dict⟩⟩⟩else
 if h:x="sorted" then some ⟨mQ,λ X t c=>h▸⟨t.z_sorted,by decide,.inl ⟨_,Lm,boot_sorted⟩⟩⟩else
 none
def Vx(x:Str)(p:Pos):Option (RE N sc C (.Name x p)):=
 if h:x="EVERY_KEY"∧Gk sc x then some ⟨eC (.tup [(.str "but"),(.tup [])]),λ X k=>uQ (h.1▸k.t.c_EVERY_KEY) (k.gl h.2) h.2.2⟩else
 if h:x="EVERY_VALUE"∧Gk sc x then some ⟨eC (.tup [.non,.non,(.int 1),(.int 0)]),λ X k=>uQ (h.1▸k.t.c_EVERY_VALUE) (k.gl h.2) h.2.2⟩else
 if h:x="CHAINS"∧Gk sc x then some ⟨eC (.tup [(.str "in"),(.str "time"),(.str "only"),(.str "but"),(.str "span"),(.str "rest"),(.str "turn"),(.str "later"),(.str "put"),(.str "pour")]),λ X k=>uQ (h.1▸k.t.c_CHAINS) (k.gl h.2) h.2.2⟩else
 none
abbrev Sx(X:Cx):Prop:=Ox N sc C X/\X.N.Nodup/\∀x,X.fn x=true
noncomputable abbrev kC{α:Type}(P:Cx->Prop)(Q:Cx->α->Prop):=Option {F:α//∀X,P X->Q X F}
variable{α β γ δ:Type}
def g8(x:kC P Q)(f:α->β)(h:∀{X}{F:α},P X->Q X F->S X (f F)):kC P S:=x.map λ F=>⟨f F.1,λ X k=>h k (F.2 X k)⟩
def jP(x:kC P Q)(y:kC P R)(f:α->β->γ)(h:∀{X}{F:α}{G:β},P X->Q X F->R X G->S X (f F G)):kC P S:=x.bind λ F=>g8 y (f F.1) λ k=>h k (F.2 _ k)
def Cq(x:kC P Q)(y:kC P R)(z:kC P S)(f:α->β->γ->δ)(h:∀{X}{F:α}{G:β}{σ:γ},P X->Q X F->R X G->S X σ->ρ X (f F G σ)):kC P ρ:=x.bind λ F=>jP y z (f F.1) λ k=>h k (F.2 _ k)
mutual
noncomputable def cE:Nat->(e:Expr)->Option (RE N sc C e)
 |n+1,.Name x p=>match pZ N x with
  |some i=>if h:Vk sc x then some ⟨eV i.1,λ _ k=>k.vv i h⟩else none
  |none=>Vx x p
 |n+1,.Constant (.int i) _ _=>some ⟨eC (.int i),λ _ _=>eU⟩
 |n+1,.Constant (.str i) _ _=>some ⟨eC (.str i),λ _ _=>mz⟩
 |n+1,.Constant (.bool i) _ _=>some ⟨eC (.bl i),λ _ _=>WD⟩
 |n+1,.Constant .none _ _=>some ⟨eC .non,λ _ _=>J4⟩
 |n+1,.BinOp a op b _=>(We op).bind λ o=>jP (cE n a) (cE n b) (e2 o.1) λ _=>xb (o.2 _)
 |n+1,.Compare a [op] [b] _=>(vT op).bind λ o=>if h:kW b=true then jP (cE n a) (cE n b) (e2 o.1) λ k x y=>Ea (o.2 _ k.u) x y ((kJ h).im _)else none
 |n+1,.IfExp c a b _=>Cq (cT n c) (cE n a) (cE n b) gX λ _=>WH
 |n+1,.UnaryOp .USub a _=>g8 (cE n a) (e1 rP) λ _=>T_
 |n+1,.BoolOp _ [a] _=>g8 (cE n a) id λ _=>SJ
 |n+1,.BoolOp .And (a::b::r) p=>jP (cE n a) (cE n (.BoolOp .And (b::r) p)) l_ λ _=>Ua
 |n+1,.BoolOp .Or (a::b::r) p=>jP (cE n a) (cE n (.BoolOp .Or (b::r) p)) nB λ _=>WK
 |n+1,.Tuple es _ _=>g8 (cA n es) bZ λ _ x=>s_ x.1
 |n+1,.List es _=>g8 (cA n es) eK λ _ x=>uq x.1
 |n+1,.Subscript a (.Slice lo hi none _) _=>Cq (cE n a) (cO n lo) (cO n hi) gQ λ _=>NL
 |n+1,.Subscript (.Name x _) (.Constant (.str s) _ _) _=>(pZ N x).bind λ i=>if h:Vk sc x then some ⟨fX i.1 s,λ X k=>WE i.1 (by have:=k.u;lia) (k.n▸i.2) (k.s▸h.1) h.2.1 h.2.2⟩else none
 |n+1,.Subscript a b _=>if h:kW b=true then jP (cE n a) (cE n b) (e2 bK) λ _ x y=>gr x y (kJ h).ix else none
 |n+1,.Call (.Name x _) es [] _=>match JT C x,es with
  |some ⟨.inl g,m⟩,e::r=>if h:kW e=true/\Gk sc x then g8 (cA n (e::r)) (eF g) λ k a=>k.ff m h.2 a.1 (kJ h.1) a.2 else none
  |some ⟨.inr g,m⟩,.Name y _::r=>(pZ N y).bind λ i=>if h:Gk sc x/\Vk sc y then g8 (cA n r) (cv i.1 g) λ k a=>k.bb m h.1 i h.2 a.1 a.2 else none
  |none,e::r=>(SX x).bind λ b=>if h:kW e=true/\Gk sc x then g8 (cA n (e::r)) (eF b.1) λ k a=>k.kk (b.2 _ k.t k.ca) h.2 a.1 (kJ h.1) a.2 else none
  |_,_=>none
 |_,_=>none
noncomputable def cT:Nat->(e:Expr)->Option (RT N sc C e)
 |n+1,.Compare a [op] [b] _=>(vT op).bind λ o=>if h:kW b=true then jP (cE n a) (cE n b) (λ x y=>tB (e2 o.1 x y)) λ k x y=>xt (o.2 _ k.u) x y ((kJ h).im _)else none
 |n+1,.Compare a [op,op'] [b,m] _=>(vT op).bind λ o=>(vT op').bind λ p=>if h:kW m=true then Cq (cE n a) (cE n b) (cE n m) (λ x y z=>tB (e3 o.1 p.1 x y z)) λ k x y z=>WM (o.2 _ k.u) (p.2 _ k.u) x y z ((kJ h).im _)else none
 |n+1,.BoolOp op l p=>g8 (cW n (.BoolOp op l p)) id λ _=>xw
 |n+1,.UnaryOp .Not a _=>g8 (cT n a) eH λ _=>o7
 |n+1,.Name x p=>g8 (cE n (.Name x p)) tV λ _ x=>lP x λ _=>rfl
 |n+1,.Call f l m p=>g8 (cE n (.Call f l m p)) tV λ _ x=>lP x λ _=>rfl
 |n+1,.Subscript a b p=>g8 (cE n (.Subscript a b p)) tV λ _ x=>lP x λ _=>rfl
 |_,_=>none
noncomputable def cW:Nat->(e:Expr)->Option (RW N sc C e)
 |n+1,.BoolOp .And [a] _=>g8 (cT n a) id λ _=>KO
 |n+1,.BoolOp .Or [a] _=>g8 (cT n a) id λ _=>o8
 |n+1,.BoolOp .And (a::b::r) p=>jP (cT n a) (cW n (.BoolOp .And (b::r) p)) b_ λ _=>Dc
 |n+1,.BoolOp .Or (a::b::r) p=>jP (cT n a) (cW n (.BoolOp .Or (b::r) p)) fq λ _=>o6
 |_,_=>none
noncomputable def cO:Nat->(e:Option Expr)->Option (RO N sc C e)
 |n+1,some e=>g8 (cE n e) oS λ _=>KY
 |n+1,none=>some ⟨oN,λ _ _=>KW⟩
 |_,_=>none
noncomputable def cA:Nat->(es:List Expr)->Option (RA N sc C es)
 |n+1,[]=>some ⟨aN,λ _ _=>⟨fb,λ _ _=>rfl⟩⟩
 |n+1,e::es=>if h:kW e=true then jP (cE n e) (cA n es) aC λ _ x a=>⟨d3 x a.1 ((kJ h).st ..),λ pos env=>by rw[(kJ h).st];exact a.2 pos env⟩else none
 |_,_=>none
noncomputable def cS:Nat->(s:Stmt)->Option {F:FS//∀X,Sx (N:=N) (sc:=sc) (C:=C) X->XS X s F}
 |n+1,.Assign [.Name x _] e _=>(pZ N x).bind λ i=>if h:kW e=true/\(sc.names.lookup x=some .local\/sc.names.lookup x=some .cell)then(cE n e).map λ F=>⟨bC i.1 F.1,λ X k=>mK i.1 k.2.1 (F.2 X k.1) (k.1.n▸i.2) (k.1.s▸h.2) ((kJ h.1).sw ..) (.inl (k.2.2 x))⟩else none
 |n+1,.Assign [.Subscript (.Name x _) (.Constant (.str s) _ _) _] e _=>(pZ N x).bind λ i=>if h:kW e=true/\Vk sc x then(cE n e).map λ F=>⟨lL i.1 s F.1,λ X k=>WG i.1 (by have:=k.1.u;lia) (F.2 X k.1) (k.1.n▸i.2) (k.1.s▸h.2.1) h.2.2.1 h.2.2.2 ((kJ h.1).sw ..)⟩else none
 |n+1,.Return (some e) _=>(cE n e).map λ F=>⟨bD F.1,λ X k=>kQ (F.2 X k.1)⟩
 |n+1,.If c a b _=>(cT n c).bind λ T=>jP (pJ n a) (pJ n b) (bP T.1) λ k=>fz (T.2 _ k.1)
 |_,_=>none
noncomputable def pJ:Nat->(s:List Stmt)->Option {F:FS//∀X,Sx (N:=N) (sc:=sc) (C:=C) X->fJ X s F}
 |n+1,[]=>some ⟨sN,λ _ _=>h_⟩
 |n+1,[s]=>g8 (cS n s) id λ _=>de
 |n+1,s::t::r=>jP (cS n s) (pJ n (t::r)) aM λ _=>bI
 |_,_=>none
end
theorem go{o:kC P R}{F:α}{X:Cx}(k:P X)(h:o.map (·.1)=some F:=by kernel_rfl):R X F:=by
 cases o with
 |none=>cases h
 |some q=>cases h;exact q.2 X k
end
section
variable{P:Program}{w:World}{K:Frag}{mg:Str->Option Value}{base:Heap}
def kO(P:Program)(w:World)(K:Frag)(mg:Str->Option Value)(base:Heap)(j:Nat)(σ:List oq):Prop:=∀c∈σ,match c with
 |(x,.inl g)=>∃k,k<=j/\aK P w K mg base k x g
 |(x,.inr g)=>∃k,k<=j/\dh P w K mg base k x g
theorem c_:kO P w K mg base j []:=λ _ h=>nomatch h
theorem cL(G:aK P w K mg base k x g)(r:kO P w K mg base j σ)(h:k<=j:=by first|decide|lia):kO P w K mg base j ((x,.inl g)::σ):=List.forall_mem_cons.mpr ⟨⟨k,h,G⟩,r⟩
theorem gy(G:dh P w K mg base k x g)(r:kO P w K mg base j σ)(h:k<=j:=by first|decide|lia):kO P w K mg base j ((x,.inr g)::σ):=List.forall_mem_cons.mpr ⟨⟨k,h,G⟩,r⟩
variable{X:Cx}{N:List Str}{sc:Scope}{C σ:List oq}{j:Nat}
theorem vM{ps:List Str}(S:aG N ps sc)(T:jG X.w X.K X.mg)(J:bJ j X.A)(Y:kO X.prog X.w X.K X.mg X.base j σ)(n:X.N=N:=by rfl)(s:X.env.scope=sc:=by rfl)(Z:X.calm=true:=by rfl)(f:∀x,X.fn x=true:=by intro;rfl):Sx (N:=N) (sc:=sc) (C:=σ) X:=
 ⟨⟨n,s,Z,J.units,T,λ c m=>by
  have q:=Y c m;obtain⟨x,g|g⟩:=c
  .obtain⟨k,a,b⟩:=q;exact⟨k,b,J.mono a⟩
  .obtain⟨k,a,b⟩:=q;exact⟨k,b,J.mono a⟩⟩,n▸S.nd,f⟩
theorem kX{D:Addr}(k:Sx (N:=N) (sc:=sc) (C:=C) X):Ox N' (relabel scope X.env) C (df X N' scope s H D fp):=
 ⟨rfl,rfl,k.1.ca,k.1.u,k.1.t,λ c m=>by
  have q:=k.1.c c m;obtain⟨x,g|g⟩:=c<;>exact q⟩
theorem dY(k:Ox N sc C X)(h:(cE (N:=N) (sc:=sc) (C:=C) 99 e).map (·.1)=some F:=by kernel_rfl):XE X e F:=go k h
theorem fo(k:Ox N sc C X)(h:(cT (N:=N) (sc:=sc) (C:=C) 99 e).map (·.1)=some F:=by kernel_rfl):XT X e F:=go k h
theorem h7(k:Ox N sc C X)(h:(cA (N:=N) (sc:=sc) (C:=C) 99 e).map (·.1)=some F:=by kernel_rfl):XA X e F:=(go (R:=λ X F=>XA X e F/\∀pos a,(backTo pos (starEach e a)).any (·.1)=false) k h).1
theorem cM(k:Sx (N:=N) (sc:=sc) (C:=C) X)(h:(cS (N:=N) (sc:=sc) (C:=C) 99 e).map (·.1)=some F:=by kernel_rfl):XS X e F:=go k h
theorem eJ(k:Sx (N:=N) (sc:=sc) (C:=C) X)(h:(pJ (N:=N) (sc:=sc) (C:=C) 99 e).map (·.1)=some F:=by kernel_rfl):fJ X e F:=go k h
def Dn(K:Frag)(mg:Str->Option Value)(x:Str)(st:Stmt)(ps:List Str):Prop:=∃f fd,ic K x x st f fd/\cV K fd ps []/\mg x=some (.ref f)
variable{x:Str}{st:Stmt}{ps:List Str}{n m:Nat}{B:FS}
theorem iA(D:Dn K mg x st ps)(S:aG N ps (aX st))(Z:∀(f:Addr)(q:Value)(A:Around)(outer:List Env)(s:Shared)(H:Hp)(E:XK),bJ j (A.deeper (envOfC x (aX st) s.heap.objs.size f q))->fJ (fS ft P w K mg base N x (aX st) f q A outer s H E).nox (fZ st) B)(J:ps.length=n:=by rfl)(Y:N.length=n+m:=by rfl):aK P w K mg base (j+1) x (c9 n m B):=by obtain⟨f,fd,F,b,h⟩:=D;exact⟨f,fd,ps,B0 F S J Y (Z f),b,F.kp,h⟩
theorem nz(D:Dn K mg x st ps)(S:aG N ps (aX st))(Z:∀(f:Addr)(q:Value)(A:Around)(outer:List Env)(s:Shared)(H:Hp)(E:XK),bJ j (A.deeper (envOfC x (aX st) s.heap.objs.size f q))->fJ (fS ft P w K mg base N x (aX st) f q A outer s H E).nox (fZ st) B)(J:ps.length=n+1:=by rfl)(Y:N.length=n+1+m:=by rfl):dh P w K mg base (j+1) x (iD n m B):=by obtain⟨f,fd,F,b,h⟩:=D;exact⟨f,fd,ps,WT F S J Y (Z f),b,F.kp,h⟩
theorem fg(D:Dn K mg x st ps)(S:aG N ps (aX st))(T:jG w K mg)(Y:kO P w K mg base j σ)(q:ps.length=n:=by rfl)(Z:N.length=n+m:=by rfl)(hb:(pJ (N:=N) (sc:=aX st) (C:=σ) 99 (fZ st)).map (·.1)=some B:=by kernel_rfl):aK P w K mg base (j+1) x (c9 n m B):=
 iA D S (λ _ _ _ _ _ _ _ J=>eJ (vM S T J Y) hb) q Z
theorem Kv(D:Dn K mg x st ps)(S:aG N ps (aX st))(T:jG w K mg)(Y:kO P w K mg base j σ)(q:ps.length=n+1:=by rfl)(Z:N.length=n+1+m:=by rfl)(hb:(pJ (N:=N) (sc:=aX st) (C:=σ) 99 (fZ st)).map (·.1)=some B:=by kernel_rfl):dh P w K mg base (j+1) x (iD n m B):=
 nz D S (λ _ _ _ _ _ _ _ J=>eJ (vM S T J Y) hb) q Z
theorem gi(S:aG N ps sc)(T:jG X.w X.K X.mg)(q:bJ j X.A)(J:kO X.prog X.w X.K X.mg X.base j σ)(f:Sx (N:=N) (sc:=sc) (C:=σ) X->fJ X sts B)(n:X.N=N:=by rfl)(s:X.env.scope=sc:=by rfl)(Y:X.calm=true:=by rfl)(h:∀x,X.fn x=true:=by intro;rfl):fJ X sts B:=f (vM S T q J n s Y h)
theorem Wh{B:En->Option (List D×MO)}(S:aG N ps sc)(T:jG X.w X.K X.mg)(q:bJ j X.A)(J:kO X.prog X.w X.K X.mg X.base j σ)(f:Sx (N:=N) (sc:=sc) (C:=σ) X->oU X sts B)(n:X.N=N:=by rfl)(s:X.env.scope=sc:=by rfl)(Y:X.calm=true:=by rfl)(h:∀x,X.fn x=true:=by intro;rfl):oU X sts B:=f (vM S T q J n s Y h)
end
section
variable(P:Program){w:World}{K:Frag}{mg:Str->Option Value}(base:Heap)
variable(T:jG w K mg)
variable(Ga:aK P w K mg base 1 "keys_hold" lG)
variable(Gb:aK P w K mg base 3 "keys_meet" p8)
variable(Gc:aK P w K mg base 1 "stretch_made" fj)
variable(Gd:aK P w K mg base 1 "divisor_and_factor" sM)
variable(Ge:aK P w K mg base 5 "box_meet" lH)
variable(Gf:aK P w K mg base 2 "in_box" nW)
variable(Gg:aK P w K mg base 6 "row_back" iS)
variable(Gh:aK P w K mg base 1 "row_named" mI)
variable(Gi:aK P w K mg base 6 "one_comes_twice" nu)
variable(Gj:aK P w K mg base 32 "origins_of" iE)
variable(Gk:aK P w K mg base 1 "_law_cell_at" nI)
variable(Gl:aK P w K mg base 1 "_law_mixed" mJ)
variable(Gm:dh P w K mg base 2 "_law_next" cC)
variable(Gn:dh P w K mg base 3 "_law_bounds" nt)
variable(Go:dh P w K mg base 3 "_law_unlike" nG)
variable(Gp:jT P w K mg base 3 "_law_parted" sY)
variable(Gq:dh P w K mg base 4 "_law_sieve" pK)
variable(Gr:dh P w K mg base 5 "_law_poured" pQ)
variable(Gs:jU P w K mg base 33 "check_works" kg)
variable(Gt:aK P w K mg base 1 "_law_through" eM)
variable(Gu:aK P w K mg base 1 "_law_row" oH)
variable(Gv:aK P w K mg base 4 "stretch_inside" mF)
variable(Gw:aK P w K mg base 6 "box_inside" kT)
variable(Gx:dh P w K mg base 6 "_law_chains" pV)
variable(Gy:iY P w K mg base 2 "_law_draws" sU)
variable(Gz:iY P w K mg base 2 "_law_flows" oG)
variable(GA:aK P w K mg base 2 "_law_has" kA)
variable(GB:aK P w K mg base 34 "_law_let_by" pU)
variable(GC:aK P w K mg base 5 "_law_list_right" qF)
variable(GD:dh P w K mg base 3 "_law_near" qX)
variable(GE:aK P w K mg base 7 "_law_order_right" nO)
variable(GF:dh P w K mg base 3 "_law_pool" tr)
variable(GG:aK P w K mg base 1 "_law_within" lN)
abbrev Ks:Stmt:=top 2
theorem LC:aG ["keys","key"] ["keys","key"] (aX Ks):=cP
abbrev mE:Stmt:=top 3
noncomputable abbrev CI:List Str:=["one","other","names"]
theorem oQ:aG CI ["one","other"] (aX mE):=cP
def Lg(F:Dn K mg "keys_meet" mE ["one","other"]):aK P w K mg base 3 "keys_meet" p8:=
 iA F oQ (λ _ J A outer s H E q=>gi oQ T q (cL Ga c_) λ k=>bI (fz (fo k.1) (de (kQ A3)) h_) (bI (fz (fo k.1) (de (kQ A3)) h_) (bI (mK 2 oQ.nd (tR sS rfl T.z_tuple jw (d3 (tW (sc:=aX mE) rfl rfl (by show eA CI (aX mE) _ "name" ["other"] [1];exact iJ) (dY k.1) (λ _ _ _ _=>(lV (fo (kX k)))) (λ _ _ _ _=>(xv 0))) fb))) (eJ k))))
def Mj(F:Dn K mg "keys_meet" mE ["one","other"]):aK P w K mg base 4 "keys_meet" jO:=
 iA F oQ (λ _ J A outer s H E q=>gi oQ T q (cL Gb (cL Ga c_)) λ k=>bI (fz (fo k.1) (de (kQ (s_ (d3 mz (d3 (tR sS rfl T.z_tuple jw (d3 (Pr T.z_set T.z_sorted (dY k.1) (dY k.1)) fb)) fb))))) h_) (bI (cM k) (bI (mK 2 oQ.nd (tR sS rfl T.z_tuple jw (d3 (tW (sc:=aX mE) rfl rfl (by show eA CI (aX mE) _ "name" ["other"] [1];exact iJ) (dY k.1) (λ _ _ _ _=>(lV (fo (kX k)))) (λ _ _ _ _=>(xv 0))) fb))) (eJ k))))
abbrev DV:Stmt:=top 4
theorem LD:aG ["one","other"] ["one","other"] (aX DV):=cP
abbrev nF:Stmt:=top 5
noncomputable abbrev Cc:List Str:=["keys","table","others","stay","become","names"]
theorem uF:aG Cc ["keys","table"] (aX nF):=cP
def K7(F:Dn K mg "keys_put_back" nF ["keys","table"]):aK P w K mg base 1 "keys_put_back" sO:=
 iA F uF (λ _ J A outer s H E q=>gi uF T q c_ λ k=>bI (cM k) (bI (r_ 3 uF.nd (sc:=aX nF) rfl rfl (by show eA Cc (aX nF) _ "name" ["others"] [2];exact iJ) (dY k.1) (λ _ _ _ _=>(lV (xt (Rq (gc q)) (xv 0) (xv 1)))) (λ _ _ _ _=>(xv 0))) (bI (NN 4 uF.nd (sc:=aX nF) rfl rfl (by show eA Cc (aX nF) _ "key" ["others","keys"] [2,0];exact iJ) (xv 2) (λ _ _ _ _=>(lV (xt AL (Uh (gc q) (xv 1) (xv 0)) (dY (kX k))))) (λ _ _ _ _=>(xv 0))) (eJ k))))
abbrev J8:Stmt:=top 8
theorem LF:aG ["low","high","step","rest","first","last"] ["low","high","step","rest"] (aX J8):=cP
abbrev Kk:Stmt:=top 9
theorem LG:aG ["v","low","high"] ["v","low","high"] (aX Kk):=cP
abbrev Kc:Stmt:=top 10
theorem LH:aG ["one","v"] ["one","v"] (aX Kc):=cP
abbrev Kd:Stmt:=top 11
theorem LI:aG ["one","other"] ["one","other"] (aX Kd):=cP
abbrev Kb:Stmt:=top 12
theorem LJ:aG ["one","other"] ["one","other"] (aX Kb):=cP
abbrev J2:Stmt:=top 13
theorem LK:aG ["one","low","high"] ["one","low","high"] (aX J2):=cP
abbrev sQ:Stmt:=top 14
noncomputable abbrev KH:List Str:=["one","a","b","ends","step"]
theorem xT:aG KH ["one","a","b"] (aX sQ):=cP
def K6(F:Dn K mg "stretch_moved" sQ ["one","a","b"]):aK P w K mg base 2 "stretch_moved" sI:=
 iA F xT (λ _ J A outer s H E q=>gi xT T q (cL Gc c_) λ k=>bI (r_ 3 xT.nd (sc:=aX sQ) rfl rfl (by show eA KH (aX sQ) _ "end" ["b","a"] [2,1];exact iJ) (dY k.1) (λ _ _ _ _=>n7) (λ _ _ _ _=>(dY (kX k)))) (eJ k))
abbrev BW:Stmt:=top 15
theorem DG:aG ["a","m","g","s","other","t","times","less"] ["a","m"] (aX BW):=cP
def Wi(F:Dn K mg "divisor_and_factor" BW ["a","m"]):aK P w K mg base 1 "divisor_and_factor" sM:=
 iA F DG (λ _ J A outer s H E q=>gi DG T q c_ λ k=>bI (cM k) (bI (cM k) (bI (cM k) (bI (cM k) (bI (yR (fo k.1) (eJ k)) (eJ k))))))
abbrev B6:Stmt:=top 16
theorem DH:aG ["one","a","b","found","divisor","away","step","ends","low","high"] ["one","a","b"] (aX B6):=cP
def La(F:Dn K mg "stretch_back" B6 ["one","a","b"]):aK P w K mg base 2 "stretch_back" nh:=
 iA F DH (λ _ J A outer s H E q=>gi DH T q (cL Gd (cL Gc c_)) λ k=>bI (fz (fo k.1) (de (kQ A3)) h_) (eJ k))
abbrev J7:Stmt:=top 17
theorem LL:aG ["one","other","turns"] ["one","other"] (aX J7):=cP
abbrev DD:Stmt:=top 18
theorem LM:aG ["one","other"] ["one","other"] (aX DD):=cP
abbrev KL:Stmt:=top 20
theorem LN:aG ["keys","begin","end","stretch"] ["keys","begin","end","stretch"] (aX KL):=cP
abbrev KJ:Stmt:=top 21
theorem LO:aG ["one","other","keys","stretch"] ["one","other"] (aX KJ):=cP
abbrev Fn:Stmt:=top 22
theorem LP:aG ["one","other"] ["one","other"] (aX Fn):=cP
abbrev Kl:Stmt:=top 23
theorem LQ:aG ["row","word","rest"] ["row"] (aX Kl):=cP
abbrev Kt:Stmt:=top 24
theorem LR:aG ["box","c","end"] ["box","c"] (aX Kt):=cP
abbrev KI:Stmt:=top 25
theorem LS:aG ["row","box","sieve","rest"] ["row","box"] (aX KI):=cP
abbrev Cm:Stmt:=top 31
theorem xU:aG ["works","name","row"] ["works","name"] (aX Cm):=cP
def Mg(F:Dn K mg "row_named" Cm ["works","name"]):aK P w K mg base 1 "row_named" mI:=
 iA F xU (λ _ J A outer s H E q=>gi xU T q c_ λ k=>bI (kM (ey 2 xU.nd) (xv 0) (eJ k)) (eJ k))
abbrev C8:Stmt:=top 33
theorem LU:aG ["row","mark"] ["row","mark"] (aX C8):=cP
abbrev qa:Stmt:=top 35
theorem rn:aG ["works","name","box","row","below","ways","from_name","met"] ["works","name","box"] (aX qa):=cP
theorem Ls(F:Dn K mg "ways_back" qa ["works","name","box"])(T:jG w K mg):aK P w K mg base 7 "ways_back" (fW 0):=by obtain⟨f,fd,F,Z,J⟩:=F;exact⟨f,fd,_,B0 F rn rfl rfl (λ Y A outer s H E a=>λ _ _ _ _ _ _ q=>by obtain⟨_,_,_,_,_,e,_⟩:=q;exact nomatch e),Z,F.kp,J⟩
theorem Lz(F:Dn K mg "ways_back" qa ["works","name","box"])(T:jG w K mg){n:Nat}{g:List D→Option D}(Z:6≤n)(q:aK P w K mg base n "ways_back" g)(Ge:aK P w K mg base 5 "box_meet" lH)(Gf:aK P w K mg base 2 "in_box" nW)(Gg:aK P w K mg base 6 "row_back" iS)(Gh:aK P w K mg base 1 "row_named" mI):aK P w K mg base (n+1) "ways_back" (c9 3 5 (pR g)):=
 iA F rn (λ _ Y A outer s H E J=>gi rn T J (cL q (cL Ge (cL Gf (cL Gg (cL Gh c_))))) λ k=>bI (cM k) (bI (cM k) (bI (cM k) (bI (cM k) (bI (sA 5 rn.nd (yX fb)) (bI (kM (ey 6 rn.nd) (dY k.1) (de (Ug 5 (dY k.1)))) (de (ma 5 (cM k)))))))))
theorem K0(F:Dn K mg "ways_back" qa ["works","name","box"])(T:jG w K mg)(Ge:aK P w K mg base 5 "box_meet" lH)(Gf:aK P w K mg base 2 "in_box" nW)(Gg:aK P w K mg base 6 "row_back" iS)(Gh:aK P w K mg base 1 "row_named" mI):∀n,aK P w K mg base (7+n) "ways_back" (fW n)
 |0=>Ls P base F T
 |n+1=>Lz P base (n:=7+n) F T (by lia) (K0 F T Ge Gf Gg Gh n) Ge Gf Gg Gh
def Mf(F:Dn K mg "ways_back" qa ["works","name","box"]):aK P w K mg base 31 "ways_back" (fW 24):=K0 P base F T Ge Gf Gg Gh 24
abbrev Ki:Stmt:=top 37
theorem LV:aG ["works","name"] ["works","name"] (aX Ki):=cP
abbrev BZ:Stmt:=top 38
theorem ro:aG ["origins","number","origin","other"] ["origins"] (aX BZ):=cP
def WQ(F:Dn K mg "one_comes_twice" BZ ["origins"]):aK P w K mg base 6 "one_comes_twice" nu:=
 iA F ro (λ _ J A outer s H E q=>gi ro T q (cL Ge c_) λ k=>bI (Ue T.z_enumerate (n6 (hU (ey 1 ro.nd) (hU (ey 2 ro.nd) nq))) (xv 0) (de (kM (ey 3 ro.nd) (dY k.1) (eJ k)))) (eJ k))
abbrev B9:Stmt:=top 39
theorem uG:aG ["works","number","row","origins"] ["works"] (aX B9):=cP
theorem LW:aG ["self","at"] ["self","at"] (aX va):=cP
def Pz(F:Dn K mg "check_works" B9 ["works"]):jU P w K mg base 33 "check_works" kg:=by
 obtain⟨f,fd,F,bF,J⟩:=F;obtain⟨c0,c2,fI,aa,Z⟩:=T.xn;have I:=Sg (CX:=hJ P w) (P:=P) (w:=w) (mg:=mg) (base:=base) (f:="at") Z.fn LW (by decide) rfl (λ _ _ _ _ _ _=>rfl) (by decide) (by decide);exact⟨f,fd,["works"],TR F uG rfl rfl (λ Y A outer s H E q=>
 (wJ (SH Q_ T.z_enumerate (n6 (hU (ey 1 uG.nd) (hU (ey 2 uG.nd) nq))) (xv 0)
 (wJ (Hk (xt AL (gr (xv 2) eU) (uQ T.c_CHAINS))
 (WN (WO (mK 3 uG.nd (xG Gj q (d3 (xv 0) (d3 (gr (xv 2) eU) fb)))))
 (wJ (Hk (xw (o6 (o7 (lP (xv 3) (λ _=>rfl))) (o8 (xw (Dc (xt (nr q.units) (gr (xv 2) eU) mz) (KO (lP (xG Gi q (d3 (xv 3) fb)) (λ _=>rfl))))))))
 (wJ (MP PJ Z.m0 Z.x0 Z.s1 I (q.mono (by decide)) Z.b0 (xv 1)))
 (Hj h_))))
 (Hj h_)))))),bF,F.kp,J⟩
abbrev Ke:Stmt:=top 41
theorem LX:aG ["_law_script","_law_k"] ["_law_script","_law_k"] (aX Ke):=cP
abbrev Kr:Stmt:=top 42
theorem LY:aG ["_law_cell","_law_k","_law_number"] ["_law_cell","_law_k"] (aX Kr):=cP
abbrev Cn:Stmt:=top 43
theorem DI:aG ["_law_script","_law_first"] ["_law_script"] (aX Cn):=cP
def Mi(F:Dn K mg "_law_draws" Cn ["_law_script"]):iY P w K mg base 2 "_law_draws" sU:=by
 obtain⟨f,fd,F,Z,J⟩:=F;exact⟨f,fd,["_law_script"],Iz F DI rfl rfl (λ Y A outer s H E q=>
 (CS (CT (mK 1 DI.nd (xG Gk q (d3 (xv 0) (d3 eU fb))))) (WI (qM (xv 0) (qM (xb v9 (xv 1) eU) (qM eU (qM eU (qM (xv 1) (qM eU WL))))))))),Z,F.kp,J⟩
abbrev CF:Stmt:=top 44
theorem DJ:aG ["_law_draws_here","_law_number","_law_found"] ["_law_draws_here"] (aX CF):=cP
def OD(F:Dn K mg "_law_next" CF ["_law_draws_here"]):dh P w K mg base 2 "_law_next" cC:=
 nz F DJ (λ _ J A outer s H E q=>gi DJ T q (cL Gk (cL Gl c_)) λ k=>bI (yR (fo k.1) (eJ k)) (eJ k))
abbrev tF:Stmt:=top 45
noncomputable abbrev Dt:List Str:=["_law_draws_here","_law_some","_law_word","_law_k","_law_at"]
theorem xV:aG Dt ["_law_draws_here"] (aX tF):=cP
def OC(F:Dn K mg "_law_pool" tF ["_law_draws_here"]):dh P w K mg base 3 "_law_pool" tr:=
 nz F xV (λ _ J A outer s H E q=>gi xV T q (gy Gm c_) λ k=>bI (cM k) (bI (cM k) (bI (oT T.z_range (ey 3 xV.nd) (dY k.1) (eJ k)) (bI (cM k) (de (kQ (tW (sc:=aX tF) rfl rfl (by show eA Dt (aX tF) _ "_law_sign" ["_law_word","_law_at"] [2,4];exact iJ) mz (λ _ _ _ _=>n7) (λ _ _ _ _=>(dY (kX k))))))))))
abbrev xE:Stmt:=top 46
theorem rq:aG ["_law_row_here","_law_thing","_law_word","_law_rest","_law_time","_law_key","_law_value"] ["_law_row_here","_law_thing"] (aX xE):=cP
def Py(F:Dn K mg "_law_through" xE ["_law_row_here","_law_thing"]):aK P w K mg base 1 "_law_through" eM:=
 iA F rq (λ _ J A outer s H E q=>gi rq T q c_ λ k=>bI (cM k) (bI (cM k) (bI (yW (n6 (hU (ey 4 rq.nd) (hU (ey 5 rq.nd) (hU (ey 6 rq.nd) nq)))) (xv 1)) (bI (cM k) (bI (cM k) (bI (cM k) (bI (cM k) (bI (cM k) (bI (cM k) (bI (cM k) (bI (fz (fo k.1) (de (kQ (s_ (d3 (xv 4) (d3 (V0 T.z_dict (gc q) (xv 3) (xv 5) (xv 5)) (h7 k.1)))))) h_) (eJ k))))))))))))
abbrev sW:Stmt:=top 47
noncomputable abbrev CZ:List Str:=["_law_draws_here","_law_names","_law_many","_law_found","_law_k","_law_left"]
theorem rA:aG CZ ["_law_draws_here","_law_names","_law_many"] (aX sW):=cP
def Lu(F:Dn K mg "_law_unlike" sW ["_law_draws_here","_law_names","_law_many"]):dh P w K mg base 3 "_law_unlike" nG:=
 nz F rA (λ _ J A outer s H E q=>gi rA T q (gy Gm c_) λ k=>bI (sA 3 rA.nd (yX fb)) (bI (oT T.z_range (ey 4 rA.nd) (xv 2) (bI (NO 5 rA.nd 3 0 (sc:=aX sW) rfl rfl (by show eA CZ (aX sW) _ "_law_name" ["_law_found"] [3];exact iJ) (xv 1) (λ _ _ _ _=>(lV (SI 1 (xv 0)))) (λ _ _ _ _=>(xv 0))) (de (jY 3 (h7 k.1))))) (de (ma 3 (cM k)))))
abbrev Kj:Stmt:=top 48
theorem LZ:aG ["_law_draws_here","_law_low","_law_high"] ["_law_draws_here"] (aX Kj):=cP
abbrev ti:Stmt:=top 49
noncomputable abbrev De:List Str:=["_law_draws_here","_law_word","_law_name","_law_froms","_law_pool_here","_law_keys","_law_begin","_law_end","_law_step","_law_times"]
theorem DK:aG De ["_law_draws_here","_law_word","_law_name","_law_froms","_law_pool_here"] (aX ti):=cP
def Mh(F:Dn K mg "_law_sieve" ti ["_law_draws_here","_law_word","_law_name","_law_froms","_law_pool_here"]):dh P w K mg base 4 "_law_sieve" pK:=
 nz F DK (λ _ J A outer s H E q=>gi DK T q (gy Gn (gy Gm (gy Go c_))) λ k=>bI (cM k) (bI (cM k) (bI (cM k) (bI (cM k) (bI (cM k) (bI (cM k) (bI (cM k) (de (kQ (s_ (d3 mz (d3 (xv 2) (d3 (xv 3) (d3 (tR sS rfl T.z_tuple jw (d3 (Ry 0 1 (sc:=aX ti) rfl rfl (by show eA De (aX ti) _ "_law_key" ["_law_pool_here","_law_draws_here"] [4,0];exact iJ) (xv 5) (λ _ _ _ _=>n7) (λ _ _ _ _=>(dY (kX k)))) fb)) fb))))))))))))))
abbrev Cf:Stmt:=top 50
theorem uH:aG ["_law_draws_here","_law_names","_law_one","_law_pool_here","_law_form","_law_many","_law_cut","_law_rows","_law_k","_law_low","_law_high","_law_begin","_law_end"] ["_law_draws_here","_law_names","_law_one","_law_pool_here"] (aX Cf):=cP
def Lw(F:Dn K mg "_law_parted" Cf ["_law_draws_here","_law_names","_law_one","_law_pool_here"]):jT P w K mg base 3 "_law_parted" sY:=by obtain⟨f,fd,F,Z,J⟩:=F;exact⟨f,fd,["_law_draws_here","_law_names","_law_one","_law_pool_here"],Sq F uH rfl rfl (λ Y A outer s H E q=>Wh uH T q (gy Gm c_) λ k=>sC (cM k) (sC (cM k) (sC (cM k) (sC (sA 7 uH.nd (yX fb)) (sC (oT T.z_range (ey 8 uH.nd) (xv 5) (bI (cM k) (bI (cM k) (bI (cM k) (bI (cM k) (de (fz (fo k.1) (de (jY 7 (h7 k.1))) (de (fz (fo k.1) (de (jY 7 (h7 k.1))) (de (fz (fo k.1) (de (jY 7 (h7 k.1))) (de (fz (fo k.1) (de (jY 7 (h7 k.1))) (de (jY 7 (h7 k.1)))))))))))))))) (RD 7)))))),Z,F.kp,J⟩
abbrev sX:Stmt:=top 51
noncomputable abbrev C0:List Str:=["_law_draws_here","_law_names","_law_one","_law_chains_here","_law_pool_here","_law_rows","_law_froms","_law_at","_law_word","_law_other"]
theorem rB:aG C0 ["_law_draws_here","_law_names","_law_one","_law_chains_here","_law_pool_here"] (aX sX):=cP
def Lv(F:Dn K mg "_law_poured" sX ["_law_draws_here","_law_names","_law_one","_law_chains_here","_law_pool_here"]):dh P w K mg base 5 "_law_poured" pQ:=
 nz F rB (λ _ J A outer s H E q=>gi rB T q (gy Gm (gy Gq c_)) λ k=>bI (Uc 5 0 rB.nd Gp (q.mono (by decide)) (h7 k.1)) (bI (NP 6 5 rB.nd (sc:=aX sX) rfl rfl (by show eA C0 (aX sX) _ "_law_row_here" [] [];exact iJ) (λ _ _ _ _=>n7) (λ _ _ _ _=>(dY (kX k)))) (bI (mK 7 rB.nd (xb v9 (dY k.1) (Ud 6 T.z_len))) (bI (cM k) (bI (jY 5 (d3 (KR 0 Gq (q.mono (by decide)) (d3 (xv 8) (d3 (dY k.1) (d3 (s_ (d3 (Rz 6 (xv 7)) fb)) (h7 k.1))))) fb)) (bI (Ru 6 (xv 7) (dY k.1)) (bI (cM k) (bI (fz (fo k.1) (de (jY 6 (h7 k.1))) h_) (de (ma 5 (ma 6 (cM k))))))))))))
abbrev nL:Stmt:=top 52
noncomputable abbrev CC:List Str:=["_law_draws_here","_law_pool_here","_law_works","_law_k","_law_chains_here","_law_names","_law_one","_law_form","_law_froms","_law_words"]
theorem mV:aG CC ["_law_draws_here","_law_pool_here"] (aX nL):=cP
def Ly(F:Dn K mg "_law_chains" nL ["_law_draws_here","_law_pool_here"]):dh P w K mg base 6 "_law_chains" pV:=
 nz F mV (λ _ J A outer s H E q=>gi mV T q (gy Gn (gy Gm (gy Gr (gy Gq (gy Go c_))))) λ k=>bI (sA 2 mV.nd (Rv (dY k.1) KW (KY (dY k.1)))) (bI (oT T.z_range (ey 3 mV.nd) (dY k.1) (bI (NM 4 2 mV.nd (sc:=aX nL) rfl rfl (by show eA CC (aX nL) _ "_law_row_here" [] [];exact iJ) (λ _ _ _ _=>n7) (λ _ _ _ _=>(dY (kX k)))) (bI (r_ 5 mV.nd (sc:=aX nL) rfl rfl (by show eA CC (aX nL) _ "_law_sign" ["_law_k"] [3];exact iJ) mz (λ _ _ _ _=>n7) (λ _ _ _ _=>(dY (kX k)))) (bI (cM k) (bI (cM k) (de (fz (fo k.1) (de (RC 2 mV.nd (dY k.1))) (de (fz (fo k.1) (bI (cM k) (de (jY 2 (h7 k.1)))) (bI (cM k) (de (jY 2 (h7 k.1))))))))))))) (de (ma 2 (cM k)))))
abbrev Cg:Stmt:=top 53
theorem rC:aG ["_law_works","_law_found","_law_turn","_law_row_here","e"] ["_law_works"] (aX Cg):=cP
def Lx(F:Dn K mg "_law_let_by" Cg ["_law_works"]):aK P w K mg base 34 "_law_let_by" pU:=by obtain⟨c0,c2,fI,J,Z⟩:=T.xn;exact iA F rC (λ _ Y A outer s H E q=>gi rC T q c_ λ k=>bI (sA 1 rC.nd (SK T.z_list (xv 0))) (bI (oT T.z_range (ey 2 rC.nd) eU (de (Ub 1 3 4 (λ _ _ z=>z) Gs q (de (ma 1 (cM k))) Z.m0 Z.ee Z.k0 Z.s1 rfl rfl rC.nd))) (de (ma 1 (ma 1 (cM k))))))
abbrev mT:Stmt:=top 55
noncomputable abbrev x_:List Str:=["_law_works","_law_name","_law_thing","_law_flows_here","_law_row_here","_law_other","_law_made"]
theorem rD:aG x_ ["_law_works","_law_name","_law_thing"] (aX mT):=cP
def NJ(F:Dn K mg "_law_flows" mT ["_law_works","_law_name","_law_thing"]):iY P w K mg base 2 "_law_flows" oG:=by
 obtain⟨f,fd,F,Z,J⟩:=F;exact⟨f,fd,["_law_works","_law_name","_law_thing"],Iz F rD rfl rfl (λ Y A outer s H E q=>
 (CS (CT (KU 3 rD.nd))
 (CS (CT (kM (ey 4 rD.nd) (xv 0)
 (de (fz (xt (nr q.units) (gr (xv 4) eU) mz)
 (bI (qL 3 (gc q) (gr (xv 4) eU) (uq fb))
 (de (fz (xt (nr q.units) (gr (xv 4) eU) (xv 1))
 (de (qL 3 (gc q) (gr (xv 4) eU) (uq (d3 (xv 2) fb))))
 h_)))
 (de (fz (xt (nr q.units) (gr (xv 4) eU) mz)
 (bI (qL 3 (gc q) (gr (xv 4) eU) (uq fb))
 (de (kM (ey 5 rD.nd) (gr (xv 4) eU)
 (de (qL 3 (gc q) (gr (xv 4) eU) (xb B3 (mq 3 (gc q) (gr (xv 4) eU)) (mq 3 (gc q) (xv 5))))))))
 (bI (r_ 6 rD.nd (sc:=aX mT) rfl rfl (by show eA x_ (aX mT) _ "_law_one" ["_law_row_here"] [4];exact iJ) (mq 3 (gc q) (gr (gr (xv 4) eU) eU)) (λ _ _ _ _=>n7) (λ _ _ _ _=>(xG Gt q (d3 (xv 1) (d3 (xv 0) fb)))))
 (de (qL 3 (gc q) (gr (xv 4) eU) (tW (sc:=aX mT) rfl rfl (by show eA x_ (aX mT) _ "_law_one" [] [];exact iJ) (xv 6) (λ _ _ _ _=>(lV (xt Ek (xv 0) J4))) (λ _ _ _ _=>(xv 0))))))))))))
 (WJ 3)))),Z,F.kp,J⟩
abbrev rh:Stmt:=top 56
noncomputable abbrev Fd:List Str:=["_law_works","_law_name"]
theorem L0:aG Fd ["_law_works","_law_name"] (aX rh):=cP
def UZ(F:Dn K mg "_law_row" rh ["_law_works","_law_name"]):aK P w K mg base 1 "_law_row" oH:=
 iA F L0 (λ _ J A outer s H E q=>
 (de (kQ (gr (tW (sc:=aX rh) rfl rfl (by show eA Fd (aX rh) _ "_law_row_here" ["_law_name"] [1];exact iJ) (xv 0) (λ _ _ _ _=>(lV (xt (nr q.units) (gr (xv 0) eU) (xv 1)))) (λ _ _ _ _=>(xv 0))) eU))))
abbrev Fm:Stmt:=top 57
theorem L1:aG ["_law_bounds_here","_law_value"] ["_law_bounds_here","_law_value"] (aX Fm):=cP
abbrev HS:Stmt:=top 59
theorem L3:aG ["_law_keys","_law_key"] ["_law_keys","_law_key"] (aX HS):=cP
abbrev DL:Stmt:=top 60
theorem L4:aG ["_law_stretch","_law_value"] ["_law_stretch","_law_value"] (aX DL):=cP
abbrev Ex:Stmt:=top 61
theorem L5:aG ["_law_box","_law_thing"] ["_law_box","_law_thing"] (aX Ex):=cP
abbrev GN:Stmt:=top 62
theorem L6:aG ["_law_draws_here","_law_box","_law_pool_here","_law_time","_law_value","_law_edge"] ["_law_draws_here","_law_box","_law_pool_here"] (aX GN):=cP
abbrev xf:Stmt:=top 63
theorem xW:aG ["_law_works","_law_row_here","_law_origins","_law_one","_law_source"] ["_law_works","_law_row_here","_law_origins"] (aX xf):=cP
def Ot(F:Dn K mg "_law_list_right" xf ["_law_works","_law_row_here","_law_origins"]):aK P w K mg base 5 "_law_list_right" qF:=
 iA F xW (λ _ J A outer s H E q=>gi xW T q (cL Gu (cL Gv (cL Gc c_))) λ k=>bI (fz (xw (o6 (o7 (lP (KZ (t:=.list) T.z_isinstance T.z_list Yg (xv 2)) (λ _=>rfl))) (o8 (fo k.1)))) (eJ k) h_) (bI (kM (ey 3 xW.nd) (xv 2) (bI (fz (xw (o6 (o7 (lP (KZ (t:=.tuple) T.z_isinstance T.z_tuple jw (xv 3)) (λ _=>rfl))) (o8 (fo k.1)))) (eJ k) h_) (eJ k))) (eJ k)))
abbrev w6:Stmt:=top 64
theorem oR:aG ["_law_row_here","_law_origins","_law_due","_law_other","_law_at","_law_source","_law_box"] ["_law_row_here","_law_origins"] (aX w6):=cP
def Mk(F:Dn K mg "_law_order_right" w6 ["_law_row_here","_law_origins"]):aK P w K mg base 7 "_law_order_right" nO:=
 iA F oR (λ _ J A outer s H E q=>gi oR T q (cL Gw c_) λ k=>bI (cM k) (bI (cM k) (bI (kM (ey 3 oR.nd) (dY k.1) (de (mK 2 oR.nd (xb B3 (xv 2) (CQ (gc q) (xv 1) (xv 3)))))) (bI (fz (fo k.1) (de (kQ (Ea (nr q.units) (CQ (gc q) (xv 1) (dY k.1)) (xv 2)))) h_) (bI (cM k) (bI (kM (n6 (hU (ey 5 oR.nd) (hU (ey 6 oR.nd) nq))) (CQ (gc q) (xv 1) (dY k.1)) (bI (yR (fo k.1) (eJ k)) (eJ k))) (eJ k)))))))
abbrev lu:Stmt:=top 65
noncomputable abbrev JJ:List Str:=["_law_script","_law_draws_here","_law_pool_here","_law_works","_law_origins","_law_row_here","_law_k","_law_name","_law_bounds_here","_law_told","_law_copy","_law_source","_law_box","_law_time","_law_key","_law_value","_law_chain","_law_things","_law_inside"]
theorem gS:aG JJ ["_law_script"] (aX lu):=cP
def TQ{f:Addr}{fd:FuncData}(F:ic K "law" "law" lu f fd):cB P w K mg base ft 35 f fd ["_law_script"] (qE K o_):=
 B0 F gS rfl rfl (λ J A outer s H E q=>gi gS T q (gy Gx (cL GA (cL GB (cL GC (gy GD (gy Gm (cL GE (gy GF (cL Gu (cL GG (cL Gj c_))))))))))) λ k=>bI (Rx 1 gS.nd Gy (q.mono (by decide)) (h7 k.1)) (bI (cM k) (bI (cM k) (bI (KU 4 gS.nd) (bI (kM (ey 5 gS.nd) (xv 3) (bI (qL 4 (gc q) (dY k.1) (dY k.1)) (de (fz (xw (o6 (o7 (lP (xG GC q (d3 (xv 3) (d3 (xv 5) (d3 (mq 4 (gc q) (dY k.1)) fb)))) (λ _=>rfl))) (o8 (o7 (lP (VY 4 (dY k.1)) (λ _=>rfl)))))) (eJ k) h_)))) (bI (oT T.z_range (ey 6 gS.nd) eU (bI (cM k) (bI (yW (n6 (hU (ey 11 gS.nd) (hU (ey 12 gS.nd) nq))) (gr (mq 4 (gc q) (xv 7)) (xb v9 (dY k.1) (xB J3 rfl T.z_len PySem.boot_len (d3 (mq 4 (gc q) (xv 7)) fb))))) (bI (cM k) (bI (yW (n6 (hU (ey 13 gS.nd) (hU (ey 14 gS.nd) (hU (ey 15 gS.nd) nq)))) (dY k.1)) (de (fz (fo k.1) (de (VZ (n6 (hU (ey 16 gS.nd) (hU (ey 17 gS.nd) nq))) (WC Gz (q.mono (by decide)) (h7 k.1)) (bI (r_ 18 gS.nd (sc:=aX lu) rfl rfl (by show eA JJ (aX lu) _ "_law_one" ["_law_source","_law_time","_law_key","_law_value"] [11,13,14,15];exact iJ) (mq 4 (gc q) (xv 16)) (λ _ _ _ _=>(lV (fo (kX k)))) (λ _ _ _ _=>(xv 0))) (eJ k)))) h_))))))) (bI (kM (ey 5 gS.nd) (xv 3) (bI (VX 9 gS.nd Gj (q.mono (by decide)) T.kl (h7 k.1)) (bI (mK 10 gS.nd (Uo 9 T.z_list)) (bI (jY 9 (h7 k.1)) (de (fz (xw (o6 (xt (IZ q.units) (xv 10) (mq 4 (gc q) (dY k.1))) (o8 (fo k.1)))) (eJ k) h_)))))) (eJ k))))))))
end
end Fx
namespace Fx
open PySem
theorem qC{i j:Int}(h:j.natAbs<2^64):eZ i j=true:=by unfold eZ;rw[zm h];simp
theorem qS{i j:Int}(h:i.natAbs<2^64):eZ i j=true:=by unfold eZ;rw[zm h];simp
theorem ux{j:Int}(q:j≠0)(h:j.natAbs<2^64):jS j=true:=by unfold jS;rw[zm q,zm (Nat.lt_trans h (Yq (by decide) (by decide)))];rfl
end Fx
namespace St
structure S where
 lo:Option Int
 hi:Option Int
 st:Int
 re:Int
 deriving DecidableEq
def leO(lo:Option Int)(v:Int):Prop:=∀l,lo=some l->l<=v
def geO(hi:Option Int)(v:Int):Prop:=∀h,hi=some h->v<=h
structure mem(s:S)(v:Int):Prop where
 l:leO s.lo v
 h:geO s.hi v
 r:v%s.st=s.re
structure Canon(s:S):Prop where
 pos:0<s.st
 r0:0<=s.re
 r1:s.re<s.st
 lo:∀l,s.lo=some l->l%s.st=s.re
 hi:∀h,s.hi=some h->h%s.st=s.re
 lh:∀l h,s.lo=some l->s.hi=some h->l<h\/(l=h/\s.st=1/\s.re=0)
theorem iz{st x y:Int}:x%st=y%st↔st∣x-y:=by rw[Int.emod_eq_emod_iff_emod_sub_eq_zero];exact⟨Int.dvd_of_emod_eq_zero,Int.emod_eq_zero_of_dvd⟩
theorem vB{st re x:Int}(q:0<=re)(h1:re<st):x%st=re↔st∣x-re:=by rw[<-iz,jf q h1]
theorem v3{st x y:Int}(h:x%st=y%st)(q:x<y):x+st<=y:=by
 have d:=iz.mp h.symm;have:=Z3 (by lia) d
 lia
theorem up{l st re:Int}(q:0<st)(Y:0<=re)(h1:re<st):(l+(re-l)%st)%st=re/\l<=l+(re-l)%st/\∀v,v%st=re->l<=v->l+(re-l)%st<=v:=by
 have a:=jh (re-l) (Q8 q);have b:=y9 (re-l) q;have e:(l+(re-l)%st)%st=re:=by rw[Int.add_emod_emod,show l+(re-l)=re by lia,jf Y h1]
 refine⟨e,by lia,λ v J c=>?_⟩;by_cases Z:v<l+(re-l)%st
 .have:=v3 (J.trans e.symm) Z
  lia
 .lia
theorem down{h st re:Int}(q:0<st)(Y:0<=re)(h1:re<st):(h-(h-re)%st)%st=re/\h-(h-re)%st<=h/\∀v,v%st=re->v<=h->v<=h-(h-re)%st:=by
 have a:=jh (h-re) (Q8 q);have b:=y9 (h-re) q;have e:(h-(h-re)%st)%st=re:=by rw[Int.sub_emod_emod,show h-(h-re)=re by lia,jf Y h1]
 refine⟨e,by lia,λ v J c=>?_⟩;by_cases Z:h-(h-re)%st<v
 .have:=v3 (e.trans J.symm) Z
  lia
 .lia
noncomputable def first(lo:Option Int)(st re:Int):Option Int:=lo.map λ l=>l+(re-l)%st
noncomputable def last(hi:Option Int)(st re:Int):Option Int:=hi.map λ h=>h-(h-re)%st
noncomputable def made2(f l:Option Int)(st re:Int):Option S:=
 match f,l with
 |some a,some b=>if b<a then none else if a=b then some ⟨some a,some b,1,0⟩else some ⟨some a,some b,st,re⟩
 |f,l=>some ⟨f,l,st,re⟩
def made(lo hi:Option Int)(st re:Int):Option S:=
 if 0<=re/\re<st then made2 (first lo st re) (last hi st re) st re else none
structure Between(lo hi:Option Int)(st re v:Int):Prop where
 l:leO lo v
 h:geO hi v
 r:v%st=re
def Tells(r:Option S)(p:Int->Prop):Prop:=
 match r with
 |none=>∀v,¬p v
 |some s=>Canon s/\∀v,mem s v↔p v
theorem P_{lo:Option Int}{st re v:Int}(Y:0<st)(q:0<=re)(h1:re<st)(J:v%st=re):leO (first lo st re) v↔leO lo v:=by
 cases lo with
 |none=>exact⟨λ _ l e=>(nomatch e),λ _ l e=>(nomatch e)⟩
 |some l=>
  obtain⟨_,a,b⟩:=up (l:=l) Y q h1;constructor
  .intro h x e;cases e;exact Int.le_trans a (h _ rfl)
  .intro h x e;cases e;exact b v J (h _ rfl)
theorem Np{hi:Option Int}{st re v:Int}(Y:0<st)(q:0<=re)(h1:re<st)(J:v%st=re):geO (last hi st re) v↔geO hi v:=by
 cases hi with
 |none=>exact⟨λ _ l e=>(nomatch e),λ _ l e=>(nomatch e)⟩
 |some l=>
  obtain⟨_,a,b⟩:=down (h:=l) Y q h1;constructor
  .intro h x e;cases e;exact Int.le_trans (h _ rfl) a
  .intro h x e;cases e;exact b v J (h _ rfl)
theorem My{lo:Option Int}{st re l:Int}(J:0<st)(q:0<=re)(h1:re<st)(e:first lo st re=some l):l%st=re:=by
 cases lo with
 |none=>cases e
 |some x=>cases e;exact(up J q h1).1
theorem Nj{hi:Option Int}{st re l:Int}(J:0<st)(q:0<=re)(h1:re<st)(e:last hi st re=some l):l%st=re:=by
 cases hi with
 |none=>cases e
 |some x=>cases e;exact(down J q h1).1
theorem made_ok{lo hi:Option Int}{st re:Int}(Z:0<st)(J:0<=re)(h1:re<st):Tells (made lo hi st re) (Between lo hi st re):=by
 unfold made;rw[if_pos ⟨J,h1⟩];have q:∀v,v%st=re->((leO (first lo st re) v/\geO (last hi st re) v)↔(leO lo v/\geO hi v)):=λ v Y=>by
  rw[P_ Z J h1 Y,Np Z J h1 Y]
 have c:=λ l=>My (lo:=lo) (l:=l) Z J h1;have j:=λ l=>Nj (hi:=hi) (l:=l) Z J h1;generalize first lo st re=f at q c
 generalize last hi st re=g at q j;have plain:(∀a b,f=some a->g=some b->a<b)->Tells (some ⟨f,g,st,re⟩) (Between lo hi st re):=λ k=>by
  refine⟨⟨Z,J,h1,c,j,λ l h e1 e2=>.inl (k l h e1 e2)⟩,λ v=>⟨λ m=>?_,λ m=>?_⟩⟩
  .have:=(q v m.r).mp ⟨m.l,m.h⟩;exact⟨this.1,this.2,m.r⟩
  .have:=(q v m.r).mpr ⟨m.l,m.h⟩;exact⟨this.1,this.2,m.r⟩
 cases f with
 |none=>exact plain λ a b e=>nomatch e
 |some a=>
  cases g with
  |none=>exact plain λ a b _ e=>nomatch e
  |some b=>
   unfold made2;dsimp only;by_cases i:b<a
   .rw[if_pos i];intro v m;obtain⟨x,y⟩:=(q v m.r).mpr ⟨m.l,m.h⟩;have:=x a rfl;have:=y b rfl;lia
   .rw[if_neg i];by_cases d:a=b
    .rw[if_pos d];subst d;refine⟨⟨Int.zero_lt_one,yk _,Int.zero_lt_one,λ l _=>by simp,λ l _=>by simp,λ l h e1 e2=>.inr ⟨by cases e1;cases e2;rfl,rfl,rfl⟩⟩,λ v=>⟨λ m=>?_,λ m=>?_⟩⟩
     .have e:v=a:=by have:=m.l a rfl;have:=m.h a rfl;lia
      have Y:v%st=re:=by rw[e];exact c a rfl
      have:=(q v Y).mp ⟨m.l,m.h⟩;exact⟨this.1,this.2,Y⟩
     .have:=(q v m.r).mpr ⟨m.l,m.h⟩;exact⟨this.1,this.2,by simp⟩
    .rw[if_neg d];exact plain λ x y e1 e2=>by cases e1;cases e2;lia
theorem made_none{lo hi:Option Int}{st re:Int}(h:¬(0<=re/\re<st)):made lo hi st re=none:=by unfold made;rw[if_neg h]
theorem made_st{lo hi:Option Int}{st re:Int}{s:S}(h:made lo hi st re=some s):s.st=st\/s.st=1:=by
 unfold made at h;split at h
 .unfold made2 at h;split at h
  .split at h
   .cases h
   .split at h
    .cases h;exact .inr rfl
    .cases h;exact .inl rfl
  .cases h;exact .inl rfl
 .cases h
theorem Canon.some{s:S}(c:Canon s):∃v,mem s v:=by
 cases e:s.lo with
 |some l=>
  refine⟨l,λ x h=>by rw[e]at h;cases h;lia,λ h J=>?_,c.lo l e⟩;rcases c.lh l h e J with z|⟨z,_⟩<;>lia
 |none=>
  cases e2:s.hi with
  |some h=>exact⟨h,⟨λ x q=>(by rw[e]at q;cases q),λ x q=>(by rw[e2]at q;cases q;lia),c.hi h e2⟩⟩
  |none=>exact⟨s.re,⟨λ x q=>(by rw[e]at q;cases q),λ x q=>(by rw[e2]at q;cases q),jf c.r0 c.r1⟩⟩
theorem Canon.memLo{s:S}(c:Canon s){l:Int}(e:s.lo=Option.some l):mem s l:=by refine⟨λ x h=>by rw[e]at h;cases h;lia,λ h q=>?_,c.lo l e⟩;rcases c.lh l h e q with z|⟨z,_⟩<;>lia
theorem Canon.memHi{s:S}(c:Canon s){h:Int}(e:s.hi=Option.some h):mem s h:=by refine⟨λ x J=>?_,λ x q=>by rw[e]at q;cases q;lia,c.hi h e⟩;rcases c.lh x h J e with z|⟨z,_⟩<;>lia
theorem Canon.down{s:S}(c:Canon s){v:Int}(m:mem s v)(h:leO s.lo (v-s.st)):mem s (v-s.st):=by have:=c.pos;refine⟨h,λ x e=>by have:=m.h x e;lia,?_⟩;rw[Int.sub_emod_right];exact m.r
theorem Canon.up{s:S}(c:Canon s){v:Int}(m:mem s v)(h:geO s.hi (v+s.st)):mem s (v+s.st):=by have:=c.pos;refine⟨λ x e=>by have:=m.l x e;lia,h,?_⟩;rw[Int.add_emod_right];exact m.r
theorem Canon.lo_of{s:S}(c:Canon s){l:Int}:s.lo=Option.some l↔(mem s l/\∀v,mem s v->l<=v):=by
 constructor
 .exact λ e=>⟨c.memLo e,λ v m=>m.l l e⟩
 .rintro ⟨m,h⟩;cases e:s.lo with
  |none=>
   have:=h _ (c.down m λ x q=>by rw[e]at q;cases q);have:=c.pos;lia
  |some x=>
   have a:=h _ (c.memLo e);have b:=m.l x e;rw[show x=l by lia]
theorem Canon.hi_of{s:S}(c:Canon s){l:Int}:s.hi=Option.some l↔(mem s l/\∀v,mem s v->v<=l):=by
 constructor
 .exact λ e=>⟨c.memHi e,λ v m=>m.h l e⟩
 .rintro ⟨m,h⟩;cases e:s.hi with
  |none=>
   have:=h _ (c.up m λ x q=>by rw[e]at q;cases q);have:=c.pos;lia
  |some x=>
   have a:=h _ (c.memHi e);have b:=m.h x e;rw[show x=l by lia]
theorem Jg{a b:Option Int}(h:∀l,a=some l↔b=some l):a=b:=by
 cases a with
 |none=>cases b with
  |none=>rfl
  |some y=>exact((h y).mpr rfl)
 |some x=>exact((h x).mp rfl).symm
theorem I2{s t:S}(J:Canon s)(ct:Canon t)(h:∀v,mem s v↔mem t v)(ac:s.lo=t.lo)(aa:s.hi=t.hi)(two:∀l h,s.lo=some l->s.hi=some h->l<h):t.st∣s.st/\s.re%t.st=t.re:=by
 have p:=J.pos;have b:∃v,mem s v/\mem s (v+s.st):=by
  cases e:s.lo with
  |some l=>
   refine⟨l,J.memLo e,J.up (J.memLo e) λ x q=>?_⟩;have Y:=two l x e q;have:=v3 ((J.lo l e).trans (J.hi x q).symm) Y;lia
  |none=>
   obtain⟨v,m⟩:=J.some;refine⟨v-s.st,J.down m (λ x q=>by rw[e]at q;cases q),?_⟩;rw[show v-s.st+s.st=v by lia];exact m
 obtain⟨v,a,c⟩:=b;have Z:=(h _).mp a;have f:=(h _).mp c;have d:t.st∣s.st:=by have:=iz.mp (f.r.trans Z.r.symm);rw[show v+s.st-v=s.st by lia]at this;exact this
 refine⟨d,?_⟩;have e1:t.st∣v-s.re:=jr d ((vB J.r0 J.r1).mp a.r);have e2:=iz.mpr e1;rw[<-e2];exact Z.r
theorem Canon.ext{s t:S}(Y:Canon s)(ct:Canon t)(h:∀v,mem s v↔mem t v):s=t:=by
 have J:s.lo=t.lo:=Jg λ l=>by
  rw[Y.lo_of,ct.lo_of,h];exact⟨fun⟨a,b⟩=>⟨a,λ v m=>b v ((h v).mpr m)⟩,fun⟨a,b⟩=>⟨a,λ v m=>b v ((h v).mp m)⟩⟩
 have q:s.hi=t.hi:=Jg λ l=>by
  rw[Y.hi_of,ct.hi_of,h];exact⟨fun⟨a,b⟩=>⟨a,λ v m=>b v ((h v).mpr m)⟩,fun⟨a,b⟩=>⟨a,λ v m=>b v ((h v).mp m)⟩⟩
 have fin:s.st=t.st->s.re=t.re->s=t:=λ a b=>by
  cases s;cases t;simp only[S.mk.injEq]at*;exact⟨J,q,a,b⟩
 by_cases one:∃l,s.lo=Option.some l/\s.hi=Option.some l
 .obtain⟨l,e1,e2⟩:=one;have g:=Y.lh l l e1 e2;have i:=ct.lh l l (J▸e1) (q▸e2);rcases g with z|⟨_,a,b⟩
  .lia
  rcases i with z|⟨_,c,d⟩
  .lia
  exact fin (by lia) (by lia)
 .have Z:∀l h,s.lo=Option.some l->s.hi=Option.some h->l<h:=λ l x e1 e2=>by
   rcases Y.lh l x e1 e2 with z|⟨z,_⟩
   .exact z
   .exact absurd ⟨l,e1,by rw[e2,z]⟩ one
  obtain⟨a,b⟩:=I2 Y ct h J q Z;obtain⟨c,d⟩:=I2 ct Y (λ v=>(h v).symm) J.symm q.symm λ l x e1 e2=>Z l x (J.trans e1) (q.trans e2);have p:=Y.pos;have f:=ct.pos;have j:=Z3 p a;have k:=Z3 f c;have e:s.st=t.st:=by lia
  refine fin e ?_;rw[<-e]at b;rw[<-b,jf Y.r0 Y.r1]
theorem Tells.imp{r:Option S}{p q:Int->Prop}(h:Tells r p)(e:∀v,p v↔q v):Tells r q:=by
 cases r with
 |none=>exact λ v m=>h v ((e v).mpr m)
 |some s=>exact⟨h.1,λ v=>(h.2 v).trans (e v)⟩
noncomputable def ab(a:Int):Int:=if a<0 then -a else a
noncomputable def mv(a b:Int)(o:Option Int):Option Int:=o.map λ e=>a*e+b
def moved(s:S)(a b:Int):Option S:=
 if a<0 then made (mv a b s.hi) (mv a b s.lo) (ab a*s.st) ((a*s.re+b)%(ab a*s.st))
 else made (mv a b s.lo) (mv a b s.hi) (ab a*s.st) ((a*s.re+b)%(ab a*s.st))
theorem ab_pos{a:Int}(h:a≠0):0<ab a:=by unfold ab;split<;>lia
theorem CW{a x y:Int}(h:0<a):a*x<=a*y↔x<=y:=Int.mul_le_mul_left h
theorem CJ{a x y:Int}(h:a<0):a*x<=a*y↔y<=x:=by have:=Int.mul_le_mul_left (a:=-a) (b:=y) (c:=x) (by lia);rw[<-this,Int.neg_mul,Int.neg_mul];lia
theorem EW{a b v:Int}{o:Option Int}(h:0<a):leO (mv a b o) (a*v+b)↔leO o v:=by
 cases o with
 |none=>exact⟨λ _ l e=>(nomatch e),λ _ l e=>(nomatch e)⟩
 |some l=>
  have k:=CW (x:=l) (y:=v) h;constructor
  .intro z x e;cases e;have q:a*l+b<=a*v+b:=z _ rfl;exact k.mp (by lia)
  .intro z x e;cases e;have:=k.mpr (z _ rfl);show a*l+b<=a*v+b;lia
theorem E8{a b v:Int}{o:Option Int}(h:0<a):geO (mv a b o) (a*v+b)↔geO o v:=by
 cases o with
 |none=>exact⟨λ _ l e=>(nomatch e),λ _ l e=>(nomatch e)⟩
 |some l=>
  have k:=CW (x:=v) (y:=l) h;constructor
  .intro z x e;cases e;have q:a*v+b<=a*l+b:=z _ rfl;exact k.mp (by lia)
  .intro z x e;cases e;have:=k.mpr (z _ rfl);show a*v+b<=a*l+b;lia
theorem G6{a b v:Int}{o:Option Int}(h:a<0):leO (mv a b o) (a*v+b)↔geO o v:=by
 cases o with
 |none=>exact⟨λ _ l e=>(nomatch e),λ _ l e=>(nomatch e)⟩
 |some l=>
  have k:=CJ (x:=l) (y:=v) h;constructor
  .intro z x e;cases e;have q:a*l+b<=a*v+b:=z _ rfl;exact k.mp (by lia)
  .intro z x e;cases e;have:=k.mpr (z _ rfl);show a*l+b<=a*v+b;lia
theorem Eb{a b v:Int}{o:Option Int}(h:a<0):geO (mv a b o) (a*v+b)↔leO o v:=by
 cases o with
 |none=>exact⟨λ _ l e=>(nomatch e),λ _ l e=>(nomatch e)⟩
 |some l=>
  have k:=CJ (x:=v) (y:=l) h;constructor
  .intro z x e;cases e;have q:a*v+b<=a*l+b:=z _ rfl;exact k.mp (by lia)
  .intro z x e;cases e;have:=k.mpr (z _ rfl);show a*v+b<=a*l+b;lia
theorem uh{a b st re w:Int}(Y:0<st)(Z:a≠0)(q:0<=re)(h1:re<st):w%(ab a*st)=(a*re+b)%(ab a*st)↔∃v,v%st=re/\w=a*v+b:=by
 rw[iz];constructor
 .rintro ⟨k,e⟩;refine⟨re+st*(if a<0 then -k else k),by rw[Qr,jf q h1],?_⟩;have e2:a*(st*(if a<0 then -k else k))=ab a*st*k:=by
   unfold ab;split
   .simp only[Int.neg_mul,Qq,jc]
   .simp only[jc]
  rw[Int.mul_add,e2,<-e];lia
 .rintro ⟨v,J,rfl⟩;obtain⟨k,e⟩:=(vB q h1).mp J;refine⟨(if a<0 then -k else k),?_⟩;have e2:a*v+b-(a*re+b)=a*(st*k):=by rw[<-e,Qp];lia
  rw[e2];unfold ab;split
  .simp only[Int.neg_mul,Qq,jc,Int.neg_neg]
  .simp only[jc]
theorem FI{s:S}{a b:Int}(c:Canon s)(J:a≠0):Tells (moved s a b) (λ w=>∃v,mem s v/\w=a*v+b):=by
 have Y:0<ab a*s.st:=Int.mul_pos (ab_pos J) c.pos;have r0:=jh (a*s.re+b) (Q8 Y);have r1:=y9 (a*s.re+b) Y;unfold moved;split
 .rename_i q;refine(made_ok Y r0 r1).imp λ w=>⟨λ m=>?_,?_⟩
  .obtain⟨v,Z,rfl⟩:=(uh c.pos J c.r0 c.r1).mp m.r;exact⟨v,⟨(Eb q).mp m.h,(G6 q).mp m.l,Z⟩,rfl⟩
  .rintro ⟨v,m,rfl⟩;exact⟨(G6 q).mpr m.h,(Eb q).mpr m.l,(uh c.pos J c.r0 c.r1).mpr ⟨v,m.r,rfl⟩⟩
 .have q:0<a:=by lia
  refine(made_ok Y r0 r1).imp λ w=>⟨λ m=>?_,?_⟩
  .obtain⟨v,Z,rfl⟩:=(uh c.pos J c.r0 c.r1).mp m.r;exact⟨v,⟨(EW q).mp m.l,(E8 q).mp m.h,Z⟩,rfl⟩
  .rintro ⟨v,m,rfl⟩;exact⟨(EW q).mpr m.l,(E8 q).mpr m.h,(uh c.pos J c.r0 c.r1).mpr ⟨v,m.r,rfl⟩⟩
theorem Tells.some{r:Option S}{p:Int->Prop}(h:Tells r p){v:Int}(q:p v):∃t,r=Option.some t/\Canon t/\∀v,mem t v↔p v:=by
 cases r with
 |none=>exact absurd q (h v)
 |some t=>exact⟨t,rfl,h.1,h.2⟩
theorem moved_some{s:S}{a b:Int}(c:Canon s)(q:a≠0):∃t,moved s a b=some t/\Canon t/\(∀w,mem t w↔∃v,mem s v/\w=a*v+b)/\(t.st=ab a*s.st\/t.st=1):=by obtain⟨v,m⟩:=c.some;obtain⟨t,e,d,h⟩:=(FI (b:=b) c q).some ⟨v,m,rfl⟩;refine⟨t,e,d,h,?_⟩;unfold moved at e;split at e<;>exact made_st e
structure Euc(a m g f:Int):Prop where
 pos:0<g
 da:g∣a
 dm:g∣m
 inv:m∣a*f-g
noncomputable def bkLo(s:S)(a b:Int):Option Int:=(if 0<a then s.lo else s.hi).map λ e=>-((b-e).fdiv a)
noncomputable def bkHi(s:S)(a b:Int):Option Int:=(if 0<a then s.hi else s.lo).map λ e=>(e-b).fdiv a
def back2(s:S)(a b g f:Int):Option S:=
 if(s.re-b)%g=0 then made (bkLo s a b) (bkHi s a b) (s.st/g) ((s.re-b)/g*f%(s.st/g))else none
theorem n_{v x a:Int}(h:0<a):v<=x.fdiv a↔a*v<=x:=by rw[yp _ (by lia),Int.le_ediv_iff_mul_le h,Qv]
theorem qG{v x a:Int}(h:a<0):v<=x.fdiv a↔x<=a*v:=by rw[<-Int.neg_fdiv_neg,yp _ (by lia),Int.le_ediv_iff_mul_le (by lia),Qq,Qv];lia
theorem Sb{o:Option Int}{f:Int->Int}{v:Int}{p:Prop}{u:Int}(q:∀e,f e<=v↔e<=u):leO (o.map f) v↔leO o u:=by
 cases o with
 |none=>exact⟨λ _ l e=>(nomatch e),λ _ l e=>(nomatch e)⟩
 |some l=>
  constructor
  .intro z x e;cases e;exact(q l).mp (z _ rfl)
  .intro z x e;cases e;exact(q l).mpr (z _ rfl)
theorem Nh{o:Option Int}{f:Int->Int}{v:Int}{u:Int}(q:∀e,f e<=v↔u<=e):leO (o.map f) v↔geO o u:=by
 cases o with
 |none=>exact⟨λ _ l e=>(nomatch e),λ _ l e=>(nomatch e)⟩
 |some l=>
  constructor
  .intro z x e;cases e;exact(q l).mp (z _ rfl)
  .intro z x e;cases e;exact(q l).mpr (z _ rfl)
theorem Sn{o:Option Int}{f:Int->Int}{v:Int}{u:Int}(q:∀e,v<=f e↔u<=e):geO (o.map f) v↔geO o u:=by
 cases o with
 |none=>exact⟨λ _ l e=>(nomatch e),λ _ l e=>(nomatch e)⟩
 |some l=>
  constructor
  .intro z x e;cases e;exact(q l).mp (z _ rfl)
  .intro z x e;cases e;exact(q l).mpr (z _ rfl)
theorem Nn{o:Option Int}{f:Int->Int}{v:Int}{u:Int}(q:∀e,v<=f e↔e<=u):geO (o.map f) v↔leO o u:=by
 cases o with
 |none=>exact⟨λ _ l e=>(nomatch e),λ _ l e=>(nomatch e)⟩
 |some l=>
  constructor
  .intro z x e;cases e;exact(q l).mp (z _ rfl)
  .intro z x e;cases e;exact(q l).mpr (z _ rfl)
theorem D3{s:S}{a b v:Int}(q:a≠0):(leO (bkLo s a b) v/\geO (bkHi s a b) v)↔(leO s.lo (a*v+b)/\geO s.hi (a*v+b)):=by
 unfold bkLo bkHi;by_cases h:0<a
 .rw[if_pos h,if_pos h];have e:a*-v=-(a*v):=Qq _ _;have k1:=Sb (o:=s.lo) (f:=λ e=>-((b-e).fdiv a)) (v:=v) (u:=a*v+b) (p:=True) λ e=>by
   have:=n_ (v:=-v) (x:=b-e) h;lia
  have k2:=Sn (o:=s.hi) (f:=λ e=>(e-b).fdiv a) (v:=v) (u:=a*v+b) λ e=>by
   have:=n_ (v:=v) (x:=e-b) h;lia
  rw[k1,k2]
 .have h':a<0:=by lia
  rw[if_neg h,if_neg h];have e:a*-v=-(a*v):=Qq _ _;have k1:=Nh (o:=s.hi) (f:=λ e=>-((b-e).fdiv a)) (v:=v) (u:=a*v+b) λ e=>by
   have:=qG (v:=-v) (x:=b-e) h';lia
  have k2:=Nn (o:=s.lo) (f:=λ e=>(e-b).fdiv a) (v:=v) (u:=a*v+b) λ e=>by
   have:=qG (v:=v) (x:=e-b) h';lia
  rw[k1,k2];exact And.comm
theorem back_ok(c:Canon s)(ha:a≠0)(E:Euc a s.st g f):Tells (back2 s a b g f) (λ v=>mem s (a*v+b)):=by
 obtain⟨p,⟨q,Z⟩,⟨J,Y⟩,hi⟩:=E;unfold back2;by_cases h:(s.re-b)%g=0
 .rw[if_pos h];obtain⟨w,n⟩:=Int.dvd_of_emod_eq_zero h;have e1:s.st/g=J:=by rw[Y];exact Q1 _ (by lia)
  have e2:(s.re-b)/g=w:=by rw[n];exact Q1 _ (by lia)
  rw[e1,e2];have mp:0<J:=by have:=c.pos;rw[Y]at this;exact Z2 this (by lia)
  have j:J∣q*f-1:=by
   obtain⟨k,e⟩:=hi;refine⟨k,?_⟩;have:g*(q*f-1)=g*(J*k):=by rw[Qp,<-jc,<-Z,Z0,e,Y,jc]
   exact Int.eq_of_mul_eq_mul_left (by lia) this
  have i:∀v,v%J=w*f%J↔(a*v+b)%s.st=s.re:=λ v=>by
   rw[iz,vB c.r0 c.r1];have e3:a*v+b-s.re=g*(q*v-w):=by rw[Qp,<-n,<-jc,<-Z];lia
   rw[e3,Y];constructor
   .intro d;refine Int.mul_dvd_mul_left g ?_;have e4:q*v-w=q*(v-w*f)+w*(q*f-1):=by rw[Qp,Qp,Z0,show q*(w*f)=w*(q*f) by rw[<-jc,<-jc,Qv q w]];lia
    rw[e4];exact Int.dvd_add (jr d (Zg _ _)) (jr j (Zg _ _))
   .intro d;have d:=Int.dvd_of_mul_dvd_mul_left (by lia) d;have e4:v-w*f=f*(q*v-w)-v*(q*f-1):=by rw[Qp,Qp,Z0,show v*(q*f)=f*(q*v) by rw[Qv v,jc,Int.mul_left_comm],Qv w f];lia
    rw[e4];exact Int.dvd_sub (jr d (Zg _ _)) (jr j (Zg _ _))
  refine(made_ok mp (jh _ (by lia)) (y9 _ mp)).imp λ v=>⟨λ m=>?_,λ m=>?_⟩
  .obtain⟨x,y⟩:=(D3 ha).mp ⟨m.l,m.h⟩;exact⟨x,y,(i v).mp m.r⟩
  .obtain⟨x,y⟩:=(D3 ha).mpr ⟨m.l,m.h⟩;exact⟨x,y,(i v).mpr m.r⟩
 .rw[if_neg h];intro v m;refine h (Int.emod_eq_zero_of_dvd ?_);have d:=jr ⟨J,Y⟩ ((vB c.r0 c.r1).mp m.r);have o:g∣a*v:=⟨q*v,by rw[Z,jc]⟩;have:=Int.dvd_sub o d;rw[show a*v-(a*v+b-s.re)=s.re-b by lia]at this;exact this
structure EI(a m g o s t:Int):Prop where
 g0:0<=g
 o0:0<=o
 gm:g<=m
 om:o<=m
 go:0<g+o
 cs:m∣a*s-g
 ct:m∣a*t-o
 dv:∀d,d∣g->d∣o->d∣a%m/\d∣m
 sm:s.natAbs<=m.toNat
 tm:t.natAbs<=m.toNat
 pr:s.natAbs*o.toNat+t.natAbs*g.toNat<=m.toNat
theorem EI.start(q:0<m):EI a m (a%m) m 1 0:=by
 have J:=jh a (Q8 q);have b:=y9 a q;refine⟨J,by lia,by lia,yk _,by lia,?_,?_,λ d x y=>⟨x,y⟩,?_,by simp,by simp⟩
 .rw[Z0];exact Int.dvd_self_sub_emod
 .rw[Int.mul_zero];exact⟨-1,by lia⟩
 .lia
theorem EI.turn(E:EI a m g o s t)(h:o≠0):EI a m o (g-g/o*o) t (s-g/o*t)/\(g-g/o*o).toNat<o.toNat:=by
 have:=E.o0;have b:0<o:=by lia
 have e:g-g/o*o=g%o:=by rw[Int.emod_def,Qv]
 have i:=jh g (Q8 b);have k:=y9 g b;have Y:=Yk E.g0 E.o0;have q:t.natAbs*(g%o).toNat+(s-g/o*t).natAbs*o.toNat<=m.toNat:=by
  have c:(s-g/o*t).natAbs<=s.natAbs+(g/o).toNat*t.natAbs:=by refine zc (Qi _ _) ?_;rw[Yt,show(g/o).natAbs=(g/o).toNat by lia];exact qj _
  have f:g.toNat=o.toNat*(g/o).toNat+(g%o).toNat:=by
   have:=Zc g o;have e1:((o.toNat*(g/o).toNat:Nat):Int)=o*(g/o):=by rw[Int.natCast_mul,Int.toNat_of_nonneg E.o0,Int.toNat_of_nonneg Y]
   lia
  have J:=E.pr;rw[f]at J;have Z:=Ys o.toNat c;rw[Nat.add_mul]at Z;rw[Nat.mul_add]at J;have j:(g/o).toNat*t.natAbs*o.toNat=t.natAbs*(o.toNat*(g/o).toNat):=by rw[Nat.mul_comm _ t.natAbs,Nat.mul_assoc,Nat.mul_comm o.toNat]
  lia
 rw[e];refine⟨⟨E.o0,i,E.om,by have:=E.om;lia,by lia,E.ct,?_,λ d x y=>?_,E.tm,?_,q⟩,by lia⟩
 .rw[show a*(s-g/o*t)-g%o=(a*s-g)-g/o*(a*t-o) by
   rw[<-e,Qp,Qp,show a*(g/o*t)=g/o*(a*t) by rw[Int.mul_left_comm]];lia]
  exact Int.dvd_sub E.cs (jr E.ct (Zg _ _))
 .refine E.dv d ?_ x;have:=Zc g o;rw[<-this];exact Int.dvd_add (jr x (Int.dvd_mul_right _ _)) y
 .have:=zc (Nat.le_add_left _ _) q;exact zc (Nat.le_mul_of_pos_right _ (by lia)) this
theorem EI.fin(q:0<m)(E:EI a m g 0 s t):Euc a m g s:=by obtain⟨c,b⟩:=E.dv g (Int.dvd_refl g) (Int.dvd_zero g);have:=E.g0;have:=E.go;refine⟨by lia,?_,b,E.cs⟩;have:=Zc a m;rw[<-this];exact Int.dvd_add (jr b (Int.dvd_mul_right _ _)) c
structure Bd(s:S)(n:Nat):Prop where
 st:s.st.natAbs<=n
 re:s.re.natAbs<=n
 lo:∀l,s.lo=some l->l.natAbs<=n
 hi:∀l,s.hi=some l->l.natAbs<=n
def BdO(r:Option S)(n:Nat):Prop:=∀s,r=some s->Bd s n
theorem Bd.mono(b:Bd s n)(h:n<=m):Bd s m:=⟨zc b.st h,zc b.re h,λ l e=>zc (b.lo l e) h,λ l e=>zc (b.hi l e) h⟩
def OB(o:Option Int)(n:Nat):Prop:=∀l,o=some l->l.natAbs<=n
theorem made_bd{lo hi:Option Int}{st re:Int}{n m:Nat}(h1:OB lo n)(h2:OB hi n)(h3:st.natAbs<=m)(Z:0<st):BdO (made lo hi st re) (n+m):=λ s e=>by
 unfold made at e;by_cases h:0<=re/\re<st
 .rw[if_pos h]at e;have c:OB (first lo st re) (n+m):=λ l q=>by
   cases lo with
   |none=>cases q
   |some x=>
    cases q;have:=h1 x rfl;have a:=jh (re-x) (Q8 Z);have b:=y9 (re-x) Z;exact zc (Int.natAbs_add_le _ _) (Nat.add_le_add this (by lia))
  have d:OB (last hi st re) (n+m):=λ l q=>by
   cases hi with
   |none=>cases q
   |some x=>
    cases q;have:=h2 x rfl;have a:=jh (x-re) (Q8 Z);have b:=y9 (x-re) Z;exact zc (Qi _ _) (Nat.add_le_add this (by lia))
  generalize first lo st re=f at e c
  generalize last hi st re=g at e d;have fin:∀J Y,J.natAbs<=n+m->Y.natAbs<=n+m->Bd ⟨f,g,J,Y⟩ (n+m):=λ J Y a b=>⟨a,b,c,d⟩
  unfold made2 at e;split at e
  .split at e
   .cases e
   .split at e
    .cases e;exact fin 1 0 (by show 1<=n+m;lia) (by show 0<=n+m;lia)
    .cases e;exact fin st re (by lia) (by lia)
  .cases e;exact fin st re (by lia) (by lia)
 .rw[if_neg h]at e;cases e
theorem ug{x a:Int}(h:a≠0):(x.fdiv a).natAbs<=x.natAbs:=by
 by_cases q:0<a
 .rw[yp _ (by lia)];exact Qw _ _
 .rw[<-Int.neg_fdiv_neg,yp _ (by lia)];exact zc (Qw _ _) (by rw[Int.natAbs_neg];exact qj _)
theorem back_bd{s:S}{a b g f:Int}{n:Nat}(c:Canon s)(E:Euc a s.st g f)(J:a≠0)(bs:Bd s n)(hb:b.natAbs<=n):BdO (back2 s a b g f) (n+n+n):=by
 unfold back2;split
 .have d:=E.pos;have sp:0<s.st/g:=by obtain⟨Z,Y⟩:=E.dm;rw[Y,Q1 _ (by lia)];have:=c.pos;rw[Y]at this;exact Z2 this (by lia)
  refine made_bd (n:=n+n) (λ l e=>?_) (λ l e=>?_) ?_ sp
  .unfold bkLo at e;cases q:(if 0<a then s.lo else s.hi)with
   |none=>rw[q]at e;cases e
   |some x=>
    rw[q]at e;cases e;have hx:x.natAbs<=n:=by
     split at q
     .exact bs.lo x q
     .exact bs.hi x q
    show(-(b-x).fdiv a).natAbs<=n+n;rw[Int.natAbs_neg];exact zc (ug J) (zc (Qi b x) (by lia))
  .unfold bkHi at e;cases q:(if 0<a then s.hi else s.lo)with
   |none=>rw[q]at e;cases e
   |some x=>
    rw[q]at e;cases e;have hx:x.natAbs<=n:=by
     split at q
     .exact bs.hi x q
     .exact bs.lo x q
    exact zc (ug J) (zc (Qi x b) (by lia))
  .exact zc (Qw _ _) bs.st
 .intro s e;cases e
theorem uV(h:OB o n)(q:a.natAbs<=m)(Y:b.natAbs<=m):OB (mv a b o) (m*n+m):=λ l e=>by
 cases o with
 |none=>cases e
 |some x=>
  cases e;have c:=h x rfl;have d:=Int.natAbs_add_le (a*x) b;rw[Yt]at d;have J:=Nat.mul_le_mul q c;show(a*x+b).natAbs<=m*n+m;lia
theorem ab_abs(a:Int):(ab a).natAbs=a.natAbs:=by unfold ab;split<;>lia
theorem Nd(c:Canon s)(Y:a≠0)(bs:Bd s n)(h1:a.natAbs<=m)(h2:b.natAbs<=m):BdO (moved s a b) (m*n+m+m*n):=by
 have J:=Int.mul_pos (ab_pos Y) c.pos;have q:(ab a*s.st).natAbs<=m*n:=by rw[Yt,ab_abs];exact Nat.mul_le_mul h1 bs.st
 unfold moved;split
 .exact made_bd (uV bs.hi h1 h2) (uV bs.lo h1 h2) q J
 .exact made_bd (uV bs.lo h1 h2) (uV bs.hi h1 h2) q J
noncomputable def lowB(a b:Option Int):Option Int:=match a,b with
 |none,b=>b
 |a,none=>a
 |some x,some y=>some (if y>x then y else x)
noncomputable def uppB(a b:Option Int):Option Int:=match a,b with
 |none,b=>b
 |a,none=>a
 |some x,some y=>some (if y<x then y else x)
theorem g7:leO (lowB a b) v↔leO a v/\leO b v:=by
 cases a with
 |none=>exact⟨λ h=>⟨λ l e=>(nomatch e),h⟩,λ h=>h.2⟩
 |some x=>
  cases b with
  |none=>exact⟨λ h=>⟨h,λ l e=>(nomatch e)⟩,λ h=>h.1⟩
  |some y=>
   constructor
   .intro h;have:=h _ rfl;refine⟨λ l e=>?_,λ l e=>?_⟩<;>cases e<;>split at this<;>lia
   .rintro ⟨c,d⟩ l e;cases e;have:=c x rfl;have:=d y rfl;split<;>lia
theorem g_:geO (uppB a b) v↔geO a v/\geO b v:=by
 cases a with
 |none=>exact⟨λ h=>⟨λ l e=>(nomatch e),h⟩,λ h=>h.2⟩
 |some x=>
  cases b with
  |none=>exact⟨λ h=>⟨h,λ l e=>(nomatch e)⟩,λ h=>h.1⟩
  |some y=>
   constructor
   .intro h;have:=h _ rfl;refine⟨λ l e=>?_,λ l e=>?_⟩<;>cases e<;>split at this<;>lia
   .rintro ⟨c,d⟩ l e;cases e;have:=c x rfl;have:=d y rfl;split<;>lia
theorem R8(h1:OB a n)(h2:OB b n):OB (lowB a b) n:=λ l e=>by
 cases a with
 |none=>exact h2 l e
 |some x=>
  cases b with
  |none=>exact h1 l e
  |some y=>
   cases e;have:=h1 x rfl;have:=h2 y rfl;split<;>lia
theorem NT(h1:OB a n)(h2:OB b n):OB (uppB a b) n:=λ l e=>by
 cases a with
 |none=>exact h2 l e
 |some x=>
  cases b with
  |none=>exact h1 l e
  |some y=>
   cases e;have:=h1 x rfl;have:=h2 y rfl;split<;>lia
def between(s:S)(lo hi:Option Int):Option S:=made (lowB s.lo lo) (uppB s.hi hi) s.st s.re
theorem Pn(c:Canon s):Tells (between s lo hi) (λ v=>mem s v/\leO lo v/\geO hi v):=by
 refine(made_ok c.pos c.r0 c.r1).imp λ v=>⟨λ m=>?_,fun⟨m,a,b⟩=>?_⟩
 .obtain⟨a,b⟩:=g7.mp m.l;obtain⟨q,J⟩:=g_.mp m.h;exact⟨⟨a,q,m.r⟩,b,J⟩
 .exact⟨g7.mpr ⟨m.l,a⟩,g_.mpr ⟨m.h,b⟩,m.r⟩
theorem Pp(c:Canon s)(bs:Bd s n)(h1:OB lo n)(h2:OB hi n):BdO (between s lo hi) (n+n):=
 made_bd (R8 bs.lo h1) (NT bs.hi h2) bs.st c.pos
def meet2(one q:S)(g f:Int):Option S:=match back2 q one.st one.re g f with
 |none=>none
 |some t=>match moved t one.st one.re with
  |none=>none
  |some u=>between u one.lo one.hi
theorem meet_ok(Z:Canon one)(c2:Canon q)(E:Euc one.st q.st g f):Tells (meet2 one q g f) (λ v=>mem one v/\mem q v):=by
 have J:=back_ok (b:=one.re) c2 (by have:=Z.pos;lia) E;have c:∀v,v%one.st=one.re↔∃k,v=one.st*k+one.re:=λ v=>by
  constructor
  .intro h;refine⟨v/one.st,?_⟩;have:=Zc v one.st;lia
  .rintro ⟨k,rfl⟩;rw[Int.mul_add_emod_self_left,jf Z.r0 Z.r1]
 unfold meet2;cases e:back2 q one.st one.re g f with
 |none=>
  rw[e]at J;intro v ⟨Y,d⟩;obtain⟨k,rfl⟩:=(c v).mp Y.r;exact J k d
 |some t=>
  rw[e]at J;obtain⟨u,n,j,i,_⟩:=moved_some J.1 (show one.st≠0 by have:=Z.pos;lia);dsimp only;rw[n];refine(Pn j).imp λ v=>⟨fun⟨m,a,b⟩=>?_,fun⟨Y,d⟩=>?_⟩
  .obtain⟨k,mk,rfl⟩:=(i v).mp m;exact⟨⟨a,b,(c _).mpr ⟨k,rfl⟩⟩,(J.2 k).mp mk⟩
  .obtain⟨k,rfl⟩:=(c v).mp Y.r;exact⟨(i _).mpr ⟨k,(J.2 k).mpr d,rfl⟩,Y.l,Y.h⟩
theorem meet_bd(c1:Canon one)(c2:Canon J)(E:Euc one.st J.st g f)(h1:1<=n)(Y:Bd one n)(b2:Bd J n):BdO (meet2 one J g f) (16*(n*n)):=by
 have Z:one.st≠0:=by have:=c1.pos;lia
 have c:=back_ok (b:=one.re) c2 Z E;have d:=back_bd c2 E Z b2 Y.re;have k:=Nat.le_mul_of_pos_left n h1;intro s e;unfold meet2 at e;cases q:back2 J one.st one.re g f with
 |none=>rw[q]at e;cases e
 |some t=>
  rw[q]at e c;have bt:=d t q;dsimp only at e;cases a:moved t one.st one.re with
  |none=>rw[a]at e;cases e
  |some u=>
   rw[a]at e;have i:=Nd c.1 Z bt Y.st Y.re u a;have j:Canon u:=by have:=FI (b:=one.re) c.1 Z;rw[a]at this;exact this.1
   have e1:n*(n+n+n)=n*n+n*n+n*n:=by rw[Nat.mul_add,Nat.mul_add]
   have h:=i.mono (m:=8*(n*n)) (by lia);refine(Pp j h (λ l z=>zc (Y.lo l z) (by lia)) (λ l z=>zc (Y.hi l z) (by lia)) s e).mono (by lia)
end St
namespace Fx
open PySem
noncomputable def dO:Option Int->D
 |none=>.non
 |some i=>.int i
def dS(s:St.S):D:=.tup [dO s.lo,dO s.hi,.int s.st,.int s.re]
def gH:Option St.S->D
 |none=>.non
 |some s=>dS s
@[simp] theorem nM:dO none=.non:=rfl
@[simp] theorem Wf:dO (some i)=.int i:=rfl
@[simp] theorem WW:gH none=.non:=rfl
@[simp] theorem WV:gH (some s)=dS s:=rfl
@[simp] theorem Ez:dS ⟨lo,hi,st,re⟩=.tup [dO lo,dO hi,.int st,.int re]:=rfl
@[simp] theorem Xq(s:St.S):fy (dS s)=false:=rfl
theorem hV{a b:Int}(h:0<b):a.fmod b=a%b:=Int.fmod_eq_emod_of_nonneg a (by lia)
def Rtt(x:Option bM)(d:D):Prop:=∃t,x=some (.rt d t)
theorem Rtt.seq(h:F U=some (.nx ρ'))(H:Rtt (G ρ') d):Rtt (aM F G U) d:=by obtain⟨t,e⟩:=H;exact⟨t,by simp[h,e]⟩
theorem Rtt.no(h:T U=some (false,U))(H:Rtt (B U) d):Rtt (aM (bP T A sN) B U) d:=.seq (by simp[h]) H
theorem Rtt.yes(h:T U=some (true,U))(H:Rtt (A U) d):Rtt (aM (bP T A sN) B U) d:=by obtain⟨t,e⟩:=H;exact⟨t,by simp[h,e]⟩
theorem Rtt.ret(h:F U=some (d,U)):Rtt (bD F U) d:=⟨U,by simp[h]⟩
theorem Rtt.fn(q:ds.length=n)(h:Rtt (B (ds.map .im++List.replicate k .no)) d):c9 n k B ds=some d:=by obtain⟨t,e⟩:=h;simp[q,e]
theorem n8(lo hi:Option Int)(st re:Int):fj [dO lo,dO hi,.int st,.int re]=some (gH (St.made lo hi st re)):=by
 by_cases h:0<=re/\re<st
 .have J:0<st:=by lia
  have q:¬st=0:=by lia
  unfold St.made;rw[if_pos h];refine Rtt.fn rfl (.no (by simp[h.1,h.2]) (.seq (ρ':=[.im (dO lo),.im (dO hi),.im (.int st),.im (.int re),.im (dO (St.first lo st re)),.no]) (by cases lo<;>simp[St.first,q,hV J]) (.seq (ρ':=[.im (dO lo),.im (dO hi),.im (.int st),.im (.int re),.im (dO (St.first lo st re)),.im (dO (St.last hi st re))]) (by cases hi<;>simp[St.last,q,hV J]) ?_)));cases St.first lo st re with
  |none=>exact .yes (by simp) (.ret (by simp[St.made2]))
  |some x=>
   cases St.last hi st re with
   |none=>exact .yes (by simp) (.ret (by simp[St.made2]))
   |some y=>
    refine .no (by simp) ?_;by_cases a:y<x
    .exact .yes (by simp[a]) (.ret (by simp[St.made2,a]))
    .refine .no (by simp[a]) ?_;by_cases b:x=y
     .exact .yes (by simp[b]) (.ret (by simp[St.made2,b]))
     .exact .no (by simp[b]) (.ret (by simp[St.made2,a,b]))
 .rw[St.made_none h];refine Rtt.fn rfl (.yes ?_ (.ret rfl));by_cases a:0<=re
  .have b:¬re<st:=λ z=>h ⟨a,z⟩;simp[a,b]
  .simp[a]
noncomputable def d_(lo:Option Int)(v:Int):Bool:=match lo with|none=>true|some l=>decide (l<=v)
noncomputable def ef(hi:Option Int)(v:Int):Bool:=match hi with|none=>true|some h=>decide (v<=h)
def cR(s:St.S)(v:Int):Bool:=d_ s.lo v&&ef s.hi v&&decide (v%s.st=s.re)
theorem zH:d_ lo v=true↔St.leO lo v:=by
 cases lo with
 |none=>exact⟨λ _ l e=>(Ka e),λ _=>rfl⟩
 |some l=>exact⟨λ h x e=>by obtain rfl:=br e;exact Qb h,λ h=>zm (h l rfl)⟩
theorem zL:ef lo v=true↔St.geO lo v:=by
 cases lo with
 |none=>exact⟨λ _ l e=>(Ka e),λ _=>rfl⟩
 |some l=>exact⟨λ h x e=>by obtain rfl:=br e;exact Qb h,λ h=>zm (h l rfl)⟩
theorem bB:cR s v=true↔St.mem s v:=by unfold cR;rw[zd,zd,zH,zL,yo];exact⟨fun⟨⟨a,b⟩,c⟩=>⟨a,b,c⟩,λ m=>⟨⟨m.l,m.h⟩,m.r⟩⟩
theorem NI(a:Int):(a.natAbs:Int)=St.ab a:=by unfold St.ab;split<;>lia
theorem ip(h:F U=some (.nx ρ')):aM F G U=G ρ':=by rw[HM,h,Hb]
theorem P5(hp:0<s.st)(ha:a≠0)(ok:∀x,(x=s.re\/s.lo=some x\/s.hi=some x)->eZ a x=true)(q:eZ (St.ab a) s.st=true):sI [dS s,.int a,.int b]=some (gH (St.moved s a b)):=by
 obtain⟨lo,hi,st,re⟩:=s;have hp:0<st:=hp;have j:=ok re (.inl rfl);have q:=q;have l:=Int.mul_pos (St.ab_pos ha) hp;have m:¬St.ab a*st=0:=by lia
 have two:(2:Nat)<=sizeLine:=by decide
 have n:∀lo hi,fj [dO lo,dO hi,.int (St.ab a*st),.int ((a*re+b)%(St.ab a*st))]=some (gH (St.made lo hi (St.ab a*st) ((a*re+b)%(St.ab a*st)))):=λ lo hi=>n8 _ _ _ _;have J:∀x y:D,di [x,y] 0=some x:=λ _ _=>rfl;have Z:∀x y:D,di [x,y] 1=some y:=λ _ _=>rfl;have g:∀x y z w:D,di [x,y,z,w] 2=some z:=λ _ _ _ _=>rfl;have i:∀x y z w:D,di [x,y,z,w] 3=some w:=λ _ _ _ _=>rfl;have c:∀x y z w:D,iO [x,y,z,w] none (some 2)=[x,y]:=λ _ _ _ _=>rfl;have e2:¬(gU 4 0 none=0/\gU 4 4 (some 2)=4):=by decide
 obtain⟨p,Y⟩:∃p:Option Int,p=(if a<0 then hi else lo).map λ e=>a*e+b:=⟨_,rfl⟩;obtain⟨r,f⟩:∃p:Option Int,p=(if a<0 then lo else hi).map λ e=>a*e+b:=⟨_,rfl⟩;have k:BY [.im (.tup [dO lo,dO hi,.int st,.int re]),.im (.int a),.im (.int b),.no,.no]=_:=(ip (ρ':=[.im (.tup [dO lo,dO hi,.int st,.int re]),.im (.int a),.im (.int b),.im (.lst [dO (lo.map λ e=>a*e+b),dO (hi.map λ e=>a*e+b)]),.no]) (by
   cases lo with
   |none=>
    cases hi with
    |none=>simp[c,e2,two]
    |some y=>simp[c,e2,two,ok y (.inr (.inr rfl))]
   |some x=>
    cases hi with
    |none=>simp[c,e2,two,ok x (.inr (.inl rfl))]
    |some y=>simp[c,e2,two,ok x (.inr (.inl rfl)),ok y (.inr (.inr rfl))])).trans ((ip (ρ':=[.im (.tup [dO lo,dO hi,.int st,.int re]),.im (.int a),.im (.int b),.im (.lst [dO p,dO r]),.no]) (by
   by_cases h:a<0<;>simp[Y,f,h,J,Z])).trans (ip (ρ':=[.im (.tup [dO lo,dO hi,.int st,.int re]),.im (.int a),.im (.int b),.im (.lst [dO p,dO r]),.im (.int (St.ab a*st))]) (by simp[g,q,NI])))
 have fin:∀{d U},BY [.im (.tup [dO lo,dO hi,.int st,.int re]),.im (.int a),.im (.int b),.no,.no]=some (.rt d U)->sI [dS ⟨lo,hi,st,re⟩,.int a,.int b]=some d:=λ h=>by
  simp[sI,List.replicate,h]
 have e:St.moved ⟨lo,hi,st,re⟩ a b=St.made p r (St.ab a*st) ((a*re+b)%(St.ab a*st)):=by unfold St.moved;rw[Y,f];by_cases h:a<0<;>simp[h,St.mv]
 rw[e];exact fin (k.trans (by simp[J,Z,i,j,m,hV l,n];rfl))
theorem B_{a b:Int}(h:0<b):a.fdiv b=a/b:=yp a (by lia)
theorem lU(h:i.natAbs<=m)(q:m<2^1000):kd i=true:=zm (jz h q)
theorem tK(h:kd i=true)(h':kd j=true):eZ i j=true:=by unfold eZ;rw[h,h'];simp
theorem xJ(h:j≠0)(h':kd j=true):jS j=true:=by grind[jS,kd]
abbrev eT:FT:=J5
abbrev eB:FS:=J6
abbrev eE(a m g s o t:Int)(x y:Sl):En:=[.im (.int a),.im (.int m),.im (.int g),.im (.int s),.im (.int o),.im (.int t),x,y]
theorem Fb(q:m.toNat<2^1000):∀(n:Nat)(g o s t:Int)(x y:Sl),St.EI a m g o s t->o.toNat<n->∃g' s' t' x' Y,iX eT eB n (eE a m g s o t x y)=some (.nx (eE a m g' s' 0 t' x' Y))/\St.EI a m g' 0 s' t'
 |0,_,_,_,_,_,_,_,h=>by lia
 |n+1,g,o,s,t,x,y,E,h=>by
  rw[A4];by_cases J:o=0
  .subst J;refine⟨g,s,t,x,y,?_,E⟩;simp
  .have:=E.o0;have:=E.g0;have:=E.gm;have:=E.om;have f:0<o:=by lia
   have Z:kd o=true:=lU (by lia) q;have i:=Yk E.g0 E.o0;have j:g/o<=g:=Int.ediv_le_self _ E.g0;have b:kd (g/o)=true:=lU (by lia) q;have bt:=lU E.tm q;have k1:=tK b Z;have k2:=tK b bt;have k3:=xJ J Z;obtain⟨c,l⟩:=E.turn J;obtain⟨g',s',t',x',Y,e,d⟩:=Fb q n o (g-g/o*o) t (s-g/o*t) (.im (.int (g/o))) (.im (.int (s-g/o*t))) c (by lia);refine⟨g',s',t',x',Y,?_,d⟩;rw[<-e];simp[J,k1,k2,k3,B_ f]
theorem TY(q:0<m)(Y:m.toNat<2^1000):∃g f,sM [.int a,.int m]=some (.tup [.int g,.int f])/\St.Euc a m g f/\f.natAbs<=m.toNat:=by
 obtain⟨g,f,t,x,y,e,E⟩:=Fb Y (m.toNat+2) (a%m) m 1 0 .no .no (St.EI.start q) (by lia);refine bE g f ?_ (E.fin q) E.sm;have J:¬m=0:=by lia
 have Z:=e;simp[sM,J9,J,hV q,List.replicate,Z]
theorem RV:(2:Nat)^900+2^900<2^1000:=by
 lia
theorem JI(h:T U=some (false,U)):aM (bP T A sN) B U=B U:=ip (by simp[h])
theorem Fo{s:St.S}(q:0<s.st)(hb:s.st.toNat<2^900)(r0:0<=s.re)(r1:s.re<s.st){a b:Int}(ha:a≠0)(ba:a.natAbs<2^900)(bb:b.natAbs<2^900):∃g f,St.Euc a s.st g f/\nh [dS s,.int a,.int b]=some (gH (St.back2 s a b g f)):=by
 obtain⟨lo,hi,st,re⟩:=s;have q:0<st:=q;have hb:st.toNat<2^900:=hb;have r0:0<=re:=r0;have r1:re<st:=r1;have M:(2:Nat)^900+2^900<2^1000:=RV;obtain⟨g,f,e,E,H⟩:=TY (a:=a) q (m:=st) (by omega);refine⟨g,f,E,?_⟩;have c:=E.pos;have gl:g<=st:=Z3 q E.dm;have Y:¬g=0:=by omega
 have k:=xJ (j:=g) (by omega) (lU (m:=st.toNat) (by omega) (by omega));have v:=xJ (j:=a) ha (lU (m:=a.natAbs) (qj _) (by omega));have G:((re-b)/g).natAbs<=2^900+2^900:=by
  have I:(re-b).natAbs<=2^900+2^900:=by omega
  refine zc ?_ I;exact Qw _ _
 have k1:=tK (i:=(re-b)/g) (j:=f) (lU G (by omega)) (lU H (by omega));have sp:0<st/g:=by obtain⟨σ,u⟩:=E.dm;rw[u,Q1 _ Y];rw[u]at q;exact Z2 q (by omega)
 have sn:¬st/g=0:=by omega
 have o:∀x y:D,di [x,y] 0=some x:=λ _ _=>rfl;have Z:∀x y:D,di [x,y] 1=some y:=λ _ _=>rfl;have F:∀x y z w:D,di [x,y,z,w] 0=some x:=λ _ _ _ _=>rfl;have B:∀x y z w:D,di [x,y,z,w] 1=some y:=λ _ _ _ _=>rfl;have J:∀x y z w:D,di [x,y,z,w] 2=some z:=λ _ _ _ _=>rfl;have C:∀x y z w:D,di [x,y,z,w] 3=some w:=λ _ _ _ _=>rfl;have K:∀lo hi,fj [dO lo,dO hi,.int (st/g),.int ((re-b)/g*f%(st/g))]=some (gH (St.made lo hi (st/g) ((re-b)/g*f%(st/g)))):=λ lo hi=>n8 _ _ _ _;obtain⟨p,l⟩:∃p:Option Int,p=if 0<a then lo else hi:=⟨_,rfl⟩;obtain⟨r,t⟩:∃p:Option Int,p=if 0<a then hi else lo:=⟨_,rfl⟩;unfold St.back2 St.bkLo St.bkHi;dsimp only;rw[<-l,<-t];have n:BO [.im (.tup [dO lo,dO hi,.int st,.int re]),.im (.int a),.im (.int b),.no,.no,.no,.no,.no,.no,.no]=_:=(JI (by simp[ha])).trans ((ip (ρ':=[.im (.tup [dO lo,dO hi,.int st,.int re]),.im (.int a),.im (.int b),.im (.tup [.int g,.int f]),.no,.no,.no,.no,.no,.no]) (by simp[e,J])).trans ((ip (ρ':=[.im (.tup [dO lo,dO hi,.int st,.int re]),.im (.int a),.im (.int b),.im (.tup [.int g,.int f]),.im (.int g),.no,.no,.no,.no,.no]) (by simp[o])).trans (ip (ρ':=[.im (.tup [dO lo,dO hi,.int st,.int re]),.im (.int a),.im (.int b),.im (.tup [.int g,.int f]),.im (.int g),.im (.int (re-b)),.no,.no,.no,.no]) (by simp[C]))))
 have fin:∀{d U},BO [.im (.tup [dO lo,dO hi,.int st,.int re]),.im (.int a),.im (.int b),.no,.no,.no,.no,.no,.no,.no]=some (.rt d U)->nh [dS ⟨lo,hi,st,re⟩,.int a,.int b]=some d:=λ h=>by
  show nh [.tup [dO lo,dO hi,.int st,.int re],.int a,.int b]=some _;simp[nh,List.replicate,h]
 by_cases hd:(re-b)%g=0
 .rw[if_pos hd];have A:=n.trans ((JI (by simp[Y,k,hV c,hd])).trans ((ip (ρ':=[.im (.tup [dO lo,dO hi,.int st,.int re]),.im (.int a),.im (.int b),.im (.tup [.int g,.int f]),.im (.int g),.im (.int (re-b)),.im (.int (st/g)),.no,.no,.no]) (by simp[J,Y,k,B_ c])).trans ((ip (ρ':=[.im (.tup [dO lo,dO hi,.int st,.int re]),.im (.int a),.im (.int b),.im (.tup [.int g,.int f]),.im (.int g),.im (.int (re-b)),.im (.int (st/g)),.im (.lst [dO p,dO r]),.no,.no]) (by
   by_cases h:0<a<;>simp[l,t,h,F,B])).trans ((ip (ρ':=[.im (.tup [dO lo,dO hi,.int st,.int re]),.im (.int a),.im (.int b),.im (.tup [.int g,.int f]),.im (.int g),.im (.int (re-b)),.im (.int (st/g)),.im (.lst [dO p,dO r]),.im (dO (p.map λ e=>-(b-e).fdiv a)),.no]) (by
   cases p<;>simp[o,ha,v])).trans (ip (ρ':=[.im (.tup [dO lo,dO hi,.int st,.int re]),.im (.int a),.im (.int b),.im (.tup [.int g,.int f]),.im (.int g),.im (.int (re-b)),.im (.int (st/g)),.im (.lst [dO p,dO r]),.im (dO (p.map λ e=>-(b-e).fdiv a)),.im (dO (r.map λ e=>(e-b).fdiv a))]) (by cases r<;>simp[Z,ha,v]))))))
  exact fin (A.trans (by simp[Z,Y,k,k1,sn,B_ c,hV sp,K];rfl))
 .rw[if_neg hd];exact fin (n.trans (by simp[Y,k,hV c,hd];rfl))
theorem dz(x y z w:D):di [x,y,z,w] 0=some x:=rfl
theorem jA(x y z w:D):di [x,y,z,w] 1=some y:=rfl
theorem jZ(x y z w:D):di [x,y,z,w] 2=some z:=rfl
theorem dD(x y z w:D):di [x,y,z,w] 3=some w:=rfl
@[simp] theorem W5:cD (dO o)=0:=by cases o<;>rfl
@[simp] theorem Xr(o:Option Int):fy (dO o)=o.isNone:=by cases o<;>rfl
theorem Tq(a b:Option Int):sR [dO a,dO b]=some (dO (St.lowB a b)):=by
 cases a with
 |none=>cases b<;>simp[sR,Cp,St.lowB]
 |some x=>cases b<;>simp[sR,Cp,St.lowB]
theorem uZ(a b:Option Int):nH [dO a,dO b]=some (dO (St.uppB a b)):=by
 cases a with
 |none=>cases b<;>simp[nH,Co,St.uppB]
 |some x=>cases b<;>simp[nH,Co,St.uppB]
theorem Po(s:St.S)(lo hi:Option Int):vZ [dS s,dO lo,dO hi]=some (gH (St.between s lo hi)):=by obtain⟨l,h,st,a⟩:=s;simp[vZ,Kp,dz,jA,jZ,dD,Tq,uZ,n8,St.between]
theorem oj(h:i.natAbs<=2^k)(q:k<1000):kd i=true:=lU h (Yq (by decide) q)
theorem oP(h:n<=2^k)(q:k<900):n<2^900:=jz h (Yq (by decide) q)
theorem AS(c1:St.Canon one)(Y:St.Canon J)(hk:k<=450)(Z:St.Bd one (2^k))(b2:St.Bd J (2^k)):∃r,pS [dS one,dS J]=some (gH r)/\St.Tells r (λ v=>St.mem one v/\St.mem J v)/\St.BdO r (2^(2*k+4)):=by
 have a:one.st≠0:=by have:=c1.pos;lia
 have n:=Y.pos;have o:=b2.st;obtain⟨g,f,E,e1⟩:=Fo Y.pos (oP (k:=k) (by lia) (by lia)) Y.r0 Y.r1 a (oP Z.st (by lia)) (oP Z.re (by lia));have j:1<=2^k:=Y1;refine⟨St.meet2 one J g f,?_,St.meet_ok c1 Y E,?_⟩
 .have c:=St.back_ok (b:=one.re) Y a E;have d:=St.back_bd Y E a b2 Z.re;unfold St.meet2;cases q:St.back2 J one.st one.re g f with
  |none=>
   rw[q]at e1;obtain⟨l,h,st,re⟩:=one;simp[pS,Ck,jZ,dD,e1]
  |some t=>
   rw[q]at e1 c;have bt:=(d t q).mono (m:=2^(k+2)) (by rw[Zw];lia);have e2:=P5 (b:=one.re) c.1.pos a (λ x hx=>tK (oj Z.st (by lia)) (by
     rcases hx with z|z|z
     .rw[z];exact oj bt.re (by lia)
     .exact oj (bt.lo x z) (by lia)
     .exact oj (bt.hi x z) (by lia))) (tK (by
     have:(St.ab one.st).natAbs<=2^k:=by rw[St.ab_abs];exact Z.st
     exact oj this (by lia)) (oj bt.st (by lia)))
   dsimp only;obtain⟨u,i,_⟩:=St.moved_some c.1 a;rw[i]at e2⊢;have e3:=Po u one.lo one.hi;obtain⟨l,h,st,re⟩:=one;simp[pS,Ck,dz,jA,jZ,dD,e1,e2,e3]
 .intro s e;refine(St.meet_bd c1 Y E j Z b2 s e).mono ?_;rw[Zw,Nat.two_mul,Zw];lia
@[simp] theorem Xy(s:St.S):cD (dS s)<=30:=by obtain⟨l,h,st,a⟩:=s;simp
@[simp] theorem Xu(r:Option St.S):cD (gH r)<=30:=by cases r<;>simp
def HD(o:Option bM):Option (D×MO):=aF o λ r=>Ay r
def Ic(d:D)(o:Option (Bool×MO)):Option (D×MO):=aF o λ q=>if q.1=true then some (d,q.2)else none
def JK(F:En->Option MO)(o:Option bM):Option MO:=aF o λ r=>match r with
 |.nx ρ'=>F ρ'
 |_=>none
def AB(js:List Nat)(i q:Nat)(U:En)(b:Bool)(xs:List D)(o:Option (List D×MO)):Option (D×En):=aF o λ t=>if xs.length<=sizeLine/\js[q]?=some i/\js.Nodup then some (.lst t.1,U.set i (.ow b t.2))else none
def HA(js:List Nat)(i q:Nat)(T:FT)(F:FE)(xs:List D)(U:En)(o:Option (Bool×MO)):Option (D×En):=aF o λ w=>AB js i q U w.1 xs (iQ T F U i js q w.2 xs)
def A0(js:List Nat)(i q:Nat)(T:FT)(F:FE)(U:En)(o:Option (List D)):Option (D×En):=aF o λ xs=>tj js i q T F xs U
def IF(js:List Nat)(i q:Nat)(T:FT)(F:FE)(o:Option (D×En)):Option (D×En):=aF o λ p=>A0 js i q T F p.2 (items p.1)
@[simp] theorem XY:(∀n k B o ds,iD n k B o ds=if ds.length=n then HD (B (.ow true o::(ds.map .im++List.replicate k .no)))else none)/\(∀d U,HD (some (.rt d U))=Ic d (gf U[0]?))/\(∀d o,Ic d (some (true,o))=some (d,o))/\(∀n k F ds,nJ n k F ds=if ds.length=n then F (ds.map .im++List.replicate k .no)else none)/\(∀A F U,pI A F U=JK F (A U))/\(∀F U,JK F (some (.nx U))=F U)/\(∀js i q T F xs U,tj js i q T F xs U=HA js i q T F xs U (gf U[i]?))/\(∀js i q T F xs U b o,HA js i q T F xs U (some (b,o))=AB js i q U b xs (iQ T F U i js q o xs))/\(∀js i q U b xs ys o,AB js i q U b xs (some (ys,o))=if xs.length<=sizeLine/\js[q]?=some i/\js.Nodup then some (.lst ys,U.set i (.ow b o))else none)/\(∀js i q I T F U,sj js i q I T F U=IF js i q T F (I U))/\(∀js i q T F x U,IF js i q T F (some (x,U))=A0 js i q T F U (items x))/\(∀js i q T F U xs,A0 js i q T F U (some xs)=tj js i q T F xs U):=by and_intros<;>intros<;>rfl
noncomputable def eX(ns:List Int)(wy l a nb kk:Int):List (Str×D):=[(Str.ofString "script",.lst (ns.map .int)),(Str.ofString "way",.int wy),(Str.ofString "left",.int l),(Str.ofString "at",.int a),(Str.ofString "number",.int nb),(Str.ofString "k",.int kk)]
section
variable(ns:List Int)(wy l a nb kk:Int)(d:Int)
theorem sJ:cy (Str.ofString "script") (eX ns wy l a nb kk)=some (.lst (ns.map .int)):=rfl
theorem vY:cy (Str.ofString "way") (eX ns wy l a nb kk)=some (.int wy):=rfl
theorem mB:cy (Str.ofString "left") (eX ns wy l a nb kk)=some (.int l):=rfl
theorem BP:cy (Str.ofString "at") (eX ns wy l a nb kk)=some (.int a):=rfl
theorem JN:cy (Str.ofString "number") (eX ns wy l a nb kk)=some (.int nb):=rfl
theorem JM:cy (Str.ofString "k") (eX ns wy l a nb kk)=some (.int kk):=rfl
theorem Cz:hQ (Str.ofString "left") (.int d) (eX ns wy l a nb kk)=eX ns wy d a nb kk:=rfl
theorem Wj:hQ (Str.ofString "at") (.int d) (eX ns wy l a nb kk)=eX ns wy l d nb kk:=rfl
theorem KC:hQ (Str.ofString "number") (.int d) (eX ns wy l a nb kk)=eX ns wy l a d kk:=rfl
theorem KA:hQ (Str.ofString "k") (.int d) (eX ns wy l a nb kk)=eX ns wy l a nb d:=rfl
theorem rO:(eX ns wy l a nb kk).length=6:=rfl
end
theorem Eo(ns:List Int){i:Int}(q:0<=i)(h1:i<ns.length):∃x:Int,di (ns.map D.int) i=some (.int x):=by
 have hi:i.toNat<ns.length:=by lia
 refine⟨ns[i.toNat],?_⟩;unfold di ny;rw[qw,if_pos q,if_pos h1];show(ns.map D.int)[i.toNat]?=_;rw[zo,zk hi];rfl
theorem zN(ns:List Int)(q:0<=k):∃x:Int,nI [.lst (ns.map .int),.int k]=some (.int x):=by
 by_cases h:k<ns.length
 .obtain⟨x,e⟩:=Eo ns q h;exact⟨x,by simp[nI,Cs,h,e]⟩
 .exact⟨0,by simp[nI,Cs,h]⟩
theorem FJ(c k:Int):∃r:Int,mJ [.int c,.int k]=some (.int r)/\0<=r:=by
 have a:∀x:Int,0<=Int.fmod x 2147483647/\Int.fmod x 2147483647<2147483647:=λ x=>⟨yv _ (by decide),j6 _ (by decide)⟩
 have Y:∀x:Int,eZ x 48271=true:=λ x=>qC (by decide);have Z:eZ 7919 k=true:=qS (by decide);have q:∀x y:Int,eZ (Int.fmod x 2147483647) y=true:=λ x y=>qS (by have:=a x;lia);have J:jS 1009=true:=ux (by decide) (by decide);exact⟨_,by simp[mJ,CN,Y,Z,q,J];rfl,(a _).1⟩
abbrev mA(ns:List Int)(wy l a nb kk:Int)(s1 s2:Sl):En:=[.ow true (.dic (eX ns wy l a nb kk)),s1,s2]
theorem Sz(h:¬(wy=1/\l=0/\a<ns.length)):mH (mA ns wy l a nb kk s1 s2)=some (false,mA ns wy l a nb kk s1 s2):=by
 by_cases b:wy=1
 .by_cases c:l=0
  .have q:¬a<ns.length:=λ z=>h ⟨b,c,z⟩;simp[mH,vY,mB,BP,sJ,b,c,q]
  .simp[mH,vY,mB,b,c]
 .simp[mH,vY,b]
theorem Nz(h1:wy=1)(h2:l=0)(q:a<ns.length):mH (mA ns wy l a nb kk s1 s2)=some (true,mA ns wy l a nb kk s1 s2):=by simp[mH,vY,mB,BP,sJ,h1,h2,q]
theorem Pu(J:0<=a)(Y:a<ns.length):∃q:Int,wj (mA ns wy l a nb kk s1 s2)=some (.nx (mA ns wy q (a+1) nb kk s1 s2))/\0<=q:=by obtain⟨x,e⟩:=Eo ns J Y;refine⟨(x.natAbs:Int),?_,by lia⟩;simp[wj,mB,BP,sJ,e,rO,Cz,Wj]
theorem CU(ns:List Int)(wy nb kk:Int)(s1 s2:Sl):∀(m:Nat)(l a:Int),0<=l->1<=a->(ns.length:Int)-a<m->∀f,m<f->∃q Y:Int,iX mH wj f (mA ns wy l a nb kk s1 s2)=some (.nx (mA ns wy q Y nb kk s1 s2))/\0<=q/\1<=Y
 |m,l,a,i,d,b,f,c=>by
  obtain⟨f,rfl⟩:∃g,f=g+1:=⟨f-1,by lia⟩;rw[A4];by_cases h:wy=1/\l=0/\a<ns.length
  .obtain⟨q,e,J⟩:=Pu (show(0:Int)<=a by lia) h.2.2;rw[Nz h.1 h.2.1 h.2.2,Ha,e,G_]
   match m,b,c with
   |0,b,_=>lia
   |m+1,b,c=>exact CU ns wy nb kk s1 s2 m q (a+1) J (by lia) (by lia) f (by lia)
  .rw[Sz h,QD];exact⟨l,a,rfl,i,d⟩
def dg(ns:List Int)(o:MO):Prop:=∃wy l a nb kk:Int,o=.dic (eX ns wy l a nb kk)/\0<=l/\1<=a/\0<=kk
theorem eY(hn:ns.length<=63)(h:dg ns o):∃(r:Int)(o':MO),cC o []=some (.int r,o')/\0<=r/\dg ns o':=by
 obtain⟨wy,l,a,nb,kk,rfl,s,n,p⟩:=h;refine cF (CU ns wy nb kk .no .no 64 l a s n (by lia) 200 (by decide)) λ J c e Y Z=>?_;by_cases f:0<J
 .have g:jS 1000003=true:=ux (by decide) (by decide);have j:=yv J (b:=1000003) (by decide);have q:J.fdiv 1000003=J/1000003:=yp _ (by decide);refine⟨J.fmod 1000003,.dic (eX ns wy (J/1000003) c nb kk),?_,j,wy,J/1000003,c,nb,kk,rfl,Yk Y (by decide),Z,p⟩;simp[cC,tI,List.replicate,e,mB,f,g,q,rO,Cz]
 .obtain⟨x,i⟩:=zN ns (k:=kk+1) (by lia);obtain⟨d,e1,_⟩:=FJ (nb+x) (kk+1);obtain⟨t,e2,m⟩:=FJ d 7;refine⟨t,.dic (eX ns wy J c d (kk+1)),?_,m,wy,J,c,d,kk+1,rfl,Y,Z,by lia⟩;simp[cC,tI,List.replicate,e,mB,f,JM,JN,sJ,rO,KA,KC,i,e1,e2]
noncomputable abbrev dQ:Str:=Str.ofString "abcdefghijklmnopqrstuvwxyz"
theorem MN:dQ.length=26:=by decide+kernel
theorem NH:∀j:Nat,j<26->dQ.cps.toList[j]?=some (97+j):=by
 have e:dQ.cps.toList=List.range' 97 26:=by decide+kernel
 intro j q;rw[e,List.getElem?_range' q];simp
theorem dI(h:n<=1000):n<=sizeLine:=zc h (by decide)
theorem P9(q:0<=i)(h1:i<26):nc dQ i=some (.str (iy (97+i.toNat))):=by
 unfold nc;rw[if_pos (by rw[MN];exact dI (by decide))];have l:dQ.cps.toList.length=26:=by decide+kernel
 unfold ny;rw[l,if_pos q,if_pos (by exact_mod_cast h1),c8,NH _ (by lia),c8]
theorem HE(x:Int):0<=x.fmod 26/\x.fmod 26<26:=by grind
def tq(x:Int):Str:=iy (97+(x.fmod 26).toNat)
theorem Tp(x:Int):nc dQ (x.fmod 26)=some (.str (tq x)):=P9 (HE x).1 (HE x).2
theorem G3(x:Int):(tq x).length=1:=rfl
theorem uI(a b:Str):(a++b).length=a.length+b.length:=by show(a.cps++b.cps).size=_;rw[Array.size_append];rfl
theorem xQ(P:Nat->En->Prop):∀(n:Nat)(lo:Int)(k:Nat)(U:En),(∀(i:Nat)(v:Int)U,i<k+n->P i U->∃Y J,g (.int v) U=some Y/\B Y=some (.nx J)/\P (i+1) J)->P k U->∃ρ',cK g B (eL lo n) U=some (.nx ρ')/\P (k+n) ρ'
 |0,lo,k,U,_,p=>⟨U,rfl,p⟩
 |n+1,lo,k,U,h,p=>by
  obtain⟨Y,J,a,b,c⟩:=h k lo U (by lia) p;obtain⟨ρ',e,Z⟩:=xQ P n (lo+1) (k+1) J (λ i v U hi q=>h i v U (by lia) q) c;refine⟨ρ',?_,by rw[show k+(n+1)=k+1+n by lia];exact Z⟩;rw[show eL lo (n+1)=.int lo::eL (lo+1) n from rfl,gB,a,gC,b,gE];exact e
theorem lW(f:α->D)(xs:List α){i:Int}(q:0<=i)(h1:i<xs.length):∃x,x∈xs/\di (xs.map f) i=some (f x):=by
 have hi:i.toNat<xs.length:=by lia
 refine⟨xs[i.toNat],Qu hi,?_⟩;unfold di ny;rw[qw,if_pos q,if_pos h1];show(xs.map f)[i.toNat]?=_;rw[zo,zk hi];rfl
theorem PR(hn:ns.length<=63)(s4:Sl)(i:Nat)(v:Int)(U:En)(hi:i<100)(p:∃o q Z,dg ns o/\q.length=i/\U=[.ow true o,.im (.str dQ),.im (.str q),Z,s4]):∃Y J,gN 3 (.int v) U=some Y/\Ci Y=some (.nx J)/\∃o q Z,dg ns o/\q.length=i+1/\J=[.ow true o,.im (.str dQ),.im (.str q),Z,s4]:=by
 obtain⟨o,q,Z,d,c,rfl⟩:=p;refine cF (eY hn d) λ r a e g b=>?_;have f:q.length+(tq r).length<=sizeLine:=dI (by rw[G3];lia);refine⟨_,[.ow true a,.im (.str dQ),.im (.str (q++tq r)),.im (.int v),s4],rfl,?_,a,q++tq r,_,b,by rw[uI,G3,c],rfl⟩;simp[Ci,e,Tp,f]
def kR(q:Str)(a:Int)(c:Nat):Str:=Txt.slice q none (some a)++iy c++Txt.slice q (some (a+1)) none
theorem R5(Y:q.length<=100)(a:Int)(c:Nat):(kR q a c).length<=300:=by have b:=Yf q none (some a);have d:=Yf q (some (a+1)) none;have J:(iy c).length=1:=rfl;unfold kR;rw[uI,uI];lia
theorem G0(q:Str)(a:Int)(c:Nat):(kR q a c).cps.toList=(Txt.slice q none (some a)).cps.toList++(c::(Txt.slice q (some (a+1)) none).cps.toList):=by show((Txt.slice q none (some a)).cps++#[c]++(Txt.slice q (some (a+1)) none).cps).toList=_;simp
theorem R6(h:kR q a c=kR q a d):c=d:=by have e:=Z8 (λ s:Str=>s.cps.toList) h;simp only[G0]at e;exact(List.cons.inj (List.append_cancel_left e)).1
theorem Fs(J:Str)(hw:J.length<=100)(q:Int):∀Y:List Nat,dw dA (e2 cw (e2 cw (gQ (eV 1) oN (oS (eV 2))) (eV 0)) (gQ (eV 1) (oS (e2 cw (eV 2) (zI 1))) oN)) [.im (.str J),.im (.int q)] (Y.map λ c=>.str (iy c))=some ((Y.map (kR J q)).map .str)
 |[]=>rfl
 |c::r=>by
  have e:=Fs J hw q r;have a:J.length<=sizeLine:=dI (by lia);have f:=Yf J none (some q);have g:=Yf J (some (q+1)) none;have d:(iy c).length=1:=rfl;have b:(Txt.slice J none (some q)).length+(iy c).length<=sizeLine:=dI (by lia);have Z:(Txt.slice J none (some q)++iy c).length+(Txt.slice J (some (q+1)) none).length<=sizeLine:=dI (by rw[uI];lia);rw[qx,lj];show sG _ _ _ _ (some (true,_))=_;have st:e2 cw (e2 cw (gQ (eV 1) oN (oS (eV 2))) (eV 0)) (gQ (eV 1) (oS (e2 cw (eV 2) (zI 1))) oN) [.im (.str (iy c)),.im (.str J),.im (.int q)]
    =some (.str (kR J q c),[.im (.str (iy c)),.im (.str J),.im (.int q)]):=by
   simp[a,b,Z,kR]
  rw[lq,st,ll,e,lg];rfl
structure xN(ks:List Str):Prop where
 n9:ks.length=9
 len:∀k∈ks,k.length<=300
 q:Str.ofString "q"∉ks
 nd:ks.Nodup
theorem N9(J:ns.length<=63)(ho:dg ns o):∃(ks:List Str)(o':MO),tr o []=some (.lst (ks.map .str),o')/\xN ks/\dg ns o':=by
 obtain⟨a,f,e1,K,Z⟩:=eY J ho;have H:=yv a (b:=8) (by decide);have I:=j6 a (b:=8) (by decide);have x:(Str.ofString "").length=0:=by decide+kernel
 obtain⟨G,r,O,q,g,l,M,rfl⟩:=xQ (λ i U=>∃o q g,dg ns o/\q.length=i/\U=[.ow true o,.im (.str dQ),.im (.str q),g,.no]) (1+a.fmod 8).toNat 0 0
  [.ow true f,.im (.str dQ),.im (.str ""),.no,.no] (λ i v U hi p=>PR J .no i v U (by lia) p) ⟨f,_,_,Z,x,rfl⟩
 have F:q.length<=sizeLine:=dI (by lia);have D:-4611686018427387904<=1+a.fmod 8:=by lia
 have E:1+a.fmod 8<4611686018427387904:=by lia
 obtain⟨r3,C,e4,σ,s⟩:=eY J l;have N:¬(q.length:Int)=0:=by lia
 have n:¬q.length=0:=by lia
 have j:q.length<=100:=by lia
 have w:=Fs q j (r3.fmod (q.length:Int)) (Str.ofString "abcdefghz").cps.toList;have h:(Str.ofString "abcdefghz").cps.toList.length=9:=by decide+kernel
 have u:(kh (Str.ofString "abcdefghz")).length≤sizeLine:=by unfold kh;rw[qw,h];exact dI (by decide)
 have Y:dw dA (e2 cw (e2 cw (gQ (eV 1) oN (oS (eV 2))) (eV 0)) (gQ (eV 1) (oS (e2 cw (eV 2) (zI 1))) oN)) [.im (.str q),.im (.int (r3.fmod (q.length:Int)))] (kh (Str.ofString "abcdefghz"))=some (((Str.ofString "abcdefghz").cps.toList.map (kR q (r3.fmod (q.length:Int)))).map .str):=w;have t:(Str.ofString "abcdefghz").cps.toList.Nodup:=by decide+kernel
 refine⟨(Str.ofString "abcdefghz").cps.toList.map (kR q (r3.fmod (q.length:Int))),C,?_,⟨by rw[qw,h],λ k A=>?_,λ B=>?_,?_⟩,s⟩
 .simp[tr,Dz,List.replicate,e1,D,E,r,e4,F,n,Y,u]
 .obtain⟨c,_,rfl⟩:=List.mem_map.mp A;exact R5 j _ _
 .obtain⟨c,y,e⟩:=List.mem_map.mp B;have d:∀c∈(Str.ofString "abcdefghz").cps.toList,¬c∈(Str.ofString "q").cps.toList:=by decide+kernel
  refine d c y ?_;rw[<-e,G0];simp
 .exact List.pairwise_map.mpr (t.imp λ m z=>m (R6 z))
noncomputable abbrev wO(o:Bool):Str:=if o then Str.ofString "only" else Str.ofString "but"
theorem Fe:∀q:List Str,ez (q.map .str)=0
 |[]=>rfl
 |k::r=>by rw[qx,ya,Vy,Fe r];rfl
def KK(o:Bool)(ts:List Str):D:=.tup [.str (wO o),.tup (ts.map .str)]
noncomputable def bS(o:Bool)(ts:List Str)(k:Str):Bool:=decide (k∈ts)==o
theorem rk(k:Str):∀ts:List Str,fc (.str k) (ts.map .str)=decide (k∈ts):=by intro a;induction a<;>grind[fc,OP]
theorem qT(k:Str):∀q:List Str,fV (.str k) (q.map .str)=true:=λ q=>by
 unfold fV;rw[show m4 (.str k)=true from rfl,Bool.true_and,Jf];intro x hx;obtain⟨y,_,rfl⟩:=List.mem_map.mp hx;rfl
theorem dM(a b:D):di [a,b] 0=some a:=rfl
theorem dR(a b:D):di [a,b] 1=some b:=rfl
theorem tD:¬(Str.ofString "but"=Str.ofString "only"):=by decide+kernel
theorem qI:¬(Str.ofString "only"=Str.ofString "but"):=by decide+kernel
theorem Sj(o:Bool)(ts:List Str)(k:Str):lG [KK o ts,.str k]=some (.bl (bS o ts k)):=by have ok:=qT k ts;have e:=rk k ts;cases o<;>by_cases h:k∈ts<;>simp[KK,bS,lG,Dj,dM,dR,ok,e,h,tD]
theorem zK(o:Bool)(ts:List Str):∀Y:List Str,dw (tV (eF lG (aC (eV 1) (aC (eV 0) aN)))) (eV 0) [.im (KK o ts)] (Y.map .str)=some ((Y.filter (bS o ts)).map .str)
 |[]=>rfl
 |k::r=>by
  have J:=zK o ts r;have h:=Sj o ts k;rw[qx,lj];cases q:bS o ts k with
  |false=>
   rw[q]at h;have t:tV (eF lG (aC (eV 1) (aC (eV 0) aN))) [.im (.str k),.im (KK o ts)]=some (false,[.im (.str k),.im (KK o ts)]):=by simp[h]
   rw[t,pC,J,Yb (by simp[q])]
  |true=>
   rw[q]at h;have t:tV (eF lG (aC (eV 1) (aC (eV 0) aN))) [.im (.str k),.im (KK o ts)]=some (true,[.im (.str k),.im (KK o ts)]):=by simp[h]
   have f:eV 0 [.im (.str k),.im (KK o ts)]=some (.str k,[.im (.str k),.im (KK o ts)]):=rfl;grind[lq,ll,lg]
def la(o:Bool)(q t2:List Str):D:=if q.filter (bS o t2)=[]then .non else KK true (q.filter (bS o t2))
theorem OI(o:Bool)(q t2:List Str)(h1:q.length<=100):p8 [KK true q,KK o t2]=some (la o q t2):=by
 have g:=zK o t2 q;have J:q.length<=sizeLine:=dI (by lia);have Y:(q.filter (bS o t2)).length<=sizeLine:=dI (zc (j9 _ _) (by lia));unfold la;unfold KK at g;by_cases z:q.filter (bS o t2)=[]
 .rw[z]at g;rw[if_pos z];cases o<;>simp[KK,p8,Ct,List.replicate,dM,dR,qI,J,g]
 .rw[if_neg z];have Z:=List.isEmpty_eq_false_iff.mpr z;cases o<;>simp[KK,p8,Ct,List.replicate,dM,dR,qI,J,g,Z]
theorem D0(o:Bool)(q t2:List Str)(h1:q.length<=100):jO [KK true q,KK o t2]=some (la o q t2):=by
 have g:=zK o t2 q;have J:q.length<=sizeLine:=dI (by lia);have Y:(q.filter (bS o t2)).length<=sizeLine:=dI (zc (j9 _ _) (by lia));unfold la;unfold KK at g;by_cases z:q.filter (bS o t2)=[]
 .rw[z]at g;rw[if_pos z];cases o<;>simp[KK,jO,tH,List.replicate,dM,dR,qI,J,g]
 .rw[if_neg z];have Z:=List.isEmpty_eq_false_iff.mpr z;cases o<;>simp[KK,jO,tH,List.replicate,dM,dR,qI,J,g,Z]
theorem K1(q t2:List Str)(h2:t2.length<=100):jO [KK false q,KK true t2]=some (la false t2 q):=by have g:=OI false t2 q h2;unfold KK at g;simp[KK,jO,tH,List.replicate,dM,qI,g]
def kY(q t2:List Str):List Str:=dy (dj [] (q++t2))
theorem wZ(q t2:List Str)(h:q.length+t2.length<=60):jO [KK false q,KK false t2]=some (KK false (kY q t2)):=by
 have e:=Lq (q++t2) (by rw[zi];lia);rw[zv]at e;have J:(dy (dj [] (q++t2))).length<=sizeLine:=dI (by
  rw[(gJ _).length_eq];have:=qA (q++t2) [];rw[zi,yx]at this;lia)
 have Y:oo [.tup (q.map .str),.tup (t2.map .str)]=some (.lst ((dy (dj [] (q++t2))).map .str)):=by rw[DB,HV,c8,HV,c8,if_pos (by rw[qw,qw];exact h),e]
 simp[KK,kY,jO,tH,List.replicate,dM,dR,qI,tD,Y]
theorem mW(ts:List Str)(k:Str):bS true ts k=decide (k∈ts):=by unfold bS;cases decide (k∈ts)<;>rfl
theorem l3(ts:List Str)(k:Str):bS false ts k=!decide (k∈ts):=by unfold bS;cases decide (k∈ts)<;>rfl
theorem mem_uni:x∈kY q t2↔x∈q\/x∈t2:=by unfold kY;rw[(gJ _).mem_iff,lI,List.mem_append];simp
theorem vX(o:Bool)(ts:List Str):cD (KK o ts)<=2:=by have q:=Fe ts;simp[KK,q]
def dK:Option (Bool×List Str)->D
 |none=>.non
 |some (o,ts)=>KK o ts
def pX:Option (Bool×List Str)->Str->Bool
 |none,_=>false
 |some (o,ts),k=>bS o ts k
theorem Ul(r:Option (Bool×List Str)):cD (dK r)<=2:=by
 cases r with
 |none=>exact ye _
 |some q=>exact vX _ _
structure Bx where
 o:Bool
 ts:List Str
 bg:Int
 en:Option Int
 s:St.S
def dB(b:Bx):D:=.tup [KK b.o b.ts,.int b.bg,dO b.en,dS b.s]
def eP:Option Bx->D
 |none=>.non
 |some b=>dB b
structure GB(b:Bx):Prop where
 l:b.ts.length<=9
 t0:0<=b.bg
 te:∀e,b.en=some e->b.bg<e
 c:St.Canon b.s
 bd:St.Bd b.s (2^100)
noncomputable def bX(q:Option Int)(t:Int):Bool:=match q with
 |none=>true
 |some e=>decide (t<e)
def bW(b:Bx)(t:Int)(k:Str)(v:Int):Bool:=decide (b.bg<=t)&&bX b.en t&&bS b.o b.ts k&&cR b.s v
def kb:Option Bx->Int->Str->Int->Bool
 |none,_,_,_=>false
 |some b,t,k,v=>bW b t k v
noncomputable def eW(t:Int)(k:Str)(v:Int):D:=.tup [.int t,.str k,.int v]
theorem vO(x y z:D):di [x,y,z] 0=some x:=rfl
theorem Jn(x y z:D):di [x,y,z] 1=some y:=rfl
theorem Jm(x y z:D):di [x,y,z] 2=some z:=rfl
theorem ve(o:Bool)(ts:List Str):fy (KK o ts)=false:=rfl
theorem TH(b:Bx):fy (dB b)=false:=rfl
def e_(o:Bool)(ts:List Str)(q:Int)(J:Option Int)(s:St.S):Option Bx:=match J with
 |none=>some ⟨o,ts,if 0>q then 0 else q,none,s⟩
 |some e=>if e<=(if 0>q then 0 else q)then none else some ⟨o,ts,if 0>q then 0 else q,some e,s⟩
theorem lJ(o:Bool)(ts:List Str)(q:Int)(J:Option Int)(s:St.S):fu [KK o ts,.int q,dO J,dS s]=some (eP (e_ o ts q J s)):=by
 cases J with
 |none=>simp[fu,qu,ve,e_,eP,dB]
 |some e=>
  unfold e_;by_cases h:e<=(if 0>q then 0 else q)
  .simp at h;simp[fu,qu,ve,eP,h]
  .simp at h;have h':¬(e<=if q<0 then 0 else q):=by lia
   simp[fu,qu,ve,eP,dB,h']
theorem G2(x y z:D):fu [.non,x,y,z]=some .non:=by simp[fu,qu]
theorem R7(o:Bool)(ts:List Str)(x y:D):fu [KK o ts,x,y,.non]=some .non:=by simp[fu,qu,ve]
noncomputable def nP(a b:Int):Int:=if b>a then b else a
def B8(J:Option (Bool×List Str))(Y:Int)(en:Option Int)(Z:Option St.S):Option Bx:=match J with
 |none=>none
 |some q=>match Z with
  |none=>none
  |some s=>e_ q.1 q.2 Y en s
theorem FL(J:Option (Bool×List Str))(Z:Int)(en:Option Int)(Y:Option St.S):fu [dK J,.int Z,dO en,gH Y]=some (eP (B8 J Z en Y)):=by
 cases J with
 |none=>exact G2 _ _ _
 |some q=>
  cases Y with
  |none=>exact R7 _ _ _ _
  |some s=>exact lJ _ _ _ _ _
theorem Nu(a b:Option Int)(t:Int):bX (St.uppB a b) t=(bX a t&&bX b t):=by
 cases a with
 |none=>cases b<;>simp[St.uppB,bX]
 |some x=>
  cases b with
  |none=>simp[St.uppB,bX]
  |some y=>
   simp only[St.uppB,bX];rw[yr];simp only[yo,zd];split<;>lia
theorem Sk(Z:0<=J)(t:Int)(k:Str)(v:Int):kb (e_ o ts J Y s) t k v=(decide (J<=t)&&bX Y t&&bS o ts k&&cR s v):=by
 have e:(if 0>J then 0 else J)=J:=if_neg (by lia);cases Y with
 |none=>simp only[e_,e];rfl
 |some x=>
  simp only[e_,e];by_cases h:x<=J
  .rw[if_pos h];show false=_
   symm
   by_cases q:J<=t
   .have:¬t<x:=by lia
    simp[bX,this]
   .simp[q]
  .rw[if_neg h];rfl
theorem E7(p:Str->Bool)(h:∀k,T (.im (.str k)::fr)=some (p k,.im (.str k)::fr)):∀J:List Str,dw T (eV 0) fr (J.map .str)=some ((J.filter p).map .str)
 |[]=>rfl
 |k::r=>by
  have q:=E7 p h r;rw[qx,lj,h k];cases Y:p k with
  |false=>rw[pC,q,Yb (by simp[Y])]
  |true=>
   have f:eV 0 (.im (.str k)::fr)=some (.str k,.im (.str k)::fr):=rfl;grind[lq,ll,lg]
def ou(ts:List Str):Prop:=ts.Pairwise (λ a b=>f_ b a=false)/\ts.Nodup
theorem Vt{l m:List Str}(h:l.Perm m)(J:l.Pairwise λ a b=>f_ b a=false)(Y:m.Pairwise λ a b=>f_ b a=false):l=m:=by refine Z1 (λ a b _ _ p q=>?_) J Y h;unfold f_ at p q;rw[Z6]at p q;have:=Je (List.not_lt.mp p) (List.not_lt.mp q);obtain⟨⟨c⟩⟩:=a;obtain⟨⟨Z⟩⟩:=b;subst this;rfl
theorem EB(zs:List Str):ou (dy (dj [] zs)):=by grind[n5,gJ,mG,ou]
theorem ou.ext(q:ou a)(J:ou b)(h:∀x,x∈a↔x∈b):a=b:=
 Vt ((Ql q.2 J.2).mpr h) q.1 J.1
noncomputable abbrev Tb:=List (Str×Str)
def dT(tb:Tb):D:=.tup (tb.map λ p=>.tup [.str p.1,.str p.2])
def fv:Tb->Str->Str
 |[],k=>k
 |p::r,k=>if p.1=k then p.2 else fv r k
def fst(tb:Tb):List Str:=tb.map (·.1)
theorem OU:∀{tb:Tb},k∉fst tb->fv tb k=k:=by intro a;induction a<;>grind[fst,fv]
def km(tb:Tb):D:=.dct (fst tb) (tb.map λ p=>.str p.2)
theorem EC(tb:Tb):(fst tb).zip (tb.map λ p=>D.str p.2)=tb.map λ p=>(p.1,D.str p.2):=by grind[fst]
theorem JA:∀tb:Tb,(cy k (tb.map λ p=>(p.1,D.str p.2))).getD (.str k)=.str (fv tb k)
 |[]=>rfl
 |p::r=>by
  rw[qx];unfold cy fv;by_cases c:p.1=k
  .rw[if_pos c,if_pos c];rfl
  .rw[if_neg c,if_neg c];exact JA r
theorem DF:∀{tb:Tb},k∈fst tb->cy k (tb.map λ p=>(p.1,D.str p.2))=some (.str (fv tb k)):=by intro a;induction a<;>grind[fst,cy,fv]
theorem OX:∀{tb:Tb},k∉fst tb->cy k (tb.map λ p=>(p.1,D.str p.2))=none:=by intro a;induction a<;>grind[fst,cy]
theorem Ph(k:Str)(tb:Tb):(cy k (tb.map λ p=>(p.1,D.str p.2))).isSome=decide (k∈fst tb):=by
 by_cases c:k∈fst tb
 .rw[DF c];simp[c]
 .rw[OX c];simp[c]
theorem zZ:∀tb:Tb,kZ (tb.map λ p=>.tup [.str p.1,.str p.2])=some (tb.map λ p=>(p.1,D.str p.2))
 |[]=>rfl
 |p::r=>by
  rw[qx,OA,zZ r];rfl
theorem Sw(nd:(fst tb).Nodup)(q:tb.length<=9):m_ [dT tb]=some (km tb):=by
 have e1:(tb.map λ p=>(p.1,D.str p.2)).map (·.1)=fst tb:=by rw[yd];rfl
 have e2:(tb.map λ p=>(p.1,D.str p.2)).map (·.2)=tb.map λ p=>D.str p.2:=by rw[yd];rfl
 unfold dT km;grind[SD,zZ,c8,e1,nd,e2]
theorem NY(tb:Tb)(ts:List Str):dw (tB (e2 uP (eV 0) (eV 1))) (eV 0) [.im (km tb)] (ts.map .str)=some ((ts.filter λ k=>!decide (k∈fst tb)).map .str):=
 E7 _ (λ k=>by
  have g:=Ph k tb;unfold km;simp[EC,g]) ts
theorem D9(o:Bool)(ts:List Str):∀J:List Str,(∀k∈J,k∈fst tb0)->dw (tB (e2 jJ (e2 sy (eV 1) (eV 0)) (e2 bK (eV 2) (zI 1)))) (eV 0) [.im (km tb0),.im (KK o ts)] (J.map .str)=some ((J.filter λ k=>decide (fv tb0 k∈ts)).map .str)
 |[],_=>rfl
 |k::r,h=>by
  have Y:=D9 o ts r λ q Z=>h q (qh _ Z);have ok:=qT (fv tb0 k) ts;have e:=rk (fv tb0 k) ts;have g:=DF (h k qg);have t:tB (e2 jJ (e2 sy (eV 1) (eV 0)) (e2 bK (eV 2) (zI 1))) [.im (.str k),.im (km tb0),.im (KK o ts)]=some (decide (fv tb0 k∈ts),[.im (.str k),.im (km tb0),.im (KK o ts)]):=by unfold KK km;simp[EC,g,dR,ok,e]
  rw[qx,lj,t];by_cases c:fv tb0 k∈ts
  .rw[zm c];have f:eV 0 [.im (.str k),.im (km tb0),.im (KK o ts)]=some (.str k,[.im (.str k),.im (km tb0),.im (KK o ts)]):=rfl;grind[lq,ll,lg]
  .grind[pC]
def backL(tb:Tb)(ts:List Str):List Str:=dy ((ts.filter λ k=>!decide (k∈fst tb))++(fst tb).filter λ k=>decide (fv tb k∈ts))
def oW(tb:Tb)(o:Bool)(ts:List Str):D:=if o=true/\backL tb ts=[]then .non else KK o (backL tb ts)
theorem D_(tb:Tb)(ts:List Str):(backL tb ts).length<=ts.length+tb.length:=by have:=(gJ ((ts.filter λ k=>!decide (k∈fst tb))++(fst tb).filter λ k=>decide (fv tb k∈ts))).length_eq;grind [backL,fst]
theorem S3(nd:(fst tb).Nodup)(hl:tb.length<=9)(o:Bool)(ht:ts.length<=30):sO [KK o ts,dT tb]=some (oW tb o ts):=by
 have e1:m_ [dT tb]=some (.dct (fst tb) (tb.map λ p=>.str p.2)):=Sw nd hl;have e2:=NY tb ts;have e3:=D9 o ts (fst tb) λ k h=>h;have i:(fst tb).length=tb.length:=by unfold fst;rw[qw]
 have a:=j9 (λ k=>!decide (k∈fst tb)) ts;have b:=j9 (λ k=>decide (fv tb k∈ts)) (fst tb);have g:=D_ tb ts;have Z:ts.length<=sizeLine:=dI (by lia);have c:(fst tb).length<=sizeLine:=dI (by lia);have Y:(backL tb ts).length<=sizeLine:=dI (by lia);generalize e:(ts.filter λ k=>!decide (k∈fst tb))=A at a e2;generalize f:((fst tb).filter λ k=>decide (fv tb k∈ts))=B at b e3;have d:backL tb ts=dy (A++B):=by unfold backL;rw[e,f]
 have J:A.length+B.length<=sizeLine:=dI (by lia);have e4:k8 (A.map D.str++B.map D.str)=some (.lst ((dy (A++B)).map .str)):=by unfold k8;rw[<-zv,ud,c8,if_pos (by rw[zi];lia)]
 unfold km at e2 e3;unfold oW;rw[d]at Y⊢;unfold KK at e3;cases q:(dy (A++B)).isEmpty with
 |true=>
  have z:=List.isEmpty_iff.mp q;rw[z]at e4⊢;cases o<;>simp[KK,sO,Cd,List.replicate,dM,dR,tD,e1,e2,e3,e4,Z,c,J]
 |false=>
  have z:=List.isEmpty_eq_false_iff.mp q;cases o<;>simp[KK,sO,Cd,List.replicate,dM,dR,tD,e1,e2,e3,e4,Z,c,J,z,q]
theorem P7:k∈backL tb ts↔fv tb k∈ts:=by have:=@OU k tb;grind [backL,gJ,List.Perm.mem_iff]
theorem Em(tb:Tb)(o:Bool)(ts:List Str)(k:Str):bS o (backL tb ts) k=bS o ts (fv tb k):=by unfold bS;congr 1;rw[Z7];exact P7
theorem t_(ts:List Str):∃k:Str,k∉ts:=by
 have q:∀ts:List Str,∃n,∀k∈ts,k.length<=n:=λ ts=>by
  induction ts with
  |nil=>exact⟨0,λ k h=>by simp at h⟩
  |cons a r Y=>
   obtain⟨n,h⟩:=Y;refine⟨max n a.length,λ k J=>?_⟩;rcases qt J with rfl|J
   .lia
   .have:=h k J;lia
 obtain⟨n,h⟩:=q ts;refine⟨⟨Array.replicate (n+1) 97⟩,λ J=>?_⟩;have:=h _ J;have e:(⟨Array.replicate (n+1) 97⟩:Str).length=n+1:=Array.size_replicate;lia
theorem w5(o:Bool)(q t2:List Str):∃r,la o q t2=dK r/\(∀k,pX r k=(bS true q k&&bS o t2 k))/\∀o' ts,r=some (o',ts)->ts.length<=q.length/\∃k,bS o' ts k=true:=by
 unfold la;by_cases z:q.filter (bS o t2)=[]
 .refine⟨none,by rw[if_pos z];rfl,λ k=>?_,λ o' ts e=>by cases e⟩;rw[mW];by_cases c:k∈q
  .have:=List.filter_eq_nil_iff.mp z k c;have f:bS o t2 k=false:=by simpa using this
   rw[f,Za];rfl
  .simp[c,pX]
 .refine⟨some (true,q.filter (bS o t2)),by rw[if_neg z];rfl,λ k=>?_,λ o' ts e=>?_⟩
  .show bS true _ k=_;rw[mW,mW,yr];simp[List.mem_filter]
  .cases e;obtain⟨k,J⟩:=List.exists_mem_of_ne_nil _ z;exact⟨j9 _ _,k,by rw[mW,yo];exact J⟩
theorem Tv(Y J:Bool)(q t2:List Str)(h:q.length+t2.length<=40):∃r,jO [KK Y q,KK J t2]=some (dK r)/\(∀k,pX r k=(bS Y q k&&bS J t2 k))/\∀o ts,r=some (o,ts)->ts.length<=q.length+t2.length/\∃k,bS o ts k=true:=by
 cases Y with
 |true=>
  obtain⟨r,e,b,a⟩:=w5 J q t2;exact⟨r,by rw[D0 J q t2 (by lia),e],b,λ o ts z=>⟨by have:=(a o ts z).1;lia,(a o ts z).2⟩⟩
 |false=>
  cases J with
  |true=>
   obtain⟨r,e,b,a⟩:=w5 false t2 q;exact⟨r,by rw[K1 q t2 (by lia),e],λ k=>by rw[b k,Bool.and_comm],λ o ts z=>⟨by have:=(a o ts z).1;lia,(a o ts z).2⟩⟩
  |false=>
   refine⟨some (false,kY q t2),wZ q t2 (by lia),λ k=>?_,λ o ts z=>?_⟩
   .show bS false _ k=_;rw[l3,l3,l3,yr];simp[mem_uni]
   .cases z;obtain⟨k,Z⟩:=t_ (kY q t2);refine⟨?_,k,by rw[l3];simp[Z]⟩;unfold kY;rw[(gJ _).length_eq];have:=qA (q++t2) [];rw[zi,yx]at this;lia
theorem R4(h:e_ o ts q J s=some m):m=⟨o,ts,if 0>q then 0 else q,J,s⟩/\∀e,J=some e->(if 0>q then 0 else q)<e:=by cases J<;>grind [e_]
end Fx
namespace St
structure BB(s:S)(A B:Nat):Prop where
 st:s.st.natAbs<=B
 lo:∀l,s.lo=some l->l.natAbs<=A
 hi:∀l,s.hi=some l->l.natAbs<=A
theorem BB.mono(b:BB s A B)(h:A<=q)(h':B<=J):BB s q J:=⟨zc b.st h',λ l e=>zc (b.lo l e) h,λ l e=>zc (b.hi l e) h⟩
theorem BB.bd(c:Canon s)(b:BB s A B)(h:A<=n)(h':B<=n):Bd s n:=
 ⟨zc b.st h',by have:=c.r0;have:=c.r1;have:=b.st;lia,λ l e=>zc (b.lo l e) h,λ l e=>zc (b.hi l e) h⟩
theorem Canon.two(c:Canon s):s.st=1\/∃v,mem s v/\mem s (v+s.st):=by
 cases e:s.hi with
 |none=>
  obtain⟨v,J⟩:=c.some;exact .inr ⟨v,J,c.up J λ h z=>by rw[e]at z;simp at z⟩
 |some h=>
  have Y:=c.memHi e;cases e2:s.lo with
  |none=>
   refine .inr ⟨h-s.st,c.down Y (λ l z=>by grind),?_⟩;rw[show h-s.st+s.st=h by lia];exact Y
  |some l=>
   rcases c.lh l h e2 e with z|⟨_,z,_⟩
   .have:=v3 (by rw[c.lo l e2,c.hi h e]) z;exact .inr ⟨l,c.memLo e2,c.up (c.memLo e2) λ x q=>by grind⟩
   .exact .inl z
theorem Ak(c:Canon s)(Z:0<M)(hB:M.natAbs<=B)(J:∀v w,mem s v->mem s w->v<=w->v+M<=w->mem s (v+M))(dn:∀v,mem s v->mem s (v-M)\/∃x:Int,x.natAbs<=A/\v-M<=x/\x<=v)(up:∀v,mem s v->mem s (v+M)\/∃x:Int,x.natAbs<=A/\v<=x/\x<=v+M):BB s (A+B) B:=by
 have p:=c.pos;refine⟨?_,λ l e=>?_,λ h e=>?_⟩
 .have:s.st<=M:=by
   rcases c.two with z|⟨v,a,b⟩
   .lia
   .by_cases q:s.st<=M
    .exact q
    .have Y:=J v _ a b (by lia) (by lia);have d:=iz.mp ((Y.r).trans a.r.symm);rw[show v+M-v=M by lia]at d;exact Z3 Z d
  lia
 .rcases dn l (c.memLo e)with z|⟨x,a,b,Y⟩
  .have:=z.l l e;lia
  .lia
 .rcases up h (c.memHi e)with z|⟨x,a,b,Y⟩
  .have:=z.h h e;lia
  .lia
theorem bb_meet(c1:Canon one)(c2:Canon J)(c:Canon s)(h:∀v,mem s v↔mem one v/\mem J v)(b1:BB one A B1)(b2:BB J A B2):BB s (A+B1*B2) (B1*B2):=by
 have j:=Int.mul_pos c1.pos c2.pos;have b:∀v,(v+one.st*J.st)%one.st=v%one.st:=λ v=>Qr v _ _;have d:∀v,(v+one.st*J.st)%J.st=v%J.st:=λ v=>by rw[Qv];exact Qr v _ _
 have g:∀v,(v-one.st*J.st)%one.st=v%one.st:=λ v=>by rw[<-b (v-_)];congr 1;lia
 have f:∀v,(v-one.st*J.st)%J.st=v%J.st:=λ v=>by rw[<-d (v-_)];congr 1;lia
 generalize i:one.st*J.st=M at*;refine Ak c j (by rw[<-i,Yt];exact Nat.mul_le_mul b1.st b2.st) (λ v w Z k _ q=>?_) (λ v Z=>?_) λ v Z=>?_
 .obtain⟨v1,v2⟩:=(h v).mp Z;obtain⟨m,n⟩:=(h w).mp k;exact(h _).mpr ⟨⟨λ l e=>by have:=v1.l l e;lia,λ l e=>by have:=m.h l e;lia,by rw[b];exact v1.r⟩,⟨λ l e=>by have:=v2.l l e;lia,λ l e=>by have:=n.h l e;lia,by rw[d];exact v2.r⟩⟩
 .obtain⟨v1,v2⟩:=(h v).mp Z;by_cases Y:leO one.lo (v-M)
  .by_cases a:leO J.lo (v-M)
   .exact .inl ((h _).mpr ⟨⟨Y,λ l e=>by have:=v1.h l e;lia,by rw[g];exact v1.r⟩,⟨a,λ l e=>by have:=v2.h l e;lia,by rw[f];exact v2.r⟩⟩)
   .obtain⟨x,q⟩:=Classical.not_forall.mp a;obtain⟨e,q⟩:=Classical.not_imp.mp q;exact .inr ⟨x,b2.lo x e,by lia,v2.l x e⟩
  .obtain⟨x,q⟩:=Classical.not_forall.mp Y;obtain⟨e,q⟩:=Classical.not_imp.mp q;exact .inr ⟨x,b1.lo x e,by lia,v1.l x e⟩
 .obtain⟨v1,v2⟩:=(h v).mp Z;by_cases Y:geO one.hi (v+M)
  .by_cases a:geO J.hi (v+M)
   .exact .inl ((h _).mpr ⟨⟨λ l e=>by have:=v1.l l e;lia,Y,by rw[b];exact v1.r⟩,⟨λ l e=>by have:=v2.l l e;lia,a,by rw[d];exact v2.r⟩⟩)
   .obtain⟨x,q⟩:=Classical.not_forall.mp a;obtain⟨e,q⟩:=Classical.not_imp.mp q;exact .inr ⟨x,b2.hi x e,v2.h x e,by lia⟩
  .obtain⟨x,q⟩:=Classical.not_forall.mp Y;obtain⟨e,q⟩:=Classical.not_imp.mp q;exact .inr ⟨x,b1.hi x e,v1.h x e,by lia⟩
theorem bb_back(c:Canon s)(ct:Canon t)(ha:a≠0)(h:∀v,mem t v↔mem s (a*v+b))(bs:BB s A B):BB t (A+b.natAbs+B) B:=by
 have p:=c.pos;have C:∀v:Int,a*(v+s.st)+b=a*v+b+s.st*a:=λ v=>by rw[Int.mul_add,Qv s.st a];lia
 have j:∀v,(a*(v+s.st)+b)%s.st=(a*v+b)%s.st:=λ v=>by rw[C];exact Qr _ _ _
 have u:∀v,(a*(v-s.st)+b)%s.st=(a*v+b)%s.st:=λ v=>by
  rw[<-j (v-s.st)];congr 3;lia
 have Y:∀y,y.natAbs<=A->(-((b-y).fdiv a)).natAbs<=A+b.natAbs/\((y-b).fdiv a).natAbs<=A+b.natAbs:=λ y E=>by
  exact⟨by rw[Int.natAbs_neg];exact zc (ug ha) (zc (Qi b y) (by lia)),zc (ug ha) (zc (Qi y b) (by lia))⟩
 rcases Int.lt_or_gt_of_ne ha with d|f
 .have mono:∀x y:Int,x<=y->a*y<=a*x:=λ x y q=>(CJ d).mpr q;refine Ak ct p bs.st (λ v w Z k _ q=>?_) (λ v Z=>?_) λ v Z=>?_
  .have J:=(h v).mp Z;have o:=(h w).mp k;have i:=mono v (v+s.st) (by lia);have D:=mono (v+s.st) w q;exact(h _).mpr ⟨λ l e=>by have:=o.l l e;lia,λ l e=>by have:=J.h l e;lia,by rw[j];exact J.r⟩
  .have J:=(h v).mp Z;have i:=mono (v-s.st) v (by lia);by_cases g:geO s.hi (a*(v-s.st)+b)
   .exact .inl ((h _).mpr ⟨λ l e=>by have:=J.l l e;lia,g,by rw[u];exact J.r⟩)
   .obtain⟨y,g⟩:=Classical.not_forall.mp g;obtain⟨e,g⟩:=Classical.not_imp.mp g;have k1:=J.h y e;have m:-v<=(b-y).fdiv a:=(qG d).mpr (by rw[Qq];lia);have n:¬-(v-s.st)<=(b-y).fdiv a:=λ z=>g (by have:=(qG d).mp z;rw[Qq]at this;lia);exact .inr ⟨_,(Y y (bs.hi y e)).1,by lia,by lia⟩
  .have J:=(h v).mp Z;have i:=mono v (v+s.st) (by lia);by_cases g:leO s.lo (a*(v+s.st)+b)
   .exact .inl ((h _).mpr ⟨g,λ l e=>by have:=J.h l e;lia,by rw[j];exact J.r⟩)
   .obtain⟨y,g⟩:=Classical.not_forall.mp g;obtain⟨e,g⟩:=Classical.not_imp.mp g;have k1:=J.l y e;have m:v<=(y-b).fdiv a:=(qG d).mpr (by lia);have n:¬v+s.st<=(y-b).fdiv a:=λ z=>g (by have:=(qG d).mp z;lia);exact .inr ⟨_,(Y y (bs.lo y e)).2,by lia,by lia⟩
 .have mono:∀x y:Int,x<=y->a*x<=a*y:=λ x y q=>(CW f).mpr q;refine Ak ct p bs.st (λ v w Z k _ q=>?_) (λ v Z=>?_) λ v Z=>?_
  .have J:=(h v).mp Z;have o:=(h w).mp k;have i:=mono v (v+s.st) (by lia);have D:=mono (v+s.st) w q;exact(h _).mpr ⟨λ l e=>by have:=J.l l e;lia,λ l e=>by have:=o.h l e;lia,by rw[j];exact J.r⟩
  .have J:=(h v).mp Z;have i:=mono (v-s.st) v (by lia);by_cases g:leO s.lo (a*(v-s.st)+b)
   .exact .inl ((h _).mpr ⟨g,λ l e=>by have:=J.h l e;lia,by rw[u];exact J.r⟩)
   .obtain⟨y,g⟩:=Classical.not_forall.mp g;obtain⟨e,g⟩:=Classical.not_imp.mp g;have k1:=J.l y e;have m:-v<=(b-y).fdiv a:=(n_ f).mpr (by rw[Qq];lia);have n:¬-(v-s.st)<=(b-y).fdiv a:=λ z=>g (by have:=(n_ f).mp z;rw[Qq]at this;lia);exact .inr ⟨_,(Y y (bs.lo y e)).1,by lia,by lia⟩
  .have J:=(h v).mp Z;have i:=mono v (v+s.st) (by lia);by_cases g:geO s.hi (a*(v+s.st)+b)
   .exact .inl ((h _).mpr ⟨λ l e=>by have:=J.l l e;lia,g,by rw[j];exact J.r⟩)
   .obtain⟨y,g⟩:=Classical.not_forall.mp g;obtain⟨e,g⟩:=Classical.not_imp.mp g;have k1:=J.h y e;have m:v<=(y-b).fdiv a:=(n_ f).mpr (by lia);have n:¬v+s.st<=(y-b).fdiv a:=λ z=>g (by have:=(n_ f).mp z;lia);exact .inr ⟨_,(Y y (bs.hi y e)).2,by lia,by lia⟩
end St
namespace Fx
open PySem
structure KPl(P ts:List Str):Prop where
 nd:ts.Nodup
 sub:∀k∈ts,k∈P
theorem NK(l P:List Str)(h:l.Nodup)(s:∀k∈l,k∈P):l.length<=P.length:=h.length_le_of_subset λ _=>s _
theorem KPl.len(h:KPl P ts):ts.length<=P.length:=NK ts P h.nd h.sub
theorem KPl.filter(h:KPl P ts)(f:Str->Bool):KPl P (ts.filter f):=⟨h.nd.filter f,λ k q=>h.sub k (List.mem_filter.mp q).1⟩
structure gA(P ts:List Str):Prop extends KPl P ts where
 pw:ts.Pairwise λ a b=>f_ b a=false
theorem gA.nil(P:List Str):gA P []:=⟨⟨Qm,λ k q=>by simp at q⟩,.nil⟩
theorem G1(o:Bool)(h:gA P J):∃r,la o J t2=dK r/\(∀k,pX r k=(bS true J k&&bS o t2 k))/\∀o' ts,r=some (o',ts)->gA P ts/\∃k,bS o' ts k=true:=by
 refine aW (w5 o J t2) λ r e a b=>?_;refine cN r e a λ o' ts z=>⟨?_,(b o' ts z).2⟩
 subst z;unfold la at e;by_cases c:J.filter (bS o t2)=[]
 .rw[if_pos c]at e;cases e
 .rw[if_neg c]at e;have e:=e;have q:(J.filter (bS o t2)).map D.str=ts.map D.str:=by
   injection e with e
   injection e with _ e
   injection e with e _
   injection e
  have:=List.map_inj_right (λ _ _ z=>D.str.inj z) |>.mp q
  rw[<-this];exact⟨h.toKPl.filter _,h.pw.filter _⟩
theorem A9(o1 Z:Bool)(hP:P.length<=10)(h1:gA P J)(h2:gA P t2):∃r,jO [KK o1 J,KK Z t2]=some (dK r)/\(∀k,pX r k=(bS o1 J k&&bS Z t2 k))/\∀o ts,r=some (o,ts)->gA P ts/\∃k,bS o ts k=true:=by
 have c:=h1.len;have d:=h2.len;cases o1 with
 |true=>
  obtain⟨r,e,Y,a⟩:=G1 Z h1;exact⟨r,by rw[D0 Z J t2 (by lia),e],Y,a⟩
 |false=>
  cases Z with
  |true=>
   obtain⟨r,e,Y,a⟩:=G1 false h2;exact⟨r,by rw[K1 J t2 (by lia),e],λ k=>by rw[Y k,Bool.and_comm],a⟩
  |false=>
   obtain⟨r,e,Y,a⟩:=Tv false false J t2 (by lia);refine⟨some (false,kY J t2),wZ J t2 (by lia),λ k=>?_,λ o ts z=>?_⟩
   .rw[wZ J t2 (by lia)]at e;have e:=qi e;rw[<-Y k];cases r with
    |none=>cases e
    |some p=>
     obtain⟨o,ts⟩:=p;have e:=e;cases o with
     |true=>cases e
     |false=>
      have q:(kY J t2).map D.str=ts.map D.str:=by
       injection e with e
       injection e with _ e
       injection e with e _
       injection e
      rw[List.map_inj_right (λ _ _ z=>D.str.inj z) |>.mp q]
   .cases z;refine⟨⟨⟨(EB _).2,λ k b=>?_⟩,(EB _).1⟩,?_⟩
    .rcases mem_uni.mp b with z|z
     .exact h1.sub k z
     .exact h2.sub k z
    .obtain⟨k,b⟩:=t_ (kY J t2);exact⟨k,by rw[l3];simp[b]⟩
structure fH(P:List Str)(A B:Nat)(b:Bx):Prop where
 k:gA P b.ts
 t0:0<=b.bg
 te:∀e,b.en=some e->b.bg<e
 c:St.Canon b.s
 bb:St.BB b.s A B
 ke:∃k,bS b.o b.ts k=true
theorem uy(h:e_ o ts q Y s=some m)(l:gA P ts)(c:St.Canon s)(bb:St.BB s A B)(J:∃k,bS o ts k=true):fH P A B m:=by obtain⟨rfl,te⟩:=R4 h;exact⟨l,by show 0<=(if 0>q then 0 else q);split<;>lia,te,c,bb,J⟩
theorem fH.mono(w:fH P A B b)(h:A<=q)(h':B<=J):fH P q J b:=⟨w.k,w.t0,w.te,w.c,w.bb.mono h h',w.ke⟩
theorem fH.some_thing(w:fH P A B b):∃t k v,0<=t/\bW b t k v=true:=by
 obtain⟨k,J⟩:=w.ke;obtain⟨v,q⟩:=w.c.some;refine⟨b.bg,k,v,w.t0,?_⟩;unfold bW;have e1:bX b.en b.bg=true:=by
  cases e:b.en with
  |none=>rfl
  |some x=>exact zm (w.te x e)
 rw[zm (yk _),e1,J,bB.mpr q];rfl
theorem Ao(hP:P.length<=10)(h1:A<=2^450)(h2:B1<=2^450)(h3:B2<=2^450)(Y:fH P A B1 a)(gb:fH P A B2 b):∃r,lH [dB a,dB b]=some (eP r)/\(∀t k v,kb r t k v=(bW a t k v&&bW b t k v))/\∀m,r=some m->fH P (A+B1*B2) (B1*B2) m:=by
 refine aW (A9 a.o b.o hP Y.k gb.k) λ g i Z h=>?_;obtain⟨d,es,f,_⟩:=AS Y.c gb.c (qj _) (Y.bb.bd Y.c h1 h2) (gb.bb.bd gb.c h1 h3);refine cN (B8 g (nP a.bg b.bg) (St.uppB a.en b.en) d) ?_ (λ t k v=>?_) λ m J=>?_
 .have J:=FL g (nP a.bg b.bg) (St.uppB a.en b.en) d;have j:=uZ a.en b.en;unfold nP at J⊢;obtain⟨o,ts,bg,en,s⟩:=a;obtain⟨C,x,y,z,s'⟩:=b;simp[lH,DA,dB,List.replicate,dz,jA,jZ,dD,i,es,j,J]
 .have n:0<=nP a.bg b.bg:=by have:=Y.t0;have:=gb.t0;unfold nP;split<;>lia
  have w:decide (nP a.bg b.bg<=t)=(decide (a.bg<=t)&&decide (b.bg<=t)):=by rw[yr];simp only[yo,zd];unfold nP;split<;>lia
  have Z:=Z k;have p:∀s,d=some s->cR s v=(cR a.s v&&cR b.s v):=λ s e=>by
   subst e;rw[yr,zd,bB,bB,bB];exact f.2 v
  have B:d=none->(cR a.s v&&cR b.s v)=false:=λ e=>by
   subst e;rw[<-Bool.not_eq_true,zd,bB,bB];exact f v
  unfold bW;cases g with
  |none=>
   have Z:false=(bS a.o a.ts k&&bS b.o b.ts k):=Z;show false=_
   symm
   cases h1:bS a.o a.ts k
   .simp
   .grind
  |some q=>
   have Z:bS q.1 q.2 k=(bS a.o a.ts k&&bS b.o b.ts k):=Z;cases d with
   |none=>
    show false=_
    symm
    cases h1:cR a.s v
    .simp
    .grind
   |some s=>
    show kb (e_ q.1 q.2 _ _ s) t k v=_;rw[Sk n,w,Nu,Z,p s rfl];generalize decide (a.bg<=t)=x1;generalize decide (b.bg<=t)=x2;generalize bX a.en t=x3;generalize bX b.en t=x4;generalize bS a.o a.ts k=x5;generalize bS b.o b.ts k=x6;generalize cR a.s v=x7;generalize cR b.s v=x8;revert x1 x2 x3 x4 x5 x6 x7 x8;decide
 .cases g with
  |none=>cases J
  |some q=>
   cases d with
   |none=>cases J
   |some s=>
    have J:=J;obtain⟨l,u⟩:=h q.1 q.2 rfl;exact uy J l f.1 (St.bb_meet Y.c gb.c f.1 f.2 Y.bb gb.bb) u
inductive Rw where
 |time (b:Int) (e:Option Int)
 |keys (o:Bool) (l:List Str)
 |span (lo hi:Option Int)
 |rest (m r:Int)
 |turn (a b:Int)
 |later (c:Int)
 |put (tb:Tb)
def dt:Rw->Str
 |.time _ _=>Str.ofString "time"
 |.keys o _=>wO o
 |.span _ _=>Str.ofString "span"
 |.rest _ _=>Str.ofString "rest"
 |.turn _ _=>Str.ofString "turn"
 |.later _=>Str.ofString "later"
 |.put _=>Str.ofString "put"
def dZ:Rw->D
 |.time b e=>.tup [.int b,dO e]
 |.keys _ l=>.tup (l.map .str)
 |.span lo hi=>.tup [dO lo,dO hi]
 |.rest m r=>.tup [.int m,.int r]
 |.turn a b=>.tup [.int a,.int b]
 |.later c=>.tup [.int c]
 |.put tb=>dT tb
def cU(x y:D)(r:Rw):D:=.tup [.str (dt r),x,y,dZ r]
structure gk(P:List Str)(r:Rw):Prop where
 time:∀b e,r=.time b e->0<=b/\∀x,e=some x->b<x
 keys:∀o l,r=.keys o l->KPl P l/\l≠[]
 span:∀lo hi,r=.span lo hi->St.OB lo (2^40)/\St.OB hi (2^40)/\∀a b,lo=some a->hi=some b->a<=b
 rest:∀m x,r=.rest m x->2<=m/\m<=2000/\0<=x/\x<m
 turn:∀a b,r=.turn a b->a≠0/\a.natAbs<=1000/\b.natAbs<=1000
 later:∀c,r=.later c->0<=c
 put:∀tb,r=.put tb->KPl P (fst tb)/\tb.length<=4
noncomputable abbrev Th:=Int×Str×Int
def eN:Rw->Th->Option Th
 |.time b e,x=>if b<=x.1/\bX e x.1=true then some x else none
 |.keys o l,x=>if bS o l x.2.1=true then some x else none
 |.span lo hi,x=>if d_ lo x.2.2=true/\ef hi x.2.2=true then some x else none
 |.rest m r,x=>if x.2.2%m=r then some x else none
 |.turn a b,x=>some (x.1,x.2.1,a*x.2.2+b)
 |.later c,x=>some (x.1+c,x.2.1,x.2.2)
 |.put tb,x=>some (x.1,fv tb x.2.1,x.2.2)
def eh:Option Th->D
 |none=>.non
 |some x=>eW x.1 x.2.1 x.2.2
theorem mh:wO true=Str.ofString "only":=rfl
theorem iu:wO false=Str.ofString "but":=rfl
theorem A_(x:D):di [x] 0=some x:=rfl
theorem vg:(Str.ofString a=Str.ofString b)=(a=b):=by simp[Str.ofString_eq_toList,List.map_inj_right,Char.toNat_inj,String.toList_inj]
def gY:St.S:=⟨none,none,1,0⟩
theorem TX(v:Int):St.mem gY v:=⟨λ l e=>(by cases e),λ l e=>(by cases e),by show v%1=0;lia⟩
theorem xR:St.Canon gY where
 pos:=by decide
 r0:=by decide
 r1:=by decide
 lo:=λ l e=>by cases e
 hi:=λ l e=>by cases e
 lh:=λ a b e=>by cases e
theorem kn:St.BB gY (2^41) (2^11):=⟨by decide,(λ l e=>by cases e),(λ l e=>by cases e)⟩
theorem yB(v:Int):cR gY v=true:=bB.mpr (TX v)
theorem kr(k:Str):bS false [] k=true:=by rw[l3];simp
structure xY(P:List Str)(r:Rw)(s:Bx):Prop where
 w:fH P (2^41) (2^11) s
 h:∀t k v,0<=t->eN r (t,k,v)=if bW s t k v=true then some (t,k,v)else none
theorem as5{P:List Str}(hP:P.length<=10)(x0 y0:D){r:Rw}(ok:gk P r):((∃s,jL [cU x0 y0 r]=some (dB s)/\xY P r s)\/(jL [cU x0 y0 r]=some .non/\((∃a b,r=.turn a b)\/(∃c,r=.later c)\/∃tb,r=.put tb))):=by
 have W:=@vg;cases r with
 |time b e=>
  refine .inl ?_;obtain⟨y,te⟩:=ok.time b e rfl;have J:=lJ false [] b e gY;have z:(if 0>b then 0 else b)=b:=if_neg (by lia);have A:e_ false [] b e gY=some ⟨false,[],b,e,gY⟩:=by
   cases e with
   |none=>simp only[e_,z]
   |some x=>have:=te x rfl;simp only[e_,z];rw[if_neg (by lia)]
  rw[A]at J;refine⟨⟨false,[],b,e,gY⟩,?_,⟨gA.nil P,y,te,xR,kn,Str.ofString "a",kr _⟩,λ t k v Z=>?_⟩
  .simp only[KK,iu,gY,yg,Ez,nM]at J;exact Rtt.fn rfl (.seq rfl (.seq rfl (.yes (by kernel_rfl) (.ret (by simp[cU,dt,dZ,dD,dM,dR,J,eP,gY])))))
  .unfold eN bW;dsimp only;rw[kr,yB];by_cases c:b<=t<;>cases q:bX e t<;>simp[c,q]
 |keys o l=>
  refine .inl ?_;obtain⟨p,C⟩:=ok.keys o l rfl;have G:=p.len;have J:=lJ o (dy l) 0 none gY;have K:(dy l).length=l.length:=(gJ l).length_eq;have sz:(dy l).length<=sizeLine:=dI (by lia);have e4:k8 (l.map D.str)=some (.lst ((dy l).map .str)):=by unfold k8;rw[ud,c8,if_pos (by lia)]
  have mem:∀k,bS o (dy l) k=bS o l k:=λ k=>by
   unfold bS;congr 1;rw[Z7,(gJ l).mem_iff]
  have B:∃k,bS o (dy l) k=true:=by
   cases o with
   |true=>
    cases l with
    |nil=>exact absurd rfl C
    |cons a r=>exact⟨a,by rw[mem,mW];simp⟩
   |false=>
    obtain⟨k,i⟩:=t_ (dy l);exact⟨k,by rw[l3];simp[i]⟩
  refine⟨⟨o,dy l,0,none,gY⟩,?_,⟨⟨⟨(gJ l).nodup_iff.mpr p.nd,λ k i=>p.sub k ((gJ l).mem_iff.mp i)⟩,n5 _⟩,yk _,(λ e z=>by cases z),xR,kn,B⟩,λ t k v Z=>?_⟩
  .simp only[KK,gY,Ez,nM]at J;cases o with
   |true=>
    simp only[mh]at J;exact Rtt.fn rfl (.seq rfl (.seq rfl (.no (by kernel_rfl) (.yes (by kernel_rfl) (.ret (by simp[cU,dt,dZ,dD,dz,mh,e4,sz,J,eP,e_,gY]))))))
   |false=>
    simp only[iu]at J;exact Rtt.fn rfl (.seq rfl (.seq rfl (.no (by kernel_rfl) (.yes (by kernel_rfl) (.ret (by simp[cU,dt,dZ,dD,dz,iu,e4,sz,J,eP,e_,gY]))))))
  .unfold eN bW;dsimp only;rw[mem,yB];cases q:bS o l k<;>simp[Z,bX]
 |span lo hi=>
  refine .inl ?_;obtain⟨E,F,w⟩:=ok.span lo hi rfl;have Y:=n8 lo hi 1 0;have T:=St.made_ok (lo:=lo) (hi:=hi) (st:=1) (re:=0) (by decide) (by decide) (by decide);have d:∃v,St.Between lo hi 1 0 v:=by
   cases lo with
   |some a=>exact⟨a,λ l e=>by cases e;exact yk _,λ h e=>w a h rfl e,by lia⟩
   |none=>
    cases hi with
    |some b=>exact⟨b,λ l e=>(by cases e),λ h e=>by cases e;exact yk _,by lia⟩
    |none=>exact⟨0,λ l e=>(by cases e),λ l e=>(by cases e),by decide⟩
  obtain⟨σ,d⟩:=d;obtain⟨s,es,g,j⟩:=T.some d;have bs:=St.made_bd (re:=0) E F (m:=2^40) (show(1:Int).natAbs<=2^40 from Y1) (by decide) s es;have f:St.BB s (2^41) (2^11):=⟨by rcases St.made_st es with z|z<;>rw[z]<;>decide,bs.lo,bs.hi⟩;rw[es]at Y;have J:=lJ false [] 0 none s;refine⟨⟨false,[],0,none,s⟩,?_,⟨gA.nil P,yk _,(λ e z=>by cases z),g,f,Str.ofString "a",kr _⟩,λ t k v Z=>?_⟩
  .simp only[KK,iu,yg,nM]at J;simp only[gH]at Y;exact Rtt.fn rfl (.seq rfl (.seq rfl (.no (by kernel_rfl) (.no (by kernel_rfl) (.yes (by kernel_rfl) (.ret (by simp[cU,dt,dZ,dz,dD,dM,dR,Y,J,eP,e_,dB,KK,iu])))))))
  .unfold eN bW;dsimp only;rw[kr];have e:cR s v=(d_ lo v&&ef hi v):=by rw[yr,bB,j,zd,zH,zL];exact⟨λ h=>⟨h.1,h.2⟩,λ h=>⟨h.1,h.2,by lia⟩⟩
   rw[e];cases d_ lo v<;>cases ef hi v<;>simp[Z,bX]
 |rest m x=>
  refine .inl ?_;obtain⟨H,I,x0,u⟩:=ok.rest m x rfl;have Y:=n8 none none m x;have T:=St.made_ok (lo:=none) (hi:=none) (st:=m) (re:=x) (by lia) x0 u;have d:St.Between none none m x x:=⟨λ l e=>(by cases e),λ l e=>(by cases e),jf x0 u⟩;obtain⟨s,es,g,j⟩:=T.some d;have bs:=St.made_bd (re:=x) (n:=0) (lo:=none) (hi:=none) (λ l e=>(by cases e)) (λ l e=>(by cases e)) (m:=2000) (by lia) (by lia) s es;have f:St.BB s (2^41) (2^11):=⟨zc bs.st (by decide),λ l e=>zc (bs.lo l e) (by decide),λ l e=>zc (bs.hi l e) (by decide)⟩;rw[es]at Y;have J:=lJ false [] 0 none s;refine⟨⟨false,[],0,none,s⟩,?_,⟨gA.nil P,yk _,(λ e z=>by cases z),g,f,Str.ofString "a",kr _⟩,λ t k v Z=>?_⟩
  .simp only[KK,iu,yg,nM]at J;simp only[gH,nM]at Y;exact Rtt.fn rfl (.seq rfl (.seq rfl (.no (by kernel_rfl) (.no (by kernel_rfl) (.no (by kernel_rfl) (.yes (by kernel_rfl) (.ret (by simp[cU,dt,dZ,dz,dD,dM,dR,Y,J,eP,e_,dB,KK,iu]))))))))
  .unfold eN bW;dsimp only;rw[kr];have e:cR s v=decide (v%m=x):=by rw[yr,bB,j,yo];exact⟨λ h=>h.3,λ h=>⟨λ l e=>(by cases e),λ l e=>(by cases e),h⟩⟩
   rw[e];by_cases c:v%m=x<;>simp[c,Z,bX]
 |turn a b=>
  exact .inr ⟨by kernel_rfl,.inl ⟨a,b,rfl⟩⟩
 |later c=>
  exact .inr ⟨by kernel_rfl,.inr (.inl ⟨c,rfl⟩)⟩
 |put tb=>
  exact .inr ⟨by kernel_rfl,.inr (.inr ⟨tb,rfl⟩)⟩
theorem mj(b:Bx):bK (dB b) (.int 0)=some (KK b.o b.ts):=rfl
theorem kf(b:Bx):bK (dB b) (.int 1)=some (.int b.bg):=rfl
theorem kL(b:Bx):bK (dB b) (.int 2)=some (dO b.en):=rfl
theorem lB(b:Bx):bK (dB b) (.int 3)=some (dS b.s):=rfl
theorem OW(b:Bx)(c:Int):sV [dB b,.int c]=some (eP (e_ b.o b.ts (b.bg+c) (b.en.map (·+c)) b.s)):=by
 have q:=lJ b.o b.ts (b.bg+c) (b.en.map (·+c)) b.s;cases e:b.en with
 |none=>
  rw[e]at q;simp only[Option.map_none,nM]at q;simp[sV,CO,List.replicate,mj,kf,kL,lB,e,q]
 |some x=>
  rw[e]at q;simp only[Option.map_some,Wf]at q;simp[sV,CO,List.replicate,mj,kf,kL,lB,e,q]
theorem xP(t:Int)(Y:0<=t)(k:Str)(v:Int):kb (e_ o ts J q s) t k v=(decide (J<=t)&&bX q t&&bS o ts k&&cR s v):=by
 unfold e_;have w:decide ((if 0>J then 0 else J)<=t)=decide (J<=t):=decide_eq_decide.2 (by split<;>lia)
 rw[<-w];generalize(if 0>J then 0 else J)=A;cases q with
 |none=>rfl
 |some e=>
  dsimp only;split
  .show false=(decide (A<=t)&&decide (t<e)&&_&&_);have:(decide (A<=t)&&decide (t<e))=false:=by simp;lia
   rw[this];rfl
  .rfl
abbrev ph(b:Bx)(x:Th):Bool:=bW b x.1 x.2.1 x.2.2
theorem hx(b:Bx)(t:Int)(k:Str)(v:Int):bW b t k v=(decide (b.bg<=t)&&bX b.en t&&bS b.o b.ts k&&cR b.s v):=rfl
theorem Nv(q:Option Int)(c t:Int):bX (q.map (·+c)) t=bX q (t-c):=by
 cases q with
 |none=>rfl
 |some x=>
  show decide (t<x+c)=decide (t-c<x);rw[Z7];lia
theorem gu(h:a<=b):2^a<=2^b:=Yr (by decide) h
theorem L9{P:List Str}(hP:P.length<=10)(Z Y:D){r:Rw}(ok:gk P r){n:Nat}(n1:50<=n)(n2:n<=430){b:Bx}(w:fH P (2^n) (2^n) b):∃q,iS [cU Z Y r,dB b]=some (eP q)/\(∀t k v,0<=t->kb q t k v=match eN r (t,k,v)with|none=>false|some y=>ph b y)/\∀m,q=some m->fH P (2^(n+12)) (2^(n+12)) m:=by
 have W:=@vg;have V:=w.k.len;rcases as5 hP Z Y ok with⟨s,es,H⟩|⟨es,M⟩
 .have F:2^41<=2^n:=gu (by lia);have B:2^n<=2^450:=gu (by lia);have G:2^11*2^n=2^(n+11):=by rw[<-Zw,Nat.add_comm]
  have p4:2^(n+12)=2^(n+11)+2^(n+11):=by rw[Y6];lia
  have p5:2^n<=2^(n+11):=gu (by lia);obtain⟨q,e,I,K⟩:=Ao hP B (gu (by decide)) B (H.w.mono F (qj _)) w;refine⟨q,by simp[iS,p_,List.replicate,es,TH,e],λ t k v d=>?_,λ m J=>(K m J).mono (by rw[G];lia) (by rw[G];lia)⟩;rw[I,H.h t k v d];cases bW s t k v<;>rfl
 .rcases M with⟨a,c,rfl⟩|⟨c,rfl⟩|⟨tb,rfl⟩
  .obtain⟨i,Q,X⟩:=ok.turn a c rfl;have s2:=w.bb.st;have pp:=w.c.pos;obtain⟨g,f,E,e1⟩:=Fo (a:=a) (b:=c) w.c.pos (oP (k:=n) (by lia) (by lia)) w.c.r0 w.c.r1 i (oP (k:=10) (by lia) (by decide)) (oP (k:=10) (by lia) (by decide));have T:=St.back_ok (b:=c) w.c i E;have e3:iS [cU Z Y (.turn a c),dB b]=some (eP (B8 (some (b.o,b.ts)) b.bg b.en (St.back2 b.s a c g f))):=by have J:=FL (some (b.o,b.ts)) b.bg b.en (St.back2 b.s a c g f);have J:fu [KK b.o b.ts,.int b.bg,dO b.en,gH (St.back2 b.s a c g f)]=_:=J;have j:bK (cU Z Y (.turn a c)) (.int 0)=some (.str "turn"):=rfl;have l:bK (cU Z Y (.turn a c)) (.int 3)=some (.tup [.int a,.int c]):=rfl;simp[iS,p_,List.replicate,es,j,l,W,mj,kf,kL,lB,dM,dR,e1,J]
   refine⟨_,e3,λ t k v d=>?_,λ m J=>?_⟩
   .show _=bW b t k (a*v+c);rw[hx];cases q:St.back2 b.s a c g f with
    |none=>
     rw[q]at T;have:cR b.s (a*v+c)=false:=by rw[<-Bool.not_eq_true,bB];exact T v
     rw[this,Za];rfl
    |some s=>
     rw[q]at T;have:cR s v=cR b.s (a*v+c):=by rw[yr,bB,bB];exact T.2 v
     show kb (e_ b.o b.ts b.bg b.en s) t k v=_;rw[xP t d,this]
   .cases q:St.back2 b.s a c g f with
    |none=>rw[q]at J;cases J
    |some s=>
     rw[q]at J T;have J:e_ b.o b.ts b.bg b.en s=some m:=J;have F:1000<=2^n:=zc (by decide:1000<=2^50) (gu n1);have B:2^(n+12)=2^n*4096:=by rw[Zw]
     exact uy J w.k T.1 ((St.bb_back w.c T.1 i T.2 w.bb).mono (by lia) (by lia)) w.ke
  .have c0:=ok.later c rfl;have O:=OW b (-c);have j:bK (cU Z Y (.later c)) (.int 0)=some (.str "later"):=rfl;have l:bK (cU Z Y (.later c)) (.int 3)=some (.tup [.int c]):=rfl;refine⟨_,by simp[iS,p_,List.replicate,es,j,l,W,A_,O];rfl,λ t k v d=>?_,λ m J=>?_⟩
   .show _=bW b (t+c) k v;rw[xP t d,hx,Nv];have e1:decide (b.bg+-c<=t)=decide (b.bg<=t+c):=by rw[Z7];lia
    have e2:t- -c=t+c:=by lia
    rw[e1,e2]
   .exact uy J w.k w.c (w.bb.mono (gu (by lia)) (gu (by lia))) w.ke
  .obtain⟨i,Q⟩:=ok.put tb rfl;have u:=S3 i.nd (by lia) b.o (ts:=b.ts) (by lia);have j:bK (cU Z Y (.put tb)) (.int 0)=some (.str "put"):=rfl;have l:bK (cU Z Y (.put tb)) (.int 3)=some (dT tb):=rfl;have ρ:=D_ tb b.ts;by_cases z:b.o=true/\backL tb b.ts=[]
   .have A:oW tb b.o b.ts=.non:=by unfold oW;rw[if_pos z]
    rw[A]at u;have J:=G2 (.int b.bg) (dO b.en) (dS b.s);refine⟨none,by simp[iS,p_,List.replicate,es,j,l,W,mj,kf,kL,lB,u,J,eP],λ t k v d=>?_,λ m J=>by cases J⟩;show false=bW b t (fv tb k) v;have C:=Em tb b.o b.ts k;rw[z.1,z.2,mW]at C;rw[hx,z.1,<-C];simp
   .have A:oW tb b.o b.ts=KK b.o (backL tb b.ts):=by unfold oW;rw[if_neg z]
    rw[A]at u;have J:=lJ b.o (backL tb b.ts) b.bg b.en b.s;have ke:∃k,bS b.o (backL tb b.ts) k=true:=by
     cases σ:b.o with
     |true=>
      obtain⟨k,p⟩:=List.exists_mem_of_ne_nil _ (λ q=>z ⟨σ,q⟩);exact⟨k,by rw[mW,yo];exact p⟩
     |false=>
      obtain⟨k,p⟩:=t_ (backL tb b.ts);exact⟨k,by rw[l3];simp[p]⟩
    refine⟨e_ b.o (backL tb b.ts) b.bg b.en b.s,by simp[iS,p_,List.replicate,es,j,l,W,mj,kf,kL,lB,u,J],λ t k v d=>?_,λ m J=>?_⟩
    .show _=bW b t (fv tb k) v;rw[xP t d,hx,Em]
    .refine uy J ⟨⟨?_,λ k p=>?_⟩,by unfold backL;exact n5 _⟩ w.c (w.bb.mono (gu (by lia)) (gu (by lia))) ke
     .unfold backL;rw[(gJ _).nodup_iff,Qd];exact⟨w.k.nd.filter _,i.nd.filter _,λ x hx y N z=>by
       subst z;have R:=(List.mem_filter.mp hx).2;have S:=(List.mem_filter.mp N).1;simp[S]at R⟩
     .have q:=(gJ _).mem_iff.mp p;rcases qv q with z|z
      .exact w.k.sub k (List.mem_filter.mp z).1
      .exact i.sub k (List.mem_filter.mp z).1
inductive RB where
 |inn (lo hi:Option Int)
 |one (f:Str) (r:Rw)
 |pour (fs:List Str)
 |oth (w:Str) (x y:D)
noncomputable def fx:RB->Bool
 |.oth _ _ _=>false
 |_=>true
structure bO where
 n:Str
 b:RB
 w:Nat
def aE(x:bO):D:=match x.b with
 |.inn lo hi=>.tup [.str "in",.str x.n,.tup [],.tup [dO lo,dO hi]]
 |.one f r=>cU (.str x.n) (.tup [.str f]) r
 |.pour fs=>.tup [.str "pour",.str x.n,.tup (fs.map .str),.tup []]
 |.oth w a b=>.tup [.str w,.str x.n,a,b]
theorem mm(x:bO):bK (aE x) (.int 1)=some (.str x.n):=by obtain⟨n,b,w⟩:=x;cases b<;>rfl
structure ed(P:List Str)(up:List bO)(x:bO):Prop where
 inn:∀lo hi,x.b=.inn lo hi->St.OB lo (2^40)/\St.OB hi (2^40)/\(∀a b,lo=some a->hi=some b->a<=b)/\1<=x.w
 one:∀f r,x.b=.one f r->gk P r/\∃y∈up,y.n=f/\y.w<=x.w/\fx y.b=true
 pour:∀fs,x.b=.pour fs->∃v,(∀f∈fs,∃y∈up,y.n=f/\y.w<=v/\fx y.b=true)/\fs.length*v<=x.w
 oth:∀w a b,x.b=.oth w a b→w=Str.ofString "ever"∨w=Str.ofString "ask"
structure fT(P:List Str)(rs:List bO):Prop where
 nd:(rs.map (·.n)).Nodup
 ok:∀i x,rs[i]?=some x->ed P (rs.take i) x
theorem T6(h:l[i]?=some x):l=l.take i++x::l.drop (i+1):=by obtain⟨hi,e⟩:=List.getElem?_eq_some_iff.mp h;rw[<-e,List.getElem_cons_drop,List.take_append_drop]
theorem FH(wk:D)(nm:Str)(x:bO)(hx:x.n=nm)(rest:List D):∀(pre:List bO)(s2:Sl),(∀y∈pre,y.n≠nm)->∃U,cK (gN 2) p9 (pre.map aE++aE x::rest) [.im wk,.im (.str nm),s2]=some (.rt (aE x) U)
 |[],s2,_=>by
  refine⟨[.im wk,.im (.str nm),.im (aE x)],?_⟩;rw[yg,Zl,gB];have e:p9 [.im wk,.im (.str nm),.im (aE x)]=some (.rt (aE x) [.im wk,.im (.str nm),.im (aE x)]):=by simp[p9,mm,hx]
  show fY _ _ _ (some [.im wk,.im (.str nm),.im (aE x)])=_;rw[gC,e,uW]
 |y::pre,s2,h=>by
  obtain⟨U,e⟩:=FH wk nm x hx rest pre (.im (aE y)) λ z a=>h z (qh _ a);refine⟨U,?_⟩;have q:=h y (qg ..);rw[qx,List.cons_append,gB];have e1:p9 [.im wk,.im (.str nm),.im (aE y)]=some (.nx [.im wk,.im (.str nm),.im (aE y)]):=by simp[p9,mm,q]
  show fY _ _ _ (some [.im wk,.im (.str nm),.im (aE y)])=_;rw[gC,e1,gE,e]
theorem Wz{P:List Str}{q:List bO}(h:fT P q){i:Nat}{x:bO}(hx:q[i]?=some x):mI [.lst (q.map aE),.str x.n]=some (aE x):=by
 have c:=T6 hx;have nd:=h.nd;rw[c,zv,qx,Qd]at nd;have Y:∀y∈q.take i,y.n≠x.n:=λ y J z=>nd.2.2 y.n (List.mem_map_of_mem J) x.n (qg ..) z;obtain⟨U,e⟩:=FH (.lst (q.map aE)) x.n x rfl ((q.drop (i+1)).map aE) (q.take i) .no Y;have e2:q.map aE=(q.take i).map aE++aE x::(q.drop (i+1)).map aE:=by grind
 rw[<-e2]at e;simp[mI,Dh,List.replicate,e]
theorem uN{P:List Str}{x:bO}{lo hi:Option Int}(hb:x.b=.inn lo hi)(o1:St.OB lo (2^40))(o2:St.OB hi (2^40))(o3:∀a b,lo=some a->hi=some b->a<=b):∃s:St.S,nW [aE x,.int 0]=some (dB ⟨false,[],0,none,s⟩)/\fH P (2^41) (2^11) ⟨false,[],0,none,s⟩/\fj [dO lo,dO hi,.int 1,.int 0]=some (dS s)/\∀v,cR s v=(d_ lo v&&ef hi v):=by
 have q:=n8 lo hi 1 0;have T:=St.made_ok (lo:=lo) (hi:=hi) (st:=1) (re:=0) (by decide) (by decide) (by decide);have J:∃Z,St.Between lo hi 1 0 Z:=by
  cases lo with
  |some a=>
   refine⟨a,λ l e=>by cases e;exact yk _,λ h e=>o3 a h rfl e,by lia⟩
  |none=>
   cases hi with
   |some b=>exact⟨b,λ l e=>(by cases e),λ h e=>by cases e;exact yk _,by lia⟩
   |none=>exact⟨0,λ l e=>(by cases e),λ l e=>(by cases e),by decide⟩
 obtain⟨Z,J⟩:=J;obtain⟨s,es,d,f⟩:=T.some J;have bs:=St.made_bd (re:=0) o1 o2 (m:=2^40) (show(1:Int).natAbs<=2^40 from Y1) (by decide) s es;have c:St.BB s (2^41) (2^11):=⟨by rcases St.made_st es with z|z<;>rw[z]<;>decide,bs.lo,bs.hi⟩;rw[es]at q;have Y:=lJ false [] 0 none s;refine⟨s,?_,⟨gA.nil P,yk _,(λ e z=>by cases z),d,c,Str.ofString "a",kr _⟩,q,λ v=>?_⟩
 .simp only[KK,iu,yg,nM]at Y;simp only[gH]at q;have g:bK (aE x) (.int 3)=some (.tup [dO lo,dO hi]):=by obtain⟨n,b,w⟩:=x;cases hb;rfl
  simp[nW,F9,List.replicate,g,dM,dR,q,Y,eP,e_,dB,KK,iu]
 .rw[yr,bB,f,zd,zH,zL];exact⟨λ h=>⟨h.1,h.2⟩,λ h=>⟨h.1,h.2,by lia⟩⟩
def aJ(p:Str×Bx):D:=.tup [.str p.1,dB p.2]
abbrev gz(P:List Str)(b:Bx):Prop:=fH P (2^430) (2^430) b
theorem Ln(k:Nat)(wk nm:D):fW (k+1) [wk,nm,.non]=some (.lst []):=by simp[fW,pR,List.replicate]
theorem Ab{α:Type}{G:Str->List α}{v:Nat}:∀fs:List Str,(∀f∈fs,(G f).length<=v)->(fs.flatMap G).length<=fs.length*v
 |[],_=>ye _
 |f::fs,h=>by
  have a:=h f (qg ..);have b:=Ab fs λ g q=>h g (qh _ q);rw[yn,zi,zh,Y5];lia
theorem Ko(s1 s2 Y Z:Sl):∀(fs:List Str)(q:List (Str×Bx))(s6:Sl),(∀f∈fs,FU [wk,.str f,bl]=some (.lst ((G f).map aJ))/\(G f).length<=v)->q.length+fs.length*v<=900->∃J:Sl,cK (gN 6) (we FU) (fs.map .str) [.im wk,s1,s2,Y,.im bl,.ow false (.lst (q.map aJ)),s6,Z]=some (.nx [.im wk,s1,s2,Y,.im bl,.ow false (.lst ((q++fs.flatMap G).map aJ)),J,Z])
 |[],q,s6,_,_=>⟨s6,by rw[yg,Ba,Zf,zx]⟩
 |f::fs,q,s6,h,b=>by
  obtain⟨e1,d⟩:=h f (qg ..);rw[zh,Y5]at b;obtain⟨J,e⟩:=Ko s1 s2 Y Z fs (q++G f) (.im (.str f)) (λ g a=>h g (qh _ a)) (by rw[zi];lia);refine⟨J,?_⟩;rw[qx,gB];have c:q.length+(G f).length<1000:=by lia
  have st:we FU [.im wk,s1,s2,Y,.im bl,.ow false (.lst (q.map aJ)),.im (.str f),Z]=some (.nx [.im wk,s1,s2,Y,.im bl,.ow false (.lst ((q++G f).map aJ)),.im (.str f),Z]):=by simp[we,e1,c]
  show fY _ _ _ (some [.im wk,s1,s2,Y,.im bl,.ow false (.lst (q.map aJ)),.im (.str f),Z])=_;rw[gC,st,gE,e,Qg,yn]
theorem ka{q:List bO}{i:Nat}{y:bO}(h:y∈q.take i):∃j,j<i/\q[j]?=some y:=by obtain⟨j,e⟩:=List.mem_iff_getElem?.mp h;exact⟨j,by grind⟩
theorem rV:¬Str.ofString "pour"=Str.ofString "in":=by decide+kernel
theorem uT(r:Rw):¬dt r=Str.ofString "in":=by
 cases r with
 |keys o l=>cases o<;>simp only[dt,wO]<;>decide+kernel
 |_=>simp only[dt];decide+kernel
theorem uj(r:Rw):¬dt r=Str.ofString "pour":=by
 cases r with
 |keys o l=>cases o<;>simp only[dt,wO]<;>decide+kernel
 |_=>simp only[dt];decide+kernel
theorem Bq(ok:gk P r)(q:0<=t)(e:eN r (t,k,v)=some z):0<=z.1:=by
 cases r with
 |later c=>
  have:=ok.later c rfl;obtain rfl:=br e;lia
 |turn a b=>obtain rfl:=br e;exact q
 |put tb=>obtain rfl:=br e;exact q
 |time b J=>obtain⟨_,e⟩:=bU e;subst e;exact q
 |keys o l=>obtain⟨_,e⟩:=bU e;subst e;exact q
 |span lo hi=>obtain⟨_,e⟩:=bU e;subst e;exact q
 |rest m x=>obtain⟨_,e⟩:=bU e;subst e;exact q
noncomputable abbrev Sm:=Int->Str->Int->Bool
def tM(r:Rw)(S:Sm)(t:Int)(k:Str)(v:Int):Bool:=match eN r (t,k,v)with
 |none=>false
 |some y=>S y.1 y.2.1 y.2.2
def Wy(q:List bO):Nat->bO->Sm->List (Str×Bx)->Prop
 |0,_,_,_=>False
 |n+1,x,S,σ=>match x.b with
  |.inn lo hi=>(σ=[]/\∀t k v,0<=t->(d_ lo v&&ef hi v&&S t k v)=false)\/∃m,σ=[(x.n,m)]/\(∀t k v,0<=t->bW m t k v=(d_ lo v&&ef hi v&&S t k v))/\∃t k v,0<=t/\bW m t k v=true
  |.one f r=>∃y∈q,y.n=f/\∃J:Sm,(∀t k v,0<=t->J t k v=tM r S t k v)/\Wy q n y J σ
  |.pour fs=>∃G:Str->List (Str×Bx),σ=fs.flatMap G/\∀f∈fs,∃y∈q,y.n=f/\Wy q n y S (G f)
  |.oth _ _ _=>False
theorem Hl:∀l:List α,(l.flatMap λ _=>([]:List β))=[]
 |[]=>rfl
 |_::l=>by rw[yn,Hl l];rfl
theorem VB{P:List Str}{Y:List bO}(h:fT P Y)(i:Nat):∀(x:bO),Y[i]?=some x->fx x.b=true->∀(S:Sm),(∀t k v,0<=t->S t k v=false)->∀n,i<n->Wy Y n x S []:=by
 induction i using Nat.strongRecOn with
 |_ i l=>
  intro x hx o S Z n A;have ok:=h.ok i x hx;obtain⟨n,rfl⟩:∃k,n=k+1:=⟨n-1,by lia⟩;obtain⟨C,xb,xw⟩:=x;cases xb with
  |oth w a b=>cases o
  |inn lo hi=>exact .inl ⟨rfl,λ t k v g=>by rw[Z t k v g,Za]⟩
  |one f r=>
   obtain⟨J,y,d,m,B,s⟩:=ok.one f r rfl;obtain⟨j,c,q⟩:=ka d;refine⟨y,ze q,m,tM r S,λ _ _ _ _=>rfl,l j c y q s _ (λ t k v g=>?_) n (by lia)⟩;unfold tM;cases e:eN r (t,k,v)with
   |none=>rfl
   |some z=>exact Z _ _ _ (Bq J g e)
  |pour fs=>
   obtain⟨v,J,m⟩:=ok.pour fs rfl;refine⟨λ _=>[],(Hl fs).symm,λ f p=>?_⟩;obtain⟨y,d,e,_,u⟩:=J f p;obtain⟨j,c,q⟩:=ka d;exact⟨y,ze q,e,l j c y q u S Z n (by lia)⟩
theorem NR{P:List Str}(hP:P.length<=10){Z:List bO}(h:fT P Z)(hw:∀x∈Z,x.w<=125)(i:Nat):∀(x:bO),Z[i]?=some x->fx x.b=true->∀(n:Nat)(b:Bx),50<=n->n+12*(i+1)<=430->fH P (2^n) (2^n) b->∃σ:List (Str×Bx),σ.length<=x.w/\(∀y∈σ,gz P y.2)/\(∀(J:Nat),i<J->fW J [.lst (Z.map aE),.str x.n,dB b]=some (.lst (σ.map aJ)))/\(∀k,i<k->Wy Z k x (bW b) σ)/\∀fs,x.b=.pour fs->∃G:Str->List (Str×Bx),σ=fs.flatMap G/\∀f∈fs,∀(J:Nat),i<J+1->fW J [.lst (Z.map aE),.str f,dB b]=some (.lst ((G f).map aJ)):=by
 induction i using Nat.strongRecOn with
 |_ i IH=>
  intro x hx hc n b X n2 M;have ok:=h.ok i x hx;have wx:=hw x (ze hx);have nm:mI [.lst (Z.map aE),.str x.n]=some (aE x):=Wz h hx;have nb:fy (dB b)=false:=rfl;have T:∀(fs:List Str)(q:Option Bx)(k:Nat)(v:Nat),50≤k→k+12*i≤430→(∀m,q=some m→fH P (2^k) (2^k) m)→(∀f∈fs,∃y∈Z.take i,y.n=f∧y.w≤v∧fx y.b=true)→fs.length*v≤x.w→bK (aE x) (.int 2)=some (.tup (fs.map .str))→(∃w,bK (aE x) (.int 0)=some (.str w)∧¬w=Str.ofString "in"∧gX (tB (e2 eQ (e2 bK (eV 3) (zI 0)) (zR "pour"))) (eV 2) (eF iS (aC (eV 3) (aC (eV 2) aN))) [.im (.lst (Z.map aE)),.im (.str x.n),.im (dB b),.im (aE x),.no,.no,.no,.no]=some (eP q,[.im (.lst (Z.map aE)),.im (.str x.n),.im (dB b),.im (aE x),.no,.no,.no,.no]))→∃σ:List (Str×Bx),σ.length<=x.w/\(∀y∈σ,gz P y.2)/\(∀(J:Nat),i<J->fW J [.lst (Z.map aE),.str x.n,dB b]=some (.lst (σ.map aJ)))/\∃G:Str->List (Str×Bx),σ=fs.flatMap G/\∀f∈fs,(∀(J:Nat),i<J+1->fW J [.lst (Z.map aE),.str f,eP q]=some (.lst ((G f).map aJ)))/\∃y∈Z,y.n=f/\∀k,i<k+1->Wy Z k y (kb q) (G f):=by
   intro fs q k v k1 k2 hq u hv h2 ⟨w,h0,ai,he⟩;have af:∀f,∃σ:List (Str×Bx),f∈fs->σ.length<=v/\(∀y∈σ,gz P y.2)/\(∀(J:Nat),i<J+1->fW J [.lst (Z.map aE),.str f,eP q]=some (.lst (σ.map aJ)))/\∃y∈Z,y.n=f/\∀k,i<k+1->Wy Z k y (kb q) σ:=λ f=>by
    by_cases Y:f∈fs
    .obtain⟨y,c,rfl,yw,yc⟩:=u f Y;obtain⟨j,hj,F⟩:=ka c;cases q with
     |none=>
      refine⟨[],λ _=>⟨ye _,(λ y c=>by simp at c),λ J p=>?_,y,ze F,rfl,λ k A=>VB h j y F yc _ (λ _ _ _ _=>rfl) k (by lia)⟩⟩;cases J with
      |zero=>lia
      |succ J=>exact Ln _ _ _
     |some m=>
      refine k6 (IH j hj y F yc k m k1 (by lia) (hq m rfl)) λ σ H B C l4 _=>?_;exact⟨σ,λ _=>⟨by lia,B,λ J p=>C J (by lia),y,ze F,rfl,λ k A=>l4 k (by lia)⟩⟩
    .exact⟨[],λ z=>absurd z Y⟩
   obtain⟨G,d⟩:=Classical.axiomOfChoice af;refine⟨fs.flatMap G,zc (Ab fs λ f Y=>(d f Y).1) hv,λ y c=>?_,λ J p=>?_,G,rfl,λ f Y=>(d f Y).2.2⟩
   .grind
   .cases J with
    |zero=>lia
    |succ J=>
     obtain⟨ak,e⟩:=Ko (FU:=fW J) (wk:=.lst (Z.map aE)) (bl:=eP q) (v:=v) (G:=G) (.im (.str x.n)) (.im (dB b)) (.im (aE x)) .no fs [] .no (λ f Y=>⟨(d f Y).2.2.1 J p,(d f Y).1⟩) (by rw[yx];lia);rw[yg]at e;simp[fW,pR,List.replicate,nb,nm,h0,ai,h2,-UN,he,e]
  obtain⟨l,xb,xw⟩:=x;cases xb with
  |oth w a b=>cases hc
  |inn lo hi=>
   refine gO (ok.inn lo hi rfl) λ D E O Q=>?_;refine dE (uN (P:=P) (x:=⟨l,.inn lo hi,xw⟩) rfl D E O) λ s es gs _ ah=>?_;have p1:2^41<=2^n:=gu (by lia);have p2:2^n<=2^450:=gu (by lia);refine aW (Ao hP p2 (gu (by decide)) p2 (gs.mono p1 (qj _)) M) λ r V ag W=>?_;have o:bK (aE ⟨l,.inn lo hi,xw⟩) (.int 0)=some (.str "in"):=rfl;have ρ:∀t k v,0<=t->kb r t k v=(d_ lo v&&ef hi v&&bW b t k v):=λ t k v R=>by
    rw[ag];have e1:bS false [] k=true:=kr k;have e2:decide ((0:Int)<=t)=true:=zm R;show(decide ((0:Int)<=t)&&bX none t&&bS false [] k&&cR s v&&_)=_;rw[e1,e2,ah];rfl
   cases r with
   |none=>
    refine⟨[],ye _,(λ y c=>by simp at c),λ J p=>?_,λ k A=>?_,λ fs e=>by simp at e⟩
    rotate_left
    .obtain⟨k,rfl⟩:∃m,k=m+1:=⟨k-1,by lia⟩;exact .inl ⟨rfl,λ t k v R=>(ρ t k v R).symm⟩
    cases J with
    |zero=>lia
    |succ J=>
     simp[fW,pR,List.replicate,nb,nm,o,es,V,eP]
   |some m=>
    have p3:2^11*2^n=2^(n+11):=by rw[<-Zw,Nat.add_comm]
    have p5:2^n<=2^(n+11):=gu (by lia);have p6:2^(n+12)=2^(n+11)+2^(n+11):=by rw[Y6];lia
    have p7:2^(n+12)<=2^430:=gu (by lia);refine⟨[(l,m)],Q,λ y c=>?_,λ J p=>?_,λ k A=>?_,λ fs e=>by simp at e⟩
    rotate_right
    .obtain⟨k,rfl⟩:∃m,k=m+1:=⟨k-1,by lia⟩;exact .inr ⟨m,rfl,ρ,(W m rfl).some_thing⟩
    .cases List.mem_singleton.mp c;exact(W m rfl).mono (by rw[p3];lia) (by rw[p3];lia)
    .cases J with
     |zero=>lia
     |succ J=>
      have aj:fy (dB m)=false:=rfl;simp[fW,pR,List.replicate,nb,nm,o,es,V,eP,aj,aJ]
  |one f r=>
   obtain⟨D,y,c,E,O,Q⟩:=ok.one f r rfl;refine aW (L9 hP (.str l) (.tup [.str f]) D X (by lia) M) λ q e1 e2 e3=>?_;have o:bK (aE ⟨l,.one f r,xw⟩) (.int 0)=some (.str (dt r)):=rfl;have e1:iS [aE ⟨l,.one f r,xw⟩,dB b]=some (eP q):=e1;obtain⟨σ,H,B,C,G,I,d⟩:=T [f] q (n+12) xw (by lia) (by lia) e3 (λ g hg=>by cases List.mem_singleton.mp hg;exact gj y c E O Q) (by simp) rfl ⟨dt r,rfl,uT r,by simp[o,uj r,e1]⟩;refine⟨σ,H,B,C,λ k A=>?_,λ fs e=>by simp at e⟩;obtain⟨k,rfl⟩:∃m,k=m+1:=⟨k-1,by lia⟩;refine aW ((d f (List.mem_singleton.mpr rfl)).2) λ S N K wy=>?_;refine⟨S,N,K,kb q,e2,?_⟩;have:σ=G f:=by rw[I,yn,Zf,zx]
   rw[this];exact wy k (by lia)
  |pour fs=>
   obtain⟨v,D,E⟩:=ok.pour fs rfl;have o:bK (aE ⟨l,.pour fs,xw⟩) (.int 0)=some (.str "pour"):=rfl;obtain⟨σ,H,B,C,G,I,d⟩:=T fs (some b) n v X (by lia) (λ m em=>by obtain rfl:=br em;exact M) D E rfl ⟨_,rfl,rV,by simp[o,eP]⟩;refine⟨σ,H,B,C,λ k A=>?_,λ fs' e=>by cases e;exact⟨G,I,λ f u=>(d f u).1⟩⟩;obtain⟨k,rfl⟩:∃m,k=m+1:=⟨k-1,by lia⟩;refine⟨G,I,λ f u=>?_⟩;refine aW ((d f u).2) λ S N K wy=>?_;exact cN S N K (wy k (by lia))
theorem AK(n:Nat)(xs:List D):iO xs none (some (n:Int))=xs.take n:=by
 unfold iO;rw[Ny];show(xs.drop 0).take (min n xs.length-0)=_;rw[jx,Nat.sub_zero];by_cases h:n<=xs.length
 .rw[Nat.min_eq_left h]
 .grind
theorem jB:2^430<=2^450:=gu (by decide)
theorem pf(y:Str×Bx):bK (aJ y) (.int 0)=some (.str y.1):=rfl
theorem sf(y:Str×Bx):bK (aJ y) (.int 1)=some (dB y.2):=rfl
theorem aj8(hP:P.length<=10)(q:D)(k:Sl)(Z:gz P x.2):∀(ys:List (Str×Bx))(J:Sl),(∀y∈ys,gz P y.2)->(∃U,cK (gN 3) i3 (ys.map aJ) [.im q,k,.im (aJ x),J]=some (.rt (.bl true) U))\/∃Y,cK (gN 3) i3 (ys.map aJ) [.im q,k,.im (aJ x),J]=some (.nx [.im q,k,.im (aJ x),Y])
 |[],J,_=>.inr ⟨J,rfl⟩
 |y::ys,J,h=>by
  have a:=aj8 hP q k Z ys (.im (aJ y)) λ z b=>h z (qh _ b);have st:cK (gN 3) i3 ((y::ys).map aJ) [.im q,k,.im (aJ x),J]=sP (gN 3) i3 (ys.map aJ) (i3 [.im q,k,.im (aJ x),.im (aJ y)]):=by rw[qx,gB];show fY _ _ _ (some [.im q,k,.im (aJ x),.im (aJ y)])=_;rw[gC]
  refine aW (Ao hP jB jB jB Z (h y (qg ..))) λ r e _ _=>?_;rw[st];by_cases c:x.1=y.1
  .cases r with
   |none=>
    rw[show i3 [.im q,k,.im (aJ x),.im (aJ y)]=some (.nx [.im q,k,.im (aJ x),.im (aJ y)]) by simp[i3,pf,sf,c,e,eP],gE];exact a
   |some m=>
    have nm:fy (dB m)=false:=rfl;exact .inl ⟨_,by rw[show i3 [.im q,k,.im (aJ x),.im (aJ y)]=some (.rt (.bl true) [.im q,k,.im (aJ x),.im (aJ y)]) by simp[i3,pf,sf,c,e,eP,nm],uW]⟩
  .rw[show i3 [.im q,k,.im (aJ x),.im (aJ y)]=some (.nx [.im q,k,.im (aJ x),.im (aJ y)]) by simp[i3,pf,c],gE];exact a
theorem FD{P:List Str}(Z:P.length<=10){σ:List (Str×Bx)}(g:∀y∈σ,gz P y.2):∀(m i:Nat)(s1 s2 J:Sl),i+m=σ.length->∃Y U,cK (gT [1,2]) vL (ij i ((σ.drop i).map aJ)) [.im (.lst (σ.map aJ)),s1,s2,J]=some (if Y=true then .rt (.bl true) U else .nx U)
 |0,i,s1,s2,J,e=>⟨false,_,by rw[jj (by lia)];rfl⟩
 |m+1,i,s1,s2,J,e=>by
  have d:(σ.map aJ).take i=(σ.take i).map aJ:=List.map_take.symm;rw[yq (by lia),qx];generalize hx:σ[i]=x;have a:=g x (by rw[<-hx];exact Qu ..);show ∃Y U,cK _ _ (D.tup [.int (i:Int),aJ x]::ij (i+1) ((σ.drop (i+1)).map aJ)) _=_;rw[gB];show ∃Y U,fY _ _ _ (some [.im (.lst (σ.map aJ)),.im (.int (i:Int)),.im (aJ x),J])=_;have st:vL [.im (.lst (σ.map aJ)),.im (.int (i:Int)),.im (aJ x),J]=cK (gN 3) i3 ((σ.take i).map aJ) [.im (.lst (σ.map aJ)),.im (.int (i:Int)),.im (aJ x),J]:=by simp only[vL];simp[AK]
  rw[gC,st];rcases aj8 Z (.lst (σ.map aJ)) (.im (.int (i:Int))) a (σ.take i) J λ y b=>g y (Zi b)with⟨U,q⟩|⟨c,q⟩
  .exact⟨true,U,by rw[q,uW];rfl⟩
  .rw[q,gE];exact FD Z g m (i+1) _ _ _ (by lia)
theorem K9(J:P.length<=10){σ:List (Str×Bx)}(g:∀y∈σ,gz P y.2):∃q:Bool,nu [.lst (σ.map aJ)]=some (.bl q):=by
 obtain⟨q,U,e⟩:=FD J g σ.length 0 .no .no .no (by lia);rw[jx]at e;cases q with
 |true=>exact⟨true,by simp[nu,B5,List.replicate,e]⟩
 |false=>exact⟨false,by simp[nu,B5,List.replicate,e]⟩
def kc:Bx:=⟨false,[],0,none,gY⟩
theorem OM(P:List Str):fH P (2^50) (2^50) kc:=⟨gA.nil P,yk _,(λ e z=>by cases z),xR,kn.mono (gu (by decide)) (gu (by decide)),Str.ofString "a",kr _⟩
theorem Mx:fu [.tup [.str "but",.tup []],.int 0,.non,.tup [.non,.non,.int 1,.int 0]]=some (dB kc):=lJ false [] 0 none gY
theorem Oj(h:fW 24 [wk,nm,dB kc]=some d):iE [wk,nm]=some d:=by have:=Mx;simp[iE,C3,List.replicate,this,h]
abbrev CH:D:=.tup [(.str "in"),(.str "time"),(.str "only"),(.str "but"),(.str "span"),(.str "rest"),(.str "turn"),(.str "later"),(.str "put"),(.str "pour")]
noncomputable def sT:RB->Bool
 |.pour _=>true
 |_=>false
noncomputable def J1:RB->Bool
 |.inn _ _=>true
 |_=>false
theorem Es(x:bO)(q:fx x.b=true):∃w,bK (aE x) (.int 0)=some (.str w)∧jJ (.str w) CH=some (.bl true)∧(w=Str.ofString "pour"↔sT x.b=true):=by
 obtain⟨n,b,w⟩:=x;cases b with
 |oth w a b=>cases q
 |inn lo hi=>exact cN _ rfl rfl ⟨λ z=>absurd z.symm rV,λ z=>by cases z⟩
 |pour fs=>exact cN _ rfl rfl ⟨λ _=>rfl,λ _=>rfl⟩
 |one f r=>
  refine cN (dt r) rfl ?_ ⟨λ z=>absurd z (uj r),λ z=>by cases z⟩;cases r with
  |keys o l=>cases o<;>rfl
  |_=>rfl
def uX(x:bO)(σ:List (Str×Bx))(q:Bool):Bool:=σ.isEmpty||(sT x.b&&q)
theorem bg1{x:bO}(hc:fx x.b=true)(q:iE [wk,.str x.n]=some (.lst (σ.map aJ)))(ht:nu [.lst (σ.map aJ)]=some (.bl Y))(k:Nat)(s3:Sl):(uX x σ Y=true∧kK [.im wk,.im (.int (k:Int)),.im (aE x),s3]=some (.ex (Str.ofString "NoWorks",some (Str.ofString "at",.int (k:Int)))))∨(uX x σ Y=false∧∃aa,kK [.im wk,.im (.int (k:Int)),.im (aE x),s3]=some (.ok (.nx [.im wk,.im (.int (k:Int)),.im (aE x),aa]))):=by
 refine aW (Es x hc) λ w Z a e=>?_;have J:=mm x;unfold uX;cases σ with
 |nil=>
  refine .inl ⟨rfl,?_⟩;rw[yg]at q;simp[kK,c8,Z,a,J,q]
 |cons y σ=>
  rw[qx]at q ht;by_cases c:sT x.b=true
  .have d:=e.mpr c;subst d;cases Y with
   |true=>
    refine .inl ⟨by rw[c];rfl,?_⟩;simp[kK,c8,Z,a,J,q,ht]
   |false=>
    refine .inr ⟨by rw[c];rfl,.im (.lst (aJ y::σ.map aJ)),?_⟩;simp[kK,c8,Z,a,J,q,ht]
  .have d:¬w=Str.ofString "pour":=λ z=>c (e.mp z);have f:sT x.b=false:=by cases z:sT x.b;rfl;exact absurd z c
   refine .inr ⟨by rw[f];rfl,.im (.lst (aJ y::σ.map aJ)),?_⟩;simp[kK,c8,Z,a,J,q,d]
def Org(P:List Str)(J:List bO)(i:Nat)(x:bO)(σ:List (Str×Bx)):Prop:=
 σ.length<=x.w/\(∀y∈σ,gz P y.2)/\(∀(q:Nat),i<q->fW q [.lst (J.map aE),.str x.n,dB kc]=some (.lst (σ.map aJ)))/\(∀k,i<k->Wy J k x (bW kc) σ)/\∀fs,x.b=.pour fs->∃G:Str->List (Str×Bx),σ=fs.flatMap G/\∀f∈fs,∀(q:Nat),i<q+1->fW q [.lst (J.map aE),.str f,dB kc]=some (.lst ((G f).map aJ))
structure Wk(P:List Str)(rs:List bO):Prop where
 hP:P.length<=10
 ok:fT P rs
 w:∀x∈rs,x.w<=125
 len:rs.length<=24
 c:∀x∈rs,fx x.b=true
theorem Org.is(h:Wk P q)(hx:q[i]?=some x)(o:Org P q i x σ):iE [.lst (q.map aE),.str x.n]=some (.lst (σ.map aJ)):=by have:=(List.getElem?_eq_some_iff.mp hx).1;have:=h.len;exact Oj (o.2.2.1 24 (by lia))
theorem Wk.org(h:Wk P q)(hx:q[i]?=some x):∃σ,Org P q i x σ:=by have hi:=(List.getElem?_eq_some_iff.mp hx).1;have J:=h.len;exact NR h.hP h.ok h.w i x hx (h.c x (ze hx)) 50 kc (qj _) (by lia) (OM P)
theorem uU(q:0<=t):bW kc t k v=true:=by unfold bW kc;rw[kr,yB];simp[q,bX]
theorem JL(h:Wk P J)(hx:J[i]?=some x)(Y:x.b=.inn lo hi)(o:Org P J i x σ):σ≠[]:=λ z=>by
 refine gO ((h.ok.ok i x hx).inn lo hi Y) λ f g Z _=>?_;refine dE (uN (P:=P) Y f g Z) λ s _ a _ d=>?_;obtain⟨v,q⟩:=a.c.some;have w:=o.2.2.2.1 (i+1) (by lia);have q:=bB.mpr q;rw[d]at q;obtain⟨j,xb,xw⟩:=x;subst Y;rcases w with⟨_,w⟩|⟨m,e,_⟩
 .have:=w 0 (Str.ofString "a") v (yk _);rw[q,uU (yk _)]at this;simp at this
 .rw[z]at e;simp at e
abbrev xC(i:Nat)(l:List D)(U:En):Option RX:=jR (gT [1,2]) kK (ij i l) U
noncomputable abbrev JS(k:Nat):RX:=.ex (Str.ofString "NoWorks",some (Str.ofString "at",.int (k:Int)))
theorem Pt(k:Nat)(d:D)(l:List D)(w s1 s2 q:Sl):xC k (d::l) [w,s1,s2,q]=aF (kK [w,.im (.int (k:Int)),.im d,q]) (BX (jR (gT [1,2]) kK (ij (k+1) l))):=by show jR _ _ (D.tup [.int (k:Int),d]::ij (k+1) l) _=_;rw[Fp];rfl
def cZ(P:List Str)(q:List bO):Prop:=∀i x,q[i]?=some x->∃σ,Org P q i x σ/\σ≠[]
theorem aT2(h:Wk P J):∀(m i:Nat)(s1 s2 Y:Sl),i+m=J.length->(∃k x,J[k]?=some x/\J1 x.b=false/\xC i ((J.drop i).map aE) [.im (.lst (J.map aE)),s1,s2,Y]=some (JS k))\/
  ((∀j x,i<=j->J[j]?=some x->∃σ,Org P J j x σ/\σ≠[])/\∃U,xC i ((J.drop i).map aE) [.im (.lst (J.map aE)),s1,s2,Y]=some (.ok (.nx U)))
 |0,i,s1,s2,Y,e=>.inr ⟨λ j x d a=>by have:=(List.getElem?_eq_some_iff.mp a).1;lia,_,by rw[jj (by lia)];rfl⟩
 |m+1,i,s1,s2,Y,e=>by
  have hx:J[i]?=some J[i]:=zk (by lia);rw[yq (by lia),qx,Pt];generalize J[i]=x at hx⊢;obtain⟨σ,o⟩:=h.org hx;obtain⟨r,g⟩:=K9 h.hP o.2.1;rcases bg1 (h.c x (ze hx)) (Org.is h hx o) g i Y with⟨b,q⟩|⟨b,n,q⟩
  .refine .inl ⟨i,x,hx,?_,by rw[q];rfl⟩;cases f:x.b with
   |inn lo hi=>
    unfold uX at b;rw[f]at b;cases σ with
    |nil=>exact absurd rfl (JL h hx f o)
    |cons=>cases b
   |_=>rfl
  .rw[q];rcases aT2 h m (i+1) (.im (.int (i:Int))) (.im (aE x)) n (by lia)with⟨k,y,d,a,l⟩|⟨d,U,a⟩
   .exact .inl ⟨k,y,d,a,l⟩
   .refine .inr ⟨λ j y p Z=>?_,U,a⟩;by_cases c:j=i
    .subst c;rw[hx]at Z;obtain rfl:=br Z;exact⟨σ,o,λ z=>by subst z;cases b⟩
    .exact d j y (by lia) Z
theorem NA(h:xC 0 l [.im (.lst l),.no,.no,.no]=some (JS k)):kg [.lst l]=some (.inr (Str.ofString "NoWorks",some (Str.ofString "at",.int (k:Int)))):=by have h:=h;simp[kg,nK,Cj,List.replicate,h,c8]
theorem OY(h:xC 0 l [.im (.lst l),.no,.no,.no]=some (.ok (.nx U))):kg [.lst l]=some (.inl .non):=by have h:=h;simp[kg,nK,Cj,List.replicate,h,c8]
theorem R_7(h:Wk P q):(∃(k:Nat)(x:bO),q[k]?=some x∧J1 x.b=false∧kg [.lst (q.map aE)]=some (.inr (Str.ofString "NoWorks",some (Str.ofString "at",.int (k:Int)))))∨(cZ P q∧kg [.lst (q.map aE)]=some (.inl .non)):=by
 rcases aT2 h q.length 0 .no .no .no (by lia)with⟨k,x,c,a,d⟩|⟨c,U,a⟩
 .exact .inl ⟨k,x,c,a,NA (by rw[jx]at d;exact d)⟩
 .exact .inr ⟨λ i x hx=>c i x (ye _) hx,OY (by rw[jx]at a;exact a)⟩
noncomputable abbrev sx(n f:Str)(w:Nat):bO:=⟨n,.one f (.later 1),w⟩
structure Gd(P:List Str)(rs:List bO):Prop where
 wk:Wk P rs
 w1:∀x∈rs,1<=x.w
 z:∃x lo hi,rs[0]?=some x/\x.b=.inn lo hi/\x.w=1
theorem K_(h:0<=c):gk P (.later c):=⟨λ _ _ e=>(by simp at e),λ _ _ e=>(by simp at e),λ _ _ e=>(by simp at e),λ _ _ e=>(by simp at e),λ _ _ e=>(by simp at e),λ _ e=>by cases e;exact h,λ _ e=>(by simp at e)⟩
theorem T_9{l:List α}(h:y∈l.take i):y∈(l.set k x').take i\/l[k]?=some y/\x'∈(l.set k x').take i:=by
 obtain⟨j,e⟩:=List.mem_iff_getElem?.mp h;by_cases c:k=j
 .exact .inr ⟨by grind,List.mem_iff_getElem?.mpr ⟨k,by grind⟩⟩
 .exact .inl (List.mem_iff_getElem?.mpr ⟨j,by grind⟩)
theorem Gd.set(h:Gd P Y)(hx:Y[k]?=some x)(k1:1<=k)(hf:Y[0]?=some f):Gd P (Y.set k (sx x.n f.n x.w)):=by
 refine d7 h.z λ u lo hi e1 e2 e3=>?_;rw[hf]at e1;obtain rfl:=br e1;have s:=(List.getElem?_eq_some_iff.mp hx).1;have up:∀(i:Nat)(n:Str)(v:Nat),(∃y∈Y.take i,y.n=n/\y.w<=v/\fx y.b=true)->∃y∈(Y.set k (sx x.n f.n x.w)).take i,y.n=n/\y.w<=v/\fx y.b=true:=λ i n v Z=>by
  refine dE Z λ y J a b l=>?_;rcases T_9 J with q|⟨d,t⟩
  .exact gj y q a b l
  .rw[hx]at d;obtain rfl:=br d;exact gj _ t a b rfl
 have mem:∀y∈Y.set k (sx x.n f.n x.w),1<=y.w/\y.w<=125/\fx y.b=true:=λ y J=>by
  rcases List.mem_or_eq_of_mem_set J with q|rfl
  .exact⟨h.w1 y q,h.wk.w y q,h.wk.c y q⟩
  .exact⟨h.w1 x (ze hx),h.wk.w x (ze hx),rfl⟩
 have j:(Y.set k (sx x.n f.n x.w)).map (·.n)=Y.map (·.n):=by rw[Y8];apply Zz;grind
 refine⟨⟨h.wk.hP,⟨by rw[j];exact h.wk.ok.nd,λ i y J=>?_⟩,λ y J=>(mem y J).2.1,by rw[yf];exact h.wk.len,λ y J=>(mem y J).2.2⟩,λ y J=>(mem y J).1,f,lo,hi,by rw[zf (by lia)];exact hf,e2,e3⟩;by_cases c:k=i
 .subst c;rw[zl s]at J;obtain rfl:=br J;refine⟨λ _ _ e=>(by simp at e),λ g r e=>?_,λ _ e=>(by simp at e),λ _ _ _ e=>(by simp at e)⟩;cases e;refine⟨K_ (by decide),up k f.n x.w ⟨f,?_,rfl,by rw[e3];exact h.w1 x (ze hx),by rw[e2];rfl⟩⟩;exact List.mem_iff_getElem?.mpr ⟨0,by rw[y8,if_pos (by lia)];exact hf⟩
 .rw[zf c]at J;have ok:=h.wk.ok.ok i y J;exact⟨ok.inn,λ g r e=>⟨(ok.one g r e).1,up i g y.w (ok.one g r e).2⟩,λ fs e=>by
   obtain⟨v,m,o⟩:=ok.pour fs e;exact⟨v,λ g p=>up i g v (m g p),o⟩,ok.oth⟩
theorem F5(x:bO):∃w r,aE x=.tup (w::.str x.n::r):=by obtain⟨n,b,w⟩:=x;cases b<;>exact⟨_,_,rfl⟩
theorem aJ4{P:List Str}{q:List bO}(h:Gd P q)(J:D)(t:Sl)(Y:Sl)(n0:gG t=true)(n3:gG Y=true):(cZ P q/\∃U,pW [.im J,.ow false (.lst (q.map aE)),t,Y,.no]=some (.rt (.lst (q.map aE)) U))\/∃Z d,Gd P Z/\Z.map (·.n)=q.map (·.n)/\pW [.im J,.ow false (.lst (q.map aE)),t,Y,.no]=some (.nx [.im J,.ow false (.lst (Z.map aE)),t,.im d,.no]):=by
 have one:vm 1 [.im J,.ow false (.lst (q.map aE)),t,Y,.no]=true:=by show(gG (.im J)&&(gG .no&&(gG t&&(gG Y&&(gG .no&&true)))))=true;rw[n0,n3];rfl
 have b:vm 1 [.im J,.ow false (.lst (q.map aE)),t,Y,.no]=true/\vJ ([.im J,.ow false (.lst (q.map aE)),t,Y,.no]:En)[4]?=true/\3<([.im J,.ow false (.lst (q.map aE)),t,Y,.no]:En).length:=⟨one,rfl,qj 4 |> Nat.le_succ_of_le⟩;have un:pW [.im J,.ow false (.lst (q.map aE)),t,Y,.no]=aF (kg [.lst (q.map aE)]) (rG 1 3 [.im J,.ow false (.lst (q.map aE)),t,Y,.no] (q.map aE) (i8 1 (bD (eV 1)))):=by show zU 1 3 4 kg (i8 1 (bD (eV 1))) _ (some (q.map aE))=_;unfold zU;rw[c8,if_pos b]
 rw[un];rcases R_7 h.wk with⟨k,x,hx,a,e⟩|⟨j,e⟩
 .refine d7 h.z λ f lo hi e1 e2 e3=>?_;have k1:1<=k:=by
   cases k with
   |zero=>
    rw[e1]at hx;obtain rfl:=br hx;rw[e2]at a;cases a
   |succ k=>lia
  obtain⟨w,r,p⟩:=F5 x;obtain⟨m,l,o⟩:=F5 f;have g:(q.map aE)[((k:Int)).toNat]?=some (.tup (w::.str x.n::r)):=by rw[Int.toNat_natCast,zo,hx,<-p];rfl
  have c:(q.map aE)[(0:Nat)]?=some (.tup (m::.str f.n::l)):=by rw[zo,e1,<-o];rfl
  have i:ni (q.map aE) (k:Int)=some (.tup (w::.str x.n::r),(q.set k (sx x.n f.n x.w)).map aE):=by unfold ni;rw[if_pos (by lia),g,c];dsimp only;rw[Y8];rfl
  refine .inr ⟨_,.tup (w::.str x.n::r),h.set hx k1 e1,?_,?_⟩
  .rw[Y8];apply Zz;grind
  .rw[e,c8];unfold rG;dsimp only;rw[if_pos ⟨rfl,rfl⟩,i,c8];rfl
 .rw[e,c8];exact .inl ⟨j,_,rfl⟩
theorem aQ9{P:List Str}(w0:D):∀(m:Nat)(lo:Int)(Y:List bO)(t Z:Sl),Gd P Y->gG Z=true->(∃J U,Gd P J/\cZ P J/\J.map (·.n)=Y.map (·.n)/\cK (gN 2) pW (eL lo m) [.im w0,.ow false (.lst (Y.map aE)),t,Z,.no]=some (.rt (.lst (J.map aE)) U))\/
  ∃J t' aa,Gd P J/\J.map (·.n)=Y.map (·.n)/\cK (gN 2) pW (eL lo m) [.im w0,.ow false (.lst (Y.map aE)),t,Z,.no]=some (.nx [.im w0,.ow false (.lst (J.map aE)),t',aa,.no])
 |0,lo,Y,t,Z,h,_=>.inr ⟨Y,t,Z,h,rfl,rfl⟩
 |m+1,lo,Y,t,Z,h,j=>by
  show(∃J U,_/\_/\_/\cK _ _ (D.int lo::eL (lo+1) m) _=_)\/∃J t' aa,_/\_/\cK _ _ (D.int lo::eL (lo+1) m) _=_;rw[gB];show(∃J U,_/\_/\_/\fY _ _ _ (some [.im w0,.ow false (.lst (Y.map aE)),.im (.int lo),Z,.no])=_)\/∃J t' aa,_/\_/\fY _ _ _ (some [.im w0,.ow false (.lst (Y.map aE)),.im (.int lo),Z,.no])=_;rw[gC];rcases aJ4 h w0 (.im (.int lo)) Z rfl j with⟨i,U,e⟩|⟨f,d,g,nm,e⟩
  .exact .inl ⟨Y,U,h,i,rfl,by rw[e,uW]⟩
  .rw[e,gE];rcases aQ9 w0 m (lo+1) f (.im (.int lo)) (.im d) g rfl with⟨J,U,a,b,c,q⟩|⟨J,t',aa,a,c,q⟩
   .grind
   .grind
theorem Gd.one(h:Gd P q):Gd P (q.take 1):=by
 refine d7 h.z λ f lo hi e1 e2 e3=>?_;have z:(q.take 1)[0]?=some f:=by rw[y8,if_pos (by decide)];exact e1
 have sub:∀x∈q.take 1,x∈q:=λ x hx=>Zi hx;refine⟨⟨h.wk.hP,⟨?_,λ i x hx=>?_⟩,λ x hx=>h.wk.w x (sub x hx),by rw[y7];have:=h.wk.len;lia,λ x hx=>h.wk.c x (sub x hx)⟩,λ x hx=>h.w1 x (sub x hx),f,lo,hi,z,e2,e3⟩
 .rw[List.map_take];exact h.wk.ok.nd.sublist (Zx ..)
 .rw[y8]at hx;split at hx
  .obtain rfl:i=0:=by lia
   exact h.wk.ok.ok 0 x hx
  .simp at hx
theorem Gd.one_pass(h:Gd P Y):cZ P (Y.take 1):=λ j y J=>by
 refine d7 h.one.z λ f lo hi e1 e2 e3=>?_;have q:=J;rw[y8]at J;split at J
 .obtain rfl:j=0:=by lia
  rw[e1]at q;obtain rfl:=br q;obtain⟨σ,o⟩:=h.one.wk.org e1;exact⟨σ,o,JL h.one.wk e1 e2 o⟩
 .simp at J
theorem Tr(h:Gd P Y):∃J,pU [.lst (Y.map aE)]=some (.lst (J.map aE))/\Gd P J/\cZ P J:=by
 rcases aQ9 (.lst (Y.map aE)) 25 0 Y .no .no h rfl with⟨J,U,a,b,c,q⟩|⟨J,f,e,a,c,q⟩
 .refine cN J ?_ a b;simp[pU,CD,List.replicate,q]
 .refine cN (J.take 1) ?_ a.one a.one_pass
  .have d:iO (J.map aE) none (some 1)=(J.take 1).map aE:=by rw[show(1:Int)=((1:Nat):Int)from rfl,AK,List.map_take]
   simp[pU,CD,List.replicate,q,d]
theorem fT.idx(h:fT P q){i j:Nat}(hx:q[i]?=some x)(J:q[j]?=some y)(e:x.n=y.n):i=j:=
 (List.getElem?_inj (by rw[qw];exact(List.getElem?_eq_some_iff.mp hx).1) h.nd).mp (by simp[hx,J,e])
theorem fT.same(h:fT P q)(hx:x∈q)(Y:y∈q)(e:x.n=y.n):x=y:=by obtain⟨i,hi⟩:=List.mem_iff_getElem?.mp hx;obtain⟨j,J⟩:=List.mem_iff_getElem?.mp Y;cases h.idx hi J e;exact qi (hi.symm.trans J)
theorem fT.new(h:fT P q)(hx:q[i]?=some x):∀y∈q.take i,y.n≠x.n:=λ y Y e=>by
 obtain⟨j,Z,J⟩:=ka Y;have:=h.idx J hx e;lia
theorem vA:∀(n:Nat)(x:bO)(S:Sm)(σ:List (Str×Bx)),x∈Y->Wy Y n x S σ->∀p∈σ,∃z∈Y,z.n=p.1/\∃lo hi,z.b=.inn lo hi/\∀t k v,0<=t->bW p.2 t k v=true->(d_ lo v&&ef hi v)=true
 |0,_,_,_,_,h=>h.elim
 |n+1,⟨a,.inn lo hi,xw⟩,S,σ,hx,h=>by
  intro p J;rcases h with⟨rfl,_⟩|⟨m,rfl,e,_⟩
  .simp at J
  .cases List.mem_singleton.mp J;refine⟨_,hx,rfl,lo,hi,rfl,λ t k v g q=>?_⟩;rw[e t k v g,zd]at q;exact q.1
 |n+1,⟨a,.one f r,xw⟩,S,σ,hx,h=>by
  obtain⟨y,Z,_,c,_,w⟩:=h;exact vA n y c σ Z w
 |n+1,⟨a,.pour fs,xw⟩,S,σ,hx,h=>by
  obtain⟨G,rfl,w⟩:=h;intro p J;obtain⟨f,d,J⟩:=List.mem_flatMap.mp J;refine aW (w f d) λ y Z _ w=>?_;exact vA n y S _ Z w p J
 |n+1,⟨a,.oth _ _ _,xw⟩,S,σ,hx,h=>h.elim
def jQ(nm:Str)(th:Th)(G:Str->List Th)(x:bO):List Th:=match x.b with
 |.inn _ _=>if x.n=nm then[th]else[]
 |.one f r=>(G f).filterMap (eN r)
 |.pour fs=>fs.flatMap G
 |.oth _ _ _=>[]
structure oC(rs:List bO)(nm:Str)(th:Th)(G:Str->List Th):Prop where
 eq:∀x∈rs,G x.n=jQ nm th G x
 t0:∀x∈rs,∀z∈G x.n,0<=z.1
 w:∀x∈rs,(G x.n).length<=x.w
theorem VO{p:β->Bool}(l:List α)(h:∀z∈l,q z=match g z with|none=>false|some y=>p y):((l.filterMap g).filter p).length=(l.filter q).length:=by induction l<;>grind
theorem VP{A:Str->List α}{B:Str->List β}(fs:List Str)(h:∀f∈fs,((A f).filter p).length=((B f).filter q).length):((fs.flatMap A).filter p).length=((fs.flatMap B).filter q).length:=by induction fs<;>grind
theorem Bp(F:oC Y nm th G)(J:0<=th.1)(q:∀x∈Y,x.n=nm->∀lo hi,x.b=.inn lo hi->(d_ lo th.2.2&&ef hi th.2.2)=true):∀(n:Nat)(x:bO)(S:Sm)(σ:List (Str×Bx)),x∈Y->Wy Y n x S σ->(σ.filter λ p=>decide (p.1=nm)&&ph p.2 th).length=((G x.n).filter λ z=>S z.1 z.2.1 z.2.2).length
 |0,_,_,_,_,h=>h.elim
 |n+1,⟨a,.inn lo hi,xw⟩,S,σ,hx,h=>by
  rw[F.eq _ hx];show _=((if a=nm then[th]else[]).filter _).length;by_cases c:a=nm
  .have k:=q _ hx c lo hi rfl;rw[if_pos c];rcases h with⟨rfl,h⟩|⟨m,rfl,h,_⟩
   .grind
   .grind
  .rw[if_neg c];rcases h with⟨rfl,h⟩|⟨m,rfl,h,_⟩
   .rfl
   .grind
 |n+1,⟨a,.one f r,xw⟩,S,σ,hx,h=>by
  obtain⟨y,Z,rfl,d,e,w⟩:=h;rw[Bp F J q n y d σ Z w,F.eq _ hx]
  symm
  exact VO _ λ z i=>(e z.1 z.2.1 z.2.2 (F.t0 y Z z i)).trans (by
   unfold tM;cases eN r z<;>rfl)
 |n+1,⟨a,.pour fs,xw⟩,S,σ,hx,h=>by
  obtain⟨j,rfl,w⟩:=h;rw[F.eq _ hx];refine VP fs λ f g=>?_;obtain⟨y,Z,rfl,w⟩:=w f g;exact Bp F J q n y S _ Z w
 |n+1,⟨a,.oth _ _ _,xw⟩,S,σ,hx,h=>h.elim
inductive eO:List (Str×Bx)->List (Str×Bx)->Prop
 |nil (σ:List (Str×Bx)):eO [] σ
 |skip {σ L':List (Str×Bx)} (q:Str×Bx):eO σ L'->eO σ (q::L')
 |take {σ L':List (Str×Bx)}{p q:Str×Bx}:p.1=q.1->(∀t k v,0<=t->bW p.2 t k v=true->bW q.2 t k v=true)->eO σ L'->eO (p::σ) (q::L')
theorem eO.pre(h:eO B q):∀A:List (Str×Bx),eO B (A++q)
 |[]=>h
 |a::A=>.skip a (eO.pre h A)
theorem eO.app(h:eO A Y)(h':eO B Z):eO (A++B) (Y++Z):=by
 induction h with
 |nil σ=>exact h'.pre σ
 |skip q _ J=>exact .skip q J
 |take e s _ J=>exact .take e s J
theorem HN:∀fs:List Str,(∀f∈fs,eO (A f) (B f))->eO (fs.flatMap A) (fs.flatMap B)
 |[],_=>.nil _
 |f::fs,h=>by
  rw[yn,yn];exact(h f (qg ..)).app (HN fs λ g q=>h g (qh _ q))
theorem Bo(h:fT P rs):∀(n:Nat)(x:bO)(S:Sm)(σ:List (Str×Bx)),x∈rs->Wy rs n x S σ->∀(Y:Nat)(S':Sm)(L':List (Str×Bx)),Wy rs Y x S' L'->(∀t k v,0<=t->S t k v=true->S' t k v=true)->eO σ L'
 |0,_,_,_,_,w=>w.elim
 |n+1,⟨l,.inn lo hi,xw⟩,S,σ,hx,w=>λ Y S' L' J b=>by
  obtain⟨Y,rfl⟩:∃k,Y=k+1:=by cases Y with|zero=>exact J.elim|succ k=>exact⟨k,rfl⟩
  rcases w with⟨rfl,w⟩|⟨m,rfl,w,t,k,v,Z,c⟩
  .exact .nil _
  .rcases J with⟨rfl,J⟩|⟨C,rfl,J,_⟩
   .grind
   .refine .take rfl (λ t k v Z c=>?_) (.nil _);rw[w t k v Z,zd]at c;rw[J t k v Z,c.1,b t k v Z c.2];rfl
 |n+1,⟨l,.one f r,xw⟩,S,σ,hx,w=>λ Y S' L' J b=>by
  obtain⟨Y,rfl⟩:∃k,Y=k+1:=by cases Y with|zero=>exact J.elim|succ k=>exact⟨k,rfl⟩
  obtain⟨y,a,e,p,u,w⟩:=w;obtain⟨A,d,g,S1',s,J⟩:=J;cases h.same a d (e.trans g.symm);obtain⟨i,hi⟩:=List.mem_iff_getElem?.mp hx;have ok:=((h.ok i _ hi).one f r rfl).1;refine Bo h n y p σ a w Y S1' L' J λ t k v Z q=>?_;rw[u t k v Z]at q;rw[s t k v Z];unfold tM at q⊢;cases j:eN r (t,k,v)with
  |none=>rw[j]at q;cases q
  |some z=>
   rw[j]at q;exact b _ _ _ (Bq ok Z j) q
 |n+1,⟨l,.pour fs,xw⟩,S,σ,hx,w=>λ Y S' L' J b=>by
  obtain⟨Y,rfl⟩:∃k,Y=k+1:=by cases Y with|zero=>exact J.elim|succ k=>exact⟨k,rfl⟩
  obtain⟨G,rfl,w⟩:=w;obtain⟨B,rfl,J⟩:=J;refine HN fs λ f o=>?_;refine aW (w f o) λ y a e w=>?_;refine aW (J f o) λ A d g J=>?_;cases h.same a d (e.trans g.symm);exact Bo h n y S _ a w Y S' _ J b
 |n+1,⟨l,.oth _ _ _,xw⟩,S,σ,hx,w=>w.elim
mutual
theorem vE:∀d:D,cD d<=30->b8 d d=true
 |.non,_=>by simp
 |.bl _,_=>by simp
 |.int _,_=>by simp
 |.str _,_=>by simp
 |.tup l,h=>(OO l l).trans (rm l (Nat.le_of_succ_le h))
 |.lst l,h=>(OQ l l).trans (rm l (Nat.le_of_succ_le h))
 |.opq,h=>absurd h (by decide)
 |.dct _ _,h=>absurd h (by show ¬1000<=30;decide)
theorem rm:∀l:List D,ez l<=30->gn l l=true
 |[],_=>by simp
 |d::r,h=>by
  have h:max (cD d) (ez r)<=30:=h;have a:=vE d (by lia);have b:=rm r (by lia);simp[a,b]
end
theorem F4{n:Nat}:∀l:List D,(∀d∈l,cD d<=n)->ez l<=n
 |[],_=>ye _
 |d::r,h=>by
  have a:=h d (qg ..);have b:=F4 r λ x hx=>h x (qh _ hx);show max (cD d) (ez r)<=n;lia
theorem Rr(o:Option Int):cD (dO o)=0:=by cases o<;>rfl
theorem Ji(h1:gA P q)(h2:gA P t2)(h:∀k,bS J q k=bS Y t2 k):J=Y/\q=t2:=by
 obtain⟨k,Z⟩:=t_ (q++t2);have e:=h k;obtain rfl:J=Y:=by grind [bS]
 exact⟨rfl,ou.ext ⟨h1.pw,h1.nd⟩ ⟨h2.pw,h2.nd⟩ λ x=>by have:=h x;grind [bS]⟩
theorem BC(J:fH P A B a)(gb:fH P' A' B' b)(h:∀t k v,0<=t->bW a t k v=true->bW b t k v=true):b.bg<=a.bg/\St.uppB a.en b.en=a.en/\(∀k,bS a.o a.ts k=true->bS b.o b.ts k=true)/\∀v,St.mem a.s v->St.mem b.s v:=by
 obtain⟨k0,q⟩:=J.ke;obtain⟨d,Z⟩:=J.c.some;have t0:=J.t0;have Y:∀t k v,a.bg<=t->bX a.en t=true->bS a.o a.ts k=true->St.mem a.s v->b.bg<=t/\bX b.en t=true/\bS b.o b.ts k=true/\St.mem b.s v:=λ t k v i j l m=>by
  have:=h t k v (by lia) (by rw[hx,zm i,j,l,bB.mpr m];rfl);rw[hx,zd,zd,zd,bB,yo]at this;exact i1 this.1.1.1 this.1.1.2 this.1.2 this.2
 have e0:bX a.en a.bg=true:=by
  cases e:a.en with
  |none=>rfl
  |some x=>exact zm (J.te x e)
 refine i1 ((Y _ _ _ (yk _) e0 q Z).1) ?_ (λ k f=>(Y _ _ _ (yk _) e0 f Z).2.2.1) λ v g=>(Y _ _ _ (yk _) e0 q g).2.2.2;cases p:b.en with
 |none=>cases a.en<;>rfl
 |some y=>
  have te:=J.te;have r:=Y (max a.bg y) k0 d;have u:=λ x=>Y (x-1) k0 d;cases n:a.en<;>grind [bX,St.uppB]
theorem uppE:∀{x y:Option Int},St.uppB x y=x->St.uppB y x=y->x=y
 |none,none,_,_=>rfl
 |none,some _,a,_=>nomatch a
 |some _,none,_,a=>nomatch a
 |some x,some y,a,b=>by
  have a:=br a;have b:=br b;congr 1;split at a<;>split at b<;>lia
theorem BxE{a b:Bx}(c:a.o=b.o)(d:a.ts=b.ts)(e:a.bg=b.bg)(f:a.en=b.en)(g:a.s=b.s):a=b:=by
 show Bx.mk a.o a.ts a.bg a.en a.s=_;rw[c,d,e,f,g]
theorem VT(Z:fH P A B a)(gb:fH P A' B' b)(h:∀t k v,0<=t->bW a t k v=bW b t k v):a=b:=by
 refine gO (BC Z gb λ t k v d q=>by rw[<-h t k v d];exact q) λ g e i j=>?_;refine gO (BC gb Z λ t k v d q=>by rw[h t k v d];exact q) λ l f m n=>?_;obtain⟨e1,e2⟩:=Ji Z.k gb.k λ k=>Bool.eq_iff_iff.mpr ⟨i k,m k⟩;exact BxE e1 e2 (Int.le_antisymm l g) (uppE e f) (Z.c.ext gb.c λ v=>⟨j v,n v⟩)
theorem Jq(J:St.Canon a)(Z:St.Canon b)(ba:St.Bd a (2^450))(bb:St.Bd b (2^450))(h:∀v,St.mem a v->St.mem b v):mF [dS a,dS b]=some (.bl true):=by
 obtain⟨r,e,T,_⟩:=AS J Z (qj _) ba bb;have c:r=some a:=by
  cases r with
  |none=>
   obtain⟨v,Y⟩:=J.some;exact absurd ⟨Y,h v Y⟩ (T v)
  |some s=>rw[T.1.ext J λ v=>(T.2 v).trans ⟨λ q=>q.1,λ q=>⟨q,h v q⟩⟩]
 subst c;have d:cD (dS a)<=1:=by obtain⟨lo,hi,st,f⟩:=a;cases lo<;>cases hi<;>simp[dS]
 have q:=vE (dS a) (by lia);have e:=e;simp[mF,xm,List.replicate,e,q]
theorem VI(hP:P.length<=10)(h1:gA P Y)(h2:gA P t2)(ke:∃k,bS J Y k=true)(h:∀k,bS J Y k=true->bS o2 t2 k=true):qN [KK J Y,KK o2 t2]=some (.bl true):=by
 refine aW (A9 J o2 hP h1 h2) λ r e Z f=>?_;have Z:∀k,pX r k=bS J Y k:=λ k=>by
  rw[Z k];cases c:bS J Y k with
  |false=>rfl
  |true=>rw[h k c];rfl
 have d:dK r=KK J Y:=by
  cases r with
  |none=>
   obtain⟨k,b⟩:=ke;rw[<-Z k]at b;cases b
  |some q=>
   obtain⟨o,g⟩:=q;obtain⟨e1,e2⟩:=Ji (f o g rfl).1 h1 Z;rw[e1,e2];rfl
 rw[d]at e;have a:cD (KK J Y)<=30:=zc (vX J Y) (by decide);have q:=vE (KK J Y) a;simp[qN,xH,List.replicate,e,a,q]
theorem U7(hP:P.length<=10)(q:gz P a)(J:gz P b)(h:∀t k v,0<=t->bW a t k v=true->bW b t k v=true):kT [dB a,dB b]=some (.bl true):=by
 refine gO (BC q J h) λ f Z d e=>?_;have e1:=VI hP q.k J.k q.ke d;have e2:=Jq q.c J.c (q.bb.bd q.c jB jB) (J.bb.bd J.c jB jB) e;have e3:=uZ a.en b.en;rw[Z]at e3;have e4:b8 (dO a.en) (dO a.en)=true:=by cases a.en<;>simp
 have Y:¬a.bg<b.bg:=by lia
 simp[kT,oB,List.replicate,mj,kf,kL,lB,Y,e3,e4,e1,e2]
theorem Uj(o:Bool)(ts:List Str)(k:Str):u6 [KK o ts,.str k]=some (.bl (bS o ts k)):=by have ok:=qT k ts;have e:=rk k ts;cases o<;>by_cases h:k∈ts<;>simp[KK,bS,u6,I0,dM,dR,ok,e,h,tD]
theorem Vb(q:0<s.st)(v:Int):kP [dS s,.int v]=some (.bl (cR s v)):=by
 obtain⟨lo,hi,st,b⟩:=s;have q:0<st:=q;have J:¬st=0:=by lia
 unfold cR;cases lo with
 |none=>
  cases hi with
  |none=>simp[kP,mL,J,hV q,d_,ef,dz,jA,jZ,dD]
  |some y=>
   by_cases h:v<=y
   .have h':¬y<v:=by lia
    simp[kP,mL,J,hV q,d_,ef,dz,jA,jZ,dD,h,h']
   .have h':y<v:=by lia
    simp[kP,mL,d_,ef,dz,jA,h,h']
 |some x=>
  by_cases g:x<=v
  .have a:¬v<x:=by lia
   cases hi with
   |none=>simp[kP,mL,J,hV q,d_,ef,dz,jA,jZ,dD,g,a]
   |some y=>
    by_cases h:v<=y
    .have h':¬y<v:=by lia
     simp[kP,mL,J,hV q,d_,ef,dz,jA,jZ,dD,h,h',g,a]
    .have h':y<v:=by lia
     simp[kP,mL,d_,ef,dz,jA,h,h',g,a]
  .have a:v<x:=by lia
   simp[kP,mL,d_,dz,g,a]
theorem U0(hp:0<b.s.st)(t:Int)(k:Str)(v:Int):kA [dB b,eW t k v]=some (.bl (bW b t k v)):=by
 obtain⟨o,c,J,f,s⟩:=b;have a:=Uj o c k;have d:=Vb hp v;unfold bW dB eW;by_cases h:t<J
 .have h':¬J<=t:=by lia
  simp[kA,ri,List.replicate,vO,jA,h,h']
 .have h':J<=t:=by lia
  cases f with
  |none=>cases Z:bS o c k<;>rw[Z]at a<;>simp[kA,ri,List.replicate,vO,Jn,Jm,dz,jA,jZ,dD,h,h',a,d,bX]
  |some e=>
   by_cases q:e<=t
   .have Y:¬t<e:=by lia
    simp[kA,ri,List.replicate,vO,jA,jZ,h,h',q,Y,bX]
   .have Y:t<e:=by lia
    cases Z:bS o c k<;>rw[Z]at a<;>simp[kA,ri,List.replicate,vO,Jn,Jm,dz,jA,jZ,dD,h,h',a,d,q,Y,bX]
theorem UW{P:List Str}(x0 y0:D){r:Rw}(ok:gk P r)(t:Int)(k:Str)(v:Int):eM [cU x0 y0 r,eW t k v]=some (eh (eN r (t,k,v))):=by
 refine Rtt.fn rfl (.seq (ρ':=[.im (cU x0 y0 r),.im (eW t k v),.im (.str (dt r)),.no,.no,.no,.no]) (by kernel_rfl) (.seq (ρ':=[.im (cU x0 y0 r),.im (eW t k v),.im (.str (dt r)),.im (dZ r),.no,.no,.no]) (by kernel_rfl) (.seq (ρ':=[.im (cU x0 y0 r),.im (eW t k v),.im (.str (dt r)),.im (dZ r),.im (.int t),.im (.str k),.im (.int v)]) (by kernel_rfl) ?_)));cases r with
 |time b e=>
  by_cases h:b<=t/\bX e t=true
  .rw[show eN (.time b e) (t,k,v)=some (t,k,v)from if_pos h];have a:¬t<b:=by lia
   refine .no ?_ ?_
   .cases e with
    |none=>simp[dt,dZ,dM,dR,a]
    |some x=>
     have c:¬x<=t:=by have:=Qb h.2;lia
     simp[dt,dZ,dM,dR,a,c]
   repeat first|refine .no (by kernel_rfl) ?_|exact .ret (by kernel_rfl)
  .rw[show eN (.time b e) (t,k,v)=none from if_neg h];refine .yes ?_ (.ret (by kernel_rfl));by_cases a:t<b
   .simp[dt,dZ,dM,a]
   .cases e with
    |none=>simp[bX]at h;lia
    |some x=>
     have c:x<=t:=by simp[bX]at h;lia
     simp[dt,dZ,dM,dR,a,c]
 |keys o l=>
  have W:=@vg;have Y:=qT k l;have e:=rk k l;cases o<;>(refine .no (by kernel_rfl) ?_;by_cases c:k∈l)
  .rw[show eN (.keys false l) (t,k,v)=none from if_neg (by simp[bS,c])];exact .yes (by simp[dt,dZ,iu,W,Y,e,c]) (.ret (by kernel_rfl))
  .rw[show eN (.keys false l) (t,k,v)=some (t,k,v)from if_pos (by simp[bS,c])];refine .no (by simp[dt,dZ,iu,W,Y,e,c]) ?_
   repeat first|refine .no (by kernel_rfl) ?_|exact .ret (by kernel_rfl)
  .rw[show eN (.keys true l) (t,k,v)=some (t,k,v)from if_pos (by simp[bS,c])];refine .no (by simp[dt,dZ,mh,W,Y,e,c]) ?_
   repeat first|refine .no (by kernel_rfl) ?_|exact .ret (by kernel_rfl)
  .rw[show eN (.keys true l) (t,k,v)=none from if_neg (by simp[bS,c])];exact .yes (by simp[dt,dZ,mh,Y,e,c]) (.ret (by kernel_rfl))
 |span lo hi=>
  iterate 2 refine .no (by kernel_rfl) ?_
  by_cases a:d_ lo v=true
  .refine .no (by cases lo<;>simp_all[dt,dZ,dM,d_]) ?_;by_cases c:ef hi v=true
   .rw[show eN (.span lo hi) (t,k,v)=some (t,k,v)from if_pos ⟨a,c⟩];refine .no (by clear a;cases hi<;>simp_all[dt,dZ,dR,ef]) ?_
    repeat first|refine .no (by kernel_rfl) ?_|exact .ret (by kernel_rfl)
   .rw[show eN (.span lo hi) (t,k,v)=none from if_neg λ h=>c h.2];exact .yes (by clear a;cases hi<;>simp_all[dt,dZ,dR,ef]) (.ret (by kernel_rfl))
  .rw[show eN (.span lo hi) (t,k,v)=none from if_neg λ h=>a h.1];exact .yes (by cases lo<;>simp_all[dt,dZ,dM,d_]) (.ret (by kernel_rfl))
 |rest m x=>
  refine gO (ok.rest m x rfl) λ Z i n s=>?_;have d:0<m:=by lia
  have f:¬m=0:=by lia
  iterate 4 refine .no (by kernel_rfl) ?_
  by_cases c:v%m=x
  .rw[show eN (.rest m x) (t,k,v)=some (t,k,v)from if_pos c];refine .no (by simp[dt,dZ,dM,dR,f,hV d,c]) ?_
   repeat first|refine .no (by kernel_rfl) ?_|exact .ret (by kernel_rfl)
  .rw[show eN (.rest m x) (t,k,v)=none from if_neg c];exact .yes (by simp[dt,dZ,dM,dR,f,hV d,c]) (.ret (by kernel_rfl))
 |turn a b=>
  obtain⟨Z,i,n⟩:=ok.turn a b rfl;have j:eZ a v=true:=qS (by lia)
  iterate 5 refine .no (by kernel_rfl) ?_
  exact .yes (by kernel_rfl) (.ret (by simp[dt,dZ,dM,dR,j,eN,eh,eW]))
 |later c=>
  iterate 6 refine .no (by kernel_rfl) ?_
  exact .yes (by kernel_rfl) (.ret (by simp[dt,dZ,A_,eN,eh,eW]))
 |put tb=>
  obtain⟨Z,i⟩:=ok.put tb rfl;have e1:(tb.map λ p=>(p.1,D.str p.2)).map (·.1)=fst tb:=by unfold fst;rw[yd];rfl
  have g:sH (tb.map λ p=>.tup [.str p.1,.str p.2]) (.str k) (.str k)=some (.str (fv tb k)):=by unfold sH;rw[zZ,c8];show aF (some k) _=_;rw[c8,if_pos ⟨by rw[qw];lia,by rw[e1];exact Z.nd⟩,JA]
  iterate 7 refine .no (by kernel_rfl) ?_
  exact .yes (by kernel_rfl) (.ret (by simp[dt,dZ,dT,g,eN,eh,eW]))
theorem Ew{P:List Str}{up:List bO}{nm:Str}{th:Th}{G q:Str->List Th}{y:bO}(ok:ed P up y)(h:∀z∈up,G z.n=q z.n):jQ nm th G y=jQ nm th q y:=by
 obtain⟨n,b,w⟩:=y;cases b with
 |one f r=>
  have:=ok.one f r rfl;grind [jQ]
 |pour fs=>
  obtain⟨v,o,_⟩:=ok.pour fs rfl;show fs.flatMap G=fs.flatMap q;rw[List.flatMap_def,List.flatMap_def,List.map_congr_left (g:=q) (by grind)]
 |_=>rfl
theorem Jk{P:List Str}{J:List bO}(h:fT P J)(nm:Str){th:Th}(t0:0<=th.1):∀n,n<=J.length->∃G,oC (J.take n) nm th G
 |0,_=>⟨λ _=>[],by simp,by simp,by simp⟩
 |n+1,H=>by
  obtain⟨G,F⟩:=Jk h nm t0 n (by lia);have hx:J[n]?=some J[n]:=zk (by lia);generalize J[n]=x at hx;have g:J.take (n+1)=J.take n++[x]:=by rw[Zy,hx];rfl
  have p:=h.new hx
  let Z:Str->List Th:=λ s=>if s=x.n then jQ nm th G x else G s
  have D:Z x.n=jQ nm th G x:=if_pos rfl;have Y:∀y∈J.take n,Z y.n=G y.n:=λ y q=>if_neg (p y q);have ok:=h.ok n x hx;have e1:jQ nm th Z x=jQ nm th G x:=Ew ok Y;have new:(∀z∈jQ nm th G x,0<=z.1)/\(jQ nm th G x).length<=x.w:=by
   obtain⟨I,xb,xw⟩:=x;cases xb with
   |inn lo hi=>
    have C:=(ok.inn lo hi rfl).2.2.2;unfold jQ;dsimp only at C⊢;split
    .grind
    .grind
   |oth=>exact⟨λ z a=>(by cases a),ye _⟩
   |one f r=>
    obtain⟨t,y,q,e,B,_⟩:=ok.one f r rfl;subst e;refine⟨λ z a=>?_,zc (List.length_filterMap_le ..) (zc (F.w y q) B)⟩;obtain⟨u,m,k⟩:=List.mem_filterMap.mp a;exact Bq t (F.t0 y q u m) k
   |pour fs=>
    obtain⟨v,o,A⟩:=ok.pour fs rfl;refine⟨λ z a=>?_,zc (Ab fs λ f b=>?_) A⟩
    .obtain⟨f,b,a⟩:=List.mem_flatMap.mp a;refine aW (o f b) λ y q e _=>?_;exact F.t0 y q z (by rw[e];exact a)
    .refine dE (o f b) λ y q e l _=>?_;rw[<-e];exact zc (F.w y q) l
  refine⟨Z,λ y q=>?_,λ y q z a=>?_,λ y q=>?_⟩<;>rw[g,List.mem_append]at q<;>rcases q with q|q
  .obtain⟨j,E,d⟩:=ka q;rw[Y y q,F.eq y q];exact Ew (h.ok j y d) λ z a=>(Y z (by
    obtain⟨i,hi,c⟩:=ka a;exact List.mem_iff_getElem?.mpr ⟨i,by rw[y8,if_pos (by lia)];exact c⟩)).symm
  .grind
  .rw[Y y q]at a;exact F.t0 y q z a
  .grind
  .rw[Y y q];exact F.w y q
  .grind
abbrev fL(z:Th):D:=eW z.1 z.2.1 z.2.2
abbrev lT(l:List Th):D:=.lst (l.map fL)
noncomputable abbrev fD{α:Type}(f:Str->D)(q:List α)(nm:α->Str):List (Str×D):=q.map λ x=>(nm x,f (nm x))
theorem m6(h:∃x∈q,x.n=k):cy k (fD f q bO.n)=some (f k):=by induction q<;>grind [cy]
theorem VN(h:k∉aO.map (·.1)):cy k aO=none:=by induction aO<;>grind [cy]
theorem I3(h:k∉aO.map (·.1))(d:D):kN k d aO=aO++[(k,d)]:=by grind [kN,VN]
theorem Il(h:k∉aO.map (·.1))(d d':D):cy k (aO++[(k,d')])=some d'/\hQ k d (aO++[(k,d')])=aO++[(k,d)]:=by induction aO<;>grind [cy,hQ]
theorem EA(h:k∉aO.map (·.1))(d d':D):kN k d (aO++[(k,d')])=aO++[(k,d)]:=by have:=Il h d d';grind [kN]
theorem Vn(h:cy k aO=some d):cy k (aO++[(k',d')])=some d:=by induction aO<;>grind [cy]
theorem Jp(J q:D)(ok:gk P r):∀l:List Th,dw dA (eF eM (aC (eV 1) (aC (eV 0) aN))) [.im (cU J q r)] (l.map fL)=some (l.map λ z=>eh (eN r z))
 |[]=>rfl
 |z::l=>by
  have Y:=Jp J q ok l;have e:=UW J q ok z.1 z.2.1 z.2.2;rw[qx,lj];have t:dA [.im (fL z),.im (cU J q r)]=some (true,[.im (fL z),.im (cU J q r)]):=rfl;have f:eF eM (aC (eV 1) (aC (eV 0) aN)) [.im (fL z),.im (cU J q r)]=some (eh (eN r z),[.im (fL z),.im (cU J q r)]):=by simp[e]
  rw[t,lq,f,ll,Y,lg,qx]
theorem Ju(r:Rw):∀l:List Th,dw (tB (e2 fU (eV 0) (eC .non))) (eV 0) [] (l.map λ z=>eh (eN r z))=some ((l.filterMap (eN r)).map fL)
 |[]=>rfl
 |z::l=>by
  have q:=Ju r l;rw[qx,lj,Zm];cases e:eN r z with
  |none=>
   have t:tB (e2 fU (eV 0) (eC .non)) [.im (eh none)]=some (false,[.im (eh none)]):=rfl;rw[t,pC,q]
  |some y=>
   have t:tB (e2 fU (eV 0) (eC .non)) [.im (eh (some y))]=some (true,[.im (eh (some y))]):=rfl;have f:eV 0 [.im (eh (some y))]=some (fL y,[.im (eh (some y))]):=rfl;rw[t,lq,f,ll,q,lg];rfl
theorem IU:bK (aE ⟨n,.pour fs,w⟩) (.int 0)=some (.str "pour")∧bK (aE ⟨n,.pour fs,w⟩) (.int 1)=some (.str n)∧bK (aE ⟨n,.pour fs,w⟩) (.int 2)=some (.tup (fs.map .str)):=⟨rfl,rfl,rfl⟩
theorem IV:bK (aE ⟨n,.one f r,w⟩) (.int 0)=some (.str (dt r))/\bK (aE ⟨n,.one f r,w⟩) (.int 1)=some (.str n)/\bK (aE ⟨n,.one f r,w⟩) (.int 2)=some (.tup [.str f]):=⟨rfl,rfl,rfl⟩
theorem vV:bK (aE ⟨n,.inn lo hi,w⟩) (.int 0)=some (.str "in")∧bK (aE ⟨n,.inn lo hi,w⟩) (.int 1)=some (.str n)∧bK (aE ⟨n,.inn lo hi,w⟩) (.int 3)=some (.tup [dO lo,dO hi]):=⟨rfl,rfl,rfl⟩
theorem I_(hn:n∉aO.map (·.1))(hl:aO.length<90)(wk nm th q Y:Sl)(h1:bK (match q with| .im d=>d|_=>.non) (.int 1)=some (.str n))(hi:∃d,q=.im d):∀(fs:List Str)(aY:List Th)(Z:Sl),(∀f∈fs,cy f aO=some (lT (G f))/\(G f).length<=v)->aY.length+fs.length*v<=900->∃J,cK (gN 5) qR (fs.map .str) [wk,nm,th,.ow false (.dic (aO++[(n,lT aY)])),q,Z,Y]=some (.nx [wk,nm,th,.ow false (.dic (aO++[(n,lT (aY++fs.flatMap G))])),q,J,Y])
 |[],aY,Z,_,_=>⟨Z,by rw[yg,Ba,Zf,zx]⟩
 |f::fs,aY,Z,h,i=>by
  obtain⟨rd,rfl⟩:=hi;obtain⟨e1,l⟩:=h f (qg ..);rw[zh,Y5]at i;obtain⟨J,e⟩:=I_ hn hl wk nm th (.im rd) Y h1 ⟨rd,rfl⟩ fs (aY++G f) (.im (.str f)) (λ g c=>h g (qh _ c)) (by rw[zi];lia);refine⟨J,?_⟩;have h1:=h1;have a:=(Il hn (lT aY) (lT aY)).1;have b:=Vn (k':=n) (d':=lT aY) e1;have k:=EA hn (.lst (aY.map fL++(G f).map fL)) (lT aY);have sz:aY.length+(G f).length<=sizeLine:=dI (by lia);have j:aO.length+1<100:=by lia
  rw[qx,gB];show fY _ _ _ (some [wk,nm,th,.ow false (.dic (aO++[(n,lT aY)])),.im rd,.im (.str f),Y])=_;have st:qR [wk,nm,th,.ow false (.dic (aO++[(n,lT aY)])),.im rd,.im (.str f),Y]=some (.nx [wk,nm,th,.ow false (.dic (aO++[(n,lT (aY++G f))])),.im rd,.im (.str f),Y]):=by simp[qR,h1,a,b,sz,j,k]
  rw[gC,st,gE,e,Qg,yn]
abbrev iC(G:Str->List Th)(q:List bO):List (Str×D):=fD (λ n=>lT (G n)) q bO.n
theorem U8(h:fT P J)(hw:∀x∈J,x.w<=125)(hl:J.length<=24)(F:oC J nm th G)(hx:J[i]?=some x)(hc:fx x.b=true)(wk s5 s6:Sl):∃Z aa,nZ [wk,.im (.str nm),.im (fL th),.ow false (.dic (iC G (J.take i))),.im (aE x),s5,s6]=some (.nx [wk,.im (.str nm),.im (fL th),.ow false (.dic (iC G (J.take i)++[(x.n,lT (G x.n))])),.im (aE x),Z,aa]):=by
 have ok:=h.ok i x hx;have B:=ze hx;have D:=hw x B;have eq:=F.eq x B;have Q:=(List.getElem?_eq_some_iff.mp hx).1;have m:x.n∉(iC G (J.take i)).map (·.1):=λ A=>by
  rw[yd]at A;obtain⟨y,Y,e⟩:=List.mem_map.mp A;exact h.new hx y Y e
 have H:(iC G (J.take i)).length<=24:=by rw[qw,y7];lia
 generalize σ:iC G (J.take i)=aO at m H;have u:∀y∈J.take i,cy y.n aO=some (lT (G y.n)):=λ y Y=>by rw[<-σ];exact m6 ⟨y,Y,rfl⟩
 have o:=λ d=>I3 m d;have M:=λ d E=>EA m d E;have k1:aO.length<100:=by lia
 have k2:aO.length+1<100:=by lia
 obtain⟨q,xb,xw⟩:=x;cases xb with
 |oth=>cases hc
 |inn lo hi=>
  obtain⟨a,g,_⟩:=@vV q lo hi xw;refine⟨s5,s6,?_⟩;rw[eq];unfold jQ;by_cases c:q=nm
  .subst c;simp[nZ,a,g,o,M,k1,k2]
  .simp[nZ,a,g,o,k1,c]
 |one f r=>
  obtain⟨a,g,s⟩:=@IV q f r xw;obtain⟨p,y,Y,e,_⟩:=ok.one f r rfl;have t:=u y Y;rw[e]at t;have N:dw dA (eF eM (aC (eV 1) (aC (eV 0) aN))) [.im (aE ⟨q,.one f r,xw⟩)] ((G f).map fL)=_:=Jp (.str q) (.tup [.str f]) p (G f);have O:=Ju r (G f);have gl:(G f).length<=sizeLine:=dI (by
   obtain⟨j,K,k⟩:=ka Y;have:=F.w y (ze k);have:=hw y (ze k);rw[e]at*;lia)
  refine⟨s5,.im (.lst ((G f).map λ z=>eh (eN r z))),?_⟩;rw[eq];show _=some (bM.nx [wk,.im (.str nm),.im (fL th),.ow false (.dic (aO++[(q,lT ((G f).filterMap (eN r)))])),_,_,_]);simp[nZ,a,g,s,uT r,uj r,A_,t,N,O,gl,o,k1]
 |pour fs=>
  obtain⟨a,g,s⟩:=@IU q fs xw;obtain⟨v,p,C⟩:=ok.pour fs rfl;have D:=D;have C:=C;obtain⟨Z,e⟩:=I_ m (by lia) wk (.im (.str nm)) (.im (fL th)) (.im (aE ⟨q,.pour fs,xw⟩)) s6 rfl ⟨_,rfl⟩ fs [] s5 (λ f I=>by
   obtain⟨y,Y,e,l,_⟩:=p f I;rw[<-e];obtain⟨j,K,k⟩:=ka Y;exact⟨u y Y,zc (F.w y (ze k)) l⟩) (by rw[yx];lia)
  refine⟨Z,s6,?_⟩;rw[eq];show _=some (bM.nx [wk,.im (.str nm),.im (fL th),.ow false (.dic (aO++[(q,lT (fs.flatMap G))])),_,_,_]);rw[Zl]at e;have e:cK (gN 5) qR (fs.map .str) [wk,.im (.str nm),.im (fL th),.ow false (.dic (aO++[(q,.lst [])])),.im (aE ⟨q,.pour fs,xw⟩),s5,s6]=_:=e;simp only[nZ];simp[a,g,s,rV,o,k1,e]
theorem Jj(h:fT P q)(hw:∀x∈q,x.w<=125)(hl:q.length<=24)(hc:∀x∈q,fx x.b=true)(F:oC q nm th G)(wk:Sl):∀(m i:Nat)(Z Y J:Sl),i+m=q.length->∃aa ac ae,cK (gN 4) nZ ((q.drop i).map aE) [wk,.im (.str nm),.im (fL th),.ow false (.dic (iC G (q.take i))),Z,Y,J]=some (.nx [wk,.im (.str nm),.im (fL th),.ow false (.dic (iC G q)),aa,ac,ae])
 |0,i,Z,Y,J,e=>⟨Z,Y,J,by rw[jj (by lia),j0 (by lia)];rfl⟩
 |m+1,i,Z,Y,J,e=>by
  have hx:q[i]?=some q[i]:=zk (by lia);obtain⟨c,d,st⟩:=U8 h hw hl F hx (hc _ (Qu ..)) wk Y J;refine ia (Jj h hw hl hc F wk m (i+1) (.im (aE q[i])) c d (by lia)) λ f g j go=>?_;refine⟨f,g,j,?_⟩;rw[yq (by lia),qx,gB];show fY _ _ _ (some [wk,.im (.str nm),.im (fL th),.ow false (.dic (iC G (q.take i))),.im (aE q[i]),Y,J])=_;rw[gC,st,gE];have a:iC G (q.take (i+1))=iC G (q.take i)++[(q[i].n,lT (G q[i].n))]:=by show(q.take (i+1)).map _=_;rw[Zy,hx,zv];rfl
  rw[<-a];exact go
theorem Vo(h:fT P q)(Z:∀x∈q,x.w<=125)(Y:q.length<=24)(J:∀x∈q,fx x.b=true)(F:oC q nm th G):oG [.lst (q.map aE),.str nm,fL th]=some (.dic (iC G q)):=by
 refine ia (Jj h Z Y J F (.im (.lst (q.map aE))) q.length 0 .no .no .no (by lia)) λ a c d go=>?_;rw[jx,List.take_zero,show iC G []=[]from rfl]at go;simp[oG,F_,List.replicate,go]
def Rt(x:Option bM)(d:D)(o:MO):Prop:=∃t,x=some (.rt d (.ow true o::t))
theorem Rt.seq(h:F U=some (.nx ρ'))(H:Rt (G ρ') d o):Rt (aM F G U) d o:=by obtain⟨t,e⟩:=H;exact⟨t,by rw[HM,h,Hb,e]⟩
theorem Rt.no(h:T U=some (false,U))(H:Rt (B U) d o):Rt (aM (bP T A sN) B U) d o:=.seq (by simp[h]) H
theorem Rt.yes(h:T U=some (true,U))(H:Rt (A U) d o):Rt (aM (bP T A sN) B U) d o:=by obtain⟨t,e⟩:=H;exact⟨t,by simp[h,e]⟩
theorem Rt.fn(q:ds.length=n)(h:Rt (B (.ow true o::(ds.map .im++List.replicate k .no))) d o'):iD n k B o ds=some (d,o'):=by obtain⟨t,e⟩:=h;simp[q,e]
theorem JH(h:U[i]?=some (.im (.str x))):tB (e2 eQ (eV i) (eC (.str y))) U=some (decide (x=y),U):=by simp[h]
theorem Rt.noS(h:U[i]?=some (.im (.str x)))(n:x≠y)(H:Rt (B U) d o):Rt (aM (bP (tB (e2 eQ (eV i) (eC (.str y)))) A sN) B U) d o:=.no ((JH h).trans (by rw[jg n])) H
theorem Rt.yesS(h:U[i]?=some (.im (.str x)))(n:x=y)(H:Rt (A U) d o):Rt (aM (bP (tB (e2 eQ (eV i) (eC (.str y)))) A sN) B U) d o:=.yes ((JH h).trans (by rw[zm n])) H
theorem DZ(c k:Int):∃r:Int,mJ [.int c,.int k]=some (.int r)/\0<=r/\r<2147483647:=by
 have a:∀x:Int,0<=Int.fmod x 2147483647/\Int.fmod x 2147483647<2147483647:=λ x=>⟨yv _ (by decide),j6 _ (by decide)⟩
 have Y:∀x:Int,eZ x 48271=true:=λ x=>qC (by decide);have Z:eZ 7919 k=true:=qS (by decide);have q:∀x y:Int,eZ (Int.fmod x 2147483647) y=true:=λ x y=>qS (by have:=a x;lia);have J:jS 1009=true:=ux (by decide) (by decide);exact⟨_,by simp[mJ,CN,Y,Z,q,J];rfl,(a _).1,(a _).2⟩
theorem iL(hn:ns.length<=63)(h:dg ns o):∃(r:Int)(o':MO),cC o []=some (.int r,o')/\0<=r/\r<2147483647/\dg ns o':=by
 obtain⟨wy,l,a,nb,kk,rfl,t,p,s⟩:=h;refine cF (CU ns wy nb kk .no .no 64 l a t p (by lia) 200 (by decide)) λ J c e Y Z=>?_;by_cases f:0<J
 .have g:jS 1000003=true:=ux (by decide) (by decide);have j:=yv J (b:=1000003) (by decide);have v:=j6 J (b:=1000003) (by decide);have q:J.fdiv 1000003=J/1000003:=yp _ (by decide);refine⟨J.fmod 1000003,.dic (eX ns wy (J/1000003) c nb kk),?_,j,by lia,wy,J/1000003,c,nb,kk,rfl,Yk Y (by decide),Z,s⟩;simp[cC,tI,List.replicate,e,mB,f,g,q,rO,Cz]
 .obtain⟨x,i⟩:=zN ns (k:=kk+1) (by lia);obtain⟨d,e1,_⟩:=DZ (nb+x) (kk+1);refine aW (DZ d 7) λ u e2 m n=>?_;refine⟨u,.dic (eX ns wy J c d (kk+1)),?_,m,n,wy,J,c,d,kk+1,rfl,Y,Z,by lia⟩;simp[cC,tI,List.replicate,e,mB,f,JM,JN,sJ,rO,KA,KC,i,e1,e2]
theorem ek(x:Int)(h:0<m):0<=x.fmod m/\x.fmod m<m:=⟨yv _ h,j6 _ h⟩
theorem ED(fs:List Str)(U:En):∀nm:List Str,iQ (tB (pq true (eV 0) 1)) (eV 0) U 3 [3] 0 (.lst (fs.map .str)) (nm.map .str)=some ((nm.filter λ k=>!decide (k∈fs)).map .str,.lst (fs.map .str))
 |[]=>rfl
 |k::r=>by
  have q:=ED fs U r;have fr:kF U 3 (.lst (fs.map .str)) [3]=some [.ow true (.lst (fs.map .str))]:=rfl;have ok:=qT k fs;have e:=rk k fs;have t:tB (pq true (eV 0) 1) [.im (.str k),.ow true (.lst (fs.map .str))]=some (!decide (k∈fs),[.im (.str k),.ow true (.lst (fs.map .str))]):=by simp[ok,e]
  rw[qx,w_,fr,c8,t,c8];by_cases c:k∈fs
  .rw[zm c];show(if false=true then _ else aF (some (MO.lst (fs.map .str))) _)=_;rw[if_neg (by simp),c8,q,Yb (by simp[c])]
  .rw[jg c];have f:eV 0 [.im (.str k),.ow true (.lst (fs.map .str))]=some (.str k,[.im (.str k),.ow true (.lst (fs.map .str))]):=rfl;show(if true=true then aF (eV 0 [.im (.str k),.ow true (.lst (fs.map .str))]) _ else _)=_;rw[if_pos rfl,f,c8];show aF (some (MO.lst (fs.map .str))) _=_;rw[c8,q,c8,List.filter_cons_of_pos (by simp[c]),qx]
theorem SM{nm fs:List Str}(nd:nm.Nodup)(J:fs.length<nm.length):(nm.filter λ k=>!decide (k∈fs))≠[]:=λ z=>by
 have h:=λ k q=>by
  have:=List.filter_eq_nil_iff.mp z k q;simpa using this
 have:=List.Nodup.length_le_of_subset nd h;lia
theorem MT(hn:ns.length<=63){nm:List Str}(nd:nm.Nodup)(hl:nm.length<=20)(many:D)(i:Nat)(v:Int)(U:En)(hi:i<nm.length)(p:∃(o:MO)(fs:List Str)(x4 Y:Sl),dg ns o/\fs.length=i/\(fs.Nodup/\∀k∈fs,k∈nm)/\U=[.ow true o,.im (.lst (nm.map .str)),.im many,.ow false (.lst (fs.map .str)),x4,Y]):∃Z aa,gN 4 (.int v) U=some Z/\B7 Z=some (.nx aa)/\∃(o:MO)(fs:List Str)(x4 Y:Sl),dg ns o/\fs.length=i+1/\(fs.Nodup/\∀k∈fs,k∈nm)/\aa=[.ow true o,.im (.lst (nm.map .str)),.im many,.ow false (.lst (fs.map .str)),x4,Y]:=by
 obtain⟨o,fs,x4,Y,l,j,⟨fd,s⟩,rfl⟩:=p;refine cF (eY hn l) λ f e e1 t g=>?_;have c:=ED fs [.ow true o,.im (.lst (nm.map .str)),.im many,.ow false (.lst (fs.map .str)),.im (.int v),Y] nm;have n:=SM (fs:=fs) nd (by lia);have mem:∀a∈nm.filter (λ k=>!decide (k∈fs)),a∉fs:=λ a b=>by
  simpa using(List.mem_filter.mp b).2
 have J:∀a∈nm.filter (λ k=>!decide (k∈fs)),a∈nm:=λ a b=>(List.mem_filter.mp b).1;generalize nm.filter (λ k=>!decide (k∈fs))=left at c n mem J;have lp:0<left.length:=by grind
 have r:¬(left.length:Int)=0:=by lia
 have q:¬left.length=0:=by lia
 have d:0<=f.fmod left.length/\f.fmod left.length<left.length:=⟨yv _ (by lia),j6 _ (by lia)⟩;obtain⟨a,b,h⟩:=lW D.str left d.1 d.2;have m:nm.length<=sizeLine:=dI (by lia);have tl:fs.length<1000000:=by lia
 refine⟨_,[.ow true e,.im (.lst (nm.map .str)),.im many,.ow false (.lst (fs.map .str++[.str a])),.im (.int v),.im (.lst (left.map .str))],rfl,?_,e,fs++[a],.im (.int v),.im (.lst (left.map .str)),g,by rw[zi,j];rfl,?_,?_⟩
 .simp[B7,c,m,e1,q,h,tl]
 .grind
 .rw[zv];rfl
theorem CP(hn:ns.length<=63)(ho:dg ns o){nm:List Str}(nd:nm.Nodup)(hl:nm.length<=20){m:Int}(m0:0<=m)(m1:m<=nm.length):∃(l:List Str)(o':MO),nG o [.lst (nm.map .str),.int m]=some (.lst (l.map .str),o')/\l.length=m.toNat/\l.Nodup/\(∀k∈l,k∈nm)/\dg ns o':=by
 obtain⟨f,a,d,fs,Y,J,q,g,⟨fd,b⟩,rfl⟩:=xQ (λ i U=>∃(o:MO)(fs:List Str)(Y J:Sl),dg ns o/\fs.length=i/\(fs.Nodup/\∀k∈fs,k∈nm)/\U=[.ow true o,.im (.lst (nm.map .str)),.im (.int m),.ow false (.lst (fs.map .str)),Y,J]) m.toNat 0 0
  [.ow true o,.im (.lst (nm.map .str)),.im (.int m),.ow false (.lst []),.no,.no] (λ i v U hi p=>MT hn nd hl _ i v U (by lia) p) ⟨o,[],.no,.no,ho,rfl,⟨Qm,λ k c=>by simp at c⟩,rfl⟩
 have Z:-4611686018427387904<=m:=by lia
 have e:m<4611686018427387904:=by lia
 refine⟨fs,d,?_,by lia,fd,b,q⟩;simp[nG,C4,List.replicate,Z,e,a]
theorem Md:(10:Int)^10=10000000000:=by decide
theorem xc(q:ns.length<=63)(ho:dg ns o):∃(lo hi:Option Int)(o':MO),nt o []=some (.tup [dO lo,dO hi],o')/\St.OB lo (2^40)/\St.OB hi (2^40)/\(∀a b,lo=some a->hi=some b->a<=b)/\dg ns o':=by
 refine d5 (iL q ho) λ c z e1 _ _ k=>?_;refine d5 (iL q k) λ Z A e2 _ _ n=>?_;refine d5 (iL q n) λ r3 B e3 _ _ p=>?_;refine d5 (iL q p) λ f C e4 _ _ r=>?_;refine d5 (iL q r) λ g u j _ _ s=>?_;have w:=ek c (m:=41) (by decide);have v:=ek r3 (m:=40) (by decide);have J:(10:Int).natAbs<2^64:=by decide
 have t:eZ (c.fmod 41-20) 10000000000=true:=qC (by decide);have y:∀x:Int,-200000000000<=x->x<=200000000040->St.OB (some x) (2^40):=λ x a b l e=>by simp at e;rw[show(2:Nat)^40=1099511627776 from rfl];lia
 obtain⟨x,d,D,E⟩:∃x:Int,(if Z.fmod 5=1 then(c.fmod 41-20)*10000000000 else c.fmod 41-20)=x/\-200000000000<=x/\x<=200000000000:=⟨_,rfl,by split<;>lia,by split<;>lia⟩;refine⟨if g.fmod 4=1 then none else some x,if f.fmod 4=1 then none else some (x+r3.fmod 40),u,?_,?_,?_,?_,s⟩
 .refine Rt.fn rfl (.seq (ρ':=[.ow true z,.im (.int (c.fmod 41-20)),.no]) (by simp[e1]) (.seq (ρ':=[.ow true A,.im (.int x),.no]) (by subst d;by_cases Y:Z.fmod 5=1<;>simp[e2,Y,t]) (.seq (ρ':=[.ow true B,.im (.int x),.im (.int (x+r3.fmod 40))]) (by simp[e3]) (.seq (ρ':=[.ow true C,.im (.int x),.im (dO (if f.fmod 4=1 then none else some (x+r3.fmod 40)))]) (by by_cases h:f.fmod 4=1<;>simp[e4,h]) (.seq (ρ':=[.ow true u,.im (dO (if g.fmod 4=1 then none else some x)),.im (dO (if f.fmod 4=1 then none else some (x+r3.fmod 40)))]) (by by_cases h:g.fmod 4=1<;>simp[j,h]) ⟨_,rfl⟩)))))
 .split
  .exact λ l e=>nomatch e
  .exact y _ (by lia) (by lia)
 .split
  .exact λ l e=>nomatch e
  .exact y _ (by lia) (by lia)
 .exact λ a b h i=>by split at h<;>split at i<;>simp at h i;lia
theorem xp(a b c:Int)(q:0<=i)(h1:i<3):∃x,di [.int a,.int b,.int c] i=some (.int x)/\(x=a\/x=b\/x=c):=by
 have:i=0\/i=1\/i=2:=by lia
 rcases this with rfl|rfl|rfl
 .exact⟨a,rfl,.inl rfl⟩
 .exact⟨b,rfl,.inr (.inl rfl)⟩
 .exact⟨c,rfl,.inr (.inr rfl)⟩
theorem Ad(h:0<=b/\∀x,e=some x->b<x):gk P (.time b e):=⟨λ _ _ z=>by cases z;exact h,λ _ _ z=>(by simp at z),λ _ _ z=>(by simp at z),λ _ _ z=>(by simp at z),λ _ _ z=>(by simp at z),λ _ z=>(by simp at z),λ _ z=>(by simp at z)⟩
theorem Ai(h:KPl P l/\l≠[]):gk P (.keys o l):=⟨λ _ _ z=>(by simp at z),λ _ _ z=>by cases z;exact h,λ _ _ z=>(by simp at z),λ _ _ z=>(by simp at z),λ _ _ z=>(by simp at z),λ _ z=>(by simp at z),λ _ z=>(by simp at z)⟩
theorem GR(h:St.OB lo (2^40)/\St.OB hi (2^40)/\∀a b,lo=some a->hi=some b->a<=b):gk P (.span lo hi):=⟨λ _ _ z=>(by simp at z),λ _ _ z=>(by simp at z),λ _ _ z=>by cases z;exact h,λ _ _ z=>(by simp at z),λ _ _ z=>(by simp at z),λ _ z=>(by simp at z),λ _ z=>(by simp at z)⟩
theorem Et(h:2<=m/\m<=2000/\0<=x/\x<m):gk P (.rest m x):=⟨λ _ _ z=>(by simp at z),λ _ _ z=>(by simp at z),λ _ _ z=>(by simp at z),λ _ _ z=>by cases z;exact h,λ _ _ z=>(by simp at z),λ _ z=>(by simp at z),λ _ z=>(by simp at z)⟩
theorem GQ(h:a≠0/\a.natAbs<=1000/\b.natAbs<=1000):gk P (.turn a b):=⟨λ _ _ z=>(by simp at z),λ _ _ z=>(by simp at z),λ _ _ z=>(by simp at z),λ _ _ z=>(by simp at z),λ _ _ z=>by cases z;exact h,λ _ z=>(by simp at z),λ _ z=>(by simp at z)⟩
theorem PK(h:0<=c):gk P (.later c):=⟨λ _ _ z=>(by simp at z),λ _ _ z=>(by simp at z),λ _ _ z=>(by simp at z),λ _ _ z=>(by simp at z),λ _ _ z=>(by simp at z),λ _ z=>by cases z;exact h,λ _ z=>(by simp at z)⟩
theorem QT(h:KPl P (fst tb)/\tb.length<=4):gk P (.put tb):=⟨λ _ _ z=>(by simp at z),λ _ _ z=>(by simp at z),λ _ _ z=>(by simp at z),λ _ _ z=>(by simp at z),λ _ _ z=>(by simp at z),λ _ z=>(by simp at z),λ _ z=>by cases z;exact h⟩
theorem EO(hn:ns.length<=63){q:List Str}(hp:q.length=9)(h4:U[4]?=some (.im (.lst (q.map .str)))):∀(ks:List Str)(o:MO),dg ns o->∃(tb:Tb)(o':MO),iQ dA (bZ (aC (eV 0) (aC (e2 bK (eV 1) (e2 cu (cv 2 cC aN) (zI 9))) aN))) U 0 [4,0] 1 o (ks.map .str)=some (tb.map (λ p=>.tup [.str p.1,.str p.2]),o')/\fst tb=ks/\dg ns o'
 |[],o,a=>⟨[],o,rfl,rfl,a⟩
 |k::r,o,a=>by
  refine d5 (iL hn a) λ x J e1 _ _ Z=>?_;refine cF (EO hn hp h4 r J Z) λ tb g Y b d=>?_;have c:=ek x (m:=9) (by decide);obtain⟨y,_,f⟩:=lW D.str q c.1 (by rw[hp];exact c.2);refine⟨(k,y)::tb,g,?_,by unfold fst at b⊢;rw[qx,b],d⟩;have fr:kF U 0 o [4,0]=some [.im (.lst (q.map .str)),.ow true o]:=by show aF (qD U[4]?) (λ s=>aF (aF (some (Sl.ow true o)) λ s=>aF (some []) λ r=>some (s::r)) λ r=>some (s::r))=_;rw[h4];rfl
  have e:bZ (aC (eV 0) (aC (e2 bK (eV 1) (e2 cu (cv 2 cC aN) (zI 9))) aN)) [.im (.str k),.im (.lst (q.map .str)),.ow true o]=some (.tup [.str k,.str y],[.im (.str k),.im (.lst (q.map .str)),.ow true J]):=by simp[e1,f]
  rw[qx,w_,fr,c8];show aF (some (true,_)) _=_;rw[c8];rw[if_pos rfl,e,c8];show aF (some J) _=_;rw[c8,Y,c8];rfl
abbrev wH:List Str:=[Str.ofString "time",Str.ofString "only",Str.ofString "but",Str.ofString "span",Str.ofString "rest",Str.ofString "turn",Str.ofString "later",Str.ofString "put"]
theorem Ft(J:ns.length<=63)(ho:dg ns o){q P:List Str}(hp:q.length=9)(nd:q.Nodup)(ac:∀k∈q,k∈P)(Z aa:D)(wd:Str)(hw:wd∈wH):∃(r:Rw)(o':MO),pK o [.str wd,Z,aa,.lst (q.map .str)]=some (cU Z aa r,o')/\gk P r/\dg ns o':=by
 have W:=@vg;refine d5 (iL J ho) λ a R e1 _ _ n=>?_;have Y:∀b:Bool,∃(r:Rw)(o':MO),pK o [.str (wO b),Z,aa,.lst (q.map .str)]=some (cU Z aa r,o')/\gk P r/\dg ns o':=λ b=>by
  have Q:=ek a (m:=8) (by decide);refine iZ (CP J n nd (by lia) (m:=1+a.fmod 8) (by lia) (by lia)) λ l e e2 w M y d=>?_;have F:l.length<=sizeLine:=dI (by lia);refine⟨.keys b l,e,?_,Ai ⟨⟨M,λ k v=>ac k (y k v)⟩,λ z=>by rw[z]at w;simp at w;lia⟩,d⟩;cases b with
  |true=>exact Rt.fn rfl (.noS rfl (by decide) (.yes (by kernel_rfl) ⟨_,by simp[mh,e1,e2,cU,dt,dZ,List.replicate];rfl⟩))
  |false=>exact Rt.fn rfl (.noS rfl (by decide) (.yes (by kernel_rfl) ⟨_,by simp[iu,e1,e2,cU,dt,dZ,List.replicate];rfl⟩))
 simp only[jb,yz,Zt]at hw;rcases hw with rfl|rfl|rfl|rfl|rfl|rfl|rfl|rfl
 .refine d5 (iL J n) λ h e e2 _ _ d=>?_;refine d5 (iL J d) λ r3 i e3 _ _ g=>?_;have B:=ek a (m:=40) (by decide);have O:=ek h (m:=40) (by decide);by_cases c:r3.fmod 3=1
  .exact⟨.time (a.fmod 40) none,i,Rt.fn rfl (.yesS rfl rfl ⟨_,by simp[e1,e2,e3,c,cU,dt,dZ,List.replicate];rfl⟩),Ad ⟨B.1,λ x z=>by simp at z⟩,g⟩
  .exact⟨.time (a.fmod 40) (some (a.fmod 40+1+h.fmod 40)),i,Rt.fn rfl (.yesS rfl rfl ⟨_,by simp[e1,e2,e3,c,cU,dt,dZ,List.replicate];rfl⟩),Ad ⟨B.1,λ x z=>by simp at z;lia⟩,g⟩
 .exact Y true
 .exact Y false
 .obtain⟨lo,hi,e,e2,H,I,K,d⟩:=xc J ho;exact⟨.span lo hi,e,Rt.fn rfl (.noS rfl (by decide) (.no (by kernel_rfl) (.yesS rfl rfl ⟨_,by simp[e2,cU,dt,dZ,List.replicate];rfl⟩))),GR ⟨H,I,K⟩,d⟩
 .refine d5 (iL J n) λ h e e2 _ _ d=>?_;refine d5 (iL J d) λ r3 i e3 _ _ g=>?_;have f:=ek h (m:=3) (by decide);obtain⟨x,j,hx⟩:=xp 4 4 999 f.1 f.2;have s:0<x:=by lia
  have p:¬x=0:=by lia
  have u:=ek a s;have sz:¬(2+a.fmod x=0):=by lia
  have t:=ek r3 (m:=2+a.fmod x) (by lia);exact⟨.rest (2+a.fmod x) (r3.fmod (2+a.fmod x)),i,Rt.fn rfl (.noS rfl (by decide) (.no (by kernel_rfl) (.noS rfl (by decide) (.yesS rfl rfl ⟨_,by simp[e1,e2,e3,j,p,sz,cU,dt,dZ,List.replicate];rfl⟩)))),Et ⟨by lia,by lia,t.1,t.2⟩,g⟩
 .refine d5 (iL J n) λ h e e2 _ _ d=>?_;refine d5 (iL J d) λ r3 i e3 _ _ g=>?_;refine d5 (iL J g) λ A G e4 _ _ C=>?_;have f:=ek h (m:=3) (by decide);obtain⟨x,j,hx⟩:=xp 3 3 1000 f.1 f.2;have s:0<x:=by lia
  have p:¬x=0:=by lia
  have u:=ek a s;have N:=ek A (m:=31) (by decide);by_cases c:r3.fmod 2=1
  .exact⟨.turn (0-(1+a.fmod x)) (A.fmod 31-15),G,Rt.fn rfl (.noS rfl (by decide) (.no (by kernel_rfl) (.noS rfl (by decide) (.noS rfl (by decide) (.yesS rfl rfl ⟨_,by simp[e1,e2,e3,e4,j,p,c,cU,dt,dZ,List.replicate];rfl⟩))))),GQ ⟨by lia,by lia,by lia⟩,C⟩
  .exact⟨.turn (1+a.fmod x) (A.fmod 31-15),G,Rt.fn rfl (.noS rfl (by decide) (.no (by kernel_rfl) (.noS rfl (by decide) (.noS rfl (by decide) (.yesS rfl rfl ⟨_,by simp[e1,e2,e3,e4,j,p,c,cU,dt,dZ,List.replicate];rfl⟩))))),GQ ⟨by lia,by lia,by lia⟩,C⟩
 .refine d5 (iL J n) λ h e e2 _ _ d=>?_;have f:=ek h (m:=3) (by decide);obtain⟨x,j,hx⟩:=xp 20 20 1000000 f.1 f.2;have s:0<x:=by lia
  have p:¬x=0:=by lia
  have u:=ek a s;exact⟨.later (a.fmod x),e,Rt.fn rfl (.noS rfl (by decide) (.no (by kernel_rfl) (.noS rfl (by decide) (.noS rfl (by decide) (.noS rfl (by decide) (.yesS rfl rfl ⟨_,by simp[e1,e2,j,p,cU,dt,dZ,List.replicate];rfl⟩)))))),PK u.1,d⟩
 .have t:=ek a (m:=4) (by decide);refine iZ (CP J n nd (by lia) (m:=1+a.fmod 4) (by lia) (by lia)) λ l e e2 w σ y d=>?_;refine cF (EO J hp (U:=[.ow true e,.im (.str "put"),.im Z,.im aa,.im (.lst (q.map .str)),.im (.lst (l.map .str)),.no,.no,.no,.no]) rfl l e d) λ tb i e3 E g=>?_;have lt:tb.length=l.length:=by rw[<-E];unfold fst;rw[qw]
  have F:l.length<=sizeLine:=dI (by lia);have S:tb.length<=sizeLine:=dI (by lia);refine⟨.put tb,i,?_,QT ⟨by rw[E];exact⟨σ,λ k v=>ac k (y k v)⟩,by lia⟩,g⟩;exact Rt.fn rfl (.noS rfl (by decide) (.no (by kernel_rfl) (.noS rfl (by decide) (.noS rfl (by decide) (.noS rfl (by decide) (.noS rfl (by decide) ⟨_,by simp[e1,e2,e3,F,cU,dt,dZ,dT,List.replicate];rfl⟩))))))
theorem yV{k:Nat}(h:xs[k]?=some d):di xs (k:Int)=some d:=by
 have q:=(List.getElem?_eq_some_iff.mp h).1;unfold di ny;have:(0:Int)<=(k:Int):=by lia
 simp[q];exact(List.getElem?_eq_some_iff.mp h).2
theorem Fg{nm:List Str}{k:Nat}(h:nm[k]?=some s):di (nm.map D.str) (k:Int)=some (.str s):=yV (by rw[zo,h];rfl)
abbrev pE(o:MO)(nm:List Str)(one:Str)(J:List Str)(form many cut:Int)(q:List bO)(s8 s9 Y aa Z:Sl):En:=[.ow true o,.im (.lst (nm.map .str)),.im (.str one),.im (.lst (J.map .str)),.im (.int form),.im (.int many),.im (.int cut),.ow false (.lst (q.map aE)),s8,s9,Y,aa,Z]
theorem PY(o:MO){k:Nat}(hn:nm[k]?=some nk)(hp:J[k]?=some pk)(pn:J.Nodup)(sub:∀k∈J,k∈P)(h1:(k:Int)<many)(h2:2<=many)(h3:many<=4)(f0:0<=form)(f1:form<=3)(c0:-10<=cut)(c1:cut<=20)(q:List bO)(hq:q.length<=10)(w:Nat)(s9 ac aa Z:Sl):∃(r:Rw)(am ah af aj:Sl),gk P r/\si (pE o nm one J form many cut q (.im (.int (k:Int))) s9 ac aa Z)=some (.nx (pE o nm one J form many cut (q++[⟨nk,.one one r,w⟩]) (.im (.int (k:Int))) am ah af aj)):=by
 have h:=Fg hn;have A:=Fg hp;have n:eZ 4 (k:Int)=true:=qC (by lia);have t:eZ ((cut.natAbs:Int)+1) (k:Int)=true:=qC (by lia);have E:eZ ((cut.natAbs:Int)+1) ((k:Int)+1)=true:=qC (by lia);have tl:q.length<1000000:=by lia
 have v:=sub pk (ze hp);have pt:(J.take k).length<=sizeLine:=by rw[y7];exact dI (by lia)
 have C:iO (J.map D.str) none (some (k:Int))=(J.take k).map .str:=by rw[AK,List.map_take]
 have K:(J.take k).length<=1000:=by rw[y7];lia
 have g:∀(a b:D),di [a,b] 0=some a/\di [a,b] 1=some b:=λ a b=>⟨rfl,rfl⟩
 obtain⟨lo,p⟩:∃x:Option Int,x=if 0<k then some (cut+4*(k:Int)+1)else none:=⟨_,rfl⟩;obtain⟨hi,u⟩:∃x:Option Int,x=if(k:Int)+1<many then some (cut+4*(k:Int)+4)else none:=⟨_,rfl⟩;obtain⟨c,i⟩:∃x:Int,x=if 0<k then((cut.natAbs:Int)+1)*(k:Int)else 0:=⟨_,rfl⟩;obtain⟨d,s⟩:∃x:Option Int,x=if(k:Int)+1<many then some (((cut.natAbs:Int)+1)*((k:Int)+1))else none:=⟨_,rfl⟩
 have Y:si (pE o nm one J form many cut q (.im (.int (k:Int))) s9 ac aa Z)=_:=(ip (ρ':=pE o nm one J form many cut q (.im (.int (k:Int))) (.im (dO lo)) ac aa Z) (by
   rcases Nat.eq_zero_or_pos k with rfl|j
   .simp[p,g,show eZ 4 0=true from n]
   .simp[p,g,n,j])).trans ((ip (ρ':=pE o nm one J form many cut q (.im (.int (k:Int))) (.im (dO lo)) (.im (dO hi)) aa Z) (by by_cases b:(k:Int)+1<many<;>simp[u,g,n,b])).trans
  ((ip (ρ':=pE o nm one J form many cut q (.im (.int (k:Int))) (.im (dO lo)) (.im (dO hi)) (.im (.int c)) Z) (by
   rcases Nat.eq_zero_or_pos k with rfl|j
   .simp[i,g,show eZ ((cut.natAbs:Int)+1) 0=true from t]
   .simp[i,g,t,j])).trans (ip (ρ':=pE o nm one J form many cut q (.im (.int (k:Int))) (.im (dO lo)) (.im (dO hi)) (.im (.int c)) (.im (dO d))) (by by_cases b:(k:Int)+1<many<;>simp[s,g,E,b]))))
 rcases(show form=0\/form=1\/form=2\/form=3 by lia)with rfl|rfl|rfl|rfl
 .have f:=ek (cut.natAbs:Int) (m:=4) (by decide);exact⟨.rest (many+(cut.natAbs:Int).fmod 4) (k:Int),.im (dO lo),.im (dO hi),.im (.int c),.im (dO d),Et ⟨by lia,by lia,by lia,by lia⟩,Y.trans (by simp[h,tl,aE,cU,dt,dZ])⟩
 .by_cases b:(k:Int)+1<many
  .exact⟨.keys true [pk],.im (dO lo),.im (dO hi),.im (.int c),.im (dO d),Ai ⟨⟨by simp,λ x hx=>by cases List.mem_singleton.mp hx;exact v⟩,by simp⟩,Y.trans (by simp[b,h,A,tl,aE,cU,dt,dZ,mh])⟩
  .have F:J.take k≠[]:=λ z=>by
    have G:=(List.getElem?_eq_some_iff.mp hp).1;have:=Z8 List.length z;rw[y7,yx]at this;lia
   exact⟨.keys false (J.take k),.im (dO lo),.im (dO hi),.im (.int c),.im (dO d),Ai ⟨⟨pn.sublist (Zx ..),λ x hx=>sub x (Zi hx)⟩,F⟩,Y.trans (by simp[b,h,C,tl,aE,cU,dt,dZ,iu,-List.map_take])⟩
 .refine⟨.span lo hi,.im (dO lo),.im (dO hi),.im (.int c),.im (dO d),GR ⟨λ l e=>?_,λ l e=>?_,λ x y e1 e2=>?_⟩,Y.trans (by simp[h,tl,aE,cU,dt,dZ])⟩
  .grind
  .grind
  .grind
 .have H:0<=((cut.natAbs:Int)+1)*(k:Int):=Int.mul_nonneg (by lia) (by lia);have I:((cut.natAbs:Int)+1)*((k:Int)+1)=((cut.natAbs:Int)+1)*(k:Int)+((cut.natAbs:Int)+1):=by rw[Int.mul_add,Z0]
  have B:0<=c/\c<=((cut.natAbs:Int)+1)*(k:Int):=by rw[i];split<;>lia
  refine⟨.time c d,.im (dO lo),.im (dO hi),.im (.int c),.im (dO d),Ad ⟨B.1,λ x e=>?_⟩,Y.trans (by simp[h,tl,aE,cU,dt,dZ])⟩;rw[s]at e;split at e<;>simp at e;lia
structure uB(P nm:List Str)(one:Str)(w:Nat)(q:List bO):Prop where
 n:q.map (·.n)=nm.take q.length
 r:∀x∈q,∃r,x=⟨x.n,.one one r,w⟩/\gk P r
theorem GX(o:MO)(hn:nm.length=7)(hp:J.length=9)(pn:J.Nodup)(sub:∀k∈J,k∈P)(h2:2<=many)(h3:many<=4)(f0:0<=form)(f1:form<=3)(c0:-10<=cut)(c1:cut<=20)(w:Nat):∀(m k:Nat)(q:List bO)(s8 s9 Z Y aa:Sl),(k:Int)+m=many->q.length=k->uB P nm one w q->∃(q':List bO)(t8 t9 af ac ae:Sl),cK (gN 8) si (eL (k:Int) m) (pE o nm one J form many cut q s8 s9 Z Y aa)=some (.nx (pE o nm one J form many cut q' t8 t9 af ac ae))/\(q'.length:Int)=many/\uB P nm one w q'
 |0,k,q,s8,s9,Z,Y,aa,s,b,a=>⟨q,s8,s9,Z,Y,aa,rfl,by lia,a⟩
 |m+1,k,q,s8,s9,Z,Y,aa,s,b,a=>by
  obtain⟨d,c⟩:∃x,nm[k]?=some x:=⟨_,zk (by lia)⟩;obtain⟨v,p⟩:∃x,J[k]?=some x:=⟨_,zk (by lia)⟩;obtain⟨r,u,h,i,j,ok,e⟩:=PY o c p pn sub (by lia) h2 h3 f0 f1 c0 c1 q (by lia) w s9 Z Y aa;have g:uB P nm one w (q++[⟨d,.one one r,w⟩]):=by
   refine⟨?_,λ x hx=>?_⟩
   .rw[zv,a.n,zi,Zb,b,Zy,c];rfl
   .rcases qv hx with z|z
    .exact a.r x z
    .grind
  obtain⟨q',t8,t9,af,ac,ae,l,t,f⟩:=GX o hn hp pn sub h2 h3 f0 f1 c0 c1 w m (k+1) (q++[⟨d,.one one r,w⟩]) (.im (.int (k:Int))) u h i j (by lia) (by rw[zi,b];rfl) g;refine⟨q',t8,t9,af,ac,ae,?_,t,f⟩;show cK _ _ (D.int (k:Int)::eL ((k:Int)+1) m) _=_;rw[gB];show fY _ _ _ (some (pE o nm one J form many cut q (.im (.int (k:Int))) s9 Z Y aa))=_;rw[gC,e,gE];exact l
theorem PX(Z:ns.length<=63)(ho:dg ns o){P nm J:List Str}(one:Str)(hn:nm.length=7)(hp:J.length=9)(pn:J.Nodup)(sub:∀k∈J,k∈P)(w:Nat):∃(q:List bO)(o':MO),sY o [.lst (nm.map .str),.str one,.lst (J.map .str)]=some (q.map aE,o')/\2<=q.length/\q.length<=4/\uB P nm one w q/\dg ns o':=by
 refine cF (eY Z ho) λ b u e1 _ d=>?_;refine cF (eY Z d) λ Y v e2 _ f=>?_;refine cF (eY Z f) λ r3 a e3 _ g=>?_;have c:=ek b (m:=4) (by decide);have s:=ek Y (m:=3) (by decide);have t:=ek r3 (m:=31) (by decide);obtain⟨q,y,z,r,n,p,e,l,h⟩:=GX (many:=2+Y.fmod 3) (cut:=r3.fmod 31-10) a hn hp pn sub (by lia) (by lia) c.1 (by lia) (by lia) (by lia) w (2+Y.fmod 3).toNat 0 [] .no .no .no .no .no (by lia) rfl ⟨rfl,λ x hx=>by simp at hx⟩;have i:-4611686018427387904<=2+Y.fmod 3:=by lia
 have j:2+Y.fmod 3<4611686018427387904:=by lia
 have e:cK (gN 8) si (eL 0 (2+Y.fmod 3).toNat) [.ow true a,.im (.lst (nm.map .str)),.im (.str one),.im (.lst (J.map .str)),.im (.int (b.fmod 4)),.im (.int (2+Y.fmod 3)),.im (.int (r3.fmod 31-10)),.ow false (.lst []),.no,.no,.no,.no,.no]=_:=e;refine⟨q,a,?_,by lia,by lia,h,g⟩;simp[sY,sD,C5,List.replicate,e1,e2,e3,i,j,e,pE,yQ,c8]
theorem OH{l m:List α}{x:α}(h:x∈l)(hi:l.length<=i):x∈(l++m).take i:=by rw[Jc];exact jd _ (by rw[j0 hi];exact h)
theorem fT.app(h:fT P q)(nd:(ex.map (·.n)).Nodup)(J:∀n∈ex.map (·.n),n∉q.map (·.n))(ok:∀i x,ex[i]?=some x->ed P (q++ex.take i) x):fT P (q++ex):=by
 refine⟨?_,λ i x hx=>?_⟩
 .rw[zv,Qd];exact⟨h.nd,nd,λ a Y b Z e=>J b Z (e▸Y)⟩
 .by_cases c:i<q.length
  .rw[yy c]at hx;rw[List.take_append_of_le_length (Zq c)];exact h.ok i x hx
  .rw[Qo (by lia)]at hx;have:=ok _ x hx;rw[Jc,j0 (by lia)];exact this
theorem Cv(ok:gk P r)(h:∃y∈up,y.n=f/\y.w<=w/\fx y.b=true):ed P up ⟨n,.one f r,w⟩:=⟨λ _ _ e=>(by simp at e),λ g s e=>by cases e;exact⟨ok,h⟩,λ _ e=>(by simp at e),λ _ _ _ e=>(by simp at e)⟩
theorem C9(h:∀f∈fs,∃y∈up,y.n=f/\y.w<=v/\fx y.b=true)(q:fs.length*v<=w):ed P up ⟨n,.pour fs,w⟩:=⟨λ _ _ e=>(by simp at e),λ _ _ e=>(by simp at e),λ J e=>by cases e;exact⟨v,h,q⟩,λ _ _ _ e=>(by simp at e)⟩
theorem xM:∀q:List bO,dw dA (e2 bK (eV 0) (zI 1)) [] (q.map aE)=some ((q.map (·.n)).map .str)
 |[]=>rfl
 |x::q=>by
  have J:=xM q;have st:e2 bK (eV 0) (zI 1) [.im (aE x)]=some (.str x.n,[.im (aE x)]):=by simp[mm]
  rw[qx,lj];show sG _ _ _ _ (some (true,_))=_;rw[lq,st,ll,J,lg];rfl
theorem Se{k:Nat}(h:xs[k]?=some d):p0 xs (k:Int)=some d:=by unfold p0;rw[if_pos (by lia)];exact h
structure qP(P:List Str)(rs:List bO)(nm:List Str)(w:Nat)(ex:List bO):Prop where
 nd:(ex.map (·.n)).Nodup
 sub:∀n∈ex.map (·.n),n∈nm
 len:ex.length<=6
 w1:∀x∈ex,w<=x.w/\x.w<=5*w
 c:∀x∈ex,fx x.b=true
 ok:∀i x,ex[i]?=some x->ed P (rs++ex.take i) x
theorem PN{ns:List Int}(aa:ns.length<=63){o:MO}(ho:dg ns o){P Y:List Str}(hp:Y.length=9)(pn:Y.Nodup)(sub:∀k∈Y,k∈P){rs:List bO}{w:Nat}(hw:∀x∈rs,x.w<=w)(ah:∀x∈rs,fx x.b=true)(rl:rs.length<=20){n0 n1 n2 n3 n4 J Z:Str}(nd:[n0,n1,n2,n3,n4,J,Z].Nodup){one:Str}(h1:one∈rs.map (·.n)):∃(ex:List bO)(o':MO),pQ o [.lst ([n0,n1,n2,n3,n4,J,Z].map .str),.str one,.lst ((rs.map (·.n)).map .str),.lst (Y.map .str)]=some (.lst (ex.map aE),o')/\qP P rs [n0,n1,n2,n3,n4,J,Z] w ex/\dg ns o':=by
 obtain⟨q,o1,e1,l1,l2,t,g1⟩:=PX aa ho one (nm:=[n0,n1,n2,n3,n4,J,Z]) rfl hp pn sub w;obtain⟨σ,o2,ar,_,g2⟩:=eY aa g1;obtain⟨r3,o3,e3,_,g3⟩:=eY aa g2;have ql:(q.map (·.n)).length=q.length:=qw ..;have fa:=ek σ (m:=(q.length:Int)) (by lia);obtain⟨k,hk⟩:∃k:Nat,σ.fmod (q.length:Int)=(k:Int):=⟨(σ.fmod q.length).toNat,by lia⟩;rw[hk]at fa;have kl:k<q.length:=by lia
 obtain⟨f,S⟩:∃x,(q.map (·.n))[k]?=some x:=⟨_,zk (by lia)⟩;have f3:=ek r3 (m:=3) (by decide);obtain⟨F,ew,an⟩:∃F,di [D.str "turn",.str "later",.str "put"] (r3.fmod 3)=some (.str F)∧F∈wH:=by
  rcases(show r3.fmod 3=0\/r3.fmod 3=1\/r3.fmod 3=2 by lia)with z|z|z<;>rw[z]
  .exact⟨_,rfl,by simp⟩
  .exact⟨_,rfl,by simp⟩
  .exact⟨_,rfl,by simp⟩
 obtain⟨rv,o4,e4,ak,g4⟩:=Ft aa g3 hp pn sub (.str J) (.tup [.str f]) F an;obtain⟨r5,o5,e5,_,g5⟩:=eY aa g4;obtain⟨r6,I,E,_,g6⟩:=eY aa g5;have rp:0<rs.length:=by
  cases rs with
  |nil=>cases h1
  |cons=>exact Zp _
 have ρ:=ek r5 (m:=(rs.length:Int)) (by lia);obtain⟨ot,am,eo⟩:=lW D.str (rs.map (·.n)) ρ.1 (by rw[qw];exact ρ.2)
 let fr:List Str:=(q.map (·.n)).set k J
 have af:∀fs:List Str,(fs=fr\/fs=fr++[ot])->pQ o [.lst ([n0,n1,n2,n3,n4,J,Z].map .str),.str one,.lst ((rs.map (·.n)).map .str),.lst (Y.map .str)]=some (.lst ((q++[(⟨J,.one f rv,w⟩:bO),⟨Z,.pour fs,5*w⟩]).map aE),I)->∃(ex:List bO)(o':MO),pQ o [.lst ([n0,n1,n2,n3,n4,J,Z].map .str),.str one,.lst ((rs.map (·.n)).map .str),.lst (Y.map .str)]=some (.lst (ex.map aE),o')/\qP P rs [n0,n1,n2,n3,n4,J,Z] w ex/\dg ns o':=λ fs u e=>by
  have qn:∀x∈q.map (·.n),x∈[n0,n1,n2,n3]:=λ x hx=>by
   rw[t.n]at hx;have:x∈[n0,n1,n2,n3,n4,J,Z].take 4:=by rw[show[n0,n1,n2,n3,n4,J,Z].take q.length=([n0,n1,n2,n3,n4,J,Z].take 4).take q.length by rw[List.take_take,Nat.min_eq_left l2]]at hx;exact Zi hx
   exact this
  have C:J∉[n0,n1,n2,n3]/\Z∉[n0,n1,n2,n3]/\J≠Z:=by simp only[List.nodup_cons,jb,yz,Zt,not_or]at nd⊢;obtain⟨⟨_,_,_,_,a5,a6⟩,⟨_,_,_,b5,b6⟩,⟨_,_,c5,c6⟩,⟨_,C,d6⟩,_,E,_⟩:=nd;exact⟨⟨zt a5,zt b5,zt c5,zt C⟩,⟨zt a6,zt b6,zt c6,zt d6⟩,E⟩
  have N:fr.length=q.length:=by show((q.map (·.n)).set k J).length=_;rw[yf,ql]
  refine⟨_,I,e,⟨?_,?_,by rw[zi];simp;lia,?_,?_,?_⟩,g6⟩
  .rw[zv,Qd];refine⟨by rw[t.n];exact nd.sublist (Zx ..),by simp[C.2.2],λ a ha b X z=>?_⟩;subst z;have:=qn a ha;simp only[qx,yg,jb,yz,Zt]at X;rcases X with rfl|rfl
   .exact C.1 this
   .exact C.2.1 this
  .intro n hn;rw[zv]at hn;rcases qv hn with z|z
   .have:=qn n z;simp only[jb,yz,Zt]at this⊢;rcases this with h|h|h|h<;>simp[h]
   .simp only[qx,yg,jb,yz,Zt]at z;rcases z with rfl|rfl<;>simp
  .intro x hx;rcases qv hx with z|z
   .obtain⟨r,ex,_⟩:=t.r x z;rw[ex];exact⟨qj _,by show w<=5*w;lia⟩
   .simp only[jb,yz,Zt]at z;rcases z with rfl|rfl
    .exact⟨qj _,by show w<=5*w;lia⟩
    .exact⟨by show w<=5*w;lia,qj _⟩
  .intro x hx;rcases qv hx with z|z
   .obtain⟨r,ex,_⟩:=t.r x z;rw[ex];rfl
   .simp only[jb,yz,Zt]at z;rcases z with rfl|rfl<;>rfl
  .obtain⟨M,G,al⟩:=List.mem_map.mp h1;have O:∀g∈q.map (·.n),∃y∈q,y.n=g/\y.w<=w/\fx y.b=true:=λ g s=>by
    obtain⟨y,l,rfl⟩:=List.mem_map.mp s;obtain⟨r,T,_⟩:=t.r y l;exact⟨y,l,rfl,by rw[T];exact qj _,by rw[T];rfl⟩
   intro i x hx;by_cases c:i<q.length
   .rw[yy c]at hx;obtain⟨r,ex,ok⟩:=t.r x (ze hx);rw[ex];exact Cv ok ⟨M,jd _ G,al,hw M G,ah M G⟩
   .rw[Qo (by lia)]at hx;obtain⟨j,ej⟩:∃j,i-q.length=j:=⟨_,rfl⟩;rw[ej]at hx;have tk:∀y∈q,y∈rs++(q++[(⟨J,.one f rv,w⟩:bO),⟨Z,.pour fs,5*w⟩]).take i:=λ y l=>qo _ (OH l (by lia))
    match j,hx with
    |0,hx=>
     cases hx;obtain⟨y,l,a,b,H⟩:=O f (ze S);exact Cv ak ⟨y,tk y l,a,b,H⟩
    |1,hx=>
     cases hx;refine C9 (v:=w) (λ g s=>?_) ?_
     .have ap:g∈fr\/g=ot:=by
       rcases u with z|z
       .rw[z]at s;exact .inl s
       .rw[z]at s;rcases qv s with z|z
        .exact .inl z
        .exact .inr (List.mem_singleton.mp z)
      rcases ap with z|rfl
      .rcases List.mem_or_eq_of_mem_set z with z|rfl
       .obtain⟨y,l,a,b,H⟩:=O g z;exact⟨y,tk y l,a,b,H⟩
       .refine⟨⟨g,.one f rv,w⟩,qo _ ?_,rfl,qj _,rfl⟩;have ei:i=q.length+1:=by lia
        rw[ei,Jc,j0 (by lia)];refine qo _ ?_;rw[show q.length+1-q.length=1 by lia];simp
      .obtain⟨y,l,rfl⟩:=List.mem_map.mp am;exact⟨y,jd _ l,rfl,hw y l,ah y l⟩
     .have:fs.length<=5:=by
       rcases u with z|z<;>rw[z]
       .lia
       .rw[zi,N];simp;lia
      exact Ys _ this
    |j+2,hx=>cases hx
 have ng:=xM q;have qs:q.length<=sizeLine:=dI (by lia);have xk:=Se (xs:=(q.map (·.n)).map D.str) (k:=k) (d:=.str f) (by rw[zo,S];rfl);have i5:di [D.str n0,.str n1,.str n2,.str n3,.str n4,.str J,.str Z] 5=some (.str J):=rfl;have i6:di [D.str n0,.str n1,.str n2,.str n3,.str n4,.str J,.str Z] 6=some (.str Z):=rfl;have t1:q.length<1000000:=by lia
 have rz:¬(rs.length:Int)=0:=by lia
 have aj:¬rs.length=0:=by lia
 have qz:¬(q.length:Int)=0:=by lia
 have aq:¬q.length=0:=by lia
 have st:((q.map (·.n)).map D.str).set k (.str J)=fr.map D.str:=by show _=((q.map (·.n)).set k J).map D.str;rw[Y8]
 have N:fr.length=q.length:=by show((q.map (·.n)).set k J).length=_;rw[yf,ql]
 simp only[qx,yg]at e1;have en:∀fs:List Str,aE (⟨Z,.pour fs,5*w⟩:bO)=.tup [.str "pour",.str Z,.tup (fs.map .str),.tup []]:=λ _=>rfl;have ao:aE (⟨J,.one f rv,w⟩:bO)=cU (.str J) (.tup [.str f]) rv:=rfl;have V:fr.length<=sizeLine:=dI (by lia);have au:fr.length+1<=sizeLine:=dI (by lia);have t2:fr.length<1000000:=by lia
 have ls:q.length+1+1<=sizeLine:=dI (by lia)
 let R:MO->Sl->Sl->Sl->Sl->Sl->En:=λ o a b c d e=>[.ow true o,.im (.lst ([n0,n1,n2,n3,n4,J,Z].map .str)),.im (.str one),.im (.lst ((rs.map (·.n)).map .str)),.im (.lst (Y.map .str)),a,b,c,d,e]
 let A:Sl:=.ow false (.lst (q.map aE))
 let p:Sl:=.ow false (.lst (q.map aE++[cU (.str J) (.tup [.str f]) rv]))
 let B:List Str->Sl:=λ x=>.ow false (.lst (x.map .str))
 let K:Sl:=.im (.int (k:Int))
 let W:Sl:=.im (.str F)
 obtain⟨fs,u,as⟩:∃fs:List Str,(fs=fr\/fs=fr++[ot])/\bP (b_ (tB (e2 eQ (e2 cu (cv 0 cC aN) (zI 2)) (zI 1))) (tB (e2 gW (eV 9) (eV 2)))) (iR 6 (eV 9)) sN (R o5 p (B fr) K W (.im (.str ot)))=some (.nx (R I p (B fs) K W (.im (.str ot)))):=by
  by_cases c:r6.fmod 2=1
  .by_cases Q:ot=one
   .exact⟨fr,.inl rfl,by simp[R,B,E,c,Q]⟩
   .exact⟨fr++[ot],.inr rfl,by simp[R,B,E,c,Q,t2]⟩
  .exact⟨fr,.inl rfl,by simp[R,B,E,c]⟩
 have fl:fs.length<=fr.length+1:=by rcases u with rfl|rfl<;>simp
 have V:fs.length<=sizeLine:=dI (by lia);exact af fs u (Rt.fn (B:=Kn) (k:=5) rfl (.seq (ρ':=R o1 A .no .no .no .no) (by simp[-List.map_map,c8,R,A,List.replicate,e1]) (.seq (ρ':=R o1 A (B (q.map (·.n))) .no .no .no) (by simp[-List.map_map,c8,R,A,B,ng,qs]) (.seq (ρ':=R o2 A (B (q.map (·.n))) K .no .no) (by simp[-List.map_map,c8,R,A,B,K,ar,hk,qz,aq])
  (.seq (ρ':=R o3 A (B (q.map (·.n))) K W .no) (by simp[-List.map_map,c8,R,A,B,K,W,e3,ew]) (.seq (ρ':=R o4 p (B (q.map (·.n))) K W .no) (by simp[-List.map_map,c8,R,A,p,B,K,W,i5,xk,e4,t1]) (.seq (ρ':=R o4 p (B fr) K W .no) (by simp[-List.map_map,c8,R,p,B,K,W,i5,kl,st])
  (.seq (ρ':=R o5 p (B fr) K W (.im (.str ot))) (by simp[-List.map_map,c8,R,p,B,K,W,e5,rz,aj,eo]) (.seq as ⟨_,by simp[-List.map_map,c8,R,p,B,K,W,i6,ls,V,en,ao];rfl⟩)))))))))
noncomputable def sg(c:String)(k:Nat):Str:=Str.ofString c++(if k=0 then Str.ofString "k" else if k=1 then Str.ofString "l" else Str.ofString "m")
abbrev kU(k:Nat):List Str:=[sg "c" k,sg "d" k,sg "e" k,sg "f" k,sg "g" k,sg "h" k,sg "i" k]
abbrev ku:List Str:=kU 0++kU 1++kU 2
noncomputable abbrev ab:List Str:=[Str.ofString "a",Str.ofString "b"]
theorem Rh(k:Nat)(h:k<3):dw dA (e2 cw (eV 0) (e2 bK (zR "klmnopq") (eV 1))) [.im (.int (k:Int))] (kh (Str.ofString "cdefghi"))=some ((kU k).map .str):=by rcases(show k=0\/k=1\/k=2 by lia)with rfl|rfl|rfl<;>rfl
structure Wn(P:List Str)(k:Nat)(rs:List bO):Prop where
 ok:fT P rs
 w:∀x∈rs,1<=x.w/\x.w<=5^k
 nm:∀n∈rs.map (·.n),n∈ab++(ku.take (7*k))
 len:rs.length<=2+6*k
 c:∀x∈rs,fx x.b=true
 z:∃x lo hi,rs[0]?=some x/\x.b=.inn lo hi/\x.w=1
theorem TN(h:k<3):∀n∈kU k,n∉ab++ku.take (7*k):=by rcases(show k=0\/k=1\/k=2 by lia)with rfl|rfl|rfl<;>decide+kernel
theorem Si(h:k<3):(∀n∈kU k,n∈ab++ku.take (7*(k+1)))/\∀n∈ab++ku.take (7*k),n∈ab++ku.take (7*(k+1)):=by rcases(show k=0\/k=1\/k=2 by lia)with rfl|rfl|rfl<;>decide+kernel
theorem To(h:k<3):(kU k).Nodup:=by rcases(show k=0\/k=1\/k=2 by lia)with rfl|rfl|rfl<;>decide+kernel
theorem Wn.app{P:List Str}{k:Nat}{J ex:List bO}(h:Wn P k J)(Y:k<3)(e:qP P J (kU k) (5^k) ex):Wn P (k+1) (J++ex):=by
 have f:=TN Y;obtain⟨d,g⟩:=Si Y;refine⟨h.ok.app e.nd (λ n q Z=>f n (e.sub n q) (h.nm n Z)) e.ok,λ x hx=>?_,λ n q=>?_,by rw[zi];have:=h.len;have:=e.len;lia,λ x hx=>?_,?_⟩
 .rcases qv hx with z|z
  .have:=h.w x z;exact⟨this.1,zc this.2 (Yr (by decide) (by lia))⟩
  .have:=e.w1 x z;have p:1<=5^k:=Nat.one_le_pow _ _ (by decide);exact⟨by lia,by rw[Y6];lia⟩
 .rw[zv]at q;rcases qv q with z|z
  .exact g n (h.nm n z)
  .exact d n (e.sub n z)
 .rcases qv hx with z|z
  .exact h.c x z
  .exact e.c x z
 .obtain⟨x,lo,hi,a,b,c⟩:=h.z;exact⟨x,lo,hi,by rw[yy (List.getElem?_eq_some_iff.mp a).1];exact a,b,c⟩
theorem Ee(Z:x.n∈nm)(hw:w<=x.w/\x.w<=5*w)(hc:fx x.b=true)(ok:ed P Y x):qP P Y nm w [x]:=by
 refine⟨by simp,λ n J=>?_,by show 1<=6;decide,λ y q=>?_,λ y q=>?_,λ i y q=>?_⟩
 .cases List.mem_singleton.mp J;exact Z
 .cases List.mem_singleton.mp q;exact hw
 .cases List.mem_singleton.mp q;exact hc
 .cases i with
  |zero=>obtain rfl:=br q;rw[List.take_zero,zx];exact ok
  |succ i=>simp at q
theorem Pm{ns:List Int}(Y:ns.length<=63){o:MO}(ho:dg ns o){P J:List Str}(hp:J.length=9)(pn:J.Nodup)(sub:∀k∈J,k∈P){k:Nat}(hk:k<3){q:List bO}(h:Wn P k q)(s4 s5 s6 s7 s8 s9:Sl):∃(ex:List bO)(o':MO)(t4 t5 t6 t7 t8 t9:Sl),mD [.ow true o,.im (.lst (J.map .str)),.ow false (.lst (q.map aE)),.im (.int (k:Int)),s4,s5,s6,s7,s8,s9]=some (.nx [.ow true o',.im (.lst (J.map .str)),.ow false (.lst ((q++ex).map aE)),.im (.int (k:Int)),t4,t5,t6,t7,t8,t9])/\qP P q (kU k) (5^k) ex/\dg ns o':=by
 have F:=xM q;have p:=Rh k hk;have rl:q.length<=14:=by have:=h.len;lia
 have t:q.length<=sizeLine:=dI (by lia);have rp:0<q.length:=by obtain⟨x,_,_,a,_⟩:=h.z;exact jz (ye _) (List.getElem?_eq_some_iff.mp a).1
 have G:¬(q.length:Int)=0:=by lia
 have s:¬q.length=0:=by lia
 have B:(kh (Str.ofString "cdefghi")).length≤sizeLine:=dI (by decide+kernel);obtain⟨r1,o1,e1,_,g1⟩:=eY Y ho;obtain⟨i,o2,Z,_,I⟩:=eY Y g1;have V:=ek r1 (m:=(q.length:Int)) (by lia);obtain⟨one,S,C⟩:=lW D.str (q.map (·.n)) V.1 (by rw[qw];exact V.2);have σ:∀x∈q,x.w<=5^k:=λ x hx=>(h.w x hx).2;have X:5^k<=5*5^k:=by have:1<=5^k:=Nat.one_le_pow _ _ (by decide);lia
 obtain⟨R,H,ak⟩:=List.mem_map.mp S;have N:∀a b c d e f g:D,di [a,b,c,d,e,f,g] 0=some a:=λ _ _ _ _ _ _ _=>rfl;have ah:(q.map (·.n)).Nodup:=h.ok.nd;have T:(kU k).map D.str=[.str (sg "c" k),.str (sg "d" k),.str (sg "e" k),.str (sg "f" k),.str (sg "g" k),.str (sg "h" k),.str (sg "i" k)]:=rfl;rw[T]at p;by_cases c0:i.fmod 5=0
 .obtain⟨ex,O,e3,ext,j⟩:=PN Y I hp pn sub σ h.c (by lia) (To hk) S;have xl:q.length+ex.length<1000:=by have:=ext.len;lia
  rw[T]at e3;refine⟨ex,O,(.im (.lst ((q.map (·.n)).map .str))),(.im (.lst [.str (sg "c" k),.str (sg "d" k),.str (sg "e" k),.str (sg "f" k),.str (sg "g" k),.str (sg "h" k),.str (sg "i" k)])),(.im (.str one)),(.im (.int (i.fmod 5))),s8,s9,?_,ext,j⟩;simp[-List.map_map,c8,mD,F,t,p,B,e1,G,s,C,Z,c0,e3,xl]
 .by_cases u:i.fmod 5=1/\1<q.length
  .obtain⟨u,A⟩:=u;obtain⟨r3,O,e3,_,j⟩:=eY Y I;have f4:=ek r3 (m:=4) (by decide);have W:0<=(if 2+r3.fmod 4<(q.length:Int)then 2+r3.fmod 4 else(q.length:Int))/\(if 2+r3.fmod 4<(q.length:Int)then 2+r3.fmod 4 else(q.length:Int))<=q.length/\(if 2+r3.fmod 4<(q.length:Int)then 2+r3.fmod 4 else(q.length:Int))<=5:=by split<;>lia
   obtain⟨l,Q,e4,hl,ld,lm,K⟩:=CP Y j ah (by rw[qw];lia) (m:=if 2+r3.fmod 4<(q.length:Int)then 2+r3.fmod 4 else(q.length:Int)) W.1 (by rw[qw];exact W.2.1);have lz:l.length<=sizeLine:=dI (by lia);have aj:(1:Int)<(q.length:Int):=by lia
   have tl:q.length<1000000:=by lia
   refine⟨[⟨sg "c" k,.pour l,5*5^k⟩],Q,(.im (.lst ((q.map (·.n)).map .str))),(.im (.lst [.str (sg "c" k),.str (sg "d" k),.str (sg "e" k),.str (sg "f" k),.str (sg "g" k),.str (sg "h" k),.str (sg "i" k)])),(.im (.str one)),(.im (.int (i.fmod 5))),(.im (.lst (l.map .str))),s9,?_,Ee (by simp) ⟨X,qj _⟩ rfl (C9 (v:=5^k) (λ f hf=>?_) (Ys _ (by lia))),K⟩
   .simp[-List.map_map,c8,mD,F,t,p,B,e1,G,s,C,Z,c0,u,aj,e3,e4,lz,tl,N,aE]
   .obtain⟨y,M,rfl⟩:=List.mem_map.mp (lm f hf);exact⟨y,M,rfl,σ y M,h.c y M⟩
  .obtain⟨r3,O,e3,_,j⟩:=eY Y I;have ρ:=ek r3 (m:=8) (by decide);obtain⟨wd,ai,E⟩:=lW D.str wH ρ.1 ρ.2;have E:di [D.str "time",.str "only",.str "but",.str "span",.str "rest",.str "turn",.str "later",.str "put"] (r3.fmod 8)=some (.str wd):=E;obtain⟨r,Q,e4,ok,K⟩:=Ft Y j hp pn sub (.str (sg "c" k)) (.tup [.str one]) wd ai;have tl:q.length<1000000:=by lia
   refine⟨[⟨sg "c" k,.one one r,5^k⟩],Q,(.im (.lst ((q.map (·.n)).map .str))),(.im (.lst [.str (sg "c" k),.str (sg "d" k),.str (sg "e" k),.str (sg "f" k),.str (sg "g" k),.str (sg "h" k),.str (sg "i" k)])),(.im (.str one)),(.im (.int (i.fmod 5))),s8,(.im (.lst (wH.map .str))),?_,Ee (by simp) ⟨qj _,X⟩ rfl (Cv ok ⟨R,H,ak,σ R H,h.c R H⟩),K⟩;by_cases A:i.fmod 5=1
   .have c3:¬(1:Int)<(q.length:Int):=λ z=>u ⟨A,by lia⟩;simp[-List.map_map,c8,mD,F,t,p,B,e1,G,s,C,Z,c0,A,c3,e3,E,e4,tl,N,aE]
   .simp[-List.map_map,c8,mD,F,t,p,B,e1,G,s,C,Z,c0,A,e3,E,e4,tl,N,aE]
theorem F6(aa:ns.length<=63){P q:List Str}(hp:q.length=9)(pn:q.Nodup)(sub:∀k∈q,k∈P):∀(m k:Nat)(o:MO)(Y:List bO)(s3 s4 s5 s6 Z s8 s9:Sl),k+m<=3->dg ns o->Wn P k Y->∃(J:List bO)(o':MO)(t3 t4 t5 t6 t7 t8 t9:Sl)(k':Nat),cK (gN 3) mD (eL (k:Int) m) [.ow true o,.im (.lst (q.map .str)),.ow false (.lst (Y.map aE)),s3,s4,s5,s6,Z,s8,s9]=some (.nx [.ow true o',.im (.lst (q.map .str)),.ow false (.lst (J.map aE)),t3,t4,t5,t6,t7,t8,t9])/\k'<=3/\Wn P k' J/\dg ns o'
 |0,k,o,Y,s3,s4,s5,s6,Z,s8,s9,j,d,h=>⟨Y,o,s3,s4,s5,s6,Z,s8,s9,k,rfl,by lia,h,d⟩
 |m+1,k,o,Y,s3,s4,s5,s6,Z,s8,s9,j,d,h=>by
  obtain⟨g,l,t4,t5,t6,t7,t8,t9,e,ext,i⟩:=Pm aa d hp pn sub (by lia) h s4 s5 s6 Z s8 s9;obtain⟨J,o',n,p,r,s,t,u,v,k',f,a,b,c⟩:=F6 aa hp pn sub m (k+1) l (Y++g) (.im (.int (k:Int))) t4 t5 t6 t7 t8 t9 (by lia) i (h.app (by lia) ext);refine⟨J,o',n,p,r,s,t,u,v,k',?_,a,b,c⟩;show cK _ _ (D.int (k:Int)::eL ((k:Int)+1) m) _=_;rw[gB];show fY _ _ _ (some [.ow true o,.im (.lst (q.map .str)),.ow false (.lst (Y.map aE)),.im (.int (k:Int)),s4,s5,s6,Z,s8,s9])=_;rw[gC,e,gE];exact f
theorem GP(h:St.OB lo (2^40)/\St.OB hi (2^40)/\∀a b,lo=some a->hi=some b->a<=b):ed P up ⟨n,.inn lo hi,1⟩:=⟨λ a b e=>by cases e;exact i1 h.1 h.2.1 h.2.2 (qj _),λ _ _ e=>(by simp at e),λ _ e=>(by simp at e),λ _ _ _ e=>(by simp at e)⟩
theorem ME(Y:ns.length<=63)(ho:dg ns o){P q:List Str}(hP:P.length<=10)(hp:q.length=9)(pn:q.Nodup)(sub:∀k∈q,k∈P):∃(rs:List bO)(o':MO),pV o [.lst (q.map .str)]=some (.lst (rs.map aE),o')/\Gd P rs/\dg ns o':=by
 obtain⟨b,Z,ρ,e1,r,s,t,F⟩:=xc Y ho;obtain⟨d,f,V,u,y,C,D,G⟩:=xc Y F;refine cF (eY Y G) λ r3 W e3 _ H=>?_;refine cF (eY Y H) λ a l e4 _ I=>?_;have S:=ek r3 (m:=2) (by decide);have T:=ek a (m:=4) (by decide)
 let A:bO:=⟨Str.ofString "a",.inn b Z,1⟩
 let B:bO:=⟨Str.ofString "b",.inn d f,1⟩
 have fin:∀J:List bO,(J=[A]\/J=[A,B])->iO [aE A,aE B] none (some (1+r3.fmod 2))=J.map aE->∃(rs:List bO)(o':MO),pV o [.lst (q.map .str)]=some (.lst (rs.map aE),o')/\Gd P rs/\dg ns o':=λ J K h=>by
  have p:Wn P 0 J:=by
   have v:ed P [] A:=GP ⟨r,s,t⟩;have R:ed P [A] B:=GP ⟨y,C,D⟩;rcases K with rfl|rfl
   .exact⟨⟨by simp,λ i x hx=>by cases i with|zero=>obtain rfl:=br hx;exact v|succ i=>simp at hx⟩,λ x hx=>by cases List.mem_singleton.mp hx;exact⟨qj _,qj _⟩,λ n j=>by cases List.mem_singleton.mp j;exact jd _ (qg ..),by show 1<=2;decide,λ x hx=>by cases List.mem_singleton.mp hx;rfl,A,b,Z,rfl,rfl,rfl⟩
   .refine⟨⟨?_,λ i x hx=>?_⟩,λ x hx=>?_,λ n j=>?_,by show 2<=2;decide,λ x hx=>?_,A,b,Z,rfl,rfl,rfl⟩
    .show[Str.ofString "a",Str.ofString "b"].Nodup;decide+kernel
    .match i,hx with
     |0,hx=>obtain rfl:=br hx;exact v
     |1,hx=>obtain rfl:=br hx;exact R
     |_+2,hx=>cases hx
    .grind
    .grind
    .simp only[jb,yz,Zt]at hx;rcases hx with rfl|rfl<;>rfl
  obtain⟨rs,o',X,t4,t5,t6,t7,t8,t9,σ,e,k2,w,g⟩:=F6 Y hp pn sub (a.fmod 4).toNat 0 l J .no .no .no .no .no .no .no (by lia) I p;have e:cK (gN 3) mD (eL 0 (a.fmod 4).toNat) [.ow true l,.im (.lst (q.map .str)),.ow false (.lst (J.map aE)),.no,.no,.no,.no,.no,.no,.no]=_:=e;have M:5^σ<=125:=zc (Yr (by decide) k2) (by decide);have Q:=λ x hx=>zc (w.w x hx).2 M;refine bE rs o' ?_ (⟨⟨hP,w.ok,Q,by have:=w.len;lia,w.c⟩,λ x hx=>(w.w x hx).1,w.z⟩) g
  .have N:-4611686018427387904<=a.fmod 4:=by lia
   have O:a.fmod 4<4611686018427387904:=by lia
   have E:aE A=.tup [.str "in",.str "a",.tup [],.tup [dO b,dO Z]]:=rfl;have eB:aE B=.tup [.str "in",.str "b",.tup [],.tup [dO d,dO f]]:=rfl;rw[E,eB]at h;simp[pV,C6,List.replicate,e1,u,e3,e4,h,N,O,e]
 rcases(show r3.fmod 2=0\/r3.fmod 2=1 by lia)with z|z
 .exact fin [A] (.inl rfl) (by rw[z];rfl)
 .exact fin [A,B] (.inr rfl) (by rw[z];rfl)
structure Og(P:List Str)(rs:List bO)(O:Str->List (Str×Bx)):Prop where
 gd:Gd P rs
 org:∀i x,rs[i]?=some x->Org P rs i x (O x.n)
 ne:∀x∈rs,O x.n≠[]
theorem V5(g:Gd P J)(ps:cZ P J):∃O,Og P J O:=by
 have Y:∀n:Str,∃σ:List (Str×Bx),∀i x,J[i]?=some x->x.n=n->Org P J i x σ/\σ≠[]:=λ n=>by
  by_cases c:∃(i:Nat)(x:bO),J[i]?=some x/\x.n=n
  .refine cX c λ i x hx e=>?_;obtain⟨σ,o,q⟩:=ps i x hx;refine⟨σ,λ j y Z a=>?_⟩;cases g.wk.ok.idx hx Z (e.trans a.symm);rw[hx]at Z;obtain rfl:=br Z;exact⟨o,q⟩
  .exact⟨[],λ i x hx e=>absurd ⟨i,x,hx,e⟩ c⟩
 obtain⟨O,h⟩:=Classical.axiomOfChoice Y;refine⟨O,g,λ i x hx=>(h x.n i x hx rfl).1,λ x hx=>?_⟩;obtain⟨i,hi⟩:=List.mem_iff_getElem?.mp hx;exact(h x.n i x hi rfl).2
theorem Js(nm:Str):∀q:List bO,dw (tB (e2 eQ (e2 bK (eV 0) (zI 1)) (eV 1))) (eV 0) [.im (.str nm)] (q.map aE)=some ((q.filter λ x=>decide (x.n=nm)).map aE)
 |[]=>rfl
 |x::q=>by
  have J:=Js nm q;have a:=mm x;have t:tB (e2 eQ (e2 bK (eV 0) (zI 1)) (eV 1)) [.im (aE x),.im (.str nm)]=some (decide (x.n=nm),[.im (aE x),.im (.str nm)]):=by simp[a]
  have f:eV 0 [.im (aE x),.im (.str nm)]=some (aE x,[.im (aE x),.im (.str nm)]):=rfl;rw[qx,lj,t,List.filter_cons];by_cases c:x.n=nm
  .rw[zm c,lq,f,ll,J,lg];rfl
  .rw[jg c,pC,J];rfl
theorem Jr(h:fT P q)(Z:q.length<=24)(hz:z∈q):oH [.lst (q.map aE),.str z.n]=some (aE z):=by
 have g:=Js z.n q;obtain⟨y,l,e⟩:∃y l,(q.filter λ x=>decide (x.n=z.n))=y::l:=by
  cases e:q.filter λ x=>decide (x.n=z.n)with
  |nil=>exact absurd (zm rfl) (List.filter_eq_nil_iff.mp e z hz)
  |cons y l=>exact⟨y,l,rfl⟩
 have J:y∈q.filter λ x=>decide (x.n=z.n):=by rw[e];exact qg ..
 rw[List.mem_filter,yo]at J;obtain rfl:y=z:=h.same J.1 hz J.2;rw[e,qx]at g;have sz:q.length<=sizeLine:=dI (by lia);have Y:di (aE y::l.map aE) 0=some (aE y):=yV rfl;simp only[oH,Ff];simp[List.replicate,g,sz,Y]
theorem VQ(p:Str×Bx):cD (aJ p)<=5:=by
 obtain⟨n,o,a,J,q,s⟩:=p;have:=vX o a;have e1:=Rr q;have e2:cD (dS s)<=1:=by obtain⟨lo,hi,st,b⟩:=s;simp[dS]
 simp[aJ,dB,e1];lia
theorem zz(σ:List (Str×Bx)):cD (.lst (σ.map aJ))<=6:=by
 have:ez (σ.map aJ)<=5:=F4 _ λ d hd=>by
  obtain⟨p,_,rfl⟩:=List.mem_map.mp hd;exact VQ p
 rw[lY];lia
theorem U4(g:Og P Y O)(hx:x∈Y)(xd ld:D)(hp:p∈O x.n)(s4:Sl):∃af,wG [.im (.lst (Y.map aE)),.im xd,.im ld,.im (aJ p),s4]=some (.nx [.im (.lst (Y.map aE)),.im xd,.im ld,.im (aJ p),af]):=by
 obtain⟨i,hi⟩:=List.mem_iff_getElem?.mp hx;have o:=g.org i x hi;obtain⟨z,f,Z,lo,q,r,w⟩:=vA (i+1) x _ _ hx (o.2.2.2.1 (i+1) (by lia)) p hp;have J:=o.2.1 p hp;obtain⟨b,σ,d⟩:=z;subst r;obtain⟨j,u⟩:=List.mem_iff_getElem?.mp f;refine gO ((g.gd.wk.ok.ok j _ u).inn lo q rfl) λ C E F _=>?_;refine dE (uN (P:=P) (x:=⟨b,.inn lo q,d⟩) rfl C E F) λ s _ a B m=>?_;have k:=Jr g.gd.wk.ok g.gd.wk.len f;have Z:b=p.1:=Z;rw[Z]at k;obtain⟨h,_,r3⟩:=@vV b lo q d;rw[Z]at h r3;have G:=Jq J.c a.c (J.bb.bd J.c jB jB) (a.bb.bd a.c (gu (by decide)) (gu (by decide))) λ v y=>by
  obtain⟨k0,l⟩:=J.ke;have e0:bX p.2.en p.2.bg=true:=by
   cases e:p.2.en with
   |none=>rfl
   |some x=>exact zm (J.te x e)
  have:=w p.2.bg k0 v J.t0 (by rw[Fx.hx,zm (yk _),e0,l,bB.mpr y];rfl);rw[<-m v]at this;exact bB.mp this
 have I:=pf p;have K:=sf p;have t:=lB p.2;have H:lD .tuple (aJ p)=true:=rfl;have A:fO [aJ p]=some (.int 2):=rfl;refine⟨.im (aE ⟨p.1,.inn lo q,d⟩),?_⟩;simp[wG,H,A,I,K,t,k,h,r3,dM,dR,B,G]
theorem GL(g:Og P Y O)(hx:x∈Y)(Z ld:D):∀(σ:List (Str×Bx))(s3 J:Sl),(∀p∈σ,p∈O x.n)->∃ac aa,cK (gN 3) wG (σ.map aJ) [.im (.lst (Y.map aE)),.im Z,.im ld,s3,J]=some (.nx [.im (.lst (Y.map aE)),.im Z,.im ld,ac,aa])
 |[],s3,J,_=>⟨s3,J,rfl⟩
 |p::σ,s3,J,h=>by
  obtain⟨b,e1⟩:=U4 g hx Z ld (h p (qg ..)) J;obtain⟨c,d,e2⟩:=GL g hx Z ld σ (.im (aJ p)) b λ q a=>h q (qh _ a);refine⟨c,d,?_⟩;rw[qx,gB];show fY _ _ _ (some [.im (.lst (Y.map aE)),.im Z,.im ld,.im (aJ p),J])=_;rw[gC,e1,gE,e2]
theorem VM(g:Og P Z O){i:Nat}(hx:Z[i]?=some x)(J:x.b=.inn lo hi):∃s,O x.n=[(x.n,⟨false,[],0,none,s⟩)]/\fj [dO lo,dO hi,.int 1,.int 0]=some (dS s):=by
 have o:=g.org i x hx;refine gO ((g.gd.wk.ok.ok i x hx).inn lo hi J) λ j l p _=>?_;obtain⟨s,_,d,f,q⟩:=uN J j l p;have w:=o.2.2.2.1 (i+1) (by lia);refine⟨s,?_,f⟩;obtain⟨r,xb,xw⟩:=x;cases J;rcases w with⟨e,_⟩|⟨m,e,h,_⟩
 .exact absurd e (g.ne _ (ze hx))
 .rw[e];have c:=o.2.1 (r,m) (by rw[e];exact List.mem_singleton.mpr rfl);have a:m=⟨false,[],0,none,s⟩:=VT c d λ t k v Y=>?_
  .rw[a]
  rw[h t k v Y,uU Y,Bool.and_true,Fx.hx,kr,q];simp[Y,bX]
theorem Vw(g:Og P rs O){i:Nat}(hx:rs[i]?=some x):qF [.lst (rs.map aE),aE x,.lst ((O x.n).map aJ)]=some (.bl true):=by
 have a:=ze hx;obtain⟨y,A,e⟩:=GL g a (aE x) (.lst ((O x.n).map aJ)) (O x.n) .no .no λ _ z=>z;have t:=zz (O x.n);have Y:cD (.lst ((O x.n).map aJ))<=30:=by lia
 have h:ez ((O x.n).map aJ)+1<=30:=by rw[lY]at Y;exact Y
 have ne:gn ((O x.n).map aJ) []=false:=by
  cases q:O x.n with
  |nil=>exact absurd q (g.ne x a)
  |cons=>rfl
 have tl:lD .list (.lst ((O x.n).map aJ))=true:=rfl;refine aW (Es x (g.gd.wk.c x a)) λ w J _ u=>?_;by_cases c:∃lo hi,x.b=.inn lo hi
 .obtain⟨lo,hi,d⟩:=c;obtain⟨s,k,l⟩:=VM g hx d;obtain⟨Z,xb,xw⟩:=x;subst d;obtain⟨o,p,r3⟩:=@vV Z lo hi xw;have q:(O Z).map aJ=[.tup [.str Z,.tup [.tup [.str "but",.tup []],.int 0,.non,dS s]]]:=by rw[show O Z=_ from k];rfl
  have j:cD (dS s)=1:=by obtain⟨lo,hi,st,v⟩:=s;simp[dS]
  have es:=vE (dS s) (by lia);simp only[q]at e tl⊢;simp[qF,xo,List.replicate,tl,j,e,o,p,r3,dM,dR,l,es]
 .have m:¬w=Str.ofString "in":=λ z=>by
   obtain⟨Z,xb,xw⟩:=x;cases xb with
   |inn lo hi=>exact c ⟨lo,hi,rfl⟩
   |oth=>have:=g.gd.wk.c _ a;cases this
   |one f r=>
    have J:=J;injection J with J;injection J with J
    exact uT r (J.trans z)
   |pour fs=>
    have J:=J;injection J with J;injection J with J
    exact rV (J.trans z)
  simp[qF,xo,List.replicate,tl,ne,h,e,J,m]
theorem U1(hP:P.length<=10)(Z:gz P a)(Y:gz P b):∃c,kT [dB a,dB b]=some (.bl c):=by
 refine aW (A9 a.o b.o hP Z.k Y.k) λ r j _ _=>?_;obtain⟨q,es,_,_⟩:=AS Z.c Y.c (qj _) (Z.bb.bd Z.c jB jB) (Y.bb.bd Y.c jB jB);have e:cD (dK r)<=30:=zc (Ul r) (by decide);have f:cD (KK a.o a.ts)<=30:=zc (vX ..) (by decide);have J:∀s,cD (dS s)<=30:=λ s=>by obtain⟨lo,hi,st,m⟩:=s;simp[dS]
 have g:cD (gH q)<=30:=by cases q with|none=>simp|some s=>exact J s
 have i:=J a.s;have k1:qN [KK a.o a.ts,KK b.o b.ts]=some (.bl (b8 (dK r) (KK a.o a.ts))):=by simp[qN,xH,List.replicate,j,e,f]
 have k2:mF [dS a.s,dS b.s]=some (.bl (b8 (gH q) (dS a.s))):=by simp[mF,xm,List.replicate,es,g,i]
 have e3:=uZ a.en b.en;by_cases l:a.bg<b.bg
 .exact⟨false,by simp[kT,oB,List.replicate,kf,l]⟩
 .cases h:b8 (dO (St.uppB a.en b.en)) (dO a.en)with
  |false=>exact⟨false,by simp[kT,oB,List.replicate,kf,kL,l,e3,h]⟩
  |true=>
   cases d:b8 (dK r) (KK a.o a.ts)with
   |false=>exact⟨false,by rw[d]at k1;simp[kT,oB,List.replicate,mj,kf,kL,l,e3,h,k1]⟩
   |true=>exact⟨b8 (gH q) (dS a.s),by rw[d]at k1;simp[kT,oB,List.replicate,mj,kf,kL,lB,l,e3,h,k1,k2]⟩
theorem eO.tl(h:eO (p::σ) M):eO σ M:=by
 generalize e:p::σ=N at h;induction h with
 |nil=>cases e
 |skip q _ J=>exact .skip q (J e)
 |take _ _ h=>cases e;exact .skip _ h
abbrev oE(a b:D)(q:List (Str×Bx))(J:Sl)(j:Nat)(Y Z:Sl):En:=[.im a,.im b,.im (.lst (q.map aJ)),J,.im (.int (j:Int)),Y,Z]
theorem IT(hP:P.length<=10)(gd:∀y∈J,gz P y.2)(gp:gz P p.2)(a b:D)(Z:Sl):∀(m j Y:Nat)(σ:List (Str×Bx)),J.length-j=m->m<Y->eO (p::σ) (J.drop j)->∃j',j'<J.length/\eO σ (J.drop (j'+1))/\iX nE tL Y (oE a b J Z j (.im (.str p.1)) (.im (dB p.2)))=some (.nx (oE a b J Z j' (.im (.str p.1)) (.im (dB p.2))))
 |m,j,Y,σ,B,A,E=>by
  obtain⟨Y,rfl⟩:∃k,Y=k+1:=⟨Y-1,by lia⟩;by_cases g:j<J.length
  .have hd:=yq g;have n:=Qu g;have i:(j:Int)<(J.length:Int):=by lia
   have h:di (J.map aJ) (j:Int)=some (aJ J[j]):=yV (by rw[zo,zk g];rfl);rw[hd]at E;generalize J[j]=q at*;have l:=pf q;have o:=sf q;obtain⟨c,f⟩:=U1 hP gp (gd q n);have go:∀bb:Bool,nE (oE a b J Z j (.im (.str p.1)) (.im (dB p.2)))=some (bb,oE a b J Z j (.im (.str p.1)) (.im (dB p.2)))->(bb=true->eO (p::σ) (J.drop (j+1)))->(bb=false->eO σ (J.drop (j+1)))->∃j',j'<J.length/\eO σ (J.drop (j'+1))/\iX nE tL (Y+1) (oE a b J Z j (.im (.str p.1)) (.im (dB p.2)))=some (.nx (oE a b J Z j' (.im (.str p.1)) (.im (dB p.2)))):=λ bb v w x=>by
    rw[A4,v];cases bb with
    |false=>exact cN j g (x rfl) rfl
    |true=>
     refine aW (IT hP gd gp a b Z (m-1) (j+1) Y σ (by lia) (by lia) (w rfl)) λ j' r t u=>?_;refine cN j' r t ?_;have st:tL (oE a b J Z j (.im (.str p.1)) (.im (dB p.2)))=some (.nx (oE a b J Z (j+1) (.im (.str p.1)) (.im (dB p.2)))):=by simp[tL]
     rw[Ha,st,G_,u]
   by_cases d:q.1=p.1
   .cases c with
    |true=>
     refine go false (by simp[nE,i,h,l,o,d,f]) (λ z=>by simp at z) λ _=>?_;cases E with
     |skip _ E=>exact E.tl
     |take _ _ E=>exact E
    |false=>
     refine go true (by simp[nE,i,h,l,o,d,f]) (λ _=>?_) λ z=>by simp at z
     cases E with
     |skip _ E=>exact E
     |take e s E=>
      rw[U7 hP gp (gd q n) s]at f;simp at f
   .refine go true (by simp[nE,i,h,l,d]) (λ _=>?_) λ z=>by simp at z
    cases E with
    |skip _ E=>exact E
    |take e s E=>exact absurd e.symm d
  .rw[jj (by lia)]at E;cases E
theorem IJ(hP:P.length<=10)(gd:∀y∈q,gz P y.2)(hl:q.length<=900)(a b:D)(J:Sl):∀(σ:List (Str×Bx))(j:Nat)(s5 Z:Sl),(∀y∈σ,gz P y.2)->eO σ (q.drop j)->∃Y aa ac,cK (gT [5,6]) wo (σ.map aJ) (oE a b q J j s5 Z)=some (.nx (oE a b q J Y aa ac))
 |[],j,s5,Z,_,_=>⟨j,s5,Z,rfl⟩
 |p::σ,j,s5,Z,g,E=>by
  refine aW (IT hP gd (g p (qg ..)) a b J (q.length-j) j 1000 σ rfl (by lia) E) λ Y m c d=>?_;refine ia (IJ hP gd hl a b J σ (Y+1) (.im (.str p.1)) (.im (dB p.2)) (λ y f=>g y (qh _ f)) c) λ h k l e=>?_;refine⟨h,k,l,?_⟩;rw[qx,gB];show fY _ _ _ (some (oE a b q J j (.im (.str p.1)) (.im (dB p.2))))=_;have i:¬(Y:Int)=(q.length:Int):=by lia
  have st:wo (oE a b q J j (.im (.str p.1)) (.im (dB p.2)))=some (.nx (oE a b q J (Y+1) (.im (.str p.1)) (.im (dB p.2)))):=by simp[d,i]
  rw[gC,st,gE,e]
theorem u5:∀aO:List (Str×D),(aO.map (·.1)).zip (aO.map (·.2))=aO
 |[]=>rfl
 |q::r=>by rw[qx,qx,Y2,u5 r]
abbrev wL(σ:List (Str×Bx)):D:=.lst (σ.map aJ)
abbrev dq(O:Str->List (Str×Bx))(q:List bO):List (Str×D):=fD (λ n=>wL (O n)) q bO.n
noncomputable abbrev dct(aO:List (Str×D)):D:=.dct (aO.map (·.1)) (aO.map (·.2))
theorem Bv(a:D)(Y Z J:Sl):∀(fs:List Str)(aY:List (Str×Bx))(s3:Sl),(∀f∈fs,cy f aO=some (wL (O f))/\(O f).length<=v)->aY.length+fs.length*v<=900->∃q,cK (gN 3) qq (fs.map .str) [.im a,.im (dct aO),.im (wL aY),s3,Y,Z,J]=some (.nx [.im a,.im (dct aO),.im (wL (aY++fs.flatMap O)),q,Y,Z,J])
 |[],aY,s3,_,_=>⟨s3,by rw[yg,Ba,Zf,zx]⟩
 |f::fs,aY,s3,h,c=>by
  obtain⟨e1,i⟩:=h f (qg ..);rw[zh,Y5]at c;obtain⟨q,e⟩:=Bv a Y Z J fs (aY++O f) (.im (.str f)) (λ g b=>h g (qh _ b)) (by rw[zi];lia);refine⟨q,?_⟩;have d:=u5 aO;have sz:aY.length+(O f).length<=sizeLine:=dI (by lia);rw[qx,gB];show fY _ _ _ (some [.im a,.im (dct aO),.im (wL aY),.im (.str f),Y,Z,J])=_;have st:qq [.im a,.im (dct aO),.im (wL aY),.im (.str f),Y,Z,J]=some (.nx [.im a,.im (dct aO),.im (wL (aY++O f)),.im (.str f),Y,Z,J]):=by simp[qq,d,e1,sz]
  rw[gC,st,gE,e,Qg,yn]
theorem Og.det(g:Og P q O)(hx:x∈q)(h:fW 24 [.lst (q.map aE),.str x.n,dB kc]=some (wL σ)):σ.map aJ=(O x.n).map aJ:=by
 obtain⟨i,hi⟩:=List.mem_iff_getElem?.mp hx;have J:=(List.getElem?_eq_some_iff.mp hi).1;have:=g.gd.wk.len;have e:=(g.org i x hi).2.2.1 24 (by lia);rw[h]at e;injection e with e
 injection e
theorem Vh{P:List Str}{Z:List bO}{O:Str->List (Str×Bx)}(g:Og P Z O){i:Nat}{x:bO}(hx:Z[i]?=some x):nO [aE x,dct (dq O (Z.take (i+1)))]=some (.bl true):=by
 have ok:=g.gd.wk.ok.ok i x hx;have K:=ze hx;have p:=g.gd.wk.w x K;have il:=(List.getElem?_eq_some_iff.mp hx).1;have rl:=g.gd.wk.len;have o:=g.org i x hx;have d:∀y∈Z.take i,cy y.n (dq O (Z.take (i+1)))=some (wL (O y.n))/\(O y.n).length<=y.w/\y∈Z:=λ y Y=>by
  obtain⟨j,I,a⟩:=ka Y;exact⟨m6 ⟨y,List.mem_iff_getElem?.mpr ⟨j,by rw[y8,if_pos (by omega)];exact a⟩,rfl⟩,(g.org j y a).1,ze a⟩
 have b:cy x.n (dq O (Z.take (i+1)))=some (wL (O x.n)):=m6 ⟨x,List.mem_iff_getElem?.mpr ⟨i,by rw[y8,if_pos (by omega)];exact hx⟩,rfl⟩;have H:=u5 (dq O (Z.take (i+1)));generalize dq O (Z.take (i+1))=aO at d b H⊢;obtain⟨J,xb,xw⟩:=x;cases xb with
 |oth=>have:=g.gd.wk.c _ K;cases this
 |inn lo hi=>
  obtain⟨m,_⟩:=@vV J lo hi xw;simp[nO,uc,List.replicate,m]
 |pour fs=>
  obtain⟨m,B,C⟩:=@IU J fs xw;obtain⟨v,A,M⟩:=ok.pour fs rfl;have p:xw<=125:=p;have M:fs.length*v<=xw:=M;obtain⟨D,e⟩:=Bv (O:=O) (aO:=aO) (v:=v) (aE ⟨J,.pour fs,xw⟩) .no .no .no fs [] .no (λ f s=>by
   obtain⟨y,Y,rfl,l,_⟩:=A f s;exact⟨(d y Y).1,zc (d y Y).2.1 l⟩) (by rw[yx];omega)
  rw[Zl]at e;obtain⟨G,ρ,hG⟩:=o.2.2.2.2 fs rfl;have V:(O J).map aJ=(fs.flatMap O).map aJ:=by
   rw[show O J=_ from ρ];have:∀l:List Str,(∀f∈l,f∈fs)->(l.flatMap G).map aJ=(l.flatMap O).map aJ:=λ l=>by
    induction l with
    |nil=>intro _;rfl
    |cons f l ih=>
     intro u;obtain⟨y,Y,e,_⟩:=A f (u f (qg ..));have h:=hG f (u f (qg ..)) 24 (by omega);rw[<-e]at h;rw[yn,yn,zv,zv,ih λ q hq=>u q (Qn _ hq),<-e,g.det (d y Y).2.2 h]
   exact this fs λ _ z=>z
  have T:ez ((fs.flatMap O).map aJ)+1<=30:=by have:=zz (fs.flatMap O);rw[lY]at this;omega
  have re:=rm ((fs.flatMap O).map aJ) (by omega);have b:cy J aO=some (.lst ((fs.flatMap O).map aJ)):=by rw[<-V];exact b
  have e:cK (gN 3) qq (fs.map .str) [.im (aE ⟨J,.pour fs,xw⟩),.im (dct aO),.im (.lst []),.no,.no,.no,.no]=_:=e;simp only[nO,uc];simp[-List.map_flatMap,List.replicate,m,B,C,rV,e,H,b,T,re]
 |one f r=>
  obtain⟨m,B,C⟩:=@IV J f r xw;obtain⟨A,y,Y,rfl,N,_⟩:=ok.one f r rfl;have p:xw<=125:=p;have N:y.w<=xw:=N;obtain⟨X,ly,σ⟩:=d y Y;obtain⟨D,e⟩:=Bv (O:=O) (aO:=aO) (v:=xw) (aE ⟨J,.one y.n r,xw⟩) .no .no .no [y.n] [] .no (λ f s=>by
   cases List.mem_singleton.mp s;exact⟨X,by omega⟩) (by simp;omega)
  have e:cK (gN 3) qq [.str y.n] [.im (aE ⟨J,.one y.n r,xw⟩),.im (dct aO),.im (.lst []),.no,.no,.no,.no]=_:=e;rw[Zl,yn,Zf,zx]at e;have E:eO (O J) (O y.n):=by
   obtain⟨j,I,a⟩:=ka Y;obtain⟨F,R,W,Q,_,w⟩:=o.2.2.2.1 (i+1) (by omega);obtain rfl:F=y:=g.gd.wk.ok.same R σ W;exact Bo g.gd.wk.ok i F Q _ σ w (j+1) _ _ ((g.org j F a).2.2.2.1 (j+1) (by omega)) λ t k v t0 _=>uU t0
  have S:∀z∈O y.n,gz P z.2:=by obtain⟨j,I,a⟩:=ka Y;exact(g.org j y a).2.1
  obtain⟨j',s5,s6,e2⟩:=IJ g.gd.wk.hP S (by omega) (aE ⟨J,.one y.n r,xw⟩) (dct aO) D (O J) 0 .no .no o.2.1 E;have b:cy J aO=some (.lst ((O J).map aJ)):=b;have e2:cK (gT [5,6]) wo ((O J).map aJ) [.im (aE ⟨J,.one y.n r,xw⟩),.im (dct aO),.im (wL (O y.n)),D,.im (.int 0),.no,.no]=_:=e2;simp only[nO,uc];simp[List.replicate,m,B,C,uT r,uj r,e,H,b,e2]
def pL:FS:=(aM (bC 4 (zI 0))
 (aM (bC 5 (e2 bK (e2 bK (eV 1) (zI 3)) (e2 cu (cv 0 cC aN) (zI 2))))
 (aM (bP (tB (e2 fU (eV 5) (eC .non)))
 (bC 4 (eV 5))
 sN)
 (aM (bC 4 (e2 fR (e2 cw (eV 4) (e2 cu (cv 0 cC aN) (zI 13))) (zI 6)))
 (bD (bZ (aC (eF lC (aC (eV 3) (aC (zI 0) aN))) (aC (e2 bK (e2 cw (eV 2) (eK (aC (zR "q") aN))) (e2 cu (cv 0 cC aN) (zI 10))) (aC (eV 4) aN)))))))))
theorem U6(hn:ns.length<=63)(ho:dg ns o)(b:Bx){q:List Str}(hp:q.length=9)(t:Int):∃t' k v o',0<=t'/\dg ns o'/\Rt (pL [.ow true o,.im (dB b),.im (.lst (q.map .str)),.im (.int t),.no,.no]) (eW t' k v) o':=by
 refine cF (eY hn ho) λ a p e1 _ g=>?_;refine cF (eY hn g) λ l r J _ h=>?_;refine cF (eY hn h) λ r3 j e3 _ i=>?_;have n:=ek a (m:=2) (by decide);have Z:=ek r3 (m:=10) (by decide);have e:=lB b;obtain⟨k,_,Y⟩:=lW D.str (q++[Str.ofString "q"]) Z.1 (by rw[zi,hp];exact Z.2);rw[zv]at Y;have Y:di (q.map .str++[.str "q"]) (r3.fmod 10)=some (.str k):=Y;have f:q.length+1<=sizeLine:=dI (by lia);obtain⟨d,c⟩:∃d:Option Int,di [dO b.s.lo,dO b.s.hi,.int b.s.st,.int b.s.re] (a.fmod 2)=some (dO d):=by
  rcases(show a.fmod 2=0\/a.fmod 2=1 by lia)with z|z<;>rw[z]
  .exact⟨b.s.lo,rfl⟩
  .exact⟨b.s.hi,rfl⟩
 have c:bK (dS b.s) (.int (a.fmod 2))=some (dO d):=by unfold dS;simp[c]
 refine dF (if 0>t then 0 else t) k ?_ j (by split<;>lia) i ?_
 .exact(d.getD 0)+l.fmod 13-6
 cases d with
 |none=>exact⟨_,by simp only[pL];simp[e,e1,J,e3,c,Y,f,eW];rfl⟩
 |some y=>exact⟨_,by simp only[pL];simp[e,e1,J,e3,c,Y,f,eW];rfl⟩
theorem Vv(Z:ns.length<=63)(ho:dg ns o)(b:Bx){J:List Str}(hp:J.length=9):∃t k v o',0<=t/\dg ns o'/\qX o [dB b,.lst (J.map .str)]=some (eW t k v,o'):=by
 refine cF (eY Z ho) λ a i e1 _ s=>?_;refine cF (eY Z s) λ x j Y _ d=>?_;have r:=kf b;have h:=kL b;have go:∀(g:Int)(f:MO),dg ns f->aM (bP (b_ (tB (e2 eQ (e2 cu (cv 0 cC aN) (zI 2)) (zI 1))) (tB (e2 fU (e2 bK (eV 1) (zI 2)) (eC .non))))
   (bC 3 (e2 fR (e2 cw (e2 bK (eV 1) (zI 2)) (e2 cu (cv 0 cC aN) (zI 5))) (zI 3))) sN) pL [.ow true i,.im (dB b),.im (.lst (J.map .str)),.im (.int (b.bg+a.fmod 5-2)),.no,.no]=pL [.ow true f,.im (dB b),.im (.lst (J.map .str)),.im (.int g),.no,.no]->∃t k v o',0<=t/\dg ns o'/\qX o [dB b,.lst (J.map .str)]=some (eW t k v,o'):=λ g f p e=>by
  refine bY (U6 Z p b hp g) λ t k v o' l m n=>?_;refine dF t k v o' l m (Rt.fn rfl (Rt.seq (ρ':=[.ow true i,.im (dB b),.im (.lst (J.map .str)),.im (.int (b.bg+a.fmod 5-2)),.no,.no]) (by simp[List.replicate,r,e1]) ?_));show Rt (aM _ pL _) _ _;rw[e];exact n
 by_cases c:x.fmod 2=1
 .cases q:b.en with
  |none=>exact go (b.bg+a.fmod 5-2) j d (by simp[Y,c,h,q])
  |some y=>
   refine cF (eY Z d) λ r3 w e3 _ u=>?_;exact go (y+r3.fmod 5-3) w u (by simp[Y,c,h,q,e3])
 .exact go (b.bg+a.fmod 5-2) j d (by simp[Y,c])
theorem U3(lo hi:Option Int)(v:Int):lN [.tup [dO lo,dO hi],.int v]=some (.bl (d_ lo v&&ef hi v)):=by
 cases lo with
 |none=>cases hi with
  |none=>simp[lN,oA,dM,dR,d_,ef]
  |some y=>simp[lN,oA,dM,dR,d_,ef]
 |some x=>
  by_cases c:x<=v
  .cases hi with
   |none=>simp[lN,oA,dM,dR,d_,ef,c]
   |some y=>simp[lN,oA,dM,dR,d_,ef,c]
  .cases hi<;>simp[lN,oA,dM,d_,ef,c]
theorem Jz(J:Str)(th:Th):∀σ:List (Str×Bx),(∀p∈σ,gz P p.2)->dw (b_ (tB (e2 eQ (e2 bK (eV 0) (zI 0)) (eV 1))) (tV (eF kA (aC (e2 bK (eV 0) (zI 1)) (aC (bZ (aC (eV 2) (aC (eV 3) (aC (eV 4) aN)))) aN))))) (eV 0) [.im (.str J),.im (.int th.1),.im (.str th.2.1),.im (.int th.2.2)] (σ.map aJ)=some ((σ.filter λ p=>decide (p.1=J)&&ph p.2 th).map aJ)
 |[],_=>rfl
 |p::σ,g=>by
  have Z:=Jz J th σ λ q b=>g q (qh _ b);have Y:=pf p;have d:=sf p;have a:=U0 (g p (qg ..)).c.pos th.1 th.2.1 th.2.2;unfold eW at a;have t:b_ (tB (e2 eQ (e2 bK (eV 0) (zI 0)) (eV 1))) (tV (eF kA (aC (e2 bK (eV 0) (zI 1)) (aC (bZ (aC (eV 2) (aC (eV 3) (aC (eV 4) aN)))) aN)))) [.im (aJ p),.im (.str J),.im (.int th.1),.im (.str th.2.1),.im (.int th.2.2)]=some (decide (p.1=J)&&ph p.2 th,[.im (aJ p),.im (.str J),.im (.int th.1),.im (.str th.2.1),.im (.int th.2.2)]):=by
   by_cases c:p.1=J
   .simp[Y,d,c,a]
   .simp[Y,c]
  have f:eV 0 [.im (aJ p),.im (.str J),.im (.int th.1),.im (.str th.2.1),.im (.int th.2.2)]=some (aJ p,[.im (aJ p),.im (.str J),.im (.int th.1),.im (.str th.2.1),.im (.int th.2.2)]):=rfl;rw[qx,lj,t,List.filter_cons];cases decide (p.1=J)&&ph p.2 th with
  |true=>rw[lq,f,ll,Z,lg];rfl
  |false=>rw[pC,Z];rfl
theorem VJ(G:Str->List Th)(q:List bO):mw ((iC G q).map (·.1)) ((iC G q).map (·.2))=q.map λ x=>.tup [.str x.n,lT (G x.n)]:=by unfold mw;rw[u5,yd];rfl
theorem JC(g:Og P rs O)(F:oC rs q th G)(t0:0<=th.1)(ag:∀x∈rs,x.n=q->∀lo hi,x.b=.inn lo hi->(d_ lo th.2.2&&ef hi th.2.2)=true)(s0 s1 s2 s3 s5 s6 s7 s8 s9 Y Z:Sl):∀(l:List bO)(ac aa J:Sl),(∀x∈l,x∈rs)->∃ae ah af,cK (gT [16,17]) yE (l.map λ x=>.tup [.str x.n,lT (G x.n)]) [s0,s1,s2,s3,.ow false (.dic (dq O rs)),s5,s6,s7,s8,s9,Y,.im (.str q),Z,.im (.int th.1),.im (.str th.2.1),.im (.int th.2.2),ac,aa,J]=
   some (.nx [s0,s1,s2,s3,.ow false (.dic (dq O rs)),s5,s6,s7,s8,s9,Y,.im (.str q),Z,.im (.int th.1),.im (.str th.2.1),.im (.int th.2.2),ae,ah,af])
 |[],ac,aa,J,_=>⟨ac,aa,J,rfl⟩
 |x::l,ac,aa,J,h=>by
  have hx:=h x (qg ..);obtain⟨i,hi⟩:=List.mem_iff_getElem?.mp hx;have o:=g.org i x hi;have c:cy x.n (dq O rs)=some (.lst ((O x.n).map aJ)):=m6 ⟨x,hx,rfl⟩;have d:=Jz q th (O x.n) o.2.1;have sz:(O x.n).length<=sizeLine:=dI (by have:=o.1;have:=g.gd.wk.w x hx;lia);have a:=Bp F t0 ag (i+1) x _ _ hx (o.2.2.2.1 (i+1) (by lia));have m:(G x.n).filter (λ z=>bW kc z.1 z.2.1 z.2.2)=G x.n:=List.filter_eq_self.mpr λ z s=>uU (F.t0 x hx z s);rw[m]at a;generalize t:(O x.n).filter (λ p=>decide (p.1=q)&&ph p.2 th)=W at d a;refine ia (JC g F t0 ag s0 s1 s2 s3 s5 s6 s7 s8 s9 Y Z l (.im (.str x.n)) (.im (lT (G x.n))) (.im (.lst (W.map aJ))) λ y r=>h y (qh _ r)) λ f k j e=>?_;refine⟨f,k,j,?_⟩;generalize dq O rs=aO at c e⊢;rw[qx,gB];show fY _ _ _ (some [s0,s1,s2,s3,.ow false (.dic aO),s5,s6,s7,s8,s9,Y,.im (.str q),Z,.im (.int th.1),.im (.str th.2.1),.im (.int th.2.2),.im (.str x.n),.im (lT (G x.n)),J])=_;have st:yE [s0,s1,s2,s3,.ow false (.dic aO),s5,s6,s7,s8,s9,Y,.im (.str q),Z,.im (.int th.1),.im (.str th.2.1),.im (.int th.2.2),.im (.str x.n),.im (lT (G x.n)),J]=
    some (.nx [s0,s1,s2,s3,.ow false (.dic aO),s5,s6,s7,s8,s9,Y,.im (.str q),Z,.im (.int th.1),.im (.str th.2.1),.im (.int th.2.2),.im (.str x.n),.im (lT (G x.n)),.im (.lst (W.map aJ))]):=by
   simp[c,d,sz,a]
  rw[gC,st,gE,e]
theorem UX(aa:ns.length<=63)(ho:dg ns o){J:List Str}(hp:J.length=9)(g:Og P q O)(s0 s5 s6 s7 s8 s9 af aw a0 as ao am ae Z ac:Sl):∃(o':MO)(t7 t8 an aq ay ar av al ak ax:Sl),dg ns o'/\Aa [s0,.ow false o,.im (.lst (J.map .str)),.im (.lst (q.map aE)),.ow false (.dic (dq O q)),s5,s6,s7,s8,s9,af,aw,a0,as,ao,am,ae,Z,ac]=
   some (.nx [s0,.ow false o',.im (.lst (J.map .str)),.im (.lst (q.map aE)),.ow false (.dic (dq O q)),s5,s6,t7,t8,s9,af,an,aq,ay,ar,av,al,ak,ax]):=by
 refine cF (eY aa ho) λ r1 o1 e1 _ W=>?_;refine cF (eY aa W) λ r2 o2 s _ X=>?_;refine ib g.gd.z λ f0 _ _ Q _=>?_;have rp:=jz (ye _) (List.getElem?_eq_some_iff.mp Q).1;have rz:¬(q.length:Int)=0:=by lia
 have u:¬q.length=0:=by lia
 have E:=ek r1 (m:=(q.length:Int)) (by lia);obtain⟨x,hx,r⟩:=lW aE q E.1 E.2;have M:=mm x;have b:cy x.n (dq O q)=some (.lst ((O x.n).map aJ)):=m6 ⟨x,hx,rfl⟩;have op:=List.length_pos_iff.mpr (g.ne x hx);have oz:¬((O x.n).length:Int)=0:=by lia
 have A:¬(O x.n).length=0:=by lia
 have H:=ek r2 (m:=((O x.n).length:Int)) (by lia);obtain⟨p,R,f⟩:=lW aJ (O x.n) H.1 H.2;obtain⟨i,hi⟩:=List.mem_iff_getElem?.mp hx;have og:=g.org i x hi;obtain⟨z,K,D,lo,Y,B,_⟩:=vA (i+1) x _ _ hx (og.2.2.2.1 (i+1) (by lia)) p R;have l:=Jr g.gd.wk.ok g.gd.wk.len K;rw[D]at l;have r3:bK (aE z) (.int 3)=some (.tup [dO lo,dO Y]):=by obtain⟨zn,zb,zw⟩:=z;subst B;rfl
 refine bY (Vv aa X p.2 hp) λ t k v j N I h=>?_;have d:=U3 lo Y v;have pd:aJ p=.tup [.str p.1,dB p.2]:=rfl;have td:eW t k v=.tup [.int t,.str k,.int v]:=rfl;rw[td]at h;rw[pd]at f;cases c:d_ lo v&&ef Y v with
 |false=>
  rw[c]at d;exact⟨j,.im (.str x.n),.im (.tup [dO lo,dO Y]),.im (.str p.1),.im (dB p.2),.im (.int t),.im (.str k),.im (.int v),ae,Z,ac,I,by
   generalize dq O q=aO at b⊢;simp[e1,u,r,M,b,s,A,f,l,r3,h,d]⟩
 |true=>
  rw[c]at d;obtain⟨G,F⟩:=Jk g.gd.wk.ok p.1 (th:=(t,k,v)) N q.length (qj _);rw[List.take_length]at F;have a:=Vo g.gd.wk.ok g.gd.wk.w g.gd.wk.len g.gd.wk.c F;have a:oG [.lst (q.map aE),.str p.1,.tup [.int t,.str k,.int v]]=_:=a;have σ:=VJ G q;obtain⟨S,ρ,T,e⟩:=JC g F N (λ y hy V a6 a7 C=>by
   cases g.gd.wk.ok.same hy K (V.trans D.symm);rw[B]at C;cases C;exact c) s0 (.ow false j) (.im (.lst (J.map .str))) (.im (.lst (q.map aE))) s5 s6 (.im (.str x.n)) (.im (.tup [dO lo,dO Y])) s9 af (.im (dB p.2)) q ae Z ac λ _ z=>z
  exact⟨j,.im (.str x.n),.im (.tup [dO lo,dO Y]),.im (.str p.1),.im (dB p.2),.im (.int t),.im (.str k),.im (.int v),S,ρ,T,I,by
   generalize dq O q=aO at b e⊢;generalize iC G q=a5 at a σ;simp[e1,u,r,M,b,s,A,f,l,r3,h,d,a,σ,e]⟩
theorem Nw(ns:List Int):∃o,sU [.lst (ns.map .int)]=some o/\dg ns o:=by obtain⟨x,e⟩:=zN ns (k:=0) (by decide);refine⟨.dic (eX ns (x.fmod 2) 0 1 x 0),?_,x.fmod 2,0,1,x,0,rfl,by decide,by decide,by decide⟩;simp[sU,nJ,Di,pI,vI,List.replicate,e,c8,gG,eX];decide+kernel
theorem rW:∀l:List D,(∀d∈l,nd d=true)->iU l=true
 |[],_=>rfl
 |d::r,h=>by
  show(nd d&&iU r)=true;rw[h d (List.mem_cons_self ..),rW r λ x hx=>h x (Qn _ hx)];rfl
theorem rT:∀l:List D,(∀d∈l,nl d=true)->eR l=true
 |[],_=>rfl
 |d::r,h=>by
  show(nl d&&eR r)=true;rw[h d (List.mem_cons_self ..),rT r λ x hx=>h x (Qn _ hx)];rfl
theorem Vq(h:dg ns o):iH (.ow false o)=true:=by
 obtain⟨a,b,c,d,e,rfl,_⟩:=h;have:iU (ns.map D.int)=true:=rW _ λ d hd=>by
  obtain⟨i,_,rfl⟩:=List.mem_map.mp hd;rfl
 show iU ((eX ns a b c d e).map (·.2))=true;unfold eX;simp[iU,nd,this]
theorem Al(l:List Str):eR (l.map .str)=true:=rT _ λ d hd=>by
 obtain⟨s,_,rfl⟩:=List.mem_map.mp hd;rfl
theorem Vj(l:List Str):iU (l.map .str)=true:=rW _ λ d hd=>by
 obtain⟨s,_,rfl⟩:=List.mem_map.mp hd;rfl
theorem BM(o:Option Int):nl (dO o)=true/\nd (dO o)=true:=by cases o<;>exact⟨rfl,rfl⟩
theorem Jw(p:Str×Bx):nl (aJ p)=true/\nd (aJ p)=true:=by obtain⟨n,o,b,q,J,lo,hi,st,a⟩:=p;simp[aJ,dB,KK,dS,nl,eR,nd,iU,BM,Al,Vj]
theorem VG(q:fx x.b=true):nl (aE x)=true:=by
 obtain⟨n,b,w⟩:=x;cases b with
 |oth=>cases q
 |inn lo hi=>simp[aE,nl,eR,BM]
 |pour fs=>simp[aE,nl,eR,Al]
 |one f r=>
  cases r with
  |keys o l=>simp[aE,cU,dZ,nl,eR,Al]
  |put tb=>
   have:eR (tb.map λ p=>D.tup [.str p.1,.str p.2])=true:=rT _ λ d hd=>by
    obtain⟨p,_,rfl⟩:=List.mem_map.mp hd;rfl
   simp[aE,cU,dZ,dT,nl,eR,this]
  |_=>simp[aE,cU,dZ,nl,eR,BM]
theorem V7(O:Str->List (Str×Bx))(q:List bO):iH (.ow false (.dic (dq O q)))=true:=by
 refine rW _ λ d hd=>?_;rw[yd]at hd;obtain⟨x,_,rfl⟩:=List.mem_map.mp hd;refine rW _ λ d hd=>?_;obtain⟨p,_,rfl⟩:=List.mem_map.mp hd;exact(Jw p).2
theorem Og.is(g:Og P q O){i:Nat}(hx:q[i]?=some x):iE [.lst (q.map aE),.str x.n]=some (wL (O x.n)):=Org.is g.gd.wk hx (g.org i x hx)
abbrev nv:En:=[.no,.no,.no,.no,.no,.no,.no,.no,.no,.no,.no,.no,.no]
theorem Vg{ns:List Int}{o:MO}(ho:dg ns o){P:List Str}{q:List bO}{O:Str->List (Str×Bx)}(g:Og P q O){i:Nat}{x:bO}(hx:q[i]?=some x)(sc Z:D):uS (.im sc::.ow false o::.im Z::.im (.lst (q.map aE))::.ow false (.dic (dq O (q.take i)))::.im (aE x)::nv)=some (.nx (.im sc::.ow false o::.im Z::.im (.lst (q.map aE))::.ow false (.dic (dq O (q.take (i+1))))::.im (aE x)::nv)):=by
 have v:=mm x;have t:=g.is hx;have lo:=Vw g hx;have u:=Vh g hx;have w:=(List.getElem?_eq_some_iff.mp hx).1;have z:=g.gd.wk.len;have m:=Vq ho;have p:=V7 O (q.take (i+1));have j:dq O (q.take (i+1))=dq O (q.take i)++[(x.n,wL (O x.n))]:=by show(q.take (i+1)).map _=_;rw[Zy,hx,zv];rfl
 have s:x.n∉(dq O (q.take i)).map (·.1):=λ c=>by
  rw[yd]at c;obtain⟨y,l,e⟩:=List.mem_map.mp c;exact g.gd.wk.ok.new hx y l e
 have b:(dq O (q.take i)).length<100:=by rw[qw,y7];lia
 have f:kN x.n (wL (O x.n)) (dq O (q.take i))=dq O (q.take (i+1)):=by rw[I3 s,j]
 have k:cy x.n (dq O (q.take (i+1)))=some (wL (O x.n)):=m6 ⟨x,List.mem_iff_getElem?.mpr ⟨i,by rw[y8,if_pos (by lia)];exact hx⟩,rfl⟩;generalize dq O (q.take i)=aO at b f⊢;generalize dq O (q.take (i+1))=Y at*;have a:∀d:D,nd d=true->∀U J:En,rR U J (some (d,J))=some (d,U):=λ d h U J=>Vp U J d h;have a:=a (.bl true) rfl;have r:List.all (.im sc::.ow false o::.im Z::.im (.lst (q.map aE))::.ow false (.dic Y)::.im (aE x)::nv) iH=true:=by show(iH (.im sc)&&(iH (.ow false o)&&(iH (.im Z)&&(iH (.im _)&&(iH (.ow false (.dic Y))&&(iH (.im _)&&List.all nv iH))))))=true;rw[m,p];rfl
 simp only[uS];simp[v,t,b,f,k,lo,-List.all_cons,r,gK,u,a]
theorem Jt{ns:List Int}{o:MO}(ho:dg ns o){P:List Str}{q:List bO}{O:Str->List (Str×Bx)}(g:Og P q O)(sc J:D):∀(m i:Nat)(Y:Sl),i+m=q.length->∃Z,cK (gN 5) uS ((q.drop i).map aE) (.im sc::.ow false o::.im J::.im (.lst (q.map aE))::.ow false (.dic (dq O (q.take i)))::Y::nv)=some (.nx (.im sc::.ow false o::.im J::.im (.lst (q.map aE))::.ow false (.dic (dq O q))::Z::nv))
 |0,i,Y,e=>⟨Y,by rw[jj (by lia),j0 (by lia)];rfl⟩
 |m+1,i,Y,e=>by
  have hx:q[i]?=some q[i]:=zk (by lia);have st:=Vg ho g hx sc J;obtain⟨a,go⟩:=Jt ho g sc J m (i+1) (.im (aE q[i])) (by lia);refine⟨a,?_⟩;rw[yq (by lia),qx,gB];show fY _ _ _ (some (.im sc::.ow false o::.im J::.im (.lst (q.map aE))::.ow false (.dic (dq O (q.take i)))::.im (aE q[i])::nv))=_;rw[gC,st,gE,go]
theorem HR{ns:List Int}(ai:ns.length<=63){q:List Str}(hp:q.length=9){P:List Str}{rs:List bO}{O:Str->List (Str×Bx)}(g:Og P rs O)(s0 s5 s9 ah:Sl):∀(m:Nat)(lo:Int)(o:MO)(s6 s7 s8 af ag aa Y J ae Z ac:Sl),dg ns o->∃(o':MO)(t6 t7 t8 ap av a5 aw a0 am aj a2:Sl),cK (gN 6) Aa (eL lo m) [s0,.ow false o,.im (.lst (q.map .str)),.im (.lst (rs.map aE)),.ow false (.dic (dq O rs)),s5,s6,s7,s8,s9,ah,af,ag,aa,Y,J,ae,Z,ac]=
   some (.nx [s0,.ow false o',.im (.lst (q.map .str)),.im (.lst (rs.map aE)),.ow false (.dic (dq O rs)),s5,t6,t7,t8,s9,ah,ap,av,a5,aw,a0,am,aj,a2])
 |0,lo,o,s6,s7,s8,af,ag,aa,Y,J,ae,Z,ac,a=>⟨o,s6,s7,s8,af,ag,aa,Y,J,ae,Z,ac,rfl⟩
 |m+1,lo,o,s6,s7,s8,af,ag,aa,Y,J,ae,Z,ac,a=>by
  obtain⟨B,f,h,r,u,p,e,j,s,l,v,A,st⟩:=UX ai a hp g s0 s5 (.im (.int lo)) s7 s8 s9 ah af ag aa Y J ae Z ac;obtain⟨C,x,y,z,i,w,c,n,k,d,t,b,go⟩:=HR ai hp g s0 s5 s9 ah m (lo+1) B (.im (.int lo)) f h r u p e j s l v A;refine⟨C,x,y,z,i,w,c,n,k,d,t,b,?_⟩;show cK _ _ (D.int lo::eL (lo+1) m) _=_;rw[gB];show fY _ _ _ (some [s0,.ow false o,.im (.lst (q.map .str)),.im (.lst (rs.map aE)),.ow false (.dic (dq O rs)),s5,.im (.int lo),s7,s8,s9,ah,af,ag,aa,Y,J,ae,Z,ac])=_;rw[gC,st,gE,go]
theorem U5{P:List Str}{J:List bO}{O:Str->List (Str×Bx)}(g:Og P J O){i:Nat}{x:bO}(hx:J[i]?=some x)(s0 s1 s2 s6 s7 s8 s9 aj ag ah ac Z Y af aa ae:Sl):∃t9 al,vn [s0,s1,s2,.im (.lst (J.map aE)),.ow false (.dic (dq O J)),.im (aE x),s6,s7,s8,s9,aj,ag,ah,ac,Z,Y,af,aa,ae]=some (.nx [s0,s1,s2,.im (.lst (J.map aE)),.ow false (.dic (dq O J)),.im (aE x),s6,s7,s8,t9,al,ag,ah,ac,Z,Y,af,aa,ae]):=by
 have B:=mm x;have f:=g.is hx;have a:=ze hx;have e:cy x.n (dq O J)=some (wL (O x.n)):=m6 ⟨x,a,rfl⟩;obtain⟨E,_,_,k,_⟩:=g.gd.z;have s:hd4 (J.map aE)=true:=by
  cases J with
  |nil=>cases k
  |cons y l=>
   obtain⟨n,b,w⟩:=y;cases b<;>rfl
 have j:eR (J.map aE)=true:=rT _ λ d hd=>by
  obtain⟨y,t,rfl⟩:=List.mem_map.mp hd;exact VG (g.gd.wk.c y t)
 have r:hd2 ((O x.n).map aJ)=true:=by
  cases q:O x.n with
  |nil=>exact absurd q (g.ne x a)
  |cons p l=>rfl
 have h:eR ((O x.n).map aJ)=true:=rT _ λ d hd=>by
  obtain⟨p,_,rfl⟩:=List.mem_map.mp hd;exact(Jw p).1
 have o:ez ((O x.n).map aJ)+1<=30:=by have:=zz (O x.n);rw[lY]at this;lia
 have C:=rm ((O x.n).map aJ) (by lia);have v:(O x.n).length<1000000:=by have:=(g.org i x hx).1;have:=g.gd.wk.w x a;lia
 have u:eR [.str x.n]=true:=rfl;have D:∀(A:FA)(U:En),Bw 9 iE A U=aF (A U) (vD 9 iE):=λ _ _=>rfl;have m:∀U:En,BL 9 U=aF (iq U[9]?) λ q=>some (.lst q.2,U):=λ _=>rfl;have ow:∀U:En,vD 9 iE ([.lst (J.map aE),.str x.n],U)=some (.nx (U.set 9 (.ow false (.lst ((O x.n).map aJ))))):=λ U=>by
  show(if hd4 (J.map aE)=true/\eR (J.map aE)=true/\eR [.str x.n]=true then aF (iE [.lst (J.map aE),.str x.n]) (Br 9 U)else none)=_;rw[if_pos ⟨s,j,u⟩,f,c8];show(if hd2 ((O x.n).map aJ)=true/\eR ((O x.n).map aJ)=true then _ else none)=_;rw[if_pos ⟨r,h⟩]
 generalize dq O J=aO at e⊢;refine⟨.ow false (.lst ((O x.n).map aJ++[.tup [.str "a",.tup [.tup [.str "but",.tup []],.int 0,.non,.tup [.int 0,.int 0,.int 1,.int 0]]]])),.im (wL (O x.n)),?_⟩;simp only[vn];simp[B,D,m,ow,c8,e,f,o,C,v]
theorem I1{P:List Str}{q:List bO}{O:Str->List (Str×Bx)}(g:Og P q O)(s0 s1 s2 s6 s7 s8 af ag ah Z Y ae aa ac:Sl):∀(m i:Nat)(s5 s9 J:Sl),i+m=q.length->∃t5 t9 aj,cK (gN 5) vn ((q.drop i).map aE) [s0,s1,s2,.im (.lst (q.map aE)),.ow false (.dic (dq O q)),s5,s6,s7,s8,s9,J,af,ag,ah,Z,Y,ae,aa,ac]=some (.nx [s0,s1,s2,.im (.lst (q.map aE)),.ow false (.dic (dq O q)),t5,s6,s7,s8,t9,aj,af,ag,ah,Z,Y,ae,aa,ac])
 |0,i,s5,s9,J,e=>⟨s5,s9,J,by rw[jj (by lia)];rfl⟩
 |m+1,i,s5,s9,J,e=>by
  have hx:q[i]?=some q[i]:=zk (by lia);obtain⟨a,c,st⟩:=U5 g hx s0 s1 s2 s6 s7 s8 s9 J af ag ah Z Y ae aa ac;obtain⟨d,f,b,go⟩:=I1 g s0 s1 s2 s6 s7 s8 af ag ah Z Y ae aa ac m (i+1) (.im (aE q[i])) a c (by lia);refine⟨d,f,b,?_⟩;rw[yq (by lia),qx,gB];show fY _ _ _ (some [s0,s1,s2,.im (.lst (q.map aE)),.ow false (.dic (dq O q)),.im (aE q[i]),s6,s7,s8,s9,J,af,ag,ah,Z,Y,ae,aa,ac])=_;rw[gC,st,gE,go]
theorem kq(ns:List Int)(J:ns.length<=63):o_ [.lst (ns.map .int)]=some (.bl true):=by
 obtain⟨E,e0,u⟩:=Nw ns;obtain⟨q,F,e1,Y,v⟩:=N9 J u;obtain⟨A,x,Z,j,e⟩:=ME J v (P:=q) (by rw[Y.n9];decide) Y.n9 Y.nd λ _ z=>z;obtain⟨c,e3,w,ps⟩:=Tr j;obtain⟨O,g⟩:=V5 w ps;obtain⟨d,a⟩:=Jt e g (.lst (ns.map .int)) (.lst (q.map .str)) c.length 0 .no (by lia);rw[jx,List.take_zero,show dq O []=[]from rfl]at a;obtain⟨y,r,s,t,p,l,m,i,h,o,k,n,f⟩:=HR J Y.n9 g (.im (.lst (ns.map .int))) d .no .no 30 0 x .no .no .no .no .no .no .no .no .no .no .no e;obtain⟨C,D,B,b⟩:=I1 g (.im (.lst (ns.map .int))) (.ow false y) (.im (.lst (q.map .str))) r s t p l m i h o k n c.length 0 d .no .no (by lia);rw[jx]at b;generalize dq O c=aO at a f b;simp only[o_,IL];simp[List.replicate,e0,e1,Z,e3,a,f,b]
open PySem.Spec PyProof.Rows L2
theorem DR{K:Frag}{H:Hp}:∀ns:List Int,aB K H (ns.map D.int) (ns.map V.int)
 |[]=>aB.nil_
 |n::r=>aB.cons (fw H n) (DR r)
inductive bH(K:Frag)(x:Str)(st:Stmt)(f:Addr):Prop
 |mk {od an:Option Addr}{sl:Array (Option Value)}{oc kV dc pm cd ct:Value} (a:nsIn K mainGlobals x=some (some (.ref f))) (l:K.lookup f=some ⟨oc,od,.func (fnOf x x (mO st) (fZ st) (aX st) .none kV dc pm an cd ct),sl⟩) (c:codeIn K cd x=true) (k:keepIn K (.ref f)=true):bH K x st f
inductive mS(K:Frag)(st:Stmt)(f:Addr):Prop
 |mk {od an:Option Addr}{sl:Array (Option Value)}{oc kV dc pm cd ct:Value} (l:K.lookup f=some ⟨oc,od,.func (fnOf "__init__" "NoWorks.__init__" (mO st) (fZ st) (aX st) .none kV dc pm an cd ct),sl⟩) (c:codeIn K cd "NoWorks.__init__"=true) (k:keepIn K (.ref f)=true):mS K st f
theorem KN{P:List Value->Prop}(h:P [])(us:List Value)(l:us.length=0):P us:=by
 cases us with
 |nil=>exact h
 |cons=>cases l
theorem CG{n:Nat}{P:List Value->Prop}(h:∀a us,us.length=n->P (a::us))(us:List Value)(l:us.length=n+1):P us:=by
 cases us with
 |nil=>cases l
 |cons a r=>exact h a r (Nat.succ.inj l)
theorem dn{K:Frag}{mg:Str->Option Value}{x:Str}{st:Stmt}{f:Addr}{ps:List Str}(N:∀{x v},nsIn K mainGlobals x=some (some v)->mg x=some v)(e:bH K x st f)(h:∀(kV J Z:Value)(Y:Option Addr)(q ct:Value)(us:List Value),us.length=ps.length->bindArgs (fnOf x x (mO st) (fZ st) (aX st) .none kV J Z Y q ct) ⟨us,[]⟩=pure (ps.zip us):=by intro _ _ _ _ _ _;(repeat' refine CG λ _=>?_);exact KN rfl):Dn K mg x st ps:=by obtain⟨a,l,c,k⟩:=e;have F:=BN (st:=st) l c k;exact⟨_,_,F,F.binds h,N a⟩
theorem m7{l:OpenLaw}{w:World}{K:Frag}{h:Heap}{mg:Str→Option Value}(X:K.In h)(G:h.Ns mainGlobals mg)(cn:mg "law"=some (.ref fa))(e1:bH K "keys_hold" Ks f1)(e2:bH K "keys_meet" mE f2)(e3:bH K "keys_inside" DV f3)(e4:bH K "keys_put_back" nF f4)(e5:bH K "stretch_made" J8 f5)(e6:bH K "is_between" Kk f6)(e7:bH K "stretch_has" Kc f7)(e8:bH K "lower_bound" Kd f8)(e9:bH K "upper_bound" Kb f9)(bh:bH K "stretch_between" J2 f10)(bf:bH K "stretch_moved" sQ f11)(ce:bH K "divisor_and_factor" BW f12)(bg:bH K "stretch_back" B6 f13)(b2:bH K "stretch_meet" J7 f14)(b4:bH K "stretch_inside" DD f15)(bw:bH K "box_made" KL f16)(cb:bH K "box_meet" KJ f17)(a2:bH K "box_inside" Fn f18)(bu:bH K "box_sieved" Kl f19)(bj:bH K "box_later" Kt f20)(b9:bH K "row_back" KI f21)(av:bH K "row_named" Cm f22)(ca:bH K "in_box" C8 f23)(bc:bH K "ways_back" qa f24)(an:bH K "origins_of" Ki f25)(a5:bH K "one_comes_twice" BZ f26)(a7:bH K "check_works" B9 f27)(ao:bH K "_law_cell_at" Ke f28)(b6:bH K "_law_mixed" Kr f29)(am:bH K "_law_draws" Cn f30)(bz:bH K "_law_next" CF f31)(bi:bH K "_law_pool" tF f32)(ax:bH K "_law_through" xE f33)(ar:bH K "_law_unlike" sW f34)(a8:bH K "_law_bounds" Kj f35)(a4:bH K "_law_sieve" ti f36)(az:bH K "_law_parted" Cf f37)(cr:bH K "_law_poured" sX f38)(cl:bH K "_law_chains" nL f39)(a9:bH K "_law_let_by" Cg f40)(co:bH K "_law_flows" mT f41)(ay:bH K "_law_row" rh f42)(aq:bH K "_law_within" Fm f43)(cc:bH K "_law_in" HS f44)(ap:bH K "_law_value_in" DL f45)(cp:bH K "_law_has" Ex f46)(bp:bH K "_law_near" GN f47)(be:bH K "_law_list_right" xf f48)(aw:bH K "_law_order_right" w6 f49)(au:bH K "law" lu f50)(q:K.lookup ec11=some ⟨.type "tuple",none,.seq #[] nec11,slec11⟩)(ai:K.lookup ec1=some ⟨.type "tuple",none,.seq #[.str "but" tec10,.ref ec11] nec1,slec1⟩)(y1:nsIn K mainGlobals "EVERY_KEY"=some (some (.ref ec1)))(aj:K.lookup ec2=some ⟨.type "tuple",none,.seq #[.none,.none,.int 1 tec22,.int 0 tec23] nec2,slec2⟩)(y2:nsIn K mainGlobals "EVERY_VALUE"=some (some (.ref ec2)))(aa:K.lookup ec3=some ⟨.type "tuple",none,.seq #[.str "in" tec30,.str "time" tec31,.str "only" tec32,.str "but" tec33,.str "span" tec34,.str "rest" tec35,.str "turn" tec36,.str "later" tec37,.str "put" tec38,.str "pour" tec39] nec3,slec3⟩)(y3:nsIn K mainGlobals "CHAINS"=some (some (.ref ec3)))(q0:nsIn K mainGlobals "NoWorks"=some (some (.ref u0)))(q2:nsIn K mainGlobals "WellError"=some (some (.ref u2)))(q3:PySem.W.findIn K (.ref u0) "__init__"=some (some (.ref u3)))(q4:mS K va u3)(q5:pe K u0 u3=true)(q6:Jl K u0=true)(q7:PySem.W.findIn K (.ref u0) "__setattr__"=some (some (.builtin "object.__setattr__")))(q8:PySem.W.findIn K (.ref u0) "at"=some none)(q9:PySem.W.findIn K (.ref u0) "__getattribute__"=some (some (.builtin "BaseException.__getattribute__")))(b7:PySem.W.findIn K (.ref u0) "__getattr__"=some none)(b5:PySem.W.findIn K (.ref u0) "__class__"=some (some (.builtin "object.__class__")))(cm:PySem.W.specialIn K (.builtin "object.__class__") "__get__"=some (some (.builtin "getset_descriptor.__get__")))(ak:PySem.W.takesIn K (.builtin "object.__class__")=some true)(Y:PySem.W.mroIn K u0 (.type "object")=some true)(b3:PySem.W.mroIn K u0 (.type "BaseException")=some true)(bv:PySem.W.exmOne K (.ref u0) (.ref u2)=some true)(bo:PySem.W.kitOne K (.ref u0) (.ref u0)=some true)(a3:PySem.W.kitOne K (.type "NoneType") (.ref u0)=some false)(bx:PySem.W.exmOne K (.ref u0) (.ref u0)=some true)(al:(K.all λ e=>!(e.2.cls==.type "list"))=true)(z1:nsIn K mainGlobals "abs"=some none)(z2:nsIn K mainGlobals "len"=some none)(z3:nsIn K mainGlobals "max"=some none)(z4:nsIn K mainGlobals "min"=some none)(z5:nsIn K mainGlobals "any"=some none)(z6:nsIn K mainGlobals "all"=some none)(z7:nsIn K mainGlobals "range"=some none)(z8:nsIn K mainGlobals "isinstance"=some none)(z9:nsIn K mainGlobals "int"=some none)(bq:nsIn K mainGlobals "bool"=some none)(a0:nsIn K mainGlobals "str"=some none)(bn:nsIn K mainGlobals "tuple"=some none)(cg:nsIn K mainGlobals "list"=some none)(as:nsIn K mainGlobals "sorted"=some none)(b0:nsIn K mainGlobals "dict"=some none)(cf:nsIn K mainGlobals "set"=some none)(ba:nsIn K mainGlobals "sum"=some none)(cj:nsIn K mainGlobals "zip"=some none)(cq:nsIn K mainGlobals "enumerate"=some none)(a1:nsIn K mainGlobals "reversed"=some none):∃fd:FuncData,(∀(s:Shared)(v:Value),BindsTo s fd ⟨[v],[]⟩ [("_law_script",v)])∧∀base:Heap,K.In base→base.Ns mainGlobals mg→cB l.prog w K mg base ft 35 fa fd ["_law_script"] (qE K o_):=by
 obtain @⟨E,Z,H,F,p,o,r,n,m,t,k,z,u⟩:=au;have e:=cn.symm.trans (mg_of X G t);cases e;obtain⟨C,A,B⟩:=q4;have b:=BN (st:=va) C A B;have y:=b.binds (ps:=["self","at"]) λ _ _ _ _ _ _=>CG λ _=>CG λ _=>KN rfl;have M:∀{x},nsIn K mainGlobals x=some none->mg x=none:=mg_none_of X G;have N:∀{x v},nsIn K mainGlobals x=some (some v)->mg x=some v:=mg_of X G;have T:jG w K mg:=⟨M z1,M z2,M z3,M z4,M z5,M z6,M z7,M z8,M z9,M bq,M a0,M bn,M cg,M as,M b0,M cf,M ba,M cj,M cq,M a1,⟨_,N y1,(vd ai (by simp) (h6 ky (h6 (vd q (by simp) uA) uA)))⟩,⟨_,N y2,(vd aj (by simp) (h6 E2 (h6 E2 (h6 E3 (h6 E3 uA)))))⟩,⟨_,N y3,(vd aa (by simp) (h6 ky (h6 ky (h6 ky (h6 ky (h6 ky (h6 ky (h6 ky (h6 ky (h6 ky (h6 ky uA)))))))))))⟩,⟨u0,u2,u3,_,⟨N q0,N q2,q5,⟨q7,q8,T9 q6⟩,⟨T8 Y,q9,b7,b5,cm,ak,Y,b3⟩,bv,bo,a3,b,y⟩,bx⟩,V6 al⟩;have F50:=BN (st:=lu) k z u;refine⟨fnOf "law" "law" (mO lu) (fZ lu) (aX lu) .none p o r Z n m,λ s v=>.of_eq rfl,λ base _ _=>?_⟩;have c:aK l.prog w K mg base 1 _ lG:=fg (dn N e1) LC T c_;have g:=K7 l.prog base T (dn N e4);have J:aK l.prog w K mg base 1 _ fj:=fg (dn N e5) LF T c_;have i:aK l.prog w K mg base 1 _ Km:=fg (dn N e6) LG T c_;have j:aK l.prog w K mg base 1 _ sR:=fg (dn N e8) LI T c_;have a:aK l.prog w K mg base 1 _ nH:=fg (dn N e9) LJ T c_;have G12:=Wi l.prog base T (dn N ce);have G16:aK l.prog w K mg base 1 _ fu:=fg (dn N bw) LN T c_;have G22:=Mg l.prog base T (dn N av);have G28:aK l.prog w K mg base 1 _ nI:=fg (dn N ao) LX T c_;have G29:aK l.prog w K mg base 1 _ mJ:=fg (dn N b6) LY T c_;have G33:=Py l.prog base T (dn N ax);have G42:=UZ l.prog base (w:=w) (dn N ay);have G43:aK l.prog w K mg base 1 _ lN:=fg (dn N aq) L1 T c_;have G44:aK l.prog w K mg base 1 _ u6:=fg (dn N cc) L3 T c_;have G45:aK l.prog w K mg base 1 _ kP:=fg (dn N ap) L4 T c_;have D:aK l.prog w K mg base 2 _ WR:=fg (dn N e7) LH T (cL i c_);have G10:aK l.prog w K mg base 2 _ vZ:=fg (dn N bh) LK T (cL j (cL J (cL a c_)));have G11:=K6 l.prog base T J (dn N bf);have G13:=La l.prog base T J G12 (dn N bg);have G19:aK l.prog w K mg base 2 _ jL:=fg (dn N bu) LQ T (cL G16 (cL J c_));have G20:aK l.prog w K mg base 2 _ sV:=fg (dn N bj) LR T (cL G16 c_);have G23:aK l.prog w K mg base 2 _ nW:=fg (dn N ca) LU T (cL G16 (cL J c_));have G30:=Mi l.prog base (w:=w) G28 (dn N am);have G31:=OD l.prog base T G28 G29 (dn N bz);have G41:=NJ l.prog base (w:=w) G33 (dn N co);have G46:aK l.prog w K mg base 2 _ kA:=fg (dn N cp) L5 T (cL G44 (cL G45 c_));have G14:aK l.prog w K mg base 3 _ pS:=fg (dn N b2) LL T (cL G13 (cL G10 (cL G11 c_)));have G32:=OC l.prog base T G31 (dn N bi);have G34:=Lu l.prog base T G31 (dn N ar);have G35:dh l.prog w K mg base 3 _ nt:=Kv (dn N a8) LZ T (gy G31 c_);have G37:=Lw l.prog base T G31 (dn N az);have G47:dh l.prog w K mg base 3 _ qX:=Kv (dn N bp) L6 T (gy G31 c_);have G2b:=Lg l.prog base T c (dn N e2);have d:=Mj l.prog base T c G2b (dn N e2);have G15:aK l.prog w K mg base 4 _ mF:=fg (dn N b4) LM T (cL G14 c_);have G36:=Mh l.prog base T G31 G35 G34 (dn N a4);have f:aK l.prog w K mg base 5 _ qN:=fg (dn N e3) LD T (cL d c_);have G17:aK l.prog w K mg base 5 _ lH:=fg (dn N cb) LO T (cL G16 (cL d (cL G14 (cL a c_))));have G38:=Lv l.prog base T G31 G37 G36 (dn N cr);have G48:=Ot l.prog base T J G42 G15 (dn N be);have G18:aK l.prog w K mg base 6 _ kT:=fg (dn N a2) LP T (cL f (cL G15 (cL a c_)));have G21:aK l.prog w K mg base 6 _ iS:=fg (dn N b9) LS T (cL G20 (cL G16 (cL G17 (cL G19 (cL g (cL G13 c_))))));have G26:=WQ l.prog base T G17 (dn N a5);have G39:=Ly l.prog base T G31 G35 G34 G36 G38 (dn N cl);have G49:=Mk l.prog base T G18 (dn N aw);have G24:=Mf l.prog base T G17 G23 G21 G22 (dn N bc);have G25:aK l.prog w K mg base 32 _ iE:=fg (dn N an) LV T (cL G16 (cL G24 c_))
 have G27:=Pz l.prog base T G26 G25 (dn N a7);have G40:=Lx l.prog base T G27 (dn N a9);exact TQ l.prog base T G25 G31 G42 G39 G30 G41 G46 G40 G48 G47 G49 G32 G43 F50
theorem walk{l:OpenLaw}{q:Program}{J:List Str}{XP:(Str->Option Value)->Heap->Prop}{YP:World->Heap->Prop}{d:DefRec}{K:Params->Frag}(hn:l.most=some 63)(Y:d.params.defaults=[])(hY:∀(w:World)(h:Heap),YP w h->(K w.params).In h)(F:∀(w:World)(mg:Str->Option Value)(Z:Addr)(h:Heap),(K w.params).In h->h.Ns mainGlobals mg->mg d.name=some (.ref Z)->∃fd:FuncData,(∀(s:Shared)(u:Value),BindsTo s fd ⟨[u],[]⟩ [("_law_script",u)])∧∀base:Heap,(K w.params).In base→base.Ns mainGlobals mg→cB l.prog w (K w.params) mg base ft 35 Z fd ["_law_script"] (qE (K w.params) o_)):PySem.W.WalkO q J XP YP l.row.toRowW d [] (λ f vs=>PySem.call f vs):=
 L2.walk_of (n:=63) (k:=35) (x:="_law_script") (CX:=λ _=>ft) (sp:=λ w=>qE (K w.params) o_) hn (by decide) Y ⟨rfl,by decide,by decide⟩ hY F
  (λ w H a ns c _ b=>⟨H,[.lst (ns.map .int)],.bl true,aD.refl _,aB.one (by unfold aS;exact⟨a,_,rfl,b,DR ns⟩),kq ns c,λ v cG H' S r=>by unfold aS at r;exact r⟩) λ _ _ _ _ _ z=>z
end Fx
open PySem PySem.W PyProof.Rows
structure PySem.W.Fast:Prop where
 (tw12807024702969410069 tw5894885356194686013 tw5331309325877843018 tw5581994126289850046 tw4433062675750501784 tw11455363139246153050 tw14504553790350184643 tw15928500632113844017 tw10965347389322385274 tw8059578208566688582 tw7571888128241656845 tw10800772059268090444 tw10299697150464604669 tw11108581887483245352 tw187765555415668556 tw4855263546514600330 tw1055820583591823868 tw17212849802565092378 tw4218660319904906536 tw15476228730395099730 tw7234069837098555862 tw10602370343215958570 tw7260001128511618611 tw668190045889268342 tw698269662734445372 tw1298961940098973146 tw4863691650512454641 tw10795826728987560996 tw1130359527244989075 tw11461662589270794341 tw17130961108857523105 tw215369153512948485 tw13044464496968403900 tw12002170858209381211 tw16990820594726930526 tw13414957245630549600 tw2161774694699328328 tw14350979769733063727 tw16757343342166099050 tw7916584162414374624 tw2506855447510064993 tw2540616861662498664 tw16086894489744911183 tw17325510177955400549 tw956394060178398361 tw14060515386498015564 tw17548178178384461935 tw11560507094148678195 tw6727189547225463650 tw16005548383255915062 tw10939856863935192955 tw479683862250388528 tw779911260384443560 tw794296689275478214 tw638102044941414657 tw5012871061354860968 tw2050450746250904223 tw5565227032628299263 tw1845576689348111633 tw7504322383246769493 tw9984922135446071773 tw5692736973887284253 tw8120587096088455372 tw4799854149793068624 tw16660276726617430706 tw1898174238734623408 tw14050973726411221667 tw622166967966308874 tw4380805879183085988 tw16890048030304387091 tw14704271344259540053 tw7364397475277462388 tw13737813657964031576 tw12056879405325696010 tw9802868293061773766 tw7517922780340848950 tw17133329904690894593 tw3357068848108690715 tw15334161709971932271 tw1442797310571506013 tw14592752407475769382 tw3065039831804352461 tw13163896534974372600 tw9621597661048740857 tw13747018848423061920 tw16372608114240574469 tw10763789237281137366 tw4697722996635072169 tw13093797955909839856 tw4907308159135258615 tw14022545091094540403 tw16993419796455691470 tw3822697995598722733 tw9173755214509236912 tw10612440218845271199 tw368836158253592899 tw14937260412091741399 tw5080876713567122344 tw1931754765534977083 tw1639832909827020102 tw4045405372191036808 tw11676367813021016051 tw3201898319563670172 tw674361314612132169 tw12992939372876552508 tw18078300454377319337 tw11178953642057345393 tw6876056318236985078 tw3062136949738195518 tw4284584044591356750 tw1507250054882030812 tw2686897196490009430 tw12630603191321058393 tw9862751434909918587 tw4586582137683990617 tw6475778270134121462 tw7479855653267832000 tw14454310896879699009 tw17572484264837249960 tw11701557907848378111 tw2108171776117932184 tw18333208034899170004 tw3858876095312758478 tw15593692942431232889 tw11845155836984828368 tw17319691368766427947 tw5081186461815328954 tw4262915929780701302 tw18103439769330454664 tw1174712775151203710 tw11182127954302587423 tw9173727110559894152 tw193553246149006966 tw13846175207957204752 tw16462962499334761115 tw5118112751661703331 tw10765420713116055461 tw16888250064338036821 tw7406185123308040877 tw14977333404657395004 tw7632069439600924841 tw5583528425999232872 tw14298654656042905563 tw12630589931805854544 tw18214307182823650526 tw11240547502814117382 tw3951588095456619055 tw17727922402062310441 tw9902385483399420218 tw6760840688449883668 tw6741442738605172603 tw4355612430956876378 tw4024953115687772454 tw2079085961632249589 tw12448057977554633044 tw9963523811223240741 tw13899686008285624802 tw14803315441170819994 tw9938972282537977817 tw8245784779061422785 tw5841622061717213570 tw4559819141950375918 tw3437599316693127405 tw2660327765070620305 tw14534732565980300973 tw12686741806927640432 tw11558134819615296588 tw9587161420653936826 tw9289809907178993962 tw9097693937554928747 tw8993857834813226978 tw8962653020151970566 tw889951473682473811 tw8859708966391561839 tw8763977032260424701 tw8531011320269003074 tw8414136986314242005 tw8249525455894046129 tw8118878622795491945 tw7598916818093281763 tw7303249329295360182 tw7068381365281724790 tw5705201999035702714 tw5395974713478959760 tw5371856935005804217 tw5002632153316359689 tw464040842800461652 tw4298954508304511607 tw3991491530774457057 tw3828248695055101125 tw3315538904367148098 tw3255342007597559861 tw246920625675633311 tw2285061503476204712 tw2170201399667804600 tw2062856369249728446 tw2030977275530963163 tw18321960300154120666 tw18106617564026880072 tw17691655554325686210:True)
set_option maxRecDepth 100000 in
set_option maxHeartbeats 0 in
theorem PySem.Challenge.cw_latewell_k44_origins_by_ways_holds : PySem.Challenge.rw_latewell_k44_origins_by_ways.Holds := by
 w_on;o_law;k_head;(case hw=>w_witness2)
 k_fill
 refine Fx.walk (l:=PySem.Challenge.rw_latewell_k44_origins_by_ways) rfl rfl (λ w h Y=>PySem.W.kIn_of Y) ?F
 case F=>
  intro w mg fa h KX G hmg;refine' Fx.m7 KX G hmg ?e1 ?e2 ?e3 ?e4 ?e5 ?e6 ?e7 ?e8 ?e9 ?e10 ?e11 ?e12 ?e13 ?e14 ?e15 ?e16 ?e17 ?e18 ?e19 ?e20 ?e21 ?e22 ?e23 ?e24 ?e25 ?e26 ?e27 ?e28 ?e29 ?e30 ?e31 ?e32 ?e33 ?e34 ?e35 ?e36 ?e37 ?e38 ?e39 ?e40 ?e41 ?e42 ?e43 ?e44 ?e45 ?e46 ?e47 ?e48 ?e49 ?e50 ?lec11 ?lec1 ?y1 ?lec2 ?y2 ?lec3 ?y3 ?q0 ?q2 ?q3 ?q4 ?q5 ?q6 ?q7 ?q8 ?q9 ?q10 ?q11 ?q12 ?q13 ?q14 ?q15 ?q16 ?q17 ?q18 ?q19 ?kl0 ?z1 ?z2 ?z3 ?z4 ?z5 ?z6 ?z7 ?z8 ?z9 ?z10 ?z11 ?z12 ?z13 ?z14 ?z15 ?z16 ?z17 ?z18 ?z19 ?z20
  all_goals try (refine' Fx.bH.mk ?a ?l ?c ?k;(case a=>k_is);(case l=>k_is);(case c=>k_is);(case k=>k_is))
  (case y1|y2|y3|lec1|lec2|lec3|lec11|q0|q2|q3=>k_is)
  (case q4=>refine' Fx.mS.mk ?l ?c ?k;(case l=>k_is);(case c=>k_is);(case k=>k_is))
  (case q5=>kernel_rfl)
  (case q6=>kernel_rfl)
  (case q7|q8|q9|q10|q11|q12|q13|q14|q15=>k_is)
  (case q16=>kts_exm)
  (case q17=>kit_is)
  (case q18=>kit_is)
  (case q19=>kts_exm)
  (case kl0=>kernel_rfl)
  (case z1|z2|z3|z4|z5|z6|z7|z8|z9|z10|z11|z12|z13|z14|z15|z16|z17|z18|z19|z20=>k_is)







