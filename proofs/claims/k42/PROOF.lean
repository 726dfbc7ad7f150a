import PyProof.Rows.All
import Wide.All
import OpenK.AllK
import Wide.FinOn
import PySem.Challenge.RW_latewell_k42_back_to_a_coming
set_option compiler.extract_closed false
set_option genSizeOfSpec false
set_option genSizeOf false
set_option bootstrap.genMatcherCode false
set_option backward.match.sparseCases false
set_option Elab.async false
set_option linter.all false
set_option maxRecDepth 100000
set_option maxHeartbeats 4000000
noncomputable section
open PySem.W (Frag nsIn mg_of mg_none_of fnOf codeIn keepIn OpenLaw)
open PySem
abbrev _root_.fA(x:PySem.Str):Prop:=(x==("__classdict__":PySem.Str))=false
abbrev _root_.df(x:PySem.Str):Prop:=(x==("__debug__":PySem.Str))=false
section
open PyProof.Rows
abbrev qb:=@wpAny_bind
abbrev qc:=@wpAny_pure
abbrev qd:=@Heap.get?_push_of_some
abbrev qg:=@List.mem_cons_self
abbrev qh:=@List.mem_cons_of_mem
abbrev qi:=@Option.some.inj
abbrev qj:=@Nat.le_refl
abbrev qk:=@Heap.get?_push_size
abbrev qm:=@Heap.lt_size
abbrev qo:=@List.mem_append_right
abbrev qp:=@Nat.lt_of_lt_of_le
abbrev qr:=@Nat.ne_of_lt
theorem fY{A B C D E F:Prop}{G:Prop}(h:A/\B/\C/\D/\E/\F)(k:A->B->C->D->E->F->G):G:=let⟨p,q,r,s,t,u⟩:=h;k p q r s t u
theorem a_{A B C:α→Prop}{G:Prop}(h:∃a,A a/\B a/\C a)(k:∀a,A a->B a->C a->G):G:=let⟨a,p,q,r⟩:=h;k a p q r
theorem cZ{A B C D:α→Prop}{G:Prop}(h:∃a,A a/\B a/\C a/\D a)(k:∀a,A a->B a->C a->D a->G):G:=let⟨a,p,q,r,s⟩:=h;k a p q r s
theorem dt{A B:α→β→Prop}{G:Prop}(h:∃a b,A a b/\B a b)(k:∀a b,A a b->B a b->G):G:=let⟨a,b,p,q⟩:=h;k a b p q
theorem cM{A B C:α→β→Prop}{G:Prop}(h:∃a b,A a b/\B a b/\C a b)(k:∀a b,A a b->B a b->C a b->G):G:=let⟨a,b,p,q,r⟩:=h;k a b p q r
theorem eU{A B C:α→β→γ→Prop}{G:Prop}(h:∃a b c,A a b c/\B a b c/\C a b c)(k:∀a b c,A a b c->B a b c->C a b c->G):G:=let⟨a,b,c,p,q,r⟩:=h;k a b c p q r
theorem dN{A B C D:α→β→γ→Prop}{G:Prop}(h:∃a b c,A a b c/\B a b c/\C a b c/\D a b c)(k:∀a b c,A a b c->B a b c->C a b c->D a b c->G):G:=let⟨a,b,c,p,q,r,s⟩:=h;k a b c p q r s
theorem cB{A B C:α→β→γ→δ→Prop}{G:Prop}(h:∃a b c d,A a b c d/\B a b c d/\C a b c d)(k:∀a b c d,A a b c d->B a b c d->C a b c d->G):G:=let⟨a,b,c,d,p,q,r⟩:=h;k a b c d p q r
theorem bN{A B C:α→β→γ→δ→ε→Prop}{G:Prop}(h:∃a b c d e,A a b c d e/\B a b c d e/\C a b c d e)(k:∀a b c d e,A a b c d e->B a b c d e->C a b c d e->G):G:=let⟨a,b,c,d,e,p,q,r⟩:=h;k a b c d e p q r
theorem aW{a b:α}(h:some a=some b):a=b:=Option.some.inj h
theorem fj{A B C:α→Prop}(a:α)(p:A a)(q:B a)(r:C a):∃a,A a/\B a/\C a:=⟨a,p,q,r⟩
theorem kJ{A B C D:α→Prop}(a:α)(p:A a)(q:B a)(r:C a)(s:D a):∃a,A a/\B a/\C a/\D a:=⟨a,p,q,r,s⟩
theorem pG{A B:α→β→Prop}(a:α)(b:β)(p:A a b)(q:B a b):∃a b,A a b/\B a b:=⟨a,b,p,q⟩
theorem cD{A B C:α→β→Prop}(a:α)(b:β)(p:A a b)(q:B a b)(r:C a b):∃a b,A a b/\B a b/\C a b:=⟨a,b,p,q,r⟩
theorem iM{A B C D:α→β→Prop}(a:α)(b:β)(p:A a b)(q:B a b)(r:C a b)(s:D a b):∃a b,A a b/\B a b/\C a b/\D a b:=⟨a,b,p,q,r,s⟩
theorem eW{A B C:α→β→γ→δ→Prop}(a:α)(b:β)(c:γ)(d:δ)(p:A a b c d)(q:B a b c d)(r:C a b c d):∃a b c d,A a b c d/\B a b c d/\C a b c d:=⟨a,b,c,d,p,q,r⟩
theorem bG{A B C:α→β→γ→δ→ε→Prop}(a:α)(b:β)(c:γ)(d:δ)(e:ε)(p:A a b c d e)(q:B a b c d e)(r:C a b c d e):∃a b c d e,A a b c d e/\B a b c d e/\C a b c d e:=⟨a,b,c,d,e,p,q,r⟩
theorem gU{A B C:Prop}{G:Prop}(h:A/\B/\C)(k:A->B->C->G):G:=let⟨p,q,r⟩:=h;k p q r
theorem bE{A B:α→Prop}{G:Prop}(h:∃a,A a/\B a)(k:∀a,A a->B a->G):G:=let⟨a,p,q⟩:=h;k a p q
theorem ug{A:α→β→Prop}{G:Prop}(h:∃a b,A a b)(k:∀a b,A a b->G):G:=let⟨a,b,p⟩:=h;k a b p
theorem lM{A B C D:Prop}{G:Prop}(h:A/\B/\C/\D)(k:A->B->C->D->G):G:=let⟨p,q,r,s⟩:=h;k p q r s
theorem pq{A:α→β→γ→Prop}{G:Prop}(h:∃a b c,A a b c)(k:∀a b c,A a b c->G):G:=let⟨a,b,c,p⟩:=h;k a b c p
theorem jK{A B:α→β→γ→Prop}{G:Prop}(h:∃a b c,A a b c/\B a b c)(k:∀a b c,A a b c->B a b c->G):G:=let⟨a,b,c,p,q⟩:=h;k a b c p q
theorem uf{A B C D E:α→Prop}{G:Prop}(h:∃a,A a/\B a/\C a/\D a/\E a)(k:∀a,A a->B a->C a->D a->E a->G):G:=let⟨a,p,q,r,s,t⟩:=h;k a p q r s t
theorem ie{A B C D:α→β→Prop}{G:Prop}(h:∃a b,A a b/\B a b/\C a b/\D a b)(k:∀a b,A a b->B a b->C a b->D a b->G):G:=let⟨a,b,p,q,r,s⟩:=h;k a b p q r s
theorem iL{A B:α→β→γ→δ→Prop}{G:Prop}(h:∃a b c d,A a b c d/\B a b c d)(k:∀a b c d,A a b c d->B a b c d->G):G:=let⟨a,b,c,d,p,q⟩:=h;k a b c d p q
theorem pj{A B C D E:α→β→Prop}{G:Prop}(h:∃a b,A a b/\B a b/\C a b/\D a b/\E a b)(k:∀a b,A a b->B a b->C a b->D a b->E a b->G):G:=let⟨a,b,p,q,r,s,t⟩:=h;k a b p q r s t
theorem Bo{A:α→β→γ→δ→ε→ζ→Prop}{G:Prop}(h:∃a b c d e f,A a b c d e f)(k:∀a b c d e f,A a b c d e f->G):G:=let⟨a,b,c,d,e,f,p⟩:=h;k a b c d e f p
theorem uh{A B C D E F:α→β→Prop}{G:Prop}(h:∃a b,A a b/\B a b/\C a b/\D a b/\E a b/\F a b)(k:∀a b,A a b->B a b->C a b->D a b->E a b->F a b->G):G:=let⟨a,b,p,q,r,s,t,u⟩:=h;k a b p q r s t u
theorem Bm{A B C D:α→β→γ→δ→Prop}{G:Prop}(h:∃a b c d,A a b c d/\B a b c d/\C a b c d/\D a b c d)(k:∀a b c d,A a b c d->B a b c d->C a b c d->D a b c d->G):G:=let⟨a,b,c,d,p,q,r,s⟩:=h;k a b c d p q r s
theorem Bl{A B C D E F H I J:Prop}{G:Prop}(h:A/\B/\C/\D/\E/\F/\H/\I/\J)(k:A->B->C->D->E->F->H->I->J->G):G:=let⟨p,q,r,s,t,u,v,w,x⟩:=h;k p q r s t u v w x
theorem ui{A B C D E F H:α→β→Prop}{G:Prop}(h:∃a b,A a b/\B a b/\C a b/\D a b/\E a b/\F a b/\H a b)(k:∀a b,A a b->B a b->C a b->D a b->E a b->F a b->H a b->G):G:=let⟨a,b,p,q,r,s,t,u,v⟩:=h;k a b p q r s t u v
theorem Bn{A B C D E:α→β→γ→δ→Prop}{G:Prop}(h:∃a b c d,A a b c d/\B a b c d/\C a b c d/\D a b c d/\E a b c d)(k:∀a b c d,A a b c d->B a b c d->C a b c d->D a b c d->E a b c d->G):G:=let⟨a,b,c,d,p,q,r,s,t⟩:=h;k a b c d p q r s t
theorem pA{A B C D:α→β→γ→δ→ε→Prop}{G:Prop}(h:∃a b c d e,A a b c d e/\B a b c d e/\C a b c d e/\D a b c d e)(k:∀a b c d e,A a b c d e->B a b c d e->C a b c d e->D a b c d e->G):G:=let⟨a,b,c,d,e,p,q,r,s⟩:=h;k a b c d e p q r s
theorem pB{A B C:α→β→γ→δ→ε→ζ→Prop}{G:Prop}(h:∃a b c d e f,A a b c d e f/\B a b c d e f/\C a b c d e f)(k:∀a b c d e f,A a b c d e f->B a b c d e f->C a b c d e f->G):G:=let⟨a,b,c,d,e,f,p,q,r⟩:=h;k a b c d e f p q r
theorem tD{a:α}{G:Prop}(h:none=some a):G:=nomatch h
theorem gn{C:Prop}(h:∀G:Prop,(C->G)->G):C:=h C id
theorem d_{p:Prop}(h:p:=by intro _ _ z;simp at z):p:=h
theorem fz{p:Prop}(h:p:=by and_intros<;>intros<;>rfl):p:=h
theorem pb{α:Type _}{a b:α}(h:a∈[b]):a=b:=List.mem_singleton.mp h
theorem A0{p:Prop}(h:p:=by simp;first|lia|omega):p:=h
noncomputable abbrev bV(p:PySem.Program)(w:PySem.World)(A:PySem.Around){α}(m:PySem.Sem α):=PySem.wpAny (PySem.model p w) A m
noncomputable abbrev _root_.PySem.Heap.n(h:PySem.Heap):Nat:=h.objs.size
abbrev lC:=@List.mem_map
abbrev fC:=@List.getElem?_eq_some_iff
abbrev wm:=@List.all_eq_true
noncomputable abbrev _root_.jY(s:String):PySem.Str:=PySem.Str.ofString s
@[simp] theorem N_{α:Type _}(n:Nat)(a:α):List.replicate (n+1) a=a::List.replicate n a:=rfl
noncomputable abbrev mx:PySem.Str:=PySem.Str.ofString "only"
noncomputable abbrev my:PySem.Str:=PySem.Str.ofString "but"
noncomputable abbrev wU:PySem.Str:=PySem.Str.ofString "time"
noncomputable abbrev wV:PySem.Str:=PySem.Str.ofString "span"
noncomputable abbrev wW:PySem.Str:=PySem.Str.ofString "rest"
noncomputable abbrev wX:PySem.Str:=PySem.Str.ofString "turn"
noncomputable abbrev wY:PySem.Str:=PySem.Str.ofString "later"
noncomputable abbrev wZ:PySem.Str:=PySem.Str.ofString "put"
noncomputable abbrev fy:PySem.Str:=PySem.Str.ofString "at"
noncomputable abbrev hV:PySem.Str:=PySem.Str.ofString "left"
noncomputable abbrev kb:PySem.Str:=PySem.Str.ofString "a"
noncomputable abbrev i8:PySem.Str:=PySem.Str.ofString "k"
noncomputable abbrev i9:PySem.Str:=PySem.Str.ofString "abcdefghz"
noncomputable abbrev kc:PySem.Str:=PySem.Str.ofString "NoWorks"
noncomputable abbrev kd:PySem.Str:=PySem.Str.ofString "number"
noncomputable abbrev kf:PySem.Str:=PySem.Str.ofString "q"
noncomputable abbrev k9:PySem.Str:=PySem.Str.ofString "script"
noncomputable abbrev mz:PySem.Str:=PySem.Str.ofString "default"
noncomputable abbrev n6:PySem.Str:=PySem.Str.ofString "key"
noncomputable abbrev n7:PySem.Str:=PySem.Str.ofString "way"
noncomputable abbrev n8:PySem.Str:=PySem.Str.ofString "pour"
theorem dA{α}{a b:α}(h:a=b:=by kernel_rfl):a=b:=h
theorem aQ{p:Prop}[Decidable p](h:p:=by decide):p:=h
theorem aE{p:Prop}(h:p:=by first|lia|omega):p:=h
theorem bP{p:Prop}(h:p:=by simp):p:=h
theorem d8{p:Prop}[Decidable p](h:p:=by decide+kernel):p:=h
theorem qt{α:Type _}{a b:α}{l:List α}(h:a∈b::l):a=b\/a∈l:=List.mem_cons.mp h
theorem qv{α:Type _}{a b:α}(h:a∈[b]):a=b:=pb h
theorem qw{α:Type _}{a:α}{l k:List α}(h:a∈l++k):a∈l\/a∈k:=List.mem_append.mp h
abbrev qx:=@List.length_map
abbrev qy:=@Nat.le_trans
abbrev zc:=@List.map_cons
abbrev zd:=@Array.length_toList
abbrev ze:=@Bool.and_eq_true
abbrev zf:=@List.mem_of_getElem?
abbrev zg:=@List.length_cons
abbrev zh:=@Bool.false_ne_true
abbrev zi:=@List.size_toArray
abbrev zj:=@List.getElem?_set_ne
abbrev zk:=@decide_eq_true
abbrev zl:=@List.getElem?_map
abbrev zm:=@List.length_append
abbrev zo:=@PySem.wpAny_setState_of
abbrev zq:=@PySem.Heap.get?_update_self
abbrev zr:=@PySem.wpAny_holding
abbrev zt:=@List.getElem?_eq_getElem
abbrev zu:=@List.map_map
abbrev zv:=@PySem.wpAny_mono
abbrev zx:=@List.map_append
abbrev zy:=@Ne.symm
abbrev z0:=@List.getElem?_set_self
abbrev yb:=@PySem.wpAny_ite_split
abbrev yd:=@List.append_nil
abbrev ye:=@PySem.Heap.get?_update_other
abbrev yf:=@decide_eq_true_iff
abbrev yg:=@PySem.Heap.SameBut.update
abbrev yh:=@PySem.wpAny_newObj_type
abbrev yi:=@Array.getElem?_eq_getElem
abbrev yj:=@List.map_nil
abbrev yk:=@List.length_set
abbrev ym:=@Nat.zero_le
abbrev yn:=@List.mem_append_left
abbrev yo:=@Int.fdiv_eq_ediv_of_nonneg
abbrev yp:=@Int.le_refl
abbrev yq:=@PySem.wpAny_askSetting
abbrev yr:=@PySem.Heap.get?_none_of_le
abbrev yt:=@PySem.Around.under_plainId
abbrev yu:=@Int.fmod_nonneg_of_pos
abbrev yv:=@decide_eq_false
abbrev yx:=@PySem.codeAny_builtin
abbrev yy:=@Bool.eq_iff_iff
abbrev yz:=@List.map_fst_zip
abbrev y7:=@Int.emod_lt_of_pos
abbrev y8:=@Nat.lt_irrefl
abbrev y9:=@List.mem_cons
abbrev ja:=@Int.mul_assoc
abbrev jb:=@List.length_nil
abbrev jc:=@PySem.mem_of_lookup
abbrev jd:=@List.length_take
abbrev je:=@Array.getElem?_toList
abbrev jf:=@List.drop_eq_getElem_cons
abbrev jg:=@PySem.W.kia_one
abbrev jh:=@Option.some.inj
abbrev ji:=@List.length_zip
abbrev jj:=@Int.emod_nonneg
abbrev jk:=@PySem.wpAny_truthy_bool
abbrev jl:=@PySem.wpAny_field
abbrev jm:=@of_decide_eq_true
abbrev jn:=@List.nodup_append
abbrev jo:=@Int.emod_eq_of_lt
abbrev jp:=@PySem.plainId_quiet
abbrev jq:=@List.isEmpty_iff_length_eq_zero
abbrev jr:=@PySem.wpAny_setEntries_of
abbrev jt:=@PySem.wpAny_call_entry
abbrev ju:=@PyProof.Rows.boot_tuple
abbrev jv:=@List.pairwise_singleton
abbrev jw:=@List.not_mem_nil
abbrev jx:=@PySem.sizeLine_eq
abbrev jy:=@PySem.codeAny_mono
abbrev jz:=@Nat.ne_of_gt
abbrev j0:=@Nat.lt_of_le_of_lt
abbrev j6:=@List.take_of_length_le
abbrev j7:=@Int.fmod_lt_of_pos
abbrev j8:=@PySem.wpAny_passesOwn
abbrev j9:=@Int.dvd_trans
abbrev Qa:=@List.getElem?_eq_none
abbrev Qb:=@PySem.fits_of_scanBound
abbrev Qc:=@Int.toNat_natCast
abbrev Qd:=@Int.natAbs_sub_le
abbrev Qg:=@PySem.wpAny_setField
abbrev Qh:=@True.intro
abbrev Qi:=@List.Perm.refl
abbrev Qj:=@Int.mul_sub
abbrev Qk:=@Int.add_mul_emod_self_left
abbrev Ql:=@Nat.ne_of_lt
abbrev Qm:=@Int.mul_comm
abbrev Qn:=@List.getElem?_append_left
abbrev Qo:=@Int.natAbs_ediv_le_natAbs
abbrev Qp:=@PyProof.Rows.F.plain_set_update_loop
abbrev Qq:=@PySem.wpAny_standAt
abbrev Qr:=@List.all_cons
abbrev Qs:=@Int.mul_ediv_cancel_left
abbrev Qt:=@PySem.wpAny_Call_Name_kw
abbrev Qu:=@Nat.one_le_two_pow
abbrev Qv:=@List.zip_cons_cons
abbrev Qw:=@List.getElem?_take
abbrev Qx:=@PySem.putSet_of
abbrev Qy:=@List.filter_cons_of_neg
abbrev Qz:=@PySem.wpAny_storeSet_of
abbrev Q0:=@PySem.wpAny_loadPart_at
abbrev Q1:=@congrArg
abbrev Q2:=@Nat.le_of_lt
abbrev Q3:=@List.flatMap_cons
abbrev Q4:=@List.drop_zero
abbrev Q5:=@List.drop_eq_nil_of_le
abbrev Q6:=@Int.ne_of_gt
abbrev Q7:=@PySem.Heap.SameBut.refl
abbrev Q8:=@List.length_filter_le
abbrev Q9:=@List.cons_lt_cons_iff
abbrev Za:=@Nat.le_add_right
abbrev Zb:=@List.map_snd_zip
abbrev Zc:=@List.getElem_mem
abbrev Zd:=@Int.dvd_mul_left
abbrev Ze:=@Nat.pow_add
abbrev Zf:=@Nat.le_succ
abbrev Zg:=@List.mem_of_mem_take
abbrev Zh:=@Int.mul_neg
abbrev Zi:=@PySem.wpAny_loadPart'
abbrev Zj:=@PySem.wpAny_execs_nil
abbrev Zk:=@PySem.PassesOwn.never
abbrev Zl:=@List.nil_append
abbrev Zm:=@List.mem_map_of_mem
abbrev Zn:=@PySem.wpAny_typeOf
abbrev Zo:=@PyProof.Rows.callWith_type1
abbrev Zp:=@Nat.succ_pos
abbrev Zq:=@Array.getD_eq_getD_getElem?
abbrev Zr:=@PySem.wpAny_tryCatch
abbrev Zs:=@PySem.wpAny_seqItems
abbrev Zt:=@PySem.wpAny_call
abbrev Zu:=@PySem.tupleKind_room_in1
abbrev Zv:=@List.map_inj_right
abbrev Zw:=@List.getElem?_append_right
abbrev Zx:=@Int.natAbs_mul
abbrev Zy:=@PySem.Heap.size_push
abbrev Zz:=@Bool.and_false
abbrev Z0:=@decide_eq_true_eq
abbrev Z1:=@Sum.inr.inj
abbrev Z2:=@List.take_sublist
abbrev Z3:=@List.take_add_one
abbrev Z4:=@List.ext_getElem?
abbrev Z5:=@List.append_assoc
abbrev Z6:=@List.Pairwise.nil
abbrev Z7:=@Int.mul_one
abbrev Z8:=@Int.pos_of_mul_pos_right
abbrev Z9:=@PySem.wpAny_pyNext_tuple_item
abbrev Ya:=@PySem.wpAny_isInstance
abbrev Yb:=@List.all_eq_true
abbrev Yc:=@PySem.wpAny_rule
abbrev Yd:=@PySem.wpAny_pyNext_tuple_end
abbrev Ye:=@PySem.wpAny_pyNext_list_item
abbrev Yf:=@PySem.Txt.slice_le
abbrev Yg:=@PySem.W.cellsFrom_some
abbrev Yh:=@PySem.F.plain_min_loop
abbrev Yi:=@List.drop_of_length_le
abbrev Yj:=@PySem.Heap.lt_size
abbrev Yk:=@PySem.Calls.callWith_builtin
abbrev Yl:=@PySem.wpAny_updateSeq
abbrev Ym:=@List.of_mem_zip
abbrev Yn:=@List.mem_append
abbrev Yo:=@Int.ediv_nonneg
abbrev Yp:=@PySem.wpAny_pyNext_list_end
abbrev Yq:=@PySem.builtinLookup_eq_fast
abbrev Yr:=@PySem.F.slot_dict_get
abbrev Ys:=@Int.mul_ediv_add_emod
abbrev Yt:=@Bool.beq_eq_decide_eq
abbrev Yu:=@PySem.wpAny_fieldsOf
abbrev Yv:=@or_false
abbrev Yw:=@PySem.isSubtype_type
abbrev Yx:=@PySem.codeAny_call_builtin
abbrev Yy:=@PySem.boot_len
abbrev Yz:=@Nat.pow_lt_pow_right
abbrev Y1:=@Nat.pow_le_pow_right
abbrev Y2:=@Nat.mul_le_mul_right
abbrev Y3:=@Nat.mul_le_mul
abbrev Y4:=@List.nodup_nil
abbrev Y5:=@PySem.Heap.get?_push_cases
abbrev Y6:=@PySem.Calls.evalArgs_plain
abbrev Y7:=@PyProof.Rows.F.entry_set_update_loop
abbrev Y8:=@Nat.add_le_add_left
abbrev Y9:=@PySem.intBits_le_64
abbrev Ja:=@PySem.Paired.length
abbrev Jb:=@beq_iff_eq
abbrev Jc:=@List.map_set
abbrev Jd:=@List.length_range
abbrev Je:=@Int.natAbs_add_le
abbrev Jf:=@PyProof.Rows.slot_tuple_getitem
abbrev Jg:=@List.take_append
abbrev Jh:=@List.lookup_cons
abbrev Ji:=@List.flatMap_nil
abbrev Jj:=@Bool.not_eq_true
abbrev Jk:=@Array.isEmpty_iff_size_eq_zero
end
namespace Lake.L2
open PySem.Spec PyProof.Rows
abbrev Key:=Sum Int Str
def ad0:Key->Value->Bool
 |.inl k,v=>Value.isInt k v
 |.inr x,v=>Value.isStrOf x v
def cb5(w:World):Key->Int
 |.inl k=>hashInt k
 |.inr x=>hashStr w x
theorem g_5:∀{k:Key}{v:Value},ad0 k v=true->(∃i t,k=Sum.inl i/\v=Value.int i t)\/(∃x t,k=Sum.inr x/\v=Value.str x t)
 |.inl i,v,h=>by
  obtain⟨t,e⟩:=Value.isInt_shape h;exact .inl ⟨i,t,rfl,e⟩
 |.inr x,v,h=>by
  obtain⟨t,e⟩:=Value.isStrOf_shape h;exact .inr ⟨x,t,rfl,e⟩
theorem Vd(i:Int)(t:Tok):ad0 (.inl i) (.int i t)=true:=by simp[ad0,Value.isInt]
theorem Vc(x:Str)(t:Tok):ad0 (.inr x) (.str x t)=true:=by simp[ad0,Value.isStrOf]
theorem X4(a b:Int):decide ((Sum.inl a:Key)=Sum.inl b)=(a==b):=by grind
theorem X1(a b:Str):decide ((Sum.inr a:Key)=Sum.inr b)=decide (a=b):=by grind
theorem X3(a:Int)(b:Str):decide ((Sum.inl a:Key)=Sum.inr b)=false:=yv (λ q=>nomatch q)
theorem X2(a:Str)(b:Int):decide ((Sum.inr a:Key)=Sum.inl b)=false:=yv (λ q=>nomatch q)
def gc(prog:Program)(w:World):PySem.KeyKind prog w Key where
 is:=ad0
 hash:=cb5 w
 inj:=λ v a b O J=>by
  rcases g_5 O with⟨i,t,rfl,rfl⟩|⟨x,t,rfl,rfl⟩
  .rcases g_5 J with⟨j,u,rfl,e⟩|⟨y,u,rfl,e⟩
   .injection e with e1 _;rw[e1]
   .exact nomatch e
  .rcases g_5 J with⟨j,u,rfl,e⟩|⟨y,u,rfl,e⟩
   .exact nomatch e
   .injection e with e1 _;rw[e1]
 byValue:=λ k v h=>by
  rcases g_5 h with⟨i,t,rfl,rfl⟩|⟨x,t,rfl,rfl⟩<;>rfl
 pyHash:=λ q h=>by
  rcases g_5 q with⟨i,t,rfl,rfl⟩|⟨x,t,rfl,rfl⟩
  .exact wpAny_pyHash_int h
  .exact wpAny_pyHash_str h
 eqBool:=λ Y q h=>by
  rcases g_5 Y with⟨i,t,rfl,rfl⟩|⟨x,t,rfl,rfl⟩
  .rcases g_5 q with⟨j,u,rfl,rfl⟩|⟨y,u,rfl,rfl⟩
   .rw[X4]at h;exact wpAny_eqBool_int h
   .rw[X3]at h;exact SeqAt.EqAt.int_str i t y u _ _ _ _ h
  .rcases g_5 q with⟨j,u,rfl,rfl⟩|⟨y,u,rfl,rfl⟩
   .rw[X2]at h;exact SeqAt.EqAt.str_int x t j u _ _ _ _ h
   .rw[X1]at h;exact wpAny_eqBool_str h
 «strs»:=λ k x t v h=>by
  rcases g_5 h with⟨i,u,rfl,e⟩|⟨y,u,rfl,e⟩
  .exact nomatch e
  .injection e with e1 _
   subst e1;cases v<;>rfl
theorem TR(prog:Program)(w:World)(i:Int)(t:Tok):(gc prog w).is (.inl i) (.int i t)=true:=Vd i t
theorem TN(prog:Program)(w:World)(x:Str)(t:Tok):(gc prog w).is (.inr x) (.str x t)=true:=Vc x t
inductive V where
 |n|b (b:Bool)|int (i:Int)|str (x:Str)|byt (b:Array UInt8)|flt (b:UInt64)|ref (a:Addr)|ty (n:String)
 deriving DecidableEq
def aT:V->Value->Prop
 |.n,u=>u=Value.none
 |.b b,u=>u=Value.bool b
 |.int i,u=>∃t,u=Value.int i t
 |.str x,u=>∃t,u=Value.str x t
 |.byt b,u=>∃t,u=Value.bytes b t
 |.flt b,u=>∃t,u=Value.float b t
 |.ref a,u=>u=Value.ref a
 |.ty n,u=>u=Value.type n
abbrev _root_.b_:=List V
abbrev aS:b_->List Value->Prop:=Paired aT
theorem aS.length(r:aS xs us):xs.length=us.length:=Ja r
abbrev _root_.bO:=List Value
theorem aS.get:∀{xs:b_}{us:bO}{i:Nat}{x:V},aS xs us->xs[i]?=some x->∃u,us[i]?=some u/\aT x u
 |_,_,_,_,.nil,e=>by simp at e
 |_,_,0,_,.cons r _,e=>by simp at e;subst e;exact⟨_,rfl,r⟩
 |_,_,i+1,x,.cons _ t,e=>by
  obtain⟨u,h1,h2⟩:=aS.get t (by simpa using e);exact⟨u,by simpa using h1,h2⟩
theorem aS.set(r:aT x u):∀{xs:b_}{us:bO}(i:Nat),aS xs us->aS (xs.set i x) (us.set i u)
 |_,_,_,.nil=>.nil
 |_,_,0,.cons _ t=>.cons r t
 |_,_,i+1,.cons q t=>.cons q (aS.set r i t)
theorem aS.append:∀{xs ys:b_}{us q:bO},aS xs us->aS ys q->aS (xs++ys) (us++q)
 |_,_,_,_,.nil,s=>s
 |_,_,_,_,.cons r t,s=>.cons r (aS.append t s)
theorem aS.take:∀{xs:b_}{us:bO}(n:Nat),aS xs us->aS (xs.take n) (us.take n)
 |_,_,0,_=>.nil
 |_,_,_+1,.nil=>.nil
 |_,_,n+1,.cons r t=>.cons r (aS.take n t)
theorem aS.drop:∀{xs:b_}{us:bO}(n:Nat),aS xs us->aS (xs.drop n) (us.drop n)
 |_,_,0,r=>r
 |_,_,_+1,.nil=>.nil
 |_,_,n+1,.cons _ t=>aS.drop n t
theorem aS.none_of:∀{xs:b_}{us:bO}{i:Nat},aS xs us->xs[i]?=none->us[i]?=none:=λ{xs us i}r e=>by
 have h1:=r.length;grind
def fq:Option V->Option Value->Prop
 |some v,some u=>aT v u
 |none,none=>True
 |_,_=>False
def KV{κ:Type}:List (κ×V)->List (κ×Value)->Prop:=Paired λ(p:κ×V)(q:κ×Value)=>p.1=q.1/\aT p.2 q.2
def kV:Key->V
 |.inl i=>.int i
 |.inr x=>.str x
abbrev _root_.fO:=List (Key×V)
inductive HO where
 |l (xs:b_)
 |t (xs:b_)
 |dK (aI:fO)|dT (aI:List (List Key×V))
 |set (S:Int->Bool) (n:Nat)
 |ins (C dx:Addr) (fs:List (Str×V))
 |own (x:Addr)
 |xd (fs:List (Str×V))
 |met (f x:Addr)
 |rng (lo hi:Int)
 |frz (o:Obj) (u:HO)
 |tbl (q:Str)
 |cod (q:Str)
 |ext (φ:Heap->Prop)
abbrev Hp:=Addr->Option HO
noncomputable def Tabs:List (Addr×Str):=[(42,"keys_some.<locals>.<lambda>"),(130,"nearest.<locals>.<lambda>")]
noncomputable def upd(H:Hp)(a:Addr)(o:HO):Hp:=λ b=>if b=a then some o else H b
theorem cF:upd H a o a=some o:=by unfold upd;rw[if_pos rfl]
theorem bS(h:b≠a):upd H a o b=H b:=by unfold upd;rw[if_neg h]
theorem cu2{H:Hp}{a:Addr}{o u:HO}:upd (upd H a o) a u=upd H a u:=by funext b;unfold upd;split<;>rfl
theorem ne_of{H:Hp}(h:H a=some o)(h':H b=some u)(d:o≠u):a≠b:=by grind
theorem fF{H:Hp}(h:H a=some o)(h':H b=none):a≠b:=by intro e;subst e;rw[h]at h';simp at h'
abbrev _root_.g9:=Array Value
def eG(h:Heap)(a:Addr)(items:g9):Prop:=∃o,h.get? a=some o∧o.cls=.type "tuple"∧(∃n,o.data=.seq items n)∧o.dict=none
theorem eG.tup(x:eG h a items):IsTup h a items:=let ⟨o,p,q,⟨n,r⟩,_⟩:=x;⟨o,p,q,n,r⟩
theorem eG.new(h:Heap)(items:g9):eG (h.push {cls:=.type "tuple",data:=.seq items}) h.n items:=⟨_,qk _ rfl,rfl,⟨0,rfl⟩,rfl⟩
section
variable(P:Program)(w:World)
def bC(H:Hp)(h:Heap)(a:Addr):HO->Prop
 |.l xs=>xs.length≤sizeLine∧∃(J:bO)(n:Nat),aS xs J∧h.get? a=some {cls:=.type "list",data:=.seq J.toArray n}
 |.t xs=>xs.length<=sizeLine/\∃J:bO,aS xs J/\eG h a J.toArray
 |.dK aI=>aI.length<=sizeLine/\(a==sysModules)=false/\∃vs,KV aI vs/\h.DictOf (gc P w) a vs
 |.dT aI=>aI.length<=sizeLine/\(a==sysModules)=false/\∃xs:List (List Key×Addr×Value),Paired (λ(p:List Key×V)(q:List Key×Addr×Value)=>p.1=q.1/\H q.2.1=some (.t (p.1.map kV))/\aT p.2 q.2.2) aI xs/\∃o es ep,h.get? a=some o/\o.ExactDict/\o.data=.dict es ep/\es.toList=xs.map (entryOfKey (tupleKind (gc P w)))/\(xs.map (·.1)).Nodup
 |.set S n=>h.SetOf (intKind P w) a S n
 |.ins C dx fs=>H dx=some (.own a)/\fs.length<=1000/\dx≠a/\h.get? a=some (PySem.W.instObj C dx)/\∃O,h.Ns1 dx O/\(∀f,fq (fs.lookup f) (O f))/\PySem.Within O (fs.map (·.1))
 |.own _=>∃o,h.get? a=some o
 |.xd fs=>∃O,h.Ns1 a O/\∀f,fq (fs.lookup f) (O f)
 |.rng lo hi=>∃t u v,h.get? a=some {cls:=.type "range",data:=.fields #[.int lo t,.int hi u,.int 1 v]}
 |.frz o u=>h.get? a=some o/\bC H h a u
 |.tbl q=>∃ps,h.get? a=some (PySem.W.tabObj ps)/\TriplesOk ps.toList/\∀pos,codeAmong pos ps.toList=none\/∃c',codeAmong pos ps.toList=some (.ref c')/\H c'=some (.cod q)
 |.cod q=>h.CodeRec (.ref a) q
 |.met f x=>h.get? a=some (PySem.W.methodObj (.ref f) (.ref x))
 |.ext Y=>Y h/\(∃o,h.get? a=some o)/\∀h1 h2:Heap,Y h1->(∀o,h1.get? a=some o->h2.get? a=some o)->Y h2
def eD(H:Hp)(h:Heap):Prop:=∀a o,H a=some o->bC P w H h a o
end
section
theorem bC.lt(x:bC P w H h a o):a<h.n:=by
 cases o with
 |l xs=>obtain⟨_,_,_,_,e⟩:=x;exact qm e
 |t xs=>obtain⟨_,_,_,p⟩:=x;exact p.tup.lt
 |dK aI=>obtain⟨_,_,_,_,o,_,_,e,_⟩:=x;exact qm e
 |dT aI=>obtain⟨_,_,_,_,o,_,_,e,_⟩:=x;exact qm e
 |set S n=>obtain⟨o,_,_,_,e,_⟩:=x;exact qm e
 |ins C dx fs=>obtain⟨_,_,_,e,_⟩:=x;exact qm e
 |own y=>obtain⟨_,e⟩:=x;exact qm e
 |xd fs=>obtain⟨_,⟨_,_,_,e,_⟩,_⟩:=x;exact qm e
 |rng lo hi=>obtain⟨_,_,_,e⟩:=x;exact qm e
 |frz ob u=>obtain⟨e,_⟩:=x;exact qm e
 |tbl q=>obtain⟨_,e,_⟩:=x;exact qm e
 |cod q=>obtain⟨_,_,_,_,e,e2,_⟩:=x;cases e;exact qm e2
 |met f y=>exact qm (show h.get? a=some _ from x)
 |ext J=>obtain⟨_,⟨_,e⟩,_⟩:=x;exact qm e
theorem Paired.mapP:∀{J:List α}{q:List β},Paired F J q->(∀a b,F a b->G a b)->Paired G J q
 |[],_,h,_=>by cases h;exact .nil
 |x::l,_,h,f=>by
  cases h with
  |cons r t=>exact .cons (f _ _ r) (Paired.mapP t f)
theorem bC.stay(x:bC P w H h a o)(k:∀b u,(b=a\/H b=some (.own a))->h.get? b=some u->h'.get? b=some u)(ho:∀b,H b=some (.own a)->H' b=some (.own a))(ht:∀b xs,H b=some (.t xs)->H' b=some (.t xs))(Z:∀b q,H b=some (.cod q)->H' b=some (.cod q)):bC P w H' h' a o:=by
 induction o with
 |l xs=>obtain⟨z,J,n,r,e⟩:=x;exact⟨z,J,n,r,k _ _ (.inl rfl) e⟩
 |t xs=>obtain⟨z,J,r,ob,e,c⟩:=x;exact⟨z,J,r,ob,k _ _ (.inl rfl) e,c⟩
 |dK aI=>obtain⟨z,y,j,r,ob,es,g,e,c⟩:=x;exact⟨z,y,j,r,ob,es,g,k _ _ (.inl rfl) e,c⟩
 |dT aI=>
  obtain⟨z,y,xs,r,ob,es,g,e,c⟩:=x;exact⟨z,y,xs,Paired.mapP r λ p q z=>⟨z.1,ht _ _ z.2.1,z.2.2⟩,ob,es,g,k _ _ (.inl rfl) e,c⟩
 |set S n=>obtain⟨ob,es,g,t,e,c⟩:=x;exact⟨ob,es,g,t,k _ _ (.inl rfl) e,c⟩
 |ins C dx fs=>
  obtain⟨d,z,s,e,O,⟨i,es,g,e2,c⟩,r⟩:=x;exact⟨ho _ d,z,s,k _ _ (.inl rfl) e,O,⟨i,es,g,k _ _ (.inr d) e2,c⟩,r⟩
 |own y=>obtain⟨ob,e⟩:=x;exact⟨ob,k _ _ (.inl rfl) e⟩
 |xd fs=>obtain⟨O,⟨i,es,g,e,c⟩,r⟩:=x;exact⟨O,⟨i,es,g,k _ _ (.inl rfl) e,c⟩,r⟩
 |rng lo hi=>obtain⟨t,u,v,e⟩:=x;exact⟨t,u,v,k _ _ (.inl rfl) e⟩
 |frz ob u m=>obtain⟨e,q⟩:=x;exact⟨k _ _ (.inl rfl) e,m q⟩
 |tbl q=>
  obtain⟨ps,e,A,l⟩:=x;refine⟨ps,k _ _ (.inl rfl) e,A,λ pos=>?_⟩;rcases l pos with z|⟨c',z,y⟩
  .exact .inl z
  .exact .inr ⟨c',z,Z _ _ y⟩
 |cod q=>obtain⟨c,Y,j,t,e,e2,r⟩:=x;cases e;exact⟨_,Y,j,t,rfl,k _ _ (.inl rfl) e2,r⟩
 |met f y=>
  have e:h.get? a=some (PySem.W.methodObj (.ref f) (.ref y)):=x;show h'.get? a=some (PySem.W.methodObj (.ref f) (.ref y));exact k a _ (.inl rfl) e
 |ext B=>obtain⟨p,⟨o,e⟩,st⟩:=x;exact⟨st _ _ p λ o q=>k _ _ (.inl rfl) q,⟨o,k _ _ (.inl rfl) e⟩,st⟩
theorem eD.lt(x:eD P w H h)(e:H a=some o):a<h.n:=(x a o e).lt
theorem eD.fresh(x:eD P w H h)(e:h.n<=a):H a=none:=by
 cases q:H a with
 |none=>rfl
 |some u=>exact absurd (qp (x.lt q) e) (y8 _)
theorem eD.kept(x:eD P w H h)(k:∀b u,h.get? b=some u->h'.get? b=some u):eD P w H h':=λ a o e=>
 (x a o e).stay (λ b u _ q=>k b u q) (λ _ q=>q) (λ _ _ q=>q) λ _ _ q=>q
theorem eD.laid(x:eD P w H h)(k:∀b u,h.get? b=some u->h'.get? b=some u)(Y:h.n<=a)(new:bC P w (upd H a o) h' a o):eD P w (upd H a o) h':=λ b u e=>by
 have J:=x.fresh Y;by_cases O:b=a
 .subst O;rw[cF]at e;obtain rfl:=aW e;exact new
 .rw[bS O]at e;exact(x b u e).stay (λ c v _ q=>k c v q) (λ c q=>by rw[bS (fF q J)];exact q) (λ c xs q=>by rw[bS (fF q J)];exact q) λ c xs q=>by rw[bS (fF q J)];exact q
end
def Rd(H:Hp)(a:Addr)(u:HO):Prop:=H a=some u\/∃o,H a=some (.frz o u)
theorem Rd.ok(r:Rd H a u)(x:eD P w H h):bC P w H h a u:=by
 rcases r with h|⟨o,h⟩
 .exact x _ _ h
 .exact(x _ _ h).2
def uB:Option HO->Prop
 |some (.l _)=>True
 |some (.dK _)=>True
 |some (.dT _)=>True
 |some (.set _ _)=>True
 |some (.ins _ _ _)=>True
 |some (.ext _)=>True
 |_=>False
section
theorem eD.write(ok:eD P w H h)(Y:uB (H x))(he:e=x\/H e=some (.own x))(k:∀b u,b≠e->h.get? b=some u->h'.get? b=some u)(ac:∃u,h'.get? e=some u)(new:bC P w (upd H x o') h' x o'):eD P w (upd H x o') h':=λ b u q=>by
 have O:∀c y,H c=some (.own y)->c≠x:=λ c y r z=>by subst z;rw[r]at Y;exact Y
 have g:∀c xs,H c=some (.t xs)->c≠x:=λ c xs r z=>by subst z;rw[r]at Y;exact Y
 have Z:∀c xs,H c=some (.cod xs)->c≠x:=λ c xs r z=>by subst z;rw[r]at Y;exact Y
 by_cases a:b=x
 .subst a;rw[cF]at q;obtain rfl:=aW q;exact new
 .rw[bS a]at q;by_cases J:b=e
  .have f:H b=some (.own x):=by
    rcases he with z|z
    .exact absurd (J.trans z) a
    .rw[J];exact z
   rw[q]at f;obtain rfl:=aW f;obtain⟨v,i⟩:=ac;exact⟨v,by rw[J];exact i⟩
  .refine(ok b u q).stay (λ c v d r=>k c v ?_ r) (λ c r=>by rw[bS (O c b r)];exact r) (λ c xs r=>by rw[bS (g c xs r)];exact r) λ c xs r=>by rw[bS (Z c xs r)];exact r
   rcases d with rfl|d
   .exact J
   .rintro rfl;rcases he with z|z
    .exact O c b d z
    .rw[d]at z;cases z;exact a rfl
end
abbrev _root_.fV:=List Addr
structure Un(fs ex:fV)(H H':Hp)(h h':Heap):Prop where
 keep:∀b o,h.get? b=some o->H b=none->b∉fs->b∉ex->h'.get? b=some o
 slot:∀b o,h.get? b=some o->H b=none->b∈fs->b∉ex->∃sl,h'.get? b=some {o with slots:=sl}
 free:∀b o,h.get? b=some o->H b=none->b∉ex->H' b=none
 there:∀b o,h.get? b=some o->b∉ex->∃o',h'.get? b=some o'
 tups:∀b xs,H b=some (.t xs)->H' b=some (.t xs)
 frzs:∀b o u,H b=some (.frz o u)->H' b=some (.frz o u)
 tbls:∀b q,H b=some (.tbl q)->H' b=some (.tbl q)
section
variable{fs fs' ex ex':fV}{H H1 H2:Hp}{h h1 h2 h':Heap}{a x e:Addr}{o:HO}
theorem Un.any(u:Un fs ex H H1 h h1)(q:h.get? b=some ob)(n:H b=none)(hx:b∉ex):∃O,h1.get? b=some {ob with slots:=O}:=by
 by_cases J:b∈fs
 .exact u.slot b ob q n J hx
 .exact⟨ob.slots,u.keep b ob q n J hx⟩
theorem Un.kept(k:∀b u,h.get? b=some u->h'.get? b=some u):Un fs ex H H h h':=
 ⟨λ b ob q _ _ _=>k b ob q,λ b ob q _ _ _=>⟨ob.slots,k b ob q⟩,λ _ _ _ n _=>n,λ b ob q _=>⟨ob,k b ob q⟩,λ _ _ q=>q,λ _ _ _ q=>q,λ _ _ q=>q⟩
theorem Un.refl:Un fs ex H H h h:=Un.kept λ _ _ q=>q
theorem Un.laid(k:∀b u,h.get? b=some u->h'.get? b=some u)(O:h.n<=a)(J:H a=none):Un fs ex H (upd H a o) h h' where
 keep:=λ b u q _ _ _=>k b u q
 slot:=λ b u q _ _ _=>⟨u.slots,k b u q⟩
 free:=λ b u q n _=>by rw[bS (Ql (Nat.lt_of_lt_of_le (Yj q) O))];exact n
 there:=λ b u q _=>⟨u,k b u q⟩
 tups:=λ b xs q=>by rw[bS (fF q J)];exact q
 frzs:=λ b u xs q=>by rw[bS (fF q J)];exact q
 tbls:=λ b xs q=>by rw[bS (fF q J)];exact q
theorem Un.write(O:uB (H x))(he:e=x\/H e=some (.own x))(k:∀b u,b≠e->h.get? b=some u->h'.get? b=some u)(Z:∃u,h'.get? e=some u):Un fs ex H (upd H x o) h h':=by
 have hx:∀b,H b=none->b≠x:=λ b n z=>by subst z;rw[n]at O;exact O
 have a:∀b,H b=none->b≠e:=λ b n z=>by
  subst z;rcases he with r|r
  .exact hx b n r
  .rw[n]at r;simp at r
 have Y:∀b u,H b=some u->¬uB (some u)->b≠x:=λ b u q nm z=>by subst z;rw[q]at O;exact nm O
 refine⟨λ b u q n _ _=>k b u (a b n) q,λ b u q n _ _=>⟨u.slots,k b u (a b n) q⟩,λ b u q n _=>by rw[bS (hx b n)];exact n,λ b u q _=>?_,λ b xs q=>by rw[bS (Y b _ q λ z=>z)];exact q,λ b u xs q=>by rw[bS (Y b _ q λ z=>z)];exact q,λ b xs q=>by rw[bS (Y b _ q λ z=>z)];exact q⟩
 by_cases J:b=e
 .subst J;exact Z
 .exact⟨u,k b u J q⟩
theorem Un.mono(u:Un fs ex H H1 h h1)(Y:∀b∈fs,b∈fs')(hx:∀b∈ex,b∈ex'):Un fs' ex' H H1 h h1:=
 ⟨λ b ob q n O J=>u.keep b ob q n (λ z=>O (Y b z)) λ z=>J (hx b z),λ _ _ q n _ J=>u.any q n λ z=>J (hx _ z),λ b ob q n J=>u.free b ob q n λ z=>J (hx b z),λ b ob q J=>u.there b ob q λ z=>J (hx b z),u.tups,u.frzs,u.tbls⟩
end
noncomputable def A3(h:Heap)(H:Hp):fV:=(List.range h.n).filter λ a=>(H a).isSome
def oJ(h:Heap)(H:Hp):Heap:=PySem.W.hideAll h (A3 h H)
theorem Q_(h:Heap)(H:Hp):(oJ h H).objs.size=h.n:=PySem.W.hideAll_size _ _
theorem Se(e:h.get? b=some o)(n:H b=none):(oJ h H).get? b=some o:=
 PySem.W.hideAll_get _ e λ J=>by
  have q:=(List.mem_filter.mp J).2;grind
theorem Wo(e:(oJ h H).get? b=some o):h.get? b=some o/\H b=none:=by
 have J:=PySem.W.of_hideAll (A3 h H) e;refine⟨J,?_⟩;cases q:H b with
 |none=>rfl
 |some x=>
  have O:b∈A3 h H:=List.mem_filter.mpr ⟨List.mem_range.mpr (qm J),by simp[q]⟩;have z:(oJ h H).get? b=none:=PySem.W.hideAll_none (A3 h H) O;rw[z]at e;simp at e
abbrev _root_.cK:=List (Addr×Obj)
noncomputable def W2(g h:Heap)(σ:Addr):cK:=(List.range h.n).filterMap λ a=>if a=σ\/(g.get? a).isSome=true then none else(h.get? a).map λ o=>(a,o)
def rest(g h:Heap)(σ d:Addr):cK:=(W2 g h σ).filter λ p=>decide (p.1≠d)
structure Mod(K:Frag)(mg:Str->Option Value)(base:Heap):Prop where
 kin:K.In base
 glob:base.Ns mainGlobals mg
 blt:∃mb,base.Ns builtinsNs mb∧∀x:Str,x≠"__name__"→mb x=bootBuiltins x
 nolimit:base.NoLimit
 bm:∃bm ob,mg "__builtins__"=some (.ref bm)∧bm≠builtinsNs∧base.get? bm=some ob∧ob.cls=.type "module"∧ob.dict=some builtinsNs∧ob.data=.plain
abbrev _root_.c8:=Value->Shared->Prop
abbrev _root_.fP:=List Env
abbrev _root_.aM:=List Str
structure Cx where
 p:Program
 w:World
 K:Frag
 mg:Str->Option Value
 base:Heap
 A:Around
 N:aM
 s₀:Shared
 H₀:Hp
 v:Env
 outer:fP
 stack:fP
 ex:fV
 fn:Str->Bool
 c:Bool
 pn:cK
 xe:c8
abbrev _root_.e_:=List Expr
abbrev iX(X:Cx)(e:Expr)(es:e_):Prop:=starEach (e::es) X.v=(false,eval e X.v)::starEach es X.v
abbrev mX(X:Cx)(e:Expr):Prop:=starEach [e] X.v=[(false,eval e X.v)]
abbrev iD(X:Cx)(p:Pos)(es:e_):Prop:=(backTo p (starEach es X.v)).any (·.1)=false
abbrev vW(X:Cx)(o:Expr)(n:Str):Prop:=attributeBase o n X.v (eval o X.v)=eval o X.v
abbrev E5(X:Cx)(p:Pos)(es:e_):Prop:=((backTo p (starEach es X.v)).all (λ x=>!x.1)&&(backToKw p (keywordEach [] X.v)).all (λ x=>x.1.isSome)&&decide (es.length+([]:List Keyword).length+(if([]:List Keyword).isEmpty then 0 else 1)<30))=true
abbrev nR(X:Cx)(e:Expr):Prop:=∀v,foldedSetIterable e X.v v=pure v
abbrev _root_.m3:=Option Expr
abbrev sU(X:Cx)(e:Expr)(o:m3)(l:Nat)(b:Bool):Prop:=swapsWith e o l X.v=pure b
abbrev gf(X:Cx)(x:Str):Prop:=X.v.scope.names.lookup x=some .local
noncomputable def gO(l:fP):fV:=l.filterMap (·.frame)
abbrev Cx.fs(X:Cx):fV:=gO X.outer
def gk(sc:Scope)(x:Str):Prop:=sc.names.lookup x=some .local\/sc.names.lookup x=some .cell\/sc.names.lookup x=some .free
def lP(sc:Scope)(x:Str):Prop:=sc.names.lookup x=some .local\/sc.names.lookup x=some .cell
theorem i7{sc x}(h:gk sc x:=by first|exact Or.inl rfl|exact Or.inr (Or.inl rfl)|exact Or.inr (Or.inr rfl)):gk sc x:=h
theorem jW{p q:Prop}(h:p∨q:=by first|exact .inl rfl|exact .inr rfl):p∨q:=h
def cg3(env:Env)(h:Heap)(m:Str->Option Value)(x:Str)(u:Value):Prop:=
 (env.kindOf x=some .local/\m x=some u)\/((env.kindOf x=some .cell\/env.kindOf x=some .free)/\∃c,env.cells.lookup x=some c/\h.IsCell c (some u))
structure Cx.Ok(X:Cx):Prop where
 mod:Mod X.K X.mg X.base
 kind:X.v.scope.kind=.function
 glob:X.v.globals=mainGlobals
 blt:X.v.builtins=builtinsNs
 above:X.s₀.heap.n<=X.v.locals
 inj:∀x y c,X.v.cells.lookup x=some c->X.v.cells.lookup y=some c->x=y
 has:∀x,(X.v.kindOf x=some .cell\/X.v.kindOf x=some .free)->∃c,X.v.cells.lookup x=some c
 cab:∀x c,X.fn x=true->X.v.cells.lookup x=some c->X.s₀.heap.n<=c
 hd:X.c=true->X.A.handled=none
 frames:X.A.frames=some X.stack
 stk:X.stack=X.outer\/(X.stack=X.v::X.outer/\X.v.frame=some X.v.locals)
 exf:∀b∈X.ex,b≠X.v.locals/\∀x c,X.v.cells.lookup x=some c->c≠b
 bs:∀b o,X.base.get? b=some o->X.s₀.heap.get? b=some o/\X.H₀ b=none
 bsz:X.base.objs.size<=X.s₀.heap.n
 noex:∀b o,X.base.get? b=some o->b∉X.ex
 exfs:∀b∈X.ex,b∉X.fs
 funs:X.s₀.heap.FunFrames X.base X.outer
 frf:∀b∈X.fs,X.H₀ b=none
 tab:∀p q,(p,q)∈Tabs->X.H₀ p=some (.tbl q)
structure aJ(X:Cx)(aA:cK)(L:List (Option V))(H:Hp)(s:Shared):Prop where
 ok:X.Ok
 os:s.os=X.s₀.os
 bare:AllBare s.gens
 base:Un X.fs X.ex X.H₀ H X.s₀.heap s.heap
 loc:∃m,s.heap.Ns X.v.locals m/\∀(i:Nat)(x:Str)(v:V),X.N[i]?=some x->L[i]?=some (some v)->gk X.v.scope x->∃u,aT v u/\cg3 X.v s.heap m x u
 cell:∀x c,X.v.cells.lookup x=some c->∃v,s.heap.IsCell c v
 free:H X.v.locals=none
 freeC:∀x c,X.v.cells.lookup x=some c->H c=none
 pin:∀p∈X.pn++aA,s.heap.get? p.1=some p.2/\H p.1=none/\p.1≠X.v.locals/\p.1∉X.fs/\∀v,p.2.data≠.cell v
 hok:eD X.p X.w H s.heap
 len:L.length=X.N.length
section
variable{X:Cx}{aA:cK}{L:List (Option V)}{H H':Hp}{s:Shared}{h':Heap}
theorem Cx.Ok.nofr(ok:X.Ok)(e:X.base.get? b=some o):b∉X.fs:=λ q=>by
 have:=(ok.funs.mem q).1;rw[e]at this;simp at this
theorem aJ.bs(I:aJ X aA L H s):∀b o,X.base.get? b=some o->s.heap.get? b=some o/\H b=none:=λ b o e=>
 ⟨I.base.keep b o (I.ok.bs b o e).1 (I.ok.bs b o e).2 (I.ok.nofr e) (I.ok.noex b o e),I.base.free b o (I.ok.bs b o e).1 (I.ok.bs b o e).2 (I.ok.noex b o e)⟩
theorem aJ.bk(I:aJ X aA L H s):∀b o,X.base.get? b=some o->s.heap.get? b=some o:=λ b o e=>(I.bs b o e).1
theorem aJ.mod(I:aJ X aA L H s):Mod X.K X.mg X.base:=I.ok.mod
theorem aJ.kIn(I:aJ X aA L H s):X.K.In s.heap:=I.ok.mod.kin.keeps I.bk
theorem aJ.nolimit(I:aJ X aA L H s):s.heap.NoLimit:=I.ok.mod.nolimit.keeps I.bk
theorem aJ.fr(I:aJ X aA L H s):∃m,Fr X.base X.v.locals s.heap m:=
 let ⟨m,hn,_⟩:=I.loc
 ⟨m,hn,I.bk,qy I.ok.bsz I.ok.above⟩
theorem aJ.lt(I:aJ X aA L H s):X.v.locals<s.heap.n:=let ⟨_,hn,_⟩:=I.loc;hn.lt
theorem aJ.sz(I:aJ X aA L H s):X.s₀.heap.n<=s.heap.n:=qy I.ok.above (Q2 I.lt)
theorem aJ.nofs(I:aJ X aA L H s)(h:s.heap.n<=a):a∉X.fs:=λ J=>by
 obtain⟨_,o,q,_⟩:=I.ok.funs.mem J;exact absurd (qp (qm q) (qy I.sz h)) (y8 _)
theorem aJ.cne(I:aJ X aA L H s):∀x c,X.v.cells.lookup x=some c->c≠X.v.locals:=λ x c e z=>by
 obtain⟨v,o,O,hd⟩:=I.cell x c e;obtain⟨m,⟨b,es,a,J,q,_⟩,_⟩:=I.loc;grind
theorem aJ.funs(I:aJ X aA L H s):s.heap.FunFrames X.base X.outer:=by
 have all:∀(l:fP),(∀b∈gO l,b∈X.fs)->X.s₀.heap.FunFrames X.base l->s.heap.FunFrames X.base l:=by
  intro l;induction l with
  |nil=>intro _ _;trivial
  |cons a r h=>
   intro Y c;obtain⟨Z,⟨σ,o,O,d,f,hd⟩,g⟩:=c;have J:=Y σ (by grind[gO]);obtain⟨i,e⟩:=I.base.slot σ o f (I.ok.frf σ J) J λ z=>I.ok.exfs σ z J;exact⟨Z,⟨σ,_,O,d,e,hd⟩,h (λ b q=>Y b (by grind[gO])) g⟩
 exact all X.outer (λ _ q=>q) I.ok.funs
theorem aJ.stack(I:aJ X aA L H s):s.heap.FunFrames X.base X.stack:=by
 rcases I.ok.stk with e|⟨e,a⟩
 .rw[e];exact I.funs
 .rw[e];obtain⟨m,q,_⟩:=I.loc;refine .cons (by rw[I.ok.kind];decide) a q ?_ I.funs;exact yr (qy I.ok.bsz I.ok.above)
theorem aJ.stkSub(I:aJ X aA L H s):∀b∈gO X.stack,b∈X.v.locals::X.fs:=λ b q=>by
 rcases I.ok.stk with e|⟨e,a⟩
 .grind
 .grind[gO]
theorem aJ.stkFree(I:aJ X aA L H s):∀b∈gO X.stack,H b=none:=λ b q=>by
 rcases qt (I.stkSub b q)with e|q
 .rw[e];exact I.free
 .obtain⟨_,o,J,_⟩:=I.ok.funs.mem q;exact I.base.free b o J (I.ok.frf b q) λ z=>I.ok.exfs b z q
theorem aJ.step{g':Array GenState}{t':Nat}{d':Drawn}{ch:fV}(I:aJ X aA L H s)(Y:∀b∈ch,(b∈X.ex\/X.s₀.heap.n<=b)/\b≠X.v.locals/\(∀x c,X.v.cells.lookup x=some c->c≠b)/\∀p∈X.pn++aA,p.1≠b)(keep:∀b o,b≠X.v.locals->b∉X.fs->b∉ch->s.heap.get? b=some o->H b=none->h'.get? b=some o)(slot:∀b o,b≠X.v.locals->b∈X.fs->b∉ch->s.heap.get? b=some o->H b=none->∃sl,h'.get? b=some {o with slots:=sl})(free:∀b o,b∉ch->s.heap.get? b=some o->H b=none->H' b=none)(there:∀b o,b∉ch->s.heap.get? b=some o->∃o',h'.get? b=some o')(tups:∀b xs,H b=some (.t xs)->H' b=some (.t xs))(frzs:∀b o u,H b=some (.frz o u)->H' b=some (.frz o u))(tbls:∀b q,H b=some (.tbl q)->H' b=some (.tbl q))(ns:∀m,s.heap.Ns X.v.locals m->h'.Ns X.v.locals m)(af:eD X.p X.w H' h')(hg:AllBare g'):aJ X aA L H' {s with heap:=h',gens:=g',drawn:=d',toks:=t'}:=by
 have g:∀b o,X.s₀.heap.get? b=some o->b≠X.v.locals:=λ b o e=>qr (qp (qm e) I.ok.above);have Z:∀b o,X.s₀.heap.get? b=some o->b∉X.ex->b∉ch:=λ b o e hx a=>by
  rcases(Y b a).1 with z|z
  .exact hx z
  .exact absurd (qp (qm e) z) (y8 _)
 have O:∀x c,X.v.cells.lookup x=some c->∀v,s.heap.IsCell c v->h'.IsCell c v:=λ x c e v A=>by
  obtain⟨o,f,hd⟩:=A;have J:c∉ch:=λ z=>(Y c z).2.2.1 x c e rfl;by_cases h:c∈X.fs
  .obtain⟨sl,q⟩:=slot c o (I.cne x c e) h J f (I.freeC x c e);exact⟨_,q,hd⟩
  .exact⟨o,keep c o (I.cne x c e) h J f (I.freeC x c e),hd⟩
 refine⟨I.ok,I.os,hg,⟨λ b o e n a hx=>?_,λ b o e n a hx=>?_,λ b o e n hx=>?_,λ b o e hx=>?_,λ b xs e=>tups b xs (I.base.tups b xs e),λ b o xs e=>frzs b o xs (I.base.frzs b o xs e),λ b xs e=>tbls b xs (I.base.tbls b xs e)⟩,?_,λ x c e=>?_,?_,λ x c e=>?_,λ p j=>?_,af,I.len⟩
 .exact keep b o (g b o e) a (Z b o e hx) (I.base.keep b o e n a hx) (I.base.free b o e n hx)
 .obtain⟨sl,e1⟩:=I.base.slot b o e n a hx;obtain⟨B,e2⟩:=slot b _ (g b o e) a (Z b o e hx) e1 (I.base.free b o e n hx);exact⟨B,e2⟩
 .obtain⟨o',e1⟩:=I.base.there b o e hx;exact free b o' (Z b o e hx) e1 (I.base.free b o e n hx)
 .obtain⟨o',e1⟩:=I.base.there b o e hx;exact there b o' (Z b o e hx) e1
 .obtain⟨m,D,C⟩:=I.loc;refine⟨m,ns m D,λ i x v e1 e2 e3=>?_⟩;obtain⟨u,r,l⟩:=C i x v e1 e2 e3;refine⟨u,r,?_⟩;rcases l with l|⟨k,c,e,z⟩
  .exact .inl l
  .exact .inr ⟨k,c,e,O x c e _ z⟩
 .obtain⟨v,z⟩:=I.cell x c e;exact⟨v,O x c e v z⟩
 .obtain⟨m,⟨o,_,_,f,_⟩,_⟩:=I.loc;exact free _ o (λ z=>(Y _ z).2.1 rfl) f I.free
 .obtain⟨v,o,f,hd⟩:=I.cell x c e;exact free c o (λ z=>(Y c z).2.2.1 x c e rfl) f (I.freeC x c e)
 .obtain⟨e,n,t,y,d⟩:=I.pin p j;have J:p.1∉ch:=λ z=>(Y p.1 z).2.2.2 p j rfl;exact⟨keep p.1 p.2 t y J e n,free p.1 p.2 J e n,t,y,d⟩
theorem aJ.un(I:aJ X aA L H s)(u:Un X.fs [] H H' s.heap h')(Z:eD X.p X.w H' h'):aJ X aA L H' {s with heap:=h',toks:=t'}:=by
 obtain⟨m,⟨o,es,g,a,r⟩,_⟩:=id I.loc;obtain⟨j,c⟩:=u.any a I.free bP;exact I.step (ch:=[]) (λ _ z=>nomatch z) (λ b o _ Y _ e n=>u.keep b o e n Y bP) (λ b o _ Y _ e n=>u.slot b o e n Y bP) (λ b o _ e n=>u.free b o e n bP) (λ b o _ e=>u.there b o e bP) u.tups u.frzs u.tbls (λ h d=>by
  obtain⟨i,O,J,q,f⟩:=d;rw[a]at q;obtain rfl:=aW q;exact⟨_,O,J,c,f⟩) Z I.bare
theorem aJ.call(I:aJ X aA L H s)(u:Un (gO X.stack) ch H H' s.heap h')(aa:eD X.p X.w H' h')(hg:AllBare g')(O:∀b∈ch,(b∈X.ex\/X.s₀.heap.n<=b)/\b≠X.v.locals/\(∀x c,X.v.cells.lookup x=some c->c≠b)/\∀p∈X.pn++aA,p.1≠b):aJ X aA L H' {s with heap:=h',gens:=g',drawn:=d',toks:=t'}:=by
 obtain⟨m,⟨o,es,i,d,r⟩,_⟩:=id I.loc;obtain⟨l,a⟩:=u.any d I.free λ z=>(O _ z).2.1 rfl;exact I.step O (λ b o a f q e n=>u.keep b o e n (λ z=>(qt (I.stkSub b z)).elim a f) q) (λ b o _ _ q e n=>u.any e n q) (λ b o q e n=>u.free b o e n q) (λ b o q e=>u.there b o e q) u.tups u.frzs u.tbls (λ j g=>by
  obtain⟨k,Z,Y,J,h⟩:=g;rw[d]at J;obtain rfl:=aW J;exact⟨_,Z,Y,a,h⟩) aa hg
theorem aJ.turned{t':Nat}{it:Addr}(I:aJ X aA L H s)(k:∀b o,b≠it->s.heap.get? b=some o->h'.get? b=some o)(hn:H it=none)(Y:it≠X.v.locals)(h1:it∈X.ex\/X.s₀.heap.n<=it)(h2:∀x c,X.v.cells.lookup x=some c->c≠it)(h3:∀p∈X.pn++aA,p.1≠it):aJ X aA L H {s with heap:=h',toks:=t'}:=by
 have O:∀b u,H b=some u->b≠it:=λ b u e z=>by rw[z,hn]at e;simp at e
 refine I.step (g':=s.gens) (d':=s.drawn) (ch:=[it]) (λ b d=>?_) (λ b o _ _ J e _=>k b o (λ z=>J (by simp[z])) e) (λ b o _ _ J e _=>⟨o.slots,k b o (λ z=>J (by simp[z])) e⟩) (λ _ _ _ _ n=>n)
  (λ b o J e=>⟨o,k b o (λ z=>J (by simp[z])) e⟩) (λ _ _ e=>e) (λ _ _ _ e=>e) (λ _ _ e=>e) (λ m Z=>?_) (λ b u e=>?_) I.bare
 .have e:b=it:=by simpa using d
  subst e;exact⟨h1,Y,h2,h3⟩
 .obtain⟨o,es,a,f,r⟩:=Z;exact⟨o,es,a,k _ o (zy Y) f,r⟩
 .refine(I.hok b u e).stay (λ c v J q=>k c v ?_ q) (λ _ q=>q) (λ _ _ q=>q) λ _ _ q=>q;rcases J with z|z
  .rw[z];exact O b u e
  .exact O c _ z
theorem aJ.tok(I:aJ X aA L H s)(t:Nat):aJ X aA L H {s with toks:=t}:=I.un Un.refl I.hok
theorem aJ.kept(I:aJ X aA L H s)(k:∀b u,s.heap.get? b=some u->h'.get? b=some u):aJ X aA L H {s with heap:=h',toks:=t'}:=I.un (Un.kept k) (I.hok.kept k)
theorem aJ.laid(I:aJ X aA L H s)(k:∀b u,s.heap.get? b=some u->h'.get? b=some u)(q:s.heap.n<=a)(new:bC X.p X.w (upd H a o) h' a o):aJ X aA L (upd H a o) {s with heap:=h',toks:=t'}:=I.un (Un.laid k q (I.hok.fresh q)) (I.hok.laid k q new)
theorem aJ.write(I:aJ X aA L H s)(O:uB (H x))(J:e=x\/H e=some (.own x))(k:∀b u,b≠e->s.heap.get? b=some u->h'.get? b=some u)(q:∃u,h'.get? e=some u)(new:bC X.p X.w (upd H x o) h' x o):aJ X aA L (upd H x o) {s with heap:=h',toks:=t'}:=I.un (Un.write O J k q) (I.hok.write O J k q new)
theorem aJ.weak(I:aJ X aA L H s)(J:q.length=L.length)(w:∀(i:Nat)v,q[i]?=some (some v)->L[i]?=some (some v)):aJ X aA q H s:=
 ⟨I.ok,I.os,I.bare,I.base,let ⟨m,hn,hl'⟩:=I.loc;⟨m,hn,λ i x v e1 e2 e3=>hl' i x v e1 (w i v e2) e3⟩,I.cell,I.free,I.freeC,I.pin,I.hok,J.trans I.len⟩
theorem aJ.pins_of{pins':cK}(I:aJ X aA L H s)(h:∀p∈pins',s.heap.get? p.1=some p.2/\H p.1=none/\p.1≠X.v.locals/\p.1∉X.fs/\∀v,p.2.data≠.cell v):aJ X pins' L H s:=
 ⟨I.ok,I.os,I.bare,I.base,I.loc,I.cell,I.free,I.freeC,λ p q=>(qw q).elim (λ z=>I.pin p (yn _ z)) (h p),I.hok,I.len⟩
theorem BS{N:aM}(q:N.Nodup){i j:Nat}(a:N[i]?=some x)(b:N[j]?=some x):i=j:=by obtain⟨h1,e1⟩:=fC.mp a;obtain⟨h2,e2⟩:=fC.mp b;exact(List.getElem_inj q).mp (e1.trans e2.symm)
theorem HX{M:Model}{A:Around}{E:c8}{i:Nat}{x:Str}{v:V}{u:Value}{Q:Unit->Shared->Prop}(I:aJ X aA L H s)(hN:X.N.Nodup)(hi:X.N[i]?=some x)(hx:lP X.v.scope x)(r:aT v u)(h:∀s',aJ X aA (L.set i (some v)) H s'->(∃a,Heap.SameBut a s.heap s'.heap/\(a=X.v.locals\/X.v.cells.lookup x=some a))->Q () s')(hf:X.fn x=true\/gf X x):wpAny M A (storeName X.v x u) Q E s:=by
 refine bE (id I.loc) λ m D hl=>?_;have ah:(X.v.scope.kind==.class||(X.v.scope.kind==.module&&X.v.locals != X.v.globals))=false:=by rw[I.ok.kind];rfl
 have T:i<L.length:=by rw[I.len];exact(fC.mp hi).1
 have cne:=I.cne;have O:∀{a:Addr}{h':Heap},(∃o,s.heap.get? a=some o/\H a=none)->Heap.SameBut a s.heap h'->eD X.p X.w H h':=λ{a h'}ha J b ob e=>by
  refine bE ha λ _ _ Z=>?_;refine(I.hok b ob e).stay (λ c B Y q=>(J.2 c ?_).trans q) (λ _ q=>q) (λ _ _ q=>q) λ _ _ q=>q;rintro rfl;rcases Y with rfl|Y
  .rw[Z]at e;simp at e
  .rw[Z]at Y;simp at Y
 rcases hx with f|f
 .refine wpAny_storeName_local f D (λ h' ak J=>?_) ah;obtain⟨oL,_,_,aj,_⟩:=id D;refine h _ ⟨I.ok,I.os,I.bare,⟨λ b o e n g hx=>?_,λ b o e n g hx=>?_,I.base.free,λ b o e hx=>?_,I.base.tups,I.base.frzs,I.base.tbls⟩,⟨_,ak,λ j y S e1 e2 e3=>?_⟩,λ y c e=>?_,I.free,I.freeC,λ p F=>?_,O ⟨oL,aj,I.free⟩ J,by simpa using I.len⟩ ⟨_,J,.inl rfl⟩
  .exact(J.2 b (qr (qp (qm e) I.ok.above))).trans (I.base.keep b o e n g hx)
  .obtain⟨P,e1⟩:=I.base.slot b o e n g hx;exact⟨P,(J.2 b (qr (qp (qm e) I.ok.above))).trans e1⟩
  .obtain⟨K,e1⟩:=I.base.there b o e hx;exact⟨K,(J.2 b (qr (qp (qm e) I.ok.above))).trans e1⟩
  .by_cases l:j=i
   .subst l;rw[hi]at e1;obtain rfl:=aW e1;rw[z0 T]at e2;cases e2;exact⟨u,r,.inl ⟨f,by simp⟩⟩
   .rw[zj (zy l)]at e2;refine bE (hl j y S e1 e2 e3) λ R σ q=>?_;refine⟨R,σ,?_⟩;rcases q with⟨k,e⟩|⟨k,c,e,z⟩
    .refine .inl ⟨k,?_⟩;have:y≠x:=λ e=>l (BS hN e1 (e▸hi));simp[this,e]
    .exact .inr ⟨k,c,e,z.sameBut J (cne y c e)⟩
  .obtain⟨B,z⟩:=I.cell y c e;exact⟨B,z.sameBut J (cne y c e)⟩
  .obtain⟨e,n,t,G,d⟩:=I.pin p F;exact⟨(J.2 p.1 t).trans e,n,t,G,d⟩
 .have C:X.fn x=true:=by
   rcases hf with z|z
   .exact z
   .rw[z]at f;simp at f
  obtain⟨c,Y⟩:=I.ok.has x (.inl f);obtain⟨B,z⟩:=I.cell x c Y;refine wpAny_storeName_cell I.ok.kind f Y z (λ h' ρ J=>?_);refine bE (id z) λ oc W ag=>?_;refine h {s with heap:=h'} ⟨I.ok,I.os,I.bare,⟨λ b o e n g hx=>?_,λ b o e n g hx=>?_,I.base.free,λ b o e hx=>?_,I.base.tups,I.base.frzs,I.base.tbls⟩,⟨m,D.sameBut J (zy (cne x c Y)),λ j y S e1 e2 e3=>?_⟩,λ y c' e=>?_,I.free,I.freeC,λ p F=>?_,O ⟨oc,W,I.freeC x c Y⟩ J,by simpa using I.len⟩ ⟨c,J,.inr Y⟩
  .exact(J.2 b (qr (qp (qm e) (I.ok.cab x c C Y)))).trans (I.base.keep b o e n g hx)
  .obtain⟨P,e1⟩:=I.base.slot b o e n g hx;exact⟨P,(J.2 b (qr (qp (qm e) (I.ok.cab x c C Y)))).trans e1⟩
  .obtain⟨K,e1⟩:=I.base.there b o e hx;exact⟨K,(J.2 b (qr (qp (qm e) (I.ok.cab x c C Y)))).trans e1⟩
  .by_cases l:j=i
   .subst l;rw[hi]at e1;obtain rfl:=aW e1;rw[z0 T]at e2;cases e2;exact⟨u,r,.inr ⟨.inl f,c,Y,ρ⟩⟩
   .rw[zj (zy l)]at e2;refine bE (hl j y S e1 e2 e3) λ R σ q=>?_;refine⟨R,σ,?_⟩;rcases q with q|⟨k,c',e,z'⟩
    .exact .inl q
    .refine .inr ⟨k,c',e,z'.sameBut J ?_⟩;rintro rfl;exact l (BS hN e1 (I.ok.inj _ _ _ e Y▸hi))
  .by_cases ai:c'=c
   .subst ai;exact⟨_,ρ⟩
   .obtain⟨w2,z2⟩:=I.cell y c' e;exact⟨w2,z2.sameBut J ai⟩
  .obtain⟨e,n,t,G,d⟩:=I.pin p F;refine⟨(J.2 p.1 ?_).trans e,n,t,G,d⟩;intro q;rw[q,W]at e;have q':oc=p.2:=qi e;exact d B (by rw[<-q'];exact ag)
theorem Bj{M:Model}{A:Around}{E:c8}{i:Nat}{x:Str}{v:V}{u:Value}{Q:Unit->Shared->Prop}(I:aJ X aA L H s)(O:X.N.Nodup)(hi:X.N[i]?=some x)(hx:lP X.v.scope x)(r:aT v u)(h:∀s',aJ X aA (L.set i (some v)) H s'->Q () s')(q:X.fn x=true\/gf X x):wpAny M A (storeName X.v x u) Q E s:=
 HX I O hi hx r (λ s' J _=>h s' J) q
theorem aJ.call'(I:aJ X aA L H s)(O:s'.os=s.os)(u:Un (gO X.stack) ch H H' s.heap s'.heap)(q:eD X.p X.w H' s'.heap)(Y:AllBare s'.gens)(J:∀b∈ch,(b∈X.ex\/X.s₀.heap.n<=b)/\b≠X.v.locals/\(∀x c,X.v.cells.lookup x=some c->c≠b)/\∀p∈X.pn++aA,p.1≠b):aJ X aA L H' s':=by
 obtain⟨h',d,a,g,f⟩:=s';have e:=O;subst e;exact I.call u q Y J
end
abbrev XK:=Value->Option Addr->Hp->Prop
abbrev St:=List (Option V)
abbrev VK:=V->Hp->Prop
abbrev TE:=St->Hp->VK->Prop
abbrev TT:=St->Hp->(Bool->Hp->Prop)->Prop
abbrev TA:=St->Hp->(b_->Hp->Prop)->Prop
structure kI where
 nx:St->Hp->Prop
 rt:VK
 bk:St->Hp->Prop:=λ _ _=>False
 ct:St->Hp->Prop:=λ _ _=>False
abbrev TS:=kI->St->Hp->Prop
def EP(X:Cx)(aA:cK)(L:St)(Q:VK)(u:Value)(s':Shared):Prop:=∃v H',aJ X aA L H' s'/\aT v u/\Q v H'
def TP(X:Cx)(aA:cK)(L:St)(Q:Bool->Hp->Prop)(b:Bool)(s':Shared):Prop:=∃H',aJ X aA L H' s'/\Q b H'
def AP(X:Cx)(aA:cK)(L:St)(Q:b_->Hp->Prop)(us:bO)(s':Shared):Prop:=∃vs H',aJ X aA L H' s'/\aS vs us/\Q vs H'
def SP(X:Cx)(aA:cK)(D:kI)(f:Flow)(s':Shared):Prop:=
 match f with
 |.next=>∃q H',aJ X aA q H' s'/\D.nx q H'
 |.brk=>∃q H',aJ X aA q H' s'/\D.bk q H'
 |.cont=>∃q H',aJ X aA q H' s'/\D.ct q H'
 |.ret u=>∃v q H',aJ X aA q H' s'/\aT v u/\D.rt v H'
def PE(X:Cx)(e:Expr)(t:TE):Prop:=
 ∀(aA:cK)(s:Shared)(L:St)(H:Hp)(Q:VK),aJ X aA L H s->t L H Q->bV X.p X.w X.A (eval e X.v) (EP X aA L Q) X.xe s
def PT(X:Cx)(e:Expr)(t:TT):Prop:=
 ∀(aA:cK)(s:Shared)(L:St)(H:Hp)(Q:Bool->Hp->Prop),aJ X aA L H s->t L H Q->bV X.p X.w X.A (isTrue e X.v (eval e X.v)) (TP X aA L Q) X.xe s
def PW(X:Cx)(e:Expr)(t:TT):Prop:=
 ∀(q:Sem Value)(aA:cK)(s:Shared)(L:St)(H:Hp)(Q:Bool->Hp->Prop),aJ X aA L H s->t L H Q->bV X.p X.w X.A (isTrue e X.v q) (TP X aA L Q) X.xe s
theorem PW.pt(h:PW X e t):PT X e t:=h _
def PA(X:Cx)(es:e_)(t:TA):Prop:=
 ∀(pos:Pos)(aA:cK)(s:Shared)(L:St)(H:Hp)(Q:b_->Hp->Prop),aJ X aA L H s->t L H Q->bV X.p X.w X.A (spliced (backTo pos (starEach es X.v))) (AP X aA L Q) X.xe s
def PS(X:Cx)(st:Stmt)(t:TS):Prop:=
 ∀(aA:cK)(s:Shared)(L:St)(H:Hp)(D:kI),aJ X aA L H s->t D L H->bV X.p X.w X.A (exec st X.v) (SP X aA D) X.xe s
abbrev _root_.jU:=List Stmt
def eL(X:Cx)(st:jU)(t:TS):Prop:=
 ∀(aA:cK)(s:Shared)(L:St)(H:Hp)(D:kI),aJ X aA L H s->t D L H->bV X.p X.w X.A (execs st X.v) (SP X aA D) X.xe s
theorem eJ{A B C:α->β->Prop}{P:Prop}(h:∀x y,A x y->B x y->C x y->P)(e:∃x y,A x y/\B x y/\C x y):P:=by
 refine cM e λ x y a b c=>?_;exact h x y a b c
theorem bT(h:wpAny M A t Q E s)(J:∀a s,Q a s->q a s):wpAny M A t q E s:=zv h J λ _ _ x=>x
section
variable{X:Cx}
def Lb(i:Nat):TE:=λ L H Q=>∃v,L[i]?=some (some v)/\Q v H
def tC(v:V):TE:=λ _ H Q=>Q v H
theorem fT{i:Nat}{x:Str}{pos:Pos}(Z:X.N[i]?=some x)(O:gk X.v.scope x)(hd:df x)(J:fA x):PE X (.Name x pos) (Lb i):=by
 intro aA s L H Q I h;obtain⟨v,e,h⟩:=h;obtain⟨m,f,b⟩:=I.loc;obtain⟨u,r,l⟩:=b i x v Z e O;have O:EP X aA L Q u s:=⟨v,H,I,r,h⟩;rcases l with⟨q,d⟩|⟨q,c,a,hcell⟩
 .exact wpAny_Name (wpAny_loadName_local I.ok.kind q f d O) hd
 .rcases q with q|q
  .exact wpAny_Name (wpAny_loadName_cell I.ok.kind q a hcell O) hd
  .exact wpAny_Name (wpAny_loadName_free I.ok.kind q a hcell O J) hd
theorem uz:PE X (.Constant (.int i) j pos) (tC (.int i)):=λ _ _ _ H _ I h=>wpAny_Constant_int ⟨.int i,H,I.tok _,⟨_,rfl⟩,h⟩
theorem VF:PE X (.Constant (.bool b) j pos) (tC (.b b)):=λ _ _ _ H _ I h=>Constant_bool ⟨.b b,H,I,rfl,h⟩
theorem LY:PE X (.Constant .none j pos) (tC .n):=λ _ _ _ H _ I h=>Constant_none ⟨.n,H,I,rfl,h⟩
theorem uO:PE X (.Constant (.str x) j pos) (tC (.str x)):=λ _ _ _ H _ I h=>Calls.Constant_str ⟨.str x,H,I.tok _,⟨_,rfl⟩,h⟩
def Gl(X:Cx)(x:Str):Prop:=X.v.kindOf x=some .globalImplicit
theorem ua{E:c8}{aA:cK}{s:Shared}{L:St}{H:Hp}{x:Str}{u:Value}{pos:Pos}{Q:c8}(I:aJ X aA L H s)(J:Gl X x)(q:X.mg x=some u)(h:Q u s)(hd:df x):bV X.p X.w X.A (eval (.Name x pos) X.v) Q E s:=
 Calls.Name_function_global I.ok.kind J (Calls.loadGlobal_global (by rw[I.ok.glob];exact I.mod.glob.keeps I.bk) q h) hd
theorem rP(I:aJ X aA L H s)(O:Gl X x)(q:X.mg x=none)(J:bootBuiltins x=some u)(h:Q u s)(Y:x≠"__name__":=by decide)(hd:df x:=by decide):bV X.p X.w X.A (eval (.Name x pos) X.v) Q E s:=by
 obtain⟨Z,h1,h2⟩:=I.mod.blt;exact Calls.Name_function_global I.ok.kind O (Calls.loadGlobal_builtin (by rw[I.ok.glob];exact I.mod.glob.keeps I.bk) q (by rw[I.ok.blt];exact h1.keeps I.bk) ((h2 x Y).trans J) h) hd
theorem Tj{x:Str}{v:V}{u:Value}{pos:Pos}(J:Gl X x)(q:X.mg x=some u)(r:aT v u)(hd:df x):PE X (.Name x pos) (tC v):=
 λ _ _ _ H _ I h=>ua I J q ⟨v,H,I,r,h⟩ hd
theorem Tp(Y:Gl X x)(q:X.mg x=none)(J:bootBuiltins x=some u)(r:aT v u)(O:x≠"__name__":=by decide)(hd:df x:=by decide):PE X (.Name x pos) (tC v):=
 λ _ _ _ H _ I h=>rP I Y q J ⟨v,H,I,r,h⟩ O hd
variable{a b:Expr}{ta tb:TE}{pos:Pos}
def tB(t:TE):TT:=λ L H Q=>t L H λ x H1=>∃c,x=.b c/\Q c H1
variable{tA tB':TT}{rest:e_}
def dD(t u:TT):TT:=λ L H Q=>t L H λ c H1=>if c=true then u L H1 Q else Q false H1
def iG(t u:TT):TT:=λ L H Q=>t L H λ c H1=>if c=true then Q true H1 else u L H1 Q
def fU(t:TT):TT:=λ L H Q=>t L H λ c H1=>Q (!c) H1
theorem S7(q:PT X a tA):PW X (.BoolOp .And [a] pos) tA:=by
 intro O aA s L H Q I h;refine isTrue_and (bT (q aA s L H Q I h) λ c Y e=>?_);cases c with
 |true=>exact isTrue_and_nil e
 |false=>exact e
theorem Xk(q:PT X a tA):PW X (.BoolOp .Or [a] pos) tA:=by
 intro O aA s L H Q I h;refine isTrue_or (bT (q aA s L H Q I h) λ c Y e=>?_);cases c with
 |false=>exact isTrue_or_nil e
 |true=>exact e
theorem Xl(Z:PT X a tA)(Y:PW X (.BoolOp .And (b::rest) pos) tB'):PW X (.BoolOp .And (a::b::rest) pos) (dD tA tB'):=by
 intro e aA s L H Q I h;refine isTrue_and (bT (Z aA s L H _ I h) λ c d q=>?_);obtain⟨H1,J,O⟩:=q;cases c with
 |true=>exact Y e aA d L H1 Q J O
 |false=>exact⟨H1,J,O⟩
theorem VC(Z:PT X a tA)(Y:PW X (.BoolOp .Or (b::rest) pos) tB'):PW X (.BoolOp .Or (a::b::rest) pos) (iG tA tB'):=by
 intro e aA s L H Q I h;refine isTrue_or (bT (Z aA s L H _ I h) λ c d q=>?_);obtain⟨H1,J,O⟩:=q;cases c with
 |true=>exact⟨H1,J,O⟩
 |false=>exact Y e aA d L H1 Q J O
theorem Xo(q:PT X a tA):PT X (.UnaryOp .Not a pos) (fU tA):=by intro aA s L H Q I h;exact isTrue_not (q aA s L H (λ c H1=>Q (!c) H1) I h)
def Vt(ta tb:TE):TE:=λ L H Q=>ta L H λ x H1=>∃c,x=.b c/\if c=true then tb L H1 Q else Q (.b false) H1
def Wa(ta tb:TE):TE:=λ L H Q=>ta L H λ x H1=>∃c,x=.b c/\if c=true then Q (.b true) H1 else tb L H1 Q
theorem Xu(h:PE X a t):PE X (.BoolOp op [a] pos) t:=λ aA s L H Q I q=>BoolOp_one (h aA s L H Q I q)
theorem Xv(Y:PE X a ta)(O:PE X (.BoolOp .And (b::rest) pos) tb):PE X (.BoolOp .And (a::b::rest) pos) (Vt ta tb):=by
 intro aA s L H Q I h;refine BoolOp_and (bT (Y aA s L H _ I h) λ v e=>eJ λ x H1 J d q=>?_);obtain⟨c,rfl,q⟩:=q;subst d;refine jk ?_;cases c with
 |true=>exact O aA e L H1 Q J q
 |false=>exact cD (.b false) H1 J rfl q
theorem VE(Y:PE X a ta)(O:PE X (.BoolOp .Or (b::rest) pos) tb):PE X (.BoolOp .Or (a::b::rest) pos) (Wa ta tb):=by
 intro aA s L H Q I h;refine BoolOp_or (bT (Y aA s L H _ I h) λ v e=>eJ λ x H1 J d q=>?_);obtain⟨c,rfl,q⟩:=q;subst d;refine jk ?_;cases c with
 |false=>exact O aA e L H1 Q J q
 |true=>exact cD (.b true) H1 J rfl q
def tIf(t:TT)(ta tb:TE):TE:=λ L H Q=>t L H λ c H1=>if c=true then ta L H1 Q else tb L H1 Q
theorem IS(Z:PT X c tA)(ha:PE X a ta)(Y:PE X b tb):PE X (.IfExp c a b pos) (tIf tA ta tb):=by
 intro aA s L H Q I h;refine wpAny_IfExp (bT (Z aA s L H _ I h) λ d e q=>?_);obtain⟨H1,J,O⟩:=q;cases d with
 |true=>exact ha aA e L H1 Q J O
 |false=>exact Y aA e L H1 Q J O
end
def dz(K:Frag)(H:Hp)(a:Addr)(xs:b_):Prop:=
 Rd H a (.l xs)\/
  ∃(o:Obj)(q:g9)(n:Nat),K.lookup a=some o∧o.cls=.type "list"∧o.dict=none∧o.data=.seq q n∧q.size≤sizeLine∧aS xs q.toList
def d7(K:Frag)(H:Hp)(a:Addr)(xs:b_):Prop:=
 Rd H a (.t xs)\/
  ∃(o:Obj)(q:g9)(n:Nat),K.lookup a=some o∧o.cls=.type "tuple"∧o.dict=none∧o.data=.seq q n∧q.size≤sizeLine∧aS xs q.toList
def cf9:Value->Option V
 |.none=>some .n
 |.bool b=>some (.b b)
 |.int i _=>some (.int i)
 |.str x _=>some (.str x)
 |.bytes b _=>some (.byt b)
 |.float b _=>some (.flt b)
 |.ref a=>some (.ref a)
 |.type n=>some (.ty n)
 |_=>none
theorem aT.abs(r:aT x u):cf9 u=some x:=by
 cases x with
 |n=>subst r;rfl
 |b _=>subst r;rfl
 |int _=>obtain⟨t,rfl⟩:=r;rfl
 |str _=>obtain⟨t,rfl⟩:=r;rfl
 |byt _=>obtain⟨t,rfl⟩:=r;rfl
 |flt _=>obtain⟨t,rfl⟩:=r;rfl
 |ref _=>subst r;rfl
 |ty _=>subst r;rfl
theorem aT.inj(r:aT x u)(q:aT y u):x=y:=qi (r.abs.symm.trans q.abs)
theorem aS.inj:∀{xs ys:b_}{us:bO},aS xs us->aS ys us->xs=ys
 |[],ys,us,h,k=>by cases h;cases k;rfl
 |x::xs,ys,us,h,k=>by
  cases h with
  |cons r t=>
   cases k with
   |cons q a=>rw[r.inj q,aS.inj t a]
section
variable{X:Cx}{aA:cK}{L:St}{H:Hp}{s:Shared}{a:Addr}{xs ys:b_}
theorem dz.of{K:Frag}(h:H a=some (.l xs)):dz K H a xs:=.inl (.inl h)
theorem aJ.list(I:aJ X aA L H s)(h:dz X.K H a xs):∃q:bO,aS xs q/\PlainL s.heap a q.toArray/\xs.length<=sizeLine:=by
 rcases h with h|⟨o,q,n,c,b,hd,d,f,r⟩
 .obtain⟨z,q,n,r,e⟩:=h.ok I.hok;exact fj q r ⟨_,n,e,rfl,rfl,rfl⟩ z
 .refine fj q.toList r ⟨o,n,I.kIn a o c,b,hd,by simpa using d⟩ ?_;have e:=r.length;grind
theorem aJ.tuple(I:aJ X aA L H s)(h:d7 X.K H a xs):∃q:bO,aS xs q/\IsTup s.heap a q.toArray/\xs.length<=sizeLine:=by
 rcases h with h|⟨o,q,n,c,b,_,d,f,r⟩
 .obtain⟨z,q,r,p⟩:=h.ok I.hok;exact fj q r p.tup z
 .refine fj q.toList r ⟨o,I.kIn a o c,b,n,by simpa using d⟩ ?_;have e:=r.length;grind
theorem aJ.tupleN(I:aJ X aA L H s)(h:d7 X.K H a xs):∃q:bO,aS xs q/\eG s.heap a q.toArray/\xs.length<=sizeLine:=by
 rcases h with h|⟨o,q,n,c,b,hd,d,f,r⟩
 .obtain⟨z,q,r,p⟩:=h.ok I.hok;exact fj q r p z
 .refine fj q.toList r (⟨o,I.kIn a o c,b,⟨n,by simpa using d⟩,hd⟩) ?_;have e:=r.length;grind
theorem aJ.list_inj(I:aJ X aA L H s)(h:dz X.K H a xs)(h':dz X.K H a ys):xs=ys:=by
 obtain⟨q,r,⟨o,n,e,_,_,d⟩,_⟩:=I.list h;obtain⟨its',O,⟨f,Y,J,_,_,b⟩,_⟩:=I.list h';rw[e]at J;obtain rfl:=aW J;rw[d]at b;injection b with c _
 have:q=its':=by grind
 subst this;exact r.inj O
theorem aJ.tuple_inj(I:aJ X aA L H s)(h:d7 X.K H a xs)(h':d7 X.K H a ys):xs=ys:=by
 obtain⟨q,r,⟨o,e,_,n,d⟩,_⟩:=I.tuple h;obtain⟨its',O,⟨f,J,_,Y,b⟩,_⟩:=I.tuple h';rw[e]at J;obtain rfl:=aW J;rw[d]at b;injection b with c _
 have:q=its':=by grind
 subst this;exact r.inj O
end
noncomputable abbrev Cx.wish(X:Cx)(E:c8):Cx:={X with xe:=E}
abbrev Cx.nox(X:Cx):Cx:=X.wish λ _ _=>False
theorem Cx.Ok.wish{X:Cx}(ok:X.Ok)(E:c8):(X.wish E).Ok:=
 ⟨ok.mod,ok.kind,ok.glob,ok.blt,ok.above,ok.inj,ok.has,ok.cab,ok.hd,ok.frames,ok.stk,ok.exf,ok.bs,ok.bsz,ok.noex,ok.exfs,ok.funs,ok.frf,ok.tab⟩
theorem Cx.Ok.unwish{X:Cx}{E:c8}(ok:(X.wish E).Ok):X.Ok:=
 ⟨ok.mod,ok.kind,ok.glob,ok.blt,ok.above,ok.inj,ok.has,ok.cab,ok.hd,ok.frames,ok.stk,ok.exf,ok.bs,ok.bsz,ok.noex,ok.exfs,ok.funs,ok.frf,ok.tab⟩
section
variable{X:Cx}{aA:cK}{L:St}{H:Hp}{s:Shared}{E:c8}
theorem aJ.wish(I:aJ X aA L H s)(E:c8):aJ (X.wish E) aA L H s:=⟨I.ok.wish E,I.os,I.bare,I.base,I.loc,I.cell,I.free,I.freeC,I.pin,I.hok,I.len⟩
theorem aJ.unwish(I:aJ (X.wish E) aA L H s):aJ X aA L H s:=⟨I.ok.unwish,I.os,I.bare,I.base,I.loc,I.cell,I.free,I.freeC,I.pin,I.hok,I.len⟩
theorem SP.unwish(h:SP (X.wish E) aA D f s'):SP X aA D f s':=by
 cases f with
 |next=>refine dt h λ J H' I q=>?_;exact pG J H' I.unwish q
 |brk=>refine dt h λ J H' I q=>?_;exact pG J H' I.unwish q
 |cont=>refine dt h λ J H' I q=>?_;exact pG J H' I.unwish q
 |ret u=>refine eU h λ v J H' I r q=>?_;exact⟨v,J,H',I.unwish,r,q⟩
theorem PE.nox(h:PE X.nox e t):PE X e t:=λ aA s L H Q I O=>
 zv (h aA s L H Q (I.wish _) O) (λ _ _⟨v,H',J,r,q⟩=>⟨v,H',J.unwish,r,q⟩) λ _ _ z=>False.elim z
theorem PT.nox(h:PT X.nox e t):PT X e t:=λ aA s L H Q I O=>
 zv (h aA s L H Q (I.wish _) O) (λ _ _⟨H',J,q⟩=>⟨H',J.unwish,q⟩) λ _ _ z=>False.elim z
theorem eL.nox{st:jU}(h:eL X.nox st t):eL X st t:=λ aA s L H D I J=>
 zv (h aA s L H D (I.wish _) J) (λ _ _ q=>q.unwish) λ _ _ z=>False.elim z
end
section
variable{st:Stmt}{rest:jU}
def Vn:TS:=λ D L H=>D.nx L H
def V9(t u:TS):TS:=λ D L H=>t {D with nx:=u D} L H
theorem US:eL X [] Vn:=λ _ _ L H _ I h=>Zj ⟨L,H,I,h⟩
theorem wg(h1:PS X st t)(h2:eL X rest u):eL X (st::rest) (V9 t u):=by
 intro aA s L H D I h;refine wpAny_execs_cons (bT (h1 aA s L H {D with nx:=u D} I h) λ f Z q=>?_);cases f with
 |next=>
  obtain⟨O,H',Y,q⟩:=q;exact h2 aA Z O H' D Y q
 |ret v=>exact q
 |brk=>exact q
 |cont=>exact q
theorem qX(h1:PS X st t):eL X [st] t:=by
 intro aA s L H D I h;refine wpAny_execs_cons (bT (h1 aA s L H D I h) λ f O q=>?_);cases f with
 |next=>exact Zj q
 |ret v=>exact q
 |brk=>exact q
 |cont=>exact q
theorem aJ.quiet(I:aJ X aA L H s):interactive X.v=false:=by simp[interactive,I.ok.kind]
def Vo(te:TE):TS:=λ D L H=>te L H λ _ H1=>D.nx L H1
theorem KI(q:PE X e te)(Y:sU X e none pos.line false):PS X (.Expr e pos) (Vo te):=by intro aA s L H D I h;exact wpAny_Expr_any (bT (q aA s L H _ I h) λ v b=>eJ λ x H1 J a O=>⟨L,H1,J,O⟩) I.quiet Y
def V_(te:TE):TS:=λ D L H=>te L H D.rt
theorem zL(q:PE X e te):PS X (.Return (some e) pos) (V_ te):=by intro aA s L H D I h;exact wpAny_Return_some (bT (q aA s L H _ I h) λ v a=>eJ λ x H1 Y q O=>⟨x,L,H1,Y,q,O⟩)
def Wd(c:TT)(t u:TS):TS:=λ D L H=>c L H λ b H1=>if b=true then t D L H1 else u D L H1
theorem JW(Y:PT X c tc)(ha:eL X a t)(Z:eL X b u):PS X (.If c a b pos) (Wd tc t u):=by
 intro aA s L H D I h;refine wpAny_If (bT (Y aA s L H _ I h) λ d e q=>?_);obtain⟨H1,J,O⟩:=q;cases d with
 |true=>exact ha aA e L H1 D J O
 |false=>exact Z aA e L H1 D J O
end
abbrev TG:=V->St->Hp->(St->Hp->Prop)->Prop
abbrev mI:=b_->St->Hp->(St->Hp->Prop)->Prop
def PG(X:Cx)(q:Expr)(t:TG):Prop:=
 ∀(aA:cK)(s:Shared)(L:St)(H:Hp)(v:V)(u:Value)(Q:St->Hp->Prop),aJ X aA L H s->aT v u->t v L H Q->bV X.p X.w X.A (assign q X.v u) (λ _ s'=>∃J H',aJ X aA J H' s'/\Q J H') X.xe s
def rJ(X:Cx)(ts:e_)(t:mI):Prop:=
 ∀(aA:cK)(s:Shared)(L:St)(H:Hp)(vs:b_)(us:bO)(Q:St->Hp->Prop),aJ X aA L H s->aS vs us->t vs L H Q->bV X.p X.w X.A (assignInOrder ((assignEach ts X.v).map (·.2)) us) (λ _ s'=>∃q H',aJ X aA q H' s'/\Q q H') X.xe s
abbrev K9:=V->V->V->Hp->(Hp->Prop)->Prop
def LB(X:Cx)(t:K9):Prop:=
 ∀(aA:cK)(s:Shared)(L:St)(H:Hp)(o i v:V)(q J u:Value)(Q:Hp->Prop),aJ X aA L H s->aT o q->aT i J->aT v u->t o i v H Q->bV X.p X.w X.A (setItem q J u) (λ _ s'=>∃H',aJ X aA L H' s'/\Q H') X.xe s
section
def D0(i:Nat):TG:=λ v L H Q=>Q (L.set i (some v)) H
theorem KL{i:Nat}{x:Str}(O:X.N.Nodup)(hi:X.N[i]?=some x)(hx:lP X.v.scope x)(q:X.fn x=true\/gf X x):PG X (.Name x pos) (D0 i):=by intro aA s L H v u Q I r h;exact wpAny_assign_Name (Bj I O hi hx r (λ s' J=>⟨_,H,J,h⟩) q)
def cc6:mI:=λ vs L H Q=>vs=[]/\Q L H
def VS(t:TG)(u:mI):mI:=λ vs L H Q=>∃v r,vs=v::r/\t v L H λ q H'=>u r q H' Q
theorem Ti:rJ X [] cc6:=by intro aA s L H a us Q I r h;obtain⟨e,h⟩:=h;subst e;cases r;exact assignInOrder_nil ⟨L,H,I,h⟩
theorem R1{e:Expr}{es:e_}{t:TG}{u:mI}(h1:PG X e t)(h2:rJ X es u)(hs:(assignEach (e::es) X.v).map (·.2)=assign e X.v::(assignEach es X.v).map (·.2)):rJ X (e::es) (VS t u):=by
 intro aA s L H c us Q I r h;obtain⟨v,b,e1,h⟩:=h;subst e1;cases r with
 |cons r Y=>
  rw[hs];refine assignInOrder_cons (bT (h1 aA s L H _ _ _ I r h) λ _ a q=>?_);refine dt q λ J H1 O Z=>?_;exact h2 aA a J H1 _ _ Q O Y Z
def cc3(K:Frag)(n:Nat)(t:mI):TG:=λ v L H Q=>∃a xs,v=.ref a/\d7 K H a xs/\xs.length=n/\t xs L H Q
theorem Xs{es:e_}{k:Nat}{t:mI}{n:Nat}(Y:X.c=true)(h:rJ X es t)(hn:(assignEach es X.v).length=n)(q:(assignEach es X.v).findIdx? (·.1)=none):PG X (.Tuple es k pos) (cc3 X.K n t):=by
 intro aA s L H v u Q I r J;obtain⟨a,xs,e1,f,d,J⟩:=J;subst e1;subst r;refine a_ (I.tuple f) λ Z O g i=>?_;refine assign_Tuple_tuple (I.ok.hd Y) g (by simp[hn,<-d,O.length]) q λ h' hx=>?_;have c:aJ X aA L H {s with heap:=h'}:=I.kept (t':=s.toks) λ b o e=>hx b o (qr (qm e)) e;exact h aA _ L H xs _ Q c (by simpa using O) J
def cc5(to q:TE)(t:K9):TG:=λ v L H Q=>to L H λ o H1=>q L H1 λ i H2=>t o i v H2 λ J=>Q L J
theorem Jt(ho:PE X o to)(hi:PE X i Y)(hs:LB X t)
  (ha:∀v,assign (.Subscript o i pos) X.v v=(do
   let q<-holding [v] (eval o X.v)
   let J<-holding [v,q] (eval i X.v)
   standAt pos
   holding [v,q,J] (setItem q J v)
   release [v,q,J] []):=by intro _;rfl):PG X (.Subscript o i pos) (cc5 to Y t):=by
 intro aA s L H v u Q I r h;rw[ha];refine qb (zr (bT (ho aA s L H _ I h) λ q k=>eJ λ x H1 b g d=>?_));refine qb (zr (bT (hi aA k L H1 _ b d) λ J l=>eJ λ y H2 c j e=>?_));refine qb (Qq (qb (zr (bT (hs aA l L H2 x y v q J u _ c g j r e) λ _ m O=>?_))));obtain⟨a,Z,f⟩:=O;exact wpAny_release ⟨L,a,Z,f⟩
def Lc(te:TE)(g:TG):TS:=λ D L H=>te L H λ x H1=>g x L H1 D.nx
theorem Dw(O:PE X e te)(J:PG X tg g)(hs:swapsWithSole [tg] e pos.line X.v=pure false:=by rfl)(hw:swappedStores [tg] e X.v=pure none:=by rfl)(h1:(assignEach [tg] X.v).map (·.2)=[assign tg X.v]:=by rfl):PS X (.Assign [tg] e pos) (Lc te g):=by
 intro aA s L H D I h;refine wpAny_Assign_stores (bT (O aA s L H _ I h) λ v b=>eJ λ x H1 Y a Z=>?_) hs hw;rw[h1];exact bT (J aA b L H1 x v _ Y a Z) λ _ c q=>q
theorem ri(O:X.N.Nodup)(hi:X.N[i]?=some x)(hx:lP X.v.scope x)(q:PE X e te)(hs:sU X e (some (.Name x pos')) pos.line false:=by rfl)(Y:X.fn x=true\/gf X x:=by first|exact jW|assumption):PS X (.Assign [.Name x pos'] e pos) (Lc te (D0 i)):=by
 intro aA s L H D I h;refine wpAny_Assign_Name (bT (q aA s L H _ I h) λ v c=>eJ λ y H1 J b Z=>?_) hs;exact Bj J O hi hx b (λ d a=>⟨_,H1,a,Z⟩) Y
end
section
def Xe(c:TT)(tb:TS):TS:=λ D L H=>∃W:Nat->St->Hp->Prop,(∃m,W m L H)/\∀m L H,W m L H->c L H λ b H1=>if b=true then ∃N:St->Hp->Prop,(∀q H',N q H'->∃J,J<m/\W J q H')/\tb {D with nx:=N,ct:=N,bk:=D.nx} L H1 else D.nx L H1
theorem RY(hp:PassesOwn (model X.p X.w) X.A X.v X.xe)(hc:PT X c tc)(hb:eL X O tb):PS X (.While c O [] pos) (Xe tc tb):=by
 intro aA s L H D I h;obtain⟨W,⟨r,x⟩,turn⟩:=h;refine wpAny_While (codeAny_whileLoop (λ n s'=>∃m H',aJ X aA m H' s'/\W n m H') ?_ r ⟨L,H,I,x⟩);rintro n t ⟨J,H1,p,y⟩;refine j8 hp (bT (hc aA t J H1 _ p (turn n J H1 y)) λ b u Y=>?_);obtain⟨H2,l,a⟩:=Y;cases b with
 |true=>
  obtain⟨N,o,a⟩:=a;rw[if_pos rfl];refine j8 hp (bT (hb aA u J H2 _ l a) λ f z d=>?_);cases f with
  |next=>
   refine dt d λ q Z e j=>?_;obtain⟨i,g,k⟩:=o q Z j;exact⟨i,g,q,Z,e,k⟩
  |cont=>
   refine dt d λ q Z e j=>?_;obtain⟨i,g,k⟩:=o q Z j;exact⟨i,g,q,Z,e,k⟩
  |brk=>exact d
  |ret v=>exact d
 |false=>
  rw[if_neg zh];exact Zj ⟨J,H2,l,a⟩
end
structure It where
 go:Nat->Hp->Prop
 yld:Nat->Hp->V->Hp->Prop
 stop:Nat->Hp->Prop
def eA(X:Cx)(aA:cK)(H:Hp)(b:Addr):Prop:=
 H b=none/\b≠X.v.locals/\b∉X.fs/\(b∈X.ex\/X.s₀.heap.n<=b)/\(∀x c,X.v.cells.lookup x=some c->c≠b)/\∀p∈X.pn++aA,p.1≠b
theorem aJ.fpOk(I:aJ X aA L H s)(J:s.heap.n<=b)(Y:H' b=none):eA X aA H' b:=by
 refine⟨Y,jz (qp I.lt J),I.nofs J,.inr (qy I.sz J),λ x c e z=>?_,λ p O z=>?_⟩
 .obtain⟨v,q⟩:=I.cell x c e;exact absurd (qp q.lt (by rw[z];exact J)) (y8 _)
 .exact absurd (qp (qm (I.pin p O).1) (by rw[z];exact J)) (y8 _)
structure gX(P:Program)(w:World)(K:Frag)(tg:Expr)(J:It)(fp:fV)(it:Addr)(tn:Nat->Heap->Prop):Prop where
 mem:it∈fp
 obj:∀i h,tn i h->∀b∈fp,∃o,h.get? b=some o/\∀v,o.data≠.cell v
 keep:∀i h h',tn i h->(∀b∈fp,∀o,h.get? b=some o->h'.get? b=some o)->tn i h'
 item:∀(X:Cx),X.p=P->X.w=w->X.K=K->X.c=true->∀(i:Nat)(aA:cK)(s:Shared)(L:St)(H:Hp)(E:c8),aJ X aA L H s->(∀b∈fp,eA X aA H b)->tn i s.heap->J.go i H->wpAny (model P w) X.A (pyNext (.ref it)) (λ r s1=>∃u,r=some u/\wpAny (model P w) X.A (letOwnedTupleGo tg (.ref it) u) (λ _ s2=>∃x H',aJ X aA L H' s2/\aT x u/\J.yld i H x H'/\tn (i+1) s2.heap/\∀b∈fp,H' b=none) E s1) E s
 done:∀(X:Cx),X.p=P->X.w=w->X.K=K->X.c=true->∀(i:Nat)(aA:cK)(s:Shared)(L:St)(H:Hp)(E:c8),aJ X aA L H s->(∀b∈fp,eA X aA H b)->tn i s.heap->J.stop i H->wpAny (model P w) X.A (pyNext (.ref it)) (λ r s1=>r=none/\aJ X aA L H s1) E s
 self:∀(A:Around)(i:Nat)(s:Shared)(Q:c8)(E:c8),tn i s.heap->Q (.ref it) s->wpAny (model P w) A (pyIter (.ref it)) Q E s
abbrev TI:=St->Hp->(It->Hp->Prop)->Prop
def HM(X:Cx)(aA:cK)(L:St)(tg:Expr)(R:It->Hp->Prop)(q:Value)(s2:Shared):Prop:=
 ∃(it:Addr)(O:fV)(Y:Nat->Heap->Prop)(J:It)(H':Hp),q=.ref it/\aJ X aA L H' s2/\gX X.p X.w X.K tg J O it Y/\Y 0 s2.heap/\(∀b∈O,eA X aA H' b)/\R J H'
def PI(X:Cx)(tg iter:Expr)(q:TI):Prop:=
 ∀(aA:cK)(s:Shared)(L:St)(H:Hp)(R:It->Hp->Prop),aJ X aA L H s->q L H R->bV X.p X.w X.A (eval iter X.v) (λ v s1=>bV X.p X.w X.A (pyIter v) (HM X aA L tg R) X.xe s1) X.xe s
theorem uS(J:s.heap.get? it=some o)(Y:o.cls=.type n)(hd:o.data=.fields vs)(O:["enumerate","zip","dict_itemiterator","dict_reverseitemiterator","odict_iterator","itertools.zip_longest","itertools.pairwise"].contains n=false)(q:Q () s):wpAny M A (letOwnedTupleGo tg (.ref it) u) Q E s:=by
 cases tg<;>first
  |exact qc q
  |(cases u<;>first
    |exact qc q
    |(refine qb (wpAny_load J ?_);rw[Y,hd];show wpAny M A (if(["enumerate","zip","dict_itemiterator","dict_reverseitemiterator","odict_iterator","itertools.zip_longest","itertools.pairwise"].contains n&&vs[0]?==some (rawInt _))=true then _ else _) Q E s;rw[if_neg (by grind)];exact qc q))
noncomputable def xQ(K:Frag)(a:Addr):It:=
 ⟨λ i H=>∃xs x,dz K H a xs/\xs[i]?=some x,λ i H x H'=>H'=H/\∀xs,dz K H a xs->xs[i]?=some x,λ i H=>∃xs,dz K H a xs/\xs.length<=i⟩
noncomputable def BF(K:Frag)(a:Addr):It:=
 ⟨λ i H=>∃xs x,d7 K H a xs/\xs[i]?=some x,λ i H x H'=>H'=H/\∀xs,d7 K H a xs->xs[i]?=some x,λ i H=>∃xs,d7 K H a xs/\xs.length<=i⟩
def xR(lo:Int)(n:Nat):It:=⟨λ i _=>i<n,λ i H x H'=>H'=H/\x=.int (lo+i),λ i _=>n<=i⟩
theorem UI{K:Frag}(a it:Addr):gX P w K tg (xQ K a) [it] it (λ i h=>h.IsListIter it a i)where
 mem:=bP
 obj:=λ i h st b q=>by
  have e:b=it:=by simpa using q
  subst e;refine a_ st λ o e c d=>?_;exact⟨o,e,λ v z=>by rw[d]at z;simp at z⟩
 keep:=λ i h h' st k=>st.at λ o e=>k it bP o e
 item:=by
  intro X n t m A i aA s L H E I O st r;subst n t m;refine dt r λ xs x Y hx=>?_;refine a_ (I.list Y) λ C y p M=>?_;obtain⟨u,G,N⟩:=y.get hx;refine fY (O it bP) λ f g F j l Z=>?_;refine Ye st p.isList (by simpa using G) λ h' J Q=>?_;have B:=I.turned (t':=s.toks) (λ b o q e=>(Q.2 b q).trans e) f g j l Z;refine a_ (id J) λ o e c d=>?_;exact⟨u,rfl,uS e c d aQ ⟨x,H,B,N,⟨rfl,λ ys σ=>by rw[I.list_inj σ Y];exact hx⟩,J,λ b q=>(O b q).1⟩⟩
 done:=by
  intro X n t m A i aA s L H E I O st r;subst n t m;obtain⟨xs,Y,hx⟩:=r;refine a_ (I.list Y) λ C y p M=>?_;refine fY (O it bP) λ f g F j l Z=>?_;have R:=y.length;exact Yp (I.ok.hd A) st p.isList A0 λ h' D=>⟨rfl,I.turned (λ b o q e=>D b o q e) f g j l Z⟩
 self:=λ _ _ _ _ _ st h=>wpAny_pyIter_listiter st h
theorem Uj{K:Frag}(a it:Addr):gX P w K tg (BF K a) [it] it (λ i h=>h.IsTupleIter it a i)where
 mem:=bP
 obj:=λ i h st b q=>by
  have e:b=it:=by simpa using q
  subst e;refine a_ st λ o e c d=>?_;exact⟨o,e,λ v z=>by rw[d]at z;simp at z⟩
 keep:=λ i h h' st k=>st.at λ o e=>k it bP o e
 item:=by
  intro X r y n B i aA s L H E I Y st t;subst r y n;refine dt t λ xs x Z hx=>?_;refine a_ (I.tuple Z) λ J A p M=>?_;obtain⟨u,G,N⟩:=A.get hx;refine fY (Y it bP) λ f g F j l m=>?_;refine Z9 st (show s.heap.IsTuple a J.toArray from p) (by simpa using G) λ h' O Q=>?_;have C:=I.turned (t':=s.toks) (λ b o q e=>(Q.2 b q).trans e) f g j l m;refine a_ (id O) λ o e c d=>?_;exact⟨u,rfl,uS e c d aQ ⟨x,H,C,N,⟨rfl,λ ys σ=>by rw[I.tuple_inj σ Z];exact hx⟩,O,λ b q=>(Y b q).1⟩⟩
 done:=by
  intro X r y n B i aA s L H E I Y st t;subst r y n;obtain⟨xs,Z,hx⟩:=t;refine a_ (I.tuple Z) λ J A p M=>?_;refine fY (Y it bP) λ f g F j l m=>?_;have R:=A.length;exact Yd (I.ok.hd B) st (show s.heap.IsTuple a J.toArray from p) A0 λ h' D=>⟨rfl,I.turned (λ b o q e=>D b o q e) f g j l m⟩
 self:=λ _ _ _ _ _ st h=>wpAny_pyIter_tupleiter st h
theorem Uk{K:Frag}(it:Addr)(lo:Int)(n:Nat):gX P w K tg (xR lo n) [it] it (λ i h=>IsRangeIter h it (lo+(i:Nat)*1) ((n:Int)-(i:Nat)) 1)where
 mem:=bP
 obj:=λ i h st b q=>by
  have e:b=it:=by simpa using q
  subst e;exact⟨_,st,λ v z=>by
grind⟩
 keep:=λ i h h' st k=>k it bP _ st
 item:=by
  intro X g m f j i aA s L H E I O st l;subst g m f;refine fY (O it bP) λ a c u Y d Z=>?_;have W:=Walks.range (prog:=X.p) (w:=X.w) (I.ok.hd j) it lo 1 n;refine W.item i s _ _ l st λ v h' y x J kk=>?_;obtain⟨t,rfl⟩:=x;have p:aJ X aA L H {s with heap:=h',toks:=y}:=I.turned (λ b o q e=>kk b o (by simpa using q) e) a c Y d Z;refine⟨_,rfl,uS J rfl rfl aQ ⟨.int (lo+i),H,p,⟨t,?_⟩,⟨rfl,rfl⟩,J,λ b q=>(O b q).1⟩⟩;rw[Z7]
 done:=by
  intro X g m f j i aA s L H E I O st l;subst g m f;refine fY (O it bP) λ a c u Y d Z=>?_;exact wpAny_pyNext_range_end (I.ok.hd j) st (by have:n<=i:=l;lia) λ h' r=>⟨rfl,I.turned (λ b o q e=>r b o q e) a c Y d Z⟩
 self:=λ _ _ _ _ _ st h=>wpAny_pyIter_rangeiter st h
section
def L_(K:Frag)(tl:TE):TI:=λ L H R=>tl L H λ x H1=>∃a,x=.ref a/\(∃xs,dz K H1 a xs)/\R (xQ K a) H1
def Lp(K:Frag)(tl:TE):TI:=λ L H R=>tl L H λ x H1=>∃a,x=.ref a/\(∃xs,d7 K H1 a xs)/\R (BF K a) H1
theorem CN(Y:PE X l tl):PI X tg l (L_ X.K tl):=by
 intro aA s L H R I h;refine bT (Y aA s L H _ I h) λ v c=>eJ λ x H1 J f d=>?_;obtain⟨a,e,⟨xs,Z⟩,q⟩:=d;subst e;subst f;obtain⟨g,j,p,i⟩:=J.list Z;refine wpAny_pyIter_list p.isList ?_;refine⟨c.heap.n,[c.heap.n],_,_,H1,rfl,J.kept λ b o e=>qd _ e,UI a _,⟨_,qk _ rfl,rfl,rfl⟩,λ b O=>?_,q⟩;have e:b=c.heap.n:=by simpa using O
 subst e;exact J.fpOk (qj _) (J.hok.fresh (qj _))
theorem Xp(Z:PE X l tl):PI X tg l (Lp X.K tl):=by
 intro aA s L H R I h;refine bT (Z aA s L H _ I h) λ v c=>eJ λ x H1 J g f=>?_;obtain⟨a,e,⟨xs,d⟩,q⟩:=f;subst e;subst g;obtain⟨O,j,p,i⟩:=J.tuple d;refine wpAny_pyIter_tuple (show c.heap.IsTuple a O.toArray from p) ?_;refine⟨c.heap.n,[c.heap.n],_,_,H1,rfl,J.kept λ b o e=>qd _ e,Uj a _,⟨_,qk _ rfl,rfl,rfl⟩,λ b Y=>?_,q⟩;have e:b=c.heap.n:=by simpa using Y
 subst e;exact J.fpOk (qj _) (J.hok.fresh (qj _))
theorem RQ{lo hi:Int}(I:aJ X aA L H s)(h1:-(2^62)<=lo)(h2:lo<2^62)(O:-(2^62)<=hi)(Z:hi<2^62)(q:R (xR lo (hi-lo).toNat) H):bV X.p X.w X.A (pyIter (.ref s.heap.n)) (HM X aA L tg R) E {s with heap:=s.heap.push {cls:=.type "range",data:=.fields #[.int lo t,.int hi u,.int 1 v]},toks:=tk}:=by
 refine wpAny_pyIter_range (IsRange.new ..) (small_one h1 h2 O Z) ?_;have J:aJ X aA L H {s with heap:=s.heap.push {cls:=.type "range",data:=.fields #[.int lo t,.int hi u,.int 1 v]},toks:=tk}:=I.kept λ b o e=>qd _ e;refine⟨(s.heap.push {cls:=.type "range",data:=.fields #[.int lo t,.int hi u,.int 1 v]}).objs.size,[(s.heap.push {cls:=.type "range",data:=.fields #[.int lo t,.int hi u,.int 1 v]}).objs.size],_,_,H,rfl,J.kept λ b o e=>qd _ e,Uk _ lo (hi-lo).toNat,?_,λ b Y=>?_,q⟩
 .have e1:lo+((0:Nat):Int)*1=lo:=bP;have e2:(((hi-lo).toNat:Nat):Int)-((0:Nat):Int)=Builtin.Range.rangeSize lo hi 1:=by rw[rangeSize_one];split<;>lia
  rw[e1,e2];exact qk _ rfl
 .have e:b=(s.heap.push {cls:=.type "range",data:=.fields #[.int lo t,.int hi u,.int 1 v]}).objs.size:=by simpa using Y
  subst e;exact J.fpOk (qj _) (J.hok.fresh (qj _))
def VR(ta:TA):TI:=λ L H R=>ta L H λ vs H1=>∃j:Int,vs=[.int j]/\-(2^62)<=j/\j<2^62/\R (xR 0 j.toNat) H1
theorem UY{a:Expr}{ta:TA}{p pos:Pos}(Y:Gl X "range")(O:X.mg "range"=none)(ha:PA X [a] ta)(hs:mX X a):PI X tg (.Call (.Name "range" p) [a] [] pos) (VR ta):=by
 intro aA s L H R I h;refine Call_ (rP I Y O boot_range (Zo (bT (ha pos aA s L H _ I h) λ us f=>eJ λ g H1 Z c J=>?_) hs rfl));obtain⟨j,e,J,b,q⟩:=J;subst e;cases c with
 |cons r d=>
  cases d;obtain⟨t,rfl⟩:=r;exact call_range_1 (RQ Z aE aE J b (by simpa using q))
def We(Z:TI)(g:TG)(tb:TS):TS:=λ D L H=>Z L H λ J H1=>∃W:Nat->Nat->St->Hp->Prop,(∃m,W 0 m L H1)/\∀i m L H,W i m L H->(J.stop i H/\D.nx L H)\/(J.go i H/\∃N:St->Hp->Prop,(∀q H',N q H'->∃Y,Y<m/\W (i+1) Y q H')/\∀x H',J.yld i H x H'->g x L H' λ O H2=>tb {D with nx:=N,ct:=N,bk:=D.nx} O H2)
def uN(q:fV)(h:Heap):cK:=q.filterMap λ b=>(h.get? b).map λ o=>(b,o)
theorem A6(J:b∈q)(e:h.get? b=some o):(b,o)∈uN q h:=List.mem_filterMap.mpr ⟨b,J,by rw[e];rfl⟩
theorem U3(Y:p∈uN J h):p.1∈J/\h.get? p.1=some p.2:=by
 obtain⟨b,Z,e⟩:=List.mem_filterMap.mp Y;cases q:h.get? b with
 |none=>rw[q]at e;cases e
 |some o=>
  rw[q]at e;grind
theorem aJ.pinned(I:aJ X aA L H s)(hf:∀b∈q,eA X aA H b)(ho:∀b∈q,∃o,s.heap.get? b=some o/\∀v,o.data≠.cell v):aJ X (aA++uN q s.heap) L H s:=
 I.pins_of λ p Y=>(qw Y).elim (λ z=>I.pin p (qo _ z)) λ z=>by
  obtain⟨O,e⟩:=U3 z;obtain⟨Z,a,c,_⟩:=hf p.1 O;grind
theorem aJ.unpinned{aA J:cK}{L:St}{H:Hp}{s:Shared}(I:aJ X (aA++J) L H s):aJ X aA L H s:=I.pins_of λ p q=>I.pin p (qo _ (yn _ q))
theorem u_{iter:Expr}{af:jU}{wi:TI}{g:TG}{tb:TS}{pos:Pos}(hp:PassesOwn (model X.p X.w) X.A X.v X.xe)(hc:X.c=true)(hi:PI X tg iter wi)(hg:PG X tg g)(Z:eL X af tb)(hs:nR X iter):PS X (.For tg iter af [] pos) (We wi g tb):=by
 intro aA s L H D I h;refine wpAny_For (bT (hi aA s L H _ I h) λ v s1 h1=>bT h1 λ am s2 h2=>?_) hs;obtain⟨it,p,R,J,H2,e,ρ,T,ak,M,W,⟨m0,w0⟩,turn⟩:=h2;subst e;have z:∀{H':Hp},(∀b∈p,H' b=none)->∀b∈p,eA X aA H' b:=λ hn b Z=>⟨hn b Z,(M b Z).2⟩
 refine codeAny_forLoop_any (λ n s'=>∃i l H',aJ X aA l H' s'/\R i s'.heap/\(∀b∈p,H' b=none)/\W i n l H') ?_ m0 ⟨0,L,H2,ρ,ak,λ b Z=>(M b Z).1,w0⟩;rintro n P ⟨i,k,y,G,K,σ,w3⟩;rcases turn i n k y w3 with⟨stop,qn⟩|⟨go,N,hN,step⟩
 .refine j8 hp (bT (T.done X rfl rfl rfl hc i aA P k y X.xe G (z σ) K stop) λ r s4 q=>?_);obtain⟨C,V⟩:=q;subst C;exact Zj ⟨k,y,V,qn⟩
 .refine j8 hp (bT (T.item X rfl rfl rfl hc i aA P k y X.xe G (z σ) K go) λ r s4 q=>?_);obtain⟨u,C,h4⟩:=q;subst C;refine j8 hp (bT h4 λ _ Q q=>?_);obtain⟨x,F,I5,r5,y5,B,aj⟩:=q;have I5':=I5.pinned (z aj) (T.obj _ _ B);refine j8 hp (bT (hg _ Q k F x u _ I5' r5 (step x F y5)) λ _ s6 q=>?_);obtain⟨al,S,I6,q6⟩:=q;refine j8 hp (bT (Z _ s6 al S _ I6 q6) λ f E j=>?_);have Y:∀{O:St}{a:Hp},aJ X (aA++uN p Q.heap) O a E->N O a->∃m,m<n/\∃i l H',aJ X aA l H' E/\R i E.heap/\(∀b∈p,H' b=none)/\W i m l H':=λ{O a}c t=>by
   obtain⟨m',hm,w7⟩:=hN O a t;refine⟨m',hm,i+1,O,a,c.unpinned,T.keep _ _ _ B λ b Z o e=>(c.pin (b,o) (qo _ (qo _ (A6 Z e)))).1,λ b Z=>?_,w7⟩;obtain⟨o,e,d⟩:=T.obj _ _ B b Z;exact(c.pin (b,o) (qo _ (qo _ (A6 Z e)))).2.1
  cases f with
  |next=>obtain⟨O,a,c,t⟩:=j;exact Y c t
  |cont=>obtain⟨O,a,c,t⟩:=j;exact Y c t
  |brk=>obtain⟨O,a,c,j⟩:=j;exact⟨O,a,c.unpinned,j⟩
  |ret v=>obtain⟨x7,O,a,c,r7,j⟩:=j;exact⟨x7,O,a,c.unpinned,r7,j⟩
end
abbrev R2:=V->V->Hp->VK->Prop
def d3(X:Cx)(f:Value->Value->Sem Value)(r:R2):Prop:=
 ∀(aA:cK)(s:Shared)(L:St)(H:Hp)(x y:V)(v u:Value)(Q:VK),aJ X aA L H s->aT x v->aT y u->r x y H Q->bV X.p X.w X.A (f v u) (EP X aA L Q) X.xe s
def Cd(X:Cx)(f:Value->Sem Value)(r:V->Hp->VK->Prop):Prop:=
 ∀(aA:cK)(s:Shared)(L:St)(H:Hp)(x:V)(v:Value)(Q:VK),aJ X aA L H s->aT x v->r x H Q->bV X.p X.w X.A (f v) (EP X aA L Q) X.xe s
def bL(X:Cx)(f:Value)(r:b_->Hp->VK->Prop):Prop:=
 ∀(aA:cK)(s:Shared)(L:St)(H:Hp)(xs:b_)(us:bO)(Q:VK),aJ X aA L H s->aS xs us->r xs H Q->bV X.p X.w X.A (call f us) (EP X aA L Q) X.xe s
def cg2(X:Cx)(r:V->Hp->(Bool->Hp->Prop)->Prop):Prop:=
 ∀(aA:cK)(s:Shared)(L:St)(H:Hp)(x:V)(v:Value)(Q:Bool->Hp->Prop),aJ X aA L H s->aT x v->r x H Q->bV X.p X.w X.A (truthy v) (TP X aA L Q) X.xe s
def wJ(r:R2)(ta tb:TE):TE:=λ L H Q=>ta L H λ x H1=>tb L H1 λ y H2=>r x y H2 Q
def tUn(r:V->Hp->VK->Prop)(ta:TE):TE:=λ L H Q=>ta L H λ x H1=>r x H1 Q
def rI(C:Int->Int->Prop)(g:Int->Int->V):R2:=λ x y H Q=>∃i j,x=.int i/\y=.int j/\C i j/\Q (g i j) H
def mm(g:Int->Int->V):R2:=λ x y H Q=>∃i j,x=.int i/\y=.int j/\Q (g i j) H
def rU(g:Int->V):V->Hp->VK->Prop:=λ x H Q=>∃i,x=.int i/\Q (g i) H
section
theorem DT(ha:PE X a ta)(O:PE X b tb){R:V->V->Hp->Prop}(I:aJ X aA L H s)(h:ta L H λ x H1=>tb L H1 λ y H2=>R x y H2){f:Value->Value->Sem Value}(Z:∀v u s2 x y H2,aJ X aA L H2 s2->aT x v->aT y u->R x y H2->bV X.p X.w X.A (f v u) Q X.xe s2):bV X.p X.w X.A (eval a X.v) (λ v J=>bV X.p X.w X.A (eval b X.v) (λ u q=>bV X.p X.w X.A (f v u) Q X.xe q) X.xe J) X.xe s:=by
 refine bT (ha aA s L H _ I h) λ v j=>eJ λ x H1 Y g d=>?_;refine bT (O aA j L H1 _ Y d) λ u s2=>eJ λ y H2 c i e=>?_;exact Z v u s2 x y H2 c g i e
theorem Cv(Z:d3 X (binaryOp op) r)(Y:PE X a ta)(J:PE X b tb):PE X (.BinOp a op b pos) (wJ r ta tb):=by intro aA s L H Q I h;exact wpAny_BinOp (DT Y J I h λ v u e x y H2 c O d q=>Z aA e L H2 x y v u Q c O d q)
theorem VD(q:Cd X (unaryOp op) r)(Y:PE X a ta):PE X (.UnaryOp op a pos) (tUn r ta):=by intro aA s L H Q I h;exact UnaryOp_ (bT (Y aA s L H _ I h) λ v c=>eJ λ x H1 J b O=>q aA c L H1 x v Q J b O)
theorem AW{g:Int->Int->Int}(J:∀(i j:Int)(t u:Tok)(s:Shared)(Q:c8)(E:c8),C i j->Q (.int (g i j) s.toks) {s with toks:=s.toks+1}->bV X.p X.w X.A (f (.int i t) (.int j u)) Q E s):d3 X f (rI C λ i j=>.int (g i j)):=by
 intro aA s L H x y v u Q I Z O h;obtain⟨i,j,rfl,rfl,Y,q⟩:=h;obtain⟨t,rfl⟩:=Z;obtain⟨a,rfl⟩:=O;exact J i j t a s _ _ Y ⟨.int (g i j),H,I.tok _,⟨_,rfl⟩,q⟩
theorem Lm{g:Int->Int->Int}(J:∀(i j:Int)(t u:Tok)(s:Shared)(Q:c8)(E:c8),Q (.int (g i j) s.toks) {s with toks:=s.toks+1}->bV X.p X.w X.A (f (.int i t) (.int j u)) Q E s):d3 X f (mm λ i j=>.int (g i j)):=by
 intro aA s L H x y v u Q I Y O h;obtain⟨i,j,rfl,rfl,q⟩:=h;obtain⟨t,rfl⟩:=Y;obtain⟨a,rfl⟩:=O;exact J i j t a s _ _ ⟨.int (g i j),H,I.tok _,⟨_,rfl⟩,q⟩
theorem zQ{g:Int->Int->Bool}(J:∀(i j:Int)(t u:Tok)(s:Shared)(Q:c8)(E:c8),Q (.bool (g i j)) s->bV X.p X.w X.A (f (.int i t) (.int j u)) Q E s):d3 X f (mm λ i j=>.b (g i j)):=by
 intro aA s L H x y v u Q I Y O h;obtain⟨i,j,rfl,rfl,q⟩:=h;obtain⟨t,rfl⟩:=Y;obtain⟨a,rfl⟩:=O;exact J i j t a s _ _ ⟨.b (g i j),H,I,rfl,q⟩
def cg4(i j:Int):Prop:=0<=j/\j<=1000000/\i.natAbs<2^64
def ue(i j:Int):Prop:=(-(2^64)<i/\i<2^64)\/(-(2^64)<j/\j<2^64)
theorem ue.ok(h:ue i j):IntMulOk i j:=by
 rcases h with⟨h1,h2⟩|⟨h1,h2⟩
 .exact .of_left (Y9 h1 h2)
 .exact .of_right (Y9 h1 h2)
theorem qV:d3 X (binaryOp .Add) (mm λ i j=>.int (i+j)):=Lm λ _ _ _ _ _ _ _ q=>add_int q
theorem Xx:d3 X (binaryOp .Sub) (mm λ i j=>.int (i-j)):=Lm λ _ _ _ _ _ _ _ q=>sub_int q
theorem Tv:d3 X (binaryOp .Mod) (rI (λ _ j=>j≠0) λ i j=>.int (i.fmod j)):=AW λ _ _ _ _ _ _ _ J q=>mod_int' J q
theorem Xy:d3 X (binaryOp .Pow) (rI cg4 λ i j=>.int (i^j.toNat)):=AW λ _ _ _ _ _ _ _ J q=>pow_int_small J.1 J.2.1 J.2.2 q
theorem unI{g:Int->Int}(J:∀(i:Int)(t:Tok)(s:Shared)(Q:c8)(E:c8),Q (.int (g i) s.toks) {s with toks:=s.toks+1}->bV X.p X.w X.A (f (.int i t)) Q E s):Cd X f (rU λ i=>.int (g i)):=by
 intro aA s L H x v Q I O h;obtain⟨i,rfl,q⟩:=h;obtain⟨t,rfl⟩:=O;exact J i t s _ _ ⟨.int (g i),H,I.tok _,⟨_,rfl⟩,q⟩
theorem W_:Cd X (unaryOp .USub) (rU λ i=>.int (-i)):=unI λ _ _ _ _ _ q=>neg_int q
end
section
variable{X:Cx}{a b c:Expr}{ta tb tc:TE}{pos:Pos}
theorem Ci(I:aJ X aA L H s)(q:Q (.b k) H)(e:k=k'):EP X aA L Q (.bool k') s:=by subst e;exact cD (.b k) H I rfl q
theorem VH:d3 X (compareOp .Lt) (mm λ i j=>.b (decide (i<j))):=zQ λ _ _ _ _ _ _ _ q=>lt_int q
theorem VI:d3 X (compareOp .LtE) (mm λ i j=>.b (decide (i<=j))):=zQ λ _ _ _ _ _ _ _ q=>le_int q
theorem VJ:d3 X (compareOp .Gt) (mm λ i j=>.b (decide (j<i))):=zQ λ _ _ _ _ _ _ _ q=>gt_int q
theorem ZS:d3 X (compareOp .GtE) (mm λ i j=>.b (decide (j<=i))):=zQ λ _ _ _ _ _ _ _ q=>ge_int q
theorem U1:d3 X (compareOp .In) (λ x y H Q=>∃i j,x=.str i/\y=.str j/\Q (.b (!(Builtin.Str.occurrences j i 0 j.length 1).isEmpty)) H):=by intro aA s L H x y v u Q I J O h;obtain⟨i,j,rfl,rfl,q⟩:=h;obtain⟨t,rfl⟩:=J;obtain⟨a,rfl⟩:=O;exact in_str (Ci I q rfl)
theorem XB:d3 X (compareOp .Is) (λ x y H Q=>y=.n/\Q (.b (decide (x=.n))) H):=by
 intro aA s L H x y v u Q I J O h;obtain⟨rfl,q⟩:=h;subst O;refine is_none_gen (Ci I q ?_);cases x<;>first
  |(subst J;rfl)
  |(obtain⟨t,rfl⟩:=J;rfl)
theorem Tu:d3 X (compareOp .IsNot) (λ x y H Q=>y=.n/\Q (.b (!decide (x=.n))) H):=by
 intro aA s L H x y v u Q I J O h;obtain⟨rfl,q⟩:=h;subst O;refine isnot_none_gen (Ci I q ?_);cases x<;>first
  |(subst J;rfl)
  |(obtain⟨t,rfl⟩:=J;rfl)
theorem d3.or(h:d3 X f r)(h':d3 X f Y):d3 X f (λ x y H Q=>r x y H Q\/Y x y H Q):=by grind[d3]
theorem Dy(b:Expr)(h:op≠.In:=by decide)(h2:op≠.NotIn:=by decide):behindInMarks op b=false:=by
 have e1:(op==CmpOp.In)=false:=by cases op<;>first|rfl|exact absurd rfl h
 have e2:(op==CmpOp.NotIn)=false:=by cases op<;>first|rfl|exact absurd rfl h2
 cases b<;>simp[behindInMarks,e1,e2]
theorem To(ho:d3 X (compareOp op) r)(Z:PE X a ta)(O:PE X b tb)(J:behindInMarks op b=false):PE X (.Compare a [op] [b] pos) (wJ r ta tb):=by intro aA s L H Q I h;exact wpAny_Compare1 (DT Z O I h λ v u d x y H2 Z c O q=>ho aA d L H2 x y v u Q Z c O q) J
def CC(t:TE):TT:=λ L H Q=>t L H λ x H'=>∃k,x=.b k/\Q k H'
theorem KH(Z:d3 X (compareOp op) r)(ha:PE X a ta)(J:PE X b tb)(q:behindInMarks op b=false):PT X (.Compare a [op] [b] pos) (CC (wJ r ta tb)):=by
 intro aA s L H Q I h;refine wpAny_isTrue_Compare1 (bT (ha aA s L H _ I h) λ v n=>eJ λ x H1 Y l g=>bT (J aA n L H1 _ Y g) λ u o=>eJ λ y H2 f m i=>
  bT (Z aA o L H2 x y v u _ f l m i) λ c p⟨z,d,O,r3,k,e,j⟩=>?_) q
 subst e;subst r3;exact jk ⟨d,O,j⟩
def I3(r O:R2)(ta tb tc:TE):TE:=λ L H Q=>ta L H λ x H1=>tb L H1 λ y H2=>r x y H2 λ z q=>∃k,z=.b k/\(if k=true then tc L q λ Y J=>O y Y J Q else Q (.b false) q)
theorem RV{op q:CmpOp}{r r':R2}(ho:d3 X (compareOp op) r)(O:d3 X (compareOp q) r')(ha:PE X a ta)(hb:PE X b tb)(hc:PE X c tc)(hm:lastMarks [op,q] [b,c]=false):PT X (.Compare a [op,q] [b,c] pos) (CC (I3 r r' ta tb tc)):=by
 intro aA s L H Q I h;refine isTrue_chain (bT (ha aA s L H _ I h) λ v G=>eJ λ x H1 l D w=>test_link (bT (hb aA G L H1 _ l w) λ u K=>eJ λ y H2 m g A=>
  bT (ho aA K L H2 x y v u _ m D g A) λ d σ⟨z,Y,Z,r3,k,e,f⟩=>?_)) hm
 subst e;subst r3;refine jk ?_;cases k with
 |false=>
  refine bE f λ S p t=>?_;cases p;exact ite_ff ⟨Y,Z,t⟩
 |true=>
  refine ite_tt (test_last (bT (hc aA σ L Y _ Z f) λ N M=>eJ λ P i n E B=>bT (O aA M L i y P u N _ n g E B) λ R T J=>?_));obtain⟨ρ,j,o,F,k2,e2,C⟩:=J;subst e2;subst F;exact jk ⟨j,o,C⟩
def DU(K:Frag)(x:V)(H:Hp)(k:Bool):Prop:=
 match x with
 |.n=>k=false
 |.b b=>k=b
 |.int i=>k=(i != 0)
 |.str y=>y.length<=sizeLine/\k=((y.length:Int) != 0)
 |.byt y=>y.size<=sizeLine/\k=((y.size:Int) != 0)
 |.ref p=>(∃xs,dz K H p xs/\k=!xs.isEmpty)\/(∃xs,d7 K H p xs/\k=!xs.isEmpty)\/∃aI,H p=some (.dK aI)/\k=!aI.isEmpty
 |_=>False
theorem Uw(r:KV aI vs):(!vs.isEmpty)=!aI.isEmpty:=by cases r<;>rfl
theorem HE(r:aS xs q):(!q.toArray.isEmpty)=!xs.isEmpty:=by cases r<;>simp
theorem rC:(sizeLine:Nat)<2^63:=by rw[jx];decide
theorem Xb:cg2 X (λ x H Q=>∃k,DU X.K x H k/\Q k H):=by
 intro aA s L H x v Q I Y h;obtain⟨k,e,q⟩:=h;have g:=jx;cases x with
 |n=>
  subst Y;have J:=e;subst J;exact truthy_none ⟨H,I,q⟩
 |b b=>
  subst Y;have J:=e;subst J;exact jk ⟨H,I,q⟩
 |int i=>
  obtain⟨t,rfl⟩:=Y;have J:=e;subst J;exact PySem.P.truthy_int ⟨H,I,q⟩
 |str y=>
  obtain⟨t,rfl⟩:=Y;obtain⟨f,J⟩:=e;subst J;exact PySem.P.truthy_str aE ⟨H,I.tok _,q⟩
 |byt y=>
  obtain⟨t,rfl⟩:=Y;obtain⟨f,J⟩:=e;subst J;exact PySem.W.truthy_bytes aE ⟨H,I.tok _,q⟩
 |ref p=>
  subst Y;have J:=e;rcases J with⟨xs,hx,J⟩|⟨xs,hx,J⟩|⟨aI,hx,J⟩
  .subst J;refine a_ (I.list hx) λ c r Z a=>?_;have O:=r.length;exact wpAny_truthy_list Z.isList (by grind) ⟨H,I.tok _,by rw[HE r];exact q⟩
  .subst J;refine a_ (I.tuple hx) λ c r Z a=>?_;have O:=r.length;exact truthy_tuple Z (by grind) ⟨H,I.tok _,by rw[HE r];exact q⟩
  .subst J;obtain⟨a,d,j,r,m⟩:=I.hok p _ hx;have O:=Ja r;exact wpAny_truthy_dict d m aE ⟨H,I.tok _,by rw[Uw r];exact q⟩
 |_=>exact(show False from e).elim
theorem RU(Z:PE X a ta)(J:∀q,isTrue a X.v q=(do let v<-q;standAt a.pos;holding [v] (truthy v))):PT X a (λ L H Q=>ta L H λ x H'=>∃k,DU X.K x H' k/\Q k H'):=by
 intro aA s L H Q I h;exact isTrue_plain (bT (Z aA s L H _ I h) λ v b=>eJ λ x H1 Z O Y=>Xb aA b L H1 x v Q Z O Y) (J _)
theorem jX:d3 X (binaryOp .Add) (λ x y H Q=>∃i j,x=.str i/\y=.str j/\i.length+j.length<=sizeLine/\Q (.str (i++j)) H):=by intro aA s L H x y v u Q I J O h;obtain⟨i,j,rfl,rfl,a,q⟩:=h;obtain⟨t,rfl⟩:=J;obtain⟨b,rfl⟩:=O;exact add_str (λ b c=>⟨.str (i++j),H,I.tok _,⟨_,rfl⟩,q⟩) a
theorem ic(r:aS [x] us):∃u,us=[u]/\aT x u:=by
 cases r with
 |cons q O=>cases O;exact⟨_,rfl,q⟩
theorem yQ(r:aS [x,y] us):∃u q,us=[u,q]/\aT x u/\aT y q:=by
 cases r with
 |cons a J=>
  cases J with
  |cons r3 O=>cases O;exact⟨_,_,rfl,a,r3⟩
theorem Sy:bL X (.builtin "abs") (λ xs H Q=>∃i,xs=[.int i]∧Q (.int (if i<0 then -i else i)) H):=by
 intro aA s L H xs us Q I r h;obtain⟨i,rfl,q⟩:=h;obtain⟨u,rfl,t,rfl⟩:=ic r;exact call_abs_int λ u a=>⟨.int (if i<0 then -i else i),H,I.tok _,⟨_,rfl⟩,q⟩
theorem Rq(O:X.c=true):bL X (.builtin "max") (λ xs H Q=>∃i j,xs=[.int i,.int j]∧Q (.int (if j>i then j else i)) H):=by
 intro aA s L H xs us Q I r h;obtain⟨i,j,rfl,q⟩:=h;obtain⟨u,Y,rfl,⟨t,rfl⟩,⟨a,rfl⟩⟩:=yQ r;refine max_two_ints (I.ok.hd O) λ h' b k=>⟨_,H,I.kept k,?_,q⟩
 by_cases J:j>i
 .rw[if_pos J,if_pos J];exact⟨_,rfl⟩
 .rw[if_neg J,if_neg J];exact⟨_,rfl⟩
theorem Ro(O:X.c=true):bL X (.builtin "min") (λ xs H Q=>∃i j,xs=[.int i,.int j]∧Q (.int (if j<i then j else i)) H):=by
 intro aA s L H xs us Q I r h;obtain⟨i,j,rfl,q⟩:=h;obtain⟨u,Y,rfl,⟨t,rfl⟩,⟨a,rfl⟩⟩:=yQ r;refine min_two_ints (I.ok.hd O) λ h' b k=>⟨_,H,I.kept k,?_,q⟩
 by_cases J:j<i
 .rw[if_pos J,if_pos J];exact⟨_,rfl⟩
 .rw[if_neg J,if_neg J];exact⟨_,rfl⟩
theorem Rr:bL X (.type "int") (λ xs H Q=>(∃i,xs=[.int i]∧Q (.int i) H)∨∃k,xs=[.b k]∧Q (.int (if k then 1 else 0)) H):=by
 intro aA s L H xs us Q I r h;rcases h with⟨i,rfl,q⟩|⟨k,rfl,q⟩
 .obtain⟨u,rfl,t,rfl⟩:=ic r;exact call_int_int ⟨.int i,H,I,⟨_,rfl⟩,q⟩
 .obtain⟨u,rfl,O⟩:=ic r;subst O;exact call_int_bool ⟨.int (if k then 1 else 0),H,I.tok _,⟨_,rfl⟩,q⟩
end
theorem fq.some_of(r:fq (some v) o):∃u,o=some u/\aT v u:=by
 cases o with
 |none=>exact(show False from r).elim
 |some u=>exact⟨u,rfl,r⟩
theorem fq.none_of(r:fq none o):o=none:=by cases o;rfl;exact(show False from r).elim
structure Hg(K:Frag)(C:Addr):Prop where
 pg:PySem.W.plainGet K C Str.empty=true
 hd:PySem.W.hasDictIn K C=true
 po:PySem.W.plainOver K C=true
 sa:PySem.W.findIn K (.ref C) "__setattr__"=some (some (.builtin "object.__setattr__"))
theorem Hg.get{K:Frag}(c:Hg K C)(f:Str):PySem.W.plainGet K C f=true:=c.pg
section
variable{X:Cx}{aA:cK}{L:St}{H:Hp}{s:Shared}{a C dx:Addr}{fs:List (Str×V)}{f:Str}{v:V}{A:Around}{E:c8}
theorem W0(J:attributeBase e f env (eval e env)=eval e env)(h:bV prog w A (eval e env) (λ o q=>bV prog w A (getAttr o f true) Q E q) E s):bV prog w A (eval (.Attribute e f pos) env) Q E s:=
 Attribute_any_ h (by rw[arm_eval_Attribute,J])
end
structure bJ(k:Nat)(A:Around):Prop where
 hd:A.handled=none
 dp:A.depth+3*k+5<recursionLimit
 un:A.units+16*k+200<cLine
theorem bJ.mono(r:bJ k A)(h:j<=k):bJ j A:=⟨r.hd,by have:=r.dp;lia,by have:=r.un;lia⟩
theorem bJ.deeper(r:bJ (k+1) A)(env:Env):bJ k (A.deeper env):=
 ⟨r.hd,by have:=r.dp;show A.depth+1+3*k+5<_;lia,by have:=r.un;show A.units+3+16*k+200<_;lia⟩
theorem bJ.in1(r:bJ (k+1) A):bJ k A.in1:=
 ⟨r.hd,by have:=r.dp;show A.depth+3*k+5<_;lia,by have:=r.un;show A.units+1+16*k+200<_;lia⟩
theorem Uu{A:Around}:(A.under (.builtin "type.__call__" ⟨.ref C::us,q⟩)).depth=A.depth+1:=by
 first|rfl|simp[Around.under,Code.weight,Code.isCreation,Code.isGuard,Code.isCaller,Code.frames,Code.isFrame,guardIds]
theorem Ut{A:Around}:(A.under (.builtin "type.__call__" ⟨.ref C::us,q⟩)).units=A.units+1:=by
 first|rfl|simp[Around.under,Code.cUnits,Code.frames,Code.isFrame]
theorem bJ.make(r:bJ (k+1) A)(C:Addr)(us:bO)(q:List (Str×Value)):bJ k (A.under (.builtin "type.__call__" ⟨.ref C::us,q⟩)):=
 ⟨r.hd,by have:=r.dp;rw[Uu];lia,by have:=r.un;rw[Ut];lia⟩
theorem bJ.depth(r:bJ k A):A.depth<recursionLimit:=by have:=r.dp;lia
theorem bJ.units(r:bJ k A):A.units+64<cLine:=by have:=r.un;lia
def Wb:TA:=λ _ H Q=>Q [] H
def Vr(ta:TE)(q:TA):TA:=λ L H Q=>ta L H λ x H1=>q L H1 λ xs H2=>Q (x::xs) H2
section
theorem lB:PA X [] Wb:=λ _ _ _ _ H Q I h=>Calls.spliced_nil ⟨[],H,I,.nil,h⟩
theorem iA(Y:PE X e te)(J:PA X es t)(hs:iX X e es:=by rfl):PA X (e::es) (Vr te t):=by
 intro pos aA s L H Q I h;rw[hs];refine Calls.spliced_cons (bT (Y aA s L H _ I h) λ u d=>eJ λ x H1 q b O=>?_);exact bT (J pos aA d L H1 _ q O) λ us f=>eJ λ xs H2 a c Z=>⟨x::xs,H2,a,.cons b c,Z⟩
def V8(t:TA):TE:=λ L H Q=>t L H λ xs H1=>xs.length<=sizeLine/\∀p,H1 p=none->Q (.ref p) (upd H1 p (.t xs))
def Wc(t:TA):TE:=λ L H Q=>t L H λ xs H1=>xs.length<=sizeLine/\∀p,H1 p=none->Q (.ref p) (upd H1 p (.l xs))
theorem zC(h:PA X es t):PE X (.Tuple es x1 pos) (V8 t):=by intro aA s L H Q I Y;refine wpAny_Tuple_spliced (bT (h pos aA s L H _ I Y) λ us a⟨xs,H1,J,r,z,q⟩=>⟨by rw[<-r.length];exact z,?_⟩);have O:=J.hok.fresh (qj _);refine⟨.ref a.heap.n,upd H1 a.heap.n (.t xs),J.laid (λ b u e=>qd _ e) (qj _) ?_,rfl,q _ O⟩;exact⟨z,us,r,⟨_,qk _ rfl,rfl,⟨_,rfl⟩,rfl⟩⟩
theorem J7(h:PA X es t):PE X (.List es pos) (Wc t):=by intro aA s L H Q I Y;refine wpAny_List_spliced (bT (h pos aA s L H _ I Y) λ us a⟨xs,H1,J,r,z,q⟩=>⟨by rw[<-r.length];exact z,?_⟩);have O:=J.hok.fresh (qj _);refine⟨.ref a.heap.n,upd H1 a.heap.n (.l xs),J.laid (λ b u e=>qd _ e) (qj _) ?_,rfl,q _ O⟩;exact⟨z,us,0,r,qk _ rfl⟩
end
abbrev Sp:=b_->Hp->VK->XK->Prop
abbrev oz:=fP->Hp->Shared->XK->Value->Shared->Prop
structure gw(P:Program)(w:World)(K:Frag)(mg:Str->Option Value)(base:Heap)(A:Around)(outer:fP)(s:Shared)(H:Hp):Prop where
 frames:A.frames=some outer
 mod:Mod K mg base
 bs:∀b o,base.get? b=some o->s.heap.get? b=some o/\H b=none
 bsz:base.objs.size<=s.heap.n
 funs:s.heap.FunFrames base outer
 frf:∀b∈gO outer,H b=none
 hok:eD P w H s.heap
 bare:AllBare s.gens
 tab:∀p q,(p,q)∈Tabs->H p=some (.tbl q)
def CE(outer:fP)(P:Program)(w:World)(H:Hp)(s:Shared)(Q:VK)(u:Value)(s':Shared):Prop:=
 ∃v H',s'.os=s.os/\AllBare s'.gens/\Un (gO outer) [] H H' s.heap s'.heap/\eD P w H' s'.heap/\aT v u/\Q v H'
def CR(CX:oz)(outer:fP)(P:Program)(w:World)(H:Hp)(s:Shared)(Q:VK)(E:XK)(r:Result)(s':Shared):Prop:=
 match r with
 |.ok (.ret u)=>CE outer P w H s Q u s'
 |.ok _=>False
 |.error e=>CX outer H s E e s'
structure cR(P:Program)(w:World)(K:Frag)(mg:Str->Option Value)(base:Heap)(CX:oz)(k:Nat)(f:Addr)(fd:FuncData)(ps:aM)(sp:Sp):Prop where
 len:∀vs H Q E,sp vs H Q E->vs.length=ps.length
 run:∀(A:Around)(outer:fP)(s:Shared)(H:Hp)(args:Args)(us:bO)(vs:b_)(Q:VK)(E:XK),bJ k A->gw P w K mg base A outer s H->BindsTo s fd args (ps.zip us)->aS vs us->sp vs H Q E->codeAny (model P w) A (.call (.ref f) args) (CR CX outer P w H s Q E) s
theorem cR.mono{K:Frag}(F:cR P w K mg base CX j f fd ps sp)(h:j<=k):cR P w K mg base CX k f fd ps sp:=⟨F.len,λ A outer s H args us a Q E q=>F.run A outer s H args us a Q E (q.mono h)⟩
theorem cR.imp{K:Frag}(F:cR P w K mg base CX k f fd ps sp)(h:∀vs H Q E,J vs H Q E->sp vs H Q E):cR P w K mg base CX k f fd ps J:=
 ⟨λ vs H Q E q=>F.len vs H Q E (h _ _ _ _ q),λ A outer s H args us vs Q E a Z Y O b=>F.run A outer s H args us vs Q E a Z Y O (h _ _ _ _ b)⟩
theorem gw.make{P:Program}{w:World}{K:Frag}{mg:Str->Option Value}{base:Heap}{A:Around}{outer:fP}{s:Shared}{H:Hp}(e:gw P w K mg base A outer s H)(C:Addr)(us:bO)(q:List (Str×Value)):gw P w K mg base (A.under (.builtin "type.__call__" ⟨.ref C::us,q⟩)) outer s H:=⟨by first|exact e.frames|(simpa [Around.under,Code.envs,Code.isFrame,pushEnvs]using e.frames),e.mod,e.bs,e.bsz,e.funs,e.frf,e.hok,e.bare,e.tab⟩
theorem gw.in1{P:Program}{w:World}{K:Frag}{mg:Str->Option Value}{base:Heap}{A:Around}{outer:fP}{s:Shared}{H:Hp}(e:gw P w K mg base A outer s H):gw P w K mg base A.in1 outer s H:=⟨e.frames,e.mod,e.bs,e.bsz,e.funs,e.frf,e.hok,e.bare,e.tab⟩
section
variable{X:Cx}{aA:cK}{L:St}{H:Hp}{s s':Shared}
theorem aJ.env0(I:aJ X aA L H s):gw X.p X.w X.K X.mg X.base X.A X.stack s H:=
 ⟨I.ok.frames,I.ok.mod,I.bs,qy I.ok.bsz I.sz,I.stack,I.stkFree,I.hok,I.bare,λ p q h=>I.base.tbls _ _ (I.ok.tab p q h)⟩
theorem aJ.after(I:aJ X aA L H s)(h:CE X.stack X.p X.w H s Q u s'):EP X aA L Q u s':=by obtain⟨v,H',os,J,un,O,r,q⟩:=h;obtain⟨Z,g,d,t,Y⟩:=s';obtain rfl:Y=s.os:=os;exact cD v H' (I.call un O J (λ b z=>absurd z bP)) r q
end
def Vs(sp:Sp)(dvs:b_)(E:XK)(t:TA):TE:=λ L H Q=>t L H λ vs H1=>sp (vs++dvs) H1 Q E
def dE(K:Frag)(fd:FuncData)(ps:aM)(ds:bO):Prop:=
 ∀(s:Shared)(us:bO),K.In s.heap->(us++ds).length=ps.length->BindsTo s fd ⟨us,[]⟩ (ps.zip (us++ds))
theorem dE.all{K:Frag}(h:∀us:bO,us.length=ps.length->bindArgs fd ⟨us,[]⟩=pure (ps.zip us)):dE K fd ps []:=λ s us _ q=>by
 rw[yd]at q⊢;exact .of_eq (h us q)
def dy(CX:oz)(X:Cx)(E:XK):Prop:=∀(aA:cK)(L:St)(H:Hp)(s:Shared)(e:Value)(s':Shared),aJ X aA L H s->CX X.stack H s E e s'->X.xe e s'
section
theorem Xh(F:cR X.p X.w X.K X.mg X.base CX k f fd ps sp)(hr:bJ k X.A)(O:dE X.K fd ps ds)(hd:aS dvs ds)(hx:dy CX X E)(I:aJ X aA L H s)(r:aS vs us)(h:sp (vs++dvs) H Q E):bV X.p X.w X.A (call (.ref f) us) (EP X aA L Q) X.xe s:=by
 have J:=r.append hd;have Z:(us++ds).length=ps.length:=by rw[<-J.length];exact F.len _ _ _ _ h
 refine Zt (jy (F.run X.A X.stack s H ⟨us,[]⟩ (us++ds) (vs++dvs) Q E hr I.env0 (O s us I.kIn Z) J h) λ r s' q=>?_);cases r with
 |error e=>exact hx aA L H s e s' I q
 |ok Y=>
  cases Y with
  |ret u=>exact I.after q
  |next=>exact False.elim q
  |brk=>exact False.elim q
  |cont=>exact False.elim q
theorem uC(F:cR X.p X.w X.K X.mg X.base CX k f fd ps sp)(hr:bJ k X.A)(hg:Gl X x)(Z:X.mg x=some (.ref f))(hk:keepIn X.K (.ref f)=true)(hb:dE X.K fd ps ds)(hd:aS dvs ds)(hx:dy CX X E)(ha:PA X (e::es) t)(O:df x)(he:iX X e es)(J:iD X pos es):PE X (.Call (.Name x p) (e::es) [] pos) (Vs sp dvs E t):=by
 intro aA s L H Q I h;refine Qt (ua I hg Z ?_ O);refine PySem.W.callWith_K (h₀:=X.base) I.ok.mod.kin hk (bT (ha pos aA s L H _ I h) λ us a=>eJ λ b H1 Y r q=>⟨Y.kIn,?_⟩) he J;exact Xh F hr hb hd hx Y r q
structure Mk(K:Frag)(C f:Addr):Prop where
 makes:PySem.W.makesIn K C=true
 init:PySem.W.findIn K (.ref C) "__init__"=some (some (.ref f))
 fn:PySem.W.isFn K (.ref f)=true
 kp:keepIn K (.ref C)=true
end
structure aG(N P:aM)(sc:Scope):Prop where
 kind:sc.kind=.function
 co:sc.isCoroutine=false
 gen:sc.isGenerator=false
 nd:N.Nodup
 pre:N.take P.length=P
 par:∀x∈P,sc.names.lookup x=some .local\/sc.names.lookup x=some .cell
 nofree:∀y∈sc.names,y.2≠.free
theorem Io:∀{binds:List (Str×Value)}{m:Str->Option Value},(∀v,(x,v)∉binds)->bindL q binds m x=m x
 |[],_,_=>rfl
 |(n,v)::r,m,h=>by
  unfold bindL;rw[Io λ w J=>h w (List.mem_cons_of_mem _ J)];split
  .grind
  .rfl
theorem Iq:∀{binds:List (Str×Value)}{m:Str->Option Value},(∀v,(x,v)∉binds)->bindC q binds m x=m x
 |[],_,_=>rfl
 |(n,v)::r,m,h=>by
  unfold bindC;rw[Iq λ w J=>h w (List.mem_cons_of_mem _ J)];split
  .rfl
  .grind
theorem Ip:∀{P:aM}{vs:bO}{i:Nat}{m:Str->Option Value},P.Nodup->P[i]?=some x->vs[i]?=some v->q x=some .local->bindL q (P.zip vs) m x=some v
 |[],_,_,_,_,h,_,_=>by simp at h
 |_::_,[],_,_,_,_,h,_=>by simp at h
 |p::P,w::vs,0,m,nd,h1,h2,a=>by
  simp at h1 h2;subst h1;subst h2;show bindL q ((p,w)::P.zip vs) m p=_;unfold bindL;rw[Io λ v J=>(List.nodup_cons.mp nd).1 (Ym J).1,if_pos a];simp
 |p::P,w::vs,i+1,m,nd,h1,h2,a=>by
  show bindL q ((p,w)::P.zip vs) m x=_;exact Ip (List.nodup_cons.mp nd).2 (by simpa using h1) (by simpa using h2) a
theorem Ir:∀{P:aM}{vs:bO}{i:Nat}{m:Str->Option Value},P.Nodup->P[i]?=some x->vs[i]?=some v->q x≠some .local->bindC q (P.zip vs) m x=some v
 |[],_,_,_,_,h,_,_=>by simp at h
 |_::_,[],_,_,_,_,h,_=>by simp at h
 |p::P,w::vs,0,m,nd,h1,h2,a=>by
  simp at h1 h2;subst h1;subst h2;show bindC q ((p,w)::P.zip vs) m p=_;unfold bindC;rw[Iq λ v J=>(List.nodup_cons.mp nd).1 (Ym J).1,if_neg a];simp
 |p::P,w::vs,i+1,m,nd,h1,h2,a=>by
  show bindC q ((p,w)::P.zip vs) m x=_;exact Ir (List.nodup_cons.mp nd).2 (by simpa using h1) (by simpa using h2) a
noncomputable def start(N:aM)(vs:b_):St:=vs.map some++List.replicate (N.length-vs.length) none
noncomputable def f_(CX:oz)(P:Program)(w:World)(K:Frag)(mg:Str->Option Value)(base:Heap)(N:aM)(qual:Str)(scope:Scope)(f:Addr)(cd:Value)(A:Around)(outer:fP)(s:Shared)(H:Hp)(E:XK):Cx where
 p:=P
 w:=w
 K:=K
 mg:=mg
 base:=base
 A:=A.deeper (envOfC qual scope s.heap.n f cd)
 N:=N
 s₀:=s
 H₀:=H
 v:=envOfC qual scope s.heap.n f cd
 outer:=outer
 stack:=envOfC qual scope s.heap.n f cd::outer
 ex:=[]
 c:=true
 fn:=λ _=>true
 pn:=[]
 xe:=λ e s'=>wpAny (model P w) (A.deeper (envOfC qual scope s.heap.n f cd)) (leaving (envOfC qual scope s.heap.n f cd) e) (λ _ q=>CX outer H s E e q) (λ J q=>CX outer H s E J q) s'
theorem Kr{sc:Scope}(h:sc.names.lookup x=some .cell):∃c,(cellsFrom n sc.names []).lookup x=some c:=by have q:=Yg sc.names n [] (.inl h);exact Option.isSome_iff_exists.mp q
theorem Iy{CX:oz}{P:Program}{w:World}{K:Frag}{mg:Str->Option Value}{base:Heap}{N ps:aM}{qual:Str}{scope:Scope}{f:Addr}{cd:Value}{A:Around}{outer:fP}{s s1:Shared}{H:Hp}{E:XK}{us:bO}{vs:b_}(S:aG N ps scope)(hd:A.handled=none)(e0:gw P w K mg base A outer s H)(hl:vs.length=ps.length)(r:aS vs us)(x:InCallC s s.heap.n (bindL (envOfC qual scope s.heap.n f cd).kindOf (ps.zip us) λ _=>none) (cellsFrom (s.heap.n+1) scope.names []) (bindC (envOfC qual scope s.heap.n f cd).kindOf (ps.zip us) λ _=>none) s1):aJ (f_ CX P w K mg base N qual scope f cd A outer s H E) [] (start N vs) H s1:=by
 have m:ps.length<=N.length:=by have:=Q1 List.length S.pre;rw[jd]at this;lia
 obtain⟨h1,t,rfl,d⟩:=x.done;have J:∀b:Addr,b∉(f_ CX P w K mg base N qual scope f cd A outer s H E).ex:=λ b z=>absurd (show b∈([]:fV)from z) bP;refine⟨⟨e0.mod,S.kind,rfl,rfl,qj _,λ y z c h1 h2=>?_,λ y O=>?_,λ y c _ h=>?_,λ _=>hd,Around.frames_deeper e0.frames,.inr ⟨rfl,rfl⟩,λ b z=>absurd z (J b),e0.bs,e0.bsz,λ b _ _=>J b,λ b z=>absurd z (J b),e0.funs,e0.frf,e0.tab⟩,rfl,e0.bare,Un.kept d,⟨_,x.toInCall.ns,λ i y v h1 h2 o=>?_⟩,λ y c h=>⟨_,x.cell y c h⟩,e0.hok.fresh (qj _),λ y c h=>?_,λ p Y=>absurd (show p∈([]:cK)from Y) bP,e0.hok.kept d,?_⟩
 .exact name_of_addr x.apart (jc h1) (jc h2)
 .have O:scope.names.lookup y=some .cell\/scope.names.lookup y=some .free:=O;rcases O with O|O
  .exact Kr O
  .exact absurd rfl (S.nofree _ (jc O))
 .exact Q2 (x.above y c (jc h))
 .have hi:i<vs.length:=by
   unfold start at h2;by_cases hi:i<vs.length
   .exact hi
   .rw[Zw (by simpa using hi)]at h2;rw[List.getElem?_replicate]at h2;split at h2<;>simp at h2
  have j:vs[i]?=some v:=by
   unfold start at h2;rw[Qn (by simpa using hi),zl]at h2;cases e:vs[i]? with
   |none=>rw[e]at h2;cases h2
   |some a=>rw[e]at h2;cases h2;rfl
  obtain⟨u,g,l⟩:=r.get j;have Y:ps[i]?=some y:=by rw[<-S.pre,List.getElem?_take_of_lt aE];exact h1
  have Z:ps.Nodup:=by rw[<-S.pre];exact S.nd.sublist (Z2 _ _)
  refine⟨u,l,?_⟩;rcases S.par y (zf Y)with k|k
  .exact .inl ⟨k,Ip Z Y g k⟩
  .obtain⟨c,e⟩:=Kr (n:=s.heap.n+1) k;refine .inr ⟨.inl k,c,e,?_⟩;have q:=x.cell y c e;rw[Ir Z Y g (by show scope.names.lookup y≠_;rw[k];decide)]at q;exact q
 .exact e0.hok.fresh (Q2 (x.above y c (jc h)))
 .unfold start;show _=N.length;rw[zm,qx,List.length_replicate];lia
theorem zX{K:Frag}{dV kV ag pm O ct oc:Value}(lk:K.lookup f=some ⟨oc,od,.func (fnOf name qual Y Z scope dV kV ag pm an O ct),aj⟩)(ai:codeIn K O qual=true)(S:aG N ps scope)(len:∀vs H Q E,sp vs H Q E->vs.length=ps.length)(ae:∀(A:Around)(outer:fP)(s:Shared)(H:Hp)(vs:b_)(Q:VK)(E:XK),bJ k (A.deeper (envOfC qual scope s.heap.n f O))->sp vs H Q E->∃t,eL (f_ CX P w K mg base N qual scope f O A outer s H E) Z t/\t {nx:=λ _ H'=>Q .n H',rt:=Q} (start N vs) H):cR P w K mg base CX (k+1) f (fnOf name qual Y Z scope dV kV ag pm an O ct) ps sp:=by
 refine⟨len,λ A outer s H args us vs Q E d e0 B r i=>?_⟩;have D:=len _ _ _ _ i;have h:=e0.mod.kin.keeps λ b o e=>(e0.bs b o e).1;have m:=e0.mod.nolimit.keeps λ b o e=>(e0.bs b o e).1;have j:∀y∈ps.zip us,scope.names.lookup y.1=some .local\/(scope.names.lookup y.1=some .cell/\((cellsFrom (s.heap.n+1) scope.names []).lookup y.1).isSome=true):=λ l σ=>by
  obtain⟨n,v⟩:=l;rcases S.par n (Ym σ).1 with q|q
  .exact .inl q
  .exact .inr ⟨q,Yg _ _ _ (.inl q)⟩
 refine codeAny_call_function d.depth (h _ _ lk) rfl S.co S.gen rfl (PySem.W.codeRec_of h ai) (B _ _ _ _ ?_);refine wpAny_newFunctionEnv_cells S.kind j λ p C s1 x=>?_;subst C;refine⟨m.keeps x.toInCall.keep,codeAny_func ?_⟩;refine bE (ae A outer s H vs Q E (d.deeper _) i) λ t G F=>?_;have I:aJ (f_ CX P w K mg base N qual scope f O A outer s H E) [] (start N vs) H s1:=Iy S d.hd e0 D r x;refine zv (G [] s1 (start N vs) H _ I F) (λ z s' a=>?_) λ e s' a=>a;have fin:∀{c:St}{H':Hp}{v:V}{u:Value},aJ (f_ CX P w K mg base N qual scope f O A outer s H E) [] c H' s'->aT v u->Q v H'->CE outer P w H s Q u s':=
  λ{c H' v u}J g q=>⟨v,H',J.os,J.bare,J.base,J.hok,g,q⟩
 cases z with
 |ret u=>
  refine eU a λ v c H' J g q=>?_;exact fin J g q
 |next=>
  refine dt a λ c H' J q=>?_;exact fin (v:=V.n) J rfl q
 |brk=>
  refine dt a λ _ _ _ q=>?_;exact False.elim q
 |cont=>
  refine dt a λ _ _ _ q=>?_;exact False.elim q
section
variable{id T:String}
def FR(r:b_->Hp->VK->Prop)(t:TA):TE:=λ L H Q=>t L H λ vs H1=>r vs H1 Q
theorem AQ(Z:bL X (.builtin id) r)(hg:Gl X x)(O:X.mg x=none)(Y:bootBuiltins x=some (.builtin id))(ha:PA X (e::es) t)(hn:x≠"__name__":=by decide)(J:df x:=by decide)(he:iX X e es:=by rfl)(q:iD X pos es:=by rfl):PE X (.Call (.Name x p) (e::es) [] pos) (FR r t):=by
 intro aA s L H Q I h;refine Qt (rP I hg O Y ?_ hn J);exact PyProof.Rows.callWith_builtin1 (bT (ha pos aA s L H _ I h) λ us d=>eJ λ f H1 a c b=>Z aA d L H1 f us Q a c b) he q
theorem xc(Z:bL X (.type T) r)(hg:Gl X x)(O:X.mg x=none)(Y:bootBuiltins x=some (.type T))(ha:PA X (e::es) t)(hn:x≠"__name__")(J:df x)(he:iX X e es)(q:iD X pos es):PE X (.Call (.Name x p) (e::es) [] pos) (FR r t):=by
 intro aA s L H Q I h;refine Qt (rP I hg O Y ?_ hn J);exact Zo (bT (ha pos aA s L H _ I h) λ us d=>eJ λ f H1 a c b=>Z aA d L H1 f us Q a c b) he q
end
end Lake.L2
namespace Lake.HT
open PyProof.Rows
section
variable{prog:Program}{w:World}{A:Around}{E:c8}{s:Shared}
theorem cat_tup{t b:Addr}{vs q:bO}{Q:c8}(ht:IsTup s.heap t vs.toArray)(hb:IsTup s.heap b q.toArray)(hv:vs≠[])(h1:q=[]→Q (.ref t) s)(h2:q≠[]→Q (.ref s.heap.n) {s with heap:=s.heap.push {cls:=.type "tuple",data:=.seq (vs++q).toArray}})(hsz:vs.length+q.length<=sizeLine):bV prog w A (binaryOp .Add (.ref t) (.ref b)) Q E s:=by
 obtain⟨⟨cls,dd,data,g⟩,a,d,n,hd⟩:=id ht;obtain⟨⟨i,Z,h,O⟩,J,Y,f,hd2⟩:=id hb;simp only at d hd Y hd2;subst d hd Y hd2;have e:vs.toArray++q.toArray=(vs++q).toArray:=bP;by_cases c:q=[]
 .exact concat_meets ⟨_,a,rfl⟩ ⟨_,J,rfl⟩ noFill_tuple_add seq_tuple_add PySem.F.slot_tuple_add PySem.F.entry_tuple_add (PySem.F.args_tuple_add_2 _ _)
   (tuple_addW1 t b vs.toArray q.toArray n f dd Z g O (by simpa using hv) (by simp[c])) ⟨a,J,h1 c⟩
 .refine concat_meets ⟨_,a,rfl⟩ ⟨_,J,rfl⟩ noFill_tuple_add seq_tuple_add PySem.F.slot_tuple_add PySem.F.entry_tuple_add (PySem.F.args_tuple_add_2 _ _)
   (tuple_addW2 t b vs.toArray q.toArray n f dd Z g O (by simpa using hv) (by simpa using c) (by rw[zi,zi];exact hsz)) ⟨a,J,?_⟩
  rw[e];exact h2 c
abbrev _root_.bZ:=Option Int
noncomputable def sIx(n d:Nat):bZ->Nat
 |none=>d
 |some v=>if v<0 then(v+(n:Int)).toNat else min v.toNat n
theorem Xg(n d:Nat)(hd:d<=n)(o:bZ):sIx n d o<=n:=by
 cases o with
 |none=>exact hd
 |some v=>
  show(if v<0 then(v+(n:Int)).toNat else min v.toNat n)<=n;by_cases q:v<0
  .rw[if_pos q];lia
  .grind
theorem IF(v:Int)(n d:Nat):(if v<0 then max (v+(n:Int)) 0 else min v (n:Int))=((sIx n d (some v):Nat):Int):=by
 show(if v<0 then max (v+(n:Int)) 0 else min v (n:Int))=(((if v<0 then(v+(n:Int)).toNat else min v.toNat n):Nat):Int);by_cases q:v<0
 .grind
 .grind
theorem UD(lo hi:bZ)(n:Nat):Builtin.Slice.sliceAdjust lo hi 1 (n:Int)=(((sIx n 0 lo:Nat):Int),((sIx n n hi:Nat):Int)):=by
 have h1:¬((1:Int)<0):=aE;unfold Builtin.Slice.sliceAdjust;refine Prod.ext ?_ ?_
 .cases lo with
  |none=>rfl
  |some v=>exact IF v n 0
 .cases hi with
  |none=>rfl
  |some v=>exact IF v n n
theorem Up(i j:Nat):Builtin.Slice.slicePlaces (i:Int) (j:Int) 1=j-i:=by unfold Builtin.Slice.slicePlaces;grind
theorem Hz(p:IsPart v o)(h:Q o s):bV prog w A (Builtin.Slice.slicePartIndex v) Q E s:=by
 cases p with
 |none=>exact slicePart_none h
 |int i t=>exact slicePart_int h
theorem O0{lo hi:bZ}{n:Nat}(hs:s.heap.IsSliceOf Z O Y .none)(pl:IsPart O lo)(pu:IsPart Y hi)(h:Q (((sIx n 0 lo:Nat):Int),1,sIx n n hi-sIx n 0 lo) s):bV prog w A (Builtin.Slice.sliceApplied (.ref Z) (pure (n:Int))) Q E s:=by
 obtain⟨os,J,a,q⟩:=id hs;refine qb (qb (jl J q rfl (qb (jl J q rfl (qb (jl J q rfl (qc ?_)))))));refine qb (slicePart_none ?_);rw[if_neg aQ];refine qb (Hz pl (qb (Hz pu (qb (qc ?_)))));show wpAny _ _ (match Builtin.Slice.sliceAdjust lo hi 1 (n:Int)with|(lo,hi)=>pure (lo,(1:Int),Builtin.Slice.slicePlaces lo hi 1)) _ _ s;rw[UD lo hi n];show wpAny _ _ (pure (((sIx n 0 lo:Nat):Int),(1:Int),Builtin.Slice.slicePlaces ((sIx n 0 lo:Nat):Int) ((sIx n n hi:Nat):Int) 1)) _ _ s;rw[Up];exact qc h
theorem R0(xs:g9)(i k:Nat):((List.range k).filterMap λ(m:Nat)=>xs[((i:Int)+(m:Int)*1).toNat]?).toArray=((xs.toList.drop i).take k).toArray:=by
 have e:(λ(m:Nat)=>xs[((i:Int)+(m:Int)*1).toNat]?)=λ m=>xs[i+m]?:=by funext m;have:((i:Int)+(m:Int)*1).toNat=i+m:=aE;rw[this]
 rw[e];have:=pick_run xs i k;rw[List.filterMap_map]at this;have e2:((λ x=>xs[x]?)∘λ x=>i+x)=λ m=>xs[i+m]?:=rfl;rw[e2]at this;rw[this]
theorem getItem_tuple_cut{lo hi:bZ}(O:IsTup s.heap t items)(hs:s.heap.IsSliceOf Y vl vu .none)(pl:IsPart vl lo)(pu:IsPart vu hi)(hw:¬(sIx items.size 0 lo=0/\sIx items.size items.size hi=items.size))(h:Q (.ref s.heap.n) {s with heap:=s.heap.push {cls:=.type "tuple",data:=.seq ((items.toList.drop (sIx items.size 0 lo)).take (sIx items.size items.size hi-sIx items.size 0 lo)).toArray}})(hsz:items.size<=sizeLine):bV prog w A (getItem (.ref t) (.ref Y)) Q E s:=by
 have J:sizeOk (.seq ((items.toList.drop (sIx items.size 0 lo)).take (sIx items.size items.size hi-sIx items.size 0 lo)).toArray):=by show((items.toList.drop (sIx items.size 0 lo)).take (sIx items.size items.size hi-sIx items.size 0 lo)).toArray.size<=sizeLine;rw[zi,jd,List.length_drop,zd];lia
 have e:sIx items.size items.size hi<=items.size:=Xg _ _ (qj _) hi;obtain⟨os,c,a,d⟩:=id hs;have b:s.TypeIs (.ref Y) "slice":=⟨os,c,a⟩;unfold getItem
 try with_reducible refine zr ?_
 first|refine qb (qc ?_)|skip
 refine qb (wpAny_sequenceKey O.typeIs aQ ?_);refine qb (wpAny_callSpecial?_slot O.typeIs Jf
  (jt Jf O.typeIs entry_tuple_getitem ?_ (args_tuple_getitem _ _)))
 show wpAny _ _ (Builtin.Tuple.tupleItemsOf (.ref t) >>= _) _ _ s;refine qb (tupleItemsOf_ O ?_);refine qb (Zn b ?_);rw[if_pos aQ];refine qb (O0 hs pl pu ?_);have Z:¬((((sIx items.size 0 lo:Nat):Int)==0&&(1:Int)==1&&(sIx items.size items.size hi-sIx items.size 0 lo)==items.size)=true):=by intro q;rw[ze,ze]at q;have f:=eq_of_beq q.1.1;have g:=eq_of_beq q.2;exact hw ⟨by lia,by lia⟩
 show wpAny _ _ (if(((sIx items.size 0 lo:Nat):Int)==0&&(1:Int)==1&&(sIx items.size items.size hi-sIx items.size 0 lo)==items.size)=true then _ else _) _ _ s;rw[if_neg Z,R0]
 first
  |exact qb (yh (qc ⟨_,rfl,qc h⟩) J)
  |exact qb (yh (qb (qc (qc ⟨_,rfl,qc h⟩))) J)
  |exact qb (qb (yh (qc (qc ⟨_,rfl,qc h⟩)) J))
  |exact qb (qb (yh (qc ⟨_,rfl,qc h⟩) J))
end
end Lake.HT
namespace Lake.L2
open PySem.Spec PyProof.Rows
abbrev TO:=St->Hp->(bZ->Hp->Prop)->Prop
def PO(X:Cx)(e:m3)(t:TO):Prop:=
 ∀(aA:cK)(s:Shared)(L:St)(H:Hp)(Q:bZ->Hp->Prop),aJ X aA L H s->t L H Q->bV X.p X.w X.A (evalPart e X.v) (λ u s'=>∃o H',aJ X aA L H' s'/\IsPart u o/\Q o H') X.xe s
def SX:TO:=λ _ H Q=>Q none H
def Vl(t:TE):TO:=λ L H Q=>t L H λ x H1=>∃i,x=.int i/\Q (some i) H1
theorem fv:∀{us:bO},aS (ns.map V.int) us->IntsAre us ns:=by
 induction ns with
 |nil=>intro us r;rw[yj]at r;cases r;exact .nil
 |cons n ns J=>
  intro us r;rw[zc]at r;cases r with
  |cons a q=>
   obtain⟨t,e⟩:=a;subst e;exact .cons n t (J q)
section
variable{lo hi:m3}
theorem Tg:PO X none SX:=by intro aA s L H Q I h;rw[evalPart_none];exact qc ⟨none,H,I,.none,h⟩
theorem Tf(h:PE X e te):PO X (some e) (Vl te):=by
 intro aA s L H Q I Y;rw[evalPart_some];refine bT (h aA s L H _ I Y) λ u b=>eJ λ x H1 J a O=>?_;obtain⟨i,rfl,q⟩:=O;obtain⟨t,rfl⟩:=a;exact⟨some i,H1,J,.int i t,q⟩
def oC(X:Cx)(r:V->Option Int->Option Int->Hp->VK->Prop):Prop:=
 ∀(aA:cK)(s:Shared)(L:St)(H:Hp)(x:V)(v O q:Value)(lo hi:bZ)(J:Addr)(Q:VK),aJ X aA L H s->aT x v->s.heap.IsSliceOf J O q .none->IsPart O lo->IsPart q hi->r x lo hi H Q->∃T id,typeLookup (.type T) "__getitem__"=pure (some (.builtin id))∧s.TypeIs v T∧bV X.p X.w X.A (getItem v (.ref J)) (EP X aA L Q) X.xe s
theorem oC.or(h:oC X r)(h':oC X r'):oC X (λ x lo hi H Q=>r x lo hi H Q\/r' x lo hi H Q):=by
 intro aA s L H x v c Z lo hi b Q I O Y a J q;rcases q with q|q
 .exact h aA s L H x v c Z lo hi b Q I O Y a J q
 .exact h' aA s L H x v c Z lo hi b Q I O Y a J q
def tSl(r:V->Option Int->Option Int->Hp->VK->Prop)(te:TE)(tl th:TO):TE:=λ L H Q=>te L H λ x H1=>tl L H1 λ l H2=>th L H2 λ u q=>r x l u q Q
theorem J6(hr:oC X r)(he:PE X e te)(hl:PO X lo tl)(hu:PO X hi th):PE X (.Subscript e (.Slice lo hi none p2) pos) (tSl r te tl th):=by
 intro aA s L H Q I h;refine Subscript_ (bT (he aA s L H _ I h) λ v w=>eJ λ x H1 a t n=>?_);refine wpAny_Slice (bT (hl aA w L H1 _ a n) λ O y=>eJ λ l H2 c k o=>bT (hu aA y L H2 _ c o) λ Y J=>eJ λ u Z d m p=>?_);rw[evalPart_none];refine qc ?_;have f:aJ X aA L Z {J with heap:=J.heap.push {cls:=.type "slice",data:=.fields #[O,Y,.none]}}:=d.kept λ b ob q=>qd _ q;refine cM (hr aA {J with heap:=J.heap.push {cls:=.type "slice",data:=.fields #[O,Y,.none]}} L Z x v O Y l u J.heap.objs.size Q f t (Heap.IsSliceOf.new ..) k m p) λ T id g j i=>?_;exact tail_any j g i (by with_unfolding_all rfl)
def oF(xs:b_)(lo hi:bZ):b_:=(xs.drop (HT.sIx xs.length 0 lo)).take (HT.sIx xs.length xs.length hi-HT.sIx xs.length 0 lo)
theorem Ho(xs:b_)(lo hi:bZ):(oF xs lo hi).length<=xs.length:=by unfold oF;rw[jd,List.length_drop];lia
def Wg(K:Frag):V->Option Int->Option Int->Hp->VK->Prop:=λ x lo hi H Q=>∃a xs,x=.ref a/\d7 K H a xs/\¬(HT.sIx xs.length 0 lo=0/\HT.sIx xs.length xs.length hi=xs.length)/\∀p,H p=none->Q (.ref p) (upd H p (.t (oF xs lo hi)))
theorem Jm:oC X (Wg X.K):=by
 intro aA s L H x v j k lo hi i Q I g d f Z h;obtain⟨a,xs,rfl,hx,e,q⟩:=h;subst g;refine a_ (I.tuple hx) λ O r Y c=>?_;have J:O.toArray.size=xs.length:=by rw[zi];exact r.length.symm
 refine cD ("tuple") _ PyProof.Rows.slot_tuple_getitem.lookup Y.typeIs ?_;refine HT.getItem_tuple_cut Y d f Z (by rw[J];exact e) ?_ (by rw[J];exact c);rw[J];refine cD (.ref s.heap.n) _ (I.laid (λ b ob q=>qd _ q) (qj _) ?_) rfl (q _ (I.hok.fresh (qj _)));exact⟨qy (Ho xs lo hi) c,_,(r.drop (HT.sIx xs.length 0 lo)).take (HT.sIx xs.length xs.length hi-HT.sIx xs.length 0 lo),eG.new _ _⟩
def ZP(K:Frag):R2:=λ x y H Q=>∃a b xs ys,x=.ref a/\y=.ref b/\d7 K H a xs/\d7 K H b ys/\xs≠[]/\xs.length+ys.length<=sizeLine/\(ys=[]->Q (.ref a) H)/\(ys≠[]->∀p,H p=none->Q (.ref p) (upd H p (.t (xs++ys))))
theorem aS.nil_iff{xs:b_}{us:bO}(r:aS xs us):us=[]↔xs=[]:=by
 cases r with
 |nil=>simp
 |cons _ _=>simp
theorem cu8:d3 X (binaryOp .Add) (ZP X.K):=by intro aA s L H x y v u Q I k Z h;obtain⟨a,b,xs,ys,rfl,rfl,e,Y,hx,d,i,j⟩:=h;subst k;subst Z;obtain⟨l,c,f,_⟩:=I.tuple e;obtain⟨O,J,g,_⟩:=I.tuple Y;refine HT.cat_tup f g (λ z=>hx (c.nil_iff.mp z)) (λ z=>⟨.ref a,H,I,rfl,i (J.nil_iff.mp z)⟩) (λ z=>?_) (by rw[<-c.length,<-J.length];exact d);refine⟨.ref s.heap.n,_,I.laid (t':=s.toks) (o:=.t (xs++ys)) (λ b ob q=>qd _ q) (qj _) ?_,rfl,j (λ w=>z (J.nil_iff.mpr w)) _ (I.hok.fresh (qj _))⟩;exact⟨by rw[zm];exact d,_,c.append J,eG.new _ _⟩
end
abbrev _root_.jJ:=Option Nat
noncomputable def kZ(n:Nat)(i:Int):jJ:=if 0<=i then(if i<n then some i.toNat else none)else if -(n:Int)<=i then some (i+n).toNat else none
def kT{α:Type}(xs:List α)(i:Int):Option α:=(kZ xs.length i).bind λ j=>xs[j]?
theorem K4(h:kZ n i=some j):seqIndex? i n=some j/\j<n/\-(n:Int)<=i/\i<n:=by
 unfold kZ at h;by_cases q:0<=i
 .rw[if_pos q]at h;by_cases h1:i<n
  .rw[if_pos h1]at h;have e:=qi h;exact⟨by rw[seqIndex_of q h1,e],by lia,by lia,h1⟩
  .grind
 .rw[if_neg q]at h;by_cases h1:-(n:Int)<=i
  .rw[if_pos h1]at h;have e:=qi h;exact⟨by rw[seqIndex_neg aE h1,e],by lia,h1,by lia⟩
  .grind
theorem C2(h:kT xs i=some v):∃j,seqIndex? i xs.length=some j/\xs[j]?=some v/\j<xs.length/\-(xs.length:Int)<=i/\i<xs.length:=by
 unfold kT at h;cases e:kZ xs.length i with
 |none=>rw[e]at h;cases h
 |some j=>
  rw[e]at h;obtain⟨h1,h2,q,J⟩:=K4 e;exact⟨j,h1,h,h2,q,J⟩
theorem eN{xs:List α}{j:Nat}{v:α}(h:xs[j]?=some v):kT xs (j:Int)=some v:=by
 have q:=(fC.mp h).1;have e:kZ xs.length (j:Int)=some j:=by unfold kZ;rw[if_pos aE,if_pos aE];simp
 unfold kT;rw[e];exact h
def yK(b:Expr):Prop:=∀o i,subscripted b false o i=operate [o,i] (getItem o i)
def mD(X:Cx)(r:R2):Prop:=
 ∀(value q:Expr)(aA:cK)(s:Shared)(L:St)(H:Hp)(x y:V)(v u:Value)(Q:VK),aJ X aA L H s->aT x v->aT y u->r x y H Q->subscripted q false v u=operate [v,u] (getItem v u)->bV X.p X.w X.A (subscriptTail value q v u) (EP X aA L Q) X.xe s
def rG(X:Cx)(id:String)(r:V->List V->Hp->VK->Prop):Prop:=
 ∀(aA:cK)(s:Shared)(L:St)(H:Hp)(x:V)(xs:b_)(v:Value)(us:bO)(Q:VK),aJ X aA L H s->aT x v->aS xs us->r x xs H Q->bV X.p X.w X.A (call (.builtin id) (v::us)) (EP X aA L Q) X.xe s
section
variable{X:Cx}{a b:Expr}{ta tb:TE}{pos:Pos}
theorem mD.or(h:mD X r)(h':mD X Y):mD X (λ x y H Q=>r x y H Q\/Y x y H Q):=by grind[mD]
theorem rG.or{id:String}(h:rG X id r)(h':rG X id O):rG X id (λ x xs H Q=>r x xs H Q\/O x xs H Q):=by grind[rG]
theorem rV(Y:mD X r)(Z:PE X a ta)(J:PE X b tb)(hs:yK b):PE X (.Subscript a b pos) (wJ r ta tb):=by intro aA s L H Q I h;exact Subscript_ (DT Z J I h λ v u e x y H2 c O d q=>Y a b aA e L H2 x y v u Q c O d q (hs _ _))
def Lk(K:Frag):R2:=λ x y H Q=>∃p xs i v,x=.ref p/\y=.int i/\dz K H p xs/\kT xs i=some v/\Q v H
def Li(K:Frag):R2:=λ x y H Q=>∃p xs i v,x=.ref p/\y=.int i/\d7 K H p xs/\kT xs i=some v/\Q v H
def Lj:R2:=λ x y H Q=>∃z i c,x=.str z/\y=.int i/\z.length<=sizeLine/\kT z.cps.toList i=some c/\Q (.str ⟨#[c]⟩) H
theorem gq:mD X (Lk X.K):=by
 intro value O aA s L H x y v u Q I m n h c;obtain⟨p,xs,i,z,rfl,rfl,l,g,q⟩:=h;subst m;obtain⟨t,rfl⟩:=n;obtain⟨d,r,Z,B⟩:=I.list l;obtain⟨j,h1,h2,o,e,f⟩:=C2 g;obtain⟨w,a,Y⟩:=r.get h2;have k:=r.length;have A:=rC;have fin:EP X aA L Q w s:=⟨z,H,I,Y,q⟩;by_cases b:0<=i
 .have J:i.toNat=j:=by rw[seqIndex_of b f]at h1;exact qi h1
  exact item_listR Z.isList b aE (by rw[J];simpa using a) fin c
 .have J:(i+(d.toArray.size:Int)).toNat=j:=by rw[seqIndex_neg aE e]at h1;rw[zi,<-k];exact qi h1
  exact subscriptTail_builtinR Z.isList.typeIs slot_list_getitem.lookup
   (wpAny_getItem_list_neg Z.isList aE (by rw[zi]<;>lia) aE (by rw[J];simpa using a) ⟨rfl,fin⟩) c
theorem jS:mD X (Li X.K):=by
 intro value O aA s L H x y v u Q I Z f h e;obtain⟨p,xs,i,z,rfl,rfl,d,b,q⟩:=h;subst Z;obtain⟨t,rfl⟩:=f;obtain⟨g,r,Y,o⟩:=I.tuple d;obtain⟨j,h1,h2,k,l,m⟩:=C2 b;obtain⟨w,a,J⟩:=r.get h2;have c:=r.length;have n:=rC;have fin:EP X aA L Q w s:=⟨z,H,I,J,q⟩;exact subscriptTail_builtinR Y.typeIs slot_tuple_getitem.lookup
  (getItem_tuple Y aE aE (by rw[zi,<-c];exact h1) (by simpa using a) ⟨rfl,fin⟩) e
theorem X5:mD X Lj:=by
 intro value J aA s L H x y v u Q I O e h d;obtain⟨z,i,c,rfl,rfl,k,Y,q⟩:=h;obtain⟨t,rfl⟩:=O;obtain⟨l,rfl⟩:=e;obtain⟨j,h1,h2,f,a,b⟩:=C2 Y;have Z:z.cps.toList.length=z.length:=by simp[Str.length]
 rw[Z]at h1 a b;have g:=rC;exact tail_any (typeIs_str s z t) slot_str_getitem.lookup (getItem_str (by
grind) (by grind) ⟨.str ⟨#[c]⟩,H,I.tok _,⟨_,rfl⟩,q⟩) d
def N5(K:Frag):R2:=λ x y H Q=>Lk K x y H Q\/Li K x y H Q\/Lj x y H Q
theorem X6:mD X (N5 X.K):=gq.or (jS.or X5)
theorem Us(q:bO)(n j:Nat)(u:Value):Obj.mapSeq (·.setIfInBounds j u) {cls:=.type "list",data:=.seq q.toArray n}={cls:=.type "list",data:=.seq (q.set j u).toArray n}:=by simp[Obj.mapSeq]
theorem aJ.lst(I:aJ X aA L H s)(h:H p=some (.l xs)):∃(q:bO)(n:Nat),aS xs q∧s.heap.get? p=some {cls:=.type "list",data:=.seq q.toArray n}∧xs.length≤sizeLine:=by
 obtain⟨z,q,n,r,e⟩:=I.hok p _ h;exact cD q n r e z
theorem aJ.lstUpd{J its':bO}(I:aJ X aA L H s)(h:H p=some (.l xs))(ho:s.heap.get? p=some {cls:=.type "list",data:=.seq J.toArray n})(Y:f {cls:=.type "list",data:=.seq J.toArray n}={cls:=.type "list",data:=.seq its'.toArray O})(r:aS ys its')(hz:ys.length≤sizeLine)(t:Nat):aJ X aA L (upd H p (.l ys)) {s with heap:=s.heap.update p f,toks:=t}:=by
 have e:(s.heap.update p f).get? p=some {cls:=.type "list",data:=.seq its'.toArray O}:=by rw[zq f ho (by rw[Y]<;>rfl),Y]
 refine I.write (by rw[h];trivial) (.inl rfl) (λ b u Z q=>(ye _ _ (zy Z)).trans q) ⟨_,e⟩ ?_;exact⟨hz,its',O,r,e⟩
def Vy:V->V->V->Hp->(Hp->Prop)->Prop:=λ o i v H Q=>∃p xs k j,o=.ref p/\i=.int k/\H p=some (.l xs)/\kZ xs.length k=some j/\Q (upd H p (.l (xs.set j v)))
theorem J4:LB X Vy:=by
 intro aA s L H o i v B A u Q I m l w h;refine Bn h λ p xs k j a b d g q=>?_;obtain rfl:=a;obtain rfl:=b;subst m;obtain⟨t,rfl⟩:=l;obtain⟨J,n,r,Z,z⟩:=I.lst d;obtain⟨h1,h2,e,f⟩:=K4 g;have Y:=r.length;have y:=rC;have x:=
  I.lstUpd d Z (Us J n j u) (r.set w j) (by grind) s.toks
 by_cases c:0<=k
 .have O:k.toNat=j:=by rw[seqIndex_of c f]at h1;exact qi h1
  exact PySem.W.ki_setAt Z c aE (by grind) (by grind)
 .have O:(k+(J.toArray.size:Int)).toNat=j:=by rw[seqIndex_neg aE e]at h1;rw[zi,<-Y];exact qi h1
  exact PySem.W.ki_setBack Z aE (by grind) aE (by grind)
theorem QJ(lo hi:bZ)(n:Nat):(sliceBounds lo hi none n).1=((HT.sIx n 0 lo:Nat):Int)/\(sliceBounds lo hi none n).2.1=((HT.sIx n n hi:Nat):Int)/\(sliceBounds lo hi none n).2.2=1:=by
 refine⟨?_,?_,rfl⟩
 .cases lo with
  |none=>simp[sliceBounds,HT.sIx]
  |some i=>
   simp only[sliceBounds,HT.sIx,Option.getD_none,show(1:Int)>0 by decide,if_true];by_cases h:i<0
   .grind
   .grind
 .cases hi with
  |none=>simp[sliceBounds,HT.sIx]
  |some i=>
   simp only[sliceBounds,HT.sIx,Option.getD_none,show(1:Int)>0 by decide,if_true];by_cases h:i<0
   .grind
   .grind
theorem Po(q:bO)(lo hi:bZ):slicePick q.toArray lo hi none=((q.drop (HT.sIx q.length 0 lo)).take (HT.sIx q.length q.length hi-HT.sIx q.length 0 lo)).toArray:=by obtain⟨h1,h2,J⟩:=QJ lo hi q.toArray.size;unfold slicePick;rw[h1,h2,J];simp only[sliceRange_one,pick_run,zi]<;>rfl
def Wi(K:Frag):V->Option Int->Option Int->Hp->VK->Prop:=λ x lo hi H Q=>∃a xs,x=.ref a/\dz K H a xs/\∀p,H p=none->Q (.ref p) (upd H p (.l (oF xs lo hi)))
theorem kF:oC X (Wi X.K):=by
 intro aA s L H x v i j lo hi g Q I f c e Y h;obtain⟨a,xs,rfl,hx,q⟩:=h;subst f;refine a_ (I.list hx) λ Z r O d=>?_;have J:=r.length;refine cD ("list") _ slot_list_getitem.lookup O.isList.typeIs ?_;refine wpAny_getItem_list_slice O.isList c e Y .none bP ?_ (by grind);rw[Po,<-J];refine cD (.ref s.heap.n) _ (I.laid (λ b ob q=>qd _ q) (qj _) ?_) rfl (q _ (I.hok.fresh (qj _)));exact⟨qy (Ho xs lo hi) d,_,0,(r.drop (HT.sIx xs.length 0 lo)).take (HT.sIx xs.length xs.length hi-HT.sIx xs.length 0 lo),qk _ rfl⟩
noncomputable def mE:V->Bool
 |.n=>true
 |.b _=>true
 |.int _=>true
 |.str _=>true
 |_=>false
noncomputable def nO:V->V->Bool
 |.n,.n=>true
 |.b a,.b b=>a==b
 |.b a,.int b=>(if a then 1 else 0)==b
 |.int a,.b b=>a==(if b then 1 else 0)
 |.int a,.int b=>a==b
 |.str a,.str b=>a==b
 |_,_=>false
theorem YK(O:aT y u)(q:aT x v)(Y:mE y=true)(J:mE x=true):SeqAt.EqAt A s u v (nO y x):=by
 cases y with
 |n=>
  subst O;cases x with
  |n=>subst q;exact .same _
  |b b=>subst q;exact .none_bool b
  |int b=>obtain⟨t,rfl⟩:=q;exact .none_int b t
  |str b=>obtain⟨t,rfl⟩:=q;exact .none_str b t
  |_=>exact absurd (show false=true from J) zh
 |b a=>
  subst O;cases x with
  |n=>subst q;exact .bool_none a
  |b b=>subst q;exact .bool_bool a b
  |int b=>obtain⟨t,rfl⟩:=q;exact .bool_int a b t
  |str b=>obtain⟨t,rfl⟩:=q;exact .bool_str a b t
  |_=>exact absurd (show false=true from J) zh
 |int a=>
  obtain⟨c,rfl⟩:=O;cases x with
  |n=>subst q;exact .int_none a c
  |b b=>subst q;exact .int_bool a c b
  |int b=>obtain⟨t,rfl⟩:=q;exact .int_int a c b t
  |str b=>obtain⟨t,rfl⟩:=q;exact .int_str a c b t
  |_=>exact absurd (show false=true from J) zh
 |str a=>
  obtain⟨c,rfl⟩:=O;cases x with
  |n=>subst q;exact .str_none a c
  |b b=>subst q;exact .str_bool a c b
  |int b=>obtain⟨t,rfl⟩:=q;exact .str_int a c b t
  |str b=>obtain⟨t,rfl⟩:=q;exact .str_str a c b t
  |_=>exact absurd (show false=true from J) zh
 |_=>exact absurd (show false=true from Y) zh
def jQ(x:V)(u:Value):Bool:=match u with
 |.none=>nO .n x
 |.bool b=>nO (.b b) x
 |.int i _=>nO (.int i) x
 |.str z _=>nO (.str z) x
 |_=>false
theorem JN(r:aT y u)(f:mE y=true):jQ x u=nO y x:=by
 cases y with
 |n=>subst r;rfl
 |b b=>subst r;rfl
 |int i=>obtain⟨t,rfl⟩:=r;rfl
 |str z=>obtain⟨t,rfl⟩:=r;rfl
 |_=>exact absurd (show false=true from f) zh
theorem xN:∀{xs:b_}{us:bO},aS xs us->xs.all mE=true->us.any (jQ x)=xs.any λ y=>nO y x:=by intro b c a;induction a<;>grind[JN]
theorem xg(J:aT x v)(O:mE x=true):∀{xs:b_}{us:bO},aS xs us->xs.all mE=true->∀u∈us,SeqAt.EqAt A s u v (jQ x u)
 |_,_,.nil,_=>λ u q=>by cases q
 |y::xs,u::us,.cons r t,f=>λ Y q=>by
  rw[Qr,ze]at f;rcases qt q with rfl|q
  .rw[JN r f.1];exact YK r J f.1 O
  .exact xg J O t f.2 Y q
def AJ(x:V)(xs:b_):Bool:=xs.any λ y=>nO y x
def tJ(K:Frag)(q:Bool):R2:=λ x y H Q=>∃p xs,y=.ref p/\(dz K H p xs\/d7 K H p xs)/\mE x=true/\xs.all mE=true/\Q (.b (if q then !AJ x xs else AJ x xs)) H
theorem U2:d3 X (compareOp .In) (tJ X.K false):=by
 intro aA s L H x y v u Q I b d h;obtain⟨p,xs,rfl,O,a,fs,q⟩:=h;subst d;rcases O with O|O
 .obtain⟨J,r,Y,c⟩:=I.list O;refine SeqAt.in_listAt (jQ x) Y.isList (λ w Z=>xg b a r fs w (by simpa using Z)) ⟨.b _,H,I,rfl,?_⟩;rw[show J.toArray.any (jQ x)=J.any (jQ x) by simp,xN r fs];exact q
 .obtain⟨J,r,Y,c⟩:=I.tuple O;refine SeqAt.in_tupleAt (jQ x) Y (λ w Z=>xg b a r fs w (by simpa using Z)) ⟨.b _,H,I,rfl,?_⟩;rw[show J.toArray.any (jQ x)=J.any (jQ x) by simp,xN r fs];exact q
theorem Ib:d3 X (compareOp .NotIn) (tJ X.K true):=by
 intro aA s L H x y v u Q I b d h;obtain⟨p,xs,rfl,O,a,fs,q⟩:=h;subst d;rcases O with O|O
 .obtain⟨J,r,Y,c⟩:=I.list O;refine SeqAt.notIn_listAt (jQ x) Y.isList (λ w Z=>xg b a r fs w (by simpa using Z)) ⟨.b _,H,I,rfl,?_⟩;rw[show J.toArray.any (jQ x)=J.any (jQ x) by simp,xN r fs];exact q
 .obtain⟨J,r,Y,c⟩:=I.tuple O;refine SeqAt.notIn_tupleAt (jQ x) Y (λ w Z=>xg b a r fs w (by simpa using Z)) ⟨.b _,H,I,rfl,?_⟩;rw[show J.toArray.any (jQ x)=J.any (jQ x) by simp,xN r fs];exact q
theorem YU:d3 X (compareOp .NotIn) (λ x y H Q=>∃i j,x=.str i/\y=.str j/\Q (.b (!(!(Builtin.Str.occurrences j i 0 j.length 1).isEmpty))) H):=by intro aA s L H x y v u Q I J O h;obtain⟨i,j,rfl,rfl,q⟩:=h;obtain⟨t,rfl⟩:=J;obtain⟨a,rfl⟩:=O;exact notIn_str ⟨.b _,H,I,rfl,q⟩
theorem fG:bL X (.builtin "len") (λ xs H Q=>∃p ys,xs=[.ref p]∧(dz X.K H p ys∨d7 X.K H p ys)∧Q (.int ys.length) H):=by
 intro aA s L H xs us Q I r h;obtain⟨p,ys,rfl,O,q⟩:=h;obtain⟨u,rfl,c⟩:=ic r;subst c;have d:=rC;rcases O with O|O
 .obtain⟨a,Y,Z,b⟩:=I.list O;have J:=Y.length;exact Calls.call_len_list Z.isList (by grind) ⟨.int ys.length,H,I.tok _,⟨s.toks+1,by grind⟩,q⟩
 .obtain⟨a,Y,Z,b⟩:=I.tuple O;have J:=Y.length;exact len_tuple Z (by grind) ⟨.int ys.length,H,I.tok _,⟨s.toks+1,by grind⟩,q⟩
theorem QX:bL X (.builtin "len") (λ xs H Q=>∃z,xs=[.str z]∧z.length≤sizeLine∧Q (.int z.length) H):=by intro aA s L H xs us Q I r h;obtain⟨z,rfl,a,q⟩:=h;obtain⟨u,rfl,t,rfl⟩:=ic r;have J:=rC;exact len_str aE ⟨.int z.length,H,I.tok _,⟨_,rfl⟩,q⟩
theorem bL.or(h:bL X f r)(h':bL X f O):bL X f (λ xs H Q=>r xs H Q\/O xs H Q):=by grind[bL]
theorem G_:bL X (.type "list") (λ xs H Q=>∃p ys,xs=[.ref p]∧(dz X.K H p ys∨d7 X.K H p ys)∧∀l,H l=none→Q (.ref l) (upd H l (.l ys))):=by
 intro aA s L H xs us Q I r h;obtain⟨p,ys,rfl,Z,q⟩:=h;obtain⟨u,rfl,j⟩:=ic r;subst j;have fin:∀(J:bO),aS ys J->ys.length<=sizeLine->∀(h':Heap)(c':Nat),(∀b i,s.heap.get? b=some i->h'.get? b=some i)->h'.get? s.heap.n=some {cls:=.type "list",dict:=none,data:=.seq J.toArray c',slots:=#[]}→EP X aA L Q (.ref s.heap.n) {s with heap:=h'}:=λ J O a h' c' c e=>
  ⟨.ref s.heap.n,_,I.laid c (qj _) (show bC X.p X.w _ h' _ (.l ys)from⟨a,J,c',O,e⟩),rfl,q _ (I.hok.fresh (qj _))⟩
 rcases Z with Z|Z
 .obtain⟨J,O,g,a⟩:=I.list Z;have Y:=O.length;obtain⟨o,f,d,n,hd⟩:=g.isList;exact call_list_seq p (.inl rfl) f d hd (λ h' c' c e=>fin J O a h' c' c e) (by grind)
 .obtain⟨J,O,g,a⟩:=I.tuple Z;have Y:=O.length;obtain⟨o,f,d,n,hd⟩:=g;exact call_list_seq p (.inr rfl) f d hd (λ h' c' c e=>fin J O a h' c' c e) (by grind)
theorem Py:bL X (.type "tuple") (λ xs H Q=>∃p ys,xs=[.ref p]∧((dz X.K H p ys∧∀l,H l=none→Q (.ref l) (upd H l (.t ys)))∨(d7 X.K H p ys∧Q (.ref p) H))):=by
 intro aA s L H xs us Q I r h;obtain⟨p,ys,rfl,h⟩:=h;obtain⟨u,rfl,g⟩:=ic r;subst g;rcases h with⟨a,q⟩|⟨a,q⟩
 .refine a_ (I.list a) λ J O Y c=>?_;have i:=O.length;refine call_tuple_list Y.isList (λ h' f=>?_) (by grind);have Z:=I.kept (t':=s.toks) f;have d:=
   Z.laid (t':=s.toks) (λ b o e=>qd _ e) (qj _) (show bC X.p X.w _ _ _ (.t ys)from⟨c,J,O,eG.new _ _⟩)
  exact cD (.ref h'.n) _ d rfl (q _ (Z.hok.fresh (qj _)))
 .refine a_ (I.tuple a) λ J O Y c=>?_;exact call_tuple_same Y ⟨.ref p,H,I,rfl,q⟩
def A5(K:Frag)(T:String)(x:V)(H:Hp):Prop:=match x with
 |.str _=>T="str"
 |.int _=>T="int"
 |.ref p=>(T="list"∧∃xs,dz K H p xs)∨(T="tuple"∧∃o,K.lookup p=some o∧o.cls=.type "tuple"∧o.dict=none)∨
   (T="dict"∧((∃aI,H p=some (.dK aI))∨∃aI,H p=some (.dT aI)))∨(T="set"∧∃S n,H p=some (.set S n))
 |_=>False
theorem Xa(I:aJ X aA L H s)(r:aT x v)(ty:A5 X.K T x H):s.TypeIs v T/\∀a,v=.ref a->∃ob,s.heap.get? a=some ob/\ob.dict=none:=by
 cases x with
 |str z=>
  obtain⟨t,rfl⟩:=r;cases(show T="str" from ty);exact⟨typeIs_str s z t,λ _ e=>nomatch e⟩
 |int i=>
  obtain⟨t,rfl⟩:=r;cases(show T="int" from ty);exact⟨typeIs_int s i t,λ _ e=>nomatch e⟩
 |ref p=>
  subst r;rcases ty with⟨rfl,xs,d⟩|⟨rfl,o,q,b,hd⟩|⟨rfl,q⟩|⟨rfl,S,n,q⟩
  .obtain⟨O,_,J,_⟩:=I.list d;refine⟨J.isList.typeIs,λ a e=>?_⟩;cases e;obtain⟨o,n,e,c,hd,_⟩:=J;exact⟨o,e,hd⟩
  .refine⟨⟨o,I.kIn p o q,b⟩,λ a e=>?_⟩;cases e;exact⟨o,I.kIn _ o q,hd⟩
  .have z:∃o,s.heap.get? p=some o/\o.ExactDict:=by
    rcases q with⟨aI,q⟩|⟨aI,q⟩
    .obtain⟨_,_,_,_,o,_,_,e,ex,_⟩:=I.hok p _ q;exact⟨o,e,ex⟩
    .obtain⟨_,_,_,_,o,_,_,e,ex,_⟩:=I.hok p _ q;exact⟨o,e,ex⟩
   obtain⟨o,e,ex⟩:=z;refine⟨⟨o,e,ex.1⟩,λ a e2=>?_⟩;cases e2;exact⟨o,e,ex.2.1⟩
  .obtain⟨o,_,_,_,e,ex,_⟩:=I.hok p _ q;refine⟨⟨o,e,ex.1⟩,λ a e2=>?_⟩;cases e2;exact⟨o,e,ex.2.1⟩
 |_=>exact False.elim ty
def tBM(K:Frag)(T:String)(r:V->List V->Hp->VK->Prop)(to:TE)(t:TA):TE:=λ L H Q=>to L H λ x H1=>A5 K T x H1/\t L H1 λ xs H2=>r x xs H2 Q
variable{T id:String}
theorem L0(pa:PlainAttrs T)(slot:Slot T name id)(aa:typeOf (.builtin id)=pure (.type "method_descriptor"))(hm:rG X id r)(ho:PE X o to)(ha:PA X (e::es) t)(J:vW X o name)(Y:E5 X cpos (e::es))(O:(apos.endLine==cpos.line)=true)(hs:iX X e es)(q:iD X cpos es):PE X (.Call (.Attribute o name apos) (e::es) [] cpos) (tBM X.K T r to t):=by
 intro aA s L H Q I h;refine wpAny_Call_method_late J Y O rfl (bT (ho aA s L H _ I h) λ v j Z=>?_);obtain⟨x,H1,a,c,ty,f⟩:=Z;obtain⟨h1,h2⟩:=Xa a c ty;refine⟨T,id,pa,slot,aa,h1,h2,?_⟩;have b:=ha cpos aA j L H1 _ a f;rw[hs]at b⊢;refine Yk (by grind) (Y6 ?_);exact bT b λ us k=>eJ λ l H2 d i g=>hm aA k L H2 x l v us Q d c i g
end
def HL(X:Cx)(id:String)(r:V->List V->Hp->VK->Prop):Prop:=
 ∀(aA:cK)(s:Shared)(L:St)(H:Hp)(x:V)(xs:b_)(v:Value)(us:bO)(Q:VK),aJ X aA L H s->aT x v->aS xs us->r x xs H Q->bV X.p X.w X.A (call (.builtin id) (v::us)) (EP X aA L Q) X.xe s
theorem aS.one:∀{x:V}{us:bO},aS [x] us->∃u,us=[u]/\aT x u
 |_,_,h=>by
  cases h with
  |cons r t=>cases t;exact⟨_,rfl,r⟩
theorem aS.two:∀{x y:V}{us:bO},aS [x,y] us->∃u v,us=[u,v]/\aT x u/\aT y v
 |_,_,_,h=>by
  cases h with
  |cons r t=>
   cases t with
   |cons q z=>cases z;grind
theorem aS.zero:∀{us:bO},aS [] us->us=[]
 |_,.nil=>rfl
theorem aS.eraseIdx:∀{xs:b_}{us:bO}(i:Nat),aS xs us->aS (xs.eraseIdx i) (us.eraseIdx i)
 |_,_,_,.nil=>.nil
 |_,_,0,.cons _ t=>t
 |_,_,i+1,.cons r t=>.cons r (aS.eraseIdx i t)
section
variable{X:Cx}{aA:cK}{L:St}{H:Hp}{s:Shared}{l b:Addr}{xs ys zs:b_}
theorem aJ.lset{J its':bO}(I:aJ X aA L H s)(Y:H l=some (.l xs))(e:s.heap.get? l=some {cls:=.type "list",data:=.seq J.toArray n})(hf:f J.toArray=its'.toArray)(O:aS ys its')(hz:ys.length≤sizeLine):aJ X aA L (upd H l (.l ys)) {s with heap:=s.heap.update l (Obj.mapSeq f),toks:=t'}:=by
 have q:=PySem.IsL.update e f;rw[hf]at q;refine I.write (by rw[Y];exact trivial) (.inl rfl) (λ b u Z a=>(ye s.heap (Obj.mapSeq f) (zy Z)).trans a) ⟨_,q⟩ ?_;exact⟨hz,its',_,O,q⟩
theorem aJ.lnew(I:aJ X aA L H s)(O:aS ys J)(hz:ys.length<=sizeLine):aJ X aA L (upd H s.heap.n (.l ys)) {s with heap:=s.heap.push {cls:=.type "list",data:=.seq J.toArray},toks:=t'}:=
 I.laid (λ _ _ q=>qd _ q) (qj _) ⟨hz,J,0,O,qk _ rfl⟩
theorem aJ.fresh(I:aJ X aA L H s):H s.heap.n=none:=I.hok.fresh (qj _)
theorem aJ.lstM(I:aJ X aA L H s)(J:H l=some (.l xs)):xs.length≤sizeLine∧∃(q:bO)(n:Nat),aS xs q∧xs.length=q.length∧s.heap.get? l=some {cls:=.type "list",data:=.seq q.toArray n}:=by obtain⟨z,q,n,r,e⟩:=I.hok l _ J;exact⟨z,q,n,r,r.length,e⟩
theorem R3(h:n<=sizeLine):Builtin.List.listTooLong n=false:=by exact yv aE
end
section
def S6:V->List V->Hp->VK->Prop:=λ x vs H Q=>∃l xs y,x=.ref l/\vs=[y]/\H l=some (.l xs)/\xs.length<sizeLine/\Q .n (upd H l (.l (xs++[y])))
theorem U5:HL X "list.append" S6:=by intro aA s L H x d v us Q I Y a h;obtain⟨l,xs,y,rfl,rfl,O,c,q⟩:=h;subst Y;obtain⟨u,rfl,Z⟩:=a.one;obtain⟨z,J,n,r,b,e⟩:=I.lstM O;refine call_meets F.slot_list_append ⟨_,e,rfl⟩ F.entry_list_append (F.args_list_append_2 _ _) (PySem.list_append l J.toArray n u (by grind)) ⟨e,?_⟩;refine cD .n _ (I.lset O e bP (r.append (.cons Z .nil)) ?_) rfl q;rw[zm,List.length_singleton];lia
end
end Lake.L2
namespace Lake.Att
open PySem.W PySem.Calls PyProof.Rows
abbrev _root_.ed:=List Int
theorem O8:∀(ns:ed)(vs:bO),WellAll P h vs (ns.map WData.int)->IntsAre vs ns:=by
 intro ns;induction ns with
 |nil=>
  intro vs w;rw[yj]at w;cases w;exact .nil
 |cons n ns q=>
  intro vs w;rw[zc]at w;cases w with
  |cons a b=>
   cases a;exact .cons _ _ (q _ b)
theorem UO{l:OpenLaw}(hn:l.most=some n)(O:l.row.toRowW.claim.pre args=true)(ac:WellAll P h J args):∃a vs ns,J=[Value.ref a]∧args=[WData.list (ns.map WData.int)]∧h.get? a=some {cls:=.type "list",data:=.seq vs.toArray}∧IntsAre vs ns∧ns.length≤n:=by
 have e:=(pre_splitW O).1;have g:l.pre.holds [] {args:=args}=true:=(pre_splitW O).2;obtain⟨d,r,rfl,h1,h2⟩:=hasAllW_cons e;obtain rfl:=hasAllW_nil h2;obtain⟨xs,rfl,f⟩:=hasW_list h1;obtain⟨ns,rfl⟩:=items_int f;have Y:ns.length<=n:=by
  have b:(WTm.not (.lt (.lit (.int (n:Int))) (.len (.arg 0)))).holds [] {args:=[.list (ns.map .int)]}=true:=by have b:=(holds_andW g).1;rw[hn]at b;exact b
  have c:=condW_of b (w_not (w_lt w_lit (w_len_list (w_arg rfl))));rw[qx]at c;refine Nat.le_of_not_lt λ q=>?_;have j:(n:Int)<((ns.length:Nat):Int):=aE
  first
   |(rw[zk j]at c;exact absurd c aQ)
   |(simp at c;lia)
 cases ac with
 |cons k m=>
  cases m;cases k with
  |list i Z=>exact⟨_,_,ns,rfl,rfl,i,O8 ns _ Z,Y⟩
theorem UW(l:OpenLaw)(args:List WData):l.row.toRowW.claim.post args (.bool true) args=true:=
 postW_of
  (show WShape.has [] (.bool true) .bool=true by first|rfl|decide|simp[WShape.has,WShape.arms,WShape.armsAll])
  (show(WTm.eq .res (.lit (.bool true))).value [] {args:=args,res:=some (.bool true),after:=args}=some (.bool (true==true))from w_eq_bool (w_res rfl) w_lit) rfl
theorem attach_call{l:OpenLaw}(hn:l.most=some n)(ag:d.params.defaults=[])(call:∀(w:World)(s₀ J:Shared)(mg mb:Str->Option Value)(fa:Addr)(o:Obj)(pm cd aa:Value)(a:Addr)(vs:bO)(ns:ed),Ground q O [] XP w s₀ mg mb J.heap->YP w J.heap->J.heap.get? fa=some o->o.data=.func (docDef d.name d.params d.body d.scope pm cd aa)->J.heap.CodeRec cd d.name->mg d.name=some (.ref fa)->J.heap.get? a=some {cls:=.type "list",data:=.seq vs.toArray}→IntsAre vs ns→ns.length≤n→J.gens=#[]→codeAny (model l.prog w) callerA (.call (.ref fa) ⟨[.ref a],[]⟩) (λ r s'=>r=.ok (.ret (.bool true))/\OldK J.heap s'.heap/\s'.os=J.os/\AllBare s'.gens) J):WalkO q O XP YP l.row.toRowW d [] (λ f vs=>PySem.call f vs):=by
 intro w s₀ J mg mb G Y fa o pm cd aa k kV u hd i b j s args y B g x A h z;obtain rfl:k=.none:=Dflts.none b ag;obtain rfl:kV=.none:=Dflts.noKw b;obtain⟨a,vs,ns,rfl,rfl,c,Z,e⟩:=UO hn g h;refine enter_call (jy (call w s₀ J mg mb fa o pm cd aa a vs ns G Y u (fd_plain hd) i j c Z e s) λ r s' v=>?_);obtain⟨rfl,h2,m,p⟩:=v;exact⟨.inl ⟨.bool true,.bool true,[],rfl,λ _=>rfl,.bool true,UW l _,λ _=>⟨Z6,λ _ t=>(nomatch t)⟩⟩,h2,m,p⟩
end Lake.Att
namespace Lake.L2
open PySem.Spec PyProof.Rows
theorem eQ:∀{vs:bO}{ns:ed},IntsAre vs ns->aS (ns.map V.int) vs
 |_,_,.nil=>.nil
 |_,_,.cons n t h=>.cons ⟨t,rfl⟩ (eQ h)
noncomputable def n5(s:Stmt):Arguments:=match s with
 |.FunctionDef _ a _ _ _ _ _ _ _ _=>a
 |_=>{posonlyargs:=[],args:=[],vararg:=none,kwonlyargs:=[],kw_defaults:=[],kwarg:=none,defaults:=[]}
def gQ(s:Stmt):jU:=match s with
 |.FunctionDef _ _ b _ _ _ _ _ _ _=>b
 |_=>[]
noncomputable def bA(s:Stmt):Scope:=match s with
 |.FunctionDef _ _ _ _ _ _ sc _ _ _=>sc
 |_=>{kind:=.function,names:=[],isGenerator:=false,isCoroutine:=false}
abbrev fX:oz:=λ _ _ _ _ _ _=>False
abbrev E0:XK:=λ _ _ _=>False
theorem uX:dy fX X E0:=λ _ _ _ _ _ _ _ h=>h.elim
abbrev _root_.kD:=Option Addr
abbrev _root_.kC:=Option Value
structure iz(K:Frag)(x qual:Str)(st:Stmt)(f:Addr)(fd:FuncData):Prop where
 ex:∃(oc:Value)(od:kD)(kV doc pm:Value)(an:kD)(cdv ct:Value)(osl:Array (kC)),fd=fnOf x qual (n5 st) (gQ st) (bA st) .none kV doc pm an cdv ct/\K.lookup f=some ⟨oc,od,.func fd,osl⟩/\codeIn K cdv qual=true
 kp:keepIn K (.ref f)=true
section
variable{K:Frag}
theorem iz.ok{st:Stmt}(F:iz K x qual st f fd)(S:aG N ps (bA st))(len:∀vs H Q E,sp vs H Q E->vs.length=ps.length)(O:∀(J:Value)(A:Around)(outer:fP)(s:Shared)(H:Hp)(vs:b_)(Q:VK)(E:XK),bJ k (A.deeper (envOfC qual (bA st) s.heap.n f J))->sp vs H Q E->∃t,eL (f_ fX P w K mg base N qual (bA st) f J A outer s H E).nox (gQ st) t/\t {nx:=λ _ H'=>Q .n H',rt:=Q} (start N vs) H):cR P w K mg base fX (k+1) f fd ps sp:=by
 obtain⟨i,j,kV,c,l,e,J,g,d,rfl,b,Y⟩:=F.ex;refine zX b Y S len λ A outer s H vs Q E a Z=>?_;obtain⟨t,h,q⟩:=O J A outer s H vs Q E a Z;exact⟨t,h.nox,q⟩
theorem iz.binds{st:Stmt}(F:iz K x qual st f fd)(h:∀(kV J O:Value)(Y:kD)(q ct:Value)(us:bO),us.length=ps.length->bindArgs (fnOf x qual (n5 st) (gQ st) (bA st) .none kV J O Y q ct) ⟨us,[]⟩=pure (ps.zip us)):dE K fd ps []:=by
 obtain⟨c,d,kV,J,O,Y,q,ct,a,rfl,b,Z⟩:=F.ex;exact .all (h kV J O Y q ct)
theorem vO{st:Stmt}{kV J Y q ct:Value}(l:K.lookup f=some ⟨oc,od,.func (fnOf x qual (n5 st) (gQ st) (bA st) .none kV J Y Z q ct),O⟩)(c:codeIn K q qual=true)(k:keepIn K (.ref f)=true):iz K x qual st f (fnOf x qual (n5 st) (gQ st) (bA st) .none kV J Y Z q ct):=⟨⟨oc,od,kV,J,Y,Z,q,ct,O,rfl,l,c⟩,k⟩
end
theorem gR(q:bJ k A):A.units+1<cLine:=j0 (Y8 (by decide:1<=64) _) q.units
theorem Br(h:n<=1000):n<sizeLine:=j0 h aQ
section
theorem pv(i:Nat)(O:X.N[i]?=some x:=by rfl)(J:gk X.v.scope x:=by exact i7)(hd:df x:=by decide)(q:fA x:=by decide):PE X (.Name x pos) (Lb i):=fT O J hd q
end
def aB(H H':Hp):Prop:=∀b o,H b=some o->H' b=some o
theorem aB.refl(H:Hp):aB H H:=λ _ _ h=>h
theorem aB.trans(a:aB H H1)(b:aB H1 H2):aB H H2:=λ c o h=>b c o (a c o h)
theorem aB.free(e:aB H H')(h:H' l=Option.none):H l=Option.none:=by
 cases q:H l with
 |none=>rfl
 |some o=>
  rw[e l o q]at h;simp at h
theorem aB.seq{K:Frag}(e:aB H H')(h:dz K H a xs):dz K H' a xs:=by
 rcases h with(h|⟨o,h⟩)|h
 .exact .inl (.inl (e _ _ h))
 .exact .inl (.inr ⟨o,e _ _ h⟩)
 .exact .inr h
section
variable[DecidableEq κ]
noncomputable def gV(aI:List (κ×V))(k:κ):Option V:=(aI.find? λ q=>decide (q.1=k)).map (·.2)
noncomputable def hZ(aI:List (κ×V))(k:κ)(v:V):List (κ×V):=
 if(aI.any λ q=>decide (q.1=k))=true then aI.map (λ q=>if q.1=k then(q.1,v)else q)else aI++[(k,v)]
theorem Bi{k:κ}(e:p.1=k):gV (p::r) k=some p.2:=by simp[gV,e]
theorem wQ{k:κ}(e:¬p.1=k):gV (p::r) k=gV r k:=by simp[gV,e]
theorem wR(k:κ):∀aI:List (κ×V),(aI.any λ q=>decide (q.1=k))=(gV aI k).isSome
 |[]=>rfl
 |p::r=>by
  rw[List.any_cons];by_cases e:p.1=k
  .simp only[Bi e,zk e,Bool.true_or,Option.isSome_some]
  .rw[wQ e,yv e,Bool.false_or];exact wR k r
theorem F5(aI:List (κ×V))(k:κ)(v:V):(hZ aI k v).length<=aI.length+1:=by grind[hZ]
theorem IQ{k:κ}(v:V)(h:gV aI k=none):hZ aI k v=aI++[(k,v)]:=by grind[hZ,wR]
theorem fq.isSome_eq(r:fq o u):o.isSome=u.isSome:=by
 cases o with
 |none=>cases u with
  |none=>rfl
  |some _=>exact(show False from r).elim
 |some _=>cases u with
  |none=>exact(show False from r).elim
  |some _=>rfl
theorem fq.getD(r:fq o u)(rd:aT d d'):aT (o.getD d) (u.getD d'):=by
 cases o with
 |none=>cases u with
  |none=>exact rd
  |some _=>exact(show False from r).elim
 |some _=>cases u with
  |none=>exact(show False from r).elim
  |some _=>exact r
theorem KV.val(r:KV aI vs)(k:κ):fq (gV aI k) (valueAt vs k):=by
 induction r with
 |nil=>exact Qh
 |@cons p q ps Y h t Z=>
  obtain⟨h1,h2⟩:=h;by_cases e:p.1=k
  .have O:=h1.symm.trans e;have b:valueAt (q::Y) k=some q.2:=by simp[valueAt,O]
   rw[Bi e,b];exact h2
  .have O:¬q.1=k:=λ z=>e (h1.trans z);have b:valueAt (q::Y) k=valueAt Y k:=by simp[valueAt,O]
   rw[wQ e,b];exact Z
theorem KV.any(r:KV aI vs)(k:κ):(aI.any λ q=>decide (q.1=k))=vs.any λ q=>decide (q.1=k):=by
 induction r with
 |nil=>rfl
 |cons h t J=>rw[List.any_cons,List.any_cons,J,h.1]
theorem KV.repl(r:KV aI vs)(k:κ)(O:aT y u):KV (aI.map λ J=>if J.1=k then(J.1,y)else J) (vs.map λ J=>if J.1=k then(J.1,u)else J):=by
 induction r with
 |nil=>exact .nil
 |@cons p q ps qs h t Y=>
  rw[zc,zc];refine .cons ?_ Y;grind
theorem KV.put(r:KV aI vs)(k:κ)(q:aT y u):KV (hZ aI k y) (stored vs k u):=by
 unfold hZ stored;rw[r.any k];by_cases e:(vs.any λ J=>decide (J.1=k))=true
 .rw[if_pos e,if_pos e];exact r.repl k q
 .rw[if_neg e,if_neg e];exact Paired.snoc r ⟨rfl,q⟩
theorem KV.keys{aI:List (κ×V)}(r:KV aI vs):aI.map (·.1)=vs.map (·.1):=by
 induction r with
 |nil=>rfl
 |cons h t q=>rw[zc,zc,q,h.1]
theorem KV.length(r:KV aI vs):aI.length=vs.length:=Ja r
end
theorem pY(r:aT (kV k) u):(gc P w).is k u=true:=by
 cases k with
 |inl i=>obtain⟨t,e⟩:=(show ∃t,u=Value.int i t from r);subst e;exact TR P w i t
 |inr x=>obtain⟨t,e⟩:=(show ∃t,u=Value.str x t from r);grind[TN]
theorem Ik:∀{ks:List Key}{us:bO},aS (ks.map kV) us->ItemsAre (gc P w) ks us
 |[],_,r=>by rw[yj]at r;cases r;exact .nil
 |k::ks,_,r=>by
  rw[zc]at r;cases r with
  |cons h t=>exact .cons (pY h) (Ik t)
abbrev KT(H:Hp):List (List Key×V)->List (List Key×Addr×Value)->Prop:=Paired λ p q=>p.1=q.1/\H q.2.1=some (.t (p.1.map kV))/\aT p.2 q.2.2
theorem KT.val(r:KT H aI xs)(k:List Key):fq (gV aI k) ((atKey xs k).map (·.2)):=by
 induction r with
 |nil=>exact Qh
 |@cons p q ps Y h t Z=>
  obtain⟨h1,_,h2⟩:=h;by_cases e:p.1=k
  .have O:=h1.symm.trans e;have b:atKey (q::Y) k=some q.2:=by simp[atKey,O]
   rw[Bi e,b];exact h2
  .have O:¬q.1=k:=λ z=>e (h1.trans z);have b:atKey (q::Y) k=atKey Y k:=by simp[atKey,O]
   rw[wQ e,b];exact Z
theorem KT.repl(r:KT H aI xs)(k:List Key)(Y:aT y u):KT H (aI.map λ J=>if J.1=k then(J.1,y)else J) (xs.map (putAt k u)):=by
 induction r with
 |nil=>exact .nil
 |@cons p q ps qs h t Z=>
  rw[zc,zc];refine .cons ?_ Z;obtain⟨h1,h2,O⟩:=h;unfold putAt;by_cases e:p.1=k
  .grind
  .grind
theorem KT.put(r:KT H aI xs)(k:List Key)(O:H b=some (.t (k.map kV)))(J:aT y u):KT H (hZ aI k y) (storedH xs k b u):=by
 have e:(aI.any λ Y=>decide (Y.1=k))=(atKey xs k).isSome:=by rw[wR,(r.val k).isSome_eq,Option.isSome_map]
 unfold hZ storedH;rw[e];by_cases q:(atKey xs k).isSome=true
 .rw[if_pos q,if_pos q];exact r.repl k J
 .rw[if_neg q,if_neg q];exact Paired.snoc r ⟨rfl,O,J⟩
theorem KT.keeps(r:KT H aI xs)(q:∀b ys,H b=some (.t ys)->H' b=some (.t ys)):KT H' aI xs:=
 Paired.mapP r λ _ _ z=>⟨z.1,q _ _ z.2.1,z.2.2⟩
section
theorem LV(ok:eD P w H h)(e:Rd H a u):bC P w H h a u:=e.ok ok
theorem nz(ok:eD P w H h)(e:Rd H a (.dK aI)):aI.length<=sizeLine/\(a==sysModules)=false/\∃vs,KV aI vs/\h.DictOf (gc P w) a vs:=
 show bC P w H h a (.dK aI)from LV ok e
theorem Mm(ok:eD P w H h)(e:H a=some (.dK aI)):aI.length<=sizeLine/\(a==sysModules)=false/\∃vs,KV aI vs/\h.DictOf (gc P w) a vs:=nz ok (.inl e)
theorem va(ok:eD P w H h)(e:H a=some (.t (ks.map kV))):(tupleKind (gc P w)).is h ks a:=by obtain⟨_,q,r,o,h1,h2,⟨n,J⟩,_⟩:=(show bC P w H h a (.t (ks.map kV))from ok a _ e);exact⟨o,q.toArray,n,h1,h2,J,by simpa using Ik r⟩
theorem rT(ok:eD P w H h)(e:Rd H a (.dT aI)):aI.length<=sizeLine/\(a==sysModules)=false/\∃xs,KT H aI xs/\h.DictOfH (tupleKind (gc P w)) a xs:=by
 obtain⟨z,y,xs,r,o,es,b,h1,h2,Z,Y,O⟩:=(show bC P w H h a (.dT aI)from LV ok e);refine⟨z,y,xs,r,o,es,b,h1,h2,Z,Y,λ x hx=>?_,O⟩;have all:∀{l:List (List Key×V)}{m:List (List Key×Addr×Value)},KT H l m->∀x∈m,(tupleKind (gc P w)).is h x.1 x.2.1:=by
  intro l m q;induction q with
  |nil=>intro x hx;exact nomatch hx
  |@cons p q ps qs J t c=>
   intro x hx;rcases qt hx with e|hx
   .grind[va]
   .exact c x hx
 exact all r x hx
theorem VU(ok:eD P w H h)(e:H a=some (.dT aI)):aI.length<=sizeLine/\(a==sysModules)=false/\∃xs,KT H aI xs/\h.DictOfH (tupleKind (gc P w)) a xs:=rT ok (.inl e)
end
def eS(H:Hp)(a:Addr)(y:V)(r:Option V):Prop:=
 (∃aI k,Rd H a (.dK aI)/\y=kV k/\r=gV aI k)\/∃aI k b,Rd H a (.dT aI)/\y=.ref b/\H b=some (.t (k.map kV))/\r=gV aI k
def iK(H:Hp)(a:Addr)(y v:V)(H':Hp):Prop:=
 (∃aI k,H a=some (.dK aI)/\y=kV k/\aI.length<sizeLine/\H'=upd H a (.dK (hZ aI k v)))\/
 ∃aI k b,H a=some (.dT aI)/\y=.ref b/\H b=some (.t (k.map kV))/\aI.length<sizeLine/\H'=upd H a (.dT (hZ aI k v))
theorem eS.k{H:Hp}{a:Addr}{aI:fO}{k:Key}(e:H a=some (.dK aI)):eS H a (kV k) (gV aI k):=.inl ⟨aI,k,.inl e,rfl,rfl⟩
theorem eS.t{k:List Key}(e:H a=some (.dT aI))(q:H b=some (.t (k.map kV))):eS H a (.ref b) (gV aI k):=.inr ⟨aI,k,b,.inl e,rfl,q,rfl⟩
theorem iK.k{H:Hp}{a:Addr}{aI:fO}{k:Key}{v:V}(e:H a=some (.dK aI))(q:aI.length<sizeLine):iK H a (kV k) v (upd H a (.dK (hZ aI k v))):=.inl ⟨aI,k,e,rfl,q,rfl⟩
theorem iK.t{k:List Key}(e:H a=some (.dT aI))(q:H b=some (.t (k.map kV)))(J:aI.length<sizeLine):iK H a (.ref b) v (upd H a (.dT (hZ aI k v))):=.inr ⟨aI,k,b,e,rfl,q,J,rfl⟩
section
variable{X:Cx}{aA:cK}{L:St}{H:Hp}{s:Shared}{a:Addr}{y v:V}{u r:Value}{o:Option V}{A:Around}{E:c8}
theorem aJ.big(I:aJ X aA L H s):sysModules<s.heap.n:=by have h:=(I.mod.glob.keeps I.bk).lt;exact Nat.lt_trans aQ h
theorem Rj(hu:A.units+1<cLine)(I:aJ X aA L H s)(g:eS H a y (some v))(ry:aT y u)(h:∀O s',aJ X aA L H s'->aT v O->Q O s'):wpAny (model X.p X.w) A (getItem (.ref a) u) Q E s:=by
 rcases g with⟨aI,k,e,c,l⟩|⟨aI,k,b,e,c,d,l⟩
 .subst c;obtain⟨z,hd,i,q,dd⟩:=nz I.hok e;obtain⟨O,Z,J⟩:=fq.some_of (by rw[l];exact q.val k);exact wpAny_getItem_of (pY ry) dd.mapOf Z (h O _ (I.tok _) J)
 .subst c;cases(show u=Value.ref b from ry);obtain⟨z,hd,xs,q,dd⟩:=rT I.hok e;obtain⟨O,Z,J⟩:=fq.some_of (by rw[l];exact q.val k);obtain⟨p,f,Y⟩:=Option.map_eq_some_iff.mp Z;refine wpAny_getItem_heap (Zu hu) (va I.hok d) dd f ?_;rw[Y];exact h O _ (I.tok _) J
theorem WW(Y:A.units+1<cLine)(I:aJ X aA L H s)(g:eS H a y o)(O:aT y u)(h:∀s',aJ X aA L H s'->Q (.bool (!o.isSome)) s'):wpAny (model X.p X.w) A (compareOp .NotIn u (.ref a)) Q E s:=by
 rcases g with⟨aI,k,e,c,l⟩|⟨aI,k,b,e,c,d,l⟩
 .subst c;obtain⟨z,hd,f,J,dd⟩:=nz I.hok e;refine wpAny_notIn_of (pY O) hd dd.mapOf ?_;rw[<-(J.val k).isSome_eq,<-l];exact h _ (I.tok _)
 .subst c;cases(show u=Value.ref b from O);obtain⟨z,hd,xs,J,dd⟩:=rT I.hok e;refine wpAny_notIn_heap (Zu Y) (va I.hok d) hd dd ?_;have q:=(J.val k).isSome_eq;rw[Option.isSome_map]at q;rw[<-q,<-l];exact h _ (I.tok _)
theorem CZ(I:aJ X aA L H s)(Y:uB (H a))(Z:Heap.SameBut a s.heap h')(J:∃q,h'.get? a=some q)(new:bC X.p X.w (upd H a ob) h' a ob):aJ X aA L (upd H a ob) {s with heap:=h',toks:=t'}:=
 I.write Y (.inl rfl) (λ b q O z=>(Z.2 b O).trans z) J new
theorem uV(z:aI.length<=sizeLine)(hd:(a==sysModules)=false)(q:KV aI vs)(dd:h'.DictOf (gc P w) a vs):bC P w H' h' a (.dK aI):=⟨z,hd,vs,q,dd⟩
theorem Ri(hu:A.units+1<cLine)(I:aJ X aA L H s)(g:iK H a y v H')(ry:aT y u)(rv:aT v r)(h:∀s',aJ X aA L H' s'->Q () s'):wpAny (model X.p X.w) A (setItem (.ref a) u r) Q E s:=by
 rcases g with⟨aI,k,e,f,l,d⟩|⟨aI,k,b,e,f,j,l,d⟩
 .subst f d;obtain⟨z,hd,C,J,dd⟩:=Mm I.hok e;have B:C.length<=sizeLine:=by rw[<-J.length];exact z
  have Z:(hZ aI k v).length<=sizeLine:=by have:=F5 aI k v;lia
  refine wpAny_setItem_pairs (pY ry) dd λ h' O i=>h _ ?_;have x:∃q,h'.get? a=some q:=let ⟨q,_,_,Y,_⟩:=O;⟨q,Y⟩;exact CZ I (by rw[e];exact Qh) i x (uV Z hd (J.put k rv) O)
 .subst f d;cases(show u=Value.ref b from ry);obtain⟨z,hd,xs,J,dd⟩:=VU I.hok e;have B:xs.length<=sizeLine:=by rw[<-Ja J];exact z
  have Z:(hZ aI k v).length<=sizeLine:=by have:=F5 aI k v;lia
  refine wpAny_setItem_heap (Zu hu) (va I.hok j) dd λ h' O i=>h _ ?_;obtain⟨q,es,n,Y,h2,o,p,_,t⟩:=O;refine CZ I (by rw[e];exact Qh) i ⟨q,Y⟩ ⟨Z,hd,_,(J.put k j rv).keeps λ c ys m=>?_,q,es,n,Y,h2,o,p,t⟩;rw[bS (ne_of m e (λ z=>nomatch z))];exact m
end
def vi(i:Expr):Prop:=∀q J,subscripted i false q J=operate [q,J] (getItem q J)
theorem SY{T id:String}(hl:typeLookup (.type T) "__getitem__"=pure (some (.builtin id)))(hs:vi q)(h:bV prog w A (eval value env) (λ o Z=>bV prog w A (eval q env) (λ i J=>J.TypeIs o T/\bV prog w A (getItem o i) Q E J) E Z) E s):bV prog w A (eval (.Subscript value q pos) env) Q E s:=by
 refine Subscript_ (zv h (λ o Z c=>zv c (λ i J O=>?_) λ _ _ x=>x) λ _ _ x=>x);obtain⟨a,O⟩:=O;refine qb ?_;rw[getitemInPython_of_ne a.not_modules];refine qb (wpAny_specialOf a hl ?_);have fin:bV prog w A (subscripted q false o i) (λ r Y=>bV prog w A (letTemporaryGo value o r >>= λ _=>pure r) Q E Y) E J:=by rw[hs o i];exact wpAny_operating (zv O (λ r Y b=>qb (wpAny_letTemporaryGo (qc b))) λ _ _ x=>x)
 first
  |exact qc (qb fin)
  |exact qb (qc (qb fin))
  |exact qb fin
theorem T3(I:aJ X aA L H s)(g:eS H a y o):s.TypeIs (.ref a) "dict":=by
 rcases g with⟨aI,k,e,_,_⟩|⟨aI,k,b,e,_,_,_⟩
 .obtain⟨_,_,c,_,dd⟩:=nz I.hok e;exact dd.typeIs
 .obtain⟨_,_,xs,_,dd⟩:=rT I.hok e;exact dd.typeIs
def Vq(td ty:TE):TE:=λ L H Q=>td L H λ x H1=>ty L H1 λ y H2=>∃a v,x=.ref a/\eS H2 a y (some v)/\Q v H2
def Vx(td ty tv:TE):TS:=λ D L H=>tv L H λ v H1=>td L H1 λ x H2=>ty L H2 λ y J=>∃a q,x=.ref a/\iK J a y v q/\D.nx L q
section
theorem zM(Y:X.A.units+1<cLine)(ho:PE X o td)(hi:PE X i ty)(hs:vi i):PE X (.Subscript o i pos) (Vq td ty):=by intro aA s L H Q I h;refine SY PySem.F.slot_dict_getitem.lookup hs (bT (ho aA s L H _ I h) λ u j⟨x,H1,b,e,c⟩=>bT (hi aA j L H1 _ b c) λ k l q=>?_);obtain⟨y,H2,O,f,a,v,ex,g,d⟩:=q;subst ex;obtain rfl:u=Value.ref a:=e;exact⟨T3 O g,Rj Y O g f λ n m Z J=>⟨v,H2,Z,J,d⟩⟩
theorem JX(hu:X.A.units+1<cLine)(J:PE X o td)(hi:PE X i ty)(hv:PE X value tv)(hs:sU X value (some (.Subscript o i pos')) pos.line false):PS X (.Assign [.Subscript o i pos'] value pos) (Vx td ty tv):=by
 intro aA s L H D I h;refine wpAny_Assign_Subscript (bT (hv aA s L H _ I h) λ r m⟨v,H1,Z,O,f⟩=>bT (J aA m L H1 _ Z f) λ u n⟨x,H2,c,Y,j⟩=>bT (hi aA n L H2 _ c j) λ t w q=>?_) hs;obtain⟨y,p,d,l,a,b,ex,g,k⟩:=q;subst ex;obtain rfl:u=Value.ref a:=Y;exact Ri hu d g l O λ z e=>⟨L,b,e,k⟩
end
theorem IV(h:Heap)(q:sysModules<h.n):bC P w H (h.push {cls:=.type "dict",data:=.dict #[]}) h.n (.dK []):=
 ⟨ym _,beq_eq_false_iff_ne.mpr (zy (qr q)),[],.nil,Heap.DictOf.new h⟩
def cy6:TE:=λ _ H Q=>∀p,H p=none->Q (.ref p) (upd H p (.dK []))
section
variable{X:Cx}{pos:Pos}
theorem cq0:PE X (.Dict [] [] pos) cy6:=λ aA s L H Q I h=>
 wpAny_Dict_empty ⟨.ref s.heap.n,_,I.laid (a:=s.heap.n) (o:=.dK []) (t':=s.toks) (λ _ _ q=>qd _ q) (qj _) (IV s.heap I.big),rfl,h _ (I.hok.fresh (qj _))⟩
end
def y_:List (TE×TE)->St->Hp->(List (V×V)->Hp->Prop)->Prop
 |[],_,H,Q=>Q [] H
 |(tk,tv)::r,L,H,Q=>tk L H λ x H1=>tv L H1 λ y H2=>y_ r L H2 λ ps q=>Q ((x,y)::ps) q
abbrev VV:List (V×V)->List (Value×Value)->Prop:=Paired λ p q=>aT p.1 q.1/\aT p.2 q.2
def uE(X:Cx)(pos:Pos)(keys:List (m3))(q:e_)(J:List (TE×TE)):Prop:=
 ∀(aA:cK)(s:Shared)(L:St)(H:Hp)(Q:List (V×V)->Hp->Prop),aJ X aA L H s->y_ J L H Q->bV X.p X.w X.A (evalPairs (pairTrees keys q X.v pos)) (λ vs s'=>∃ps H',aJ X aA L H' s'/\VV ps vs/\Q ps H') X.xe s
theorem Td:uE X pos [] [] []:=λ aA s L H Q I h=>pairTrees_nil_walk ⟨[],H,I,.nil,h⟩
theorem RZ(hk:PE X k tk)(O:PE X v tv)(hr:uE X pos ks vs q):uE X pos (some k::ks) (v::vs) ((tk,tv)::q):=λ aA s L H Q I h=>
 pairTrees_cons_walk (bT (hk aA s L H _ I h) λ u i⟨x,H1,b,Z,d⟩=>bT (O aA i L H1 _ b d) λ m j⟨y,H2,c,g,e⟩=>
  bT (hr aA j L H2 _ c e) λ n l⟨ps,a,Y,J,f⟩=>⟨(x,y)::ps,a,Y,.cons ⟨Z,g⟩ J,f⟩)
def oy(aI more:fO):fO:=more.foldl (λ acc q=>hZ acc q.1 q.2) aI
abbrev _root_.m4:=List (Key×Value)
theorem KV.merge:∀{more:fO}{J:m4}{aI:fO}{vs:m4},KV more J->KV aI vs->KV (oy aI more) (merged vs J):=by
 intro more J aI vs r;induction r generalizing aI vs with
 |nil=>intro q;exact q
 |@cons p q ps qs h t O=>
  intro a;have e:KV (hZ aI p.1 p.2) (stored vs q.1 q.2):=by have:=a.put p.1 h.2;rw[<-h.1];exact this
  exact O e
theorem y_6:∀(more aI:fO),(oy aI more).length<=aI.length+more.length:=by intro a;induction a<;>grind[F5,oy]
theorem HG:∀{aI:fO}{O:List (Value×Value)},VV (aI.map λ Y=>(kV Y.1,Y.2)) O->∃J,Carries (gc P w) O J/\KV aI J
 |[],_,r=>by rw[yj]at r;cases r;exact⟨[],Qh,.nil⟩
 |p::aI,_,r=>by
  rw[zc]at r;cases r with
  |@cons a b d bs h t=>
   obtain⟨J,c,q⟩:=HG t;obtain⟨e,Z⟩:=b;exact⟨(p.1,Z)::J,⟨pY h.1,rfl,c⟩,.cons ⟨rfl,h.2⟩ q⟩
def Vp(q:List (TE×TE)):TE:=λ L H Q=>∀p,H p=none->y_ q L (upd H p (.dK [])) λ ps H2=>H2 p=some (.dK [])/\∃aI:fO,ps=aI.map (λ J=>(kV J.1,J.2))/\aI.length<=15/\Q (.ref p) (upd H2 p (.dK (oy [] aI)))
theorem Tn(h:uE X pos keys J O)(Y:keys.all (·.isSome)=true)(hl:keys.length=J.length)(h0:keys≠[])(ae:keys.length<=15):PE X (.Dict keys J pos) (Vp O):=by
 intro aA s L H Q I q;have j:=I.hok.fresh (qj s.heap.n);have d:=I.laid (t':=s.toks) (λ _ _ q=>qd _ q) (qj _) (IV s.heap I.big);refine wpAny_Dict_walk (knd:=gc X.p X.w) Y hl h0 ae (bT (h aA _ L _ _ d (q _ j)) λ A y Z=>?_);refine gn λ u m=>?_;obtain⟨ps,H2,a,f,e,aI,g,x,o⟩:=Z;subst g;obtain⟨t,c,r⟩:=HG f;obtain⟨z,hd,v,p,dd⟩:=Mm a.hok e;refine m ?_;cases p;refine fj t c dd λ h' b k=>⟨.ref s.heap.n,_,?_,rfl,o⟩
 have l:(oy [] aI).length<=sizeLine:=by have h1:=y_6 aI [];rw[jb]at h1;rw[jx];lia
 have i:∃q,h'.get? s.heap.n=some q:=let ⟨q,_,_,hq,_⟩:=b;⟨q,hq⟩;exact CZ a (by rw[e];exact Qh) k i (uV l hd (r.merge .nil) b)
structure M2(X:Cx)(o:Expr)(m:Str)(apos:Pos)(e f:Expr)(cpos:Pos):Prop where
 base:attributeBase o m X.v (eval o X.v)=eval o X.v
 few:((backTo cpos (starEach [e,f] X.v)).all (λ x=>!x.1)&&(backToKw cpos (keywordEach [] X.v)).all (λ x=>x.1.isSome)
  &&decide (([e,f]:e_).length+([]:List Keyword).length+(if([]:List Keyword).isEmpty then 0 else 1)<30))=true
 line:(apos.endLine==cpos.line)=true
 trees:backTo cpos (starEach [e,f] X.v)=[(false,eval e X.v),(false,eval f X.v)]
def Hu(H:Hp)(a:Addr):Prop:=(∃aI,Rd H a (.dK aI))\/∃aI,Rd H a (.dT aI)
theorem ZA{X:Cx}{aA:cK}{L:St}{H:Hp}{s:Shared}{a:Addr}(I:aJ X aA L H s)(d:Hu H a):s.TypeIs (.ref a) "dict"∧(∀b,Value.ref a=.ref b→∃ob,s.heap.get? b=some ob∧ob.dict=none)∧(a==sysModules)=false:=by
 rcases d with⟨aI,e⟩|⟨aI,e⟩
 .obtain⟨_,hd,c,_,dd⟩:=nz I.hok e;refine⟨dd.typeIs,λ b q=>?_,hd⟩;cases q;refine eU dd λ ob _ _ h1 h2 _=>?_;exact⟨ob,h1,h2.2.1⟩
 .obtain⟨_,hd,xs,_,dd⟩:=rT I.hok e;refine⟨dd.typeIs,λ b q=>?_,hd⟩;cases q;refine eU dd λ ob _ _ h1 h2 _=>?_;exact⟨ob,h1,h2.2.1⟩
section
variable{X:Cx}{aA:cK}{L:St}{H:Hp}{s:Shared}{a:Addr}{y d:V}{u r:Value}{o:Option V}{A:Around}{E:c8}
theorem ZG{Q:c8}(Y:A.units+1<cLine)(I:aJ X aA L H s)(g:eS H a y o)(J:aT y u)(rd:aT d r)(h:∀O s',aJ X aA L H s'->aT (o.getD d) O->Q O s'):wpAny (model X.p X.w) A (call (.builtin "dict.get") [.ref a,u,r]) Q E s:=by
 rcases g with⟨aI,k,e,c,l⟩|⟨aI,k,b,e,c,f,l⟩
 .subst c;obtain⟨z,hd,i,q,dd⟩:=nz I.hok e;refine call_meetsIn Yr dd.typeIs PySem.F.entry_dict_get (PySem.F.args_dict_get_3 _ _ _) (meets_dict_get_default (gc X.p X.w) a (pY J) hd r) ⟨_,dd.mapOf,h _ _ (I.tok _) ?_⟩;rw[l];exact(q.val k).getD rd
 .subst c;cases(show u=Value.ref b from J);obtain⟨z,hd,xs,q,dd⟩:=rT I.hok e;refine call_meetsIn Yr dd.typeIs PySem.F.entry_dict_get (PySem.F.args_dict_get_3 _ _ _) (meetsH_dict_get_default (tupleKind (gc X.p X.w)) a b hd r) ⟨Zu Y,k,xs,va I.hok f,dd,h _ _ (I.tok _) ?_⟩;rw[l];exact(q.val k).getD rd
end
def cy7(td ty tx:TE):TE:=λ L H Q=>td L H λ x H1=>∃a,x=.ref a/\Hu H1 a/\ty L H1 λ y H2=>tx L H2 λ z q=>∃o,eS q a y o/\Q (o.getD z) q
section
variable{X:Cx}{o e f:Expr}{apos cpos:Pos}{td ty tx:TE}
theorem cq1(hu:X.A.units+1<cLine)(ho:PE X o td)(he:PE X e ty)(Z:PE X f tx)(m:M2 X o "get" apos e f cpos):PE X (.Call (.Attribute o "get" apos) [e,f] [] cpos) (cy7 td ty tx):=by
 intro aA s L H Q I h;refine wpAny_Call_method m.base m.few m.line PySem.F.plainAttrs_dict Yr PySem.F.type_dict_get (bT (ho aA s L H _ I h) λ u t q=>?_);obtain⟨x,H1,O,n,a,ex,d,k⟩:=q;subst ex;obtain rfl:u=Value.ref a:=n;refine gU (ZA O d) λ w B _=>?_;refine⟨w,B,?_⟩;rw[m.trees];refine Yk rfl (Y6 (Calls.spliced_cons (bT (he aA t L H1 _ O k) λ D v⟨y,H2,c,p,Y⟩=>
  Calls.spliced_cons (bT (Z aA v L H2 _ c Y) λ C G⟨z,b,i,r,E,g,l⟩=>Calls.spliced_nil ?_))))
 exact ZG hu i g p r λ σ K j J=>⟨_,b,j,J,l⟩
end
section
variable[DecidableEq κ]
theorem SV{k:κ}(h:gV aI k=some v):k∈aI.map (·.1):=by
 have q:(aI.any λ O=>decide (O.1=k))=true:=by
  rw[wR,h]
  all_goals rfl
 obtain⟨p,J,e⟩:=List.any_eq_true.mp q;grind
end
theorem lg{n:Nat}(h:a<n)(h':n<=b):a≠b:=qr (qp h h')
theorem Jv{n:Nat}(h:a<n)(h':n<=b):b≠a:=(lg h h').symm
def kn(cells:List (Str×Addr)):List (Str×NameKind)->List (Str×Addr)->List (Str×Addr)
 |[],acc=>acc
 |(n,k)::r,acc=>kn cells r (if(k==NameKind.free)=true then(n,(cells.lookup n).getD 0)::acc else acc)
theorem Bg:∀(l:List (Str×NameKind))(acc:List (Str×Addr)),(∀y∈l,y.2=.free->∃c,env.cells.lookup y.1=some c)->(forIn l acc λ y(J:List (Str×Addr))=>(match y with
   |(name,kind)=>if(kind==NameKind.free)=true then do let c<-cellOf env name;pure (ForInStep.yield ((name,c)::J))else pure (ForInStep.yield J):Sem _))=pure (kn env.cells l acc)
 |[],acc,_=>rfl
 |(n,k)::r,acc,h=>by
  rw[List.forIn_cons];unfold kn;by_cases e:(k==NameKind.free)=true
  .have O:k=NameKind.free:=by simpa using e
   obtain⟨c,Y⟩:=h (n,k) qg O;simp only[e,if_true,cellOf,Y,pure_bind,Option.getD_some];exact Bg r _ λ y q=>h y (qh _ q)
  .simp only[e,if_false];exact Bg r _ λ y q=>h y (qh _ q)
theorem HF(h:∀y∈sc.names,y.2=.free->∃c,env.cells.lookup y.1=some c):closureFor sc env=pure (kn env.cells sc.names []):=by have e:=Bg sc.names [] h;exact(bind_pure _).trans e
theorem R_6:∀(l:List (Str×NameKind))(acc:List (Str×Addr)),(∀y∈l,y.2=.free->∃c,cells.lookup y.1=some c)->(kn cells l acc).lookup y=some c->cells.lookup y=some c\/acc.lookup y=some c
 |[],acc,_,e=>.inr e
 |(n,k)::r,acc,h,e=>by
  have a:=λ y b=>h y (qh _ b);rcases R_6 r _ a e with q|q
  .exact .inl q
  .by_cases z:(k==NameKind.free)=true
   .rw[if_pos z]at q;rw[Jh]at q;cases O:y==n with
    |true=>
     rw[O]at q;obtain⟨c',Y⟩:=h (n,k) qg (by simpa using z);have J:=Y;rw[J]at q;have e1:y=n:=by simpa using O
     have Z:c'=c:=qi q;exact .inl (by rw[e1,J,Z])
    |false=>
     rw[O]at q;exact .inr q
   .rw[if_neg z]at q;exact .inr q
theorem xj:∀(l:List (Str×NameKind))(acc:List (Str×Addr)),((y,NameKind.free)∈l\/∃c,acc.lookup y=some c)->∃c,(kn cells l acc).lookup y=some c
 |[],acc,h=>by
  rcases h with h|h
  .simp at h
  .exact h
 |(n,k)::r,acc,h=>by
  have q:∀v:Addr,(∃c,acc.lookup y=some c)->∃c,((n,v)::acc).lookup y=some c:=λ v J=>by
   obtain⟨c,O⟩:=J;rw[Jh];cases y==n with
   |true=>exact⟨v,rfl⟩
   |false=>exact⟨c,O⟩
  rcases h with h|h
  .rcases qt h with e|h
   .have e1:=Q1 Prod.fst e;have e2:=Q1 Prod.snd e;subst e1 e2;refine xj r _ (.inr ?_);rw[if_pos (by rfl)];refine⟨(cells.lookup y).getD 0,?_⟩;grind
   .exact xj r _ (.inl h)
  .refine xj r _ (.inr ?_);split
   .exact q _ h
   .exact h
theorem H5(Y:∀z∈scope.names,z.2≠.cell)(h:(relabel scope env).names.lookup y=some k)(J:k=.cell\/k=.free):(y,NameKind.free)∈scope.names:=by have m:=jc h;obtain⟨⟨n,a⟩,q,e⟩:=lC.mp m;grind
theorem Pe{env:Env}(J:env.scope.kind=.function):∀{names:List (Str×NameKind)}{y:Str},names.lookup y=some .free->env.kindOf y=some .cell->(names.map λ(n,k)=>if(k==NameKind.free&&env.scope.kind==.function&&env.kindOf n==some .cell)then(n,NameKind.cell)else(n,k)).lookup y=some .cell:=by intro a;induction a<;>grind
abbrev _root_.d0:=List Nat
structure fu(N:aM)(sc scope:Scope)(x:Str)(aY:aM)(js:d0):Prop where
 kind:scope.kind=.function
 fk:sc.kind=.function
 cells:∀y∈scope.names,y.2≠.cell
 locs:∀y∈scope.names,y.2=.local->scope.names.lookup y.1=some .local
 own:scope.names.lookup x=some .local
 fr:∀y∈scope.names,y.2=.free->sc.names.lookup y.1=some .cell
 nd:(x::aY).Nodup
 ln:aY.length=js.length
 zp:∀p∈aY.zip js,N[p.2]?=some p.1/\sc.names.lookup p.1=some .cell/\scope.names.lookup p.1=some .free
def dR(X:Cx)(N:aM)(scope:Scope)(s:Shared)(H:Hp)(C:Addr)(q:fV):Cx where
 p:=X.p
 w:=X.w
 K:=X.K
 mg:=X.mg
 base:=X.base
 A:=X.A
 N:=N
 s₀:=s
 H₀:=H
 v:=compEnvC scope (kn X.v.cells scope.names []) C X.v
 outer:=X.stack
 stack:=X.stack
 ex:=q
 fn:=λ _=>false
 c:=X.c
 pn:=[]
 xe:=λ _ _=>False
noncomputable def g8(L:St)(js:d0):St:=js.map λ j=>(L[j]?).join
def lQ(X:Cx)(bM:e_)(t:TT):Prop:=
 ∀(aA:cK)(s:Shared)(L:St)(H:Hp)(Q:Bool->Hp->Prop),aJ X aA L H s->t L H Q->
  bV X.p X.w X.A (forIn bM true λ c r=>if r=true then do let ok<-isTrue c X.v (eval c X.v);pure (ForInStep.yield ok)else pure (ForInStep.yield r)) (TP X aA L Q) X.xe s
def dP:TT:=λ _ H Q=>Q true H
theorem S9:lQ X [] dP:=λ _ _ _ H _ I h=>wpAny_tests_nil ⟨H,I,h⟩
theorem S8(h:PT X c t):lQ X [c] t:=λ aA s L H Q I q=>wpAny_tests_one (h aA s L H Q I q)
def pI(js:d0)(tt:TT)(te:TE)(L:St)(Q:b_->Hp->Prop)(J:It)(H1:Hp):Prop:=
 ∃W:Nat->Nat->List V->Hp->Prop,(∃m,W 0 m [] H1)/\∀i m ys H,W i m ys H->(J.stop i H/\ys.length<=sizeLine/\Q ys H)\/
  (J.go i H/\ys.length<sizeLine/\∀x H',J.yld i H x H'->tt (some x::g8 L js) H' λ b H2=>
   if b=true then te (some x::g8 L js) H2 λ v O=>∃q,q<m/\W (i+1) q (ys++[v]) O else ∃q,q<m/\W (i+1) q ys H2)
section
variable{X:Cx}{aA:cK}{L:St}{H:Hp}{s:Shared}{x:Str}{scope sc:Scope}{aY:aM}{js:d0}
theorem aj2(I:aJ X aA L H s)(q:X.v.scope=sc)(B:fu X.N sc scope x aY js):∀y∈scope.names,y.2=.free->∃c,X.v.cells.lookup y.1=some c:=λ y O J=>
 I.ok.has y.1 (.inl (show X.v.scope.names.lookup y.1=some .cell by rw[q];exact B.fr y O J))
theorem Kv:∀{l:List α}{r:List β}{k:Nat}{a:α},l.length=r.length->l[k]?=some a->∃b,r[k]?=some b/\(a,b)∈l.zip r
 |[],_,_,_,_,h=>by simp at h
 |_::_,[],_,_,c,_=>by simp at c
 |e::l,d::r,0,a,_,h=>by
  simp at h;subst h;exact⟨d,rfl,by simp⟩
 |e::l,d::r,k+1,a,c,h=>by
  obtain⟨b,h1,h2⟩:=Kv (by simpa using c) (by simpa using h);exact⟨b,by simpa using h1,by rw[Qv];exact qh _ h2⟩
theorem Rx{fp:fV}{J:Heap}{C D:Addr}{tk:Nat}{mC:Str->Option Value}{oD:Obj}(I:aJ X aA L H s)(aa:X.v.scope=sc)(B:fu X.N sc scope x aY js)(hf:∀b∈fp,eA X aA H b)(ai:∀b∈fp,b<s.heap.n)(hC:s.heap.n<=C)(hD:s.heap.n<=D)(ae:D≠C)(O:∀b o,s.heap.get? b=some o->J.get? b=some o)(ns:J.Ns C mC)(gD:J.get? D=some oD)(nD:∀v,oD.data≠.cell v):aJ (dR X (x::aY) scope s H C fp) (aA++[(D,oD)]) (none::g8 L js) H {s with heap:=J,toks:=tk}:=by
 have lc:=aj2 I aa B;have sub:∀y c,(kn X.v.cells scope.names []).lookup y=some c->X.v.cells.lookup y=some c:=λ y c e=>by
  rcases R_6 scope.names [] lc e with q|q
  .exact q
  .simp at q
 have aj:∀y c,X.v.cells.lookup y=some c->c<s.heap.n:=λ y c e=>by
  obtain⟨v,q⟩:=I.cell y c e;exact q.lt
 have M:∀b∈fp,(b∈X.ex\/X.s₀.heap.n<=b):=λ b Y=>(hf b Y).2.2.2.1;refine bE I.loc λ m hn R=>?_;refine⟨⟨I.ok.mod,B.kind,I.ok.glob,I.ok.blt,hC,?_,?_,?_,I.ok.hd,I.ok.frames,.inl rfl,?_,?_,qy I.ok.bsz I.sz,?_,?_,I.stack,I.stkFree,λ p q h=>I.base.tbls _ _ (I.ok.tab p q h)⟩,rfl,I.bare,Un.kept O,⟨mC,ns,?_⟩,?_,I.hok.fresh hC,?_,?_,I.hok.kept O,?_⟩
 .exact λ y z c e1 e2=>I.ok.inj y z c (sub y c e1) (sub z c e2)
 .intro y ρ;have S:(y,NameKind.free)∈scope.names:=by
   rcases ρ with q|q
   .exact H5 (env:=X.v) B.cells q (.inl rfl)
   .exact H5 (env:=X.v) B.cells q (.inr rfl)
  exact xj scope.names [] (.inl S)
 .exact λ y c z _=>absurd z zh
 .intro b Y;refine⟨λ z=>?_,λ y c e z=>(hf b Y).2.2.2.2.1 y c (sub y c e) z⟩;have g:b=C:=z;exact absurd (qp (ai b Y) hC) (by rw[g];exact y8 _)
 .exact λ b o e=>I.bs b o e
 .intro b o e Y;rcases M b Y with z|z
  .exact I.ok.noex b o e z
  .exact absurd (qp (qm (I.ok.bs b o e).1) z) (y8 _)
 .intro b Y z;rcases qt (I.stkSub b z)with e|e
  .exact(hf b Y).2.1 e
  .exact(hf b Y).2.2.1 e
 .intro i y v e1 e2 e3;cases i with
  |zero=>simp at e2
  |succ k=>
   have K:aY[k]?=some y:=by have e0:(x::aY)[k+1]?=some y:=e1;simpa using e0
   refine bE (Kv B.ln K) λ j Q V=>?_;refine gU (B.zp _ V) λ z1 z2 w=>?_;have Z:(g8 L js)[k]?=some (some v):=by simpa using e2
   have e4:L[j]?=some (some v):=by
    unfold g8 at Z;rw[zl,Q]at Z;have a:(L[j]?).join=some v:=qi Z;cases q:L[j]? with
    |none=>rw[q]at a;cases a
    |some w'=>rw[q]at a;cases w' with
     |none=>cases a
     |some w2=>obtain rfl:=aW a;rfl
   have f:X.v.kindOf y=some .cell:=by show X.v.scope.names.lookup y=_;rw[aa];exact z2
   refine bE (R j y v z1 e4 (.inr (.inl f))) λ u r q=>?_;refine⟨u,r,?_⟩;rcases q with⟨q,_⟩|⟨_,c,P,W⟩
   .rw[f]at q;simp at q
   .have kY:(compEnvC scope (kn X.v.cells scope.names []) C X.v).kindOf y=some .cell:=Pe (env:=X.v) (by rw[aa];exact B.fk) w f;refine .inr ⟨.inl kY,c,?_,?_⟩
    .obtain⟨c',t⟩:=xj (cells:=X.v.cells) scope.names [] (.inl (jc w));have:=sub y c' t;rw[P]at this;obtain rfl:=aW this;exact t
    .refine bE W λ o d hd=>?_;exact⟨o,O c o d,hd⟩
 .intro y c e;refine dt (I.cell y c (sub y c e)) λ v o d hd=>?_;exact⟨v,o,O c o d,hd⟩
 .exact λ y c e=>I.freeC y c (sub y c e)
 .intro p T;have σ:p∈aA++[(D,oD)]:=by simpa [dR]using T
  rcases qw σ with z|z
  .obtain⟨l,A,E,F,G⟩:=I.pin p (qo _ z);refine⟨O _ _ l,A,λ e=>?_,λ e=>?_,G⟩
   .exact absurd (qp (qm l) hC) (by rw[show p.1=C from e];exact y8 _)
   .rcases qt (I.stkSub p.1 e)with e|e
    .exact E e
    .exact F e
  .have g:p=(D,oD):=by simpa using z
   subst g;refine⟨gD,I.hok.fresh hD,ae,λ e=>?_,nD⟩;rcases qt (I.stkSub D e)with e|e
   .exact absurd (qp I.lt hD) (by rw[show D=X.v.locals from e];exact y8 _)
   .exact I.nofs hD e
 .show(none::g8 L js).length=(x::aY).length;rw[zg,zg,B.ln,g8,qx]
end
theorem Uy(I:Nat->Shared->Prop)(turn:∀n s,I n s->bV prog w A (pyNext it) (λ r s1=>match r with
   |none=>R (.ok .next) s1
   |some v=>bV prog w A (letOwnedTupleGo q it v) (λ _ s2=>bV prog w A (assign q env v) (λ _ Z=>
     bV prog w A (forIn bM true λ c r=>if r=true then do let ok<-isTrue c env (eval c env);pure (ForInStep.yield ok)else pure (ForInStep.yield r)) (λ ok J=>
      if ok=true then bV prog w A (eval elt env) (λ y O=>bV prog w A (call (.builtin "list.append") [acc,y]) (λ _ s6=>∃m,m<n∧I m s6) (λ _ _=>False) O) (λ _ _=>False) J
      else ∃m,m<n/\I m J) (λ _ _=>False) Z) (λ _ _=>False) s2) (λ _ _=>False) s1) (λ _ _=>False) s)(n:Nat)(h:I n s):codeAny (model prog w) A (.compLoop (.ListComp elt [⟨q,iter,bM,0⟩] scope pos) 0 it acc env) R s:=by
 refine codeAny_loop rfl I (λ n s e=>?_) n h;refine wpAny_noted ?_;rw[compTurn_list];refine qb (Qq (qb (zv (turn n s e) (λ r s1 h1=>?_) λ _ _ z=>z.elim)));cases r with
 |none=>exact qc h1
 |some v=>
  refine qb (zv h1 (λ _ s2 h2=>?_) λ _ _ z=>z.elim);refine qb (zv h2 (λ _ Z a=>?_) λ _ _ z=>z.elim);refine qb (zv a (λ ok J Y=>?_) λ _ _ z=>z.elim);cases ok with
  |false=>exact qc ⟨rfl,Y⟩
  |true=>
   refine qb (qb (zv Y (λ y O b=>?_) λ _ _ z=>z.elim));exact qb (zv b (λ _ s6 d=>qc (qc ⟨rfl,d⟩)) λ _ _ z=>z.elim)
section
variable{X:Cx}{aA:cK}{L:St}{H:Hp}{s:Shared}{x:Str}{scope sc:Scope}{aY:aM}{js:d0}{elt iter:Expr}{bM:e_}{px pos:Pos}{tt:TT}{te:TE}{E:c8}
abbrev lq(q:bO)(n:Nat):Obj:={cls:=.type "list",data:=.seq q.toArray n}
def Pg(tg:TG)(Y:St)(tt:TT)(te:TE)(Q:b_->Hp->Prop)(J:It)(H1:Hp):Prop:=
 ∃W:Nat->Nat->List V->Hp->Prop,(∃m,W 0 m [] H1)/\∀i m ys H,W i m ys H->(J.stop i H/\ys.length<=sizeLine/\Q ys H)\/
  (J.go i H/\ys.length<sizeLine/\∀x H',J.yld i H x H'->tg x Y H' λ q H'=>(Y.length=q.length/\∀(j:Nat)v,Y[j]?=some (some v)->q[j]?=some (some v))/\tt q H' λ b H2=>
   if b=true then te q H2 λ v Z=>∃O,O<m/\W (i+1) O (ys++[v]) Z else ∃O,O<m/\W (i+1) O ys H2)
theorem WD{ak:Expr}{N':aM}{τ:St}{tg:TG}{it:Addr}{Z:fV}{tn:Nat->Heap->Prop}{J:It}{Qe:b_->Hp->Prop}{RR:Value->Addr->Result->Shared->Prop}(I:aJ X aA L H s)(hc:X.c=true)(a9:X.v.scope=sc)(B:fu X.N sc scope x aY js)(T:gX X.p X.w X.K ak J Z it tn)(st:tn 0 s.heap)(f:∀b∈Z,eA X aA H b)(S0:∀{C pl H' s'},aJ (dR X (x::aY) scope s H C Z) pl (none::g8 L js) H' s'->aJ (dR X N' scope s H C Z) pl τ H' s')(hg:∀C,PG (dR X N' scope s H C Z) ak tg)(hW:Pg tg τ tt te Qe J H)(ht:∀s H C Z,lQ (dR X N' scope s H C Z) bM tt)(he:∀s H C Z,PE (dR X N' scope s H C Z) elt te)(hR:∀(D C:Addr)(s':Shared)(H':Hp)(ys:b_)(O:bO)(n:Nat),s.heap.objs.size<=D->s.heap.objs.size<=C->D≠C->aJ (dR X N' scope s H C Z) aA τ H' s'->H' D=none->aS ys O->s'.heap.get? D=some (lq O n)->ys.length<=sizeLine->Qe ys H'->RR (.ref D) C (.ok .next) s'):bV X.p X.w X.A (newList []) (λ acc s3=>bV X.p X.w X.A (newFunctionEnv scope X.v.globals (kn X.v.cells scope.names []) [] X.v.qual none .none (some X.v)) (λ au s4=>
   codeAny (model X.p X.w) X.A (.compStart (.ListComp elt [⟨ak,iter,bM,0⟩] scope pos) 0 (.ref it) acc {au with scope:=relabel scope X.v}) (RR acc au.locals) s4) E s3) E s:=by
 obtain⟨W,⟨m0,w0⟩,turn⟩:=hW;refine yh (wpAny_newFunctionEnv B.cells (by grind) (λ ah M t=>?_) B.kind);dsimp only at M t⊢;generalize hG:s.heap.push {cls:=.type "list",dict:=none,data:=.seq ([]:bO).toArray}=G at M t⊢;have a0:G.objs.size=s.heap.objs.size+1:=by rw[<-hG,Zy]
 have ap:s.heap.objs.size<=G.objs.size:=by rw[a0];exact Zf _
 have as:s.heap.objs.size≠G.objs.size:=by rw[a0];exact qr (Nat.lt_succ_self _)
 obtain⟨C,bh⟩:∃C:Addr,C=G.objs.size:=⟨_,rfl⟩;obtain⟨D,Q⟩:∃D:Addr,D=s.heap.objs.size:=⟨_,rfl⟩;rw[<-bh]at M t as ap⊢;have g:s.heap.objs.size<=D:=by rw[Q];exact qj _
 have R:s.heap.objs.size<=C:=ap;have σ:D≠C:=by rw[Q];exact as
 have az:∀b o,s.heap.get? b=some o->ah.get? b=some o:=λ b o e=>by
  refine t.extBut b o (lg (qm e) R) (qd _ ?_);rw[<-hG];exact qd _ e
 have gD:ah.get? D=some (lq [] 0):=by refine t.extBut D _ σ (qd _ ?_);rw[<-hG,Q];exact qk _ rfl
 have av:∀b∈Z,b<s.heap.objs.size:=λ b a=>by
  obtain⟨o,e,_⟩:=T.obj 0 _ st b a;exact qm e
 show codeAny (model X.p X.w) X.A (.compStart (.ListComp elt [⟨ak,iter,bM,0⟩] scope pos) 0 (.ref it) (.ref s.heap.objs.size) (compEnvC scope (kn X.v.cells scope.names []) C X.v)) (RR (.ref s.heap.objs.size) C) _;rw[<-Q];have bg:D∉Z:=λ z=>lg (av D z) g rfl;have Y0:=S0 (Rx (tk:=s.toks+([]:List (Str×Value)).length) (x:=x) I a9 B f av R g σ az M gD (λ v z=>nomatch z));have ay:tn 0 ah:=T.keep 0 _ _ st λ b _ o e=>az b o e;have sub:∀y c,(kn X.v.cells scope.names []).lookup y=some c->X.v.cells.lookup y=some c:=λ y c e=>by
  rcases R_6 scope.names [] (aj2 I a9 B) e with q|q
  .exact q
  .simp at q
 have a7:∀p∈aA,p.1<s.heap.objs.size:=λ p l=>qm (I.pin p (qo _ l)).1;have al:∀{H':Hp}{o:Obj},(∀b∈Z,H' b=none)->∀b∈Z,eA (dR X N' scope s H C Z) (aA++[(D,o)]) H' b:=λ{H' o}hn b a=>by
  refine fY (f b a) λ _ a2 a3 a4 a5 a6=>?_;have lt:=av b a;refine⟨hn b a,?_,λ z=>?_,.inl a,λ y c e=>a5 y c (sub y c e),λ p l=>?_⟩
  .exact lg lt R
  .rcases qt (I.stkSub b z)with e|e
   .exact a2 e
   .exact a3 e
  .grind[dR,qw,Jv]
 have aq:∀s3:Shared,s3={s with heap:=ah,toks:=s.toks+([]:List (Str×Value)).length}->codeAny (model X.p X.w) X.A (.compLoop (.ListComp elt [⟨ak,iter,bM,0⟩] scope pos) 0 (.ref it) (.ref D) (compEnvC scope (kn X.v.cells scope.names []) C X.v)) (RR (.ref D) C) s3:=by
  rintro s3 rfl;refine Uy (λ n s'=>∃i ys O k H',aJ (dR X N' scope s H C Z) (aA++[(D,lq O k)]) τ H' s'/\tn i s'.heap/\(∀b∈Z,H' b=none)/\aS ys O/\W i n ys H') ?_ m0
   ⟨0,[],[],0,H,Y0,ay,λ b a=>(f b a).1,.nil,w0⟩
  rintro n s4 ⟨i,ys,O,k,m,I4,be,bc,V,w4⟩;have pD:∀{pl:cK}{h:St}{H':Hp}{s':Shared},aJ (dR X N' scope s H C Z) (aA++[(D,lq O k)]++pl) h H' s'->s'.heap.get? D=some (lq O k)/\H' D=none:=λ d=>by
   have q:=d.pin (D,lq O k) (qo _ (yn _ (qo _ qg)));exact⟨q.1,q.2.1⟩
  have ae:∀{pl:cK}{h:St}{H':Hp}{s':Shared},aJ (dR X N' scope s H C Z) (aA++pl) h H' s'->aJ (dR X N' scope s H C Z) aA h H' s':=λ d=>d.unpinned;rcases turn i n ys m w4 with⟨stop,lz,qe⟩|⟨go,lz,step⟩
  .refine bT (T.done (dR X N' scope s H C Z) rfl rfl rfl hc i _ s4 _ m (λ _ _=>False) I4 (al bc) be stop) λ r s5 Y=>?_;obtain⟨hr,I5⟩:=Y;subst hr;have I5':aJ (dR X N' scope s H C Z) (aA++[(D,lq O k)]++[]) τ m s5:=by simpa using I5
   exact hR D C s5 m ys O k g R σ (ae I5) (pD I5').2 V (pD I5').1 lz qe
  .refine bT (T.item (dR X N' scope s H C Z) rfl rfl rfl hc i _ s4 _ m (λ _ _=>False) I4 (al bc) be go) λ r s5 Y=>?_;obtain⟨u,hr,h5⟩:=Y;subst hr;refine bT h5 λ _ s6 Y=>?_;refine pj Y λ y H6 I6 r6 y6 P bi=>?_;have I6':=I6.pinned (al bi) (T.obj _ _ P);have bf:D∉(dR X N' scope s H C Z).fs:=λ z=>by
    rcases qt (I.stkSub D z)with e|e
    .exact lg I.lt g e.symm
    .exact I.nofs g e
   refine bT (hg C _ s6 _ H6 y u _ I6' r6 (step y H6 y6)) λ _ s7 Y=>?_;refine cM Y λ ba H7 I7 e7 q7=>?_;have ar:∀{h:St}{H':Hp}{s':Shared},aJ (dR X N' scope s H C Z) (aA++[(D,lq O k)]++uN Z s6.heap) h H' s'->(∀b∈Z,∀o,s6.heap.get? b=some o->s'.heap.get? b=some o)/\∀b∈Z,H' b=none:=λ{h H' s'}d=>
    ⟨λ b a o e=>(d.pin (b,o) (qo _ (qo _ (A6 a e)))).1,λ b a=>by
     obtain⟨o,e,_⟩:=T.obj _ _ P b a;exact(d.pin (b,o) (qo _ (qo _ (A6 a e)))).2.1⟩
   have ai:∀{pl:cK}{H':Hp}{s':Shared},aJ (dR X N' scope s H C Z) pl ba H' s'->aJ (dR X N' scope s H C Z) pl τ H' s':=λ d=>d.weak e7.1 e7.2;refine bT (ht s H C Z _ s7 _ H7 _ I7 q7) λ ok s8 Y=>?_;obtain⟨H8,I8,ρ⟩:=Y;cases ok with
   |false=>
    rw[if_neg zh]at ρ⊢;obtain⟨m',hm,w8⟩:=ρ;obtain⟨b1,b2⟩:=ar I8;exact⟨m',hm,i+1,ys,O,k,H8,ai I8.unpinned,T.keep _ _ _ P b1,b2,V,w8⟩
   |true=>
    rw[if_pos rfl]at ρ⊢;refine bT (he s H C Z _ s8 _ H8 _ I8 ρ) λ v j Y=>?_;obtain⟨vv,H9,I9,r9,m',hm,w9⟩:=Y;obtain⟨aw,a1⟩:=pD I9;obtain⟨b1,b2⟩:=ar I9;have bj:=V.length;refine call_meets F.slot_list_append ⟨_,aw,rfl⟩ F.entry_list_append (F.args_list_append_2 _ _) (PySem.list_append D O.toArray k v (by rw[zi];lia)) ⟨aw,?_⟩;have ea:O.toArray.push v=(O++[v]).toArray:=bP;obtain⟨S,q⟩:∃S,(j.heap.update D (Obj.mapSeq (·.push v))).get? D=some (lq (O++[v]) S):=by have q0:=PySem.IsL.update aw (·.push v);rw[ea]at q0;exact⟨_,q0⟩
    have a8:∀b o,b≠D->j.heap.get? b=some o->(j.heap.update D (Obj.mapSeq (·.push v))).get? b=some o:=λ b o a e=>(ye j.heap (Obj.mapSeq (·.push v)) (zy a)).trans e;have I10:aJ (dR X N' scope s H C Z) aA ba H9 {j with heap:=j.heap.update D (Obj.mapSeq (·.push v))}:=
     (ae I9.unpinned).turned (t':=j.toks) (it:=D) a8 a1 σ (.inr g) (λ y' c e z=>by
      obtain⟨w',q'⟩:=I.cell y' c (sub y' c e);exact lg q'.lt g z) (λ p l z=>by
      have ax:p∈aA:=by simpa [dR]using l
      exact lg (a7 p ax) g z)
    refine⟨m',hm,i+1,ys++[vv],O++[v],S,H9,ai (I10.pins_of λ p l=>?_),T.keep _ _ _ P λ b a o e=>a8 b o (λ z=>bg (z▸a)) (b1 b a o e),b2,V.append (.cons r9 .nil),w9⟩;rcases qw l with z|z
    .exact I10.pin p (qo _ z)
    .have z':p=(D,lq (O++[v]) S):=qv z;subst z';exact⟨q,a1,σ,bf,λ w' z2=>nomatch z2⟩
 exact codeAny_compStart_list (aq _ rfl) (T.self _ 0 _ _ _ ay (aq _ rfl))
theorem JA{RR:Value->Addr->Result->Shared->Prop}(I:aJ X aA L H s)(hc:X.c=true)(Z:X.v.scope=sc)(B:fu X.N sc scope x aY js)(T:gX X.p X.w X.K (.Name x px) J O it tn)(st:tn 0 s.heap)(f:∀b∈O,eA X aA H b)(hW:pI js tt te L Qe J H)(ht:∀s H C O,lQ (dR X (x::aY) scope s H C O) bM tt)(he:∀s H C O,PE (dR X (x::aY) scope s H C O) elt te)(hR:∀(D C:Addr)(s':Shared)(H':Hp)(ys:b_)(Y:bO)(n:Nat),s.heap.n<=D->s.heap.n<=C->D≠C->aJ (dR X (x::aY) scope s H C O) aA (none::g8 L js) H' s'->H' D=none->aS ys Y->s'.heap.get? D=some (lq Y n)->ys.length<=sizeLine->Qe ys H'->RR (.ref D) C (.ok .next) s'):bV X.p X.w X.A (newList []) (λ acc s3=>bV X.p X.w X.A (newFunctionEnv scope X.v.globals (kn X.v.cells scope.names []) [] X.v.qual none .none (some X.v)) (λ q s4=>
   codeAny (model X.p X.w) X.A (.compStart (.ListComp elt [⟨.Name x px,iter,bM,0⟩] scope pos) 0 (.ref it) acc {q with scope:=relabel scope X.v}) (RR acc q.locals) s4) E s3) E s:=by
 refine WD (tg:=D0 0) I hc Z B T st f (λ h=>h) (λ C=>KL B.nd rfl (.inl (lookup_relabel_local B.own)) (.inr (lookup_relabel_local B.own))) ?_ ht he hR;obtain⟨W,c,turn⟩:=hW;refine⟨W,c,λ i m ys H w=>?_⟩;rcases turn i m ys H w with h|⟨go,a,step⟩
 .exact .inl h
 .exact .inr ⟨go,a,λ y H' d=>⟨⟨rfl,λ j v e=>by
   cases j with
   |zero=>simp at e
   |succ j=>simpa using e⟩,step y H' d⟩⟩
theorem Kg{fp:fV}{D C:Addr}{s':Shared}{H':Hp}{ys:b_}{O:bO}{n:Nat}(I:aJ X aA L H s)(f:∀b∈fp,eA X aA H b)(hD:s.heap.n<=D)(J:aJ (dR X (x::aY) scope s H C fp) aA (none::g8 L js) H' s')(Y:H' D=none)(rv:aS ys O)(gD:s'.heap.get? D=some (lq O n))(hz:ys.length<=sizeLine):aJ X aA L (upd H' D (.l ys)) s':=by
 have u:Un (gO X.stack) fp H H' s.heap s'.heap:=J.base;have i:eD X.p X.w H' s'.heap:=J.hok;refine I.call' (ch:=fp) J.os ⟨u.keep,u.slot,λ b o e j hx=>?_,u.there,λ b xs e=>?_,λ b o v e=>?_,λ b ps e=>?_⟩ (λ b o e=>?_) J.bare λ b Z=>?_
 .rw[bS (lg (Yj e) hD)];exact u.free b o e j hx
 .have q:=u.tups b xs e;rw[bS (fF q Y)];exact q
 .have q:=u.frzs b o v e;rw[bS (fF q Y)];exact q
 .have q:=u.tbls b ps e;rw[bS (fF q Y)];exact q
 .by_cases Z:b=D
  .subst Z;rw[cF]at e;obtain rfl:=aW e;exact⟨hz,O,n,rv,gD⟩
  .rw[bS Z]at e;exact(i b o e).stay (λ c v _ q=>q) (λ c q=>by rw[bS (fF q Y)];exact q) (λ c xs q=>by rw[bS (fF q Y)];exact q) λ c xs q=>by rw[bS (fF q Y)];exact q
 .refine fY (f b Z) λ _ a k d g h=>?_;exact⟨d,a,g,h⟩
theorem L7(I:aJ X aA L H s)(J:aJ X aA O H' s')(Y:s.heap.n<=C)(nC:H' C=none)(hs:Heap.SameBut C s'.heap h'):aJ X aA O H' {s' with heap:=h'}:=by
 refine J.turned (λ b o a e=>(hs.2 b a).trans e) nC (λ z=>?_) (.inr (qy I.sz Y)) (λ y c e z=>?_) λ p Z z=>?_
 .exact lg I.lt Y z.symm
 .obtain⟨v,q⟩:=I.cell y c e;exact lg q.lt Y z
 .exact lg (qm (I.pin p Z).1) Y z
def tLC(q:TI)(js:d0)(tt:TT)(te:TE):TE:=λ L H Q=>q L H (pI js tt te L λ ys H'=>∀D,H' D=none->Q (.ref D) (upd H' D (.l ys)))
theorem LZ{wi:TI}(hc:X.c=true)(O:X.v.scope=sc)(B:fu X.N sc scope x aY js)(hi:PI X (.Name x px) iter wi)(ht:∀s H C Y,lQ (dR X (x::aY) scope s H C Y) bM tt)(he:∀s H C Y,PE (dR X (x::aY) scope s H C Y) elt te)(hs:nR X iter):PE X (.ListComp elt [⟨.Name x px,iter,bM,0⟩] scope pos) (tLC wi js tt te):=by
 intro aA s L H Q I h;rw[eval_ListComp];refine wpAny_comprehension_free (use:=none) rfl hs (HF (aj2 I O B)) B.kind B.locs (bT (hi aA s L H _ I h) λ v E h1=>bT h1 λ y F h2=>?_);obtain⟨it,Y,G,J,H2,e,a,T,g,c,o⟩:=h2;subst e;refine JA (RR:=λ Y C=>compPost (model X.p X.w) X.A X.xe none (EP X aA L Q) Y C) a hc O B T g c o ht he ?_;intro D C s' H' ys z n l k i b d u j r q;refine bE b.loc λ m p _=>?_;refine⟨m,p,λ h' Z=>?_⟩;have f:=Kg a c l b d u j r;have t:(upd H' D (.l ys)) C=none:=by rw[bS (zy i)];exact b.free
 exact⟨.ref D,_,L7 a f k t Z,rfl,q D d⟩
def Xf(i:Nat)(q:TI)(js:d0)(tt:TT)(te:TE):TS:=λ D L H=>q L H (pI js tt te L λ ys H'=>∀a,H' a=none->D.nx (L.set i (some (.ref a))) (upd H' a (.l ys)))
theorem w_{wi:TI}{i:Nat}{y:Str}{py spos:Pos}(hN:X.N.Nodup)(ag:X.N[i]?=some y)(hy:gf X y)(hc:X.c=true)(Y:X.v.scope=sc)(B:fu X.N sc scope x aY js)(hi:PI X (.Name x px) iter wi)(ht:∀s H C fp,lQ (dR X (x::aY) scope s H C fp) bM tt)(he:∀s H C fp,PE (dR X (x::aY) scope s H C fp) elt te)(aa:swapsWith (.ListComp elt [⟨.Name x px,iter,bM,0⟩] scope pos) (some (.Name y py)) spos.line X.v=pure true)(hs:nR X iter):PS X (.Assign [.Name y py] (.ListComp elt [⟨.Name x px,iter,bM,0⟩] scope pos) spos) (Xf i wi js tt te):=by
 intro aA s L H D I h;rw[exec_Assign_Name_used _ _ _ _ aa];refine qb (Qq (qb ?_));show wpAny _ X.A (do let _<-comprehension (.ListComp elt [⟨.Name x px,iter,bM,0⟩] scope pos) scope X.v _ (newList []) false (eval iter X.v) (some (assign (.Name y py) X.v))) _ _ s;refine qb (zv (wpAny_comprehension_free (use:=some (assign (.Name y py) X.v)) (Q:=λ _ s'=>SP X aA D .next s') rfl hs (HF (aj2 I Y B)) B.kind B.locs
  (bT (hi aA s L H _ I h) λ v s1 h1=>bT h1 λ ah s2 h2=>?_)) (λ _ s' q=>qc (qc q)) λ _ _ z=>z)
 obtain⟨it,fp,tn,J,H2,e,Z,T,u,g,σ⟩:=h2;subst e;refine JA (RR:=λ d C=>compPost (model X.p X.w) X.A X.xe (some (assign (.Name y py) X.v)) (λ _ s'=>SP X aA D .next s') d C) Z hc Y B T u g σ ht he ?_;intro a C s' H' ys ai n G f p c j W F S q;have k:=Kg Z g G c j W F S;have ρ:(upd H' a (.l ys)) C=none:=by rw[bS (zy p)];exact c.free
 refine bE c.loc λ m P _=>?_;have K:C≠X.v.locals:=Jv Z.lt f;show wpAny _ X.A (assign (.Name y py) X.v (.ref a)) _ _ s';refine wpAny_assign_Name (HX k hN ag (.inl hy) (v:=.ref a) rfl (λ s3 l O=>?_) (.inr hy));refine bE O λ b sb M=>?_;have nb:C≠b:=by
  rcases M with z|z
  .rw[z];exact K
  .intro e;obtain⟨v,V⟩:=Z.cell y b z;exact lg V.lt f e.symm
 refine jK P λ o es E R r=>?_;refine⟨m,⟨o,es,E,(sb.2 C nb).trans R,r⟩,λ h' t=>?_⟩;exact⟨_,_,L7 Z l f ρ t,q a j⟩
end
end Lake.L2
namespace Lake
inductive D where
 |n|b (b:Bool)|int (i:Int)|str (x:Str)|t (xs:List D)|l (xs:List D)
 |opq
 |c (ks:aM) (vs:List D)
abbrev _root_.ey:=List (Str×D)
abbrev _root_.aK:=List D
inductive MO where
 |l (xs:aK)|d (aI:ey)
inductive Sl where
 |z|i (d:D)|o (b:Bool) (o:MO)
abbrev En:=List Sl
inductive jC where
 |nx (U:En)|rt (d:D) (U:En)|bk (U:En)|ct (U:En)
abbrev FE:=En->Option (D×En)
abbrev FT:=En->Option (Bool×En)
abbrev FA:=En->Option (aK×En)
abbrev FS:=En->Option jC
noncomputable def aH{α β:Type}(x:Option α)(f:α->Option β):Option β:=x.bind f
theorem dX(a:α)(f:α->Option β):aH (some a) f=f a:=rfl
mutual
noncomputable def cJ:D->D->Bool
 |.n,.n=>true
 |.b a,.b b=>a==b
 |.b a,.int b=>(if a then 1 else 0)==b
 |.int a,.b b=>a==(if b then 1 else 0)
 |.int a,.int b=>a==b
 |.str a,.str b=>a==b
 |.t a,.t b=>h7 a b
 |.l a,.l b=>h7 a b
 |_,_=>false
noncomputable def h7:aK->List D->Bool
 |[],[]=>true
 |a::r,b::t=>cJ a b&&h7 r t
 |_,_=>false
end
theorem yI{α:Sort _}{a b:α}(h:a=b):a=b:=h
@[simp] theorem WR:cJ .n .n=true:=yI rfl
@[simp] theorem bi1:cJ .n (.b y)=false:=yI rfl
@[simp] theorem WS:cJ .n (.int y)=false:=yI rfl
@[simp] theorem bd7:(∀y,cJ .n (.str y)=false)/\(∀y,cJ .n (.t y)=false)/\(∀y,cJ .n (.l y)=false)/\(∀x,cJ (.b x) .n=false):=fz
@[simp] theorem bt5:cJ (.b x) (.b y)=decide (x=y):=yI (Yt _ _)
@[simp] theorem bi5:(∀x y,cJ (.b x) (.int y)=((if x then 1 else 0)==y))/\(∀x y,cJ (.b x) (.str y)=false)/\(∀x y,cJ (.b x) (.t y)=false)/\(∀x y,cJ (.b x) (.l y)=false)/\(∀x,cJ (.int x) .n=false)/\(∀x y,cJ (.int x) (.b y)=(x==(if y then 1 else 0))):=fz
@[simp] theorem be2:cJ (.int x) (.int y)=decide (x=y):=yI (Yt _ _)
@[simp] theorem be0:(∀x y,cJ (.int x) (.str y)=false)/\(∀x y,cJ (.int x) (.t y)=false)/\(∀x y,cJ (.int x) (.l y)=false)/\(∀x,cJ (.str x) .n=false)/\(∀x y,cJ (.str x) (.b y)=false)/\(∀x y,cJ (.str x) (.int y)=false):=fz
@[simp] theorem T2:cJ (.str x) (.str y)=decide (x=y):=yI (Yt _ _)
@[simp] theorem cw0:(∀x y,cJ (.str x) (.t y)=false)/\(∀x y,cJ (.str x) (.l y)=false)/\(∀x,cJ (.t x) .n=false)/\(∀x y,cJ (.t x) (.b y)=false)/\(∀x y,cJ (.t x) (.int y)=false)/\(∀x y,cJ (.t x) (.str y)=false):=fz
@[simp] theorem CW(x:aK)(y:aK):cJ (.t x) (.t y)=h7 x y:=yI rfl
@[simp] theorem cv8:(∀x y,cJ (.t x) (.l y)=false)/\(∀x,cJ (.l x) .n=false)/\(∀x y,cJ (.l x) (.b y)=false)/\(∀x y,cJ (.l x) (.int y)=false)/\(∀x y,cJ (.l x) (.str y)=false)/\(∀x y,cJ (.l x) (.t y)=false):=fz
@[simp] theorem CY(x:aK)(y:aK):cJ (.l x) (.l y)=h7 x y:=yI rfl
@[simp] theorem bI5:h7 [] []=true:=yI rfl
@[simp] theorem bI6:h7 (a::r) (b::t)=(cJ a b&&h7 r t):=yI rfl
@[simp] theorem cF9(b:D)(t:aK):h7 [] (b::t)=false:=by simp[h7]
@[simp] theorem cG0(b:D)(t:aK):h7 (b::t) []=false:=by simp[h7]
mutual
noncomputable def dI:D->Nat
 |.t xs=>gK xs+1
 |.l xs=>gK xs+1
 |.opq=>1000
 |.c _ _=>1000
 |_=>0
noncomputable def gK:aK->Nat
 |[]=>0
 |d::r=>max (dI d) (gK r)
end
@[simp] theorem WT:dI .opq=1000:=rfl
@[simp] theorem WU:dI (.c ks vs)=1000:=rfl
@[simp] theorem cG8:dI .n=0:=rfl
@[simp] theorem cJ9(b:Bool):dI (.b b)=0:=rfl
@[simp] theorem cG9(i:Int):dI (.int i)=0:=rfl
@[simp] theorem cG7(x:Str):dI (.str x)=0:=rfl
@[simp] theorem yl:dI (.t xs)=gK xs+1:=rfl
@[simp] theorem yA:dI (.l xs)=gK xs+1:=rfl
@[simp] theorem cC8:gK []=0:=rfl
@[simp] theorem QV:gK (d::r)=max (dI d) (gK r):=rfl
noncomputable def lW(i:Int):Bool:=decide (i.natAbs<2^1000)
def gi(i j:Int):Bool:=decide (i.natAbs<2^64)||decide (j.natAbs<2^64)||(lW i&&lW j)
noncomputable def lJ(j:Int):Bool:=decide (j≠0)&&decide (j.natAbs<2^1000)
noncomputable def sx:D->Option Int
 |.int i=>some i
 |_=>none
abbrev _root_.fN:=Option D
def qU(g:Int->Int->Option D)(x y:D):fN:=aH (sx x) λ i=>aH (sx y) (g i)
theorem rD(e:qU g x y=some d):∃i j,x=.int i/\y=.int j/\g i j=some d:=by
 cases x with
 |int i=>
  cases y with
  |int j=>exact⟨i,j,rfl,rfl,e⟩
  |_=>cases e
 |_=>cases e
noncomputable def c_:D->D->Option D
 |.int i,.int j=>some (.int (i+j))
 |.str a,.str b=>if a.length+b.length<=sizeLine then some (.str (a++b))else none
 |.l a,.l b=>if a.length+b.length<=sizeLine then some (.l (a++b))else none
 |_,_=>none
def ij:D->D->Option D:=qU λ i j=>some (.int (i-j))
def iR:D->D->Option D:=qU λ i j=>if gi i j=true then some (.int (i*j))else none
def mO:D->D->Option D:=qU λ i j=>if lJ j=true then some (.int (i.fdiv j))else none
def dZ:D->D->Option D:=qU λ i j=>if j≠0 then some (.int (i.fmod j))else none
def zU:D->D->Option D:=qU λ i j=>if 0<=j/\j<=64/\i.natAbs<2^64 then some (.int (i^j.toNat))else none
noncomputable def pQ:D->Option D
 |.int i=>some (.int (-i))
 |_=>none
def vE(p:Int->Int->Bool):D->D->Option D:=qU λ i j=>some (.b (p i j))
def l5:D->D->Option D:=vE λ i j=>decide (i<j)
def oV:D->D->Option D:=vE λ i j=>decide (i<=j)
def nK:D->D->Option D:=vE λ i j=>decide (j<i)
def vN:D->D->Option D:=vE λ i j=>decide (j<=i)
def jF(x y:D):fN:=if dI x<=30/\dI y<=30 then some (.b (cJ x y))else none
def ly(x y:D):fN:=if dI x<=30/\dI y<=30 then some (.b (!cJ x y))else none
noncomputable def gP:D->Bool
 |.n=>true
 |_=>false
@[simp] theorem cF2:gP .opq=false:=rfl
@[simp] theorem cF6(ks:aM)(vs:aK):gP (.c ks vs)=false:=rfl
@[simp] theorem cF3:gP .n=true:=rfl
@[simp] theorem cI9(b:Bool):gP (.b b)=false:=rfl
@[simp] theorem cF5(b:Int):gP (.int b)=false:=rfl
@[simp] theorem cF1(b:Str):gP (.str b)=false:=rfl
@[simp] theorem cF0(b:aK):gP (.t b)=false:=rfl
@[simp] theorem cF4(b:aK):gP (.l b)=false:=rfl
def oU(x y:D):fN:=match y with
 |.n=>some (.b (gP x))
 |_=>none
def kj(x y:D):fN:=match y with
 |.n=>some (.b (!gP x))
 |_=>none
noncomputable def qA:D->Option Bool
 |.n=>some false
 |.b b=>some b
 |.int i=>some (i != 0)
 |.l xs=>some (!xs.isEmpty)
 |.t xs=>some (!xs.isEmpty)
 |_=>none
noncomputable def qF(n:Nat)(i:Int):jJ:=if 0<=i then(if i<n then some i.toNat else none)else if -(n:Int)<=i then some (i+n).toNat else none
def dW(xs:aK)(i:Int):fN:=(qF xs.length i).bind λ j=>xs[j]?
noncomputable def iq(n d:Nat):bZ->Nat
 |none=>d
 |some v=>if v<0 then(v+(n:Int)).toNat else min v.toNat n
theorem Ss(n d k:Nat):iq n d (some (k:Int))=min k n:=by show(if(k:Int)<0 then((k:Int)+(n:Int)).toNat else min (k:Int).toNat n)=_;exact if_neg (Int.not_lt.mpr (Int.natCast_nonneg k))
def jN(xs:aK)(lo hi:bZ):aK:=(xs.drop (iq xs.length 0 lo)).take (iq xs.length xs.length hi-iq xs.length 0 lo)
noncomputable def kM:aK->Option D
 |[.int i]=>some (.int (if i<0 then -i else i))
 |_=>none
def rF:aK->Option (ed)
 |[]=>some []
 |.int i::r=>aH (rF r) λ is=>some (i::is)
 |_=>none
theorem TY(i:Int)(r:aK):rF (.int i::r)=aH (rF r) λ is=>some (i::is):=rfl
noncomputable def mQ:Int->List Int->Int
 |m,[]=>m
 |m,x::r=>mQ (if x<m then x else m) r
noncomputable def mR:Int->List Int->Int
 |m,[]=>m
 |m,x::r=>mR (if m<x then x else m) r
def D7(f:Int->List Int->Int):ed->Option D
 |[]=>none
 |i::r=>some (.int (f i r))
def nG:aK->Option D
 |[.int i,.int j]=>some (.int (if j>i then j else i))
 |[.l xs]=>aH (rF xs) λ is=>D7 mR is
 |_=>none
def oP:aK->Option D
 |[.int i,.int j]=>some (.int (if j<i then j else i))
 |[.l xs]=>aH (rF xs) λ is=>D7 mQ is
 |_=>none
inductive Ty where
 |int|bool|str|tuple|list
noncomputable def l0:Ty->D->Bool
 |.int,.int _=>true
 |.int,.b _=>true
 |.bool,.b _=>true
 |.str,.str _=>true
 |.tuple,.t _=>true
 |.list,.l _=>true
 |_,_=>false
abbrev _root_.k6:=Option Sl
noncomputable def FN(U:En):k6->Option (D×En)
 |some (.i d)=>some (d,U)
 |_=>none
abbrev _root_.bB:=Option (D×En)
def eV(i:Nat)(U:En):bB:=FN U U[i]?
def yW:FE:=λ _=>none
noncomputable def eC(d:D)(U:En):bB:=some (d,U)
abbrev zI(n:Int):=eC (.int n)
abbrev zR(x:Str):=eC (.str x)
def e1(op:D->Option D)(F:FE)(U:En):bB:=aH (F U) λ p=>aH (op p.1) λ d=>some (d,p.2)
def e2(op:D->D->Option D)(F G:FE)(U:En):bB:=aH (F U) λ p=>aH (G p.2) λ q=>aH (op p.1 q.1) λ d=>some (d,q.2)
noncomputable def lx:D->Option Bool
 |.b b=>some b
 |_=>none
def e3(op J:D->D->Option D)(F G σ:FE)(U:En):bB:=aH (F U) λ p=>aH (G p.2) λ q=>aH (op p.1 q.1) λ z=>aH (lx z) λ b=>
 if b=true then aH (σ q.2) λ r=>aH (J q.1 r.1) λ d=>some (d,r.2)else some (.b false,q.2)
def aN(U:En):Option (aK×En):=some ([],U)
def aC(F:FE)(A:FA)(U:En):Option (aK×En):=aH (F U) λ p=>aH (A p.2) λ q=>some (p.1::q.1,q.2)
def cH(A:FA)(U:En):bB:=aH (A U) λ p=>if p.1.length<=1000 then some (.t p.1,p.2)else none
def fx(A:FA)(U:En):bB:=aH (A U) λ p=>if p.1.length<=1000 then some (.l p.1,p.2)else none
def eF(g:aK->Option D)(A:FA)(U:En):bB:=aH (A U) λ p=>aH (g p.1) λ d=>some (d,p.2)
def qI(t:Ty)(F:FE)(U:En):bB:=aH (F U) λ p=>some (.b (l0 t p.1),p.2)
abbrev FO:=En->Option (bZ×En)
def oN(U:En):Option (bZ×En):=some (none,U)
def oS(F:FE)(U:En):Option (bZ×En):=aH (F U) λ p=>aH (sx p.1) λ i=>some (some i,p.2)
abbrev _root_.h_:=Option (Bool×En)
def tB(F:FE)(U:En):h_:=aH (F U) λ p=>aH (lx p.1) λ b=>some (b,p.2)
def tV(F:FE)(U:En):h_:=aH (F U) λ p=>aH (qA p.1) λ b=>some (b,p.2)
def dD(T ρ:FT)(U:En):h_:=aH (T U) λ p=>if p.1=true then ρ p.2 else some (false,p.2)
def iG(T ρ:FT)(U:En):h_:=aH (T U) λ p=>if p.1=true then some (true,p.2)else ρ p.2
def fU(T:FT)(U:En):h_:=aH (T U) λ p=>some (!p.1,p.2)
def dP(U:En):h_:=some (true,U)
def iV(T:FT)(F G:FE)(U:En):bB:=aH (T U) λ p=>if p.1=true then F p.2 else G p.2
def rR(F G:FE)(U:En):bB:=aH (F U) λ p=>aH (lx p.1) λ b=>if b=true then G p.2 else some (.b false,p.2)
def qH(F G:FE)(U:En):bB:=aH (F U) λ p=>aH (lx p.1) λ b=>if b=true then some (.b true,p.2)else G p.2
def tL:k6->Option Sl
 |some (.i d)=>some (.i d)
 |_=>none
def h6(U:En):d0->Option En
 |[]=>some []
 |j::js=>aH (tL U[j]?) λ s=>aH (h6 U js) λ r=>some (s::r)
theorem QZ(U:En)(j:Nat)(js:d0):h6 U (j::js)=aH (tL U[j]?) λ s=>aH (h6 U js) λ r=>some (s::r):=rfl
def d4(T:FT)(F:FE)(fr:En):aK->Option (aK)
 |[]=>some []
 |d::r=>aH (T (.i d::fr)) λ p=>if p.1=true then aH (F p.2) λ q=>aH (d4 T F fr r) λ t=>some (q.1::t)else d4 T F fr r
theorem Rv(T:FT)(F:FE)(fr:En):d4 T F fr []=some []:=rfl
theorem Uc(T:FT)(F:FE)(fr:En)(d:D)(r:aK):d4 T F fr (d::r)=aH (T (.i d::fr)) λ p=>if p.1=true then aH (F p.2) λ q=>aH (d4 T F fr r) λ t=>some (q.1::t)else d4 T F fr r:=rfl
noncomputable def jO(c:Nat):Str:=⟨#[c]⟩
def lZ(z:Str):aK:=z.cps.toList.map λ c=>.str (jO c)
def items:D->Option (aK)
 |.l xs=>some xs
 |.t xs=>some xs
 |.str z=>some (lZ z)
 |_=>none
def jG(js:d0)(I:FE)(T:FT)(F:FE)(U:En):bB:=aH (I U) λ p=>aH (items p.1) λ xs=>aH (h6 p.2 js) λ fr=>aH (d4 T F fr xs) λ ys=>if xs.length<=sizeLine then some (.l ys,p.2)else none
abbrev _root_.cC:=Option jC
def sN(U:En):cC:=some (.nx U)
def NV(G:FS):jC->Option jC
 |.nx ρ'=>G ρ'
 |.rt d U=>some (.rt d U)
 |.bk U=>some (.bk U)
 |.ct U=>some (.ct U)
def aR(F G:FS)(U:En):cC:=aH (F U) λ r=>NV G r
def bH(i:Nat)(F:FE)(U:En):cC:=aH (F U) λ p=>some (.nx (p.2.set i (.i p.1)))
noncomputable def mA:d0->List D->En->En
 |i::is,d::ds,U=>mA is ds (U.set i (.i d))
 |_,_,U=>U
theorem TB(i:Nat)(is:d0)(d:D)(ds:aK)(U:En):mA (i::is) (d::ds) U=mA is ds (U.set i (.i d)):=rfl
theorem Ul(ds:aK)(U:En):mA [] ds U=U:=by cases ds<;>rfl
def DC:D->Option (aK)
 |.t xs=>some xs
 |.l xs=>some xs
 |_=>none
def gN(i:Nat)(d:D)(U:En):Option En:=some (U.set i (.i d))
def gT(is:d0)(d:D)(U:En):Option En:=aH (DC d) λ xs=>if xs.length=is.length then some (mA is xs U)else none
def Ee(is:d0)(F:FE)(U:En):cC:=aH (F U) λ p=>aH (gT is p.1 p.2) λ ρ'=>some (.nx ρ')
def bX(T:FT)(F G:FS)(U:En):cC:=aH (T U) λ p=>if p.1=true then F p.2 else G p.2
def bU(F:FE)(U:En):cC:=aH (F U) λ p=>some (.rt p.1 p.2)
def sT(G:FS):jC->Option jC
 |.nx U=>G U
 |.ct U=>G U
 |.bk U=>some (.nx U)
 |.rt d U=>some (.rt d U)
def c4(g:D->En->Option En)(B:FS):aK->FS
 |[],U=>some (.nx U)
 |d::r,U=>aH (g d U) λ q=>aH (B q) λ z=>sT (c4 g B r) z
theorem Rc(g:D->En->Option En)(B:FS)(U:En):c4 g B [] U=some (.nx U):=rfl
theorem T_(g:D->En->Option En)(B:FS)(d:D)(r:aK)(U:En):c4 g B (d::r) U=aH (g d U) λ q=>aH (B q) λ z=>sT (c4 g B r) z:=rfl
def lu(g:D->En->Option En)(F:FE)(B:FS)(U:En):cC:=aH (F U) λ p=>aH (items p.1) λ xs=>c4 g B xs p.2
def fQ(lo:Int):Nat->List D
 |0=>[]
 |n+1=>.int lo::fQ (lo+1) n
def oG(F:FE)(U:En):Option (aK×En):=aH (F U) λ p=>aH (sx p.1) λ j=>if -(2^62)<=j/\j<2^62 then some (fQ 0 j.toNat,p.2)else none
def oB(g:D->En->Option En)(R:FA)(B:FS)(U:En):cC:=aH (R U) λ p=>c4 g B p.1 p.2
def lH(T:FT)(B:FS):Nat->FS
 |0,_=>none
 |n+1,U=>aH (T U) λ p=>if p.1=true then aH (B p.2) λ z=>sT (lH T B n) z else some (.nx p.2)
theorem RC(T:FT)(B:FS)(n:Nat)(U:En):lH T B (n+1) U=aH (T U) λ p=>if p.1=true then aH (B p.2) λ z=>sT (lH T B n) z else some (.nx p.2):=rfl
def zB(q:En->Nat)(T:FT)(B:FS)(U:En):cC:=lH T B (q U) U
def qD(A:FA)(U:En):Option (aK×En):=aH (A U) λ p=>if p.1.length<=1000 then some p else none
def AV(T:FT)(A B:FA)(U:En):Option (aK×En):=aH (T U) λ p=>if p.1=true then A p.2 else B p.2
def mS(i:Nat)(A:FA)(U:En):cC:=aH (A U) λ p=>some (.nx (p.2.set i (.o false (.l p.1))))
def lF:k6->Option (aK)
 |some (.o false (.l ds))=>some ds
 |_=>none
def kx(i:Nat)(F:FE)(U:En):cC:=aH (lF U[i]?) λ _=>aH (F U) λ p=>aH (lF p.2[i]?) λ ds=>if ds.length<1000000 then some (.nx (p.2.set i (.o false (.l (ds++[p.1])))))else none
noncomputable def frz(i:Nat)(U:En):En:=match U[i]? with
 |some (.o false (.l ds))=>U.set i (.i (.l ds))
 |_=>U
def kv(i:Nat)(F:FS)(U:En):cC:=F (frz i U)
noncomputable def vD:jC->Option D
 |.rt d _=>some d
 |.nx _=>some .n
 |_=>none
def di(n k:Nat)(B:FS)(ds:aK):fN:=if ds.length=n then aH (B (ds.map .i++List.replicate k .z)) λ r=>vD r else none
section
open PySem.Spec PyProof.Rows L2
mutual
def aU(K:Frag)(H:Hp):D->V->Prop
 |.n,v=>v=.n
 |.b b,v=>v=.b b
 |.int i,v=>v=.int i
 |.str x,v=>v=.str x
 |.t ds,v=>∃a vs,v=.ref a/\d7 K H a vs/\aD K H ds vs
 |.l ds,v=>∃a vs,v=.ref a/\dz K H a vs/\aD K H ds vs
 |.opq,v=>∃a aI,v=.ref a/\H a=some (.dK aI)
 |.c ks ds,v=>∃a o vs,v=.ref a/\H a=some (.frz o (.dK ((ks.map Sum.inr).zip vs)))/\aD K H ds vs/\ks.length=ds.length
def aD(K:Frag)(H:Hp):aK->List V->Prop
 |[],vs=>vs=[]
 |d::ds,vs=>∃v r,vs=v::r/\aU K H d v/\aD K H ds r
end
theorem aB.rd(e:aB H H')(h:Rd H a u):Rd H' a u:=by grind[aB,Rd]
theorem aB.seqT{K:Frag}(e:aB H H')(h:d7 K H a xs):d7 K H' a xs:=by grind[aB.rd,d7]
section
variable{K:Frag}
mutual
theorem aU.mono(e:aB H H'):∀(d:D){v:V},aU K H d v->aU K H' d v
 |.n,_,h=>h
 |.b _,_,h=>h
 |.int _,_,h=>h
 |.str _,_,h=>h
 |.t ds,_,h=>by
  unfold aU at h⊢;obtain⟨a,vs,q,s,r⟩:=h;exact⟨a,vs,q,aB.seqT e s,aD.mono e ds r⟩
 |.l ds,_,h=>by
  unfold aU at h⊢;obtain⟨a,vs,q,s,r⟩:=h;exact⟨a,vs,q,aB.seq e s,aD.mono e ds r⟩
 |.opq,_,h=>by
  unfold aU at h⊢;obtain⟨a,aI,q,s⟩:=h;exact⟨a,aI,q,e _ _ s⟩
 |.c ks ds,_,h=>by
  unfold aU at h⊢;obtain⟨a,o,vs,q,s,r,l⟩:=h;exact⟨a,o,vs,q,e _ _ s,aD.mono e ds r,l⟩
theorem aD.mono(e:aB H H'):∀(ds:aK){vs:b_},aD K H ds vs->aD K H' ds vs
 |[],_,h=>h
 |d::ds,_,h=>by
  unfold aD at h⊢;obtain⟨v,r,q,s,t⟩:=h;exact⟨v,r,q,aU.mono e d s,aD.mono e ds t⟩
end
theorem aD.length:∀{ds:aK}{vs:b_},aD K H ds vs->ds.length=vs.length:=by intro a;induction a<;>grind[aD]
theorem aD.get:∀{ds:aK}{vs:b_}{i:Nat}{d:D},aD K H ds vs->ds[i]?=some d->∃v,vs[i]?=some v/\aU K H d v
 |[],_,_,_,_,e=>by simp at e
 |d::ds,_,0,_,h,e=>by
  obtain⟨v,r,rfl,s,_⟩:=h;simp at e;subst e;exact⟨v,rfl,s⟩
 |d::ds,_,i+1,c,h,e=>by
  obtain⟨v,r,rfl,_,t⟩:=h;obtain⟨w,a,b⟩:=aD.get t (by simpa using e);exact⟨w,by simpa using a,b⟩
theorem aD.app:∀{ds es:aK}{vs q:b_},aD K H ds vs->aD K H es q->aD K H (ds++es) (vs++q):=by intro a;induction a<;>grind[aD]
theorem aD.take:∀{ds:aK}{vs:b_}(n:Nat),aD K H ds vs->aD K H (ds.take n) (vs.take n)
 |[],_,n,h=>by rw[h];simp[aD]
 |d::ds,vs,0,h=>by simp[aD]
 |d::ds,_,n+1,h=>by
  obtain⟨v,r,rfl,s,t⟩:=h;exact cD v (r.take n) rfl s (aD.take n t)
theorem aD.drop:∀{ds:aK}{vs:b_}(n:Nat),aD K H ds vs->aD K H (ds.drop n) (vs.drop n)
 |[],_,n,h=>by rw[h];simp[aD]
 |d::ds,vs,0,h=>by simpa using h
 |d::ds,_,n+1,h=>by
  obtain⟨v,r,rfl,s,t⟩:=h;simpa using aD.drop n t
theorem aD.one(h:aU K H d v):aD K H [d] [v]:=by exact cD v ([]) rfl h rfl
theorem aD.cons(h:aU K H d v)(t:aD K H ds vs):aD K H (d::ds) (v::vs):=by exact cD v vs rfl h t
theorem aD.nil_:aD K H [] []:=by rfl
end
structure FC where
 Hi:Hp
 He:Hp
 Ap:fV
def eH(K:Frag)(H0 H:Hp)(a:Addr):MO->Prop
 |.l ds=>∃vs,H a=some (.l vs)/\aD K H0 ds vs
 |.d aO=>∃ks vs,H a=some (.dK ((ks.map Sum.inr).zip vs))/\ks=aO.map (·.1)/\aD K H0 (aO.map (·.2)) vs
structure RS(K:Frag)(c:FC)(H0 H:Hp)(U:En)(L:L2.St):Prop where
 same:aB H0 H
 init:aB c.Hi H0
 fresh:∀b o,H0 b=some o->c.Hi b=some o\/c.He b=none
 keep:∀b o,c.He b=some o->b∉c.Ap->H b=some o
 apt:∀a∈c.Ap,H a≠none
 len:U.length=L.length
 im:∀(i:Nat)(d:D),U[i]?=some (.i d)->∃v,L[i]?=some (some v)/\aU K H0 d v
 ow:∀(i:Nat)(b:Bool)(o:MO),U[i]?=some (.o b o)->∃a,L[i]?=some (some (.ref a))/\H0 a=none/\(if b=true then a∈c.Ap else c.He a=none)/\eH K H0 H a o
 ne:∀(i j:Nat)(b b':Bool)(o o':MO)(a:Addr),U[i]?=some (.o b o)->U[j]?=some (.o b' o')->L[i]?=some (some (.ref a))->L[j]?=some (some (.ref a))->i=j
section
variable{K:Frag}
theorem eH.some(h:eH K H0 H a o):∃u,H a=Option.some u:=by
 cases o with
 |l b=>obtain⟨c,e,_⟩:=h;exact⟨_,e⟩
 |d b=>obtain⟨d,c,e,_⟩:=h;exact⟨_,e⟩
theorem eH.step(h:eH K H0 H a o)(J:aB H0 aV)(s:∀u,H a=Option.some u->H' a=Option.some u):eH K aV H' a o:=by
 cases o with
 |l c=>obtain⟨b,e,r⟩:=h;exact⟨b,s _ e,aD.mono J c r⟩
 |d c=>refine cM h λ d b e q r=>?_;exact cD d b (s _ e) q (aD.mono J _ r)
structure bY(H0 H aV H':Hp):Prop where
 s0:aB H0 aV
 s:aB H H'
 s':aB aV H'
 fr:∀b o,aV b=some o->H0 b=some o\/H b=none
theorem RS.after(R:RS K c H0 H U L)(S:bY H0 H aV H'):RS K c aV H' U L:=by
 refine⟨S.s',R.init.trans S.s0,λ b o e=>?_,λ b o e n=>S.s _ _ (R.keep b o e n),λ a O e=>?_,R.len,λ i d e=>?_,λ i b o e=>?_,R.ne⟩
 .rcases S.fr b o e with h|h
  .exact R.fresh b o h
  .refine .inr ?_;cases q:c.He b with
   |none=>rfl
   |some u=>
    by_cases J:b∈c.Ap
    .exact absurd h (R.apt b J)
    .rw[R.keep b u q J]at h;simp at h
 .cases q:H a with
  |none=>exact R.apt a O q
  |some u=>rw[S.s _ _ q]at e;simp at e
 .obtain⟨v,a,b⟩:=R.im i d e;exact⟨v,a,aU.mono S.s0 d b⟩
 .refine cZ (R.ow i b o e) λ a x y z w=>?_;refine kJ a x ?_ z (w.step S.s0 λ u q=>S.s _ _ q);obtain⟨u,q⟩:=w.some;cases t:aV a with
  |none=>rfl
  |some f=>
   rcases S.fr a f t with h|h
   .rw[y]at h;simp at h
   .rw[q]at h;simp at h
theorem bY.trans(x:bY H0 H aV H')(y:bY aV H' A B):bY H0 H A B:=by
 refine⟨x.s0.trans y.s0,x.s.trans y.s,y.s',λ b o e=>?_⟩;rcases y.fr b o e with h|h
 .exact x.fr b o h
 .exact .inr (x.s.free h)
theorem bY.alloc(s:aB H0 H)(J:H p=none):bY H0 H (upd H0 p o) (upd H p o):=by
 have O:=s.free J;refine⟨λ b u e=>by rw[bS (fF e O)];exact e,λ b u e=>by rw[bS (fF e J)];exact e,λ b u e=>?_,λ b u e=>?_⟩
 .by_cases q:b=p
  .grind[cF]
  .rw[bS q]at e⊢;exact s _ _ e
 .grind[bS]
end
def tE(K:Frag)(F:FE):TE:=λ L H Q=>∃c H0 U d ρ',RS K c H0 H U L/\F U=some (d,ρ')/\∀v aV H',aB H0 aV->RS K c aV H' ρ' L->aU K aV d v->Q v H'
def jZ(K:Frag)(F:FT):TT:=λ L H Q=>∃c H0 U b ρ',RS K c H0 H U L/\F U=some (b,ρ')/\∀aV H',aB H0 aV->RS K c aV H' ρ' L->Q b H'
def Oj(K:Frag)(F:FA):TA:=λ L H Q=>∃c H0 U ds ρ',RS K c H0 H U L/\F U=some (ds,ρ')/\∀vs aV H',aB H0 aV->RS K c aV H' ρ' L->aD K aV ds vs->Q vs H'
def tOo(K:Frag)(F:FO):TO:=λ L H Q=>∃c H0 U o ρ',RS K c H0 H U L/\F U=some (o,ρ')/\∀aV H',aB H0 aV->RS K c aV H' ρ' L->Q o H'
def XE(X:Cx)(e:Expr)(F:FE):Prop:=PE X e (tE X.K F)
def XT(X:Cx)(e:Expr)(F:FT):Prop:=PT X e (jZ X.K F)
def XW(X:Cx)(e:Expr)(F:FT):Prop:=PW X e (jZ X.K F)
def XA(X:Cx)(es:e_)(F:FA):Prop:=PA X es (Oj X.K F)
def XO(X:Cx)(e:m3)(F:FO):Prop:=PO X e (tOo X.K F)
theorem aP(h:aH x f=some b):∃a,x=some a/\f a=some b:=by
 cases x with
 |none=>cases h
 |some a=>exact⟨a,rfl,h⟩
theorem PE.wk(h:PE X e t)(w:∀L H Q,t' L H Q->t L H Q):PE X e t':=λ aA s L H Q I q=>h aA s L H Q I (w L H Q q)
theorem PT.wk(h:PT X e t)(w:∀L H Q,t' L H Q->t L H Q):PT X e t':=λ aA s L H Q I q=>h aA s L H Q I (w L H Q q)
theorem PW.wk(h:PW X e t)(w:∀L H Q,t' L H Q->t L H Q):PW X e t':=λ J aA s L H Q I q=>h J aA s L H Q I (w L H Q q)
theorem PA.wk(h:PA X e t)(w:∀L H Q,t' L H Q->t L H Q):PA X e t':=λ pos aA s L H Q I q=>h pos aA s L H Q I (w L H Q q)
theorem PS.wk(h:PS X e t)(w:∀D L H,t' D L H->t D L H):PS X e t':=by grind[PS]
theorem eL.wk(h:eL X e t)(w:∀D L H,t' D L H->t D L H):eL X e t':=λ aA s L H D I q=>h aA s L H D I (w D L H q)
section
theorem xv(i:Nat)(Z:X.N[i]?=some x:=by rfl)(Y:gk X.v.scope x:=by exact i7)(hd:df x:=by decide)(O:fA x:=by decide):XE X (.Name x pos) (eV i):=
 PE.wk (fT Z Y hd O) λ L H Q J=>by
  refine bN J λ c H0 U d g R f q=>?_;unfold eV at f;cases z:U[i]? with
  |none=>rw[z]at f;cases f
  |some e=>
   rw[z]at f;cases e with
   |z=>cases f
   |o b o=>cases f
   |i h=>
    have a:=f;cases a;obtain⟨v,e1,e2⟩:=R.im i _ z;exact⟨v,e1,q v H0 H (aB.refl _) R e2⟩
theorem D8:XE X e yW:=λ aA s L H Q I J=>by refine bN J λ c H0 U d a R f q=>?_;cases f
theorem uR(h:eC d U=some (d',ρ')):d'=d/\ρ'=U:=by have h':=h;cases h';exact⟨rfl,rfl⟩
theorem fR:XE X (.Constant (.int i) j pos) (zI i):=PE.wk uz λ L H Q J=>by
 refine bN J λ c H0 U d a R f q=>?_;obtain⟨rfl,rfl⟩:=uR f;exact q _ H0 H (aB.refl _) R (by rfl)
theorem OE:XE X (.Constant (.bool i) j pos) (eC (.b i)):=PE.wk VF λ L H Q J=>by
 refine bN J λ c H0 U d a R f q=>?_;obtain⟨rfl,rfl⟩:=uR f;exact q _ H0 H (aB.refl _) R (by rfl)
theorem wh:XE X (.Constant .none j pos) (eC .n):=PE.wk LY λ L H Q J=>by
 refine bN J λ c H0 U d a R f q=>?_;obtain⟨rfl,rfl⟩:=uR f;exact q _ H0 H (aB.refl _) R (by rfl)
theorem nL:XE X (.Constant (.str x) j pos) (eC (.str x)):=PE.wk uO λ L H Q J=>by
 refine bN J λ c H0 U d a R f q=>?_;obtain⟨rfl,rfl⟩:=uR f;exact q _ H0 H (aB.refl _) R (by rfl)
abbrev Bh(K:Frag)(c:FC)(H0:Hp)(U:En)(L:L2.St)(d:D)(Q:VK):Prop:=∀v aV H',aB H0 aV->RS K c aV H' U L->aU K aV d v->Q v H'
def ki(K:Frag)(r:R2)(op:D->D->Option D):Prop:=∀(c:FC)(H0 H:Hp)(U:En)(L:L2.St)(x y d:D)(J q:V)(Q:VK),RS K c H0 H U L->aU K H0 x J->aU K H0 y q->op x y=some d->Bh K c H0 U L d Q->r J q H Q
def ny(X:Cx)(op:Operator)(f:D->D->Option D):Prop:=∃r,d3 X (binaryOp op) r/\ki X.K r f
def iI(X:Cx)(op:CmpOp)(f:D->D->Option D):Prop:=∃r,d3 X (compareOp op) r/\ki X.K r f
theorem CB(h:e2 op F G U=some (d,ρ')):∃x q y,F U=some (x,q)/\G q=some (y,ρ')/\op x y=some d:=by obtain⟨⟨x,q⟩,h1,h⟩:=aP h;obtain⟨⟨y,J⟩,h2,h⟩:=aP h;obtain⟨z,O,h⟩:=aP h;grind
theorem yZ{K:Frag}(o:ki K r op)(h:tE K (e2 op F G) L H Q):wJ r (tE K F) (tE K G) L H Q:=by
 refine bN h λ c H0 U d a R f q=>?_;refine eU (CB f) λ x J y h1 h2 i=>?_;refine bG c H0 U x J R h1 λ Y H1 n l g j=>?_;refine bG c H1 J y a g h2 λ m H2 cV b R2 k=>?_;exact o c H2 cV a L x y d Y m Q R2 (aU.mono b x j) k i λ v e fe Z O r3=>q v e fe (l.trans (b.trans Z)) O r3
theorem xb(o:ny X op f)(J:XE X a F)(q:XE X b G):XE X (.BinOp a op b pos) (e2 f F G):=by
 obtain⟨r,h1,h2⟩:=o;exact PE.wk (Cv h1 J q) λ L H Q h=>yZ h2 h
theorem Cf(o:iI X op f)(O:XE X a F)(J:XE X b G)(q:behindInMarks op b=false:=by first|exact Dy _|with_unfolding_all rfl):XE X (.Compare a [op] [b] pos) (e2 f F G):=by
 obtain⟨r,h1,h2⟩:=o;exact PE.wk (To h1 O J q) λ L H Q h=>yZ h2 h
theorem CD{K:Frag}(w:∀Q,tE K F L H Q->t L H Q)(h:jZ K (tB F) L H Q):CC t L H Q:=by
 refine bN h λ c H0 U b g R f q=>?_;obtain⟨⟨d,J⟩,h1,f⟩:=aP f;obtain⟨Y,h2,f⟩:=aP f;have Z:=f;simp at Z;refine w _ ⟨c,H0,U,d,_,R,h1,λ v H1 O j i a=>?_⟩;cases d with
 |b k=>
  have e:=qi h2;exact⟨k,a,by grind⟩
 |_=>cases h2
theorem xt(o:iI X op f)(O:XE X a F)(J:XE X b G)(q:behindInMarks op b=false:=by first|exact Dy _|with_unfolding_all rfl):XT X (.Compare a [op] [b] pos) (tB (e2 f F G)):=by
 obtain⟨r,h1,h2⟩:=o;exact PT.wk (KH h1 O J q) λ L H Q h=>CD (λ Q h=>yZ h2 h) h
theorem RJ{K:Frag}(o:ki K r op)(o':ki K r' O)(h:tE K (e3 op O F G σ) L H Q):I3 r r' (tE K F) (tE K G) (tE K σ) L H Q:=by
 refine bN h λ c H0 U d V R f q=>?_;obtain⟨⟨x,Y⟩,h1,f⟩:=aP f;obtain⟨⟨y,J⟩,h2,f⟩:=aP f;obtain⟨z,D,f⟩:=aP f;obtain⟨k,Z,f⟩:=aP f;refine bG c H0 U x Y R h1 λ ρ H1 W n A M=>?_;refine bG c H1 Y y J A h2 λ s H2 cV b R2 m=>?_;refine o c H2 cV J L x y z ρ s _ R2 (aU.mono b x M) m D λ v i fe g j r3=>?_;cases z with
 |b l=>
  have e:=qi Z;subst e;refine⟨l,r3,?_⟩;cases l with
  |false=>
   rw[if_neg zh]at f⊢;have a:=f;cases a;exact q _ i fe (n.trans (b.trans g)) j (by rfl)
  |true=>
   rw[if_pos rfl]at f⊢;obtain⟨⟨w,X⟩,E,f⟩:=aP f;obtain⟨d',I,f⟩:=aP f;have a:=f;cases a;refine bG c i J w _ j E λ T t Hh4 p B N=>?_;exact o' c t Hh4 _ L y w d s T Q B (aU.mono p y (aU.mono g y m)) N I λ v u Hh5 S C P=>q v u Hh5 (n.trans (b.trans (g.trans (p.trans S)))) C P
 |_=>cases Z
theorem xt3{op q:CmpOp}{f Y:D->D->Option D}{m:Expr}(o:iI X op f)(o':iI X q Y)(ha:XE X a F)(hb:XE X b G)(hc:XE X m σ)(Z:lastMarks [op,q] [b,m]=false):XT X (.Compare a [op,q] [b,m] pos) (tB (e3 f Y F G σ)):=by
 obtain⟨r,h1,h2⟩:=o;obtain⟨c,J,O⟩:=o';exact PT.wk (RV h1 J ha hb hc Z) λ L H Q h=>CD (λ Q h=>RJ h2 O h) h
theorem xif(hc:XT X c T)(ha:XE X a F)(hb:XE X b G):XE X (.IfExp c a b pos) (iV T F G):=PE.wk (IS hc ha hb) λ L H Q O=>by
 refine bN O λ c H0 U d e R f q=>?_;obtain⟨⟨k,J⟩,h1,f⟩:=aP f;refine bG c H0 U k J R h1 λ H1 i h Z=>?_;cases k with
 |true=>
  rw[if_pos rfl]at f⊢;exact bG c H1 J d e Z f λ v H2 cV g R2 Y=>q v H2 cV (h.trans g) R2 Y
 |false=>
  rw[if_neg zh]at f⊢;exact bG c H1 J d e Z f λ v H2 cV g R2 Y=>q v H2 cV (h.trans g) R2 Y
theorem W7(h:XE X a F):XE X (.BoolOp op [a] pos) F:=Xu h
variable{rest:e_}
theorem YV(ha:XE X a F)(Z:XE X (.BoolOp .And (b::rest) pos) G):XE X (.BoolOp .And (a::b::rest) pos) (rR F G):=PE.wk (Xv ha Z) λ L H Q O=>by
 refine bN O λ c H0 U d g R f q=>?_;obtain⟨⟨z,J⟩,h1,f⟩:=aP f;obtain⟨k,h2,f⟩:=aP f;refine bG c H0 U z J R h1 λ v H1 j i Y m=>?_;cases z with
 |b h=>
  have e:=qi h2;subst e;refine⟨h,m,?_⟩;cases h with
  |true=>
   rw[if_pos rfl]at f⊢;exact bG c H1 J d g Y f λ v H2 cV o R2 n=>q v H2 cV (i.trans o) R2 n
  |false=>
   rw[if_neg zh]at f⊢;have l:=f;cases l;exact q _ H1 j i Y (by rfl)
 |_=>cases h2
theorem xor(ha:XE X a F)(Z:XE X (.BoolOp .Or (b::rest) pos) G):XE X (.BoolOp .Or (a::b::rest) pos) (qH F G):=PE.wk (VE ha Z) λ L H Q O=>by
 refine bN O λ c H0 U d g R f q=>?_;obtain⟨⟨z,J⟩,h1,f⟩:=aP f;obtain⟨k,h2,f⟩:=aP f;refine bG c H0 U z J R h1 λ v H1 j i Y m=>?_;cases z with
 |b h=>
  have e:=qi h2;subst e;refine⟨h,m,?_⟩;cases h with
  |true=>
   rw[if_pos rfl]at f⊢;have l:=f;cases l;exact q _ H1 j i Y (by rfl)
  |false=>
   rw[if_neg zh]at f⊢;exact bG c H1 J d g Y f λ v H2 cV o R2 n=>q v H2 cV (i.trans o) R2 n
 |_=>cases h2
theorem xw(h:XW X a T):XT X a T:=PW.pt h
theorem Ow(q:XT X a T):XW X (.BoolOp .And [a] pos) T:=S7 q
theorem u9(q:XT X a T):XW X (.BoolOp .Or [a] pos) T:=Xk q
theorem Hm(ha:XT X a T)(Z:XW X (.BoolOp .And (b::rest) pos) ρ):XW X (.BoolOp .And (a::b::rest) pos) (dD T ρ):=PW.wk (Xl ha Z) λ L H Q O=>by
 refine bN O λ c H0 U k d R f q=>?_;obtain⟨⟨e,J⟩,h1,f⟩:=aP f;refine bG c H0 U e J R h1 λ H1 i g Y=>?_;cases e with
 |true=>
  rw[if_pos rfl]at f⊢;exact bG c H1 J k d Y f λ H2 cV h R2=>q H2 cV (g.trans h) R2
 |false=>
  rw[if_neg zh]at f⊢;grind
theorem oK(ha:XT X a T)(Z:XW X (.BoolOp .Or (b::rest) pos) ρ):XW X (.BoolOp .Or (a::b::rest) pos) (iG T ρ):=PW.wk (VC ha Z) λ L H Q O=>by
 refine bN O λ c H0 U k d R f q=>?_;obtain⟨⟨e,J⟩,h1,f⟩:=aP f;refine bG c H0 U e J R h1 λ H1 h g Y=>?_;cases e with
 |true=>
  rw[if_pos rfl]at f⊢;have i:=f;cases i;exact q H1 h g Y
 |false=>
  rw[if_neg zh]at f⊢;exact bG c H1 J k d Y f λ H2 cV j R2=>q H2 cV (g.trans j) R2
theorem u4(ha:XT X a T):XT X (.UnaryOp .Not a pos) (fU T):=PT.wk (Xo ha) λ L H Q J=>by
 refine bN J λ c H0 U k g R f q=>?_;obtain⟨⟨d,O⟩,h1,f⟩:=aP f;have Z:=f;cases Z;exact bG c H0 U d _ R h1 λ H1 Y e b=>q H1 Y e b
theorem Xc{K:Frag}(s:aB H0 H)(r:aU K H0 d v)(h:qA d=some k):DU K v H k:=by
 cases d with
 |n=>unfold aU at r;subst r;obtain rfl:=aW h;rfl
 |b b=>unfold aU at r;subst r;obtain rfl:=aW h;rfl
 |int i=>unfold aU at r;subst r;obtain rfl:=aW h;rfl
 |str x=>cases h
 |opq=>cases h
 |c f a=>cases h
 |t c=>
  obtain⟨p,a,rfl,q,t⟩:=r;have e:=qi h;have e2:c.isEmpty=a.isEmpty:=by rw[yy,jq,jq,t.length]
  exact .inr (.inl ⟨a,aB.seqT s q,by grind⟩)
 |l c=>
  obtain⟨p,a,rfl,q,t⟩:=r;have e:=qi h;have e2:c.isEmpty=a.isEmpty:=by rw[yy,jq,jq,t.length]
  exact .inl ⟨a,aB.seq s q,by grind⟩
theorem oe(ha:XE X a F)(he:∀J,isTrue a X.v J=(do let v<-J;standAt a.pos;holding [v] (truthy v))):XT X a (tV F):=PT.wk (RU ha he) λ L H Q O=>by
 refine bN O λ c H0 U k i R f q=>?_;obtain⟨⟨d,Y⟩,h1,f⟩:=aP f;obtain⟨j,h2,f⟩:=aP f;have e:=f;cases e;exact bG c H0 U d _ R h1 λ v H1 b h Z g=>⟨k,Xc Z.same g h2,q H1 b h Z⟩
theorem fE:XA X [] aN:=PA.wk lB λ L H Q J=>by
 refine bN J λ c H0 U b a R f q=>?_;have O:=f;cases O;exact q [] H0 H (aB.refl _) R aD.nil_
theorem ef(ha:XE X e F)(hr:XA X es A)(hs:iX X e es:=by rfl):XA X (e::es) (aC F A):=PA.wk (iA ha hr hs) λ L H Q J=>by
 refine bN J λ c H0 U l j R f q=>?_;obtain⟨⟨d,O⟩,h1,f⟩:=aP f;obtain⟨⟨r,Y⟩,h2,f⟩:=aP f;have Z:=f;cases Z;refine bG c H0 U d O R h1 λ v H1 k i b g=>?_;refine bG c H1 O r _ b h2 λ m H2 cV a R2 h=>?_;exact q _ H2 cV (i.trans a) R2 (aD.cons (aU.mono a d g) h)
theorem CG(h:n<=1000):n<=sizeLine:=Q2 (Br h)
theorem o_(h:XA X es A):XE X (.Tuple es x1 pos) (cH A):=PE.wk (zC h) λ L H Q J=>by
 refine bN J λ c H0 U d i R f q=>?_;obtain⟨⟨a,k⟩,h1,f⟩:=aP f;split at f
 .rename_i Z;cases f;refine bG c H0 U a _ R h1 λ e H1 j g O b=>⟨by rw[<-b.length];exact CG Z,λ p Y=>?_⟩
  have S:=bY.alloc (o:=.t e) O.same Y;refine q _ _ _ (g.trans S.s0) (O.after S) ?_;exact cD p e rfl (.inl (.inl cF)) (aD.mono S.s0 a b)
 .simp at f
theorem xS(h:XA X es A):XE X (.List es pos) (fx A):=PE.wk (J7 h) λ L H Q J=>by
 refine bN J λ c H0 U d i R f q=>?_;obtain⟨⟨a,k⟩,h1,f⟩:=aP f;split at f
 .rename_i Z;cases f;refine bG c H0 U a _ R h1 λ e H1 j g O b=>⟨by rw[<-b.length];exact CG Z,λ p Y=>?_⟩
  have S:=bY.alloc (o:=.l e) O.same Y;refine q _ _ _ (g.trans S.s0) (O.after S) ?_;exact cD p e rfl (.inl (.inl cF)) (aD.mono S.s0 a b)
 .simp at f
theorem YM:@qF=@kZ:=rfl
theorem Mo{K:Frag}(r:aD K H ds vs)(h:dW ds i=some d):∃v,kT vs i=some v/\aU K H d v:=by obtain⟨j,h1,h2⟩:=aP h;obtain⟨v,e1,e2⟩:=r.get h2;refine⟨v,?_,e2⟩;unfold kT;rw[<-r.length,<-YM,h1];exact e1
theorem PO.wk(h:PO X e t)(w:∀L H Q,t' L H Q->t L H Q):PO X e t':=λ aA s L H Q I q=>h aA s L H Q I (w L H Q q)
theorem OF:XO X none oN:=PO.wk Tg λ L H Q J=>by
 refine bN J λ c H0 U o a R f q=>?_;have O:=f;cases O;exact q H0 H (aB.refl _) R
theorem OG(h:XE X e F):XO X (some e) (oS F):=PO.wk (Tf h) λ L H Q J=>by
 refine bN J λ c H0 U o l R f q=>?_;refine bE (aP f) λ a h1 f=>?_;obtain⟨d,O⟩:=a;refine bE (aP f) λ i h2 f=>?_;have b:=f;cases b;refine bG c H0 U d _ R h1 λ v H1 Z k Y g=>?_;cases d with
 |int j=>
  have e:=qi h2;subst e;exact⟨j,g,q H1 Z k Y⟩
 |_=>cases h2
theorem yB(n d:Nat)(o:bZ):iq n d o=HT.sIx n d o:=by cases o<;>rfl
theorem Cn{K:Frag}(r:aD K H ds vs)(lo hi:bZ):aD K H (jN ds lo hi) (oF vs lo hi):=by unfold jN oF;rw[yB,yB,r.length];exact(r.drop _).take _
end
section
variable{K:Frag}
theorem xU(h:∀x y d,f x y=some d->∃i j,x=.int i/\y=.int j/\C i j/\∀H,aU K H d (g i j)):ki K (rI C g) f:=λ c H0 H U L x y d Z b Q R a J e q=>by
 obtain⟨i,j,rfl,rfl,O,Y⟩:=h x y d e;exact iM i j a J O (q _ H0 H (aB.refl _) R (Y H0))
theorem J9(h:∀x y d,f x y=some d->∃i j,x=.int i/\y=.int j/\∀H,aU K H d (g i j)):ki K (mm g) f:=λ c H0 H U L x y d Z Y Q R a J e q=>by
 obtain⟨i,j,rfl,rfl,O⟩:=h x y d e;exact cD i j a J (q _ H0 H (aB.refl _) R (O H0))
theorem gE(H:Hp)(i:Int):aU K H (.int i) (.int i):=by rfl
theorem lE(H:Hp)(i:Bool):aU K H (.b i) (.b i):=by rfl
theorem bM[Decidable c](h:(if c then some a else none)=some d):c/\a=d:=by grind
theorem QH:ny X .Sub ij:=⟨_,Xx,J9 λ x y d e=>by
 obtain⟨i,j,rfl,rfl,e⟩:=rD e;obtain rfl:=aW e;exact cD _ _ rfl rfl λ H=>gE H _⟩
def kh(i j:Int):Prop:=gi i j=true
theorem G9(h:lW i=true):Builtin.Int.intBits i<=1000:=by
 have h:=jm h;unfold Builtin.Int.intBits;split
 .grind
 .rename_i a;have a:i≠0:=by simpa using a
  have q:i.natAbs≠0:=aE;have:=(Nat.log2_lt q).mpr h;lia
theorem kh.ok(h:kh i j):IntMulOk i j:=by
 unfold kh gi at h;simp only[Bool.or_eq_true,ze,Z0]at h;rcases h with(h|h)|⟨h1,h2⟩
 .exact IntMulOk.of_left (Y9 aE aE)
 .exact IntMulOk.of_right (Y9 aE aE)
 .unfold IntMulOk;have q:=G9 h1;have J:=G9 h2;have:Builtin.Int.intTooBig ((Builtin.Int.intBits i:Int)+(Builtin.Int.intBits j:Int))=false:=by
   refine yv ?_;have:(2000:Int)<=bitsLine:=aQ
   lia
  simp[this]
theorem TM:ny X .Mult iR:=⟨rI kh λ i j=>.int (i*j),AW λ _ _ _ _ _ _ _ J q=>mul_int q J.ok,xU λ x y d e=>by
 obtain⟨i,j,rfl,rfl,e⟩:=rD e;obtain⟨h,rfl⟩:=bM e;exact iM _ _ rfl rfl h λ H=>gE H _⟩
def Mp(i j:Int):Prop:=lJ j=true
theorem Wq:ny X .FloorDiv mO:=⟨rI Mp λ i j=>.int (i.fdiv j),AW λ i j _ _ _ _ _ J q=>by
  unfold Mp lJ at J;simp only[ze,Z0]at J;refine floordiv_int J.1 q (.inl (PyProof.noPylong_of_log2 ?_));have O:j.natAbs≠0:=by have:=J.1;lia
  have:=(Nat.log2_lt O).mpr J.2
  lia,xU λ x y d e=>by
 obtain⟨i,j,rfl,rfl,e⟩:=rD e;obtain⟨h,rfl⟩:=bM e;exact iM _ _ rfl rfl h λ H=>gE H _⟩
theorem AK:ny X .Mod dZ:=⟨_,Tv,xU λ x y d e=>by
 obtain⟨i,j,rfl,rfl,e⟩:=rD e;obtain⟨h,rfl⟩:=bM e;exact iM _ _ rfl rfl h λ H=>gE H _⟩
theorem ca4:ny X .Pow zU:=⟨_,Xy,xU λ x y d e=>by
 obtain⟨i,j,rfl,rfl,e⟩:=rD e;obtain⟨h,rfl⟩:=bM e;exact iM _ _ rfl rfl ⟨h.1,by lia,h.2.2⟩ λ H=>gE H _⟩
def LW(K:Frag):R2:=λ x y H Q=>∃l b xs zs,x=.ref l/\y=.ref b/\dz K H l xs/\dz K H b zs/\xs.length+zs.length<=sizeLine/\∀p,H p=none->Q (.ref p) (upd H p (.l (xs++zs)))
theorem KP:d3 X (binaryOp .Add) (LW X.K):=by
 intro aA s L H x y v u Q I t w h;obtain⟨l,b,xs,zs,rfl,rfl,k,j,E,q⟩:=h;subst t;subst w;refine a_ (I.list k) λ O r p _=>?_;refine a_ (I.list j) λ J c f _=>?_;have D:=r.length;have C:=c.length;obtain⟨⟨i,dd,data,z⟩,a,m,n,hd⟩:=p.isList;obtain⟨⟨B,g,A,d⟩,Z,Y,o,hd2⟩:=f.isList;subst m hd Y hd2;have e:O.toArray++J.toArray=(O++J).toArray:=bP;refine concat_meets ⟨_,a,rfl⟩ ⟨_,Z,rfl⟩ noFill_list_add seq_list_add PySem.F.slot_list_add PySem.F.entry_list_add (PySem.F.args_list_add_2 _ _) (list_addW l b O.toArray J.toArray n o dd g z d (by grind)) ⟨a,Z,?_⟩;rw[e];exact cD (.ref _) _ (I.lnew (r.append c) (by grind)) rfl (q _ I.fresh)
def VB(K:Frag):R2:=λ x y H Q=>mm (λ i j=>.int (i+j)) x y H Q\/((∃i j,x=.str i/\y=.str j/\i.length+j.length<=sizeLine/\Q (.str (i++j)) H)\/LW K x y H Q)
theorem E_:ny X .Add c_:=⟨VB X.K,qV.or (jX.or KP),λ c H0 H U L x y d n r Q R O Y e q=>by
 cases x with
 |int i=>
  cases y with
  |int j=>
   obtain rfl:=aW e;exact .inl ⟨_,_,O,Y,q _ H0 H (aB.refl _) R (gE H0 _)⟩
  |_=>cases e
 |str i=>
  cases y with
  |str j=>
   obtain⟨h,rfl⟩:=bM e;exact .inr (.inl ⟨_,_,O,Y,h,q _ H0 H (aB.refl _) R (by rfl)⟩)
  |_=>cases e
 |l m=>
  cases y with
  |l es=>
   obtain⟨h,rfl⟩:=bM e;obtain⟨p,b,rfl,s,t⟩:=O;obtain⟨k,Z,rfl,l,a⟩:=Y;refine .inr (.inr ⟨p,k,b,Z,rfl,rfl,aB.seq R.same s,aB.seq R.same l,by rw[<-t.length,<-a.length];exact h,λ g f=>?_⟩);have S:=bY.alloc (o:=.l (b++Z)) R.same f;refine q _ _ _ S.s0 (R.after S) ?_;exact⟨g,_,rfl,.inl (.inl cF),aD.mono S.s0 _ (t.app a)⟩
  |_=>cases e
 |_=>cases e⟩
theorem Mq(ha:XE X a F):XE X (.UnaryOp .USub a pos) (e1 pQ F):=PE.wk (VD W_ ha) λ L H Q J=>by
 refine bN J λ c H0 U d j R f q=>?_;obtain⟨⟨x,O⟩,h1,f⟩:=aP f;obtain⟨k,h2,f⟩:=aP f;have Z:=f;cases Z;refine bG c H0 U x _ R h1 λ v H1 Y h b g=>?_;cases x with
 |int i=>
  have e:=qi h2;subst e;exact⟨i,g,q _ H1 Y h b (gE _ _)⟩
 |_=>cases h2
theorem zV:ki K (mm λ i j=>.b (p i j)) (vE p):=J9 λ x y d e=>by
 obtain⟨i,j,rfl,rfl,e⟩:=rD e;grind[lE]
theorem Mx:iI X .Lt l5:=⟨_,VH,zV⟩
theorem cLe:iI X .LtE oV:=⟨_,VI,zV⟩
theorem cGt:iI X .Gt nK:=⟨_,VJ,zV⟩
theorem cGe:iI X .GtE vN:=⟨_,ZS,zV⟩
theorem JG(r:aU K H x v):gP x=decide (v=.n):=by
 cases x with
 |n=>unfold aU at r;subst r;rfl
 |b b=>unfold aU at r;subst r;rfl
 |int b=>unfold aU at r;subst r;rfl
 |str b=>unfold aU at r;subst r;rfl
 |t c=>unfold aU at r;obtain⟨p,a,rfl,_⟩:=r;rfl
 |opq=>unfold aU at r;obtain⟨p,aI,rfl,_⟩:=r;rfl
 |c d a=>unfold aU at r;obtain⟨p,o,us,rfl,_⟩:=r;rfl
 |l c=>unfold aU at r;obtain⟨p,a,rfl,_⟩:=r;rfl
theorem Mu:iI X .Is oU:=⟨_,XB,λ c H0 H U L x y d a b Q R Y O e q=>by
 cases y with
 |n=>obtain rfl:=qi e;exact⟨O,by rw[<-JG Y];exact q _ H0 H (aB.refl _) R (lE _ _)⟩
 |_=>cases e⟩
theorem Co:iI X .IsNot kj:=⟨_,Tu,λ c H0 H U L x y d a b Q R Y O e q=>by
 cases y with
 |n=>obtain rfl:=qi e;exact⟨O,by rw[<-JG Y];exact q _ H0 H (aB.refl _) R (lE _ _)⟩
 |_=>cases e⟩
end
theorem tP:∀(ds es:aK),h7 ds es=((List.range (min ds.length es.length)).all (λ j=>cJ (ds.getD j .n) (es.getD j .n))&&ds.length==es.length)
 |[],[]=>by simp[h7]
 |[],e::es=>by simp[h7]
 |d::ds,[]=>by simp[h7]
 |d::ds,e::es=>by
  rw[h7,tP ds es];have h:min (d::ds).length (e::es).length=min ds.length es.length+1:=Nat.succ_min_succ ..;rw[h,List.range_succ_eq_map,Qr,List.all_map];have h2:((d::ds).length==(e::es).length)=(ds.length==es.length):=bP;rw[h2,Bool.and_assoc];rfl
theorem uc:∀{ds:aK}{n:Nat}{j:Nat}{d:D},gK ds<=n->ds[j]?=some d->dI d<=n:=by intro a;induction a<;>grind[QV]
section
variable{X:Cx}{aA:cK}{L:L2.St}{H:Hp}{s:Shared}
theorem WQ(hd:aD X.K H ds vs)(Z:aD X.K H es vs)(h:∀(j:Nat)(d e:D)(v:V),vs[j]?=some v->ds[j]?=some d->es[j]?=some e->aU X.K H d v->aU X.K H e v->cJ d e=true):h7 ds es=true:=by
 rw[tP];have f:=hd.length;have g:=Z.length;rw[ze,Yb];refine⟨λ j a=>?_,by simp;lia⟩;have q:j<ds.length:=by have:=List.mem_range.mp a;lia
 have J:j<es.length:=aE;obtain⟨v,O,b⟩:=hd.get (i:=j) (d:=ds[j]) (by simp[q]);obtain⟨k,Y,c⟩:=Z.get (i:=j) (d:=es[j]) (by simp[J]);rw[O]at Y;grind
theorem L4(I:aJ X aA L H s)(h:d7 X.K H a xs)(h':dz X.K H a ys):False:=by obtain⟨_,_,⟨o,e,c,_⟩,_⟩:=I.tuple h;obtain⟨_,_,⟨b,n,q,O,_⟩,_⟩:=I.list h';grind
theorem ce9(h:dI (.t ds)<1000):gK ds<999:=by rw[yl]at h;lia
theorem cf0(h:dI (.l ds)<1000):gK ds<999:=by rw[yA]at h;lia
theorem Lz(h:gK ds<999){j:Nat}(e:ds[j]?=some d):dI d<1000:=by
 have:=uc (n:=998) aE e
 lia
inductive Sh(X:Cx)(H:Hp)(s:Shared):D->V->Value->Prop
 |n:Sh X H s .n .n .none
 |b (b:Bool):Sh X H s (.b b) (.b b) (.bool b)
 |int (i:Int) (t:Tok):Sh X H s (.int i) (.int i) (.int i t)
 |str (x:Str) (t:Tok):Sh X H s (.str x) (.str x) (.str x t)
 |t {ds:aK}{p:Addr}{vs:b_}{its:bO} (s1:d7 X.K H p vs) (q:aD X.K H ds vs) (rv:aS vs its) (tp:IsTup s.heap p its.toArray) (z:gK ds<999):Sh X H s (.t ds) (.ref p) (.ref p)
 |l {ds:aK}{p:Addr}{vs:b_}{its:bO} (s1:dz X.K H p vs) (q:aD X.K H ds vs) (rv:aS vs its) (tp:s.heap.IsList p its.toArray) (z:gK ds<999):Sh X H s (.l ds) (.ref p) (.ref p)
theorem oE(I:aJ X aA L H s)(hz:dI d<1000)(r:aU X.K H d x)(w:aT x u):Sh X H s d x u:=by
 cases d with
 |opq=>exact absurd hz (by rw[WT];lia)
 |c g e=>exact absurd hz (by rw[WU];lia)
 |n=>unfold aU at r;subst r;cases(show u=Value.none from w);exact .n
 |b b=>unfold aU at r;subst r;cases(show u=Value.bool _ from w);exact .b b
 |int i=>unfold aU at r;subst r;obtain⟨t,rfl⟩:=w;exact .int i t
 |str i=>unfold aU at r;subst r;obtain⟨t,rfl⟩:=w;exact .str i t
 |t f=>
  obtain⟨p,e,rfl,a,q⟩:=r;cases(show u=Value.ref _ from w);refine a_ (I.tuple a) λ J O c _=>?_;exact .t a q O c (ce9 hz)
 |l f=>
  obtain⟨p,e,rfl,a,q⟩:=r;cases(show u=Value.ref _ from w);refine a_ (I.list a) λ J O c _=>?_;exact .l a q O c.isList (cf0 hz)
theorem vf(I:aJ X aA L H s)(go:∀{ds es:aK}{vs:b_}{J:bO},gK ds+1<=n->gK ds<999->gK es<999->aD X.K H ds vs->aD X.K H es vs->aS vs J->h7 ds es=true)(hn:dI d<=n)(hz1:dI d<1000)(hz2:dI e<1000)(r1:aU X.K H d v)(r2:aU X.K H e v)(w:aT v u):cJ d e=true:=by
  have k1:=oE I hz1 r1 w;have k2:=oE I hz2 r2 w;clear r1 r2 w hz1 hz2;cases k1 with
  |t a q Y h z=>cases k2 with
   |t O b g f c=>
    cases I.tuple_inj a O;rw[yl]at hn;exact go hn z c q b Y
   |l O=>exact(L4 I a O).elim
  |l a q Y h z=>cases k2 with
   |l O b g f c=>
    cases I.list_inj a O;rw[yA]at hn;exact go hn z c q b Y
   |t O=>exact(L4 I O a).elim
  |_=>cases k2;simp
theorem UP(I:aJ X aA L H s)(n:Nat):∀(d e:D)(v:V)(u:Value),dI d<=n->dI d<1000->dI e<1000->aU X.K H d v->aU X.K H e v->aT v u->cJ d e=true:=by
 induction n with
 |zero=>exact λ d e v u=>vf I (λ h=>nomatch h)
 |succ n g=>
  exact λ d e v u=>vf I λ f l m i k Y=>WQ i k λ j d e v c h1 h2 a b=>by
   obtain⟨u,_,w⟩:=Y.get c;exact g d e v u (uc (Nat.le_of_succ_le_succ f) h1) (Lz l h1) (Lz m h2) a b w
def B0(X:Cx)(H:Hp)(s:Shared)(n:Nat):Prop:=∀(A:Around)(d e:D)(x y:V)(u v:Value),dI d<=n->dI d<1000->dI e<1000->A.units+n<cLine->aU X.K H d x->aT x u->aU X.K H e y->aT y v->SeqAt.RcAt A s u v (cJ d e)
def xJ(X:Cx)(H:Hp)(s:Shared)(n:Nat):Prop:=∀(A:Around)(d e:D)(x y:V)(u v:Value),dI d<=n->dI d<1000->dI e<1000->A.units+n<cLine->aU X.K H d x->aT x u->aU X.K H e y->aT y v->SeqAt.EqAt A s u v (cJ d e)
theorem YJ(I:aJ X aA L H s)(rc:B0 X H s n):xJ X H s n:=by
 intro A d e x y u v l Y O k c i f j;have J:A.units<cLine:=aE;have Z:=rc A d e x y u v l Y O k c i f j;have one:x=y->cJ d e=true:=λ z=>UP I _ d e x u (qj _) Y O c (z▸f) i;have g:∀a b,x=.ref a->y=.ref b->u=.ref a->v=.ref b->SeqAt.EqAt A s u v (cJ d e):=λ a b h1 h2 o p=>by
  subst h1 h2 o p;by_cases h:a=b
  .rw[one (by rw[h]),h];exact .same _
  .exact .of_refs h Z
 have k1:=oE I Y c i;have k2:=oE I O f j;clear Z one c f i j Y O l rc k;cases k1 with
 |n=>cases k2;exact .same _;exact .none_bool _;exact .none_int _ _;exact .none_str _ _;exact .none_tuple ‹_› J;exact .none_list ‹_› J
 |b=>cases k2;exact .bool_none _;exact .bool_bool _ _;exact .bool_int _ _ _;exact .bool_str _ _ _;exact .bool_tuple _ ‹_› J;exact .bool_list _ ‹_› J
 |int=>cases k2;exact .int_none _ _;exact .int_bool _ _ _;exact .int_int _ _ _ _;exact .int_str _ _ _ _;exact .int_tuple _ _ ‹_› J;exact .int_list _ _ ‹_› J
 |str=>cases k2;exact .str_none _ _;exact .str_bool _ _ _;exact .str_int _ _ _ _;exact .str_str _ _ _ _;exact .str_tuple _ _ ‹_› J;exact .str_list _ _ ‹_› J
 |t t r m q=>cases k2;exact .tuple_none q J;exact .tuple_bool _ q J;exact .tuple_int _ _ q J;exact .tuple_str _ _ q J;exact g _ _ rfl rfl rfl rfl;exact g _ _ rfl rfl rfl rfl
 |l t r m q=>cases k2;exact .list_none q J;exact .list_bool _ q J;exact .list_int _ _ q J;exact .list_str _ _ q J;exact g _ _ rfl rfl rfl rfl;exact g _ _ rfl rfl rfl rfl
theorem IK{q:bO}(h:j<q.toArray.size):q[j]?=some q.toArray[j]:=by
 have h':j<q.length:=by simpa using h
 simp[h']
theorem x_{A:Around}(Y:xJ X H s n)(hn:gK ds<=n)(ac:gK ds<1000)(aa:gK es<1000)(hA:A.in1.units+n<cLine)(q1:aD X.K H ds vs)(q2:aD X.K H es J)(Z:aS vs q)(O:aS J its')(j:Nat)(h1:j<q.toArray.size)(h2:j<its'.toArray.size):SeqAt.EqAt A.in1 s q.toArray[j] its'.toArray[j] (cJ (ds.getD j .n) (es.getD j .n)):=by
 have o:=q1.length;have p:=q2.length;have r:=Z.length;have t:=O.length;have k1:j<ds.length:=by rw[zi]at h1;lia
 have k2:j<es.length:=by rw[zi]at h2;lia
 have e1:ds[j]?=some ds[j]:=by simp[k1]
 have e2:es[j]?=some es[j]:=by simp[k2]
 obtain⟨v,c,d⟩:=q1.get e1;obtain⟨m,e,f⟩:=q2.get e2;obtain⟨u,a,g⟩:=Z.get c;obtain⟨l,b,h⟩:=O.get e;rw[IK h1]at a;rw[IK h2]at b;have i:ds.getD j .n=ds[j]:=by simp[List.getD,k1]
 have k:es.getD j .n=es[j]:=by simp[List.getD,k2]
 rw[i,k,jh a,jh b];exact Y A.in1 ds[j] es[j] v m u l (uc hn e1) (by have z:=uc (n:=999) aE e1;lia) (by have z:=uc (n:=999) aE e2;lia) hA d g f h
theorem N9(I:aJ X aA L H s)(n:Nat)(ih:∀m,m<n->xJ X H s m):B0 X H s n:=by
 intro A d e x y u v f o l w h j i k;have J:A.units<cLine:=aE;have hi:=λ _=>by show A.units+1+(n-1)<cLine;omega
 have k1:=oE I o h j;have k2:=oE I l i k;clear h i j k;cases k1 with
 |n=>cases k2;exact .none_none;exact .none_bool _;exact .none_int _ _;exact .none_str _ _;exact .none_tuple ‹_› J;exact .none_list ‹_› J
 |b=>cases k2;exact .bool_none _;exact .bool_bool _ _;exact .bool_int _ _ _;exact .bool_str _ _ _;exact .bool_tuple _ ‹_› J;exact .bool_list _ ‹_› J
 |int=>cases k2;exact .int_none _ _;exact .int_bool _ _ _;exact .int_int _ _ _ _;exact .int_str _ _ _ _;exact .int_tuple _ _ ‹_› J;exact .int_list _ _ ‹_› J
 |str=>cases k2;exact .str_none _ _;exact .str_bool _ _ _;exact .str_int _ _ _ _;exact .str_str _ _ _ _;exact .str_tuple _ _ ‹_› J;exact .str_list _ _ ‹_› J
 |@t a p _ Y r Z O q t=>
  cases k2
  case t es p2 _ its2 s2 q2 rv2 tp2 z2=>
   rw[yl]at f;have z:=SeqAt.RcAt.tuples q tp2 J (x_ (ih (n-1) aE) aE aE aE (hi aE) Z q2 O rv2);rw[zi,zi,<-O.length,<-rv2.length,<-Z.length,<-q2.length]at z;rw[CW,tP];exact z
  exact .tuple_none q J;exact .tuple_bool _ q J;exact .tuple_int _ _ q J;exact .tuple_str _ _ q J;exact .tuple_list q ‹_› J
 |@l a p _ Y r Z O q t=>
  cases k2
  case l es p2 _ its2 s2 q2 rv2 tp2 z2=>
   rw[yA]at f;have c:Y.toArray.size=a.length:=by rw[zi,<-O.length,<-Z.length]
   have g:its2.toArray.size=es.length:=by rw[zi,<-rv2.length,<-q2.length]
   rw[CY,tP];by_cases b:a.length=es.length
   .have z:=SeqAt.RcAt.lists q tp2 (by rw[c,g];exact b) J (x_ (ih (n-1) aE) aE aE aE (hi aE) Z q2 O rv2);rw[c]at z;grind
   .rw[show(a.length==es.length)=false by simp[b],Zz];exact .lists_lengths q tp2 (by rw[c,g];simp[b]) J
  exact .list_none q J;exact .list_bool _ q J;exact .list_int _ _ q J;exact .list_str _ _ q J;exact .list_tuple q ‹_› J
theorem Ck(I:aJ X aA L H s)(n:Nat):xJ X H s n:=by
 induction n using Nat.strongRecOn with
 |ind n q=>exact YJ I (N9 I n q)
theorem rcN(I:aJ X aA L H s)(n:Nat):B0 X H s n:=N9 I n λ m _=>Ck I m
def Ll(K:Frag):R2:=λ x y H Q=>∃d e,aU K H d x/\aU K H e y/\dI d<=30/\dI e<=30/\Q (.b (cJ d e)) H
theorem XF(Z:X.A.units+64<cLine):d3 X (compareOp .Eq) (Ll X.K):=by
 intro aA s L H x y v u Q I J Y h;refine pj h λ d e a O hd hd2 q=>?_;exact rcN I 30 X.A d e x y v u hd aE aE aE a J O Y X.p X.w X.xe _ ⟨.b _,H,I,rfl,q⟩
theorem VT{K:Frag}:ki K (Ll K) jF:=λ c H0 H U L x y d Z a Q R O Y e q=>by
 unfold jF at e;split at e
 .rename_i hd;obtain rfl:=aW e;exact⟨x,y,aU.mono R.same x O,aU.mono R.same y Y,hd.1,hd.2,q _ H0 H (aB.refl _) R (lE _ _)⟩
 .simp at e
theorem oQ(q:X.A.units+64<cLine):iI X .Eq jF:=⟨_,XF q,VT⟩
theorem neN(I:aJ X aA L H s)(n:Nat)(A:Around)(d e:D)(x y:V)(u v:Value)(hn:dI d<=n)(ac:dI d<1000)(aa:dI e<1000)(hA:A.units+n<cLine)(r1:aU X.K H d x)(w1:aT x u)(r2:aU X.K H e y)(w2:aT y v):SeqAt.RcNeAt A s u v (!cJ d e):=by
 have J:A.units<cLine:=aE;have hi:=λ _=>by show A.units+1+(n-1)<cLine;omega
 have k1:=oE I ac r1 w1;have k2:=oE I aa r2 w2;clear r1 r2 w1 w2;cases k1 with
 |n=>cases k2;exact .none_none;exact .none_bool _;exact .none_int _ _;exact .none_str _ _;exact .none_tuple ‹_› J;exact .none_list ‹_› J
 |b=>cases k2;exact .bool_none _;exact .bool_bool _ _;exact .bool_int _ _ _;exact .bool_str _ _ _;exact .bool_tuple _ ‹_› J;exact .bool_list _ ‹_› J
 |int=>cases k2;exact .int_none _ _;exact .int_bool _ _ _;exact .int_int _ _ _ _;exact .int_str _ _ _ _;exact .int_tuple _ _ ‹_› J;exact .int_list _ _ ‹_› J
 |str=>cases k2;exact .str_none _ _;exact .str_bool _ _ _;exact .str_int _ _ _ _;exact .str_str _ _ _ _;exact .str_tuple _ _ ‹_› J;exact .str_list _ _ ‹_› J
 |@t a g _ Y h Z O q i=>
  cases k2
  case t es p2 _ its2 s2 q2 rv2 tp2 z2=>
   rw[yl]at hn;have z:=SeqAt.RcNeAt.tuples q tp2 J (x_ (Ck I (n-1)) aE aE aE (hi aE) Z q2 O rv2);rw[zi,zi,<-O.length,<-rv2.length,<-Z.length,<-q2.length]at z;rw[CW,tP];exact z
  exact .tuple_none q J;exact .tuple_bool _ q J;exact .tuple_int _ _ q J;exact .tuple_str _ _ q J;exact .tuple_list q ‹_› J
 |@l a g _ Y h Z O q i=>
  cases k2
  case l es p2 _ its2 s2 q2 rv2 tp2 z2=>
   rw[yA]at hn;have c:Y.toArray.size=a.length:=by rw[zi,<-O.length,<-Z.length]
   have f:its2.toArray.size=es.length:=by rw[zi,<-rv2.length,<-q2.length]
   rw[CY,tP];by_cases b:a.length=es.length
   .have z:=SeqAt.RcNeAt.lists q tp2 (by rw[c,f];exact b) J (x_ (Ck I (n-1)) aE aE aE (hi aE) Z q2 O rv2);rw[c]at z;grind
   .rw[show(a.length==es.length)=false by simp[b],Zz];exact .lists_lengths q tp2 (by rw[c,f];simp[b]) J
  exact .list_none q J;exact .list_bool _ q J;exact .list_int _ _ q J;exact .list_str _ _ q J;exact .list_tuple q ‹_› J
def Lh(K:Frag):R2:=λ x y H Q=>∃d e,aU K H d x/\aU K H e y/\dI d<=30/\dI e<=30/\Q (.b (!cJ d e)) H
theorem Xz(Z:X.A.units+64<cLine):d3 X (compareOp .NotEq) (Lh X.K):=by
 intro aA s L H x y v u Q I J Y h;refine pj h λ d e a O hd hd2 q=>?_;exact neN I 30 X.A d e x y v u hd aE aE aE a J O Y X.p X.w X.xe _ ⟨.b _,H,I,rfl,q⟩
theorem VO{K:Frag}:ki K (Lh K) ly:=λ c H0 H U L x y d Z a Q R O Y e q=>by
 unfold ly at e;split at e
 .rename_i hd;obtain rfl:=aW e;exact⟨x,y,aU.mono R.same x O,aU.mono R.same y Y,hd.1,hd.2,q _ H0 H (aB.refl _) R (lE _ _)⟩
 .simp at e
theorem cNe(q:X.A.units+64<cLine):iI X .NotEq ly:=⟨_,Xz q,VO⟩
end
section
variable{X:Cx}
def i_(X:Cx)(f:Value)(g:aK->Option D):Prop:=∃r,bL X f r/\∀(c:FC)(H0 H:Hp)(U:En)(L:L2.St)(ds:aK)(d:D)(vs:b_)(Q:VK),RS X.K c H0 H U L->aD X.K H0 ds vs->g ds=some d->Bh X.K c H0 U L d Q->r vs H Q
theorem Mj(o:∀(c:FC)(H0 H:Hp)(U:En)(L:L2.St)(ds:aK)(d:D)(vs:b_)(Q:VK),RS X.K c H0 H U L->aD X.K H0 ds vs->g ds=some d->Bh X.K c H0 U L d Q->r vs H Q)(h:tE X.K (eF g A) L H Q):FR r (Oj X.K A) L H Q:=by
 refine bN h λ c H0 U d j R f q=>?_;obtain⟨⟨ds,J⟩,h1,f⟩:=aP f;obtain⟨k,h2,f⟩:=aP f;have Y:=f;cases Y;exact bG c H0 U ds _ R h1 λ vs H1 O e Z a=>o c H1 O _ L ds d vs Q Z a h2 λ v H2 cV i R2 b=>q v H2 cV (e.trans i) R2 b
theorem xB{id:String}(o:i_ X (.builtin id) g)(Z:Gl X x)(O:X.mg x=none)(Y:bootBuiltins x=some (.builtin id))(ha:XA X (e::es) A)(hn:x≠"__name__":=by decide)(J:df x:=by decide)(he:iX X e es:=by rfl)(q:iD X pos es:=by rfl):XE X (.Call (.Name x p) (e::es) [] pos) (eF g A):=by
 obtain⟨r,h1,h2⟩:=o;exact PE.wk (AQ h1 Z O Y ha hn J he q) λ L H Q h=>Mj h2 h
theorem aD.v1{K:Frag}(h:aD K H [d] vs):∃v,vs=[v]/\aU K H d v:=by grind[aD]
theorem aD.v2{K:Frag}(h:aD K H [d,d'] vs):∃v q,vs=[v,q]/\aU K H d v/\aU K H d' q:=by grind[aD]
theorem SE(h:kM ds=some d):∃i,ds=[.int i]/\d=.int (if i<0 then -i else i):=match ds,h with|[.int _],h=>⟨_,rfl,(jh h).symm⟩
theorem Hq:i_ X (.builtin "abs") kM:=⟨_,Sy,λ c H0 H U L a d b Q R r e q=>by
 obtain⟨i,rfl,rfl⟩:=SE e;obtain⟨v,rfl,J⟩:=aD.v1 r;subst J;exact⟨i,rfl,q _ H0 H (aB.refl _) R (gE _ _)⟩⟩
theorem BV{K:Frag}:∀{ds:aK}{is:ed}{vs:b_},rF ds=some is->aD K H ds vs->vs=is.map V.int
 |[],_,_,e,r=>by
  have q:=qi e;rw[r,<-q];rfl
 |d::ds,_,_,e,r=>by
  cases d with
  |int i=>
   rw[TY]at e;obtain⟨is,e1,e2⟩:=aP e;obtain rfl:=aW e2;obtain⟨v,J,rfl,a,t⟩:=r;rw[a,BV e1 t];rfl
  |_=>cases e
theorem fv:∀{is:ed}{us:bO},aS (is.map V.int) us->IntsAre us is:=by
 intro is;induction is with
 |nil=>intro us h;cases h;exact .nil
 |cons b r q=>
  intro us h;cases h with
  |cons a t=>obtain⟨c,rfl⟩:=(show ∃t,_=Value.int b t from a);exact .cons b c (q t)
theorem QP:∀(r:ed)(m:Int),(mQ m r=m\/mQ m r∈r)/\mQ m r<=m/\∀a∈r,mQ m r<=a:=by intro b;induction b<;>grind[mQ]
theorem QQ:∀(r:ed)(m:Int),(mR m r=m\/mR m r∈r)/\m<=mR m r/\∀a∈r,a<=mR m r:=by intro b;induction b<;>grind[mR]
theorem U7(h:M∈i::r)(h':∀a∈i::r,M<=a):M=mQ i r:=by grind[QP]
theorem U_(h:M∈i::r)(h':∀a∈i::r,a<=M):M=mR i r:=by grind[QQ]
theorem Rn(hc:X.c=true):bL X (.builtin "min") (λ xs H Q=>∃(p:Addr)(i:Int)(r:ed),xs=[.ref p]∧dz X.K H p ((i::r).map V.int)∧Q (.int (mQ i r)) H):=by
 intro aA s L H xs us Q I r h;obtain⟨l,i,is,rfl,f,q⟩:=h;obtain⟨u,rfl,m⟩:=ic r;subst m;obtain⟨o,n,k,w⟩:=I.list f;have hi:=fv n;have O:=k.isList;obtain⟨ys,e⟩:=hi.allInts.items;have J:i::is=ys.toList.map (·.1):=by rw[<-hi.numsOf,<-nums_intItems,<-e]
 have b:0<ys.size:=by have Y:0<(i::is).length:=Zp _;rw[J,qx,zd]at Y;exact Y
 rw[e]at O;refine min_intList (I.ok.hd hc) O b λ v h' x g d=>?_;obtain⟨t,rfl⟩:=intItems_at g;obtain⟨h1,h2⟩:=argBest_lt (numAt ys) (ys.size-1);refine⟨_,H,I.kept d,?_,q⟩;have:numAt ys (argBest (λ i j=>decide (numAt ys i<numAt ys j)) (ys.size-1))=mQ i is:=U7 (by rw[J,numAt_eq];exact getD_mem (by rw[qx,zd];lia)) λ a Z=>by
  rw[J]at Z;obtain⟨j,c,rfl⟩:=mem_getD Z;rw[qx,zd]at c;rw[<-numAt_eq];exact h2 j aE
 rw[this];exact⟨_,rfl⟩
theorem Rp(hc:X.c=true):bL X (.builtin "max") (λ xs H Q=>∃(p:Addr)(i:Int)(r:ed),xs=[.ref p]∧dz X.K H p ((i::r).map V.int)∧Q (.int (mR i r)) H):=by
 intro aA s L H xs us Q I r h;obtain⟨l,i,is,rfl,f,q⟩:=h;obtain⟨u,rfl,m⟩:=ic r;subst m;obtain⟨o,n,k,w⟩:=I.list f;have hi:=fv n;have O:=k.isList;obtain⟨ys,e⟩:=hi.allInts.items;have J:i::is=ys.toList.map (·.1):=by rw[<-hi.numsOf,<-nums_intItems,<-e]
 have b:0<ys.size:=by have Y:0<(i::is).length:=Zp _;rw[J,qx,zd]at Y;exact Y
 rw[e]at O;refine max_intList (I.ok.hd hc) O b λ v h' x g d=>?_;obtain⟨t,rfl⟩:=intItems_at g;obtain⟨h1,h2⟩:=argBest_gt (numAt ys) (ys.size-1);refine⟨_,H,I.kept d,?_,q⟩;have:numAt ys (argBest (λ i j=>decide (numAt ys i>numAt ys j)) (ys.size-1))=mR i is:=U_ (by rw[J,numAt_eq];exact getD_mem (by rw[qx,zd];lia)) λ a Z=>by
  rw[J]at Z;obtain⟨j,c,rfl⟩:=mem_getD Z;rw[qx,zd]at c;rw[<-numAt_eq];exact h2 j aE
 rw[this];exact⟨_,rfl⟩
theorem bL.or(h:bL X f r)(h':bL X f q):bL X f (λ xs H Q=>r xs H Q\/q xs H Q):=by grind[bL]
theorem Iu(h:D7 f is=some d):∃i r,is=i::r/\d=.int (f i r):=by
 cases is with
 |nil=>cases h
 |cons i r=>obtain rfl:=aW h;grind
theorem T4(J:X.c=true):i_ X (.builtin "max") nG:=⟨_,(Rq J).or (Rp J),λ c H0 H U L b d g Q R r e q=>by
 unfold nG at e;split at e
 .obtain rfl:=aW e;obtain⟨v,f,rfl,a,O⟩:=aD.v2 r;subst a O;exact .inl ⟨_,_,rfl,q _ H0 H (aB.refl _) R (gE _ _)⟩
 .obtain⟨is,e1,e2⟩:=aP e;obtain⟨i,is,rfl,rfl⟩:=Iu e2;obtain⟨v,rfl,Y⟩:=aD.v1 r;obtain⟨p,Z,rfl,s,t⟩:=Y;have:=BV e1 t;subst this;exact .inr ⟨p,i,is,rfl,aB.seq R.same s,q _ H0 H (aB.refl _) R (gE _ _)⟩
 .simp at e⟩
theorem Ru(J:X.c=true):i_ X (.builtin "min") oP:=⟨_,(Ro J).or (Rn J),λ c H0 H U L b d g Q R r e q=>by
 unfold oP at e;split at e
 .obtain rfl:=aW e;obtain⟨v,f,rfl,a,O⟩:=aD.v2 r;subst a O;exact .inl ⟨_,_,rfl,q _ H0 H (aB.refl _) R (gE _ _)⟩
 .obtain⟨is,e1,e2⟩:=aP e;obtain⟨i,is,rfl,rfl⟩:=Iu e2;obtain⟨v,rfl,Y⟩:=aD.v1 r;obtain⟨p,Z,rfl,s,t⟩:=Y;have:=BV e1 t;subst this;exact .inr ⟨p,i,is,rfl,aB.seq R.same s,q _ H0 H (aB.refl _) R (gE _ _)⟩
 .simp at e⟩
noncomputable def A4:Ty->String
 |.int=>"int"| .bool=>"bool"| .str=>"str"| .tuple=>"tuple"| .list=>"list"
noncomputable def A5(d:D):Value:=match d with
 |.n=>.type "NoneType"| .b _=>.type "bool"| .int _=>.type "int"| .str _=>.type "str"| .t _=>.type "tuple"| .l _=>.type "list"| .opq=>.type "dict"| .c _ _=>.type "dict"
theorem cz7(K:Frag)(t:Ty)(d:D):PySem.W.kitOne K (A5 d) (.type (A4 t))=some (l0 t d):=by cases t<;>cases d<;>rfl
theorem cr8(t:Ty):bL X (.builtin "isinstance") (λ xs H Q=>∃d x,xs=[x,.ty (A4 t)]∧aU X.K H d x∧Q (.b (l0 t d)) H):=by
 intro aA s L H xs us Q I r h;obtain⟨d,x,rfl,Y,q⟩:=h;obtain⟨u,w,rfl,Z,l⟩:=yQ r;cases(show w=Value.type _ from l);have k:=cz7 X.K t d;have O:∀f,EP X aA L Q (.bool (l0 t d)) {s with toks:=f}:=λ f=>⟨.b _,H,I.tok f,rfl,q⟩
 cases d with
 |n=>unfold aU at Y;subst Y;cases(show u=Value.none from Z);exact jg PySem.W.kitx_none I.kIn Qh k (λ z=>nomatch z) O
 |b y=>unfold aU at Y;subst Y;cases(show u=Value.bool y from Z);exact jg PySem.W.kitx_bool I.kIn Qh k (λ z=>nomatch z) O
 |int i=>unfold aU at Y;subst Y;obtain⟨t,z⟩:=(show ∃t,u=Value.int i t from Z);subst z;exact jg PySem.W.kitx_int I.kIn Qh k (λ z=>nomatch z) O
 |str y=>unfold aU at Y;subst Y;obtain⟨t,z⟩:=(show ∃t,u=Value.str y t from Z);subst z;exact jg PySem.W.kitx_str I.kIn Qh k (λ z=>nomatch z) O
 |t j=>
  unfold aU at Y;obtain⟨a,g,rfl,e,_⟩:=Y;cases(show u=Value.ref a from Z);obtain⟨_,_,⟨o,h1,h2,_⟩,_⟩:=I.tuple e;exact jg PySem.W.kitx_tuple I.kIn ⟨o,h1,h2⟩ k (λ z=>nomatch z) O
 |c p j=>
  unfold aU at Y;obtain⟨a,ob,us,rfl,b,_⟩:=Y;cases(show u=Value.ref a from Z);obtain⟨_,_,_,g,_,c⟩:=(show bC X.p X.w H s.heap a (.frz ob (.dK _))from I.hok a _ b);refine eU c λ o es m h1 h2 _=>?_;exact jg PySem.W.kitx_dict I.kIn ⟨o,h1,h2.1⟩ k (λ z=>nomatch z) O
 |opq=>
  unfold aU at Y;obtain⟨a,aI,rfl,b⟩:=Y;cases(show u=Value.ref a from Z);obtain⟨_,_,g,_,c⟩:=(show bC X.p X.w H s.heap a (.dK aI)from I.hok a _ b);refine eU c λ o es m h1 h2 _=>?_;exact jg PySem.W.kitx_dict I.kIn ⟨o,h1,h2.1⟩ k (λ z=>nomatch z) O
 |l j=>
  unfold aU at Y;obtain⟨a,g,rfl,e,_⟩:=Y;cases(show u=Value.ref a from Z);obtain⟨_,_,⟨o,n,h1,h2,_⟩,_⟩:=I.list e;exact jg PySem.W.kitx_list I.kIn ⟨o,h1,h2⟩ k (λ z=>nomatch z) O
theorem A9{t:Ty}{T:Str}{p J pos:Pos}{e:Expr}{F:FE}(hi:X.mg "isinstance"=none)(hm:X.mg T=none)(hT:bootBuiltins T=some (.type (A4 t)))(ha:XE X e F)(hg:Gl X "isinstance":=by rfl)(Y:Gl X T:=by rfl)(hn:T≠"__name__":=by decide)(hd:df T:=by decide)(hs:starEach [e,.Name T J] X.v=(false,eval e X.v)::starEach [.Name T J] X.v:=by rfl)(Z:starEach [.Name T J] X.v=[(false,eval (.Name T J) X.v)]:=by rfl)(aa:(backTo pos (starEach [.Name T J] X.v)).any (·.1)=false:=by rfl):XE X (.Call (.Name "isinstance" p) [e,.Name T J] [] pos) (qI t F):=
 PE.wk (AQ (cr8 t) hg hi PyProof.Rows.boot_isinstance (iA ha (iA (Tp (v:=.ty (A4 t)) Y hm hT rfl hn hd) lB Z) hs) aQ aQ hs aa) λ L H Q O=>by
  refine bN O λ c H0 U d a R f q=>?_;unfold qI at f;obtain⟨⟨x,h⟩,h1,f⟩:=aP f;have i:some (D.b (l0 t x),h)=some (d,a):=f;cases i;exact bG c H0 U x _ R h1 λ v H1 g k b j=>⟨x,v,rfl,aU.mono b.same x j,q _ H1 g k b (lE _ _)⟩
def qY(K:Frag)(g:aK->Option D):Sp:=λ vs H Q _=>∃q ds d,aB q H/\aD K q ds vs/\g ds=some d/\∀v dH H',bY q H dH H'->aU K dH d v->Q v H'
structure aL(P:Program)(w:World)(K:Frag)(mg:Str->Option Value)(base:Heap)(k:Nat)(x:Str)(g:aK->Option D):Prop where
 ex:∃f fd ps,cR P w K mg base fX k f fd ps (qY K g)/\dE K fd ps []/\keepIn K (.ref f)=true/\mg x=some (.ref f)
theorem xF{k:Nat}{x:Str}{g:aK→fN}{A:FA}{p pos:Pos}{e:Expr}{es:e_}(G:aL X.p X.w X.K X.mg X.base k x g)(hr:bJ k X.A)(ha:XA X (e::es) A)(hg:Gl X x)(Z:df x)(he:iX X e es)(O:iD X pos es):XE X (.Call (.Name x p) (e::es) [] pos) (eF g A):=by
 refine dN G.ex λ f u ps F j l m=>?_;refine PE.wk (uC F hr hg m l j .nil uX ha Z he O) λ L H Q J=>?_;refine bN J λ c H0 U d a R z q=>?_;unfold eF at z;obtain⟨⟨h,Y⟩,h1,z⟩:=aP z;obtain⟨i,h2,z⟩:=aP z;have s:some (i,Y)=some (d,a):=z;cases s;exact bG c H0 U h _ R h1 λ y H1 t r b n=>⟨H1,h,d,b.same,by rw[yd];exact n,h2,λ v dH H' S o=>q v dH H' (r.trans S.s0) (b.after S) o⟩
end
def oh(K:Frag)(J:It)(H1:Hp)(xs:aK):Prop:=∀(H0 H:Hp)(i:Nat),aB H1 H0->aB H0 H->(∀d,xs[i]?=some d->J.go i H/\∀x H',J.yld i H x H'->H'=H/\aU K H0 d x)/\(xs.length<=i->J.stop i H)
theorem Tw{K:Frag}(rd:dz K H1 a vs)(r:aD K H1 xs vs):oh K (xQ K a) H1 xs:=λ H0 H i s s'=>by
 have q:=aB.seq (s.trans s') rd;refine⟨λ d e=>?_,λ h=>⟨vs,q,by rw[<-r.length];exact h⟩⟩;obtain⟨v,e1,e2⟩:=r.get e;refine⟨⟨vs,v,q,e1⟩,λ x H'⟨h1,h2⟩=>⟨h1,?_⟩⟩;have:=h2 vs q;rw[e1]at this;obtain rfl:=aW this;exact aU.mono s d e2
theorem Ud{K:Frag}(rd:d7 K H1 a vs)(r:aD K H1 xs vs):oh K (BF K a) H1 xs:=λ H0 H i s s'=>by
 have q:=aB.seqT (s.trans s') rd;refine⟨λ d e=>?_,λ h=>⟨vs,q,by rw[<-r.length];exact h⟩⟩;obtain⟨v,e1,e2⟩:=r.get e;refine⟨⟨vs,v,q,e1⟩,λ x H'⟨h1,h2⟩=>⟨h1,?_⟩⟩;have:=h2 vs q;grind[e1,aU.mono,aU,e2]
theorem O6:∀(n:Nat)(lo:Int),(fQ lo n).length=n:=by intro a;induction a<;>grind[fQ]
theorem J5:∀(n:Nat)(lo:Int)(i:Nat)(d:D),(fQ lo n)[i]?=some d->d=.int (lo+i)/\i<n
 |0,lo,i,d,h=>by simp[fQ]at h
 |n+1,lo,0,d,h=>by
  simp[fQ]at h;exact⟨by rw[<-h];simp,by lia⟩
 |n+1,lo,i+1,d,h=>by
  have h':(fQ (lo+1) n)[i]?=some d:=by simpa [fQ]using h
  obtain⟨a,b⟩:=J5 n (lo+1) i d h';refine⟨by rw[a];congr 1;push_cast;lia,by lia⟩
theorem Ug{K:Frag}(lo:Int)(n:Nat):oh K (xR lo n) H1 (fQ lo n):=λ H0 H i s s'=>by
 refine⟨λ d e=>?_,λ h=>by rw[O6]at h;exact h⟩;obtain⟨rfl,hi⟩:=J5 n lo i d e;refine⟨hi,λ x H'⟨h1,h2⟩=>⟨h1,?_⟩⟩;exact h2
def BE(z:Str):It:=⟨λ i _=>i<z.cps.size,λ i H x H'=>H'=H/\∃c,z.cps[i]?=some c/\x=.str (jO c),λ i _=>z.cps.size<=i⟩
theorem J1{K:Frag}(z:Str)(t:Tok)(it:Addr)(hn:["enumerate","zip","dict_itemiterator","dict_reverseitemiterator","odict_iterator","itertools.zip_longest","itertools.pairwise"].contains n=false)(W:∀A:Around,A.handled=none->Walks P w A it [it] [it] z.cps.size (SignAt z) (λ i h=>h.IsStrIter it n z t i))(fin:∀(A:Around)(s:Shared)(i:Nat)(Q:kC->Shared->Prop)(E:c8),A.handled=none->s.heap.IsStrIter it n z t i->z.cps[i]?=none->(∀h',Heap.ExtBut it s.heap h'->Q none {s with heap:=h'})->wpAny (model P w) A (pyNext (.ref it)) Q E s)(aa:∀(A:Around)(i:Nat)(s:Shared)(Q:c8)(E:c8),s.heap.IsStrIter it n z t i->Q (.ref it) s->wpAny (model P w) A (pyIter (.ref it)) Q E s):gX P w K tg (BE z) [it] it (λ i h=>h.IsStrIter it n z t i)where
 mem:=bP
 obj:=λ i h st b q=>by
  have e:b=it:=by simpa using q
  subst e;refine a_ st λ o e c d=>?_;exact⟨o,e,λ v z=>by rw[d]at z;simp at z⟩
 keep:=λ i h h' st k=>let ⟨o,e,r⟩:=st;⟨o,k it bP o e,r⟩
 item:=by
  intro X p y m x i aA s L H E I Y st J;subst p y m;refine fY (Y it bP) λ a f F g j Z=>?_;refine(W X.A (I.ok.hd x)).item i s _ _ J st λ v h' σ G O kk=>?_;refine dt G λ B u e1 l=>?_;obtain rfl:=l;have C:aJ X aA L H {s with heap:=h',toks:=σ}:=I.turned (λ b o q e=>kk b o (by simpa using q) e) a f g j Z;refine a_ (id O) λ o e c d=>?_;exact⟨_,rfl,uS e c d hn ⟨.str (jO B),H,C,⟨u,rfl⟩,⟨rfl,B,e1,rfl⟩,O,λ b q=>(Y b q).1⟩⟩
 done:=by
  intro X p y m x i aA s L H E I Y st J;subst p y m;refine fY (Y it bP) λ a f F g j Z=>?_;have J:z.cps.size<=i:=J;exact fin X.A s i _ _ (I.ok.hd x) st (by simp[J]) λ h' D=>⟨rfl,I.turned (λ b o q e=>D b o q e) a f g j Z⟩
 self:=λ A i s Q E st h=>aa A i s Q E st h
def Lq(t:TE):TI:=λ L H R=>t L H λ x H1=>∃z,x=.str z/\R (BE z) H1
def NH(K:Frag)(t:TE):TI:=λ L H R=>L_ K t L H R\/Lp K t L H R\/Lq t L H R
theorem Xq(hl:PE X l tl):PI X tg l (Lq tl):=by
 intro aA s L H R I h;refine bT (hl aA s L H _ I h) λ v a=>eJ λ x H1 O g f=>?_;obtain⟨z,e,q⟩:=f;subst e;obtain⟨t,rfl⟩:=g;have c:∀(o:Obj),∀b∈[a.heap.n],eA X aA H1 b:=λ o b d=>by
  have e:b=a.heap.n:=by simpa using d
  subst e;exact O.fpOk (qj _) (O.hok.fresh (qj _))
 cases Z:z.cps.all (·<128)
 .refine wpAny_pyIter_wide Z ?_;exact⟨a.heap.n,[a.heap.n],_,_,H1,rfl,O.kept λ b o e=>qd _ e,J1 z t _ aQ (λ A J=>Walks.strWide J _ z t) (λ A s i Q E J st hx Y=>wpAny_pyNext_wide_end J st hx Y) (λ _ _ _ _ _ st h=>wpAny_pyIter_striter_wide st h),⟨_,qk _ rfl,rfl,rfl⟩,c {cls:=.none,data:=.fields #[]},q⟩
 .refine wpAny_pyIter_ascii Z ?_;exact⟨a.heap.n,[a.heap.n],_,_,H1,rfl,O.kept λ b o e=>qd _ e,J1 z t _ aQ (λ A J=>Walks.strAscii J _ z t) (λ A s i Q E J st hx Y=>wpAny_pyNext_ascii_end J st hx Y) (λ _ _ _ _ _ st h=>wpAny_pyIter_striter_ascii st h),⟨_,qk _ rfl,rfl,rfl⟩,c {cls:=.none,data:=.fields #[]},q⟩
theorem Ue{K:Frag}(z:Str):oh K (BE z) H1 (lZ z):=λ H0 H i s s'=>by
 have q:(lZ z).length=z.cps.size:=by unfold lZ;rw[qx,zd]
 refine⟨λ d e=>?_,λ h=>by rw[q]at h;exact h⟩;have hi:i<z.cps.size:=by rw[<-q];exact(fC.mp e).1
 refine⟨hi,λ x H'⟨h1,a,h2,O⟩=>⟨h1,?_⟩⟩;unfold lZ at e;rw[zl,je,h2]at e;have J:=qi e;subst J;exact O
theorem vg(q:PE X l tl):PI X tg l (NH X.K tl):=λ aA s L H R I h=>by
 rcases h with h|h|h
 .exact CN q aA s L H R I h
 .exact Xp q aA s L H R I h
 .exact Xq q aA s L H R I h
theorem wu{K:Frag}(Y:RS K c H0 H U L)(f:F U=some (d,ρ'))(hx:items d=some xs)(h:∀J H1 q,aB H0 H1->RS K c H1 q ρ' L->oh K J H1 xs->R J q):NH K (tE K F) L H R:=by
 cases d with
 |l j=>
  have e:=qi hx;subst e;refine .inl ⟨c,H0,U,_,ρ',Y,f,λ v H1 q g O b=>?_⟩;obtain⟨a,i,rfl,rd,r⟩:=b;exact fj a rfl ⟨i,aB.seq O.same rd⟩ (h _ H1 q g O (Tw rd r))
 |t j=>
  have e:=qi hx;subst e;refine .inr (.inl ⟨c,H0,U,_,ρ',Y,f,λ v H1 q g O b=>?_⟩);obtain⟨a,i,rfl,rd,r⟩:=b;exact fj a rfl ⟨i,aB.seqT O.same rd⟩ (h _ H1 q g O (Ud rd r))
 |str z=>
  have e:=qi hx;subst e;refine .inr (.inr ⟨c,H0,U,_,ρ',Y,f,λ v H1 q g O b=>?_⟩);exact⟨z,b,h _ H1 q g O (Ue z)⟩
 |_=>cases hx
theorem Ki:∀{js:d0}{fr:En},h6 U js=some fr->fr.length=js.length/\∀(k:Nat)(s:Sl),fr[k]?=some s->∃j d,js[k]?=some j/\U[j]?=some (.i d)/\s=.i d
 |[],_,h=>by
  have h':=qi h;subst h';exact⟨rfl,λ k s e=>by simp at e⟩
 |j::js,_,h=>by
  rw[QZ]at h;obtain⟨s,h1,h⟩:=aP h;obtain⟨r,h2,h⟩:=aP h;obtain rfl:=aW h;obtain⟨a,b⟩:=Ki h2;refine⟨by rw[zg,zg,a],λ k s' e=>?_⟩;cases k with
  |zero=>
   simp at e;subst e;cases z:U[j]? with
   |none=>rw[z]at h1;cases h1
   |some O=>
    rw[z]at h1;cases O with
    |i d=>exact cD j d rfl z ((qi h1).symm)
    |_=>cases h1
  |succ k=>
   refine cM (b k s' (by simpa using e)) λ Z d Y q J=>?_;exact cD Z d (by simpa using Y) q J
theorem RS.block{K:Frag}(R:RS K c H0 H U L)(Z:h6 U js=some fr)(O:aU K H0 d x):RS K ⟨H0,H,[]⟩ H0 H (.i d::fr) (some x::g8 L js):=by
 obtain⟨l,g⟩:=Ki Z;refine⟨R.same,aB.refl _,λ b o e=>.inl e,λ b o e _=>e,λ a h=>(by simp at h),?_,λ i f e=>?_,λ i b o e=>?_,λ i j b r o s a e=>?_⟩
 .rw[zg,zg,l,g8,qx]
 .cases i with
  |zero=>simp at e;subst e;exact⟨x,rfl,O⟩
  |succ k=>
   refine cM (g k _ (by simpa using e)) λ j J m Y q=>?_;cases q;obtain⟨v,n,p⟩:=R.im j f Y;refine⟨v,?_,p⟩;show(g8 L js)[k]?=some (some v);unfold g8;rw[zl,m];show some (L[j]?).join=some (some v);rw[n];rfl
 .cases i with
  |zero=>simp at e
  |succ k=>
   refine cM (g k _ (by simpa using e)) λ j J _ _ q=>?_;simp at q
 .cases i with
  |zero=>simp at e
  |succ k=>
   refine cM (g k _ (by simpa using e)) λ j J _ _ q=>?_;simp at q
theorem RS.step{K:Frag}(R:RS K ⟨q,J,[]⟩ H0 H U L):bY q J H0 H:=
 ⟨R.init,λ b o e=>R.keep b o e bP,R.same,R.fresh⟩
theorem xu{xs:List α}{d:α}(h:xs[i]?=some d):xs.drop i=d::xs.drop (i+1):=by obtain⟨hi,e⟩:=fC.mp h;rw[<-e];exact jf hi
theorem L6{K:Frag}(R:RS K c H1 Hh U L)(hf:h6 U js=some fr)(hc:d4 T F fr xs=some out)(hz:xs.length<=sizeLine)(hy:∀(H0 H:Hp)(i:Nat),aB H1 H0->RS K c H0 H U L->(∀d,xs[i]?=some d->J.go i H/\∀x H',J.yld i H x H'->H'=H/\aU K H0 d x)/\(xs.length<=i->J.stop i H))(q:∀ys H0 H,aB H1 H0->RS K c H0 H U L->aD K H0 out ys->Qf ys H):pI js (jZ K T) (tE K F) L Qf J Hh:=by
 refine⟨λ i m ys H=>m=xs.length-i/\i<=xs.length/\∃H0,aB H1 H0/\RS K c H0 H U L/\∃Y rest,aD K H0 Y ys/\Y.length<=i/\d4 T F fr (xs.drop i)=some rest/\Y++rest=out,⟨xs.length,by simp,ym _,H1,aB.refl _,R,[],out,aD.nil_,ym _,by simpa using hc,rfl⟩,?_⟩;rintro i m ys H ⟨rfl,hi,H0,s0,a,Y,rest,f,lp,O,e⟩;obtain⟨w,y⟩:=hy H0 H i s0 a;by_cases g:i<xs.length
 .have hd:xs[i]?=some xs[i]:=by simp[g]
  obtain⟨go,A⟩:=w _ hd;refine .inr ⟨go,by rw[<-f.length];lia,λ x H' hx=>?_⟩;obtain⟨rfl,u⟩:=A x H' hx;rw[xu hd,Uc]at O;obtain⟨⟨b,h⟩,n,O⟩:=aP O;refine bG ⟨H0,H',[]⟩ H0 _ b h (a.block hf u) n λ H2 cV D R2=>?_;cases b with
  |false=>
   rw[if_neg zh]at O⊢;have S:=R2.step;exact⟨xs.length-(i+1),by lia,rfl,g,H2,s0.trans S.s0,a.after S,Y,rest,aD.mono S.s0 _ f,by lia,O,e⟩
  |true=>
   rw[if_pos rfl]at O⊢;refine gn λ B s=>?_;obtain⟨⟨z,l⟩,o,O⟩:=aP O;obtain⟨t,p,O⟩:=aP O;refine s ?_;have Z:=O;simp at Z;refine bG ⟨H0,H',[]⟩ H2 h z l R2 o λ v j fe E k r3=>?_;have S:=k.step;refine⟨xs.length-(i+1),by lia,rfl,g,j,s0.trans S.s0,a.after S,Y++[z],t,(aD.mono S.s0 _ f).app (aD.one r3),?_,p,?_⟩
   .grind
   .grind
 .have C:i=xs.length:=aE;have r:xs.drop i=[]:=Q5 aE;rw[r,Rv]at O;have Z:=qi O;subst Z;rw[yd]at e;subst e;exact .inl ⟨y aE,by rw[<-f.length];lia,q ys H0 H s0 a f⟩
theorem DY{K:Frag}(R:RS K c H1 Hh U L)(hf:h6 U js=some fr)(hc:d4 T F fr xs=some out)(hz:xs.length<=sizeLine)(hy:oh K J H1 xs)(q:∀ys H0 H,aB H1 H0->RS K c H0 H U L->aD K H0 out ys->Qf ys H):pI js (jZ K T) (tE K F) L Qf J Hh:=
 L6 R hf hc hz (λ H0 H i s r=>hy H0 H i s r.same) q
def nt(X:Cx)(bM:e_)(T:FT):Prop:=lQ X bM (jZ X.K T)
theorem lQ.wk(h:lQ X e t)(w:∀L H Q,t' L H Q->t L H Q):lQ X e t':=λ aA s L H Q I q=>h aA s L H Q I (w L H Q q)
theorem pe:nt X [] Lake.dP:=lQ.wk S9 λ L H Q J=>by
 refine bN J λ c H0 U b a R f q=>?_;have O:=f;cases O;exact q H0 H (aB.refl _) R
theorem ni(h:XT X c T):nt X [c] T:=S8 h
section
variable{bM:e_}
theorem IC(h:jG js I T F U=some (d,ρ')):∃z xs fr ys,I U=some (z,ρ')/\items z=some xs/\h6 ρ' js=some fr/\d4 T F fr xs=some ys/\xs.length<=sizeLine/\d=.l ys:=by
 refine gn λ b a=>?_;obtain⟨⟨z,O⟩,h1,h⟩:=aP h;obtain⟨xs,h2,h⟩:=aP h;obtain⟨fr,J,h⟩:=aP h;obtain⟨ys,q,h⟩:=aP h;refine a ?_;split at h
 .grind
 .simp at h
theorem tU(hc:X.c=true)(Y:X.v.scope=sc)(B:fu X.N sc scope x aY js)(hi:XE X iter I)(ht:∀s H C Z,nt (dR X (x::aY) scope s H C Z) bM T)(he:∀s H C Z,XE (dR X (x::aY) scope s H C Z) elt F)(hs:nR X iter:=by intro _;rfl):XE X (.ListComp elt [⟨.Name x px,iter,bM,0⟩] scope pos) (jG js I T F):=
 PE.wk (LZ (tt:=jZ X.K T) (te:=tE X.K F) hc Y B (vg hi) ht he hs) λ L H Q O=>by
  refine bN O λ c H0 U d n R f q=>?_;obtain⟨z,xs,fr,ys,h1,h2,e,g,j,rfl⟩:=IC f;refine wu R h1 h2 λ J H1 r l b i=>?_;refine DY b e g j i λ a H2 cV m R2 k=>λ p h=>?_;have S:=bY.alloc (o:=.l a) R2.same h;refine q _ _ _ (l.trans (m.trans S.s0)) (R2.after S) ?_;exact cD p a rfl (.inl (.inl cF)) (aD.mono S.s0 _ k)
end
def fZ(K:Frag)(c:FC)(Dn:kI)(H0:Hp):jC->Prop
 |.nx ρ'=>∀q aV H',aB H0 aV->RS K c aV H' ρ' q->Dn.nx q H'
 |.rt d ρ'=>∀v q aV H',aB H0 aV->RS K c aV H' ρ' q->aU K aV d v->Dn.rt v H'
 |.bk ρ'=>∀q aV H',aB H0 aV->RS K c aV H' ρ' q->Dn.bk q H'
 |.ct ρ'=>∀q aV H',aB H0 aV->RS K c aV H' ρ' q->Dn.ct q H'
def tS(K:Frag)(F:FS):TS:=λ Dn L H=>∃c H0 U r,RS K c H0 H U L/\F U=some r/\fZ K c Dn H0 r
def XS(X:Cx)(st:Stmt)(F:FS):Prop:=PS X st (tS X.K F)
def gA(X:Cx)(sts:jU)(F:FS):Prop:=eL X sts (tS X.K F)
theorem fZ.mono{K:Frag}(s:aB H0 H1):∀{r:jC},fZ K c Dn H0 r->fZ K c Dn H1 r:=by intro a;induction a<;>grind[aB,fZ]
theorem RS.set{K:Frag}(R:RS K c H0 H U L)(i:Nat)(r:aU K H0 d v):RS K c H0 H (U.set i (.i d)) (L.set i (some v)):=by
 have l:=R.len;have J:∀(j:Nat)(Z:Sl),j≠i->(U.set i (.i d))[j]?=some Z->U[j]?=some Z:=λ j Z O e=>by grind
 have q:∀(j:Nat),j≠i->(L.set i (some v))[j]?=L[j]?:=λ j O=>zj (zy O);have same:∀(Z:Sl),(U.set i (.i d))[i]?=some Z->Z=.i d/\i<U.length:=λ Z e=>by
  by_cases hi:i<U.length
  .grind
  .grind
 refine⟨R.same,R.init,R.fresh,R.keep,R.apt,by rw[yk,yk,l],λ j h e=>?_,λ j bb o e=>?_,λ j k f g o m a e1 e2 e3 e4=>?_⟩
 .by_cases O:j=i
  .grind
  .rw[q j O];exact R.im j h (J j _ O e)
 .by_cases O:j=i
  .grind
  .rw[q j O];exact R.ow j bb o (J j _ O e)
 .by_cases O:j=i
  .grind
  .by_cases b:k=i
   .grind
   .rw[q j O]at e3;rw[q k b]at e4;exact R.ne j k f g o m a (J j _ O e1) (J k _ b e2) e3 e4
section
variable{X:Cx}{pos:Pos}{e:Expr}{F:FE}{T:FT}{A B:FS}
theorem iy:gA X [] sN:=eL.wk US λ Dn L H J=>by
 refine cB J λ c H0 U r R f q=>?_;have O:=f;obtain rfl:=aW O;exact q L H0 H (aB.refl _) R
theorem cY{st:Stmt}(h:XS X st A):gA X [st] A:=qX h
theorem bK{st:Stmt}{rest:jU}(h1:XS X st A)(h2:gA X rest B):gA X (st::rest) (aR A B):=eL.wk (wg h1 h2) λ Dn L H Y=>by
 refine cB Y λ c H0 U r R f q=>?_;obtain⟨z,h,f⟩:=aP f;refine eW c H0 U z R h ?_;cases z with
 |nx J=>exact λ Z aV H' s a=>⟨c,aV,J,r,a,f,q.mono s⟩
 |rt d J=>have O:=f;obtain rfl:=aW O;exact q
 |bk J=>have O:=f;obtain rfl:=aW O;exact q
 |ct J=>have O:=f;obtain rfl:=aW O;exact q
theorem mY(i:Nat)(hN:X.N.Nodup)(Z:XE X e F)(hi:X.N[i]?=some x:=by rfl)(hx:lP X.v.scope x:=by exact jW)(hs:sU X e (some (.Name x pos')) pos.line false:=by rfl)(hf:X.fn x=true\/gf X x:=by exact jW):XS X (.Assign [.Name x pos'] e pos) (bH i F):=PS.wk (ri hN hi hx Z hs hf) λ Dn L H O=>by
 refine cB O λ c H0 U r R f q=>?_;obtain⟨⟨d,J⟩,h1,f⟩:=aP f;have b:=f;obtain rfl:=aW b;exact bG c H0 U d J R h1 λ v H1 a h Y g=>q _ H1 a h (Y.set i g)
theorem rY(i:Nat){bM:e_}(hN:X.N.Nodup)(hc:X.c=true)(aa:X.v.scope=sc)(Bk:fu X.N sc scope x aY js)(hi:XE X iter I)(ht:∀s H C Z,nt (dR X (x::aY) scope s H C Z) bM T)(he:∀s H C Z,XE (dR X (x::aY) scope s H C Z) elt F)(ac:X.N[i]?=some y:=by rfl)(hy:gf X y:=by rfl)(Y:swapsWith (.ListComp elt [⟨.Name x px,iter,bM,0⟩] scope pos) (some (.Name y py)) spos.line X.v=pure true:=by rfl)(hs:nR X iter:=by intro _;rfl):XS X (.Assign [.Name y py] (.ListComp elt [⟨.Name x px,iter,bM,0⟩] scope pos) spos) (bH i (jG js I T F)):=
 PS.wk (w_ (tt:=jZ X.K T) (te:=tE X.K F) hN ac hy hc aa Bk (vg hi) ht he Y hs) λ Dn L H O=>by
  refine cB O λ c H0 U r R f q=>?_;obtain⟨⟨d,Y⟩,h1,f⟩:=aP f;have e:=f;obtain rfl:=aW e;obtain⟨z,xs,fr,ys,g,h2,h,j,l,rfl⟩:=IC h1;refine wu R g h2 λ J H1 u n b hy=>?_;refine DY b h j l hy λ a H2 cV t R2 m=>λ p k=>?_;have S:=bY.alloc (o:=.l a) R2.same k;refine q _ _ _ (n.trans (t.trans S.s0)) ((R2.after S).set i ?_);exact⟨p,a,rfl,.inl (.inl cF),aD.mono S.s0 _ m⟩
theorem gj(Z:XT X c T)(ha:gA X a A)(hb:gA X b B):XS X (.If c a b pos) (bX T A B):=PS.wk (JW Z ha hb) λ Dn L H O=>by
 refine cB O λ c H0 U r R f q=>?_;obtain⟨⟨k,J⟩,h1,f⟩:=aP f;refine bG c H0 U k J R h1 λ H1 e d Y=>?_;cases k with
 |true=>
  rw[if_pos rfl]at f⊢;exact eW c H1 J r Y f (q.mono d)
 |false=>
  rw[if_neg zh]at f⊢;exact eW c H1 J r Y f (q.mono d)
theorem jR(Y:XE X e F):XS X (.Return (some e) pos) (bU F):=PS.wk (zL Y) λ Dn L H J=>by
 refine cB J λ c H0 U r R f q=>?_;obtain⟨⟨d,O⟩,h1,f⟩:=aP f;have b:=f;obtain rfl:=aW b;exact bG c H0 U d O R h1 λ v H1 Z h a g=>q v L H1 Z h a g
abbrev GD:=D->En->Option En
def tG(K:Frag)(g:GD):TG:=λ v L H Q=>∃c H0 U d ρ',RS K c H0 H U L/\aU K H0 d v/\g d U=some ρ'/\∀q aV H',aB H0 aV->RS K c aV H' ρ' q->Q q H'
def tGs(K:Frag)(is:d0):mI:=λ vs L H Q=>∃c H0 U ds,RS K c H0 H U L/\aD K H0 ds vs/\ds.length=is.length/\∀q aV H',aB H0 aV->RS K c aV H' (mA is ds U) q->Q q H'
def XG(X:Cx)(tg:Expr)(g:GD):Prop:=PG X tg (tG X.K g)
def yL(X:Cx)(q:e_)(is:d0):Prop:=rJ X q (tGs X.K is)
theorem fW(i:Nat)(O:X.N.Nodup)(hi:X.N[i]?=some x:=by rfl)(hx:lP X.v.scope x:=by exact jW)(Z:X.fn x=true\/gf X x:=by exact jW):XG X (.Name x pos) (gN i):=
 λ aA s L H v u Q I a J=>by refine pA J λ c H0 U d b R r f q=>?_;exact KL O hi hx Z aA s L H v u Q I a (by
  have Y:=f;obtain rfl:=aW Y;exact q _ H0 H (aB.refl _) (R.set i r))
theorem vG:yL X [] []:=λ aA s L H a us Q I O J=>by obtain⟨c,H0,U,b,R,r,l,q⟩:=J;exact Ti aA s L H a us Q I O (by
 have e:=List.length_eq_zero_iff.mp l;subst e;exact⟨r,q L H0 H (aB.refl _) (by simpa [Ul]using R)⟩)
theorem lX(h1:XG X e (gN i))(h2:yL X es is)(hs:(assignEach (e::es) X.v).map (·.2)=assign e X.v::(assignEach es X.v).map (·.2):=by rfl):yL X (e::es) (i::is):=
 λ aA s L H m us Q I j J=>by obtain⟨c,H0,U,a,R,r,l,q⟩:=J;exact R1 h1 h2 hs aA s L H m us Q I j (by
  cases a with
  |nil=>simp at l
  |cons d a=>
   obtain⟨v,Z,rfl,g,h⟩:=r;refine⟨v,Z,rfl,c,H0,U,d,_,R,g,rfl,λ Y H1 n b f=>?_⟩;exact⟨c,H1,_,a,f,aD.mono b _ h,by simpa using l,λ O H2 cV k R2=>q O H2 cV (b.trans k) (by simpa [TB]using R2)⟩)
theorem OX{items:g9}(Z:X.A.handled=none)(O:s.heap.IsList l items)(Y:(assignEach q X.v).length=items.size)(J:(assignEach q X.v).findIdx? (·.1)=none)(h:∀h',Heap.ExtBut s.heap.n s.heap h'->bV X.p X.w X.A (assignInOrder ((assignEach q X.v).map (·.2)) items.toList) Q E {s with heap:=h'}):bV X.p X.w X.A (assign (.Tuple q k pos) X.v (.ref l)) Q E s:=by
 rw[assign_Tuple];refine qb (Qq ?_);unfold unpack;rw[Y,J];exact qb (zr (PySem.W.kun_itemsOf Z O h))
def cc7(K:Frag)(n:Nat)(t:mI):TG:=λ v L H Q=>∃a xs,v=.ref a/\dz K H a xs/\xs.length=n/\t xs L H Q
theorem Xt{es:e_}{k:Nat}{t:mI}{n:Nat}(Y:X.c=true)(h:rJ X es t)(hn:(assignEach es X.v).length=n)(q:(assignEach es X.v).findIdx? (·.1)=none):PG X (.Tuple es k pos) (cc7 X.K n t):=by
 intro aA s L H v u Q I r J;obtain⟨a,xs,e1,d,c,J⟩:=J;subst e1;subst r;refine a_ (I.list d) λ g O f i=>?_;refine OX (I.ok.hd Y) f.isList (by simp[hn,<-c,O.length]) q λ h' hx=>?_;have Z:aJ X aA L H {s with heap:=h'}:=I.kept (t':=s.toks) λ b o e=>hx b o (qr (qm e)) e;exact h aA _ L H xs _ Q Z (by simpa using O) J
theorem xf(h:yL X es is)(hc:X.c=true:=by rfl)(hn:(assignEach es X.v).length=is.length:=by rfl)(J:(assignEach es X.v).findIdx? (·.1)=none:=by rfl):XG X (.Tuple es k pos) (gT is):=
 λ aA s L H v u Q I i O=>by
  refine pA O λ c H0 U d j R r f q=>?_;refine bE (aP f) λ xs h1 f=>?_;split at f
  .rename_i Y;obtain rfl:=aW f;cases d with
   |t b=>
    refine Xs hc h hn J aA s L H v u Q I i ?_;have e:=qi h1;subst e;obtain⟨a,g,rfl,Z,r⟩:=r;exact⟨a,g,rfl,aB.seqT R.same Z,by rw[<-r.length];exact Y,c,H0,U,b,R,r,Y,q⟩
   |l b=>
    refine Xt hc h hn J aA s L H v u Q I i ?_;have e:=qi h1;subst e;obtain⟨a,g,rfl,Z,r⟩:=r;exact⟨a,g,rfl,aB.seq R.same Z,by rw[<-r.length];exact Y,c,H0,U,b,R,r,Y,q⟩
   |_=>cases h1
  .simp at f
theorem SM(hg:XG X tg (gT is))(he:XE X e F)(hs:swapsWithSole [tg] e pos.line X.v=pure false:=by rfl)(hw:swappedStores [tg] e X.v=pure none:=by rfl)(h1:(assignEach [tg] X.v).map (·.2)=[assign tg X.v]:=by rfl):XS X (.Assign [tg] e pos) (Ee is F):=PS.wk (Dw he hg hs hw h1) λ Dn L H O=>by
 refine cB O λ c H0 U r R f q=>?_;obtain⟨⟨d,J⟩,h1,f⟩:=aP f;obtain⟨Y,h2,f⟩:=aP f;have b:=f;obtain rfl:=aW b;exact bG c H0 U d J R h1 λ v H1 j h a g=>⟨c,H1,J,d,Y,a,g,h2,λ Z H2 cV i R2=>q Z H2 cV (h.trans i) R2⟩
def yY(K:Frag)(J:It)(H1:Hp)(xs:aK):Prop:=∀(H0 H:Hp)(i:Nat),aB H1 H0->aB H0 H->(∀d,xs[i]?=some d->J.go i H/\∀x H',J.yld i H x H'->∃aV,bY H0 H aV H'/\aU K aV d x)/\(xs.length<=i->J.stop i H)
theorem D1{K:Frag}(R:RS K c H1 Hh U L)(hf:c4 g B xs U=some r)(hy:yY K J H1 xs)(q:fZ K c Dn H1 r):∃W:Nat->Nat->L2.St->Hp->Prop,(∃m,W 0 m L Hh)/\∀i m L H,W i m L H->(J.stop i H/\Dn.nx L H)\/(J.go i H/\∃N:L2.St->Hp->Prop,(∀O H',N O H'->∃m',m'<m/\W (i+1) m' O H')/\∀x H',J.yld i H x H'->tG K g x L H' λ ag H2=>tS K B {Dn with nx:=N,ct:=N,bk:=Dn.nx} ag H2):=by
 refine⟨λ i m L H=>m=xs.length-i/\i<=xs.length/\∃H0 U,aB H1 H0/\RS K c H0 H U L/\c4 g B (xs.drop i) U=some r,⟨xs.length,by grind[aB.refl,aB]⟩,?_⟩;rintro i m L H ⟨rfl,hi,H0,U,s0,n,Z⟩;obtain⟨y,A⟩:=hy H0 H i s0 n.same;by_cases o:i<xs.length
 .have hd:xs[i]?=some xs[i]:=by simp[o]
  obtain⟨go,C⟩:=y _ hd;refine .inr ⟨go,λ O H'=>∃m',m'<xs.length-i/\m'=xs.length-(i+1)/\i+1<=xs.length/\∃H0 U,aB H1 H0/\RS K c H0 H' U O/\c4 g B (xs.drop (i+1)) U=some r,λ O H'⟨m',a,b⟩=>⟨m',a,b⟩,λ x H' hx=>?_⟩;refine bE (C x H' hx) λ aV S w=>?_;rw[xu hd,T_]at Z;refine bE (aP Z) λ p s Z=>?_;refine bE (aP Z) λ z t Z=>?_;refine⟨c,aV,U,_,p,n.after S,w,s,λ D H2 cV l R2=>⟨c,H2,p,z,R2,t,?_⟩⟩;have k:=s0.trans S.s0;cases z with
  |nx Y=>exact λ O e fe h f=>⟨_,by lia,rfl,o,e,Y,k.trans (l.trans h),f,Z⟩
  |ct Y=>exact λ O e fe h f=>⟨_,by lia,rfl,o,e,Y,k.trans (l.trans h),f,Z⟩
  |bk Y=>
   have j:=Z;obtain rfl:=aW j;exact λ O e fe h f=>q O e fe (k.trans (l.trans h)) f
  |rt d Y=>
   have j:=Z;obtain rfl:=aW j;exact λ v O e fe h f r3=>q v O e fe (k.trans (l.trans h)) f r3
 .have u:xs.drop i=[]:=Q5 aE;rw[u,Rc]at Z;have j:=Z;obtain rfl:=aW j;exact .inl ⟨A aE,q L H0 H s0 n⟩
theorem JL{K:Frag}(R:RS K c H1 Hh U L)(hf:c4 g B xs U=some r)(hy:oh K J H1 xs)(q:fZ K c Dn H1 r):∃W:Nat->Nat->L2.St->Hp->Prop,(∃m,W 0 m L Hh)/\∀i m L H,W i m L H->(J.stop i H/\Dn.nx L H)\/(J.go i H/\∃N:L2.St->Hp->Prop,(∀O H',N O H'->∃m',m'<m/\W (i+1) m' O H')/\∀x H',J.yld i H x H'->tG K g x L H' λ af H2=>tS K B {Dn with nx:=N,ct:=N,bk:=Dn.nx} af H2):=
 D1 R hf (λ H0 H i s s'=>let ⟨a,b⟩:=hy H0 H i s s';⟨λ d e=>⟨(a d e).1,λ x H' y=>let ⟨e,r⟩:=(a d e).2 x H' y;⟨H0,by rw[e];exact⟨.refl _,.refl _,s',λ _ _ e=>.inl e⟩,r⟩⟩,b⟩) q
theorem mU(hg:XG X tg g)(hi:XE X iter F)(hb:gA X O B)(Z:PassesOwn (model X.p X.w) X.A X.v X.xe:=by exact Zk)(hc:X.c=true:=by rfl)(hs:nR X iter:=by intro _;rfl):XS X (.For tg iter O [] pos) (lu g F B):=PS.wk (u_ Z hc (vg hi) hg hb hs) λ Dn L H Y=>by
 refine cB Y λ c H0 U r R f q=>?_;obtain⟨⟨d,i⟩,h1,f⟩:=aP f;obtain⟨xs,h2,f⟩:=aP f;exact wu R h1 h2 λ J H1 h e a b=>JL a f b (q.mono e)
theorem rM(hm:X.mg "range"=none)(hg:XG X tg g)(ha:XE X a F)(hb:gA X J B)(Z:Gl X "range":=by rfl)(hp:PassesOwn (model X.p X.w) X.A X.v X.xe:=by exact Zk)(hc:X.c=true:=by rfl)(Y:mX X a:=by rfl)(hs:∀x,foldedSetIterable (.Call (.Name "range" p) [a] [] pos') X.v x=pure x:=by intro _;rfl):XS X (.For tg (.Call (.Name "range" p) [a] [] pos') J [] pos) (oB g (oG F) B):=PS.wk (u_ hp hc (UY Z hm (iA ha lB Y) Y) hg hb hs) λ Dn L H Y=>by
 refine cB Y λ c H0 U r R f q=>?_;obtain⟨⟨xs,o⟩,h1,f⟩:=aP f;obtain⟨⟨d,n⟩,h2,h1⟩:=aP h1;obtain⟨j,Z,h1⟩:=aP h1;split at h1
 .rename_i b;cases h1;refine⟨c,H0,U,d,_,R,h2,λ v H1 m l h i=>?_⟩;cases d with
  |int k=>
   have e:=qi Z;subst e;subst i;exact⟨k,rfl,b.1,b.2,JL h f (Ug 0 k.toNat) (q.mono l)⟩
  |_=>cases Z
 .simp at h1
theorem I0(hc:XT X c T)(hb:gA X aa B)(hp:PassesOwn (model X.p X.w) X.A X.v X.xe:=by exact Zk):XS X (.While c aa [] pos) (zB ac T B):=PS.wk (RY hp hc hb) λ Dn L H o=>by
 refine cB o λ c H0 U r R f q=>?_;refine⟨λ m L H=>∃H1 U,aB H0 H1/\RS X.K c H1 H U L/\lH T B m U=some r,⟨ac U,H0,U,aB.refl _,R,f⟩,?_⟩;rintro m p t ⟨H1,s,i,n,Y⟩;cases m with
 |zero=>cases Y
 |succ m=>
  rw[RC]at Y;obtain⟨⟨b,k⟩,h1,Y⟩:=aP Y;refine bG c H1 s b k n h1 λ H2 cV j R2=>?_;cases b with
  |false=>
   rw[if_neg zh]at Y⊢;have Z:=Y;obtain rfl:=aW Z;exact q p H2 cV (i.trans j) R2
  |true=>
   rw[if_pos rfl]at Y⊢;obtain⟨z,h2,Y⟩:=aP Y;refine⟨λ J H'=>∃l,l<m+1/\∃H1 U,aB H0 H1/\RS X.K c H1 H' U J/\lH T B l U=some r,λ J H' h=>h,⟨c,H2,k,z,R2,h2,?_⟩⟩;cases z with
   |nx O=>exact λ J a fe g e=>⟨m,by lia,a,O,i.trans (j.trans g),e,Y⟩
   |ct O=>exact λ J a fe g e=>⟨m,by lia,a,O,i.trans (j.trans g),e,Y⟩
   |bk O=>
    have Z:=Y;obtain rfl:=aW Z;exact λ J a fe g e=>q J a fe (i.trans (j.trans g)) e
   |rt d O=>
    have Z:=Y;obtain rfl:=aW Z;exact λ v J a fe g e r3=>q v J a fe (i.trans (j.trans g)) e r3
end
theorem RS.start{K:Frag}(s:aB q H)(r:aD K q ds vs)(Y:n-vs.length=m):RS K ⟨q,H,[]⟩ q H (ds.map .i++List.replicate m .z) (vs.map some++List.replicate (n-vs.length) none):=by
 have O:=r.length;refine⟨s,aB.refl _,λ b o e=>.inl e,λ b o e _=>e,λ a h=>(by simp at h),?_,λ i d e=>?_,λ i b o e=>?_,λ i j b Z o f a e=>?_⟩
 .grind
 .by_cases hi:i<ds.length
  .rw[Qn (by simpa using hi),zl]at e;cases z:ds[i]? with
   |none=>rw[z]at e;cases e
   |some c=>
    rw[z]at e;have J:c=d:=by have:=qi e;injection this
    subst J;obtain⟨v,a,b⟩:=r.get z;grind
  .grind
 .grind
 .grind
theorem E9{K:Frag}{st:Stmt}(F:iz K x qual st f fd)(S:aG N ps (bA st))(hn:ps.length=n)(hN:N.length=n+m)(hb:∀(J:Value)(A:Around)(outer:fP)(s:Shared)(H:Hp)(E:XK),bJ k (A.deeper (envOfC qual (bA st) s.heap.n f J))->gA (f_ fX P w K mg base N qual (bA st) f J A outer s H E).nox (gQ st) B):cR P w K mg base fX (k+1) f fd ps (qY K (di n m B)):=by
 have O:∀{b:aK}{d:D},di n m B b=some d->b.length=n/\∃r,B (b.map .i++List.replicate m .z)=some r/\vD r=some d:=λ{b d}h=>by
  unfold di at h;split at h
  .rename_i i;obtain⟨r,h1,h2⟩:=aP h;grind
  .simp at h
 refine F.ok S (λ t H Q E h=>?_) (λ J A outer s H t Q E j h=>?_)
 .refine dN h λ g b d _ r e _=>?_;rw[hn,<-r.length];exact(O e).1
 .refine dN h λ g b d l r e q=>?_;obtain⟨i,c,h1,h2⟩:=O e;refine⟨_,hb J A outer s H E j,⟨g,H,[]⟩,g,_,c,RS.start l r (by rw[<-r.length];lia),h1,?_⟩;cases c with
  |nx a=>
   have Y:=qi h2;subst Y;exact λ Z aV H' p R=>q .n aV H' R.step (by rfl)
  |rt u a=>
   have Y:=qi h2;subst Y;exact λ v Z aV H' p R o=>q v aV H' R.step o
  |bk a=>cases h2
  |ct a=>cases h2
end
section
@[simp] theorem bV1:(∀i j,c_ (.int i) (.int j)=some (.int (i+j)))/\(∀a b,c_ (.l a) (.l b)=if a.length+b.length<=sizeLine then some (.l (a++b))else none)/\(∀a b,c_ (.str a) (.str b)=if a.length+b.length<=sizeLine then some (.str (a++b))else none)/\(∀i j,ij (.int i) (.int j)=some (.int (i-j)))/\(∀i j,iR (.int i) (.int j)=if gi i j=true then some (.int (i*j))else none)/\(∀i j,mO (.int i) (.int j)=if lJ j=true then some (.int (i.fdiv j))else none)/\(∀i j,dZ (.int i) (.int j)=if j≠0 then some (.int (i.fmod j))else none)/\(∀i j,zU (.int i) (.int j)=if 0<=j/\j<=64/\i.natAbs<2^64 then some (.int (i^j.toNat))else none)/\(∀i,pQ (.int i)=some (.int (-i)))/\(∀i j,l5 (.int i) (.int j)=some (.b (decide (i<j))))/\(∀i j,oV (.int i) (.int j)=some (.b (decide (i<=j))))/\(∀i j,nK (.int i) (.int j)=some (.b (decide (j<i))))/\(∀i j,vN (.int i) (.int j)=some (.b (decide (j<=i))))/\(∀x y,jF x y=if dI x<=30/\dI y<=30 then some (.b (cJ x y))else none)/\(∀x y,ly x y=if dI x<=30/\dI y<=30 then some (.b (!cJ x y))else none)/\(∀x,oU x .n=some (.b (gP x)))/\(∀x,kj x .n=some (.b (!gP x)))/\(∀b,qA (.b b)=some b)/\(∀xs,qA (.l xs)=some (!xs.isEmpty))/\(∀xs,qA (.t xs)=some (!xs.isEmpty)):=fz
@[simp] theorem cf8:kM [.int i]=some (.int (i.natAbs:Int)):=by grind[kM]
@[simp] theorem cf7:nG [.int i,.int j]=some (.int (if j>i then j else i)):=yI rfl
@[simp] theorem cf6:oP [.int i,.int j]=some (.int (if j<i then j else i)):=yI rfl
def LA{α:Type}(x:α)(o:Option (List α)):Option (List α):=aH o λ t=>some (x::t)
@[simp] theorem nv(x:α)(t:List α):LA x (some t)=some (x::t):=yI rfl
def g_(o:fN)(U:En):bB:=aH o λ d=>some (d,U)
def Nr(op:D->Option D)(o:bB):bB:=aH o λ p=>aH (op p.1) λ d=>some (d,p.2)
def EY(op:D->D->Option D)(x:D)(o:bB):bB:=aH o λ q=>aH (op x q.1) λ d=>some (d,q.2)
def AE(op:D->D->Option D)(G:FE)(o:bB):bB:=aH o λ p=>aH (G p.2) λ q=>aH (op p.1 q.1) λ d=>some (d,q.2)
def EZ(q:D->D->Option D)(σ:FE)(y:D)(U:En)(o:fN):bB:=aH o λ z=>aH (lx z) λ b=>if b=true then aH (σ U) λ r=>aH (q y r.1) λ d=>some (d,r.2)else some (.b false,U)
def Nv(op J:D->D->Option D)(σ:FE)(x:D)(o:bB):bB:=aH o λ q=>aH (op x q.1) λ z=>aH (lx z) λ b=>if b=true then aH (σ q.2) λ r=>aH (J q.1 r.1) λ d=>some (d,r.2)else some (.b false,q.2)
def Nu(op J:D->D->Option D)(G σ:FE)(o:bB):bB:=aH o λ p=>aH (G p.2) λ q=>aH (op p.1 q.1) λ z=>aH (lx z) λ b=>if b=true then aH (σ q.2) λ r=>aH (J q.1 r.1) λ d=>some (d,r.2)else some (.b false,q.2)
def yO(x:D)(o:Option (aK×En)):Option (aK×En):=aH o λ q=>some (x::q.1,q.2)
def yN(A:FA)(o:bB):Option (aK×En):=aH o λ p=>aH (A p.2) λ q=>some (p.1::q.1,q.2)
def p_(o:Option (aK×En)):bB:=aH o λ p=>if p.1.length<=1000 then some (.t p.1,p.2)else none
def DW(o:Option (aK×En)):bB:=aH o λ p=>if p.1.length<=1000 then some (.l p.1,p.2)else none
@[simp] theorem ct4:(∀b,l0 .int (.int b)=true)/\(∀b,l0 .bool (.int b)=false)/\(∀b,l0 .str (.str b)=true)/\(∀d U,g_ (some d) U=some (d,U))/\(∀U d,FN U (some (.i d))=some (d,U))/\(∀i U,eV i U=FN U U[i]?)/\(∀d U,eC d U=some (d,U))/\(∀op F U,e1 op F U=Nr op (F U))/\(∀op x U,Nr op (some (x,U))=g_ (op x) U)/\(∀op F G U,e2 op F G U=AE op G (F U))/\(∀op G x U,AE op G (some (x,U))=EY op x (G U))/\(∀op x y U,EY op x (some (y,U))=g_ (op x y) U)/\(∀op q F G σ U,e3 op q F G σ U=Nu op q G σ (F U))/\(∀op q G σ x U,Nu op q G σ (some (x,U))=Nv op q σ x (G U))/\(∀op q σ x y U,Nv op q σ x (some (y,U))=EZ q σ y U (op x y))/\(∀q σ y U,EZ q σ y U (some (.b true))=EY q y (σ U))/\(∀q σ y U,EZ q σ y U (some (.b false))=some (.b false,U))/\(∀U,aN U=some ([],U))/\(∀F A U,aC F A U=yN A (F U))/\(∀A x U,yN A (some (x,U))=yO x (A U))/\(∀x xs U,yO x (some (xs,U))=some (x::xs,U))/\(∀A U,cH A U=p_ (A U))/\(∀xs U,p_ (some (xs,U))=if xs.length<=1000 then some (.t xs,U)else none)/\(∀A U,fx A U=DW (A U))/\(∀xs U,DW (some (xs,U))=if xs.length<=1000 then some (.l xs,U)else none):=fz
@[simp high] theorem vvt:(∀a U,p_ (some ([a],U))=some (.t [a],U))/\(∀a b U,p_ (some ([a,b],U))=some (.t [a,b],U))/\(∀a b c U,p_ (some ([a,b,c],U))=some (.t [a,b,c],U))/\(∀a b c d U,p_ (some ([a,b,c,d],U))=some (.t [a,b,c,d],U)):=fz
def AF(g:aK->Option D)(o:Option (aK×En)):bB:=aH o λ p=>aH (g p.1) λ d=>some (d,p.2)
def Mv(t:Ty)(o:bB):bB:=aH o λ p=>some (.b (l0 t p.1),p.2)
def NW(o:bB):Option (bZ×En):=aH o λ p=>aH (sx p.1) λ i=>some (some i,p.2)
def NQ(o:Option Bool)(U:En):h_:=aH o λ b=>some (b,U)
def wI(o:bB):h_:=aH o λ p=>aH (lx p.1) λ b=>some (b,p.2)
def Om(o:bB):h_:=aH o λ p=>aH (qA p.1) λ b=>some (b,p.2)
def CF(ρ:FT)(o:h_):h_:=aH o λ p=>if p.1=true then ρ p.2 else some (false,p.2)
def DD(ρ:FT)(o:h_):h_:=aH o λ p=>if p.1=true then some (true,p.2)else ρ p.2
def LK(o:h_):h_:=aH o λ p=>some (!p.1,p.2)
@[simp] theorem eF_:(∀g A U,eF g A U=AF g (A U))/\(∀g xs U,AF g (some (xs,U))=g_ (g xs) U)/\(∀t F U,qI t F U=Mv t (F U))/\(∀t x U,Mv t (some (x,U))=some (.b (l0 t x),U))/\(∀U,oN U=some (none,U))/\(∀F U,oS F U=NW (F U))/\(∀i U,NW (some (.int i,U))=some (some i,U))/\(∀b U,NQ (some b) U=some (b,U))/\(∀F U,tB F U=wI (F U))/\(∀b U,wI (some (.b b,U))=some (b,U))/\(∀F U,tV F U=Om (F U))/\(∀x U,Om (some (x,U))=NQ (qA x) U)/\(∀T ρ U,dD T ρ U=CF ρ (T U))/\(∀ρ U,CF ρ (some (true,U))=ρ U)/\(∀ρ U,CF ρ (some (false,U))=some (false,U))/\(∀T ρ U,iG T ρ U=DD ρ (T U))/\(∀ρ U,DD ρ (some (true,U))=some (true,U))/\(∀ρ U,DD ρ (some (false,U))=ρ U)/\(∀T U,fU T U=LK (T U))/\(∀b U,LK (some (b,U))=some (!b,U))/\(∀U,dP U=some (true,U)):=fz
@[simp high] theorem vvz:(∀d r,eV 0 (.i d::r)=some (d,.i d::r))/\(∀d z r o,e2 o (eV 0) (eC z) (.i d::r)=g_ (o d z) (.i d::r))/\(∀a d r,eV 1 (a::.i d::r)=some (d,a::.i d::r))/\(∀a d z r o,e2 o (eV 1) (eC z) (a::.i d::r)=g_ (o d z) (a::.i d::r))/\(∀a b d r,eV 2 (a::b::.i d::r)=some (d,a::b::.i d::r))/\(∀a b d z r o,e2 o (eV 2) (eC z) (a::b::.i d::r)=g_ (o d z) (a::b::.i d::r))/\(∀a b c d r,eV 3 (a::b::c::.i d::r)=some (d,a::b::c::.i d::r))/\(∀a b c d z r o,e2 o (eV 3) (eC z) (a::b::c::.i d::r)=g_ (o d z) (a::b::c::.i d::r))/\(∀a b c e d r,eV 4 (a::b::c::e::.i d::r)=some (d,a::b::c::e::.i d::r))/\(∀a b c e d z r o,e2 o (eV 4) (eC z) (a::b::c::e::.i d::r)=g_ (o d z) (a::b::c::e::.i d::r))/\(∀a b c e f d r,eV 5 (a::b::c::e::f::.i d::r)=some (d,a::b::c::e::f::.i d::r))/\(∀a b c e f d z r o,e2 o (eV 5) (eC z) (a::b::c::e::f::.i d::r)=g_ (o d z) (a::b::c::e::f::.i d::r))/\(∀a b c e f g d r,eV 6 (a::b::c::e::f::g::.i d::r)=some (d,a::b::c::e::f::g::.i d::r))/\(∀a b c e f g h d r,eV 7 (a::b::c::e::f::g::h::.i d::r)=some (d,a::b::c::e::f::g::h::.i d::r))/\(∀a b c e f g h i d r,eV 8 (a::b::c::e::f::g::h::i::.i d::r)=some (d,a::b::c::e::f::g::h::i::.i d::r))/\(∀o x z r,AE o (eC z) (some (x,r))=g_ (o x z) r)/\(∀b r,wI (g_ (some (.b b)) r)=some (b,r)):=fz
def DO(F G:FE)(o:h_):bB:=aH o λ p=>if p.1=true then F p.2 else G p.2
@[simp] theorem cd8:iV T F G U=DO F G (T U):=yI rfl
def Ed(G:FE)(o:bB):bB:=aH o λ p=>aH (lx p.1) λ b=>if b=true then G p.2 else some (.b false,p.2)
def Ey(G:FE)(o:bB):bB:=aH o λ p=>aH (lx p.1) λ b=>if b=true then some (.b true,p.2)else G p.2
def NI(o:k6)(q:Option En):Option En:=aH o λ s=>aH q λ r=>some (s::r)
def Ms(T:FT)(F:FE)(fr:En)(r:aK)(o:bB):Option (aK):=aH o λ q=>aH (d4 T F fr r) λ t=>some (q.1::t)
def vH(T:FT)(F:FE)(fr:En)(r:aK)(o:h_):Option (aK):=aH o λ p=>if p.1=true then aH (F p.2) λ q=>aH (d4 T F fr r) λ t=>some (q.1::t)else d4 T F fr r
@[simp] theorem bS1:(∀F G U,DO F G (some (true,U))=F U)/\(∀F G U,DO F G (some (false,U))=G U)/\(∀F G U,rR F G U=Ed G (F U))/\(∀G U,Ed G (some (.b true,U))=G U)/\(∀G U,Ed G (some (.b false,U))=some (.b false,U))/\(∀F G U,qH F G U=Ey G (F U))/\(∀G U,Ey G (some (.b true,U))=some (.b true,U))/\(∀G U,Ey G (some (.b false,U))=G U)/\(∀s r,NI (some s) (some r)=some (s::r))/\(∀d,tL (some (.i d))=some (.i d))/\(∀U,h6 U []=some [])/\(∀U j js,h6 U (j::js)=NI (tL U[j]?) (h6 U js))/\(∀T F fr,d4 T F fr []=some []):=fz
@[simp] theorem lR:d4 T F fr (d::r)=vH T F fr r (T (.i d::fr)):=yI rfl
@[simp] theorem lU:vH T F fr r (some (true,U))=Ms T F fr r (F U):=yI rfl
@[simp] theorem sv:vH T F fr r (some (false,U))=d4 T F fr r:=yI rfl
@[simp] theorem lS:Ms T F fr r (some (x,U))=LA x (d4 T F fr r):=yI rfl
def DL(U:En)(xs:aK)(o:Option (aK)):bB:=aH o λ ys=>if xs.length<=sizeLine then some (.l ys,U)else none
def DM(T:FT)(F:FE)(U:En)(xs:aK)(o:Option En):bB:=aH o λ fr=>DL U xs (d4 T F fr xs)
def DN(js:d0)(T:FT)(F:FE)(U:En)(o:Option (aK)):bB:=aH o λ xs=>DM T F U xs (h6 U js)
def Lu(js:d0)(T:FT)(F:FE)(o:bB):bB:=aH o λ p=>DN js T F p.2 (items p.1)
@[simp] theorem bI0:(∀xs,items (.l xs)=some xs)/\(∀z,items (.str z)=some (lZ z))/\(∀xs,items (.t xs)=some xs)/\(∀js I T F U,jG js I T F U=Lu js T F (I U))/\(∀js T F x U,Lu js T F (some (x,U))=DN js T F U (items x))/\(∀js T F U xs,DN js T F U (some xs)=DM T F U xs (h6 U js))/\(∀T F U xs fr,DM T F U xs (some fr)=DL U xs (d4 T F fr xs))/\(∀U xs ys,DL U xs (some ys)=if xs.length<=sizeLine then some (.l ys,U)else none)/\(∀U,sN U=some (.nx U)):=fz
def u6(G:FS)(o:cC):cC:=aH o λ r=>NV G r
@[simp] theorem LG:aR F G U=u6 G (F U):=yI rfl
@[simp] theorem K6:u6 G (some (.nx U))=G U:=yI rfl
def Aa(i:Nat)(o:bB):cC:=aH o λ p=>some (.nx (p.2.set i (.i p.1)))
@[simp] theorem bC8:(∀G d U,u6 G (some (.rt d U))=some (.rt d U))/\(∀i F U,bH i F U=Aa i (F U))/\(∀i x U,Aa i (some (x,U))=some (.nx (U.set i (.i x))))/\(∀i is d ds U,mA (i::is) (d::ds) U=mA is ds (U.set i (.i d))):=fz
@[simp] theorem cB1(ds:aK)(U:En):mA [] ds U=U:=by cases ds<;>exact Eq.trans rfl rfl
def NF(is:d0)(U:En)(o:Option (aK)):Option En:=aH o λ xs=>if xs.length=is.length then some (mA is xs U)else none
def CI(o:Option En):cC:=aH o λ U=>some (.nx U)
def LM(is:d0)(o:bB):cC:=aH o λ p=>CI (gT is p.1 p.2)
def rZ(F G:FS)(o:h_):cC:=aH o λ p=>if p.1=true then F p.2 else G p.2
def LN(o:bB):cC:=aH o λ p=>some (.rt p.1 p.2)
@[simp] theorem cH6:(∀xs,DC (.t xs)=some xs)/\(∀i d U,gN i d U=some (U.set i (.i d)))/\(∀is d U,gT is d U=NF is U (DC d))/\(∀is U xs,NF is U (some xs)=if xs.length=is.length then some (mA is xs U)else none)/\(∀is F U,Ee is F U=LM is (F U))/\(∀is x U,LM is (some (x,U))=CI (gT is x U))/\(∀U,CI (some U)=some (.nx U))/\(∀T F G U,bX T F G U=rZ F G (T U))/\(∀F G U,rZ F G (some (true,U))=F U)/\(∀F G U,rZ F G (some (false,U))=G U)/\(∀F U,bU F U=LN (F U))/\(∀x U,LN (some (x,U))=some (.rt x U)):=fz
def qL(g:D->En->Option En)(B:FS)(r:aK)(o:cC):cC:=aH o λ z=>sT (c4 g B r) z
def iC(g:D->En->Option En)(B:FS)(r:aK)(o:Option En):cC:=aH o λ q=>qL g B r (B q)
theorem Ab(g:D->En->Option En)(B:FS)(U:En):c4 g B [] U=some (.nx U):=yI rfl
theorem iP(g:D->En->Option En)(B:FS)(d:D)(r:aK)(U:En):c4 g B (d::r) U=iC g B r (g d U):=yI rfl
@[simp] theorem jB:iC g B r (some U)=qL g B r (B U):=yI rfl
@[simp] theorem iQ:qL g B r (some (.nx U))=c4 g B r U:=yI rfl
@[simp] theorem uY:qL g B r (some (.rt d U))=some (.rt d U):=yI rfl
def CK(g:D->En->Option En)(B:FS)(U:En)(o:Option (aK)):cC:=aH o λ xs=>c4 g B xs U
def LQ(g:D->En->Option En)(B:FS)(o:bB):cC:=aH o λ p=>CK g B p.2 (items p.1)
def LS(o:bB):Option (aK×En):=aH o λ p=>aH (sx p.1) λ j=>if -(2^62)<=j/\j<2^62 then some (fQ 0 j.toNat,p.2)else none
def Jo(g:D->En->Option En)(B:FS)(o:Option (aK×En)):cC:=aH o λ p=>c4 g B p.1 p.2
@[simp] theorem bY8:(∀g F B U,lu g F B U=LQ g B (F U))/\(∀g B x U,LQ g B (some (x,U))=CK g B U (items x))/\(∀g B U xs,CK g B U (some xs)=c4 g B xs U)/\(∀F U,oG F U=LS (F U))/\(∀j U,LS (some (.int j,U))=if -(2^62)<=j/\j<2^62 then some (fQ 0 j.toNat,U)else none)/\(∀g X B U,oB g X B U=Jo g B (X U))/\(∀g B xs U,Jo g B (some (xs,U))=c4 g B xs U):=fz
def F4(T:FT)(B:FS)(n:Nat)(o:cC):cC:=aH o λ z=>sT (lH T B n) z
def F3(T:FT)(B:FS)(n:Nat)(o:h_):cC:=aH o λ p=>if p.1=true then F4 T B n (B p.2)else some (.nx p.2)
theorem LJ(T:FT)(B:FS)(n:Nat)(U:En):lH T B (n+1) U=F3 T B n (T U):=yI rfl
@[simp] theorem Vg:F3 T B n (some (true,U))=F4 T B n (B U):=yI rfl
@[simp] theorem Vh:F3 T B n (some (false,U))=some (.nx U):=yI rfl
@[simp] theorem Vf:F4 T B n (some (.nx U))=lH T B n U:=yI rfl
def ND(o:cC):fN:=aH o λ r=>vD r
def L3(o:Option (aK×En)):Option (aK×En):=aH o λ p=>if p.1.length<=1000 then some p else none
def Ex(A B:FA)(o:h_):Option (aK×En):=aH o λ p=>if p.1=true then A p.2 else B p.2
def LO(i:Nat)(o:Option (aK×En)):cC:=aH o λ p=>some (.nx (p.2.set i (.o false (.l p.1))))
def CL(i:Nat)(x:D)(U:En)(o:Option (aK)):cC:=aH o λ ds=>if ds.length<1000000 then some (.nx (U.set i (.o false (.l (ds++[x])))))else none
def CM(i:Nat)(o:bB):cC:=aH o λ p=>CL i p.1 p.2 (lF p.2[i]?)
def LR(i:Nat)(F:FE)(U:En)(o:Option (aK)):cC:=aH o λ _=>CM i (F U)
@[simp] theorem bC4:(∀q T B U,zB q T B U=lH T B (q U) U)/\(∀d U,ND (some (.rt d U))=some d)/\(∀n k B ds,di n k B ds=if ds.length=n then ND (B (ds.map .i++List.replicate k .z))else none)/\(∀A U,qD A U=L3 (A U))/\(∀xs U,L3 (some (xs,U))=if xs.length<=1000 then some (xs,U)else none)/\(∀T A B U,AV T A B U=Ex A B (T U))/\(∀A B U,Ex A B (some (true,U))=A U)/\(∀A B U,Ex A B (some (false,U))=B U)/\(∀i A U,mS i A U=LO i (A U))/\(∀i xs U,LO i (some (xs,U))=some (.nx (U.set i (.o false (.l xs)))))/\(∀ds,lF (some (.o false (.l ds)))=some ds)/\(∀i F U,kx i F U=LR i F U (lF U[i]?))/\(∀i F U ds,LR i F U (some ds)=CM i (F U))/\(∀i x U,CM i (some (x,U))=CL i x U (lF U[i]?))/\(∀i x U ds,CL i x U (some ds)=if ds.length<1000000 then some (.nx (U.set i (.o false (.l (ds++[x])))))else none):=fz
noncomputable def Ag(i:Nat)(U:En):k6->En
 |some (.o false (.l ds))=>U.set i (.i (.l ds))
 |_=>U
@[simp] theorem ch3:frz i U=Ag i U U[i]?:=by unfold frz Ag;split<;>simp_all
@[simp] theorem bR0:Ag i U (some (.o false (.l ds)))=U.set i (.i (.l ds)):=yI rfl
@[simp] theorem bR1:Ag i U (some (.i d))=U:=yI rfl
@[simp] theorem bY7:kv i F U=F (frz i U):=yI rfl
open PySem.Spec PyProof.Rows L2
theorem RS.heNone{K:Frag}(R:RS K c H0 H U L)(J:H p=none):c.He p=none:=by
 cases q:c.He p with
 |none=>rfl
 |some u=>
  by_cases O:p∈c.Ap
  .exact absurd J (R.apt p O)
  .rw[R.keep p u q O]at J;simp at J
theorem RS.setOwn{K:Frag}(R:RS K c H0 H U L)(i:Nat)(hp:H p=none)(r:eH K H0 (upd H p u) p o):RS K c H0 (upd H p u) (U.set i (.o false o)) (L.set i (some (.ref p))):=by
 have m:=R.len;have C:=R.same.free hp;have D:=R.heNone hp;have up:∀b v,H b=some v->(upd H p u) b=some v:=λ b v e=>by grind[bS]
 have O:∀(j:Nat)(sl:Sl),j≠i->(U.set i (.o false o))[j]?=some sl->U[j]?=some sl:=λ j sl Y e=>by grind
 have J:∀(j:Nat),j≠i->(L.set i (some (V.ref p)))[j]?=L[j]?:=λ j Y=>zj (zy Y);have same:∀(sl:Sl),(U.set i (.o false o))[i]?=some sl->sl=.o false o/\i<U.length:=λ sl e=>by
  by_cases hi:i<U.length
  .grind
  .grind
 have Z:∀(j:Nat)(b:Bool)(o:MO)(a:Addr),U[j]?=some (.o b o)->L[j]?=some (some (.ref a))->a≠p:=λ j b o a e1 e2=>by
  refine cZ (R.ow j b o e1) λ B x _ _ w=>?_;rw[x]at e2;cases e2;obtain⟨u,q⟩:=w.some;exact fF q hp
 refine⟨λ b u e=>up b u (R.same b u e),R.init,R.fresh,λ b o e n=>up b o (R.keep b o e n),λ a l e=>?_,by rw[yk,yk,m],λ j h e=>?_,λ j bb s e=>?_,λ j k f g t A a e1 e2 e3 e4=>?_⟩
 .cases q:H a with
  |none=>exact R.apt a l q
  |some v=>rw[up a v q]at e;simp at e
 .by_cases Y:j=i
  .grind
  .rw[J j Y];exact R.im j h (O j _ Y e)
 .by_cases Y:j=i
  .grind
  .rw[J j Y];refine cZ (R.ow j bb s (O j _ Y e)) λ a x y z w=>?_;exact kJ a x y z (w.step (aB.refl _) λ v q=>up a v q)
 .by_cases Y:j=i
  .grind
  .by_cases d:k=i
   .grind
   .rw[J j Y]at e3;rw[J k d]at e4;exact R.ne j k f g t A a (O j _ Y e1) (O k _ d e2) e3 e4
theorem RS.lent{K:Frag}(R:RS K c H0 H U L)(hi:U[i]?=some (.o b o))(ha:L[i]?=some (some (.ref a)))(s0:aB H0 aV)(s':aB aV H')(kp:∀x u,H x=some u->x≠a->H' x=some u)(fr:∀x u,aV x=some u->H0 x=some u\/H x=none)(r:eH K aV H' a o'):RS K c aV H' (U.set i (.o b o')) L:=by
 refine cZ (R.ow i b o hi) λ P x y z w=>?_;rw[ha]at x;cases x;obtain⟨T,Q⟩:=w.some;have D:=(fC.mp hi).1;have E:∀x,H0 x=none->H x≠none->aV x=none:=λ x h1 h2=>by
  cases q:aV x with
  |none=>rfl
  |some u=>
   rcases fr x u q with h|h
   .grind
   .exact absurd h h2
 have J:∀(j:Nat)(Y:Sl),j≠i->(U.set i (.o b o'))[j]?=some Y->U[j]?=some Y:=λ j Y O e=>by grind
 have same:∀(Y:Sl),(U.set i (.o b o'))[i]?=some Y->Y=.o b o':=λ Y e=>by
  rw[z0 D]at e;exact(qi e).symm
 have d:∀(j:Nat)(bb:Bool)(Z:MO),(U.set i (.o b o'))[j]?=some (.o bb Z)->∃bb t,U[j]?=some (.o bb t):=λ j bb Z e=>by
  by_cases O:j=i
  .grind
  .grind
 refine⟨s',R.init.trans s0,λ x u e=>?_,λ x u e n=>?_,λ x hx e=>?_,by rw[yk];exact R.len,λ j C e=>?_,λ j bb Z e=>?_,λ j k A B G I x e1 e2 e3 e4=>?_⟩
 .rcases fr x u e with h|h
  .exact R.fresh x u h
  .exact .inr (R.heNone h)
 .have:x≠a:=λ h=>by
   cases b with
   |true=>exact n (h▸z)
   |false=>
    have M:=z;rw[h,M]at e;simp at e
  exact kp x u (R.keep x u e n) this
 .by_cases h:x=a
  .obtain⟨u,q⟩:=r.some;rw[h,q]at e;simp at e
  .cases q:H x with
   |none=>exact R.apt x hx q
   |some u=>rw[kp x u q h]at e;simp at e
 .by_cases O:j=i
  .grind
  .obtain⟨v,m,s⟩:=R.im j C (J j _ O e);exact⟨v,m,aU.mono s0 _ s⟩
 .by_cases O:j=i
  .grind
  .have f:=J j _ O e;refine cZ (R.ow j bb Z f) λ x l σ N g=>?_;have F:x≠a:=λ h=>O (R.ne j i bb b Z o x f hi l (by rw[h];exact ha));obtain⟨u,S⟩:=g.some;exact kJ x l (E x σ (by grind)) N (g.step s0 λ v q=>kp x v q F)
 .obtain⟨_,p,e1⟩:=d j A G e1;obtain⟨_,q,e2⟩:=d k B I e2;exact R.ne j k _ _ p q x e1 e2 e3 e4
theorem RS.mutOwn{K:Frag}(R:RS K c H0 H U L)(hi:U[i]?=some (.o b o))(q:L[i]?=some (some (.ref a)))(r:eH K H0 (upd H a u) a o'):RS K c H0 (upd H a u) (U.set i (.o b o')) L:=by
 refine cZ (R.ow i b o hi) λ J x y z w=>?_;rw[q]at x;simp at x;refine R.lent hi q (aB.refl _) (λ x v e=>?_) (λ x v e n=>by rw[bS n];exact e) (λ x v e=>.inl e) r;have:x≠a:=λ h=>by grind
 rw[bS this];exact R.same x v e
theorem RS.freeze{K:Frag}(R:RS K c H0 H U L)(hi:U[i]?=some (.o false (.l ds))):∃aV,aB H0 aV/\RS K c aV H (U.set i (.i (.l ds))) L:=by
 obtain⟨a,x,y,z,f,e,r⟩:=R.ow i _ _ hi;have A:=z;have B:=(fC.mp hi).1;have Z:aB H0 (upd H0 a (.l f)):=λ b u q=>by rw[bS (fF q y)];exact q
 have J:∀(j:Nat)(Y:Sl),j≠i->(U.set i (.i (.l ds)))[j]?=some Y->U[j]?=some Y:=λ j Y O e=>by rwa [zj (zy O)]at e
 have same:∀(Y:Sl),(U.set i (.i (.l ds)))[i]?=some Y->Y=.i (.l ds):=λ Y e=>by
  rw[z0 B]at e;exact(qi e).symm
 refine⟨upd H0 a (.l f),Z,λ b u q=>?_,R.init.trans Z,λ b u q=>?_,R.keep,R.apt,by rw[yk];exact R.len,λ j w q=>?_,λ j bb d q=>?_,λ j k s t d p b e1 e2 e3 e4=>?_⟩
 .by_cases h:b=a
  .subst h;rw[cF]at q;obtain rfl:=aW q;exact e
  .rw[bS h]at q;exact R.same b u q
 .by_cases h:b=a
  .subst h;exact .inr A
  .rw[bS h]at q;exact R.fresh b u q
 .by_cases O:j=i
  .subst O;cases same _ q;refine⟨.ref a,x,?_⟩;exact⟨a,f,rfl,.inl (.inl cF),aD.mono Z _ r⟩
  .refine bE (R.im j w (J j _ O q)) λ v n o=>?_;exact⟨v,n,aU.mono Z _ o⟩
 .by_cases O:j=i
  .subst O;cases same _ q
  .have l:=J j _ O q;refine cZ (R.ow j bb d l) λ b m D E C=>?_;have nb:b≠a:=λ h=>O (R.ne j i bb false d _ b l hi m (by rw[h];exact x));exact⟨b,m,by rw[bS nb];exact D,E,C.step Z λ u q=>q⟩
 .by_cases O:j=i
  .subst O;cases same _ e1
  .by_cases g:k=i
   .subst g;cases same _ e2
   .exact R.ne j k s t d p b (J j _ O e1) (J k _ g e2) e3 e4
def tEo(K:Frag)(A:FA):TE:=λ L H Q=>∃c H0 U ds ρ',RS K c H0 H U L/\A U=some (ds,ρ')/\∀p vs aV H',aB H0 aV->RS K c aV H' ρ' L->H' p=none->aD K aV ds vs->Q (.ref p) (upd H' p (.l vs))
def pM(X:Cx)(e:Expr)(A:FA):Prop:=PE X e (tEo X.K A)
theorem n_(h:lF o=some ds):o=some (.o false (.l ds)):=match o,h with|some (.o false (.l _)),h=>by obtain rfl:=jh h;rfl
section
theorem u5(h:XA X es A):pM X (.List es pos) (qD A):=PE.wk (J7 h) λ L H Q J=>by
 refine bN J λ c H0 U d k R f q=>?_;obtain⟨⟨Z,l⟩,h1,f⟩:=aP f;obtain⟨g,e⟩:=bM f;cases e;exact bG c H0 U d _ R h1 λ j H1 b i Y a=>⟨by rw[<-a.length];exact CG g,λ p O=>q p j H1 b i Y O a⟩
theorem cK2{c a b:Expr}(Z:XT X c T)(ha:pM X a A)(hb:pM X b B):pM X (.IfExp c a b pos) (AV T A B):=PE.wk (IS Z ha hb) λ L H Q O=>by
 refine bN O λ c H0 U d e R f q=>?_;unfold AV at f;obtain⟨⟨k,J⟩,h1,f⟩:=aP f;dsimp only at f;refine⟨c,H0,U,k,J,R,h1,λ H1 j i Y=>?_⟩;cases k with
 |true=>
  rw[if_pos rfl]at f⊢;exact⟨c,H1,J,d,e,Y,f,λ p h H2 cV g R2=>q p h H2 cV (i.trans g) R2⟩
 |false=>
  rw[if_neg zh]at f⊢;exact⟨c,H1,J,d,e,Y,f,λ p h H2 cV g R2=>q p h H2 cV (i.trans g) R2⟩
theorem sA(i:Nat)(hN:X.N.Nodup)(he:pM X e A)(hi:X.N[i]?=some x:=by rfl)(hx:lP X.v.scope x:=by exact jW)(hs:sU X e (some (.Name x pos')) pos.line false:=by rfl)(hf:X.fn x=true\/gf X x:=by exact jW):XS X (.Assign [.Name x pos'] e pos) (mS i A):=PS.wk (ri hN hi hx he hs hf) λ Dn L H O=>by
 refine cB O λ c H0 U r R f q=>?_;obtain⟨⟨a,J⟩,h1,f⟩:=aP f;have b:=f;obtain rfl:=aW b;exact bG c H0 U a J R h1 λ p h H1 j g Z Y d=>q _ H1 _ g (Z.setOwn i Y ⟨h,cF,d⟩)
theorem lV(i:Nat)(ha:XA X [e] (aC F aN))(hN:X.N[i]?=some x:=by rfl)(hv:gk X.v.scope x:=by exact i7)(hd:df x:=by decide)(ag:fA x:=by decide)(O:vW X (.Name x p1) "append":=by rfl)(Z:E5 X Y [e]:=by rfl)(J:(p2.endLine==Y.line)=true:=by rfl)(af:iX X e []:=by rfl)(ae:iD X Y []:=by rfl)(hs:swapsWith (.Call (.Attribute (.Name x p1) "append" p2) [e] [] Y) none pos.line X.v=pure false:=by rfl):XS X (.Expr (.Call (.Attribute (.Name x p1) "append" p2) [e] [] Y) pos) (kx i F):=
 PS.wk (KI (L0 PySem.F.plainAttrs_list PySem.F.slot_list_append PySem.F.type_list_append U5 (fT hN hv hd ag) ha O Z J af ae) hs) λ Dn L H k=>by
  refine cB k λ c H0 U r R f q=>?_;obtain⟨C,o,f⟩:=aP f;obtain⟨⟨d,m⟩,h1,f⟩:=aP f;obtain⟨D,h2,f⟩:=aP f;obtain⟨p,n⟩:=bM f;subst n;obtain⟨a,b,_,_,l,y,_⟩:=R.ow i _ _ (n_ o);refine⟨.ref a,b,.inl ⟨rfl,l,dz.of y⟩,c,H0,U,[d],m,R,by unfold aC aN;rw[h1];rfl,λ E H1 A u g s=>?_⟩;obtain⟨v,rfl,t⟩:=aD.v1 s;obtain⟨B,h,_,_,w,z,j⟩:=g.ow i _ _ (n_ h2);rw[b]at h;cases h;refine⟨a,w,v,rfl,rfl,z,?_,?_⟩
  .rw[<-j.length];exact qp p (by rw[jx];decide)
  .exact q L H1 _ u (g.mutOwn (n_ h2) b ⟨_,cF,j.app (aD.one t)⟩)
theorem nA(i:Nat){st:Stmt}(h:XS X st G):XS X st (kv i G):=PS.wk h λ Dn L H J=>by
 refine cB J λ c H0 U r R f q=>?_;unfold kv frz at f;cases z:U[i]? with
 |none=>rw[z]at f;exact eW c H0 U r R f q
 |some Y=>
  rw[z]at f;cases Y with
  |z=>exact eW c H0 U r R f q
  |i d=>exact eW c H0 U r R f q
  |o b o=>
   cases b with
   |true=>exact eW c H0 U r R f q
   |false=>
   cases o with
   |d aO=>exact eW c H0 U r R f q
   |l a=>
    obtain⟨aV,Z,O⟩:=R.freeze z;exact eW c aV _ r O f (q.mono Z)
end
end
section
def p8(z:Str)(i:Int):fN:=if z.length<=sizeLine then aH (aH (qF z.cps.toList.length i) λ j=>z.cps.toList[j]?) λ c=>some (.str (jO c))else none
def bW:D->D->Option D
 |.t xs,.int i=>dW xs i
 |.l xs,.int i=>dW xs i
 |.str z,.int i=>p8 z i
 |_,_=>none
noncomputable def iF:aK->Option D
 |[.l xs]=>some (.int xs.length)
 |[.t xs]=>some (.int xs.length)
 |[.str z]=>if z.length<=sizeLine then some (.int z.length)else none
 |_=>none
noncomputable def pU:D->Bool
 |.opq=>false
 |.c _ _=>false
 |.t _=>false
 |.l _=>false
 |_=>true
def gp(x:D)(xs:aK):Bool:=xs.any λ y=>cJ y x
def gM(x:D)(xs:aK):Bool:=pU x&&xs.all pU
def dIn:D->D->Option D
 |x,.t xs=>if gM x xs=true then some (.b (gp x xs))else none
 |x,.l xs=>if gM x xs=true then some (.b (gp x xs))else none
 |_,_=>none
def ZH:D->D->Option D
 |x,.t xs=>if gM x xs=true then some (.b (!gp x xs))else none
 |x,.l xs=>if gM x xs=true then some (.b (!gp x xs))else none
 |_,_=>none
noncomputable def qB:aK->Option D
 |[.int i]=>some (.int i)
 |[.b b]=>some (.int (if b then 1 else 0))
 |_=>none
noncomputable def kE:aK->Option D
 |[.l xs]=>some (.t xs)
 |[.t xs]=>some (.t xs)
 |_=>none
noncomputable def rX:aK->Option D
 |[.l xs]=>some (.l xs)
 |[.t xs]=>some (.l xs)
 |_=>none
@[simp] theorem bU4:(∀xs i,bW (.t xs) (.int i)=dW xs i)/\(∀xs i,bW (.l xs) (.int i)=dW xs i)/\(∀z i,bW (.str z) (.int i)=p8 z i)/\(∀xs,iF [.l xs]=some (.int xs.length))/\(∀z,iF [.str z]=if z.length<=sizeLine then some (.int z.length)else none)/\(∀b,qB [.b b]=some (.int (if b then 1 else 0)))/\(∀xs,kE [.l xs]=some (.t xs))/\(∀xs,rX [.l xs]=some (.l xs)):=fz
open PySem.Spec PyProof.Rows L2
section
variable{K:Frag}
theorem uk(H:Hp)(x:Str):aU K H (.str x) (.str x):=by rfl
theorem cb6:ki K (N5 K) bW:=λ c H0 H U L x y d Y O Q R a J e q=>by
 cases y with
 |int i=>
  subst J;cases x with
  |t h=>
   obtain⟨p,b,rfl,s,t⟩:=a;obtain⟨v,e1,e2⟩:=Mo t e;exact .inr (.inl ⟨p,b,i,v,rfl,rfl,aB.seqT R.same s,e1,q v H0 H (aB.refl _) R e2⟩)
  |l h=>
   obtain⟨p,b,rfl,s,t⟩:=a;obtain⟨v,e1,e2⟩:=Mo t e;exact .inl ⟨p,b,i,v,rfl,rfl,aB.seq R.same s,e1,q v H0 H (aB.refl _) R e2⟩
  |str z=>
   subst a;have e:p8 z i=some d:=e;unfold p8 at e;by_cases g:z.length<=sizeLine
   .rw[if_pos g]at e;obtain⟨f,e1,e2⟩:=aP e;have e2:=e2;obtain rfl:=aW e2;exact .inr (.inr ⟨z,i,f,rfl,rfl,g,e1,q _ H0 H (aB.refl _) R (uk H0 (jO f))⟩)
   .grind
  |_=>cases e
 |_=>cases x<;>cases e
theorem gZ(J:XE X a F)(q:XE X b G)(O:yK b:=by intro _ _;rfl):XE X (.Subscript a b pos) (e2 bW F G):=PE.wk (rV X6 J q O) λ L H Q h=>yZ cb6 h
theorem NK:i_ X (.builtin "len") iF:=⟨_,fG.or QX,λ c H0 H U L b d f Q R r e q=>by
 unfold iF at e;split at e
 .obtain rfl:=aW e;obtain⟨v,rfl,J⟩:=aD.v1 r;obtain⟨p,O,rfl,s,t⟩:=J;exact .inl ⟨p,O,rfl,.inl (aB.seq R.same s),by rw[<-t.length];exact q _ H0 H (aB.refl _) R (gE _ _)⟩
 .obtain rfl:=aW e;obtain⟨v,rfl,J⟩:=aD.v1 r;obtain⟨p,O,rfl,s,t⟩:=J;exact .inl ⟨p,O,rfl,.inr (aB.seqT R.same s),by rw[<-t.length];exact q _ H0 H (aB.refl _) R (gE _ _)⟩
 .rename_i z;obtain⟨a,rfl⟩:=bM e;obtain⟨v,rfl,J⟩:=aD.v1 r;subst J;exact .inr ⟨z,rfl,a,q _ H0 H (aB.refl _) R (gE _ _)⟩
 .simp at e⟩
theorem rg(o:i_ X (.type T) g)(Z:Gl X x)(O:X.mg x=none)(Y:bootBuiltins x=some (.type T))(ha:XA X (e::es) A)(hn:x≠"__name__":=by decide)(J:df x:=by decide)(he:iX X e es:=by rfl)(q:iD X pos es:=by rfl):XE X (.Call (.Name x p) (e::es) [] pos) (eF g A):=by
 obtain⟨r,h1,h2⟩:=o;exact PE.wk (xc h1 Z O Y ha hn J he q) λ L H Q h=>Mj h2 h
theorem QC:i_ X (.type "int") qB:=⟨_,Rr,λ c H0 H U L a d b Q R r e q=>by
 unfold qB at e;split at e
 .obtain rfl:=aW e;obtain⟨v,rfl,J⟩:=aD.v1 r;subst J;exact .inl ⟨_,rfl,q _ H0 H (aB.refl _) R (gE _ _)⟩
 .obtain rfl:=aW e;obtain⟨v,rfl,J⟩:=aD.v1 r;subst J;exact .inr ⟨_,rfl,q _ H0 H (aB.refl _) R (gE _ _)⟩
 .simp at e⟩
theorem Sz:i_ X (.type "list") rX:=⟨_,G_,λ c H0 H U L a d b Q R r e q=>by
 unfold rX at e;split at e
 .obtain rfl:=aW e;obtain⟨v,rfl,O⟩:=aD.v1 r;obtain⟨p,J,rfl,s,t⟩:=O;refine⟨p,J,rfl,.inl (aB.seq R.same s),λ l Y=>?_⟩;have S:=bY.alloc (o:=.l J) R.same Y;refine q _ _ _ S.s0 (R.after S) ?_;exact⟨l,_,rfl,.inl (.inl cF),aD.mono S.s0 _ t⟩
 .obtain rfl:=aW e;obtain⟨v,rfl,O⟩:=aD.v1 r;obtain⟨p,J,rfl,s,t⟩:=O;refine⟨p,J,rfl,.inr (aB.seqT R.same s),λ l Y=>?_⟩;have S:=bY.alloc (o:=.l J) R.same Y;refine q _ _ _ S.s0 (R.after S) ?_;exact⟨l,_,rfl,.inl (.inl cF),aD.mono S.s0 _ t⟩
 .simp at e⟩
theorem vZ:i_ X (.type "tuple") kE:=⟨_,Py,λ c H0 H U L a d b Q R r e q=>by
 unfold kE at e;split at e
 .obtain rfl:=aW e;obtain⟨v,rfl,J⟩:=aD.v1 r;obtain⟨p,O,rfl,s,t⟩:=J;refine⟨p,O,rfl,.inl ⟨aB.seq R.same s,λ l Z=>?_⟩⟩;have S:=bY.alloc (o:=.t O) R.same Z;refine q _ _ _ S.s0 (R.after S) ?_;exact⟨l,_,rfl,.inl (.inl cF),aD.mono S.s0 _ t⟩
 .obtain rfl:=aW e;obtain⟨v,rfl,J⟩:=aD.v1 r;have Y:=J;obtain⟨p,O,rfl,s,t⟩:=J;exact⟨p,O,rfl,.inr ⟨aB.seqT R.same s,q _ H0 H (aB.refl _) R Y⟩⟩
 .simp at e⟩
theorem xD(h:pU d=true)(r:aU K H d v):mE v=true/\∀d' q,pU d'=true->aU K H d' q->nO v q=cJ d d':=by
 cases d with
 |t xs=>cases h
 |l xs=>cases h
 |opq=>cases h
 |c a b=>cases h
 |_=>
  subst r;refine⟨rfl,λ d' q h' O=>?_⟩;cases d' with
  |t xs=>cases h'
  |l xs=>cases h'
  |opq=>cases h'
  |c a b=>cases h'
  |_=>
   subst O;rfl
theorem De(hx:pU x=true)(r:aU K H x v):∀{ds:aK}{vs:b_},ds.all pU=true->aD K H ds vs->vs.all mE=true/\AJ v vs=gp x ds:=by intro a;induction a<;>grind[xD,AJ,gp,aD]
theorem L9(hf:∀x y d,f x y=some d->∃xs,(y=.t xs\/y=.l xs)/\gM x xs=true/\d=.b (if J then !gp x xs else gp x xs)):ki K (tJ K J) f:=λ c H0 H U L x y d h i Q R a O e q=>by
 obtain⟨xs,g,ok,rfl⟩:=hf x y d e;unfold gM at ok;rw[ze]at ok;rcases g with rfl|rfl
 .obtain⟨p,Z,rfl,s,t⟩:=O;obtain⟨b,Y⟩:=De ok.1 a ok.2 t;exact⟨p,Z,rfl,.inr (aB.seqT R.same s),(xD ok.1 a).1,b,by rw[Y];exact q _ H0 H (aB.refl _) R (lE _ _)⟩
 .obtain⟨p,Z,rfl,s,t⟩:=O;obtain⟨b,Y⟩:=De ok.1 a ok.2 t;exact⟨p,Z,rfl,.inl (aB.seq R.same s),(xD ok.1 a).1,b,by rw[Y];exact q _ H0 H (aB.refl _) R (lE _ _)⟩
end
end
section
noncomputable def cf(k:Str):ey->Option D
 |[]=>none
 |q::r=>if q.1=k then some q.2 else cf k r
noncomputable def jE(k:Str)(d:D):ey->List (Str×D)
 |[]=>[]
 |q::r=>(if q.1=k then(q.1,d)else q)::jE k d r
def hH:k6->Option (Bool×MO)
 |some (.o b o)=>some (b,o)
 |_=>none
noncomputable def i0:k6->Option (Bool×List (Str×D))
 |some (.o b (.d aO))=>some (b,aO)
 |_=>none
def iw(i:Nat)(k:Str)(U:En):bB:=aH (i0 U[i]?) λ p=>aH (cf k p.2) λ d=>some (d,U)
def nX(i:Nat)(k:Str)(F:FE)(U:En):cC:=aH (F U) λ p=>aH (i0 p.2[i]?) λ q=>aH (cf k q.2) λ _=>if q.2.length<100 then some (.nx (p.2.set i (.o q.1 (.d (jE k p.1 q.2)))))else none
def dU(i:Nat)(g:MO->List D->Option (D×MO))(A:FA)(U:En):bB:=aH (hH U[i]?) λ _=>aH (A U) λ p=>aH (hH p.2[i]?) λ q=>aH (g q.2 p.1) λ z=>some (z.1,p.2.set i (.o q.1 z.2))
def DG:jC->Option (D×MO)
 |.rt d U=>aH (hH U[0]?) λ q=>if q.1=true then some (d,q.2)else none
 |.nx U=>aH (hH U[0]?) λ q=>if q.1=true then some (.n,q.2)else none
 |_=>none
def jH(n k:Nat)(B:FS)(o:MO)(ds:aK):Option (D×MO):=if ds.length=n then aH (B (.o true o::(ds.map .i++List.replicate k .z))) λ r=>DG r else none
noncomputable def h8:Sl->Bool
 |.o _ _=>false
 |_=>true
def Ae(ks:aM)(A:FA)(U:En):Option MO:=if U.all h8=true then aH (A U) λ p=>if p.1.length=ks.length/\ks.length<=15/\ks.Nodup then some (.d (ks.zip p.1))else none else none
def sC(A:FS)(F:En->Option MO)(U:En):Option MO:=aH (A U) λ r=>match r with
 |.nx ρ'=>F ρ'
 |_=>none
noncomputable def qO(n k:Nat)(F:En->Option MO)(ds:aK):Option MO:=if ds.length=n then F (ds.map .i++List.replicate k .z)else none
def D9(i:Nat)(g:aK->Option MO)(A:FA)(U:En):cC:=aH (A U) λ p=>aH (g p.1) λ o=>some (.nx (p.2.set i (.o false o)))
def Ly(k:Str)(U:En)(o:Option (Bool×List (Str×D))):bB:=aH o λ p=>aH (cf k p.2) λ d=>some (d,U)
def DE(i:Nat)(k:Str)(d:D)(U:En)(b:Bool)(aO:ey)(o:fN):cC:=aH o λ _=>if aO.length<100 then some (.nx (U.set i (.o b (.d (jE k d aO)))))else none
def DF(i:Nat)(k:Str)(d:D)(U:En)(o:Option (Bool×List (Str×D))):cC:=aH o λ q=>DE i k d U q.1 q.2 (cf k q.2)
def Lg(i:Nat)(k:Str)(o:bB):cC:=aH o λ p=>DF i k p.1 p.2 (i0 p.2[i]?)
def p9(i:Nat)(U:En)(b:Bool)(o:Option (D×MO)):bB:=aH o λ z=>some (z.1,U.set i (.o b z.2))
def zS(i:Nat)(g:MO->List D->Option (D×MO))(ds:aK)(U:En)(o:Option (Bool×MO)):bB:=aH o λ q=>p9 i U q.1 (g q.2 ds)
def zT(i:Nat)(g:MO->List D->Option (D×MO))(o:Option (aK×En)):bB:=aH o λ p=>zS i g p.1 p.2 (hH p.2[i]?)
def zW(i:Nat)(g:MO->List D->Option (D×MO))(A:FA)(U:En)(o:Option (Bool×MO)):bB:=aH o λ _=>zT i g (A U)
def CJ(i:Nat)(U:En)(o:Option MO):cC:=aH o λ o=>some (.nx (U.set i (.o false o)))
def LP(i:Nat)(g:aK->Option MO)(o:Option (aK×En)):cC:=aH o λ p=>CJ i p.2 (g p.1)
@[simp] theorem bZ9:(∀b o,hH (some (.o b o))=some (b,o))/\(∀b o,i0 (some (.o b (.d o)))=some (b,o))/\(∀i k U,iw i k U=Ly k U (i0 U[i]?))/\(∀k U b aO,Ly k U (some (b,aO))=g_ (cf k aO) U)/\(∀i k F U,nX i k F U=Lg i k (F U))/\(∀i k d U,Lg i k (some (d,U))=DF i k d U (i0 U[i]?))/\(∀i k d U b aO,DF i k d U (some (b,aO))=DE i k d U b aO (cf k aO))/\(∀i k d U b aO z,DE i k d U b aO (some z)=if aO.length<100 then some (.nx (U.set i (.o b (.d (jE k d aO)))))else none)/\(∀i g A U,dU i g A U=zW i g A U (hH U[i]?))/\(∀i g A U q,zW i g A U (some q)=zT i g (A U))/\(∀i g ds U,zT i g (some (ds,U))=zS i g ds U (hH U[i]?))/\(∀i g ds U b o,zS i g ds U (some (b,o))=p9 i U b (g o ds))/\(∀i U b d o,p9 i U b (some (d,o))=some (d,U.set i (.o b o)))/\(∀i g A U,D9 i g A U=LP i g (A U))/\(∀i g ds U,LP i g (some (ds,U))=CJ i U (g ds))/\(∀i U o,CJ i U (some o)=some (.nx (U.set i (.o false o)))):=fz
open PySem.Spec PyProof.Rows L2
noncomputable def dQ(ks:aM)(vs:b_):fO:=(ks.map Sum.inr).zip vs
theorem tT(k:Str)(ks:aM)(v:V)(vs:b_):dQ (k::ks) (v::vs)=(Sum.inr k,v)::dQ ks vs:=rfl
section
variable{K:Frag}
theorem pV:∀{aO:ey}{vs:b_},aD K H (aO.map (·.2)) vs->cf k aO=some d->∃v,gV (dQ (aO.map (·.1)) vs) (.inr k)=some v/\aU K H d v:=by intro a;induction a<;>grind[tT,cf,aD,gV]
theorem Jw(Z:aU K H d v):∀{aO:ey}{vs:b_},aD K H (aO.map (·.2)) vs->∃J,(dQ (aO.map (·.1)) vs).map (λ Y=>if Y.1=Sum.inr k then(Y.1,v)else Y)=dQ ((jE k d aO).map (·.1)) J/\aD K H ((jE k d aO).map (·.2)) J
 |[],vs,t=>⟨[],rfl,aD.nil_⟩
 |q::r,vs,t=>by
  rw[zc]at t;obtain⟨u,c,rfl,a,b⟩:=t;obtain⟨J,e1,e2⟩:=Jw Z b;unfold jE;rw[zc,tT,zc,e1];by_cases O:q.1=k
  .refine⟨v::J,?_,?_⟩
   .rw[if_pos (show(Sum.inr q.1:Key)=Sum.inr k by rw[O]),if_pos O];rfl
   .rw[if_pos O];exact aD.cons Z e2
  .refine⟨u::J,?_,?_⟩
   .rw[if_neg (show ¬(Sum.inr q.1:Key)=Sum.inr k from λ z=>O (Z1 z)),if_neg O];rfl
   .rw[if_neg O];exact aD.cons a e2
theorem LX(O:aU K H d v)(t:aD K H (aO.map (·.2)) vs)(h:cf k aO=some J):∃q,hZ (dQ (aO.map (·.1)) vs) (.inr k) v=dQ ((jE k d aO).map (·.1)) q/\aD K H ((jE k d aO).map (·.2)) q:=by
 obtain⟨u,e,_⟩:=pV t h;obtain⟨q,e1,e2⟩:=Jw O t;refine⟨q,?_,e2⟩;grind[hZ,wR,e1]
end
theorem pP(h:i0 o=some q):o=some (.o q.1 (.d q.2)):=match o,h with|some (.o _ (.d _)),h=>by obtain rfl:=jh h;rfl
theorem ou(h:hH o=some q):o=some (.o q.1 q.2):=by
 unfold hH at h;split at h
 .obtain rfl:=aW h;rfl
 .simp at h
section
theorem xdg(i:Nat){x k:Str}{j:Nat}{p p2:Pos}(hu:X.A.units+1<cLine)(hN:X.N[i]?=some x)(Y:gk X.v.scope x)(hd:df x)(O:fA x):XE X (.Subscript (.Name x p) (.Constant (.str k) j p2) pos) (iw i k):=
 PE.wk (zM hu (fT hN Y hd O) uO (λ _ _=>rfl)) λ L H Q J=>by
  refine bN J λ c H0 U d e R f q=>?_;unfold iw at f;obtain⟨⟨b,aO⟩,h1,f⟩:=aP f;obtain⟨g,h2,f⟩:=aP f;have h:some (g,U)=some (d,e):=f;cases h;obtain⟨a,e1,e2,e3,m,n,e4,rfl,r⟩:=R.ow i b _ (pP h1);obtain⟨v,l,Z⟩:=pV r h2;refine⟨_,e1,a,v,rfl,?_,q v H0 H (aB.refl _) R Z⟩;rw[<-l];exact eS.k (k:=.inr k) e4
theorem K8(h:n<100):n<sizeLine:=Br aE
theorem IL{K:Frag}{aO:ey}(t:aD K H (aO.map (·.2)) vs):(dQ (aO.map (·.1)) vs).length=aO.length:=by have q:=t.length;grind[dQ]
theorem xdp(i:Nat){x k:Str}{j:Nat}{p p2 p3:Pos}(hu:X.A.units+1<cLine)(he:XE X e F)(hN:X.N[i]?=some x)(hv:gk X.v.scope x)(hd:df x)(O:fA x)(hs:swapsWith e (some (.Subscript (.Name x p) (.Constant (.str k) j p2) p3)) pos.line X.v=pure false):XS X (.Assign [.Subscript (.Name x p) (.Constant (.str k) j p2) p3] e pos) (nX i k F):=
 PS.wk (JX hu (fT hN hv hd O) uO he hs) λ Dn L H J=>by
  refine cB J λ c H0 U r R f q=>?_;unfold nX at f;obtain⟨⟨d,Y⟩,h1,f⟩:=aP f;obtain⟨⟨b,aO⟩,h2,f⟩:=aP f;obtain⟨w,h,f⟩:=aP f;obtain⟨l,rfl⟩:=bM f;refine bG c H0 U d Y R h1 λ v H1 u n g m=>?_;have z:=pP h2;obtain⟨a,e1,e2,e3,B,C,e4,rfl,t⟩:=g.ow i b _ z;obtain⟨Z,o,s⟩:=LX m t h;refine⟨_,e1,a,_,rfl,iK.k (k:=.inr k) e4 (by have:=IL t;unfold dQ at this;rw[this];exact K8 l),?_⟩;exact q L H1 _ n (g.mutOwn z e1 ⟨_,Z,by rw[cF];exact Q1 (λ y=>some (HO.dK y)) o,rfl,s⟩)
def Oe(K:Frag)(g:MO->List D->Option (D×MO)):Sp:=λ vs H Q _=>∃q a o J ds d o',vs=.ref a::J/\aB q H/\q a=none/\eH K q H a o/\aD K q ds J/\g o ds=some (d,o')/\∀v dH H',aB q dH->aB dH H'->(∀b u,H b=some u->b≠a->H' b=some u)->(∀b u,dH b=some u->q b=some u\/H b=none)->eH K dH H' a o'->aU K dH d v->Q v H'
structure dG(P:Program)(w:World)(K:Frag)(mg:Str->Option Value)(base:Heap)(k:Nat)(x:Str)(g:MO->List D->Option (D×MO)):Prop where
 ex:∃f fd ps,cR P w K mg base fX k f fd ps (Oe K g)/\dE K fd ps []/\keepIn K (.ref f)=true/\mg x=some (.ref f)
theorem OA(i:Nat)(G:dG X.p X.w X.K X.mg X.base k x g)(hr:bJ k X.A)(ha:XA X es A)(hN:X.N[i]?=some y:=by rfl)(hg:Gl X x:=by rfl)(hv:gk X.v.scope y:=by exact i7)(ac:df x:=by decide)(hd:df y:=by decide)(ae:fA y:=by decide)(Z:iD X pos es:=by rfl):XE X (.Call (.Name x p) (.Name y py::es) [] pos) (dU i g A):=by
 refine dN G.ex λ f fd ps F C D E=>?_;refine PE.wk (uC F hr hg E D C .nil uX (iA (fT hN hv hd ae) ha rfl) ac rfl Z) λ L H Q O=>?_;refine bN O λ c H0 U d h R z q=>?_;obtain⟨⟨s,σ⟩,u,z⟩:=aP z;obtain⟨⟨j,Y⟩,h1,z⟩:=aP z;obtain⟨⟨b,o⟩,h2,z⟩:=aP z;obtain⟨⟨t,l⟩,B,z⟩:=aP z;have W:some (t,Y.set i (.o b l))=some (d,h):=z;cases W;obtain⟨a,e1,_⟩:=R.ow i s σ (ou u);refine⟨_,e1,c,H0,U,j,Y,R,h1,λ ρ H1 Hh S e M=>?_⟩;have n:=ou h2;refine cZ (e.ow i b o n) λ a' J r af V=>?_;rw[e1]at J;cases J;refine⟨H1,a,o,ρ,j,d,l,by rw[yd],e.same,r,V,M,B,λ v dH H' m T I fr ok P=>?_⟩;exact q v dH H' (S.trans m) (e.lent n e1 m T I fr ok) P
end
theorem RS.startB{K:Frag}(s:aB J H)(h0:J a=none)(ok:eH K J H a o)(r:aD K J ds vs)(hn:n-(vs.length+1)=m):RS K ⟨J,H,[a]⟩ J H (.o true o::(ds.map .i++List.replicate m .z)) (some (.ref a)::(vs.map some++List.replicate (n-(vs.length+1)) none)):=by
 have R:=RS.start (n:=n-1) (m:=m) s r aE;have O:n-1-vs.length=n-(vs.length+1):=aE;rw[O]at R;have q:∀(i:Nat)(b:Bool)(o:MO),¬(ds.map Sl.i++List.replicate m Sl.z)[i]?=some (.o b o):=λ i b o e=>by
  by_cases hi:i<ds.length
  .grind
  .grind
 refine⟨s,aB.refl _,λ b o e=>.inl e,λ b o e _=>e,λ b Z e=>?_,?_,λ i d e=>?_,λ i b g e=>?_,λ i j b c h k x e1 e2 e3 e4=>?_⟩
 .obtain⟨u,f⟩:=ok.some;have:b=a:=by simpa using Z
  have e:=e;grind
 .rw[zg,zg,R.len]
 .cases i with
  |zero=>cases e
  |succ i=>exact R.im i d e
 .grind
 .grind
theorem y_9{K:Frag}{st:Stmt}(F:iz K x qual st f fd)(S:aG N ps (bA st))(hn:ps.length=n+1)(hN:N.length=n+1+m)(hb:∀(O:Value)(A:Around)(outer:fP)(s:Shared)(H:Hp)(E:XK),bJ k (A.deeper (envOfC qual (bA st) s.heap.n f O))->gA (f_ fX P w K mg base N qual (bA st) f O A outer s H E).nox (gQ st) B):cR P w K mg base fX (k+1) f fd ps (Oe K (jH n m B)):=by
 have t:∀{o:MO}{g:aK}{z:D×MO},jH n m B o g=some z->g.length=n/\∃r,B (.o true o::(g.map .i++List.replicate m .z))=some r/\DG r=some z:=λ{o g z}h=>by
  unfold jH at h;split at h
  .rename_i I;obtain⟨r,h1,h2⟩:=aP h;grind
  .simp at h
 have fin:∀{Z H aV H':Hp}{a:Addr}{o':MO}{c:En}{Y:L2.St},RS K ⟨Z,H,[a]⟩ aV H' c Y->c[0]?=some (.o true o')->aB Z aV/\aB aV H'/\(∀b u,H b=some u->b≠a->H' b=some u)/\(∀b u,aV b=some u->Z b=some u\/H b=none)/\eH K aV H' a o':=
  λ{Z H aV H' a o' c Y}R e=>by
   refine cZ (R.ow 0 true o' e) λ y _ _ z ok=>?_;rw[if_pos rfl]at z;have za:y=a:=by simpa using z
   subst za;exact⟨R.init,R.same,λ b u h n=>R.keep b u h (by simpa using n),R.fresh,ok⟩
 refine F.ok S (λ X H Q E h=>?_) (λ O A outer s H X Q E σ h=>?_)
 .obtain⟨Z,a,o,W,g,d,o',rfl,_,_,_,r,e,_⟩:=h;rw[hn,zg,<-r.length,(t e).1]
 .obtain⟨Z,a,o,W,g,d,o',rfl,M,G,ok,r,e,q⟩:=h;obtain⟨I,i,h1,h2⟩:=t e;have ac:=r.length;have R:=RS.startB (n:=N.length) (m:=m) M G ok r aE;refine⟨_,hb O A outer s H E σ,⟨Z,H,[a]⟩,Z,_,i,R,h1,?_⟩;cases i with
  |nx c=>
   obtain⟨⟨b,T⟩,j,l⟩:=aP (show aH (hH c[0]?) (λ q=>if q.1=true then some (D.n,q.2)else none)=some (d,o')from h2);obtain⟨J,p⟩:=bM l;cases p;have J:=J;subst J;exact λ Y aV H' V R=>let ⟨x1,x2,x3,x4,x5⟩:=fin R (ou j);q .n aV H' x1 x2 x3 x4 x5 (by rfl)
  |rt C c=>
   obtain⟨⟨b,T⟩,j,l⟩:=aP (show aH (hH c[0]?) (λ q=>if q.1=true then some (C,q.2)else none)=some (d,o')from h2);obtain⟨J,p⟩:=bM l;cases p;have J:=J;subst J;exact λ v Y aV H' V R ρ=>let ⟨x1,x2,x3,x4,x5⟩:=fin R (ou j);q v aV H' x1 x2 x3 x4 x5 ρ
  |bk c=>cases h2
  |ct c=>cases h2
def z_(K:Frag)(q H:Hp)(o:MO)(a:Addr)(dH H':Hp):Prop:=
 aB q dH/\aB dH H'/\aB H H'/\(∀b u,dH b=some u->q b=some u\/H b=none)/\dH a=none/\H a=none/\eH K dH H' a o
def Of(K:Frag)(g:aK->Option MO):Sp:=λ vs H Q _=>∃q ds o,aB q H/\aD K q ds vs/\g ds=some o/\∀a dH H',z_ K q H o a dH H'->Q (.ref a) H'
structure kH(P:Program)(w:World)(K:Frag)(mg:Str->Option Value)(base:Heap)(k:Nat)(x:Str)(g:aK->Option MO):Prop where
 ex:∃f fd ps,cR P w K mg base fX k f fd ps (Of K g)/\dE K fd ps []/\keepIn K (.ref f)=true/\mg x=some (.ref f)
theorem RS.got{K:Frag}(R:RS K c H0 H U L)(i:Nat)(h:z_ K H0 H o a aV H'):RS K c aV H' (U.set i (.o false o)) (L.set i (some (.ref a))):=by
 obtain⟨Z,s',s,fr,Y,d,ok⟩:=h;obtain⟨u,O⟩:=ok.some;have R2:=R.after ⟨Z,λ b v e=>by
  have:b≠a:=λ z=>by grind
  show(if b=a then none else H' b)=some v;rw[if_neg this];exact s b v e,λ b v e=>by
  have:b≠a:=λ z=>by grind
  rw[if_neg this];exact s' b v e,fr⟩
 have q:upd (λ b=>if b=a then none else H' b) a u=H':=by
  funext b;by_cases J:b=a
  .rw[J,cF,O]
  .rw[bS J];exact if_neg J
 have:=R2.setOwn i (if_pos rfl) (by rw[q];exact ok);rw[q]at this;exact this
section
theorem V3(i:Nat)(hN:X.N.Nodup)(G:kH X.p X.w X.K X.mg X.base k x g)(hr:bJ k X.A)(ha:XA X (e::es) A)(hi:X.N[i]?=some y:=by rfl)(hx:lP X.v.scope y:=by exact jW)(hs:swapsWith (.Call (.Name x p) (e::es) [] cpos) (some (.Name y pos')) pos.line X.v=pure false:=by rfl)(hf:X.fn y=true\/gf X y:=by exact jW)(hg:Gl X x:=by rfl)(Z:df x:=by decide)(he:iX X e es:=by rfl)(Y:iD X cpos es:=by rfl):XS X (.Assign [.Name y pos'] (.Call (.Name x p) (e::es) [] cpos) pos) (D9 i g A):=by
 refine dN G.ex λ f v ps F l m n=>?_;refine PS.wk (ri hN hi hx (uC F hr hg n m l .nil uX ha Z he Y) hs hf) λ Dn L H O=>?_;refine cB O λ c H0 U r R f q=>?_;obtain⟨⟨d,J⟩,h1,f⟩:=aP f;obtain⟨o,h2,f⟩:=aP f;have j:=f;obtain rfl:=aW j;exact bG c H0 U d J R h1 λ z H1 u t b s=>⟨H1,d,o,b.same,by rw[yd];exact s,h2,λ a dH H' h=>q _ dH H' (t.trans h.1) (b.got i h)⟩
def tN(K:Frag)(F:En->Option MO):TS:=λ Dn L H=>∃q J H0 U o,RS K ⟨q,J,[]⟩ H0 H U L/\F U=some o/\∀a aV H',z_ K q J o a aV H'->Dn.rt (.ref a) H'
def XN(X:Cx)(sts:jU)(F:En->Option MO):Prop:=eL X sts (tN X.K F)
theorem F_{st:Stmt}{rest:jU}(h1:PS X st (λ Dn L H=>∃O Z H0 U r,RS X.K ⟨O,Z,[]⟩ H0 H U L/\B U=some r/\fZ X.K ⟨O,Z,[]⟩ Dn H0 r))(h2:XN X rest N):XN X (st::rest) (sC B N):=
 eL.wk (wg h1 h2) λ Dn L H Y=>by
  refine bN Y λ O Z H0 U o R f q=>?_;obtain⟨z,h,f⟩:=aP f;refine bG O Z H0 U z R h ?_;cases z with
  |nx J=>exact λ b aV H' s a=>⟨O,Z,aV,J,o,a,f,q⟩
  |rt d J=>cases f
  |bk J=>cases f
  |ct J=>simp at f
theorem GN{st:Stmt}(h:XS X st B):PS X st (λ Dn L H=>∃J O H0 U r,RS X.K ⟨J,O,[]⟩ H0 H U L/\B U=some r/\fZ X.K ⟨J,O,[]⟩ Dn H0 r):=
 PS.wk h λ Dn L H⟨J,O,H0,U,r,R,f,q⟩=>⟨⟨J,O,[]⟩,H0,U,r,R,f,q⟩
def yM(X:Cx)(pos:Pos)(ks:aM)(keys:List (m3))(q:e_)(A:FA):Prop:=∃J,uE X pos keys q J/\ks.length=keys.length/\keys.length=q.length/\keys.all (·.isSome)=true/\∀(c:FC)(H0 H:Hp)(U ρ':En)(ds:aK)(L:L2.St)(Q:List (V×V)->Hp->Prop),RS X.K c H0 H U L->A U=some (ds,ρ')->(∀vs aV H',aB H0 aV->RS X.K c aV H' ρ' L->aD X.K aV ds vs->Q ((ks.map V.str).zip vs) H')->y_ J L H Q
theorem xp0:yM X pos [] [] [] aN:=⟨[],Td,rfl,rfl,rfl,λ c H0 H U a b L Q R f q=>by
 have J:=f;cases J;exact q [] H0 H (aB.refl _) R aD.nil_⟩
theorem tW(he:XE X e F)(hr:yM X pos ks keys J A):yM X pos (k::ks) (some (.Constant (.str k) j p2)::keys) (e::J) (aC F A):=by
 refine uf hr λ Y h1 h2 m n o=>?_;refine⟨(tC (.str k),tE X.K F)::Y,RZ uO he h1,by rw[zg,zg,h2],by rw[zg,zg,m],by rw[Qr,n];rfl,λ c H0 H U w x L Q R f q=>?_⟩;obtain⟨⟨d,O⟩,i,f⟩:=aP f;obtain⟨⟨r,Z⟩,l,f⟩:=aP f;have h:=f;cases h;refine⟨c,H0,U,d,O,R,i,λ v H1 b t g p=>?_⟩;exact o c H1 b O _ r L _ g l λ u H2 cV a R2 s=>q (v::u) H2 cV (t.trans a) R2 (aD.cons (aU.mono a d p) s)
theorem Kd:∀(more aI:fO),((aI++more).map (·.1)).Nodup->oy aI more=aI++more
 |[],aI,_=>by rw[yd];rfl
 |p::r,aI,h=>by
  have O:gV aI p.1=none:=by
   cases q:gV aI p.1 with
   |none=>rfl
   |some v=>
    have J:=SV q;rw[zx,zc,jn]at h;exact absurd rfl (h.2.2 _ J _ (qg ..))
  show oy (hZ aI p.1 p.2) r=_;rw[IQ p.2 O,Kd r _ (by simpa using h)];simp
theorem Kw:∀(ks:aM)(vs:b_),(ks.map V.str).zip vs=(dQ ks vs).map λ q=>(kV q.1,q.2)
 |[],_=>rfl
 |_::_,[]=>rfl
 |k::ks,v::vs=>by
  rw[tT,zc,zc,Qv,Kw ks vs];rfl
theorem RS.fence{K:Frag}(R:RS K c H0 H U L)(no:U.all h8=true)(J:H p=none):RS K ⟨H0,upd H p u,[]⟩ H0 (upd H p u) U L:=by
 have q:∀(i:Nat)(b:Bool)(o:MO),¬U[i]?=some (.o b o):=λ i b o e=>by
  have:=wm.mp no _ (zf e);cases this
 refine⟨λ b v e=>?_,aB.refl _,λ b o e=>.inl e,λ b o e _=>e,λ a h=>(by simp at h),R.len,R.im,λ i b o e=>absurd e (q i b o),λ i j b O o d a e=>absurd e (q i b o)⟩;have:b≠p:=λ z=>by rw[z,R.same.free J]at e;simp at e
 rw[bS this];exact R.same b v e
theorem xn1(h:yM X pos ks keys J A)(h0:keys≠[]:=by simp)(ae:keys.length<=15:=by simp):XN X [.Return (some (.Dict keys J pos)) aa] (Ae ks A):=by
 refine uf h λ C h1 h2 m n r=>?_;refine eL.wk (qX (zL (Tn h1 n m h0 ae))) λ Dn L H Y=>?_;refine bN Y λ B w H0 U o R f q=>?_;unfold Ae at f;by_cases no:U.all h8=true
 .rw[if_pos no]at f;obtain⟨⟨ds,k⟩,l,f⟩:=aP f;obtain⟨⟨d,E,u⟩,rfl⟩:=bM f;have d:ds.length=ks.length:=d;intro p a;refine r _ H0 _ U k ds L _ (R.fence no a) l λ vs H1 x F c i=>?_;have D:=i.length;have t:=c.keep p _ cF bP;refine⟨t,dQ ks vs,?_,?_,?_⟩
  .exact Kw ks vs
  .grind[dQ]
  .have nd:oy [] (dQ ks vs)=dQ ks vs:=by
    rw[Kd]
    .rfl
    .rw[Zl];unfold dQ;rw[yz (by grind)];exact List.pairwise_map.mpr (u.imp λ j z=>j (Z1 z))
   rw[nd];have O:=R.step;have Z:=c.step;have g:H1 p=none:=by
    cases z:H1 p with
    |none=>rfl
    |some v=>
     rcases Z.fr p v z with y|y
     .rw[R.same.free a]at y;simp at y
     .rw[cF]at y;simp at y
   refine q p H1 _ ⟨O.s0.trans Z.s0,λ b v e=>?_,λ b v e=>?_,λ b v e=>?_,g,O.s.free a,?_⟩
   .have:b≠p:=λ z=>by rw[z,g]at e;simp at e
    rw[bS this];exact Z.s' b v e
   .have e1:=O.s b v e;have:b≠p:=λ z=>by grind
    rw[bS this];exact Z.s b v (by rw[bS this];exact e1)
   .rcases Z.fr b v e with y|y
    .exact O.fr b v y
    .have:b≠p:=λ z=>by rw[z,cF]at y;simp at y
     rw[bS this]at y;exact .inr (O.s.free y)
   .have e1:(ks.zip ds).map (·.1)=ks:=yz aE;have e2:(ks.zip ds).map (·.2)=ds:=Zb aE;exact⟨ks,vs,by rw[cF];rfl,e1.symm,by rw[e2];exact i⟩
 .rw[if_neg no]at f;simp at f
end
theorem Mb{K:Frag}{st:Stmt}(F:iz K x qual st f fd)(S:aG N ps (bA st))(hn:ps.length=n)(hN:N.length=n+m)(Z:∀(J:Value)(A:Around)(outer:fP)(s:Shared)(H:Hp)(E:XK),bJ k (A.deeper (envOfC qual (bA st) s.heap.n f J))->XN (f_ fX P w K mg base N qual (bA st) f J A outer s H E).nox (gQ st) B):cR P w K mg base fX (k+1) f fd ps (Of K (qO n m B)):=by
 refine F.ok S (λ d H Q E h=>?_) (λ J A outer s H d Q E b h=>?_)
 .refine dN h λ O a o _ r e _=>?_;unfold qO at e;split at e
  .rename_i Y;rw[hn,<-r.length];exact Y
  .simp at e
 .refine dN h λ O a o c r e q=>?_;unfold qO at e;split at e
  .rename_i Y;exact⟨_,Z J A outer s H E b,O,H,O,_,o,RS.start c r (by rw[<-r.length];lia),e,q⟩
  .simp at e
end
section
def nB:D->Option Int->Option Int->Option D
 |.l xs,lo,hi=>some (.l (jN xs lo hi))
 |.t xs,lo,hi=>if iq xs.length 0 lo=0/\iq xs.length xs.length hi=xs.length then none else some (.t (jN xs lo hi))
 |.str z,lo,hi=>if z.length<=sizeLine then some (.str (Txt.slice z lo hi))else none
 |_,_,_=>none
def kK(F:FE)(lo hi:FO)(U:En):bB:=aH (F U) λ p=>aH (lo p.2) λ l=>aH (hi l.2) λ h=>aH (nB p.1 l.1 h.1) λ d=>some (d,h.2)
noncomputable def E7(x z:Str):Bool:=!(Builtin.Str.occurrences z x 0 z.length 1).isEmpty
def mL:D->D->Option D
 |x,.t xs=>if gM x xs=true then some (.b (gp x xs))else none
 |x,.l xs=>if gM x xs=true then some (.b (gp x xs))else none
 |.str x,.str z=>some (.b (E7 x z))
 |_,_=>none
def vh:D->D->Option D
 |x,.t xs=>if gM x xs=true then some (.b (!gp x xs))else none
 |x,.l xs=>if gM x xs=true then some (.b (!gp x xs))else none
 |.str x,.str z=>some (.b (!E7 x z))
 |_,_=>none
def Mc(x:D)(l:bZ)(o:Option (bZ×En)):bB:=aH o λ h=>aH (nB x l h.1) λ d=>some (d,h.2)
def Md(hi:FO)(x:D)(o:Option (bZ×En)):bB:=aH o λ l=>aH (hi l.2) λ h=>aH (nB x l.1 h.1) λ d=>some (d,h.2)
def Me(lo hi:FO)(o:bB):bB:=aH o λ p=>aH (lo p.2) λ l=>aH (hi l.2) λ h=>aH (nB p.1 l.1 h.1) λ d=>some (d,h.2)
@[simp] theorem cd1:(∀F lo hi U,kK F lo hi U=Me lo hi (F U))/\(∀lo hi x U,Me lo hi (some (x,U))=Md hi x (lo U))/\(∀hi x l U,Md hi x (some (l,U))=Mc x l (hi U))/\(∀x l h U,Mc x l (some (h,U))=g_ (nB x l h) U)/\(∀xs lo hi,nB (.l xs) lo hi=some (.l (jN xs lo hi)))/\(∀xs lo hi,nB (.t xs) lo hi=if iq xs.length 0 lo=0/\iq xs.length xs.length hi=xs.length then none else some (.t (jN xs lo hi)))/\(∀z lo hi,nB (.str z) lo hi=if z.length<=sizeLine then some (.str (Txt.slice z lo hi))else none):=fz
@[simp] theorem YN:mL x (.t xs)=if gM x xs=true then some (.b (gp x xs))else none:=by cases x<;>rfl
@[simp] theorem YO:mL x (.l xs)=if gM x xs=true then some (.b (gp x xs))else none:=by cases x<;>rfl
@[simp] theorem co3(x:D)(xs:aK):vh x (.t xs)=if gM x xs=true then some (.b (!gp x xs))else none:=by cases x<;>rfl
@[simp] theorem co4(x:D)(xs:aK):vh x (.l xs)=if gM x xs=true then some (.b (!gp x xs))else none:=by cases x<;>rfl
open PySem.Spec PyProof.Rows L2
section
variable{K:Frag}
def Wh:V->Option Int->Option Int->Hp->VK->Prop:=λ x lo hi H Q=>∃z,x=.str z/\z.length<=sizeLine/\Q (.str (Txt.slice z lo hi)) H
theorem L1(p:IsPart v o):∃l:Option (Int×Tok),v=partValue l/\l.map (·.1)=o:=by
 cases p with
 |none=>exact⟨none,rfl,rfl⟩
 |int i t=>exact⟨some (i,t),rfl,rfl⟩
theorem Jn:oC X Wh:=by intro aA s L H x v d e lo hi b Q I O Y Z J h;obtain⟨z,rfl,a,q⟩:=h;obtain⟨t,rfl⟩:=O;obtain⟨l,rfl,rfl⟩:=L1 Z;obtain⟨u,rfl,rfl⟩:=L1 J;refine⟨"str",_,slot_str_getitem.lookup,typeIs_str _ _ _,wpAny_getItem_str_slice (st:=none) Y rfl ?_⟩;exact post_val_or_str ⟨qy (Yf z _ _) a,λ c k=>⟨.str (Txt.slice z (l.map (·.1)) (u.map (·.1))),H,I.tok _,⟨_,rfl⟩,q⟩⟩
theorem SN{lo hi:m3}(he:XE X e F)(hl:XO X lo A)(hh:XO X hi B):XE X (.Subscript e (.Slice lo hi none p2) pos) (kK F A B):=PE.wk (J6 ((kF.or Jm).or Jn) he hl hh) λ L H Q Y=>by
 refine bN Y λ c H0 U d K R f q=>?_;obtain⟨⟨x,Z⟩,h1,f⟩:=aP f;obtain⟨⟨l,n⟩,h2,f⟩:=aP f;obtain⟨⟨u,M⟩,E,f⟩:=aP f;obtain⟨N,O,f⟩:=aP f;have C:=f;cases C;refine bG c H0 U x Z R h1 λ v H1 σ k y I=>?_;refine bG c H1 Z l n y h2 λ H2 cV g R2=>?_;refine bG c H2 n u _ R2 E λ m fe h J=>?_;have r3:=aU.mono h x (aU.mono g x I);cases x with
 |l a=>
  have e:=qi O;subst e;obtain⟨p,b,rfl,s,t⟩:=r3;refine .inl (.inl ⟨p,b,rfl,aB.seq J.same s,λ j i=>?_⟩);have S:=bY.alloc (o:=.l (oF b l u)) J.same i;refine q _ _ _ (k.trans (g.trans (h.trans S.s0))) (J.after S) ?_;exact cD j _ rfl (.inl (.inl cF)) (aD.mono S.s0 _ (Cn t l u))
 |t a=>
  have r:(if iq a.length 0 l=0/\iq a.length a.length u=a.length then none else some (D.t (jN a l u)))=some d:=O;by_cases w:iq a.length 0 l=0/\iq a.length a.length u=a.length
  .grind
  .rw[if_neg w]at r;obtain rfl:=aW r;obtain⟨p,b,rfl,s,t⟩:=r3;refine .inl (.inr ⟨p,b,rfl,aB.seqT J.same s,?_,λ j i=>?_⟩)
   .rw[<-yB,<-yB,<-t.length];exact w
   have S:=bY.alloc (o:=.t (oF b l u)) J.same i;refine q _ _ _ (k.trans (g.trans (h.trans S.s0))) (J.after S) ?_;exact cD j _ rfl (.inl (.inl cF)) (aD.mono S.s0 _ (Cn t l u))
 |str z=>
  obtain⟨G,rfl⟩:=bM O;exact .inr ⟨z,r3,G,q _ m fe (k.trans (g.trans h)) J (uk m _)⟩
 |_=>cases O
theorem d3.or(h:d3 X f r)(h':d3 X f Y):d3 X f (λ x y H Q=>r x y H Q\/Y x y H Q):=by grind[d3]
theorem L8:ki K (tJ K false) dIn:=L9 λ x y d e=>by
 cases y with
 |t xs=>obtain⟨h,rfl⟩:=bM e;exact⟨xs,.inl rfl,h,rfl⟩
 |l xs=>obtain⟨h,rfl⟩:=bM e;exact⟨xs,.inr rfl,h,rfl⟩
 |_=>cases e
theorem MJ:ki K (tJ K true) ZH:=L9 λ x y d e=>by
 cases y with
 |t xs=>obtain⟨h,rfl⟩:=bM (c:=gM x xs=true) e;exact⟨xs,.inl rfl,h,rfl⟩
 |l xs=>obtain⟨h,rfl⟩:=bM (c:=gM x xs=true) e;exact⟨xs,.inr rfl,h,rfl⟩
 |_=>cases e
theorem DQ:iI X .In mL:=⟨_,d3.or U2 U1,λ c H0 H U L x y d Z f Q R O Y e q=>by
 cases y with
 |t xs=>rw[YN]at e;exact .inl (L8 c H0 H U L x (.t xs) d Z f Q R O Y e q)
 |l xs=>rw[YO]at e;exact .inl (L8 c H0 H U L x (.l xs) d Z f Q R O Y e q)
 |str b=>
  cases x with
  |str a=>
   have g:=e;obtain rfl:=aW g;subst O Y;exact .inr ⟨a,b,rfl,rfl,q _ H0 H (aB.refl _) R (lE _ _)⟩
  |_=>cases e
 |_=>cases e⟩
theorem cx3:iI X .NotIn vh:=⟨_,d3.or Ib YU,λ c H0 H U L x y d Z f Q R O Y e q=>by
 cases y with
 |t xs=>rw[co3]at e;exact .inl (MJ c H0 H U L x (.t xs) d Z f Q R O Y e q)
 |l xs=>rw[co4]at e;exact .inl (MJ c H0 H U L x (.l xs) d Z f Q R O Y e q)
 |str b=>
  cases x with
  |str a=>
   have g:some (D.b (!E7 a b))=some d:=e;obtain rfl:=aW g;unfold aU at O Y;subst O Y;exact .inr ⟨a,b,rfl,rfl,q _ H0 H (aB.refl _) R (lE _ _)⟩
  |_=>cases e
 |_=>cases e⟩
end
end
section
def tI:k6->Option MO
 |some (.o true o)=>some o
 |_=>none
def mK(U:En)(i:Nat)(o:MO):d0->Option En
 |[]=>some []
 |j::js=>aH (if j=i then some (.o true o)else tL U[j]?) λ s=>aH (mK U i o js) λ r=>some (s::r)
def ku(T:FT)(F:FE)(U:En)(i:Nat)(js:d0)(q:Nat):MO->List D->Option (aK×MO)
 |o,[]=>some ([],o)
 |o,d::r=>aH (mK U i o js) λ fr=>aH (T (.i d::fr)) λ p=>if p.1=true then aH (F p.2) λ z=>aH (tI z.2[q+1]?) λ o'=>aH (ku T F U i js q o' r) λ t=>some (z.1::t.1,t.2)
   else aH (tI p.2[q+1]?) λ o'=>ku T F U i js q o' r
theorem SD(T:FT)(F:FE)(U:En)(i:Nat)(js:d0)(q:Nat)(o:MO):ku T F U i js q o []=some ([],o):=rfl
theorem By(T:FT)(F:FE)(U:En)(i:Nat)(js:d0)(q:Nat)(o:MO)(d:D)(r:aK):ku T F U i js q o (d::r)=aH (mK U i o js) λ fr=>aH (T (.i d::fr)) λ p=>if p.1=true then aH (F p.2) λ z=>aH (tI z.2[q+1]?) λ o'=>aH (ku T F U i js q o' r) λ t=>some (z.1::t.1,t.2)
   else aH (tI p.2[q+1]?) λ o'=>ku T F U i js q o' r:=rfl
def wo(js:d0)(i q:Nat)(T:FT)(F:FE)(xs:aK)(U:En):bB:=aH (hH U[i]?) λ w=>aH (ku T F U i js q w.2 xs) λ t=>if xs.length<=sizeLine/\js[q]?=some i/\js.Nodup then some (.l t.1,U.set i (.o w.1 t.2))else none
def vn(js:d0)(i q:Nat)(I:FE)(T:FT)(F:FE)(U:En):bB:=aH (I U) λ p=>aH (items p.1) λ xs=>wo js i q T F xs p.2
open PySem.Spec PyProof.Rows L2
theorem Xw(h:tI s=some o):s=some (.o true o):=match s,h with|some (.o true _),h=>by obtain rfl:=jh h;rfl
theorem Kk:∀{js:d0}{fr:En},mK U i o js=some fr->fr.length=js.length/\∀(k:Nat)(s:Sl),fr[k]?=some s->∃j,js[k]?=some j/\((j=i/\s=.o true o)\/∃d,U[j]?=some (.i d)/\s=.i d)
 |[],_,h=>by
  have h':=qi h;subst h';exact⟨rfl,λ k s e=>by simp at e⟩
 |j::js,_,h=>by
  refine bE (aP h) λ s h1 h=>?_;refine bE (aP h) λ r h2 h=>?_;obtain rfl:=aW h;obtain⟨a,b⟩:=Kk h2;refine⟨by rw[zg,zg,a],λ k s' e=>?_⟩;cases k with
  |zero=>
   simp at e;subst e;refine⟨j,rfl,?_⟩;by_cases q:j=i
   .grind
   .rw[if_neg q]at h1;cases z:U[j]? with
    |none=>rw[z]at h1;cases h1
    |some O=>
     rw[z]at h1;cases O with
     |i d=>exact .inr ⟨d,rfl,(qi h1).symm⟩
     |_=>cases h1
  |succ k=>
   refine bE (b k s' (by simpa using e)) λ Z Y J=>?_;exact⟨Z,by simpa using Y,J⟩
theorem T9:∀js:d0,mK (U.set i s) i o js=mK U i o js:=by intro a;induction a<;>grind[mK]
theorem R4{js:d0}(h:js.Nodup){k l i:Nat}(a:js[k]?=some i)(b:js[l]?=some i):k=l:=by obtain⟨O,q⟩:=fC.mp a;obtain⟨Y,J⟩:=fC.mp b;exact(List.getElem_inj h).mp (q.trans J.symm)
theorem RS.blockB{K:Frag}(R:RS K c H0 H U L)(hi:U[i]?=some (.o b o))(ha:L[i]?=some (some (.ref a)))(nd:js.Nodup)(hf:mK U i o js=some fr)(rx:aU K H0 d x):RS K ⟨H0,H,[a]⟩ H0 H (.i d::fr) (some x::g8 L js):=by
 obtain⟨l,g⟩:=Kk hf;refine cZ (R.ow i b o hi) λ E r D Q s=>?_;rw[ha]at r;cases r;refine⟨R.same,aB.refl _,λ b o e=>.inl e,λ b o e _=>e,λ z A e=>?_,?_,λ k t e=>?_,λ k F M e=>?_,λ k n G I N P z e1 e2 e3 e4=>?_⟩
 .obtain⟨u,y⟩:=s.some;have Z:z=a:=by simpa using A
  have e:=e;rw[Z,y]at e;simp at e
 .rw[zg,zg,l,g8,qx]
 .cases k with
  |zero=>simp at e;subst e;exact⟨x,rfl,rx⟩
  |succ k=>
   obtain⟨j,J,q⟩:=g k _ (by simpa using e);rcases q with⟨_,f⟩|⟨w,q,f⟩
   .simp at f
   .cases f;obtain⟨v,B,C⟩:=R.im j t q;refine⟨v,?_,C⟩;show(g8 L js)[k]?=some (some v);unfold g8;rw[zl,J];show some (L[j]?).join=some (some v);rw[B];rfl
 .cases k with
  |zero=>simp at e
  |succ k=>
   obtain⟨j,J,q⟩:=g k _ (by simpa using e);rcases q with⟨h,f⟩|⟨w,_,f⟩
   .cases f;subst h;refine kJ a ?_ D (by rw[if_pos rfl];exact List.mem_singleton.mpr rfl) s;show(g8 L js)[k]?=some (some (.ref a));unfold g8;rw[zl,J];show some (L[j]?).join=some (some (.ref a));rw[ha];rfl
   .simp at f
 .cases k with
  |zero=>simp at e1
  |succ k=>
   cases n with
   |zero=>simp at e2
   |succ n=>
    obtain⟨j,J,q⟩:=g k _ (by simpa using e1);obtain⟨σ,O,Y⟩:=g n _ (by simpa using e2);rcases q with⟨h,_⟩|⟨_,_,f⟩
    .rcases Y with⟨m,_⟩|⟨_,_,p⟩
     .rw[h]at J;rw[m]at O;rw[R4 nd J O]
     .simp at p
    .simp at f
theorem RS.unblock{K:Frag}(R:RS K c H0 H U L)(hi:U[i]?=some (.o b o))(Z:L[i]?=some (some (.ref a)))(R2:RS K ⟨H0,H,[a]⟩ H2 cV J (some x::g8 L js))(Y:tI J[q+1]?=some o'):RS K c H2 cV (U.set i (.o b o')) L:=by
 refine cZ (R2.ow (q+1) true o' (Xw Y)) λ d _ _ O f=>?_;rw[if_pos rfl]at O;have e:d=a:=by simpa using O
 subst e;exact R.lent hi Z R2.init R2.same (λ y u e n=>R2.keep y u e (by simpa using n)) R2.fresh f
theorem JC{K:Frag}(R:RS K c H1 Hh U L)(hi:U[i]?=some (.o b o))(nd:js.Nodup)(hc:ku T F U i js q o xs=some (out,o'))(hz:xs.length<=sizeLine)(hy:oh K J H1 xs)(qf:∀ys H0 H,aB H1 H0->RS K c H0 H (U.set i (.o b o')) L->aD K H0 out ys->Qf ys H):pI js (jZ K T) (tE K F) L Qf J Hh:=by
 have B:=(fC.mp hi).1;obtain⟨a,s,_⟩:=R.ow i b o hi;have Z:∀o,(U.set i (.o b o))[i]?=some (.o b o):=λ o=>z0 B;have e0:U.set i (.o b o)=U:=by obtain⟨_,e⟩:=fC.mp hi;rw[<-e];exact List.set_getElem_self B
 refine⟨λ n m ys H=>m=xs.length-n/\n<=xs.length/\∃H0 d,aB H1 H0/\RS K c H0 H (U.set i (.o b d)) L/\∃Y rest,aD K H0 Y ys/\Y.length<=n/\ku T F U i js q d (xs.drop n)=some (rest,o')/\Y++rest=out,⟨xs.length,by simp,ym _,H1,o,aB.refl _,by rw[e0];exact R,[],out,aD.nil_,ym _,by simpa using hc,rfl⟩,?_⟩
 rintro n m ys H ⟨rfl,A,H0,d,j,f,Y,rest,g,lp,O,e⟩;obtain⟨S,ρ⟩:=hy H0 H n j f.same;by_cases p:n<xs.length
 .have hd:xs[n]?=some xs[n]:=by simp[p]
  obtain⟨go,V⟩:=S _ hd;refine .inr ⟨go,by rw[<-g.length];lia,λ x H' hx=>?_⟩;obtain⟨rfl,Q⟩:=V x H' hx;rw[xu hd,By]at O;obtain⟨fr,I,O⟩:=aP O;obtain⟨⟨bb,y⟩,σ,O⟩:=aP O;have E:=f.blockB (Z d) s nd (by rw[T9];exact I) Q;refine bG ⟨H0,H',[a]⟩ H0 _ bb y E σ λ H2 cV k R2=>?_;cases bb with
  |false=>
   rw[if_neg zh]at O⊢;obtain⟨u,r,O⟩:=aP O;have h:=f.unblock (Z d) s R2 r;rw[List.set_set]at h;exact⟨xs.length-(n+1),by lia,rfl,p,H2,u,j.trans k,h,Y,rest,aD.mono k _ g,by lia,O,e⟩
  |true=>
   rw[if_pos rfl]at O⊢;refine gn λ W P=>?_;obtain⟨⟨z,G⟩,M,O⟩:=aP O;obtain⟨u,r,O⟩:=aP O;obtain⟨⟨t,ot⟩,N,O⟩:=aP O;refine P ?_;have l:=O;cases l;refine bG ⟨H0,H',[a]⟩ H2 y z G R2 M λ v D fe C h r3=>?_;have w:=f.unblock (Z d) s h r;rw[List.set_set]at w;refine⟨xs.length-(n+1),by lia,rfl,p,D,u,j.trans (k.trans C),w,Y++[z],t,(aD.mono (k.trans C) _ g).app (aD.one r3),?_,N,?_⟩
   .grind
   .grind
 .have X:n=xs.length:=aE;have A:xs.drop n=[]:=Q5 aE;rw[A,SD]at O;have l:=O;cases l;rw[yd]at e;subst e;exact .inl ⟨ρ aE,by rw[<-g.length];lia,qf ys H0 H j f g⟩
theorem K1(h:wo js i q T F xs U=some (d,ρ')):∃b o ys o',U[i]?=some (.o b o)/\ku T F U i js q o xs=some (ys,o')/\xs.length<=sizeLine/\js.Nodup/\d=.l ys/\ρ'=U.set i (.o b o'):=by obtain⟨⟨b,o⟩,h1,h⟩:=aP h;obtain⟨⟨ys,o'⟩,h2,h⟩:=aP h;obtain⟨⟨J,Y,O⟩,h⟩:=bM h;cases h;exact⟨b,o,ys,o',ou h1,h2,J,O,rfl,rfl⟩
section
variable{bM:e_}
theorem V4(i q:Nat)(hc:X.c=true)(Y:X.v.scope=sc)(B:fu X.N sc scope x aY js)(hi:XE X iter I)(ht:∀s H C Z,nt (dR X (x::aY) scope s H C Z) bM T)(he:∀s H C Z,XE (dR X (x::aY) scope s H C Z) elt F)(hs:nR X iter:=by intro _;rfl):XE X (.ListComp elt [⟨.Name x px,iter,bM,0⟩] scope pos) (vn js i q I T F):=
 PE.wk (LZ (tt:=jZ X.K T) (te:=tE X.K F) hc Y B (vg hi) ht he hs) λ L H Q O=>by
  refine bN O λ c H0 U d r R f k=>?_;obtain⟨⟨z,u⟩,h1,f⟩:=aP f;obtain⟨xs,h2,f⟩:=aP f;obtain⟨b,o,ys,v,k1,k2,k3,j,rfl,rfl⟩:=K1 f;refine wu R h1 h2 λ J H1 t m e h=>?_;refine JC e k1 j k2 k3 h λ a H2 cV n R2 l=>λ p g=>?_;have S:=bY.alloc (o:=.l a) R2.same g;refine k _ _ _ (m.trans (n.trans S.s0)) (R2.after S) ?_;exact cD p a rfl (.inl (.inl cF)) (aD.mono S.s0 _ l)
end
section
variable{bM:e_}
theorem SR(n:Nat)(hN:X.N.Nodup)(i q:Nat)(hc:X.c=true)(aa:X.v.scope=sc)(Bk:fu X.N sc scope x aY js)(hi:XE X iter I)(ht:∀s H C Z,nt (dR X (x::aY) scope s H C Z) bM T)(he:∀s H C Z,XE (dR X (x::aY) scope s H C Z) elt F)(ac:X.N[n]?=some y:=by rfl)(hy:gf X y:=by rfl)(Y:swapsWith (.ListComp elt [⟨.Name x px,iter,bM,0⟩] scope pos) (some (.Name y py)) spos.line X.v=pure true:=by rfl)(hs:nR X iter:=by intro _;rfl):XS X (.Assign [.Name y py] (.ListComp elt [⟨.Name x px,iter,bM,0⟩] scope pos) spos) (bH n (vn js i q I T F)):=
 PS.wk (w_ (tt:=jZ X.K T) (te:=tE X.K F) hN ac hy hc aa Bk (vg hi) ht he Y hs) λ Dn L H O=>by
  refine cB O λ c H0 U r R f l=>?_;obtain⟨⟨d,w⟩,h1,f⟩:=aP f;have g:=f;obtain rfl:=aW g;obtain⟨⟨z,A⟩,h,h1⟩:=aP h1;obtain⟨xs,h2,h1⟩:=aP h1;obtain⟨b,o,ys,B,k1,k2,k3,k,rfl,rfl⟩:=K1 h1;refine wu R h h2 λ J H1 v t e hy=>?_;refine JC e k1 k k2 k3 hy λ a H2 cV u R2 m=>λ p j=>?_;have S:=bY.alloc (o:=.l a) R2.same j;refine l _ _ _ (t.trans (u.trans S.s0)) ((R2.after S).set n ?_);exact cD p a rfl (.inl (.inl cF)) (aD.mono S.s0 _ m)
end
end
section
noncomputable def iZ(a b:Str):Bool:=decide (a.cps.toList<b.cps.toList)
def oH(x:Str):aM->List Str
 |[]=>[x]
 |y::r=>if iZ y x=true then y::oH x r else x::y::r
def et:aM->List Str
 |[]=>[]
 |x::r=>oH x (et r)
def pR:aK->Option (aM)
 |[]=>some []
 |.str x::r=>aH (pR r) λ t=>some (x::t)
 |_=>none
theorem HW(x:Str)(r:aK):pR (.str x::r)=aH (pR r) λ t=>some (x::t):=rfl
def nj(xs:aK):fN:=aH (pR xs) λ ss=>if ss.length<64 then some (.l ((et ss).map .str))else none
def ph:aK->Option D
 |[.t xs]=>nj xs
 |[.l xs]=>nj xs
 |_=>none
noncomputable def zP:D->Option Str
 |.str x=>some x
 |_=>none
def oq:aK->Option (ey)
 |[]=>some []
 |.t [.str k,v]::r=>aH (oq r) λ t=>some ((k,v)::t)
 |_=>none
theorem TH(k:Str)(v:D)(r:aK):oq (.t [.str k,v]::r)=aH (oq r) λ t=>some ((k,v)::t):=rfl
def sI(xs:aK)(k:D)(d:D):fN:=aH (oq xs) λ aI=>aH (zP k) λ k=>if aI.length<=1000/\(aI.map (·.1)).Nodup then some ((cf k aI).getD d)else none
def Ah:D->Option (aK)
 |.t xs=>some xs
 |_=>none
def Az(E J O:FE)(U:En):bB:=aH (E U) λ p=>aH (Ah p.1) λ xs=>if p.2.all h8=true then aH (J p.2) λ q=>aH (O q.2) λ r=>aH (sI xs q.1 r.1) λ d=>some (d,r.2)else none
def EM(xs:aK)(k:D)(o:bB):bB:=aH o λ r=>aH (sI xs k r.1) λ d=>some (d,r.2)
def EN(J:FE)(xs:aK)(o:bB):bB:=aH o λ q=>EM xs q.1 (J q.2)
def EO(q J:FE)(U:En)(o:Option (aK)):bB:=aH o λ xs=>if U.all h8=true then EN J xs (q U)else none
def Ni(q J:FE)(o:bB):bB:=aH o λ p=>EO q J p.2 (Ah p.1)
@[simp] theorem cH5:(∀xs,Ah (.t xs)=some xs)/\(∀d,h8 (.i d)=true)/\(∀xs,ph [.t xs]=nj xs)/\(∀xs,ph [.l xs]=nj xs)/\(∀E q J U,Az E q J U=Ni q J (E U))/\(∀q J x U,Ni q J (some (x,U))=EO q J U (Ah x))/\(∀q J U xs,EO q J U (some xs)=if U.all h8=true then EN J xs (q U)else none)/\(∀q xs k U,EN q xs (some (k,U))=EM xs k (q U))/\(∀xs k d U,EM xs k (some (d,U))=g_ (sI xs k d) U):=fz
theorem mem_insS:∀{l:aM},y∈oH x l↔y=x\/y∈l:=by intro a;induction a<;>grind[oH]
theorem xx:∀(ss:aM),pR (ss.map .str)=some ss
 |[]=>rfl
 |x::r=>by rw[zc,HW,xx r];rfl
noncomputable def jD(acc:aM)(x:Str):aM:=if x∈acc then acc else acc++[x]
def d5(acc:aM)(xs:aM):aM:=xs.foldl jD acc
def w5(xs:aK):fN:=aH (pR xs) λ ss=>if ss.length<64 then some (.l ((et (d5 [] ss)).map .str))else none
theorem Pn(ks:aM)(h:ks.length<64):w5 (ks.map .str)=some (.l ((et (d5 [] ks)).map .str)):=by unfold w5;rw[xx,dX,if_pos h]
theorem v7:∀{xs acc:aM},y∈d5 acc xs↔y∈acc\/y∈xs
 |[],acc=>by simp[d5]
 |x::r,acc=>by
  have J:=v7 (y:=y) (xs:=r) (acc:=jD acc x);grind[d5,jD]
def nY:D->Option (aK)
 |.t xs=>some xs
 |.l xs=>some xs
 |_=>none
def ro:aK->Option D
 |[x,y]=>aH (nY x) λ xs=>aH (nY y) λ ys=>if xs.length+ys.length<=60 then w5 (xs++ys)else none
 |_=>none
@[simp] theorem LL:nY (.t xs)=some xs:=yI rfl
theorem HK(x y:D):ro [x,y]=aH (nY x) λ xs=>aH (nY y) λ ys=>if xs.length+ys.length<=60 then w5 (xs++ys)else none:=rfl
noncomputable def kS:D->Option Str
 |.str k=>some k
 |_=>none
def nJ(k:Str)(d:D)(aO:ey):ey:=if(cf k aO).isSome=true then jE k d aO else aO++[(k,d)]
noncomputable def wH(i:Nat)(U:En):cC:=some (.nx (U.set i (.o false (.d []))))
def El(i:Nat)(d:D)(U:En)(k:Str)(o:Option (Bool×List (Str×D))):cC:=aH o λ q=>if q.2.length<100 then some (.nx (U.set i (.o q.1 (.d (nJ k d q.2)))))else none
def Em(i:Nat)(d:D)(U:En)(o:Option Str):cC:=aH o λ k=>El i d U k (i0 U[i]?)
def Eo(i:Nat)(d:D)(o:bB):cC:=aH o λ p=>Em i d p.2 (kS p.1)
def Ep(i:Nat)(G:FE)(d:D)(U:En)(o:Option (Bool×List (Str×D))):cC:=aH o λ _=>Eo i d (G U)
def Er(i:Nat)(G:FE)(o:bB):cC:=aH o λ p=>Ep i G p.1 p.2 (i0 p.2[i]?)
def nc(i:Nat)(G F:FE)(U:En):cC:=Er i G (F U)
noncomputable def AO:k6->Option MO
 |some (.o false o)=>some o
 |_=>none
def Ar(i:Nat)(U:En):Option MO:=AO U[i]?
@[simp] theorem cL9:(∀k,kS (.str k)=some k)/\(∀i U,wH i U=some (.nx (U.set i (.o false (.d [])))))/\(∀i G F U,nc i G F U=Er i G (F U))/\(∀i G d U,Er i G (some (d,U))=Ep i G d U (i0 U[i]?))/\(∀i G d U q,Ep i G d U (some q)=Eo i d (G U))/\(∀i d x U,Eo i d (some (x,U))=Em i d U (kS x))/\(∀i d U k,Em i d U (some k)=El i d U k (i0 U[i]?))/\(∀i d U k b aO,El i d U k (some (b,aO))=if aO.length<100 then some (.nx (U.set i (.o b (.d (nJ k d aO)))))else none)/\(∀o,AO (some (.o false o))=some o)/\(∀i U,Ar i U=AO U[i]?):=fz
mutual
noncomputable def nd:D->Bool
 |.opq=>false
 |.c _ _=>false
 |.t xs=>wz xs
 |.l xs=>wz xs
 |_=>true
noncomputable def wz:aK->Bool
 |[]=>true
 |d::r=>nd d&&wz r
end
noncomputable def ma(aO:ey):Sl:=.i (.c (aO.map (·.1)) (aO.map (·.2)))
def Ao(i:Nat)(G:FS)(U:En)(o:Option (Bool×List (Str×D))):cC:=aH o λ q=>if q.1=false then G (U.set i (ma q.2))else none
def vM(i:Nat)(G:FS)(U:En):cC:=Ao i G U (i0 U[i]?)
noncomputable def ve:MO->Option D
 |.d aO=>some (.c (aO.map (·.1)) (aO.map (·.2)))
 |_=>none
def Es(U:En)(o:fN):bB:=aH o λ d=>some (d,U)
def Et(U:En)(o:Option MO):bB:=aH o λ m=>Es U (ve m)
def Eu(g:aK->Option MO)(o:Option (aK×En)):bB:=aH o λ p=>Et p.2 (g p.1)
def AG(g:aK->Option MO)(A:FA)(U:En):bB:=Eu g (A U)
def Aj:aK->Option D
 |[.c ks ds]=>some (.c ks ds)
 |_=>none
def AB:D->D->Option D
 |.c ks ds,.str k=>cf k (ks.zip ds)
 |_,_=>none
@[simp] theorem cK4:(∀i G U,vM i G U=Ao i G U (i0 U[i]?))/\(∀i G U b aO,Ao i G U (some (b,aO))=if b=false then G (U.set i (ma aO))else none)/\(∀aO,ve (.d aO)=some (.c (aO.map (·.1)) (aO.map (·.2))))/\(∀g A U,AG g A U=Eu g (A U))/\(∀g ds U,Eu g (some (ds,U))=Et U (g ds))/\(∀U m,Et U (some m)=Es U (ve m))/\(∀U d,Es U (some d)=some (d,U))/\(∀ks ds k,AB (.c ks ds) (.str k)=cf k (ks.zip ds)):=fz
noncomputable def jP:D->Bool
 |.n=>true
 |.int _=>true
 |_=>false
def Ai(d:D):fN->Bool
 |some e=>cJ d e
 |none=>false
def vL(a b:ey):Bool:=a.length==b.length&&a.all λ p=>Ai p.2 (cf p.1 b)
def sO:D->D->Option D
 |.c ks ds,.c ms es=>if ds.all jP=true/\es.all jP=true then some (.b (vL (ks.zip ds) (ms.zip es)))else none
 |_,_=>none
@[simp] theorem cH1(ks q:aM)(ds es:aK):sO (.c ks ds) (.c q es)=if ds.all jP=true/\es.all jP=true then some (.b (vL (ks.zip ds) (q.zip es)))else none:=yI rfl
def Ob:FS:=λ _=>none
open PySem.Spec PyProof.Rows L2
section
variable{K:Frag}{H:Hp}
theorem EJ{k:Str}:∀{aO:ey}{vs:b_},aD K H (aO.map (·.2)) vs->cf k aO=none->gV (dQ (aO.map (·.1)) vs) (.inr k)=none
 |[],_,_,_=>rfl
 |q::r,vs,t,e=>by
  rw[zc]at t;unfold aD at t;obtain⟨v,O,rfl,_,a⟩:=t;rw[zc,tT];unfold cf at e;by_cases J:q.1=k
  .rw[if_pos J]at e;simp at e
  .rw[if_neg J]at e;rw[wQ λ z=>J (Z1 z)];exact EJ a e
theorem cp1{ks:aM}{vs:b_}{k:Str}{v:V}(h:ks.length=vs.length):dQ ks vs++[(Sum.inr k,v)]=dQ (ks++[k]) (vs++[v]):=by unfold dQ;rw[zx,List.zip_append (by grind)];rfl
theorem cu7{k:Str}{d:D}{v:V}{aO:ey}{vs:b_}(Y:aU K H d v)(t:aD K H (aO.map (·.2)) vs):∃J,hZ (dQ (aO.map (·.1)) vs) (.inr k) v=dQ ((nJ k d aO).map (·.1)) J/\aD K H ((nJ k d aO).map (·.2)) J:=by
 unfold nJ;cases q:cf k aO with
 |some Z=>rw[if_pos (show(some Z).isSome=true from rfl)];exact LX Y t q
 |none=>
  rw[if_neg bP];have O:=t.length;rw[qx]at O;refine⟨vs++[v],?_,?_⟩
  .grind[IQ,EJ,cp1]
  .rw[zx];exact t.app (aD.one Y)
end
section
variable{X:Cx}{pos:Pos}{e:Expr}{F G:FE}{A:FA}
theorem F9(i:Nat)(O:X.N.Nodup)(hi:X.N[i]?=some x:=by rfl)(hx:lP X.v.scope x:=by exact jW)(hs:swapsWith (.Dict [] [] p2) (some (.Name x p)) pos.line X.v=pure false:=by rfl)(Z:X.fn x=true\/gf X x:=by exact jW):XS X (.Assign [.Name x p] (.Dict [] [] p2) pos) (wH i):=
 PS.wk (ri O hi hx cq0 hs Z) λ Dn L H J=>by
  refine cB J λ c H0 U r R f q=>?_;have Y:=f;obtain rfl:=aW Y;exact λ a b=>q _ H0 _ (aB.refl _) (R.setOwn i b ⟨[],[],by rw[cF];rfl,rfl,aD.nil_⟩)
theorem pd(i:Nat)(hu:X.A.units+1<cLine)(hk:XE X k G)(he:XE X e F)(hN:X.N[i]?=some x:=by rfl)(hv:gk X.v.scope x:=by exact i7)(hd:df x:=by decide)(Z:fA x:=by decide)(hs:swapsWith e (some (.Subscript (.Name x p) k p3)) pos.line X.v=pure false:=by rfl):XS X (.Assign [.Subscript (.Name x p) k p3] e pos) (nc i G F):=
 PS.wk (JX hu (fT hN hv hd Z) hk he hs) λ Dn L H J=>by
  refine cB J λ c H0 U r R f q=>?_;obtain⟨⟨d,O⟩,h1,f⟩:=aP f;obtain⟨⟨o,Q⟩,h2,f⟩:=aP f;obtain⟨⟨l,n⟩,s,f⟩:=aP f;obtain⟨k2,h,f⟩:=aP f;obtain⟨⟨b,aO⟩,u,f⟩:=aP f;obtain⟨w,rfl⟩:=bM f;have m:l=.str k2:=by
   cases l with
   |str z=>obtain rfl:=aW h;rfl
   |_=>cases h
  subst m;refine⟨c,H0,U,d,O,R,h1,λ v H1 M E g C=>?_⟩;obtain⟨a,e1,_⟩:=g.ow i o _ (pP h2);refine⟨_,e1,c,H1,O,_,n,g,s,λ y H2 cV j R2 D=>?_⟩;subst D;have z:=pP u;refine gn λ σ B=>?_;obtain⟨P,e2,_,_,S,T,e4,rfl,t⟩:=R2.ow i b _ z;rw[e1]at e2;cases e2;obtain⟨Y,I,K⟩:=cu7 (aU.mono j d C) t;refine B ?_;refine⟨a,_,rfl,iK.k (k:=.inr k2) e4 (by have:=IL t;unfold dQ at this;rw[this];exact K8 w),?_⟩;exact q L H2 _ (E.trans j) (R2.mutOwn z e1 ⟨_,Y,by rw[cF];exact Q1 (λ y=>some (HO.dK y)) I,rfl,K⟩)
theorem xnO(i:Nat)(hN:X.N[i]?=some x:=by rfl)(Z:gk X.v.scope x:=by exact i7)(hd:df x:=by decide)(Y:fA x:=by decide):XN X [.Return (some (.Name x p)) J] (Ar i):=
 eL.wk (qX (zL (fT hN Z hd Y))) λ Dn L H O=>by
  refine bN O λ e d H0 U o R f q=>?_;unfold Ar AO at f;split at f
  .rename_i g c;obtain rfl:=aW f;refine cZ (R.ow i false _ c) λ a e1 e2 e3 ok=>?_;exact⟨_,e1,q a H0 H ⟨R.init,R.same,λ b u h=>R.keep b u h bP,R.fresh,e2,e3,ok⟩⟩
  .simp at f
end
section
variable{X:Cx}{aA:cK}{L:L2.St}{H:Hp}{s:Shared}{a:Addr}{aI:fO}
theorem EK(I:aJ X aA L H s)(e:H a=some (.dK aI)):∃ob,aJ X aA L (upd H a (.frz ob (.dK aI))) s:=by obtain⟨z,n,c,O,o,es,b,J,r⟩:=(show bC X.p X.w H s.heap a (.dK aI)from I.hok a _ e);exact⟨o,I.write (t':=s.toks) (h':=s.heap) (x:=a) (e:=a) (by rw[e];trivial) (.inl rfl) (λ _ _ _ q=>q) ⟨o,J⟩ ⟨J,z,n,c,O,o,es,b,J,r⟩⟩
end
section
variable{X:Cx}{e:Expr}{st:Stmt}{t:TE}
def cK3(i:Nat)(t:TS):TS:=λ D L H=>∃a aI,L[i]?=some (some (.ref a))/\H a=some (.dK aI)/\∀ob,t D L (upd H a (.frz ob (.dK aI)))
theorem ZQ(i:Nat){t:TS}(h:PS X st t):PS X st (cK3 i t):=λ aA s L H D I J=>by
 refine cM J λ a aI _ Y q=>?_;obtain⟨ob,O⟩:=EK I Y;exact h aA s L _ D O (q ob)
def tZf(t:TE):TE:=λ L H Q=>t L H λ v H1=>∃a aI,v=.ref a/\H1 a=some (.dK aI)/\∀ob,Q v (upd H1 a (.frz ob (.dK aI)))
theorem ZR(h:PE X e t):PE X e (tZf t):=λ aA s L H Q I q=>bT (h aA s L H _ I q) λ u f J=>by
 obtain⟨v,H2,b,Y,a,aI,d,c,Z⟩:=J;obtain⟨ob,O⟩:=EK b c;exact⟨v,_,O,Y,Z ob⟩
theorem cx1{f:Value}{r:b_->Hp->VK->Prop}(h:bL X f r):bL X f (λ xs H Q=>r xs H λ v H1=>∃a aI,v=.ref a/\H1 a=some (.dK aI)/\∀ob,Q v (upd H1 a (.frz ob (.dK aI)))):=
 λ aA s L H xs us Q I O q=>bT (h aA s L H xs us _ I O q) λ u e J=>by
  obtain⟨v,H2,b,O,a,aI,d,c,Z⟩:=J;obtain⟨ob,Y⟩:=EK b c;exact⟨v,_,Y,O,Z ob⟩
end
def less(H:Hp)(a:Addr):Hp:=λ b=>if b=a then none else H b
theorem KZ(h:b≠a):less H a b=H b:=if_neg h
section
variable{K:Frag}{H:Hp}{a:Addr}{ob:Obj}{aI:fO}
theorem Rd.less(J:H a=some (.frz ob (.dK aI)))(h:Rd H b u)(n:∀aI,u≠.dK aI)(O:∀o v,u≠.frz o v):Rd (less H a) b u:=by
 have q:b≠a:=λ e=>by
  rw[e]at h;rcases h with h|⟨o,h⟩
  .rw[J]at h;exact O _ _ (qi h).symm
  .rw[J]at h;cases h;exact n aI rfl
 rcases h with h|⟨o,h⟩
 .exact .inl (by rw[KZ q];exact h)
 .exact .inr ⟨o,by rw[KZ q];exact h⟩
mutual
theorem aU.less(q:H a=some (.frz ob (.dK aI))):∀(d:D){v:V},nd d=true->aU K H d v->aU K (less H a) d v
 |.n,_,_,h=>by unfold aU at h⊢;exact h
 |.b _,_,_,h=>by unfold aU at h⊢;exact h
 |.int _,_,_,h=>by unfold aU at h⊢;exact h
 |.str _,_,_,h=>by unfold aU at h⊢;exact h
 |.t ds,_,n,h=>by
  unfold aU at h⊢;obtain⟨b,vs,e,s,r⟩:=h;refine⟨b,vs,e,?_,aD.less q ds n r⟩;rcases s with s|s
  .exact .inl (Rd.less q s (λ _ z=>nomatch z) λ _ _ z=>nomatch z)
  .exact .inr s
 |.l ds,_,n,h=>by
  unfold aU at h⊢;obtain⟨b,vs,e,s,r⟩:=h;refine⟨b,vs,e,?_,aD.less q ds n r⟩;rcases s with s|s
  .exact .inl (Rd.less q s (λ _ z=>nomatch z) λ _ _ z=>nomatch z)
  .exact .inr s
 |.opq,_,n,_=>by cases n
 |.c _ _,_,n,_=>by cases n
theorem aD.less(q:H a=some (.frz ob (.dK aI))):∀(ds:aK){vs:b_},wz ds=true->aD K H ds vs->aD K (less H a) ds vs
 |[],_,_,h=>by unfold aD at h⊢;exact h
 |d::r,_,n,h=>by
  unfold wz at n;rw[ze]at n;unfold aD at h⊢;obtain⟨v,J,e,h1,h2⟩:=h;exact⟨v,J,e,aU.less q d n.1 h1,aD.less q r n.2 h2⟩
end
end
section
variable{K:Frag}{c:FC}{H0 H:Hp}{U:En}{L:L2.St}{i:Nat}{aO:ey}
theorem RS.asData(R:RS K c H0 H U L)(hi:U[i]?=some (.o false (.d aO))):∃a vs,L[i]?=some (some (.ref a))/\H0 a=none/\c.He a=none/\H a=some (.dK (dQ (aO.map (·.1)) vs))/\aD K H0 (aO.map (·.2)) vs/\∀ob,aB H0 (upd H0 a (.frz ob (.dK (dQ (aO.map (·.1)) vs))))/\RS K c (upd H0 a (.frz ob (.dK (dQ (aO.map (·.1)) vs)))) (upd H a (.frz ob (.dK (dQ (aO.map (·.1)) vs)))) (U.set i (ma aO)) L:=by
 obtain⟨a,x,y,z,S,vs,e,rfl,r⟩:=R.ow i _ _ hi;have n:=z;have Q:=(fC.mp hi).1;refine⟨a,vs,x,y,n,e,r,λ ob=>?_⟩;have f:aB H0 (upd H0 a (.frz ob (.dK (dQ (aO.map (·.1)) vs)))):=λ b u q=>by grind[bS]
 have J:∀{j:Nat}{sl:Sl},j≠i->(U.set i (ma aO))[j]?=some sl->U[j]?=some sl:=λ O q=>by grind
 have g:∀{sl:Sl},(U.set i (ma aO))[i]?=some sl->sl=ma aO:=λ q=>by grind
 refine⟨f,λ b u q=>?_,R.init.trans f,λ b u q=>?_,λ b u q m=>?_,λ b m=>?_,by rw[yk];exact R.len,λ j d q=>?_,λ j b o q=>?_,λ j k B C F G b s Y I σ=>?_⟩
 .by_cases h:b=a
  .grind[cF]
  .rw[bS h]at q⊢;exact R.same b u q
 .by_cases h:b=a
  .grind
  .rw[bS h]at q;exact R.fresh b u q
 .rw[bS (fF q n)];exact R.keep b u q m
 .by_cases h:b=a
  .grind[cF]
  .rw[bS h];exact R.apt b m
 .by_cases O:j=i
  .subst O;have Y:=g q;cases Y;refine⟨.ref a,x,?_⟩;exact⟨a,ob,vs,rfl,cF,aD.mono f _ r,by grind⟩
  .obtain⟨v,w,A⟩:=R.im j d (J O q);exact⟨v,w,aU.mono f _ A⟩
 .by_cases O:j=i
  .subst O;have Y:=g q;cases Y
  .have p:=J O q;refine cZ (R.ow j b o p) λ l t N P M=>?_;have nb:l≠a:=λ h=>O (R.ne j i b false o _ l p hi t (by rw[h];exact x));exact⟨l,t,by rw[bS nb];exact N,P,M.step f λ u q=>by rw[bS nb];exact q⟩
 .have D:j≠i:=λ h=>by subst h;have Z:=g s;cases Z
  have E:k≠i:=λ h=>by subst h;have Z:=g Y;cases Z
  exact R.ne j k B C F G b (J D s) (J E Y) I σ
end
section
variable{X:Cx}{pos:Pos}{e:Expr}{F G:FE}{A:FA}
theorem Mt(i:Nat){st:Stmt}{S:FS}(h:XS X st S):XS X st (vM i S):=PS.wk (ZQ i h) λ Dn L H J=>by
 refine cB J λ c H0 U r R f q=>?_;unfold vM Ao at f;obtain⟨⟨b,aO⟩,h1,f⟩:=aP f;by_cases Y:b=false
 .have Z:S (U.set i (ma aO))=some r:=by
   have O:(if b=false then S (U.set i (ma aO))else none)=some r:=f
   rwa [if_pos Y]at O
  subst Y;obtain⟨a,e,x,_,_,e4,_,d⟩:=R.asData (pP h1);exact⟨a,_,x,e4,λ ob=>⟨c,_,_,r,(d ob).2,Z,fZ.mono (d ob).1 q⟩⟩
 .have O:(if b=false then S (U.set i (ma aO))else none)=some r:=f;rw[if_neg Y]at O;simp at O
end
section
variable{K:Frag}
theorem cq4{c:FC}{H1 J dH H':Hp}{U:En}{L:L2.St}{aO:ey}{a:Addr}(R:RS K c H1 J U L)(nw:z_ K H1 J (.d aO) a dH H'):∃vs,H' a=some (.dK (dQ (aO.map (·.1)) vs))/\∀ob,∃H2,aB H1 H2/\RS K c H2 (upd H' a (.frz ob (.dK (dQ (aO.map (·.1)) vs)))) U L/\aU K H2 (.c (aO.map (·.1)) (aO.map (·.2))) (.ref a):=by
 obtain⟨O,s',s,fr,Z,Y,d,vs,e,rfl,r⟩:=nw;refine⟨vs,e,λ ob=>?_⟩;have m:aB dH (upd dH a (.frz ob (.dK (dQ (aO.map (·.1)) vs)))):=λ b u q=>by rw[bS (fF q Z)];exact q
 refine⟨_,O.trans m,R.after ⟨O.trans m,λ b u q=>by rw[bS (fF q Y)];exact s b u q,λ b u q=>?_,λ b u q=>?_⟩,?_⟩
 .by_cases h:b=a
  .subst h;rw[cF]at q⊢;exact q
  .rw[bS h]at q⊢;exact s' b u q
 .by_cases h:b=a
  .subst h;exact .inr Y
  .rw[bS h]at q;exact fr b u q
 .unfold aU;exact⟨a,ob,vs,rfl,cF,aD.mono m _ r,by rw[qx,qx]⟩
end
section
variable{X:Cx}{pos:Pos}{e:Expr}{F G:FE}{A:FA}
theorem cx4{m:MO}{d:D}(h:ve m=some d):∃aO,m=.d aO/\d=.c (aO.map (·.1)) (aO.map (·.2)):=by
 cases m with
 |d aO=>obtain rfl:=aW h;exact⟨aO,rfl,rfl⟩
 |l a=>cases h
theorem OC(N:kH X.p X.w X.K X.mg X.base k x g)(hr:bJ k X.A)(ha:XA X (e::es) A)(hg:Gl X x:=by rfl)(Y:df x:=by decide)(he:iX X e es:=by rfl)(O:iD X pos es:=by rfl):XE X (.Call (.Name x p) (e::es) [] pos) (AG g A):=by
 refine dN N.ex λ f G ps i l n o=>?_;refine PE.wk (ZR (uC i hr hg o n l .nil uX ha Y he O)) λ L H Q J=>?_;refine bN J λ c H0 U d D R z q=>?_;obtain⟨⟨h,Z⟩,h1,z⟩:=aP z;obtain⟨m,h2,z⟩:=aP z;obtain⟨F,j,z⟩:=aP z;have C:=z;cases C;obtain⟨aO,rfl,rfl⟩:=cx4 j;refine⟨c,H0,U,h,_,R,h1,λ I H1 E B b y=>⟨H1,h,_,b.same,by rw[yd];exact y,h2,λ a dH H' v=>?_⟩⟩;obtain⟨σ,e0,u⟩:=cq4 b v;refine⟨a,_,rfl,e0,λ ob=>?_⟩;refine a_ (u ob) λ H2 r s t=>?_;exact q _ H2 _ (B.trans r) s t
theorem cl4:bL X (.type "dict") (λ xs H Q=>∃p aI,xs=[.ref p]∧Rd H p (.dK aI)∧∀l,H l=none→Q (.ref l) (upd H l (.dK aI))):=by
 intro aA s L H xs us Q I r h;obtain⟨p,aI,rfl,rd,q⟩:=h;obtain⟨u,rfl,Y⟩:=ic r;subst Y;obtain⟨a,hd,c,J,dd⟩:=nz I.hok rd;refine kt_call_dict hd dd (by rw[<-J.length];exact a) λ g Z O=>?_;have up:∀b v,s.heap.get? b=some v->g.get? b=some v:=λ b v e=>(O.2 b (qr (qm e))).trans (qd _ e);exact⟨.ref s.heap.n,_,I.laid (o:=.dK aI) (t':=s.toks) up (qj _) (uV a (beq_eq_false_iff_ne.mpr (zy (qr I.big))) J Z),rfl,q _ (I.hok.fresh (qj _))⟩
theorem cx2:i_ X (.type "dict") Aj:=⟨_,cx1 cl4,λ c H0 H U L g d h Q R r e q=>by
 unfold Aj at e;split at e
 .rename_i f es;obtain rfl:=aW e;obtain⟨v,rfl,O⟩:=aD.v1 r;unfold aU at O;obtain⟨a,o,J,rfl,rd,t,l⟩:=O;refine⟨a,_,rfl,aB.rd R.same (.inr ⟨o,rd⟩),λ b Y=>⟨b,_,rfl,cF,λ ob=>?_⟩⟩;have S:=bY.alloc (o:=.frz ob (.dK ((f.map Sum.inr).zip J))) R.same Y;rw[cu2];refine q _ _ _ S.s0 (R.after S) ?_;unfold aU;exact⟨b,ob,J,rfl,cF,aD.mono S.s0 _ t,l⟩
 .simp at e⟩
theorem xdx(hu:X.A.units+1<cLine)(ho:XE X o F)(hk:XE X k G)(hs:vi k:=by exact λ _ _=>rfl):XE X (.Subscript o k pos) (e2 AB F G):=
 PE.wk (zM hu ho hk hs) λ L H Q O=>by
  refine bN O λ c H0 U d e R f q=>?_;refine eU (CB f) λ x Y y h1 h2 Z=>?_;unfold AB at Z;split at Z
  .rename_i ks ds k;refine⟨c,H0,U,_,Y,R,h1,λ v1 H1 z s i p=>⟨c,H1,Y,_,e,i,h2,λ v2 H2 cV g R2 r=>?_⟩⟩;have J:=aU.mono g _ p;refine dN J λ a o w b j t l=>?_;obtain rfl:=b;have rd:Rd H2 a (.dK ((ks.map Sum.inr).zip w)):=.inr ⟨o,j⟩;subst r;have m:(ks.zip ds).map (·.1)=ks:=yz aE;have n:(ks.zip ds).map (·.2)=ds:=Zb aE;refine bE (pV (by rw[n];exact t) Z) λ v h u=>?_;rw[m]at h;exact⟨a,v,rfl,.inl ⟨_,.inr k,aB.rd R2.same rd,rfl,h.symm⟩,q v H2 cV (s.trans g) R2 u⟩
  .simp at Z
end
section
variable{K:Frag}{H:Hp}{A:Around}{s:Shared}
theorem cv4{d e:D}{v w:V}{x y:Value}(hd:jP d=true)(O:jP e=true)(r:aU K H d v)(t:aU K H e w)(J:aT v x)(q:aT w y):SeqAt.EqAt A s x y (cJ d e):=by
 cases d with
 |n=>
  subst r;obtain rfl:x=Value.none:=J;cases e with
  |n=>
   subst t;obtain rfl:y=Value.none:=q;rw[WR];exact .same _
  |int j=>
   subst t;obtain⟨u,rfl⟩:=q;rw[WS];exact .none_int j u
  |_=>cases O
 |int i=>
  subst r;obtain⟨Y,rfl⟩:=J;cases e with
  |n=>
   subst t;obtain rfl:y=Value.none:=q;rw[show cJ (.int i) .n=false from rfl];exact .int_none i Y
  |int j=>
   subst t;obtain⟨u,rfl⟩:=q;rw[show cJ (.int i) (.int j)=(i==j)from rfl];exact .int_int i Y j u
  |_=>cases O
 |_=>cases hd
theorem MY{bs:ey}{ws:b_}{Y:m4}(tb:aD K H (bs.map (·.2)) ws)(rb:KV (dQ (bs.map (·.1)) ws) Y)(fb:(bs.map (·.2)).all jP=true):∀{Z:ey}{vs:b_}{O:m4},aD K H (Z.map (·.2)) vs->KV (dQ (Z.map (·.1)) vs) O->(Z.map (·.2)).all jP=true->PySem.W.KeqHits A s Y O (Z.all λ p=>Ai p.2 (cf p.1 bs))
 |[],vs,O,_,b,_=>by
  have e:KV ([]:fO) O:=b;cases e;exact .nil
 |q::r,vs,O,ta,b,a=>by
  rw[zc]at ta a;unfold aD at ta;obtain⟨v,o,rfl,m,n⟩:=ta;rw[Qr,ze]at a;rw[zc,tT]at b;obtain⟨k,x,vt,rfl,k1,l,j⟩:∃k x vt,O=(k,x)::vt/\k=Sum.inr q.1/\aT v x/\KV (dQ (r.map (·.1)) o) vt:=by
   cases b with
   |cons h1 h2=>exact⟨_,_,_,rfl,h1.1.symm,h1.2,h2⟩
  subst k1;have rest:=MY tb rb fb n j a.2;rw[Qr];cases g:cf q.1 bs with
  |none=>
   have J:=rb.val (Sum.inr q.1);rw[EJ tb g]at J;have h1:PySem.valueAt Y (Sum.inr q.1)=none:=by
    cases z:PySem.valueAt Y (Sum.inr q.1)with
    |none=>rfl
    |some y=>rw[z]at J;exact J.elim
   exact .miss h1
  |some d=>
   obtain⟨w,u,B⟩:=pV tb g;have J:=rb.val (Sum.inr q.1);rw[u]at J;cases z:PySem.valueAt Y (Sum.inr q.1)with
   |none=>rw[z]at J;exact J.elim
   |some y=>
    rw[z]at J;have f:jP d=true:=by
     have mem:∀{bs:ey},cf q.1 bs=some d->d∈bs.map (·.2):=λ{bs}=>by
      induction bs with
      |nil=>intro h;cases h
      |cons p t i=>
       intro h;unfold cf at h;by_cases c:p.1=q.1
       .rw[if_pos c]at h;obtain rfl:=aW h;exact qg
       .rw[if_neg c]at h;exact qh _ (i h)
     exact wm.mp fb d (mem g)
    exact .hit z (cv4 a.1 f m B l J) rest
end
section
variable{X:Cx}
def rDD(K:Frag)(b:Bool):R2:=λ x y H Q=>∃ks ds q es,aU K H (.c ks ds) x/\aU K H (.c q es) y/\ds.all jP=true/\es.all jP=true/\Q (.b (if b=true then vL (ks.zip ds) (q.zip es)else !vL (ks.zip ds) (q.zip es))) H
theorem cm1{aA:cK}{L:L2.St}{H:Hp}{s:Shared}(I:aJ X aA L H s){ks q:aM}{ds es:aK}{x y:V}{u v:Value}(r1:aU X.K H (.c ks ds) x)(r2:aU X.K H (.c q es) y)(rx:aT x u)(ry:aT y v)(f1:ds.all jP=true)(f2:es.all jP=true):∃(a b:Addr)(J O:m4),u=.ref a/\v=.ref b/\(a==sysModules)=false/\(b==sysModules)=false/\s.heap.DictOf (gc X.p X.w) a J/\s.heap.DictOf (gc X.p X.w) b O/\J.length=(ks.zip ds).length/\O.length=(q.zip es).length/\∀A,PySem.W.KeqHits A s O J ((ks.zip ds).all λ p=>Ai p.2 (cf p.1 (q.zip es))):=by
 unfold aU at r1 r2;refine dN r1 λ a r F c i Z B=>?_;obtain rfl:=c;refine dN r2 λ b t G d j h C=>?_;obtain rfl:=d;refine gn λ z m=>?_;obtain⟨_,n,J,Y,e1⟩:=nz I.hok (.inr ⟨r,i⟩);obtain⟨_,o,O,g,e2⟩:=nz I.hok (.inr ⟨t,j⟩);refine m ?_;have k:(ks.zip ds).map (·.1)=ks:=yz aE;have e:(ks.zip ds).map (·.2)=ds:=Zb aE;have l:(q.zip es).map (·.1)=q:=yz aE;have f:(q.zip es).map (·.2)=es:=Zb aE;have D:=Z.length;have E:=h.length;refine⟨a,b,J,O,rx,ry,n,o,e1,e2,?_,?_,λ A=>MY (by rw[f];exact h) (by rw[l];exact g) (by rw[f];exact f2) (by rw[e];exact Z) (by rw[k];exact Y) (by rw[e];exact f1)⟩
 .rw[<-Y.length,ji,ji,qx];lia
 .rw[<-g.length,ji,ji,qx];lia
theorem cH0(hu:X.A.units+64<cLine):iI X .Eq sO:=⟨rDD X.K true,λ aA s L H x y u v Q I l m J=>by
 obtain⟨o,n,p,es,f,Y,Z,O,q⟩:=J;obtain⟨a,b,r,t,rfl,rfl,j,k,e1,e2,g,i,h⟩:=cm1 I f Y l m Z O;refine PySem.W.keq_eq j k e1 e2 aE (λ _=>h _) ⟨.b _,H,I,?_,q⟩;show Value.bool _=Value.bool _;rw[g,i];rfl,λ c H0 H U L x y d w z Q R f Y e q=>by
  unfold sO at e;split at e
  .obtain⟨⟨Z,O⟩,rfl⟩:=bM e;exact⟨_,_,_,_,aU.mono R.same _ f,aU.mono R.same _ Y,Z,O,q _ H0 H (aB.refl _) R (lE _ _)⟩
  .simp at e⟩
end
end
section
open PySem.Spec PyProof.Rows
theorem Hx:∀{x:Str}{l:aM},risingS x l=true->(x::l).Pairwise λ a b=>iZ b a=false
 |x,[],_=>jv _ _
 |x,y::r,h=>by
  have h':(!ltCps y.cps.toList x.cps.toList&&risingS y r)=true:=h;rw[ze]at h';have Y:=Hx h'.2;have J:iZ y x=false:=by have:=h'.1;rw[ltCps_eq]at this;simpa [iZ]using this
  refine List.pairwise_cons.mpr ⟨λ z c=>?_,Y⟩;rcases qt c with rfl|q
  .exact J
  .have O:=(List.pairwise_cons.mp Y).1 z q;unfold iZ at J O⊢;grind
theorem JH:∀{l:aM},(l.Pairwise λ a b=>iZ b a=false)->(oH x l).Pairwise λ a b=>iZ b a=false
 |[],_=>jv _ _
 |y::r,h=>by
  unfold oH;obtain⟨h1,h2⟩:=List.pairwise_cons.mp h;by_cases q:iZ y x=true
  .rw[if_pos q];refine List.pairwise_cons.mpr ⟨λ z c=>?_,JH h2⟩;rcases mem_insS.mp c with rfl|c
   .grind[iZ]
   .exact h1 z c
  .rw[if_neg q];have q:iZ y x=false:=by simpa using q
   refine List.pairwise_cons.mpr ⟨λ z c=>?_,h⟩;rcases qt c with rfl|c
   .exact q
   .grind[iZ]
theorem rh:∀l:aM,(et l).Pairwise λ a b=>iZ b a=false
 |[]=>Z6
 |x::r=>JH (rh r)
theorem mf:∀{l:aM},(oH x l).Perm (x::l):=by intro a;induction a<;>grind[oH]
theorem iU:∀l:aM,(et l).Perm l
 |[]=>Qi _
 |x::r=>by exact mf.trans ((iU r).cons x)
theorem Hy(J:t.Perm l)(O:sortedS t=true):t=et l:=by
 have h1:t.Pairwise λ a b=>iZ b a=false:=by
  cases t with
  |nil=>exact Z6
  |cons x r=>exact Hx O
 refine List.Perm.eq_of_pairwise (λ a b _ _ p q=>?_) h1 (rh l) (J.trans (iU l).symm);unfold iZ at p q;rw[decide_eq_false_iff_not]at p q;have:=List.le_antisymm (List.not_lt.mp p) (List.not_lt.mp q);obtain⟨⟨Y⟩⟩:=a;obtain⟨⟨Z⟩⟩:=b;subst this;rfl
section
variable{prog:Program}{w:World}{A:Around}{E:c8}{s:Shared}
theorem Tz(hT:T="list"∨T="tuple")(ho:s.heap.get? it=some ob)(hc:ob.cls=.type T)(hd:ob.data=.seq us.toArray n)(O:StrsAre us ss)(J:us.length<64)(k:∀(h1 h2:Heap)(out:g9)(e:Nat),(∀b o',s.heap.get? b=some o'→h1.get? b=some o')→(∀b o',h1.get? b=some o'→h2.get? b=some o')→h2.get? h1.n=some (seqObj "list" out e)→StrsAre out.toList (et ss)→Q (.ref h1.n) {s with heap:=h2}):bV prog w A (call (.builtin "sorted") [.ref it]) Q E s:=by
 refine Calls.call_function_entry kind_sorted plain_sorted entry_sorted (args_sorted1 _) ?_;refine qb (qc ?_);have f:us.toArray.size<=sizeLine:=by rw[zi,jx];lia
 refine qb (wpAny_collect_seq it hT ho hc hd (λ h1 g=>?_) f);refine qb (wpAny_newList ?_);have q:(h1.push (seqObj "list" us.toArray 0)).get? h1.n=some (seqObj "list" us.toArray 0):=qk _ rfl;refine qb (zr (jt slot_list_sort ⟨_,q,rfl⟩ entry_list_sort (list_sort_treeK strKind_oneLt q O.keysOf (λ v1 v2 r e=>keyKind_strs (by rw[<-e];exact O)) J λ st c d=>⟨_,rfl,?_⟩) (args_list_sort _)));refine a_ (sorted_out_str O c d) λ j Z h i=>?_;obtain⟨e,a⟩:=sortedHeap_at q;rw[Hy h i]at Z;refine qc ⟨_,rfl,k h1 _ _ e g (λ b o' Y=>?_) a Z⟩;have lt:=qm Y;rw[sortedHeap_old (Ql lt) (by rw[size_push'];exact Nat.lt_succ_of_lt lt)];exact qd _ Y
end
end
section
theorem Pk:typeLookup (.type "tuple") "keys"=pure none:=by rw[typeLookup_type,Yq];kernel_rfl
set_option maxHeartbeats 4000000 in
theorem TX{prog:Program}{w:World}{A:Around}{E:c8}{s:Shared}{a:Addr}{ob:Obj}{us:g9}{n:Nat}{Q:kC->Shared->Prop}(ho:s.heap.get? a=some ob)(hc:ob.cls=.type "tuple")(J:ob.data=.seq us n)(q:ob.dict=none)(hh:A.handled=none)(k:∀h' tk e,Heap.NewExcOf s.heap h' e "AttributeError"→Q none {s with heap:=h',toks:=tk}):bV prog w A (getAttr? (.ref a) "keys") Q E s:=by
 obtain⟨oc,od,aa,Z⟩:=ob;simp only at hc J q;subst hc J q;obtain⟨hp,gg,dd,tk,os⟩:=s;have ty:∀O,(⟨hp,gg,dd,O,os⟩:Shared).TypeIs (.ref a) "tuple":=λ _=>⟨_,ho,rfl⟩
 have e1:=sub_AttributeError;have e3:=F.slot_tuple_getattribute.lookup;have e4:=F.slot_tuple_getattribute.bind (.ref a);have e5:=am_tuple_getattr_none;unfold getAttr? getAttrBy? getAttrBy
 repeat (any_goals (first|assumption|exact ty _|((with_reducible show wpAny _ _ (call (Value.builtin "tuple.__getattribute__") _ _) _ _ _);refine call_meets F.slot_tuple_getattribute (ty _) am_entry_tuple_getattribute (F.args_tuple_getattribute_2 _ _) (meets_getattribute_miss_tuple a us n Z "keys" _ Pk aQ aQ) ⟨ho,hh,λ h' O e hx=>?_⟩)|wp_step))
 obtain⟨t1,u1,he⟩:=hx.there;have tx:∀Y,(⟨h',gg,dd,Y,os⟩:Shared).TypeIs (.ref e) "AttributeError":=λ _=>⟨_,he,rfl⟩
 show wpAny _ _ (getattributeRaised _ _ _ _ _ _ _) _ _ _;unfold getattributeRaised
 repeat (any_goals (first|assumption|exact tx _|wp_step))
 all_goals exact k _ _ _ hx.of
theorem Oz:entryFor table "dict.update.loop"=some Builtin.«dict.update.loop»:=entryFor_of_tree dA
theorem AN:plainId "dict.update.loop"=true:=d8
section
variable{prog:Program}{w:World}{K:Type}[DecidableEq K]{knd:KeyKind prog w K}{A:Around}{E:c8}{s:Shared}
inductive eM(knd:KeyKind prog w K)(h:Heap):bO->List (K×Value)->Prop
 |nil:eM knd h [] []
 |cons {p:Addr}{u v:Value}{k:K}{us:bO}{aI:List (K×Value)} (a:h.IsTuple p #[u,v]) (b:knd.is k u=true) (r:eM knd h us aI):eM knd h (.ref p::us) ((k,v)::aI)
theorem RF{all:bO}(as:hI.get? d=none)(ah:hI.get? it=none)(aa:d≠it)(tu:hI.IsTuple t all.toArray)(hh:A.handled=none):∀(us:bO)(acc more:List (K×Value))(s:Shared)(i:Nat)(tk:Tok),all.drop i=us->eM knd hI us more->(∀b o,hI.get? b=some o->s.heap.get? b=some o)->s.heap.IsTupleIter it t i->s.heap.DictOf knd d acc->acc.length+more.length<=sizeLine->(∀h' Z,(∀b o,hI.get? b=some o->h'.get? b=some o)->h'.DictOf knd d (merged acc more)->R (.ok (.ret .none)) {s with heap:=h',toks:=Z})->codeAny (model prog w) A (.builtin "dict.update.loop" ⟨[.ref d,.ref it,.int i tk,.none],[]⟩) R s:=by
 intro us;induction us with
 |nil=>
  intro acc more s i tk e ps c f g B q;cases ps;refine yx Oz ?_;rw[yt AN _];have h:s.heap.IsTuple t all.toArray:=by obtain⟨o,Y,r⟩:=tu;exact⟨o,c _ _ Y,r⟩
  have hx:all.toArray[i]?=none:=by
   have:all[i]?=none:=by
    have l:all.length<=i:=by simpa using e
    exact Qa l
   simpa using this
  refine qb (Yd hh f h hx λ h' y=>?_);refine qb (qc (qc ?_));exact q h' s.toks (λ b o J=>y b o (λ z=>by grind) (c _ _ J)) (g.extBut y aa)
 |cons u us S=>
  intro acc more s i tk e ps c f g B q;cases ps with
  |@cons p V m k _ aI a b r=>
   refine yx Oz ?_;rw[yt AN _];have h:s.heap.IsTuple t all.toArray:=by obtain⟨o,Y,r⟩:=tu;exact⟨o,c _ _ Y,r⟩
   have F:all[i]?=some (.ref p):=by have:=Q1 (λ l=>l[0]?) e;simpa using this
   have hx:all.toArray[i]?=some (.ref p):=by simpa using F
   refine qb (Z9 f h hx λ h1 D v=>?_);have x:∀b o,hI.get? b=some o->h1.get? b=some o:=λ b o J=>(v.2 b (λ z=>by grind)).trans (c _ _ J);have G:h1.DictOf knd d acc:=by
    refine jK g λ o es Q Y j=>?_;exact⟨o,es,Q,(v.2 d aa).trans Y,j⟩
   obtain⟨T,E,H,ρ,σ⟩:=a;have O:=x _ _ E;refine qb (zr (qb (Zr ?_)));refine qb (Zn ⟨T,O,H⟩ ?_);rw[if_pos aQ];refine qb (Zs O σ ?_);refine qc ?_;refine zr (wpAny_dictSet_pairs b G (λ h2 hd2 n=>?_) (by grind));refine qc ⟨jp AN _,?_⟩;have I:∀b o,hI.get? b=some o->h2.get? b=some o:=λ b o J=>(n.2 b (λ z=>by grind)).trans (x _ _ J);have C:h2.IsTupleIter it t (i+1):=by obtain⟨o,Y,j⟩:=D;exact⟨o,(n.2 it (zy aa)).trans Y,j⟩
   have P:(stored acc k m).length+aI.length<=sizeLine:=by
    have:(stored acc k m).length<=acc.length+1:=by
     unfold stored;split
     .grind
     .grind
    simp only[zg]at B;lia
   have:=S (stored acc k m) aI {s with heap:=h2,toks:=s.toks+1} (i+1) 0 (by rw[<-List.drop_drop,e];rfl) r I C hd2 P (λ h' Z M N=>q h' Z M N);exact this
theorem Ku(ho:s.heap.get? t=some ob)(hc:ob.cls=.type "tuple")(O:ob.data=.seq all.toArray n)(ac:ob.dict=none)(hh:A.handled=none)(ps:eM knd s.heap all aI)(nd:(aI.map (·.1)).Nodup)(hz:aI.length<=sizeLine)(q:∀h' tk,(∀b o,s.heap.get? b=some o->h'.get? b=some o)->h'.DictOf knd s.heap.n aI->Q (.ref s.heap.n) {s with heap:=h',toks:=tk}):bV prog w A (call (.type "dict") [.ref t]) Q E s:=by
 refine callType_codes (Q₁:=λ z g=>z=.ref s.heap.n∧g={s with heap:=s.heap.push {cls:=.type "dict",data:=.dict #[]}}) F.kt_called_dict (F.kt_typeCall_dict_1 _) F.entry_dict_init (kt_code_dict_new _ ⟨rfl,rfl⟩) ?_;rintro z g ⟨rfl,rfl⟩;have dn:(s.heap.push {cls:=.type "dict",data:=.dict #[]}).DictOf knd s.heap.n []:=Heap.DictOf.new s.heap;have J:(s.heap.push {cls:=.type "dict",data:=.dict #[]}).get? t=some ob:=qd _ ho;refine⟨dn.typeIs,F.args_dict_init_2 _ _,?_⟩;refine qb ?_;refine qb (wpAny_notOrdered_dict dn.typeIs (qc ?_));refine qb (Zn ⟨ob,J,hc⟩ ?_);rw[if_pos aQ];refine qb (TX J hc O ac hh λ h2 tk e hx=>?_);rw[if_pos (show(none:kC).isNone=true from rfl)];have i:=hx.keeps _ _ J;have Y:h2.DictOf knd s.heap.n []:=by
  refine jK dn λ o es d a f=>?_;exact⟨o,es,d,hx.keeps _ _ a,f⟩
 have Z:∀b o,s.heap.get? b=some o->h2.get? b=some o:=λ b o c=>hx.keeps _ _ (qd _ c);refine qb (Yc (qb (wpAny_pyIter_tuple ⟨ob,i,hc,n,O⟩ ?_)));refine qc ⟨jp AN _,?_⟩;have k:s.heap.get? s.heap.n=none:=by
  cases z:s.heap.get? s.heap.n with
  |none=>rfl
  |some o=>exact absurd (qm z) (y8 _)
 have h:s.heap.n<h2.n:=by
  refine jK Y λ o es d a f=>?_;exact qm a
 have l:s.heap.get? h2.n=none:=by
  cases z:s.heap.get? h2.n with
  |none=>rfl
  |some o=>exact absurd (qm (Z _ _ z)) (y8 _)
 refine RF (A:=A.in1) k l (qr h) ⟨ob,ho,hc,n,O⟩ hh all [] aI {s with heap:=h2.push {cls:=.type "tuple_iterator",data:=.fields #[.ref t,.int 0 0]},toks:=tk} 0 0 rfl ps
  (λ b o c=>qd _ (Z _ _ c)) ⟨_,qk _ rfl,rfl,rfl⟩ (Y.push _) (by grind) λ h' m p j=>?_
 rw[merged_nil_of_nodup aI nd]at j;grind
end
open PySem.Spec PyProof.Rows L2
def nq(K:Frag)(d:D)(u:Value):Prop:=∃v,aT v u/\∀H,aU K H d v
def xT(K:Frag)(ds:aK)(us:bO):Prop:=∃vs,aS vs us/\∀H,aD K H ds vs
section
variable{K:Frag}
theorem JE:nq K .n .none:=⟨.n,rfl,λ H=>by rfl⟩
theorem JF:nq K (.int i) (.int i t):=⟨.int i,⟨t,rfl⟩,λ H=>gE H i⟩
theorem mw:nq K (.str x) (.str x t):=⟨.str x,⟨t,rfl⟩,λ H=>uk H x⟩
theorem xZ:xT K [] []:=⟨[],.nil,λ H=>aD.nil_⟩
theorem jI(a:nq K d u)(b:xT K ds us):xT K (d::ds) (u::us):=by obtain⟨v,r,p⟩:=a;obtain⟨c,q,ps⟩:=b;exact⟨v::c,.cons r q,λ H=>aD.cons (p H) (ps H)⟩
theorem zF(l:K.lookup a=some ⟨.type "tuple",none,.seq us.toArray n,J⟩)(hz:us.length≤1000)(h:xT K ds us):nq K (.t ds) (.ref a):=by
 obtain⟨b,q,ps⟩:=h;refine⟨.ref a,rfl,λ H=>?_⟩;refine cD a b rfl (.inr ⟨_,us.toArray,n,l,rfl,rfl,rfl,?_,?_⟩) (ps H)
 .rw[zi];exact Q2 (Br hz)
 .exact q
end
theorem BK:∀{xs:aK}{ss:aM},pR xs=some ss->xs=ss.map .str
 |[],ss,h=>by obtain rfl:=aW h;rfl
 |.str x::r,ss,h=>by
  rw[HW]at h;obtain⟨t,e,f⟩:=aP h;obtain rfl:=aW f;rw[BK e];rfl
 |.n::_,_,h=>by cases h
 |.b _::_,_,h=>by cases h
 |.int _::_,_,h=>by cases h
 |.t _::_,_,h=>by cases h
 |.l _::_,_,h=>by cases h
theorem w6{K:Frag}:∀ss:aM,aD K H (ss.map D.str) (ss.map V.str)
 |[]=>aD.nil_
 |x::r=>aD.cons (uk H x) (w6 r)
theorem AL{K:Frag}:∀{ss:aM}{vs:b_},aD K H (ss.map D.str) vs->vs=ss.map V.str:=by intro a;induction a<;>grind[aD,aU]
theorem GP:∀{ss:aM}{us:bO},aS (ss.map V.str) us->StrsAre us ss
 |[],us,h=>by rw[yj]at h;cases h;exact .nil
 |x::r,us,h=>by
  rw[zc]at h;cases h with
  |cons a b=>obtain⟨t,rfl⟩:=a;exact .cons x t (GP b)
theorem FJ:∀{us:bO}{ss:aM},StrsAre us ss->aS (ss.map V.str) us
 |_,_,.nil=>.nil
 |_,_,.cons x t h=>.cons ⟨t,rfl⟩ (FJ h)
section
variable{X:Cx}
theorem O3:bL X (.builtin "sorted") (λ xs H Q=>∃p ss,xs=[.ref p]∧(dz X.K H p (ss.map V.str)∨d7 X.K H p (ss.map V.str))∧ss.length<64∧∀l,H l=none→Q (.ref l) (upd H l (.l ((et ss).map V.str)))):=by
 intro aA s L H xs us Q I r h;obtain⟨p,ss,rfl,Y,t,q⟩:=h;obtain⟨u,rfl,k⟩:=ic r;subst k;have fin:∀(J:bO)(T:String)(ob:Obj)(n:Nat),(T="list"∨T="tuple")→s.heap.get? p=some ob→ob.cls=.type T→ob.data=.seq J.toArray n→aS (ss.map V.str) J→bV X.p X.w X.A (call (.builtin "sorted") [.ref p]) (EP X aA L Q) X.xe s:=λ J T ob n d i f hd O=>by
  have g:=O.length;rw[qx]at g;refine Tz d i f hd (GP O) aE λ h1 h2 b e k1 k2 Z m=>?_;have c:=I.kept (t':=s.toks) k1;have j:((et ss).map V.str).length<=sizeLine:=by rw[qx,(iU ss).length_eq,jx];lia
  refine⟨.ref h1.n,_,c.laid (o:=.l ((et ss).map V.str)) k2 (qj _) ⟨j,b.toList,e,FJ m,?_⟩,rfl,q _ (c.hok.fresh (qj _))⟩;rw[Z]
 rcases Y with Y|Y
 .obtain⟨J,O,⟨ob,n,h1,h2,v,a⟩,_⟩:=I.list Y;exact fin J "list" ob n (.inl rfl) h1 h2 a O
 .obtain⟨J,O,⟨ob,h1,h2,n,a⟩,_⟩:=I.tuple Y;exact fin J "tuple" ob n (.inr rfl) h1 h2 a O
theorem HY(h:nj xs=some d):∃ss:aM,xs=ss.map .str/\ss.length<64/\d=.l ((et ss).map .str):=by obtain⟨ss,e,f⟩:=aP h;obtain⟨l,rfl⟩:=bM f;exact⟨ss,BK e,l,rfl⟩
theorem Ph:i_ X (.builtin "sorted") ph:=⟨_,O3,λ c H0 H U L a d b Q R r e q=>by
 unfold ph at e;split at e
 .obtain⟨ss,rfl,J,rfl⟩:=HY e;obtain⟨v,rfl,O⟩:=aD.v1 r;obtain⟨p,Z,rfl,s,t⟩:=O;rw[AL t]at s;refine⟨p,ss,rfl,.inr (aB.seqT R.same s),J,λ l Y=>?_⟩;have S:=bY.alloc (o:=.l ((et ss).map V.str)) R.same Y;refine q _ _ _ S.s0 (R.after S) ?_;exact⟨l,_,rfl,.inl (.inl cF),w6 _⟩
 .obtain⟨ss,rfl,J,rfl⟩:=HY e;obtain⟨v,rfl,O⟩:=aD.v1 r;obtain⟨p,Z,rfl,s,t⟩:=O;rw[AL t]at s;refine⟨p,ss,rfl,.inl (aB.seq R.same s),J,λ l Y=>?_⟩;have S:=bY.alloc (o:=.l ((et ss).map V.str)) R.same Y;refine q _ _ _ S.s0 (R.after S) ?_;exact⟨l,_,rfl,.inl (.inl cF),w6 _⟩
 .simp at e⟩
end
inductive PV(K:Frag)(H:Hp):b_->List (Key×V)->Prop
 |nil:PV K H [] []
 |cons {a:Addr}{k:Str}{v:V}{vs:b_}{aI:fO} (p:d7 K H a [.str k,v]) (r:PV K H vs aI):PV K H (.ref a::vs) ((.inr k,v)::aI)
theorem Jr{K:Frag}:∀{vs:b_}{aI:fO},PV K H vs aI->aI.length=vs.length:=by intro b c a;induction a<;>grind
section
variable{X:Cx}
theorem Dd(I:aJ X aA L H s):∀{vs:b_}{aI:fO}{us:bO},PV X.K H vs aI->aS vs us->∃q:m4,eM (gc X.p X.w) s.heap us q/\KV aI q
 |_,_,us,.nil,h=>by cases h;exact⟨[],.nil,.nil⟩
 |_,_,us,.cons (a:=a) (k:=k) p r,h=>by
  cases h with
  |@cons x u xs O h1 h2=>
   subst h1;obtain⟨q,b,Y⟩:=Dd I r h2;refine a_ (I.tuple p) λ g e f _=>?_;obtain⟨Z,J,rfl,c,d⟩:=yQ e;exact⟨(.inr k,J)::q,.cons (show s.heap.IsTuple a #[Z,J]from f) (pY c) b,.cons ⟨rfl,d⟩ Y⟩
theorem K3:∀{aI:fO}{q:m4},KV aI q->q.map (·.1)=aI.map (·.1):=by intro b c a;induction a<;>grind
theorem JD:∀{aI:fO}{q:m4},KV aI q->q.length=aI.length:=by intro b c a;induction a<;>grind
theorem U9(Z:X.c=true):bL X (.type "dict") (λ xs H Q=>∃p J aI,xs=[.ref p]∧d7 X.K H p J∧PV X.K H J aI∧(aI.map (·.1)).Nodup∧∀l,H l=none→Q (.ref l) (upd H l (.dK aI))):=by
 intro aA s L H xs us Q I r h;obtain⟨p,J,aI,rfl,c,pv,nd,q⟩:=h;obtain⟨u,rfl,g⟩:=ic r;subst g;obtain⟨j,i,⟨ob,h1,h2,⟨n,a⟩,b⟩,d⟩:=I.tupleN c;obtain⟨k,f,O⟩:=Dd I pv i;have Y:aI.length<=sizeLine:=by rw[Jr pv];exact d
 refine Ku h1 h2 a b (I.ok.hd Z) f (by rw[K3 O];exact nd) (by rw[JD O];exact Y) λ h' m e dd=>?_;exact⟨.ref s.heap.n,_,I.laid (o:=.dK aI) e (qj _) (uV Y (beq_eq_false_iff_ne.mpr (zy (qr I.big))) O dd),rfl,q _ (I.hok.fresh (qj _))⟩
end
theorem RS.unfence{K:Frag}(R:RS K c H0 H U L)(Z:H p=none)(J:RS K ⟨H0,upd H p u,[]⟩ aV H' ρ' O):RS K c aV H' ρ' O:=by
 have up:∀b o,H b=some o->upd H p u b=some o:=λ b o e=>by
  rw[bS (λ z=>by grind)];exact e
 have dn:∀b,upd H p u b=none->c.He b=none:=λ b e=>by
  cases q:c.He b with
  |none=>rfl
  |some o=>
   by_cases Y:b∈c.Ap
   .cases z:H b with
    |none=>exact absurd z (R.apt b Y)
    |some f=>rw[up b f z]at e;simp at e
   .rw[up b o (R.keep b o q Y)]at e;simp at e
 refine⟨J.same,R.init.trans J.init,λ b o e=>?_,λ b o e n=>J.keep b o (up b o (R.keep b o e n)) bP,λ a d e=>?_,J.len,J.im,λ i b o e=>?_,J.ne⟩
 .rcases J.fresh b o e with h|h
  .exact R.fresh b o h
  .grind
 .cases z:H a with
  |none=>exact R.apt a d z
  |some o=>rw[J.keep a o (up a o z) bP]at e;simp at e
 .refine cZ (J.ow i b o e) λ a x y z w=>?_;refine⟨a,x,y,?_,w⟩;grind
theorem fw:∀{xs:aK}{aI:ey},oq xs=some aI->xs=aI.map λ q=>.t [.str q.1,q.2]
 |[],aI,h=>by cases h;rfl
 |.t [.str k,v]::r,aI,h=>by obtain⟨t,e,f⟩:=aP h;cases f;rw[fw e];rfl
theorem D_{K:Frag}(s:aB H0 H):∀{aI:ey}{J:b_},aD K H0 (aI.map λ q=>.t [.str q.1,q.2]) J->∃vs,PV K H J (dQ (aI.map (·.1)) vs)/\aD K H0 (aI.map (·.2)) vs
 |[],J,h=>by
  rw[yj]at h;subst h;exact⟨[],.nil,aD.nil_⟩
 |q::r,J,h=>by
  rw[zc]at h;obtain⟨v,t,rfl,a,b⟩:=h;obtain⟨vs,Z,c⟩:=D_ s b;obtain⟨f,us,rfl,O,Y⟩:=a;obtain⟨v1,v2,rfl,d,e⟩:=aD.v2 Y;subst d;exact⟨v2::vs,.cons (aB.seqT s O) Z,aD.cons e c⟩
theorem C4:∀{aO:ey}{vs:b_},aO.length=vs.length->cf k aO=none->gV (dQ (aO.map (·.1)) vs) (.inr k)=none
 |[],vs,_,_=>rfl
 |q::r,[],l,_=>by cases l
 |q::r,v::vs,l,h=>by
  unfold cf at h;by_cases J:q.1=k
  .grind
  .rw[if_neg J]at h;rw[zc,tT,wQ λ z=>J (Z1 z)];exact C4 (Nat.succ.inj l) h
section
variable{X:Cx}
theorem ZM{a b e:Expr}{E Kf Df:FE}{p O apos cpos:Pos}(hm:X.mg "dict"=none)(hu:X.A.units+1<cLine)(he:XE X a E)(hk:XE X b Kf)(hd:XE X e Df)(hc:X.c=true:=by rfl)(hg:Gl X "dict":=by rfl)(h1:mX X a:=by rfl)(m:M2 X (.Call (.Name "dict" p) [a] [] O) "get" apos b e cpos:=by exact⟨rfl,rfl,rfl,rfl⟩):XE X (.Call (.Attribute (.Call (.Name "dict" p) [a] [] O) "get" apos) [b,e] [] cpos) (Az E Kf Df):=
 PE.wk (cq1 hu (xc (U9 hc) hg hm PyProof.Rows.boot_dict (ef he fE h1) aQ aQ h1 rfl) hk hd m) λ L H Q Z=>by
  refine bN Z λ c H0 U d g R f q=>?_;unfold Az at f;obtain⟨⟨o,J⟩,V,f⟩:=aP f;obtain⟨xs,r,f⟩:=aP f;by_cases no:J.all h8=true
  .have f:(if J.all h8=true then _ else none)=some (d,g):=f;rw[if_pos no]at f;obtain⟨⟨B,n⟩,W,f⟩:=aP f;obtain⟨⟨dd,S⟩,g4,f⟩:=aP f;obtain⟨T,Y,f⟩:=aP f;have ρ:some (T,S)=some (d,g):=f;cases ρ;have e1:o=.t xs:=by
    cases o with
    |t ys=>cases r;rfl
    |_=>cases r
   subst e1;unfold sI at Y;obtain⟨aI,g6,Y⟩:=aP Y;obtain⟨k,s,Y⟩:=aP Y;obtain⟨⟨_,nd⟩,rfl⟩:=bM Y;have e2:B=.str k:=by
    cases B with
    |str z=>cases s;rfl
    |_=>cases s
   subst e2;cases fw g6;refine⟨c,H0,U,[.t (aI.map λ q=>.t [.str q.1,q.2])],J,R,?_,λ vs H1 Hh s1 i r1=>?_⟩
   .rw[aC,V];rfl
   obtain⟨v,rfl,G⟩:=aD.v1 r1;unfold aU at G;obtain⟨P,ws,rfl,sq,t⟩:=G;obtain⟨vv,p1,D⟩:=D_ i.same t;have C:=D.length;rw[qx]at C;have kz:(dQ (aI.map (·.1)) vv).map (·.1)=(aI.map (·.1)).map Sum.inr:=by unfold dQ;rw[yz (by rw[qx,qx];lia)]
   have N:((dQ (aI.map (·.1)) vv).map (·.1)).Nodup:=by rw[kz];exact List.Pairwise.map _ (λ x y h z=>h (Z1 z)) nd
   refine⟨P,ws,_,rfl,aB.seqT i.same sq,p1,N,λ l w=>?_⟩;refine⟨l,rfl,.inl ⟨_,.inl cF⟩,?_⟩;have M:=i.fence (u:=.dK (dQ (aI.map (·.1)) vv)) no w;refine⟨_,H1,J,_,n,M,W,λ y H2 cV I R2 F=>?_⟩;refine⟨_,H2,n,dd,_,R2,g4,λ z σ fe K j r3=>?_⟩;unfold aU at F;subst F;have ll:fe l=some (.dK (dQ (aI.map (·.1)) vv)):=j.keep l _ cF bP;refine⟨_,eS.k (k:=.inr k) ll,q _ σ fe (s1.trans (I.trans K)) (i.unfence w j) ?_⟩;cases hk:cf k aI with
   |none=>
    rw[C4 (by rw[<-C]) hk];exact r3
   |some dv=>
    obtain⟨v',w1,w2⟩:=pV D hk;rw[w1];exact aU.mono (I.trans K) _ w2
  .have f:(if J.all h8=true then _ else none)=some (d,g):=f;rw[if_neg no]at f;cases f
theorem yP(h:∃a,X.mg x=some (.ref a)∧nq X.K d (.ref a))(O:Gl X x:=by rfl)(hd:df x:=by decide):XE X (.Name x pos) (eC d):=by
 obtain⟨a,h,v,Y,Z⟩:=h;exact PE.wk (Tj O h Y hd) λ L H Q J=>by
  refine bN J λ c H0 U d b R f q=>?_;obtain⟨rfl,rfl⟩:=uR f;exact q _ H0 H (aB.refl _) R (Z H0)
end
end
section
def oO:D->Option (aM×List D)
 |.c ks vs=>some (ks,vs)
 |_=>none
@[simp] theorem cK0(ks:aM)(vs:aK):oO (.c ks vs)=some (ks,vs):=yI rfl
def pZ:aK->Option D
 |[.t xs]=>aH (oq xs) λ aI=>if aI.length<=1000/\(aI.map (·.1)).Nodup then some (.c (aI.map (·.1)) (aI.map (·.2)))else none
 |_=>none
theorem WZ(xs:aK):pZ [.t xs]=aH (oq xs) λ aI=>if aI.length<=1000/\(aI.map (·.1)).Nodup then some (.c (aI.map (·.1)) (aI.map (·.2)))else none:=rfl
def kU(d k:D):fN:=aH (oO d) λ q=>aH (zP k) λ s=>cf s (q.1.zip q.2)
def uW(k d:D):fN:=aH (oO d) λ q=>aH (zP k) λ s=>some (.b (!(cf s (q.1.zip q.2)).isSome))
@[simp] theorem cf4:kU (.c ks vs) (.str k)=cf k (ks.zip vs):=yI rfl
noncomputable def Al:aK->Option D
 |[.c ks vs]=>some (.l (ks.map .str))
 |_=>none
def Ej(js:d0)(I:FE)(T:FT)(F:FE)(U:En):bB:=aH (I U) λ p=>aH (oO p.1) λ q=>aH (h6 p.2 js) λ fr=>aH (d4 T F fr (q.1.map .str)) λ ys=>if q.1.length<=sizeLine then some (.l ys,p.2)else none
def uT(n:Nat)(U:En)(o:Option (aK)):bB:=aH o λ ys=>if n<=sizeLine then some (.l ys,U)else none
def D3(q:aM)(T:FT)(F:FE)(U:En)(o:Option En):bB:=aH o λ fr=>uT q.length U (d4 T F fr (q.map .str))
def Mg(js:d0)(T:FT)(F:FE)(o:bB):bB:=aH o λ p=>aH (oO p.1) λ q=>D3 q.1 T F p.2 (h6 p.2 js)
def pO:k6->Option (aK)
 |some (.o _ (.l ds))=>some ds
 |_=>none
def se(js:d0)(i:Nat)(T:FT)(F:FE)(U:En):bB:=aH (pO U[i]?) λ ds=>aH (h6 U js) λ fr=>aH (d4 T F fr ds) λ ys=>if ds.length<=sizeLine then some (.l ys,U)else none
def D2(ds:aK)(T:FT)(F:FE)(U:En)(o:Option En):bB:=aH o λ fr=>uT ds.length U (d4 T F fr ds)
def Mf(js:d0)(T:FT)(F:FE)(U:En)(o:Option (aK)):bB:=aH o λ ds=>D2 ds T F U (h6 U js)
def sf(q:Bool)(F:FE)(i:Nat)(U:En):bB:=aH (F U) λ p=>aH (pO p.2[i]?) λ ds=>if gM p.1 ds=true then some (.b (if q then !gp p.1 ds else gp p.1 ds),p.2)else none
def D5(q:Bool)(x:D)(U:En)(o:Option (aK)):bB:=aH o λ ds=>if gM x ds=true then some (.b (if q then !gp x ds else gp x ds),U)else none
def Mi(q:Bool)(i:Nat)(o:bB):bB:=aH o λ p=>D5 q p.1 p.2 (pO p.2[i]?)
@[simp] theorem bU7:(∀k ks vs,uW (.str k) (.c ks vs)=some (.b (!(cf k (ks.zip vs)).isSome)))/\(∀js I T F U,Ej js I T F U=Mg js T F (I U))/\(∀js T F ks vs U,Mg js T F (some (.c ks vs,U))=D3 ks T F U (h6 U js))/\(∀q T F U fr,D3 q T F U (some fr)=uT q.length U (d4 T F fr (q.map .str)))/\(∀n U ys,uT n U (some ys)=if n<=sizeLine then some (.l ys,U)else none)/\(∀b ds,pO (some (.o b (.l ds)))=some ds)/\(∀js i T F U,se js i T F U=Mf js T F U (pO U[i]?))/\(∀js T F U ds,Mf js T F U (some ds)=D2 ds T F U (h6 U js))/\(∀ds T F U fr,D2 ds T F U (some fr)=uT ds.length U (d4 T F fr ds))/\(∀q F i U,sf q F i U=Mi q i (F U))/\(∀q i x U,Mi q i (some (x,U))=D5 q x U (pO U[i]?))/\(∀q x U ds,D5 q x U (some ds)=if gM x ds=true then some (.b (if q then !gp x ds else gp x ds),U)else none):=fz
open PySem.Spec PyProof.Rows L2
theorem DK(h:(gc P w).is k u=true):aT (kV k) u:=by
 rcases g_5 (show ad0 k u=true from h)with⟨i,t,rfl,rfl⟩|⟨x,t,rfl,rfl⟩
 .exact⟨t,rfl⟩
 .exact⟨t,rfl⟩
theorem Ea:∀{aI:fO}{J:m4}{i:Nat}{k:Key}{x:Value},KV aI J->J[i]?=some (k,x)->∃v,aI[i]?=some (k,v)
 |_,_,_,_,_,.nil,e=>by simp at e
 |_,_,0,k,x,.cons (a:=p) (b:=q) h t,e=>by
  have e:q=(k,x):=by simpa using e
  subst e;exact⟨p.2,by grind⟩
 |_,_,i+1,_,_,.cons h t,e=>by
  obtain⟨v,q⟩:=Ea t (by simpa using e);exact⟨v,by simpa using q⟩
theorem fH(h:oO d=some q):d=.c q.1 q.2:=by
 cases d with
 |c a b=>obtain rfl:=aW h;rfl
 |_=>cases h
def BC(a:Addr)(ob:Obj)(aI:fO):It:=
 ⟨λ i H=>i<aI.length/\H a=some (.frz ob (.dK aI)),λ i H x H'=>H'=H/\∃k v,aI[i]?=some (k,v)/\x=kV k,λ i H=>aI.length<=i/\H a=some (.frz ob (.dK aI))⟩
theorem RI{K:Frag}(a it:Addr)(ob:Obj)(aI:fO)(es:Array DictEntry)(ep:Nat)(Y:ob.data=.dict es ep):gX P w K tg (BC a ob aI) [it] it (λ i h=>h.IsKeyIter it a i aI.length ep)where
 mem:=bP
 obj:=λ i h st b Z=>by
  have e:b=it:=by simpa using Z
  subst e;refine a_ st λ o e c d=>?_;exact⟨o,e,λ v z=>by rw[d]at z;simp at z⟩
 keep:=λ i h h' st k=>st.at λ o e=>k it bP o e
 item:=by
  intro X D N C R i aA s L H E I j st F;subst D N C;obtain⟨hi,t⟩:=F;refine fY (j it bP) λ u x f2 y A B=>?_;obtain⟨g,z,sm,f,O,Q,V,ρ,m,n,q,G,M,σ⟩:=(show bC X.p X.w H s.heap a (.frz ob (.dK aI))from I.hok a _ t);have e1:=qi (m.symm.trans g);subst e1;rw[Y]at q;cases q;have len:=O.length;have r:s.heap.DictAt (gc X.p X.w) a f ep:=⟨Q,es,g,n,Y,G,M,σ⟩;obtain⟨⟨k,v⟩,hx⟩:∃p,f[i]?=some p:=⟨f[i]' aE,by simp⟩;have l:s.heap.IsKeyIter it a i f.length ep:=by rw[<-len];exact st
  refine wpAny_pyNext_dict_item l r hx λ W h' T J sb=>?_;have S:=I.turned (t':=s.toks) (λ b o Z e=>(sb.2 b Z).trans e) u x y A B;obtain⟨v',e3⟩:=Ea O hx;refine a_ (id J) λ o e c d=>?_;rw[<-len]at J;exact⟨W,rfl,uS e c d aQ ⟨kV k,H,S,DK T,⟨rfl,k,v',e3,rfl⟩,J,λ b Z=>(j b Z).1⟩⟩
 done:=by
  intro X D N C R i aA s L H E I j st F;subst D N C;obtain⟨hi,t⟩:=F;refine fY (j it bP) λ u x f2 y A B=>?_;obtain⟨g,z,sm,f,O,Q,V,ρ,m,n,q,G,M,σ⟩:=(show bC X.p X.w H s.heap a (.frz ob (.dK aI))from I.hok a _ t);have e1:=qi (m.symm.trans g);subst e1;rw[Y]at q;cases q;have len:=O.length;have r:s.heap.DictAt (gc X.p X.w) a f ep:=⟨Q,es,g,n,Y,G,M,σ⟩;have l:s.heap.IsKeyIter it a i f.length ep:=by rw[<-len];exact st
  exact wpAny_pyNext_dict_end (I.ok.hd R) l r A0 λ h' eb=>⟨rfl,I.turned (λ b o Z e=>eb b o Z e) u x y A B⟩
 self:=λ _ _ _ _ _ st h=>wpAny_pyIter_keyiter st h
def cc2(t:TE):TI:=λ L H R=>t L H λ x H1=>∃a ob aI,x=.ref a/\H1 a=some (.frz ob (.dK aI))/\R (BC a ob aI) H1
theorem Xr(hl:PE X l tl):PI X tg l (cc2 tl):=by
 intro aA s L H R I h;refine bT (hl aA s L H _ I h) λ v c Y=>?_;refine cM Y λ x H1 d B A=>?_;refine eU A λ a ob aI e p q=>?_;subst e;subst B;obtain⟨f,z,C,D,i,g,O,J,k,j,Z,t,y,u⟩:=(show bC X.p X.w H1 c.heap a (.frz ob (.dK aI))from d.hok a _ p);have e1:=qi (k.symm.trans f);subst e1;have len:=i.length;have m:c.heap.DictAt (gc X.p X.w) a D J:=⟨g,O,f,j,Z,t,y,u⟩;refine wpAny_pyIter_dict C m ?_;refine⟨c.heap.n,[c.heap.n],_,_,H1,rfl,d.kept λ b o e=>qd _ e,RI a _ g aI O J Z,⟨_,qk _ rfl,rfl,by rw[len];rfl⟩,λ b r=>?_,q⟩;have e:b=c.heap.n:=by simpa using r
 subst e;exact d.fpOk (qj _) (d.hok.fresh (qj _))
theorem Uh{K:Frag}{ks:aM}(Y:H1 a=some (.frz ob (.dK ((ks.map Sum.inr).zip vs))))(l:ks.length=vs.length):oh K (BC a ob ((ks.map Sum.inr).zip vs)) H1 (ks.map .str):=λ H0 H i s s'=>by
 have q:=s' _ _ (s _ _ Y);have J:((ks.map Sum.inr).zip vs:fO).length=ks.length:=by rw[ji,qx];lia
 refine⟨λ d e=>?_,λ h=>⟨by rw[J];simpa using h,q⟩⟩;rw[zl]at e;cases z:ks[i]? with
 |none=>rw[z]at e;cases e
 |some k=>
  rw[z]at e;obtain rfl:=aW e;have hi:=(fC.mp z).1;refine⟨⟨by rw[J];exact hi,q⟩,λ x H'⟨h1,b,Z,h2,O⟩=>⟨h1,?_⟩⟩;rw[List.getElem?_zip_eq_some]at h2;obtain⟨h2,_⟩:=h2;rw[zl,z]at h2;obtain rfl:=aW h2;exact O
section
variable{bM:e_}
theorem SQ(i:Nat)(hN:X.N.Nodup)(hc:X.c=true)(aa:X.v.scope=sc)(Bk:fu X.N sc scope x aY js)(hi:XE X iter I)(ht:∀s H C Z,nt (dR X (x::aY) scope s H C Z) bM T)(he:∀s H C Z,XE (dR X (x::aY) scope s H C Z) elt F)(ae:X.N[i]?=some y:=by rfl)(hy:gf X y:=by rfl)(Y:swapsWith (.ListComp elt [⟨.Name x px,iter,bM,0⟩] scope pos) (some (.Name y py)) spos.line X.v=pure true:=by rfl)(hs:nR X iter:=by intro _;rfl):XS X (.Assign [.Name y py] (.ListComp elt [⟨.Name x px,iter,bM,0⟩] scope pos) spos) (bH i (Ej js I T F)):=
 PS.wk (w_ (tt:=jZ X.K T) (te:=tE X.K F) hN ae hy hc aa Bk (Xr hi) ht he Y hs) λ Dn L H O=>by
  refine cB O λ c H0 U r R f q=>?_;obtain⟨⟨d,G⟩,J,f⟩:=aP f;have j:=f;obtain rfl:=aW j;obtain⟨⟨z,h⟩,h1,J⟩:=aP J;obtain⟨⟨P,σ⟩,k,J⟩:=aP J;obtain⟨fr,m,J⟩:=aP J;obtain⟨ys,n,J⟩:=aP J;obtain⟨M,J⟩:=Lake.bM J;cases J;cases fH k;refine bG c H0 U _ h R h1 λ v H1 E B e w=>?_;obtain⟨a,ob,b,rfl,g,t,l⟩:=w;refine⟨a,ob,_,rfl,e.same _ _ g,?_⟩;refine DY e m n (by grind) (Uh g (by rw[l,t.length])) λ b H2 cV D R2 A=>λ p u=>?_;have S:=bY.alloc (o:=.l b) R2.same u;refine q _ _ _ (B.trans (D.trans S.s0)) ((R2.after S).set i ?_);exact cD p b rfl (.inl (.inl cF)) (aD.mono S.s0 _ A)
end
end
section
open PySem.W L2
structure XC(K:Frag)(C:Addr):Prop where
 is:(clsIn K C).isSome=true
 ga:findIn K (.ref C) "__getattribute__"=some (some (.builtin "BaseException.__getattribute__"))
 gh:findIn K (.ref C) "__getattr__"=some none
 cl:findIn K (.ref C) "__class__"=some (some (.builtin "object.__class__"))
 ge:specialIn K (.builtin "object.__class__") "__get__"=some (some (.builtin "getset_descriptor.__get__"))
 tk:takesIn K (.builtin "object.__class__")=some true
 mo:mroIn K C (.type "object")=some true
 mb:mroIn K C (.type "BaseException")=some true
section
theorem XC.ck{tk:Tok}(f:XC K C)(X:K.In s.heap)(I:InstAt s.heap x ox C od)(h:Q () s):bV prog w A (checkBuiltinCall "BaseException.__getattribute__" ⟨[.ref x,.str n tk],[]⟩) Q E s:=by
 have e3:=F.args_bexc_ga (.ref x) (.str n tk);obtain⟨q,g,d,t,os⟩:=s;have J:Looks (model prog w) q (isInstance (.ref x) (.type "BaseException")) true:=(I.type).andThen (looks_mroIn X f.mb);refine qb (J.at ?_);rw[if_neg aQ];exact wpAny_of_eq e3 h
end
def fh(c:Value)(vs:g9)(dd:kD:=none):Obj:={cls:=c,dict:=dd,data:=.fields vs,slots:=#[]}
theorem Ac(q:s.heap.get? a=some (fh c vs dd))(J:k<vs.size)(h:∀h',h'.get? a=some (fh c (vs.setIfInBounds k x) dd)->Heap.SameBut a s.heap h'->Q () {s with heap:=h'}):bV prog w A (setField (.ref a) k x) Q E s:=
 Qg q rfl J (h _ (zq _ q rfl) (yg s.heap a _))
def Aw(fs es:fV)(h h':Heap):Prop:=∀b o,h.get? b=some o->b∉es->(b∉fs->h'.get? b=some o)/\∃q,h'.get? b=some {o with slots:=q}
theorem Aw.of(k:∀b o,b∉es->h.get? b=some o->h'.get? b=some o):Aw fs es h h':=λ b o e n=>⟨λ _=>k b o n e,o.slots,k b o n e⟩
def jA(h:Heap)(e T C:Addr)(dd:kD)(q:Value):Prop:=T≠e∧(∃vs,h.get? e=some (fh (.ref C) vs dd)∧vs[1]?=some (.ref T))∧∃ts,h.get? T=some (fh (.type "traceback") ts)∧ts[3]?=some q
section
variable{s:Shared}{σ e C T:Addr}
theorem J_(Y:s.heap.FunFrames base l)(J:s.heap.get? e=some (fh c vs dd)):e∉gO l:=λ z=>by
 obtain⟨_,o,q,O⟩:=Y.mem z;rw[J]at q;obtain rfl:=aW q;exact O vs rfl
theorem Km(Z:A.frames=some (env::outer))(hl:s.heap.FunFrames base (env::outer))(hf:env.frame=some σ)(he:s.heap.get? e=some (fh (.ref C) vs dd))(h1:1<vs.size)(k:∀h' T,Aw (gO (env::outer)) [e] s.heap h'->s.heap.n<=T->jA h' e T C dd (rawInt σ)->Q () {s with heap:=h'}):
  bV prog w A (do setField (.ref e) 1 (<-EntryCells.newEntry J (<-frameOf env) .none (rawInt σ) .none (<-entryPlaceOf σ nx))) Q E s:=by
 refine qb (wpAny_frameOf_fun Z hl hf λ g O=>qb (wpAny_entryPlaceOf λ Y h=>qb ?_));refine yh ?_ (h.sizeOk5 J (.ref σ) .none (rawInt σ) .none);have c:([J,.ref σ,.none,rawInt σ,.none]++(if Y.isEmpty then List.replicate 6 Value.none else Y)).toArray[3]?=some (rawInt σ):=rfl;generalize ([J,.ref σ,.none,rawInt σ,.none]++(if Y.isEmpty then List.replicate 6 Value.none else Y)).toArray=ts at c⊢;have a:=(O.2.1 e (J_ hl he)).trans he;refine Ac (qd _ a) h1 λ h' e1 d=>?_;have te:=jz (qm a);refine k h' g.n (λ b o q n=>?_) (Nat.le_of_eq O.1.symm) ⟨te,⟨_,e1,by simp[h1]⟩,ts,?_,c⟩
 .have f:b≠e:=λ z=>n (by simp[z]);have up:∀o',g.get? b=some o'->h'.get? b=some o':=λ o' z=>(d.2 b f).trans (qd _ z);obtain⟨i,z⟩:=O.2.2 b o q;exact⟨λ m=>up o ((O.2.1 b m).trans q),i,up _ z⟩
 .exact(d.2 _ te).trans (qk _ rfl)
theorem HB(q:A.frames=some (env::outer))(Y:s.heap.FunFrames base (env::outer))(O:env.frame=some σ)(J:s.heap.get? e=some (fh (.ref C) vs dd))(h1:vs[1]?=some .none)(k:∀h' T,Aw (gO (env::outer)) [e] s.heap h'->s.heap.n<=T->jA h' e T C dd (rawInt σ)->Q () {s with heap:=h'}):bV prog w A (noteFrame (.ref e) env) Q E s:=by
 simp only[noteFrame,O];refine qb (jl J rfl h1 ?_);rw[show(Value.none != Value.none)=false from rfl,if_neg aQ];exact Km q Y O J (Array.getElem?_eq_some_iff.mp h1).1 k
theorem Bu(Z:A.frames=some (env::outer))(hl:s.heap.FunFrames base (env::outer))(hf:env.frame=some σ)(x:jA s.heap e T C dd .none)(k:∀h' O,Aw (gO (env::outer)) [e,T] s.heap h'->s.heap.n<=O->jA h' e O C dd (rawInt σ)->Q () {s with heap:=h'}):bV prog w A (noteFrame (.ref e) env) Q E s:=by
 obtain⟨te,⟨j,g,h1⟩,i,c,d⟩:=x;simp only[noteFrame,hf];refine qb (jl g rfl h1 ?_);rw[show(Value.ref T != Value.none)=true from rfl,if_pos rfl];refine qb (jl c rfl d ?_);rw[show(Value.none==rawInt σ)=false from rfl,if_neg aQ];refine qb (Ac c (Array.getElem?_eq_some_iff.mp d).1 λ J e1 Y=>?_);have h:=hl.of_keeps λ b o q n=>by
  have bt:b≠T:=λ z=>by subst z;rw[c]at q;obtain rfl:=aW q;exact n i rfl
  exact⟨o,(Y.2 b bt).trans q,rfl⟩
 refine Km Z h hf ((Y.2 e te.symm).trans g) (Array.getElem?_eq_some_iff.mp h1).1 λ h' O a z f=>k h' O (λ b o q n=>?_) (qy (Nat.le_of_eq Y.1.symm) z) f;simp only[y9,jw,Yv,not_or]at n;exact a b o ((Y.2 b n.2).trans q) (by simp[n.1])
theorem xY(x:jA s.heap e T C dd Y)(k:∀h',Heap.SameBut T s.heap h'->jA h' e T C dd .none->Q () {s with heap:=h'}):bV prog w A (setFlight (.ref e) none) Q E s:=by
 obtain⟨te,⟨b,q,h1⟩,c,a,Z⟩:=x;have O:=(Array.getElem?_eq_some_iff.mp Z).1;refine qb (jl q rfl h1 ?_);rw[show(Value.ref T != Value.none)=true from rfl,if_pos rfl];exact Ac a O λ h' e1 J=>k h' J ⟨te,⟨b,(J.2 e te.symm).trans q,h1⟩,_,e1,by simp[O]⟩
theorem Ie(Y:env.frame=some σ)(x:jA s.heap e T C dd (rawInt σ))(k:Q () s):bV prog w A (noteFrame (.ref e) env) Q E s:=by obtain⟨te,⟨b,q,h1⟩,a,O,J⟩:=x;simp only[noteFrame,Y];refine qb (jl q rfl h1 ?_);rw[show(Value.ref T != Value.none)=true from rfl,if_pos rfl];refine qb (jl O rfl J ?_);rw[if_pos (beq_self_eq_true _)];exact qc k
theorem YG(x:jA s.heap e T C dd Y)(k:∀h',Heap.SameBut T s.heap h'->jA h' e T C dd (rawInt σ)->Q () {s with heap:=h'}):
    bV prog w A (do if(← field (.ref e) 1)==.none then unsupported "frame.own-activation:exception-without-traceback"
                               setFlight (.ref e) (some σ)) Q E s:=by
  obtain⟨te,⟨b,q,h1⟩,c,a,Z⟩:=x;have O:=(Array.getElem?_eq_some_iff.mp Z).1;refine qb (jl q rfl h1 ?_);rw[show(Value.ref T==Value.none)=false from rfl,if_neg aQ];refine qb (jl q rfl h1 ?_);rw[show(Value.ref T != Value.none)=true from rfl,if_pos rfl];exact Ac a O λ h' e1 J=>k h' J ⟨te,⟨b,(J.2 e te.symm).trans q,h1⟩,_,e1,by simp[O]⟩
end
open PySem.Spec PyProof.Rows
def iJ(P:Program)(w:World):oz:=λ outer H s E e s'=>∃a T C dd H',e=.ref a/\s'.os=s.os/\AllBare s'.gens/\Un (gO outer) [] H H' s.heap s'.heap/\eD P w H' s'.heap/\s.heap.get? a=none/\s.heap.get? T=none/\H' a=none/\H' T=none/\jA s'.heap a T C dd .none/\E (.ref C) dd H'
theorem WA{P:Program}{w:World}{H:Hp}{h:Heap}{a:Addr}{o:HO}(k:bC P w H h a o):∃u,h.get? a=some u:=by
 cases o with
 |l=>obtain⟨_,_,_,_,e⟩:=k;exact⟨_,e⟩
 |t=>obtain⟨_,_,_,o,e,_⟩:=k;exact⟨_,e⟩
 |dK=>obtain⟨_,_,_,_,o,_,_,e,_⟩:=k;exact⟨_,e⟩
 |dT=>obtain⟨_,_,_,_,o,_,_,e,_⟩:=k;exact⟨_,e⟩
 |set=>refine iL k λ _ _ _ _ e _=>?_;exact⟨_,e⟩
 |ins=>obtain⟨_,_,_,e,_⟩:=k;exact⟨_,e⟩
 |own=>exact k
 |xd=>obtain⟨_,x,_⟩:=k;refine jK x λ o _ _ e _=>?_;exact⟨_,e⟩
 |rng=>refine pq k λ _ _ _ e=>?_;exact⟨_,e⟩
 |frz=>exact⟨_,k.1⟩
 |tbl=>obtain⟨_,e,_⟩:=k;exact⟨_,e⟩
 |cod=>refine cB k λ _ _ _ _ e e2 _=>?_;cases e;exact⟨_,e2⟩
 |met=>exact⟨_,k⟩
 |ext=>obtain⟨_,e,_⟩:=k;exact e
theorem Ba(ok:eD P w H h)(n:h.get? a=none):H a=none:=by
 cases e:H a with
 |none=>rfl
 |some o=>
  obtain⟨u,q⟩:=WA (ok a o e);rw[n]at q;simp at q
section
variable{X:Cx}{aA:cK}{L:L2.St}{H:Hp}{s:Shared}{h':Heap}{es:fV}
theorem JI{P:Program}{w:World}{H:Hp}{h h':Heap}{fs es:fV}(ok:eD P w H h)(a:Aw fs es h h')(Y:∀b∈fs,H b=none)(O:∀b∈es,H b=none):eD P w H h':=λ b o e=>by
 have d:∀c,H c≠none->c∉fs/\c∉es:=λ c n=>⟨λ z=>n (Y c z),λ z=>n (O c z)⟩
 refine(ok b o e).stay (λ c u J q=>?_) (λ _ z=>z) (λ _ _ z=>z) (λ _ _ z=>z);have n:H c≠none:=by
  rcases J with rfl|J
  .rw[e];exact Option.some_ne_none _
  .rw[J];exact Option.some_ne_none _
 exact(a c u q (d c n).2).1 (d c n).1
def vc(X:Cx)(aA:cK)(H:Hp)(b:Addr):Prop:=
 H b=none/\b≠X.v.locals/\(b∈X.ex\/X.s₀.heap.get? b=none)/\(∀x c,X.v.cells.lookup x=some c->c≠b)/\∀p∈X.pn++aA,p.1≠b
theorem Dz(I:aJ X aA L H s)(n:s.heap.get? b=none)(O:H' b=none):vc X aA H' b:=by
 refine⟨O,λ z=>?_,?_,λ x c e z=>?_,λ p Y z=>?_⟩
 .obtain⟨m,⟨o,_,_,q,_⟩,_⟩:=I.loc;rw[<-z,n]at q;simp at q
 .by_cases O:b∈X.ex
  .exact .inl O
  .refine .inr ?_;cases e:X.s₀.heap.get? b with
   |none=>rfl
   |some o=>
    obtain⟨a,q⟩:=I.base.there b o e O;rw[n]at q;simp at q
 .obtain⟨v,o,q,_⟩:=I.cell x c e;rw[z,n]at q;simp at q
 .have q:=(I.pin p Y).1;rw[z,n]at q;simp at q
theorem rE(I:aJ X aA L H s)(a:Aw (gO X.stack) es s.heap h')(O:∀b∈es,vc X aA H b):aJ X aA L H {s with heap:=h',toks:=t'}:=by
 have J:∀b o,X.s₀.heap.get? b=some o->b∉X.ex->b≠X.v.locals/\b∉es:=λ b o q hx=>by
  refine⟨qr (qp (qm q) I.ok.above),λ z=>?_⟩;rcases(O b z).2.2.1 with y|y
  .exact hx y
  .rw[q]at y;simp at y
 have fr:∀b,b≠X.v.locals->b∉X.fs->b∉gO X.stack:=λ b n m z=>(qt (I.stkSub b z)).elim n m;have un:=I.base;have Z:∀x c v,X.v.cells.lookup x=some c->s.heap.IsCell c v->h'.IsCell c v:=λ x c v e C=>by
  obtain⟨o,q,d⟩:=C;obtain⟨_,B,g⟩:=a c o q λ z=>(O c z).2.2.2.1 x c e rfl;exact⟨_,g,d⟩
 refine⟨I.ok,I.os,I.bare,⟨λ b o q n f hx=>?_,λ b o q n f hx=>?_,un.free,λ b o q hx=>?_,un.tups,un.frzs,un.tbls⟩,?_,λ x c e=>?_,I.free,I.freeC,λ p t=>?_,JI I.hok a I.stkFree λ b z=>(O b z).1,I.len⟩
 .exact(a b o (un.keep b o q n f hx) (J b o q hx).2).1 (fr b (J b o q hx).1 f)
 .obtain⟨B,h⟩:=un.slot b o q n f hx;obtain⟨_,Y,j⟩:=a b _ h (J b o q hx).2;exact⟨Y,j⟩
 .obtain⟨K,h⟩:=un.there b o q hx;obtain⟨_,Y,j⟩:=a b _ h (J b o q hx).2;exact⟨_,j⟩
 .obtain⟨m,⟨o,D,E,q,r⟩,F⟩:=I.loc;obtain⟨_,B,g⟩:=a _ o q λ z=>(O _ z).2.1 rfl;refine⟨m,⟨_,D,E,g,r⟩,λ i x v e1 e2 e3=>?_⟩;obtain⟨u,G,l⟩:=F i x v e1 e2 e3;refine⟨u,G,l.imp id ?_⟩;rintro ⟨k,c,e,z⟩;exact⟨k,c,e,Z x c _ e z⟩
 .obtain⟨v,z⟩:=I.cell x c e;exact⟨v,Z x c v e z⟩
 .obtain⟨q,n,w,A,d⟩:=I.pin p t;exact⟨(a p.1 p.2 q λ z=>(O _ z).2.2.2.2 p t rfl).1 (fr p.1 w A),n,w,A,d⟩
end
section
variable{K:Frag}
theorem R9(I:aJ (f_ (iJ P w) P w K mg base N qual scope f cd A outer s H E) aA L H1 s2)(fa:H1 a=none)(na:s.heap.get? a=none)(there:(∃vs,s2.heap.get? a=some (fh (.ref C) vs dd)/\vs[1]?=some .none)\/∃T O,(O=.none\/O=rawInt s.heap.n)/\H1 T=none/\s.heap.get? T=none/\jA s2.heap a T C dd O)(e:E (.ref C) dd H1):(f_ (iJ P w) P w K mg base N qual scope f cd A outer s H E).xe (.ref a) s2:=by
 have t:=I.stack;have p:=I.ok.frames;have un:=I.base;have D:∀b,s2.heap.get? b=none->s.heap.get? b=none:=λ b z=>by
  cases q:s.heap.get? b with
  |none=>rfl
  |some o=>
   obtain⟨Q,v⟩:=un.there b o q (by intro y;cases y);rw[z]at v;simp at v
 have M:∀b o,s.heap.get? b=some o->b≠s.heap.n:=λ b o q=>qr (qm q);have fin:∀(h':Heap)(T:Addr)(es:fV),Aw (gO (envOfC qual scope s.heap.n f cd::outer)) es s2.heap h'->(∀b∈es,H1 b=none/\s.heap.get? b=none)->T∈es->jA h' a T C dd .none->iJ P w outer H s E (.ref a) {s2 with heap:=h'}:=by
  intro h' T es d J u O;have Z:∀b o,s.heap.get? b=some o->b∉es:=λ b o q z=>by grind
  refine⟨a,T,C,dd,H1,rfl,I.os,I.bare,⟨λ b o q n g _=>?_,λ b o q n g _=>?_,λ b o q n hx=>un.free b o q n hx,λ b o q hx=>?_,un.tups,un.frzs,un.tbls⟩,JI I.hok d (λ b z=>I.stkFree b z) (λ b z=>(J b z).1),na,(J T u).2,fa,(J T u).1,O,e⟩
  .have c:=un.keep b o q n g (by intro z;cases z);refine(d b o c (Z b o q)).1 λ z=>?_;rcases qt (show b∈s.heap.n::gO outer from z)with z|z
   .exact M b o q z
   .exact g z
  .obtain⟨x,c⟩:=un.slot b o q n g (by intro z;cases z);obtain⟨_,r,l⟩:=d b _ c (Z b o q);exact⟨r,l⟩
  .obtain⟨Q,c⟩:=un.there b o q hx;obtain⟨_,r,l⟩:=d b _ c (Z b o q);exact⟨_,l⟩
 have Y:∀(h':Heap)(T:Addr)(es:fV),Aw (gO (envOfC qual scope s.heap.n f cd::outer)) es s2.heap h'->s2.heap.n<=T->(∀b∈es,H1 b=none/\s.heap.get? b=none)->jA h' a T C dd (rawInt s.heap.n)->wpAny (model P w) (A.deeper (envOfC qual scope s.heap.n f cd)) (setFlight (.ref a) none) (λ _ k=>iJ P w outer H s E (.ref a) k) (λ G k=>iJ P w outer H s E G k) {s2 with heap:=h'}:=by
  intro h' T es d S J O;have dT:=yr S;refine xY O λ h2 h j=>fin h2 T (T::es) (λ b o q n=>?_) (λ b z=>?_) bP j
  .simp only[y9,not_or]at n;obtain⟨R,x,c⟩:=d b o q n.2;exact⟨λ m=>(h.2 b n.1).trans (R m),x,(h.2 b n.1).trans c⟩
  .rcases qt z with rfl|z
   .exact⟨Ba I.hok dT,D _ dT⟩
   .exact J b z
 show wpAny _ _ (leaving _ _) _ _ _;rcases there with⟨vs,σ,h1⟩|⟨T,_,rfl|rfl,ρ,V,O⟩
 .exact qb (HB p t rfl σ h1 λ h' T i z O=>Y h' T [a] i z (by grind) O)
 .exact qb (Bu p t rfl O λ h' B i z F=>Y h' B [a,T] i z (by grind) F)
 .exact qb (Ie rfl O (xY O λ h2 h j=>fin h2 T [T] (Aw.of λ b o n z=>(h.2 b (by simpa using n)).trans z) (by grind) bP j))
def C3(X:Cx)(E:XK):Prop:=∀(aA:cK)(L:L2.St)(H:Hp)(s:Shared)(e C:Addr)(dd:kD)(vs:g9),aJ X aA L H s->H e=none->X.s₀.heap.get? e=none->s.heap.get? e=some (fh (.ref C) vs dd)->vs[1]?=some .none->E (.ref C) dd H->X.xe (.ref e) s
end
abbrev bmV:bO:=[.type "ValueError",.type "Exception",.type "BaseException",.type "object"]
end
section
abbrev XV:=Str×Option (Str×D)
inductive RX where
 |ok (r:jC)|ex (x:XV)
abbrev FX:=En->Option RX
noncomputable def Fn(r:jC):Option RX:=some (.ok r)
def rS(A:FS)(U:En):Option RX:=aH (A U) Fn
def Fi(B:FX):RX->Option RX
 |.ok (.nx U)=>B U
 |r=>some r
def DH(A B:FX)(U:En):Option RX:=aH (A U) (Fi B)
def AH(A B:FX)(p:Bool×En):Option RX:=if p.1=true then A p.2 else B p.2
def AZ(T:FT)(A B:FX)(U:En):Option RX:=aH (T U) (AH A B)
def BN(x f:Str)(o:bB):Option RX:=aH o λ p=>some (.ex (x,some (f,p.1)))
def BO(x f:Str)(F:FE)(U:En):Option RX:=BN x f (F U)
def Ad:RX->Option (D⊕XV)
 |.ok r=>aH (vD r) λ d=>some (.inl d)
 |.ex x=>some (.inr x)
def qP(n k:Nat)(B:FX)(ds:aK):Option (D⊕XV):=if ds.length=n then aH (B (ds.map .i++List.replicate k .z)) Ad else none
@[simp] theorem by0:(∀x f F U,BO x f F U=BN x f (F U))/\(∀x f d U,BN x f (some (d,U))=some (.ex (x,some (f,d))))/\(∀A U,rS A U=aH (A U) Fn)/\(∀r,Fn r=some (.ok r))/\(∀B U,Fi B (.ok (.nx U))=B U)/\(∀A B U,DH A B U=aH (A U) (Fi B))/\(∀A B U,AH A B (true,U)=A U)/\(∀A B U,AH A B (false,U)=B U)/\(∀T A B U,AZ T A B U=aH (T U) (AH A B))/\(∀U,Ad (.ok (.nx U))=some (.inl .n))/\(∀x,Ad (.ex x)=some (.inr x)):=fz
open PySem.W PySem.Spec PyProof.Rows L2
def XD(K:Frag)(H0 H:Hp):Option (Str×D)->Option Addr->Prop
 |none,none=>True
 |some p,some dx=>∃v,aU K H0 p.2 v/\H dx=some (.xd [(p.1,v)])
 |_,_=>False
def iO(K:Frag)(mg:Str->Option Value)(E:XK)(c:FC)(Dn:kI)(H0:Hp):RX->Prop
 |.ok r=>fZ K c Dn H0 r
 |.ex x=>∀C dd ρ' q aV H',mg x.1=some (.ref C)->aB H0 aV->RS K c aV H' ρ' q->XD K aV H' x.2 dd->E (.ref C) dd H'
theorem iO.mono{K:Frag}(s:aB H0 H1):∀{r:RX},iO K mg E c Dn H0 r->iO K mg E c Dn H1 r
 |.ok _,h=>fZ.mono s h
 |.ex _,h=>λ C dd a q aV H' m z=>h C dd a q aV H' m (s.trans z)
def tX(K:Frag)(mg:Str->Option Value)(E:XK)(F:FX):TS:=λ Dn L H=>∃c H0 U r,RS K c H0 H U L/\F U=some r/\iO K mg E c Dn H0 r
def rO(X:Cx)(E:XK)(st:Stmt)(F:FX):Prop:=PS X st (tX X.K X.mg E F)
def XX(X:Cx)(E:XK)(sts:jU)(F:FX):Prop:=eL X sts (tX X.K X.mg E F)
section
variable{st:Stmt}
theorem Jq(h:rS S U=some r):∃z,S U=some z/\r=.ok z:=by obtain⟨z,h1,h2⟩:=aP h;exact⟨z,h1,(qi h2).symm⟩
theorem xxs(h:XS X st S):rO X E st (rS S):=PS.wk h λ Dn L H J=>by
 refine cB J λ c H0 U r R f q=>?_;obtain⟨z,h1,rfl⟩:=Jq f;exact eW c H0 U z R h1 q
theorem K_(h:gA X sts S):XX X E sts (rS S):=eL.wk h λ Dn L H J=>by
 refine cB J λ c H0 U r R f q=>?_;obtain⟨z,h1,rfl⟩:=Jq f;exact eW c H0 U z R h1 q
theorem A_(h:rO X E st A):XX X E [st] A:=qX h
theorem xxC(h1:rO X E st A)(h2:XX X E sts B):XX X E (st::sts) (DH A B):=eL.wk (wg h1 h2) λ Dn L H J=>by
 refine cB J λ c H0 U r R f q=>?_;obtain⟨z,h,f⟩:=aP f;refine eW c H0 U z R h ?_
 match z,f with
 |.ok (.nx a),f=>exact λ O aV H' s Y=>⟨c,aV,a,r,Y,f,q.mono s⟩
 |.ok (.rt _ _),f=>obtain rfl:=aW f;exact q
 |.ok (.bk _),f=>obtain rfl:=aW f;exact q
 |.ok (.ct _),f=>obtain rfl:=aW f;exact q
 |.ex _,f=>obtain rfl:=aW f;exact q
theorem La(Z:XT X c T)(ha:XX X E a A)(hb:XX X E b B):rO X E (.If c a b pos) (AZ T A B):=PS.wk (JW Z ha hb) λ Dn L H O=>by
 refine cB O λ c H0 U r R f q=>?_;obtain⟨⟨k,J⟩,h1,f⟩:=aP f;refine bG c H0 U k J R h1 λ H1 e d Y=>?_;cases k with
 |true=>rw[if_pos rfl];exact eW c H1 J r Y f (q.mono d)
 |false=>rw[if_neg zh];exact eW c H1 J r Y f (q.mono d)
end
def cc9(K:Frag)(mg:Str->Option Value)(q H:Hp)(Q:VK)(E:XK):D⊕XV->Prop
 |.inl d=>∀v dH H',bY q H dH H'->aU K dH d v->Q v H'
 |.inr x=>∀C dd dH H',mg x.1=some (.ref C)->bY q H dH H'->XD K dH H' x.2 dd->E (.ref C) dd H'
def A2(K:Frag)(mg:Str->Option Value)(g:aK->Option (D⊕XV)):Sp:=λ vs H Q E=>∃q ds r,aB q H/\aD K q ds vs/\g ds=some r/\cc9 K mg q H Q E r
structure lL(P:Program)(w:World)(K:Frag)(mg:Str->Option Value)(base:Heap)(k:Nat)(x:Str)(g:aK->Option (D⊕XV)):Prop where
 ex:∃f fd ps,cR P w K mg base (iJ P w) k f fd ps (A2 K mg g)/\dE K fd ps []/\keepIn K (.ref f)=true/\mg x=some (.ref f)
theorem YF{K:Frag}{st:Stmt}(F:iz K x qual st f fd)(S:aG N ps (bA st))(hn:ps.length=n)(hN:N.length=n+m)(hb:∀(J:Value)(A:Around)(outer:fP)(s:Shared)(H:Hp)(E:XK),bJ k (A.deeper (envOfC qual (bA st) s.heap.n f J))->XX (f_ (iJ P w) P w K mg base N qual (bA st) f J A outer s H E) E (gQ st) B):cR P w K mg base (iJ P w) (k+1) f fd ps (A2 K mg (qP n m B)):=by
 have Y:∀{a:aK}{r:D⊕XV},qP n m B a=some r->a.length=n/\∃z,B (a.map .i++List.replicate m .z)=some z/\Ad z=some r:=λ{a r}h=>by
  unfold qP at h;split at h
  .rename_i g;obtain⟨z,h1,h2⟩:=aP h;grind
  .simp at h
 obtain⟨σ,M,kV,y,T,I,J,ct,G,rfl,l,Z⟩:=F.ex;refine zX l Z S (λ p H Q E h=>?_) λ A outer s H p Q E i h=>?_
 .refine dN h λ b a d _ r e _=>?_;rw[hn,<-r.length];exact(Y e).1
 .refine dN h λ b a d j r e q=>?_;obtain⟨g,z,h1,h2⟩:=Y e;refine⟨_,hb J A outer s H E i,⟨b,H,[]⟩,b,_,z,RS.start j r (by rw[<-r.length];lia),h1,?_⟩
  match z,h2 with
  |.ok (.nx _),h2=>obtain rfl:=aW h2;exact λ O aV H' c R=>q .n aV H' R.step (by rfl)
  |.ok (.rt _ _),h2=>obtain rfl:=aW h2;exact λ v O aV H' c R o=>q v aV H' R.step o
  |.ok (.bk _),h2=>cases h2
  |.ok (.ct _),h2=>cases h2
  |.ex _,h2=>obtain rfl:=aW h2;exact λ C dd u O aV H' m c R t=>q C dd aV H' m R.step t
section
variable{X:Cx}{aA:cK}{L:L2.St}{H:Hp}{s:Shared}{a:Addr}{o:Obj}
noncomputable abbrev qW(X:Cx)(a:Addr)(o:Obj):Cx:={X with pn:=(a,o)::X.pn}
theorem VL(k:X.Ok):(qW X a o).Ok:=⟨k.mod,k.kind,k.glob,k.blt,k.above,k.inj,k.has,k.cab,k.hd,k.frames,k.stk,k.exf,k.bs,k.bsz,k.noex,k.exfs,k.funs,k.frf,k.tab⟩
theorem Vi(k:(qW X a o).Ok):X.Ok:=⟨k.mod,k.kind,k.glob,k.blt,k.above,k.inj,k.has,k.cab,k.hd,k.frames,k.stk,k.exf,k.bs,k.bsz,k.noex,k.exfs,k.funs,k.frf,k.tab⟩
theorem W3(I:aJ X aA L H s)(q:s.heap.get? a=some o)(n:H a=none)(J:a≠X.v.locals)(Y:a∉X.fs)(d:∀v,o.data≠.cell v):aJ X ((a,o)::aA) L H s:=
 ⟨I.ok,I.os,I.bare,I.base,I.loc,I.cell,I.free,I.freeC,λ p O=>by
  rcases qw O with z|z
  .exact I.pin p (List.mem_append.mpr (.inl z))
  .rcases qt z with rfl|z
   .exact⟨q,n,J,Y,d⟩
   .exact I.pin p (List.mem_append.mpr (.inr z)),I.hok,I.len⟩
theorem Vj(I:aJ X ((a,o)::aA) L H s):aJ (qW X a o) aA L H s:=
 ⟨VL I.ok,I.os,I.bare,I.base,I.loc,I.cell,I.free,I.freeC,λ p q=>I.pin p (by grind),I.hok,I.len⟩
theorem XI(I:aJ (qW X a o) aA L H s):aJ X aA L H s:=
 ⟨Vi I.ok,I.os,I.bare,I.base,I.loc,I.cell,I.free,I.freeC,λ p q=>I.pin p (qh _ q),I.hok,I.len⟩
noncomputable abbrev CT(X:Cx)(a:Addr)(E:c8):Cx:={X with A:=X.A.mark (some (.ref a)),c:=false,xe:=E}
theorem Kh{E:c8}(I:aJ X aA L H s)(b:Addr):aJ (CT X b E) aA L H s:=
 let k:=I.ok
 ⟨⟨k.mod,k.kind,k.glob,k.blt,k.above,k.inj,k.has,k.cab,(λ z=>nomatch z),k.frames,k.stk,k.exf,k.bs,k.bsz,k.noex,k.exfs,k.funs,k.frf,k.tab⟩,I.os,I.bare,I.base,I.loc,I.cell,I.free,I.freeC,I.pin,I.hok,I.len⟩
theorem RH(ok:X.Ok)(I:aJ (CT X b E) aA L H s):aJ X aA L H s:=
 ⟨ok,I.os,I.bare,I.base,I.loc,I.cell,I.free,I.freeC,I.pin,I.hok,I.len⟩
theorem Sb{i:Nat}{x:Str}{h':Heap}{v:kC}{t':Nat}{m:Str->Option Value}(I:aJ X aA L H s)(hN:X.N.Nodup)(hi:X.N[i]?=some x)(hm:s.heap.Ns X.v.locals m)(hn:h'.Ns X.v.locals (λ y=>if y=x then v else m y))(O:Heap.SameBut X.v.locals s.heap h'):aJ X aA (L.set i none) H {s with heap:=h',toks:=t'}:=by
 have Y:∀b o,X.s₀.heap.get? b=some o->b≠X.v.locals:=λ b o q=>qr (qp (qm q) I.ok.above);refine⟨I.ok,I.os,I.bare,⟨λ b o e n f hx=>(O.2 b (Y b o e)).trans (I.base.keep b o e n f hx),λ b o e n f hx=>?_,I.base.free,λ b o e hx=>?_,I.base.tups,I.base.frzs,I.base.tbls⟩,?_,λ y c e=>?_,I.free,I.freeC,λ p F=>?_,λ b u e=>?_,by simpa using I.len⟩
 .obtain⟨P,q⟩:=I.base.slot b o e n f hx;exact⟨P,(O.2 b (Y b o e)).trans q⟩
 .obtain⟨σ,q⟩:=I.base.there b o e hx;exact⟨σ,(O.2 b (Y b o e)).trans q⟩
 .refine bE I.loc λ m1 A E=>?_;refine dN A λ V Q ρ M B k1 C=>?_;refine dN hm λ R S T t h k2 D=>?_;rw[M]at t;obtain rfl:=aW t;rw[B]at h;cases h;have G:m=m1:=funext λ y=>(D y).symm.trans (C y);subst G;refine⟨_,hn,λ j y u e1 e2 e3=>?_⟩;by_cases g:j=i
  .subst g;rw[z0 (by rw[I.len];exact(fC.mp hi).1)]at e2;simp at e2
  .rw[zj (zy g)]at e2;refine bE (E j y u e1 e2 e3) λ w r l=>?_;have Z:y≠x:=λ z=>g (BS hN e1 (z▸hi));refine⟨w,r,?_⟩;rcases l with⟨k,e⟩|⟨k,c,e,z⟩
   .exact .inl ⟨k,by simp[Z,e]⟩
   .exact .inr ⟨k,c,e,z.sameBut O (I.cne y c e)⟩
 .obtain⟨w,z⟩:=I.cell y c e;exact⟨w,z.sameBut O (I.cne y c e)⟩
 .obtain⟨q,n,Z,K,d⟩:=I.pin p F;exact⟨(O.2 p.1 Z).trans q,n,Z,K,d⟩
 .refine(I.hok b u e).stay (λ c w a q=>(O.2 c λ z=>?_).trans q) (λ _ q=>q) (λ _ _ q=>q) λ _ _ q=>q;subst z;have J:=I.free;rcases a with rfl|a
  .rw[J]at e;simp at e
  .rw[J]at a;simp at a
end
section
variable{X:Cx}{k:Nat}{x:Str}{g:aK->Option (D⊕XV)}{e0:Expr}{es:e_}{A:FA}{p pos:Pos}
def LC(X:Cx)(aA:cK)(L:L2.St)(c:FC)(H0:Hp)(ρ':En)(y:XV)(e:Value)(s':Shared):Prop:=
 ∃C a T dd aV H',X.mg y.1=some (.ref C)/\e=.ref a/\aJ X aA L H' s'/\aB H0 aV/\RS X.K c aV H' ρ' L/\vc X aA H' a/\vc X aA H' T/\jA s'.heap a T C dd .none/\XD X.K aV H' y.2 dd
end
theorem YS{K:Frag}(h:mroIn K c v=some b):(clsIn K c).isSome=true:=by
 unfold mroIn at h;cases e:clsIn K c with
 |none=>rw[e]at h;cases h
 |some d=>rfl
end
section
noncomputable def E4(G:FX):RX->Option RX
 |.ok (.nx U)=>G U
 |.ok (.ct U)=>G U
 |.ok (.bk U)=>some (.ok (.nx U))
 |z=>some z
def lI(g:D->En->Option En)(B:FX):aK->FX
 |[],U=>some (.ok (.nx U))
 |d::r,U=>aH (g d U) λ q=>aH (B q) λ z=>E4 (lI g B r) z
theorem SU(g:D->En->Option En)(B:FX)(U:En):lI g B [] U=some (.ok (.nx U)):=rfl
theorem J0(g:D->En->Option En)(B:FX)(d:D)(r:aK)(U:En):lI g B (d::r) U=aH (g d U) λ q=>aH (B q) λ z=>E4 (lI g B r) z:=rfl
open PySem.W PySem.Spec PyProof.Rows L2
def Bt(X:Cx)(E:XK)(e:Value)(s':Shared):Prop:=∃L H1 a C dd,e=.ref a/\aJ X [] L H1 s'/\H1 a=none/\X.s₀.heap.get? a=none/\((∃vs,s'.heap.get? a=some (fh (.ref C) vs dd)/\vs[1]?=some .none)\/∃T q,(q=.none\/q=rawInt X.v.locals)/\H1 T=none/\X.s₀.heap.get? T=none/\jA s'.heap a T C dd q)/\E (.ref C) dd H1
section
theorem zD(O:X.pn=[])(I:aJ X [] L H s)(q:s.heap.get? a=some (fh c vs dd))(h:H a=none)(n:X.s₀.heap.get? a=none):vc X [] H a:=by
 refine⟨h,λ z=>?_,.inr n,λ x c' e z=>?_,λ p m=>?_⟩
 .obtain⟨m,⟨o,es,b,J,d,_⟩,_⟩:=I.loc;rw[<-z,q]at J;obtain rfl:=aW J;cases d
 .obtain⟨v,o,J,d⟩:=I.cell x c' e;rw[z,q]at J;obtain rfl:=aW J;cases d
 .grind
theorem WO(O:X.stack=X.v::X.outer)(J:X.v.frame=some X.v.locals)(hx:X.ex=[])(hp:X.pn=[]):PassesOwn (model X.p X.w) X.A X.v (Bt X E):=by
 rintro e s' ⟨L,H1,a,C,dd,rfl,I,h,j,u,q⟩;have fr:=I.ok.frames;rw[O]at fr;have st:=I.stack;rw[O]at st;have Z:∀b,s'.heap.get? b=none->X.s₀.heap.get? b=none:=λ b z=>by
  cases w:X.s₀.heap.get? b with
  |none=>rfl
  |some o=>
   obtain⟨B,p⟩:=I.base.there b o w (by rw[hx];intro y;simp at y);rw[z]at p;simp at p
 have k:∀(h':Heap)(T:Addr),aJ X [] L H1 {s' with heap:=h'}->H1 T=none->X.s₀.heap.get? T=none->jA h' a T C dd (rawInt X.v.locals)->cameBackBy (model X.p X.w) X.A X.v (Bt X E) (.ref a) {s' with heap:=h'}:=λ h' T l d f Y=>by
  unfold cameBackBy;rw[J];refine YG Y λ h2 t r=>⟨L,H1,a,C,dd,rfl,?_,h,j,.inr ⟨T,_,.inr rfl,d,f,r⟩,q⟩
  obtain⟨_,_,v,i,_⟩:=id Y;exact rE (es:=[T]) l (Aw.of λ b o n z=>(t.2 b (by simpa using n)).trans z) (by simpa using zD hp l i d f)
 rcases u with⟨x,g,h1⟩|⟨T,_,rfl|rfl,d,f,Y⟩
 .refine HB fr st J g h1 λ h' T c z Y=>?_;have dT:=yr z;rw[<-O]at c;exact k h' T (rE I c (by simpa using zD hp I g h j)) (Ba I.hok dT) (Z T dT) Y
 .obtain⟨_,⟨x,g,_⟩,v,i,_⟩:=id Y;refine Bu fr st J Y λ h' m c z s=>?_;have dT:=yr z;rw[<-O]at c;exact k h' m (rE I c (by simpa using⟨zD hp I g h j,zD hp I i d f⟩)) (Ba I.hok dT) (Z m dT) s
 .exact Ie J Y (k s'.heap T I d f Y)
end
section
variable{K:Frag}
abbrev sJ(P:Program)(w:World)(K:Frag)(mg:Str->Option Value)(base:Heap)(N:aM)(qual:Str)(scope:Scope)(f:Addr)(cd:Value)(A:Around)(outer:fP)(s:Shared)(H:Hp)(E:XK):Cx:=
 (f_ (iJ P w) P w K mg base N qual scope f cd A outer s H E).wish (Bt (f_ (iJ P w) P w K mg base N qual scope f cd A outer s H E) E)
theorem VG:PassesOwn (model P w) (sJ P w K mg base N qual scope f cd A outer s H E).A (sJ P w K mg base N qual scope f cd A outer s H E).v (sJ P w K mg base N qual scope f cd A outer s H E).xe:=
 WO rfl rfl rfl rfl
theorem UQ:C3 (sJ P w K mg base N qual scope f cd A outer s H E) E:=λ aA L H1 b e C dd a I Y J O h1 q=>⟨L,H1,e,C,dd,rfl,(I.pins_of (pins':=[]) λ p z=>nomatch z).unwish,Y,J,.inl ⟨a,O,h1⟩,q⟩
theorem WB(h:eL (sJ P w K mg base N qual scope f cd A outer s H E) sts t):eL (f_ (iJ P w) P w K mg base N qual scope f cd A outer s H E) sts t:=λ aA c L H1 D I b=>
 zv (h aA c L H1 D (I.wish _) b) (λ _ _ q=>q.unwish) λ e s' J=>by
  obtain⟨L,H1,a,C,dd,Z,I,O,Y,d,q⟩:=J;subst Z;exact R9 I O Y d q
end
theorem YE{K:Frag}{st:Stmt}(F:iz K x qual st f fd)(S:aG N ps (bA st))(Z:ps.length=n)(O:N.length=n+m)(J:∀(q:Value)(A:Around)(outer:fP)(s:Shared)(H:Hp)(E:XK),bJ k (A.deeper (envOfC qual (bA st) s.heap.n f q))->XX (sJ P w K mg base N qual (bA st) f q A outer s H E) E (gQ st) B):cR P w K mg base (iJ P w) (k+1) f fd ps (A2 K mg (qP n m B)):=YF F S Z O λ q A outer s H E Y=>WB (J q A outer s H E Y)
section
variable{X:Cx}{E:XK}{A:FA}{B:FX}{F:FE}{k:Nat}{x:Str}{g:aK->Option (D⊕XV)}{e0:Expr}{es:e_}{p pos p6:Pos}
theorem Tq:dy (iJ X.p X.w) X E0:=by grind[dy,iJ]
end
open Builtin.ObjectAttr
noncomputable def pT:bO->Bool
 |[]=>false
 |v::r=>v::r==bmV||match v with
  |.ref _=>pT r
  |_=>false
theorem bp1(h:pT (v::r)=true):v::r=bmV\/∃c,v=.ref c/\pT r=true:=by
 rcases Bool.or_eq_true_iff.mp h with h|h
 .grind
 .grind
theorem Ju(self:Value):∀{l:bO},pT l=true→refuseLoop self "__setattr__" l=pure ()∧l.contains (.type "object")=true
 |[],e=>nomatch e
 |v::r,e=>by
  rcases bp1 e with h|⟨c,rfl,h⟩
  .rw[h];exact⟨PySem.F.store_ValueError.passes self,by decide⟩
  .obtain⟨a,b⟩:=Ju self h;exact⟨(refuseLoop_ref ..).trans a,by grind⟩
section
variable{K:Frag}
structure mJ(K:Frag)(C:Addr)(name:Str):Prop where
 sa:findIn K (.ref C) "__setattr__"=some (some (.builtin "object.__setattr__"))
 na:findIn K (.ref C) name=some none
 cl:∃cd,clsIn K C=some cd/\pT cd.mro=true/\cd.hasDict=true
theorem Rf(X:K.In s.heap)(f:mJ K C name)(Z:s.heap.get? e=some (fh (.ref C) vs))(h:∀h' dx tk,dx=s.heap.n->h'.get? e=some (fh (.ref C) vs (some dx))->h'.Ns1 dx (λ y=>if y=name then some v else none)->(∀b o,b≠e->s.heap.get? b=some o->h'.get? b=some o)->dx≠e->Q () {s with heap:=h',toks:=tk}):bV prog w A (setAttr (.ref e) name v) Q E s:=by
 obtain⟨J,g,d,t,os⟩:=s;have I:InstAt J e (fh (.ref C) vs) C none:=⟨Z,rfl,rfl,trivial⟩;refine a_ f.cl λ c l j hd=>?_;obtain⟨G,H⟩:=Ju (.ref e) j;have D:c.mro.isEmpty=false:=by
  cases z:c.mro with
  |nil=>rw[z]at j;cases j
  |cons _ _=>rfl
 have Y:=PySem.F.store_object;have a:=I.type (M:=model prog w);have k:=looks_clsIn (M:=model prog w) X l;have sub:Looks (model prog w) J (isInstance (.ref e) (.type "object")) true:=a.andThen (looks_mroIn X (by unfold mroIn;rw[l,Option.bind_some,D,H];rfl));have B:Looks (model prog w) J (mroOf (.ref C)) c.mro:=k.andThen .now;have r:=looks_findIn (M:=model prog w) X f.na;refine set_plain X I f.sa ?_;refine Yx Y.slot.plain Y.entry (@check_slot (model prog w) _ _ ⟨J,g,d,t+1,os⟩ "object.__setattr__" "object" "__setattr__" (.ref e) [.str name t,v] [] _ Y.kind Y.split sub (Y.args (.ref e) (.str name t) v) ?_);rw[osa_eq,refuse_eq];refine qb (qb (a.at (qb (B.at ?_))));rw[G];refine qc (qb (a.at (qb (r.at (qb (qc ?_))))));refine qb (qc (qb (qb (wpAny_loadPart Z (qb (k.at ?_))))));rw[hd];have big:=qr (qm Z);have O:=qd {cls:=.type "dict",data:=.dict #[]} Z;refine qb (wpAny_alloc' (qb (wpAny_update' O (qc ?_))));generalize i:(J.push {cls:=.type "dict",data:=.dict #[]}).update e (λ o=>{o with dict:=some J.n})=ρ;have u:ρ.get? J.n=some {cls:=.type "dict",data:=.dict #[]}:=by rw[<-i];exact(Heap.get?_update_ne _ _ _ _ big.symm).trans (Heap.get?_push_at rfl rfl)
 have x:ρ.get? e=some (fh (.ref C) vs (some J.n)):=by rw[<-i];exact zq _ O rfl
 have go:∀b o,b≠e->J.get? b=some o->ρ.get? b=some o:=λ b o n q=>by
  rw[<-i];exact(Heap.get?_update_ne _ _ _ _ n).trans (qd _ q)
 have nd:ρ.Ns J.n (λ _=>none):=⟨_,#[],_,u,rfl,λ _ z=>absurd z bP,λ _=>rfl⟩;show wpAny _ _ (storeInDict J.n (.str name t) name v) _ _ _;refine qb (qc (qb (wpAny_nsSet1 (Heap.Ns1.of_empty nd) λ h' m p=>?_)));refine eU (m.count (Within.cons name v Within.nil)) λ S es R σ N P=>?_;refine qb (wpAny_lookBehind σ ?_ (qc ?_))
 .rw[N];exact pastItsLine_dict (qy P (show 1<=sizeLine+1 by decide))
 .exact h h' J.n _ rfl ((p.2 e big).trans x) m (λ b o n q=>(p.2 b (qr (qm q))).trans (go b o n q)) big.symm
end
noncomputable abbrev kP(e:Addr)(o:Obj):HO:=.ext λ h=>h.get? e=some o
theorem Jp(q:h.get? e=some o):bC P w H h e (kP e o):=⟨q,⟨o,q⟩,λ _ _ a k=>k o a⟩
section
def Vw(K:Frag)(ta tv:TE)(f:Str):TS:=λ Dn L H=>tv L H λ y H1=>ta L H1 λ x H2=>∃e C vs,x=.ref e/\mJ K C f/\H2 e=some (kP e (fh (.ref C) vs))/\∀dx,H2 dx=none->dx≠e->Dn.nx L (upd (upd H2 dx (.xd [(f,y)])) e (kP e (fh (.ref C) vs (some dx))))
theorem Tc(ha:PE X o ta)(hv:PE X value tv)(hs:sU X value (some (.Attribute o f pos')) pos.line false):PS X (.Assign [.Attribute o f pos'] value pos) (Vw X.K ta tv f):=by
 intro aA s L H D I h;refine plainObj_wpAny_Assign_Attribute (bT (hv aA s L H _ I h) λ u B=>eJ λ y H1 i F q=>bT (ha aA B L H1 _ i q) λ t a=>eJ λ x H2 J A v=>?_) hs;obtain⟨e,C,g,rfl,c,Y,w⟩:=v;obtain rfl:t=.ref e:=A;obtain⟨q,_,_⟩:=(show bC _ _ H2 a.heap e (kP e (fh (.ref C) g))from J.hok e _ Y);refine Rf J.kIn c q λ h' dx E l d p r O=>?_;subst l;have fr:=J.fresh;refine jK (id p) λ Z es m k1 k2=>?_;have j:aJ X aA L (upd H2 a.heap.n (.xd [(f,y)])) {a with heap:=a.heap.push Z}:=by
  refine J.laid (t':=a.toks) (λ b u z=>qd _ z) (qj _) ⟨_,⟨Z,es,m,qk _ ?_,k2⟩,λ n=>?_⟩
  .exact(Heap.get?_some_iff.mp k1).2
  .grind[fq]
 have k:=j.write (t':=E) (x:=e) (e:=e) (o:=kP e (fh (.ref C) g (some a.heap.n))) (h':=h') (by rw[bS O.symm,Y];trivial) (.inl rfl) (λ b u n z=>?_) ⟨_,d⟩ (Jp d)
 .exact⟨L,_,k,w _ fr O⟩
 .rcases Y5 z with⟨rfl,rfl⟩|z
  .exact k1
  .exact r b u n z
end
end
section
open PySem.W PySem.Spec PyProof.Rows L2
section
variable{prog:Program}{w:World}{A:Around}{E:c8}{h:Heap}{g:Array GenState}{d:Drawn}{t:Nat}{os:OsState}
variable{nm qn:Str}{C N fI:Addr}{bs bm:bO}{hd:Bool}{sn:aM}{sub:bO}{ab:Bool}{col:Option Bool}{dd:kD}{k0 k1 k2 k3 k5:kC}{mN:Str->Option Value}{oI:Obj}{us:bO}
noncomputable abbrev sH(nm qn:Str)(C N:Addr)(bs bm:bO)(hd:Bool)(sn:aM)(sub:bO)(ab:Bool)(col:Option Bool)(dd:kD)(k0 k1 k2 k3 k5:kC):Obj:=excClassObj nm qn C N bs bm hd sn sub ab col dd k0 k1 k2 k3 k5 "ValueError.__new__"
theorem Xd(T:OwnTail h bmV bm)(J:h.get? C=some (sH nm qn C N bs bm hd sn sub ab col dd k0 k1 k2 k3 k5))(nN:h.Ns N mN)(hi:mN "__init__"=some (.ref fI))(gI:h.get? fI=some oI)(cI:oI.cls=.type "function")(hz:us.length≤sizeLine)(go:∀h' e,h.n<=e->Heap.MadeExcOf h h' e (.ref C) us->wpAny (model prog w) A (call (.ref fI) (.ref e::us)) (λ r s'=>r=.none/\Q (.done (.ret (.ref e))) s') E ⟨h',g,d,t,os⟩):wpAny (model prog w) A (Builtin.«type.__call__» ⟨.ref C::us,[]⟩) Q E ⟨h,g,d,t,os⟩:=by
 have B:=F.excBase_ValueError;have O:bmV.contains (.type "ValueError")=true:=aQ
 repeat (first
  |with_reducible refine Q0 J ?_
  |with_reducible refine wpAny_madeBy_exc J ?_
  |wp_step)
 refine codeAny_call_builtin_code (Code.quiet_builtin _ B.quiet) (wpAny_check_new_subU B O T J ?_);refine codeAny_exc_new_subU B O B T J ?_ hz;have up:∀b o,h.get? b=some o→((h.push {cls:=.type "tuple",data:=.seq us.toArray}).push {cls:=.ref C,data:=.fields #[.ref h.n,.none,.none,.none,.bool false,.none]}).get? b=some o:=λ b o q=>qd _ (qd _ q);have Z:((h.push {cls:=.type "tuple",data:=.seq us.toArray}).push {cls:=.ref C,data:=.fields #[.ref h.n,.none,.none,.none,.bool false,.none]}).get? (h.n+1)=some {cls:=.ref C,data:=.fields #[.ref h.n,.none,.none,.none,.bool false,.none]}:=Heap.get?_push_at (by rw[Zy]) rfl;have c:((h.push {cls:=.type "tuple",data:=.seq us.toArray}).push {cls:=.ref C,data:=.fields #[.ref h.n,.none,.none,.none,.bool false,.none]}).get? h.n=some {cls:=.type "tuple",data:=.seq us.toArray}:=qd _ (qk _ rfl);generalize (h.push {cls:=.type "tuple",data:=.seq us.toArray}).push {cls:=.ref C,data:=.fields #[.ref h.n,.none,.none,.none,.bool false,.none]}=ρ at*;have Y:=up _ _ J;have f:ρ.Ns N mN:=let ⟨o,es,ep,q,r⟩:=nN;⟨o,es,ep,up _ _ q,r⟩;have a:=T.keeps up;have self:(Value.ref C::bm).contains (.ref C)=true:=bP
 repeat (first
  |with_reducible refine Q0 Z ?_
  |(with_reducible refine wpAny_isSubtype_exc Y ?_;rw[self])
  |wp_step)
 refine wpAny_typeLookup_tail Y f a B.mroIs B.init.lookup ?_;rw[hi];refine zr (qb ?_);refine qb (Zn ⟨_,up _ _ gI,cI⟩ ?_);rw[if_pos aQ];refine qc (qb (zv (go ρ (h.n+1) (Zf _) ⟨up,yr (Zf _),h.n,Z,yr (qj _),c⟩) (λ r s' z=>?_) λ _ _ z=>z));obtain⟨rfl,z⟩:=z;wp_walk;exact z
theorem VW(T:OwnTail h bmV bm)(q:h.get? C=some (sH nm qn C N bs bm hd sn sub ab col dd k0 k1 k2 k3 k5))(Y:h.Ns N mN)(hi:mN "__init__"=some (.ref fI))(J:h.get? fI=some oI)(O:oI.cls=.type "function")(hz:us.length≤sizeLine)(go:∀h' e,h.n≤e→Heap.MadeExcOf h h' e (.ref C) us→wpAny (model prog w) (A.under (.builtin "type.__call__" ⟨.ref C::us,[]⟩)) (call (.ref fI) (.ref e::us)) (λ r s'=>r=.none∧Q (.ref e) s') E ⟨h',g,d,t,os⟩):bV prog w A (call (.ref C) us) Q E ⟨h,g,d,t,os⟩:=by
 have a:=tc_lookup;have Z:=tc_bind (.ref C);have ty:(⟨h,g,d,t,os⟩:Shared).TypeIs (.ref C) "type":=⟨_,q,rfl⟩;refine Zt (codeAny_of_tree ?_)
 repeat (any_goals (first
  |assumption
  |with_reducible refine Q0 q ?_
  |wp_step))
 refine⟨rfl,codeAny_call_builtin_at (Code.quiet_builtin _ d8) entry_typeCall (wpAny_check_type_call_sub q (Xd T q Y hi J O hz λ h' e z m=>?_))⟩;exact go h' e z m
end
section
variable{sub:bO}
theorem Wf(hb:bm.contains (.type "BaseException")=true)(Y:A.handled=none)(h:bV prog w A x (λ v s1=>∃e t od,v=.ref e/\s1.heap.get? C=some (sH nm qn C N bs bm hd sn sub ab col dd k0 k1 k2 k3 k5)/\s1.heap.get? e=some (fh (.ref C) #[.ref t,.none,.none,.none,.bool false,.none] od)/\E (.ref e) s1) E s):bV prog w A (raiseStmt env (some x) none) Q E s:=by
 have b:(Value.ref C::bm).contains (.type "BaseException")=true:=by grind
 refine qb (zv h (λ v s1 z=>?_) λ _ _ z=>z);refine dN z λ e t od a O J q=>?_;obtain rfl:=a;obtain⟨Z,g,d,c,os⟩:=s1;have J:Z.get? e=some {cls:=.ref C,dict:=od,data:=.fields #[.ref t,.none,.none,.none,.bool false,.none],slots:=#[]}:=J
 repeat (first
  |with_reducible refine Q0 J ?_
  |with_reducible refine Q0 O ?_
  |(with_reducible refine wpAny_isSubtype_exc O ?_;rw[b])
  |wp_step)
 exact wpAny_raiseNew_none Y q
theorem Xj(hb:bm.contains (.type "BaseException")=true)(hh:A.handled=none)(O:(backTo cpos (starEach args env)).any (·.1)=false)(h:bV prog w A (eval (.Name x np) env) (λ f s1=>f=.ref C/\bV prog w A (evalArgs (.ref C) true (backTo cpos (starEach args env)) [])
   (λ a s2=>a.kw=[]∧a.pos.length≤sizeLine∧s2.heap.get? C=some (sH nm qn C N bs bm hd sn sub ab col dd k0 k1 k2 k3 k5)∧s2.heap.Ns N mN∧mN "__init__"=some (.ref fI)∧s2.heap.get? fI=some oI∧oI.cls=.type "function"∧OwnTail s2.heap bmV bm∧∀h' e,s2.heap.n≤e→Heap.MadeExcOf s2.heap h' e (.ref C) a.pos→wpAny (model prog w) (A.under (.builtin "type.__call__" ⟨.ref C::a.pos,[]⟩)) (call (.ref fI) (.ref e::a.pos)) (λ r J=>r=.none∧J.heap.get? C=some (sH nm qn C N bs bm hd sn sub ab col dd k0 k1 k2 k3 k5)∧(∃t od,J.heap.get? e=some (fh (.ref C) #[.ref t,.none,.none,.none,.bool false,.none] od))/\E (.ref e) J) E {s2 with heap:=h'}) E s1) E s):bV prog w A (exec (.Raise (some (.Call (.Name x np) args [] cpos)) none pos) env) Q E s:=by
 rw[arm_exec_Raise];refine qb (Qq (Wf hb hh (C:=C) (nm:=nm) (qn:=qn) (N:=N) (bs:=bs) (hd:=hd) (sn:=sn) (sub:=sub) (ab:=ab) (col:=col) (dd:=dd) (k0:=k0) (k1:=k1) (k2:=k2) (k3:=k3) (k5:=k5) ?_));refine qb (zv (wpAny_Call_ofName (zv h (λ f s1 z=>?_) λ _ _ z=>z)) (λ v J z=>qb (Qq (qc z))) λ _ _ z=>z);obtain⟨rfl,z⟩:=z;refine qb (zr (zv z (λ a s2 y=>qb (Qq ?_)) λ _ _ z=>z));obtain⟨us,kw⟩:=a;refine Bl y λ b l Y o hi Z j T go=>?_;obtain rfl:=b;obtain⟨p,g,d,u,os⟩:=s2;simp only[O];refine qb (wpAny_keeperOf_exc Y (qb (VW T Y o hi Z j l λ h' e y m=>zv (go h' e y m) (λ r J y=>⟨y.1,?_⟩) λ _ _ z=>z)));refine lM y λ _ i c q=>?_;obtain⟨t,od,k⟩:=c;exact qb (zr (wpAny_point (qc ⟨e,t,od,rfl,i,k,q⟩)))
end
theorem VM{K:Frag}(X:K.In h)(G:h.Ns N m)(e:nsIn K N x=some (some v)):m x=some v:=by
 refine dN G λ o es a J hd _ Y=>?_;unfold nsIn at e;split at e
 case h_2=>simp at e
 case h_1 q=>
  have z:=X _ _ q;rw[J]at z;obtain rfl:=aW z;simp at hd;split at e
  .rename_i O;simp at e;rw[<-Y];unfold nsFind findBy;grind
  .grind
noncomputable def vb(K:Frag)(C fI:Addr):Bool:=(K.lookup C).any λ o=>o.cls==.type "type"&&match o.data with
 |.cls c=>c.mro.head?==some (.ref C)&&o.slots.size==6&&o.slots[4]?==some (some (.builtin "ValueError.__new__"))&&!c.hasDel&&tailIn K bmV c.mro.tail&&nsOkIn K c.ns&&nsIn K c.ns "__init__"==some (some (.ref fI))&&(K.lookup fI).any λ o=>o.cls==.type "function"
 |_=>false
theorem FL{α}:∀{l:List α},l.length=6->∃a b c d e f,l=[a,b,c,d,e,f]
 |[a,b,c,d,e,f],_=>⟨a,b,c,d,e,f,rfl⟩
theorem Sn{K:Frag}(X:K.In h)(x:vb K C fI=true):∃bm N nm q bs hd sn sub ab col dd k0 k1 k2 k3 k5 m oI,h.get? C=some (sH nm q C N bs bm hd sn sub ab col dd k0 k1 k2 k3 k5)∧h.Ns N m∧m "__init__"=some (.ref fI)∧OwnTail h bmV bm∧h.get? fI=some oI∧oI.cls=.type "function":=by
 refine bE (any_some x) λ o l x=>?_;have O:=X C _ l;obtain⟨σ,dd,u,e⟩:=o;simp only[ze]at x;obtain⟨z,x⟩:=x;cases beq_iff_eq.mp z;cases u with
 |cls c=>
  simp only[ze,Jb,Bool.not_eq_true']at x;refine gn λ H y=>?_;obtain⟨⟨⟨⟨⟨⟨⟨f,G⟩,A⟩,B⟩,D⟩,g⟩,E⟩,F⟩:=x;refine bE (any_some F) λ oI v w=>?_;obtain⟨i,j,k,d,n,p,r,s,t,Y,I⟩:=c;subst B;obtain⟨e⟩:=e;refine Bo (FL G) λ k0 k1 k2 k3 J k5 b=>?_;refine y ?_;obtain rfl:=b;obtain rfl:=aW A;cases k with
  |nil=>cases f
  |cons a bm=>obtain rfl:=aW f;exact⟨bm,d,i,n,j,p,r,s,t,Y,dd,k0,k1,k2,k3,k5,h.nsMap d,oI,O,.of_isNs (isNs_of_in X g),VM X (.of_isNs (isNs_of_in X g)) E,tail_of_in X D,X fI oI v,beq_iff_eq.mp w⟩
 |_=>simp at x
def qG(H:Hp)(e:Addr):Hp:=λ b=>if b=e then none else H b
theorem Cm(h:b≠e):qG H e b=H b:=if_neg h
theorem Ko:qG H e e=none:=if_pos rfl
section
variable{X:Cx}{aA:cK}{L:L2.St}{H:Hp}{s:Shared}
theorem WG{e:Addr}{J:Heap->Prop}(I:aJ X aA L H s)(Z:H e=some (.ext J)):aJ X aA L (qG H e) s:=by
 have un:=I.base;have no:∀b,H b=none->qG H e b=none:=λ b z=>by unfold qG;split<;>first|rfl|exact z
 have is:∀b u,H b=some u->(∀O,u≠.ext O)->qG H e b=some u:=λ b u z n=>by
  rw[Cm λ y=>by subst y;rw[Z]at z;exact n J (qi z).symm];exact z
 refine⟨I.ok,I.os,I.bare,⟨un.keep,un.slot,λ b o q n x=>no b (un.free b o q n x),un.there,λ b xs q=>is b _ (un.tups b xs q) (λ _ z=>nomatch z),λ b o u q=>is b _ (un.frzs b o u q) (λ _ z=>nomatch z),λ b ps q=>?_⟩,I.loc,I.cell,no _ I.free,λ x c q=>no c (I.freeC x c q),λ p Y=>?_,λ b u q=>?_,I.len⟩
 .exact is b _ (un.tbls b ps q) λ _ z=>nomatch z
 .obtain⟨q,n,z⟩:=I.pin p Y;exact⟨q,no _ n,z⟩
 .have a:b≠e:=λ y=>by subst y;rw[Ko]at q;simp at q
  rw[Cm a]at q;exact(I.hok b u q).stay (λ _ _ _ z=>z) (λ c z=>is c _ z λ _ y=>nomatch y) (λ c xs z=>is c _ z λ _ y=>nomatch y) λ c xs z=>is c _ z λ _ y=>nomatch y
end
def A1(K:Frag)(f:Str):Sp:=λ vs H Q _=>∃e v C us,vs=[.ref e,v]/\mJ K C f/\H e=some (kP e (fh (.ref C) us))/\∀dx,H dx=none->dx≠e->Q .n (upd (upd H dx (.xd [(f,v)])) e (kP e (fh (.ref C) us (some dx))))
theorem WH{K:Frag}{st:Stmt}(Fu:iz K x qual st fI fd)(S:aG ["self",f] ["self",f] (bA st))(hn:("self":Str)≠f)(hb:gQ st=[.Assign [.Attribute (.Name "self" Z) f p2] (.Name f p3) pos])(hs:∀(J:Value)(A:Around)(outer:fP)(s:Shared)(H:Hp)(E:XK),swapsWith (.Name f p3) (some (.Attribute (.Name "self" Z) f p2)) pos.line (f_ CX P w K mg base ["self",f] qual (bA st) fI J A outer s H E).v=pure false)(h1:df f)(h2:fA f):cR P w K mg base CX 1 fI fd ["self",f] (A1 K f):=by
 obtain⟨u,z,kV,l,B,p,J,r,o,rfl,j,Y⟩:=Fu.ex;refine zX j Y S (λ k H Q E h=>?_) λ A outer s H k Q E t h=>?_
 .refine iL h λ e v C us a _=>?_;obtain rfl:=a;rfl
 .refine Bm h λ e v C us b c d q=>?_;obtain rfl:=b;rw[hb];have O:∀y∈(["self",f]:aM),gk (f_ CX P w K mg base ["self",f] qual (bA st) fI J A outer s H E).v.scope y:=λ y g=>(S.par y g).imp id .inl;refine⟨_,qX (Tc (fT (i:=0) rfl (O _ bP) aQ aQ) (fT (i:=1) rfl (O _ bP) h1 h2) (hs ..)),?_⟩;exact⟨v,rfl,.ref e,rfl,e,C,us,rfl,c,d,λ dx n m=>q dx n m⟩
def Ln(P:V->Hp->Prop):b_->Hp->Prop
 |[v],H=>P v H
 |_,_=>False
theorem Wm:∀{vs:b_},Ln P vs H->∃v,vs=[v]/\P v H
 |[v],h=>⟨v,rfl,h⟩
 |[],h=>h.elim
 |_::_::_,h=>h.elim
section
theorem UT(hR:C3 X E)(hc:X.c=true)(ac:X.ex=[])(hm:X.mg x=some (.ref C))(hx:vb X.K C fI=true)(h1:mJ X.K C f)(Fk:cR X.p X.w X.K X.mg X.base (iJ X.p X.w) k fI fd ["self",f] (A1 X.K f))(hr:bJ (k+1) X.A)(Y:dE X.K fd ["self",f] [])(ha:PE X a ta)(hg:Gl X x)(hd:df x)(hs:mX X a):PS X (.Raise (some (.Call (.Name x np) [a] [] cpos)) none pos) (λ _ L H=>ta L H λ v H1=>∀dx,H1 dx=none->E (.ref C) (some dx) (upd H1 dx (.xd [(f,v)]))):=by
 intro aA s L H D I q;refine gn λ G' W=>?_;obtain⟨bm,N,nm,qn,bs,ρ,sn,sub,ab,col,dd,k0,k1,k2,k3,k5,m,oI,l,G,σ,p,M,P⟩:=Sn I.mod.kin hx;refine W ?_;have B:=hs▸iA ha lB hs cpos aA s L H (Ln λ v H'=>∀dx,H' dx=none->E (.ref C) (some dx) (upd H' dx (.xd [(f,v)]))) I q;refine Xj (nm:=nm) (qn:=qn) (N:=N) (bs:=bs) (hd:=ρ) (sn:=sn) (sub:=sub) (ab:=ab) (col:=col) (dd:=dd) (k0:=k0) (k1:=k1) (k2:=k2) (k3:=k3) (k5:=k5) (fI:=fI) (oI:=oI) (mN:=m) (p.hasType aQ) (I.ok.hd hc) (by rw[hs];rfl) (ua I hg hm ⟨rfl,hs▸Y6 (bT B λ us s2 z=>?_)⟩ hd);refine cM z λ vs H2 O r z=>?_;obtain⟨v,rfl,q2⟩:=Wm z;obtain⟨u,rfl,ru⟩:=ic r;refine⟨rfl,(show 1<=sizeLine by decide),O.bk C _ l,G.keeps O.bk,σ,O.bk fI _ M,P,p.keeps O.bk,λ h' e z mk=>?_⟩;refine a_ mk.there λ c T _ _=>?_;have J:=O.laid (t':=s2.toks) mk.keeps z (Jp T);have e0:=O.hok.fresh z;have r2:aS [V.ref e,v] [Value.ref e,u]:=.cons rfl (.cons ru .nil);have sp:A1 X.K f [.ref e,v] (upd H2 e (kP e (fh (.ref C) #[.ref c,.none,.none,.none,.bool false,.none]))) (λ y H'=>y=.n/\∃dx,H2 dx=none/\dx≠e/\H'=upd (upd (upd H2 e (kP e (fh (.ref C) #[.ref c,.none,.none,.none,.bool false,.none]))) dx (.xd [(f,v)])) e (kP e (fh (.ref C) #[.ref c,.none,.none,.none,.bool false,.none] (some dx)))) E0:=
  ⟨e,v,C,_,rfl,h1,cF,λ dx n d=>⟨rfl,dx,by rwa [bS d]at n,d,rfl⟩⟩
 refine Zt (jy (Fk.run _ X.stack _ _ ⟨[.ref e,u],[]⟩ [.ref e,u] _ _ E0 (hr.make C [u] []) (J.env0.make C [u] []) (Y _ [.ref e,u] J.kIn rfl) r2 sp) λ rr s' Z=>?_);cases rr with
 |error Q=>exact Tq aA L _ _ Q s' J Z
 |ok S=>
  cases S with
  |ret y=>
   obtain⟨y',H',i,rv,R,dx,F,d,h⟩:=J.after Z;subst R h;obtain rfl:y=.none:=rv;have j:=(show bC _ _ _ s'.heap e (kP e _)from i.hok e _ cF).1;have g:=WG i cF;have h:qG (upd (upd (upd H2 e (kP e (fh (.ref C) #[.ref c,.none,.none,.none,.bool false,.none]))) dx (.xd [(f,v)])) e (kP e (fh (.ref C) #[.ref c,.none,.none,.none,.bool false,.none] (some dx)))) e=upd H2 dx (.xd [(f,v)]):=by
    funext b;by_cases Y:b=e
    .grind[Ko,bS]
    .grind[Cm,bS,cF]
   rw[h]at g;refine⟨rfl,g.bk C _ l,⟨c,some dx,j⟩,hR aA L _ s' e C (some dx) _ g (by rw[bS d.symm];exact e0) ?_ j rfl (q2 dx F)⟩;cases w0:X.s₀.heap.get? e with
   |none=>rfl
   |some o=>
    obtain⟨o',t⟩:=O.base.there e o w0 (by grind);rw[yr z]at t;cases t
  |next=>exact False.elim Z
  |brk=>exact False.elim Z
  |cont=>exact False.elim Z
end
end
section
abbrev Ky:=List (ed)
mutual
noncomputable def fK:D->Ky
 |.int i=>[[i]]
 |.str s=>[s.cps.toList.map Int.ofNat]
 |.t xs=>qM xs
 |_=>[]
noncomputable def qM:aK->Ky
 |[]=>[]
 |d::r=>fK d++qM r
end
noncomputable def r3:D->Bool
 |.t [.int _,.str _,.int _]=>true
 |_=>false
noncomputable def two:D->Option (D×D)
 |.t [a,b]=>some (a,b)
 |_=>none
def Au(U:En)(k:Str)(o:Option (Bool×List (Str×D))):bB:=aH o λ q=>g_ (cf k q.2) U
def Av(i:Nat)(U:En)(o:Option Str):bB:=aH o λ k=>Au U k (i0 U[i]?)
def Ax(i:Nat)(o:bB):bB:=aH o λ p=>Av i p.2 (kS p.1)
def Ay(i:Nat)(G:FE)(U:En)(o:Option (Bool×List (Str×D))):bB:=aH o λ _=>Ax i (G U)
def sL(i:Nat)(G:FE)(U:En):bB:=Ay i G U (i0 U[i]?)
@[simp] theorem cL1:(∀i G U,sL i G U=Ay i G U (i0 U[i]?))/\(∀i G U q,Ay i G U (some q)=Ax i (G U))/\(∀i d U,Ax i (some (d,U))=Av i U (kS d))/\(∀i U k,Av i U (some k)=Au U k (i0 U[i]?))/\(∀U k b aO,Au U k (some (b,aO))=g_ (cf k aO) U):=fz
def DI:k6->Option (aK)
 |some (.o false (.l ds))=>some ds
 |_=>none
def zN(i:Nat)(U:En):Bool:=(U.set i .z).all h8
open PySem.Spec PyProof.Rows L2
noncomputable def An:D->D->Bool
 |.int _,.int _=>true
 |.str _,.str _=>true
 |_,_=>false
def dC:aK->List D->Bool
 |[],[]=>true
 |d::r,e::t=>An d e&&dC r t
 |_,_=>false
noncomputable def AM:D->D->Bool
 |.int i,.int j=>decide (i<j)
 |.str a,.str b=>decide (a.cps.toList<b.cps.toList)
 |_,_=>false
def eK:aK->List D->Bool
 |d::r,e::t=>if cJ d e=true then eK r t else AM d e
 |_,_=>false
theorem Na:∀(l m:d0),(l.map Int.ofNat<m.map Int.ofNat)↔l<m
 |[],[]=>by simp
 |[],_::_=>by simp
 |_::_,[]=>by simp
 |a::l,b::m=>by
  rw[zc,zc,Q9,Q9,Na l m];have h1:(Int.ofNat a<Int.ofNat b)↔a<b:=Int.ofNat_lt;have h2:(Int.ofNat a=Int.ofNat b)↔a=b:=Int.ofNat_inj;rw[h1,h2]
theorem M8(a b:ed):([a]:Ky)<[b]↔a<b:=by rw[Q9];exact⟨λ h=>h.elim id λ z=>absurd z.2 (List.lt_irrefl _),.inl⟩
theorem cp4{d e:D}(h:An d e=true):(cJ d e=true↔d=e)/\(fK d=fK e↔d=e)/\(AM d e=true↔fK d<fK e)/\(∃k,fK d=[k])/\∃k,fK e=[k]:=by
 cases d with
 |int i=>
  cases e with
  |int j=>
   have e1:fK (.int i)=[[i]]:=by unfold fK;rfl
   have e2:fK (.int j)=[[j]]:=by unfold fK;rfl
   rw[e1,e2];refine⟨by simp,by simp,?_,⟨_,rfl⟩,_,rfl⟩;rw[M8,Q9];show decide (i<j)=true↔_;rw[Z0];exact⟨.inl,λ z=>z.elim id λ y=>absurd y.2 (List.lt_irrefl _)⟩
  |_=>cases h
 |str a=>
  cases e with
  |str b=>
   have e1:fK (.str a)=[a.cps.toList.map Int.ofNat]:=by unfold fK;rfl
   have e2:fK (.str b)=[b.cps.toList.map Int.ofNat]:=by unfold fK;rfl
   rw[e1,e2];refine⟨by simp,?_,?_,⟨_,rfl⟩,_,rfl⟩
   .constructor
    .intro z;have J:a.cps.toList.map Int.ofNat=b.cps.toList.map Int.ofNat:=(List.cons.inj z).1;have O:a.cps.toList=b.cps.toList:=Zv (λ x y q=>Int.ofNat.inj q) |>.mp J
     obtain⟨⟨Y⟩⟩:=a;obtain⟨⟨Z⟩⟩:=b;subst O;rfl
    .intro z;cases z;rfl
   .rw[M8,Na];show decide (a.cps.toList<b.cps.toList)=true↔_;rw[Z0]
  |_=>cases h
 |_=>cases h
theorem MP(d:D)(r:aK):qM (d::r)=fK d++qM r:=by rw[qM]
theorem JS:∀{ds es:aK},dC ds es=true->ds.length=es.length/\(qM ds).length=(qM es).length
 |[],[],_=>⟨rfl,rfl⟩
 |[],_::_,h=>by cases h
 |_::_,[],h=>by cases h
 |d::r,e::t,h=>by
  unfold dC at h;rw[ze]at h;obtain⟨_,_,_,⟨k,e1⟩,a,e2⟩:=cp4 h.1;obtain⟨h1,h2⟩:=JS h.2;exact⟨by simp[h1],by rw[MP,MP,e1,e2];simp[h2]⟩
end
section
mutual
noncomputable def nl:D->Bool
 |.l _=>false
 |.c _ _=>false
 |.opq=>false
 |.t xs=>AU xs
 |_=>true
noncomputable def AU:aK->Bool
 |[]=>true
 |d::r=>nl d&&AU r
end
def Fb(o:bB):Option (aK×En):=aH o λ p=>match p.1 with
 |.l ds=>some (ds,p.2)
 |_=>none
def qT(F:FE)(U:En):Option (aK×En):=Fb (F U)
def nW:D->Option (aK)
 |.l xs=>some xs
 |_=>none
def Dr(i:Nat)(U:En)(xs:aK)(o:Option (aK)):cC:=aH o λ ds=>if ds.length+xs.length<1000 then some (.nx (U.set i (.o false (.l (ds++xs)))))else none
def Ds(i:Nat)(U:En)(o:Option (aK)):cC:=aH o λ xs=>Dr i U xs (lF U[i]?)
def Dt(i:Nat)(o:bB):cC:=aH o λ p=>Ds i p.2 (nW p.1)
def Du(i:Nat)(F:FE)(U:En)(o:Option (aK)):cC:=aH o λ _=>Dt i (F U)
def u7(i:Nat)(F:FE)(U:En):cC:=Du i F U (lF U[i]?)
noncomputable def jL:Nat->List D->List D
 |_,[]=>[]
 |k,d::r=>.t [.int (k:Int),d]::jL (k+1) r
def C7(g:D->En->Option En)(B:FS)(U:En)(o:Option (aK)):cC:=aH o λ xs=>c4 g B (jL 0 xs) U
def C8(g:D->En->Option En)(B:FS)(o:bB):cC:=aH o λ p=>C7 g B p.2 (nW p.1)
def Cs(g:D->En->Option En)(F:FE)(B:FS)(U:En):cC:=C8 g B (F U)
@[simp] theorem ch1:(∀F U,qT F U=Fb (F U))/\(∀ds U,Fb (some (.l ds,U))=some (ds,U))/\(∀xs,nW (.l xs)=some xs)/\(∀i F U,u7 i F U=Du i F U (lF U[i]?))/\(∀i F U ds,Du i F U (some ds)=Dt i (F U))/\(∀i d U,Dt i (some (d,U))=Ds i U (nW d))/\(∀i U xs,Ds i U (some xs)=Dr i U xs (lF U[i]?))/\(∀i U xs ds,Dr i U xs (some ds)=if ds.length+xs.length<1000 then some (.nx (U.set i (.o false (.l (ds++xs)))))else none)/\(∀g F B U,Cs g F B U=C8 g B (F U))/\(∀g B d U,C8 g B (some (d,U))=C7 g B U (nW d))/\(∀g B U xs,C7 g B U (some xs)=c4 g B (jL 0 xs) U):=fz
def lk1(op:D->D->Option D)(x:D)(o:bB):bB:=aH o λ r=>g_ (op x r.1) r.2
def cb3(op:D->D->Option D)(M:FE)(y:D)(U:En)(o:Option Bool):bB:=aH o λ b=>if b=true then lk1 op y (M U)else some (.b false,U)
def cb4(op:D->D->Option D)(M:FE)(y:D)(U:En)(o:fN):bB:=aH o λ z=>cb3 op M y U (lx z)
def lk2(op q:D->D->Option D)(M:FE)(x:D)(o:bB):bB:=aH o λ r=>cb4 q M r.1 r.2 (op x r.1)
def cb1(op q:D->D->Option D)(σ M:FE)(y:D)(U:En)(o:Option Bool):bB:=aH o λ b=>if b=true then lk2 op q M y (σ U)else some (.b false,U)
def cb2(op q:D->D->Option D)(σ M:FE)(y:D)(U:En)(o:fN):bB:=aH o λ z=>cb1 op q σ M y U (lx z)
def lk3(op J q:D->D->Option D)(σ M:FE)(x:D)(o:bB):bB:=aH o λ r=>cb2 J q σ M r.1 r.2 (op x r.1)
def e4a(op J q:D->D->Option D)(G σ M:FE)(o:bB):bB:=aH o λ p=>lk3 op J q σ M p.1 (G p.2)
def e4(op J q:D->D->Option D)(F G σ M:FE)(U:En):bB:=e4a op J q G σ M (F U)
open PySem.Spec PyProof.Rows L2
def lss(H:Hp)(a:Addr):Hp:=λ b=>if b=a then none else H b
theorem Jy:lss H a a=none:=if_pos rfl
theorem zE(h:b≠a):lss H a b=H b:=if_neg h
theorem Jx(h:lss H a b=some u):b≠a/\H b=some u:=by grind[Jy,zE]
theorem Tr(h:DI o=some ds):o=some (.o false (.l ds)):=by
 unfold DI at h;split at h
 .obtain rfl:=aW h;rfl
 .simp at h
section
variable{K:Frag}
theorem d7.lss(J:H a=some (.l us))(h:d7 K H b vs):d7 K (lss H a) b vs:=by
 rcases h with h|h
 .refine .inl ?_;have q:b≠a:=λ e=>by
   rw[e]at h;rcases h with h|⟨o,h⟩<;>rw[J]at h<;>simp at h
  rcases h with h|⟨o,h⟩
  .exact .inl (by rw[zE q];exact h)
  .exact .inr ⟨o,by rw[zE q];exact h⟩
 .exact .inr h
mutual
theorem aU.lss(q:H a=some (.l us)):∀(d:D){v:V},nl d=true->aU K H d v->aU K (lss H a) d v
 |.n,_,_,h=>by unfold aU at h⊢;exact h
 |.b _,_,_,h=>by unfold aU at h⊢;exact h
 |.int _,_,_,h=>by unfold aU at h⊢;exact h
 |.str _,_,_,h=>by unfold aU at h⊢;exact h
 |.t ds,_,n,h=>by
  unfold aU at h⊢;obtain⟨b,vs,e,s,r⟩:=h;exact⟨b,vs,e,d7.lss q s,aD.lss q ds n r⟩
 |.l _,_,n,_=>by cases n
 |.opq,_,n,_=>by cases n
 |.c _ _,_,n,_=>by cases n
theorem aD.lss(q:H a=some (.l us)):∀(ds:aK){vs:b_},AU ds=true->aD K H ds vs->aD K (lss H a) ds vs
 |[],_,_,h=>by unfold aD at h⊢;exact h
 |d::r,_,n,h=>by
  unfold AU at n;rw[ze]at n;unfold aD at h⊢;obtain⟨v,J,e,h1,h2⟩:=h;exact⟨v,J,e,aU.lss q d n.1 h1,aD.lss q r n.2 h2⟩
end
end
section
variable{K:Frag}
theorem RS.asList(R:RS K c H0 H U L)(hi:U[i]?=some (.o false (.l ds))):∃a vs,L[i]?=some (some (.ref a))/\H0 a=none/\c.He a=none/\H a=some (.l vs)/\aD K H0 ds vs/\aB H0 (upd H0 a (.l vs))/\RS K c (upd H0 a (.l vs)) H (U.set i (.i (.l ds))) L:=by
 obtain⟨a,x,y,z,vs,e,r⟩:=R.ow i _ _ hi;have w:=z;have B:=(fC.mp hi).1;have Y:aB H0 (upd H0 a (.l vs)):=λ b u q=>by grind[bS]
 have O:∀{j:Nat}{Z:Sl},j≠i->(U.set i (.i (.l ds)))[j]?=some Z->U[j]?=some Z:=λ J e=>by grind
 have f:∀{Z:Sl},(U.set i (.i (.l ds)))[i]?=some Z->Z=.i (.l ds):=λ e=>by
  rw[z0 B]at e;exact(qi e).symm
 refine⟨a,vs,x,y,w,e,r,Y,λ b u q=>?_,R.init.trans Y,λ b u q=>?_,R.keep,R.apt,by rw[yk];exact R.len,λ j t q=>?_,λ j bb d q=>?_,λ j k p s d o b e1 e2 e3 e4=>?_⟩
 .by_cases h:b=a
  .grind[cF]
  .rw[bS h]at q;exact R.same b u q
 .by_cases h:b=a
  .grind
  .rw[bS h]at q;exact R.fresh b u q
 .by_cases J:j=i
  .subst J;cases f q;refine⟨.ref a,x,?_⟩;exact⟨a,vs,rfl,.inl (.inl cF),aD.mono Y _ r⟩
  .obtain⟨v,m,n⟩:=R.im j t (O J q);exact⟨v,m,aU.mono Y _ n⟩
 .by_cases J:j=i
  .subst J;cases f q
  .have g:=O J q;refine cZ (R.ow j bb d g) λ b l D E C=>?_;have nb:b≠a:=λ h=>J (R.ne j i bb false d _ b g hi l (by rw[h];exact x));exact⟨b,l,by rw[bS nb];exact D,E,C.step Y λ u q=>q⟩
 .by_cases J:j=i
  .grind
  .by_cases A:k=i
   .grind
   .exact R.ne j k p s d o b (O J e1) (O A e2) e3 e4
theorem RS.backL(R:RS K c H0 H U L)(hi:U[i]?=some (.o false (.l ds)))(one:zN i U=true)(x:L[i]?=some (some (.ref a)))(y:H0 a=none)(he:c.He a=none)(r:aD K H0 ds vs)(Z:aB (upd H0 a (.l vs)) aV)(J:RS K c aV H' (U.set i (.i (.l ds))) L):aB H0 (lss aV a)/\RS K c (lss aV a) H' U L:=by
 have O:aB H0 (lss aV a):=λ b u q=>by
  have nb:b≠a:=λ h=>by grind
  rw[zE nb];exact Z b u (by rw[bS nb];exact q)
 refine⟨O,λ b u q=>J.same b u (Jx q).2,λ b u q=>O b u (R.init b u q),λ b u q=>J.fresh b u (Jx q).2,J.keep,J.apt,R.len,λ j d q=>?_,λ j b o q=>?_,R.ne⟩
 .obtain⟨v,e,f⟩:=R.im j d q;exact⟨v,e,aU.mono O _ f⟩
 .by_cases Y:j=i
  .subst Y;rw[hi]at q;cases q;exact⟨a,x,Jy,he,vs,J.same a _ (Z a _ cF),aD.mono O _ r⟩
  .have:=wm.mp one (.o b o) (zf (by rw[zj (zy Y)];exact q));cases this
end
section
theorem V6(i:Nat)(hX:X.N.Nodup)(he:XE X e F)(hN:X.N[i]?=some x:=by rfl)(hx:lP X.v.scope x:=by exact jW)(hv:gk X.v.scope x:=by exact i7)(hd:df x:=by decide)(Y:fA x:=by decide)(hs:swapsWith (.BinOp (.Name x p1) .Add e J) (some (.Name x pos')) pos.line X.v=pure false:=by rfl)(hf:X.fn x=true\/gf X x:=by exact jW):XS X (.Assign [.Name x pos'] (.BinOp (.Name x p1) .Add e J) pos) (u7 i F):=
 PS.wk (ri hX hN hx (Cv KP (fT hN hv hd Y) he) hs hf) λ Dn L H O=>by
  refine cB O λ c H0 U r R f q=>?_;obtain⟨D,o,f⟩:=aP f;obtain⟨⟨d,m⟩,h1,f⟩:=aP f;obtain⟨xs,h2,f⟩:=aP f;obtain⟨E,g,f⟩:=aP f;dsimp only at h2 g f;obtain⟨G,n⟩:=bM f;subst n;obtain⟨a,j,_,_,C,σ,_⟩:=R.ow i _ _ (n_ o);refine⟨.ref a,j,c,H0,U,d,m,R,h1,λ v H1 A u Z t=>?_⟩;unfold nW at h2;split at h2
  rotate_left
  .simp at h2
  obtain rfl:=aW h2;obtain⟨b,zs,rfl,w,h⟩:=t;obtain⟨B,k,_,_,y,z,l⟩:=Z.ow i _ _ (n_ g);rw[j]at k;cases k;have I:=l.length;have K:=h.length;refine⟨a,b,y,zs,rfl,rfl,dz.of z,aB.seq Z.same w,?_,λ p s=>?_⟩
  .have:(1000:Nat)<=sizeLine:=aQ
   lia
  .exact q _ H1 _ u (Z.setOwn i s ⟨_,cF,l.app h⟩)
end
end
end Lake
namespace Lake.L2
open PySem.Spec PyProof.Rows
theorem aJ.turnedL{X:Cx}{aA:cK}{L:St}{H:Hp}{s:Shared}{h':Heap}{t':Nat}{fs:fV}(I:aJ X aA L H s)(k:∀b o,b∉fs->s.heap.get? b=some o->h'.get? b=some o)(O:∀b∈fs,eA X aA H b):aJ X aA L H {s with heap:=h',toks:=t'}:=by
 have a:∀b u,H b=some u->b∉fs:=λ b u e z=>by rw[(O b z).1]at e;simp at e
 refine I.step (g':=s.gens) (d':=s.drawn) (ch:=fs) (λ b Z=>?_) (λ b o _ _ J e _=>k b o J e) (λ b o _ _ J e _=>⟨o.slots,k b o J e⟩) (λ _ _ _ _ n=>n)
  (λ b o J e=>⟨o,k b o J e⟩) (λ _ _ e=>e) (λ _ _ _ e=>e) (λ _ _ e=>e) (λ m Y=>?_) (λ b u e=>?_) I.bare
 .obtain⟨_,g,_,h,i,j⟩:=O b Z;exact⟨h,g,i,j⟩
 .obtain⟨o,es,d,f,r⟩:=Y;exact⟨o,es,d,k _ o (λ z=>(O _ z).2.1 rfl) f,r⟩
 .refine(I.hok b u e).stay (λ c v J q=>k c v ?_ q) (λ _ q=>q) (λ _ _ q=>q) λ _ _ q=>q;rcases J with z|z
  .rw[z];exact a b u e
  .exact a _ _ z
theorem eA.upd(h:eA X aA H b)(n:b≠p):eA X aA (upd H p u) b:=⟨by rw[bS n];exact h.1,h.2⟩
end Lake.L2
namespace Lake
open PyProof.Rows
section
open PySem.Spec L2
def xP(K:Frag)(l:Addr):It:=
 ⟨λ i H=>∃xs x,dz K H l xs/\xs[i]?=some x,λ i H x H'=>∃v p,(∀xs,dz K H l xs->xs[i]?=some v)/\x=.ref p/\H p=none/\H'=upd H p (.t [.int i,v]),λ i H=>∃xs,dz K H l xs/\xs.length<=i⟩
theorem UJ{K:Frag}(l e it:Addr)(ne:e≠it):gX P w K (.Tuple aa x1 pt) (xP K l) [e,it] e (λ i h=>∃Y,IsEnum h e it i Y/\h.IsListIter it l i)where
 mem:=qg
 obj:=λ i h J b O=>by
  obtain⟨Y,st,f⟩:=J;rcases qt O with rfl|O
  .grind
  .refine a_ f λ o a c d=>?_;rw[pb O];grind
 keep:=λ i h h'⟨Y,st,f⟩k=>⟨Y,k e bP _ st,f.at λ o q=>k it bP o q⟩
 item:=λ X m r j C i aA s L H E I p J Z=>by
  obtain⟨Y,st,f⟩:=J;refine dt Z λ xs x g hx=>?_;subst m r j;refine a_ (I.list g) λ σ v t T=>?_;obtain⟨u,R,ρ⟩:=v.get hx;have ae:=qm st;have ac:it<s.heap.n:=by obtain⟨_,q,_⟩:=id f;exact qm q
  have Q:=I.hok.fresh (qj _);refine wpAny_pyNext_enum_item st f t.isList (by simpa using R) ne λ h1 k1 k2 k3 k4 k5=>⟨_,rfl,?_⟩
  refine wpAny_letOwnedTupleGo_enum k1 λ h2 e2 D=>?_;have F:=
   I.laid (t':=s.toks+1) (λ b o q=>qd _ q) (qj _) (show bC X.p X.w _ _ _ (.t [.int i,x])from⟨by show(2:Nat)<=sizeLine;decide,[.int i s.toks,u],.cons ⟨_,rfl⟩ (.cons ρ .nil),eG.new _ _⟩)
  have B:∀b∈[e,it],eA X aA (upd H s.heap.n (.t [.int i,x])) b:=λ b O=>(p b O).upd (by
grind)
  have G:aJ X aA L (upd H s.heap.n (.t [.int i,x])) {s with heap:=h2,toks:=s.toks+1}:=aJ.turnedL (s:={s with heap:=s.heap.push {cls:=.type "tuple",data:=.seq #[.int i s.toks,u]},toks:=s.toks+1}) F (λ b q O z=>by
   have A:b≠e:=λ y=>O (by simp[y]);have M:b≠it:=λ y=>O (by simp[y]);refine(D.2 b A).trans ?_;rcases Y5 z with⟨V,W⟩|z
   .rw[V,W];exact k3
   .exact k5 b q A M z) B
  refine⟨.ref s.heap.n,_,G,rfl,⟨x,_,λ ys S=>by rw[I.list_inj S g];exact hx,rfl,Q,rfl⟩,⟨_,by rw[show((i+1:Nat):Int)=(i:Int)+1 by lia];exact e2,k2.at λ o q=>(D.2 it (zy ne)).trans q⟩,λ b O=>(B b O).1⟩
 done:=λ X m r j C i aA s L H E I p J Z=>by
  obtain⟨Y,st,f⟩:=J;obtain⟨xs,g,hx⟩:=Z;subst m r j;refine a_ (I.list g) λ σ v t T=>?_;have hl:=v.length;exact wpAny_pyNext_enum_end (I.ok.hd C) st f t.isList A0 λ h' N=>⟨rfl,I.turnedL (λ b o O q=>N b o (λ y=>O (by simp[y])) q) p⟩
 self:=λ _ _ _ _ _⟨_,st,_⟩h=>wpAny_pyIter_enum st h
def cc1(K:Frag)(t:TE):TI:=λ L H R=>t L H λ x H1=>∃a xs,x=.ref a/\dz K H1 a xs/\R (xP K a) H1
theorem KJ(hg:Gl X "enumerate")(hm:X.mg "enumerate"=none)(hl:PE X l tl)(hs:mX X l):PI X (.Tuple O x1 pt) (.Call (.Name "enumerate" p) [l] [] pos) (cc1 X.K tl):=by
 intro aA s L H R I h;refine Call_ (rP I hg hm (u:=.type "enumerate") d8 (Zo (bT (iA hl lB hs pos aA s L H (λ e H1=>match e with|[x]=>(∃a xs,x=.ref a∧dz X.K H1 a xs∧R (xP X.K a) H1)|_=>False) I h) λ us c=>eJ λ e H1 J d Z=>?_) hs rfl))
 match e,Z,d with
 |[x],Z,d=>
  obtain⟨a,xs,rfl,j,q⟩:=Z;obtain⟨u,rfl,i⟩:=ic d;cases i;refine a_ (J.list j) λ m r g o=>?_;refine call_enumerate_list g.isList λ h' st f sz k=>?_;refine wpAny_pyIter_enum st ⟨c.heap.n+1,[c.heap.n+1,c.heap.n],_,_,H1,rfl,J.kept k,UJ a (c.heap.n+1) c.heap.n (Nat.succ_ne_self _),⟨_,st,f⟩,λ b Y=>?_,q⟩;rcases qt Y with rfl|Y
  .exact J.fpOk (Zf _) (J.hok.fresh (Zf _))
  .rw[pb Y];exact J.fpOk (qj _) (J.hok.fresh (qj _))
theorem Ua:∀(xs:aK)(k:Nat),(jL k xs).length=xs.length:=by intro a;induction a<;>grind[jL]
theorem Kl:∀(xs:aK)(k i:Nat){d:D},(jL k xs)[i]?=some d->∃y,xs[i]?=some y/\d=.t [.int ((k+i:Nat):Int),y]
 |[],_,_,_,h=>by cases h
 |x::r,k,0,d,h=>by cases h;exact⟨x,rfl,rfl⟩
 |x::r,k,i+1,d,h=>by
  obtain⟨y,a,b⟩:=Kl r (k+1) i (show(jL (k+1) r)[i]?=some d from h);exact⟨y,a,by rw[b,show k+1+i=k+(i+1) by lia]⟩
theorem Hl{K:Frag}(rd:dz K H1 a vs)(r:aD K H1 xs vs):yY K (xP K a) H1 (jL 0 xs):=λ H0 H i s s'=>by
 have O:=aB.seq (s.trans s') rd;refine⟨λ d e=>?_,λ h=>⟨vs,O,by rw[<-r.length,<-Ua xs 0];exact h⟩⟩;obtain⟨y,e1,rfl⟩:=Kl xs 0 i e;obtain⟨v,e2,b⟩:=r.get e1;refine⟨⟨vs,v,O,e2⟩,λ x H' q=>?_⟩;refine ie q λ c p J ex Y Z=>?_;have J:=J vs O;subst ex Z;rw[e2]at J;obtain rfl:=aW J;have S:=bY.alloc (o:=.t [.int i,v]) s' Y;refine⟨_,S,?_⟩;rw[Nat.zero_add];exact⟨p,_,rfl,.inl (.inl cF),aD.cons (gE _ _) (aD.one (aU.mono (s.trans S.s0) _ b))⟩
section
theorem YZ(hm:X.mg "enumerate"=none)(hg:XG X (.Tuple J x1 pt) g)(ha:XE X a F)(hb:gA X O B)(Z:Gl X "enumerate":=by rfl)(hp:PassesOwn (model X.p X.w) X.A X.v X.xe:=by exact Zk)(hc:X.c=true:=by rfl)(aa:mX X a:=by rfl)(hs:∀x,foldedSetIterable (.Call (.Name "enumerate" p) [a] [] pos') X.v x=pure x:=by intro _;rfl):XS X (.For (.Tuple J x1 pt) (.Call (.Name "enumerate" p) [a] [] pos') O [] pos) (Cs g F B):=PS.wk (u_ hp hc (KJ Z hm ha aa) hg hb hs) λ Dn L H Y=>by
 refine cB Y λ c H0 U r R f q=>?_;obtain⟨⟨d,h⟩,h1,f⟩:=aP f;obtain⟨xs,h2,f⟩:=aP f;dsimp only at h2 f;unfold nW at h2;split at h2
 rotate_left
 .simp at h2
 simp at h2;refine⟨c,H0,U,_,h,R,h1,λ v H1 m k b i=>?_⟩;obtain⟨a,l,rfl,e,j⟩:=i;exact⟨a,l,rfl,aB.seq b.same e,D1 b f (Hl e j) (q.mono k)⟩
end
def sM:D->Value->Prop
 |.int i,v=>∃t,v=.int i t
 |.str a,v=>∃t,v=.str a t
 |_,_=>False
inductive eg:aK->List Value->Prop
 |nil:eg [] []
 |cons {d:D}{u:Value}{ds:aK}{us:bO} (h:sM d u) (r:eg ds us):eg (d::ds) (u::us)
theorem eg.length{ds:aK}{us:bO}(h:eg ds us):ds.length=us.length:=by
 induction h with
 |nil=>rfl
 |cons _ _ q=>simp[q]
theorem cn9(A:Around)(s:Shared){d e:D}{u v:Value}(h:An d e=true)(r1:sM d u)(q:sM e v):SeqAt.EqAt A s u v (cJ d e):=by
 cases d with
 |int i=>
  cases e with
  |int j=>
   obtain⟨t,rfl⟩:=r1;obtain⟨w,rfl⟩:=q;rw[show cJ (.int i) (.int j)=(i==j)from rfl];exact .int_int i t j w
  |_=>cases h
 |str a=>
  cases e with
  |str b=>
   obtain⟨t,rfl⟩:=r1;obtain⟨w,rfl⟩:=q;rw[show cJ (.str a) (.str b)=(a==b)from rfl];exact .str_str a t b w
  |_=>cases h
 |_=>cases h
theorem cm3(A:Around)(s:Shared){d e:D}{u v:Value}(h:An d e=true)(r1:sM d u)(O:sM e v)(prog:Program)(w:World)(E:c8)(Q:c8)(q:Q (.bool (AM d e)) s):bV prog w A (richCompare .Lt u v) Q E s:=by
 cases d with
 |int i=>
  cases e with
  |int j=>
   obtain⟨t,rfl⟩:=r1;obtain⟨J,rfl⟩:=O;exact(PyProof.Rows.lt_int q:bV prog w A (compareOp .Lt (.int i t) (.int j J)) Q E s)
  |_=>cases h
 |str a=>
  cases e with
  |str b=>
   obtain⟨t,rfl⟩:=r1;obtain⟨J,rfl⟩:=O;exact(PyProof.Rows.lt_str (by simpa [AM]using q):bV prog w A (compareOp .Lt (.str a t) (.str b J)) Q E s)
  |_=>cases h
 |_=>cases h
section
open PySem.SeqAt
open PySem.AutoSeq1 (wpAny_loadPart')
open PySem.MeetsSeq PySem.MeetsSeq2 PySem.MeetsSeq3
theorem Ta(l b:Addr)(items q:g9)(n n2:Nat)(dd ak:kD)(sl ai:Array (kC))(ds es:aK)(hi:eg ds items.toList)(hj:eg es q.toList)(hs:dC ds es=true):Meets (Builtin.«tuple.__lt__» ⟨[.ref l,.ref b],[]⟩)
   (λ _ R s=>s.heap.get? l=some {cls:=.type "tuple",dict:=dd,data:=.seq items n,slots:=sl}∧s.heap.get? b=some {cls:=.type "tuple",dict:=ak,data:=.seq q n2,slots:=ai}∧R (.ok (.ret (.bool (eK ds es)))) s):=
 .of_wp λ prog w A R s h=>by
  obtain⟨f,g,d,i,os⟩:=s;refine gU h λ E D h=>?_;have N:=AutoSeq1.sub_tuple_tuple;have T:items.size=ds.length:=by rw[hi.length];simp
  have ρ:q.size=es.length:=by rw[hj.length];simp
  have V:=(JS hs).1;wp_walk using Zi E,Zi D,wpAny_forIn_list _ (λ rest b s'=>b.1=none/\s'=⟨f,g,d,i,os⟩/\∃(j k:bO)(Y J:aK),rest=j.zip k/\eg Y j/\eg J k/\dC Y J=true/\R (.ok (.ret (.bool (eK Y J)))) ⟨f,g,d,i,os⟩) _
  case turn=>
   rintro ⟨y,x⟩ rest b s' ⟨p,rfl,j,k,Y,J,e,o,m,O,Z⟩;cases o with
   |nil=>rw[List.zip_nil_left]at e;cases e
   |@cons dx Q G I hd B=>
    cases m with
    |nil=>rw[List.zip_nil_right]at e;cases e
    |@cons ex S H K t z=>
     rw[Qv]at e;injection e with r hrest
     injection r with F hx
     subst F hx;unfold dC at O;rw[ze]at O;unfold eK at Z;refine qb (cn9 A.in1 ⟨f,g,d,i,os⟩ O.1 hd t prog w _ _ ?_);cases u:cJ dx ex with
     |true=>
      rw[u,if_pos rfl]at Z;wp_walk;exact⟨rfl,rfl,_,_,_,_,hrest,B,z,O.2,Z⟩
     |false=>
      rw[u,if_neg zh]at Z;have C:=cm3 A.in1 ⟨f,g,d,i,os⟩ O.1 hd t prog w;wp_walk using C;exact⟨_,rfl,by simpa using Z⟩
  case fin=>
   rintro ⟨σ,M⟩ s' ⟨p,rfl,j,k,Y,J,e,o,m,O,Z⟩;simp only at p;subst p;have v:eK Y J=decide (items.size<q.size):=by
    rw[yv aE];cases o with
    |nil=>unfold eK;rfl
    |cons a v=>
     cases m with
     |nil=>unfold eK;rfl
     |cons c P=>rw[Qv]at e;cases e
   rw[v]at Z;wp_walk;exact⟨_,rfl,by simpa [Builtin.Tuple.tupleCompareSizes]using Z⟩
  case h=>
   exact⟨rfl,rfl,items.toList,q.toList,ds,es,rfl,hi,hj,hs,h⟩
end
theorem jV{prog:Program}{w:World}{A:Around}{E:c8}{s:Shared}{l b:Addr}{items q:g9}{ds es:aK}{Q:c8}(hl:IsTup s.heap l items)(hb:IsTup s.heap b q)(hi:eg ds items.toList)(hj:eg es q.toList)(hs:dC ds es=true)(hu:A.units<cLine)(h:Q (.bool (eK ds es)) s):bV prog w A (compareOp .Lt (.ref l) (.ref b)) Q E s:=by
 obtain⟨⟨e,dd,data,g⟩,c,a,n,hd⟩:=id hl;obtain⟨⟨i,d,Y,Z⟩,O,J,f,hd2⟩:=id hb;simp only at a hd J hd2;subst a hd J hd2;exact richCompare_meets_room (op:=.Lt) ⟨_,c,rfl⟩ ⟨_,O,rfl⟩ PySem.F.slot_tuple_lt PySem.F.entry_tuple_lt (PySem.F.args_tuple_lt_2 _ _) (Ta l b items q n f dd d g Z ds es hi hj hs)
  ⟨c,O,show Value.bool (eK ds es)≠Value.notImplemented/\Q (.bool (eK ds es)) s from⟨(λ x=>nomatch x),h⟩⟩ hu
end
section
open PySem.W
structure Gm(le:Keyed->Keyed->Prop)(T out P Q:List Keyed):Prop where
 perm:(out++P++Q).Perm T
 so:out.Pairwise le
 bp:∀x∈out,∀y∈P,le x y
 bq:∀x∈out,∀y∈Q,le x y
 sp:P.Pairwise le
 sq:Q.Pairwise le
end
end Lake
set_option backward.match.sparseCases true
namespace Lake
section
open PySem.Spec
theorem Bf:∀{l:List α}{i:Nat}(h:i<l.length),(l[i]::l.eraseIdx i).Perm l
 |x::r,0,_=>Qi _
 |x::r,i+1,h=>by
  have h':i<r.length:=by simpa using h
  exact(List.Perm.swap x r[i] _).trans ((Bf h').cons x)
section
variable{M:Model}{A:Around}{E:c8}{s:Shared}
theorem Ui(J:n≠0)(h:∀i O,i<n->Q i {s with drawn:=O}):wpAny M A (choose q n) Q E s:=λ Y p _=>by
 unfold choose;rw[Sem.wp_choose];exact⟨J,h _ _ (Nat.mod_lt _ (Nat.pos_of_ne_zero J))⟩
theorem Fj:∀(n:Nat)(xs:List α)(s:Shared)(Q:List α->Shared->Prop),n=xs.length->(∀ys J,ys.Perm xs->Q ys {s with drawn:=J})->wpAny M A (drawOrder n xs) Q E s
 |0,xs,s,Q,e,h=>by
  have:=List.length_eq_zero_iff.mp e.symm;subst this;exact qc (h [] s.drawn (Qi _))
 |n+1,[],s,Q,e,h=>by cases e
 |n+1,x::r,s,Q,e,h=>by
  refine qb (Ui bP λ i J hi=>?_);have e1:=zt hi;rw[e1];refine qb (Fj n ((x::r).eraseIdx i) _ _ ?_ λ ys q O=>qc ?_)
  .rw[List.length_eraseIdx_of_lt hi];lia
  .refine h _ q ?_;exact(O.cons _).trans (Bf hi)
end
theorem H_(f:Nat->Nat):∀(n k:Nat)(l:List α)(out:Array α),n=l.length->(pickOrder.go f n k l out).toList.Perm (out.toList++l)
 |0,k,l,out,e=>by
  have:=List.length_eq_zero_iff.mp e.symm;subst this;unfold pickOrder.go;rw[yd]
 |n+1,k,l,out,e=>by
  unfold pickOrder.go;have q:f k%l.length<l.length:=Nat.mod_lt _ aE;rw[zt q];refine(H_ f n (k+1) _ _ (by rw[List.length_eraseIdx_of_lt q];lia)).trans ?_;rw[Array.toList_push,Z5];exact List.Perm.append_left _ (Bf q)
theorem Oy(f:Nat->Nat)(xs:Array α):(pickOrder f xs).toList.Perm xs.toList:=by unfold pickOrder;grind[H_]
abbrev _root_.k7:=Array (Int×Value)
theorem QT(t:SetTable)(es:k7)(h:Int)(x:Value):(layNew t es h x).2.1.led=t.led/\((layNew t es h x).2.1.plain=true->t.plain=true):=by
 have st:∀(u:SetTable)(n:Nat),(u.standIn n).led=u.led/\(u.standIn n).plain=false:=λ u n=>⟨rfl,rfl⟩
 unfold layNew;split
 .rename_i slot O _;have J:(t.put slot).1.led=t.led/\(t.put slot).1.plain=t.plain:=⟨rfl,rfl⟩;dsimp only;unfold SetTable.orStandIn;split
  .grind
  .grind
 .grind
theorem Pa(t:SetTable)(es:k7)(n:Nat):(relayAll t es n).2.1.led=t.led/\((relayAll t es n).2.1.plain=true->t.plain=true):=by
 unfold relayAll;split
 .rename_i a J e;have m:a.led=t.led/\a.plain=t.plain:=by
   unfold SetTable.relaid SetTable.laid at e;cases z:SetTable.layClean (SetTable.sizeAbove n-1) (es.map (·.1))with
   |none=>rw[z]at e;cases e
   |some b=>rw[z]at e;cases e;exact⟨rfl,rfl⟩
  dsimp only;split
  .grind
  .exact⟨rfl,λ q=>by cases q⟩
 .exact⟨rfl,λ q=>by cases q⟩
def bI(P:Program)(w:World)(bt:Bool)(h:Heap)(a:Addr)(ss:aM):Prop:=
 ∃o es ep t,h.get? a=some o/\o.ExactSet/\o.data=.set es ep t/\ElemsOf (PySem.strKind P w) es.toList/\(es.toList.map λ e=>PyProof.Rows.strOf e.2).Perm ss/\ss.Nodup/\es.size<scanBound/\t.fits es.size=true/\(t.plain=true->es.size=0)/\(bt=false->t.led=true)
section
variable{P:Program}{w:World}{bt:Bool}{A:Around}{E:c8}{s:Shared}{a:Addr}{ss:aM}
theorem xi(h:ElemsOf (PySem.strKind P w) es):∀e∈es,∃x t,e.2=.str x t/\e.1=(PySem.strKind P w).hash x:=λ e q=>by
 obtain⟨⟨k,J,O⟩,_⟩:=h e q;obtain⟨t,Y⟩:=Value.isStrOf_shape J;exact⟨k,t,Y,O⟩
theorem A7(e:v=.str y t):(PySem.strKind P w).is x v=decide (x=y):=by
 subst e;have h:(PySem.strKind P w).is y (.str y t)=true:=by show Value.isStrOf y (.str y t)=true;simp[Value.isStrOf]
 exact KeyKind.is_eq_decide h x
theorem Hw(hS:bI P w bt s.heap a ss)(ai:ss.length+1<scanBound)(h:∀h',Heap.SameBut a s.heap h'->bI P w bt h' a (if x∈ss then ss else ss++[x])->Q (!decide (x∈ss)) {s with heap:=h'}):wpAny (model P w) A (setAddHashed a (.str x tk) ((PySem.strKind P w).hash x)) Q E s:=by
 obtain⟨o,es,n,t,r,G,hd,Z,u,X,hb,K,an,C⟩:=hS;have S:(PySem.strKind P w).is x (.str x tk)=true:=by rw[A7 rfl];simp
 have F:(Value.str x tk).scannable=true:=rfl;have hn:es.size=ss.length:=by have:=u.length_eq;rw[qx,zd]at this;exact this
 have mem:(∃e∈es.toList,(PySem.strKind P w).is x e.2=true)↔x∈ss:=by
  rw[<-u.mem_iff,List.mem_map];constructor
  .rintro ⟨e,d,q⟩;obtain⟨y,t,p,_⟩:=xi Z e d;rw[A7 p,yf]at q;exact⟨e,d,by rw[p,q];rfl⟩
  .rintro ⟨e,d,q⟩;obtain⟨y,t,p,_⟩:=xi Z e d;rw[p]at q;exact⟨e,d,by rw[A7 p,yf,<-q];rfl⟩
 refine zr (qb (zo r hd K ?_));dsimp only;rw[byScan_of F hb Z];refine qb (qb (Yc (qb (wpAny_setScan_of S r hd K Z ?_))));cases hr:List.findIdx? (λ e=>(PySem.strKind P w).is x e.2) es.toList with
 |some j=>
  refine bE (List.findIdx?_eq_some_iff_getElem.mp hr) λ hj ao _=>?_;have hx:=mem.mp ⟨es.toList[j],Zc hj,ao⟩;refine qc (qc ?_);have:=h s.heap (Q7 a s.heap) (by rw[if_pos hx];exact⟨o,es,n,t,r,G,hd,Z,u,X,hb,K,an,C⟩);rw[zk hx]at this;exact this
 |none=>
  have hx:¬x∈ss:=λ q=>by
   refine bE (mem.mpr q) λ e d q=>?_;have:=List.findIdx?_eq_none_iff.mp hr e d;rw[q]at this;cases this
  have lp:=layNew_perm t es ((PySem.strKind P w).hash x) (.str x tk);have M:=layNew_fits t es ((PySem.strKind P w).hash x) (.str x tk);have N:=QT t es ((PySem.strKind P w).hash x) (.str x tk);generalize layNew t es ((PySem.strKind P w).hash x) (.str x tk)=σ at lp M N⊢;obtain⟨J,t1,wd,as⟩:=σ;rw[Array.toList_push]at lp;have T:=(Z.push S F).perm lp;have V:(J.toList.map λ e=>PyProof.Rows.strOf e.2).Perm (ss++[x]):=by refine(lp.map _).trans ?_;rw[zx];exact u.append (Qi _)
  have ρ:(ss++[x]).Nodup:=by rw[jn];exact⟨X,by grind⟩
  have ar:J.size=es.size+1:=by have:=lp.length_eq;rw[zm,zd,zd]at this;exact this
  have I:∀(b:Bool)(O:Shared)(f:Unit→Shared→Prop),f () O→wpAny (model P w) A (match b with|true=>rule "set.scan.the-table-gave-way"|false=>pure ()) f E O:=
   λ b O f q=>by cases b<;>first|exact qc q|exact Yc q
  refine qb (I _ _ _ ?_);have fin:∀(g:Bool->Sem Unit),(∀(b:Bool)(O:Shared)(f:Unit->Shared->Prop),f () O->wpAny (model P w) A (g b) f E O)->∀(R:Option Bool->Shared->Prop)(c:SetTable),c.fits J.size=true->c.led=t.led->c.plain=false->(∀h',Heap.SameBut a s.heap h'->bI P w bt h' a (ss++[x])->R (some true) {s with heap:=h'})->
    wpAny (model P w) A (do
     storeSet a J c
     if(!wd&&c.tooFull)=true then do
       g (relayAll c J (SetTable.grown J.size)).2.2
       storeSet a (relayAll c J (SetTable.grown J.size)).1 (relayAll c J (SetTable.grown J.size)).2.1
       pure (some true)
      else pure (some true)) R E s:=λ g hg R c f2 l2 p2 k=>by
   have H:J.size<scanBound:=by rw[ar,hn];exact ai
   refine qb (Qz r hd ?_ (Qb H));have D:(s.heap.update a (Obj.putSet J c)).get? a=some {o with data:=.set J (n+1) c}:=by have z:=zq (Obj.putSet J c) r (by rw[Qx J c hd];rfl);rw[Qx J c hd]at z;exact z
   have W:=yg s.heap a (Obj.putSet J c);split
   .have B:=relayAll_perm c J (SetTable.grown J.size);have rf:=relayAll_fits c J (SetTable.grown J.size);have v:=Pa c J (SetTable.grown J.size);generalize relayAll c J (SetTable.grown J.size)=Rl at B rf v⊢;obtain⟨Y,i,g2⟩:=Rl;have aq:Y.size=J.size:=by rw[<-zd,B.length_eq,zd]
    have b2:Y.size<scanBound:=by rw[aq];exact H
    refine qb (hg _ _ _ (qb (Qz D rfl (qc (k _ (W.trans (yg _ a _)) ?_)) (Qb b2))));have ap:((s.heap.update a (Obj.putSet J c)).update a (Obj.putSet Y i)).get? a=some {o with data:=.set Y (n+1+1) i}:=by have z:=zq (Obj.putSet Y i) D (by rw[Qx Y i rfl];rfl);rw[Qx Y i rfl]at z;exact z
    exact⟨_,Y,n+1+1,i,ap,G,rfl,T.perm B,(B.map _).trans V,ρ,b2,rf,λ q=>(by rw[p2]at v;exact absurd (v.2 q) bP),λ q=>by rw[v.1,l2];exact C q⟩
   .exact qc (k _ W ⟨_,J,n+1,c,D,G,rfl,T,V,ρ,H,f2,λ q=>(by rw[p2]at q;cases q),λ q=>by rw[l2];exact C q⟩)
  have done:=λ h' l m=>by
   have:=h h' l (by rw[if_neg hx];exact m);rw[yv hx]at this;exact this
  split
  .refine qb ?_;rw[hashByValue_scannable 8 F];refine qc (fin _ I _ _ ?_ ?_ ?_ λ h' l m=>?_)
   .exact SetTable.fits_plain_off M
   .exact N.1
   .rfl
   .exact qc (done h' l m)
  .rename_i np;refine qb (qc ?_);refine fin _ I _ _ M N.1 (by simpa using np) λ h' l m=>?_;exact qc (done h' l m)
end
theorem wB:∀(xs acc:aM),(d5 acc xs).length<=acc.length+xs.length
 |[],acc=>qj _
 |x::r,acc=>by
  have h:=wB r (jD acc x);have h2:(jD acc x).length<=acc.length+1:=by
   unfold jD;split
   .lia
   .grind
  show(d5 (jD acc x) r).length<=_;grind
def iN:Bool->Heap->Addr->Addr->Nat->Prop
 |true,h,it,c,i=>h.IsTupleIter it c i
 |false,h,it,c,i=>h.IsListIter it c i
def gW:Bool->Heap->Addr->Array Value->Prop
 |true,h,c,us=>h.IsTuple c us
 |false,h,c,us=>h.IsList c us
section
variable{P:Program}{w:World}{A:Around}{E:c8}{s:Shared}{it c:Addr}{i:Nat}{us:g9}
theorem gW.keep(q:gW T h c us)(k:∀b o,h.get? b=some o->h'.get? b=some o):gW T h' c us:=by
 cases T with
 |true=>obtain⟨o,J,r⟩:=q;exact⟨o,k _ _ J,r⟩
 |false=>obtain⟨o,J,r⟩:=q;exact⟨o,k _ _ J,r⟩
theorem U4(a:iN T s.heap it c i)(b:gW T s.heap c us)(hx:us[i]?=some x)(k:∀h',iN T h' it c (i+1)->Heap.SameBut it s.heap h'->Q (some x) {s with heap:=h'}):wpAny (model P w) A (pyNext (.ref it)) Q E s:=by
 cases T with
 |true=>exact Z9 a b hx k
 |false=>exact Ye a b hx k
theorem R5(q:A.handled=none)(a:iN T s.heap it c i)(b:gW T s.heap c us)(hx:us[i]?=none)(k:∀h',Heap.ExtBut it s.heap h'->Q none {s with heap:=h'}):wpAny (model P w) A (pyNext (.ref it)) Q E s:=by
 cases T with
 |true=>exact Yd q a b hx k
 |false=>exact Yp q a b hx k
theorem Uv(b:gW T s.heap c us)(k:∀oI:Obj,iN T (s.heap.push oI) s.heap.n c 0->Q (.ref s.heap.n) {s with heap:=s.heap.push oI}):wpAny (model P w) A (pyIter (.ref c)) Q E s:=by
 cases T with
 |true=>exact wpAny_pyIter_tuple b (k _ ⟨_,qk _ rfl,rfl,rfl⟩)
 |false=>exact wpAny_pyIter_list b (k _ ⟨_,qk _ rfl,rfl,rfl⟩)
theorem iN.same(q:iN T h it c i)(O:Heap.SameBut b h h')(Y:it≠b):iN T h' it c i:=by
 cases T with
 |true=>obtain⟨o,J,r⟩:=q;exact⟨o,(O.2 it Y).trans J,r⟩
 |false=>obtain⟨o,J,r⟩:=q;exact⟨o,(O.2 it Y).trans J,r⟩
theorem bI.same(q:bI P w bt h a ss)(O:Heap.SameBut b h h')(Y:a≠b):bI P w bt h' a ss:=by obtain⟨o,es,c,t,J,r⟩:=q;exact⟨o,es,c,t,(O.2 a Y).trans J,r⟩
theorem bI.ext(q:bI P w bt h a ss)(O:Heap.ExtBut b h h')(Y:a≠b):bI P w bt h' a ss:=by obtain⟨o,es,c,t,J,r⟩:=q;exact⟨o,es,c,t,O a _ Y J,r⟩
theorem bI.keep(q:bI P w bt h a ss)(k:∀b o,h.get? b=some o->h'.get? b=some o):bI P w bt h' a ss:=by
 refine iL q λ o es c t J r=>?_;exact⟨o,es,c,t,k _ _ J,r⟩
theorem S1(h:PyProof.Rows.StrsAre all xs)(e:xs.drop i=x::r):∃tk,all[i]?=some (.str x tk):=by
 induction h generalizing i with
 |nil=>simp at e
 |cons y t h J=>
  cases i with
  |zero=>
   rw[Q4]at e;injection e with e1 e2
   subst e1;exact⟨t,rfl⟩
  |succ i=>
   rw[List.drop_succ_cons]at e;grind
theorem RL(al:hI.get? a=none)(af:hI.get? it=none)(Y:a≠it)(sq:gW T hI c all.toArray)(sa:PyProof.Rows.StrsAre all aa)(hh:A.handled=none):∀(xs:aM)(acc:aM)(s:Shared)(i:Nat),aa.drop i=xs->(∀b o,hI.get? b=some o->s.heap.get? b=some o)->iN T s.heap it c i->bI P w bt s.heap a acc->acc.length+xs.length+1<scanBound->(∀h' O,(∀b o,hI.get? b=some o->h'.get? b=some o)->bI P w bt h' a (d5 acc xs)->R (.ok (.ret .none)) {s with heap:=h',toks:=O})->codeAny (model P w) A (.builtin "set.update.loop" ⟨[.ref a,.ref it],[]⟩) R s:=by
 intro xs;induction xs with
 |nil=>
  intro acc s i e d Z f k q;refine yx Y7 ?_;rw[yt Qp _];have C:all.length=aa.length:=by have:=sa.strs;rw[<-this,qx]
  have hx:all.toArray[i]?=none:=by have:all[i]?=none:=Qa (by grind);simpa using this
  refine qb (R5 hh Z (sq.keep d) hx λ h' j=>qc ?_);exact q h' s.toks (λ b o J=>j b o (λ z=>by grind) (d _ _ J)) (f.ext j Y)
 |cons x xs B=>
  intro acc s i e d Z f k q;refine yx Y7 ?_;rw[yt Qp _];obtain⟨l,p⟩:=S1 sa e;have hx:all.toArray[i]?=some (.str x l):=by simpa using p
  refine qb (U4 Z (sq.keep d) hx λ h1 n h=>?_);have t:∀b o,hI.get? b=some o->h1.get? b=some o:=λ b o J=>(h.2 b (λ z=>by grind)).trans (d _ _ J);refine qb (zr ?_);have m:(PySem.strKind P w).is x (.str x l)=true:=by rw[A7 rfl];simp
  refine zr (qb ((PySem.strKind P w).pyHash m ?_));simp only[zg]at k;refine Hw (f.same h Y) aE λ h2 g u=>?_;have r:∀b o,hI.get? b=some o->h2.get? b=some o:=λ b o J=>(g.2 b (λ z=>by grind)).trans (t _ _ J);have D:(jD acc x).length<=acc.length+1:=by
   unfold jD;split
   .lia
   .grind
  refine qc ⟨jp Qp _,?_⟩;exact B (jD acc x) {s with heap:=h2,toks:=s.toks+1} (i+1) (by rw[<-List.drop_drop,e];rfl) r (n.same g (zy Y)) u aE λ h' O v y=>q h' O v y
end
noncomputable abbrev dF(w:World):Bool:=w.params.followText "set-order"
abbrev d6(w:World):Obj:={cls:=.type "set",dict:=none,data:=.set #[] 0 (.fresh 0 0 (!dF w))}
theorem Pm:isSubtype (.type "tuple") (.type "set")=pure false:=by rw[Yw];kernel_rfl
theorem v_6:isSubtype (.type "tuple") (.type "frozenset")=pure false:=by rw[Yw];kernel_rfl
section
variable{P:Program}{w:World}{A:Around}{E:c8}{s:Shared}
theorem RM(h:Heap):bI P w (dF w) (h.push (d6 w)) h.n []:=
 ⟨_,#[],0,_,qk _ rfl,⟨rfl,rfl,rfl⟩,rfl,λ e q=>(by simp at q),Qi _,Y4,by decide,by rfl,λ _=>rfl,λ e=>by rw[e];rfl⟩
theorem R6(h:Q (.ref s.heap.n) {s with heap:=s.heap.push (d6 w)}):wpAny (model P w) A (newSet (.type "set")) Q E s:=by refine qb (qb (yq (qc ?_)));exact qb (wpAny_alloc (qc h))
theorem Uz(v:Value)(h:Q₁ (.ref s.heap.n) {s with heap:=s.heap.push (d6 w)}):codeAny (model P w) A (.call (.builtin "set.__new__") ⟨[.type "set",v],[]⟩) (wants Q₁ E) s:=by
 refine codeAny_of_tree ?_;refine qb (wpAny_of_eq (F.newCall_set_1 v) (qc ⟨jp F.plain_set_new _,yx F.entry_set_new ?_⟩));rw[yt F.plain_set_new _];have q:=sub_set_self;obtain⟨Z,Y,O,k0,J⟩:=s;wp_walk;refine yq (qc ?_);exact qb (wpAny_alloc (qc (qc h)))
set_option maxHeartbeats 3200000 in
theorem Rm{T:Bool}{c:Addr}{all:bO}{xs:aM}{Q:c8}(hh:A.handled=none)(sq:gW T s.heap c all.toArray)(sa:PyProof.Rows.StrsAre all xs)(hz:xs.length+1<scanBound)(k:∀(h':Heap)(tk:Nat),(∀b o,s.heap.get? b=some o->h'.get? b=some o)->bI P w (dF w) h' s.heap.n (d5 [] xs)->Q (.ref s.heap.n) {s with heap:=h',toks:=tk}):wpAny (model P w) A (call (.type "set") [.ref c]) Q E s:=by
 obtain⟨mc,mt,mr⟩:=F.called_set.mro;have md:=F.called_set.made;have su:=F.called_set.sub;refine Zt (codeAny_of_tree ?_);show wpAny _ _ (callAny (.type "set") _) _ _ _;refine qc ⟨Code.quiet_builtin _ d8,yx F.entry_type_call ?_⟩;rw[Around.under_plain (weight_type_call_type "set" [.ref c] []) rfl];have f1:=F.called_set.notType;have f2:=F.called_set.canCreate;have f3:=F.typeCall_set_1 (.ref c)
 repeat (any_goals (first|assumption|wp_step))
 refine jy (Uz (.ref c) (E:=E) (Q₁:=λ z s1=>z=.ref s.heap.n/\s1={s with heap:=s.heap.push (d6 w)}) ⟨rfl,rfl⟩) λ r s1 hr=>?_;cases r with
 |error e=>exact hr
 |ok fl=>
  cases fl with
  |ret z=>
   obtain⟨rfl,rfl⟩:=hr;have O:(s.heap.push (d6 w)).get? s.heap.n=some (d6 w):=qk _ rfl;have Z:Shared.TypeIs {s with heap:=s.heap.push (d6 w)} (.ref s.heap.n) "set":=⟨_,O,rfl⟩;have li:=F.called_set.init.lookup;have bi:=F.called_set.init.bind (.ref s.heap.n)
   repeat (any_goals (first|assumption|wp_step))
   refine jy (Yx (R:=wants (λ r s2=>r=.none/\∃h' tk,s2={s with heap:=h',toks:=tk}/\(∀b o,s.heap.get? b=some o->h'.get? b=some o)/\bI P w (dF w) h' s.heap.n (d5 [] xs)) E) F.called_set.init.plain F.entry_set_init (check_set_init_1 Z ?_)) λ r2 s2 q=>?_
   .have J:gW T (s.heap.push (d6 w)) c all.toArray:=sq.keep λ b o e=>qd _ e;have e1:∃TT:String,Shared.TypeIs {s with heap:=s.heap.push (d6 w)} (.ref c) TT∧(isSubtype (.type TT) (.type "set")=pure false)∧(isSubtype (.type TT) (.type "frozenset")=pure false)∧(Value.type TT==Value.type "dict")=false:=by
     cases T with
     |true=>refine a_ J λ o Y hc _=>?_;exact⟨"tuple",⟨o,Y,hc⟩,Pm,v_6,by decide⟩
     |false=>refine a_ J λ o Y hc _=>?_;exact⟨"list",⟨o,Y,hc⟩,F.sub_list_set,F.sub_list_frozenset,by decide⟩
    refine cZ e1 λ TT af n1 n2 n3=>?_;unfold Builtin.«set.__init__» noKeywords Builtin.Frozenset.updateFrom;generalize ae:pyIter=PI;wp_walk;subst ae;refine Uv (s:={s with heap:=s.heap.push (d6 w)}) J λ oI aa=>?_;have sz:(s.heap.push (d6 w)).objs.size=s.heap.n+1:=by rw[Zy]
    have none_of:∀n,s.heap.n<=n->s.heap.get? n=none:=λ n hn=>by
     cases z:s.heap.get? n with
     |none=>rfl
     |some o=>exact absurd (qm z) (Nat.not_lt.mpr hn)
    refine qb (wpAny_runValue ?_);refine RL (A:=A.in1.in1) (bt:=dF w) (hI:=s.heap) (none_of _ (qj _)) (none_of _ (by show s.heap.n<=(s.heap.push (d6 w)).objs.size;rw[sz];exact Zf _)) (by show s.heap.n≠(s.heap.push (d6 w)).objs.size;rw[sz];exact qr (Nat.lt_succ_self _)) sq sa hh
     xs [] {s with heap:=(s.heap.push (d6 w)).push oI} 0 rfl (λ b o e=>qd _ (qd _ e)) aa ((RM s.heap).keep λ b o e=>qd _ e) (by rw[jb];lia) λ h' tk c1 c2=>?_
    refine qc (qc ?_);exact⟨rfl,h',tk,rfl,c1,c2⟩
   .cases r2 with
    |error e=>exact q
    |ok ac=>
     cases ac with
     |ret r=>
      obtain⟨rfl,h',tk,rfl,c1,c2⟩:=q
      repeat (any_goals (first|assumption|wp_step))
      exact k _ _ c1 c2
     |_=>exact q.elim
  |_=>exact hr.elim
end
theorem cQ:Slot "set_iterator" "__next__" "set_iterator.__next__":=
 .of (owner:="set_iterator") (n:="__next__") (by rw[typeLookup_type,Yq];kernel_rfl) d8 d8 d8 (by first|exact .inl d8|exact .inr d8) (by rw[Yw];kernel_rfl)
theorem OD:Slot "set_iterator" "__iter__" "set_iterator.__iter__":=
 .of (owner:="set_iterator") (n:="__iter__") (by rw[typeLookup_type,Yq];kernel_rfl) d8 d8 d8 (by first|exact .inl d8|exact .inr d8) (by rw[Yw];kernel_rfl)
theorem Pc:entryFor table "set_iterator.__next__"=some Builtin.«set_iterator.__next__»:=entryFor_of_tree dA
theorem Pd:entryFor table "set_iterator.__iter__"=some Builtin.«dict_keyiterator.__iter__»:=
 entryFor_alias (id':="dict_keyiterator.__iter__") dA (by first|rfl|decide+kernel) d8 dA
theorem O9:entryFor table "set.__iter__"=some Builtin.«frozenset.__iter__»:=
 entryFor_alias (id':="frozenset.__iter__") dA (by first|rfl|decide+kernel) d8 dA
theorem QF(v:Value):argsOk "set_iterator.__next__" ⟨[v],[]⟩:=dA
theorem QG(v:Value):argsOk "set_iterator.__iter__" ⟨[v],[]⟩:=dA
abbrev kr(first:Value)(i:Int)(a:Addr)(n ep:Nat):Obj:={cls:=.type "set_iterator",data:=.fields #[first,.int i 0,.ref a,.int n 0,.int ep 0]}
section
theorem BL(q:s.heap.get? it=some o)(J:o.cls=.type "set_iterator")(h:Q (.ref it) s):wpAny (model P w) A (pyIter (.ref it)) Q E s:=by have ty:s.TypeIs (.ref it) "set_iterator":=⟨o,q,J⟩;refine wpAny_pyIter_slot ty OD (jt OD ty Pd ?_ (QG _));exact qc ⟨_,rfl,"set_iterator",_,ty,cQ.lookup,h⟩
theorem xA(O:s.heap.get? it=some o)(Y:o.cls=.type "set_iterator")(h:wpAny (model P w) A.in1 (Builtin.«set_iterator.__next__» ⟨[.ref it],[]⟩) (λ fin s'=>∃v,fin=.done (.ret v)∧Q (some v) s') (λ e s'=>∃x J,e=.ref x∧s'.heap.get? x=some J∧J.cls=.type "StopIteration"∧Q none s') s):wpAny (model P w) A (pyNext (.ref it)) Q E s:=by
 have ty:s.TypeIs (.ref it) "set_iterator":=⟨o,O,Y⟩;refine qb (wpAny_attempt (wpAny_callSpecial?_slot ty cQ (jt cQ ty Pc (zv h (λ fin s' q=>?_) λ e s' q=>?_) (QF _))))
 .obtain⟨v,rfl,q⟩:=q;exact⟨v,rfl,qc q⟩
 .obtain⟨x,J,rfl,h1,h2,q⟩:=q;exact qb (Ya ⟨J,h1,h2⟩ isSubtype_stop (qc q))
theorem Jl(J:A.handled=none)(k:∀(h':Heap)(x:Addr)(q:Obj),(∀b o,s.heap.get? b=some o→h'.get? b=some o)→h'.get? x=some q→q.cls=.type "StopIteration"→E (.ref x) {s with heap:=h'}):wpAny (model P w) A (newExc (.type "StopIteration") [] >>= λ e=>raiseNew e) Q E s:=by
 refine qb ?_;refine qb (yh ?_ (by size_fits));refine qb (wpAny_of_eq (by first|rfl|(simp only[firstArgMember];rfl)) (yh ?_ (by size_fits)));refine qb (wpAny_handled ?_);rw[J];exact qb (qc (wpAny_throw (k _ _ _ (λ b o e=>qd _ (qd _ e)) (qk _ rfl) rfl)))
end
section
structure eX(h:Heap)(a:Addr)(es:k7)(ep:Nat)(t:SetTable):Prop where
 at_:∃o,h.get? a=some o/\o.ExactSet/\o.data=.set es ep t
 fits:t.fits es.size=true
theorem eX.keep(q:eX h a es ep t)(k:∀o,h.get? a=some o->h'.get? a=some o):eX h' a es ep t:=by obtain⟨⟨o,h1,h2⟩,f⟩:=q;exact⟨⟨o,k o h1,h2⟩,f⟩
theorem Ur{J:d0}{i p:Nat}(hI:s.heap.get? it=some (kr (.ref tp) i a es.size ep))(hO:eX s.heap a es ep t)(Z:s.heap.IsTuple tp (J.map λ q:Nat=>Value.int q 0).toArray)(hp:J[i]?=some p)(he:es[p]?=some e)(k:∀h',h'.get? it=some (kr (.ref tp) (i+1:Nat) a es.size ep)->Heap.SameBut it s.heap h'->Q (some e.2) {s with heap:=h'}):wpAny (model P w) A (pyNext (.ref it)) Q E s:=by
 obtain⟨⟨o,h1,h2,Y⟩,O⟩:=hO;obtain⟨g,d,h,j,f⟩:=Z;refine xA hI rfl ?_;show wpAny _ _ (fieldsOf (.ref it) >>= _) _ _ s;refine qb (Yu hI rfl ?_);refine qb (jr h1 Y O ?_);rw[if_neg bP];refine qb (Zs d f ?_);have c:(J.map λ q:Nat=>Value.int q 0).toArray[((i:Nat):Int).toNat]?=some (.int p 0):=by simp[hp]
 dsimp only;rw[c];refine qb ?_;refine qb (zo h1 Y O ?_);dsimp only;rw[if_neg bP];have b:es[((p:Nat):Int).toNat]?=some (e.1,e.2):=by simpa using he
 rw[b];refine qc (qb (Qg hI rfl bP (qc ⟨_,rfl,k _ ?_ (yg ..)⟩)));have z:=zq (Obj.mapFields (·.setIfInBounds 1 (rawInt (((i:Nat):Int)+1)))) hI rfl;rw[z];rfl
theorem Rh{J:d0}{i:Nat}(hh:A.handled=none)(hI:s.heap.get? it=some (kr (.ref tp) i a es.size ep))(hO:eX s.heap a es ep t)(Y:s.heap.IsTuple tp (J.map λ q:Nat=>Value.int q 0).toArray)(hp:J[i]?=none)(k:∀h',Heap.ExtBut it s.heap h'->Q none {s with heap:=h'}):wpAny (model P w) A (pyNext (.ref it)) Q E s:=by
 obtain⟨⟨o,h1,h2,c⟩,f⟩:=hO;obtain⟨m,j,n,p,l⟩:=Y;refine xA hI rfl ?_;show wpAny _ _ (fieldsOf (.ref it) >>= _) _ _ s;refine qb (Yu hI rfl ?_);refine qb (jr h1 c f ?_);rw[if_neg bP];refine qb (Zs j l ?_);have h:(J.map λ q:Nat=>Value.int q 0).toArray[((i:Nat):Int).toNat]?=none:=by simp[hp]
 dsimp only;rw[h];refine qb (Qg hI rfl bP ?_);have z:=zq (Obj.mapFields (·.setIfInBounds 0 (rawInt 0))) hI rfl;refine qb (Qg z rfl (by simp[kr]) ?_);refine Jl hh λ h' x Z g hx d=>⟨x,Z,rfl,hx,d,k h' λ b ob O e=>g b ob ?_⟩
 rw[ye _ _ (zy O),ye _ _ (zy O)];exact e
theorem Ig{q nx i:Nat}(hI:s.heap.get? it=some (kr (.int q 0) i a es.size ep))(hO:eX s.heap a es ep t)(Y:∀(A':Around)(J:Option (Value×Nat)->Shared->Prop)(O:c8),J (some (v,nx)) s->wpAny (model P w) A' (setNext a q i ep) J O s)(k:∀h',h'.get? it=some (kr (.int nx 0) (i+1:Nat) a es.size ep)->Heap.SameBut it s.heap h'->Q (some v) {s with heap:=h'}):wpAny (model P w) A (pyNext (.ref it)) Q E s:=by
 obtain⟨⟨o,h1,h2,b⟩,Z⟩:=hO;refine xA hI rfl ?_;show wpAny _ _ (fieldsOf (.ref it) >>= _) _ _ s;refine qb (Yu hI rfl ?_);refine qb (jr h1 b Z ?_);rw[if_neg bP];show wpAny _ _ (setNext a ((q:Nat):Int).toNat ((i:Nat):Int).toNat ((ep:Nat):Int).toNat >>= _) _ _ s;rw[Qc,Qc,Qc];refine qb (Y _ _ _ ?_);refine qb (Qg hI rfl bP ?_);have z:=zq (Obj.mapFields (·.setIfInBounds 0 (rawInt (nx:Int)))) hI rfl;refine qb (Qg z rfl (by simp[kr]) (qc ⟨_,rfl,k _ ?_ ((yg ..).trans (yg ..))⟩));have c:=zq (Obj.mapFields (·.setIfInBounds 1 (rawInt (((i:Nat):Int)+1)))) z rfl;rw[c];rfl
theorem Kn{q i:Nat}(hh:A.handled=none)(hI:s.heap.get? it=some (kr (.int q 0) i a es.size ep))(hO:eX s.heap a es ep t)(hN:∀(A':Around)(J:Option (Value×Nat)->Shared->Prop)(E':c8),J none s->wpAny (model P w) A' (setNext a q i ep) J E' s)(k:∀h',Heap.ExtBut it s.heap h'->Q none {s with heap:=h'}):wpAny (model P w) A (pyNext (.ref it)) Q E s:=by
 obtain⟨⟨o,h1,h2,c⟩,d⟩:=hO;refine xA hI rfl ?_;show wpAny _ _ (fieldsOf (.ref it) >>= _) _ _ s;refine qb (Yu hI rfl ?_);refine qb (jr h1 c d ?_);rw[if_neg bP];show wpAny _ _ (setNext a ((q:Nat):Int).toNat ((i:Nat):Int).toNat ((ep:Nat):Int).toNat >>= _) _ _ s;rw[Qc,Qc,Qc];refine qb (hN _ _ _ ?_);refine qb (Qg hI rfl bP ?_);refine Jl hh λ h' x O f hx Z=>⟨x,O,rfl,hx,Z,k h' λ b ob Y e=>f b ob ?_⟩
 rw[ye _ _ (zy Y)];exact e
theorem HZ(Z:eX s.heap a es ep t)(bt:dF w=true)(q:Q (((pickOrder (w.params.setOrder a ep) es)[i]?).map λ e=>(e.2,Y)) s):wpAny (model P w) A (setNext a Y i ep) Q E s:=by
 obtain⟨⟨o,h1,h2,O⟩,J⟩:=Z;refine qb (zo h1 O J ?_);refine qb (qb (yq (qc ?_)));split
 .rw[if_neg bP];refine qb (qb (zo h1 O J ?_));refine qb (qb (yq (qc ?_)));split
  .exact qb (yq (qc (qc q)))
  .grind
 .rename_i c;exact absurd bt c
theorem H3(hO:eX s.heap a es ep t)(bt:dF w=false)(le:es.size<=1)(ld:t.led=true)(q:Q (match es[SetTable.below t.place O]?,t.place[SetTable.below t.place O]? with|some (_,x),some j=>some (x,j+1)|_,_=>none) s):wpAny (model P w) A (setNext a O i ep) Q E s:=by
 obtain⟨⟨o,h1,h2,b⟩,Z⟩:=hO;refine qb (zo h1 b Z ?_);refine qb (qb (yq (qc ?_)));split
 .rename_i c;have c:dF w=true:=c;rw[bt]at c;simp at c
 .split
  .rename_i c;have c:(!t.plain&&decide (es.size>1))=true:=c;simp at c;lia
  .have m:∀(J:Unit→Shared→Prop),J () s→wpAny (model P w) A (if(!t.led&&!es.isEmpty)=true then unsupported "set:maker-not-led" else pure ()) J E s:=λ J Y=>by
    rw[if_neg (by simp[ld])];exact qc Y
   exact qb (m _ (qc q))
end
section
def yV(P:Program)(w:World)(X:Addr->Prop)(I:Addr)(vs:bO)(h:Heap):Prop:=
 ∃(q:fV)(St:Nat->Heap->Prop),(∀A:Around,A.handled=none->Walks P w A I q [I] vs.length (λ i v=>vs[i]?=some v) St)/\St 0 h/\∀b∈q,b<h.n/\X b
theorem Uo(es:k7):((List.range es.size).map λ p=>(es.getD p default).2)=es.toList.map (·.2):=by
 apply Z4;intro i;by_cases h:i<es.size
 .simp[h,Array.getD]
 .grind
theorem TF{O:d0}(hI:h.get? I=some (kr (.ref tp) 0 a es.size ep))(hO:eX h a es ep t)(hT:h.IsTuple tp (O.map λ q:Nat=>Value.int q 0).toArray)(hp:O.Perm (List.range es.size))(n1:a≠I)(n2:tp≠I)(xI:X I)(xa:X a)(xt:X tp):yV P w X I (O.map λ p=>(es.getD p default).2) h:=by
 refine⟨[I,a,tp],λ i h=>h.get? I=some (kr (.ref tp) (i:Nat) a es.size ep)/\eX h a es ep t/\h.IsTuple tp (O.map λ q:Nat=>Value.int q 0).toArray,λ A j=>?_,⟨hI,hO,hT⟩,λ b J=>?_⟩
 .refine⟨λ b J=>(by simp at J;simp[J]),λ i h h' st k=>⟨k I bP _ st.1,st.2.1.keep (k a bP),?_⟩,λ i s Q E hi st q=>?_,λ s Q E st q=>?_,λ i s Q E st q=>BL st.1 rfl q⟩
  .obtain⟨o,Z,r⟩:=st.2.2;exact⟨o,k tp bP _ Z,r⟩
  .rw[qx]at hi;have Y:=zt hi;have f:O[i]<es.size:=by have:=hp.mem_iff.mp (Zc hi);simpa using this
   refine Ur st.1 st.2.1 st.2.2 Y (e:=es[O[i]]) (by simp[f]) λ h' g d=>q _ h' s.toks ?_ ⟨g,st.2.1.keep λ o e=>(d.2 a n1).trans e,?_⟩ λ b o J e=>(d.2 b λ z=>J (by simp[z])).trans e
   .rw[zl,Y];simp[Array.getD,f]
   .obtain⟨o,Z,r⟩:=st.2.2;exact⟨o,(d.2 tp n2).trans Z,r⟩
  .rw[qx]at st;exact Rh j st.1 st.2.1 st.2.2 (Qa (qj _)) λ h' c=>q h' s.toks λ b o J e=>c b o (λ z=>J (by simp[z])) e
 .have:b=I\/b=a\/b=tp:=by simpa using J
  rcases this with rfl|rfl|rfl
  .exact⟨qm hI,xI⟩
  .obtain⟨⟨o,h1,_⟩,_⟩:=hO;exact⟨qm h1,xa⟩
  .obtain⟨o,Z,_⟩:=hT;exact⟨qm Z,xt⟩
theorem Um(bt:dF w=true)(hI:h.get? I=some (kr (.int 0 0) 0 a es.size ep))(Z:eX h a es ep t)(n1:a≠I)(xI:X I)(xa:X a):yV P w X I ((pickOrder (w.params.setOrder a ep) es).toList.map (·.2)) h:=by
 refine⟨[I,a],λ i h=>h.get? I=some (kr (.int ((0:Nat):Int) 0) (i:Nat) a es.size ep)/\eX h a es ep t,λ A l=>?_,⟨hI,Z⟩,λ b J=>?_⟩
 .refine⟨λ b J=>(by simp at J;simp[J]),λ i h h' st k=>⟨k I bP _ st.1,st.2.keep (k a bP)⟩,λ i s Q E hi st q=>?_,λ s Q E st q=>?_,λ i s Q E st q=>BL st.1 rfl q⟩
  .rw[qx,zd]at hi;refine Ig st.1 st.2 (λ d g f O=>HZ st.2 bt (by rw[yi hi];exact O)) λ h' j Y=>q _ h' s.toks ?_ ⟨j,st.2.keep λ o e=>(Y.2 a n1).trans e⟩ λ b o J e=>(Y.2 b λ z=>J (by simp[z])).trans e;rw[zl,je,yi hi];rfl
  .rw[qx,zd]at st;exact Kn l st.1 st.2 (λ d g f O=>HZ st.2 bt (by grind)) λ h' c=>q h' s.toks λ b o J e=>c b o (λ z=>J (by simp[z])) e
 .have:b=I\/b=a:=by simpa using J
  rcases this with rfl|rfl
  .exact⟨qm hI,xI⟩
  .obtain⟨⟨o,h1,_⟩,_⟩:=Z;exact⟨qm h1,xa⟩
theorem T5(xs:Array Nat)(le:xs.size<=1):SetTable.below xs 0=0/\∀j,xs[0]?=some j->SetTable.below xs (j+1)=1:=by
 obtain⟨l⟩:=xs
 match l,le with
 |[],_=>exact⟨rfl,λ j e=>by simp at e⟩
 |[x],_=>
  refine⟨?_,λ j e=>?_⟩
  .simp[SetTable.below,SetTable.below.go]
  .have:x=j:=by simpa using e
   subst this;simp[SetTable.below,SetTable.below.go]
 |x::y::r,h=>simp at h
theorem TC(bt:dF w=false)(le:es.size<=1)(ld:t.led=true)(hI:h.get? I=some (kr (.int 0 0) 0 a es.size ep))(hO:eX h a es ep t)(n1:a≠I)(xI:X I)(xa:X a):yV P w X I (es.toList.map (·.2)) h:=by
 have ps:t.place.size=es.size:=by have:=hO.fits;unfold SetTable.fits at this;simp at this;exact this.1
 obtain⟨p,r⟩:=T5 t.place aE;refine⟨[I,a],λ i h=>(∃Z:Nat,h.get? I=some (kr (.int (Z:Int) 0) (i:Nat) a es.size ep)/\SetTable.below t.place Z=i)/\eX h a es ep t,λ A v=>?_,⟨⟨0,hI,p⟩,hO⟩,λ b O=>?_⟩
 .refine⟨λ b O=>(by simp at O;simp[O]),λ i h h' st k=>?_,λ i s Q E hi st q=>?_,λ s Q E st q=>?_,λ i s Q E st q=>?_⟩
  .obtain⟨⟨Z,Y,d⟩,J⟩:=st;exact⟨⟨Z,k I bP _ Y,d⟩,J.keep (k a bP)⟩
  .obtain⟨⟨Z,Y,d⟩,J⟩:=st;rw[qx,zd]at hi;have x:i=0:=aE;subst x;have f:0<t.place.size:=aE;refine Ig Y J (λ l n m j=>H3 J bt le ld (by rw[d,yi hi,yi f];exact j)) λ h' u g=>q _ h' s.toks ?_ ⟨⟨_,u,r _ (yi f)⟩,J.keep λ o e=>(g.2 a n1).trans e⟩ λ b o O e=>(g.2 b λ z=>O (by simp[z])).trans e;rw[zl,je,yi hi];rfl
  .rw[qx,zd]at st;obtain⟨⟨Z,Y,d⟩,J⟩:=st;exact Kn v Y J (λ l n m j=>H3 J bt le ld (by grind)) λ h' c=>q h' s.toks λ b o O e=>c b o (λ z=>O (by simp[z])) e
  .grind[BL]
 .have:b=I\/b=a:=by simpa using O
  rcases this with rfl|rfl
  .exact⟨qm hI,xI⟩
  .obtain⟨⟨o,h1,_⟩,_⟩:=hO;exact⟨qm h1,xa⟩
end
section
theorem Bq{es:k7}(J:ElemsOf (PySem.strKind P w) es.toList)(Y:(es.toList.map λ e=>PyProof.Rows.strOf e.2).Perm ss)(pv:vs.Perm (es.toList.map (·.2))):∃ts,PyProof.Rows.StrsAre vs ts/\ts.Perm ss:=by
 refine⟨vs.map PyProof.Rows.strOf,PyProof.Rows.strsAre_map vs λ v Z=>?_,?_⟩
 .obtain⟨e,O,rfl⟩:=lC.mp (pv.mem_iff.mp Z);refine dt (xi J e O) λ x t q _=>?_;exact⟨x,t,q⟩
 .refine(pv.map _).trans ?_;rw[zu];exact Y
theorem Ve(hS:bI P w (dF w) s.heap a ss)(k:∀(I:Addr)(vs:bO)(ts:aM)(h':Heap)(dr:Drawn),(∀b o,s.heap.get? b=some o->h'.get? b=some o)->s.heap.get? I=none->I<h'.n->yV P w (λ b=>b=a\/s.heap.get? b=none) I vs h'->PyProof.Rows.StrsAre vs ts->ts.Perm ss->Q (.ref I) {s with heap:=h',drawn:=dr}):wpAny (model P w) A (pyIter (.ref a)) Q E s:=by
 obtain⟨o,es,r,t,J,Z,hd,O,l,σ,y,d,x,v⟩:=hS;have ty:s.TypeIs (.ref a) "set":=⟨o,J,Z.1⟩;have j:eX s.heap a es r t:=⟨⟨o,J,Z,hd⟩,d⟩;have fresh:∀n,s.heap.n<=n->s.heap.get? n=none:=λ n B=>by
  cases z:s.heap.get? n with
  |none=>rfl
  |some o=>exact absurd (qm z) (Nat.not_lt.mpr B)
 have m:=qm J;refine wpAny_pyIter_slot ty PySem.F.slot_set_iter (jt PySem.F.slot_set_iter ty O9 ?_ (PySem.F.args_set_iter_1 _));refine qb (qc ?_);refine qb (qb (jr J hd d (qc ?_)));refine qb ?_;refine qb (zo J hd d ?_);refine qb (qb (yq (qc (qc ?_))));split
 .rename_i c;have c:=c;refine qb (Fj _ _ _ _ bP λ q dr u=>?_);have D:q.length=es.size:=by rw[u.length_eq,Jd]
  have G:(q.map λ i:Nat=>rawInt i).length<=sizeLine:=by rw[qx,D];exact Qb y
  refine qb (wpAny_newTuple ?_ G);have Y:∀b o,s.heap.get? b=some o→(s.heap.push {cls:=.type "tuple",data:=.seq (q.map λ i:Nat=>rawInt i).toArray}).get? b=some o:=λ b o e=>qd _ e;obtain⟨h,H,M,K⟩:∃h,(s.heap.push {cls:=.type "tuple",data:=.seq (q.map λ i:Nat=>rawInt i).toArray}).get? a=some h∧h.ExactSet∧h.data=.set es r t:=⟨o,Y _ _ J,Z,hd⟩;refine qb (wpAny_setEpoch_of H K d ?_);refine qb (yh (qc ⟨_,rfl,"set_iterator",_,⟨_,qk _ rfl,rfl⟩,cQ.lookup,?_⟩));have sz:(s.heap.push {cls:=.type "tuple",data:=.seq (q.map λ i:Nat=>rawInt i).toArray}).objs.size=s.heap.n+1:=by rw[Zy]
  refine bE (Bq (vs:=q.map λ p=>(es.getD p default).2) O l (by grind[Uo])) λ ts f g=>?_;refine k _ _ ts _ dr (λ b o e=>qd _ (Y b o e)) (fresh _ (by grind)) (qm (qk _ rfl)) (TF (qk _ rfl) (j.keep λ o e=>qd _ (Y _ o e)) ⟨_,qd _ (qk _ rfl),rfl,0,rfl⟩ u ?_ ?_ (.inr (fresh _ (by grind))) (.inl rfl) (.inr (fresh _ (qj _)))) f g
  .grind
  .grind
 .rename_i c;have c:¬(!dF w&&(!t.plain&&decide (es.size>1)))=true:=c;refine qb (qc ?_);refine qb (wpAny_setEpoch_of J hd d ?_);refine qb (yh (qc ⟨_,rfl,"set_iterator",_,⟨_,qk _ rfl,rfl⟩,cQ.lookup,?_⟩));cases bt:dF w with
  |true=>
   obtain⟨ts,f,g⟩:=Bq O l ((Oy _ es).map _);exact k _ _ ts _ s.drawn (λ b o e=>qd _ e) (fresh _ (qj _)) (qm (qk _ rfl)) (Um bt (qk _ rfl) (j.keep λ o e=>qd _ e) (qr m) (.inr (fresh _ (qj _))) (.inl rfl)) f g
  |false=>
   have C:es.size<=1:=by
    rw[bt]at c;cases q:t.plain with
    |true=>have:=x q;lia
    |false=>rw[q]at c;simp at c;exact c
   refine bE (Bq O l (Qi _)) λ ts f g=>?_;exact k _ _ ts _ s.drawn (λ b o e=>qd _ e) (fresh _ (qj _)) (qm (qk _ rfl)) (TC bt C (v bt) (qk _ rfl) (j.keep λ o e=>qd _ e) (qr m) (.inr (fresh _ (qj _))) (.inl rfl)) f g
end
section
theorem Sd(ty:s.TypeIs (.ref a) "set")(q:Q false s):wpAny (model P w) A (Builtin.List.listLengthHint (.ref a)) Q E s:=by
 have b:splitId "set.__len__"=some ("set","__len__"):=d8;have J:=sub_set_self;refine qb (wpAny_specialOf ty PySem.F.slot_set_len.lookup ?_);dsimp only;rw[b];refine qb (Ya ty J ?_);refine yb (λ z=>absurd z aQ) λ _=>yb (λ _=>?_) λ z=>absurd d8 z;exact qb (Zn ty (qc q))
theorem T1(hh:A.handled=none)(hS:bI P w (dF w) s.heap a ss)(S:Addr)(nS:S≠a)(res:Value)(c0:Nat)(hL:s.heap.get? S=some {cls:=.type "list",data:=.seq #[] c0})(hR:∀h' tk dr(acc:g9)c'(ts:aM),(∀b o,b≠S→s.heap.get? b=some o→h'.get? b=some o)→h'.get? S=some {cls:=.type "list",dict:=none,data:=.seq acc c',slots:=#[]}→PyProof.Rows.StrsAre acc.toList ts→ts.Perm ss→R (.ok (.ret res)) {s with heap:=h',toks:=tk,drawn:=dr}):wpAny (model P w) A.in1 (Builtin.List.listExtendWith (.ref S) (.ref a) res)
   (λ fin s'=>match fin with| .done f=>R (.ok f) s'| .again c'=>c'.quiet=true/\codeAny (model P w) A c' R s') (λ e s'=>R (.error e) s') s:=by
 have ty:s.TypeIs (.ref a) "set":=by
  refine cB hS λ o es y t c Y _=>?_;exact⟨o,c,Y.1⟩
 have v:ss.length<=sizeLine:=by obtain⟨o,es,y,t,c,Y,hd,T,E,Q,J,_⟩:=hS;have:=E.length_eq;rw[qx,zd]at this;rw[<-this];exact Qb J
 refine qb (Zn ty ?_);have h1:Builtin.List.listSameRef (.ref S) (.ref a)=false:=by simp[Builtin.List.listSameRef,nS]
 have h2:(Value.type "set"==Value.type "list")=false:=aQ;have C:(Value.type "set"==Value.type "tuple")=false:=aQ;simp only[h1,h2,C,Bool.or_false,Bool.false_eq_true,if_false];refine qb (Ve hS λ I vs ts h' dr d fI N rd u r=>?_);refine cM rd λ fp St W st σ=>?_;have M:vs.length=ss.length:=by
  have:=u.strs;have q:vs.length=ts.length:=by grind
  rw[q,r.length_eq]
 have Z:S∉fp:=λ m=>by
  rcases(σ S m).2 with z|z
  .exact nS z
  .grind
 have O:∀(h:Heap)(g tk:Nat),St 0 h→(∀b o,b≠S→s.heap.get? b=some o→h.get? b=some o)→h.get? S=some {cls:=.type "list",data:=.seq #[] g}→codeAny (model P w) A (.builtin "list.extend.loop" ⟨[.ref S,.ref I,res],[]⟩) R {s with heap:=h,toks:=tk,drawn:=dr}:=λ h g tk x k0 H=>by
  refine codeAny_extend_loopS (W A.in1 hh).toS (by rw[M];exact v) S Z res vs.length 0 _ #[] g rfl (ym _) x H (ItemsOf.nil _) λ s' acc c' l G n=>?_;have B:acc.toList=vs:=by
   apply Z4;intro j;rw[je];by_cases i:j<acc.size
   .rw[n.2 j _ (yi i),yi i]
   .rw[Array.getElem?_eq_none (Nat.not_lt.mp i),Qa (by have:=n.1;lia)]
  rw[Moved.eq_with l];refine hR s'.heap s'.toks dr acc c' ts (λ b o J e=>l.heap b o (λ m=>?_) (k0 b o J e)) G (by rw[B];exact u) r;rcases qt m with z|m
  .exact J z
  .grind
 have k:=d _ _ hL;refine qb (zr (Sd ?_ ?_))
 .obtain⟨o,c,D⟩:=ty;exact⟨o,d _ _ c,D⟩
 refine yb (λ _=>?_) (λ _=>qc ⟨jp PySem.F.plain_extend_loop _,O _ c0 _ st (λ b o _ e=>d _ _ e) k⟩);refine qb (Yc (qb ?_));refine qb (Yl k rfl ?_);have p:=zq (Obj.mapSeq λ z=>z.push Value.none) k rfl;refine Yl p rfl ?_;have K:=zq (Obj.mapSeq λ z=>z.pop) p rfl;refine qc ⟨jp PySem.F.plain_extend_loop _,O _ _ _ ?_ (λ b o J e=>?_) K⟩
 .refine(W A.in1 hh).frame 0 _ _ st λ b J o e=>?_;have nb:S≠b:=λ z=>Z (by rw[z];exact J);exact(ye _ _ nb).trans ((ye _ _ nb).trans e)
 .exact(ye _ _ (zy J)).trans ((ye _ _ (zy J)).trans (d _ _ e))
end
open PyProof.Rows
section
theorem QW(hh:A.handled=none)(hS:bI P w (dF w) s.heap a ss)(k:∀(h':Heap)(tk:Nat)(J:Drawn)(vs:bO)(ts:aM),(∀b o,s.heap.get? b=some o->h'.get? b=some o)->StrsAre vs ts->ts.Perm ss->Q vs {s with heap:=h',toks:=tk,drawn:=J}):wpAny (model P w) A (collect (.ref a)) Q E s:=by
 have h:a<s.heap.n:=by
  refine iL hS λ o es p t i _=>?_;exact qm i
 refine qb (wpAny_runValue (yx PySem.F.entry_proto_collect ?_));rw[yt PySem.F.plain_proto_collect _];refine qb (yh (qc ⟨jp PySem.F.plain_list_iadd _,yx PySem.F.entry_list_iadd ?_⟩));rw[yt PySem.F.plain_list_iadd _];have j:(s.heap.push {cls:=.type "list",data:=.seq ([]:bO).toArray}).get? s.heap.n=some {cls:=.type "list",data:=.seq #[]}:=qk _ rfl;have g:=T1 (s:={s with heap:=s.heap.push {cls:=.type "list",data:=.seq ([]:bO).toArray}})
  (R:=λ q(s':Shared)=>∃(h':Heap)(tk:Nat)(J:Drawn)(c:g9)(c':Nat)(ts:aM),q=.ok (.ret (.ref s.heap.n))/\s'={s with heap:=h',toks:=tk,drawn:=J}/\(∀b o,s.heap.get? b=some o→h'.get? b=some o)∧h'.get? s.heap.n=some {cls:=.type "list",dict:=none,data:=.seq c c',slots:=#[]}∧StrsAre c.toList ts∧ts.Perm ss)
  hh (hS.keep λ b o e=>qd _ e) s.heap.n (jz h) (.ref s.heap.n) 0 j
  (λ h' tk J c c' ts O Y d Z=>⟨h',tk,J,c,c',ts,rfl,rfl,λ b o e=>O b o (qr (qm e)) (qd _ e),Y,d,Z⟩)
 refine zv g (λ fin s' x=>?_) λ e s' x=>?_
 .cases fin with
  |done f=>
   obtain⟨h',tk,J,c,c',ts,e,rfl,O,Y,d,Z⟩:=x;cases e;exact qb (wpAny_load Y (qc (k h' tk J c.toList ts O d Z)))
  |again m=>
   refine⟨x.1,jy x.2 λ q l y=>?_⟩;obtain⟨h',tk,J,c,c',ts,rfl,rfl,O,Y,d,Z⟩:=y;exact qb (wpAny_load Y (qc (k h' tk J c.toList ts O d Z)))
 .grind
theorem Oc(h:l.Perm m):et l=et m:=by refine List.Perm.eq_of_pairwise (λ a b _ _ p q=>?_) (rh l) (rh m) ((iU l).trans (h.trans (iU m).symm));unfold iZ at p q;rw[decide_eq_false_iff_not]at p q;have:=List.le_antisymm (List.not_lt.mp p) (List.not_lt.mp q);obtain⟨⟨J⟩⟩:=a;obtain⟨⟨O⟩⟩:=b;subst this;rfl
theorem Tx(hh:A.handled=none)(hS:bI P w (dF w) s.heap a ss)(Y:ss.length<64)(k:∀(h1 h2:Heap)(tk:Nat)(Z:Drawn)(out:g9)(e:Nat),(∀b o',s.heap.get? b=some o'→h1.get? b=some o')→(∀b o',h1.get? b=some o'→h2.get? b=some o')→h2.get? h1.n=some (seqObj "list" out e)→StrsAre out.toList (et ss)→Q (.ref h1.n) {s with heap:=h2,toks:=tk,drawn:=Z}):wpAny (model P w) A (call (.builtin "sorted") [.ref a]) Q E s:=by
 refine Calls.call_function_entry kind_sorted plain_sorted entry_sorted (args_sorted1 _) ?_;refine qb (qc (qb (QW hh hS λ h1 tk Z us t l O d=>?_)));have g:us.length=ss.length:=by have q:=O.strs;rw[<-d.length_eq,<-q,qx]
 refine qb (wpAny_newList ?_ (by rw[g,jx];lia));have J:(h1.push (seqObj "list" us.toArray 0)).get? h1.n=some (seqObj "list" us.toArray 0):=qk _ rfl;refine qb (zr (jt slot_list_sort ⟨_,J,rfl⟩ entry_list_sort (list_sort_treeK strKind_oneLt J O.keysOf (λ v1 v2 r e=>keyKind_strs (by rw[<-e];exact O)) (by rw[g];exact Y) λ st i j=>⟨_,rfl,?_⟩) (args_list_sort _)));refine a_ (sorted_out_str O i j) λ p f m o=>?_;obtain⟨e,h⟩:=sortedHeap_at J;rw[Hy m o,Oc d]at f;refine qc ⟨_,rfl,k h1 _ tk Z _ e l (λ b o' c=>?_) h f⟩;have lt:=qm c;rw[sortedHeap_old (Ql lt) (by rw[size_push'];exact Nat.lt_succ_of_lt lt)];exact qd _ c
end
open L2
def nE(P:Program)(w:World)(a:Addr)(ss:aM):HO:=.ext λ h=>bI P w (dF w) h a ss
theorem KA(q:bI P w (dF w) h a ss):bC P w H h a (nE P w a ss):=by
 refine⟨q,?_,λ h1 h2 O k=>?_⟩
 .refine iL q λ o es b t J _=>?_;exact⟨o,J⟩
 .refine iL O λ o es b t J r=>?_;exact⟨o,es,b,t,k _ J,r⟩
theorem aJ.drawn(q:Drawn)(I:aJ X aA L H s):aJ X aA L H {s with drawn:=q}:=
 ⟨I.ok,I.os,I.bare,I.base,I.loc,I.cell,I.free,I.freeC,I.pin,I.hok,I.len⟩
theorem bY.side(s:aB H0 H)(J:H p=none):bY H0 H H0 (upd H p o):=by refine⟨aB.refl _,λ b u e=>by rw[bS (fF e J)];exact e,λ b u e=>?_,λ b u e=>.inl e⟩;have q:=s _ _ e;grind[bS]
section
theorem Vv(I:aJ X aA L H s)(J:dz X.K H p xs\/d7 X.K H p xs):∃(T:Bool)(q:bO),aS xs q/\gW T s.heap p q.toArray:=by
 rcases J with J|J
 .refine a_ (I.list J) λ q O Y _=>?_;exact⟨false,q,O,Y.isList⟩
 .refine a_ (I.tuple J) λ q O a _=>?_;exact⟨true,q,O,a⟩
theorem HH(J:X.c=true):bL X (.type "set") (λ xs H Q=>∃p ss,xs=[.ref p]∧(dz X.K H p (ss.map V.str)∨d7 X.K H p (ss.map V.str))∧ss.length<1000∧∀l,H l=none→Q (.ref l) (upd H l (nE X.p X.w l (d5 [] ss)))):=by
 intro aA s L H xs us Q I r h;obtain⟨p,ss,rfl,O,e,q⟩:=h;obtain⟨u,rfl,Z⟩:=ic r;subst Z;refine dt (Vv I O) λ T d c Y=>?_;refine Rm (I.ok.hd J) Y (GP c) (by unfold scanBound;lia) λ h' f b a=>?_;exact⟨.ref s.heap.n,_,I.laid b (qj _) (KA a),rfl,q _ (I.hok.fresh (qj _))⟩
theorem Pz(hc:X.c=true):bL X (.builtin "sorted") (λ xs H Q=>∃p ss,xs=[.ref p]∧H p=some (nE X.p X.w p ss)∧ss.length<64∧∀l,H l=none→Q (.ref l) (upd H l (.l ((et ss).map V.str)))):=by
 intro aA s L H xs us Q I r h;obtain⟨p,ss,rfl,c,O,q⟩:=h;obtain⟨u,rfl,f⟩:=ic r;subst f;have b:=(I.hok p _ c).1;refine Tx (I.ok.hd hc) b O λ h1 h2 i Z a e k1 k2 J g=>?_;have Y:=aJ.drawn Z (I.kept (t':=i) k1);have d:((et ss).map V.str).length<=sizeLine:=by rw[qx,(iU ss).length_eq,jx];lia
 refine⟨.ref h1.n,_,Y.laid (o:=.l ((et ss).map V.str)) k2 (qj _) ⟨d,a.toList,e,FJ g,?_⟩,rfl,q _ (Y.hok.fresh (qj _))⟩;rw[J]
end
open Sem (wp)
section
variable{prog:Program}{w:World}{A:Around}{E:c8}{s:Shared}
structure Nx(prog:Program)(w:World)(i:Addr)(fp:fV)(get:Nat->Option Value)(P:Nat->Heap->Prop):Prop where
 mem:i∈fp
 keep:∀k h h',P k h->(∀b∈fp,∀o,h.get? b=some o->h'.get? b=some o)->P k h'
 there:∀k h,P k h->∃o vs,h.get? i=some o/\o.data=.fields vs
 draw:∀(A:Around)(E:c8)(s:Shared)(Q:c8)(k:Nat)(x:Value),P k s.heap->get k=some x->(∀h',P (k+1) h'->Heap.SameBut i s.heap h'->Q x {s with heap:=h'})->bV prog w A (Builtin.SmallTypes.nextOf (.ref i)) Q E s
 over:∀(A:Around)(E:c8)(s:Shared)(Q:c8)(k:Nat),A.handled=none->P k s.heap->get k=none->(∀h' e,Heap.ExtBut i s.heap h'→(∃o,h'.get? e=some o∧o.cls=.type "StopIteration")→E (.ref e) {s with heap:=h'})→bV prog w A (Builtin.SmallTypes.nextOf (.ref i)) Q E s
end
end
section
open PySem.Spec PyProof.Rows L2
theorem ZW{d:D}{k:Str}(h:kS d=some k):d=.str k:=by
 cases d with
 |str z=>obtain rfl:=aW h;rfl
 |_=>cases h
section
variable{X:Cx}{pos:Pos}{e k:Expr}{F G:FE}{A:FA}
theorem Ew(i:Nat){x:Str}{p:Pos}(hu:X.A.units+1<cLine)(hk:XE X k G)(hN:X.N[i]?=some x:=by rfl)(hv:gk X.v.scope x:=by exact i7)(hd:df x:=by decide)(O:fA x:=by decide)(hs:vi k:=by exact λ _ _=>rfl):XE X (.Subscript (.Name x p) k pos) (sL i G):=
 PE.wk (zM hu (fT hN hv hd O) hk hs) λ L H Q J=>by
  refine bN J λ c H0 U d e R f q=>?_;unfold sL Ay at f;obtain⟨⟨l,Z⟩,h1,f⟩:=aP f;unfold Ax at f;obtain⟨⟨y,Y⟩,h2,f⟩:=aP f;unfold Av at f;obtain⟨kk,o,f⟩:=aP f;unfold Au at f;obtain⟨⟨b,aO⟩,r,f⟩:=aP f;unfold g_ at f;obtain⟨m,s,f⟩:=aP f;have n:some (m,Y)=some (d,e):=f;cases n;have u:y=.str kk:=ZW o;subst u;obtain⟨a,e1,_⟩:=R.ow i l _ (pP h1);refine⟨_,e1,c,H0,U,_,_,R,h2,λ v H1 j w g h=>?_⟩;unfold aU at h;subst h;obtain⟨C,e2,_,_,D,E,e4,rfl,t⟩:=g.ow i b _ (pP r);rw[e1]at e2;cases e2;obtain⟨v,z,B⟩:=pV t s;refine⟨a,v,rfl,?_,q v H1 j w g B⟩;rw[<-z];exact eS.k (k:=.inr kk) e4
end
theorem eQ:∀{us:bO}{ns:ed},IntsAre us ns->aS (ns.map V.int) us
 |_,_,.nil=>.nil
 |_,_,.cons n t h=>.cons ⟨t,rfl⟩ (eQ h)
section
variable{X:Cx}
theorem IE{K:Frag}{ks:aM}(s:aB H0 H)(Z:H0 a=some (.frz o (.dK ((ks.map Sum.inr).zip vs))))(t:aD K H0 ds vs)(l:ks.length=ds.length):∃u,eS H a (.str k) u/\(cf k (ks.zip ds)=none->u=none)/\∀d,cf k (ks.zip ds)=some d->∃v,u=some v/\aU K H0 d v:=by
 have J:(ks.zip ds).map (·.1)=ks:=yz aE;have Y:(ks.zip ds).map (·.2)=ds:=Zb aE;have b:=t.length;refine⟨gV (dQ ks vs) (.inr k),.inl ⟨_,.inr k,.inr ⟨o,s _ _ Z⟩,rfl,rfl⟩,λ h=>?_,λ d h=>?_⟩
 .grind[C4]
 .obtain⟨v,q,O⟩:=pV (by rw[Y];exact t) h;rw[J]at q;exact⟨v,q,O⟩
theorem i3(h:zP d=some k):d=.str k:=by
 cases d with
 |str z=>obtain rfl:=aW h;rfl
 |_=>cases h
theorem Wl(Z:X.A.units+1<cLine):d3 X (compareOp .NotIn) (λ y x H Q=>∃a o,x=.ref a/\eS H a y o/\Q (.b (!o.isSome)) H):=by
 intro aA s L H x y v u Q I J O h;obtain⟨a,o,rfl,g,q⟩:=h;subst O;exact WW Z I g J λ s' Y=>⟨.b (!o.isSome),H,Y,rfl,q⟩
theorem YL{K:Frag}(s:aB H0 H)(r1:aU K H0 (.str k) q)(J:aU K H0 (.c ks ds) O):∃a o,O=.ref a/\eS H a q o/\o.isSome=(cf k (ks.zip ds)).isSome:=by
 subst r1;obtain⟨a,ob,f,rfl,b,t,l⟩:=J;obtain⟨u,Y,Z,c⟩:=IE s b t l;refine⟨a,u,rfl,Y,?_⟩;cases z:cf k (ks.zip ds)with
 |none=>rw[Z z];rfl
 |some d=>obtain⟨v,e,_⟩:=c d z;rw[e];rfl
theorem DR(J:X.A.units+1<cLine):iI X .NotIn uW:=⟨_,Wl J,λ c H0 H U L x y d i j Q R b f e q=>by
 obtain⟨⟨h,g⟩,Z,e⟩:=aP e;obtain⟨k,O,e⟩:=aP e;cases fH Z;cases i3 O;obtain rfl:=aW e;obtain⟨a,o,rfl,Y,z⟩:=YL R.same b f;exact⟨a,o,rfl,Y,by rw[z];exact q _ H0 H (aB.refl _) R (by rfl)⟩⟩
end
end
section
noncomputable def kQ:k6->Option (Bool×List D)
 |some (.o b (.l xs))=>some (b,xs)
 |_=>none
def Di(U:En)(o:Option (Bool×List D)):bB:=aH o λ q=>some (.int q.2.length,U)
def Cw(i:Nat)(U:En):bB:=Di U (kQ U[i]?)
noncomputable def AI:D->Option Int
 |.int k=>some k
 |_=>none
def s_(xs:aK)(k:Int):fN:=if 0<=k then xs[k.toNat]? else none
def Cy(U:En)(k:Int)(o:Option (Bool×List D)):bB:=aH o λ q=>aH (s_ q.2 k) λ d=>some (d,U)
def Cz(i:Nat)(o:bB):bB:=aH o λ p=>aH (AI p.1) λ k=>Cy p.2 k (kQ p.2[i]?)
def Ek(i:Nat)(F:FE)(U:En):bB:=aH (kQ U[i]?) λ _=>Cz i (F U)
def Cp(i:Nat)(U:En)(d:D)(k:Int)(o:Option (Bool×List D)):cC:=aH o λ q=>if 0<=k/\k.toNat<q.2.length then some (.nx (U.set i (.o q.1 (.l (q.2.set k.toNat d)))))else none
def Cq(i:Nat)(d:D)(o:bB):cC:=aH o λ p=>aH (AI p.1) λ k=>Cp i p.2 d k (kQ p.2[i]?)
def Cr(i:Nat)(I:FE)(o:bB):cC:=aH o λ p=>aH (kQ p.2[i]?) λ _=>Cq i p.1 (I p.2)
def Ei(i:Nat)(I F:FE)(U:En):cC:=Cr i I (F U)
noncomputable def vC(n k:Nat)(F:En->Option (aK×MO))(o:MO)(ds:aK):Option (aK×MO):=if ds.length=n then F (.o true o::(ds.map .i++List.replicate k .z))else none
def CA(j:Nat)(U:En):Option (aK×MO):=aH (lF U[j]?) λ xs=>aH (hH U[0]?) λ q=>if q.1=true then some (xs,q.2)else none
def DS(F:En->Option (aK×MO)):jC->Option (aK×MO)
 |.nx ρ'=>F ρ'
 |_=>none
def pN(A:FS)(F:En->Option (aK×MO))(U:En):Option (aK×MO):=aH (A U) (DS F)
def Ef(j i:Nat)(U:En)(b:Bool)(o:Option (aK×MO)):cC:=aH o λ z=>some (.nx ((U.set i (.o b z.2)).set j (.o false (.l z.1))))
def Eg(j i:Nat)(g:MO->List D->Option (aK×MO))(ds:aK)(U:En)(o:Option (Bool×MO)):cC:=aH o λ q=>Ef j i U q.1 (g q.2 ds)
def Eh(j i:Nat)(g:MO->List D->Option (aK×MO))(o:Option (aK×En)):cC:=aH o λ p=>Eg j i g p.1 p.2 (hH p.2[i]?)
def FG(j i:Nat)(g:MO->List D->Option (aK×MO))(A:FA)(U:En):cC:=aH (hH U[i]?) λ _=>Eh j i g (A U)
noncomputable def qu(ds:aK)(k:Int):Option (D×List D):=if 0<=k then match (ds[k.toNat]?:fN),(ds[(0:Nat)]?:fN)with
 |some (.t (w::n::r)),some (.t (_::m::_))=>some (.t (w::n::r),ds.set k.toNat (.t [.str "later",n,.t [m],.t [.int 1]]))
 |_,_=>none
 else none
def Af:k6->Bool
 |some .z=>true
 |_=>false
def uM(i ir:Nat)(U:En)(ds:aK)(E:FS):D⊕XV->Option jC
 |.inl _=>E U
 |.inr (x,some (f,.int k))=>if x=kc∧f=fy then aH (qu ds k) λ q=>some (.nx ((U.set ir (.i q.1)).set i (.o false (.l q.2))))else none
 |_=>none
def C6(i ir ik:Nat)(g:aK->Option (D⊕XV))(E:FS)(U:En)(o:Option (aK)):cC:=aH o λ ds=>if zN i U=true/\Af U[ik]?=true/\ir<U.length then aH (g [.l ds]) (uM i ir U ds E)else none
def JV(i ir ik:Nat)(g:aK->Option (D⊕XV))(E:FS)(U:En):cC:=C6 i ir ik g E U (DI U[i]?)
def C9(g:D->En->Option En)(B:FX)(U:En)(o:Option (aK)):Option RX:=aH o λ xs=>lI g B (jL 0 xs) U
def C_(g:D->En->Option En)(B:FX)(o:bB):Option RX:=aH o λ p=>C9 g B p.2 (nW p.1)
def Cu(g:D->En->Option En)(F:FE)(B:FX)(U:En):Option RX:=C_ g B (F U)
@[simp] theorem bP7:(∀b xs,kQ (some (.o b (.l xs)))=some (b,xs))/\(∀i U,Cw i U=Di U (kQ U[i]?))/\(∀U q,Di U (some q)=some (.int q.2.length,U))/\(∀i F U,Ek i F U=aH (kQ U[i]?) λ _=>Cz i (F U))/\(∀i k U,Cz i (some (.int k,U))=Cy U k (kQ U[i]?))/\(∀U k b xs,Cy U k (some (b,xs))=aH (s_ xs k) λ d=>some (d,U))/\(∀i I F U,Ei i I F U=Cr i I (F U))/\(∀i I d U,Cr i I (some (d,U))=aH (kQ U[i]?) λ _=>Cq i d (I U))/\(∀i d k U,Cq i d (some (.int k,U))=Cp i U d k (kQ U[i]?))/\(∀i U d k b xs,Cp i U d k (some (b,xs))=if 0<=k/\k.toNat<xs.length then some (.nx (U.set i (.o b (.l (xs.set k.toNat d)))))else none)/\(∀A F U,pN A F U=aH (A U) (DS F))/\(∀F U,DS F (.nx U)=F U)/\(∀j i g A U,FG j i g A U=aH (hH U[i]?) λ _=>Eh j i g (A U))/\(∀j i g ds U,Eh j i g (some (ds,U))=Eg j i g ds U (hH U[i]?))/\(∀j i g ds U b o,Eg j i g ds U (some (b,o))=Ef j i U b (g o ds))/\(∀j i U b xs o,Ef j i U b (some (xs,o))=some (.nx ((U.set i (.o b o)).set j (.o false (.l xs)))))/\(∀g F B U,Cu g F B U=C_ g B (F U))/\(∀g B x U,C_ g B (some (x,U))=C9 g B U (nW x))/\(∀g B U xs,C9 g B U (some xs)=lI g B (jL 0 xs) U):=fz
open PySem.W PySem.Spec PyProof.Rows L2
theorem Si{K:Frag}(R:RS K c H1 Hh U L)(hf:lI g B xs U=some r)(hy:yY K J H1 xs)(q:iO K mg E c Dn H1 r):∃W:Nat->Nat->L2.St->Hp->Prop,(∃m,W 0 m L Hh)/\∀i m L H,W i m L H->(J.stop i H/\Dn.nx L H)\/(J.go i H/\∃N:L2.St->Hp->Prop,(∀O H',N O H'->∃m',m'<m/\W (i+1) m' O H')/\∀x H',J.yld i H x H'->tG K g x L H' λ ae H2=>tX K mg E B {Dn with nx:=N,ct:=N,bk:=Dn.nx} ae H2):=by
 refine⟨λ i m L H=>m=xs.length-i/\i<=xs.length/\∃H0 U,aB H1 H0/\RS K c H0 H U L/\lI g B (xs.drop i) U=some r,⟨xs.length,by grind[aB.refl,aB]⟩,?_⟩;rintro i m L H ⟨rfl,hi,H0,U,s0,k,Y⟩;obtain⟨A,D⟩:=hy H0 H i s0 k.same;by_cases l:i<xs.length
 .have hd:xs[i]?=some xs[i]:=by simp[l]
  obtain⟨go,F⟩:=A _ hd;refine .inr ⟨go,λ O H'=>∃m',m'<xs.length-i/\m'=xs.length-(i+1)/\i+1<=xs.length/\∃H0 U,aB H1 H0/\RS K c H0 H' U O/\lI g B (xs.drop (i+1)) U=some r,λ O H'⟨m',a,b⟩=>⟨m',a,b⟩,λ x H' hx=>?_⟩;refine bE (F x H' hx) λ aV S u=>?_;rw[xu hd,J0]at Y;refine bE (aP Y) λ o p Y=>?_;refine bE (aP Y) λ z s Y=>?_;have s0:=s0.trans S.s0;refine⟨c,aV,U,_,o,k.after S,u,p,λ G H2 cV j R2=>⟨c,H2,o,z,R2,s,?_⟩⟩
  match z,Y with
  |.ok (.nx e),Y=>exact λ O f fe h Z=>⟨_,by lia,rfl,l,f,e,s0.trans (j.trans h),Z,Y⟩
  |.ok (.ct e),Y=>exact λ O f fe h Z=>⟨_,by lia,rfl,l,f,e,s0.trans (j.trans h),Z,Y⟩
  |.ok (.bk e),Y=>obtain rfl:=aW Y;exact λ O f fe h Z=>q O f fe (s0.trans (j.trans h)) Z
  |.ok (.rt d e),Y=>obtain rfl:=aW Y;exact λ v O f fe h Z r3=>q v O f fe (s0.trans (j.trans h)) Z r3
  |.ex y,Y=>obtain rfl:=aW Y;exact λ C dd n O f fe m h Z w=>q C dd n O f fe m (s0.trans (j.trans h)) Z w
 .have t:xs.drop i=[]:=Q5 aE;rw[t,SU]at Y;obtain rfl:=aW Y;exact .inl ⟨D aE,q L H0 H s0 k⟩
section
theorem Rz(hR:C3 X E)(Z:X.mg x=some (.ref C))(hx:vb X.K C fI=true)(h1:mJ X.K C f)(Fk:cR X.p X.w X.K X.mg X.base (iJ X.p X.w) k fI fd ["self",f] (A1 X.K f))(hr:bJ (k+1) X.A)(hb:dE X.K fd ["self",f] [])(ha:XE X a F)(hc:X.c=true:=by rfl)(Y:X.ex=[]:=by rfl)(hg:Gl X x:=by rfl)(hd:df x:=by decide)(hs:mX X a:=by rfl):rO X E (.Raise (some (.Call (.Name x np) [a] [] cpos)) none pos) (BO x f F):=
 PS.wk (UT hR hc Y Z hx h1 Fk hr hb ha hg hd hs) λ Dn L H O=>by
  refine cB O λ c H0 U r R e q=>?_;obtain⟨⟨d,J⟩,h2,e⟩:=aP e;obtain rfl:=aW e;refine⟨c,H0,U,d,J,R,h2,λ v H1 i h b g dx hx=>?_⟩;have S:=bY.alloc (o:=.xd [(f,v)]) b.same hx;exact q C (some dx) J L _ _ Z (h.trans S.s0) (b.after S) ⟨v,aU.mono S.s0 _ g,cF⟩
theorem W5(hp:PassesOwn (model X.p X.w) X.A X.v X.xe)(hm:X.mg "enumerate"=none)(hg:XG X (.Tuple J x1 pt) g)(ha:XE X a F)(hb:XX X E O B)(Z:Gl X "enumerate":=by rfl)(hc:X.c=true:=by rfl)(aa:mX X a:=by rfl)(hs:∀x,foldedSetIterable (.Call (.Name "enumerate" p) [a] [] pos') X.v x=pure x:=by intro _;rfl):rO X E (.For (.Tuple J x1 pt) (.Call (.Name "enumerate" p) [a] [] pos') O [] pos) (Cu g F B):=PS.wk (u_ hp hc (KJ Z hm ha aa) hg hb hs) λ Dn L H Y=>by
 refine cB Y λ c H0 U r R f q=>?_;obtain⟨⟨d,Z⟩,h1,f⟩:=aP f;obtain⟨xs,h2,f⟩:=aP f;cases d with
 |l ys=>
  obtain rfl:=aW h2;refine⟨c,H0,U,_,Z,R,h1,λ v H1 l j b h=>?_⟩;obtain⟨a,k,rfl,e,i⟩:=h;exact⟨a,k,rfl,aB.seq b.same e,Si b f (Hl e i) (q.mono j)⟩
 |_=>cases h2
end
section
variable{K:Frag}
theorem XC.fld(f:XC K C)(g:mJ K C name)(X:K.In s.heap)(I:InstAt s.heap x ox C (some od))(Y:lookIn name od=some (some v))(O:handedIn v=true)(h:Q v {s with toks:=s.toks+1}):bV prog w A (getAttr (.ref x) name true) Q E s:=by
 refine a_ g.cl λ c J _ hd=>?_;have fo:=findObj_own (by unfold hasDictIn;rw[J];exact hd) g.na rfl Y;obtain⟨i,e,d,t,os⟩:=s;have q:=I.type (M:=model prog w);have Z:=looks_findIn (M:=model prog w) X f.ga;have L2:=looks_findIn (M:=model prog w) X f.gh;have a:=looks_find (M:=model prog w) X I fo;have b:(onTheHeap (.ref C)&&Value.builtin "BaseException.__getattribute__"==Value.builtin "object.__getattribute__")=false:=by rw[show(Value.builtin "BaseException.__getattribute__"==Value.builtin "object.__getattribute__")=false by decide+kernel];rfl
 refine qb (wpAny_mkText ?_);refine zr (qb (q.at (qb (Z.at ?_))));dsimp only;rw[b,if_neg aQ];unfold getAttrByItsOwn hookBefore;refine qb ?_;rw[show onTheHeap (.ref C)=true from rfl,if_pos rfl];refine L2.at (qb (wpAny_attempt (zr ?_)));unfold callGetattribute;rw[show(true&&onTheHeap (Value.builtin "BaseException.__getattribute__"))=false from rfl,if_neg aQ];refine qb (wpAny_of_eq (F.attr_ValueError.ga.bind (.ref x)) ?_);refine Zt (Yx F.attr_ValueError.ga.plain F.entry_bexc_ga (f.ck X I ?_));refine qb (qc (qb (qc (qb (q.at (qb (a.at ?_)))))));refine qc ?_;show wpAny _ _ (handedOut v) _ _ _;rw[handedOut_of O];exact qc h
end
theorem Wz{h:Heap}(n:h.Ns1 dx m)(e:m name=some u):∃o,h.get? dx=some o/\lookIn name o=some (some u):=by obtain⟨o,es,a,J,O,Z,Y,q⟩:=n;refine⟨o,J,?_⟩;unfold lookIn;rw[O];dsimp only;have z:=q name;rw[e]at z;unfold nsFind findBy at z;grind
section
theorem JY(c:XC X.K C)(g:mJ X.K C f)(he:PE (qW X a (fh (.ref C) vs (some dx))) e te)(Z:attributeBase e f X.v (eval e X.v)=eval e X.v):PE (qW X a (fh (.ref C) vs (some dx))) (.Attribute e f pos) (λ L H Q=>te L H λ x H1=>x=.ref a/\∃n,H1 dx=some (.xd [(f,.int n)])/\Q (.int n) H1):=by
 intro aA s L H Q I h;refine W0 Z (bT (he aA s L H _ I h) λ u k=>eJ λ x H1 O j z=>?_);obtain⟨rfl,n,hx,q⟩:=z;obtain rfl:u=.ref a:=j;obtain⟨m,ns,i⟩:=(show bC _ _ H1 k.heap dx (.xd [(f,.int n)])from O.hok dx _ hx);have J:=i f;rw[show([(f,V.int n)]:List (Str×V)).lookup f=some (.int n) by simp[List.lookup]]at J;cases Y:m f with
 |none=>rw[Y]at J;exact J.elim
 |some u=>
  rw[Y]at J;obtain⟨l,rfl⟩:=J;obtain⟨o,b,d⟩:=Wz ns Y;exact c.fld g O.kIn ⟨(O.pin (a,fh (.ref C) vs (some dx)) (qg)).1,rfl,rfl,b⟩ d rfl ⟨.int n,H1,O.tok _,⟨l,rfl⟩,q⟩
end
def MS(K:Frag)(C:Addr):Bool:=(clsIn K C).any λ c=>pT c.mro&&c.hasDict
theorem YT{K:Frag}(h:MS K C=true):∃cd,clsIn K C=some cd/\pT cd.mro=true/\cd.hasDict=true:=by obtain⟨cd,a,b⟩:=any_some h;grind
structure QR(K:Frag)(mg:Str->Option Value)(x y f qual:Str)(st:Stmt)(c0 c2 fI:Addr)(fd:FuncData):Prop where
 m0:mg x=some (.ref c0)
 m2:mg y=some (.ref c2)
 x0:vb K c0 fI=true
 s1:mJ K c0 f
 k0:XC K c0
 e0:exmOne K (.ref c0) (.ref c2)=some true
 t0:kitOne K (.ref c0) (.ref c0)=some true
 n0:kitOne K (.type "NoneType") (.ref c0)=some false
 fn:iz K "__init__" qual st fI fd
 b0:dE K fd ["self",f] []
end
section
open PySem.SetTable
noncomputable def lp(m:Nat)(q:Nat×Nat):Nat×Nat:=leap m q.1 q.2
def iE(m:Nat):Nat->Nat×Nat->Nat×Nat
 |0,q=>q
 |n+1,q=>iE m n (lp m q)
theorem xM(m:Nat):∀(a b:Nat)(q:Nat×Nat),iE m (a+b) q=iE m b (iE m a q):=by intro c;induction c<;>grind[iE]
theorem DX(m:Nat):∀(n:Nat)(q:Nat×Nat),(iE m n q).2=q.2/32^n
 |0,q=>by simp[iE]
 |n+1,q=>by
  rw[iE,DX m n];show q.2/32/32^n=_;rw[Nat.div_div_eq_div_mul,Nat.pow_succ,Nat.mul_comm]
theorem L5(m:Nat):∀(n:Nat)(q:Nat×Nat),q.1<=m->(iE m n q).1<=m
 |0,q,h=>h
 |n+1,q,h=>L5 m n (lp m q) (Nat.le_of_lt_succ (Nat.mod_lt _ (Zp m)))
def kR(m:Nat):Prop:=∀i j,i<=m->j<=m->∃n,n<=m/\(iE m n (i,0)).1=j
def AX(m:Nat):Nat->Nat->List Nat
 |0,_=>[]
 |n+1,i=>i::AX m n ((i*5+1)%(m+1))
theorem KW(m:Nat):∀(n:Nat)(i:Nat),∀j∈AX m n i,∃k,k<n/\(iE m k (i,0)).1=j
 |0,i,j,h=>by cases h
 |n+1,i,j,h=>by
  rw[AX,y9]at h;rcases h with rfl|h
  .exact⟨0,Zp _,rfl⟩
  .obtain⟨k,q,e⟩:=KW m n _ j h;refine⟨k+1,Nat.succ_lt_succ q,?_⟩;have z:lp m (i,0)=((i*5+1)%(m+1),0):=by show leap m i 0=_;unfold leap;simp
   rw[iE,z];exact e
theorem ux(h:(List.range (m+1)).all (λ j=>(AX m (m+1) 0).contains j)=true)(hz:iE m (m+1) (0,0)=(0,0)):kR m:=λ i j hi Y=>by
 rw[Yb]at h;have q:∀x,x<=m->∃k,k<=m/\iE m k (0,0)=(x,0):=λ x hx=>by
  obtain⟨k,f,e⟩:=KW m (m+1) 0 x (List.contains_iff_mem.mp (h x (List.mem_range.mpr aE)));have e2:(iE m k (0,0)).2=0:=by rw[DX];simp
  exact⟨k,by lia,Prod.ext e e2⟩
 obtain⟨a,d,O⟩:=q i hi;obtain⟨b,Z,J⟩:=q j Y;by_cases c:a<=b
 .refine⟨b-a,by lia,?_⟩;rw[<-O,<-xM,show a+(b-a)=b by lia,J]
 .refine⟨m+1-a+b,by lia,?_⟩;rw[<-O,<-xM,show a+(m+1-a+b)=(m+1)+b by lia,xM,hz,J]
theorem Ma:kR 7:=ux d8 d8
theorem YB:kR 15:=ux d8 d8
theorem YA:kR 31:=ux d8 d8
theorem X_:kR 63:=ux d8 d8
theorem WM:kR 127:=ux d8 d8
theorem WY(h:Int):bits h<2^64:=by unfold bits;grind
theorem VP(F:kR m)(hi:i<=m)(J:p<2^64)(q:j<=m):∃n,n<turns m/\(iE m n (i,p)).1=j:=by
 have e2:(iE m 13 (i,p)).2=0:=by rw[DX];exact Nat.div_eq_of_lt (qp J aQ)
 have e1:=L5 m 13 (i,p) hi;obtain⟨n,O,e⟩:=F _ j e1 q;refine⟨13+n,by unfold turns;lia,?_⟩;rw[xM];grind
theorem IA:∀(J i p:Nat),(∃n,n<J/\ow.getD (iE m n (i,p)).1 (some 0)=none)->∃j,layClean.free m ow J i p=some j/\ow.getD j (some 0)=none
 |0,i,p,⟨n,h,_⟩=>absurd h (Nat.not_lt_zero n)
 |J+1,i,p,⟨n,h,e⟩=>by
  unfold layClean.free;cases q:List.find? (λ k=>(ow.getD (i+k) (some 0)).isNone) (List.range (runEnd m i+1-i))with
  |some k=>
   refine⟨i+k,rfl,?_⟩;have:=List.find?_some q;exact Option.isNone_iff_eq_none.mp this
  |none=>
   cases n with
   |zero=>
    have:=List.find?_eq_none.mp q 0 (List.mem_range.mpr (by unfold runEnd;split<;>lia));rw[Nat.add_zero]at this;have O:ow.getD i (some 0)=none:=e;rw[O]at this;exact absurd rfl this
   |succ n=>
    exact IA J _ _ ⟨n,Nat.lt_of_succ_lt_succ h,e⟩
noncomputable def FP(m:Nat)(acc:Option (Array (jJ)×Nat))(h:Int):Option (Array (jJ)×Nat):=
 acc.bind λ q=>(layClean.free m q.1 (turns m) (bits h%(m+1)) (bits h)).bind λ j=>some (q.1.setIfInBounds j (some q.2),q.2+1)
theorem XY(m:Nat)(q:Array Int):layClean m q=(q.foldl (FP m) (some (Array.replicate (m+1) none,0))).map (·.1):=rfl
theorem NC(x:Nat)(r:List (jJ)):List.filterMap id (some x::r)=x::List.filterMap id r:=rfl
theorem NB(r:List (jJ)):List.filterMap id (none::r)=List.filterMap id r:=rfl
def sy(m:Nat)(ow:Array (jJ))(k:Nat):Prop:=ow.size=m+1/\(ow.toList.filterMap id).Perm (List.range k)
theorem SJ:∀l:List (jJ),(∀x∈l,x≠none)->(l.filterMap id).length=l.length:=by intro a;induction a<;>grind
theorem Cg:∀(l:List (jJ))(j k:Nat),l[j]?=some none->((l.set j (some k)).filterMap id).Perm (k::l.filterMap id)
 |[],j,k,h=>by simp at h
 |x::r,0,k,h=>by
  have e:x=none:=by simpa using h
  subst e;simp
 |none::r,j+1,k,h=>by
  rw[List.set_cons_succ,NB,NB];exact Cg r j k (by simpa using h)
 |some x::r,j+1,k,h=>by
  rw[List.set_cons_succ,NC,NC];exact((Cg r j k (by simpa using h)).cons x).trans (List.Perm.swap k x _)
theorem getD_none{ow:Array (jJ)}(h:ow.getD j (some 0)=none):ow.toList[j]?=some none:=by rw[Zq]at h;grind
theorem Vu(F:kR m)(I:sy m ow k)(hk:k<=m)(h:Int):∃q,FP m (some (ow,k)) h=some (q,k+1)/\sy m q (k+1):=by
 obtain⟨Z,Y⟩:=I;have fr:∃j,j<=m/\ow.getD j (some 0)=none:=Classical.byContradiction λ no=>by
  have all:∀x∈ow.toList,x≠none:=λ x hx e=>by
   obtain⟨j,J,O⟩:=List.mem_iff_getElem.mp hx;rw[zd]at J;refine no ⟨j,by lia,?_⟩;rw[Zq,<-je,zt (by rw[zd];exact J),O,e];rfl
  have g:=SJ _ all;rw[Y.length_eq,Jd,zd,Z]at g;lia
 obtain⟨j,J,O⟩:=fr;obtain⟨n,d,b⟩:=VP F (Nat.le_of_lt_succ (Nat.mod_lt _ (Zp m))) (WY h) J;obtain⟨f,a,c⟩:=IA (turns m) _ _ ⟨n,d,by rw[b];exact O⟩;refine⟨ow.setIfInBounds f (some k),?_,by rw[Array.size_setIfInBounds];exact Z,?_⟩
 .show((layClean.free m ow (turns m) (bits h%(m+1)) (bits h)).bind _)=_;rw[a];rfl
 .rw[Array.toList_setIfInBounds];refine(Cg _ _ _ (getD_none c)).trans ((Y.cons k).trans ?_);rw[List.range_succ];exact(List.perm_append_singleton k (List.range k)).symm
theorem I_(F:kR m):∀(l:ed)(ow:Array (jJ))(k:Nat),sy m ow k->k+l.length<=m+1->∃q,l.foldl (FP m) (some (ow,k))=some (q,k+l.length)/\sy m q (k+l.length)
 |[],ow,k,I,_=>⟨ow,rfl,I⟩
 |h::r,ow,k,I,a=>by
  rw[zg]at a;obtain⟨J,e1,O⟩:=Vu F I aE h;obtain⟨Z,e2,Y⟩:=I_ F r J (k+1) O aE;refine⟨Z,?_,?_⟩
  .grind
  .grind
theorem XU(F:kR m)(q:Array Int)(Y:q.size<=m+1):∃ow,layClean m q=some ow/\sy m ow q.size:=by
 have J:sy m (Array.replicate (m+1) none) 0:=⟨Array.size_replicate,by
  rw[Array.toList_replicate];have:∀n,List.filterMap id (List.replicate n (none:jJ))=[]:=λ n=>by induction n with
   |zero=>rfl
   |succ n O=>rw[List.replicate_succ,List.filterMap_cons_none rfl,O]
  rw[this];exact .refl _⟩
 obtain⟨ow,e,I⟩:=I_ F q.toList _ 0 J (by grind);rw[zd,Nat.zero_add]at I e;grind[XY]
theorem KY(ow:Array (jJ)):((List.range ow.size).filterMap λ j=>(ow.getD j none).map (j,·)).map (·.2)=ow.toList.filterMap id:=by
 rw[List.map_filterMap];have:∀(l:List (jJ)),(List.range l.length).filterMap (λ j=>((l[j]?.getD none).map (j,·)).map (·.2))=l.filterMap id:=λ l=>by
  induction l with
  |nil=>rfl
  |cons x r J=>
   rw[zg,List.range_succ_eq_map,List.filterMap_cons,List.filterMap_map];have z:(λ j=>Option.map (λ x=>x.2) (Option.map (λ x=>(j,x)) ((x::r)[j]?.getD none)))∘Nat.succ=λ j=>((((r[j]?.getD none).map ((j+1),·)).map (·.2):jJ)):=by funext j;simp
   rw[z];have q:(λ j=>((((r[j]?.getD none).map ((j+1),·)).map (·.2):jJ)))=λ j=>((r[j]?.getD none).map (j,·)).map (·.2):=by funext j;cases r[j]?.getD none<;>rfl
   rw[q,J];cases x<;>rfl
 have t:=this ow.toList;rw[zd]at t;rw[<-t];congr 1;funext j;rw[Zq,je]
theorem K2(F:kR m)(J:Array Int)(O:J.size<=m):∃t q,laid m fi mv l p J=some (t,q)/\q.toList.Perm (List.range J.size)/\t.fits J.size=true/\t.led=l/\t.plain=p/\t.mask=m/\t.dummies=#[]:=by
 obtain⟨a,e,I⟩:=XU F J aE;refine⟨_,_,by unfold laid;rw[e];rfl,?_,?_,rfl,rfl,rfl,rfl⟩
 .rw[<-I.1,KY];exact I.2
 .have sz:(((List.range (m+1)).filterMap λ j=>(a.getD j none).map (j,·)).map (·.1)).length=J.size:=by rw[qx,<-qx,<-I.1,KY,I.2.length_eq,Jd]
  unfold fits fill;grind
end
section
open PySem.Spec
theorem Il(n:Nat)(h:n<=120):kR (SetTable.sizeAbove n-1)/\n<=SetTable.sizeAbove n-1/\SetTable.sizeAbove n<=128:=by
 have q:∀k<121,(SetTable.sizeAbove k=8\/SetTable.sizeAbove k=16\/SetTable.sizeAbove k=32\/SetTable.sizeAbove k=64\/SetTable.sizeAbove k=128)/\k<=SetTable.sizeAbove k-1:=d8;obtain⟨k1,k2⟩:=q n aE;refine⟨?_,k2,by lia⟩;rcases k1 with e|e|e|e|e<;>rw[e]
 .exact Ma
 .exact YB
 .exact YA
 .exact X_
 .exact WM
section
theorem HA{es:k7}{q:Array Nat}(h:q.toList.Perm (List.range es.size)):(q.filterMap (es[·]?)).toList.Perm es.toList:=by rw[Array.toList_filterMap];exact(h.filterMap _).trans (by rw[filterMap_getElem?_range])
theorem G5(ho:s.heap.get? a=some o)(hd:o.data=.set es ep t)(hf:t.fits es.size=true)(hw:q<=120)(hz:es.size<=q)(h:∀(Y:k7)(t':SetTable),Y.toList.Perm es.toList->t'.fits Y.size=true->t'.led=t.led->t'.plain=t.plain->t'.mask=SetTable.sizeAbove q-1->t'.fill=Y.size->Q () {s with heap:=s.heap.update a (Obj.putSet Y t')}):wpAny (model P w) A (setRelay a q) Q E s:=by
 obtain⟨F,i,l⟩:=Il q hw;refine qb (zo ho hd hf ?_);obtain⟨t',J,e,b,O,j,Z,k,f⟩:=K2 F (Array.map (λ x=>x.fst) es) (by rw[Array.size_map];lia);rw[Array.size_map]at b O;have g:t.relaid (Array.map (λ x=>x.fst) es) q=some (t',J):=e;have d:=HA b;have sz:(J.filterMap (es[·]?)).size=es.size:=by rw[<-zd,d.length_eq,zd]
 refine yb (λ c=>absurd c (by rw[jx];lia)) λ _=>?_;rw[g];refine qb (yb (λ c=>absurd sz (by simpa using c)) λ _=>qc ?_);refine Qz ho hd (h _ _ d (by rw[sz];exact O) j Z k ?_) (by rw[sz];have:=i;rw[jx];lia);unfold SetTable.fits at O;simp only[ze,Jb]at O;unfold SetTable.fill;rw[f,sz,O.1];rfl
end
section
variable{ss os:aM}
theorem S4(q:h.get? a=some (d6 w)):bI P w (dF w) h a []:=
 ⟨_,#[],0,_,q,⟨rfl,rfl,rfl⟩,rfl,λ e J=>(by simp at J),Qi _,Y4,by decide,by rfl,λ _=>rfl,λ e=>by rw[e];rfl⟩
theorem HD{ah:Sem Unit}{h1:Heap}{oa:Obj}{af:Nat}{Z:SetTable}{Q:Unit->Shared->Prop}{ob:Obj}{Y:k7}{epb:Nat}{tb:SetTable}(ae:s.heap.get? a=some oa)(ai:oa.ExactSet)(ac:oa.data=.set #[] af Z)(ap:Z.fits 0=true)(fi:Z.fill=0)(F:kR Z.mask)(hz:Y.size<=Z.mask)(ak:dF w=false->Z.led=true)(ag:ElemsOf (PySem.strKind P w) Y.toList)(aq:(Y.toList.map λ e=>PyProof.Rows.strOf e.2).Perm os)(as:os.Nodup)(ar:Y.size<scanBound)(ao:tb.fits Y.size=true)(aj:tb.plain=true->Y.size=0)(aa:dF w=false->tb.led=true)(k:∀h',Heap.SameBut a s.heap h'->bI P w (dF w) h' a os->Q () {s with heap:=h'}):
  wpAny (model P w) A (do
   let (_,_,ts)<-setState a
   match ts.road tb with
   |.slotForSlot=>storeSet a Y {tb with finger:=ts.finger,led:=ts.led&&tb.led,moves:=ts.moves,plain:=ts.plain&&tb.plain}
   |.clean=>
    let (es,t)<-(match SetTable.laid ts.mask ts.finger ts.moves (led:=ts.led&&tb.led) (plain:=ts.plain&&tb.plain) (Y.map (·.1))with
     |some (t,O)=>if(O.filterMap (Y[·]?)).size != Y.size then(do unsupported "internal:set-table-lost-an-element";pure (O.filterMap (Y[·]?),t))else pure (O.filterMap (Y[·]?),t)
     |_=>unsupported "internal:set-table-without-room":Sem (k7×SetTable))
    storeSet a es t
   |.oneByOne=>ah) Q E s:=by
 refine qb (zo ae ac ap ?_);dsimp only;have done:∀(J:k7)(b:SetTable),J.toList.Perm Y.toList->b.fits J.size=true->(b.plain=true->tb.plain=true)->(dF w=false->b.led=true)->wpAny (model P w) A (storeSet a J b) Q E s:=λ J b d j n m=>by
  have sz:J.size=Y.size:=by rw[<-zd,d.length_eq,zd]
  have f:J.size<scanBound:=by rw[sz];exact ar
  have i:(s.heap.update a (Obj.putSet J b)).get? a=some {oa with data:=.set J (af+1) b}:=by have z:=zq (Obj.putSet J b) ae (by rw[Qx J b ac];rfl);rw[Qx J b ac]at z;exact z
  refine Qz ae ac (k _ (yg _ a _) ?_) (Qb f);exact⟨_,J,af+1,b,i,ai,rfl,ag.perm d,(d.map _).trans aq,as,f,j,λ q=>by rw[sz];exact aj (n q),m⟩
 have rd:Z.road tb=if Z.mask==tb.mask&&tb.dummies.isEmpty then .slotForSlot else .clean:=by unfold SetTable.road;rw[fi];rfl
 rw[rd];by_cases c:(Z.mask==tb.mask&&tb.dummies.isEmpty)=true
 .rw[if_pos c];dsimp only;exact done _ _ (.refl _) ao (λ q=>(Bool.and_eq_true_iff.mp q).2) λ q=>by grind
 .rw[if_neg c];dsimp only;refine ui (K2 F (fi:=Z.finger) (mv:=Z.moves) (l:=Z.led&&tb.led) (p:=Z.plain&&tb.plain) (Array.map (λ x=>x.fst) Y) (by grind)) λ b O e g h u o v r=>?_;rw[Array.size_map]at g h;have d:=HA g;have sz:(O.filterMap (Y[·]?)).size=Y.size:=by rw[<-zd,d.length_eq,zd]
  rw[e];grind
theorem Od(aj:a≠b)(ho:s.heap.get? a=some (d6 w))(hS:bI P w (dF w) s.heap b os)(hz:os.length<=60)(k:∀h',Heap.SameBut a s.heap h'->bI P w (dF w) h' a os->(os≠[]\/h'=s.heap)->Q () {s with heap:=h'}):wpAny (model P w) A (setMerge a b ae) Q E s:=by
 obtain⟨ob,d,epb,tb,x,I,u,O,f,j,i,Z,Y,J⟩:=hS;have C:d.size=os.length:=by have:=f.length_eq;rw[qx,zd]at this;exact this
 unfold setMerge;have D:(a==b)=false:=by simpa using aj
 rw[D];refine yb (λ c=>absurd c aQ) λ _=>?_;refine qb (zo x u Z ?_);refine yb (λ c=>?_) λ c=>?_
 .have z:os=[]:=by rw[Jk,C]at c;exact List.length_eq_zero_iff.mp c
  subst z;exact qc (k s.heap (Q7 a _) (S4 ho) (.inr rfl))
 .have o:os≠[]:=λ z=>by
   subst z;exact c (by grind)
  refine qb ?_;refine qb (zo ho rfl rfl ?_);have H:(SetTable.fresh 0 0 !dF w).roomFor d.size=if(0+d.size)*5>=7*3 then some ((0+d.size)*2)else none:=rfl;rw[H]
  by_cases l:(0+d.size)*5>=7*3
  .rw[if_pos l];have n:(0+d.size)*2<=120:=aE;refine gU (Il _ n) λ F σ _=>?_;refine G5 ho rfl rfl n (ym _) λ p e G y B K m t=>?_;have z:p=#[]:=by have:=G.length_eq;rw[zd,zd]at this;exact Array.eq_empty_of_size_eq_zero this
   subst z;have r:(s.heap.update a (Obj.putSet #[] e)).get? a=some {d6 w with data:=.set #[] (0+1) e}:=by have z:=zq (Obj.putSet #[] e) ho rfl;exact z
   have v:=yg s.heap a (Obj.putSet #[] e);refine HD (h1:=s.heap) (ob:=ob) (epb:=epb) r ⟨rfl,rfl,rfl⟩ rfl y t (by rw[m];exact F) (by rw[m];lia) (λ q=>by rw[B];rw[q];rfl) O f j i Z Y J λ h' h g=>?_;exact k h' (v.trans h) g (.inl o)
  .rw[if_neg l];refine qc ?_;exact HD (h1:=s.heap) (ob:=ob) (epb:=epb) ho ⟨rfl,rfl,rfl⟩ rfl rfl rfl Ma (by show d.size<=7;lia) (λ q=>by rw[q];rfl) O f j i Z Y J λ h' h g=>k h' h g (.inl o)
end
section
variable{ss os:aM}
theorem z_5(ha:bI P w bt s.heap a ss)(hb:bI P w bt s.heap b os)(q:Q true s):wpAny (model P w) A (setsQuiet [b,a]) Q E s:=by
 refine qb (wpAny_forIn_list _ (λ l d s'=>(∀c∈l,∃xs,bI P w bt s.heap c xs)/\d=(none,())/\s=s') _ (λ c rest d s' h=>?_) (λ d s' h=>?_) _ _ ⟨λ c J=>?_,rfl,rfl⟩)
 .obtain⟨O,rfl,Z⟩:=h;subst Z;obtain⟨xs,o,es,u,t,i,n,hd,j,y,r,m,g,p,k⟩:=O c bP;refine qb (jr i hd g (qb ?_));refine wpAny_forIn_array' _ (λ l d s'=>(∀e∈l,∃x t,e.2=Value.str x t)/\d=(none,())/\s=s') _ (λ e rest d s' h=>?_) (λ d s' h=>?_) _ _ ⟨λ e Y=>?_,rfl,rfl⟩
  .obtain⟨O,rfl,Z⟩:=h;subst Z;obtain⟨f,v⟩:=e;obtain⟨x,t,ex⟩:=O (f,v) bP;have ex:=ex;subst ex;exact qc ⟨λ e Y=>O e (by simp[Y]),rfl,rfl⟩
  .obtain⟨_,rfl,rfl⟩:=h;exact qc ⟨λ c J=>O c (by simp[J]),rfl,rfl⟩
  .grind[e1,xi]
 .obtain⟨_,rfl,rfl⟩:=h;exact qc q
 .grind
theorem UN(ho:s.heap.get? a=some o)(hd:o.data=.set es ep t)(hf:t.fits es.size=true)(J:dF w=false->t.led=true)(q:∀(O:k7)(Z:Drawn),O.toList.Perm es.toList->Q O {s with drawn:=Z}):wpAny (model P w) A (setWalk a) Q E s:=by
 refine qb (zo ho hd hf ?_);refine qb (qb (yq (qc ?_)));split
 .exact qb (yq (qc (q _ s.drawn (Oy _ es))))
 .rename_i c;have b:dF w=false:=by cases z:dF w with
   |false=>rfl
   |true=>exact absurd z c
  split
  .refine qb (Fj _ _ _ _ bP λ f Z d=>qc (q _ Z ?_));exact d
  .have m:∀(Y:Unit→Shared→Prop),Y () s→wpAny (model P w) A (if(!t.led&&decide (es.size>1))=true then unsupported "set:maker-not-led" else pure ()) Y E s:=λ Y e=>by
    rw[if_neg (by simp[J b])];exact qc e
   exact qb (m _ (qc (q es s.drawn (.refl _))))
theorem bI.perm(S:bI P w bt h a xs)(p:xs.Perm ys):bI P w bt h a ys:=by obtain⟨o,es,b,t,e,J,hd,Z,f,Y,c,d,O,q⟩:=S;exact⟨o,es,b,t,e,J,hd,Z,f.trans p,p.nodup_iff.mp Y,c,d,O,q⟩
theorem OY(ha:bI P w (dF w) s.heap a ss)(am:bI P w (dF w) s.heap b os)(ho:s.heap.get? b=some o)(hd:o.data=.set es ep t)(hf:t.fits es.size=true)(ae:dF w=false->t.led=true)(q:∀(Y:k7)(h':Heap)(dr:Drawn),Y.toList.Perm es.toList->Heap.SameBut a s.heap h'->bI P w (dF w) h' a ss->Q Y {s with heap:=h',drawn:=dr}):wpAny (model P w) A (setWalkUnseen b [a] (some a)) Q E s:=by
 refine qb (zo ho hd hf ?_);refine qb (qb (yq (qc ?_)));have walk:wpAny (model P w) A (setWalk b) Q E s:=UN ho hd hf ae λ Y dr v=>q Y s.heap dr v (Q7 a _) ha;refine yb (λ c=>walk) λ c=>?_;refine qb (z_5 ha am ?_);refine yb (λ c=>absurd c aQ) λ _=>?_;refine qb (Yc ?_);refine gn λ x u=>?_;obtain⟨n,d,g,ta,Z,j,O,i,m,k,h,f,l,J⟩:=ha;refine u ?_;refine qb (zo Z O f ?_);refine yb (λ y=>?_) λ _=>?_
 .refine qb (Qz Z O (qc (q es _ s.drawn (.refl _) (yg _ a _) ?_)) (Qb h));generalize r:({ta with led:=ta.led&&t.led,plain:=ta.plain&&t.plain}:SetTable)=e;have p:(s.heap.update a (Obj.putSet d e)).get? a=some {n with data:=.set d (g+1) e}:=by have z:=zq (Obj.putSet d e) Z (by rw[Qx d e O];rfl);rw[Qx d e O]at z;exact z
  subst r;exact⟨_,d,g+1,_,p,j,rfl,i,m,k,h,f,λ z=>l (Bool.and_eq_true_iff.mp z).1,λ z=>by rw[J z,ae z];rfl⟩
 .exact qc (q es s.heap s.drawn (.refl _) (Q7 a _) ⟨n,d,g,ta,Z,j,O,i,m,k,h,f,l,J⟩)
end
section
variable{ss os:aM}
theorem Uq(h:acc.Nodup):(jD acc x).Nodup:=by grind[jD]
theorem vX:∀(xs acc:aM),acc.Nodup->(d5 acc xs).Nodup
 |[],acc,h=>h
 |x::r,acc,h=>vX r (jD acc x) (Uq h)
theorem T6(h:acc.Nodup)(p:xs.Perm ys):(d5 acc xs).Perm (d5 acc ys):=by grind[vX,v7]
theorem Ih{f g:k7×Nat×SetTable->Sem Unit}(ag:a≠b)(ar:ss≠[])(hA:bI P w (dF w) s.heap a ss)(hB:bI P w (dF w) s.heap b os)(am:s.heap.get? b=some ob)(aj:ob.data=.set eb epb tb)(ae:tb.fits eb.size=true)(aa:dF w=false->tb.led=true)(ac:ElemsOf (PySem.strKind P w) eb.toList)(aq:(eb.toList.map λ e=>PyProof.Rows.strOf e.2).Perm os)(hz:ss.length+os.length<=60)(Z:∀(s':Shared)(Q':Unit->Shared->Prop),s'.heap.get? b=some ob->Q' () s'->wpAny (model P w) A O Q' E s')(k:∀h' dr,Heap.SameBut a s.heap h'->bI P w (dF w) h' a (d5 ss os)->Q () {s with heap:=h',drawn:=dr}):
  wpAny (model P w) A (do
   let sa<-setState a
   match sa.2.2.road tb with
   |.slotForSlot=>f sa
   |.clean=>g sa
   |.oneByOne=>do
    let q<-setWalkUnseen b [a] (some a)
    let _<-forIn q PUnit.unit λ x(_:PUnit)=>do
     let _<-holding [x.2] (setAddHashed a x.2 x.1)
     O
     let st<-setState b
     if(st.2.1 != epb)=true then do
       unsupported "set.changed-during-merge"
       pure (ForInStep.yield PUnit.unit)
      else pure (ForInStep.yield PUnit.unit)
    pure ()) Q E s:=by
 have B:=hA;refine gn λ S R=>?_;obtain⟨oa,σ,V,ta,G,T,F,az,K,y,W,Y,ρ,an⟩:=hA;refine R ?_;have hn:σ.size=ss.length:=by have:=K.length_eq;rw[qx,zd]at this;exact this
 refine qb (zo G F Y ?_);have M:ta.fill≠0:=by
  unfold SetTable.fits at Y;simp only[ze,Jb]at Y;unfold SetTable.fill;have:ss.length≠0:=λ z=>ar (List.length_eq_zero_iff.mp z)
  lia
 have rd:ta.road tb=.oneByOne:=by unfold SetTable.road;rw[if_pos (by simpa using M)]
 rw[rd];refine qb (OY B hB am aj ae aa λ q h1 dr r D C=>qb ?_);have H:=ac.perm r;have o:=(r.map _).trans aq;have X:q.toList.length=os.length:=by rw[<-o.length_eq,qx]
 refine wpAny_forIn_array' _ (λ l _ s'=>∃h' xs,s'={s with heap:=h',drawn:=dr}/\Heap.SameBut a s.heap h'/\bI P w (dF w) h' a xs/\(∀e∈l,∃x t,e.2=Value.str x t/\e.1=(PySem.strKind P w).hash x)/\xs.length+l.length<=60/\d5 xs (l.map λ e=>PyProof.Rows.strOf e.2)=d5 ss (q.toList.map λ e=>PyProof.Rows.strOf e.2)) _ (λ e rest _ s' h=>?_) (λ _ s' h=>?_) _ _ ⟨h1,ss,rfl,D,C,xi H,by grind⟩
 .refine uh h λ h' xs j i d p u J=>?_;obtain rfl:=j;refine dt (p e bP) λ x tk e2 e1=>?_;obtain⟨h0,v⟩:=e;subst e1;subst e2;rw[zg]at u;refine qb (zr (Hw d (by unfold scanBound;lia) λ h2 n I=>?_));have bb:h2.get? b=some ob:=by rw[n.2 b (zy ag),i.2 b (zy ag)];exact am
  refine qb (Z _ _ bb (qb (zo bb aj ae ?_)));refine yb (λ c=>absurd c bP) λ _=>qc ?_;refine⟨h2,jD xs x,rfl,i.trans n,I,λ e N=>p e (by simp[N]),?_,J⟩;have l2:(jD xs x).length<=xs.length+1:=by
   unfold jD;split
   .lia
   .grind
  lia
 .refine uh h λ h' xs m i d _ _ J=>?_;obtain rfl:=m;have e:xs=d5 ss (q.toList.map λ e=>PyProof.Rows.strOf e.2):=J;refine qc (k h' dr i ?_);rw[e]at d;exact d.perm (T6 y o)
end
section
variable{P:Program}{w:World}{A:Around}{E:c8}{s:Shared}{a b:Addr}{ss os:aM}
theorem OZ(O:a≠b)(aq:ss≠[])(hA:bI P w (dF w) s.heap a ss)(hB:bI P w (dF w) s.heap b os)(hz:ss.length+os.length<=60)(Z:∀(s':Shared)(Q':Unit->Shared->Prop),s'.heap.get? b=s.heap.get? b->Q' () s'->wpAny (model P w) A ag Q' E s')(k:∀h' dr,Heap.SameBut a s.heap h'->bI P w (dF w) h' a (d5 ss os)->Q () {s with heap:=h',drawn:=dr}):wpAny (model P w) A (setMerge a b ag) Q E s:=by
 have v:=hB;obtain⟨ob,g,I,tb,f,T,l,t,j,X,W,i,ρ,r⟩:=hB;have σ:g.size=os.length:=by have:=j.length_eq;rw[qx,zd]at this;exact this
 unfold setMerge;have M:(a==b)=false:=by simpa using O
 rw[M];refine yb (λ c=>absurd c aQ) λ _=>?_;refine qb (zo f l i ?_);refine yb (λ c=>?_) λ c=>?_
 .have z:os=[]:=by rw[Jk,σ]at c;exact List.length_eq_zero_iff.mp c
  subst z;exact qc (k s.heap s.drawn (Q7 a _) hA)
 .refine qb ?_;have H:=hA;obtain⟨N,o,u,ta,n,D,h,C,x,F,az,Y,av,ah⟩:=hA;have ha:o.size=ss.length:=by have:=x.length_eq;rw[qx,zd]at this;exact this
  have pl:ta.place.size=o.size:=by unfold SetTable.fits at Y;simp only[ze,Jb]at Y;exact Y.1
  refine qb (zo n h Y ?_);have R:ta.roomFor g.size=if(ta.fill+g.size)*5>=ta.mask*3 then some ((ta.place.size+g.size)*2)else none:=rfl;rw[R]
  by_cases y:(ta.fill+g.size)*5>=ta.mask*3
  .rw[if_pos y];refine G5 n h Y aE aE λ J d p ft hl aw hm V=>?_;have G:(s.heap.update a (Obj.putSet J d)).get? a=some {N with data:=.set J (u+1) d}:=by have z:=zq (Obj.putSet J d) n (by rw[Qx J d h];rfl);rw[Qx J d h]at z;exact z
   have sz:J.size=o.size:=by rw[<-zd,p.length_eq,zd]
   have m:=yg s.heap a (Obj.putSet J d);have B:bI P w (dF w) (s.heap.update a (Obj.putSet J d)) a ss:=⟨_,J,u+1,d,G,D,rfl,C.perm p,(p.map _).trans x,F,by grind⟩;have bb:(s.heap.update a (Obj.putSet J d)).get? b=some ob:=by rw[m.2 b (zy O)];exact f
   exact Ih O aq B (v.same m (zy O)) bb l i r t j hz (λ s' Q' e q=>Z s' Q' (by rw[e,f]) q) λ h' dr S K=>k h' dr (m.trans S) K
  .rw[if_neg y];exact qc (Ih O aq H v f l i r t j hz (λ s' Q' e q=>Z s' Q' (by rw[e,f]) q) k)
end
theorem QU:entryFor table "set.__or__"=some Builtin.«frozenset.__or__»:=
 entryFor_alias (id':="frozenset.__or__") dA rfl d8 dA
section
variable{s:Shared}
theorem bI.ty(O:bI P w bt s.heap a ss):s.TypeIs (.ref a) "set":=by
 refine cB O λ o es b t J q _=>?_;exact⟨o,J,q.1⟩
theorem B_(ty:s.TypeIs (.ref a) "set")(q:Q true s):wpAny (model P w) A (Builtin.Frozenset.isAnySet (.ref a)) Q E s:=by have J:=sub_set_self;refine qb (Ya ty J ?_);exact qc q
theorem YR(O:bI P w (dF w) s.heap a ss)(hz:ss.length<=60)(k:∀h',(∀b o,s.heap.get? b=some o->h'.get? b=some o)->bI P w (dF w) h' s.heap.n ss->(ss=[]->h'.get? s.heap.n=some (d6 w))->Q (.ref s.heap.n) {s with heap:=h'}):wpAny (model P w) A (Builtin.Frozenset.copyOf a) Q E s:=by
 have d:a<s.heap.n:=by
  refine iL O λ o es g t Z _=>?_;exact qm Z
 have f:=sub_set_self;refine qb (qb (Ya O.ty f (qc (qb ?_))));refine R6 ?_;have q:(s.heap.push (d6 w)).get? s.heap.n=some (d6 w):=qk _ rfl;refine qb (qc (qb ?_));refine Od (jz d) q (O.keep λ b o e=>qd _ e) hz λ h' Y J c=>qc (k h' (λ b o e=>?_) J λ z=>?_)
 .rw[Y.2 b (Ql (Yj e))];exact qd _ e
 .grind
end
section
variable{ss os:aM}
theorem O_{ys:aM}(h:ys.Nodup):ys.Perm (d5 [] ys):=by grind[vX,v7]
theorem S3(q:Q (u,v) s):wpAny (model P w) A (Builtin.Frozenset.slot1 "__or__" ⟨[u,v],[]⟩) Q E s:=
 qb (qc (qc q))
theorem RD{id:String}(Y:r≠b)(hR:bI P w (dF w) s.heap r ss)(hN:ss=[]->s.heap.get? r=some (d6 w))(hB:bI P w (dF w) s.heap b os)(hz:ss.length+os.length<=60)(k:∀h' dr,Heap.SameBut r s.heap h'->bI P w (dF w) h' r (d5 ss os)->Q () {s with heap:=h',drawn:=dr}):wpAny (model P w) A (Builtin.Frozenset.updateFrom id r (.ref b)) Q E s:=by
 have J:=hB;obtain⟨ob,t,f,tb,a,m,Z,l,o,d,p,O,n,j⟩:=hB;refine qb (B_ J.ty ?_);rw[if_pos rfl];refine qb (qc ?_);refine qb (qb (zo a Z O (qc ?_)));by_cases z:ss=[]
 .subst z;refine Od Y (hN rfl) J (by grind) λ h' h g _=>k h' s.drawn h (g.perm (O_ d))
 .refine OZ Y z hR J hz (λ s' i e q=>?_) k;refine qb (qb (zo (e.trans a) Z O (qc ?_)));refine yb (λ c=>absurd c bP) λ _=>qc q
theorem ca2(Z:a≠b)(J:bI P w (dF w) s.heap a ss)(q:bI P w (dF w) s.heap b os)(hz:ss.length+os.length<=60)(k:∀h' dr,(∀b o,s.heap.get? b=some o->h'.get? b=some o)->bI P w (dF w) h' s.heap.n (d5 ss os)->Q (.ref s.heap.n) {s with heap:=h',drawn:=dr}):wpAny (model P w) A (binaryOp .BitOr (.ref a) (.ref b)) Q E s:=by
 refine wpAny_binaryOp_same J.ty q.ty F.fills_set_or F.slot_set_or (jt F.slot_set_or J.ty QU ?_ (F.args_set_or_2 _ _));refine qb (S3 ?_);have f:b<s.heap.n:=by
  refine iL q λ o es l t h _=>?_;exact qm h
 refine qb (qb (B_ J.ty (B_ q.ty ?_)));refine yb (λ c=>absurd c aQ) λ _=>?_;refine qb (qc (qb ?_));refine qb (YR J aE λ h1 d O g=>?_);have i:(Value.ref b != Value.ref a)=true:=by grind
 refine yb (λ _=>?_) λ c=>absurd i c;refine qb (qc (qb (zr ?_)));refine RD (jz f) O g (q.keep d) hz λ h2 dr j Y=>qc (qc ⟨_,rfl,by simp,k h2 dr (λ c o e=>?_) Y⟩);rw[j.2 c (Ql (Yj e))];exact d c o e
end
end
end Lake
set_option backward.match.sparseCases false
namespace Lake
open PySem.Spec PyProof.Rows L2
section
section
variable{K:Frag}
theorem RS.holdF(R:RS K c H0 H U L)(q:H l=none):l∉c.Ap/\c.He l=none/\H0 l=none:=by
 have J:=λ m=>R.apt l m q;refine⟨J,?_,?_⟩
 .cases z:c.He l with
  |none=>rfl
  |some u=>have:=R.keep l u z J;rw[q]at this;simp at this
 .cases z:H0 l with
  |none=>rfl
  |some u=>have:=R.same l u z;rw[q]at this;simp at this
theorem RS.hold(R:RS K c H0 H U L)(J:H l=none):RS K ⟨c.Hi,upd c.He l o,c.Ap⟩ H0 (upd H l o) U L:=by
 obtain⟨Z,d,f⟩:=R.holdF J;have ne_of:∀{b:Addr}{u:HO},H b=some u->b≠l:=λ e z=>by grind
 refine⟨λ b u e=>?_,R.init,λ b u e=>?_,λ b u e n=>?_,λ a O=>?_,R.len,R.im,λ i b o e=>?_,R.ne⟩
 .have h:=R.same b u e;rw[bS (ne_of h)];exact h
 .have h:=R.same b u e;rcases R.fresh b u e with q|q
  .exact .inl q
  .grind[upd,bS]
 .by_cases z:b=l
  .grind[upd,cF]
  .have e:upd c.He l _ b=some u:=e;rw[bS z]at e⊢;exact R.keep b u e n
 .by_cases z:a=l
  .grind
  .rw[bS z];exact R.apt a O
 .refine cZ (R.ow i b o e) λ a e1 e2 e3 e4=>?_;obtain⟨u,Y⟩:=e4.some;refine kJ a e1 e2 ?_ (e4.step (aB.refl _) λ u h=>by grind[bS]);cases b with
  |true=>exact e3
  |false=>
   have e3:=e3;grind[upd,bS,e3]
theorem RS.unhold(R:RS K ⟨c.Hi,upd c.He l o,c.Ap⟩ H0 H U L)(Y:l∉c.Ap)(O:c.He l=none):RS K c H0 H U L/\H l=some o:=by
 have J:=R.keep l o cF Y;refine⟨⟨R.same,R.init,λ b u e=>?_,λ b u e n=>?_,R.apt,R.len,R.im,λ i b o e=>?_,R.ne⟩,J⟩
 .rcases R.fresh b u e with q|q
  .exact .inl q
  .grind[upd,cF,bS]
 .have z:b≠l:=λ z=>by rw[z,O]at e;simp at e
  exact R.keep b u (by grind[upd,bS]) n
 .refine cZ (R.ow i b o e) λ a e1 e2 e3 e4=>?_;refine kJ a e1 e2 ?_ e4;grind[e3,upd,cF,bS]
end
section
theorem Tt:d3 X (binaryOp .BitOr) (λ x y H Q=>∃p q ss ys,x=.ref p/\y=.ref q/\p≠q/\H p=some (nE X.p X.w p ss)/\H q=some (nE X.p X.w q ys)/\ss.length+ys.length<=60/\∀l,H l=none->Q (.ref l) (upd H l (nE X.p X.w l (d5 ss ys)))):=by
 intro aA s L H x y v u Q I Y e h;obtain⟨p,q,ss,ys,rfl,rfl,J,O,Z,c,k⟩:=h;subst Y;subst e;refine ca2 J (I.hok p _ O).1 (I.hok q _ Z).1 c λ h' a d b=>?_;exact cD (.ref s.heap.n) _ (aJ.drawn a (I.laid d (qj _) (KA b))) rfl (k _ (I.hok.fresh (qj _)))
theorem Kx{K:Frag}{ss:aM}(s:aB H0 H)(h:nY d=some (ss.map .str))(r:aU K H0 d v):∃ad,v=.ref ad/\(dz K H ad (ss.map V.str)\/d7 K H ad (ss.map V.str)):=by
 unfold nY at h;split at h
 .simp at h;obtain⟨ad,J,rfl,q,t⟩:=r;grind[AL,aB.seqT,aB]
 .simp at h;obtain⟨ad,J,rfl,q,t⟩:=r;grind[AL,aB.seq,aB]
 .simp at h
theorem RK(ss ys:aM):et (d5 (d5 [] ss) (d5 [] ys))=et (d5 [] (ss++ys)):=by grind[Oc,vX,v7]
theorem ck8{F G:FE}{U ρ':En}{d:D}(f:eF ro (aC F (aC G aN)) U=some (d,ρ')):∃d1 O d2 l1 l2,F U=some (d1,O)/\G O=some (d2,ρ')/\nY d1=some (List.map D.str l1)/\nY d2=some (l2.map .str)/\l1.length+l2.length<=60/\.l ((et (d5 [] (l1++l2))).map .str)=d:=by
 unfold eF at f;obtain⟨⟨u,c⟩,a,f⟩:=aP f;obtain⟨e,q,f⟩:=aP f;have k:some (e,c)=some (d,ρ'):=f;cases k;unfold aC at a;refine gn λ o l=>?_;obtain⟨⟨d1,O⟩,e1,a⟩:=aP a;obtain⟨⟨t,s⟩,J,a⟩:=aP a;obtain⟨⟨d2,b⟩,e2,J⟩:=aP J;obtain⟨⟨dn,r⟩,Y,J⟩:=aP J;refine l ?_;unfold aN at Y;cases Y;cases J;cases a;have e2:G O=some (d2,b):=e2;have q:ro [d1,d2]=some d:=q;rw[HK]at q;obtain⟨xs,m,q⟩:=aP q;obtain⟨ys,n,q⟩:=aP q;have Z:xs.length+ys.length<=60:=Classical.byContradiction λ z=>by rw[if_neg z]at q;simp at q
 rw[if_pos Z]at q;unfold w5 at q;obtain⟨zs,j,q⟩:=aP q;obtain⟨p,h⟩:=bM q;have g:=BK j;obtain⟨l1,l2,rfl,ex,i⟩:=List.append_eq_map_iff.mp g;subst ex;subst i;rw[qx,qx]at Z;exact⟨d1,O,d2,l1,l2,e1,e2,m,n,Z,h⟩
theorem UE{a b:Expr}{F G:FE}{p p' p2 O J Y pos:Pos}(hm:X.mg "set"=none)(af:X.mg "sorted"=none)(ha:XE X a F)(hb:XE X b G)(hc:X.c=true:=by rfl)(hg:Gl X "set":=by rfl)(ai:Gl X "sorted":=by rfl)(h1:mX X a:=by rfl)(aa:mX X b:=by rfl)(h2:starEach [.BinOp (.Call (.Name "set" p) [a] [] O) .BitOr (.Call (.Name "set" p') [b] [] J) Y] X.v=[(false,eval (.BinOp (.Call (.Name "set" p) [a] [] O) .BitOr (.Call (.Name "set" p') [b] [] J) Y) X.v)]:=by rfl):XE X (.Call (.Name "sorted" p2) [.BinOp (.Call (.Name "set" p) [a] [] O) .BitOr (.Call (.Name "set" p') [b] [] J) Y] [] pos) (eF ro (aC F (aC G aN))):=
 PE.wk (AQ (Pz hc) ai af PyProof.Rows.boot_sorted (iA (Cv Tt (xc (HH hc) hg hm PyProof.Rows.boot_set (ef ha fE h1) aQ aQ h1 rfl) (xc (HH hc) hg hm PyProof.Rows.boot_set (ef hb fE aa) aQ aQ aa rfl)) lB h2) aQ aQ h2 rfl) λ L H Q z=>by
  refine bN z λ c H0 U d g R f q=>?_;obtain⟨I,s,K,Z,h,e1,e2,x1,y1,al,σ⟩:=ck8 f;have one:∀{F:FE}{U g:En}{d:D},F U=some (d,g)->aC F aN U=some ([d],g):=λ{F U g d}e=>by unfold aC;rw[e];rfl
  have k1:=wB Z [];have k2:=wB h [];have k3:=wB (d5 [] h) (d5 [] Z);rw[jb]at k1 k2;refine bG c H0 U ([I]) s R (one e1) λ vs H1 Hh s1 i T=>?_;obtain⟨v,rfl,W⟩:=aD.v1 T;obtain⟨A,rfl,sq⟩:=Kx i.same x1 W;refine iM A Z rfl sq aE λ l u=>?_;obtain⟨P,S,n3⟩:=i.holdF u;refine bG ⟨c.Hi,upd c.He l (nE X.p X.w l (d5 [] Z)),c.Ap⟩ H1 s ([K]) g (i.hold u) (one e2) λ ak H2 cV s2 R2 ρ=>?_;obtain⟨v2,rfl,E⟩:=aD.v1 ρ;obtain⟨B,rfl,C⟩:=Kx R2.same y1 E;obtain⟨R2',y⟩:=R2.unhold P S;refine iM B h rfl C aE λ m hm=>?_;have x:l≠m:=λ z=>by grind
  refine⟨l,m,d5 [] Z,d5 [] h,rfl,rfl,x,by rw[bS x];exact y,cF,by lia,λ r M=>?_⟩;refine iM r _ rfl cF aE λ t N=>?_;have j:=bY.side (o:=nE X.p X.w m (d5 [] h)) R2'.same hm;have k:=bY.side (o:=nE X.p X.w r (d5 (d5 [] Z) (d5 [] h))) j.s' M;have n:=bY.alloc (o:=.l ((et (d5 (d5 [] Z) (d5 [] h))).map V.str)) k.s' N;refine q _ _ _ (s1.trans (s2.trans ((j.trans k).trans n).s0)) (R2'.after ((j.trans k).trans n)) ?_;rw[<-σ,<-RK];unfold aU;exact cD t _ rfl (.inl (.inl cF)) (w6 _)
end
section
variable{X:Cx}
theorem QB(hc:X.c=true):bL X (.type "dict") (λ xs H Q=>∃p O aI,xs=[.ref p]∧d7 X.K H p O∧PV X.K H O aI∧(aI.map (·.1)).Nodup∧∀l o,H l=none→Q (.ref l) (upd H l (.frz o (.dK aI)))):=by
 intro aA s L H xs us Q I r h;obtain⟨p,O,aI,rfl,d,pv,nd,q⟩:=h;obtain⟨u,rfl,i⟩:=ic r;subst i;obtain⟨k,j,⟨ob,h1,h2,⟨n,b⟩,c⟩,e⟩:=I.tupleN d;obtain⟨t,g,Y⟩:=Dd I pv j;have Z:aI.length<=sizeLine:=by rw[Jr pv];exact e
 refine Ku h1 h2 b c (I.ok.hd hc) g (by rw[K3 Y];exact nd) (by rw[JD Y];exact Z) λ h' v f dd=>?_;refine jK (id dd) λ J es m a rest=>?_;exact⟨.ref s.heap.n,_,I.laid (o:=.frz J (.dK aI)) f (qj _) ⟨a,uV Z (beq_eq_false_iff_ne.mpr (zy (qr I.big))) Y dd⟩,rfl,q _ _ (I.hok.fresh (qj _))⟩
theorem SA(Z:X.c=true):i_ X (.type "dict") pZ:=⟨_,QB Z,λ c H0 H U L n d p Q R r e q=>by
 unfold pZ at e;split at e
 .obtain⟨aI,f,e⟩:=aP e;obtain⟨⟨_,nd⟩,rfl⟩:=bM e;cases fw f;obtain⟨v,rfl,O⟩:=aD.v1 r;obtain⟨b,Y,rfl,m,t⟩:=O;obtain⟨vv,k,a⟩:=D_ R.same t;have j:=a.length;rw[qx]at j;have i:(dQ (aI.map (·.1)) vv).map (·.1)=(aI.map (·.1)).map Sum.inr:=by unfold dQ;rw[yz (by rw[qx,qx];lia)]
  have J:((dQ (aI.map (·.1)) vv).map (·.1)).Nodup:=by rw[i];exact List.Pairwise.map _ (λ x y h z=>h (Z1 z)) nd
  refine⟨b,Y,_,rfl,aB.seqT R.same m,k,J,λ l o g=>?_⟩;have S:=bY.alloc (o:=.frz o (.dK (dQ (aI.map (·.1)) vv))) R.same g;refine q _ _ _ S.s0 (R.after S) ?_;exact⟨l,o,vv,rfl,cF,aD.mono S.s0 _ a,by rw[qx,qx]⟩
 .simp at e⟩
theorem sD(hu:X.A.units+1<cLine)(ho:XE X o F)(hi:XE X i G)(hs:vi i:=by exact λ _ _=>rfl):XE X (.Subscript o i pos) (e2 kU F G):=
 PE.wk (zM hu ho hi hs) λ L H Q Y=>by
  refine bN Y λ c H0 U d b R f q=>?_;refine eU (CB f) λ x Z y h1 h2 J=>?_;obtain⟨⟨C,B⟩,m,J⟩:=aP J;obtain⟨k,n,J⟩:=aP J;cases fH m;cases i3 n;refine bG c H0 U _ Z R h1 λ E H1 z w g p=>⟨c,H1,Z,_,b,g,h2,λ I H2 cV e R2 r=>?_⟩
  have O:=aU.mono e _ p;obtain⟨a,ob,D,rfl,j,t,l⟩:=O;subst r;obtain⟨u,h,_,hs⟩:=IE R2.same j t l;obtain⟨v,rfl,s⟩:=hs d J;exact cD a v rfl h (q v H2 cV (w.trans e) R2 s)
end
theorem KO(h:pO o=some ds):∃b,o=some (.o b (.l ds)):=match o,h with|some (.o b (.l _)),h=>by obtain rfl:=jh h;exact⟨b,rfl⟩
section
variable{X:Cx}
theorem X8(h:tE X.K (sf J F i) L H Q):tE X.K F L H λ Y H1=>∃v,L[i]?=some (some v)/\tJ X.K J Y v H1 Q:=by
 refine bN h λ c H0 U d l R f q=>?_;obtain⟨⟨x,O⟩,h1,f⟩:=aP f;obtain⟨m,h2,f⟩:=aP f;obtain⟨ok,f⟩:=bM f;cases f;refine bG c H0 U x O R h1 λ Y H1 b j Z a=>?_;obtain⟨bb,h2⟩:=KO h2;obtain⟨p,e1,_,_,k,e4,t⟩:=Z.ow i bb _ h2;unfold gM at ok;rw[ze]at ok;obtain⟨e,g⟩:=De ok.1 a ok.2 t;exact⟨_,e1,p,k,rfl,.inl (.inl (.inl e4)),(xD ok.1 a).1,e,by rw[g];exact q _ H1 b j Z (lE _ _)⟩
theorem W6(i:Nat)(Z:XE X a F)(Y:X.N[i]?=some y:=by rfl)(O:gk X.v.scope y:=by exact i7)(hd:df y:=by decide)(q:fA y:=by decide)(J:behindInMarks .NotIn (.Name y py)=false:=by first|exact Dy _|with_unfolding_all rfl):XT X (.Compare a [.NotIn] [.Name y py] pos) (tB (sf true F i)):=
 PT.wk (KH Ib Z (fT Y O hd q) J) λ L H Q h=>CD (λ Q h=>X8 h) h
end
theorem um(h:kQ o=some q):o=some (.o q.1 (.l q.2)):=by
 unfold kQ at h;split at h
 .obtain rfl:=aW h;rfl
 .simp at h
theorem me(h:AI d=some k):d=.int k:=by
 unfold AI at h;split at h
 .obtain rfl:=aW h;rfl
 .simp at h
theorem S5{K:Frag}(t:aD K H ds vs)(h:s_ ds k=some d):∃v,kT vs k=some v/\aU K H d v:=by
 unfold s_ at h;split at h
 .rename_i q;obtain⟨v,e,r⟩:=t.get h;grind[e2,kZ,kT]
 .simp at h
section
theorem YY(i:Nat)(Y:X.mg "len"=none)(hN:X.N[i]?=some x:=by rfl)(Z:gk X.v.scope x:=by exact i7)(hd:df x:=by decide)(O:fA x:=by decide)(hg:Gl X "len":=by rfl):XE X (.Call (.Name "len" p) [.Name x p2] [] pos) (Cw i):=
 PE.wk (AQ fG hg Y Yy (iA (fT hN Z hd O) lB)) λ L H Q J=>by
  refine bN J λ c H0 U d g R f q=>?_;obtain⟨⟨b,xs⟩,h1,f⟩:=aP f;cases f;obtain⟨a,e1,_,_,e,e4,t⟩:=R.ow i b _ (um h1);exact⟨_,e1,a,e,rfl,.inl (.inl (.inl e4)),by rw[<-t.length];exact q _ H0 H (aB.refl _) R (gE _ _)⟩
theorem V5(i:Nat)(he:XE X e F)(hs:yK e:=by intro _ _;rfl)(hN:X.N[i]?=some x:=by rfl)(hv:gk X.v.scope x:=by exact i7)(hd:df x:=by decide)(O:fA x:=by decide):XE X (.Subscript (.Name x p) e pos) (Ek i F):=
 PE.wk (rV gq (fT hN hv hd O) he hs) λ L H Q J=>by
  refine bN J λ c H0 U d A R f q=>?_;obtain⟨⟨j,B⟩,l,f⟩:=aP f;obtain⟨⟨E,C⟩,h1,f⟩:=aP f;obtain⟨k,h2,f⟩:=aP f;obtain⟨⟨b,xs⟩,m,f⟩:=aP f;obtain⟨D,n,f⟩:=aP f;cases me h2;cases f;obtain⟨h,e1,_⟩:=R.ow i j _ (um l);refine⟨_,e1,c,H0,U,_,_,R,h1,λ v H1 g r Y o=>?_⟩;subst o;obtain⟨a,Z,_,_,s,z,t⟩:=Y.ow i b _ (um m);rw[e1]at Z;cases Z;obtain⟨w,u,y⟩:=S5 t n;exact⟨h,s,k,w,rfl,rfl,.inl (.inl z),u,q w H1 g r Y y⟩
theorem BM{K:Frag}(r:aU K H d v):∀{ds:aK}{vs:b_}(n:Nat),aD K H ds vs->aD K H (ds.set n d) (vs.set n v)
 |[],vs,n,t=>by
  have:=t.length;cases vs with
  |nil=>exact t
  |cons=>cases this
 |x::ds,vs,n,t=>by
  obtain⟨u,J,rfl,q,a⟩:=t;cases n with
  |zero=>exact aD.cons r a
  |succ n=>exact aD.cons q (BM r n a)
theorem V1(i:Nat)(ha:XE X a I)(he:XE X e F)(hN:X.N[i]?=some x:=by rfl)(hv:gk X.v.scope x:=by exact i7)(hd:df x:=by decide)(ac:fA x:=by decide)(hs:swapsWithSole [.Subscript (.Name x p) a J] e pos.line X.v=pure false:=by rfl)(hw:swappedStores [.Subscript (.Name x p) a J] e X.v=pure none:=by rfl)(h1:(assignEach [.Subscript (.Name x p) a J] X.v).map (·.2)=[assign (.Subscript (.Name x p) a J) X.v]:=by rfl)
  (hq:∀v,assign (.Subscript (.Name x p) a J) X.v v=(do
   let ov<-holding [v] (eval (.Name x p) X.v)
   let iv<-holding [v,ov] (eval a X.v)
   standAt J
   holding [v,ov,iv] (setItem ov iv v)
   release [v,ov,iv] []):=by intro _;rfl):XS X (.Assign [.Subscript (.Name x p) a J] e pos) (Ei i I F):=
 PS.wk (Dw he (Jt (fT hN hv hd ac) ha J4 hq) hs hw h1) λ Dn L H Y=>by
  refine cB Y λ c H0 U r R f q=>?_;obtain⟨⟨d,Z⟩,s,f⟩:=aP f;obtain⟨⟨o,K⟩,u,f⟩:=aP f;obtain⟨⟨M,σ⟩,w,f⟩:=aP f;obtain⟨k,y,f⟩:=aP f;obtain⟨⟨b,xs⟩,A,f⟩:=aP f;obtain⟨⟨n,O⟩,f⟩:=bM f;subst f;cases me y;refine bG c H0 U d Z R s λ v H1 G D g B=>?_;obtain⟨m,e1,_⟩:=g.ow i o _ (um u);refine⟨_,e1,c,H1,Z,_,_,g,w,λ P H2 cV h R2 C=>?_⟩;subst C;have z:=um A;obtain⟨a,l,_,_,j,E,t⟩:=R2.ow i b _ z;rw[e1]at l;cases l;have e2:kZ j.length k=some k.toNat:=by unfold kZ;have:=t.length;simp only[show 0<=k from n,if_true];rw[if_pos aE]
  refine⟨m,j,k,k.toNat,rfl,rfl,E,e2,q L H2 _ (D.trans h) (R2.mutOwn z e1 ⟨_,cF,BM (aU.mono h _ B) _ t⟩)⟩
end
section
theorem V2{lo hi:m3}(he:XE X e F)(hl:XO X lo A)(hh:XO X hi B):pM X (.Subscript e (.Slice lo hi none p2) pos) (qT (kK F A B)):=PE.wk (J6 ((kF.or Jm).or Jn) he hl hh) λ L H Q O=>by
 refine bN O λ c H0 U d G R f q=>?_;obtain⟨⟨dd,K⟩,f,b⟩:=aP f;obtain⟨⟨x,Y⟩,h1,f⟩:=aP f;obtain⟨⟨l,Z⟩,h2,f⟩:=aP f;obtain⟨⟨u,σ⟩,o,f⟩:=aP f;obtain⟨M,J,f⟩:=aP f;have n:=f;cases n;refine bG c H0 U x Y R h1 λ v H1 I C m y=>?_;refine bG c H1 Y l Z m h2 λ H2 cV i R2=>?_;refine bG c H2 Z u _ R2 o λ k fe j h=>?_;have r3:=aU.mono j x (aU.mono i x y);cases x with
 |l a=>
  have e:=qi J;subst e;cases b;obtain⟨p,E,rfl,s,t⟩:=r3;exact .inl (.inl ⟨p,E,rfl,aB.seq h.same s,λ w r=>q w _ k fe (C.trans (i.trans j)) h r (Cn t l u)⟩)
 |t a=>
  have g:(if iq a.length 0 l=0/\iq a.length a.length u=a.length then none else some (D.t (jN a l u)))=some dd:=J;split at g
  .simp at g
  .obtain rfl:=aW g;cases b
 |str z=>
  obtain⟨N,rfl⟩:=bM J;cases b
 |_=>cases J
end
def DV(K:Frag)(q H:Hp)(a:Addr)(z:aK×MO)(l:Addr)(dH H':Hp):Prop:=
 aB q dH/\aB dH H'/\(∀b u,H b=some u->b≠a->H' b=some u)/\(∀b u,dH b=some u->q b=some u\/H b=none)/\eH K dH H' a z.2/\H l=none/\dH l=none/\eH K dH H' l (.l z.1)
def Ld(K:Frag)(g:MO->List D->Option (aK×MO)):Sp:=λ vs H Q _=>∃q a o J ds z,vs=.ref a::J/\aB q H/\q a=none/\eH K q H a o/\aD K q ds J/\g o ds=some z/\∀l dH H',DV K q H a z l dH H'->Q (.ref l) H'
structure lK(P:Program)(w:World)(K:Frag)(mg:Str->Option Value)(base:Heap)(k:Nat)(x:Str)(g:MO->List D->Option (aK×MO)):Prop where
 ex:∃f fd ps,cR P w K mg base fX k f fd ps (Ld K g)/\dE K fd ps []/\keepIn K (.ref f)=true/\mg x=some (.ref f)
theorem RS.gotB{K:Frag}(R:RS K c H0 H U L)(j:Nat)(hi:U[i]?=some (.o b o))(ha:L[i]?=some (some (.ref a)))(h:DV K H0 H a z l aV H'):RS K c aV H' ((U.set i (.o b z.2)).set j (.o false (.l z.1))) (L.set j (some (.ref l))):=by
 obtain⟨g,s',r,fr,ok,p,m,Y⟩:=h;refine cZ (R.ow i b o hi) λ k d _ _ w=>?_;rw[ha]at d;simp at d;obtain⟨s,J⟩:=w.some;obtain⟨u,f⟩:=Y.some;have R2:=R.lent hi ha g (λ x v e=>by
  have:x≠l:=λ q=>by grind
  show(if x=l then none else H' x)=some v;rw[if_neg this];exact s' x v e) (λ x v e n=>by
grind) fr (ok.step (aB.refl _) λ v q=>by
grind)
 have O:upd (λ x=>if x=l then none else H' x) l u=H':=by
  funext x;by_cases Z:x=l
  .rw[Z,cF,f]
  .grind[bS]
 have:=R2.setOwn j (if_pos rfl) (by rw[O];exact Y);rw[O]at this;exact this
section
theorem YX(j i:Nat)(hN:X.N.Nodup)(G:lK X.p X.w X.K X.mg X.base k x g)(hr:bJ k X.A)(ha:XA X es A)(hj:X.N[j]?=some z:=by rfl)(hi:X.N[i]?=some y:=by rfl)(hx:lP X.v.scope z:=by exact jW)(hs:swapsWith (.Call (.Name x p) (.Name y py::es) [] cpos) (some (.Name z pos')) pos.line X.v=pure false:=by rfl)(hf:X.fn z=true\/gf X z:=by exact jW)(hg:Gl X x:=by rfl)(hv:gk X.v.scope y:=by exact i7)(aa:df x:=by decide)(hd:df y:=by decide)(ac:fA y:=by decide)(Y:iD X cpos es:=by rfl):XS X (.Assign [.Name z pos'] (.Call (.Name x p) (.Name y py::es) [] cpos) pos) (FG j i g A):=by
 refine dN G.ex λ f T ps F v B C=>?_;refine PS.wk (ri hN hj hx (uC F hr hg C B v .nil uX (iA (fT hi hv hd ac) ha rfl) aa rfl Y) hs hf) λ Dn L H O=>?_;refine cB O λ c H0 U r R f q=>?_;obtain⟨⟨s,D⟩,t,f⟩:=aP f;obtain⟨⟨e,n⟩,h1,f⟩:=aP f;obtain⟨⟨b,o⟩,h2,f⟩:=aP f;obtain⟨w,u,f⟩:=aP f;obtain rfl:=aW f;obtain⟨a,e1,_⟩:=R.ow i s D (ou t);refine⟨_,e1,c,H0,U,e,n,R,h1,λ σ H1 P I d E=>?_⟩;have m:=ou h2;refine cZ (d.ow i b o m) λ Q J Z S M=>?_;rw[e1]at J;cases J;exact⟨H1,a,o,σ,e,w,by rw[yd],d.same,Z,M,E,u,λ l dH H' h=>q _ dH H' (I.trans h.1) (d.gotB j m e1 h)⟩
def tBN(K:Frag)(F:En->Option (aK×MO)):TS:=λ Dn L H=>∃q J a H0 U z,RS K ⟨q,J,[a]⟩ H0 H U L/\F U=some z/\∀l aV H',DV K q J a z l aV H'->Dn.rt (.ref l) H'
def rN(X:Cx)(sts:jU)(F:En->Option (aK×MO)):Prop:=eL X sts (tBN X.K F)
theorem vz{st:Stmt}{rest:jU}(h1:XS X st B)(h2:rN X rest N):rN X (st::rest) (pN B N):=
 eL.wk (wg h1 h2) λ Dn L H O=>by
  refine pB O λ Y Z a H0 U z R f q=>?_;obtain⟨r,h,f⟩:=aP f;refine eW ⟨Y,Z,[a]⟩ H0 U r R h ?_;cases r with
  |nx J=>exact λ c aV H' s b=>⟨Y,Z,a,aV,J,z,b,f,q⟩
  |rt d J=>cases f
  |bk J=>cases f
  |ct J=>cases f
theorem V7(j:Nat)(hN:X.N[j]?=some x:=by rfl)(hv:gk X.v.scope x:=by exact i7)(hd:df x:=by decide)(Y:fA x:=by decide):rN X [.Return (some (.Name x p)) J] (CA j):=
 eL.wk (qX (zL (fT hN hv hd Y))) λ Dn L H O=>by
  refine pB O λ k i a H0 U z R f q=>?_;obtain⟨xs,h1,f⟩:=aP f;obtain⟨⟨b,o⟩,h2,f⟩:=aP f;obtain⟨Z,f⟩:=bM f;subst f;subst Z;refine cZ (R.ow j false _ (n_ h1)) λ l e1 e2 e3 e=>?_;refine cZ (R.ow 0 true o (ou h2)) λ d _ _ c ok=>?_;rw[if_pos rfl]at c;have g:d=a:=by simpa using c
  subst g;exact⟨_,e1,q l H0 H ⟨R.init,R.same,λ b u h n=>R.keep b u h (by simpa using n),R.fresh,ok,e3,e2,e⟩⟩
end
theorem WN{K:Frag}{st:Stmt}(F:iz K x qual st f fd)(S:aG N ps (bA st))(hn:ps.length=n+1)(hN:N.length=n+1+m)(hb:∀(J:Value)(A:Around)(outer:fP)(s:Shared)(H:Hp)(E:XK),bJ k (A.deeper (envOfC qual (bA st) s.heap.n f J))->rN (f_ fX P w K mg base N qual (bA st) f J A outer s H E).nox (gQ st) B):cR P w K mg base fX (k+1) f fd ps (Ld K (vC n m B)):=by
 have O:∀{o:MO}{b:aK}{z:aK×MO},vC n m B o b=some z->b.length=n/\B (.o true o::(b.map .i++List.replicate m .z))=some z:=λ{o b z}h=>by
  unfold vC at h;split at h
  .grind
  .simp at h
 refine F.ok S (λ j H Q E h=>?_) (λ J A outer s H j Q E d h=>?_)
 .obtain⟨Y,a,o,i,b,z,rfl,_,_,_,r,e,_⟩:=h;rw[hn,zg,<-r.length,(O e).1]
 .obtain⟨Y,a,o,i,b,z,rfl,g,c,ok,r,e,q⟩:=h;obtain⟨l,h1⟩:=O e;have Z:=r.length;have R:=RS.startB (n:=N.length) (m:=m) g c ok r aE;exact⟨_,hb J A outer s H E d,Y,H,a,Y,_,z,R,h1,q⟩
open PySem.W
abbrev UM(X:Cx)(a:Addr)(o:Obj):Cx:=qW (CT X a λ _ _=>False) a o
section
variable{X:Cx}{k:Nat}{x:Str}{g:aK->Option (D⊕XV)}{e0:Expr}{es:e_}{A:FA}{p pos:Pos}
theorem Rg(hf:∀e s,X.xe e s→False)(G:lL X.p X.w X.K X.mg X.base k x g)(hr:bJ k X.A)(ha:XA X (e0::es) A)(hg:Gl X x)(ac:df x)(he:iX X e0 es)(aa:iD X pos es)(I:aJ X aA L H s)(R:RS X.K c H0 H U L)(h1:A U=some (ds,ρ'))(h2:g ds=some r):bV X.p X.w X.A (eval (.Call (.Name x p) (e0::es) [] pos) X.v) (λ u s'=>∃d v aV H',r=.inl d/\aT v u/\aJ X aA L H' s'/\aB H0 aV/\RS X.K c aV H' ρ' L/\aU X.K aV d v) (λ e s'=>∃y,r=.inr y/\LC X aA L c H0 ρ' y e s') s:=by
 refine dN G.ex λ f fd ps E W hk hm=>?_;refine Qt (ua I hg hm ?_ ac);refine callWith_K I.ok.mod.kin hk (zv (ha pos aA s L H (λ j H'=>∃aV,aB H0 aV/\RS X.K c aV H' ρ' L/\aD X.K aV ds j) I ⟨c,H0,U,ds,ρ',R,h1,λ j aV H' a b d=>⟨aV,a,b,d⟩⟩) (λ us i h=>?_) λ e i z=>(hf e i z).elim) he aa;refine gn λ G' k'=>?_;obtain⟨j,H1,q,Z,aV,F,o,rp⟩:=h;refine k' ?_;refine⟨q.kIn,?_⟩;have σ:A2 X.K X.mg g j H1 (λ v H'=>∃d H0'',r=.inl d/\aB H0 H0''/\RS X.K c H0'' H' ρ' L/\aU X.K H0'' d v) (λ P dd H'=>∃y C H0'',r=.inr y/\X.mg y.1=some (.ref C)/\P=.ref C/\aB H0 H0''/\RS X.K c H0'' H' ρ' L/\XD X.K H0'' H' y.2 dd):=by
  refine⟨aV,ds,r,o.same,rp,h2,?_⟩;cases r with
  |inl d=>exact λ v dH H' S Z=>⟨d,dH,rfl,F.trans S.s0,o.after S,Z⟩
  |inr y=>exact λ C dd dH H' m S D=>⟨y,C,dH,rfl,m,rfl,F.trans S.s0,o.after S,D⟩
 have hl:us.length=ps.length:=by rw[<-Z.length];exact E.len _ _ _ _ σ
 have O:=W i us q.kIn (by grind);rw[yd]at O;refine Zt (jy (E.run X.A X.stack i H1 ⟨us,[]⟩ us j _ _ hr q.env0 O Z σ) λ z s' Y=>?_);cases z with
 |error e=>
  obtain⟨a,T,C,dd,H',rfl,os,V,un,ok,na,nT,ρ,Q,B,y,C',H0'',hy,m,z,J,n,D⟩:=Y;cases z;obtain⟨hh,gg,d,t,M⟩:=s';obtain rfl:M=i.os:=os;have l:=q.call (d':=d) (t':=t) un ok V (λ b z=>absurd z bP);exact⟨y,hy,C,a,T,dd,H0'',H',m,rfl,l,J,n,Dz q na ρ,Dz q nT Q,B,D⟩
 |ok B=>
  cases B with
  |ret u=>
   obtain⟨v,H',l,N,d,H0'',e,J,n,rd⟩:=q.after Y;exact⟨d,v,H0'',H',e,N,l,J,n,rd⟩
  |next=>exact False.elim Y
  |brk=>exact False.elim Y
  |cont=>exact False.elim Y
def Cc(X:Cx)(ik:Nat)(q:jU)(Nx:L2.St->Hp->Prop)(L:L2.St)(C:Addr)(dd:kD)(H:Hp):Prop:=
 ∀a vs,∃t,eL (UM X a (fh (.ref C) vs dd)) q t/\t {nx:=λ J H'=>Nx (J.set ik none) H',rt:=λ _ _=>False} (L.set ik (some (.ref a))) H
theorem Pf(J:X.stack=X.v::X.outer)(ag:X.v.frame=some X.v.locals)(hN:X.N.Nodup)(af:X.N[ik]?=some xk)(lk:gf X xk)(hg:Gl X wn)(hW:X.mg wn=some (.ref W))(ao:df wn)(aq:df xk)(as:fA xk)(ap:∀C,X.mg y.1=some (.ref C)→exmOne X.K (.ref C) (.ref W)=some true)(q:∀C dd aV H',X.mg y.1=some (.ref C)->aB H0 aV->RS X.K c aV H' ρ' L->XD X.K aV H' y.2 dd->Cc X ik (b0::sr) Dn.nx L C dd H')(h:LC X aA L c H0 ρ' y e s):bV X.p X.w X.A (noteFrame e X.v) (λ _ Y=>bV X.p X.w X.A (setFlight e none) (λ _ Z=>
   bV X.p X.w X.A (handleBy e X.v [.ExceptHandler (some (.Name wn p1)) (some xk) (b0::sr) p5]) (SP X aA Dn) X.xe Z) X.xe Y) X.xe s:=by
 refine gn λ G' k'=>?_;obtain⟨C,a,T,dd,aV,H',m,rfl,O,sm,R,l,yT,fl,xd⟩:=h;refine k' ?_;have fr:=O.ok.frames;rw[J]at fr;have st:=O.stack;rw[J]at st;refine Bu fr st ag fl λ h2 r B z2 al=>?_;rw[<-J]at B;have M:=rE (t':=s.toks) O B (by simpa using⟨l,yT⟩);have F:=yr z2;have I:=Dz O F (Ba O.hok F);refine xY al λ h3 an x=>?_;have g:=rE (t':=s.toks) (es:=[r]) M (Aw.of λ b o n z=>(an.2 b (by simpa using n)).trans z) (by simpa using I);refine wpAny_handleBy_cons (codeAny_handlers_test (ua (Kh (E:=X.xe) g a) hg hW ?_ ao)) (by intro z;cases z);have ρ:Looks (model X.p X.w) h3 (typeOf (.ref a)) (.ref C):=by
  refine gU x λ _ j _=>?_;obtain⟨H,q1,_⟩:=j;exact(Looks.ld q1).andThen .now
 refine(exm_one g.kIn ρ (ap C m)).at ?_;refine codeAny_handlers_suite_as (xY x λ h4 ak aj=>?_);have p:=rE (t':=s.toks) (es:=[r]) g (Aw.of λ b o n z=>(ak.2 b (by simpa using n)).trans z) (by simpa using I);refine gU (id aj) λ _ k _=>?_;obtain⟨H,G,_⟩:=k;have nf:=λ z=>J_ p.funs G z;have P:=W3 p G l.1 l.2.1 nf (λ v z=>nomatch z);refine Bj (v:=.ref a) P hN af (.inl lk) rfl (λ s5 Q=>?_) (.inr lk);refine bE (q C dd aV H' m sm R xd a H) λ t ht hq=>?_;refine zv (ht aA s5 _ H' _ (Vj (Kh Q a)) hq) (λ f s6 d=>?_) λ _ _ z=>z.elim;cases f with
 |brk=>refine dt d λ _ _ _ z=>?_;exact z.elim
 |cont=>refine dt d λ _ _ _ z=>?_;exact z.elim
 |ret u=>refine eU d λ _ _ _ _ _ z=>?_;exact z.elim
 |next=>
  refine dt d λ ar σ S V=>?_;have i:=RH O.ok (XI S);refine bE (id i.loc) λ m8 D _=>?_;refine wpAny_nameGoes_keeps lk D (by rw[i.ok.kind];rfl) λ h9 v am ai=>?_;exact⟨_,σ,Sb i hN af D am ai,V⟩
theorem S_{OK:Str->Prop}{tN:TS}(hf:∀e s,X.xe e s->False)(G:lL X.p X.w X.K X.mg X.base k x g)(hr:bJ k X.A)(ha:XA X (e0::es) A)(Z:X.stack=X.v::X.outer)(O:X.v.frame=some X.v.locals)(hN:X.N.Nodup)(ag:X.N[ik]?=some xk)(lk:gf X xk)(af:Gl X J)(hW:X.mg J=some (.ref W))(ai:∀y C,X.mg y=some (.ref C)->OK y->exmOne X.K (.ref C) (.ref W)=some true)(hs:eL X orelse tN)(aa:swapsWith (.Call (.Name x p) (e0::es) [] pos) none p6.line X.v=pure false:=by rfl)(ah:df J:=by decide)(ac:df xk:=by decide)(aj:fA xk:=by decide)(hg:Gl X x:=by rfl)(ae:df x:=by decide)(he:iX X e0 es:=by rfl)(Y:iD X pos es:=by rfl):PS X (.Try [.Expr (.Call (.Name x p) (e0::es) [] pos) p6] [.ExceptHandler (some (.Name J p1)) (some xk) (b0::sr) p5] orelse [] p7)
   (λ Dn L H=>∃c H0 U ds ρ' r,RS X.K c H0 H U L/\A U=some (ds,ρ')/\g ds=some r/\match r with
    |.inl _=>∀aV H',aB H0 aV->RS X.K c aV H' ρ' L->tN Dn L H'
    |.inr y=>OK y.1/\∀C dd aV H',X.mg y.1=some (.ref C)->aB H0 aV->RS X.K c aV H' ρ' L->XD X.K aV H' y.2 dd->Cc X ik (b0::sr) Dn.nx L C dd H'):=by
 intro aA s L H Dn I z;refine gn λ j h=>?_;obtain⟨c,H0,U,ds,ρ',r,R,h1,h2,q⟩:=z;refine h ?_;refine wpAny_Try_except (wpAny_execs_cons (wpAny_Expr_any (zv (Rg hf G hr ha hg ae he Y I R h1 h2) (λ v a z=>?_) λ e a z=>?_) I.quiet aa))
 .obtain⟨d,_,aV,H',rfl,_,b,i,f,_⟩:=z;exact Zj (hs aA a L H' Dn b (q aV H' i f))
 .obtain⟨y,rfl,z⟩:=z;exact Pf Z O hN ag lk af hW ah ac aj (λ C m=>ai y.1 C m q.1) q.2 z
end
theorem R8(h:qu ds k=some q):∃w n r J m r0,0≤k∧ds[k.toNat]?=some (.t (w::n::r))∧ds[0]?=some (.t (J::m::r0))∧q=(.t (w::n::r),ds.set k.toNat (.t [.str "later",n,.t [m],.t [.int 1]])):=by grind[qu]
theorem RS.junk{K:Frag}(R:RS K c H0 H U L)(hi:Af U[i]?=true)(v:Option V):RS K c H0 H U (L.set i v):=by
 have q:∀(j:Nat)(J:Sl),U[j]?=some J->J≠.z->j≠i:=λ j J e n z=>by
  subst z;rw[e]at hi;cases J with
  |z=>exact n rfl
  |i=>cases hi
  |o=>cases hi
 refine⟨R.same,R.init,R.fresh,R.keep,R.apt,by rw[yk];exact R.len,λ j d e=>?_,λ j b o e=>?_,λ j k b O o f a e1 e2 e3 e4=>?_⟩
 .rw[zj (zy (q j _ e (λ z=>nomatch z)))];exact R.im j d e
 .rw[zj (zy (q j _ e (λ z=>nomatch z)))];exact R.ow j b o e
 .rw[zj (zy (q j _ e1 (λ z=>nomatch z)))]at e3;rw[zj (zy (q k _ e2 (λ z=>nomatch z)))]at e4;exact R.ne j k b O o f a e1 e2 e3 e4
theorem eN(q:0<=k)(e:vs[k.toNat]?=some v):kT vs k=some v/\kZ vs.length k=some k.toNat:=by grind[kZ,kT]
theorem tR(q:H p=none)(e:H b=some u):upd H p o b=some u:=by rw[bS (fF e q)];exact e
section
noncomputable abbrev r8(y xk:Str)(q7 q8 q9 q10:Pos):Expr:=.Subscript (.Name y q7) (.Attribute (.Name xk q8) "at" q9) q10
noncomputable abbrev r_(y xr:Str)(j1:Nat)(t1 t2:Pos)(j2:Nat)(t3 t4 t5:Pos)(j3:Nat)(t6 t7:Pos)(j4:Nat)(t8 t9:Pos)(x1:Nat)(ta:Pos)(j5:Nat)(tb:Pos)(x2:Nat)(tc:Pos)(x3:Nat)(td:Pos):Expr:=.Tuple [.Constant (.str "later") j1 t1,.Subscript (.Name xr t2) (.Constant (.int 1) j2 t3) t4,.Tuple [.Subscript (.Subscript (.Name y t5) (.Constant (.int 0) j3 t6) t7) (.Constant (.int 1) j4 t8) t9] x1 ta,.Tuple [.Constant (.int 1) j5 tb] x2 tc] x3 td
theorem UL{Nx:L2.St→Hp→Prop}(k0:XC X.K c0)(s1:mJ X.K c0 "at")(hN:X.N.Nodup)(hi:X.N[i]?=some y)(ai:X.N[ir]?=some xr)(al:X.N[ik]?=some xk)(n1:i≠ir)(n2:ik≠i)(n3:ik≠ir)(vy:gf X y)(vr:gf X xr)(vk:gf X xk)(Z:df y)(hd2:fA y)(av:df xr)(hd4:fA xr)(ag:df xk)(ap:fA xk)(aq:swapsWith (.Subscript (.Name y q2) (.Attribute (.Name xk q3) "at" q4) q5) (some (.Name xr q1)) q6.line X.v=pure false)(hs:swapsWithSole [r8 y xk q7 q8 q9 q10] (r_ y xr j1 t1 t2 j2 t3 t4 t5 j3 t6 t7 j4 t8 t9 x1 ta j5 tb x2 tc x3 td) te.line X.v=pure false)(hw:swappedStores [r8 y xk q7 q8 q9 q10] (r_ y xr j1 t1 t2 j2 t3 t4 t5 j3 t6 t7 j4 t8 t9 x1 ta j5 tb x2 tc x3 td) X.v=pure none)(R:RS X.K c H0 H U L)(af:U[i]?=some (.o false (.l ds)))(aw:Af U[ik]?=true)(an:ir<U.length)(hx:H dx=some (.xd [("at",.int k)]))(hq:qu ds k=some q)(ao:ik<L.length)(fin:∀aj aV H',aB H0 aV->RS X.K c aV H' ((U.set ir (.i q.1)).set i (.o false (.l q.2))) aj->Nx aj H'):Cc X ik [.Assign [.Name xr q1] (.Subscript (.Name y q2) (.Attribute (.Name xk q3) "at" q4) q5) q6, .Assign [r8 y xk q7 q8 q9 q10] (r_ y xr j1 t1 t2 j2 t3 t4 t5 j3 t6 t7 j4 t8 t9 x1 ta j5 tb x2 tc x3 td) te] Nx L c0 (some dx) H:=by
 refine gn λ G' k'=>?_;obtain⟨w,n,r,w0,m,r0,F,e1,e2,rfl⟩:=R8 hq;obtain⟨O,A,a1,a0,v,Y,t⟩:=R.ow i false _ af;refine bE (t.get e1) λ a3 B σ=>?_;refine bE (t.get e2) λ v0 ez rz=>?_;have ar:=σ;refine cM σ λ J ws h sk tk=>?_;refine k' ?_;obtain rfl:=h;refine cM rz λ z us j sz tz=>?_;obtain rfl:=j;refine cM tk λ vw wr l a6 ρ=>?_;obtain rfl:=l;refine cM ρ λ P a2 p as ay=>?_;obtain rfl:=p;refine cM tz λ uw ur s a4 W=>?_;obtain rfl:=s;refine cM W λ M a7 u au a5=>?_;obtain rfl:=u;intro a vx;refine⟨_,wg (ri hN ai (.inl vr) (rV gq (fT hi (.inl vy) Z hd2) (JY k0 s1 (fT al (.inl vk) ag ap) rfl) (λ _ _=>rfl)) aq (.inr vr))
  (qX (Dw (zC (iA uO (iA (rV jS (fT ai (.inl vr) av hd4) uz (λ _ _=>rfl)) (iA (zC (iA (rV jS (rV gq (fT hi (.inl vy) Z hd2) uz (λ _ _=>rfl)) uz (λ _ _=>rfl)) lB)) (iA (zC (iA uz lB)) lB)))))
   (Jt (fT hi (.inl vy) Z hd2) (JY k0 s1 (fT al (.inl vk) ag ap) rfl) J4) hs hw)),?_⟩
 have hl:=R.len;have ax:ir<(L.set ik (some (V.ref a))).length:=by rw[yk,<-hl];exact an
 have C:(L.set ik (some (V.ref a)))[i]?=some (some (.ref O)):=by rw[zj n2];exact A
 have D:(L.set ik (some (V.ref a)))[ik]?=some (some (.ref a)):=z0 ao;have E:((L.set ik (some (V.ref a))).set ir (some (.ref J)))[i]?=some (some (.ref O)):=by rw[zj (zy n1)];exact C
 have g4:((L.set ik (some (V.ref a))).set ir (some (.ref J)))[ik]?=some (some (.ref a)):=by rw[zj (zy n3)];exact D
 have g5:((L.set ik (some (V.ref a))).set ir (some (.ref J)))[ir]?=some (some (.ref J)):=z0 ax;refine⟨.ref O,C,.ref a,D,rfl,k,hx,O,v,k,.ref J,rfl,rfl,.inl (.inl Y),(eN F B).1,?_⟩;refine⟨.ref J,g5,J,_,1,P,rfl,rfl,aB.seqT R.same sk,(eN aQ rfl).1,?_⟩;refine⟨.ref O,E,O,v,0,.ref z,rfl,rfl,.inl (.inl Y),(eN aQ ez).1,z,_,1,M,rfl,rfl,aB.seqT R.same sz,(eN aQ rfl).1,(show 1<=sizeLine by decide),λ G e=>⟨(show 1<=sizeLine by decide),λ I g=>⟨(show 4<=sizeLine by decide),λ p3 f=>?_⟩⟩⟩;have x:=bY.alloc (o:=.t [M]) R.same e;have b:=bY.alloc (o:=.t [.int 1]) x.s' g;have d:=bY.alloc (o:=.t [.str "later",P,.ref G,.ref I]) b.s' f;have S:=(x.trans b).trans d;have Q:=R.after S;have k1:=eN F B;refine⟨.ref O,E,.ref a,g4,rfl,k,tR f (tR g (tR e hx)),O,v,k,k.toNat,rfl,rfl,tR f (tR g (tR e Y)),k1.2,?_⟩;have R2:=(Q.set ir (aU.mono S.s0 _ ar));have T:=R2.mutOwn (o':=.l (ds.set k.toNat (.t [.str "later",n,.t [m],.t [.int 1]]))) (by rw[zj (zy n1)];exact af) (by rw[zj (zy n1)];exact A) ⟨_,cF,BM (by
  refine⟨p3,_,rfl,.inl (.inl cF),?_⟩;refine aD.cons (uk _ _) (aD.cons (aU.mono S.s0 _ as) (aD.cons ?_ (aD.one ?_)))
  .exact⟨G,_,rfl,.inl (.inl (d.s0 _ _ (b.s0 _ _ cF))),aD.one (aU.mono S.s0 _ au)⟩
  .exact⟨I,_,rfl,.inl (.inl (d.s0 _ _ cF)),aD.one (gE _ _)⟩) _ (aD.mono S.s0 _ t)⟩
 refine fin _ _ _ S.s0 ?_;have ej:((L.set ik (some (V.ref a))).set ir (some (.ref J))).set ik none=(L.set ir (some (.ref J))).set ik none:=by rw[List.set_comm _ _ n3,List.set_set]
 rw[ej];refine T.junk ?_ none;rw[zj (zy n2),zj (zy n3)];exact aw
end
theorem VQ[Decidable c](h:(if c then x else none)=some d):c/\x=some d:=by grind
theorem RN(h:uM i ir U ds E (.inr y)=some r):∃k q,y=(kc,some (fy,.int k))∧qu ds k=some q∧r=.nx ((U.set ir (.i q.1)).set i (.o false (.l q.2))):=by
 unfold uM at h;split at h
 .rename_i e;simp at e
 .rename_i x f k e;simp at e;split at h
  .rename_i J;obtain⟨rfl,rfl⟩:=J;obtain⟨q,h1,h2⟩:=aP h;grind
  .simp at h
 .simp at h
section
variable{X:Cx}{xr xk y x:Str}{c0:Addr}{kk:Nat}{g:aK->Option (D⊕XV)}{E:FS}{orelse:jU}
 {p py pos p1 p5 p6 p7 q1 q2 q3 q4 q5 q6 q7 q8 q9 q10 t1 t2 t3 t4 t5 t6 t7 t8 t9 ta tb tc td te tf:Pos}{j1 j2 j3 j4 j5 x1 x2 x3:Nat}
theorem YW(i ir ik:Nat)(hf:∀e s,X.xe e s→False)(G:lL X.p X.w X.K X.mg X.base kk x g)(hr:bJ kk X.A)(hE:gA X orelse E)(hW:X.mg "NoWorks"=some (.ref c0))(ap:exmOne X.K (.ref c0) (.ref c0)=some true)(k0:XC X.K c0)(s1:mJ X.K c0 "at")(ag:X.stack=X.v::X.outer)(af:X.v.frame=some X.v.locals)(hN:X.N.Nodup)(am:Gl X "NoWorks":=by rfl)(hi:X.N[i]?=some y:=by rfl)(ak:X.N[ir]?=some xr:=by rfl)(ac:X.N[ik]?=some xk:=by rfl)(n1:i≠ir:=by decide)(n2:ik≠i:=by decide)(n3:ik≠ir:=by decide)(vy:gf X y:=by rfl)(vr:gf X xr:=by rfl)(vk:gf X xk:=by rfl)(Z:df y:=by decide)(hd2:fA y:=by decide)(ao:df xr:=by decide)(hd4:fA xr:=by decide)(Y:df xk:=by decide)(ae:fA xk:=by decide)(ah:swapsWith (.Subscript (.Name y q2) (.Attribute (.Name xk q3) "at" q4) q5) (some (.Name xr q1)) q6.line X.v=pure false:=by rfl)(hs:swapsWithSole [r8 y xk q7 q8 q9 q10] (r_ y xr j1 t1 t2 j2 t3 t4 t5 j3 t6 t7 j4 t8 t9 x1 ta j5 tb x2 tc x3 td) te.line X.v=pure false:=by rfl)(hw:swappedStores [r8 y xk q7 q8 q9 q10] (r_ y xr j1 t1 t2 j2 t3 t4 t5 j3 t6 t7 j4 t8 t9 x1 ta j5 tb x2 tc x3 td) X.v=pure none:=by rfl)(ai:swapsWith (.Call (.Name x p) [.Name y py] [] pos) none p6.line X.v=pure false:=by rfl)(hg:Gl X x:=by rfl)(al:df x:=by decide):XS X (.Try [.Expr (.Call (.Name x p) [.Name y py] [] pos) p6] [.ExceptHandler (some (.Name "NoWorks" p1)) (some xk) [.Assign [.Name xr q1] (.Subscript (.Name y q2) (.Attribute (.Name xk q3) "at" q4) q5) q6, .Assign [r8 y xk q7 q8 q9 q10] (r_ y xr j1 t1 t2 j2 t3 t4 t5 j3 t6 t7 j4 t8 t9 x1 ta j5 tb x2 tc x3 td) te] p5] orelse [] p7) (JV i ir ik g E):=by
 refine PS.wk (S_ (OK:=λ y=>y="NoWorks") hf G hr (ef (xv i hi (.inl vy) Z hd2) fE) ag af hN ac vk am hW (λ y C m hy=>?_) hE ai aQ Y ae hg al) λ Dn L H⟨c,H0,U,r,R,f,q⟩=>?_
 .grind
 refine gn λ G' W=>?_;refine bE (aP f) λ h h1 f=>?_;obtain⟨⟨one,O,rl⟩,f⟩:=VQ f;refine bE (aP f) λ z h2 f=>?_;have J:=Tr h1;have V:=(fC.mp J).1;refine ui (R.asList J) λ a vs t F u _ B _ σ=>?_;refine W ?_;have T:aC (eV i) aN (U.set i (.i (.l h)))=some ([.l h],U.set i (.i (.l h))):=by unfold aC eV;rw[z0 V];rfl
 refine⟨c,_,_,_,_,z,σ,T,h2,?_⟩;cases z with
 |inl d=>
  intro aV H' o b;obtain⟨n,R2⟩:=R.backL J one t F u B o b;exact eW c _ U r R2 f (q.mono n)
 |inr y=>
  refine cM (RN f) λ k w j ρ l=>?_;obtain rfl:=j;obtain rfl:=l;refine⟨rfl,λ C dd aV H' m o b D=>?_⟩;obtain rfl:c0=C:=Value.ref.inj (qi (hW.symm.trans m));cases dd with
  |none=>exact D.elim
  |some dx=>
   refine bE D λ v rv hx=>?_;obtain rfl:v=.int k:=rv;obtain⟨n,R2⟩:=R.backL J one t F u B o b;have P:=R.len;have Q:ik<L.length:=by
    rw[<-P];cases e:U[ik]? with
    |none=>rw[e]at O;cases O
    |some sl=>exact(fC.mp e).1
   exact UL k0 s1 hN hi ak ac n1 n2 n3 vy vr vk Z hd2 ao hd4 Y ae ah hs hw R2 J O rl hx ρ Q λ S H1 I s3 M=>q S H1 I (n.trans s3) M
end
end
end Lake
namespace Lake.L2
open PySem.Spec PyProof.Rows
set_option maxRecDepth 8000 in
theorem Sk(l:Addr)(xs:g9)(n:Nat)(b:Addr)(ys:g9)(m:Nat)(O:Array (kC))(h0:¬(!xs.isEmpty&&Builtin.List.listTooLong (xs.size+ys.size))=true)(h1:xs.size<=sizeLine)(h2:xs.size+ys.size<=sizeLine+1):Meets (Builtin.«list.extend» ⟨[.ref l,.ref b],[]⟩) (λ _ R s=>s.heap.get? l=some {cls:=.type "list",data:=.seq xs n}∧s.heap.get? b=some {cls:=.type "list",dict:=none,data:=.seq ys m,slots:=O}∧R (.ok (.ret Value.none)) {s with heap:=s.heap.update l (Obj.mapSeq λ x=>x++ys),toks:=s.toks}):=
 .of_wp λ prog w A R s h=>by
  obtain⟨Y,g,d,tk,os⟩:=s;obtain⟨q,J,h⟩:=h;have hz:=Array.size_append▸h2;wp_walk using(Yl q rfl),Zi q,Zi J;exact⟨_,rfl,h⟩
section
variable{X:Cx}
def VA(K:Frag):V->List V->Hp->VK->Prop:=λ x vs H Q=>∃l b xs zs,x=.ref l/\vs=[.ref b]/\H l=some (.l xs)/\dz K H b zs/\xs.length+zs.length<=sizeLine/\Q .n (upd H l (.l (xs++zs)))
theorem Wr:HL X "list.extend" (VA X.K):=by
 intro aA s L H x w v us Q I g f h;obtain⟨l,b,xs,zs,rfl,rfl,O,a,t,q⟩:=h;subst g;obtain⟨u,rfl,d⟩:=f.one;subst d;obtain⟨_,J,n,r,p,e⟩:=I.lstM O;obtain⟨ys,Y,⟨⟨k,dd,o,i⟩,m,e2,Z,hd,c⟩,_⟩:=I.list a;subst Z;subst hd;subst c;have j:=Y.length;have big:J.toArray.size+ys.toArray.size<=sizeLine:=by rw[zi,zi];lia
 refine call_meets F.slot_list_extend ⟨_,e,rfl⟩ F.entry_list_extend (F.args_list_extend_2 _ _)
  (Sk l J.toArray n b ys.toArray m i (by grind[R3]) (by grind) aE) ⟨e,e2,?_⟩
 refine⟨.n,_,I.lset O e bP (r.append Y) ?_,rfl,q⟩;rw[zm];lia
end
end Lake.L2
namespace Lake
section
open PySem.Spec PyProof.Rows L2
section
theorem Y_(i:Nat)(he:XE X e F)(hN:X.N[i]?=some x:=by rfl)(hv:gk X.v.scope x:=by exact i7)(hd:df x:=by decide)(ag:fA x:=by decide)(O:vW X (.Name x p1) "extend":=by rfl)(aa:E5 X Y [e]:=by rfl)(J:(p2.endLine==Y.line)=true:=by rfl)(Z:iX X e []:=by rfl)(af:iD X Y []:=by rfl)(hs:swapsWith (.Call (.Attribute (.Name x p1) "extend" p2) [e] [] Y) none pos.line X.v=pure false:=by rfl):XS X (.Expr (.Call (.Attribute (.Name x p1) "extend" p2) [e] [] Y) pos) (u7 i F):=
 PS.wk (KI (L0 PySem.F.plainAttrs_list PySem.F.slot_list_extend PySem.F.type_list_extend Wr (fT hN hv hd ag) (iA he lB Z) O aa J Z af) hs) λ Dn L H n=>by
  refine cB n λ c H0 U r R f q=>?_;obtain⟨G,t,f⟩:=aP f;obtain⟨⟨d,p⟩,h1,f⟩:=aP f;obtain⟨xs,h2,f⟩:=aP f;obtain⟨I,j,f⟩:=aP f;obtain⟨K,s⟩:=bM f;subst s;obtain⟨a,h,_,_,o,B,_⟩:=R.ow i _ _ (n_ t);refine⟨.ref a,h,.inl ⟨rfl,o,dz.of B⟩,c,H0,U,d,p,R,h1,λ v H1 D w g u=>?_⟩;cases d with
  |l zs=>
   obtain rfl:=aW h2;obtain⟨b,A,rfl,y,k⟩:=u;obtain⟨E,l,_,_,z,C,m⟩:=g.ow i _ _ (n_ j);rw[h]at l;cases l;have σ:=m.length;have M:=k.length;refine⟨a,b,z,A,rfl,rfl,C,aB.seq g.same y,?_,?_⟩
   .have:(1000:Nat)<=sizeLine:=aQ
    lia
   .exact q L _ _ w (g.mutOwn (n_ j) h ⟨_,cF,m.app k⟩)
  |_=>cases h2
theorem W8(hm:X.mg "list"=none)(he:XE X e F)(hg:Gl X "list":=by rfl)(Y:iX X e []:=by rfl)(aa:iD X pos []:=by rfl):pM X (.Call (.Name "list" p) [e] [] pos) (qT (eF rX (aC F aN))):=
 PE.wk (xc G_ hg hm PyProof.Rows.boot_list (iA he lB Y) aQ aQ Y aa) λ L H Q O=>by
  refine bN O λ c H0 U A n R f q=>?_;obtain⟨⟨d,u⟩,f,h⟩:=aP f;obtain⟨⟨y,w⟩,h1,f⟩:=aP f;obtain⟨z,h2,f⟩:=aP f;cases f;obtain⟨⟨x,o⟩,k,h1⟩:=aP h1;obtain⟨⟨ys,r⟩,m,h1⟩:=aP h1;cases h1;cases m;refine bG c H0 U x _ R k λ v H1 g j Z i=>?_;cases x with
  |l xs=>
   obtain rfl:=aW h2;cases h;obtain⟨a,J,rfl,s,t⟩:=i;exact cD a J rfl (.inl (aB.seq Z.same s)) λ l b=>q l J H1 g j Z b t
  |t xs=>
   obtain rfl:=aW h2;cases h;obtain⟨a,J,rfl,s,t⟩:=i;exact cD a J rfl (.inr (aB.seqT Z.same s)) λ l b=>q l J H1 g j Z b t
  |_=>cases h2
end
section
variable{X:Cx}{bM:e_}
theorem JB(R:RS X.K c H0 H U L)(f:se js i T F U=some (d,ρ'))(q:∀ds vs H2 cV,d=.l ds->ρ'=U->aB H0 H2->RS X.K c H2 cV U L->aD X.K H2 ds vs->Qf vs cV):∃a,L[i]?=some (some (.ref a))/\(∃vs,dz X.K H a vs)/\pI js (jZ X.K T) (tE X.K F) L Qf (xQ X.K a) H:=by
 refine gn λ z r=>?_;refine bE (aP f) λ ds h1 f=>?_;refine bE (aP f) λ fr n f=>?_;refine bE (aP f) λ ys o f=>?_;obtain⟨p,f⟩:=Lake.bM f;cases f;obtain⟨b,h1⟩:=KO h1;obtain⟨a,e1,_,_,vs,e4,t⟩:=R.ow i b _ h1;refine r ?_;refine fj a e1 ⟨vs,.inl (.inl e4)⟩ ?_;refine L6 R n o p (λ aV H' j s l=>?_) λ vs H2 cV w R2 u=>q _ vs H2 cV rfl rfl w R2 u;obtain⟨g,O,_,_,J,Z,k⟩:=l.ow i b _ h1;have m:g=a:=by rw[e1]at O;have:=qi (qi O);cases this;rfl
 subst m;have Y:dz X.K H' g J:=.inl (.inl Z);refine⟨λ d e=>?_,λ h=>⟨J,Y,by rw[<-k.length];exact h⟩⟩;refine bE (k.get e) λ v y A=>?_;refine⟨⟨J,v,Y,y⟩,λ x H''⟨k1,k2⟩=>⟨k1,?_⟩⟩;grind
theorem SO(j i:Nat)(hN:X.N.Nodup)(hc:X.c=true)(Z:X.v.scope=sc)(B:fu X.N sc scope x aY js)(ht:∀s H C fp,nt (dR X (x::aY) scope s H C fp) bM T)(he:∀s H C fp,XE (dR X (x::aY) scope s H C fp) elt F)(hi:X.N[i]?=some y:=by rfl)(hv:gk X.v.scope y:=by exact i7)(hd:df y:=by decide)(O:fA y:=by decide)(hj:X.N[j]?=some z:=by rfl)(hz:gf X z:=by rfl)(aa:swapsWith (.ListComp elt [⟨.Name x px,.Name y py,bM,0⟩] scope pos) (some (.Name z pz)) spos.line X.v=pure true:=by rfl)(hs:∀v,foldedSetIterable (.Name y py) X.v v=pure v:=by intro _;rfl):XS X (.Assign [.Name z pz] (.ListComp elt [⟨.Name x px,.Name y py,bM,0⟩] scope pos) spos) (bH j (se js i T F)):=
 PS.wk (w_ (tt:=jZ X.K T) (te:=tE X.K F) hN hj hz hc Z B (CN (fT hi hv hd O)) ht he aa hs) λ Dn L H J=>by
  refine cB J λ c H0 U r R f q=>?_;obtain⟨⟨d,m⟩,h1,f⟩:=aP f;have g:=f;obtain rfl:=aW g;obtain⟨a,e1,e2,e3⟩:=JB (Qf:=λ ys H'=>∀a,H' a=none->Dn.nx (L.set j (some (.ref a))) (upd H' a (.l ys))) R h1 λ n b H2 cV e Y l R2 k=>λ p h=>by
   subst e;subst Y;have S:=bY.alloc (o:=.l b) R2.same h;refine q _ _ _ (l.trans S.s0) ((R2.after S).set j ?_);exact cD p b rfl (.inl (.inl cF)) (aD.mono S.s0 _ k)
  exact⟨_,e1,a,rfl,e2,e3⟩
theorem SS(j i:Nat)(hN:X.N.Nodup)(hc:X.c=true)(ae:X.v.scope=sc)(B:fu X.N sc scope x aY js)(ht:∀s H C fp,nt (dR X (x::aY) scope s H C fp) bM T)(he:∀s H C fp,XE (dR X (x::aY) scope s H C fp) elt F)(hi:X.N[i]?=some y:=by rfl)(hv:gk X.v.scope y:=by exact i7)(hd:df y:=by decide)(ac:fA y:=by decide)(hj:X.N[j]?=some z:=by rfl)(hz:gf X z:=by rfl)(Z:swapsWith (.ListComp elt [⟨.Name x px,.Name y py,bM,0⟩] scope pos) (some (.Name z pz)) spos.line X.v=pure true:=by rfl)(hs:∀v,foldedSetIterable (.Name y py) X.v v=pure v:=by intro _;rfl):XS X (.Assign [.Name z pz] (.ListComp elt [⟨.Name x px,.Name y py,bM,0⟩] scope pos) spos) (mS j (qT (se js i T F))):=
 PS.wk (w_ (tt:=jZ X.K T) (te:=tE X.K F) hN hj hz hc ae B (CN (fT hi hv hd ac)) ht he Z hs) λ Dn L H O=>by
  refine cB O λ c H0 U r R f q=>?_;obtain⟨⟨J,Y⟩,h1,f⟩:=aP f;obtain⟨⟨d,o⟩,h1,h2⟩:=aP h1;have h:=f;obtain rfl:=aW h;obtain⟨a,e1,e2,e3⟩:=JB (Qf:=λ ys H'=>∀a,H' a=none->Dn.nx (L.set j (some (.ref a))) (upd H' a (.l ys))) R h1 λ t n H2 cV g b m R2 l=>λ p k=>by
   subst g;subst b;have e:=h2;cases e;exact q _ _ _ m (R2.setOwn j k ⟨n,cF,l⟩)
  exact⟨_,e1,a,rfl,e2,e3⟩
end
end
section
noncomputable def oT(ks:aM)(ds:aK):aK:=(ks.zip ds).map λ p=>.t [.str p.1,p.2]
def EE(g:GD)(B:FS)(U:En)(o:Option (aM×List D)):cC:=aH o λ q=>c4 g B (oT q.1 q.2) U
def EF(g:GD)(B:FS)(o:bB):cC:=aH o λ p=>EE g B p.2 (oO p.1)
def ER(g:GD)(F:FE)(B:FS)(U:En):cC:=EF g B (F U)
@[simp] theorem cH7:(∀g F B U,ER g F B U=EF g B (F U))/\(∀g B x U,EF g B (some (x,U))=EE g B U (oO x))/\(∀g B U q,EE g B U (some q)=c4 g B (oT q.1 q.2) U):=fz
noncomputable def hd4:aK->Bool
 |.t [_,_,_,_]::_=>true
 |_=>false
def hd2:aK->Bool
 |.t [_,_]::_=>true
 |_=>false
open PySem.Spec PyProof.Rows L2
theorem Nc:∀{aI:fO}{J:m4}{i:Nat}{k:Key}{x:Value},KV aI J->J[i]?=some (k,x)->∃v,aI[i]?=some (k,v)/\aT v x
 |_,_,_,_,_,.nil,e=>by simp at e
 |_,_,0,k,x,.cons (a:=p) (b:=q) h t,e=>by
  have e:q=(k,x):=by simpa using e
  subst e;exact⟨p.2,by grind⟩
 |_,_,i+1,_,_,.cons h t,e=>by
  obtain⟨v,q⟩:=Nc t (by simpa using e);exact⟨v,by simpa using q⟩
def BD(a:Addr)(ob:Obj)(aI:fO):It:=
 ⟨λ i H=>i<aI.length/\H a=some (.frz ob (.dK aI)),λ i H x H'=>∃k v p,aI[i]?=some (k,v)/\x=.ref p/\H p=none/\H'=upd H p (.t [kV k,v]),λ i H=>aI.length<=i/\H a=some (.frz ob (.dK aI))⟩
theorem Ak(I:aJ X aA L H s)(ea:H a=some (.frz ob (.dK aI))):∃vs ep,s.heap.DictAt (gc X.p X.w) a vs ep/\KV aI vs/\(a==sysModules)=false/\s.heap.get? a=some ob/\ob.ExactDict/\∃es,ob.data=.dict es ep:=by
 obtain⟨b,z,h,vs,Z,g,q,Y,c,J,O,d,f,e⟩:=(show bC X.p X.w H s.heap a (.frz ob (.dK aI))from I.hok a _ ea);have e1:=qi (c.symm.trans b);subst e1;exact⟨vs,Y,⟨g,q,b,J,O,d,f,e⟩,Z,h,b,J,q,O⟩
theorem cp2{P:Program}{w:World}{K:Frag}{ac:e_}{x1:Nat}{pt:Pos}(a it:Addr)(ob:Obj)(aI:fO)(es:Array DictEntry)(ep:Nat)(af:ob.data=.dict es ep):gX P w K (.Tuple ac x1 pt) (BD a ob aI) [it] it (λ i h=>∃x y,IsItemIter h it a i aI.length ep x y)where
 mem:=List.mem_singleton.mpr rfl
 obj:=λ i h J b c=>by
  obtain⟨x,y,st⟩:=J;rw[pb c];exact⟨_,st,λ v z=>by cases z⟩
 keep:=λ i h h'⟨x,y,st⟩k=>⟨x,y,k it (List.mem_singleton.mpr rfl) _ st⟩
 item:=λ X u B t G i aA s L H E I A J O=>by
  obtain⟨x,y,st⟩:=J;obtain⟨hi,g⟩:=O;subst u B t;obtain⟨d,j,ρ,l,m,r⟩:=A it (List.mem_singleton.mpr rfl);obtain⟨D,Q,f,Z,_,_,_,R,Y⟩:=Ak I g;rw[af]at Y;cases Y;have len:=Z.length;obtain⟨⟨k,v⟩,hx⟩:∃p,D[i]?=some p:=⟨D[i]' aE,by simp⟩;obtain⟨C,e3,rv⟩:=Nc Z hx;refine wpAny_pyNext_items_item (by rw[<-len];exact st) f hx λ F h1 N k1 k2 k3 k4=>⟨_,rfl,?_⟩
  have V:H s.heap.n=none:=I.hok.fresh (qj _);refine wpAny_letOwnedTupleGo_items (s:={s with heap:=h1}) k1 λ h2 S sb=>?_;have lt:it<s.heap.n:=qm st;have σ:aJ X aA L (upd H s.heap.n (.t [kV k,C])) {s with heap:=s.heap.push {cls:=.type "tuple",data:=.seq #[F,v]}}:=
   I.laid (t':=s.toks) (λ b o q=>qd _ q) (qj _) (show bC X.p X.w _ _ _ (.t [kV k,C])from⟨by show(2:Nat)<=sizeLine;decide,[F,v],.cons (DK N) (.cons rv .nil),eG.new _ _⟩)
  have M:aJ X aA L (upd H s.heap.n (.t [kV k,C])) {s with heap:=h2}:=σ.turned (t':=s.toks) (λ b q c e=>(sb.2 b c).trans (by
   rcases Y5 e with⟨z1,z2⟩|z
   .rw[z1,z2];exact k2
   .exact k4 b q c z)) (by rw[bS (Ql lt)];exact d) j l m r
  exact⟨.ref s.heap.n,_,M,rfl,⟨_,_,_,e3,rfl,V,rfl⟩,⟨_,_,by rw[len];exact S⟩,λ b c=>by rw[pb c,bS (Ql lt)];exact d⟩
 done:=λ X u B t G i aA s L H E I A J O=>by
  obtain⟨x,y,st⟩:=J;obtain⟨hi,g⟩:=O;subst u B t;obtain⟨d,j,ρ,l,m,r⟩:=A it (List.mem_singleton.mpr rfl);obtain⟨D,Q,f,Z,_,_,_,R,Y⟩:=Ak I g;rw[af]at Y;cases Y;have len:=Z.length;exact wpAny_pyNext_items_end (I.ok.hd G) (by rw[<-len];exact st) f (Qa aE) λ h' T=>⟨rfl,I.turned (t':=s.toks) (λ b o c e=>T b o c e) d j l m r⟩
 self:=λ _ _ _ _ _⟨_,_,st⟩h=>PySem.W.kcp_self st h
theorem ci8(hd:(d==sysModules)=false):MeetsIn P w (Builtin.«dict.items» ⟨[.ref d],[]⟩) (λ _ R s=>s.TypeIs (.ref d) "dict"∧∀h',(∀b o,s.heap.get? b=some o->h'.get? b=some o)->h'.IsItemsView s.heap.n d->h'.n=s.heap.n+1->R (.ok (.ret (.ref s.heap.n))) {s with heap:=h'}):=
 .of_wp λ A R s J=>by
  obtain⟨ty,q⟩:=J;refine qb (qb (wpAny_notOrdered_dict ty (show wpAny _ _ (pure d) _ _ s from qc (show wpAny _ _ (Builtin.Dict.showsAll d >>= _) _ _ s from ?_))));unfold Builtin.Dict.showsAll;rw[hd];exact qb (qc (qb (yh (qc ⟨_,rfl,q _ (λ b o e=>qd _ e) ⟨_,qk _ rfl,rfl,rfl⟩ (Zy ..)⟩))))
def cL0(t:TE):TI:=λ L H R=>t L H λ x H1=>∃a ob aI,x=.ref a/\H1 a=some (.frz ob (.dK aI))/\R (BD a ob aI) H1
theorem cz3{X:Cx}{l:Expr}{tl:TE}{aa:e_}{x1:Nat}{pt apos cpos:Pos}(hl:PE X l tl)(Y:vW X l "items")(O:(apos.endLine==cpos.line)=true):PI X (.Tuple aa x1 pt) (.Call (.Attribute l "items" apos) [] [] cpos) (cL0 tl):=by
 intro aA s L H R I h;refine wpAny_Call_method0_late Y O (bT (hl aA s L H _ I h) λ v c m=>?_);refine gn λ C z=>?_;obtain⟨x,H1,f,A,a,ob,aI,e,j,q⟩:=m;subst e;cases A;obtain⟨σ,u,K,r,B,k,g,es,i⟩:=Ak f j;refine z ?_;have len:=r.length;have ty:c.TypeIs (.ref a) "dict":=⟨ob,k,g.1⟩;refine⟨"dict","dict.items",PySem.F.plainAttrs_dict,PySem.F.slot_dict_items,PySem.F.type_dict_items,ty,λ b q=>by cases q;exact⟨ob,k,g.2.1⟩,Yk rfl (PySem.evalArgs_none ?_)⟩;refine call_meetsIn PySem.F.slot_dict_items ty PySem.F.entry_dict_items (PySem.F.args_dict_items_1 _) (ci8 B) ⟨ty,λ h1 k1 y M=>?_⟩;have d:aJ X aA L H1 {c with heap:=h1}:=f.kept (t':=c.toks) k1;obtain⟨D,G,t,p,_,_,_,E,J⟩:=Ak d j;rw[i]at J;cases J;have Z:=p.length;refine wpAny_pyIter_items (s:={c with heap:=h1}) y t ?_;refine⟨h1.n,[h1.n],_,_,H1,rfl,d.kept (t':=c.toks) λ b o e=>qd _ e,cp2 a _ ob aI es u i,⟨.none,.none,?_⟩,λ b w=>?_,q⟩
 .rw[Z];exact qk _ rfl
 .rw[pb w];exact d.fpOk (qj _) (d.hok.fresh (qj _))
theorem ck6{K:Frag}(ea:H1 a=some (.frz ob (.dK ((ks.map Sum.inr).zip vs))))(r:aD K H1 ds vs)(l:ks.length=ds.length):yY K (BD a ob ((ks.map Sum.inr).zip vs)) H1 (oT ks ds):=λ H0 H i s s'=>by
 have O:=s' _ _ (s _ _ ea);have m:=r.length;have k:((ks.map Sum.inr).zip vs:fO).length=ks.length:=by rw[ji,qx];lia
 have j:(oT ks ds).length=ks.length:=by unfold oT;rw[qx,ji];lia
 refine⟨λ d e=>?_,λ h=>⟨by lia,O⟩⟩;unfold oT at e;rw[zl]at e;cases z:(ks.zip ds)[i]? with
 |none=>rw[z]at e;cases e
 |some q=>
  rw[z]at e;obtain rfl:=aW e;obtain⟨Y,g⟩:=List.getElem?_zip_eq_some.mp z;have hi:=(fC.mp Y).1;refine bE (r.get g) λ v c f=>?_;refine⟨⟨by lia,O⟩,λ x H' J=>?_⟩;refine dN J λ k' v' p e1 ex Z b=>?_;obtain⟨e2,e3⟩:=List.getElem?_zip_eq_some.mp e1;rw[zl,Y]at e2;obtain rfl:Sum.inr q.1=k':=qi e2;rw[c]at e3;obtain rfl:v=v':=qi e3;subst ex b;have S:=bY.alloc (o:=.t [kV (Sum.inr q.1),v]) s' Z;refine⟨_,S,?_⟩;exact⟨p,_,rfl,.inl (.inl cF),aD.cons (by rfl) (aD.one (aU.mono (s.trans S.s0) _ f))⟩
section
variable{X:Cx}{pos:Pos}{F:FE}{B:FS}
theorem ZL(hg:XG X (.Tuple J x1 pt) g)(ha:XE X a F)(hb:gA X O B)(Z:vW X a "items":=by rfl)(Y:(ap.endLine==cp.line)=true:=by rfl)(hp:PassesOwn (model X.p X.w) X.A X.v X.xe:=by exact Zk)(hc:X.c=true:=by rfl)(hs:∀x,foldedSetIterable (.Call (.Attribute a "items" ap) [] [] cp) X.v x=pure x:=by intro _;rfl):XS X (.For (.Tuple J x1 pt) (.Call (.Attribute a "items" ap) [] [] cp) O [] pos) (ER g F B):=PS.wk (u_ hp hc (cz3 ha Z Y) hg hb hs) λ Dn L H h=>by
 refine cB h λ c H0 U r R f q=>?_;obtain⟨⟨d,i⟩,h1,f⟩:=aP f;obtain⟨⟨s,p⟩,h2,f⟩:=aP f;cases fH h2;refine⟨c,H0,U,_,i,R,h1,λ v H1 n m b j=>?_⟩;obtain⟨a,o,t,rfl,e,k,l⟩:=j;exact⟨a,o,_,rfl,b.same _ _ e,D1 b f (ck6 e k l) (q.mono m)⟩
end
end
end Lake
namespace Lake.L2
open PySem.Spec PyProof.Rows
theorem aa1:∀l:bO,TriplesOk l->codeAmong pos (l++[rawInt a,rawInt b,c])=codeAmong pos l\/(codeAmong pos l=none/\codeAmong pos (l++[rawInt a,rawInt b,c])=some c)
 |[],_=>by
  simp only[Zl,codeAmong,rawInt];split
  .exact .inr ⟨trivial,rfl⟩
  .exact .inl rfl
 |[x],h=>by cases x<;>exact False.elim h
 |[x,y],h=>by cases x<;>first|exact False.elim h|(cases y<;>exact False.elim h)
 |x::y::z::r,h=>by
  cases x with
  |int i t=>
   cases y with
   |int k u=>
    simp only[List.cons_append,codeAmong];split
    .exact .inl rfl
    .exact aa1 r h
   |_=>exact False.elim h
  |_=>exact False.elim h
noncomputable abbrev vK(TabQ:Str)(q:Arguments)(J:Expr)(scope:Scope)(Y:Value)(c':Addr)(O:Value):Obj:=PySem.W.kla_obj "<lambda>" TabQ q J scope [] Y c' O
theorem cz5(an:(TabP,TabQ)∈Tabs)(I:aJ X aA L H s)(hc:X.v.code=.ref c)(C:PySem.W.CodeHd X.base c TabP)(am:closureFor scope X.v=pure [])(h:∀(f c':Addr)(H':Hp)(s':Shared)(pm Y:Value),aJ X ((f,vK TabQ J Z scope pm c' Y)::aA) L H' s'->aB H H'->H' c'=some (.cod TabQ)->X.s₀.heap.n<=f->Q (.ref f) s'):wpAny M A (makeFunction "<lambda>" TabQ J (.expr Z) scope X.v [] [] [] pos fl) Q E s:=by
 have l:=I.base.tbls _ _ (I.ok.tab _ _ an);obtain⟨ps,m,D,R⟩:=(show bC X.p X.w H s.heap TabP (.tbl TabQ)from I.hok _ _ l);have x:=I.ok.mod.glob.keeps I.bk;obtain⟨bm,ob,b1,b2,b3,S,b5,G⟩:=I.ok.mod.bm;have k:=I.bk _ _ b3;have ap:bm≠TabP:=λ q=>by rw[q,m]at k;obtain rfl:=aW k;simp at S
 have ao:mainGlobals≠TabP:=λ q=>by
  obtain⟨o,es,ep,e,hd,_⟩:=x;rw[q,m]at e;obtain rfl:=aW e;simp at hd
 have ai:bm≠mainGlobals:=λ q=>by
  obtain⟨o,es,ep,e,hd,_⟩:=x;rw[<-q,k]at e;obtain rfl:=aW e;rw[hd]at G;simp at G
 have T:s.heap.BuiltinsAt X.mg TabP:=⟨bm,ob,b1,b2,ai,ap,k,S,b5,G⟩;rcases R pos with z|⟨c',z,y⟩
 .refine PySem.W.kla_makeFunction am I.ok.glob x hc (C.keeps I.bk) m D z ao T λ c' Y h' K hx F P V σ=>?_;have O:=I.hok.fresh F;have a:=Q2 (j0 F P);have ρ:∀b,H b=none->b≠TabP:=λ b n q=>by rw[q,l]at n;simp at n
  let B:Obj:=vK TabQ J Z scope ((X.mg "__name__").getD .none) c' Y
  have up:∀b o,h'.get? b=some o->(h'.push B).get? b=some o:=λ b o e=>qd _ e;have ah:eD X.p X.w (upd H c' (.cod TabQ)) (h'.push B):=λ b o e=>by
   by_cases j:b=c'
   .subst j;rw[cF]at e;obtain rfl:=aW e;obtain⟨d,oc,vs,t,e1,e2,r⟩:=V;cases e1;exact⟨_,oc,vs,t,rfl,up _ _ e2,r⟩
   .rw[bS j]at e;by_cases N:b=TabP
    .subst N;rw[l]at e;obtain rfl:=aW e;refine⟨_,up _ _ σ,?_,λ pos'=>?_⟩
     .have:=TriplesOk_snoc pos.line pos.col (.ref c') ps.toList D;simpa using this
     .have q:(ps++#[rawInt pos.line,rawInt pos.col,.ref c']).toList=ps.toList++[rawInt pos.line,rawInt pos.col,.ref c']:=bP;rw[q];rcases aa1 ps.toList D with w|⟨_,w⟩
      .rw[w];rcases R pos' with v|⟨c2,v,v2⟩
       .exact .inl v
       .exact .inr ⟨c2,v,by rw[bS (fF v2 O)];exact v2⟩
      .exact .inr ⟨c',w,cF⟩
    .refine(I.hok b o e).stay (λ d v hd q=>up _ _ (hx d v ?_ q)) (λ d q=>by rw[bS (fF q O)];exact q) (λ d xs q=>by rw[bS (fF q O)];exact q) λ d xs q=>by rw[bS (fF q O)];exact q
     rcases hd with rfl|hd
     .exact N
     .intro w;rw[w,l]at hd;simp at hd
  have u:Un X.fs [] H (upd H c' (.cod TabQ)) s.heap (h'.push B):=by
   refine⟨λ b o e n _ _=>up _ _ (hx b o (ρ b n) e),λ b o e n _ _=>⟨o.slots,up _ _ (hx b o (ρ b n) e)⟩,λ b o e n _=>?_,λ b o e _=>?_,λ b xs q=>by rw[bS (fF q O)];exact q,λ b o xs q=>by rw[bS (fF q O)];exact q,λ b xs q=>by rw[bS (fF q O)];exact q⟩
   .rw[bS (Ql (Nat.lt_of_lt_of_le (Yj e) F))];exact n
   .by_cases j:b=TabP
    .exact⟨_,up _ _ (by rw[j];exact σ)⟩
    .exact⟨o,up _ _ (hx b o j e)⟩
  have i:aJ X aA L (upd H c' (.cod TabQ)) {s with heap:=h'.push B,toks:=K}:=I.un u ah;refine h h'.n c' _ _ ((X.mg "__name__").getD .none) Y (i.pins_of λ p g=>?_) (λ b o e=>by rw[bS (fF e O)];exact e) cF (qy I.sz a);rcases qt g with rfl|g
  .refine⟨qk _ rfl,?_,jz (qp I.lt a),I.nofs a,λ v=>by nofun⟩;rw[bS (jz P)];exact I.hok.fresh a
  .exact i.pin p (qo _ g)
 .refine PySem.W.kla_makeFunctionHit am I.ok.glob x hc (C.keeps I.bk) m D z T λ Y h' K hk a=>?_;have i:aJ X aA L H {s with heap:=h'.push (vK TabQ J Z scope ((X.mg "__name__").getD .none) c' Y),toks:=K}:=I.kept (λ b u e=>qd _ (hk b u e));refine h h'.n c' H _ ((X.mg "__name__").getD .none) Y (i.pins_of λ p g=>?_) (aB.refl _) y (qy I.sz a);rcases qt g with rfl|g
  .exact⟨qk _ rfl,I.hok.fresh a,jz (qp I.lt a),I.nofs a,λ v=>by nofun⟩
  .exact i.pin p (qo _ g)
theorem cu5{K:Frag}(hr:bJ (k+1) A)(e0:gw P w K mg base A outer s H)(hf:s.heap.get? f=some (vK TabQ O Y scope pm c' ae))(hc:H c'=some (.cod TabQ))(S:aG N ps scope)(hb:BindsTo s (PySem.W.kla_fn "<lambda>" TabQ O Y scope [] pm (.ref c') ae) args (ps.zip us))(hl:vs.length=ps.length)(r:aS vs us)(aa:bJ k (A.deeper (envOfC TabQ scope s.heap.n f (.ref c')))->∃t,PE (f_ CX P w K mg base N TabQ scope f (.ref c') A outer s H E) Y t/\t (start N vs) H Q):codeAny (model P w) A (.call (.ref f) args) (CR CX outer P w H s Q E) s:=by
 have g:=e0.mod.nolimit.keeps λ b o e=>(e0.bs b o e).1;have d:=e0.hok c' _ hc;have Z:∀y∈ps.zip us,scope.names.lookup y.1=some .local\/(scope.names.lookup y.1=some .cell/\((cellsFrom (s.heap.n+1) scope.names []).lookup y.1).isSome=true):=λ c m=>by
  obtain⟨n,v⟩:=c;rcases S.par n (Ym m).1 with q|q
  .exact .inl q
  .exact .inr ⟨q,Yg _ _ _ (.inl q)⟩
 refine PySem.W.kla_callFunE hr.depth hf rfl S.co S.gen rfl d (hb _ _ _ _ ?_);refine wpAny_newFunctionEnv_cells S.kind Z λ h i s1 x=>?_;subst i;refine⟨g.keeps x.toInCall.keep,PySem.W.kla_codeExpr ?_⟩;obtain⟨t,l,j⟩:=aa (hr.deeper _);have I:aJ (f_ CX P w K mg base N TabQ scope f (.ref c') A outer s H E) [] (start N vs) H s1:=Iy S hr.hd e0 hl r x;refine zv (l [] s1 (start N vs) H _ I j) (λ u s' a=>?_) λ e s' a=>a;refine cM a λ v H' J p q=>?_;exact⟨v,H',J.os,J.bare,J.base,J.hok,p,q⟩
end Lake.L2
namespace Lake
section
noncomputable def fB:D->Bool
 |.int _=>true
 |.str _=>true
 |_=>false
def fL(F:FE)(x:D):Option (aK):=match F [.i x]with
 |some (.t ks,_)=>if ks.all fB=true then some ks else none
 |_=>none
theorem MK(h:fL F x=some ks):∃U,F [.i x]=some (.t ks,U)/\ks.all fB=true:=by
 unfold fL at h;split at h
 .rename_i a b e;by_cases z:a.all fB=true
  .rw[if_pos z]at h;obtain rfl:=aW h;exact⟨_,e,z⟩
  .rw[if_neg z]at h;simp at h
 .simp at h
theorem k8(h:fL F x=some ks):ks.all fB=true:=by obtain⟨_,_,z⟩:=MK h;exact z
def c9(F:FE):Option (D×List D)->List D->Option D
 |none,[]=>some .n
 |some p,[]=>some p.1
 |none,x::r=>aH (fL F x) λ k=>c9 F (some (x,k)) r
 |some b,x::r=>aH (fL F x) λ k=>if dC k b.2=true then c9 F (some (if eK k b.2=true then(x,k)else b)) r else none
def ZV(F:FE)(x:D)(k:aK)(r:aK):Option (D×List D)->Option D
 |none=>c9 F (some (x,k)) r
 |some b=>if dC k b.2=true then c9 F (some (if eK k b.2=true then(x,k)else b)) r else none
theorem nF(h:c9 F o (x::r)=some d):∃k,fL F x=some k/\ZV F x k r o=some d:=by
 cases o with
 |none=>exact aP h
 |some b=>exact aP h
def sG(F:FE):aK->Option D
 |[.l xs]=>if xs.all fB=true then c9 F none xs else none
 |_=>none
theorem co9{F:FE}{ds:aK}{d:D}(h:sG F ds=some d):∃xs,ds=[.l xs]/\xs.all fB=true/\c9 F none xs=some d:=match ds,h with|[.l xs],h=>by have h:(if xs.all fB=true then c9 F none xs else none)=some d:=h;by_cases q:xs.all fB=true;rw[if_pos q]at h;exact⟨xs,rfl,q,h⟩;rw[if_neg q]at h;cases h
open PySem.Spec PyProof.Rows L2
noncomputable def vF:D->V
 |.int i=>.int i
 |.str s=>.str s
 |_=>.n
section
variable{K:Frag}{H:Hp}
theorem cz2(h:fB d=true)(r:aU K H d v):v=vF d:=by cases d<;>first|(unfold aU at r;exact r)|cases h
theorem M4(h:fB d=true):aU K H d (vF d):=by cases d<;>first|(unfold aU vF;rfl)|cases h
theorem EA:∀{ds:aK}{vs:b_},ds.all fB=true->aD K H ds vs->vs=ds.map vF
 |[],_,_,r=>by exact r
 |d::ds,_,h,r=>by
  rw[Qr,ze]at h;obtain⟨v,vs,rfl,a,q⟩:=r;rw[cz2 h.1 a,EA h.2 q];rfl
theorem cu6(h:fB d=true)(r:aT (vF d) u):sM d u:=by cases d<;>first|exact r|cases h
theorem gF:∀{ds:aK}{us:bO},ds.all fB=true->aS (ds.map vF) us->eg ds us
 |[],_,_,r=>by cases r;exact .nil
 |d::ds,_,h,r=>by
  rw[Qr,ze]at h;cases r with
  |cons a q=>exact .cons (cu6 h.1 a) (gF h.2 q)
end
end
end Lake
namespace Lake.L2
open PySem.Spec PyProof.Rows
section
variable{X:Cx}{ps qs:cK}{L:St}{H:Hp}{s:Shared}
theorem aJ.sub(I:aJ X ps L H s)(h:∀q∈qs,q∈ps):aJ X qs L H s:=
 I.pins_of λ q J=>I.pin q (List.mem_append.mpr (.inr (h q J)))
theorem aJ.obj(I:aJ X ps L H s)(h:(a,o)∈ps):s.heap.get? a=some o:=(I.pin (a,o) (List.mem_append.mpr (.inr h))).1
structure eh(X:Cx)(ps:cK)(a:Addr):Prop where
 age:X.s₀.heap.n<=a
 one:∀p,p∈X.pn\/p∈ps->p.1≠a
theorem eh.fresh(I:aJ X ps L H s)(h:s.heap.n<=a):eh X ps a:=
 ⟨qy I.sz h,λ p q e=>by
  have:=qm (I.pin p (List.mem_append.mpr q)).1;rw[e]at this;exact absurd this (Nat.not_lt.mpr h)⟩
theorem eh.more(y:eh X ps a)(h:b≠a):eh X ((b,o)::ps) a:=
 ⟨y.age,λ p q=>by
  rcases q with h1|h1
  .exact y.one p (.inl h1)
  .cases h1 with
   |head=>exact h
   |tail _ h2=>exact y.one p (.inr h2)⟩
theorem aJ.became(I:aJ X ((a,o)::ps) L H s)(y:eh X ps a)(k:∀b v,b≠a->s.heap.get? b=some v->g.get? b=some v)(e:g.get? a=some u)(d:∀v,u.data≠.cell v):aJ X ((a,u)::ps) L H {s with heap:=g,toks:=n}:=by
 have P:=I.pin (a,o) (List.mem_append.mpr (.inr (.head _)));have C:∀x c,X.v.cells.lookup x=some c->c≠a:=λ x c q z=>by
  obtain⟨v,w,h1,h2⟩:=I.cell x c q;have O:w=o:=by rw[z,P.1]at h1;exact(qi h1).symm
  exact P.2.2.2.2 v (by rw[<-O];exact h2)
 have J:aJ X ps L H {s with heap:=g,toks:=n}:=(I.sub λ q h=>.tail _ h).turned k P.2.1 P.2.2.1 (.inr y.age) C λ p Y=>y.one p (qw Y);refine J.pins_of λ q Z=>?_;cases Z with
 |head=>exact⟨e,P.2.1,P.2.2.1,P.2.2.2.1,d⟩
 |tail _ h=>exact J.pin q (List.mem_append.mpr (.inr h))
theorem aJ.pinNew(I:aJ X ps L H s)(O:H a=none)(e:s.heap.get? a=some o)(d:∀v,o.data≠.cell v)(l:a≠X.v.locals)(f:a∉X.fs):aJ X ((a,o)::ps) L H s:=
 I.pins_of λ q J=>by
  cases J with
  |head=>exact⟨e,O,l,f,d⟩
  |tail _ h=>exact I.pin q (List.mem_append.mpr (.inr h))
end
abbrev ET(l:Addr)(j:Nat)(o:Obj):Prop:=o.cls=.type "list_iterator"∧o.data=.fields #[.ref l,.int j 0]
theorem MR:∀{xs:b_}{us:bO}{j:Nat}{v:V},aS xs us->xs[j]?=some v->∃u,us[j]?=some u/\aT v u
 |[],_,_,_,_,e=>by simp at e
 |x::xs,_,j,v,.cons h r,e=>by
  cases j with
  |zero=>
   have e:x=v:=by simpa using e
   subst e;exact⟨_,rfl,h⟩
  |succ j=>
   obtain⟨t,q⟩:=MR r (by simpa using e);exact⟨t,by simpa using q⟩
theorem JO{It l:Addr}(hd:A.handled=none)(y:eh X ps It)(I:aJ X ((It,o)::ps) L H s)(Y:ET l j o)(sq:dz X.K H l ns)(J:ns[j]?=none->∀s',aJ X ps L H s'->Q none s')(go:∀n u o' s',ns[j]?=some n->aT n u->ET l (j+1) o'->aJ X ((It,o')::ps) L H s'->Q (some u) s'):wpAny (model X.p X.w) A (pyNext (.ref It)) Q E s:=by
 refine a_ (I.list sq) λ D f Z _=>?_;have O:s.heap.IsListIter It l j:=⟨o,I.obj (.head _),Y.1,Y.2⟩;have len:=f.length.symm;cases q:ns[j]? with
 |none=>
  have B:D.toArray[j]?=none:=by rw[List.getElem?_toArray,List.getElem?_eq_none_iff,len];exact List.getElem?_eq_none_iff.mp q
  refine Yp hd O Z.isList B λ g x=>J q _ ?_;have P:=I.pin (It,o) (List.mem_append.mpr (.inr (.head _)));exact(I.sub λ r h=>.tail _ h).turned x P.2.1 P.2.2.1 (.inr y.age) (λ a c e z=>by
   refine dt (I.cell a c e) λ v w h1 h2=>?_;rw[z,P.1]at h1;exact P.2.2.2.2 v (by rw[jh h1];exact h2)) λ p m=>y.one p (qw m)
 |some n=>
  obtain⟨u,t,C⟩:=MR f q;refine Ye O Z.isList (by rw[List.getElem?_toArray];exact t) λ g st x=>?_;refine a_ st λ o' i c' d=>?_;exact go n u o' _ q C ⟨c',d⟩ (I.became y (λ b v k e=>(x.2 b k).trans e) i λ v=>by rw[d];nofun)
theorem EB(hx:xs.size<=2)(Y:ys.size<=2)(y:eh X ps S)(I:aJ X ((S,seqObj "list" xs c)::ps) L H s)(h:∀c' s',aJ X ((S,seqObj "list" ys c')::ps) L H s'→Q () s'):wpAny M A (updateSeq S λ _=>ys) Q E s:=by
 have e:=I.obj (.head _);have J:=yg s.heap S (Obj.mapSeq λ _=>ys);have big:2<=sizeLine:=aQ;exact Yl e rfl (h _ _ (I.became y (λ b v O q=>(J.2 b O).trans q) (get?_update_seq e λ _=>ys) λ v=>by nofun)) (qy hx big) (qy Y (Nat.le_succ_of_le big))
theorem cm9(O:A.units<cLine)(I:aJ X ps L H s)(J:k.all Lake.fB=true)(fm:m.all Lake.fB=true)(Y:Lake.dC k m=true)(Z:d7 X.K H a (k.map Lake.vF))(q:d7 X.K H b (m.map Lake.vF))(h:Q (.bool (Lake.eK k m)) s):wpAny (model X.p X.w) A (richCompare .Lt (.ref a) (.ref b)) Q E s:=by
 refine a_ (I.tuple Z) λ us c e _=>?_;refine a_ (I.tuple q) λ g d f _=>?_;exact Lake.jV e f (by simpa using Lake.gF J c) (by simpa using Lake.gF fm d) Y O h
def EV(X:Cx)(A:Around)(L:St)(f c':Addr)(TQ:Str)(fo:Obj)(F:Lake.FE):Prop:=
 ∀(ps:cK)(H:Hp)(s:Shared)(d:Lake.D)(u:Value)(ks:List Lake.D),Lake.fB d=true->Lake.fL F d=some ks->aT (Lake.vF d) u->aJ X ps L H s->(f,fo)∈ps->H c'=some (.cod TQ)->wpAny (model X.p X.w) A (call (.ref f) [u]) (λ w s'=>∃q H',w=.ref q/\aJ X ps L H' s'/\aB H H'/\d7 X.K H' q (ks.map Lake.vF)) (λ _ _=>False) s
inductive ig(K:Frag)(H:Hp):Option (Lake.D×List Lake.D)->Array Value->Prop
 |z:ig K H none #[]
 |yes (b:Lake.D) (ks:List Lake.D) (u:Value) (k:Addr) (fb:Lake.fB b=true) (fk:ks.all Lake.fB=true) (r:aT (Lake.vF b) u) (h:d7 K H k (ks.map Lake.vF)):ig K H (some (b,ks)) #[u,.ref k]
abbrev As(It f S:Addr):Code:=.builtin "min.loop" ⟨[.ref It,.ref f,.ref S],[(mz,.none)]⟩
section
variable{X:Cx}{A:Around}{L:St}{ps:cK}{f c' l S It:Addr}{fo:Obj}{TQ:Str}{F:Lake.FE}{ns:List Lake.D}
theorem cl3(hd:A.handled=none)(hu:A.in1.units<cLine)(fm:(f,fo)∈ps)(yS:eh X ps S)(yI:eh X ps It)(ne:S≠It)(ac:EV X A.in1 L f c' TQ fo F)(hF:ns.all Lake.fB=true)(R:Result->Shared->Prop):∀(r:List Lake.D)(j:Nat)(o:Option (Lake.D×List Lake.D))(xs:g9)(c:Nat)(oi:Obj)(H:Hp)(s:Shared)(d:Lake.D),Lake.c9 F o r=some d→ns.drop j=r→aJ X ((It,oi)::(S,seqObj "list" xs c)::ps) L H s→ET l j oi→dz X.K H l (ns.map Lake.vF)→H c'=some (.cod TQ)→ig X.K H o xs→(∀H' s' v,aJ X ps L H' s'->aB H H'->aT (Lake.vF d) v->(d=.n\/Lake.fB d=true)->R (.ok (.ret v)) s')->codeAny (model X.p X.w) A (As It f S) R s:=by
 have nm:(toString "min"++toString ".loop":String)="min.loop":=aQ;have un:A.under (As It f S)=A.in1:=yt Yh _;intro r;induction r with
 |nil=>
  intro j o xs c oi H s d Y t I ρ σ P Q g;have Z:(ns.map Lake.vF)[j]?=none:=by rw[zl,List.getElem?_eq_none_iff.mpr (List.drop_eq_nil_iff.mp t)];rfl
  apply yx PySem.F.entry_min_loop;rw[un];apply qb;apply Zs (I.obj (.tail _ (.head _))) rfl;apply qb;apply Zr;refine JO hd (yI.more ne) I ρ σ (λ _ s1 B=>?_) λ n _ _ _ e=>by rw[Z]at e;simp at e
  cases Q with
  |z=>
   obtain rfl:=aW Y;exact qb (Yc (qc (g H s1 .none (B.sub λ q h=>.tail _ h) (aB.refl _) rfl (.inl rfl))))
  |yes b a u k N E r q=>
   obtain rfl:=aW Y;apply qb;refine EB (qj _) (ym _) yS B λ _ s2 C=>?_;exact qb (wpAny_letGo (qc (g H s2 u (C.sub λ q h=>.tail _ h) (aB.refl _) r (.inr N))))
 |cons n r ih=>
  intro j o xs c oi H s d Y t I ρ σ P Q g;have lt:j<ns.length:=by
   cases Nat.lt_or_ge j ns.length with
   |inl h=>exact h
   |inr h=>rw[List.drop_eq_nil_iff.mpr h]at t;simp at t
  have two:ns[j]?=some n/\ns.drop (j+1)=r:=by
   rw[jf lt]at t;injection t with h1 h2
   exact⟨by rw[zt lt,h1],h2⟩
  have fn:=wm.mp hF n (zf two.1);obtain⟨a,hk,Y⟩:=Lake.nF Y;have E:=Lake.k8 hk;apply yx PySem.F.entry_min_loop;rw[un];apply qb;apply Zs (I.obj (.tail _ (.head _))) rfl;apply qb;apply Zr;refine JO hd (yI.more ne) I ρ σ (λ e=>by rw[zl,two.1]at e;simp at e) λ m u W s1 e ru ae B=>?_;have mn:Lake.vF n=m:=by rw[zl,two.1]at e;exact qi e
  subst mn;apply qb;apply Zr;apply zr;refine zv (ac _ H s1 n u a fn hk ru B (.tail _ (.tail _ fm)) P) (λ u2 s2 w=>?_) λ _ _ z=>z.elim;obtain⟨ka,H2,rfl,C,y,V⟩:=w;have M:aJ X ((S,seqObj "list" xs c)::(It,W)::ps) L H2 s2:=C.sub λ q h=>by
   cases h with
   |head=>exact .tail _ (.head _)
   |tail _ h=>cases h with
    |head=>exact .head _
    |tail _ h=>exact .tail _ (.tail _ h)
  have O:∀(G:Option (Lake.D×List Lake.D))(ys:g9)(i:Nat)(s3:Shared),aJ X ((S,seqObj "list" ys i)::(It,W)::ps) L H2 s3→ig X.K H2 G ys→Lake.c9 F G r=some d→codeAny (model X.p X.w) A (As It f S) R s3:=λ G ys i s3 x h4 same=>
   ih (j+1) G ys i W H2 s3 d same two.2 (x.sub λ q h=>by
    cases h with
    |head=>exact .tail _ (.head _)
    |tail _ h=>cases h with
     |head=>exact .head _
     |tail _ h=>exact .tail _ (.tail _ h)) ae (y.seq σ) (y _ _ P) h4 λ H' s' v J af ov=>g H' s' v J (y.trans af) ov
  have quiet:(As It f S).quiet=true:=jp Yh _;cases Q with
  |z=>
   apply qb;refine EB (ym _) (qj _) (yS.more (zy ne)) M λ i s3 x=>?_;rw[nm];exact qc ⟨quiet,O (some (n,a)) _ i s3 x (.yes n a u ka fn E ru V) Y⟩
  |yes b p ub ab N aa rb hb=>
   have Y:(if Lake.dC a p=true then Lake.c9 F (some (if Lake.eK a p=true then(n,a)else(b,p))) r else none)=some d:=Y;by_cases T:Lake.dC a p=true
   case neg=>rw[if_neg T]at Y;simp at Y
   rw[if_pos T]at Y;apply qb;apply Zr;apply zr;apply qb;refine cm9 hu C E aa T V (Lake.aB.seqT y hb) ?_;apply qb;apply zr;apply jk;apply qb;apply wpAny_letGo;apply qc;cases less:Lake.eK a p with
   |true=>
    rw[less,if_pos rfl]at Y;rw[if_pos rfl];apply qb;refine EB (qj _) (qj _) (yS.more (zy ne)) M λ i s3 x=>?_;rw[nm];exact qb (wpAny_letGo (qc ⟨quiet,O (some (n,a)) _ i s3 x (.yes n a u ka fn E ru V) Y⟩))
   |false=>
    rw[less,if_neg zh]at Y;rw[if_neg zh,nm];exact qb (wpAny_letGo (qc ⟨quiet,O (some (b,p)) _ c s2 M (.yes b p ub ab N aa rb (Lake.aB.seqT y hb)) Y⟩))
theorem cq7(a v u:Value):argsOk "min" ⟨[a],[(n6,v),(mz,u)]⟩:=by kernel_rfl
theorem cq6{H:Hp}{s:Shared}{Q:c8}{E:c8}{d:Lake.D}(hd:A.handled=none)(hu:A.in1.units<cLine)(fm:(f,fo)∈ps)(I:aJ X ps L H s)(Z:dz X.K H l (ns.map Lake.vF))(hc:H c'=some (.cod TQ))(O:EV X A.in1 L f c' TQ fo F)(hF:ns.all Lake.fB=true)(bf:Lake.c9 F none ns=some d)(out:∀H' s' v,aJ X ps L H' s'->aB H H'->aT (Lake.vF d) v->(d=.n\/Lake.fB d=true)->Q v s'):wpAny (model X.p X.w) A (call (.builtin "min") [.ref l] [(n6,.ref f),(mz,.none)]) Q E s:=by
 have nm:(toString "min"++toString ".loop":String)="min.loop":=aQ;obtain⟨k,_,j,_⟩:=I.list Z
 let q:Obj:={cls:=.type "list_iterator",data:=.fields #[.ref l,.int 0 0]}
 let h1:=s.heap.push q
 let h2:=h1.push (seqObj "list" #[] 0)
 have up:∀b u,s.heap.get? b=some u->h2.get? b=some u:=λ b u e=>qd _ (qd _ e);have Y:h1.n=s.heap.n+1:=size_push' ..;have c:s.heap.n<=h1.n:=by rw[Y];exact Zf _
 have g:aJ X ps L H {s with heap:=h2}:=I.kept (t':=s.toks) up;have put:∀{qs:cK}{a:Addr}{o:Obj},aJ X qs L H {s with heap:=h2}->s.heap.n<=a->h2.get? a=some o->(∀v,o.data≠.cell v)->aJ X ((a,o)::qs) L H {s with heap:=h2}:=λ J h e d=>
  J.pinNew (I.hok.fresh h) e d (jz (qp I.lt h)) (I.nofs h)
 have i:=put (put g (a:=h1.n) (o:=seqObj "list" #[] 0) c (qk _ rfl) (λ v=>by nofun)) (a:=s.heap.n) (o:=q) (qj _) (qd _ (qk _ rfl)) λ v=>by nofun
 apply kmk_tree PySem.F.kind_min PySem.F.plain_min PySem.F.entry_min (cq7 _ _ _);change wpAny (model X.p X.w) A.in1 (Builtin.Builtins.bindParams "min" ["key","default"] 0 ⟨[],[(n6,.ref f),(mz,.none)]⟩ >>= _) _ _ s;apply qb;rw[show Builtin.Builtins.bindParams "min" ["key","default"] 0 ⟨[],[(n6,.ref f),(mz,.none)]⟩=pure [some (.ref f),some .none]from rfl];apply qc;apply qb;apply qc;apply qb;apply wpAny_pyIter_list j.isList;apply qb;refine wpAny_newList (items:=[]) ?_ (ym sizeLine);rw[nm];apply qc;exact⟨jp Yh _,cl3 (ns:=ns) hd hu fm (eh.fresh I c) (eh.fresh I (qj _)) (by rw[Y];exact Nat.succ_ne_self _) O hF _ ns 0 none #[] 0 q H _ d bf rfl i ⟨rfl,rfl⟩ Z hc .z out⟩
end
end Lake.L2
namespace Lake
open PySem.Spec PyProof.Rows L2
theorem cz8(hr:bJ 2 X.A)(S:aG [x] [x] scope)(hb:∀(u pm c O:Value),bindArgs (PySem.W.kla_fn "<lambda>" TabQ q J scope [] pm c O) ⟨[u],[]⟩=pure [(x,u)])(Y:∀(f:Addr)(c:Value)(A:Around)(outer:fP)(s:Shared)(H:Hp)(E:XK),XE (f_ fX X.p X.w X.K X.mg X.base [x] TabQ scope f c A outer s H E) J F):EV X X.A.in1 L f c' TabQ (vK TabQ q J scope pm c' O) F:=by
 intro aA H s d u C B y G I z p;have t:=(I.pin _ (qo _ z)).1;obtain⟨U,n,k⟩:=MK y;refine Zt (jy (cu5 (Q:=λ v H'=>∃Z,v=.ref Z/\aB H H'/\d7 X.K H' Z (C.map vF)) hr.in1 I.env0.in1 t p S (.of_eq (hb _ _ _ _)) rfl (.cons G .nil)
  λ _=>⟨_,Y f (.ref c') X.A.in1 X.stack s H E0,⟨λ _=>none,H,[]⟩,λ _=>none,[.i d],_,_,RS.start (ds:=[d]) (m:=0) (λ b o e=>tD e) (aD.one (M4 B)) rfl,n,λ v aV H' i R g=>?_⟩) λ r s' h=>?_)
 .obtain⟨Z,σ,rfl,a,D⟩:=g;rw[EA k D]at a;exact⟨Z,rfl,λ b o e=>R.keep b o e bP,aB.seqT R.same a⟩
 .cases r with
  |error e=>exact False.elim h
  |ok l=>
   cases l with
   |ret u=>
    obtain⟨v,H',j,g,Z,rfl,i,a⟩:=I.after h;exact⟨Z,H',g,j,i,a⟩
   |next=>exact False.elim h
   |brk=>exact False.elim h
   |cont=>exact False.elim h
theorem Nk(hr:bJ 2 X.A)(ah:(TabP,TabQ)∈Tabs)(an:∃c,X.v.code=.ref c/\PySem.W.codeHdIn X.K c TabP=true)(S:aG [x] [x] scope)(hb:∀(u pm c af:Value),bindArgs (PySem.W.kla_fn "<lambda>" TabQ J lb scope [] pm c af) ⟨[u],[]⟩=pure [(x,u)])(Y:∀(f:Addr)(c:Value)(A:Around)(outer:fP)(s:Shared)(H:Hp)(E:XK),XE (f_ fX X.p X.w X.K X.mg X.base [x] TabQ scope f c A outer s H E) lb F)(hm:X.mg "min"=none)(ha:XA X [e] A)(hq:X.v.qual++"<lambda>"=TabQ:=by rfl)(as:closureFor scope X.v=pure []:=by rfl)(aa:defaultsOf J X.v=([],[]):=by rfl)(hg:Gl X "min":=by rfl)(he:backTo pos (starEach [e] X.v)=(false,eval e X.v)::backTo pos (starEach [] X.v):=by rfl)(ag:iD X pos [e]:=by rfl):XE X (.Call (.Name "min" p) [e] [⟨some "key",.Lambda J lb scope ae,ap⟩,⟨some "default",.Constant .none j cp,ak⟩] pos) (eF (sG F) A):=by
 intro aA s L H Q I hQ;refine gn λ G' k'=>?_;refine bN hQ λ c H0 U d g R z q=>?_;obtain⟨⟨D,ar⟩,h1,z⟩:=aP z;obtain⟨d',h2,z⟩:=aP z;have z':some (d',ar)=some (d,g):=z;cases z';obtain⟨cc,aq,T⟩:=an;refine k' ?_;refine Qt (rP I hg hm PyProof.Rows.boot_min ?_);refine callWith_kw (bT (ha pos aA s L H (λ r H'=>∃aV,aB H0 aV/\RS X.K c aV H' g L/\aD X.K aV D r) I ⟨c,H0,U,D,_,R,h1,λ r aV H' sm a n=>⟨aV,sm,a,n⟩⟩) λ us s1 O=>?_) he ag;obtain⟨r,G,B,rv,H1,ρ,a,n⟩:=O;refine kws_cons (PySem.W.kla_eval aa ?_);rw[hq];refine cz5 ah B aq (PySem.W.codeHd_of_K B.ok.mod.kin T) as λ f c' H2 s2 pm af σ Z P av=>?_;refine kws_cons (bT (LY _ s2 L H2 (λ v t=>v=.n/\t=H2) σ ⟨rfl,rfl⟩) λ u s3 O=>?_);refine ie O λ v3 t M au e3 e4=>?_;subst e3 e4;obtain rfl:u=Value.none:=au;refine kws_nil ?_;have hl:∃(l:Addr)(is:aK),us=[.ref l]/\dz X.K G l (is.map vF)/\is.all fB=true/\c9 F none is=some d:=by obtain⟨xs,rfl,i,V⟩:=co9 h2;obtain⟨v,rfl,r2⟩:=aD.v1 n;obtain⟨l,aw,rfl,k,r4⟩:=r2;rw[EA i r4]at k;obtain⟨u,rfl,ru⟩:=ic rv;exact⟨l,xs,by subst ru;rfl,a.same.seq k,i,V⟩
 obtain⟨l,is,rfl,k,i,bf⟩:=hl;refine cq6 hr.hd ?_ (.head _) M (Z.seq k) P (cz8 hr S hb Y) i bf λ y s4 v N C ov m=>?_
 .have:=hr.units;lia
 .have rp:aU X.K H1 d (vF d):=by
   rcases m with rfl|m
   .rfl
   .exact M4 m
  exact⟨vF d,y,N.sub λ q h=>.tail _ h,ov,q _ H1 y ρ (a.after ⟨aB.refl _,Z.trans C,a.same.trans (Z.trans C),λ b o e=>.inl e⟩) rp⟩
theorem Nf{K:Frag}{st:Stmt}(F:iz K x qual st f fd)(S:aG N ps (bA st))(hn:ps.length=n)(hN:N.length=n+m)(hb:∀(J:Value)(A:Around)(outer:fP)(s:Shared)(H:Hp)(E:XK),fd.code=J->bJ k (A.deeper (envOfC qual (bA st) s.heap.n f J))->gA (f_ fX P w K mg base N qual (bA st) f J A outer s H E).nox (gQ st) B):cR P w K mg base fX (k+1) f fd ps (qY K (di n m B)):=by
 obtain⟨M,T,kV,Y,ρ,I,J,ct,G,rfl,t,j⟩:=F.ex;have C:=F;have O:∀{b:aK}{d:D},di n m B b=some d->b.length=n/\∃r,B (b.map .i++List.replicate m .z)=some r/\vD r=some d:=λ{b d}h=>by
  unfold di at h;split at h
  .rename_i i;obtain⟨r,h1,h2⟩:=aP h;exact⟨i,r,h1,h2⟩
  .simp at h
 refine zX t j S (λ z H Q E h=>?_) λ A outer s H z Q E o h=>?_
 .refine dN h λ g b d _ r e _=>?_;rw[hn,<-r.length];exact(O e).1
 .refine dN h λ g b d p r e q=>?_;obtain⟨i,c,h1,h2⟩:=O e;refine⟨_,eL.nox (hb J A outer s H E rfl o),⟨g,H,[]⟩,g,_,c,RS.start p r (by rw[<-r.length];lia),h1,?_⟩;cases c with
  |nx a=>
   have Z:=qi h2;subst Z;exact λ l aV H' y R=>q .n aV H' R.step (by rfl)
  |rt σ a=>
   have Z:=qi h2;subst Z;exact λ v l aV H' y R u=>q v aV H' R.step u
  |bk a=>cases h2
  |ct a=>cases h2
end Lake
namespace Lake.L2
open PySem.Spec PyProof.Rows
theorem pL:∀{l:List (Addr×Str)},l.lookup b=some q->(b,q)∈l
 |[],h=>by cases h
 |(a,x)::r,h=>by
  rw[Jh]at h;by_cases z:(b==a)=true
  .rw[z]at h;obtain rfl:=aW h;rw[beq_iff_eq.mp z];exact .head _
  .rw[Bool.eq_false_iff.mpr z]at h;exact .tail _ (pL h)
theorem cn0{K:Frag}(KX:K.In J.heap)(aw:∀p q,(p,q)∈Tabs→Tabs.lookup p=some q)(hT:∀p q,(p,q)∈Tabs→J.heap.get? p=some (PySem.W.tabObj #[]))(ay:∀p q,(p,q)∈Tabs→K.lookup p=none)(aq:∀p q,(p,q)∈Tabs→∃cT,PySem.W.CodeHd J.heap cT p)(ai:J.heap.Ns mainGlobals mg)(Y:J.heap.Ns builtinsNs mb)(az:∀x:Str,x≠"__name__"→mb x=bootBuiltins x)(ak:J.heap.NoLimit)(hg:J.gens=#[])(ax:∃bm ob,mg "__builtins__"=some (.ref bm)∧bm≠builtinsNs∧J.heap.get? bm=some ob∧ob.cls=.type "module"∧ob.dict=some builtinsNs∧ob.data=.plain)(ha:J.heap.get? a=some {cls:=.type "list",data:=.seq vs.toArray})(hi:IntsAre vs ns)(hl:ns.length≤sizeLine)(hr:bJ k callerA)(F:∀base:Heap,K.In base->base.Ns mainGlobals mg->cR P w K mg base CX k fa fd [x] sp)(af:∀(s:Shared)(u:Value),BindsTo s fd ⟨[u],[]⟩ [(x,u)])(ar:∀H:Hp,dz K H a (ns.map V.int)->sp [.ref a] H (λ v _=>v=.b true) λ _ _ _=>False)(ap:∀H e s',CX [] H J (λ _ _ _=>False) e s'->False):codeAny (model P w) callerA (.call (.ref fa) ⟨[.ref a],[]⟩) (λ r s'=>r=.ok (.ret (.bool true))/\OldK J.heap s'.heap/\s'.os=J.os/\AllBare s'.gens) J:=by
 have σ:=eQ hi;have N:=hi.length;have S:Tabs.lookup a=none:=by
  cases q:Tabs.lookup a with
  |none=>rfl
  |some z=>have:=hT a z (pL q);rw[ha]at this;simp at this
 let lo:HO:=.frz {cls:=.type "list",data:=.seq vs.toArray} (.l (ns.map V.int))
 let c:Option HO->Hp:=λ o b=>match Tabs.lookup b with
  |some q=>some (.tbl q)
  |none=>if b=a then o else none
 have i:∀{o:Option HO}{b:Addr}{q:Str},Tabs.lookup b=some q->c o b=some (.tbl q):=λ{o b q}h=>by show(match Tabs.lookup b with|some q=>some (HO.tbl q)|none=>if b=a then o else none)=_;rw[h]
 have B:∀{o:Option HO}{b:Addr},Tabs.lookup b=none->c o b=if b=a then o else none:=λ{o b}h=>by show(match Tabs.lookup b with|some q=>some (HO.tbl q)|none=>if b=a then o else none)=_;rw[h]
 have y:∀o:Option HO,(o=none\/o=some lo)->dz K (c o) a (ns.map V.int)->(o≠none->K.lookup a=none)->codeAny (model P w) callerA (.call (.ref fa) ⟨[.ref a],[]⟩) (λ r s'=>r=.ok (.ret (.bool true))/\OldK J.heap s'.heap/\s'.os=J.os/\AllBare s'.gens) J:=by
  intro o ho hS hK
  let H:=c o
  have g:∀{b:Addr}{u:HO},H b=some u->(∃q,Tabs.lookup b=some q/\u=.tbl q)\/(b=a/\u=lo/\o≠none):=λ{b u}h=>by
   cases q:Tabs.lookup b with
   |some z=>have:=(i q).symm.trans h;obtain rfl:=aW this;exact .inl ⟨z,rfl,rfl⟩
   |none=>
    have h':=(B q).symm.trans h;by_cases Y:b=a
    .rw[if_pos Y]at h';rcases ho with e|e
     .rw[e]at h';simp at h'
     .rw[e]at h';obtain rfl:=aW h';exact .inr ⟨Y,rfl,by rw[e];simp⟩
    .rw[if_neg Y]at h';simp at h'
  have C:eD P w H J.heap:=λ b u h=>by
   rcases g h with⟨q,e1,e2⟩|⟨e1,e2,_⟩
   .subst e2;exact⟨#[],hT b q (pL e1),trivial,λ pos=>.inl rfl⟩
   .subst e1 e2;exact⟨ha,by rw[qx];exact hl,vs,_,σ,ha⟩
  have O:∀{b:Addr}{o:Obj},J.heap.get? b=some o->H b=none->(oJ J.heap H).get? b=some o:=λ e n=>Se e n;have E:∀{b:Addr}{o:Obj},J.heap.get? b=some o->(∀it n,o.data≠.seq it n)->(∀it,o.data≠.fields it)->H b=none:=λ{b o}e d1 d2=>by
   cases q:H b with
   |none=>rfl
   |some u=>
    rcases g q with⟨z,e1,_⟩|⟨e1,_⟩
    .rw[hT b z (pL e1)]at e;obtain rfl:=aW e;exact absurd rfl (d2 _)
    .subst e1;rw[ha]at e;obtain rfl:=aW e;exact absurd rfl (d1 _ _)
  have R:∀{b:Addr}{o:Obj}{es:Array DictEntry}{f:Nat},J.heap.get? b=some o->o.data=.dict es f->H b=none:=λ{b o es f}e d=>E e (by rw[d];nofun) (by rw[d];nofun);have Z:∀{b:Addr}{m:Str->Option Value},J.heap.Ns b m->(oJ J.heap H).Ns b m:=λ{b m}⟨o,es,f,e,d,r⟩=>⟨o,es,f,O e (R e d),d,r⟩
  have D:=λ b ob e=>O (KX b ob e) (by
   cases q:H b with
   |none=>rfl
   |some u=>
    rcases g q with⟨z,e1,_⟩|⟨e1,_,e3⟩
    .rw[ay b z (pL e1)]at e;simp at e
    .subst e1;rw[hK e3]at e;simp at e)
  obtain⟨bm,ob,ρ,X,G,b4,b5,j⟩:=ax;have hM:Mod K mg (oJ J.heap H):=⟨D,Z ai,⟨mb,Z Y,az⟩,(let ⟨mc,h1,h2⟩:=ak;⟨mc,Z h1,h2⟩),⟨bm,ob,ρ,X,O G (E G (by rw[j];nofun) (by rw[j];nofun)),b4,b5,j⟩⟩;have T:∀p q,(p,q)∈Tabs->H p=some (.tbl q):=λ p q h=>i (aw p q h);have e0:gw P w K mg (oJ J.heap H) callerA [] J H:=⟨rfl,hM,λ b o e=>Wo e,Nat.le_of_eq (Q_ _ _),trivial,λ b Y=>absurd (show b∈([]:fV)from Y) bP,C,.of_eq hg,T⟩;refine jy ((F _ D (Z ai)).run callerA [] J H ⟨[.ref a],[]⟩ [.ref a] [.ref a] _ _ hr e0 (af J (.ref a)) (.cons rfl .nil) (ar H hS)) λ r s' h=>?_;cases r with
  |error e=>exact(ap H e s' h).elim
  |ok fl=>
   cases fl with
   |next=>exact False.elim h
   |brk=>exact False.elim h
   |cont=>exact False.elim h
   |ret u=>
    obtain⟨v,H',os,Q,un,t,r',q⟩:=h;have q':=q;subst q';obtain rfl:u=Value.bool true:=r';have keep:∀b o,Tabs.lookup b=none->J.heap.get? b=some o->s'.heap.get? b=some o:=λ b o Y e=>by
     cases q:H b with
     |none=>exact un.keep b o e q (by intro z;exact absurd (show b∈([]:fV)from z) bP) bP
     |some u=>
      rcases g q with⟨z,e1,_⟩|⟨e1,e2,_⟩
      .rw[Y]at e1;simp at e1
      .subst e2;have z2:=un.frzs b _ _ q;obtain⟨M,_⟩:=C b _ q;obtain⟨x2,_⟩:=t b _ z2;rw[e]at M;obtain rfl:=aW M;exact x2
    refine⟨rfl,⟨λ b o e=>?_,λ b o e=>?_⟩,os,Q⟩
    all_goals
     cases Y:Tabs.lookup b with
     |none=>first|exact .inl (keep b o Y e)|exact⟨o,keep b o Y e⟩
     |some z=>
      obtain⟨ps,I,_⟩:=(show bC P w H' s'.heap b (.tbl z)from t _ _ (un.tbls _ _ (i Y)));have A:=hT b z (pL Y);obtain⟨cT,hC⟩:=aq b z (pL Y)
      first
      |exact⟨_,I⟩
      |(rw[A]at e;obtain rfl:=aW e;exact .inr (.inl ⟨(hC.tab A).isCodeTable,rfl,#[],ps,rfl,by rw[Array.empty_append];exact I⟩))
 cases l:K.lookup a with
 |some o=>
  have e:=KX a o l;rw[ha]at e;obtain rfl:=aW e;exact y none (.inl rfl) (.inr ⟨_,vs.toArray,_,l,rfl,rfl,rfl,by rw[zi,N];exact hl,by simpa using σ⟩) λ z=>absurd rfl z
 |none=>exact y (some lo) (.inr rfl) (.inl (.inr ⟨{cls:=.type "list",data:=.seq vs.toArray},(B S).trans (if_pos rfl)⟩)) λ _=>l
theorem walk_of2{l:OpenLaw}{K:Params->Frag}{CX:World->oz}{sp:World->Sp}(hn:l.most=some n)(ah:n<=sizeLine)(af:d.params.defaults=[])(hr:bJ k callerA)(aj:∀p q,(p,q)∈Tabs->Tabs.lookup p=some q)(hY:∀(w:World)(h:Heap),YP w h->(K w.params).In h)(ag:∀p q,(p,q)∈Tabs->∀(w:World)(h:Heap),YP w h->h.get? p=some (PySem.W.tabObj #[]))(ak:∀p q,(p,q)∈Tabs->∀w:World,(K w.params).lookup p=none)(hC:∀p q,(p,q)∈Tabs->∀w:World,∃c,PySem.W.codeHdIn (K w.params) c p=true)(F:∀(w:World)(mg:Str->Option Value)(fa:Addr)(h:Heap),(K w.params).In h->h.Ns mainGlobals mg->mg d.name=some (.ref fa)->∃fd:FuncData,(∀(s:Shared)(u:Value),BindsTo s fd ⟨[u],[]⟩ [(x,u)])/\∀base:Heap,(K w.params).In base->base.Ns mainGlobals mg->cR l.prog w (K w.params) mg base (CX w) k fa fd [x] (sp w))(ai:∀(w:World)(H:Hp)(a:Addr)(ns:ed),ns.length<=n->dz (K w.params) H a (ns.map V.int)->sp w [.ref a] H (λ v _=>v=.b true) λ _ _ _=>False)(ae:∀(w:World)(H:Hp)(s:Shared)(e:Value)(s':Shared),CX w [] H s (λ _ _ _=>False) e s'->False):PySem.W.WalkO q Z XP YP l.row.toRowW d [] (λ f vs=>PySem.call f vs):=by
 refine Att.attach_call hn af λ w j r mg σ fa o M E C a vs ns G Y I hd D t m O J B=>?_;have i:=hY w _ Y;obtain⟨fd,A,y⟩:=F w mg fa _ i G.T.g t;exact cn0 i aj (λ p q h=>ag p q h w _ Y) (λ p q h=>ak p q h w) (λ p q h=>let ⟨c,hc⟩:=hC p q h w;⟨c,PySem.W.codeHd_of_K i hc⟩) G.T.g G.T.b G.T.builtins G.T.nolimit B G.T.bmain m O (qy J ah) hr y A (λ H z=>ai w H a ns J z) λ H e s'=>ae w H r e s'
end Lake.L2
namespace Lake
section
noncomputable def EU:D->D->Option D
 |.t a,.t b=>if a.length+b.length<=1000/\0<b.length/\0<a.length then some (.t (a++b))else none
 |_,_=>none
@[simp] theorem cH2(a b:aK):EU (.t a) (.t b)=if a.length+b.length<=1000/\0<b.length/\0<a.length then some (.t (a++b))else none:=yI rfl
noncomputable def AA:aK->Option D
 |[.c ks _]=>if ks.length<=1000 then some (.int ks.length)else none
 |_=>none
open PySem.Spec PyProof.Rows L2
section
variable{X:Cx}
theorem ZU:ny X .Add EU:=⟨_,cu8,λ c H0 H U L x y d r s Q R i O e q=>by
 cases x with
 |t J=>
  cases y with
  |t bs=>
   obtain⟨⟨n,m,l⟩,rfl⟩:=bM (show(if J.length+bs.length<=1000/\0<bs.length/\0<J.length then some (D.t (J++bs))else none)=some d from e);obtain⟨a,xs,rfl,j,Y⟩:=i;obtain⟨b,ys,rfl,k,f⟩:=O;have big:(1000:Nat)<=sizeLine:=aQ;have g:=Y.length;have h:=f.length;refine⟨a,b,xs,ys,rfl,rfl,aB.seqT R.same j,aB.seqT R.same k,λ z=>?_,by lia,λ z=>?_,λ _ p Z=>?_⟩
   .rw[z,jb]at g;lia
   .rw[z,jb]at h;lia
   .have S:=bY.alloc (o:=.t (xs++ys)) R.same Z;refine q _ _ _ S.s0 (R.after S) ?_;exact⟨p,_,rfl,.inl (.inl cF),aD.mono S.s0 _ (Y.app f)⟩
  |_=>cases e
 |_=>cases y<;>cases e⟩
end
structure QS(K:Frag)(mg:Str→kC)(st:Stmt)(c0 c2 fI:Addr)(fd:FuncData):Prop extends QR K mg "NoWorks" "WellError" "at" "NoWorks.__init__" st c0 c2 fI fd where
 ee:PySem.W.exmOne K (.ref c0) (.ref c0)=some true
section
variable{X:Cx}
theorem MQ:∀{xs:b_}{us:bO},xs.length=us.length->(∀(i:Nat)(x:V)(u:Value),xs[i]?=some x->us[i]?=some u->aT x u)->aS xs us
 |[],[],_,_=>.nil
 |[],_::_,l,_=>by cases l
 |_::_,[],l,_=>by cases l
 |x::xs,u::us,l,h=>.cons (h 0 x u rfl rfl) (MQ (Nat.succ.inj l) λ i y v e f=>h (i+1) y v (by simpa using e) (by simpa using f))
theorem Xn(Z:X.c=true):bL X (.type "list") (λ xs H Q=>∃p o aI,xs=[.ref p]∧H p=some (.frz o (.dK aI))∧∀l,H l=none→Q (.ref l) (upd H l (.l (aI.map λ q=>kV q.1)))):=by
 intro aA s L H xs us Q I r h;obtain⟨p,o,aI,rfl,b,q⟩:=h;obtain⟨u,rfl,f⟩:=ic r;subst f;obtain⟨m,z,g,A,O,dd⟩:=(show bC X.p X.w H s.heap p (.frz o (.dK aI))from I.hok p _ b);obtain⟨j,a⟩:=dd.dictAt;have len:=O.length;refine PySem.W.kdl_call (PySem.W.kdl_dict g) (I.ok.hd Z) a aE λ h' t Y c' e d J=>?_;refine⟨.ref s.heap.n,_,I.laid (o:=.l (aI.map λ q=>kV q.1)) e (qj _) ⟨by rw[qx];exact z,Y.toList,c',MQ ?_ λ i x u ex c=>?_,by simpa using d⟩,rfl,q _ (I.hok.fresh (qj _))⟩
 .have:=J.1;simp;lia
 .refine dt (J.2 i u (by simpa using c)) λ k y e1 e2=>?_;obtain⟨v,e3⟩:=Ea O e1;rw[zl,e3]at ex;obtain rfl:=aW ex;exact DK e2
theorem co5(Y:X.c=true):i_ X (.type "list") Al:=⟨_,Xn Y,λ c H0 H U L g d i Q R r e q=>by
 unfold Al at e;split at e
 .rename_i b f;obtain rfl:=aW e;obtain⟨v,rfl,J⟩:=aD.v1 r;obtain⟨a,ob,us,rfl,Z,t,l⟩:=J;have h:=t.length;refine⟨a,ob,_,rfl,R.same _ _ Z,λ p O=>?_⟩;have e:(((b.map Sum.inr).zip us).map λ q=>kV q.1)=b.map V.str:=by rw[show(λ q:Key×V=>kV q.1)=kV∘Prod.fst from rfl,<-zu,yz (by rw[qx];lia),zu];rfl
  rw[e];have S:=bY.alloc (o:=.l (b.map V.str)) R.same O;refine q _ _ _ S.s0 (R.after S) ?_;exact⟨p,_,rfl,.inl (.inl cF),w6 _⟩
 .simp at e⟩
theorem ci2:bL X (.builtin "len") (λ xs H Q=>∃p o aI,xs=[.ref p]∧H p=some (.frz o (.dK aI))∧aI.length≤1000∧Q (.int aI.length) H):=by intro aA s L H xs us Q I r h;obtain⟨p,o,aI,rfl,a,b,q⟩:=h;obtain⟨u,rfl,O⟩:=ic r;subst O;obtain⟨Z,z,Y,c,J,dd⟩:=(show bC X.p X.w H s.heap p (.frz o (.dK aI))from I.hok p _ a);have len:=J.length;refine call_len_dict Y dd aE ⟨.int aI.length,H,I.tok _,⟨_,by rw[len]⟩,q⟩
theorem cr9:i_ X (.builtin "len") AA:=⟨_,ci2,λ c H0 H U L g d i Q R r e q=>by
 unfold AA at e;split at e
 .rename_i b f;obtain⟨h,rfl⟩:=bM e;obtain⟨v,rfl,J⟩:=aD.v1 r;obtain⟨a,ob,us,rfl,O,t,l⟩:=J;have Y:=t.length;have e:((b.map (Sum.inr:Str->Key)).zip us).length=b.length:=by rw[ji,qx];lia
  exact⟨a,ob,_,rfl,R.same _ _ O,by lia,by rw[e];exact q _ H0 H (aB.refl _) R (gE _ _)⟩
 .simp at e⟩
theorem ZK:gA X ss Ob:=λ _ _ _ _ _ _⟨_,_,_,_,_,f,_⟩=>tD f
end
end
section
noncomputable section
abbrev aZ(i:Nat)(k:Int):FE:=e2 bW (eV i) (zI k)
abbrev cG(s:Str):FE:=eC (.str s)
abbrev bD(k:Int):FE:=eC (.int k)
abbrev ia(x:FE):FT:=tB (e2 oU x (eC .n))
abbrev dk(x y:FE):FT:=tB (e2 jF x y)
def Ht:FS:=
 (bU (e2 jF (e2 mL (eV 1) (aZ 0 1)) (e2 jF (aZ 0 0) (cG "only"))))
def nM:aK->Option D:=di 2 0 Ht
abbrev gv:FA:=aC (eV 0) aN
abbrev iH:FA:=aC (eV 2) aN
abbrev OL:FT:=dD (dk (aZ 0 0) (cG "but")) (dk (aZ 1 0) (cG "but"))
def FI:FS:=
 (aR (bX OL
 (bU yW)
 sN)
 (aR (bX (dk (aZ 0 0) (cG "but"))
 (bU yW)
 sN)
 (aR (bH 2 (eF kE (aC (jG [1] (aZ 0 1) (tV (eF nM (aC (eV 1) gv))) (eV 0)) aN)))
 (bU (iV (tV (eV 2)) (cH (aC (cG "only") iH)) (eC .n))))))
def ti:aK->Option D:=di 2 1 FI
abbrev OT:FA:=aC (aZ 0 1) (aC (aZ 1 1) aN)
def wC:FS:=
 (aR (bX OL
 (bU (cH (aC (cG "but") (aC (eF kE (aC (eF ro OT) aN)) aN))))
 sN)
 (aR (bX (dk (aZ 0 0) (cG "but"))
 (bU (eF ti (aC (eV 1) gv)))
 sN)
 (aR (bH 2 (eF kE (aC (jG [1] (aZ 0 1) (tV (eF nM (aC (eV 1) gv))) (eV 0)) aN)))
 (bU (iV (tV (eV 2)) (cH (aC (cG "only") iH)) (eC .n))))))
def l7:aK->Option D:=di 2 1 wC
abbrev kg:FS:=bU (eC .n)
abbrev kG:FA:=aC (eV 1) aN
abbrev xo:FE:=e2 uW (eV 0) (eV 1)
def Fm:FS:=
 (aR (bH 2 (eF pZ kG))
 (aR (bH 3 (jG [2] (aZ 0 1) (tB xo) (eV 0)))
 (aR (bH 4 (Ej [2,0] (eV 2) (tB (e2 mL (e2 kU (eV 1) (eV 0)) (aZ 2 1))) (eV 0)))
 (aR (bH 5 (eF kE (aC (eF ph (aC (e2 c_ (eV 3) (eV 4)) aN)) aN)))
 (aR (bX (dD (dk (aZ 0 0) (cG "only")) (fU (tV (eV 5))))
 kg
 sN)
 (bU (cH (aC (aZ 0 0) (aC (eV 5) aN)))))))))
def vS:aK->Option D:=di 2 4 Fm
abbrev W4:FS:=
 (nc 2 (eV 3) (eC (.b true)))
abbrev k_:FA:=aC (eV 4) aN
def IU:FS:=
 (aR (wH 2)
 (aR (lu (gN 3) (eV 1)
 W4)
 (aR (bX (dk (aZ 0 0) (cG "only"))
 (aR (vM 2 (bH 4 (jG [2] (aZ 0 1) (tB xo) (eV 0))))
 (bU (eF (sG (cH (aC (eF iF gv) gv))) k_)))
 sN)
 Ob)))
def xV:aK->Option D:=di 2 3 IU
abbrev mB:FA:=aC (eV 3) aN
abbrev oo:FA:=aC (bD 0) aN
def e_3:FS:=
 (aR (bX (fU (tB (e3 oV l5 (bD 0) (eV 3) (eV 2))))
 kg
 sN)
 (aR (bH 4 (iV (ia (eV 0)) (eC .n) (e2 c_ (eV 0) (e2 dZ (e2 ij (eV 3) (eV 0)) (eV 2)))))
 (aR (bH 5 (iV (ia (eV 1)) (eC .n) (e2 ij (eV 1) (e2 dZ (e2 ij (eV 1) (eV 3)) (eV 2)))))
 (aR (bX (iG (ia (eV 4)) (ia (eV 5)))
 (bU (cH (aC (eV 4) (aC (eV 5) (aC (eV 2) mB)))))
 sN)
 (aR (bX (tB (e2 nK (eV 4) (eV 5)))
 kg
 sN)
 (aR (bX (dk (eV 4) (eV 5))
 (bU (cH (aC (eV 4) (aC (eV 5) (aC (bD 1) oo)))))
 sN)
 (bU (cH (aC (eV 4) (aC (eV 5) (aC (eV 2) mB)))))))))))
def kO:aK->Option D:=di 4 2 e_3
def QY:FS:=
 (bU (rR (qH (e2 oU (eV 1) (eC .n)) (e2 oV (eV 1) (eV 0))) (qH (e2 oU (eV 2) (eC .n)) (e2 oV (eV 0) (eV 2)))))
def N1:aK->Option D:=di 3 0 QY
abbrev GW:FA:=aC (aZ 0 0) (aC (aZ 0 1) aN)
def QE:FS:=
 (bU (rR (eF N1 (aC (eV 1) GW)) (e2 jF (e2 dZ (eV 1) (aZ 0 2)) (aZ 0 3))))
def y_5:aK->Option D:=di 2 0 QE
abbrev OJ:FS:=bX (iG (ia (eV 0)) (ia (eV 1)))
  (bU (iV (ia (eV 0)) (eV 1) (eV 0)))
  sN
def FD:FS:=
 (aR OJ
 (bU (eF nG (aC (eV 0) kG))))
def vY:aK->Option D:=di 2 0 FD
def Fz:FS:=
 (aR OJ
 (bU (eF oP (aC (eV 0) kG))))
def sP:aK->Option D:=di 2 0 Fz
abbrev GY:FA:=aC (aZ 0 3) aN
abbrev GX:FA:=aC (aZ 0 2) GY
def N4:FS:=
 (bU (eF kO (aC (eF vY (aC (aZ 0 0) kG)) (aC (eF sP (aC (aZ 0 1) iH)) GX))))
def sR:aK->Option D:=di 3 0 N4
def BG:FS:=
 (bU (eF sR (aC (eV 0) (aC (e2 c_ (eV 1) (bD 1)) (aC (eC .n) aN)))))
def wG:aK->Option D:=di 2 0 BG
def BA:FS:=
 (bU (eF sR (aC (eV 0) (aC (eC .n) (aC (e2 ij (eV 1) (bD 1)) aN)))))
def wF:aK->Option D:=di 2 0 BA
def E6:FS:=
 (aR (bH 3 (jG [2,1] (kK (eV 0) oN (oS (bD 2))) dP (iV (ia (eV 0)) (eC .n) (e2 c_ (e2 iR (eV 2) (eV 0)) (eV 1)))))
 (aR (bX (tB (e2 l5 (eV 1) (bD 0)))
 (bH 3 (fx (aC (aZ 3 1) (aC (aZ 3 0) aN))))
 sN)
 (aR (bH 4 (e2 iR (eF kM kG) (aZ 0 2)))
 (bU (eF kO (aC (aZ 3 0) (aC (aZ 3 1) (aC (eV 4) (aC (e2 dZ (e2 c_ (e2 iR (eV 1) (aZ 0 3)) (eV 2)) (eV 4)) aN)))))))))
def vP:aK->Option D:=di 3 2 E6
abbrev NM:FS:=
 (aR (bH 6 (e2 mO (eV 2) (eV 4)))
 (aR (bH 7 (e2 ij (eV 2) (e2 iR (eV 6) (eV 4))))
 (aR (bH 2 (eV 4))
 (aR (bH 4 (eV 7))
 (aR (bH 7 (e2 ij (eV 3) (e2 iR (eV 6) (eV 5))))
 (aR (bH 3 (eV 5))
 (bH 5 (eV 7))))))))
abbrev NL:FT:=
 (tB (e2 ly (eV 4) (bD 0)))
def NP:FS:=
 (aR (bH 2 (e2 dZ (eV 0) (eV 1)))
 (aR (bH 3 (bD 1))
 (aR (bH 4 (eV 1))
 (aR (bH 5 (bD 0))
 (aR (zB (λ U=>match U[1]? with|some (Sl.i (D.int m))=>m.toNat+2|_=>0) NL
 NM)
 (bU (cH (aC (eV 2) mB))))))))
def vR:aK->Option D:=di 2 6 NP
def EW:FS:=
 (aR (bX (dk (eV 1) (bD 0))
 (bU yW)
 sN)
 (aR (bH 3 (eF vR (aC (eV 1) (aC (aZ 0 2) aN))))
 (aR (bH 4 (aZ 3 0))
 (aR (bH 5 (e2 ij (aZ 0 3) (eV 2)))
 (aR (bX (tB (e2 ly (e2 dZ (eV 5) (eV 4)) (bD 0)))
 kg
 sN)
 (aR (bH 6 (e2 mO (aZ 0 2) (eV 4)))
 (aR (bH 7 (iV (tB (e2 nK (eV 1) (bD 0))) (fx GW) (fx (aC (aZ 0 1) (aC (aZ 0 0) aN)))))
 (aR (bH 8 (iV (ia (aZ 7 0)) (eC .n) (e1 pQ (e2 mO (e2 ij (eV 2) (aZ 7 0)) (eV 1)))))
 (aR (bH 9 (iV (ia (aZ 7 1)) (eC .n) (e2 mO (e2 ij (aZ 7 1) (eV 2)) (eV 1))))
 (bU (eF kO (aC (eV 8) (aC (eV 9) (aC (eV 6) (aC (e2 dZ (e2 iR (e2 mO (eV 5) (eV 4)) (aZ 3 1)) (eV 6)) aN)))))))))))))))
def qq:aK->Option D:=di 3 7 EW
def Ft:FS:=
 (aR (bH 2 (eF qq (aC (eV 1) GX)))
 (aR (bX (ia (eV 2))
 kg
 sN)
 (bU (eF sR (aC (eF vP (aC (eV 2) GX)) GW)))))
def vU:aK->Option D:=di 2 1 Ft
abbrev G1:FA:=aC (e1 pQ (eV 0)) aN
def MG:FS:=
 (bU (eF (sG (cH (aC (eF kM gv) G1))) gv))
def uQ:aK->Option D:=di 1 0 MG
abbrev G0:FT:=tB (e2 kj (eV 2) (eC .n))
abbrev G3:FA:=aC (aZ 1 0) aN
def BI:FS:=
 (aR (bH 1 (eF wG (aC (eV 0) (aC (e1 pQ (bD 1)) aN))))
 (aR (bH 2 (eF wF (aC (eV 0) oo)))
 (aR (mS 3 (AV (ia (eV 1)) (qD aN) (qD G3)))
 (aR (bX G0
 (kx 3 (aZ 2 1))
 sN)
 (kv 3 (bU (eF uQ mB)))))))
def wL:aK->Option D:=di 1 3 BI
def tH:FS:=
 (aR (bX (iG (ia (eV 0)) (ia (eV 3)))
 kg
 sN)
 (aR (bH 1 (eF nG (aC (eV 1) oo)))
 (aR (bX (dD G0 (tB (e2 oV (eV 2) (eV 1))))
 kg
 sN)
 (bU (cH (aC (eV 0) (aC (eV 1) (aC (eV 2) mB))))))))
def gB:aK->Option D:=di 4 0 tH
def HJ:FS:=
 (aR (bH 2 (eF l7 (aC (aZ 0 0) G3)))
 (aR (bH 3 (eF vU (aC (aZ 0 3) (aC (aZ 1 3) aN))))
 (bU (eF gB (aC (eV 2) (aC (eF nG OT) (aC (eF sP (aC (aZ 0 2) (aC (aZ 1 2) aN))) mB)))))))
def kX:aK->Option D:=di 2 2 HJ
def ID:FS:=
 (bU (eF gB (aC (cH (aC (cG "only") (aC (cH (aC (aZ 0 1) aN)) aN))) (aC (aZ 0 0) (aC (e2 c_ (aZ 0 0) (bD 1)) (aC (eF kO (aC (aZ 0 2) (aC (aZ 0 2) (aC (bD 1) oo)))) aN))))))
def uv:aK->Option D:=di 1 0 ID
def JU:FS:=
 (bU (cH (aC (aZ 0 1) (aC (eF xV (aC (aZ 0 0) (aC (fx aN) aN))) (aC (eF wL GY) aN)))))
def uD:aK->Option D:=di 1 0 JU
abbrev oj:FE:=e2 kj (eV 0) (eC .n)
def C5:FS:=
 (aR (bX (ia (eV 1))
 (bU (fx aN))
 sN)
 (aR (bH 2 (jG [1] (eV 0) dP (eF kX (aC (eV 0) kG))))
 (bU (jG [] (eV 2) (tB oj) (eV 0)))))
def o9:aK->Option D:=di 2 1 C5
abbrev xm:FE:=eC (.t [(.str "but"),(.t [])])
abbrev GS:FA:=aC (eC (.t [.n,.n,(.int 1),(.int 0)])) aN
abbrev OM:FT:=iG (dk (eV 1) (cG "only")) (dk (eV 1) (cG "but"))
abbrev G4:FA:=aC (aZ 2 1) aN
def E1:FS:=
 (aR (bH 1 (aZ 0 0))
 (aR (bH 2 (aZ 0 3))
 (aR (bX (dk (eV 1) (cG "time"))
 (bU (eF gB (aC xm (aC (aZ 2 0) (aC (aZ 2 1) GS)))))
 sN)
 (aR (bX OM
 (bU (eF gB (aC (cH (aC (eV 1) (aC (eF kE (aC (eF ph iH) aN)) aN))) (aC (bD 0) (aC (eC .n) GS)))))
 sN)
 (aR (bX (dk (eV 1) (cG "span"))
 (bU (eF gB (aC xm (aC (bD 0) (aC (eC .n) (aC (eF kO (aC (aZ 2 0) (aC (aZ 2 1) (aC (bD 1) oo)))) aN))))))
 sN)
 (aR (bX (dk (eV 1) (cG "rest"))
 (bU (eF gB (aC xm (aC (bD 0) (aC (eC .n) (aC (eF kO (aC (eC .n) (aC (eC .n) (aC (aZ 2 0) G4)))) aN))))))
 sN)
 kg))))))
def sd:aK->Option D:=di 1 2 E1
def F7:FS:=
 (aR (bH 2 (iV (ia (aZ 0 2)) (eC .n) (e2 c_ (aZ 0 2) (eV 1))))
 (bU (eF gB (aC (aZ 0 0) (aC (e2 c_ (aZ 0 1) (eV 1)) (aC (eV 2) GY))))))
def v9:aK->Option D:=di 2 1 F7
def tq:FS:=
 (aR (bH 2 (eF sd gv))
 (aR (bX G0
 (bU (eF kX (aC (eV 2) kG)))
 sN)
 (aR (bH 3 (aZ 0 3))
 (aR (bX (dk (aZ 0 0) (cG "later"))
 (bU (eF v9 (aC (eV 1) (aC (e1 pQ (aZ 3 0)) aN))))
 sN)
 (aR (bX (dk (aZ 0 0) (cG "turn"))
 (bU (eF gB (aC (aZ 1 0) (aC (aZ 1 1) (aC (aZ 1 2) (aC (eF qq (aC (aZ 1 3) (aC (aZ 3 0) (aC (aZ 3 1) aN)))) aN))))))
 sN)
 (bU (eF gB (aC (eF vS (aC (aZ 1 0) mB)) (aC (aZ 1 1) (aC (aZ 1 2) (aC (aZ 1 3) aN)))))))))))
def kA:aK->Option D:=di 2 2 tq
abbrev tj:FS:=
 (bX (dk (aZ 2 1) (eV 1))
 (bU (eV 2))
 sN)
def Hr:FS:=
 (aR (lu (gN 2) (eV 0)
 tj)
 kg)
def nU:aK->Option D:=di 2 1 Hr
def Dl:FS:=
 (bU (eF gB (aC xm (aC (eV 1) (aC (eC .n) (aC (eF kO (aC (e2 bW (aZ 0 3) (bD 0)) (aC (e2 bW (aZ 0 3) (bD 1)) (aC (bD 1) oo)))) aN))))))
def m9:aK->Option D:=di 2 0 Dl
def Dk:FS:=
 (aR (bH 2 (e2 kU (eV 1) (aZ 0 1)))
 (bU (iV (ia (eV 2)) (fx aN) (fx (aC (eF m9 (aC (eV 0) iH)) aN)))))
def pF:aK->Option D:=di 2 1 Dk
abbrev AS(FUEL_:aK->Option D):FS:=
 (u7 5 (eF FUEL_ (aC (eV 0) (aC (eV 6) k_))))
def sS(FUEL_:aK->Option D):FS:=
 (aR (bX (ia (eV 2))
 (bU (fx aN))
 sN)
 (aR (bH 3 (eF nU (aC (eV 0) kG)))
 (aR (bX (dk (aZ 3 0) (cG "in"))
 (aR (bH 7 (eF kX (aC (eF m9 (aC (eV 3) oo)) iH)))
 (bU (iV (ia (eV 7)) (fx aN) (fx (aC (cH (aC (eV 1) (aC (eV 7) aN))) aN)))))
 sN)
 (aR (bH 4 (iV (dk (aZ 3 0) (cG "pour")) (eV 2) (eF kA (aC (eV 3) iH))))
 (aR (mS 5 (qD aN))
 (aR (lu (gN 6) (aZ 3 2)
 (AS FUEL_))
 (kv 5 (bU (eV 5)))))))))
def gY:Nat->List D->Option D
 |0=>di 3 5 λ _=>none
 |n+1=>di 3 5 (sS (gY n))
abbrev mW:FS:=
 (aR (bH 6 (eF o9 (aC (eF pF (aC (eF nU (aC (eV 0) k_)) kG)) (aC (eV 5) aN))))
 (bX (tV (eV 6))
 (bU (e2 EU (cH (aC (cG "thing") k_)) (eF uD (aC (aZ 6 0) aN))))
 sN))
def Kj:FS:=
 (aR (lu (gT [4,5]) (eF (gY 24) (aC (eV 0) (aC (eV 2) (aC (eF uv mB) aN))))
 mW)
 kg)
def uo:aK->Option D:=di 4 3 Kj
def Ha:FS:=
 (bU (eF (gY 24) (aC (eV 0) (aC (eV 1) (aC (eF gB (aC xm (aC (bD 0) (aC (eC .n) GS)))) aN)))))
def qR:aK->Option D:=di 2 0 Ha
abbrev iS:FS:=
 (bX (dD (dk (aZ 2 0) (aZ 3 0)) (tB (e2 kj (eF kX (aC (aZ 2 1) (aC (aZ 3 1) aN))) (eC .n))))
 (bU (eC (.b true)))
 sN)
abbrev Ez:FS:=
 (lu (gN 3) (kK (eV 0) oN (oS (eV 1)))
 iS)
abbrev t_:FS:=bU (eC (.b false))
def Fc:FS:=
 (aR (Cs (gT [1,2]) (eV 0)
 Ez)
 t_)
def qE:aK->Option D:=di 1 3 Fc
abbrev mT:FX:=
 (AZ (tB (e2 mL (aZ 2 0) (eC (.t [(.str "in"),(.str "time"),(.str "only"),(.str "but"),(.str "span"),(.str "rest"),(.str "turn"),(.str "later"),(.str "put"),(.str "pour")]))))
 (DH (rS (bH 3 (eF qR (aC (eV 0) G4))))
 (AZ (iG (fU (tV (eV 3))) (dD (dk (aZ 2 0) (cG "pour")) (tV (eF qE mB))))
 (BO kc fy (eV 1))
 (rS sN)))
 (rS sN))
def Fs:FX:=(Cu (gT [1,2]) (eV 0)
 mT)
def lY:aK->Option (D⊕XV):=qP 1 3 Fs
def FH:FS:=
 (aR (bX (tB (e2 l5 (eV 1) (eF iF gv)))
 (bU (e2 bW (eV 0) (eV 1)))
 sN)
 (bU (bD 0)))
def qN:aK->Option D:=di 2 0 FH
def F6:FS:=
 (aR (bH 2 (e2 dZ (e2 iR (e2 c_ (e2 c_ (eV 0) (e2 iR (bD 7919) (eV 1))) (bD 1)) (bD 48271)) (bD 2147483647)))
 (bU (e2 dZ (e2 iR (eV 2) (e2 c_ (e2 mO (eV 2) (bD 1009)) (bD 69621))) (bD 2147483647))))
def o7:aK->Option D:=di 2 1 F6
def Hs:En->Option MO:=
 (sC (bH 1 (eF qN (aC (eV 0) oo))) (Ae [k9,n7,hV,fy,kd,i8] (aC (eV 0) (aC (e2 dZ (eV 1) (bD 2)) (aC (bD 0) (aC (bD 1) (aC (eV 1) oo)))))))
def v8:aK->Option MO:=qO 1 1 Hs
abbrev AY:FS:=
 (aR (nX 0 hV (eF kM (aC (e2 bW (iw 0 k9) (iw 0 fy)) aN)))
 (nX 0 fy (e2 c_ (iw 0 fy) (bD 1))))
abbrev o6:FT:=
 (dD (dk (iw 0 n7) (bD 1)) (dD (dk (iw 0 hV) (bD 0)) (tB (e2 l5 (iw 0 fy) (eF iF (aC (iw 0 k9) aN))))))
abbrev OR:FA:=aC (iw 0 i8) aN
def wD:FS:=
 (aR (zB (λ _=>200) o6
 AY)
 (aR (bX (tB (e2 nK (iw 0 hV) (bD 0)))
 (aR (bH 2 (e2 dZ (iw 0 hV) (bD 1000003)))
 (aR (nX 0 hV (e2 mO (iw 0 hV) (bD 1000003)))
 (bU (eV 2))))
 sN)
 (aR (nX 0 i8 (e2 c_ (iw 0 i8) (bD 1)))
 (aR (bH 1 (e2 c_ (iw 0 kd) (eF qN (aC (iw 0 k9) OR))))
 (aR (nX 0 kd (eF o7 (aC (eV 1) OR)))
 (bU (eF o7 (aC (iw 0 kd) (aC (bD 7) aN)))))))))
def eu:MO->List D->Option (D×MO):=jH 0 2 wD
abbrev Fq:FS:=
 (bH 2 (e2 c_ (eV 2) (e2 bW (eV 1) (e2 dZ (dU 0 eu aN) (bD 26)))))
abbrev Bb:FE:=e2 c_ (kK (eV 1) oN (oS (eV 2))) (eV 0)
abbrev GZ:FE:=e2 dZ (dU 0 eu aN) (bD 8)
def HI:FS:=
 (aR (bH 1 (cG "abcdefghijklmnopqrstuvwxyz"))
 (aR (bH 2 (cG ""))
 (aR (oB (gN 3) (oG (e2 c_ (bD 1) GZ)) Fq)
 (aR (bH 4 (e2 dZ (dU 0 eu aN) (eF iF iH)))
 (bU (jG [2,4] (cG "abcdefghz") dP (e2 c_ Bb (kK (eV 1) (oS (e2 c_ (eV 2) (bD 1))) oN))))))))
def wt:MO->List D->Option (D×MO):=jH 0 4 HI
abbrev rk:FA:=aC (eV 6) aN
abbrev OS:FT:=tB (e2 kj (aZ 3 1) (eC .n))
def c_8:FS:=
 (aR (bH 2 (aZ 0 0))
 (aR (bH 3 (aZ 0 3))
 (aR (Ee [4,5,6] (eV 1))
 (aR (bX (dD (dk (eV 2) (cG "time")) (iG (tB (e2 l5 (eV 4) (aZ 3 0))) (dD OS (tB (e2 vN (eV 4) (aZ 3 1))))))
 kg
 sN)
 (aR (bX (iG (dD (dk (eV 2) (cG "only")) (tB (e2 vh (eV 5) (eV 3)))) (dD (dk (eV 2) (cG "but")) (tB (e2 mL (eV 5) (eV 3)))))
 kg
 sN)
 (aR (bX (dD (dk (eV 2) (cG "span")) (dD (tB (e2 kj (aZ 3 0) (eC .n))) (tB (e2 l5 (eV 6) (aZ 3 0)))))
 kg
 sN)
 (aR (bX (dD (dk (eV 2) (cG "span")) (dD OS (tB (e2 nK (eV 6) (aZ 3 1)))))
 kg
 sN)
 (aR (bX (dD (dk (eV 2) (cG "rest")) (tB (e2 ly (e2 dZ (eV 6) (aZ 3 0)) (aZ 3 1))))
 kg
 sN)
 (aR (bX (dk (eV 2) (cG "turn"))
 (bU (cH (aC (eV 4) (aC (eV 5) (aC (e2 c_ (e2 iR (aZ 3 0) (eV 6)) (aZ 3 1)) aN)))))
 sN)
 (aR (bX (dk (eV 2) (cG "later"))
 (bU (cH (aC (e2 c_ (eV 4) (aZ 3 0)) (aC (eV 5) rk))))
 sN)
 (aR (bX (dk (eV 2) (cG "put"))
 (bU (cH (aC (eV 4) (aC (Az (eV 3) (eV 5) (eV 5)) rk))))
 sN)
 (bU (eV 1)))))))))))))
def qa:aK->Option D:=di 2 5 c_8
abbrev Fe:FS:=
 (aR (bH 5 (vn [3] 3 0 (eV 1) (tB (sf true (eV 0) 1)) (eV 0)))
 (kx 3 (e2 bW (eV 5) (e2 dZ (dU 0 eu aN) (eF iF (aC (eV 5) aN))))))
def Hb:FS:=
 (aR (mS 3 (qD aN))
 (aR (oB (gN 4) (oG (eV 2)) Fe)
 (kv 3 (bU (eV 3)))))
def qK:MO->List D->Option (D×MO):=jH 2 3 Hb
abbrev tY:FE:=e2 dZ (dU 0 eu aN) (bD 4)
abbrev Bc:FE:=e2 dZ (dU 0 eu aN) (bD 40)
abbrev OV:FE:=e2 dZ (dU 0 eu aN) (bD 5)
def NG:FS:=
 (aR (bH 1 (e2 ij (e2 dZ (dU 0 eu aN) (bD 41)) (bD 20)))
 (aR (bX (dk OV (bD 1))
 (bH 1 (e2 iR (eV 1) (e2 zU (bD 10) (bD 10))))
 sN)
 (aR (bH 2 (e2 c_ (eV 1) Bc))
 (aR (bX (dk tY (bD 1))
 (bH 2 (eC .n))
 sN)
 (aR (bX (dk tY (bD 1))
 (bH 1 (eC .n))
 sN)
 (bU (cH (aC (eV 1) iH))))))))
def vJ:MO->List D->Option (D×MO):=jH 0 2 NG
abbrev tZ:FE:=e2 dZ (dU 0 eu aN) (bD 3)
abbrev Be:FE:=e2 dZ (dU 0 eu aN) (bD 2)
abbrev G2:FA:=aC (dU 0 vJ aN) aN
abbrev OU:FE:=e2 dZ (dU 0 eu aN) (bD 31)
def l_:FS:=
 (aR (bX (dk (eV 1) (cG "time"))
 (aR (bH 6 Bc)
 (aR (bH 7 (e2 c_ (e2 c_ (eV 6) (bD 1)) Bc))
 (aR (bX (dk tZ (bD 1))
 (bH 7 (eC .n))
 sN)
 (bU (cH (aC (cG "time") (aC (eV 2) (aC (eV 3) (aC (cH (aC (eV 6) (aC (eV 7) aN))) aN)))))))))
 sN)
 (aR (bX OM
 (bU (cH (aC (eV 1) (aC (eV 2) (aC (eV 3) (aC (eF kE (aC (dU 0 qK (aC (eV 4) (aC (e2 c_ (bD 1) GZ) aN))) aN)) aN))))))
 sN)
 (aR (bX (dk (eV 1) (cG "span"))
 (bU (cH (aC (cG "span") (aC (eV 2) (aC (eV 3) G2)))))
 sN)
 (aR (bX (dk (eV 1) (cG "rest"))
 (aR (bH 8 (e2 c_ (bD 2) (e2 dZ (dU 0 eu aN) (e2 bW (fx (aC (bD 4) (aC (bD 4) (aC (bD 999) aN)))) tZ))))
 (bU (cH (aC (cG "rest") (aC (eV 2) (aC (eV 3) (aC (cH (aC (eV 8) (aC (e2 dZ (dU 0 eu aN) (eV 8)) aN))) aN)))))))
 sN)
 (aR (bX (dk (eV 1) (cG "turn"))
 (aR (bH 9 (e2 c_ (bD 1) (e2 dZ (dU 0 eu aN) (e2 bW (fx (aC (bD 3) (aC (bD 3) (aC (bD 1000) aN)))) tZ))))
 (aR (bX (dk Be (bD 1))
 (bH 9 (e2 ij (bD 0) (eV 9)))
 sN)
 (bU (cH (aC (cG "turn") (aC (eV 2) (aC (eV 3) (aC (cH (aC (eV 9) (aC (e2 ij OU (bD 15)) aN))) aN))))))))
 sN)
 (aR (bX (dk (eV 1) (cG "later"))
 (bU (cH (aC (cG "later") (aC (eV 2) (aC (eV 3) (aC (cH (aC (e2 dZ (dU 0 eu aN) (e2 bW (fx (aC (bD 20) (aC (bD 20) (aC (bD 1000000) aN)))) tZ)) aN)) aN))))))
 sN)
 (aR (bH 5 (dU 0 qK (aC (eV 4) (aC (e2 c_ (bD 1) tY) aN))))
 (bU (cH (aC (cG "put") (aC (eV 2) (aC (eV 3) (aC (eF kE (aC (vn [4,0] 0 1 (eV 5) dP (cH (aC (eV 0) (aC (e2 bW (eV 1) (e2 dZ (dU 2 eu aN) (bD 9))) aN)))) aN)) aN)))))))))))))
def sF:MO->List D->Option (D×MO):=jH 4 5 l_
abbrev xp:FE:=e2 bW (eV 1) (eV 8)
abbrev GV:FE:=e2 l5 (e2 c_ (eV 8) (bD 1)) (eV 5)
abbrev OP:FE:=eF qB (aC (e2 nK (eV 8) (bD 0)) aN)
abbrev OQ:FE:=e2 c_ (eV 6) (e2 iR (bD 4) (eV 8))
abbrev vj:FS:=
 (aR (bH 9 (e2 bW (fx (aC (eC .n) (aC (e2 c_ OQ (bD 1)) aN))) OP))
 (aR (bH 10 (e2 bW (fx (aC (eC .n) (aC (e2 c_ OQ (bD 4)) aN))) (eF qB (aC GV aN))))
 (aR (bH 11 (e2 bW (fx (aC (bD 0) (aC (e2 iR (e2 c_ (eF kM rk) (bD 1)) (eV 8)) aN))) OP))
 (aR (bH 12 (e2 bW (fx (aC (eC .n) (aC (e2 iR (e2 c_ (eF kM rk) (bD 1)) (e2 c_ (eV 8) (bD 1))) aN))) (eF qB (aC GV aN))))
 (bX (dk (eV 4) (bD 0))
 (kx 7 (cH (aC (cG "rest") (aC xp (aC (cH iH) (aC (cH (aC (e2 c_ (eV 5) (e2 dZ (eF kM rk) (bD 4))) (aC (eV 8) aN))) aN))))))
 (bX (dD (dk (eV 4) (bD 1)) (tB GV))
 (kx 7 (cH (aC (cG "only") (aC xp (aC (cH iH) (aC (cH (aC (e2 bW (eV 3) (eV 8)) aN)) aN))))))
 (bX (dk (eV 4) (bD 1))
 (kx 7 (cH (aC (cG "but") (aC xp (aC (cH iH) (aC (eF kE (aC (kK (eV 3) oN (oS (eV 8))) aN)) aN))))))
 (bX (dk (eV 4) (bD 2))
 (kx 7 (cH (aC (cG "span") (aC xp (aC (cH iH) (aC (cH (aC (eV 9) (aC (eV 10) aN))) aN))))))
 (kx 7 (cH (aC (cG "time") (aC xp (aC (cH iH) (aC (cH (aC (eV 11) (aC (eV 12) aN))) aN))))))))))))))
def Hc:En->Option (aK×MO):=
 (pN (bH 4 tY)
 (pN (bH 5 (e2 c_ (bD 2) tZ))
 (pN (bH 6 (e2 ij OU (bD 10)))
 (pN (mS 7 (qD aN))
 (pN (oB (gN 8) (oG (eV 5)) vj)
 (CA 7))))))
def wc:MO->List D->Option (aK×MO):=vC 3 9 Hc
abbrev ON:FA:=aC (cG "turn") (aC (cG "later") (aC (cG "put") aN))
def N2:FS:=
 (aR (FG 5 0 wc (aC (eV 1) (aC (eV 2) k_)))
 (aR (mS 6 (qT (se [] 5 dP (aZ 0 1))))
 (aR (bH 7 (e2 dZ (dU 0 eu aN) (Cw 6)))
 (aR (bH 8 (e2 bW (fx ON) tZ))
 (aR (kx 5 (dU 0 sF (aC (eV 8) (aC (aZ 1 5) (aC (cH (aC (Ek 6 (eV 7)) aN)) k_)))))
 (aR (Ei 6 (eV 7) (aZ 1 5))
 (aR (bH 9 (e2 bW (eV 3) (e2 dZ (dU 0 eu aN) (eF iF mB))))
 (aR (bX (dD (dk Be (bD 1)) (tB (e2 ly (eV 9) (eV 2))))
 (kx 6 (eV 9))
 sN)
 (kv 5 (kv 6 (bU (e2 c_ (eV 5) (fx (aC (cH (aC (cG "pour") (aC (aZ 1 6) (aC (eF kE rk) (aC (cH aN) aN))))) aN))))))))))))))
def sQ:MO->List D->Option (D×MO):=jH 4 5 N2
abbrev vT:FS:=
 (aR (bH 4 (se [] 2 dP (aZ 0 1)))
 (aR (bH 5 (jG [3] (cG "cdefghi") dP (e2 c_ (eV 0) (e2 bW (cG "klmnopq") (eV 1)))))
 (aR (bH 6 (e2 bW (eV 4) (e2 dZ (dU 0 eu aN) (eF iF k_))))
 (aR (bH 7 OV)
 (bX (dk (eV 7) (bD 0))
 (u7 2 (dU 0 sQ (aC (eV 5) (aC (eV 6) (aC (eV 4) kG)))))
 (bX (dD (dk (eV 7) (bD 1)) (tB (e2 nK (eF iF k_) (bD 1))))
 (aR (bH 8 (dU 0 qK (aC (eV 4) (aC (eF oP (aC (eF iF k_) (aC (e2 c_ (bD 2) tY) aN))) aN))))
 (kx 2 (cH (aC (cG "pour") (aC (aZ 5 0) (aC (eF kE (aC (eV 8) aN)) (aC (cH aN) aN)))))))
 (aR (bH 9 (fx (aC (cG "time") (aC (cG "only") (aC (cG "but") (aC (cG "span") (aC (cG "rest") ON)))))))
 (kx 2 (dU 0 sF (aC (e2 bW (eV 9) GZ) (aC (aZ 5 0) (aC (cH rk) kG))))))))))))
def Hd:FS:=
 (aR (mS 2 (qT (kK (fx (aC (cH (aC (cG "in") (aC (cG "a") (aC (cH aN) G2)))) (aC (cH (aC (cG "in") (aC (cG "b") (aC (cH aN) G2)))) aN))) oN (oS (e2 c_ (bD 1) Be)))))
 (aR (oB (gN 3) (oG tY) vT)
 (kv 2 (bU (eV 2)))))
def sW:MO->List D->Option (D×MO):=jH 1 8 Hd
abbrev sY:FS:=
 (JV 1 3 4 lY (kv 1 (bU (eV 1))))
def FW:FS:=
 (aR (mS 1 (qT (eF rX gv)))
 (aR (oB (gN 2) (oG (bD 25)) sY)
 (kv 1 (kv 1 (bU (kK (eV 1) oN (oS (bD 1))))))))
def sV:aK->Option D:=di 1 4 FW
abbrev l9:FS:=
 (bX (dk (aZ 3 0) (cG "in"))
 (aR (nc 2 (aZ 3 1) Bc)
 (bX (dk (e2 dZ (dU 0 eu aN) (bD 6)) (bD 1))
 (nc 2 (aZ 3 1) (eC .n))
 sN))
 sN)
def IM:FS:=
 (aR (wH 2)
 (aR (lu (gN 3) (eV 1)
 l9)
 (vM 2 (bU (eV 2)))))
def uy:MO->List D->Option (D×MO):=jH 1 2 IM
abbrev uq:FS:=
 (nc 3 (aZ 4 1) (e2 c_ (sL 3 (aZ 4 1)) (sL 3 (eV 5))))
abbrev tF:FS:=
 (bX (dk (aZ 4 0) (cG "in"))
 (aR (nc 3 (aZ 4 1) (fx aN))
 (bX (dk (aZ 4 1) (eV 1))
 (nc 3 (aZ 4 1) (fx iH))
 sN))
 (bX (dk (aZ 4 0) (cG "pour"))
 (aR (nc 3 (aZ 4 1) (fx aN))
 (lu (gN 5) (aZ 4 2)
 uq))
 (aR (bH 6 (jG [4] (sL 3 (e2 bW (aZ 4 2) (bD 0))) dP (eF qa (aC (eV 1) gv))))
 (nc 3 (aZ 4 1) (jG [] (eV 6) (tB oj) (eV 0))))))
def IT:En->Option MO:=
 (sC (wH 3)
 (sC (lu (gN 4) (eV 0)
 tF)
 (Ar 3)))
def rj:aK->Option MO:=qO 3 4 IT
def MH:FS:=
 (bU (e2 bW (jG [1] (eV 0) (dk (aZ 0 1) (eV 1)) (eV 0)) (bD 0)))
def rH:aK->Option D:=di 2 0 MH
def rA:FS:=
 (bU (rR (qH (e2 oU (aZ 0 0) (eC .n)) (e2 vN (eV 1) (aZ 0 0))) (qH (e2 oU (aZ 0 1) (eC .n)) (e2 oV (eV 1) (aZ 0 1)))))
def nQ:aK->Option D:=di 2 0 rA
abbrev OW:FT:=tB (e2 kj (eV 3) (eC .n))
def SK:FS:=
 (aR (bH 2 (e2 ij (e2 dZ (dU 0 eu aN) (bD 61)) (bD 30)))
 (aR (bH 3 (e2 bW (eV 1) Be))
 (aR (bX OW
 (bH 2 (e2 ij (e2 c_ (eV 3) (e2 dZ (dU 0 eu aN) (bD 25))) (bD 12)))
 sN)
 (aR (bX (tB (e2 kj (aZ 1 0) (eC .n)))
 (bH 2 (eF nG (aC (eV 2) G3)))
 sN)
 (aR (bX (tB (e2 kj (aZ 1 1) (eC .n)))
 (bH 2 (eF oP (aC (eV 2) (aC (aZ 1 1) aN))))
 sN)
 (bU (eV 2)))))))
def wM:MO->List D->Option (D×MO):=jH 1 2 SK
abbrev FY:FS:=
 (bX (iG (fU (tV (qI .int (eV 5)))) (tV (qI .bool (eV 5))))
 t_
 sN)
def Hv:FS:=
 (aR (bX (iG (fU (tV (qI .tuple (eV 2)))) (iG (tB (e2 ly (eF iF iH) (bD 5))) (iG (tB (e2 ly (aZ 2 0) (cG "thing"))) (tB (e2 uW (aZ 2 1) (eV 1))))))
 t_
 sN)
 (aR (lu (gN 5) (fx (aC (aZ 2 2) (aC (aZ 2 4) aN)))
 FY)
 (aR (bX (iG (fU (tV (qI .str (aZ 2 3)))) (iG (ia (e2 kU (eV 1) (aZ 2 1))) (tB (e2 l5 (aZ 2 2) (e2 kU (eV 1) (aZ 2 1))))))
 t_
 sN)
 (aR (bX (fU (tV (eF nQ (aC (e2 bW (eF rH (aC (eV 0) G4)) (bD 3)) (aC (aZ 2 4) aN)))))
 t_
 sN)
 (bU (e2 jF (e2 AB (AG rj (aC (eV 0) (aC (aZ 2 1) (aC (kK (eV 2) (oS (bD 2)) oN) aN)))) (eV 3)) (fx k_)))))))
def we:aK->Option D:=di 5 1 Hv
abbrev zZ:FS:=
 (bX (fU (tV (eF we (aC (eV 3) (aC (eV 4) (aC (eF uo (aC (eV 3) (aC (eV 5) (aC (eV 10) (aC (eV 12) aN))))) (aC (eV 10) (aC (eV 12) aN))))))))
 t_
 sN)
abbrev zY:FS:=
 (lu (gN 12) (eV 11)
 zZ)
abbrev vd:FS:=
 (aR (bH 7 (e2 bW (eF Al k_) (e2 dZ (dU 1 eu aN) (eF AA k_))))
 (bX (tB (e2 kj (e2 kU (eV 4) (eV 7)) (eC .n)))
 (aR (bH 8 (dU 1 wM (aC (e2 bW (eF rH (aC (eV 3) (aC (eV 7) aN))) (bD 3)) aN)))
 (aR (bH 9 (cH (aC (e2 c_ (e2 kU (eV 4) (eV 7)) (e2 dZ (dU 1 eu aN) (bD 60))) (aC (e2 bW (e2 c_ (eV 2) (fx (aC (cG "q") aN))) (e2 dZ (dU 1 eu aN) (bD 10))) (aC (eV 8) aN)))))
 (ER (gT [10,11]) (AG rj (aC (eV 3) (aC (eV 7) (aC (eV 9) aN))))
 zY)))
 sN))
def Mn:FS:=
 (aR (D9 1 v8 gv)
 (aR (bH 2 (dU 1 wt aN))
 (aR (bH 3 (eF sV (aC (dU 1 sW iH) aN)))
 (aR (bH 4 (dU 1 uy mB))
 (aR (bH 5 (eF Aj k_))
 (aR (oB (gN 6) (oG (bD 12)) vd)
 (bU (e2 sO (eV 5) (eV 4)))))))))
def rW:aK->Option D:=di 1 12 Mn
end
open PySem.Spec PyProof.Rows L2
noncomputable def top(i:Nat):Stmt:=PySem.Challenge.pw_latewell_k42_back_to_a_coming.main.body.getD i (.Pass ⟨0,0,0,0⟩)
abbrev zA:Stmt:=match top 36 with
 |.ClassDef _ _ _ b ..=>b.getD 0 (.Pass ⟨0,0,0,0⟩)
 |s=>s
theorem xG{X:Cx}{k j:Nat}{x:Str}{g:aK→fN}{A:FA}{p pos:Pos}{e:Expr}{es:e_}(G:aL X.p X.w X.K X.mg X.base k x g)(hr:bJ j X.A)(ha:XA X (e::es) A)(Z:k≤j:=by decide)(O:Gl X x:=by rfl)(J:df x:=by decide)(Y:iX X e es:=by rfl)(q:iD X pos es:=by rfl):XE X (.Call (.Name x p) (e::es) [] pos) (eF g A):=xF G (hr.mono Z) ha O J Y q
theorem dh{N P:aM}{sc:Scope}(a:sc.kind=.function:=by rfl)(b:sc.isCoroutine=false:=by rfl)(c:sc.isGenerator=false:=by rfl)(d:N.Nodup:=by decide+kernel)(e:N.take P.length=P:=by rfl)(f:∀x∈P,sc.names.lookup x=some .local\/sc.names.lookup x=some .cell:=by decide+kernel)(g:∀y∈sc.names,y.2≠.free:=by decide+kernel):aG N P sc:=⟨a,b,c,d,e,f,g⟩
theorem i2{N:aM}{sc scope:Scope}{x:Str}{aY:aM}{js:d0}(a:scope.kind=.function:=by rfl)(b:sc.kind=.function:=by rfl)(c:∀y∈scope.names,y.2≠.cell:=by decide+kernel)(d:∀y∈scope.names,y.2=.local->scope.names.lookup y.1=some .local:=by decide+kernel)(e:scope.names.lookup x=some .local:=by rfl)(f:∀y∈scope.names,y.2=.free->sc.names.lookup y.1=some .cell:=by decide+kernel)(g:(x::aY).Nodup:=by decide+kernel)(h:aY.length=js.length:=by rfl)(i:∀p∈aY.zip js,N[p.2]?=some p.1/\sc.names.lookup p.1=some .cell/\scope.names.lookup p.1=some .free:=by decide+kernel):fu N sc scope x aY js:=⟨a,b,c,d,e,f,g,h,i⟩
structure la(w:World)(K:Frag)(mg:Str->Option Value):Prop where
 z_abs:mg "abs"=none
 z_len:mg "len"=none
 z_max:mg "max"=none
 z_min:mg "min"=none
 z_any:mg "any"=none
 z_all:mg "all"=none
 z_range:mg "range"=none
 z_isinstance:mg "isinstance"=none
 z_int:mg "int"=none
 z_bool:mg "bool"=none
 z_str:mg "str"=none
 z_tuple:mg "tuple"=none
 z_list:mg "list"=none
 z_sorted:mg "sorted"=none
 z_dict:mg "dict"=none
 z_set:mg "set"=none
 z_sum:mg "sum"=none
 z_zip:mg "zip"=none
 z_enumerate:mg "enumerate"=none
 z_reversed:mg "reversed"=none
 c_LETTERS:∃t,mg "LETTERS"=some (.str "abcdefghijklmnopqrstuvwxyz" t)
 c_LONGEST:∃t,mg "LONGEST"=some (.int 8 t)
 c_EVERY_KEY:∃a,mg "EVERY_KEY"=some (.ref a)∧nq K (.t [(.str "but"),(.t [])]) (.ref a)
 c_EVERY_VALUE:∃a,mg "EVERY_VALUE"=some (.ref a)∧nq K (.t [.n,.n,(.int 1),(.int 0)]) (.ref a)
 c_CHAINS:∃a,mg "CHAINS"=some (.ref a)∧nq K (.t [(.str "in"),(.str "time"),(.str "only"),(.str "but"),(.str "span"),(.str "rest"),(.str "turn"),(.str "later"),(.str "put"),(.str "pour")]) (.ref a)
 xn:∃c0 c2 fI fd,QS K mg zA c0 c2 fI fd
structure Pl(e:Expr):Prop where
 st:∀es env,starEach (e::es) env=(false,eval e env)::starEach es env
 sw:∀t l env,swapsWith e t l env=pure false
 im:∀op,behindInMarks op e=false
 ix:yK e
noncomputable def m_:Expr->Bool
 |.Starred .. | .ListComp .. | .SetComp .. | .DictComp .. | .Set .. | .Slice ..=>false
 |_=>true
theorem mM(h:m_ e=true):Pl e:=by cases e<;>first|exact⟨λ _ _=>rfl,λ _ _ _=>rfl,λ _=>rfl,λ _ _=>rfl⟩|cases h
abbrev rq:=Str×((aK->Option D)⊕(MO->List D->Option (D×MO)))
def cH3(X:Cx):rq->Prop
 |(x,.inl g)=>∃k,aL X.p X.w X.K X.mg X.base k x g/\bJ k X.A
 |(x,.inr g)=>∃k,dG X.p X.w X.K X.mg X.base k x g/\bJ k X.A
structure Ox(N:aM)(sc:Scope)(C:List rq)(X:Cx):Prop where
 n:X.N=N
 s:X.v.scope=sc
 ca:X.c=true
 u:X.A.units+64<cLine
 t:la X.w X.K X.mg
 c:∀c∈C,cH3 X c
noncomputable def sZ:(N:aM)->(x:Str)->Option {i:Nat//N[i]?=some x}
 |[],_=>none
 |y::r,x=>if h:y=x then some ⟨0,by rw[h];rfl⟩else(sZ r x).map λ i=>⟨i.1+1,i.2⟩
noncomputable def NA:(C:List rq)->(x:Str)->Option {s:(aK->Option D)⊕(MO->List D->Option (D×MO))//(x,s)∈C}
 |[],_=>none
 |(y,s)::r,x=>if h:y=x then some ⟨s,h▸.head _⟩else(NA r x).map λ d=>⟨d.1,.tail _ d.2⟩
def opO:(op:Operator)->Option {f:D->D->Option D//∀X,ny X op f}
 |.Add=>some ⟨c_,λ _=>E_⟩
 |.Sub=>some ⟨ij,λ _=>QH⟩
 |.Mult=>some ⟨iR,λ _=>TM⟩
 |.FloorDiv=>some ⟨mO,λ _=>Wq⟩
 |.Mod=>some ⟨dZ,λ _=>AK⟩
 |.Pow=>some ⟨zU,λ _=>ca4⟩
 |_=>none
def Aq:(op:CmpOp)->Option {f:D->D->Option D//∀X:Cx,X.A.units+64<cLine->iI X op f}
 |.Is=>some ⟨oU,λ _ _=>Mu⟩
 |.IsNot=>some ⟨kj,λ _ _=>Co⟩
 |.Lt=>some ⟨l5,λ _ _=>Mx⟩
 |.LtE=>some ⟨oV,λ _ _=>cLe⟩
 |.Gt=>some ⟨nK,λ _ _=>cGt⟩
 |.Eq=>some ⟨jF,λ _=>oQ⟩
 |.GtE=>some ⟨vN,λ _ _=>cGe⟩
 |.NotIn=>some ⟨vh,λ _ _=>cx3⟩
 |.NotEq=>some ⟨ly,λ _=>cNe⟩
 |.In=>some ⟨mL,λ _ _=>DQ⟩
section
variable(N:aM)(sc:Scope)(C:List rq)
abbrev RE(e:Expr):={F:FE//∀X,Ox N sc C X->XE X e F}
abbrev RT(e:Expr):={F:FT//∀X,Ox N sc C X->XT X e F}
abbrev RW(e:Expr):={F:FT//∀X,Ox N sc C X->XW X e F}
abbrev RO(e:m3):={F:FO//∀X,Ox N sc C X->XO X e F}
abbrev RA(es:e_):={F:FA//∀X,Ox N sc C X->XA X es F/\∀pos env,(backTo pos (starEach es env)).any (·.1)=false}
abbrev Gk(x:Str):Prop:=sc.names.lookup x=some .globalImplicit∧df x
abbrev Vk(x:Str):Prop:=(sc.names.lookup x=some .local∨sc.names.lookup x=some .cell∨sc.names.lookup x=some .free)∧df x∧fA x
variable{N sc C}
theorem Ox.vv(k:Ox N sc C X)(i:{i:Nat//N[i]?=some x})(h:Vk sc x):XE X (.Name x pos) (eV i.1):=xv i.1 (k.n▸i.2) (k.s▸h.1) h.2.1 h.2.2
theorem Ox.gl(k:Ox N sc C X)(h:Gk sc x):Gl X x:=by unfold Gl Env.kindOf;rw[k.s];exact h.1
theorem Ox.ff(k:Ox N sc C X)(m:(x,.inl g)∈C)(O:Gk sc x)(Y:XA X (e::es) A)(J:Pl e)(Z:∀pos env,(backTo pos (starEach (e::es) env)).any (·.1)=false):XE X (.Call (.Name x p) (e::es) [] pos) (eF g A):=by obtain⟨j,G,r⟩:=k.c _ m;have q:=Z pos X.v;rw[J.st]at q;exact xF G r Y (k.gl O) O.2 (J.st ..) q
theorem Ox.bb(k:Ox N sc C X)(m:(x,.inr g)∈C)(q:Gk sc x)(i:{i:Nat//N[i]?=some y})(h:Vk sc y)(J:XA X es A)(O:∀pos env,(backTo pos (starEach es env)).any (·.1)=false):XE X (.Call (.Name x p) (.Name y py::es) [] pos) (dU i.1 g A):=by obtain⟨j,G,r⟩:=k.c _ m;exact OA i.1 G r J (k.n▸i.2) (k.gl q) (k.s▸h.1) q.2 h.2.1 h.2.2 (O ..)
def Mw(X:Cx)(x:Str)(g:aK→fN):Prop:=X.mg x=none∧x≠"__name__"∧((∃i,i_ X (.builtin i) g∧bootBuiltins x=some (.builtin i))∨∃i,i_ X (.type i) g∧bootBuiltins x=some (.type i))
theorem Ox.kk(k:Ox N sc C X)(b:Mw X x g)(J:Gk sc x)(Y:XA X (e::es) A)(O:Pl e)(Z:∀pos env,(backTo pos (starEach (e::es) env)).any (·.1)=false):XE X (.Call (.Name x p) (e::es) [] pos) (eF g A):=by
 obtain⟨m,n,b⟩:=b;have q:=Z pos X.v;rw[O.st]at q;rcases b with⟨i,o,v⟩|⟨i,o,v⟩
 .exact xB o (k.gl J) m v Y n J.2 (O.st ..) q
 .exact rg o (k.gl J) m v Y n J.2 (O.st ..) q
def Xi(x:Str):Option {g:aK->Option D//∀X:Cx,la X.w X.K X.mg->X.c=true->Mw X x g}:=
 if h:x="len" then some ⟨iF,λ X t c=>h▸⟨t.z_len,by decide,.inl ⟨_,NK,Yy⟩⟩⟩else
 if h:x="tuple" then some ⟨kE,λ X t c=>h▸⟨t.z_tuple,by decide,.inr ⟨_,vZ,boot_tuple⟩⟩⟩else
 if h:x="max" then some ⟨nG,λ X t c=>h▸⟨t.z_max,by decide,.inl ⟨_,(T4 c),boot_max⟩⟩⟩else
 if h:x="min" then some ⟨oP,λ X t c=>h▸⟨t.z_min,by decide,.inl ⟨_,(Ru c),boot_min⟩⟩⟩else
 if h:x="abs" then some ⟨kM,λ X t c=>h▸⟨t.z_abs,by decide,.inl ⟨_,Hq,boot_abs⟩⟩⟩else
 if h:x="int" then some ⟨qB,λ X t c=>h▸⟨t.z_int,by decide,.inr ⟨_,QC,boot_int⟩⟩⟩else
 if h:x="list" then some ⟨rX,λ X t c=>h▸⟨t.z_list,by decide,.inr ⟨_,Sz,boot_list⟩⟩⟩else
 if h:x="dict" then some ⟨pZ,λ X t c=>h▸⟨t.z_dict,by decide,.inr ⟨_,(SA c),boot_dict⟩⟩⟩else
 if h:x="sorted" then some ⟨ph,λ X t c=>h▸⟨t.z_sorted,by decide,.inl ⟨_,Ph,boot_sorted⟩⟩⟩else
 none
def csO(x:Str)(p:Pos):Option (RE N sc C (.Name x p)):=
 if h:x="EVERY_KEY"∧Gk sc x then some ⟨eC (.t [(.str "but"),(.t [])]),λ X k=>yP (h.1▸k.t.c_EVERY_KEY) (k.gl h.2) h.2.2⟩else
 if h:x="EVERY_VALUE"∧Gk sc x then some ⟨eC (.t [.n,.n,(.int 1),(.int 0)]),λ X k=>yP (h.1▸k.t.c_EVERY_VALUE) (k.gl h.2) h.2.2⟩else
 if h:x="CHAINS"∧Gk sc x then some ⟨eC (.t [(.str "in"),(.str "time"),(.str "only"),(.str "but"),(.str "span"),(.str "rest"),(.str "turn"),(.str "later"),(.str "put"),(.str "pour")]),λ X k=>yP (h.1▸k.t.c_CHAINS) (k.gl h.2) h.2.2⟩else
 none
abbrev Sx(X:Cx):Prop:=Ox N sc C X/\X.N.Nodup/\∀x,X.fn x=true
abbrev mG{α:Type}(P:Cx->Prop)(Q:Cx->α->Prop):=Option {F:α//∀X,P X->Q X F}
variable{α β γ δ:Type}
noncomputable def i1(x:mG P Q)(f:α->β)(h:∀{X}{F:α},P X->Q X F->S X (f F)):mG P S:=x.map λ F=>⟨f F.1,λ X k=>h k (F.2 X k)⟩
def lG(x:mG P Q)(y:mG P R)(f:α->β->γ)(h:∀{X}{F:α}{G:β},P X->Q X F->R X G->S X (f F G)):mG P S:=x.bind λ F=>i1 y (f F.1) λ k=>h k (F.2 _ k)
def FF(x:mG P Q)(y:mG P R)(z:mG P S)(f:α->β->γ->δ)(h:∀{X}{F:α}{G:β}{σ:γ},P X->Q X F->R X G->S X σ->ρ X (f F G σ)):mG P ρ:=x.bind λ F=>lG y z (f F.1) λ k=>h k (F.2 _ k)
mutual
noncomputable def cE:Nat->(e:Expr)->Option (RE N sc C e)
 |n+1,.Name x p=>match sZ N x with
  |some i=>if h:Vk sc x then some ⟨eV i.1,λ _ k=>k.vv i h⟩else none
  |none=>csO x p
 |n+1,.Constant (.int i) _ _=>some ⟨eC (.int i),λ _ _=>fR⟩
 |n+1,.Constant (.str i) _ _=>some ⟨eC (.str i),λ _ _=>nL⟩
 |n+1,.Constant (.bool i) _ _=>some ⟨eC (.b i),λ _ _=>OE⟩
 |n+1,.Constant .none _ _=>some ⟨eC .n,λ _ _=>wh⟩
 |n+1,.BinOp a op b _=>(opO op).bind λ o=>lG (cE n a) (cE n b) (e2 o.1) λ _=>xb (o.2 _)
 |n+1,.Compare a [op] [b] _=>(Aq op).bind λ o=>if h:m_ b=true then lG (cE n a) (cE n b) (e2 o.1) λ k x y=>Cf (o.2 _ k.u) x y ((mM h).im _)else none
 |n+1,.IfExp c a b _=>FF (cT n c) (cE n a) (cE n b) iV λ _=>xif
 |n+1,.UnaryOp .USub a _=>i1 (cE n a) (e1 pQ) λ _=>Mq
 |n+1,.BoolOp _ [a] _=>i1 (cE n a) id λ _=>W7
 |n+1,.BoolOp .And (a::b::r) p=>lG (cE n a) (cE n (.BoolOp .And (b::r) p)) rR λ _=>YV
 |n+1,.BoolOp .Or (a::b::r) p=>lG (cE n a) (cE n (.BoolOp .Or (b::r) p)) qH λ _=>xor
 |n+1,.Tuple es _ _=>i1 (cA n es) cH λ _ x=>o_ x.1
 |n+1,.List es _=>i1 (cA n es) fx λ _ x=>xS x.1
 |n+1,.Subscript a (.Slice lo hi none _) _=>FF (cE n a) (cO n lo) (cO n hi) kK λ _=>SN
 |n+1,.Subscript (.Name x _) (.Constant (.str s) _ _) _=>(sZ N x).bind λ i=>if h:Vk sc x then some ⟨iw i.1 s,λ X k=>xdg i.1 (by have:=k.u;omega) (k.n▸i.2) (k.s▸h.1) h.2.1 h.2.2⟩else none
 |n+1,.Subscript a b _=>if h:m_ b=true then lG (cE n a) (cE n b) (e2 bW) λ _ x y=>gZ x y (mM h).ix else none
 |n+1,.Call (.Name x _) es [] _=>match NA C x,es with
  |some ⟨.inl g,m⟩,e::r=>if h:m_ e=true/\Gk sc x then i1 (cA n (e::r)) (eF g) λ k a=>k.ff m h.2 a.1 (mM h.1) a.2 else none
  |some ⟨.inr g,m⟩,.Name y _::r=>(sZ N y).bind λ i=>if h:Gk sc x/\Vk sc y then i1 (cA n r) (dU i.1 g) λ k a=>k.bb m h.1 i h.2 a.1 a.2 else none
  |none,e::r=>(Xi x).bind λ b=>if h:m_ e=true/\Gk sc x then i1 (cA n (e::r)) (eF b.1) λ k a=>k.kk (b.2 _ k.t k.ca) h.2 a.1 (mM h.1) a.2 else none
  |_,_=>none
 |_,_=>none
noncomputable def cT:Nat->(e:Expr)->Option (RT N sc C e)
 |n+1,.Compare a [op] [b] _=>(Aq op).bind λ o=>if h:m_ b=true then lG (cE n a) (cE n b) (λ x y=>tB (e2 o.1 x y)) λ k x y=>xt (o.2 _ k.u) x y ((mM h).im _)else none
 |n+1,.Compare a [op,op'] [b,m] _=>(Aq op).bind λ o=>(Aq op').bind λ p=>if h:m_ m=true then FF (cE n a) (cE n b) (cE n m) (λ x y z=>tB (e3 o.1 p.1 x y z)) λ k x y z=>xt3 (o.2 _ k.u) (p.2 _ k.u) x y z ((mM h).im _)else none
 |n+1,.BoolOp op l p=>i1 (cW n (.BoolOp op l p)) id λ _=>xw
 |n+1,.UnaryOp .Not a _=>i1 (cT n a) fU λ _=>u4
 |n+1,.Name x p=>i1 (cE n (.Name x p)) tV λ _ x=>oe x λ _=>rfl
 |n+1,.Call f l m p=>i1 (cE n (.Call f l m p)) tV λ _ x=>oe x λ _=>rfl
 |n+1,.Subscript a b p=>i1 (cE n (.Subscript a b p)) tV λ _ x=>oe x λ _=>rfl
 |_,_=>none
noncomputable def cW:Nat->(e:Expr)->Option (RW N sc C e)
 |n+1,.BoolOp .And [a] _=>i1 (cT n a) id λ _=>Ow
 |n+1,.BoolOp .Or [a] _=>i1 (cT n a) id λ _=>u9
 |n+1,.BoolOp .And (a::b::r) p=>lG (cT n a) (cW n (.BoolOp .And (b::r) p)) dD λ _=>Hm
 |n+1,.BoolOp .Or (a::b::r) p=>lG (cT n a) (cW n (.BoolOp .Or (b::r) p)) iG λ _=>oK
 |_,_=>none
noncomputable def cO:Nat->(e:m3)->Option (RO N sc C e)
 |n+1,some e=>i1 (cE n e) oS λ _=>OG
 |n+1,none=>some ⟨oN,λ _ _=>OF⟩
 |_,_=>none
noncomputable def cA:Nat->(es:e_)->Option (RA N sc C es)
 |n+1,[]=>some ⟨aN,λ _ _=>⟨fE,λ _ _=>rfl⟩⟩
 |n+1,e::es=>if h:m_ e=true then lG (cE n e) (cA n es) aC λ _ x a=>⟨ef x a.1 ((mM h).st ..),λ pos env=>by rw[(mM h).st];exact a.2 pos env⟩else none
 |_,_=>none
noncomputable def cS:Nat->(s:Stmt)->Option {F:FS//∀X,Sx (N:=N) (sc:=sc) (C:=C) X->XS X s F}
 |n+1,.Assign [.Name x _] e _=>(sZ N x).bind λ i=>if h:m_ e=true/\(sc.names.lookup x=some .local\/sc.names.lookup x=some .cell)then(cE n e).map λ F=>⟨bH i.1 F.1,λ X k=>mY i.1 k.2.1 (F.2 X k.1) (k.1.n▸i.2) (k.1.s▸h.2) ((mM h.1).sw ..) (.inl (k.2.2 x))⟩else none
 |n+1,.Assign [.Subscript (.Name x _) (.Constant (.str s) _ _) _] e _=>(sZ N x).bind λ i=>if h:m_ e=true/\Vk sc x then(cE n e).map λ F=>⟨nX i.1 s F.1,λ X k=>xdp i.1 (by have:=k.1.u;omega) (F.2 X k.1) (k.1.n▸i.2) (k.1.s▸h.2.1) h.2.2.1 h.2.2.2 ((mM h.1).sw ..)⟩else none
 |n+1,.Return (some e) _=>(cE n e).map λ F=>⟨bU F.1,λ X k=>jR (F.2 X k.1)⟩
 |n+1,.If c a b _=>(cT n c).bind λ T=>lG (sE n a) (sE n b) (bX T.1) λ k=>gj (T.2 _ k.1)
 |_,_=>none
noncomputable def sE:Nat->(s:jU)->Option {F:FS//∀X,Sx (N:=N) (sc:=sc) (C:=C) X->gA X s F}
 |n+1,[]=>some ⟨sN,λ _ _=>iy⟩
 |n+1,[s]=>i1 (cS n s) id λ _=>cY
 |n+1,s::t::r=>lG (cS n s) (sE n (t::r)) aR λ _=>bK
 |_,_=>none
end
theorem go{o:mG P R}{F:α}{X:Cx}(k:P X)(h:o.map (·.1)=some F:=by kernel_rfl):R X F:=by
 cases o with
 |none=>cases h
 |some q=>cases h;exact q.2 X k
end
section
variable{P:Program}{w:World}{K:Frag}{mg:Str->Option Value}{base:Heap}
def mV(P:Program)(w:World)(K:Frag)(mg:Str->Option Value)(base:Heap)(j:Nat)(σ:List rq):Prop:=∀c∈σ,match c with
 |(x,.inl g)=>∃k,k<=j/\aL P w K mg base k x g
 |(x,.inr g)=>∃k,k<=j/\dG P w K mg base k x g
theorem dJ:mV P w K mg base j []:=λ _ h=>nomatch h
theorem cU(G:aL P w K mg base k x g)(r:mV P w K mg base j σ)(h:k<=j:=by first|decide|omega):mV P w K mg base j ((x,.inl g)::σ):=List.forall_mem_cons.mpr ⟨⟨k,h,G⟩,r⟩
theorem hJ(G:dG P w K mg base k x g)(r:mV P w K mg base j σ)(h:k<=j:=by first|decide|omega):mV P w K mg base j ((x,.inr g)::σ):=List.forall_mem_cons.mpr ⟨⟨k,h,G⟩,r⟩
variable{X:Cx}{N:aM}{sc:Scope}{C σ:List rq}{j:Nat}
theorem Am{ps:aM}(S:aG N ps sc)(T:la X.w X.K X.mg)(J:bJ j X.A)(O:mV X.p X.w X.K X.mg X.base j σ)(n:X.N=N:=by rfl)(s:X.v.scope=sc:=by rfl)(Y:X.c=true:=by rfl)(f:∀x,X.fn x=true:=by intro;rfl):Sx (N:=N) (sc:=sc) (C:=σ) X:=
 ⟨⟨n,s,Y,J.units,T,λ c m=>by
  have q:=O c m;obtain⟨x,g|g⟩:=c
  .obtain⟨k,a,b⟩:=q;exact⟨k,b,J.mono a⟩
  .obtain⟨k,a,b⟩:=q;exact⟨k,b,J.mono a⟩⟩,n▸S.nd,f⟩
theorem mq{D:Addr}(k:Sx (N:=N) (sc:=sc) (C:=C) X):Ox N' (relabel scope X.v) C (dR X N' scope s H D fp):=
 ⟨rfl,rfl,k.1.ca,k.1.u,k.1.t,λ c m=>by
  have q:=k.1.c c m;obtain⟨x,g|g⟩:=c<;>exact q⟩
theorem d9(k:Ox N sc C X)(h:(cE (N:=N) (sc:=sc) (C:=C) 99 e).map (·.1)=some F:=by kernel_rfl):XE X e F:=go k h
theorem gu(k:Ox N sc C X)(h:(cT (N:=N) (sc:=sc) (C:=C) 99 e).map (·.1)=some F:=by kernel_rfl):XT X e F:=go k h
theorem hU(k:Ox N sc C X)(h:(cA (N:=N) (sc:=sc) (C:=C) 99 e).map (·.1)=some F:=by kernel_rfl):XA X e F:=(go (R:=λ X F=>XA X e F/\∀pos a,(backTo pos (starEach e a)).any (·.1)=false) k h).1
theorem cX(k:Sx (N:=N) (sc:=sc) (C:=C) X)(h:(cS (N:=N) (sc:=sc) (C:=C) 99 e).map (·.1)=some F:=by kernel_rfl):XS X e F:=go k h
theorem gJ(k:Sx (N:=N) (sc:=sc) (C:=C) X)(h:(sE (N:=N) (sc:=sc) (C:=C) 99 e).map (·.1)=some F:=by kernel_rfl):gA X e F:=go k h
def Dn(K:Frag)(mg:Str->Option Value)(x:Str)(st:Stmt)(ps:aM):Prop:=∃f fd,iz K x x st f fd/\dE K fd ps []/\mg x=some (.ref f)
variable{x:Str}{st:Stmt}{ps:aM}{n m:Nat}{B:FS}
theorem iB(D:Dn K mg x st ps)(S:aG N ps (bA st))(J:∀(f:Addr)(q:Value)(A:Around)(outer:fP)(s:Shared)(H:Hp)(E:XK),bJ j (A.deeper (envOfC x (bA st) s.heap.objs.size f q))->gA (f_ fX P w K mg base N x (bA st) f q A outer s H E).nox (gQ st) B)(O:ps.length=n:=by rfl)(Y:N.length=n+m:=by rfl):aL P w K mg base (j+1) x (di n m B):=by obtain⟨f,a,F,b,h⟩:=D;exact⟨f,a,ps,E9 F S O Y (J f),b,F.kp,h⟩
theorem oW(D:Dn K mg x st ps)(S:aG N ps (bA st))(J:∀(f:Addr)(q:Value)(A:Around)(outer:fP)(s:Shared)(H:Hp)(E:XK),bJ j (A.deeper (envOfC x (bA st) s.heap.objs.size f q))->gA (f_ fX P w K mg base N x (bA st) f q A outer s H E).nox (gQ st) B)(O:ps.length=n+1:=by rfl)(Y:N.length=n+1+m:=by rfl):dG P w K mg base (j+1) x (jH n m B):=by obtain⟨f,a,F,b,h⟩:=D;exact⟨f,a,ps,y_9 F S O Y (J f),b,F.kp,h⟩
theorem gS(D:Dn K mg x st ps)(S:aG N ps (bA st))(T:la w K mg)(J:mV P w K mg base j σ)(Z:ps.length=n:=by rfl)(O:N.length=n+m:=by rfl)(q:(sE (N:=N) (sc:=bA st) (C:=σ) 99 (gQ st)).map (·.1)=some B:=by kernel_rfl):aL P w K mg base (j+1) x (di n m B):=
 iB D S (λ _ _ _ _ _ _ _ Y=>gJ (Am S T Y J) q) Z O
theorem Oa(D:Dn K mg x st ps)(S:aG N ps (bA st))(T:la w K mg)(J:mV P w K mg base j σ)(Z:ps.length=n+1:=by rfl)(O:N.length=n+1+m:=by rfl)(q:(sE (N:=N) (sc:=bA st) (C:=σ) 99 (gQ st)).map (·.1)=some B:=by kernel_rfl):dG P w K mg base (j+1) x (jH n m B):=
 oW D S (λ _ _ _ _ _ _ _ Y=>gJ (Am S T Y J) q) Z O
theorem gr(S:aG N ps sc)(T:la X.w X.K X.mg)(q:bJ j X.A)(J:mV X.p X.w X.K X.mg X.base j σ)(f:Sx (N:=N) (sc:=sc) (C:=σ) X->gA X sts B)(n:X.N=N:=by rfl)(s:X.v.scope=sc:=by rfl)(O:X.c=true:=by rfl)(h:∀x,X.fn x=true:=by intro;rfl):gA X sts B:=f (Am S T q J n s O h)
theorem rfN{B:En->Option (aK×MO)}(S:aG N ps sc)(T:la X.w X.K X.mg)(q:bJ j X.A)(J:mV X.p X.w X.K X.mg X.base j σ)(f:Sx (N:=N) (sc:=sc) (C:=σ) X->rN X sts B)(n:X.N=N:=by rfl)(s:X.v.scope=sc:=by rfl)(O:X.c=true:=by rfl)(h:∀x,X.fn x=true:=by intro;rfl):rN X sts B:=f (Am S T q J n s O h)
end
section
variable(P:Program){w:World}{K:Frag}{mg:Str->Option Value}(base:Heap)
variable(T:la w K mg)
variable(Ga:aL P w K mg base 1 "keys_hold" nM)
variable(Gb:aL P w K mg base 3 "keys_meet" ti)
variable(Gc:aL P w K mg base 1 "stretch_made" kO)
variable(Gd:aL P w K mg base 1 "divisor_and_factor" vR)
variable(Ge:aL P w K mg base 3 "nearest" uQ)
variable(Gf:aL P w K mg base 3 "stretch_above" wG)
variable(Gg:aL P w K mg base 3 "stretch_below" wF)
variable(Gh:aL P w K mg base 5 "box_meet" kX)
variable(Gi:aL P w K mg base 2 "in_box" m9)
variable(Gj:aL P w K mg base 6 "row_back" kA)
variable(Gk:aL P w K mg base 1 "row_named" nU)
variable(Gl:aL P w K mg base 5 "box_some" uD)
variable(Gm:aL P w K mg base 6 "boxes_met" o9)
variable(Gn:aL P w K mg base 3 "in_boxes" pF)
variable(Go:aL P w K mg base 2 "thing_box" uv)
variable(Gp:aL P w K mg base 31 "ways_back" (gY 24))
variable(Gq:aL P w K mg base 6 "one_comes_twice" qE)
variable(Gr:aL P w K mg base 32 "origins_of" qR)
variable(Gs:aL P w K mg base 1 "_law_cell_at" qN)
variable(Gt:aL P w K mg base 1 "_law_mixed" o7)
variable(Gu:dG P w K mg base 2 "_law_next" eu)
variable(Gv:dG P w K mg base 3 "_law_bounds" vJ)
variable(Gw:dG P w K mg base 3 "_law_unlike" qK)
variable(Gx:lK P w K mg base 3 "_law_parted" wc)
variable(Gy:dG P w K mg base 4 "_law_sieve" sF)
variable(Gz:dG P w K mg base 5 "_law_poured" sQ)
variable(GA:lL P w K mg base 33 "check_works" lY)
variable(GB:aL P w K mg base 1 "_law_through" qa)
variable(GC:kH P w K mg base 2 "_law_flows" rj)
variable(GD:aL P w K mg base 1 "_law_row" rH)
variable(GE:aL P w K mg base 1 "_law_within" nQ)
variable(GF:dG P w K mg base 6 "_law_chains" sW)
variable(GG:aL P w K mg base 3 "_law_coming_right" we)
variable(GH:kH P w K mg base 2 "_law_draws" v8)
variable(GI:dG P w K mg base 3 "_law_in_value" wM)
variable(GJ:aL P w K mg base 34 "_law_let_by" sV)
variable(GK:dG P w K mg base 3 "_law_marks" uy)
variable(GL:dG P w K mg base 3 "_law_pool" wt)
variable(GM:aL P w K mg base 32 "back_coming" uo)
abbrev N7:Stmt:=top 4
theorem PB:aG ["keys","key"] ["keys","key"] (bA N7):=dh
abbrev oZ:Stmt:=top 5
abbrev F1:aM:=["one","other","names"]
theorem rL:aG F1 ["one","other"] (bA oZ):=dh
def Pb(F:Dn K mg "keys_meet" oZ ["one","other"]):aL P w K mg base 3 "keys_meet" ti:=
 iB F rL (λ _ q A outer s H E J=>gr rL T J (cU Ga dJ) λ k=>bK (gj (gu k.1) (cY (jR D8)) iy) (bK (gj (gu k.1) (cY (jR D8)) iy) (bK (mY 2 rL.nd (rg vZ rfl T.z_tuple ju (ef (tU (sc:=bA oZ) rfl rfl (by show fu F1 (bA oZ) _ "name" ["other"] [1];exact i2) (d9 k.1) (λ _ _ _ _=>(ni (gu (mq k)))) (λ _ _ _ _=>(xv 0))) fE))) (gJ k))))
def QO(F:Dn K mg "keys_meet" oZ ["one","other"]):aL P w K mg base 4 "keys_meet" l7:=
 iB F rL (λ _ q A outer s H E J=>gr rL T J (cU Gb (cU Ga dJ)) λ k=>bK (gj (gu k.1) (cY (jR (o_ (ef nL (ef (rg vZ rfl T.z_tuple ju (ef (UE T.z_set T.z_sorted (d9 k.1) (d9 k.1)) fE)) fE))))) iy) (bK (cX k) (bK (mY 2 rL.nd (rg vZ rfl T.z_tuple ju (ef (tU (sc:=bA oZ) rfl rfl (by show fu F1 (bA oZ) _ "name" ["other"] [1];exact i2) (d9 k.1) (λ _ _ _ _=>(ni (gu (mq k)))) (λ _ _ _ _=>(xv 0))) fE))) (gJ k))))
abbrev qJ:Stmt:=top 6
noncomputable abbrev Fl:aM:=["keys","table","others","stay","become","names"]
theorem yC:aG Fl ["keys","table"] (bA qJ):=dh
def O2(F:Dn K mg "keys_put_back" qJ ["keys","table"]):aL P w K mg base 1 "keys_put_back" vS:=
 iB F yC (λ _ J A outer s H E q=>gr yC T q dJ λ k=>bK (cX k) (bK (rY 3 yC.nd (sc:=bA qJ) rfl rfl (by show fu Fl (bA qJ) _ "name" ["others"] [2];exact i2) (d9 k.1) (λ _ _ _ _=>(ni (xt (DR (gR q)) (xv 0) (xv 1)))) (λ _ _ _ _=>(xv 0))) (bK (SQ 4 yC.nd (sc:=bA qJ) rfl rfl (by show fu Fl (bA qJ) _ "key" ["others","keys"] [2,0];exact i2) (xv 2) (λ _ _ _ _=>(ni (xt DQ (sD (gR q) (xv 1) (xv 0)) (d9 (mq k))))) (λ _ _ _ _=>(xv 0))) (gJ k))))
abbrev rB:Stmt:=top 8
abbrev Kz:aM:=["keys","others","shut","key","names"]
theorem yD:aG Kz ["keys","others"] (bA rB):=dh
def VY{f:Addr}{fd:FuncData}(F:iz K "keys_some" "keys_some" rB f fd)(Y:dE K fd ["keys","others"] [])(mF:mg "keys_some"=some (.ref f))(Z:∃c,fd.code=.ref c∧PySem.W.codeHdIn K c 42=true):aL P w K mg base 3 "keys_some" xV:=
 ⟨f,fd,["keys","others"],Nf F yD rfl rfl (λ O A outer s H E J q=>
 (bK (F9 2 yD.nd)
 (bK (mU (fW 3 yD.nd) (xv 1)
 (cY (pd 2 (gR q) (xv 3) OE)))
 (bK (gj (xt (oQ q.units) (gZ (xv 0) fR) nL)
 (bK (Mt 2 (rY 4 yD.nd (sc:=bA rB) rfl rfl (by show fu Kz (bA rB) _ "name" ["shut"] [2];exact i2) (gZ (xv 0) fR) (λ _ _ _ _=>(ni (xt (DR (gR q)) (xv 0) (xv 1)))) (λ _ _ _ _=>(xv 0))))
 (cY (jR (Nk (TabP:=42) (TabQ:="keys_some.<locals>.<lambda>") (x:="name") (F:=(cH (aC (eF iF gv) gv))) (q.mono aQ) aQ (by obtain⟨c,h1,h2⟩:=Z;exact⟨c,J.symm.trans h1,h2⟩) (by exact⟨rfl,rfl,rfl,by decide+kernel,rfl,by decide+kernel,by decide+kernel⟩) (by intros;rfl) (by intro f c A outer s H E;exact(o_ (ef (xB NK rfl T.z_len Yy (ef (xv 0) fE)) (ef (xv 0) fE)))) T.z_min (ef (xv 4) fE)))))
 iy)
 ZK)))),Y,F.kp,mF⟩
abbrev NO:Stmt:=top 11
theorem PC:aG ["low","high","step","rest","first","last"] ["low","high","step","rest"] (bA NO):=dh
abbrev NZ:Stmt:=top 12
theorem PD:aG ["v","low","high"] ["v","low","high"] (bA NZ):=dh
abbrev NS:Stmt:=top 13
theorem PF:aG ["one","v"] ["one","v"] (bA NS):=dh
abbrev NT:Stmt:=top 14
theorem PH:aG ["one","other"] ["one","other"] (bA NT):=dh
abbrev NR:Stmt:=top 15
theorem PJ:aG ["one","other"] ["one","other"] (bA NR):=dh
abbrev NJ:Stmt:=top 16
theorem PK:aG ["one","low","high"] ["one","low","high"] (bA NJ):=dh
abbrev Ia:Stmt:=top 17
theorem PL:aG ["one","c"] ["one","c"] (bA Ia):=dh
abbrev HV:Stmt:=top 18
theorem PM:aG ["one","c"] ["one","c"] (bA HV):=dh
abbrev vV:Stmt:=top 19
abbrev Oo:aM:=["one","a","b","ends","step"]
theorem B3:aG Oo ["one","a","b"] (bA vV):=dh
def O1(F:Dn K mg "stretch_moved" vV ["one","a","b"]):aL P w K mg base 2 "stretch_moved" vP:=
 iB F B3 (λ _ q A outer s H E J=>gr B3 T J (cU Gc dJ) λ k=>bK (rY 3 B3.nd (sc:=bA vV) rfl rfl (by show fu Oo (bA vV) _ "end" ["b","a"] [2,1];exact i2) (d9 k.1) (λ _ _ _ _=>pe) (λ _ _ _ _=>(d9 (mq k)))) (gJ k))
abbrev E3:Stmt:=top 20
theorem HP:aG ["a","m","g","s","other","t","times","less"] ["a","m"] (bA E3):=dh
def s_9(F:Dn K mg "divisor_and_factor" E3 ["a","m"]):aL P w K mg base 1 "divisor_and_factor" vR:=
 iB F HP (λ _ q A outer s H E J=>gr HP T J dJ λ k=>bK (cX k) (bK (cX k) (bK (cX k) (bK (cX k) (bK (I0 (gu k.1) (gJ k)) (gJ k))))))
abbrev Fd:Stmt:=top 21
theorem HQ:aG ["one","a","b","found","divisor","away","step","ends","low","high"] ["one","a","b"] (bA Fd):=dh
def O7(F:Dn K mg "stretch_back" Fd ["one","a","b"]):aL P w K mg base 2 "stretch_back" qq:=
 iB F HQ (λ _ q A outer s H E J=>gr HQ T J (cU Gd (cU Gc dJ)) λ k=>bK (gj (gu k.1) (cY (jR D8)) iy) (gJ k))
abbrev NN:Stmt:=top 22
theorem PN:aG ["one","other","turns"] ["one","other"] (bA NN):=dh
abbrev zH:Stmt:=top 23
theorem PQ:aG ["values"] ["values"] (bA zH):=dh
def cl0{f:Addr}{fd:FuncData}(F:iz K "nearest" "nearest" zH f fd)(O:dE K fd ["values"] [])(Z:mg "nearest"=some (.ref f))(Y:∃c,fd.code=.ref c∧PySem.W.codeHdIn K c 130=true):aL P w K mg base 3 "nearest" uQ:=
 ⟨f,fd,["values"],Nf F PQ rfl rfl (λ J A outer s H E q hr=>
 (cY (jR (Nk (TabP:=130) (TabQ:="nearest.<locals>.<lambda>") (x:="v") (F:=(cH (aC (eF kM gv) G1))) (hr.mono aQ) aQ (by obtain⟨c,h1,h2⟩:=Y;exact⟨c,q.symm.trans h1,h2⟩) (by exact⟨rfl,rfl,rfl,by decide+kernel,rfl,by decide+kernel,by decide+kernel⟩) (by intros;rfl) (by intro f c A outer s H E;exact(o_ (ef (xB Hq rfl T.z_abs PyProof.Rows.boot_abs (ef (xv 0) fE)) (ef (Mq (xv 0)) fE)))) T.z_min (ef (xv 0) fE))))),O,F.kp,Z⟩
abbrev BH:Stmt:=top 24
theorem B4:aG ["one","above","below","ends"] ["one"] (bA BH):=dh
def UK(F:Dn K mg "stretch_some" BH ["one"]):aL P w K mg base 4 "stretch_some" wL:=
 iB F B4 (λ _ q A outer s H E J=>gr B4 T J (cU Ge (cU Gf (cU Gg dJ))) λ k=>bK (cX k) (bK (cX k) (bK (sA 3 B4.nd (cK2 (gu k.1) (u5 fE) (u5 (hU k.1)))) (bK (gj (gu k.1) (cY (lV 3 (hU k.1))) iy) (cY (nA 3 (cX k)))))))
abbrev Ou:Stmt:=top 26
theorem PR:aG ["keys","begin","end","stretch"] ["keys","begin","end","stretch"] (bA Ou):=dh
abbrev Ot:Stmt:=top 27
theorem PU:aG ["one","other","keys","stretch"] ["one","other"] (bA Ot):=dh
abbrev Kt:Stmt:=top 28
theorem PX:aG ["thing"] ["thing"] (bA Kt):=dh
abbrev JT:Stmt:=top 29
theorem PY:aG ["box"] ["box"] (bA JT):=dh
abbrev ra:Stmt:=top 30
abbrev CQ:aM:=["boxes","other","met"]
theorem B5:aG CQ ["boxes","other"] (bA ra):=dh
def V0(F:Dn K mg "boxes_met" ra ["boxes","other"]):aL P w K mg base 6 "boxes_met" o9:=
 iB F B5 (λ _ q A outer s H E J=>gr B5 T J (cU Gh dJ) λ k=>bK (cX k) (bK (rY 2 B5.nd (sc:=bA ra) rfl rfl (by show fu CQ (bA ra) _ "box" ["other"] [1];exact i2) (xv 0) (λ _ _ _ _=>pe) (λ _ _ _ _=>(d9 (mq k)))) (cY (jR (tU (sc:=bA ra) rfl rfl (by show fu CQ (bA ra) _ "box" [] [];exact i2) (xv 2) (λ _ _ _ _=>(ni (gu (mq k)))) (λ _ _ _ _=>(xv 0)))))))
abbrev N0:Stmt:=top 31
theorem PZ:aG ["row","word","rest"] ["row"] (bA N0):=dh
abbrev N8:Stmt:=top 32
theorem P0:aG ["box","c","end"] ["box","c"] (bA N8):=dh
abbrev Oq:Stmt:=top 33
theorem P1:aG ["row","box","sieve","rest"] ["row","box"] (bA Oq):=dh
abbrev Fv:Stmt:=top 39
theorem B6:aG ["works","name","row"] ["works","name"] (bA Fv):=dh
def QL(F:Dn K mg "row_named" Fv ["works","name"]):aL P w K mg base 1 "row_named" nU:=
 iB F B6 (λ _ q A outer s H E J=>gr B6 T J dJ λ k=>bK (mU (fW 2 B6.nd) (xv 0) (gJ k)) (gJ k))
abbrev Hj:Stmt:=top 41
theorem P2:aG ["row","mark"] ["row","mark"] (bA Hj):=dh
abbrev Dh:Stmt:=top 42
theorem B7:aG ["row","marks","mark"] ["row","marks"] (bA Dh):=dh
def ci7(F:Dn K mg "in_boxes" Dh ["row","marks"]):aL P w K mg base 3 "in_boxes" pF:=
 iB F B7 (λ _ J A outer s H E q=>gr B7 T q (cU Gi dJ) λ k=>bK (mY 2 B7.nd (sD (gR q) (xv 1) (d9 k.1))) (gJ k))
abbrev tr:Stmt:=top 44
theorem uF:aG ["works","name","box","row","below","ways","from_name","met"] ["works","name","box"] (bA tr):=dh
theorem Pp(F:Dn K mg "ways_back" tr ["works","name","box"])(T:la w K mg):aL P w K mg base 7 "ways_back" (gY 0):=by obtain⟨f,a,F,O,Y⟩:=F;exact⟨f,a,_,E9 F uF rfl rfl (λ J A outer s H E Z=>λ _ _ _ _ _ _ q=>by obtain⟨_,_,_,_,_,e,_⟩:=q;exact nomatch e),O,F.kp,Y⟩
theorem Px(F:Dn K mg "ways_back" tr ["works","name","box"])(T:la w K mg){n:Nat}{g:aK→fN}(O:6≤n)(Gp:aL P w K mg base n "ways_back" g)(Gh:aL P w K mg base 5 "box_meet" kX)(Gi:aL P w K mg base 2 "in_box" m9)(Gj:aL P w K mg base 6 "row_back" kA)(Gk:aL P w K mg base 1 "row_named" nU):aL P w K mg base (n+1) "ways_back" (di 3 5 (sS g)):=
 iB F uF (λ _ q A outer s H E J=>gr uF T J (cU Gp (cU Gh (cU Gi (cU Gj (cU Gk dJ))))) λ k=>bK (cX k) (bK (cX k) (bK (cX k) (bK (cX k) (bK (sA 5 uF.nd (u5 fE)) (bK (mU (fW 6 uF.nd) (d9 k.1) (cY (Y_ 5 (d9 k.1)))) (cY (nA 5 (cX k)))))))))
theorem OH(F:Dn K mg "ways_back" tr ["works","name","box"])(T:la w K mg)(Gh:aL P w K mg base 5 "box_meet" kX)(Gi:aL P w K mg base 2 "in_box" m9)(Gj:aL P w K mg base 6 "row_back" kA)(Gk:aL P w K mg base 1 "row_named" nU):∀n,aL P w K mg base (7+n) "ways_back" (gY n)
 |0=>Pp P base F T
 |n+1=>Px P base (n:=7+n) F T aE (OH F T Gh Gi Gj Gk n) Gh Gi Gj Gk
def QK(F:Dn K mg "ways_back" tr ["works","name","box"]):aL P w K mg base 31 "ways_back" (gY 24):=OH P base F T Gh Gi Gj Gk 24
abbrev BQ:Stmt:=top 45
theorem yE:aG ["works","marks","name","thing","in_name","box","still"] ["works","marks","name","thing"] (bA BQ):=dh
def SH(F:Dn K mg "back_coming" BQ ["works","marks","name","thing"]):aL P w K mg base 32 "back_coming" uo:=
 iB F yE (λ _ q A outer s H E J=>gr yE T J (cU Gl (cU Gm (cU Gn (cU Gk (cU Go (cU Gp dJ)))))) λ k=>bK (mU (xf (lX (fW 4 yE.nd) (lX (fW 5 yE.nd) vG))) (d9 k.1) (bK (cX k) (cY (gj (gu k.1) (cY (jR (xb ZU (d9 k.1) (d9 k.1)))) iy)))) (gJ k))
abbrev NX:Stmt:=top 47
theorem P4:aG ["works","name"] ["works","name"] (bA NX):=dh
abbrev E8:Stmt:=top 48
theorem uG:aG ["origins","number","origin","other"] ["origins"] (bA E8):=dh
def y_2(F:Dn K mg "one_comes_twice" E8 ["origins"]):aL P w K mg base 6 "one_comes_twice" qE:=
 iB F uG (λ _ q A outer s H E J=>gr uG T J (cU Gh dJ) λ k=>bK (YZ T.z_enumerate (xf (lX (fW 1 uG.nd) (lX (fW 2 uG.nd) vG))) (xv 0) (cY (mU (fW 3 uG.nd) (d9 k.1) (gJ k)))) (gJ k))
abbrev Fg:Stmt:=top 49
theorem yF:aG ["works","number","row","origins"] ["works"] (bA Fg):=dh
theorem P5:aG ["self","at"] ["self","at"] (bA zA):=dh
def Su(F:Dn K mg "check_works" Fg ["works"]):lL P w K mg base 33 "check_works" lY:=by
 obtain⟨f,fd,F,O,Y⟩:=F;obtain⟨c0,c2,fI,aa,Z⟩:=T.xn;have I:=WH (CX:=iJ P w) (P:=P) (w:=w) (mg:=mg) (base:=base) (f:="at") Z.fn P5 aQ rfl (λ _ _ _ _ _ _=>rfl) aQ aQ;exact⟨f,fd,["works"],YE F yF rfl rfl (λ J A outer s H E q=>
 (A_ (W5 VG T.z_enumerate (xf (lX (fW 1 yF.nd) (lX (fW 2 yF.nd) vG))) (xv 0)
 (A_ (La (xt DQ (gZ (xv 2) fR) (yP T.c_CHAINS))
 (xxC (xxs (mY 3 yF.nd (xG Gr q (ef (xv 0) (ef (gZ (xv 2) fR) fE)))))
 (A_ (La (xw (oK (u4 (oe (xv 3) (λ _=>rfl))) (u9 (xw (Hm (xt (oQ q.units) (gZ (xv 2) fR) nL) (Ow (oe (xG Gq q (ef (xv 3) fE)) (λ _=>rfl))))))))
 (A_ (Rz UQ Z.m0 Z.x0 Z.s1 I (q.mono aQ) Z.b0 (xv 1)))
 (K_ iy))))
 (K_ iy)))))),O,F.kp,Y⟩
abbrev NU:Stmt:=top 51
theorem P6:aG ["_law_script","_law_k"] ["_law_script","_law_k"] (bA NU):=dh
abbrev N6:Stmt:=top 52
theorem P7:aG ["_law_cell","_law_k","_law_number"] ["_law_cell","_law_k"] (bA N6):=dh
abbrev Fy:Stmt:=top 53
theorem HR:aG ["_law_script","_law_first"] ["_law_script"] (bA Fy):=dh
def QN(F:Dn K mg "_law_draws" Fy ["_law_script"]):kH P w K mg base 2 "_law_draws" v8:=by
 obtain⟨f,fd,F,q,Y⟩:=F;exact⟨f,fd,["_law_script"],Mb F HR rfl rfl (λ J A outer s H E O=>
 (F_ (GN (mY 1 HR.nd (xG Gs O (ef (xv 0) (ef fR fE))))) (xn1 (tW (xv 0) (tW (xb AK (xv 1) fR) (tW fR (tW fR (tW (xv 1) (tW fR xp0))))))))),q,F.kp,Y⟩
abbrev FZ:Stmt:=top 54
theorem HS:aG ["_law_draws_here","_law_number","_law_found"] ["_law_draws_here"] (bA FZ):=dh
def TL(F:Dn K mg "_law_next" FZ ["_law_draws_here"]):dG P w K mg base 2 "_law_next" eu:=
 oW F HS (λ _ q A outer s H E J=>gr HS T J (cU Gs (cU Gt dJ)) λ k=>bK (I0 (gu k.1) (gJ k)) (gJ k))
abbrev wA:Stmt:=top 55
abbrev HC:aM:=["_law_draws_here","_law_some","_law_word","_law_k","_law_at"]
theorem B8:aG HC ["_law_draws_here"] (bA wA):=dh
def TK(F:Dn K mg "_law_pool" wA ["_law_draws_here"]):dG P w K mg base 3 "_law_pool" wt:=
 oW F B8 (λ _ q A outer s H E J=>gr B8 T J (hJ Gu dJ) λ k=>bK (cX k) (bK (cX k) (bK (rM T.z_range (fW 3 B8.nd) (d9 k.1) (gJ k)) (bK (cX k) (cY (jR (tU (sc:=bA wA) rfl rfl (by show fu HC (bA wA) _ "_law_sign" ["_law_word","_law_at"] [2,4];exact i2) nL (λ _ _ _ _=>pe) (λ _ _ _ _=>(d9 (mq k))))))))))
abbrev BP:Stmt:=top 56
theorem uH:aG ["_law_row_here","_law_thing","_law_word","_law_rest","_law_time","_law_key","_law_value"] ["_law_row_here","_law_thing"] (bA BP):=dh
def Sj(F:Dn K mg "_law_through" BP ["_law_row_here","_law_thing"]):aL P w K mg base 1 "_law_through" qa:=
 iB F uH (λ _ J A outer s H E q=>gr uH T q dJ λ k=>bK (cX k) (bK (cX k) (bK (SM (xf (lX (fW 4 uH.nd) (lX (fW 5 uH.nd) (lX (fW 6 uH.nd) vG)))) (xv 1)) (bK (cX k) (bK (cX k) (bK (cX k) (bK (cX k) (bK (cX k) (bK (cX k) (bK (cX k) (bK (gj (gu k.1) (cY (jR (o_ (ef (xv 4) (ef (ZM T.z_dict (gR q) (xv 3) (xv 5) (xv 5)) (hU k.1)))))) iy) (gJ k))))))))))))
abbrev v_:Stmt:=top 57
noncomputable abbrev G6:aM:=["_law_draws_here","_law_names","_law_many","_law_found","_law_k","_law_left"]
theorem uI:aG G6 ["_law_draws_here","_law_names","_law_many"] (bA v_):=dh
def Pq(F:Dn K mg "_law_unlike" v_ ["_law_draws_here","_law_names","_law_many"]):dG P w K mg base 3 "_law_unlike" qK:=
 oW F uI (λ _ q A outer s H E J=>gr uI T J (hJ Gu dJ) λ k=>bK (sA 3 uI.nd (u5 fE)) (bK (rM T.z_range (fW 4 uI.nd) (xv 2) (bK (SR 5 uI.nd 3 0 (sc:=bA v_) rfl rfl (by show fu G6 (bA v_) _ "_law_name" ["_law_found"] [3];exact i2) (xv 1) (λ _ _ _ _=>(ni (W6 1 (xv 0)))) (λ _ _ _ _=>(xv 0))) (cY (lV 3 (hU k.1))))) (cY (nA 3 (cX k)))))
abbrev NY:Stmt:=top 58
theorem P8:aG ["_law_draws_here","_law_low","_law_high"] ["_law_draws_here"] (bA NY):=dh
abbrev wj:Stmt:=top 59
noncomputable abbrev Hn:aM:=["_law_draws_here","_law_word","_law_name","_law_froms","_law_pool_here","_law_keys","_law_begin","_law_end","_law_step","_law_times"]
theorem HU:aG Hn ["_law_draws_here","_law_word","_law_name","_law_froms","_law_pool_here"] (bA wj):=dh
def QM(F:Dn K mg "_law_sieve" wj ["_law_draws_here","_law_word","_law_name","_law_froms","_law_pool_here"]):dG P w K mg base 4 "_law_sieve" sF:=
 oW F HU (λ _ q A outer s H E J=>gr HU T J (hJ Gv (hJ Gu (hJ Gw dJ))) λ k=>bK (cX k) (bK (cX k) (bK (cX k) (bK (cX k) (bK (cX k) (bK (cX k) (bK (cX k) (cY (jR (o_ (ef nL (ef (xv 2) (ef (xv 3) (ef (rg vZ rfl T.z_tuple ju (ef (V4 0 1 (sc:=bA wj) rfl rfl (by show fu Hn (bA wj) _ "_law_key" ["_law_pool_here","_law_draws_here"] [4,0];exact i2) (xv 5) (λ _ _ _ _=>pe) (λ _ _ _ _=>(d9 (mq k)))) fE)) fE))))))))))))))
abbrev Fo:Stmt:=top 60
theorem yG:aG ["_law_draws_here","_law_names","_law_one","_law_pool_here","_law_form","_law_many","_law_cut","_law_rows","_law_k","_law_low","_law_high","_law_begin","_law_end"] ["_law_draws_here","_law_names","_law_one","_law_pool_here"] (bA Fo):=dh
def Pt(F:Dn K mg "_law_parted" Fo ["_law_draws_here","_law_names","_law_one","_law_pool_here"]):lK P w K mg base 3 "_law_parted" wc:=by obtain⟨f,fd,F,q,Y⟩:=F;exact⟨f,fd,["_law_draws_here","_law_names","_law_one","_law_pool_here"],WN F yG rfl rfl (λ J A outer s H E O=>rfN yG T O (hJ Gu dJ) λ k=>vz (cX k) (vz (cX k) (vz (cX k) (vz (sA 7 yG.nd (u5 fE)) (vz (rM T.z_range (fW 8 yG.nd) (xv 5) (bK (cX k) (bK (cX k) (bK (cX k) (bK (cX k) (cY (gj (gu k.1) (cY (lV 7 (hU k.1))) (cY (gj (gu k.1) (cY (lV 7 (hU k.1))) (cY (gj (gu k.1) (cY (lV 7 (hU k.1))) (cY (gj (gu k.1) (cY (lV 7 (hU k.1))) (cY (lV 7 (hU k.1)))))))))))))))) (V7 7)))))),q,F.kp,Y⟩
abbrev wa:Stmt:=top 61
noncomputable abbrev G8:aM:=["_law_draws_here","_law_names","_law_one","_law_chains_here","_law_pool_here","_law_rows","_law_froms","_law_at","_law_word","_law_other"]
theorem uJ:aG G8 ["_law_draws_here","_law_names","_law_one","_law_chains_here","_law_pool_here"] (bA wa):=dh
def Pr(F:Dn K mg "_law_poured" wa ["_law_draws_here","_law_names","_law_one","_law_chains_here","_law_pool_here"]):dG P w K mg base 5 "_law_poured" sQ:=
 oW F uJ (λ _ J A outer s H E q=>gr uJ T q (hJ Gu (hJ Gy dJ)) λ k=>bK (YX 5 0 uJ.nd Gx (q.mono aQ) (hU k.1)) (bK (SS 6 5 uJ.nd (sc:=bA wa) rfl rfl (by show fu G8 (bA wa) _ "_law_row_here" [] [];exact i2) (λ _ _ _ _=>pe) (λ _ _ _ _=>(d9 (mq k)))) (bK (mY 7 uJ.nd (xb AK (d9 k.1) (YY 6 T.z_len))) (bK (cX k) (bK (lV 5 (ef (OA 0 Gy (q.mono aQ) (ef (xv 8) (ef (d9 k.1) (ef (o_ (ef (V5 6 (xv 7)) fE)) (hU k.1))))) fE)) (bK (V1 6 (xv 7) (d9 k.1)) (bK (cX k) (bK (gj (gu k.1) (cY (lV 6 (hU k.1))) iy) (cY (nA 5 (nA 6 (cX k))))))))))))
abbrev qQ:Stmt:=top 62
noncomputable abbrev FV:aM:=["_law_draws_here","_law_pool_here","_law_works","_law_k","_law_chains_here","_law_names","_law_one","_law_form","_law_froms","_law_words"]
theorem pK:aG FV ["_law_draws_here","_law_pool_here"] (bA qQ):=dh
def Pw(F:Dn K mg "_law_chains" qQ ["_law_draws_here","_law_pool_here"]):dG P w K mg base 6 "_law_chains" sW:=
 oW F pK (λ _ q A outer s H E J=>gr pK T J (hJ Gv (hJ Gu (hJ Gz (hJ Gy (hJ Gw dJ))))) λ k=>bK (sA 2 pK.nd (V2 (d9 k.1) OF (OG (d9 k.1)))) (bK (rM T.z_range (fW 3 pK.nd) (d9 k.1) (bK (SO 4 2 pK.nd (sc:=bA qQ) rfl rfl (by show fu FV (bA qQ) _ "_law_row_here" [] [];exact i2) (λ _ _ _ _=>pe) (λ _ _ _ _=>(d9 (mq k)))) (bK (rY 5 pK.nd (sc:=bA qQ) rfl rfl (by show fu FV (bA qQ) _ "_law_sign" ["_law_k"] [3];exact i2) nL (λ _ _ _ _=>pe) (λ _ _ _ _=>(d9 (mq k)))) (bK (cX k) (bK (cX k) (cY (gj (gu k.1) (cY (V6 2 pK.nd (d9 k.1))) (cY (gj (gu k.1) (bK (cX k) (cY (lV 2 (hU k.1)))) (bK (cX k) (cY (lV 2 (hU k.1))))))))))))) (cY (nA 2 (cX k)))))
abbrev Fp:Stmt:=top 63
theorem uK:aG ["_law_works","_law_found","_law_turn","_law_row_here","e"] ["_law_works"] (bA Fp):=dh
def Pu(F:Dn K mg "_law_let_by" Fp ["_law_works"]):aL P w K mg base 34 "_law_let_by" sV:=by obtain⟨c0,Y,fI,O,Z⟩:=T.xn;exact iB F uK (λ _ J A outer s H E q=>gr uK T q dJ λ k=>bK (sA 1 uK.nd (W8 T.z_list (xv 0))) (bK (rM T.z_range (fW 2 uK.nd) fR (cY (YW 1 3 4 (λ _ _ z=>z) GA q (cY (nA 1 (cX k))) Z.m0 Z.ee Z.k0 Z.s1 rfl rfl uK.nd))) (cY (nA 1 (nA 1 (cX k))))))
abbrev CO:Stmt:=top 64
theorem yH:aG ["_law_draws_here","_law_works","_law_marks_here","_law_row_here"] ["_law_draws_here","_law_works"] (bA CO):=dh
def Vm(F:Dn K mg "_law_marks" CO ["_law_draws_here","_law_works"]):dG P w K mg base 3 "_law_marks" uy:=
 oW F yH (λ _ J A outer s H E q=>gr yH T q (hJ Gu dJ) λ k=>bK (F9 2 yH.nd) (bK (mU (fW 3 yH.nd) (xv 1) (cY (gj (gu k.1) (bK (pd 2 (gR q) (d9 k.1) (d9 k.1)) (cY (gj (gu k.1) (cY (pd 2 (gR q) (d9 k.1) wh)) iy))) iy))) (cY (Mt 2 (cX k)))))
abbrev q_:Stmt:=top 65
noncomputable abbrev CP:aM:=["_law_works","_law_name","_law_thing","_law_flows_here","_law_row_here","_law_other","_law_made"]
theorem uL:aG CP ["_law_works","_law_name","_law_thing"] (bA q_):=dh
def VX(F:Dn K mg "_law_flows" q_ ["_law_works","_law_name","_law_thing"]):kH P w K mg base 2 "_law_flows" rj:=by
 obtain⟨f,fd,F,J,Y⟩:=F;exact⟨f,fd,["_law_works","_law_name","_law_thing"],Mb F uL rfl rfl (λ O A outer s H E q=>
 (F_ (GN (F9 3 uL.nd))
 (F_ (GN (mU (fW 4 uL.nd) (xv 0)
 (cY (gj (xt (oQ q.units) (gZ (xv 4) fR) nL)
 (bK (pd 3 (gR q) (gZ (xv 4) fR) (xS fE))
 (cY (gj (xt (oQ q.units) (gZ (xv 4) fR) (xv 1))
 (cY (pd 3 (gR q) (gZ (xv 4) fR) (xS (ef (xv 2) fE))))
 iy)))
 (cY (gj (xt (oQ q.units) (gZ (xv 4) fR) nL)
 (bK (pd 3 (gR q) (gZ (xv 4) fR) (xS fE))
 (cY (mU (fW 5 uL.nd) (gZ (xv 4) fR)
 (cY (pd 3 (gR q) (gZ (xv 4) fR) (xb E_ (Ew 3 (gR q) (gZ (xv 4) fR)) (Ew 3 (gR q) (xv 5))))))))
 (bK (rY 6 uL.nd (sc:=bA q_) rfl rfl (by show fu CP (bA q_) _ "_law_one" ["_law_row_here"] [4];exact i2) (Ew 3 (gR q) (gZ (gZ (xv 4) fR) fR)) (λ _ _ _ _=>pe) (λ _ _ _ _=>(xG GB q (ef (xv 1) (ef (xv 0) fE)))))
 (cY (pd 3 (gR q) (gZ (xv 4) fR) (tU (sc:=bA q_) rfl rfl (by show fu CP (bA q_) _ "_law_one" [] [];exact i2) (xv 6) (λ _ _ _ _=>(ni (xt Co (xv 0) wh))) (λ _ _ _ _=>(xv 0))))))))))))
 (xnO 3)))),J,F.kp,Y⟩
abbrev uP:Stmt:=top 66
abbrev LI:aM:=["_law_works","_law_name"]
theorem P9:aG LI ["_law_works","_law_name"] (bA uP):=dh
def cl1(F:Dn K mg "_law_row" uP ["_law_works","_law_name"]):aL P w K mg base 1 "_law_row" rH:=
 iB F P9 (λ _ q A outer s H E J=>
 (cY (jR (gZ (tU (sc:=bA uP) rfl rfl (by show fu LI (bA uP) _ "_law_row_here" ["_law_name"] [1];exact i2) (xv 0) (λ _ _ _ _=>(ni (xt (oQ J.units) (gZ (xv 0) fR) (xv 1)))) (λ _ _ _ _=>(xv 0))) fR))))
abbrev Ks:Stmt:=top 67
theorem P_:aG ["_law_bounds_here","_law_value"] ["_law_bounds_here","_law_value"] (bA Ks):=dh
abbrev Ic:Stmt:=top 68
theorem QA:aG ["_law_draws_here","_law_bounds_here","_law_value","_law_edge"] ["_law_draws_here","_law_bounds_here"] (bA Ic):=dh
abbrev Bp:Stmt:=top 69
theorem B9:aG ["_law_works","_law_marks_here","_law_found","_law_chain","_law_thing","_law_number"] ["_law_works","_law_marks_here","_law_found","_law_chain","_law_thing"] (bA Bp):=dh
def TJ(F:Dn K mg "_law_coming_right" Bp ["_law_works","_law_marks_here","_law_found","_law_chain","_law_thing"]):aL P w K mg base 3 "_law_coming_right" we:=
 iB F B9 (λ _ J A outer s H E q=>gr B9 T q (cU GD (cU GE dJ)) λ k=>bK (gj (xw (oK (u4 (oe (A9 (t:=.tuple) T.z_isinstance T.z_tuple ju (xv 2)) (λ _=>rfl))) (oK (gu k.1) (oK (gu k.1) (u9 (xt (DR (gR q)) (d9 k.1) (xv 1))))))) (gJ k) iy) (bK (mU (fW 5 B9.nd) (d9 k.1) (cY (gj (xw (oK (u4 (oe (A9 (t:=.int) T.z_isinstance T.z_int PyProof.Rows.boot_int (xv 5)) (λ _=>rfl))) (u9 (oe (A9 (t:=.bool) T.z_isinstance T.z_bool PyProof.Rows.boot_bool (xv 5)) (λ _=>rfl))))) (gJ k) iy))) (bK (gj (xw (oK (u4 (oe (A9 (t:=.str) T.z_isinstance T.z_str PyProof.Rows.boot_str (d9 k.1)) (λ _=>rfl))) (oK (xt Mu (sD (gR q) (xv 1) (d9 k.1)) wh) (u9 (xt Mx (d9 k.1) (sD (gR q) (xv 1) (d9 k.1))))))) (gJ k) iy) (bK (cX k) (cY (jR (Cf (oQ q.units) (xdx (gR q) (OC GC (q.mono aQ) (hU k.1)) (xv 3)) (d9 k.1))))))))
abbrev pS:Stmt:=top 70
theorem mH:aG ["_law_script","_law_draws_here","_law_pool_here","_law_works","_law_marks_here","_law_handed","_law_k","_law_name","_law_value","_law_thing","_law_chain","_law_things","_law_one"] ["_law_script"] (bA pS):=dh
def YD{f:Addr}{fd:FuncData}(F:iz K "law" "law" pS f fd):cR P w K mg base fX 35 f fd ["_law_script"] (qY K rW):=
 E9 F mH rfl rfl (λ J A outer s H E q=>gr mH T q (hJ GF (cU GG (hJ GI (cU GJ (hJ GK (hJ Gu (hJ GL (cU GD (cU GM dJ))))))))) λ k=>bK (V3 1 mH.nd GH (q.mono aQ) (hU k.1)) (bK (cX k) (bK (cX k) (bK (cX k) (bK (mY 5 mH.nd (rg cx2 rfl T.z_dict PyProof.Rows.boot_dict (hU k.1))) (bK (rM T.z_range (fW 6 mH.nd) fR (bK (mY 7 mH.nd (gZ (rg (co5 rfl) rfl T.z_list PyProof.Rows.boot_list (hU k.1)) (xb AK (d9 k.1) (xB cr9 rfl T.z_len Yy (hU k.1))))) (cY (gj (xt Co (sD (gR q) (xv 4) (xv 7)) wh) (bK (cX k) (bK (mY 9 mH.nd (o_ (ef (xb E_ (sD (gR q) (xv 4) (xv 7)) (d9 k.1)) (hU k.1)))) (cY (ZL (xf (lX (fW 10 mH.nd) (lX (fW 11 mH.nd) vG))) (OC GC (q.mono aQ) (hU k.1)) (cY (mU (fW 12 mH.nd) (xv 11) (gJ k))))))) iy)))) (cY (jR (Cf (cH0 q.units) (xv 5) (xv 4))))))))))
end
end
theorem tK(h:j.natAbs<2^64):gi i j=true:=by unfold gi;rw[zk h];simp
theorem uu(h:i.natAbs<2^64):gi i j=true:=by unfold gi;rw[zk h];simp
theorem xW(q:j≠0)(h:j.natAbs<2^64):lJ j=true:=by unfold lJ;rw[zk q,zk (Nat.lt_trans h (Yz aQ aQ))];rfl
end Lake
namespace Lake.St
structure S where
 lo:bZ
 hi:bZ
 st:Int
 re:Int
 deriving DecidableEq
def leO(lo:bZ)(v:Int):Prop:=∀l,lo=some l->l<=v
def geO(hi:bZ)(v:Int):Prop:=∀h,hi=some h->v<=h
structure mem(s:S)(v:Int):Prop where
 l:leO s.lo v
 h:geO s.hi v
 r:v%s.st=s.re
structure Canon(s:S):Prop where
 pos:0<s.st
 r0:0<=s.re
 r1:s.re<s.st
 lo:∀l,s.lo=some l->l%s.st=s.re
 hi:∀h,s.hi=some h->h%s.st=s.re
 lh:∀l h,s.lo=some l->s.hi=some h->l<h\/(l=h/\s.st=1/\s.re=0)
theorem l3{st x y:Int}:x%st=y%st↔st∣x-y:=by rw[Int.emod_eq_emod_iff_emod_sub_eq_zero];exact⟨Int.dvd_of_emod_eq_zero,Int.emod_eq_zero_of_dvd⟩
theorem D6{st re x:Int}(q:0<=re)(h1:re<st):x%st=re↔st∣x-re:=by rw[<-l3,jo q h1]
theorem E2{st x y:Int}(h:x%st=y%st)(q:x<y):x+st<=y:=by
 have d:=l3.mp h.symm;have:=Int.le_of_dvd aE d
 lia
theorem up{l st re:Int}(q:0<st)(Y:0<=re)(h1:re<st):(l+(re-l)%st)%st=re/\l<=l+(re-l)%st/\∀v,v%st=re->l<=v->l+(re-l)%st<=v:=by
 have a:=jj (re-l) (Q6 q);have b:=y7 (re-l) q;have e:(l+(re-l)%st)%st=re:=by rw[Int.add_emod_emod,show l+(re-l)=re by lia,jo Y h1]
 refine⟨e,by lia,λ v J Z=>?_⟩;by_cases O:v<l+(re-l)%st
 .have:=E2 (J.trans e.symm) O
  lia
 .lia
theorem down{h st re:Int}(q:0<st)(Y:0<=re)(h1:re<st):(h-(h-re)%st)%st=re/\h-(h-re)%st<=h/\∀v,v%st=re->v<=h->v<=h-(h-re)%st:=by
 have a:=jj (h-re) (Q6 q);have b:=y7 (h-re) q;have e:(h-(h-re)%st)%st=re:=by rw[Int.sub_emod_emod,show h-(h-re)=re by lia,jo Y h1]
 refine⟨e,by lia,λ v J Z=>?_⟩;by_cases O:h-(h-re)%st<v
 .have:=E2 (e.trans J.symm) O
  lia
 .lia
def first(lo:bZ)(st re:Int):bZ:=lo.map λ l=>l+(re-l)%st
def last(hi:bZ)(st re:Int):bZ:=hi.map λ h=>h-(h-re)%st
noncomputable def made2(f l:bZ)(st re:Int):Option S:=
 match f,l with
 |some a,some b=>if b<a then none else if a=b then some ⟨some a,some b,1,0⟩else some ⟨some a,some b,st,re⟩
 |f,l=>some ⟨f,l,st,re⟩
def made(lo hi:bZ)(st re:Int):Option S:=
 if 0<=re/\re<st then made2 (first lo st re) (last hi st re) st re else none
structure Between(lo hi:bZ)(st re v:Int):Prop where
 l:leO lo v
 h:geO hi v
 r:v%st=re
def Tells(r:Option S)(p:Int->Prop):Prop:=
 match r with
 |none=>∀v,¬p v
 |some s=>Canon s/\∀v,mem s v↔p v
theorem Vb(q:0<st)(O:0<=re)(h1:re<st)(J:v%st=re):leO (first lo st re) v↔leO lo v:=by
 cases lo with
 |none=>exact⟨λ _ l e=>(nomatch e),λ _ l e=>(nomatch e)⟩
 |some l=>
  obtain⟨_,a,b⟩:=up q O h1;constructor
  .intro h x e;cases e;exact Int.le_trans a (h _ rfl)
  .intro h x e;cases e;exact b v J (h _ rfl)
theorem Sg(q:0<st)(O:0<=re)(h1:re<st)(J:v%st=re):geO (last hi st re) v↔geO hi v:=by
 cases hi with
 |none=>exact⟨λ _ l e=>(nomatch e),λ _ l e=>(nomatch e)⟩
 |some l=>
  obtain⟨_,a,b⟩:=down q O h1;constructor
  .intro h x e;cases e;exact Int.le_trans (h _ rfl) a
  .intro h x e;cases e;exact b v J (h _ rfl)
theorem Rb(q:0<st)(J:0<=re)(h1:re<st)(e:first lo st re=some l):l%st=re:=by
 cases lo with
 |none=>cases e
 |some x=>cases e;exact(up q J h1).1
theorem Sa(q:0<st)(J:0<=re)(h1:re<st)(e:last hi st re=some l):l%st=re:=by
 cases hi with
 |none=>cases e
 |some x=>cases e;exact(down q J h1).1
theorem made_ok(O:0<st)(J:0<=re)(h1:re<st):Tells (made lo hi st re) (Between lo hi st re):=by
 unfold made;rw[if_pos ⟨J,h1⟩];have q:∀v,v%st=re->((leO (first lo st re) v/\geO (last hi st re) v)↔(leO lo v/\geO hi v)):=λ v Y=>by
  rw[Vb O J h1 Y,Sg O J h1 Y]
 have c:=λ l=>Rb (lo:=lo) (l:=l) O J h1;have i:=λ l=>Sa (hi:=hi) (l:=l) O J h1;generalize first lo st re=f at q c
 generalize last hi st re=g at q i;have plain:(∀a b,f=some a->g=some b->a<b)->Tells (some ⟨f,g,st,re⟩) (Between lo hi st re):=λ Z=>by
  refine⟨⟨O,J,h1,c,i,λ l h e1 e2=>.inl (Z l h e1 e2)⟩,λ v=>⟨λ m=>?_,λ m=>?_⟩⟩
  .have:=(q v m.r).mp ⟨m.l,m.h⟩;exact⟨this.1,this.2,m.r⟩
  .have:=(q v m.r).mpr ⟨m.l,m.h⟩;exact⟨this.1,this.2,m.r⟩
 cases f with
 |none=>exact plain λ a b e=>nomatch e
 |some a=>
  cases g with
  |none=>exact plain λ a b _ e=>nomatch e
  |some b=>
   unfold made2;dsimp only;by_cases h2:b<a
   .rw[if_pos h2];intro v m;obtain⟨x,y⟩:=(q v m.r).mpr ⟨m.l,m.h⟩;have:=x a rfl;have:=y b rfl;lia
   .rw[if_neg h2];by_cases d:a=b
    .rw[if_pos d];subst d;refine⟨⟨Int.zero_lt_one,yp _,Int.zero_lt_one,λ l _=>by simp,λ l _=>by simp,λ l h e1 e2=>.inr ⟨by cases e1;cases e2;rfl,rfl,rfl⟩⟩,λ v=>⟨λ m=>?_,λ m=>?_⟩⟩
     .have e:v=a:=by have:=m.l a rfl;have:=m.h a rfl;lia
      have Y:v%st=re:=by rw[e];exact c a rfl
      have:=(q v Y).mp ⟨m.l,m.h⟩;exact⟨this.1,this.2,Y⟩
     .have:=(q v m.r).mpr ⟨m.l,m.h⟩;exact⟨this.1,this.2,by simp⟩
    .rw[if_neg d];exact plain λ x y e1 e2=>by cases e1;cases e2;lia
theorem made_none(h:¬(0<=re/\re<st)):made lo hi st re=none:=by unfold made;rw[if_neg h]
theorem made_st(h:made lo hi st re=some s):s.st=st\/s.st=1:=by
 unfold made at h;split at h
 .unfold made2 at h;split at h
  .split at h
   .cases h
   .split at h
    .cases h;exact .inr rfl
    .cases h;exact .inl rfl
  .cases h;exact .inl rfl
 .cases h
theorem Canon.some(c:Canon s):∃v,mem s v:=by
 cases e:s.lo with
 |some l=>
  refine⟨l,λ x h=>by rw[e]at h;cases h;lia,λ h J=>?_,c.lo l e⟩;rcases c.lh l h e J with z|⟨z,_⟩<;>lia
 |none=>
  cases e2:s.hi with
  |some h=>exact⟨h,⟨λ x q=>(by rw[e]at q;cases q),λ x q=>(by rw[e2]at q;cases q;lia),c.hi h e2⟩⟩
  |none=>exact⟨s.re,⟨λ x q=>(by rw[e]at q;cases q),λ x q=>(by rw[e2]at q;cases q),jo c.r0 c.r1⟩⟩
theorem Canon.memLo(c:Canon s)(e:s.lo=Option.some l):mem s l:=by refine⟨λ x h=>by rw[e]at h;cases h;lia,λ h q=>?_,c.lo l e⟩;rcases c.lh l h e q with z|⟨z,_⟩<;>lia
theorem Canon.memHi(c:Canon s)(e:s.hi=Option.some h):mem s h:=by refine⟨λ x J=>?_,λ x q=>by rw[e]at q;cases q;lia,c.hi h e⟩;rcases c.lh x h J e with z|⟨z,_⟩<;>lia
theorem Canon.down(c:Canon s)(m:mem s v)(h:leO s.lo (v-s.st)):mem s (v-s.st):=by have:=c.pos;refine⟨h,λ x e=>by have:=m.h x e;lia,?_⟩;rw[Int.sub_emod_right];exact m.r
theorem Canon.up(c:Canon s)(m:mem s v)(h:geO s.hi (v+s.st)):mem s (v+s.st):=by have:=c.pos;refine⟨λ x e=>by have:=m.l x e;lia,h,?_⟩;rw[Int.add_emod_right];exact m.r
theorem Tells.imp(h:Tells r p)(e:∀v,p v↔q v):Tells r q:=by
 cases r with
 |none=>exact λ v m=>h v ((e v).mpr m)
 |some s=>exact⟨h.1,λ v=>(h.2 v).trans (e v)⟩
noncomputable def ab(a:Int):Int:=if a<0 then -a else a
def mv(a b:Int)(o:bZ):bZ:=o.map λ e=>a*e+b
def moved(s:S)(a b:Int):Option S:=
 if a<0 then made (mv a b s.hi) (mv a b s.lo) (ab a*s.st) ((a*s.re+b)%(ab a*s.st))
 else made (mv a b s.lo) (mv a b s.hi) (ab a*s.st) ((a*s.re+b)%(ab a*s.st))
theorem ab_pos(h:a≠0):0<ab a:=by unfold ab;split<;>lia
theorem GQ{a x y:Int}(h:0<a):a*x<=a*y↔x<=y:=Int.mul_le_mul_left h
theorem F2{a x y:Int}(h:a<0):a*x<=a*y↔y<=x:=by have:=Int.mul_le_mul_left (a:=-a) (b:=y) (c:=x) aE;rw[<-this,Int.neg_mul,Int.neg_mul];lia
theorem Jz(h:0<a):leO (mv a b o) (a*v+b)↔leO o v:=by
 cases o with
 |none=>exact⟨λ _ l e=>(nomatch e),λ _ l e=>(nomatch e)⟩
 |some l=>
  have k:=GQ (x:=l) (y:=v) h;constructor
  .intro z x e;cases e;have q:a*l+b<=a*v+b:=z _ rfl;exact k.mp aE
  .intro z x e;cases e;have:=k.mpr (z _ rfl);lia
theorem JK(h:0<a):geO (mv a b o) (a*v+b)↔geO o v:=by
 cases o with
 |none=>exact⟨λ _ l e=>(nomatch e),λ _ l e=>(nomatch e)⟩
 |some l=>
  have k:=GQ (x:=v) (y:=l) h;constructor
  .intro z x e;cases e;have q:a*v+b<=a*l+b:=z _ rfl;exact k.mp aE
  .intro z x e;cases e;have:=k.mpr (z _ rfl);lia
theorem K0(h:a<0):leO (mv a b o) (a*v+b)↔geO o v:=by
 cases o with
 |none=>exact⟨λ _ l e=>(nomatch e),λ _ l e=>(nomatch e)⟩
 |some l=>
  have k:=F2 (x:=l) (y:=v) h;constructor
  .intro z x e;cases e;have q:a*l+b<=a*v+b:=z _ rfl;exact k.mp aE
  .intro z x e;cases e;have:=k.mpr (z _ rfl);lia
theorem Iz(h:a<0):geO (mv a b o) (a*v+b)↔leO o v:=by
 cases o with
 |none=>exact⟨λ _ l e=>(nomatch e),λ _ l e=>(nomatch e)⟩
 |some l=>
  have k:=F2 (x:=v) (y:=l) h;constructor
  .intro z x e;cases e;have q:a*v+b<=a*l+b:=z _ rfl;exact k.mp aE
  .intro z x e;cases e;have:=k.mpr (z _ rfl);lia
theorem xH(O:0<st)(Y:a≠0)(q:0<=re)(h1:re<st):w%(ab a*st)=(a*re+b)%(ab a*st)↔∃v,v%st=re/\w=a*v+b:=by
 rw[l3];constructor
 .rintro ⟨k,e⟩;refine⟨re+st*(if a<0 then -k else k),by rw[Qk,jo q h1],?_⟩;have e2:a*(st*(if a<0 then -k else k))=ab a*st*k:=by
   unfold ab;split
   .simp only[Int.neg_mul,Zh,ja]
   .simp only[ja]
  rw[Int.mul_add,e2,<-e];lia
 .rintro ⟨v,J,rfl⟩;obtain⟨k,e⟩:=(D6 q h1).mp J;refine⟨(if a<0 then -k else k),?_⟩;have e2:a*v+b-(a*re+b)=a*(st*k):=by rw[<-e,Qj];lia
  rw[e2];unfold ab;split
  .simp only[Int.neg_mul,Zh,ja,Int.neg_neg]
  .simp only[ja]
theorem Kb(c:Canon s)(J:a≠0):Tells (moved s a b) (λ w=>∃v,mem s v/\w=a*v+b):=by
 have O:=Int.mul_pos (ab_pos J) c.pos;have r0:=jj (a*s.re+b) (Q6 O);have r1:=y7 (a*s.re+b) O;unfold moved;split
 .rename_i q;refine(made_ok O r0 r1).imp λ w=>⟨λ m=>?_,?_⟩
  .obtain⟨v,Y,rfl⟩:=(xH c.pos J c.r0 c.r1).mp m.r;exact⟨v,⟨(Iz q).mp m.h,(K0 q).mp m.l,Y⟩,rfl⟩
  .rintro ⟨v,m,rfl⟩;exact⟨(K0 q).mpr m.h,(Iz q).mpr m.l,(xH c.pos J c.r0 c.r1).mpr ⟨v,m.r,rfl⟩⟩
 .have q:0<a:=aE;refine(made_ok O r0 r1).imp λ w=>⟨λ m=>?_,?_⟩
  .obtain⟨v,Y,rfl⟩:=(xH c.pos J c.r0 c.r1).mp m.r;exact⟨v,⟨(Jz q).mp m.l,(JK q).mp m.h,Y⟩,rfl⟩
  .rintro ⟨v,m,rfl⟩;exact⟨(Jz q).mpr m.l,(JK q).mpr m.h,(xH c.pos J c.r0 c.r1).mpr ⟨v,m.r,rfl⟩⟩
theorem Tells.some(h:Tells r p)(q:p v):∃t,r=Option.some t/\Canon t/\∀v,mem t v↔p v:=by
 cases r with
 |none=>exact absurd q (h v)
 |some t=>exact⟨t,rfl,h.1,h.2⟩
theorem moved_some(c:Canon s)(q:a≠0):∃t,moved s a b=some t/\Canon t/\(∀w,mem t w↔∃v,mem s v/\w=a*v+b)/\(t.st=ab a*s.st\/t.st=1):=by
 obtain⟨v,m⟩:=c.some;refine a_ ((Kb (b:=b) c q).some ⟨v,m,rfl⟩) λ t e d h=>?_;refine⟨t,e,d,h,?_⟩;unfold moved at e;split at e<;>exact made_st e
structure Euc(a m g f:Int):Prop where
 pos:0<g
 da:g∣a
 dm:g∣m
 inv:m∣a*f-g
noncomputable def bkLo(s:S)(a b:Int):bZ:=(if 0<a then s.lo else s.hi).map λ e=>-((b-e).fdiv a)
noncomputable def bkHi(s:S)(a b:Int):bZ:=(if 0<a then s.hi else s.lo).map λ e=>(e-b).fdiv a
def back2(s:S)(a b g f:Int):Option S:=
 if(s.re-b)%g=0 then made (bkLo s a b) (bkHi s a b) (s.st/g) ((s.re-b)/g*f%(s.st/g))else none
theorem rm{v x a:Int}(h:0<a):v<=x.fdiv a↔a*v<=x:=by rw[yo _ aE,Int.le_ediv_iff_mul_le h,Qm]
theorem tO{v x a:Int}(h:a<0):v<=x.fdiv a↔x<=a*v:=by rw[<-Int.neg_fdiv_neg,yo _ aE,Int.le_ediv_iff_mul_le aE,Zh,Qm];lia
theorem WC{o:bZ}{f:Int->Int}{v:Int}{p:Prop}{u:Int}(q:∀e,f e<=v↔e<=u):leO (o.map f) v↔leO o u:=by
 cases o with
 |none=>exact⟨λ _ l e=>(nomatch e),λ _ l e=>(nomatch e)⟩
 |some l=>
  constructor
  .intro z x e;cases e;exact(q l).mp (z _ rfl)
  .intro z x e;cases e;exact(q l).mpr (z _ rfl)
theorem R_{o:bZ}{f:Int->Int}{v:Int}{u:Int}(q:∀e,f e<=v↔u<=e):leO (o.map f) v↔geO o u:=by
 cases o with
 |none=>exact⟨λ _ l e=>(nomatch e),λ _ l e=>(nomatch e)⟩
 |some l=>
  constructor
  .intro z x e;cases e;exact(q l).mp (z _ rfl)
  .intro z x e;cases e;exact(q l).mpr (z _ rfl)
theorem WL{o:bZ}{f:Int->Int}{v:Int}{u:Int}(q:∀e,v<=f e↔u<=e):geO (o.map f) v↔geO o u:=by
 cases o with
 |none=>exact⟨λ _ l e=>(nomatch e),λ _ l e=>(nomatch e)⟩
 |some l=>
  constructor
  .intro z x e;cases e;exact(q l).mp (z _ rfl)
  .intro z x e;cases e;exact(q l).mpr (z _ rfl)
theorem Sf{o:bZ}{f:Int->Int}{v:Int}{u:Int}(q:∀e,v<=f e↔e<=u):geO (o.map f) v↔leO o u:=by
 cases o with
 |none=>exact⟨λ _ l e=>(nomatch e),λ _ l e=>(nomatch e)⟩
 |some l=>
  constructor
  .intro z x e;cases e;exact(q l).mp (z _ rfl)
  .intro z x e;cases e;exact(q l).mpr (z _ rfl)
theorem Im(q:a≠0):(leO (bkLo s a b) v/\geO (bkHi s a b) v)↔(leO s.lo (a*v+b)/\geO s.hi (a*v+b)):=by
 unfold bkLo bkHi;by_cases h:0<a
 .rw[if_pos h,if_pos h];have k1:=WC (o:=s.lo) (f:=λ e=>-((b-e).fdiv a)) (v:=v) (u:=a*v+b) (p:=True) λ e=>by
   have:=rm (v:=-v) (x:=b-e) h;lia
  have k2:=WL (o:=s.hi) (f:=λ e=>(e-b).fdiv a) (v:=v) (u:=a*v+b) λ e=>by
   have:=rm (v:=v) (x:=e-b) h;lia
  rw[k1,k2]
 .have h':a<0:=aE;rw[if_neg h,if_neg h];have k1:=R_ (o:=s.hi) (f:=λ e=>-((b-e).fdiv a)) (v:=v) (u:=a*v+b) λ e=>by
   have:=tO (v:=-v) (x:=b-e) h';lia
  have k2:=Sf (o:=s.lo) (f:=λ e=>(e-b).fdiv a) (v:=v) (u:=a*v+b) λ e=>by
   have:=tO (v:=v) (x:=e-b) h';lia
  rw[k1,k2];exact And.comm
theorem back_ok(c:Canon s)(ha:a≠0)(E:Euc a s.st g f):Tells (back2 s a b g f) (λ v=>mem s (a*v+b)):=by
 obtain⟨o,⟨q,Y⟩,⟨J,O⟩,hi⟩:=E;unfold back2;by_cases h:(s.re-b)%g=0
 .rw[if_pos h];obtain⟨w,j⟩:=Int.dvd_of_emod_eq_zero h;have e1:s.st/g=J:=by rw[O];exact Qs _ aE
  have e2:(s.re-b)/g=w:=by rw[j];exact Qs _ aE
  rw[e1,e2];have mp:0<J:=by have:=c.pos;rw[O]at this;exact Z8 this aE
  have Z:J∣q*f-1:=by
   obtain⟨k,e⟩:=hi;refine⟨k,?_⟩;have:g*(q*f-1)=g*(J*k):=by rw[Qj,<-ja,<-Y,Z7,e,O,ja]
   exact Int.eq_of_mul_eq_mul_left aE this
  have i:∀v,v%J=w*f%J↔(a*v+b)%s.st=s.re:=λ v=>by
   rw[l3,D6 c.r0 c.r1];have e3:a*v+b-s.re=g*(q*v-w):=by rw[Qj,<-j,<-ja,<-Y];lia
   rw[e3,O];constructor
   .intro d;refine Int.mul_dvd_mul_left g ?_;have e4:q*v-w=q*(v-w*f)+w*(q*f-1):=by rw[Qj,Qj,Z7,show q*(w*f)=w*(q*f) by rw[<-ja,<-ja,Qm q w]];lia
    rw[e4];exact Int.dvd_add (j9 d (Zd _ _)) (j9 Z (Zd _ _))
   .intro d;have d:=Int.dvd_of_mul_dvd_mul_left aE d;have e4:v-w*f=f*(q*v-w)-v*(q*f-1):=by rw[Qj,Qj,Z7,show v*(q*f)=f*(q*v) by rw[Qm v,ja,Int.mul_left_comm],Qm w f];lia
    rw[e4];exact Int.dvd_sub (j9 d (Zd _ _)) (j9 Z (Zd _ _))
  refine(made_ok mp (jj _ aE) (y7 _ mp)).imp λ v=>⟨λ m=>?_,λ m=>?_⟩
  .obtain⟨x,y⟩:=(Im ha).mp ⟨m.l,m.h⟩;exact⟨x,y,(i v).mp m.r⟩
  .obtain⟨x,y⟩:=(Im ha).mpr ⟨m.l,m.h⟩;exact⟨x,y,(i v).mpr m.r⟩
 .rw[if_neg h];intro v m;refine h (Int.emod_eq_zero_of_dvd ?_);have d:=j9 ⟨J,O⟩ ((D6 c.r0 c.r1).mp m.r);have n:g∣a*v:=⟨q*v,by rw[Y,ja]⟩;have:=Int.dvd_sub n d;rw[show a*v-(a*v+b-s.re)=s.re-b by lia]at this;exact this
structure EI(a m g o s t:Int):Prop where
 g0:0<=g
 o0:0<=o
 gm:g<=m
 om:o<=m
 go:0<g+o
 cs:m∣a*s-g
 ct:m∣a*t-o
 dv:∀d,d∣g->d∣o->d∣a%m/\d∣m
 sm:s.natAbs<=m.toNat
 tm:t.natAbs<=m.toNat
 pr:s.natAbs*o.toNat+t.natAbs*g.toNat<=m.toNat
theorem EI.start(q:0<m):EI a m (a%m) m 1 0:=by
 have J:=jj a (Q6 q);have h1:=y7 a q;refine⟨J,by lia,by lia,yp _,by lia,?_,?_,λ d x y=>⟨x,y⟩,?_,by simp,by simp⟩
 .rw[Z7];exact Int.dvd_self_sub_emod
 .rw[Int.mul_zero];exact⟨-1,by lia⟩
 .lia
theorem EI.turn(E:EI a m g o s t)(h:o≠0):EI a m o (g-g/o*o) t (s-g/o*t)/\(g-g/o*o).toNat<o.toNat:=by
 have:=E.o0;have b:0<o:=aE;have e:g-g/o*o=g%o:=by rw[Int.emod_def,Qm]
 have c:=jj g (Q6 b);have f:=y7 g b;have O:=Yo E.g0 E.o0;have q:t.natAbs*(g%o).toNat+(s-g/o*t).natAbs*o.toNat<=m.toNat:=by
  have h1:(s-g/o*t).natAbs<=s.natAbs+(g/o).toNat*t.natAbs:=by refine qy (Qd _ _) ?_;rw[Zx,show(g/o).natAbs=(g/o).toNat by lia];exact qj _
  have h2:g.toNat=o.toNat*(g/o).toNat+(g%o).toNat:=by
   lia
  have J:=E.pr;rw[h2]at J;have Y:=Y2 o.toNat h1;rw[Nat.add_mul]at Y;rw[Nat.mul_add]at J
  lia
 rw[e];refine⟨⟨E.o0,c,E.om,by have:=E.om;lia,by lia,E.ct,?_,λ d x y=>?_,E.tm,?_,q⟩,by lia⟩
 .rw[show a*(s-g/o*t)-g%o=(a*s-g)-g/o*(a*t-o) by
   rw[<-e,Qj,Qj,show a*(g/o*t)=g/o*(a*t) by rw[Int.mul_left_comm]];lia]
  exact Int.dvd_sub E.cs (j9 E.ct (Zd _ _))
 .refine E.dv d ?_ x;have:=Ys g o;rw[<-this];exact Int.dvd_add (j9 x (Int.dvd_mul_right _ _)) y
 .have:=qy (Nat.le_add_left _ _) q;exact qy (Nat.le_mul_of_pos_right _ aE) this
theorem EI.fin(q:0<m)(E:EI a m g 0 s t):Euc a m g s:=by obtain⟨h1,h2⟩:=E.dv g (Int.dvd_refl g) (Int.dvd_zero g);have:=E.go;refine⟨by lia,?_,h2,E.cs⟩;have:=Ys a m;rw[<-this];exact Int.dvd_add (j9 h2 (Int.dvd_mul_right _ _)) h1
structure Bd(s:S)(n:Nat):Prop where
 st:s.st.natAbs<=n
 re:s.re.natAbs<=n
 lo:∀l,s.lo=some l->l.natAbs<=n
 hi:∀l,s.hi=some l->l.natAbs<=n
def BdO(r:Option S)(n:Nat):Prop:=∀s,r=some s->Bd s n
theorem Bd.mono(b:Bd s n)(h:n<=m):Bd s m:=⟨qy b.st h,qy b.re h,λ l e=>qy (b.lo l e) h,λ l e=>qy (b.hi l e) h⟩
def OB(o:bZ)(n:Nat):Prop:=∀l,o=some l->l.natAbs<=n
theorem made_bd(h1:OB lo n)(h2:OB hi n)(h3:st.natAbs<=m)(Y:0<st):BdO (made lo hi st re) (n+m):=λ s e=>by
 unfold made at e;by_cases h:0<=re/\re<st
 .rw[if_pos h]at e;have c:OB (first lo st re) (n+m):=λ l q=>by
   cases lo with
   |none=>cases q
   |some x=>
    cases q;have:=h1 x rfl;have a:=jj (re-x) (Q6 Y);have b:=y7 (re-x) Y;exact qy (Je _ _) (Nat.add_le_add this aE)
  have Z:OB (last hi st re) (n+m):=λ l q=>by
   cases hi with
   |none=>cases q
   |some x=>
    cases q;have:=h2 x rfl;have a:=jj (x-re) (Q6 Y);have b:=y7 (x-re) Y;exact qy (Qd _ _) (Nat.add_le_add this aE)
  generalize first lo st re=f at e c
  generalize last hi st re=g at e Z;have fin:∀J O,J.natAbs<=n+m->O.natAbs<=n+m->Bd ⟨f,g,J,O⟩ (n+m):=λ J O a b=>⟨a,b,c,Z⟩
  unfold made2 at e;split at e
  .split at e
   .cases e
   .split at e
    .cases e;exact fin 1 0 (by lia) (by lia)
    .cases e;exact fin st re aE aE
  .cases e;exact fin st re aE aE
 .rw[if_neg h]at e;cases e
theorem xE{x a:Int}(h:a≠0):(x.fdiv a).natAbs<=x.natAbs:=by
 by_cases q:0<a
 .rw[yo _ aE];exact Qo _ _
 .rw[<-Int.neg_fdiv_neg,yo _ aE];exact qy (Qo _ _) (by rw[Int.natAbs_neg];exact qj _)
theorem back_bd(c:Canon s)(E:Euc a s.st g f)(O:a≠0)(bs:Bd s n)(Z:b.natAbs<=n):BdO (back2 s a b g f) (n+n+n):=by
 unfold back2;split
 .have Y:=E.pos;have d:0<s.st/g:=by obtain⟨h,J⟩:=E.dm;rw[J,Qs _ aE];have:=c.pos;rw[J]at this;exact Z8 this aE
  refine made_bd (λ l e=>?_) (λ l e=>?_) ?_ d
  .unfold bkLo at e;cases q:(if 0<a then s.lo else s.hi)with
   |none=>rw[q]at e;cases e
   |some x=>
    rw[q]at e;obtain rfl:=aW e;have hx:x.natAbs<=n:=by
     split at q
     .exact bs.lo x q
     .exact bs.hi x q
    rw[Int.natAbs_neg];exact qy (xE O) (qy (Qd b x) aE)
  .unfold bkHi at e;cases q:(if 0<a then s.hi else s.lo)with
   |none=>rw[q]at e;cases e
   |some x=>
    rw[q]at e;obtain rfl:=aW e;have hx:x.natAbs<=n:=by
     split at q
     .exact bs.hi x q
     .exact bs.lo x q
    exact qy (xE O) (qy (Qd x b) aE)
  .exact qy (Qo _ _) bs.st
 .intro s e;simp at e
theorem yR(h:OB o n)(q:a.natAbs<=m)(O:b.natAbs<=m):OB (mv a b o) (m*n+m):=λ l e=>by
 cases o with
 |none=>cases e
 |some x=>
  obtain rfl:=aW e;have h1:=h x rfl;have h2:=Je (a*x) b;rw[Zx]at h2;have J:=Y3 q h1;lia
theorem ab_abs(a:Int):(ab a).natAbs=a.natAbs:=by unfold ab;split<;>lia
theorem R7(c:Canon s)(O:a≠0)(bs:Bd s n)(h1:a.natAbs<=m)(h2:b.natAbs<=m):BdO (moved s a b) (m*n+m+m*n):=by
 have J:=Int.mul_pos (ab_pos O) c.pos;have q:(ab a*s.st).natAbs<=m*n:=by rw[Zx,ab_abs];exact Y3 h1 bs.st
 unfold moved;split
 .exact made_bd (yR bs.hi h1 h2) (yR bs.lo h1 h2) q J
 .exact made_bd (yR bs.lo h1 h2) (yR bs.hi h1 h2) q J
def lowB(a b:bZ):bZ:=match a,b with
 |none,b=>b
 |a,none=>a
 |some x,some y=>some (if y>x then y else x)
def uppB(a b:bZ):bZ:=match a,b with
 |none,b=>b
 |a,none=>a
 |some x,some y=>some (if y<x then y else x)
theorem iY:leO (lowB a b) v↔leO a v/\leO b v:=by
 cases a with
 |none=>exact⟨λ h=>⟨λ l e=>(tD e),h⟩,λ h=>h.2⟩
 |some x=>
  cases b with
  |none=>exact⟨λ h=>⟨h,λ l e=>(tD e)⟩,λ h=>h.1⟩
  |some y=>
   constructor
   .intro h;have:=h _ rfl;refine⟨λ l e=>?_,λ l e=>?_⟩<;>cases e<;>split at this<;>lia
   .rintro ⟨h1,h2⟩ l e;obtain rfl:=aW e;have:=h1 x rfl;have:=h2 y rfl;split<;>lia
theorem i4:geO (uppB a b) v↔geO a v/\geO b v:=by
 cases a with
 |none=>exact⟨λ h=>⟨λ l e=>(tD e),h⟩,λ h=>h.2⟩
 |some x=>
  cases b with
  |none=>exact⟨λ h=>⟨h,λ l e=>(tD e)⟩,λ h=>h.1⟩
  |some y=>
   constructor
   .intro h;have:=h _ rfl;refine⟨λ l e=>?_,λ l e=>?_⟩<;>cases e<;>split at this<;>lia
   .rintro ⟨h1,h2⟩ l e;obtain rfl:=aW e;have:=h1 x rfl;have:=h2 y rfl;split<;>lia
theorem Wx(h1:OB a n)(h2:OB b n):OB (lowB a b) n:=λ l e=>by
 cases a with
 |none=>exact h2 l e
 |some x=>
  cases b with
  |none=>exact h1 l e
  |some y=>
   obtain rfl:=aW e;have:=h1 x rfl;have:=h2 y rfl;split<;>lia
theorem SW(h1:OB a n)(h2:OB b n):OB (uppB a b) n:=λ l e=>by
 cases a with
 |none=>exact h2 l e
 |some x=>
  cases b with
  |none=>exact h1 l e
  |some y=>
   obtain rfl:=aW e;have:=h1 x rfl;have:=h2 y rfl;split<;>lia
def between(s:S)(lo hi:bZ):Option S:=made (lowB s.lo lo) (uppB s.hi hi) s.st s.re
theorem UB(c:Canon s):Tells (between s lo hi) (λ v=>mem s v/\leO lo v/\geO hi v):=by
 refine(made_ok c.pos c.r0 c.r1).imp λ v=>⟨λ m=>?_,fun⟨m,a,b⟩=>?_⟩
 .obtain⟨a,b⟩:=iY.mp m.l;obtain⟨q,J⟩:=i4.mp m.h;exact⟨⟨a,q,m.r⟩,b,J⟩
 .exact⟨iY.mpr ⟨m.l,a⟩,i4.mpr ⟨m.h,b⟩,m.r⟩
theorem UC(c:Canon s)(bs:Bd s n)(h1:OB lo n)(h2:OB hi n):BdO (between s lo hi) (n+n):=
 made_bd (Wx bs.lo h1) (SW bs.hi h2) bs.st c.pos
def meet2(one q:S)(g f:Int):Option S:=match back2 q one.st one.re g f with
 |none=>none
 |some t=>match moved t one.st one.re with
  |none=>none
  |some u=>between u one.lo one.hi
theorem meet_ok(Y:Canon one)(c2:Canon q)(E:Euc one.st q.st g f):Tells (meet2 one q g f) (λ v=>mem one v/\mem q v):=by
 have J:=back_ok (b:=one.re) c2 (by have:=Y.pos;lia) E;have c:∀v,v%one.st=one.re↔∃k,v=one.st*k+one.re:=λ v=>by
  constructor
  .intro h;refine⟨v/one.st,?_⟩;have:=Ys v one.st;lia
  .rintro ⟨k,rfl⟩;rw[Int.mul_add_emod_self_left,jo Y.r0 Y.r1]
 unfold meet2;cases e:back2 q one.st one.re g f with
 |none=>
  rw[e]at J;intro v ⟨O,Z⟩;obtain⟨k,rfl⟩:=(c v).mp O.r;exact J k Z
 |some t=>
  rw[e]at J;obtain⟨u,j,i,d,_⟩:=moved_some J.1 (show one.st≠0 by have:=Y.pos;lia);dsimp only;rw[j];refine(UB i).imp λ v=>⟨fun⟨m,a,b⟩=>?_,fun⟨O,Z⟩=>?_⟩
  .obtain⟨k,mk,rfl⟩:=(d v).mp m;exact⟨⟨a,b,(c _).mpr ⟨k,rfl⟩⟩,(J.2 k).mp mk⟩
  .obtain⟨k,rfl⟩:=(c v).mp O.r;exact⟨(d _).mpr ⟨k,(J.2 k).mpr Z,rfl⟩,O.l,O.h⟩
theorem meet_bd(c1:Canon one)(c2:Canon J)(E:Euc one.st J.st g f)(h1:1<=n)(O:Bd one n)(b2:Bd J n):BdO (meet2 one J g f) (16*(n*n)):=by
 have Y:one.st≠0:=by have:=c1.pos;lia
 have a:=back_ok (b:=one.re) c2 Y E;have d:=back_bd c2 E Y b2 O.re;have j:=Nat.le_mul_of_pos_left n h1;intro s e;unfold meet2 at e;cases q:back2 J one.st one.re g f with
 |none=>rw[q]at e;cases e
 |some t=>
  rw[q]at e a;have bt:=d t q;dsimp only at e;cases Z:moved t one.st one.re with
  |none=>rw[Z]at e;cases e
  |some u=>
   rw[Z]at e;have h:=R7 a.1 Y bt O.st O.re u Z;have i:Canon u:=by have:=Kb (b:=one.re) a.1 Y;rw[Z]at this;exact this.1
   have e1:n*(n+n+n)=n*n+n*n+n*n:=by rw[Nat.mul_add,Nat.mul_add]
   have c:=h.mono (m:=8*(n*n)) aE;refine(UC i c (λ l z=>qy (O.lo l z) aE) (λ l z=>qy (O.hi l z) aE) s e).mono aE
end Lake.St
namespace Lake
@[simp 2000] theorem LH:aR F G U=u6 G (F U):=rfl
@[simp 2000] theorem K7:u6 G (some (.nx U))=G U:=rfl
@[simp 2000] theorem Nt:e2 op F G U=AE op G (F U):=rfl
@[simp 2000] theorem IG:aC F A U=yN A (F U):=rfl
@[simp 2000] theorem Nw:eC d U=some (d,U):=rfl
@[simp 2000] theorem IY:aN U=some ([],U):=rfl
@[simp 2000] theorem MD:yN A (some (x,U))=yO x (A U):=rfl
@[simp 2000] theorem MC:yO x (some (xs,U))=some (x::xs,U):=rfl
@[simp 2000] theorem LF:bH i F U=Aa i (F U):=rfl
@[simp 2000] theorem ME:bX T F G U=rZ F G (T U):=rfl
@[simp 2000] theorem Ny:eF g A U=AF g (A U):=rfl
@[simp 2000] theorem MB:AF g (some (xs,U))=g_ (g xs) U:=rfl
@[simp 2000] theorem Ol:tB F U=wI (F U):=rfl
@[simp 2000] theorem My:g_ (some d) U=some (d,U):=rfl
@[simp 2000] theorem K5:Aa i (some (x,U))=some (.nx (U.set i (.i x))):=rfl
@[simp 2000] theorem Lf:rZ F G (some (false,U))=G U:=rfl
@[simp 2000] theorem LD:wI (some (.b b,U))=some (b,U):=rfl
@[simp 2000] theorem Le:rZ F G (some (true,U))=F U:=rfl
@[simp 2000] theorem Mz:cH A U=p_ (A U):=rfl
@[simp 2000] theorem MA:fx A U=DW (A U):=rfl
@[simp 2000] theorem MF:dU i g A U=zW i g A U (hH U[i]?):=rfl
@[simp 2000] theorem Lx:zW i g A U (some q)=zT i g (A U):=rfl
@[simp 2000] theorem Lw:zS i g ds U (some (b,o))=p9 i U b (g o ds):=rfl
@[simp 2000] theorem Lv:p9 i U b (some (d,o))=some (d,U.set i (.o b o)):=rfl
@[simp high] theorem vvy:(∀g b o U,dU 0 g aN (.o b o::U)=p9 0 (.o b o::U) b (g o []))/\∀b q u o d U,p9 0 (.o q u::U) b (some (d,o))=some (d,.o b o::U):=fz
noncomputable def dO:bZ->D
 |none=>.n
 |some i=>.int i
def dS(s:St.S):D:=.t [dO s.lo,dO s.hi,.int s.st,.int s.re]
def iT:Option St.S->D
 |none=>.n
 |some s=>dS s
@[simp] theorem o8:dO none=.n:=rfl
@[simp] theorem q_2:dO (some i)=.int i:=rfl
@[simp] theorem aM6:iT none=.n:=rfl
@[simp] theorem aM5:iT (some s)=dS s:=rfl
@[simp] theorem IW:dS ⟨lo,hi,st,re⟩=.t [dO lo,dO hi,.int st,.int re]:=rfl
@[simp] theorem cI7(s:St.S):gP (dS s)=false:=rfl
theorem nH{a b:Int}(h:0<b):a.fmod b=a%b:=Int.fmod_eq_emod_of_nonneg a aE
def ip(x:cC)(d:D):Prop:=∃t,x=some (.rt d t)
theorem ip.seq(h:F U=some (.nx ρ'))(H:ip (G ρ') d):ip (aR F G U) d:=by obtain⟨t,e⟩:=H;exact⟨t,by simp[h,e]⟩
theorem ip.z(h:T U=some (false,U))(H:ip (B U) d):ip (aR (bX T A sN) B U) d:=.seq (by simp[h]) H
theorem ip.yes(h:T U=some (true,U))(H:ip (A U) d):ip (aR (bX T A sN) B U) d:=by obtain⟨t,e⟩:=H;exact⟨t,by simp[h,e]⟩
theorem ip.ret(h:F U=some (d,U)):ip (bU F U) d:=⟨U,by simp[h]⟩
theorem ip.fn(q:ds.length=n)(h:ip (B (ds.map .i++List.replicate k .z)) d):di n k B ds=some d:=by obtain⟨t,e⟩:=h;simp[q,e]
theorem pf(lo hi:bZ)(st re:Int):kO [dO lo,dO hi,.int st,.int re]=some (iT (St.made lo hi st re)):=by
 by_cases h:0<=re/\re<st
 .have J:0<st:=aE;have q:¬st=0:=aE;unfold St.made;rw[if_pos h];refine ip.fn rfl (.z (by simp[h.1,h.2]) (.seq (ρ':=[.i (dO lo),.i (dO hi),.i (.int st),.i (.int re),.i (dO (St.first lo st re)),.z]) (by cases lo<;>simp[St.first,q,nH J]) (.seq (ρ':=[.i (dO lo),.i (dO hi),.i (.int st),.i (.int re),.i (dO (St.first lo st re)),.i (dO (St.last hi st re))]) (by cases hi<;>simp[St.last,q,nH J]) ?_)));cases St.first lo st re with
  |none=>exact .yes bP (.ret (by simp[St.made2]))
  |some x=>
   cases St.last hi st re with
   |none=>exact .yes bP (.ret (by simp[St.made2]))
   |some y=>
    refine .z bP ?_;by_cases a:y<x
    .exact .yes (by simp[a]) (.ret (by simp[St.made2,a]))
    .refine .z (by simp[a]) ?_;by_cases b:x=y
     .exact .yes (by simp[b]) (.ret (by simp[St.made2,b]))
     .exact .z (by simp[b]) (.ret (by simp[St.made2,a,b]))
 .rw[St.made_none h];refine ip.fn rfl (.yes ?_ (.ret rfl));by_cases a:0<=re
  .have b:¬re<st:=λ z=>h ⟨a,z⟩;simp[a,b]
  .simp[a]
def eP(lo:bZ)(v:Int):Bool:=match lo with|none=>true|some l=>decide (l<=v)
def eO(hi:bZ)(v:Int):Bool:=match hi with|none=>true|some h=>decide (v<=h)
def dg(s:St.S)(v:Int):Bool:=eP s.lo v&&eO s.hi v&&decide (v%s.st=s.re)
theorem CS:eP lo v=true↔St.leO lo v:=by
 cases lo with
 |none=>exact⟨λ _ l e=>(nomatch e),λ _=>rfl⟩
 |some l=>exact⟨λ h x e=>by cases e;exact jm h,λ h=>zk (h l rfl)⟩
theorem CV:eO lo v=true↔St.geO lo v:=by
 cases lo with
 |none=>exact⟨λ _ l e=>(nomatch e),λ _=>rfl⟩
 |some l=>exact⟨λ h x e=>by cases e;exact jm h,λ h=>zk (h l rfl)⟩
theorem bQ:dg s v=true↔St.mem s v:=by unfold dg;rw[ze,ze,CS,CV,yf];exact⟨fun⟨⟨a,b⟩,c⟩=>⟨a,b,c⟩,λ m=>⟨⟨m.l,m.h⟩,m.r⟩⟩
theorem SG(a:Int):(a.natAbs:Int)=St.ab a:=by unfold St.ab;split<;>lia
theorem iu(h:F U=some (.nx ρ')):aR F G U=G ρ':=by rw[LG,h,K6]
theorem U6(hp:0<s.st)(ha:a≠0)(ok:∀x,(x=s.re\/s.lo=some x\/s.hi=some x)->gi a x=true)(q:gi (St.ab a) s.st=true):vP [dS s,.int a,.int b]=some (iT (St.moved s a b)):=by
 obtain⟨lo,hi,st,re⟩:=s;have hp:0<st:=hp;have j:=ok re (.inl rfl);have k:=Int.mul_pos (St.ab_pos ha) hp;have l:¬St.ab a*st=0:=aE;have two:(2:Nat)<=sizeLine:=aQ;have m:∀lo hi,kO [dO lo,dO hi,.int (St.ab a*st),.int ((a*re+b)%(St.ab a*st))]=some (iT (St.made lo hi (St.ab a*st) ((a*re+b)%(St.ab a*st)))):=λ lo hi=>pf _ _ _ _;have O:∀x y:D,dW [x,y] 0=some x:=λ _ _=>rfl;have Z:∀x y:D,dW [x,y] 1=some y:=λ _ _=>rfl;have f:∀x y z w:D,dW [x,y,z,w] 2=some z:=λ _ _ _ _=>rfl;have g:∀x y z w:D,dW [x,y,z,w] 3=some w:=λ _ _ _ _=>rfl;have c:∀x y z w:D,jN [x,y,z,w] none (some 2)=[x,y]:=λ _ _ _ _=>rfl;have e2:¬(iq 4 0 none=0/\iq 4 4 (some 2)=4):=aQ;obtain⟨p,J⟩:∃p:bZ,p=(if a<0 then hi else lo).map λ e=>a*e+b:=⟨_,rfl⟩;obtain⟨r,Y⟩:∃p:bZ,p=(if a<0 then lo else hi).map λ e=>a*e+b:=⟨_,rfl⟩;have i:E6 [.i (.t [dO lo,dO hi,.int st,.int re]),.i (.int a),.i (.int b),.z,.z]=_:=(iu (ρ':=[.i (.t [dO lo,dO hi,.int st,.int re]),.i (.int a),.i (.int b),.i (.l [dO (lo.map λ e=>a*e+b),dO (hi.map λ e=>a*e+b)]),.z]) (by
   cases lo with
   |none=>
    cases hi with
    |none=>simp[c,e2,two]
    |some y=>simp[c,e2,two,ok y (.inr (.inr rfl))]
   |some x=>
    cases hi with
    |none=>simp[c,e2,two,ok x (.inr (.inl rfl))]
    |some y=>simp[c,e2,two,ok x (.inr (.inl rfl)),ok y (.inr (.inr rfl))])).trans ((iu (ρ':=[.i (.t [dO lo,dO hi,.int st,.int re]),.i (.int a),.i (.int b),.i (.l [dO p,dO r]),.z]) (by
   by_cases h:a<0<;>simp[J,Y,h,O,Z])).trans (iu (ρ':=[.i (.t [dO lo,dO hi,.int st,.int re]),.i (.int a),.i (.int b),.i (.l [dO p,dO r]),.i (.int (St.ab a*st))]) (by simp[f,q,SG])))
 have fin:∀{d U},E6 [.i (.t [dO lo,dO hi,.int st,.int re]),.i (.int a),.i (.int b),.z,.z]=some (.rt d U)->vP [dS ⟨lo,hi,st,re⟩,.int a,.int b]=some d:=λ h=>by
  simp[vP,h]
 have e:St.moved ⟨lo,hi,st,re⟩ a b=St.made p r (St.ab a*st) ((a*re+b)%(St.ab a*st)):=by unfold St.moved;rw[J,Y];by_cases h:a<0<;>simp[h,St.mv]
 rw[e];exact fin (i.trans (by simp[O,Z,g,j,l,nH k,m];rfl))
theorem Fh{a b:Int}(h:0<b):a.fdiv b=a/b:=yo a aE
theorem oA(h:i.natAbs<=m)(q:m<2^1000):lW i=true:=zk (j0 h q)
theorem wK(h:lW i=true)(h':lW j=true):gi i j=true:=by unfold gi;rw[h,h'];simp
theorem BR(h:j≠0)(h':lW j=true):lJ j=true:=by grind[lJ,lW]
abbrev eT:FT:=NL
abbrev eB:FS:=NM
noncomputable abbrev eE(a m g s o t:Int)(x y:Sl):En:=[.i (.int a),.i (.int m),.i (.int g),.i (.int s),.i (.int o),.i (.int t),x,y]
theorem JM(q:m.toNat<2^1000):∀(n:Nat)(g o s t:Int)(x y:Sl),St.EI a m g o s t->o.toNat<n->∃g' s' t' x' O,lH eT eB n (eE a m g s o t x y)=some (.nx (eE a m g' s' 0 t' x' O))/\St.EI a m g' 0 s' t'
 |0,_,_,_,_,_,_,_,h=>by lia
 |n+1,g,o,s,t,x,y,E,h=>by
  rw[LJ];by_cases J:o=0
  .subst J;refine⟨g,s,t,x,y,?_,E⟩;simp
  .have:=E.o0;have:=E.gm;have:=E.om;have d:0<o:=aE;have Y:lW o=true:=oA aE q;have f:=Yo E.g0 E.o0;have i:g/o<=g:=Int.ediv_le_self _ E.g0;have Z:lW (g/o)=true:=oA aE q;have bt:=oA E.tm q;have k1:=wK Z Y;have k2:=wK Z bt;have k3:=BR J Y;obtain⟨b,l⟩:=E.turn J;obtain⟨g',s',t',x',O,e,c⟩:=JM q n o (g-g/o*o) t (s-g/o*t) (.i (.int (g/o))) (.i (.int (s-g/o*t))) b aE;refine⟨g',s',t',x',O,?_,c⟩;rw[<-e];simp[J,k1,k2,k3,Fh d]
theorem YI(q:0<m)(O:m.toNat<2^1000):∃g f,vR [.int a,.int m]=some (.t [.int g,.int f])/\St.Euc a m g f/\f.natAbs<=m.toNat:=by obtain⟨g,f,t,x,y,e,E⟩:=JM O (m.toNat+2) (a%m) m 1 0 .z .z (St.EI.start q) aE;refine cD g f ?_ (E.fin q) E.sm;have Y:¬m=0:=aE;have J:=e;simp[vR,NP,Y,nH q,J]
theorem Wj:(2:Nat)^900+2^900<2^1000:=by
 lia
theorem Nm(h:T U=some (false,U)):aR (bX T A sN) B U=B U:=iu (by simp[h])
theorem JZ{s:St.S}(q:0<s.st)(hb:s.st.toNat<2^900)(r0:0<=s.re)(r1:s.re<s.st){a b:Int}(ha:a≠0)(ba:a.natAbs<2^900)(bb:b.natAbs<2^900):∃g f,St.Euc a s.st g f/\qq [dS s,.int a,.int b]=some (iT (St.back2 s a b g f)):=by
 obtain⟨lo,hi,st,re⟩:=s;have q:0<st:=q;have hb:st.toNat<2^900:=hb;have r0:0<=re:=r0;have r1:re<st:=r1;have σ:(2:Nat)^900+2^900<2^1000:=Wj;obtain⟨g,f,e,E,G⟩:=YI (a:=a) q (m:=st) aE;refine⟨g,f,E,?_⟩;have k:=E.pos;have gl:g<=st:=Int.le_of_dvd q E.dm;have c:¬g=0:=aE;have l:=BR (j:=g) aE (oA (m:=st.toNat) aE aE);have u:=BR (j:=a) ha (oA (m:=a.natAbs) (qj _) aE);have F:((re-b)/g).natAbs<=2^900+2^900:=by have h1:(re-b).natAbs<=2^900+2^900:=aE;refine qy ?_ h1;exact Qo _ _
 have k1:=wK (i:=(re-b)/g) (j:=f) (oA F aE) (oA G aE);have I:0<st/g:=by obtain⟨K,t⟩:=E.dm;rw[t,Qs _ c];rw[t]at q;exact Z8 q aE
 have sn:¬st/g=0:=aE;have J:∀x y:D,dW [x,y] 0=some x:=λ _ _=>rfl;have Y:∀x y:D,dW [x,y] 1=some y:=λ _ _=>rfl;have B:∀x y z w:D,dW [x,y,z,w] 0=some x:=λ _ _ _ _=>rfl;have C:∀x y z w:D,dW [x,y,z,w] 1=some y:=λ _ _ _ _=>rfl;have n:∀x y z w:D,dW [x,y,z,w] 2=some z:=λ _ _ _ _=>rfl;have A:∀x y z w:D,dW [x,y,z,w] 3=some w:=λ _ _ _ _=>rfl;have H:∀lo hi,kO [dO lo,dO hi,.int (st/g),.int ((re-b)/g*f%(st/g))]=some (iT (St.made lo hi (st/g) ((re-b)/g*f%(st/g)))):=λ lo hi=>pf _ _ _ _;obtain⟨p,Z⟩:∃p:bZ,p=if 0<a then lo else hi:=⟨_,rfl⟩;obtain⟨r,o⟩:∃p:bZ,p=if 0<a then hi else lo:=⟨_,rfl⟩;unfold St.back2 St.bkLo St.bkHi;dsimp only;rw[<-Z,<-o];have O:EW [.i (.t [dO lo,dO hi,.int st,.int re]),.i (.int a),.i (.int b),.z,.z,.z,.z,.z,.z,.z]=_:=(Nm (by simp[ha])).trans ((iu (ρ':=[.i (.t [dO lo,dO hi,.int st,.int re]),.i (.int a),.i (.int b),.i (.t [.int g,.int f]),.z,.z,.z,.z,.z,.z]) (by simp[e,n])).trans ((iu (ρ':=[.i (.t [dO lo,dO hi,.int st,.int re]),.i (.int a),.i (.int b),.i (.t [.int g,.int f]),.i (.int g),.z,.z,.z,.z,.z]) (by simp[J])).trans (iu (ρ':=[.i (.t [dO lo,dO hi,.int st,.int re]),.i (.int a),.i (.int b),.i (.t [.int g,.int f]),.i (.int g),.i (.int (re-b)),.z,.z,.z,.z]) (by simp[A]))))
 have fin:∀{d U},EW [.i (.t [dO lo,dO hi,.int st,.int re]),.i (.int a),.i (.int b),.z,.z,.z,.z,.z,.z,.z]=some (.rt d U)->qq [dS ⟨lo,hi,st,re⟩,.int a,.int b]=some d:=λ h=>by
  show qq [.t [dO lo,dO hi,.int st,.int re],.int a,.int b]=some _;simp[qq,h]
 by_cases hd:(re-b)%g=0
 .rw[if_pos hd];have v:=O.trans ((Nm (by simp[c,l,nH k,hd])).trans ((iu (ρ':=[.i (.t [dO lo,dO hi,.int st,.int re]),.i (.int a),.i (.int b),.i (.t [.int g,.int f]),.i (.int g),.i (.int (re-b)),.i (.int (st/g)),.z,.z,.z]) (by simp[n,c,l,Fh k])).trans ((iu (ρ':=[.i (.t [dO lo,dO hi,.int st,.int re]),.i (.int a),.i (.int b),.i (.t [.int g,.int f]),.i (.int g),.i (.int (re-b)),.i (.int (st/g)),.i (.l [dO p,dO r]),.z,.z]) (by
   by_cases h:0<a<;>simp[Z,o,h,B,C])).trans ((iu (ρ':=[.i (.t [dO lo,dO hi,.int st,.int re]),.i (.int a),.i (.int b),.i (.t [.int g,.int f]),.i (.int g),.i (.int (re-b)),.i (.int (st/g)),.i (.l [dO p,dO r]),.i (dO (p.map λ e=>-(b-e).fdiv a)),.z]) (by
   cases p<;>simp[J,ha,u])).trans (iu (ρ':=[.i (.t [dO lo,dO hi,.int st,.int re]),.i (.int a),.i (.int b),.i (.t [.int g,.int f]),.i (.int g),.i (.int (re-b)),.i (.int (st/g)),.i (.l [dO p,dO r]),.i (dO (p.map λ e=>-(b-e).fdiv a)),.i (dO (r.map λ e=>(e-b).fdiv a))]) (by cases r<;>simp[Y,ha,u]))))))
  exact fin (v.trans (by simp[Y,c,l,k1,sn,Fh k,nH I,H];rfl))
 .rw[if_neg hd];exact fin (O.trans (by simp[c,l,nH k,hd];rfl))
theorem og(x y z w:D):dW [x,y,z,w] 0=some x:=rfl
theorem vm(x y z w:D):dW [x,y,z,w] 1=some y:=rfl
theorem yU(x y z w:D):dW [x,y,z,w] 2=some z:=rfl
theorem nZ(x y z w:D):dW [x,y,z,w] 3=some w:=rfl
@[simp] theorem cI8(o:bZ):gP (dO o)=o.isNone:=by cases o<;>rfl
theorem XQ(a b:bZ):vY [dO a,dO b]=some (dO (St.lowB a b)):=by
 cases a with
 |none=>cases b<;>simp[vY,FD,St.lowB]
 |some x=>cases b<;>simp[vY,FD,St.lowB]
theorem I1(a b:bZ):sP [dO a,dO b]=some (dO (St.uppB a b)):=by
 cases a with
 |none=>cases b<;>simp[sP,Fz,St.uppB]
 |some x=>cases b<;>simp[sP,Fz,St.uppB]
theorem Dp(s:St.S)(lo hi:bZ):sR [dS s,dO lo,dO hi]=some (iT (St.between s lo hi)):=by obtain⟨l,h,st,a⟩:=s;simp[sR,N4,og,vm,yU,nZ,XQ,I1,pf,St.between]
theorem rn(h:i.natAbs<=2^k)(q:k<1000):lW i=true:=oA h (Yz aQ q)
theorem rK(h:n<=2^k)(q:k<900):n<2^900:=j0 h (Yz aQ q)
theorem Wv(c1:St.Canon one)(O:St.Canon J)(hk:k<=450)(Y:St.Bd one (2^k))(b2:St.Bd J (2^k)):∃r,vU [dS one,dS J]=some (iT r)/\St.Tells r (λ v=>St.mem one v/\St.mem J v)/\St.BdO r (2^(2*k+4)):=by
 have Z:one.st≠0:=by have:=c1.pos;lia
 have j:=b2.st;refine dt (JZ O.pos (rK (k:=k) aE aE) O.r0 O.r1 Z (rK Y.st aE) (rK Y.re aE)) λ g f E e1=>?_;have i:1<=2^k:=Qu;refine fj (St.meet2 one J g f) ?_ (St.meet_ok c1 O E) ?_
 .have a:=St.back_ok (b:=one.re) O Z E;have c:=St.back_bd O E Z b2 Y.re;unfold St.meet2;cases q:St.back2 J one.st one.re g f with
  |none=>
   rw[q]at e1;obtain⟨l,h,st,re⟩:=one;simp[vU,Ft,yU,nZ,e1]
  |some t=>
   rw[q]at e1 a;have bt:=(c t q).mono (m:=2^(k+2)) (by grind);have e2:=U6 (b:=one.re) a.1.pos Z (λ x hx=>wK (rn Y.st aE) (by
     rcases hx with z|z|z
     .rw[z];exact rn bt.re aE
     .exact rn (bt.lo x z) aE
     .exact rn (bt.hi x z) aE)) (wK (by
     have:(St.ab one.st).natAbs<=2^k:=by rw[St.ab_abs];exact Y.st
     exact rn this aE) (rn bt.st aE))
   dsimp only;obtain⟨u,d,_⟩:=St.moved_some a.1 Z;rw[d]at e2⊢;have e3:=Dp u one.lo one.hi;obtain⟨l,h,st,re⟩:=one;simp[vU,Ft,og,vm,yU,nZ,e1,e2,e3]
 .intro s e;refine(St.meet_bd c1 O E i Y b2 s e).mono ?_;rw[Ze,Nat.two_mul,Ze];lia
@[simp] theorem dP0(o:bZ):dI (dO o)=0:=by cases o<;>rfl
@[simp] theorem cL2(s:St.S):dI (dS s)<=30:=by obtain⟨l,h,st,a⟩:=s;simp
@[simp] theorem cJ8(r:Option St.S):dI (iT r)<=30:=by cases r<;>simp
def Lr(o:cC):Option (D×MO):=aH o λ r=>DG r
def LU(d:D)(o:Option (Bool×MO)):Option (D×MO):=aH o λ q=>if q.1=true then some (d,q.2)else none
def Nn(F:En->Option MO)(o:cC):Option MO:=aH o λ r=>match r with
 |.nx ρ'=>F ρ'
 |_=>none
def DJ(js:d0)(i q:Nat)(U:En)(b:Bool)(xs:aK)(o:Option (aK×MO)):bB:=aH o λ t=>if xs.length<=sizeLine/\js[q]?=some i/\js.Nodup then some (.l t.1,U.set i (.o b t.2))else none
def Lo(js:d0)(i q:Nat)(T:FT)(F:FE)(xs:aK)(U:En)(o:Option (Bool×MO)):bB:=aH o λ w=>DJ js i q U w.1 xs (ku T F U i js q w.2 xs)
def D4(js:d0)(i q:Nat)(T:FT)(F:FE)(U:En)(o:Option (aK)):bB:=aH o λ xs=>wo js i q T F xs U
def Mh(js:d0)(i q:Nat)(T:FT)(F:FE)(o:bB):bB:=aH o λ p=>D4 js i q T F p.2 (items p.1)
@[simp] theorem ch5:(∀n k B o ds,jH n k B o ds=if ds.length=n then Lr (B (.o true o::(ds.map .i++List.replicate k .z)))else none)/\(∀d U,Lr (some (.rt d U))=LU d (hH U[0]?))/\(∀d o,LU d (some (true,o))=some (d,o))/\(∀n k F ds,qO n k F ds=if ds.length=n then F (ds.map .i++List.replicate k .z)else none)/\(∀A F U,sC A F U=Nn F (A U))/\(∀F U,Nn F (some (.nx U))=F U)/\(∀js i q T F xs U,wo js i q T F xs U=Lo js i q T F xs U (hH U[i]?))/\(∀js i q T F xs U b o,Lo js i q T F xs U (some (b,o))=DJ js i q U b xs (ku T F U i js q o xs))/\(∀js i q U b xs ys o,DJ js i q U b xs (some (ys,o))=if xs.length<=sizeLine/\js[q]?=some i/\js.Nodup then some (.l ys,U.set i (.o b o))else none)/\(∀js i q I T F U,vn js i q I T F U=Mh js i q T F (I U))/\(∀js i q T F x U,Mh js i q T F (some (x,U))=D4 js i q T F U (items x))/\(∀js i q T F U xs,D4 js i q T F U (some xs)=wo js i q T F xs U):=fz
noncomputable def gC(ns:ed)(wy l a nb kk:Int):ey:=[(k9,.l (ns.map .int)),(n7,.int wy),(hV,.int l),(fy,.int a),(kd,.int nb),(i8,.int kk)]
section
variable(ns:ed)(wy l a nb kk:Int)(d:Int)
theorem vQ:cf k9 (gC ns wy l a nb kk)=some (.l (ns.map .int)):=rfl
theorem AD:cf n7 (gC ns wy l a nb kk)=some (.int wy):=rfl
theorem oY:cf hV (gC ns wy l a nb kk)=some (.int l):=rfl
theorem EX:cf fy (gC ns wy l a nb kk)=some (.int a):=rfl
theorem Nq:cf kd (gC ns wy l a nb kk)=some (.int nb):=rfl
theorem Np:cf i8 (gC ns wy l a nb kk)=some (.int kk):=rfl
theorem FQ:jE hV (.int d) (gC ns wy l a nb kk)=gC ns wy d a nb kk:=rfl
theorem stA:jE fy (.int d) (gC ns wy l a nb kk)=gC ns wy l d nb kk:=rfl
theorem Oi:jE kd (.int d) (gC ns wy l a nb kk)=gC ns wy l a d kk:=rfl
theorem Oh:jE i8 (.int d) (gC ns wy l a nb kk)=gC ns wy l a nb d:=rfl
theorem uU:(gC ns wy l a nb kk).length=6:=rfl
end
theorem IJ(ns:ed){i:Int}(q:0<=i)(h1:i<ns.length):∃x:Int,dW (ns.map D.int) i=some (.int x):=by refine⟨ns[i.toNat],?_⟩;grind[dW,qF]
theorem C0(ns:ed)(q:0<=k):∃x:Int,qN [.l (ns.map .int),.int k]=some (.int x):=by
 by_cases h:k<ns.length
 .obtain⟨x,e⟩:=IJ ns q h;exact⟨x,by simp[qN,FH,h,e]⟩
 .exact⟨0,by simp[qN,FH,h]⟩
theorem Kc(c k:Int):∃r:Int,o7 [.int c,.int k]=some (.int r)/\0<=r:=by
 have a:∀x:Int,0<=Int.fmod x 2147483647/\Int.fmod x 2147483647<2147483647:=λ x=>⟨yu _ aQ,j7 _ aQ⟩
 have q:∀x:Int,gi x 48271=true:=λ x=>tK aQ;have J:gi 7919 k=true:=uu aQ;have O:∀x y:Int,gi (Int.fmod x 2147483647) y=true:=λ x y=>uu (by lia);have Y:lJ 1009=true:=xW aQ aQ;exact⟨_,by simp[o7,F6,q,J,O,Y];rfl,(a _).1⟩
abbrev oX(ns:ed)(wy l a nb kk:Int)(s1 s2:Sl):En:=[.o true (.d (gC ns wy l a nb kk)),s1,s2]
theorem WX(h:¬(wy=1/\l=0/\a<ns.length)):o6 (oX ns wy l a nb kk s1 s2)=some (false,oX ns wy l a nb kk s1 s2):=by
 by_cases h1:wy=1
 .by_cases h2:l=0
  .have q:¬a<ns.length:=λ z=>h ⟨h1,h2,z⟩;simp[o6,AD,oY,EX,vQ,h1,h2,q]
  .simp[o6,AD,oY,h1,h2]
 .simp[o6,AD,h1]
theorem Sv(h1:wy=1)(h2:l=0)(q:a<ns.length):o6 (oX ns wy l a nb kk s1 s2)=some (true,oX ns wy l a nb kk s1 s2):=by simp[o6,AD,oY,EX,vQ,h1,h2,q]
theorem UH(O:0<=a)(J:a<ns.length):∃q:Int,AY (oX ns wy l a nb kk s1 s2)=some (.nx (oX ns wy q (a+1) nb kk s1 s2))/\0<=q:=by obtain⟨x,e⟩:=IJ ns O J;refine⟨(x.natAbs:Int),?_,by lia⟩;simp[AY,oY,EX,vQ,e,uU,FQ,stA]
theorem GO(ns:ed)(wy nb kk:Int)(s1 s2:Sl):∀(m:Nat)(l a:Int),0<=l->1<=a->(ns.length:Int)-a<m->∀f,m<f->∃q O:Int,lH o6 AY f (oX ns wy l a nb kk s1 s2)=some (.nx (oX ns wy q O nb kk s1 s2))/\0<=q/\1<=O
 |m,l,a,i,d,b,f,c=>by
  obtain⟨f,rfl⟩:∃g,f=g+1:=⟨f-1,by lia⟩;rw[LJ];by_cases h:wy=1/\l=0/\a<ns.length
  .obtain⟨q,e,J⟩:=UH (show(0:Int)<=a by lia) h.2.2;rw[Sv h.1 h.2.1 h.2.2,Vg,e,Vf]
   match m,b,c with
   |0,b,_=>lia
   |m+1,b,c=>exact GO ns wy nb kk s1 s2 m q (a+1) J aE aE f aE
  .rw[WX h,Vh];exact⟨l,a,rfl,i,d⟩
def dM(ns:ed)(o:MO):Prop:=∃wy l a nb kk:Int,o=.d (gC ns wy l a nb kk)/\0<=l/\1<=a/\0<=kk
theorem gb(hn:ns.length<=63)(h:dM ns o):∃(r:Int)(o':MO),eu o []=some (.int r,o')/\0<=r/\dM ns o':=by
 obtain⟨wy,l,a,nb,kk,rfl,m,i,j⟩:=h;refine cM (GO ns wy nb kk .z .z 64 l a m i aE 200 aQ) λ J Z e O Y=>?_;by_cases d:0<J
 .have f:lJ 1000003=true:=xW aQ aQ;have g:=yu J (b:=1000003) aQ;have q:J.fdiv 1000003=J/1000003:=yo _ aQ;refine⟨J.fmod 1000003,.d (gC ns wy (J/1000003) Z nb kk),?_,g,wy,J/1000003,Z,nb,kk,rfl,Yo O aQ,Y,j⟩;simp[eu,wD,e,oY,d,f,q,uU,FQ]
 .obtain⟨x,ex⟩:=C0 ns (k:=kk+1) aE;obtain⟨c,e1,_⟩:=Kc (nb+x) (kk+1);obtain⟨n,e2,h2⟩:=Kc c 7;refine⟨n,.d (gC ns wy J Z c (kk+1)),?_,h2,wy,J,Z,c,kk+1,rfl,O,Y,by lia⟩;simp[eu,wD,e,oY,d,Np,Nq,vQ,uU,Oh,Oi,ex,e1,e2]
abbrev eI:Str:=jY "abcdefghijklmnopqrstuvwxyz"
theorem Ry:eI.length=26:=d8
theorem SF:∀j:Nat,j<26->eI.cps.toList[j]?=some (97+j):=by have e:eI.cps.toList=List.range' 97 26:=d8;intro j q;rw[e,List.getElem?_range' q];simp
theorem eY(h:n<=1000):n<=sizeLine:=qy h aQ
theorem Va(q:0<=i)(h1:i<26):p8 eI i=some (.str (jO (97+i.toNat))):=by unfold p8;rw[if_pos (by rw[Ry];exact eY aQ)];have l:eI.cps.toList.length=26:=d8;unfold qF;rw[l,if_pos q,if_pos (by exact_mod_cast h1),dX,SF _ aE,dX]
theorem Ls(x:Int):0<=x.fmod 26/\x.fmod 26<26:=by grind
def wq(x:Int):Str:=jO (97+(x.fmod 26).toNat)
theorem XM(x:Int):p8 eI (x.fmod 26)=some (.str (wq x)):=Va (Ls x).1 (Ls x).2
theorem KU(x:Int):(wq x).length=1:=rfl
theorem yJ(a b:Str):(a++b).length=a.length+b.length:=by show(a.cps++b.cps).size=_;rw[Array.size_append];rfl
theorem BX(P:Nat->En->Prop):∀(n:Nat)(lo:Int)(k:Nat)(U:En),(∀(i:Nat)(v:Int)U,i<k+n->P i U->∃O J,g (.int v) U=some O/\B O=some (.nx J)/\P (i+1) J)->P k U->∃ρ',c4 g B (fQ lo n) U=some (.nx ρ')/\P (k+n) ρ'
 |0,lo,k,U,_,p=>⟨U,rfl,p⟩
 |n+1,lo,k,U,h,p=>by
  refine cM (h k lo U aE p) λ O J h1 h2 a=>?_;obtain⟨ρ',e,Y⟩:=BX P n (lo+1) (k+1) J (λ i v U hi q=>h i v U aE q) a;refine⟨ρ',?_,by grind⟩;rw[show fQ lo (n+1)=.int lo::fQ (lo+1) n from rfl,iP,h1,jB,h2,iQ];exact e
theorem pH(f:α->D)(xs:List α){i:Int}(q:0<=i)(h1:i<xs.length):∃x,x∈xs/\dW (xs.map f) i=some (f x):=by have hi:i.toNat<xs.length:=aE;refine⟨xs[i.toNat],Zc hi,?_⟩;grind[dW,qF]
theorem UX(hn:ns.length<=63)(s4:Sl)(i:Nat)(v:Int)(U:En)(hi:i<100)(p:∃o q Y,dM ns o/\q.length=i/\U=[.o true o,.i (.str eI),.i (.str q),Y,s4]):∃J O,gN 3 (.int v) U=some J/\Fq J=some (.nx O)/\∃o q Y,dM ns o/\q.length=i+1/\O=[.o true o,.i (.str eI),.i (.str q),Y,s4]:=by
 obtain⟨o,q,Y,c,b,rfl⟩:=p;refine cM (gb hn c) λ r a e f Z=>?_;have d:q.length+(wq r).length<=sizeLine:=eY (by rw[KU];lia);refine⟨_,[.o true a,.i (.str eI),.i (.str (q++wq r)),.i (.int v),s4],rfl,?_,a,q++wq r,_,Z,by rw[yJ,KU,b],rfl⟩;simp[Fq,e,XM,d]
def m5(q:Str)(a:Int)(c:Nat):Str:=Txt.slice q none (some a)++jO c++Txt.slice q (some (a+1)) none
theorem Wt(O:q.length<=100)(a:Int)(c:Nat):(m5 q a c).length<=300:=by have b:=Yf q none (some a);have d:=Yf q (some (a+1)) none;have J:(jO c).length=1:=rfl;unfold m5;rw[yJ,yJ];lia
theorem KQ(q:Str)(a:Int)(c:Nat):(m5 q a c).cps.toList=(Txt.slice q none (some a)).cps.toList++(c::(Txt.slice q (some (a+1)) none).cps.toList):=by show((Txt.slice q none (some a)).cps++#[c]++(Txt.slice q (some (a+1)) none).cps).toList=_;simp
theorem Wu(h:m5 q a c=m5 q a d):c=d:=by have e:=Q1 (λ s:Str=>s.cps.toList) h;simp only[KQ]at e;exact(List.cons.inj (List.append_cancel_left e)).1
abbrev GU:FE:=kK (eV 1) (oS (e2 c_ (eV 2) (zI 1))) oN
theorem J2(J:Str)(hw:J.length<=100)(q:Int):∀O:d0,d4 dP (e2 c_ Bb GU) [.i (.str J),.i (.int q)] (O.map λ c=>.str (jO c))=some ((O.map (m5 J q)).map .str)
 |[]=>rfl
 |c::r=>by
  have e:=J2 J hw q r;have Y:J.length<=sizeLine:=eY aE;have d:=Yf J none (some q);have f:=Yf J (some (q+1)) none;have b:(jO c).length=1:=rfl;have a:(Txt.slice J none (some q)).length+(jO c).length<=sizeLine:=eY aE;have Z:(Txt.slice J none (some q)++jO c).length+(Txt.slice J (some (q+1)) none).length<=sizeLine:=eY (by rw[yJ];lia);rw[zc,lR];show vH _ _ _ _ (some (true,_))=_;have st:e2 c_ Bb GU [.i (.str (jO c)),.i (.str J),.i (.int q)]
    =some (.str (m5 J q c),[.i (.str (jO c)),.i (.str J),.i (.int q)]):=by
   simp[Y,a,Z,m5]
  rw[lU,st,lS,e,nv];rfl
structure pJ(ks:aM):Prop where
 n9:ks.length=9
 len:∀k∈ks,k.length<=300
 q:kf∉ks
 nd:ks.Nodup
theorem Te(hn:ns.length<=63)(ho:dM ns o):∃(ks:aM)(o':MO),wt o []=some (.l (ks.map .str),o')/\pJ ks/\dM ns o':=by
 refine cM (gb hn ho) λ a f e1 h1 l=>?_;have D:=yu a (b:=8) aQ;have E:=j7 a (b:=8) aQ;have s:(jY "").length=0:=d8;obtain⟨B,J,K,q,g,Z,H,rfl⟩:=BX (λ i U=>∃o q g,dM ns o/\q.length=i/\U=[.o true o,.i (.str eI),.i (.str q),g,.z]) (1+a.fmod 8).toNat 0 0
  [.o true f,.i (.str eI),.i (.str ""),.z,.z] (λ i v U hi p=>UX hn .z i v U aE p) ⟨f,_,_,l,s,rfl⟩
 have A:q.length<=sizeLine:=eY aE;have x:-4611686018427387904<=1+a.fmod 8:=aE;have y:1+a.fmod 8<4611686018427387904:=aE;refine cM (gb hn Z) λ r3 w e4 F j=>?_;have I:=aE;have m:¬q.length=0:=aE;have z:q.length<=100:=aE;have r:=J2 q z (r3.fmod (q.length:Int)) i9.cps.toList;have h:i9.cps.toList.length=9:=d8;have n:(lZ i9).length≤sizeLine:=by unfold lZ;rw[qx,h];exact eY aQ
 have O:d4 dP (e2 c_ Bb GU) [.i (.str q),.i (.int (r3.fmod (q.length:Int)))] (lZ i9)=some ((i9.cps.toList.map (m5 q (r3.fmod (q.length:Int)))).map .str):=r;have C:i9.cps.toList.Nodup:=d8;refine⟨i9.cps.toList.map (m5 q (r3.fmod (q.length:Int))),w,?_,⟨by rw[qx,h],λ k G=>?_,λ u=>?_,?_⟩,j⟩
 .simp[wt,HI,e1,x,y,J,e4,A,m,O,n]
 .grind[Wt]
 .obtain⟨c,t,e⟩:=lC.mp u;have d:∀c∈i9.cps.toList,¬c∈kf.cps.toList:=d8;refine d c t ?_;rw[<-e,KQ];simp
 .grind[Wu]
abbrev wO(o:Bool):Str:=if o then mx else my
def KK(o:Bool)(ts:aM):D:=.t [.str (wO o),.t (ts.map .str)]
noncomputable def cP(o:Bool)(ts:aM)(k:Str):Bool:=decide (k∈ts)==o
theorem ya(k:Str):∀ts:aM,gp (.str k) (ts.map .str)=decide (k∈ts):=by intro a;induction a<;>grind[gp,T2]
theorem xK(k:Str):∀ks:aM,gM (.str k) (ks.map .str)=true:=λ ks=>by
 unfold gM;rw[show pU (.str k)=true from rfl,Bool.true_and,Yb];intro x hx;obtain⟨y,_,rfl⟩:=lC.mp hx;rfl
theorem eR(a b:D):dW [a,b] 0=some a:=rfl
theorem fc(a b:D):dW [a,b] 1=some b:=rfl
theorem AR:¬(my=mx):=d8
theorem tQ:¬(mx=my):=d8
theorem WJ(o:Bool)(ts:aM)(k:Str):nM [KK o ts,.str k]=some (.b (cP o ts k)):=by have ok:=xK k ts;have e:=ya k ts;cases o<;>by_cases h:k∈ts<;>simp[KK,cP,nM,Ht,eR,fc,ok,e,h,AR]
theorem CU(o:Bool)(ts:aM):∀ks:aM,d4 (tV (eF nM (aC (eV 1) gv))) (eV 0) [.i (KK o ts)] (ks.map .str)=some ((ks.filter (cP o ts)).map .str)
 |[]=>rfl
 |k::r=>by
  have J:=CU o ts r;have h:=WJ o ts k;rw[zc,lR];cases q:cP o ts k with
  |false=>
   rw[q]at h;have t:tV (eF nM (aC (eV 1) gv)) [.i (.str k),.i (KK o ts)]=some (false,[.i (.str k),.i (KK o ts)]):=by simp[h]
   rw[t,sv,J,Qy (by simp[q])]
  |true=>
   rw[q]at h;have t:tV (eF nM (aC (eV 1) gv)) [.i (.str k),.i (KK o ts)]=some (true,[.i (.str k),.i (KK o ts)]):=by simp[h]
   have f:eV 0 [.i (.str k),.i (KK o ts)]=some (.str k,[.i (.str k),.i (KK o ts)]):=rfl;grind[lU,lS,nv]
def nr(o:Bool)(q t2:aM):D:=if q.filter (cP o t2)=[]then .n else KK true (q.filter (cP o t2))
theorem TV(o:Bool)(q t2:aM)(h1:q.length<=100):ti [KK true q,KK o t2]=some (nr o q t2):=by
 have g:=CU o t2 q;have J:q.length<=sizeLine:=eY aE;unfold nr;unfold KK at g;by_cases z:q.filter (cP o t2)=[]
 .rw[z]at g;rw[if_pos z];cases o<;>simp[KK,ti,FI,eR,fc,tQ,J,g]
 .rw[if_neg z];have Y:=List.isEmpty_eq_false_iff.mpr z;cases o<;>simp[KK,ti,FI,eR,fc,tQ,J,g,Y]
theorem Ij(o:Bool)(q t2:aM)(h1:q.length<=100):l7 [KK true q,KK o t2]=some (nr o q t2):=by
 have g:=CU o t2 q;have J:q.length<=sizeLine:=eY aE;unfold nr;unfold KK at g;by_cases z:q.filter (cP o t2)=[]
 .rw[z]at g;rw[if_pos z];cases o<;>simp[KK,l7,wC,eR,fc,tQ,J,g]
 .rw[if_neg z];have Y:=List.isEmpty_eq_false_iff.mpr z;cases o<;>simp[KK,l7,wC,eR,fc,tQ,J,g,Y]
theorem OI(q t2:aM)(h2:t2.length<=100):l7 [KK false q,KK true t2]=some (nr false t2 q):=by have g:=TV false t2 q h2;unfold KK at g;simp[KK,l7,wC,eR,tQ,g]
def nh(q t2:aM):aM:=et (d5 [] (q++t2))
theorem Bv(q t2:aM)(h:q.length+t2.length<=60):l7 [KK false q,KK false t2]=some (KK false (nh q t2)):=by
 have e:=Pn (q++t2) (by grind);rw[zx]at e;have J:ro [.t (q.map .str),.t (t2.map .str)]=some (.l ((et (d5 [] (q++t2))).map .str)):=by rw[HK,LL,dX,LL,dX,if_pos (by grind),e]
 simp[KK,nh,l7,wC,eR,fc,tQ,AR,J]
theorem kL(ts:aM)(k:Str):cP true ts k=decide (k∈ts):=by unfold cP;cases decide (k∈ts)<;>rfl
theorem nu(ts:aM)(k:Str):cP false ts k=!decide (k∈ts):=by unfold cP;cases decide (k∈ts)<;>rfl
theorem mem_uni:x∈nh q t2↔x∈q\/x∈t2:=by unfold nh;rw[(iU _).mem_iff,v7,Yn];simp
def dK:Option (Bool×List Str)->D
 |none=>.n
 |some (o,ts)=>KK o ts
def v5:Option (Bool×List Str)->Str->Bool
 |none,_=>false
 |some (o,ts),k=>cP o ts k
structure Bx where
 o:Bool
 ts:aM
 bg:Int
 en:bZ
 s:St.S
def dB(b:Bx):D:=.t [KK b.o b.ts,.int b.bg,dO b.en,dS b.s]
def ek:Option Bx->D
 |none=>.n
 |some b=>dB b
structure GB(b:Bx):Prop where
 l:b.ts.length<=9
 t0:0<=b.bg
 te:∀e,b.en=some e->b.bg<e
 c:St.Canon b.s
 bd:St.Bd b.s (2^100)
def cN(q:bZ)(t:Int):Bool:=match q with
 |none=>true
 |some e=>decide (t<e)
def bR(b:Bx)(t:Int)(k:Str)(v:Int):Bool:=decide (b.bg<=t)&&cN b.en t&&cP b.o b.ts k&&dg b.s v
def kq:Option Bx->Int->Str->Int->Bool
 |none,_,_,_=>false
 |some b,t,k,v=>bR b t k v
noncomputable def lA(t:Int)(k:Str)(v:Int):D:=.t [.int t,.str k,.int v]
theorem ZZ(x y z:D):dW [x,y,z] 0=some x:=rfl
theorem ZY(x y z:D):dW [x,y,z] 1=some y:=rfl
theorem ZX(x y z:D):dW [x,y,z] 2=some z:=rfl
theorem zG(o:Bool)(ts:aM):gP (KK o ts)=false:=rfl
theorem X7(b:Bx):gP (dB b)=false:=rfl
noncomputable def fM(o:Bool)(ts:aM)(q:Int)(J:bZ)(s:St.S):Option Bx:=match J with
 |none=>some ⟨o,ts,if 0>q then 0 else q,none,s⟩
 |some e=>if e<=(if 0>q then 0 else q)then none else some ⟨o,ts,if 0>q then 0 else q,some e,s⟩
theorem mh(o:Bool)(ts:aM)(q:Int)(J:bZ)(s:St.S):gB [KK o ts,.int q,dO J,dS s]=some (ek (fM o ts q J s)):=by
 cases J with
 |none=>simp[gB,tH,zG,fM,ek,dB]
 |some e=>
  unfold fM;by_cases h:e<=(if 0>q then 0 else q)
  .simp at h;simp[gB,tH,zG,ek,h]
  .simp at h;have h':¬(e<=if q<0 then 0 else q):=aE;simp[gB,tH,zG,ek,dB,h']
theorem KS(x y z:D):gB [.n,x,y,z]=some .n:=by simp[gB,tH]
theorem Ww(o:Bool)(ts:aM)(x y:D):gB [KK o ts,x,y,.n]=some .n:=by simp[gB,tH,zG]
noncomputable def qS(a b:Int):Int:=if b>a then b else a
def Ff(Y:Option (Bool×List Str))(O:Int)(Z:bZ)(J:Option St.S):Option Bx:=match Y with
 |none=>none
 |some q=>match J with
  |none=>none
  |some s=>fM q.1 q.2 O Z s
theorem Ke(O:Option (Bool×List Str))(Y:Int)(Z:bZ)(J:Option St.S):gB [dK O,.int Y,dO Z,iT J]=some (ek (Ff O Y Z J)):=by
 cases O with
 |none=>exact KS _ _ _
 |some q=>
  cases J with
  |none=>exact Ww _ _ _ _
  |some s=>exact mh _ _ _ _ _
theorem So(a b:bZ)(t:Int):cN (St.uppB a b) t=(cN a t&&cN b t):=by
 cases a with
 |none=>cases b<;>simp[St.uppB,cN]
 |some x=>
  cases b with
  |none=>simp[St.uppB,cN]
  |some y=>
   simp only[St.uppB,cN];grind
theorem WK(Y:0<=J)(t:Int)(k:Str)(v:Int):kq (fM o ts J O s) t k v=(decide (J<=t)&&cN O t&&cP o ts k&&dg s v):=by
 have e:(if 0>J then 0 else J)=J:=if_neg aE;cases O with
 |none=>simp only[fM,e];rfl
 |some x=>
  simp only[fM,e];by_cases h:x<=J
  .rw[if_pos h];show false=_
   symm
   by_cases q:J<=t
   .grind[cN]
   .simp[q]
  .rw[if_neg h];rfl
theorem JJ(p:Str->Bool)(h:∀k,T (.i (.str k)::fr)=some (p k,.i (.str k)::fr)):∀ks:aM,d4 T (eV 0) fr (ks.map .str)=some ((ks.filter p).map .str)
 |[]=>rfl
 |k::r=>by
  have J:=JJ p h r;rw[zc,lR,h k];cases q:p k with
  |false=>rw[sv,J,Qy (by simp[q])]
  |true=>
   have f:eV 0 (.i (.str k)::fr)=some (.str k,.i (.str k)::fr):=rfl;grind[lU,lS,nv]
def Hf(ts:aM):Prop:=ts.Pairwise (λ a b=>iZ b a=false)/\ts.Nodup
theorem IX(zs:aM):Hf (et (d5 [] zs)):=by grind[rh,iU,vX,Hf]
abbrev Tb:=List (Str×Str)
noncomputable def dT(tb:Tb):D:=.t (tb.map λ p=>.t [.str p.1,.str p.2])
def fS:Tb->Str->Str
 |[],k=>k
 |p::r,k=>if p.1=k then p.2 else fS r k
noncomputable def fst(tb:Tb):aM:=tb.map (·.1)
theorem C1:∀{tb:Tb},k∉fst tb->fS tb k=k:=by intro a;induction a<;>grind[fst,fS]
theorem M1:∀{tb:Tb},k∈fst tb->(k,fS tb k)∈tb
 |[],h=>by cases h
 |p::r,h=>by
  unfold fst at h;rw[zc,y9]at h;show(k,if p.1=k then p.2 else fS r k)∈p::r;by_cases c:p.1=k
  .grind
  .rw[if_neg c];exact qh _ (M1 (h.resolve_left λ z=>c z.symm))
def l6(tb:Tb):D:=.c (fst tb) (tb.map λ p=>.str p.2)
theorem IZ(tb:Tb):(fst tb).zip (tb.map λ p=>D.str p.2)=tb.map λ p=>(p.1,D.str p.2):=by grind[fst]
theorem ct5:∀tb:Tb,(cf k (tb.map λ p=>(p.1,D.str p.2))).getD (.str k)=.str (fS tb k):=by intro a;induction a<;>grind[cf,fS]
theorem HN:∀{tb:Tb},k∈fst tb->cf k (tb.map λ p=>(p.1,D.str p.2))=some (.str (fS tb k)):=by intro a;induction a<;>grind[fst,cf,fS]
theorem T8:∀{tb:Tb},k∉fst tb->cf k (tb.map λ p=>(p.1,D.str p.2))=none:=by intro a;induction a<;>grind[fst,cf]
theorem Ux(k:Str)(tb:Tb):(cf k (tb.map λ p=>(p.1,D.str p.2))).isSome=decide (k∈fst tb):=by grind[HN,T8]
theorem Dc:∀tb:Tb,oq (tb.map λ p=>.t [.str p.1,.str p.2])=some (tb.map λ p=>(p.1,D.str p.2))
 |[]=>rfl
 |p::r=>by
  rw[zc,TH,Dc r];rfl
theorem WV(nd:(fst tb).Nodup)(q:tb.length<=9):pZ [dT tb]=some (l6 tb):=by
 have e1:(tb.map λ p=>(p.1,D.str p.2)).map (·.1)=fst tb:=by rw[zu];rfl
 have e2:(tb.map λ p=>(p.1,D.str p.2)).map (·.2)=tb.map λ p=>D.str p.2:=by rw[zu];rfl
 unfold dT l6;grind[WZ,Dc,dX,e1,nd,e2]
theorem S2(tb:Tb)(ts:aM):d4 (tB xo) (eV 0) [.i (l6 tb)] (ts.map .str)=some ((ts.filter λ k=>!decide (k∈fst tb)).map .str):=
 JJ _ (λ k=>by
  have g:=Ux k tb;unfold l6;simp[IZ,g]) ts
abbrev OO:FE:=e2 mL (e2 kU (eV 1) (eV 0)) (e2 bW (eV 2) (zI 1))
theorem Iv(o:Bool)(ts:aM):∀ks:aM,(∀k∈ks,k∈fst tb0)->d4 (tB OO) (eV 0) [.i (l6 tb0),.i (KK o ts)] (ks.map .str)=some ((ks.filter λ k=>decide (fS tb0 k∈ts)).map .str)
 |[],_=>rfl
 |k::r,h=>by
  have J:=Iv o ts r λ q O=>h q (qh _ O);have ok:=xK (fS tb0 k) ts;have e:=ya (fS tb0 k) ts;have g:=HN (h k qg);have t:tB OO [.i (.str k),.i (l6 tb0),.i (KK o ts)]=some (decide (fS tb0 k∈ts),[.i (.str k),.i (l6 tb0),.i (KK o ts)]):=by unfold KK l6;simp[IZ,g,fc,ok,e]
  rw[zc,lR,t];by_cases c:fS tb0 k∈ts
  .rw[zk c];have f:eV 0 [.i (.str k),.i (l6 tb0),.i (KK o ts)]=some (.str k,[.i (.str k),.i (l6 tb0),.i (KK o ts)]):=rfl;grind[lU,lS,nv]
  .grind[sv]
def backL(tb:Tb)(ts:aM):aM:=et ((ts.filter λ k=>!decide (k∈fst tb))++(fst tb).filter λ k=>decide (fS tb k∈ts))
def rQ(tb:Tb)(o:Bool)(ts:aM):D:=if o=true/\backL tb ts=[]then .n else KK o (backL tb ts)
theorem Iw(tb:Tb)(ts:aM):(backL tb ts).length<=ts.length+tb.length:=by have:=(iU ((ts.filter λ k=>!decide (k∈fst tb))++(fst tb).filter λ k=>decide (fS tb k∈ts))).length_eq;grind [backL,fst]
theorem Xm(nd:(fst tb).Nodup)(hl:tb.length<=9)(o:Bool)(ht:ts.length<=30):vS [KK o ts,dT tb]=some (rQ tb o ts):=by
 have e1:pZ [dT tb]=some (.c (fst tb) (tb.map λ p=>.str p.2)):=WV nd hl;have e2:=S2 tb ts;have e3:=Iv o ts (fst tb) λ k h=>h;have g:(fst tb).length=tb.length:=by unfold fst;rw[qx]
 have a:=Q8 (λ k=>!decide (k∈fst tb)) ts;have b:=Q8 (λ k=>decide (fS tb k∈ts)) (fst tb);have f:=Iw tb ts;have Y:ts.length<=sizeLine:=eY aE;have Z:(fst tb).length<=sizeLine:=eY aE;have O:(backL tb ts).length<=sizeLine:=eY aE;generalize d:(ts.filter λ k=>!decide (k∈fst tb))=A at a e2;generalize e:((fst tb).filter λ k=>decide (fS tb k∈ts))=B at b e3;have c:backL tb ts=et (A++B):=by unfold backL;rw[d,e]
 have J:A.length+B.length<=sizeLine:=eY aE;have e4:nj (A.map D.str++B.map D.str)=some (.l ((et (A++B)).map .str)):=by unfold nj;rw[<-zx,xx,dX,if_pos (by rw[zm];lia)]
 unfold l6 at e2 e3;unfold rQ;rw[c]at O⊢;unfold KK at e3;cases q:(et (A++B)).isEmpty with
 |true=>
  have z:=List.isEmpty_iff.mp q;rw[z]at e4⊢;cases o<;>simp[KK,vS,Fm,eR,fc,AR,e1,e2,e3,e4,Y,Z,J]
 |false=>
  have z:=List.isEmpty_eq_false_iff.mp q;cases o<;>simp[KK,vS,Fm,eR,fc,AR,e1,e2,e3,e4,Y,Z,J,z,q]
theorem U8:k∈backL tb ts↔fS tb k∈ts:=by have:=@C1 k tb;grind [backL,iU,List.Perm.mem_iff]
theorem II(tb:Tb)(o:Bool)(ts:aM)(k:Str):cP o (backL tb ts) k=cP o ts (fS tb k):=by grind[cP,U8]
theorem xh(ts:aM):∃k:Str,k∉ts:=by
 have q:∀ts:aM,∃n,∀k∈ts,k.length<=n:=λ ts=>by
  induction ts with
  |nil=>exact⟨0,λ k h=>by simp at h⟩
  |cons a r O=>
   obtain⟨n,h⟩:=O;refine⟨max n a.length,λ k J=>?_⟩;rcases qt J with rfl|J
   .lia
   .have:=h k J;lia
 obtain⟨n,h⟩:=q ts;refine⟨⟨Array.replicate (n+1) 97⟩,λ J=>?_⟩;have:=h _ J;have e:(⟨Array.replicate (n+1) 97⟩:Str).length=n+1:=Array.size_replicate;lia
theorem Bw(o:Bool)(q t2:aM):∃r,nr o q t2=dK r/\(∀k,v5 r k=(cP true q k&&cP o t2 k))/\∀o' ts,r=some (o',ts)->ts.length<=q.length/\∃k,cP o' ts k=true:=by
 unfold nr;by_cases z:q.filter (cP o t2)=[]
 .refine⟨none,by rw[if_pos z];rfl,λ k=>?_,λ o' ts e=>by simp at e⟩;rw[kL];by_cases c:k∈q
  .have:=List.filter_eq_nil_iff.mp z k c;have f:cP o t2 k=false:=by simpa using this
   rw[f,Zz];rfl
  .simp[c,v5]
 .refine⟨some (true,q.filter (cP o t2)),by rw[if_neg z];rfl,λ k=>?_,λ o' ts e=>?_⟩
  .show cP true _ k=_;rw[kL,kL,yy];grind
  .cases e;obtain⟨k,J⟩:=List.exists_mem_of_ne_nil _ z;exact⟨Q8 _ _,k,by grind[kL]⟩
theorem X0(O J:Bool)(q t2:aM)(h:q.length+t2.length<=40):∃r,l7 [KK O q,KK J t2]=some (dK r)/\(∀k,v5 r k=(cP O q k&&cP J t2 k))/\∀o ts,r=some (o,ts)->ts.length<=q.length+t2.length/\∃k,cP o ts k=true:=by
 cases O with
 |true=>
  refine a_ (Bw J q t2) λ r e h1 h2=>?_;exact⟨r,by grind[Ij]⟩
 |false=>
  cases J with
  |true=>
   refine a_ (Bw false t2 q) λ r e h1 h2=>?_;exact⟨r,by grind[OI]⟩
  |false=>
   refine fj (some (false,nh q t2)) (Bv q t2 aE) (λ k=>?_) λ o ts z=>?_
   .show cP false _ k=_;rw[nu,nu,nu,yy];simp[mem_uni]
   .cases z;obtain⟨k,Y⟩:=xh (nh q t2);refine⟨?_,k,by rw[nu];simp[Y]⟩;unfold nh;rw[(iU _).length_eq];grind[wB]
theorem Ws(h:fM o ts q J s=some m):m=⟨o,ts,if 0>q then 0 else q,J,s⟩/\∀e,J=some e->(if 0>q then 0 else q)<e:=by cases J<;>grind [fM]
end Lake
namespace Lake.St
structure BB(s:S)(A B:Nat):Prop where
 st:s.st.natAbs<=B
 lo:∀l,s.lo=some l->l.natAbs<=A
 hi:∀l,s.hi=some l->l.natAbs<=A
theorem BB.mono(b:BB s A B)(h:A<=J)(h':B<=q):BB s J q:=⟨qy b.st h',λ l e=>qy (b.lo l e) h,λ l e=>qy (b.hi l e) h⟩
theorem BB.bd(c:Canon s)(b:BB s A B)(h:A<=n)(h':B<=n):Bd s n:=
 ⟨qy b.st h',by have:=c.r0;have:=c.r1;have:=b.st;lia,λ l e=>qy (b.lo l e) h,λ l e=>qy (b.hi l e) h⟩
theorem Canon.two(c:Canon s):s.st=1\/∃v,mem s v/\mem s (v+s.st):=by
 cases e:s.hi with
 |none=>
  obtain⟨v,J⟩:=c.some;exact .inr ⟨v,J,c.up J λ h z=>by rw[e]at z;simp at z⟩
 |some h=>
  have O:=c.memHi e;cases e2:s.lo with
  |none=>
   refine .inr ⟨h-s.st,c.down O (λ l z=>by grind),?_⟩;rw[show h-s.st+s.st=h by lia];exact O
  |some l=>
   rcases c.lh l h e2 e with z|⟨_,z,_⟩
   .have:=E2 (by rw[c.lo l e2,c.hi h e]) z;exact .inr ⟨l,c.memLo e2,c.up (c.memLo e2) λ x q=>by grind⟩
   .exact .inl z
theorem Dx(c:Canon s)(Y:0<M)(Z:M.natAbs<=B)(O:∀v w,mem s v->mem s w->v<=w->v+M<=w->mem s (v+M))(dn:∀v,mem s v->mem s (v-M)\/∃x:Int,x.natAbs<=A/\v-M<=x/\x<=v)(up:∀v,mem s v->mem s (v+M)\/∃x:Int,x.natAbs<=A/\v<=x/\x<=v+M):BB s (A+B) B:=by
 have p:=c.pos;refine⟨?_,λ l e=>?_,λ h e=>?_⟩
 .have:s.st<=M:=by
   rcases c.two with z|⟨v,h1,h2⟩
   .lia
   .by_cases q:s.st<=M
    .exact q
    .have J:=O v _ h1 h2 aE aE;have d:=l3.mp ((J.r).trans h1.r.symm);rw[show v+M-v=M by lia]at d;exact Int.le_of_dvd Y d
  lia
 .rcases dn l (c.memLo e)with z|⟨x,h1,h2,J⟩
  .have:=z.l l e;lia
  .lia
 .rcases up h (c.memHi e)with z|⟨x,h1,h2,J⟩
  .have:=z.h h e;lia
  .lia
theorem bb_meet(c1:Canon one)(c2:Canon J)(c:Canon s)(h:∀v,mem s v↔mem one v/\mem J v)(b1:BB one A B1)(b2:BB J A B2):BB s (A+B1*B2) (B1*B2):=by
 have i:=Int.mul_pos c1.pos c2.pos;have a:∀v,(v+one.st*J.st)%one.st=v%one.st:=λ v=>Qk v _ _;have b:∀v,(v+one.st*J.st)%J.st=v%J.st:=λ v=>by rw[Qm];exact Qk v _ _
 have d:∀v,(v-one.st*J.st)%one.st=v%one.st:=λ v=>by rw[<-a (v-_)];congr 1;lia
 have g:∀v,(v-one.st*J.st)%J.st=v%J.st:=λ v=>by rw[<-b (v-_)];congr 1;lia
 generalize f:one.st*J.st=M at*;refine Dx c i (by rw[<-f,Zx];exact Y3 b1.st b2.st) (λ v w O j _ q=>?_) (λ v O=>?_) λ v O=>?_
 .obtain⟨v1,v2⟩:=(h v).mp O;obtain⟨k,m⟩:=(h w).mp j;exact(h _).mpr ⟨⟨λ l e=>by have:=v1.l l e;lia,λ l e=>by have:=k.h l e;lia,by rw[a];exact v1.r⟩,⟨λ l e=>by have:=v2.l l e;lia,λ l e=>by have:=m.h l e;lia,by rw[b];exact v2.r⟩⟩
 .obtain⟨v1,v2⟩:=(h v).mp O;by_cases Z:leO one.lo (v-M)
  .by_cases Y:leO J.lo (v-M)
   .exact .inl ((h _).mpr ⟨⟨Z,λ l e=>by have:=v1.h l e;lia,by rw[d];exact v1.r⟩,⟨Y,λ l e=>by have:=v2.h l e;lia,by rw[g];exact v2.r⟩⟩)
   .obtain⟨x,q⟩:=Classical.not_forall.mp Y;obtain⟨e,q⟩:=Classical.not_imp.mp q;exact .inr ⟨x,b2.lo x e,by lia,v2.l x e⟩
  .obtain⟨x,q⟩:=Classical.not_forall.mp Z;obtain⟨e,q⟩:=Classical.not_imp.mp q;exact .inr ⟨x,b1.lo x e,by lia,v1.l x e⟩
 .obtain⟨v1,v2⟩:=(h v).mp O;by_cases Z:geO one.hi (v+M)
  .by_cases Y:geO J.hi (v+M)
   .exact .inl ((h _).mpr ⟨⟨λ l e=>by have:=v1.l l e;lia,Z,by rw[a];exact v1.r⟩,⟨λ l e=>by have:=v2.l l e;lia,Y,by rw[b];exact v2.r⟩⟩)
   .obtain⟨x,q⟩:=Classical.not_forall.mp Y;obtain⟨e,q⟩:=Classical.not_imp.mp q;exact .inr ⟨x,b2.hi x e,v2.h x e,by lia⟩
  .obtain⟨x,q⟩:=Classical.not_forall.mp Z;obtain⟨e,q⟩:=Classical.not_imp.mp q;exact .inr ⟨x,b1.hi x e,v1.h x e,by lia⟩
theorem bb_back(c:Canon s)(ct:Canon t)(ha:a≠0)(h:∀v,mem t v↔mem s (a*v+b))(bs:BB s A B):BB t (A+b.natAbs+B) B:=by
 have o:=c.pos;have ex:∀v:Int,a*(v+s.st)+b=a*v+b+s.st*a:=λ v=>by rw[Int.mul_add,Qm s.st a];lia
 have i:∀v,(a*(v+s.st)+b)%s.st=(a*v+b)%s.st:=λ v=>by rw[ex];exact Qk _ _ _
 have p:∀v,(a*(v-s.st)+b)%s.st=(a*v+b)%s.st:=λ v=>by
  rw[<-i (v-s.st)];congr 3;lia
 have O:∀y,y.natAbs<=A->(-((b-y).fdiv a)).natAbs<=A+b.natAbs/\((y-b).fdiv a).natAbs<=A+b.natAbs:=λ y C=>by
  exact⟨by rw[Int.natAbs_neg];exact qy (xE ha) (qy (Qd b y) aE),qy (xE ha) (qy (Qd y b) aE)⟩
 rcases Int.lt_or_gt_of_ne ha with d|f
 .have mono:∀x y:Int,x<=y->a*y<=a*x:=λ x y q=>(F2 d).mpr q;refine Dx ct o bs.st (λ v w Y j _ q=>?_) (λ v Y=>?_) λ v Y=>?_
  .have J:=(h v).mp Y;have n:=(h w).mp j;have Z:=mono v (v+s.st) aE;have u:=mono (v+s.st) w q;exact(h _).mpr ⟨λ l e=>by have:=n.l l e;lia,λ l e=>by have:=J.h l e;lia,by rw[i];exact J.r⟩
  .have J:=(h v).mp Y;have Z:=mono (v-s.st) v aE;by_cases g:geO s.hi (a*(v-s.st)+b)
   .exact .inl ((h _).mpr ⟨λ l e=>by have:=J.l l e;lia,g,by rw[p];exact J.r⟩)
   .obtain⟨y,g⟩:=Classical.not_forall.mp g;obtain⟨e,g⟩:=Classical.not_imp.mp g;have k1:=J.h y e;have k:-v<=(b-y).fdiv a:=(tO d).mpr (by rw[Zh];lia);have m:¬-(v-s.st)<=(b-y).fdiv a:=λ z=>g (by have:=(tO d).mp z;rw[Zh]at this;lia);exact .inr ⟨_,(O y (bs.hi y e)).1,by lia,by lia⟩
  .have J:=(h v).mp Y;have Z:=mono v (v+s.st) aE;by_cases g:leO s.lo (a*(v+s.st)+b)
   .exact .inl ((h _).mpr ⟨g,λ l e=>by have:=J.h l e;lia,by rw[i];exact J.r⟩)
   .obtain⟨y,g⟩:=Classical.not_forall.mp g;obtain⟨e,g⟩:=Classical.not_imp.mp g;have k1:=J.l y e;have k:v<=(y-b).fdiv a:=(tO d).mpr aE;have m:¬v+s.st<=(y-b).fdiv a:=λ z=>g (by have:=(tO d).mp z;lia);exact .inr ⟨_,(O y (bs.lo y e)).2,by lia,by lia⟩
 .have mono:∀x y:Int,x<=y->a*x<=a*y:=λ x y q=>(GQ f).mpr q;refine Dx ct o bs.st (λ v w Y j _ q=>?_) (λ v Y=>?_) λ v Y=>?_
  .have J:=(h v).mp Y;have n:=(h w).mp j;have Z:=mono v (v+s.st) aE;have u:=mono (v+s.st) w q;exact(h _).mpr ⟨λ l e=>by have:=J.l l e;lia,λ l e=>by have:=n.h l e;lia,by rw[i];exact J.r⟩
  .have J:=(h v).mp Y;have Z:=mono (v-s.st) v aE;by_cases g:leO s.lo (a*(v-s.st)+b)
   .exact .inl ((h _).mpr ⟨g,λ l e=>by have:=J.h l e;lia,by rw[p];exact J.r⟩)
   .obtain⟨y,g⟩:=Classical.not_forall.mp g;obtain⟨e,g⟩:=Classical.not_imp.mp g;have k1:=J.l y e;have k:-v<=(b-y).fdiv a:=(rm f).mpr (by rw[Zh];lia);have m:¬-(v-s.st)<=(b-y).fdiv a:=λ z=>g (by have:=(rm f).mp z;rw[Zh]at this;lia);exact .inr ⟨_,(O y (bs.lo y e)).1,by lia,by lia⟩
  .have J:=(h v).mp Y;have Z:=mono v (v+s.st) aE;by_cases g:geO s.hi (a*(v+s.st)+b)
   .exact .inl ((h _).mpr ⟨λ l e=>by have:=J.l l e;lia,g,by rw[i];exact J.r⟩)
   .obtain⟨y,g⟩:=Classical.not_forall.mp g;obtain⟨e,g⟩:=Classical.not_imp.mp g;have k1:=J.h y e;have k:v<=(y-b).fdiv a:=(rm f).mpr aE;have m:¬v+s.st<=(y-b).fdiv a:=λ z=>g (by have:=(rm f).mp z;lia);exact .inr ⟨_,(O y (bs.hi y e)).2,by lia,by lia⟩
end Lake.St
namespace Lake
section
structure KPl(P ts:aM):Prop where
 nd:ts.Nodup
 sub:∀k∈ts,k∈P
theorem SI(l P:aM)(h:l.Nodup)(s:∀k∈l,k∈P):l.length<=P.length:=h.length_le_of_subset λ _=>s _
theorem KPl.len(h:KPl P ts):ts.length<=P.length:=SI ts P h.nd h.sub
theorem KPl.filter(h:KPl P ts)(f:Str->Bool):KPl P (ts.filter f):=⟨h.nd.filter f,λ k q=>h.sub k (List.mem_filter.mp q).1⟩
structure jM(P ts:aM):Prop extends KPl P ts where
 pw:ts.Pairwise λ a b=>iZ b a=false
theorem jM.nil(P:aM):jM P []:=⟨⟨Y4,λ k q=>by simp at q⟩,.nil⟩
theorem KR(o:Bool)(h:jM P J):∃r,nr o J t2=dK r/\(∀k,v5 r k=(cP true J k&&cP o t2 k))/\∀o' ts,r=some (o',ts)->jM P ts/\∃k,cP o' ts k=true:=by
 refine a_ (Bw o J t2) λ r e h1 h2=>?_;refine⟨r,e,h1,λ o' ts z=>⟨?_,(h2 o' ts z).2⟩⟩;subst z;unfold nr at e;by_cases c:J.filter (cP o t2)=[]
 .rw[if_pos c]at e;cases e
 .rw[if_neg c]at e;have q:(J.filter (cP o t2)).map D.str=ts.map D.str:=by
   injection e with e
   injection e with _ e
   injection e with e _
   injection e
  have:=Zv (λ _ _ z=>D.str.inj z) |>.mp q
  rw[<-this];exact⟨h.toKPl.filter _,h.pw.filter _⟩
theorem XZ(o1 Y:Bool)(hP:P.length<=10)(h1:jM P J)(h2:jM P t2):∃r,l7 [KK o1 J,KK Y t2]=some (dK r)/\(∀k,v5 r k=(cP o1 J k&&cP Y t2 k))/\∀o ts,r=some (o,ts)->jM P ts/\∃k,cP o ts k=true:=by
 have b:=h1.len;have c:=h2.len;cases o1 with
 |true=>
  refine a_ (KR (t2:=t2) Y h1) λ r e O Z=>?_;exact⟨r,by grind[Ij]⟩
 |false=>
  cases Y with
  |true=>
   refine a_ (KR (t2:=J) false h2) λ r e O Z=>?_;exact⟨r,by grind[OI]⟩
  |false=>
   refine a_ (X0 false false J t2 aE) λ r e O Z=>?_;refine⟨some (false,nh J t2),Bv J t2 aE,λ k=>?_,λ o ts z=>?_⟩
   .rw[Bv J t2 aE]at e;have e:=qi e;rw[<-O k];cases r with
    |none=>cases e
    |some p=>
     obtain⟨o,ts⟩:=p;cases o with
     |true=>cases e
     |false=>
      have q:(nh J t2).map D.str=ts.map D.str:=by
       injection e with e
       injection e with _ e
       injection e with e _
       injection e
      rw[Zv (λ _ _ z=>D.str.inj z) |>.mp q]
   .cases z;refine⟨⟨⟨(IX _).2,λ k a=>?_⟩,(IX _).1⟩,?_⟩
    .rcases mem_uni.mp a with z|z
     .exact h1.sub k z
     .exact h2.sub k z
    .obtain⟨k,a⟩:=xh (nh J t2);exact⟨k,by rw[nu];simp[a]⟩
structure gz(P:aM)(A B:Nat)(b:Bx):Prop where
 k:jM P b.ts
 t0:0<=b.bg
 te:∀e,b.en=some e->b.bg<e
 c:St.Canon b.s
 bb:St.BB b.s A B
 ke:∃k,cP b.o b.ts k=true
theorem xX(h:fM o ts q J s=some m)(l:jM P ts)(c:St.Canon s)(bb:St.BB s A B)(ke:∃k,cP o ts k=true):gz P A B m:=by obtain⟨rfl,te⟩:=Ws h;exact⟨l,by split<;>lia,te,c,bb,ke⟩
theorem gz.mono(w:gz P A B b)(h:A<=J)(h':B<=q):gz P J q b:=⟨w.k,w.t0,w.te,w.c,w.bb.mono h h',w.ke⟩
theorem gz.some_thing(w:gz P A B b):∃t k v,0<=t/\bR b t k v=true:=by
 obtain⟨k,q⟩:=w.ke;obtain⟨v,J⟩:=w.c.some;refine⟨b.bg,k,v,w.t0,?_⟩;unfold bR;have e1:cN b.en b.bg=true:=by
  cases e:b.en with
  |none=>rfl
  |some x=>exact zk (w.te x e)
 rw[zk (yp _),e1,q,bQ.mpr J];rfl
theorem zO(hP:P.length<=10)(h1:A<=2^450)(h2:B1<=2^450)(h3:B2<=2^450)(Z:gz P A B1 a)(Y:gz P A B2 b):∃r,kX [dB a,dB b]=some (ek r)/\(∀t k v,kq r t k v=(bR a t k v&&bR b t k v))/\∀m,r=some m->gz P (A+B1*B2) (B1*B2) m:=by
 refine a_ (XZ a.o b.o hP Z.k Y.k) λ g i O h=>?_;refine a_ (Wv Z.c Y.c (qj _) (Z.bb.bd Z.c h1 h2) (Y.bb.bd Y.c h1 h3)) λ d es f _=>?_;refine⟨Ff g (qS a.bg b.bg) (St.uppB a.en b.en) d,?_,λ t k v=>?_,λ m J=>?_⟩
 .have J:=Ke g (qS a.bg b.bg) (St.uppB a.en b.en) d;have j:=I1 a.en b.en;unfold qS at J⊢;obtain⟨o,ts,bg,en,s⟩:=a;obtain⟨C,z,y,x,s'⟩:=b;simp[kX,HJ,dB,og,vm,yU,nZ,i,es,j,J]
 .have n:0<=qS a.bg b.bg:=by have:=Y.t0;unfold qS;split<;>lia
  have w:decide (qS a.bg b.bg<=t)=(decide (a.bg<=t)&&decide (b.bg<=t)):=by rw[yy];unfold qS;split<;>lia
  have O:=O k;have p:∀s,d=some s->dg s v=(dg a.s v&&dg b.s v):=λ s e=>by
   subst e;rw[yy,ze,bQ,bQ,bQ];exact f.2 v
  have B:d=none->(dg a.s v&&dg b.s v)=false:=λ e=>by
   subst e;rw[<-Jj,ze,bQ,bQ];exact f v
  unfold bR;cases g with
  |none=>
   have O:false=(cP a.o a.ts k&&cP b.o b.ts k):=O;show false=_
   symm
   cases h1:cP a.o a.ts k
   .simp
   .grind
  |some q=>
   have O:cP q.1 q.2 k=(cP a.o a.ts k&&cP b.o b.ts k):=O;cases d with
   |none=>
    show false=_
    symm
    cases h1:dg a.s v
    .simp
    .grind
   |some s=>
    show kq (fM q.1 q.2 _ _ s) t k v=_;rw[WK n,w,So,O,p s rfl];generalize decide (a.bg<=t)=x1;generalize decide (b.bg<=t)=x2;generalize cN a.en t=x3;generalize cN b.en t=x4;generalize cP a.o a.ts k=x5;generalize cP b.o b.ts k=x6;generalize dg a.s v=x7;generalize dg b.s v=x8;revert x1 x2 x3 x4 x5 x6 x7 x8;decide
 .cases g with
  |none=>cases J
  |some q=>
   cases d with
   |none=>cases J
   |some s=>
    obtain⟨l,u⟩:=h q.1 q.2 rfl;exact xX J l f.1 (St.bb_meet Z.c Y.c f.1 f.2 Z.bb Y.bb) u
inductive Rw where
 |time (b:Int) (e:bZ)
 |keys (o:Bool) (l:aM)
 |span (lo hi:bZ)
 |rest (m r:Int)
 |turn (a b:Int)
 |later (c:Int)
 |put (tb:Tb)
def dw:Rw->Str
 |.time _ _=>wU
 |.keys o _=>wO o
 |.span _ _=>wV
 |.rest _ _=>wW
 |.turn _ _=>wX
 |.later _=>wY
 |.put _=>wZ
def ec:Rw->D
 |.time b e=>.t [.int b,dO e]
 |.keys _ l=>.t (l.map .str)
 |.span lo hi=>.t [dO lo,dO hi]
 |.rest m r=>.t [.int m,.int r]
 |.turn a b=>.t [.int a,.int b]
 |.later c=>.t [.int c]
 |.put tb=>dT tb
def dY(x y:D)(r:Rw):D:=.t [.str (dw r),x,y,ec r]
structure gy(P:aM)(r:Rw):Prop where
 time:∀b e,r=.time b e->0<=b/\∀x,e=some x->b<x
 keys:∀o l,r=.keys o l->KPl P l/\l≠[]
 span:∀lo hi,r=.span lo hi->St.OB lo (2^40)/\St.OB hi (2^40)/\∀a b,lo=some a->hi=some b->a<=b
 rest:∀m x,r=.rest m x->2<=m/\m<=2000/\0<=x/\x<m
 turn:∀a b,r=.turn a b->a≠0/\a.natAbs<=1000/\b.natAbs<=1000
 later:∀c,r=.later c->0<=c
 put:∀tb,r=.put tb->KPl P (fst tb)/\tb.length<=4/\∀q∈tb,q.2∈P
abbrev Th:=Int×Str×Int
def thr:Rw->Th->Option Th
 |.time b e,x=>if b<=x.1/\cN e x.1=true then some x else none
 |.keys o l,x=>if cP o l x.2.1=true then some x else none
 |.span lo hi,x=>if eP lo x.2.2=true/\eO hi x.2.2=true then some x else none
 |.rest m r,x=>if x.2.2%m=r then some x else none
 |.turn a b,x=>some (x.1,x.2.1,a*x.2.2+b)
 |.later c,x=>some (x.1+c,x.2.1,x.2.2)
 |.put tb,x=>some (x.1,fS tb x.2.1,x.2.2)
def ko:Option Th->D
 |none=>.n
 |some x=>lA x.1 x.2.1 x.2.2
theorem oM:wO true=mx:=rfl
theorem ky:wO false=my:=rfl
theorem Eb(x:D):dW [x] 0=some x:=rfl
theorem zJ:(Str.ofString a=Str.ofString b)=(a=b):=by simp[Str.ofString_eq_toList,Zv,Char.toNat_inj,String.toList_inj]
noncomputable def iW:St.S:=⟨none,none,1,0⟩
theorem YH(v:Int):St.mem iW v:=⟨λ l e=>(by cases e),λ l e=>(by cases e),by show v%1=0;lia⟩
theorem BY:St.Canon iW where
 pos:=aQ
 r0:=aQ
 r1:=aQ
 lo:=λ l e=>by cases e
 hi:=λ l e=>by cases e
 lh:=λ a b e=>by cases e
theorem l8:St.BB iW (2^41) (2^11):=⟨by decide,(λ l e=>by cases e),(λ l e=>by cases e)⟩
theorem Cj(v:Int):dg iW v=true:=bQ.mpr (YH v)
theorem lD(k:Str):cP false [] k=true:=by rw[nu];simp
structure Cb(P:aM)(r:Rw)(s:Bx):Prop where
 w:gz P (2^41) (2^11) s
 h:∀t k v,0<=t->thr r (t,k,v)=if bR s t k v=true then some (t,k,v)else none
theorem as5(hP:P.length<=10)(Z y0:D)(ok:gy P r):((∃s,sd [dY Z y0 r]=some (dB s)/\Cb P r s)\/(sd [dY Z y0 r]=some .n/\((∃a b,r=.turn a b)\/(∃c,r=.later c)\/∃tb,r=.put tb))):=by
 have W:=@zJ;cases r with
 |time b e=>
  refine .inl ?_;obtain⟨w,te⟩:=ok.time b e rfl;have J:=mh false [] b e iW;have z:(if 0>b then 0 else b)=b:=if_neg aE;have y:fM false [] b e iW=some ⟨false,[],b,e,iW⟩:=by
   cases e with
   |none=>simp only[fM,z]
   |some x=>have:=te x rfl;simp only[fM,z];rw[if_neg aE]
  rw[y]at J;refine⟨⟨false,[],b,e,iW⟩,?_,⟨jM.nil P,w,te,BY,l8,Str.ofString "a",lD _⟩,λ t k v d=>?_⟩
  .simp only[KK,ky,iW,yj,IW,o8]at J;exact ip.fn rfl (.seq rfl (.seq rfl (.yes dA (.ret (by simp[dY,dw,ec,nZ,eR,fc,J,ek,iW])))))
  .grind[thr,bR,lD,Cj,cN]
 |keys o l=>
  refine .inl ?_;obtain⟨p,B⟩:=ok.keys o l rfl;have F:=p.len;have J:=mh o (et l) 0 none iW;have I:=(iU l).length_eq;have e4:nj (l.map D.str)=some (.l ((et l).map .str)):=by unfold nj;rw[xx,dX,if_pos aE]
  have mem:∀k,cP o (et l) k=cP o l k:=λ k=>by
   unfold cP;congr 1;rw[decide_eq_decide,(iU l).mem_iff]
  have A:∃k,cP o (et l) k=true:=by
   cases o with
   |true=>
    cases l with
    |nil=>exact absurd rfl B
    |cons a r=>exact⟨a,by rw[mem,kL];simp⟩
   |false=>
    obtain⟨k,i⟩:=xh (et l);exact⟨k,by rw[nu];simp[i]⟩
  refine⟨⟨o,et l,0,none,iW⟩,?_,⟨⟨⟨(iU l).nodup_iff.mpr p.nd,λ k i=>p.sub k ((iU l).mem_iff.mp i)⟩,rh _⟩,yp _,(λ e z=>by simp at z),BY,l8,A⟩,λ t k v d=>?_⟩
  .simp only[KK,iW,IW,o8]at J;cases o with
   |true=>
    simp only[oM]at J;exact ip.fn rfl (.seq rfl (.seq rfl (.z dA (.yes dA (.ret (by simp[dY,dw,ec,nZ,og,oM,e4,J,ek,fM,iW]))))))
   |false=>
    simp only[ky]at J;exact ip.fn rfl (.seq rfl (.seq rfl (.z dA (.yes dA (.ret (by simp[dY,dw,ec,nZ,og,ky,e4,J,ek,fM,iW]))))))
  .grind[thr,bR,Cj,cP,cN]
 |span lo hi=>
  refine .inl ?_;obtain⟨C,E,u⟩:=ok.span lo hi rfl;have O:=pf lo hi 1 0;have T:=St.made_ok (lo:=lo) (hi:=hi) (st:=1) (re:=0) aQ aQ aQ;have Y:∃v,St.Between lo hi 1 0 v:=by
   cases lo with
   |some a=>exact⟨a,λ l e=>by obtain rfl:=aW e;exact yp _,λ h e=>u a h rfl e,by omega⟩
   |none=>
    cases hi with
    |some b=>exact⟨b,λ l e=>(by simp at e),λ h e=>by obtain rfl:=aW e;exact yp _,by omega⟩
    |none=>exact⟨0,λ l e=>(by simp at e),λ l e=>(by simp at e),by decide⟩
  obtain⟨K,Y⟩:=Y;refine a_ (T.some Y) λ s es g j=>?_;have bs:=St.made_bd C E (show(1:Int).natAbs<=2^40 from Qu) aQ s es;have f:St.BB s (2^41) (2^11):=⟨by rcases St.made_st es with z|z<;>rw[z]<;>decide,bs.lo,bs.hi⟩;rw[es]at O;have J:=mh false [] 0 none s;refine⟨⟨false,[],0,none,s⟩,?_,⟨jM.nil P,yp _,(λ e z=>by simp at z),g,f,Str.ofString "a",lD _⟩,λ t k v d=>?_⟩
  .simp only[KK,ky,yj,o8]at J;simp[sd,E1,dY,dw,ec,List.replicate,og,nZ,eR,fc,W,O,J,ek,fM,dB,KK,ky]
  .unfold thr bR;rw[lD];have e:dg s v=(eP lo v&&eO hi v):=by rw[yy,bQ,j,ze,CS,CV];exact⟨λ h=>⟨h.1,h.2⟩,λ h=>⟨h.1,h.2,by omega⟩⟩
   rw[e];grind[eP,eO,cN]
 |rest m x=>
  refine .inl ?_;refine lM (ok.rest m x rfl) λ G H Z q=>?_;have O:=pf none none m x;have T:=St.made_ok (lo:=none) (hi:=none) aE Z q;have Y:St.Between none none m x x:=⟨λ l e=>(by simp at e),λ l e=>(by simp at e),jo Z q⟩;refine a_ (T.some Y) λ s es g j=>?_;have bs:=St.made_bd (n:=0) (λ l e=>(by simp at e)) (λ l e=>(by simp at e)) (m:=2000) aE aE s es;have f:St.BB s (2^41) (2^11):=⟨qy bs.st aQ,λ l e=>qy (bs.lo l e) aQ,λ l e=>qy (bs.hi l e) aQ⟩;rw[es]at O;have J:=mh false [] 0 none s;refine⟨⟨false,[],0,none,s⟩,?_,⟨jM.nil P,yp _,(λ e z=>by simp at z),g,f,Str.ofString "a",lD _⟩,λ t k v d=>?_⟩
  .simp only[KK,ky,yj,o8]at J;simp only[iT,o8]at O;simp[sd,E1,dY,dw,ec,List.replicate,og,nZ,eR,fc,W,O,J,ek,fM,dB,KK,ky]
  .unfold thr bR;rw[lD];have e:dg s v=decide (v%m=x):=by rw[yy,bQ,j,yf];exact⟨λ h=>h.3,λ h=>⟨λ l e=>(by simp at e),λ l e=>(by simp at e),h⟩⟩
   rw[e];by_cases c:v%m=x<;>simp[c,d,cN]
 |turn a b=>
  exact .inr ⟨by kernel_rfl,.inl ⟨a,b,rfl⟩⟩
 |later c=>
  exact .inr ⟨by kernel_rfl,.inr (.inl ⟨c,rfl⟩)⟩
 |put tb=>
  exact .inr ⟨by kernel_rfl,.inr (.inr ⟨tb,rfl⟩)⟩
theorem sj(b:Bx):bW (dB b) (.int 0)=some (KK b.o b.ts):=rfl
theorem si(b:Bx):bW (dB b) (.int 1)=some (.int b.bg):=rfl
theorem vo(b:Bx):bW (dB b) (.int 2)=some (dO b.en):=rfl
theorem sh(b:Bx):bW (dB b) (.int 3)=some (dS b.s):=rfl
theorem T7(b:Bx)(c:Int):v9 [dB b,.int c]=some (ek (fM b.o b.ts (b.bg+c) (b.en.map (·+c)) b.s)):=by
 have q:=mh b.o b.ts (b.bg+c) (b.en.map (·+c)) b.s;cases e:b.en with
 |none=>
  rw[e]at q;simp only[Option.map_none,o8]at q;simp[v9,F7,sj,si,vo,sh,e,q]
 |some x=>
  rw[e]at q;simp only[Option.map_some,q_2]at q;simp[v9,F7,sj,si,vo,sh,e,q]
theorem BW(t:Int)(t0:0<=t)(k:Str)(v:Int):kq (fM o ts J q s) t k v=(decide (J<=t)&&cN q t&&cP o ts k&&dg s v):=by cases q<;>grind [kq,bR,fM,cN]
abbrev lr(b:Bx)(x:Th):Bool:=bR b x.1 x.2.1 x.2.2
theorem hx(b:Bx)(t:Int)(k:Str)(v:Int):bR b t k v=(decide (b.bg<=t)&&cN b.en t&&cP b.o b.ts k&&dg b.s v):=rfl
theorem Sq(q:bZ)(c t:Int):cN (q.map (·+c)) t=cN q (t-c):=by
 cases q with
 |none=>rfl
 |some x=>
  show decide (t<x+c)=decide (t-c<x);grind
theorem fJ(h:a<=b):2^a<=2^b:=Y1 aQ h
abbrev X9(P:aM)(O Y:D)(r:Rw)(n A:Nat)(b:Bx):Prop:=∃q,kA [dY O Y r,dB b]=some (ek q)/\(∀t k v,0<=t->kq q t k v=match thr r (t,k,v)with|none=>false|some y=>lr b y)/\∀m,q=some m->gz P (A+2^(n+11)) (2^(n+11)) m
theorem QD{P:aM}(hP:P.length<=10)(O Y:D){r:Rw}(ok:gy P r){n A:Nat}(n1:50<=n)(n2:n<=430)(a1:2^41<=A)(a2:A<=2^450){b:Bx}(w:gz P A (2^n) b):X9 P O Y r n A b:=by
 have W:=@zJ;have S:=w.k.len;rcases as5 hP O Y ok with⟨s,es,F⟩|⟨es,H⟩
 .have C:2^n<=2^450:=fJ aE;have M:2^11*2^n=2^(n+11):=by rw[<-Ze,Nat.add_comm]
  obtain⟨q,e,h1,h2⟩:=zO hP a2 (fJ aQ) C (F.w.mono a1 (qj _)) w;refine⟨q,by simp[kA,tq,List.replicate,es,X7,e],λ t k v d=>?_,λ m J=>by rw[<-M];exact h2 m J⟩;rw[h1,F.h t k v d];cases bR s t k v<;>rfl
 .rcases H with⟨a,c,rfl⟩|⟨c,rfl⟩|⟨tb,rfl⟩
  .obtain⟨Z,σ,ρ⟩:=ok.turn a c rfl;have s2:=w.bb.st;have X:=w.c.pos;obtain⟨g,f,E,e1⟩:=JZ (a:=a) (b:=c) w.c.pos (rK (k:=n) aE aE) w.c.r0 w.c.r1 Z (rK (k:=10) aE aQ) (rK (k:=10) aE aQ);have T:=St.back_ok (b:=c) w.c Z E;have e3:kA [dY O Y (.turn a c),dB b]=some (ek (Ff (some (b.o,b.ts)) b.bg b.en (St.back2 b.s a c g f))):=by have J:=Ke (some (b.o,b.ts)) b.bg b.en (St.back2 b.s a c g f);have J:gB [KK b.o b.ts,.int b.bg,dO b.en,iT (St.back2 b.s a c g f)]=_:=J;have i:bW (dY O Y (.turn a c)) (.int 0)=some (.str "turn"):=rfl;have j:bW (dY O Y (.turn a c)) (.int 3)=some (.t [.int a,.int c]):=rfl;simp[kA,tq,List.replicate,es,i,j,W,sj,si,vo,sh,eR,fc,e1,J]
   refine⟨_,e3,λ t k v d=>?_,λ m J=>?_⟩
   .show _=bR b t k (a*v+c);rw[hx];cases q:St.back2 b.s a c g f with
    |none=>
     rw[q]at T;have:dg b.s (a*v+c)=false:=by rw[<-Jj,bQ];exact T v
     rw[this,Zz];rfl
    |some s=>
     rw[q]at T;have:dg s v=dg b.s (a*v+c):=by rw[yy,bQ,bQ];exact T.2 v
     show kq (fM b.o b.ts b.bg b.en s) t k v=_;rw[BW t d,this]
   .cases q:St.back2 b.s a c g f with
    |none=>rw[q]at J;cases J
    |some s=>
     rw[q]at J T;have J:fM b.o b.ts b.bg b.en s=some m:=J;have V:1000<=2^n:=qy (by decide:1000<=2^50) (fJ n1);have C:2^(n+11)=2^n*2048:=by rw[Ze]
     exact xX J w.k T.1 ((St.bb_back w.c T.1 Z T.2 w.bb).mono aE aE) w.ke
  .have c0:=ok.later c rfl;have K:=T7 b (-c);have i:bW (dY O Y (.later c)) (.int 0)=some (.str "later"):=rfl;have j:bW (dY O Y (.later c)) (.int 3)=some (.t [.int c]):=rfl;refine⟨_,by simp[kA,tq,List.replicate,es,i,j,W,Eb,K];rfl,λ t k v d=>?_,λ m J=>?_⟩
   .show _=bR b (t+c) k v;rw[BW t d,hx,Sq];have e1:decide (b.bg+-c<=t)=decide (b.bg<=t+c):=by rw[decide_eq_decide];omega
    have e2:t- -c=t+c:=by omega
    rw[e1,e2]
   .exact xX J w.k w.c (w.bb.mono (Za ..) (fJ aE)) w.ke
  .obtain⟨Z,σ,_⟩:=ok.put tb rfl;have p:=Xm Z.nd aE b.o (ts:=b.ts) aE;have i:bW (dY O Y (.put tb)) (.int 0)=some (.str "put"):=rfl;have j:bW (dY O Y (.put tb)) (.int 3)=some (dT tb):=rfl;have R:=Iw tb b.ts;by_cases z:b.o=true/\backL tb b.ts=[]
   .have u:rQ tb b.o b.ts=.n:=by unfold rQ;rw[if_pos z]
    rw[u]at p;have J:=KS (.int b.bg) (dO b.en) (dS b.s);refine⟨none,by simp[kA,tq,List.replicate,es,i,j,W,sj,si,vo,sh,p,J,ek],λ t k v d=>?_,λ m J=>by cases J⟩;show false=bR b t (fS tb k) v;have B:=II tb b.o b.ts k;rw[z.1,z.2,kL]at B;rw[hx,z.1,<-B];simp
   .have u:rQ tb b.o b.ts=KK b.o (backL tb b.ts):=by unfold rQ;rw[if_neg z]
    rw[u]at p;have J:=mh b.o (backL tb b.ts) b.bg b.en b.s;have ke:∃k,cP b.o (backL tb b.ts) k=true:=by
     cases G:b.o with
     |true=>
      obtain⟨k,l⟩:=List.exists_mem_of_ne_nil _ (λ q=>z ⟨G,q⟩);exact⟨k,by rw[kL,yf];exact l⟩
     |false=>
      obtain⟨k,l⟩:=xh (backL tb b.ts);exact⟨k,by rw[nu];simp[l]⟩
    refine⟨fM b.o (backL tb b.ts) b.bg b.en b.s,by simp[kA,tq,List.replicate,es,i,j,W,sj,si,vo,sh,p,J],λ t k v d=>?_,λ m J=>?_⟩
    .show _=bR b t (fS tb k) v;rw[BW t d,hx,II]
    .refine xX J ⟨⟨?_,λ k l=>?_⟩,by unfold backL;exact rh _⟩ w.c (w.bb.mono (Za ..) (fJ aE)) ke
     .unfold backL;rw[(iU _).nodup_iff,jn];exact⟨w.k.nd.filter _,Z.nd.filter _,λ x hx y I z=>by
       subst z;have N:=(List.mem_filter.mp hx).2;have Q:=(List.mem_filter.mp I).1;simp[Q]at N⟩
     .have q:=(iU _).mem_iff.mp l;rcases qw q with z|z
      .exact w.k.sub k (List.mem_filter.mp z).1
      .exact Z.sub k (List.mem_filter.mp z).1
inductive RB where
 |inn (lo hi:bZ)
 |one (f:Str) (r:Rw)
 |pour (fs:aM)
 |oth (w:Str) (x y:D)
noncomputable def gG:RB->Bool
 |.oth _ _ _=>false
 |_=>true
structure Row where
 n:Str
 b:RB
 w:Nat
def aF(x:Row):D:=match x.b with
 |.inn lo hi=>.t [.str "in",.str x.n,.t [],.t [dO lo,dO hi]]
 |.one f r=>dY (.str x.n) (.t [.str f]) r
 |.pour fs=>.t [.str "pour",.str x.n,.t (fs.map .str),.t []]
 |.oth w a b=>.t [.str w,.str x.n,a,b]
theorem qC(x:Row):bW (aF x) (.int 1)=some (.str x.n):=by obtain⟨n,b,w⟩:=x;cases b<;>rfl
abbrev _root_.de:=List Row
structure fg(P:aM)(up:de)(x:Row):Prop where
 inn:∀lo hi,x.b=.inn lo hi->St.OB lo (2^40)/\St.OB hi (2^40)/\(∀a b,lo=some a->hi=some b->a<=b)/\1<=x.w
 one:∀f r,x.b=.one f r->gy P r/\∃y∈up,y.n=f/\y.w<=x.w/\gG y.b=true
 pour:∀fs,x.b=.pour fs->∃v,(∀f∈fs,∃y∈up,y.n=f/\y.w<=v/\gG y.b=true)/\fs.length*v<=x.w
 oth:∀w a b,x.b=.oth w a b→w=jY "ever"∨w=jY "ask"
structure gL(P:aM)(rs:de):Prop where
 nd:(rs.map (·.n)).Nodup
 ok:∀i x,rs[i]?=some x->fg P (rs.take i) x
theorem YQ(h:l[i]?=some x):l=l.take i++x::l.drop (i+1):=by obtain⟨hi,e⟩:=fC.mp h;rw[<-e,List.getElem_cons_drop,List.take_append_drop]
theorem Ka(wk:D)(nm:Str)(x:Row)(hx:x.n=nm)(rest:aK):∀(q:de)(s2:Sl),(∀y∈q,y.n≠nm)->∃U,c4 (gN 2) tj (q.map aF++aF x::rest) [.i wk,.i (.str nm),s2]=some (.rt (aF x) U)
 |[],s2,_=>by
  refine⟨[.i wk,.i (.str nm),.i (aF x)],?_⟩;rw[yj,Zl,iP];have e:tj [.i wk,.i (.str nm),.i (aF x)]=some (.rt (aF x) [.i wk,.i (.str nm),.i (aF x)]):=by simp[tj,qC,hx]
  show iC _ _ _ (some [.i wk,.i (.str nm),.i (aF x)])=_;rw[jB,e,uY]
 |y::q,s2,h=>by
  obtain⟨U,e⟩:=Ka wk nm x hx rest q (.i (aF y)) λ z a=>h z (qh _ a);refine⟨U,?_⟩;have J:=h y (qg ..);rw[zc,List.cons_append,iP];have e1:tj [.i wk,.i (.str nm),.i (aF y)]=some (.nx [.i wk,.i (.str nm),.i (aF y)]):=by simp[tj,qC,J]
  show iC _ _ _ (some [.i wk,.i (.str nm),.i (aF y)])=_;rw[jB,e1,iQ,e]
theorem Ov(h:gL P q){i:Nat}(hx:q[i]?=some x):nU [.l (q.map aF),.str x.n]=some (aF x):=by
 have c:=YQ hx;have nd:=h.nd;rw[c,zx,zc,jn]at nd;have J:∀y∈q.take i,y.n≠x.n:=λ y O z=>nd.2.2 y.n (Zm O) x.n (qg ..) z;obtain⟨U,e⟩:=Ka (.l (q.map aF)) x.n x rfl ((q.drop (i+1)).map aF) (q.take i) .z J;have e2:q.map aF=(q.take i).map aF++aF x::(q.drop (i+1)).map aF:=by grind
 rw[<-e2]at e;simp[nU,Hr,e]
theorem Ce{P:aM}{x:Row}{lo hi:bZ}(Z:x.b=.inn lo hi)(o1:St.OB lo (2^40))(o2:St.OB hi (2^40))(o3:∀a b,lo=some a->hi=some b->a<=b):∃s:St.S,m9 [aF x,.int 0]=some (dB ⟨false,[],0,none,s⟩)/\gz P (2^41) (2^11) ⟨false,[],0,none,s⟩/\kO [dO lo,dO hi,.int 1,.int 0]=some (dS s)/\∀v,dg s v=(eP lo v&&eO hi v):=by
 have q:=pf lo hi 1 0;have T:=St.made_ok (lo:=lo) (hi:=hi) (st:=1) (re:=0) aQ aQ aQ;have J:∃Y,St.Between lo hi 1 0 Y:=by
  cases lo with
  |some a=>
   refine⟨a,λ l e=>by cases e;exact yp _,λ h e=>o3 a h rfl e,by lia⟩
  |none=>
   cases hi with
   |some b=>exact⟨b,λ l e=>(by cases e),λ h e=>by cases e;exact yp _,by lia⟩
   |none=>exact⟨0,λ l e=>(by cases e),λ l e=>(by cases e),by decide⟩
 obtain⟨Y,J⟩:=J;obtain⟨s,es,d,f⟩:=T.some J;have bs:=St.made_bd (re:=0) o1 o2 (m:=2^40) (show(1:Int).natAbs<=2^40 from Qu) aQ s es;have c:St.BB s (2^41) (2^11):=⟨by rcases St.made_st es with z|z<;>rw[z]<;>decide,bs.lo,bs.hi⟩;rw[es]at q;have O:=mh false [] 0 none s;refine⟨s,?_,⟨jM.nil P,yp _,(λ e z=>by cases z),d,c,kb,lD _⟩,q,λ v=>?_⟩
 .simp only[KK,ky,yj,o8]at O;simp only[iT]at q;have g:bW (aF x) (.int 3)=some (.t [dO lo,dO hi]):=by obtain⟨n,b,w⟩:=x;cases Z;rfl
  simp[m9,Dl,g,eR,fc,q,O,ek,fM,dB,KK,ky]
 .rw[yy,bQ,f,ze,CS,CV];exact⟨λ h=>⟨h.1,h.2⟩,λ h=>⟨h.1,h.2,by lia⟩⟩
def aX(p:Str×Bx):D:=.t [.str p.1,dB p.2]
abbrev lO(P:aM)(b:Bx):Prop:=gz P (2^430) (2^430) b
theorem Pj(k:Nat)(wk nm:D):gY (k+1) [wk,nm,.n]=some (.l []):=by simp[gY,sS]
theorem Dg{G:Str->List α}:∀fs:aM,(∀f∈fs,(G f).length<=v)->(fs.flatMap G).length<=fs.length*v
 |[],_=>ym _
 |f::fs,h=>by
  have h1:=h f (qg ..);have h2:=Dg fs λ g q=>h g (qh _ q);rw[Q3,zm,zg,Nat.succ_mul];lia
abbrev _root_.jT:=List (Str×Bx)
theorem N3(s1 s2 Y O:Sl):∀(fs:aM)(q:jT)(Z:Sl),(∀f∈fs,FU [wk,.str f,bl]=some (.l ((G f).map aX))/\(G f).length<=v)->q.length+fs.length*v<=900->∃J:Sl,c4 (gN 6) (AS FU) (fs.map .str) [.i wk,s1,s2,Y,.i bl,.o false (.l (q.map aX)),Z,O]=some (.nx [.i wk,s1,s2,Y,.i bl,.o false (.l ((q++fs.flatMap G).map aX)),J,O])
 |[],q,Z,_,_=>⟨Z,by rw[yj,Ab,Ji,yd]⟩
 |f::fs,q,Z,h,b=>by
  obtain⟨e1,d⟩:=h f (qg ..);rw[zg,Nat.succ_mul]at b;obtain⟨J,e⟩:=N3 s1 s2 Y O fs (q++G f) (.i (.str f)) (λ g a=>h g (qh _ a)) (by rw[zm];lia);refine⟨J,?_⟩;rw[zc,iP];have c:q.length+(G f).length<1000:=aE;have st:AS FU [.i wk,s1,s2,Y,.i bl,.o false (.l (q.map aX)),.i (.str f),O]=some (.nx [.i wk,s1,s2,Y,.i bl,.o false (.l ((q++G f).map aX)),.i (.str f),O]):=by simp[AS,e1,c]
  show iC _ _ _ (some [.i wk,s1,s2,Y,.i bl,.o false (.l (q.map aX)),.i (.str f),O])=_;rw[jB,st,iQ,e,Z5,Q3]
theorem kN{q:de}(h:y∈q.take i):∃j,j<i/\q[j]?=some y:=by obtain⟨j,e⟩:=List.mem_iff_getElem?.mp h;exact⟨j,by grind⟩
theorem yX:¬n8=jY "in":=d8
theorem Ct(r:Rw):¬dw r=jY "in":=by
 cases r with
 |keys o l=>cases o<;>simp only[dw,wO]<;>decide+kernel
 |_=>simp only[dw];decide+kernel
theorem Bs(r:Rw):¬dw r=n8:=by
 cases r with
 |keys o l=>cases o<;>simp only[dw,wO]<;>decide+kernel
 |_=>simp only[dw];decide+kernel
theorem vB(ok:gy P r)(t0:0<=t)(e:thr r (t,k,v)=some z):0<=z.1:=by
 cases r with
 |later c=>
  have:=ok.later c rfl;obtain rfl:=aW e;lia
 |turn a b=>obtain rfl:=aW e;exact t0
 |put tb=>obtain rfl:=aW e;exact t0
 |time b q=>obtain⟨_,e⟩:=bM e;subst e;exact t0
 |keys o l=>obtain⟨_,e⟩:=bM e;subst e;exact t0
 |span lo hi=>obtain⟨_,e⟩:=bM e;subst e;exact t0
 |rest m x=>obtain⟨_,e⟩:=bM e;subst e;exact t0
abbrev Sm:=Int->Str->Int->Bool
def tM(r:Rw)(S:Sm)(t:Int)(k:Str)(v:Int):Bool:=match thr r (t,k,v)with
 |none=>false
 |some y=>S y.1 y.2.1 y.2.2
def Wy(q:de):Nat->Row->Sm->List (Str×Bx)->Prop
 |0,_,_,_=>False
 |n+1,x,S,σ=>match x.b with
  |.inn lo hi=>(σ=[]/\∀t k v,0<=t->(eP lo v&&eO hi v&&S t k v)=false)\/∃m,σ=[(x.n,m)]/\(∀t k v,0<=t->bR m t k v=(eP lo v&&eO hi v&&S t k v))/\∃t k v,0<=t/\bR m t k v=true
  |.one f r=>∃y∈q,y.n=f/\∃J:Sm,(∀t k v,0<=t->J t k v=tM r S t k v)/\Wy q n y J σ
  |.pour fs=>∃G:Str->List (Str×Bx),σ=fs.flatMap G/\∀f∈fs,∃y∈q,y.n=f/\Wy q n y S (G f)
  |.oth _ _ _=>False
theorem MN:∀l:List α,(l.flatMap λ _=>([]:List β))=[]
 |[]=>rfl
 |_::l=>by rw[Q3,MN l];rfl
theorem cy4(h:gL P Y)(i:Nat):∀(x:Row),Y[i]?=some x->gG x.b=true->∀(S:Sm),(∀t k v,0<=t->S t k v=false)->∀n,i<n->Wy Y n x S []:=by
 induction i using Nat.strongRecOn with
 |_ i g=>
  intro x hx m S c n u;have ok:=h.ok i x hx;obtain⟨n,rfl⟩:∃k,n=k+1:=⟨n-1,by lia⟩;obtain⟨B,xb,xw⟩:=x;cases xb with
  |oth w a b=>cases m
  |inn lo hi=>exact .inl ⟨rfl,λ t k v d=>by rw[c t k v d,Zz]⟩
  |one f r=>
   obtain⟨O,y,Z,l,A,p⟩:=ok.one f r rfl;obtain⟨j,J,q⟩:=kN Z;refine⟨y,zf q,l,tM r S,λ _ _ _ _=>rfl,g j J y q p _ (λ t k v d=>?_) n aE⟩;unfold tM;cases e:thr r (t,k,v)with
   |none=>rfl
   |some z=>exact c _ _ _ (vB O d e)
  |pour fs=>
   obtain⟨v,O,l⟩:=ok.pour fs rfl;refine⟨λ _=>[],(MN fs).symm,λ f o=>?_⟩;refine cZ (O f o) λ y Z e _ s=>?_;obtain⟨j,J,q⟩:=kN Z;exact⟨y,zf q,e,g j J y q s S c n aE⟩
abbrev wyQ(P:aM)(Y:de)(i:Nat)(x:Row)(b:Bx):Prop:=∃σ:jT,σ.length<=x.w/\(∀y∈σ,lO P y.2)/\(∀(J:Nat),i<J->gY J [.l (Y.map aF),.str x.n,dB b]=some (.l (σ.map aX)))/\(∀k,i<k->Wy Y k x (bR b) σ)/\∀fs,x.b=.pour fs->∃G:Str->List (Str×Bx),σ=fs.flatMap G/\∀f∈fs,∀(J:Nat),i<J+1->gY J [.l (Y.map aF),.str f,dB b]=some (.l ((G f).map aX))
theorem JR{P:aM}(hP:P.length<=10){Y:de}(h:gL P Y)(hw:∀x∈Y,x.w<=125)(i:Nat):∀(x:Row),Y[i]?=some x->gG x.b=true->∀(n A:Nat)(b:Bx),50<=n->n+12*(i+1)<=430->2^41<=A->A+2^(n+12*(i+1))<=2^430->gz P A (2^n) b->wyQ P Y i x b:=by
 induction i using Nat.strongRecOn with
 |_ i IH=>
  intro x hx hc n A b n1 n2 o u R;have ok:=h.ok i x hx;have wx:=hw x (zf hx);have nm:nU [.l (Y.map aF),.str x.n]=some (aF x):=Ov h hx;have nb:gP (dB b)=false:=rfl;have Z:∀(fs:aM)(q:Option Bx)(k A:Nat)(v:Nat),50≤k→k+12*i≤430→2^41≤A→A+2^(k+12*i)≤2^430→(∀m,q=some m→gz P A (2^k) m)→(∀f∈fs,∃y∈Y.take i,y.n=f∧y.w≤v∧gG y.b=true)→fs.length*v≤x.w→bW (aF x) (.int 2)=some (.t (fs.map .str))→(∃w,bW (aF x) (.int 0)=some (.str w)∧¬w=jY "in"∧iV (tB (e2 jF (e2 bW (eV 3) (zI 0)) (zR "pour"))) (eV 2) (eF kA (aC (eV 3) iH)) [.i (.l (Y.map aF)),.i (.str x.n),.i (dB b),.i (aF x),.z,.z,.z,.z]=some (ek q,[.i (.l (Y.map aF)),.i (.str x.n),.i (dB b),.i (aF x),.z,.z,.z,.z]))→∃σ:jT,σ.length<=x.w/\(∀y∈σ,lO P y.2)/\(∀(J:Nat),i<J->gY J [.l (Y.map aF),.str x.n,dB b]=some (.l (σ.map aX)))/\∃G:Str->List (Str×Bx),σ=fs.flatMap G/\∀f∈fs,(∀(J:Nat),i<J+1->gY J [.l (Y.map aF),.str f,ek q]=some (.l ((G f).map aX)))/\∃y∈Y,y.n=f/\∀k,i<k+1->Wy Y k y (kq q) (G f):=by
   intro fs q k A v k1 k2 o u hq C hv h2 ⟨w,h0,af,he⟩;have ae:∀f,∃σ:jT,f∈fs->σ.length<=v/\(∀y∈σ,lO P y.2)/\(∀(J:Nat),i<J+1->gY J [.l (Y.map aF),.str f,ek q]=some (.l (σ.map aX)))/\∃y∈Y,y.n=f/\∀k,i<k+1->Wy Y k y (kq q) σ:=λ f=>by
    by_cases O:f∈fs
    .obtain⟨y,c,rfl,yw,yc⟩:=C f O;obtain⟨j,hj,K⟩:=kN c;cases q with
     |none=>
      refine⟨[],λ _=>⟨ym _,(λ y c=>by cases c),λ J B=>?_,y,zf K,rfl,λ k D=>cy4 h j y K yc _ (λ _ _ _ _=>rfl) k aE⟩⟩;cases J with
      |zero=>lia
      |succ J=>exact Pj _ _ _
     |some m=>
      obtain⟨σ,M,E,F,l4,_⟩:=IH j hj y K yc k A m k1 aE o (qy (Y8 (fJ aE) A) u) (hq m rfl);exact⟨σ,λ _=>⟨by lia,E,λ J B=>F J aE,y,zf K,rfl,λ k D=>l4 k aE⟩⟩
    .exact⟨[],λ z=>absurd z O⟩
   obtain⟨G,d⟩:=Classical.axiomOfChoice ae;refine⟨fs.flatMap G,qy (Dg fs λ f O=>(d f O).1) hv,λ y c=>?_,λ J B=>?_,G,rfl,λ f O=>(d f O).2.2⟩
   .grind
   .cases J with
    |zero=>lia
    |succ J=>
     obtain⟨aj,e⟩:=N3 (FU:=gY J) (wk:=.l (Y.map aF)) (bl:=ek q) (v:=v) (G:=G) (.i (.str x.n)) (.i (dB b)) (.i (aF x)) .z fs [] .z (λ f O=>⟨(d f O).2.2.1 J B,(d f O).1⟩) (by rw[jb];lia);rw[yj]at e;simp[gY,sS,nb,nm,h0,af,h2,-cd8,he,e]
  obtain⟨l,xb,xw⟩:=x;cases xb with
  |oth w a b=>cases hc
  |inn lo hi=>
   obtain⟨H,I,T,ρ⟩:=ok.inn lo hi rfl;obtain⟨s,es,gs,_,ah⟩:=Ce (P:=P) (x:=⟨l,.inn lo hi,xw⟩) rfl H I T;have p0:A<=2^450:=qy (qy (Za ..) u) (fJ aQ);have p2:2^n<=2^450:=fJ aE;obtain⟨r,er,ai,hr⟩:=zO hP p0 (fJ aQ) p2 (gs.mono o (qj _)) R;have p:bW (aF ⟨l,.inn lo hi,xw⟩) (.int 0)=some (.str "in"):=rfl;have X:∀t k v,0<=t->kq r t k v=(eP lo v&&eO hi v&&bR b t k v):=λ t k v V=>by
    rw[ai];have e1:cP false [] k=true:=lD k;have e2:decide ((0:Int)<=t)=true:=zk V;show(decide ((0:Int)<=t)&&cN none t&&cP false [] k&&dg s v&&_)=_;rw[e1,e2,ah];rfl
   cases r with
   |none=>
    refine⟨[],ym _,(λ y c=>by cases c),λ J B=>?_,λ k D=>?_,λ fs e=>by cases e⟩
    rotate_left
    .obtain⟨k,rfl⟩:∃m,k=m+1:=⟨k-1,by lia⟩;exact .inl ⟨rfl,λ t k v V=>(X t k v V).symm⟩
    cases J with
    |zero=>lia
    |succ J=>
     simp[gY,sS,nb,nm,p,es,er,ek]
   |some m=>
    have p3:2^11*2^n=2^(n+11):=by rw[<-Ze,Nat.add_comm]
    have p5:2^(n+11)<=2^(n+12*(i+1)):=fJ aE;refine⟨[(l,m)],ρ,λ y c=>?_,λ J B=>?_,λ k D=>?_,λ fs e=>by cases e⟩
    rotate_right
    .obtain⟨k,rfl⟩:∃m,k=m+1:=⟨k-1,by lia⟩;exact .inr ⟨m,rfl,X,(hr m rfl).some_thing⟩
    .cases qv c;exact(hr m rfl).mono (by rw[p3];lia) (by rw[p3];lia)
    .cases J with
     |zero=>lia
     |succ J=>
      have ag:gP (dB m)=false:=rfl;simp[gY,sS,nb,nm,p,es,er,ek,ag,aX]
  |one f r=>
   obtain⟨H,y,c,I,T,ρ⟩:=ok.one f r rfl;obtain⟨q,e1,e2,e3⟩:=QD hP (.str l) (.t [.str f]) H n1 aE o (qy (qy (Za ..) u) (fJ aQ)) R;have p:bW (aF ⟨l,.one f r,xw⟩) (.int 0)=some (.str (dw r)):=rfl;have e1:kA [aF ⟨l,.one f r,xw⟩,dB b]=some (ek q):=e1;obtain⟨σ,M,E,F,G,N,d⟩:=Z [f] q (n+11) (A+2^(n+11)) xw aE aE (qy o (Za ..)) (by
    have p1:2^(n+11)<=2^(n+11+12*i):=fJ aE;have p2:2^(n+11+12*i)+2^(n+11+12*i)=2^(n+12*(i+1)):=by rw[show n+12*(i+1)=n+11+12*i+1 by lia,Nat.pow_succ];lia
    lia) e3 (λ g hg=>by cases qv hg;exact⟨y,c,I,T,ρ⟩) bP rfl ⟨dw r,rfl,Ct r,by simp[p,Bs r,e1]⟩
   refine⟨σ,M,E,F,λ k D=>?_,λ fs e=>by cases e⟩;obtain⟨k,rfl⟩:∃m,k=m+1:=⟨k-1,by lia⟩;obtain⟨W,S,Q,wy⟩:=(d f (List.mem_singleton.mpr rfl)).2;refine⟨W,S,Q,kq q,e2,?_⟩;have:σ=G f:=by rw[N,Q3,Ji,yd]
   rw[this];exact wy k aE
  |pour fs=>
   obtain⟨v,H,I⟩:=ok.pour fs rfl;have p:bW (aF ⟨l,.pour fs,xw⟩) (.int 0)=some (.str "pour"):=rfl;obtain⟨σ,M,E,F,G,N,d⟩:=Z fs (some b) n A v n1 aE o (qy (Y8 (fJ aE) A) u) (λ m em=>by cases em;exact R) H I rfl ⟨_,rfl,yX,by simp[p,ek]⟩;refine⟨σ,M,E,F,λ k D=>?_,λ fs' e=>by cases e;exact⟨G,N,λ f C=>(d f C).1⟩⟩;obtain⟨k,rfl⟩:∃m,k=m+1:=⟨k-1,by lia⟩;refine⟨G,N,λ f C=>?_⟩;obtain⟨W,S,Q,wy⟩:=(d f C).2;exact⟨W,S,Q,wy k aE⟩
theorem DP(n:Nat)(xs:aK):jN xs none (some (n:Int))=xs.take n:=by
 unfold jN;rw[Ss];show(xs.drop 0).take (min n xs.length-0)=_;rw[Q4,Nat.sub_zero];by_cases h:n<=xs.length
 .rw[Nat.min_eq_left h]
 .grind
theorem vp:2^430<=2^450:=fJ aQ
theorem DB(y:Str×Bx):bW (aX y) (.int 0)=some (.str y.1):=rfl
theorem DA(y:Str×Bx):bW (aX y) (.int 1)=some (dB y.2):=rfl
def ud(a b:Str×Bx):Prop:=a.1=b.1->∀t k v,bR a.2 t k v=true->bR b.2 t k v=true->False
def Dj(σ:jT):Prop:=σ.Pairwise ud
theorem aj8(hP:P.length<=10)(J:D)(k:Sl)(gx:lO P x.2):∀(ys:jT)(Y:Sl),(∀y∈ys,lO P y.2)->(∃U,c4 (gN 3) iS (ys.map aX) [.i J,k,.i (aX x),Y]=some (.rt (.b true) U))\/∃O,c4 (gN 3) iS (ys.map aX) [.i J,k,.i (aX x),Y]=some (.nx [.i J,k,.i (aX x),O])/\∀y∈ys,ud y x
 |[],Y,_=>.inr ⟨Y,rfl,λ y f=>by simp at f⟩
 |y::ys,Y,h=>by
  have b:=aj8 hP J k gx ys (.i (aX y)) λ z g=>h z (qh _ g);have st:c4 (gN 3) iS ((y::ys).map aX) [.i J,k,.i (aX x),Y]=qL (gN 3) iS (ys.map aX) (iS [.i J,k,.i (aX x),.i (aX y)]):=by rw[zc,iP];show iC _ _ _ (some [.i J,k,.i (aX x),.i (aX y)])=_;rw[jB]
  refine a_ (zO hP vp vp vp gx (h y (qg ..))) λ r e d _=>?_;have more:ud y x->((∃U,c4 (gN 3) iS (ys.map aX) [.i J,k,.i (aX x),.i (aX y)]=some (.rt (.b true) U))\/∃O,c4 (gN 3) iS (ys.map aX) [.i J,k,.i (aX x),.i (aX y)]=some (.nx [.i J,k,.i (aX x),O])/\∀y∈ys,ud y x)->(∃U,c4 (gN 3) iS (ys.map aX) [.i J,k,.i (aX x),.i (aX y)]=some (.rt (.b true) U))\/∃O,c4 (gN 3) iS (ys.map aX) [.i J,k,.i (aX x),.i (aX y)]=some (.nx [.i J,k,.i (aX x),O])/\∀z∈y::ys,ud z x:=λ a z=>by
   rcases z with z|⟨s,z,q⟩
   .exact .inl z
   .exact .inr ⟨s,z,λ u Z=>by
     rcases qt Z with rfl|Z
     .exact a
     .exact q u Z⟩
  rw[st];by_cases c:x.1=y.1
  .cases r with
   |none=>
    rw[show iS [.i J,k,.i (aX x),.i (aX y)]=some (.nx [.i J,k,.i (aX x),.i (aX y)]) by simp[iS,DB,DA,c,e,ek],iQ];exact more (λ _ t k v h1 h2=>by have:=d t k v;rw[h1,h2]at this;cases this) b
   |some m=>
    have nm:gP (dB m)=false:=rfl;exact .inl ⟨_,by rw[show iS [.i J,k,.i (aX x),.i (aX y)]=some (.rt (.b true) [.i J,k,.i (aX x),.i (aX y)]) by simp[iS,DB,DA,c,e,ek,nm],uY]⟩
  .rw[show iS [.i J,k,.i (aX x),.i (aX y)]=some (.nx [.i J,k,.i (aX x),.i (aX y)]) by simp[iS,DB,DA,c],iQ];exact more (λ z=>absurd z.symm c) b
theorem J8(Y:P.length<=10)(g:∀y∈σ,lO P y.2):∀(m i:Nat)(s1 s2 J:Sl),i+m=σ.length->∃O U,c4 (gT [1,2]) Ez (jL i ((σ.drop i).map aX)) [.i (.l (σ.map aX)),s1,s2,J]=some (if O=true then .rt (.b true) U else .nx U)/\(O=false->Dj (σ.take i)->Dj σ)
 |0,i,s1,s2,J,e=>⟨false,_,by rw[Yi aE];rfl,λ _ d=>by rw[j6 aE]at d;exact d⟩
 |m+1,i,s1,s2,J,e=>by
  rw[jf aE,zc];generalize hx:σ[i]=x;have h:=g x (by rw[<-hx];exact Zc ..);show ∃O U,c4 _ _ (D.t [.int (i:Int),aX x]::jL (i+1) ((σ.drop (i+1)).map aX)) _=_/\_;rw[iP];show ∃O U,iC _ _ _ (some [.i (.l (σ.map aX)),.i (.int (i:Int)),.i (aX x),J])=_/\_;have st:Ez [.i (.l (σ.map aX)),.i (.int (i:Int)),.i (aX x),J]=c4 (gN 3) iS ((σ.take i).map aX) [.i (.l (σ.map aX)),.i (.int (i:Int)),.i (aX x),J]:=by simp[DP]
  rw[jB,st];rcases aj8 Y (.l (σ.map aX)) (.i (.int (i:Int))) h (σ.take i) J λ y k=>g y (Zg k)with⟨U,q⟩|⟨l,q,c⟩
  .exact⟨true,U,by rw[q,uY];rfl,λ z=>by simp at z⟩
  .rw[q,iQ];refine dt (J8 Y g m (i+1) (.i (.int (i:Int))) (.i (aX x)) l aE) λ O U go d=>?_;refine⟨O,U,go,λ z f=>d z ?_⟩;have hx:σ[i]?=some x:=by rw[<-hx];exact zt aE
   unfold Dj;rw[Z3,hx,List.pairwise_append];exact⟨f,jv ..,λ a j b Z=>by cases qv Z;exact c a j⟩
theorem O4(J:P.length<=10)(g:∀y∈σ,lO P y.2):∃q:Bool,qE [.l (σ.map aX)]=some (.b q)/\(q=false->Dj σ):=by
 refine dt (J8 J g σ.length 0 .z .z .z aE) λ q U e d=>?_;rw[Q4]at e;refine⟨q,?_,λ z=>d z Z6⟩;cases q with
 |true=>simp[qE,Fc,e]
 |false=>simp[qE,Fc,e]
def mP:Bx:=⟨false,[],0,none,iW⟩
theorem TZ(P:aM):gz P (2^50) (2^50) mP:=⟨jM.nil P,yp _,(λ e z=>by cases z),BY,l8.mono (fJ aQ) (fJ aQ),kb,lD _⟩
theorem Ra:gB [.t [.str "but",.t []],.int 0,.n,.t [.n,.n,.int 1,.int 0]]=some (dB mP):=mh false [] 0 none iW
theorem Ts(h:gY 24 [wk,nm,dB mP]=some d):qR [wk,nm]=some d:=by have:=Ra;simp[qR,Ha,this,h]
abbrev CH:D:=.t [(.str "in"),(.str "time"),(.str "only"),(.str "but"),(.str "span"),(.str "rest"),(.str "turn"),(.str "later"),(.str "put"),(.str "pour")]
noncomputable def nV:RB->Bool
 |.pour _=>true
 |_=>false
noncomputable def mZ:RB->Bool
 |.inn _ _=>true
 |_=>false
theorem RP(x:Row)(q:gG x.b=true):∃w,bW (aF x) (.int 0)=some (.str w)∧mL (.str w) CH=some (.b true)∧(w=n8↔nV x.b=true):=by
 obtain⟨n,b,w⟩:=x;cases b with
 |oth w a b=>cases q
 |inn lo hi=>exact fj _ rfl rfl ⟨λ z=>absurd z.symm yX,λ z=>by cases z⟩
 |pour fs=>exact fj _ rfl rfl ⟨λ _=>rfl,λ _=>rfl⟩
 |one f r=>
  refine fj (dw r) rfl ?_ ⟨λ z=>absurd z (Bs r),λ z=>by cases z⟩;cases r with
  |keys o l=>cases o<;>rfl
  |_=>rfl
def uZ(x:Row)(σ:jT)(q:Bool):Bool:=σ.isEmpty||(nV x.b&&q)
theorem bg1(hc:gG x.b=true)(q:qR [wk,.str x.n]=some (.l (σ.map aX)))(ht:qE [.l (σ.map aX)]=some (.b J))(k:Nat)(s3:Sl):(uZ x σ J=true∧mT [.i wk,.i (.int (k:Int)),.i (aF x),s3]=some (.ex (kc,some (fy,.int (k:Int)))))∨(uZ x σ J=false∧∃aa,mT [.i wk,.i (.int (k:Int)),.i (aF x),s3]=some (.ok (.nx [.i wk,.i (.int (k:Int)),.i (aF x),aa]))):=by
 refine a_ (RP x hc) λ w Y h1 h2=>?_;have O:=qC x;unfold uZ;cases σ with
 |nil=>
  refine .inl ⟨rfl,?_⟩;rw[yj]at q;simp[mT,dX,Y,h1,O,q]
 |cons y σ=>
  rw[zc]at q ht;by_cases c:nV x.b=true
  .have Z:=h2.mpr c;subst Z;cases J with
   |true=>
    refine .inl ⟨by rw[c];rfl,?_⟩;simp[mT,dX,Y,h1,O,q,ht]
   |false=>
    refine .inr ⟨by rw[c];rfl,.i (.l (aX y::σ.map aX)),?_⟩;simp[mT,dX,Y,h1,O,q,ht]
  .have Z:¬w=n8:=λ z=>c (h2.mp z);have a:nV x.b=false:=by cases z:nV x.b;rfl;exact absurd z c
   refine .inr ⟨by rw[a];rfl,.i (.l (aX y::σ.map aX)),?_⟩;simp[mT,dX,Y,h1,O,q,Z]
def Org(P:aM)(J:de)(i:Nat)(x:Row)(σ:jT):Prop:=
 σ.length<=x.w/\(∀y∈σ,lO P y.2)/\(∀(q:Nat),i<q->gY q [.l (J.map aF),.str x.n,dB mP]=some (.l (σ.map aX)))/\(∀k,i<k->Wy J k x (bR mP) σ)/\∀fs,x.b=.pour fs->∃G:Str->List (Str×Bx),σ=fs.flatMap G/\∀f∈fs,∀(q:Nat),i<q+1->gY q [.l (J.map aF),.str f,dB mP]=some (.l ((G f).map aX))
structure Wk(P:aM)(rs:de):Prop where
 hP:P.length<=10
 ok:gL P rs
 w:∀x∈rs,x.w<=125
 len:rs.length<=24
 c:∀x∈rs,gG x.b=true
theorem Org.is(h:Wk P q)(hx:q[i]?=some x)(o:Org P q i x σ):qR [.l (q.map aF),.str x.n]=some (.l (σ.map aX)):=by have:=(fC.mp hx).1;have:=h.len;exact Ts (o.2.2.1 24 aE)
theorem Wk.org(h:Wk P q)(hx:q[i]?=some x):∃σ,Org P q i x σ:=by
 have hi:=(fC.mp hx).1;have J:=h.len;exact JR h.hP h.ok h.w i x hx (h.c x (zf hx)) 50 (2^50) mP (qj _) aE (fJ aQ) (by
  have:2^(50+12*(i+1))<=2^429:=fJ aE
  lia) (TZ P)
theorem MX{t:Int}(t0:0<=t){k:Str}{v:Int}:bR mP t k v=true:=by unfold bR mP;dsimp only;rw[lD,Cj];simp[t0,cN]
theorem Mr(h:Wk P O)(hx:O[i]?=some x)(J:x.b=.inn lo hi)(o:Org P O i x σ):σ≠[]:=λ z=>by
 refine lM ((h.ok.ok i x hx).inn lo hi J) λ Y d f _=>?_;refine cZ (Ce (P:=P) J Y d f) λ s _ Z _ a=>?_;obtain⟨v,q⟩:=Z.c.some;have w:=o.2.2.2.1 (i+1) aE;have q:=bQ.mpr q;rw[a]at q;obtain⟨g,xb,xw⟩:=x;subst J;rcases w with⟨_,w⟩|⟨m,e,_⟩
 .have:=w 0 kb v (yp _);rw[q,MX (yp _)]at this;simp at this
 .rw[z]at e;simp at e
abbrev xC(i:Nat)(l:aK)(U:En):Option RX:=lI (gT [1,2]) mT (jL i l) U
abbrev Nz(k:Nat):RX:=.ex (kc,some (fy,.int (k:Int)))
theorem UG(k:Nat)(d:D)(l:aK)(w s1 s2 q:Sl):xC k (d::l) [w,s1,s2,q]=aH (mT [w,.i (.int (k:Int)),.i d,q]) (E4 (lI (gT [1,2]) mT (jL (k+1) l))):=by show lI _ _ (D.t [.int (k:Int),d]::jL (k+1) l) _=_;rw[J0];rfl
def dy(P:aM)(q:de):Prop:=∀i x,q[i]?=some x->∃σ,Org P q i x σ/\σ≠[]/\(nV x.b=true->Dj σ)
theorem aT2(h:Wk P J):∀(m i:Nat)(s1 s2 O:Sl),i+m=J.length->(∃k x,J[k]?=some x/\mZ x.b=false/\xC i ((J.drop i).map aF) [.i (.l (J.map aF)),s1,s2,O]=some (Nz k))\/
  ((∀j x,i<=j->J[j]?=some x->∃σ,Org P J j x σ/\σ≠[]/\(nV x.b=true->Dj σ))/\∃U,xC i ((J.drop i).map aF) [.i (.l (J.map aF)),s1,s2,O]=some (.ok (.nx U)))
 |0,i,s1,s2,O,e=>.inr ⟨λ j x h1 h2=>by have:=(fC.mp h2).1;lia,_,by rw[Yi aE];rfl⟩
 |m+1,i,s1,s2,O,e=>by
  have hx:J[i]?=some J[i]:=zt aE;rw[jf aE,zc,UG];generalize J[i]=x at hx⊢;obtain⟨σ,o⟩:=h.org hx;refine bE (O4 h.hP o.2.1) λ l d a=>?_;rcases bg1 (h.c x (zf hx)) (Org.is h hx o) d i O with⟨b,q⟩|⟨b,g,q⟩
  .refine .inl ⟨i,x,hx,?_,by rw[q];rfl⟩;cases Z:x.b with
   |inn lo hi=>
    unfold uZ at b;rw[Z]at b;cases σ with
    |nil=>exact absurd rfl (Mr h hx Z o)
    |cons=>cases b
   |_=>rfl
  .rw[q];rcases aT2 h m (i+1) (.i (.int (i:Int))) (.i (aF x)) g aE with⟨k,y,h1,h2,f⟩|⟨h1,U,h2⟩
   .exact .inl ⟨k,y,h1,h2,f⟩
   .refine .inr ⟨λ j y n Y=>?_,U,h2⟩;by_cases c:j=i
    .subst c;rw[hx]at Y;obtain rfl:=aW Y;exact⟨σ,o,λ z=>(by subst z;cases b),λ z=>a (by unfold uZ at b;rw[z]at b;cases l;rfl;simp at b)⟩
    .exact h1 j y aE Y
theorem Sw(h:xC 0 l [.i (.l l),.z,.z,.z]=some (Nz k)):lY [.l l]=some (.inr (kc,some (fy,.int (k:Int)))):=by simp[lY,qP,Fs,h,dX]
theorem Ub(h:xC 0 l [.i (.l l),.z,.z,.z]=some (.ok (.nx U))):lY [.l l]=some (.inl .n):=by simp[lY,qP,Fs,h,dX]
theorem R_7(h:Wk P q):(∃(k:Nat)(x:Row),q[k]?=some x∧mZ x.b=false∧lY [.l (q.map aF)]=some (.inr (kc,some (fy,.int (k:Int)))))∨(dy P q∧lY [.l (q.map aF)]=some (.inl .n)):=by
 rcases aT2 h q.length 0 .z .z .z aE with⟨k,x,h1,h2,a⟩|⟨h1,U,h2⟩
 .exact .inl ⟨k,x,h1,h2,Sw (by rw[Q4]at a;exact a)⟩
 .exact .inr ⟨λ i x hx=>h1 i x (ym _) hx,Ub (by rw[Q4]at h2;exact h2)⟩
abbrev vq(n f:Str)(w:Nat):Row:=⟨n,.one f (.later 1),w⟩
structure Gd(P:aM)(rs:de):Prop where
 wk:Wk P rs
 w1:∀x∈rs,1<=x.w
 z:∃x lo hi,rs[0]?=some x/\x.b=.inn lo hi/\x.w=1
theorem O5(h:0<=c):gy P (.later c):=⟨d_,d_,d_,d_,d_,λ _ e=>by cases e;exact h,λ _ e=>(by simp at e)⟩
theorem T_9{l:List α}(h:y∈l.take i):y∈(l.set k x').take i\/l[k]?=some y/\x'∈(l.set k x').take i:=by
 obtain⟨j,e⟩:=List.mem_iff_getElem?.mp h;by_cases c:k=j
 .exact .inr ⟨by grind,List.mem_iff_getElem?.mpr ⟨k,by grind⟩⟩
 .exact .inl (List.mem_iff_getElem?.mpr ⟨j,by grind⟩)
theorem Gd.set(h:Gd P O)(hx:O[k]?=some x)(k1:1<=k)(hf:O[0]?=some f):Gd P (O.set k (vq x.n f.n x.w)):=by
 refine eU h.z λ p lo hi e1 e2 e3=>?_;rw[hf]at e1;obtain rfl:=aW e1;have m:=(fC.mp hx).1;have up:∀(i:Nat)(n:Str)(v:Nat),(∃y∈O.take i,y.n=n/\y.w<=v/\gG y.b=true)->∃y∈(O.set k (vq x.n f.n x.w)).take i,y.n=n/\y.w<=v/\gG y.b=true:=λ i n v Y=>by
  refine cZ Y λ y J a b j=>?_;rcases T_9 J with q|⟨d,o⟩
  .exact⟨y,q,a,b,j⟩
  .rw[hx]at d;obtain rfl:=aW d;exact⟨_,o,a,b,rfl⟩
 have mem:∀y∈O.set k (vq x.n f.n x.w),1<=y.w/\y.w<=125/\gG y.b=true:=λ y J=>by
  rcases List.mem_or_eq_of_mem_set J with q|rfl
  .exact⟨h.w1 y q,h.wk.w y q,h.wk.c y q⟩
  .exact⟨h.w1 x (zf hx),h.wk.w x (zf hx),rfl⟩
 have Z:(O.set k (vq x.n f.n x.w)).map (·.n)=O.map (·.n):=by rw[Jc];apply Z4;grind
 refine⟨⟨h.wk.hP,⟨by rw[Z];exact h.wk.ok.nd,λ i y J=>?_⟩,λ y J=>(mem y J).2.1,by rw[yk];exact h.wk.len,λ y J=>(mem y J).2.2⟩,λ y J=>(mem y J).1,f,lo,hi,by rw[zj aE];exact hf,e2,e3⟩;by_cases c:k=i
 .subst c;rw[z0 m]at J;obtain rfl:=aW J;refine⟨d_,λ g r e=>?_,λ _ e=>(by simp at e),λ _ _ _ e=>(by simp at e)⟩;cases e;refine⟨O5 aQ,up k f.n x.w ⟨f,?_,rfl,by rw[e3];exact h.w1 x (zf hx),by rw[e2];rfl⟩⟩;exact List.mem_iff_getElem?.mpr ⟨0,by rw[Qw,if_pos aE];exact hf⟩
 .rw[zj c]at J;have ok:=h.wk.ok.ok i y J;exact⟨ok.inn,λ g r e=>⟨(ok.one g r e).1,up i g y.w (ok.one g r e).2⟩,λ fs e=>by
   obtain⟨v,h1,h2⟩:=ok.pour fs e;exact⟨v,λ g l=>up i g v (h1 g l),h2⟩,ok.oth⟩
theorem Kp(x:Row):∃w r,aF x=.t (w::.str x.n::r):=by obtain⟨n,b,w⟩:=x;cases b<;>exact⟨_,_,rfl⟩
theorem aJ4(h:Gd P q)(O:D)(t:Sl)(J:Sl)(n0:h8 t=true)(n3:h8 J=true):(dy P q/\∃U,sY [.i O,.o false (.l (q.map aF)),t,J,.z]=some (.rt (.l (q.map aF)) U))\/∃Y d,Gd P Y/\Y.map (·.n)=q.map (·.n)/\sY [.i O,.o false (.l (q.map aF)),t,J,.z]=some (.nx [.i O,.o false (.l (Y.map aF)),t,.i d,.z]):=by
 have one:zN 1 [.i O,.o false (.l (q.map aF)),t,J,.z]=true:=by show(h8 (.i O)&&(h8 .z&&(h8 t&&(h8 J&&(h8 .z&&true)))))=true;rw[n0,n3];rfl
 have Z:zN 1 [.i O,.o false (.l (q.map aF)),t,J,.z]=true/\Af ([.i O,.o false (.l (q.map aF)),t,J,.z]:En)[4]?=true/\3<([.i O,.o false (.l (q.map aF)),t,J,.z]:En).length:=⟨one,rfl,qj 4 |> Nat.le_succ_of_le⟩;have un:sY [.i O,.o false (.l (q.map aF)),t,J,.z]=aH (lY [.l (q.map aF)]) (uM 1 3 [.i O,.o false (.l (q.map aF)),t,J,.z] (q.map aF) (kv 1 (bU (eV 1)))):=by show C6 1 3 4 lY (kv 1 (bU (eV 1))) _ (some (q.map aF))=_;unfold C6;rw[dX,if_pos Z]
 rw[un];rcases R_7 h.wk with⟨k,x,hx,a,e⟩|⟨i,e⟩
 .refine eU h.z λ f lo hi e1 e2 e3=>?_;have k1:1<=k:=by
   cases k with
   |zero=>
    rw[e1]at hx;obtain rfl:=aW hx;rw[e2]at a;cases a
   |succ k=>lia
  refine ug (Kp x) λ w r o=>?_;refine ug (Kp f) λ l j m=>?_;have c:(q.map aF)[((k:Int)).toNat]?=some (.t (w::.str x.n::r)):=by grind
  have b:(q.map aF)[(0:Nat)]?=some (.t (l::.str f.n::j)):=by grind
  have g:qu (q.map aF) (k:Int)=some (.t (w::.str x.n::r),(q.set k (vq x.n f.n x.w)).map aF):=by unfold qu;rw[if_pos aE,c,b];rw[Jc];rfl
  refine .inr ⟨_,.t (w::.str x.n::r),h.set hx k1 e1,?_,?_⟩
  .rw[Jc];apply Z4;grind
  .rw[e,dX];unfold uM;dsimp only;rw[if_pos ⟨rfl,rfl⟩,g,dX];rfl
 .rw[e,dX];exact .inl ⟨i,_,rfl⟩
theorem aQ9(w0:D):∀(m:Nat)(lo:Int)(O:de)(t Y:Sl),Gd P O->h8 Y=true->(∃J U,Gd P J/\dy P J/\J.map (·.n)=O.map (·.n)/\c4 (gN 2) sY (fQ lo m) [.i w0,.o false (.l (O.map aF)),t,Y,.z]=some (.rt (.l (J.map aF)) U))\/
  ∃J t' Z,Gd P J/\J.map (·.n)=O.map (·.n)/\c4 (gN 2) sY (fQ lo m) [.i w0,.o false (.l (O.map aF)),t,Y,.z]=some (.nx [.i w0,.o false (.l (J.map aF)),t',Z,.z])
 |0,lo,O,t,Y,h,_=>.inr ⟨O,t,Y,h,rfl,rfl⟩
 |m+1,lo,O,t,Y,h,j=>by
  show(∃J U,_/\_/\_/\c4 _ _ (D.int lo::fQ (lo+1) m) _=_)\/∃J t' Z,_/\_/\c4 _ _ (D.int lo::fQ (lo+1) m) _=_;rw[iP];show(∃J U,_/\_/\_/\iC _ _ _ (some [.i w0,.o false (.l (O.map aF)),.i (.int lo),Y,.z])=_)\/∃J t' Z,_/\_/\iC _ _ _ (some [.i w0,.o false (.l (O.map aF)),.i (.int lo),Y,.z])=_;rw[jB];rcases aJ4 h w0 (.i (.int lo)) Y rfl j with⟨i,U,e⟩|⟨f,d,g,nm,e⟩
  .exact .inl ⟨O,U,h,i,rfl,by rw[e,uY]⟩
  .rw[e,iQ];rcases aQ9 w0 m (lo+1) f (.i (.int lo)) (.i d) g rfl with⟨J,U,a,b,c,q⟩|⟨J,t',Z,a,c,q⟩
   .grind
   .grind
theorem Gd.one(h:Gd P q):Gd P (q.take 1):=by
 obtain⟨f,lo,hi,e1,e2,e3⟩:=h.z;have z:(q.take 1)[0]?=some f:=by rw[Qw,if_pos aQ];exact e1
 have sub:∀x∈q.take 1,x∈q:=λ x hx=>Zg hx;refine⟨⟨h.wk.hP,⟨?_,λ i x hx=>?_⟩,λ x hx=>h.wk.w x (sub x hx),by rw[jd];lia,λ x hx=>h.wk.c x (sub x hx)⟩,λ x hx=>h.w1 x (sub x hx),f,lo,hi,z,e2,e3⟩
 .rw[List.map_take];exact h.wk.ok.nd.sublist (Z2 ..)
 .rw[Qw]at hx;split at hx
  .obtain rfl:i=0:=aE;exact h.wk.ok.ok 0 x hx
  .simp at hx
theorem Gd.one_pass(h:Gd P O):dy P (O.take 1):=λ j y J=>by
 refine eU h.one.z λ f lo hi e1 e2 e3=>?_;have q:=J;rw[Qw]at J;split at J
 .obtain rfl:j=0:=aE;rw[e1]at q;obtain rfl:=aW q;obtain⟨σ,o⟩:=h.one.wk.org e1;exact⟨σ,o,Mr h.one.wk e1 e2 o,λ z=>by rw[e2]at z;cases z⟩
 .simp at J
theorem XR(h:Gd P O):∃J,sV [.l (O.map aF)]=some (.l (J.map aF))/\Gd P J/\dy P J:=by
 rcases aQ9 (.l (O.map aF)) 25 0 O .z .z h rfl with⟨J,U,a,b,c,q⟩|⟨J,f,e,a,c,q⟩
 .refine⟨J,?_,a,b⟩;simp[sV,FW,q]
 .refine⟨J.take 1,?_,a.one,a.one_pass⟩
  .have d:jN (J.map aF) none (some 1)=(J.take 1).map aF:=by rw[show(1:Int)=((1:Nat):Int)from rfl,DP,List.map_take]
   simp[sV,FW,q,d]
mutual
theorem Ec:∀d:D,dI d<=30->cJ d d=true
 |.n,_=>by simp
 |.b _,_=>by simp
 |.int _,_=>by simp
 |.str _,_=>by simp
 |.t l,h=>(CW l l).trans (BZ l (Nat.le_of_succ_le h))
 |.l l,h=>(CY l l).trans (BZ l (Nat.le_of_succ_le h))
 |.opq,h=>absurd h aQ
 |.c _ _,h=>absurd h (by show ¬1000<=30;decide)
theorem BZ:∀l:aK,gK l<=30->h7 l l=true
 |[],_=>by simp
 |d::r,h=>by
  have h:max (dI d) (gK r)<=30:=h;have a:=Ec d aE;have b:=BZ r aE;simp[a,b]
end
theorem VZ(o:bZ):dI (dO o)=0:=by cases o<;>rfl
theorem gL.idx(h:gL P q){i j:Nat}(hx:q[i]?=some x)(J:q[j]?=some y)(e:x.n=y.n):i=j:=
 (List.getElem?_inj (by rw[qx];exact(fC.mp hx).1) h.nd).mp (by simp[hx,J,e])
theorem gL.same(h:gL P q)(hx:x∈q)(O:y∈q)(e:x.n=y.n):x=y:=by obtain⟨i,hi⟩:=List.mem_iff_getElem?.mp hx;obtain⟨j,J⟩:=List.mem_iff_getElem?.mp O;cases h.idx hi J e;exact qi (hi.symm.trans J)
theorem gL.new(h:gL P q)(hx:q[i]?=some x):∀y∈q.take i,y.n≠x.n:=λ y O e=>by
 obtain⟨j,Y,J⟩:=kN O;have:=h.idx J hx e;lia
theorem EG:∀(n:Nat)(x:Row)(S:Sm)(σ:jT),x∈O->Wy O n x S σ->∀p∈σ,∃z∈O,z.n=p.1/\∃lo hi,z.b=.inn lo hi/\∀t k v,0<=t->bR p.2 t k v=true->(eP lo v&&eO hi v)=true
 |0,_,_,_,_,h=>h.elim
 |n+1,⟨a,.inn lo hi,xw⟩,S,σ,hx,h=>by
  intro p J;rcases h with⟨rfl,_⟩|⟨m,rfl,d,_⟩
  .simp at J
  .cases qv J;refine⟨_,hx,rfl,lo,hi,rfl,λ t k v e q=>?_⟩;rw[d t k v e,ze]at q;exact q.1
 |n+1,⟨a,.one f r,xw⟩,S,σ,hx,h=>by
  obtain⟨y,Y,_,c,_,w⟩:=h;exact EG n y c σ Y w
 |n+1,⟨a,.pour fs,xw⟩,S,σ,hx,h=>by
  obtain⟨G,rfl,w⟩:=h;intro p J;obtain⟨f,Z,J⟩:=List.mem_flatMap.mp J;refine a_ (w f Z) λ y Y _ w=>?_;exact EG n y S _ Y w p J
 |n+1,⟨a,.oth _ _ _,xw⟩,S,σ,hx,h=>h.elim
def mu(nm:Str)(th:Th)(G:Str->List Th)(x:Row):List Th:=match x.b with
 |.inn _ _=>if x.n=nm then[th]else[]
 |.one f r=>(G f).filterMap (thr r)
 |.pour fs=>fs.flatMap G
 |.oth _ _ _=>[]
structure lj(rs:de)(nm:Str)(th:Th)(G:Str->List Th):Prop where
 eq:∀x∈rs,G x.n=mu nm th G x
 t0:∀x∈rs,∀z∈G x.n,0<=z.1
 w:∀x∈rs,(G x.n).length<=x.w
theorem ZD{g:α->Option β}{p:β->Bool}{q:α->Bool}(l:List α)(h:∀z∈l,q z=match g z with|none=>false|some y=>p y):((l.filterMap g).filter p).length=(l.filter q).length:=by induction l<;>grind
theorem ZE{A:Str->List α}{B:Str->List β}{p:α->Bool}{q:β->Bool}(fs:aM)(h:∀f∈fs,((A f).filter p).length=((B f).filter q).length):((fs.flatMap A).filter p).length=((fs.flatMap B).filter q).length:=by induction fs<;>grind
theorem vA(F:lj O nm th G)(J:0<=th.1)(q:∀x∈O,x.n=nm->∀lo hi,x.b=.inn lo hi->(eP lo th.2.2&&eO hi th.2.2)=true):∀(n:Nat)(x:Row)(S:Sm)(σ:jT),x∈O->Wy O n x S σ->(σ.filter λ p=>decide (p.1=nm)&&lr p.2 th).length=((G x.n).filter λ z=>S z.1 z.2.1 z.2.2).length
 |0,_,_,_,_,h=>h.elim
 |n+1,⟨a,.inn lo hi,xw⟩,S,σ,hx,h=>by
  rw[F.eq _ hx];show _=((if a=nm then[th]else[]).filter _).length;by_cases c:a=nm
  .rw[if_pos c];rcases h with⟨rfl,h⟩|⟨m,rfl,h,_⟩
   .grind
   .grind
  .rw[if_neg c];rcases h with⟨rfl,h⟩|⟨m,rfl,h,_⟩
   .rfl
   .grind
 |n+1,⟨a,.one f r,xw⟩,S,σ,hx,h=>by
  obtain⟨y,Y,rfl,d,e,w⟩:=h;rw[vA F J q n y d σ Y w,F.eq _ hx]
  symm
  exact ZD _ λ z g=>(e z.1 z.2.1 z.2.2 (F.t0 y Y z g)).trans (by
   show(match thr r z with|none=>false|some y=>S y.1 y.2.1 y.2.2)=_;cases thr r z<;>rfl)
 |n+1,⟨a,.pour fs,xw⟩,S,σ,hx,h=>by
  obtain⟨i,rfl,w⟩:=h;rw[F.eq _ hx];refine ZE fs λ f Z=>?_;obtain⟨y,Y,rfl,w⟩:=w f Z;exact vA F J q n y S _ Y w
 |n+1,⟨a,.oth _ _ _,xw⟩,S,σ,hx,h=>h.elim
theorem ck7(x0 y0:D)(ok:gy P r)(t:Int)(k:Str)(v:Int):qa [dY x0 y0 r,lA t k v]=some (ko (thr r (t,k,v))):=by
 refine ip.fn rfl (.seq (ρ':=[.i (dY x0 y0 r),.i (lA t k v),.i (.str (dw r)),.z,.z,.z,.z]) dA (.seq (ρ':=[.i (dY x0 y0 r),.i (lA t k v),.i (.str (dw r)),.i (ec r),.z,.z,.z]) dA (.seq (ρ':=[.i (dY x0 y0 r),.i (lA t k v),.i (.str (dw r)),.i (ec r),.i (.int t),.i (.str k),.i (.int v)]) dA ?_)));cases r with
 |time b e=>
  by_cases h:b<=t/\cN e t=true
  .rw[show thr (.time b e) (t,k,v)=some (t,k,v)from if_pos h];have a:¬t<b:=by omega
   refine .z ?_ ?_
   .cases e with
    |none=>simp[dw,ec,eR,fc,a]
    |some x=>
     have c:¬x<=t:=by have:=jm h.2;omega
     simp[dw,ec,eR,fc,a,c]
   repeat first|refine .z dA ?_|exact .ret dA
  .rw[show thr (.time b e) (t,k,v)=none from if_neg h];refine .yes ?_ (.ret dA);by_cases a:t<b
   .simp[dw,ec,eR,a]
   .cases e with
    |none=>simp[cN]at h;omega
    |some x=>
     have c:x<=t:=by simp[cN]at h;omega
     simp[dw,ec,eR,fc,a,c]
 |keys o l=>
  have W:=@zJ;have Y:=xK k l;have e:=ya k l;cases o<;>(refine .z dA ?_;by_cases c:k∈l)
  .rw[show thr (.keys false l) (t,k,v)=none from if_neg (by simp[cP,c])];exact .yes (by simp[dw,ec,ky,W,Y,e,c]) (.ret dA)
  .rw[show thr (.keys false l) (t,k,v)=some (t,k,v)from if_pos (by simp[cP,c])];refine .z (by simp[dw,ec,ky,W,Y,e,c]) ?_
   repeat first|refine .z dA ?_|exact .ret dA
  .rw[show thr (.keys true l) (t,k,v)=some (t,k,v)from if_pos (by simp[cP,c])];refine .z (by simp[dw,ec,oM,W,Y,e,c]) ?_
   repeat first|refine .z dA ?_|exact .ret dA
  .rw[show thr (.keys true l) (t,k,v)=none from if_neg (by simp[cP,c])];exact .yes (by simp[dw,ec,oM,Y,e,c]) (.ret dA)
 |span lo hi=>
  iterate 2 refine .z dA ?_
  by_cases a:eP lo v=true
  .refine .z (by cases lo<;>simp_all[dw,ec,eR,eP]) ?_;by_cases c:eO hi v=true
   .rw[show thr (.span lo hi) (t,k,v)=some (t,k,v)from if_pos ⟨a,c⟩];refine .z (by clear a;cases hi<;>simp_all[dw,ec,fc,eO]) ?_
    repeat first|refine .z dA ?_|exact .ret dA
   .rw[show thr (.span lo hi) (t,k,v)=none from if_neg λ h=>c h.2];exact .yes (by clear a;cases hi<;>simp_all[dw,ec,fc,eO]) (.ret dA)
  .rw[show thr (.span lo hi) (t,k,v)=none from if_neg λ h=>a h.1];exact .yes (by cases lo<;>simp_all[dw,ec,eR,eP]) (.ret dA)
 |rest m x=>
  refine lM (ok.rest m x rfl) λ Z i n s=>?_;have d:0<m:=by omega
  have f:¬m=0:=by omega
  iterate 4 refine .z dA ?_
  by_cases c:v%m=x
  .rw[show thr (.rest m x) (t,k,v)=some (t,k,v)from if_pos c];refine .z (by simp[dw,ec,eR,fc,f,nH d,c]) ?_
   repeat first|refine .z dA ?_|exact .ret dA
  .rw[show thr (.rest m x) (t,k,v)=none from if_neg c];exact .yes (by simp[dw,ec,eR,fc,f,nH d,c]) (.ret dA)
 |turn a b=>
  obtain⟨Z,i,n⟩:=ok.turn a b rfl;have j:gi a v=true:=uu aE;iterate 5 refine .z dA ?_
  exact .yes dA (.ret (by simp[dw,ec,eR,fc,j,thr,ko,lA]))
 |later c=>
  iterate 6 refine .z dA ?_
  exact .yes dA (.ret (by simp[dw,ec,Eb,thr,ko,lA]))
 |put tb=>
  obtain⟨Z,i,_⟩:=ok.put tb rfl;have e1:(tb.map λ p=>(p.1,D.str p.2)).map (·.1)=fst tb:=by rw[zu];rfl
  have g:sI (tb.map λ p=>.t [.str p.1,.str p.2]) (.str k) (.str k)=some (.str (fS tb k)):=by unfold sI;rw[Dc,dX];show aH (some k) _=_;rw[dX,if_pos ⟨by rw[qx];omega,by rw[e1];exact Z.nd⟩,ct5]
  iterate 7 refine .z dA ?_
  exact .yes dA (.ret (by simp[dw,ec,dT,g,thr,ko,lA]))
theorem Ml(ok:fg P up y)(h:∀z∈up,G z.n=q z.n):mu nm th G y=mu nm th q y:=by
 obtain⟨n,b,w⟩:=y;cases b with
 |one f r=>
  have:=ok.one f r rfl;grind [mu]
 |pour fs=>
  obtain⟨v,o,_⟩:=ok.pour fs rfl;show fs.flatMap G=fs.flatMap q;rw[List.flatMap_def,List.flatMap_def,List.map_congr_left (g:=q) (by grind)]
 |_=>rfl
theorem EC(h:gL P J)(nm:Str)(t0:0<=th.1):∀n,n<=J.length->∃G,lj (J.take n) nm th G
 |0,_=>⟨λ _=>[],by simp,by simp,by simp⟩
 |n+1,D=>by
  obtain⟨G,F⟩:=EC h nm t0 n aE;have hx:J[n]?=some J[n]:=zt aE;generalize J[n]=x at hx;have d:J.take (n+1)=J.take n++[x]:=by rw[Z3,hx];rfl
  have m:=h.new hx
  let Y:Str->List Th:=λ s=>if s=x.n then mu nm th G x else G s
  have O:∀y∈J.take n,Y y.n=G y.n:=λ y q=>if_neg (m y q);have ok:=h.ok n x hx;have e1:mu nm th Y x=mu nm th G x:=Ml ok O;have new:(∀z∈mu nm th G x,0<=z.1)/\(mu nm th G x).length<=x.w:=by
   obtain⟨E,xb,xw⟩:=x;cases xb with
   |inn lo hi=>
    have B:=(ok.inn lo hi rfl).2.2.2;unfold mu;dsimp only at B⊢;split
    .grind
    .grind
   |oth=>exact⟨λ z a=>(by cases a),ym _⟩
   |one f r=>
    obtain⟨p,y,q,e,A,_⟩:=ok.one f r rfl;subst e;refine⟨λ z a=>?_,qy (List.length_filterMap_le ..) (qy (F.w y q) A)⟩;obtain⟨u,k,g⟩:=List.mem_filterMap.mp a;exact vB p (F.t0 y q u k) g
   |pour fs=>
    obtain⟨v,o,t⟩:=ok.pour fs rfl;refine⟨λ z a=>?_,qy (Dg fs λ f Z=>?_) t⟩
    .obtain⟨f,Z,a⟩:=List.mem_flatMap.mp a;refine a_ (o f Z) λ y q e _=>?_;exact F.t0 y q z (by rw[e];exact a)
    .refine cZ (o f Z) λ y q e l _=>?_;rw[<-e];exact qy (F.w y q) l
  refine⟨Y,λ y q=>?_,λ y q z a=>?_,λ y q=>?_⟩<;>rw[d,Yn]at q<;>rcases q with q|q
  .obtain⟨j,C,c⟩:=kN q;rw[O y q,F.eq y q];exact Ml (h.ok j y c) λ z a=>(O z (by
    obtain⟨i,hi,b⟩:=kN a;exact List.mem_iff_getElem?.mpr ⟨i,by rw[Qw,if_pos aE];exact b⟩)).symm
  .grind
  .rw[O y q]at a;exact F.t0 y q z a
  .grind
  .rw[O y q];exact F.w y q
  .grind
abbrev el(z:Th):D:=lA z.1 z.2.1 z.2.2
abbrev lT(l:List Th):D:=.l (l.map el)
noncomputable abbrev fD{α:Type}(f:Str->D)(q:List α)(nm:α->Str):ey:=q.map λ x=>(nm x,f (nm x))
theorem Nd(h:∃x∈q,x.n=k):cf k (fD f q Row.n)=some (f k):=by induction q<;>grind [cf]
theorem ZC(h:k∉aO.map (·.1)):cf k aO=none:=by induction aO<;>grind [cf]
theorem MT(h:k∉aO.map (·.1))(d:D):nJ k d aO=aO++[(k,d)]:=by grind [nJ,ZC]
theorem MI(h:k∉aO.map (·.1))(d d':D):cf k (aO++[(k,d')])=some d'/\jE k d (aO++[(k,d')])=aO++[(k,d)]:=by induction aO<;>grind [cf,jE]
theorem Dq(h:k∉aO.map (·.1))(d d':D):nJ k d (aO++[(k,d')])=aO++[(k,d)]:=by have:=MI h d d';grind [nJ]
theorem cr2(h:cf k aO=some d):cf k (aO++[(k',d')])=some d:=by induction aO<;>grind [cf]
theorem M5(q J:D)(ok:gy P r):∀l:List Th,d4 dP (eF qa (aC (eV 1) gv)) [.i (dY q J r)] (l.map el)=some (l.map λ z=>ko (thr r z))
 |[]=>rfl
 |z::l=>by
  have O:=M5 q J ok l;have e:=ck7 q J ok z.1 z.2.1 z.2.2;rw[zc,lR];have t:dP [.i (el z),.i (dY q J r)]=some (true,[.i (el z),.i (dY q J r)]):=rfl;have f:eF qa (aC (eV 1) gv) [.i (el z),.i (dY q J r)]=some (ko (thr r z),[.i (el z),.i (dY q J r)]):=by simp[e]
  rw[t,lU,f,lS,O,nv,zc]
theorem M_(r:Rw):∀l:List Th,d4 (tB oj) (eV 0) [] (l.map λ z=>ko (thr r z))=some ((l.filterMap (thr r)).map el)
 |[]=>rfl
 |z::l=>by
  have q:=M_ r l;rw[zc,lR,List.filterMap_cons];cases e:thr r z with
  |none=>
   have t:tB oj [.i (ko none)]=some (false,[.i (ko none)]):=rfl;rw[t,sv,q]
  |some y=>
   have t:tB oj [.i (ko (some y))]=some (true,[.i (ko (some y))]):=rfl;have f:eV 0 [.i (ko (some y))]=some (el y,[.i (ko (some y))]):=rfl;rw[t,lU,f,lS,q,nv];rfl
theorem cK5:bW (aF ⟨n,.pour fs,w⟩) (.int 0)=some (.str "pour")∧bW (aF ⟨n,.pour fs,w⟩) (.int 1)=some (.str n)∧bW (aF ⟨n,.pour fs,w⟩) (.int 2)=some (.t (fs.map .str)):=⟨rfl,rfl,rfl⟩
theorem cK6:bW (aF ⟨n,.one f r,w⟩) (.int 0)=some (.str (dw r))/\bW (aF ⟨n,.one f r,w⟩) (.int 1)=some (.str n)/\bW (aF ⟨n,.one f r,w⟩) (.int 2)=some (.t [.str f]):=⟨rfl,rfl,rfl⟩
theorem cK7:bW (aF ⟨n,.inn lo hi,w⟩) (.int 0)=some (.str "in")∧bW (aF ⟨n,.inn lo hi,w⟩) (.int 1)=some (.str n)∧bW (aF ⟨n,.inn lo hi,w⟩) (.int 3)=some (.t [dO lo,dO hi]):=⟨rfl,rfl,rfl⟩
theorem MU(Z:n∉aO.map (·.1))(hl:aO.length<90)(wk nm th q O:Sl)(h1:bW (match q with| .i d=>d|_=>.n) (.int 1)=some (.str n))(hi:∃d,q=.i d):∀(fs:aM)(acc:List Th)(Y:Sl),(∀f∈fs,cf f aO=some (lT (G f))/\(G f).length<=v)->acc.length+fs.length*v<=900->∃J,c4 (gN 5) uq (fs.map .str) [wk,nm,th,.o false (.d (aO++[(n,lT acc)])),q,Y,O]=some (.nx [wk,nm,th,.o false (.d (aO++[(n,lT (acc++fs.flatMap G))])),q,J,O])
 |[],acc,Y,_,_=>⟨Y,by rw[yj,Ab,Ji,yd]⟩
 |f::fs,acc,Y,h,i=>by
  obtain⟨rd,rfl⟩:=hi;obtain⟨e1,l⟩:=h f (qg ..);rw[zg,Nat.succ_mul]at i;obtain⟨J,e⟩:=MU Z hl wk nm th (.i rd) O h1 ⟨rd,rfl⟩ fs (acc++G f) (.i (.str f)) (λ g c=>h g (qh _ c)) (by rw[zm];lia);refine⟨J,?_⟩;have h1:=h1;have a:=(MI Z (lT acc) (lT acc)).1;have b:=cr2 (k':=n) (d':=lT acc) e1;have k:=Dq Z (.l (acc.map el++(G f).map el)) (lT acc);have sz:acc.length+(G f).length<=sizeLine:=eY aE;have j:aO.length+1<100:=aE;rw[zc,iP];show iC _ _ _ (some [wk,nm,th,.o false (.d (aO++[(n,lT acc)])),.i rd,.i (.str f),O])=_;have st:uq [wk,nm,th,.o false (.d (aO++[(n,lT acc)])),.i rd,.i (.str f),O]=some (.nx [wk,nm,th,.o false (.d (aO++[(n,lT (acc++G f))])),.i rd,.i (.str f),O]):=by simp[uq,h1,a,b,sz,j,k]
  rw[jB,st,iQ,e,Z5,Q3]
abbrev g7(G:Str->List Th)(q:de):ey:=fD (λ n=>lT (G n)) q Row.n
theorem cn7(h:gL P q)(hw:∀x∈q,x.w<=125)(hl:q.length<=24)(F:lj q nm th G)(hx:q[i]?=some x)(hc:gG x.b=true)(wk s5 Z:Sl):∃Y aa,tF [wk,.i (.str nm),.i (el th),.o false (.d (g7 G (q.take i))),.i (aF x),s5,Z]=some (.nx [wk,.i (.str nm),.i (el th),.o false (.d (g7 G (q.take i)++[(x.n,lT (G x.n))])),.i (aF x),Y,aa]):=by
 have ok:=h.ok i x hx;have B:=zf hx;have E:=hw x B;have eq:=F.eq x B;have k:x.n∉(g7 G (q.take i)).map (·.1):=λ A=>by
  rw[zu]at A;refine bE (lC.mp A) λ y O e=>?_;exact h.new hx y O e
 have I:(g7 G (q.take i)).length<=24:=by rw[qx,jd];lia
 generalize M:g7 G (q.take i)=aO at k I;have u:∀y∈q.take i,cf y.n aO=some (lT (G y.n)):=λ y O=>by rw[<-M];exact Nd ⟨y,O,rfl⟩
 have m:=λ d=>MT k d;have D:=λ d H=>Dq k d H;have k1:aO.length<100:=aE;have k2:aO.length+1<100:=aE;obtain⟨J,xb,xw⟩:=x;cases xb with
 |oth=>cases hc
 |inn lo hi=>
  refine gU (@cK7 J lo hi xw) λ a g _=>?_;refine⟨s5,Z,?_⟩;rw[eq];unfold mu;by_cases c:J=nm
  .subst c;simp[tF,a,g,m,D,k1,k2]
  .simp[tF,a,g,m,D,k1,k2,c]
 |one f r=>
  refine gU (@cK6 J f r xw) λ a g s=>?_;obtain⟨p,y,O,e,_⟩:=ok.one f r rfl;have t:=u y O;rw[e]at t;have N:d4 dP (eF qa (aC (eV 1) gv)) [.i (aF ⟨J,.one f r,xw⟩)] ((G f).map el)=_:=M5 (.str J) (.t [.str f]) p (G f);have Q:=M_ r (G f);have gl:(G f).length<=sizeLine:=eY (by
   refine bE (kN O) λ j σ o=>?_;have:=F.w y (zf o);rw[e]at*;lia)
  refine⟨s5,.i (.l ((G f).map λ z=>ko (thr r z))),?_⟩;rw[eq];show _=some (jC.nx [wk,.i (.str nm),.i (el th),.o false (.d (aO++[(J,lT ((G f).filterMap (thr r)))])),_,_,_]);simp[tF,a,g,s,Ct r,Bs r,Eb,t,N,Q,gl,m,k1]
 |pour fs=>
  refine gU (@cK5 J fs xw) λ a g s=>?_;refine bE (ok.pour fs rfl) λ v p C=>?_;have E:=E;have C:=C;obtain⟨Y,e⟩:=MU k aE wk (.i (.str nm)) (.i (el th)) (.i (aF ⟨J,.pour fs,xw⟩)) Z rfl ⟨_,rfl⟩ fs [] s5 (λ f K=>by
   refine cZ (p f K) λ y O e l _=>?_;rw[<-e];refine bE (kN O) λ j σ o=>?_;exact⟨u y O,qy (F.w y (zf o)) l⟩) (by rw[jb];lia)
  refine⟨Y,Z,?_⟩;rw[eq];show _=some (jC.nx [wk,.i (.str nm),.i (el th),.o false (.d (aO++[(J,lT (fs.flatMap G))])),_,_,_]);rw[Zl]at e;have e:c4 (gN 5) uq (fs.map .str) [wk,.i (.str nm),.i (el th),.o false (.d (aO++[(J,.l [])])),.i (aF ⟨J,.pour fs,xw⟩),s5,Z]=_:=e;simp[a,g,s,yX,m,k1,e]
theorem M0(h:gL P q)(hw:∀x∈q,x.w<=125)(hl:q.length<=24)(hc:∀x∈q,gG x.b=true)(F:lj q nm th G)(wk:Sl):∀(m i:Nat)(Y J O:Sl),i+m=q.length->∃Z ac aa,c4 (gN 4) tF ((q.drop i).map aF) [wk,.i (.str nm),.i (el th),.o false (.d (g7 G (q.take i))),Y,J,O]=some (.nx [wk,.i (.str nm),.i (el th),.o false (.d (g7 G q)),Z,ac,aa])
 |0,i,Y,J,O,e=>⟨Y,J,O,by rw[Yi aE,j6 aE];rfl⟩
 |m+1,i,Y,J,O,e=>by
  have hx:q[i]?=some q[i]:=zt aE;obtain⟨c,d,st⟩:=cn7 h hw hl F hx (hc _ (Zc ..)) wk J O;refine pq (M0 h hw hl hc F wk m (i+1) (.i (aF q[i])) c d aE) λ f g j go=>?_;refine⟨f,g,j,?_⟩;rw[jf aE,zc,iP];show iC _ _ _ (some [wk,.i (.str nm),.i (el th),.o false (.d (g7 G (q.take i))),.i (aF q[i]),J,O])=_;rw[jB,st,iQ];have a:g7 G (q.take (i+1))=g7 G (q.take i)++[(q[i].n,lT (G q[i].n))]:=by show(q.take (i+1)).map _=_;rw[Z3,hx,zx];rfl
  rw[<-a];exact go
theorem ML(h:gL P q)(Y:∀x∈q,x.w<=125)(O:q.length<=24)(J:∀x∈q,gG x.b=true)(F:lj q nm th G):rj [.l (q.map aF),.str nm,el th]=some (.d (g7 G q)):=by
 refine pq (M0 h Y O J F (.i (.l (q.map aF))) q.length 0 .z .z .z aE) λ Z a c go=>?_;rw[Q4,List.take_zero,show g7 G []=[]from rfl]at go;simp[rj,IT,go]
theorem cy9(c:St.Canon s)(h:∀w,St.mem s w->w=v):s=⟨some v,some v,1,0⟩:=by
 obtain⟨w,q⟩:=c.some;cases h w q;have d:s.st=1:=by
  rcases c.two with z|⟨x,h1,h2⟩
  .exact z
  .have a:=h _ h1;have b:=h _ h2;have:=c.pos;lia
 have e1:s.lo=some v:=by
  cases e:s.lo with
  |none=>have:=h _ (c.down q λ l z=>by rw[e]at z;simp at z);lia
  |some l=>rw[h l (c.memLo e)]
 have e2:s.hi=some v:=by
  cases e:s.hi with
  |none=>have:=h _ (c.up q λ l z=>by rw[e]at z;simp at z);lia
  |some l=>rw[h l (c.memHi e)]
 have r0:=c.r0;have r1:=c.r1;obtain⟨lo,hi,st,re⟩:=s;cases d;subst e1;subst e2;have r0:0<=re:=r0;have r1:re<1:=r1;have:re=0:=aE;rw[this];rfl
theorem cu9(hx:fB x=true)(h:fL F x=some ks):sG F [.l [x]]=some x:=by show(if List.all [x] fB=true then c9 F none [x]else none)=_;rw[if_pos (by simp[hx])];show aH (fL F x) _=_;rw[h,dX];rfl
theorem cy8(v:Int):wL [dS ⟨some v,some v,1,0⟩]=some (.int v):=by
 have q:uQ [.l [.int v]]=some (.int v):=by have:=cu9 (F:=cH (aC (eF kM gv) G1)) (x:=.int v) rfl (ks:=[.int v.natAbs,.int (-v)]) (by simp[fL,fB]);simp[uQ,MG,this]
 have Y:∀x:Int,x%1=0:=λ x=>by lia
 have h1:St.between ⟨some v,some v,1,0⟩ (some 0) none=if 0<=v then some ⟨some v,some v,1,0⟩else none:=by
  by_cases c:0<=v
  .have:¬v<0:=aE;have:=aE;simp[*,St.between,St.lowB,St.uppB,St.made,St.made2,St.first,St.last,Y]
  .have:=aE;have:v<0:=aE;simp[*,St.between,St.lowB,St.uppB,St.made,St.made2,St.first,St.last,Y]
 have h2:St.between ⟨some v,some v,1,0⟩ none (some (-1))=if 0<=v then none else some ⟨some v,some v,1,0⟩:=by
  by_cases c:0<=v
  .have:-1<v:=aE;have:=aE;simp[*,St.between,St.lowB,St.uppB,St.made,St.made2,St.first,St.last,Y]
  .have:¬-1<v:=aE;simp[*,St.between,St.lowB,St.uppB,St.made,St.made2,St.first,St.last,Y]
 have J:=Dp ⟨some v,some v,1,0⟩ (some 0) none;have O:=Dp ⟨some v,some v,1,0⟩ none (some (-1));rw[h1]at J;rw[h2]at O;by_cases c:0<=v
 .simp only[c,if_true,iT,dO,dS]at J O;simp[wL,BI,wG,BG,wF,BA,J,O,og,vm,q]
 .simp only[c,if_false,iT,dO,dS]at J O;simp[wL,BI,wG,BG,wF,BA,J,O,og,vm,q]
abbrev oR:FE:=cH (aC (eF iF gv) gv)
theorem Nb(h:k.length<=300):fL oR (.str k)=some [.int k.length,.str k]:=by have sz:k.length<=sizeLine:=eY aE;simp[fL,fB,sz]
theorem ED:∀(ts:aM)(b:Str),(∀k∈ts,k.length<=300)->∃k,k∈b::ts/\c9 oR (some (.str b,[.int b.length,.str b])) (ts.map .str)=some (.str k)
 |[],b,_=>⟨b,qg ..,rfl⟩
 |x::ts,b,q=>by
  have st:c9 oR (some (.str b,[.int b.length,.str b])) (.str x::ts.map .str)=c9 oR (some (if eK [.int x.length,.str x] [.int b.length,.str b]=true then(.str x,[.int x.length,.str x])else(.str b,[.int b.length,.str b]))) (ts.map .str):=by show aH (fL oR (.str x)) _=_;rw[Nb (q x (List.mem_cons_self ..)),dX];rfl
  have q:=λ k J=>q k (qh x J);rw[zc,st];by_cases c:eK [.int x.length,.str x] [.int b.length,.str b]=true
  .obtain⟨k,h,e⟩:=ED ts x q;exact⟨k,qh _ h,by rw[if_pos c,e]⟩
  .obtain⟨k,h,e⟩:=ED ts b q;exact⟨k,by grind,by rw[if_neg c,e]⟩
theorem cv1(h:ts≠[])(q:∀k∈ts,k.length<=300):∃k,k∈ts/\sG oR [.l (ts.map .str)]=some (.str k):=by
 cases ts with
 |nil=>exact absurd rfl h
 |cons a ts=>
  obtain⟨k,h,e⟩:=ED ts a λ k O=>q k (qh _ O);refine⟨k,h,?_⟩;show(if List.all ((a::ts).map D.str) fB=true then c9 oR none ((a::ts).map .str)else none)=_;have J:List.all ((a::ts).map D.str) fB=true:=by simp[fB]
  rw[if_pos J];show aH (fL oR (.str a)) _=_;rw[Nb (q a (List.mem_cons_self ..)),dX];exact e
theorem Nj(d:D)(hd:∃l,d=.c [] l):∀ts:aM,d4 (tB xo) (eV 0) [.i d] (ts.map .str)=some (ts.map .str)
 |[]=>rfl
 |k::ts=>by
  have q:=Nj d hd ts;obtain⟨l,rfl⟩:=hd;have t:tB xo [.i (.str k),.i (.c [] l)]=some (true,[.i (.str k),.i (.c [] l)]):=by simp[cf]
  have f:eV 0 [.i (.str k),.i (.c [] l)]=some (D.str k,[.i (.str k),.i (.c [] l)]):=rfl;rw[zc,lR,t,lU,f,lS,q,nv]
theorem ce8(h:ts≠[])(J:ts.length<=10)(q:∀k∈ts,k.length<=300):∃k,k∈ts/\xV [KK true ts,.l []]=some (.str k):=by obtain⟨k,q,e⟩:=cv1 h q;have g:=Nj (.c [] []) ⟨_,rfl⟩ ts;have sz:ts.length<=sizeLine:=eY aE;refine⟨k,q,?_⟩;simp[xV,IU,KK,oM,eR,fc,Ab,ma,g,sz,e]
theorem ZJ{P:aM}(h:∀x∈fst tb,x∈P)(q:fS tb k∈P):k∈P:=by
 by_cases c:k∈fst tb
 .exact h k c
 .rw[show fS tb k=k from C1 c]at q;exact q
theorem ZO(ok:gy P r)(e:thr r x=some y)(h:y.2.1∈P):x.2.1∈P:=by
 obtain⟨t,k,v⟩:=x;cases r with
 |put tb=>obtain rfl:=aW e;exact ZJ (ok.put tb rfl).1.sub h
 |turn a b=>obtain rfl:=aW e;exact h
 |later c=>obtain rfl:=aW e;exact h
 |time b q=>obtain⟨_,e⟩:=bM e;subst e;exact h
 |keys o l=>obtain⟨_,e⟩:=bM e;subst e;exact h
 |span lo hi=>obtain⟨_,e⟩:=bM e;subst e;exact h
 |rest m x=>obtain⟨_,e⟩:=bM e;subst e;exact h
theorem ZN(ok:gy P r)(e:thr r x=some y)(q:thr r x'=some J)(h:y.2.2=J.2.2):x.2.2=x'.2.2:=by
 obtain⟨t,k,v⟩:=x;obtain⟨f,d,O⟩:=x';cases r with
 |turn a b=>
  obtain rfl:=aW e;obtain rfl:=aW q;have h:a*v+b=a*O+b:=h;have h:a*v=a*O:=aE;exact Int.eq_of_mul_eq_mul_left (ok.turn a b rfl).1 h
 |put tb=>obtain rfl:=aW e;obtain rfl:=aW q;exact h
 |later c=>obtain rfl:=aW e;obtain rfl:=aW q;exact h
 |time b Y=>obtain⟨_,e⟩:=bM e;obtain⟨_,q⟩:=bM q;subst e;subst q;exact h
 |keys o l=>obtain⟨_,e⟩:=bM e;obtain⟨_,q⟩:=bM q;subst e;subst q;exact h
 |span lo hi=>obtain⟨_,e⟩:=bM e;obtain⟨_,q⟩:=bM q;subst e;subst q;exact h
 |rest m x=>obtain⟨_,e⟩:=bM e;obtain⟨_,q⟩:=bM q;subst e;subst q;exact h
structure Fw(P:aM)(S:Sm):Prop where
 k:∀t k v,0<=t->S t k v=true->k∈P
 v:∀t k v t' k' v',0<=t->0<=t'->S t k v=true->S t' k' v'=true->v=v'
theorem Fw.sub(f:Fw P S)(h:∀t k v,0<=t->Y t k v=true->S t k v=true):Fw P Y:=
 ⟨λ t k v a q=>f.k t k v a (h t k v a q),λ t k v c b O a J q Z=>f.v t k v c b O a J (h t k v a q) (h c b O J Z)⟩
theorem ES(h:tM r S t k v=true):∃y,thr r (t,k,v)=some y/\S y.1 y.2.1 y.2.2=true:=by
 unfold tM at h;cases e:thr r (t,k,v)with
 |none=>rw[e]at h;cases h
 |some y=>rw[e]at h;exact⟨y,rfl,h⟩
theorem Fw.thr(ok:gy P r)(f:Fw P S):Fw P (tM r S)where
 k:=λ t k v a q=>by
  obtain⟨y,e,q⟩:=ES q;exact ZO ok e (f.k _ _ _ (vB ok a e) q)
 v:=λ t k v c b d a J q O=>by
  obtain⟨y,e,q⟩:=ES q;obtain⟨Z,Y,O⟩:=ES O;exact ZN ok e Y (f.v _ _ _ _ _ _ (vB ok a e) (vB ok J Y) q O)
theorem EH(h:gL P O):∀(n:Nat)(x:Row)(S:Sm)(σ:jT),x∈O->Wy O n x S σ->Fw P S->∀p∈σ,Fw P (bR p.2)
 |0,_,_,_,_,w,_=>w.elim
 |n+1,⟨b,.inn lo hi,xw⟩,S,σ,hx,w,f=>by
  intro p J;rcases w with⟨rfl,_⟩|⟨m,rfl,d,_⟩
  .simp at J
  .cases qv J;exact f.sub λ t k v a q=>by
    rw[d t k v a,ze]at q;exact q.2
 |n+1,⟨b,.one g r,xw⟩,S,σ,hx,w,f=>by
  obtain⟨y,Y,_,c,e,w⟩:=w;obtain⟨i,hi⟩:=List.mem_iff_getElem?.mp hx;have ok:=((h.ok i _ hi).one g r rfl).1;exact EH h n y c σ Y w ((f.thr ok).sub λ t k v a q=>by rw[<-e t k v a];exact q)
 |n+1,⟨b,.pour fs,xw⟩,S,σ,hx,w,f=>by
  obtain⟨G,rfl,w⟩:=w;intro p J;obtain⟨g,Z,J⟩:=List.mem_flatMap.mp J;refine a_ (w g Z) λ y Y _ w=>?_;exact EH h n y S _ Y w f p J
 |n+1,⟨b,.oth _ _ _,xw⟩,S,σ,hx,w,_=>w.elim
noncomputable def kW(x:Th):Bx:=⟨true,[x.2.1],x.1,some (x.1+1),⟨some x.2.2,some x.2.2,1,0⟩⟩
theorem zK(x:Th)(t:Int)(k:Str)(v:Int):bR (kW x) t k v=decide ((t,k,v)=x):=by
 obtain⟨a,b,q⟩:=x;rw[hx];by_cases h1:t=a
 .by_cases h2:k=b
  .by_cases J:v=q
   .subst h1;subst h2;subst J;have:t<t+1:=aE;simp[kW,kL,cN,dg,eP,eO,this]
   .have:=aE;simp[kW,kL,cN,dg,eP,eO,J];lia
  .simp[kW,kL,h2]
 .have:¬(a<=t/\t<a+1):=aE;have:(decide (a<=t)&&decide (t<a+1))=false:=by rw[<-Jj,ze,yf,yf];exact this
  show(decide (a<=t)&&decide (t<a+1)&&cP _ _ k&&dg _ v)=_;rw[this];simp[h1]
theorem cq3(h:x.2.1∈P):Fw P (bR (kW x))where
 k:=λ t k v _ q=>by
  rw[zK,yf]at q;rw[<-q]at h;exact h
 v:=λ t k v b a O _ _ q J=>by
  rw[zK,yf]at q J;grind
theorem cv0(O:x.2.1∈P)(t0:0<=x.1)(q:x.2.2.natAbs<=A)(Y:1<=B):gz P A B (kW x)where
 k:=⟨⟨jv ..,λ k z=>by cases qv z;exact O⟩,jv ..⟩
 t0:=t0
 te:=λ e z=>by obtain rfl:=aW z;show x.1<x.1+1;lia
 c:={
  pos:=by show(0:Int)<1;decide
  r0:=by show(0:Int)<=0;decide
  r1:=by show(0:Int)<1;decide
  lo:=λ l e=>by obtain rfl:=aW e;show x.2.2%1=0;lia
  hi:=λ l e=>by obtain rfl:=aW e;show x.2.2%1=0;lia
  lh:=λ a b e J=>by obtain rfl:=aW e;obtain rfl:=aW J;exact .inr ⟨rfl,rfl,rfl⟩}
 bb:=⟨Y,λ l e=>by obtain rfl:=aW e;exact q,λ l e=>by obtain rfl:=aW e;exact q⟩
 ke:=⟨x.2.1,by rw[show(kW x).o=true from rfl,kL];exact zk (List.mem_singleton.mpr rfl)⟩
theorem XH(t0:0<=x.1):uv [el x]=some (dB (kW x)):=by
 obtain⟨t,k,v⟩:=x;have t0:=t0;have q:=pf (some v) (some v) 1 0;have Y:∀x:Int,x%1=0:=λ x=>by lia
 have e:St.made (some v) (some v) 1 0=some ⟨some v,some v,1,0⟩:=by simp[St.made,St.made2,St.first,St.last,Y]
 rw[e]at q;have J:=mh true [k] t (some (t+1)) ⟨some v,some v,1,0⟩;have O:fM true [k] t (some (t+1)) ⟨some v,some v,1,0⟩=some (kW (t,k,v)):=by unfold fM kW;have z:(if 0>t then 0 else t)=t:=if_neg aE;dsimp only;rw[z,if_neg aE]
 rw[O]at J;simp only[dO,iT,dS,KK,oM,List.map]at q J;simp[uv,ID,lA,ZZ,ZY,ZX,q,J,ek]
theorem cv5(g:gz P A B b)(f:Fw P (bR b)):∃v,b.o=true/\b.ts≠[]/\b.s=⟨some v,some v,1,0⟩:=by
 obtain⟨v,Y⟩:=g.c.some;obtain⟨k,J⟩:=g.ke;have e0:cN b.en b.bg=true:=by
  cases e:b.en with
  |none=>rfl
  |some x=>exact zk (g.te x e)
 have O:∀k v,cP b.o b.ts k=true->St.mem b.s v->bR b b.bg k v=true:=λ k v h1 h2=>by rw[hx,zk (yp _),e0,h1,bQ.mpr h2];rfl
 have Z:b.o=true:=by
  cases e:b.o with
  |true=>rfl
  |false=>
   obtain⟨a,q⟩:=xh (b.ts++P);rw[Yn]at q;have:=f.k b.bg a v g.t0 (O a v (by rw[e,nu];simp[show a∉b.ts from λ z=>q (.inl z)]) Y);exact absurd (.inr this) q
 refine⟨v,Z,λ z=>?_,cy9 g.c λ w d=>f.v _ _ _ _ _ _ g.t0 g.t0 (O k w J d) (O k v J Y)⟩;rw[Z,z,kL]at J;simp at J
theorem cj2(hP:P.length<=10)(hl:∀k∈P,k.length<=300)(g:gz P A B b)(f:Fw P (bR b)):∃x:Th,uD [dB b]=some (el x)/\lr b x=true/\x.1=b.bg:=by
 refine a_ (cv5 g f) λ v h1 h2 Z=>?_;obtain⟨k,a,e⟩:=ce8 h2 (qy g.k.len hP) λ k z=>hl k (g.k.sub k z);have q:=cy8 v;have J:=sj b;have Y:=si b;have O:=sh b;rw[h1]at J;rw[Z]at O;have e0:cN b.en b.bg=true:=by
  cases e:b.en with
  |none=>rfl
  |some x=>exact zk (g.te x e)
 refine⟨(b.bg,k,v),?_,?_,rfl⟩
 .simp only[uD,JU];generalize dB b=db at J Y O⊢;generalize KK true b.ts=kk at J e;generalize dS ⟨some v,some v,1,0⟩=ss at O q;simp[J,Y,O,e,q,lA]
 .show bR b b.bg k v=true;have c:dg b.s v=true:=by rw[Z];simp[dg,eP,eO]
  rw[hx,zk (yp _),e0,h1,kL,zk a,c];rfl
noncomputable abbrev dct(aO:ey):D:=.c (aO.map (·.1)) (aO.map (·.2))
theorem pX:∀aO:ey,(aO.map (·.1)).zip (aO.map (·.2))=aO
 |[]=>rfl
 |q::r=>by rw[zc,zc,Qv,pX r]
structure uA(rs:de)(aO:ey):Prop where
 at_:∀z∈rs,mZ z.b=true->∃m:bZ,cf z.n aO=some (dO m)/\∀i,m=some i->0<=i
def Ca(q:de)(p:Str×Bx):Prop:=∃z∈q,z.n=p.1/\∃lo hi,z.b=.inn lo hi/\∀t k v,0<=t->bR p.2 t k v=true->(eP lo v&&eO hi v)=true
theorem cr1(J:x.b=.inn lo hi)(Y:St.OB lo (2^40))(o2:St.OB hi (2^40))(o3:∀a b,lo=some a->hi=some b->a<=b)(O:0<=m):∃b:Bx,m9 [aF x,.int m]=some (dB b)/\gz P (2^41) (2^11) b/\∀t k v,bR b t k v=(decide (m<=t)&&(eP lo v&&eO hi v)):=by
 refine cZ (Ce (P:=P) J Y o2 o3) λ s _ g h f=>?_;have q:=mh false [] m none s;have z:(if 0>m then 0 else m)=m:=if_neg aE;have d:fM false [] m none s=some ⟨false,[],m,none,s⟩:=by simp only[fM,z]
 rw[d]at q;refine⟨⟨false,[],m,none,s⟩,?_,⟨jM.nil P,O,(λ e z=>by simp at z),g.c,g.bb,kb,lD _⟩,λ t k v=>?_⟩
 .simp only[KK,ky,yj,o8]at q;have Z:bW (aF x) (.int 3)=some (.t [dO lo,dO hi]):=by obtain⟨n,b,w⟩:=x;subst J;rfl
  simp[m9,Dl,Z,eR,fc,h,q,ek]
 .rw[hx,lD,f];simp[cN]
theorem cz6(J:P.length<=10)(q:gz P (2^41) (2^11) a)(Y:lO P b):∃r:Option Bx,o9 [.l [dB a],dB b]=some (.l (r.toList.map dB))/\(∀t k v,kq r t k v=(bR a t k v&&bR b t k v))/\∀m,r=some m->gz P (2^450) (2^450) m:=by
 refine a_ (zO J vp (fJ aQ) vp (q.mono (fJ aQ) (qj _)) Y) λ r e h1 h2=>?_;have nb:gP (dB b)=false:=rfl;refine⟨r,?_,h1,λ m z=>(h2 m z).mono ?_ ?_⟩
 .have O:d4 dP (eF kX (aC (eV 0) kG)) [.i (dB b)] [dB a]=some [ek r]:=by
   rw[lR];have t:dP [.i (dB a),.i (dB b)]=some (true,[.i (dB a),.i (dB b)]):=rfl;have f:eF kX (aC (eV 0) kG) [.i (dB a),.i (dB b)]=some (ek r,[.i (dB a),.i (dB b)]):=by simp[e]
   rw[t,lU,f,lS];rfl
  have Z:d4 (tB oj) (eV 0) [] [ek r]=some (r.toList.map dB):=by
   rw[lR];cases r with
   |none=>
    have t:tB oj [.i (ek none)]=some (false,[.i (ek none)]):=rfl;rw[t,sv];rfl
   |some m=>
    have t:tB oj [.i (ek (some m))]=some (true,[.i (ek (some m))]):=rfl;have f:eV 0 [.i (ek (some m))]=some (dB m,[.i (ek (some m))]):=rfl;rw[t,lU,f,lS];rfl
  have c:1<=sizeLine:=eY aQ;generalize dB b=db,dB a=da,ek r=dr at*;simp[o9,C5,nb,O,Z,c]
 .have:2^441<=2^449:=fJ aQ
  lia
 .have:2^11*2^430=2^441:=by rw[<-Ze]
  rw[this];exact fJ aQ
noncomputable abbrev kB(n:Str)(x:Th):D:=.t [.str "thing",.str n,.int x.1,.str x.2.1,.int x.2.2]
theorem co7(h:Wk P rs)(hl:∀k∈P,k.length<=300)(M:uA rs aO)(g:lO P p.2)(sr:Ca rs p)(f:Fw P (bR p.2))(nm one:D)(s6:Sl):(∃U x m,mW [.i (.l (rs.map aF)),.i (dct aO),.i nm,.i one,.i (.str p.1),.i (dB p.2),s6]=some (.rt (kB p.1 x) U)/\cf p.1 aO=some (.int m)/\0<=m/\m<=x.1/\lr p.2 x=true)\/
  (∃ae,mW [.i (.l (rs.map aF)),.i (dct aO),.i nm,.i one,.i (.str p.1),.i (dB p.2),s6]=some (.nx [.i (.l (rs.map aF)),.i (dct aO),.i nm,.i one,.i (.str p.1),.i (dB p.2),ae]))/\∀m,cf p.1 aO=some (.int m)->∀x:Th,0<=x.1->m<=x.1->lr p.2 x=true->False:=by
 refine gn λ ρ σ=>?_;obtain⟨z,u,j,lo,hi,d,K⟩:=sr;obtain⟨i,o⟩:=List.mem_iff_getElem?.mp u;have Y:=Ov h.ok o;rw[j]at Y;have n:=qC z;rw[j]at n;refine lM ((h.ok.ok i z o).inn lo hi d) λ N Q R _=>?_;refine bE (M.at_ z u (by rw[d];rfl)) λ m Z c=>?_;refine σ ?_;rw[j]at Z;have A:=pX aO;cases m with
 |none=>
  have a:pF [aF z,dct aO]=some (.l []):=by simp[pF,Dk,n,A,Z]
  have nb:gP (dB p.2)=false:=rfl;have bm:o9 [.l [],dB p.2]=some (.l []):=by have C:d4 dP (eF kX (aC (eV 0) kG)) [.i (dB p.2)] []=some []:=rfl;have E:d4 (tB oj) (eV 0) [] []=some []:=rfl;generalize dB p.2=db at*;simp[o9,C5,nb,C,E]
  refine .inr ⟨⟨.i (.l []),?_⟩,λ m e=>by rw[Z]at e;simp at e⟩;generalize dB p.2=db at*;simp[mW,Y,a,bm]
 |some m=>
  have c:=c m rfl;refine a_ (cr1 (P:=P) d N Q R c) λ b e1 G s=>?_;refine a_ (cz6 h.hP G g) λ r J l I=>?_;have Z:=Z;have a:pF [aF z,dct aO]=some (.l [dB b]):=by simp[pF,Dk,n,A,Z,e1]
  cases r with
  |none=>
   refine .inr ⟨⟨.i (.l []),?_⟩,λ V e x S T O=>?_⟩
   .have J:=J;generalize dB p.2=db,dB b=da at*;simp[mW,Y,a,J]
   .rw[Z]at e;cases e;have q:=l x.1 x.2.1 x.2.2;rw[s,zk T,K _ _ _ S O,show bR p.2 x.1 x.2.1 x.2.2=true from O]at q;cases q
  |some q=>
   have J:o9 [.l [dB b],dB p.2]=some (.l [dB q]):=J;have H:=I q rfl;have F:Fw P (bR q):=f.sub λ t k v _ z=>by
    have:=l t k v;rw[show kq (some q) t k v=bR q t k v from rfl,z]at this;exact(Bool.and_eq_true_iff.mp this.symm).2
   refine a_ (cj2 h.hP hl H F) λ x ex O xb=>?_;have w:=l x.1 x.2.1 x.2.2;rw[show kq (some q) x.1 x.2.1 x.2.2=lr q x from rfl,O]at w;have w:=Bool.and_eq_true_iff.mp w.symm;have y:=w.1;rw[s,ze,yf]at y;have td:el x=.t [.int x.1,.str x.2.1,.int x.2.2]:=rfl;rw[td]at ex;refine .inl ⟨[.i (.l (rs.map aF)),.i (dct aO),.i nm,.i one,.i (.str p.1),.i (dB p.2),.i (.l [dB q])],x,m,?_,Z,c,y.1,w.2⟩;have B:dW [dB q] 0=some (dB q):=rfl;generalize dB p.2=db,dB b=da,dB q=dq at*;simp[mW,Y,a,J,B,ex]
theorem M3(h:Wk P J)(hl:∀k∈P,k.length<=300)(M:uA J aO)(nm one:D):∀(σ:jT)(s4 s5 O:Sl),(∀p∈σ,lO P p.2/\Ca J p/\Fw P (bR p.2))->(∃p∈σ,∃m,cf p.1 aO=some (.int m)/\∃x:Th,0<=x.1/\m<=x.1/\lr p.2 x=true)->∃p U x m,p∈σ/\c4 (gT [4,5]) mW (σ.map aX) [.i (.l (J.map aF)),.i (dct aO),.i nm,.i one,s4,s5,O]=some (.rt (kB p.1 x) U)/\cf p.1 aO=some (.int m)/\0<=m/\m<=x.1/\lr p.2 x=true
 |[],_,_,_,_,⟨_,i,_⟩=>by cases i
 |p::σ,s4,s5,O,H,E=>by
  refine gU (H p (qg ..)) λ g n f=>?_;have st:c4 (gT [4,5]) mW ((p::σ).map aX) [.i (.l (J.map aF)),.i (dct aO),.i nm,.i one,s4,s5,O]=qL (gT [4,5]) mW (σ.map aX) (mW [.i (.l (J.map aF)),.i (dct aO),.i nm,.i one,.i (.str p.1),.i (dB p.2),O]):=by rw[zc,iP];show iC _ _ _ (some [.i (.l (J.map aF)),.i (dct aO),.i nm,.i one,.i (.str p.1),.i (dB p.2),O])=_;rw[jB]
  rw[st];rcases co7 h hl M g n f nm one O with⟨U,x,m,e,q⟩|⟨⟨a,e⟩,q⟩
  .exact⟨p,U,x,m,qg ..,by rw[e,uY],q⟩
  .rw[e,iQ];obtain⟨l,U,x,m,j,go⟩:=M3 h hl M nm one σ (.i (.str p.1)) (.i (dB p.2)) a (λ y Y=>H y (qh _ Y)) (by
    obtain⟨y,Y,m,b,x,c,d,Z⟩:=E;rcases qt Y with rfl|Y
    .exact(q m b x c d Z).elim
    .exact⟨y,Y,m,b,x,c,d,Z⟩)
   exact⟨l,U,x,m,qh _ j,go⟩
def Rt(x:cC)(d:D)(o:MO):Prop:=∃t,x=some (.rt d (.o true o::t))
theorem Rt.seq(h:F U=some (.nx ρ'))(H:Rt (G ρ') d o):Rt (aR F G U) d o:=by obtain⟨t,e⟩:=H;exact⟨t,by rw[LG,h,K6,e]⟩
theorem Rt.z(h:T U=some (false,U))(H:Rt (B U) d o):Rt (aR (bX T A sN) B U) d o:=.seq (by simp[h]) H
theorem Rt.yes(h:T U=some (true,U))(H:Rt (A U) d o):Rt (aR (bX T A sN) B U) d o:=by obtain⟨t,e⟩:=H;exact⟨t,by simp[h,e]⟩
theorem Rt.fn(q:ds.length=n)(h:Rt (B (.o true o::(ds.map .i++List.replicate k .z))) d o'):jH n k B o ds=some (d,o'):=by obtain⟨t,e⟩:=h;simp[q,e]
theorem Nl(h:U[i]?=some (.i (.str x))):tB (e2 jF (eV i) (eC (.str y))) U=some (decide (x=y),U):=by simp[h]
theorem Rt.noS(h:U[i]?=some (.i (.str x)))(n:x≠y)(H:Rt (B U) d o):Rt (aR (bX (tB (e2 jF (eV i) (eC (.str y)))) A sN) B U) d o:=.z ((Nl h).trans (by rw[yv n])) H
theorem Rt.yesS(h:U[i]?=some (.i (.str x)))(n:x=y)(H:Rt (A U) d o):Rt (aR (bX (tB (e2 jF (eV i) (eC (.str y)))) A sN) B U) d o:=.yes ((Nl h).trans (by rw[zk n])) H
theorem Ii(c k:Int):∃r:Int,o7 [.int c,.int k]=some (.int r)/\0<=r/\r<2147483647:=by
 have a:∀x:Int,0<=Int.fmod x 2147483647/\Int.fmod x 2147483647<2147483647:=λ x=>⟨yu _ aQ,j7 _ aQ⟩
 have q:∀x:Int,gi x 48271=true:=λ x=>tK aQ;have J:gi 7919 k=true:=uu aQ;have O:∀x y:Int,gi (Int.fmod x 2147483647) y=true:=λ x y=>uu (by have:=a x;lia);have Y:lJ 1009=true:=xW aQ aQ;exact⟨_,by simp[o7,F6,q,J,O,Y];rfl,(a _).1,(a _).2⟩
theorem j_(hn:ns.length<=63)(h:dM ns o):∃(r:Int)(o':MO),eu o []=some (.int r,o')/\0<=r/\r<2147483647/\dM ns o':=by
 refine pA h λ wy l a nb kk c p m n=>?_;obtain rfl:=c;refine cM (GO ns wy nb kk .z .z 64 l a p m aE 200 aQ) λ J Z e O Y=>?_;by_cases f:0<J
 .have g:lJ 1000003=true:=xW aQ aQ;have i:=yu J (b:=1000003) aQ;have t:=j7 J (b:=1000003) aQ;have q:J.fdiv 1000003=J/1000003:=yo _ aQ;refine⟨J.fmod 1000003,.d (gC ns wy (J/1000003) Z nb kk),?_,i,by lia,wy,J/1000003,Z,nb,kk,rfl,Yo O aQ,Y,n⟩;simp[eu,wD,e,oY,f,g,q,uU,FQ]
 .obtain⟨x,ex⟩:=C0 ns (k:=kk+1) aE;refine bE (Ii (nb+x) (kk+1)) λ d e1 _=>?_;refine a_ (Ii d 7) λ s e2 h2 j=>?_;refine⟨s,.d (gC ns wy J Z d (kk+1)),?_,h2,j,wy,J,Z,d,kk+1,rfl,O,Y,by lia⟩;simp[eu,wD,e,oY,f,Np,Nq,vQ,uU,Oh,Oi,ex,e1,e2]
theorem eZ(x:Int)(h:0<m):0<=x.fmod m/\x.fmod m<m:=⟨yu _ h,j7 _ h⟩
theorem I2(fs:aM)(U:En):∀nm:aM,ku (tB (sf true (eV 0) 1)) (eV 0) U 3 [3] 0 (.l (fs.map .str)) (nm.map .str)=some ((nm.filter λ k=>!decide (k∈fs)).map .str,.l (fs.map .str))
 |[]=>rfl
 |k::r=>by
  have q:=I2 fs U r;have fr:mK U 3 (.l (fs.map .str)) [3]=some [.o true (.l (fs.map .str))]:=rfl;have ok:=xK k fs;have e:=ya k fs;have t:tB (sf true (eV 0) 1) [.i (.str k),.o true (.l (fs.map .str))]=some (!decide (k∈fs),[.i (.str k),.o true (.l (fs.map .str))]):=by simp[ok,e]
  rw[zc,By,fr,dX,t,dX];by_cases c:k∈fs
  .rw[zk c];show(if false=true then _ else aH (some (MO.l (fs.map .str))) _)=_;rw[if_neg bP,dX,q,Qy (by simp[c])]
  .rw[yv c];have f:eV 0 [.i (.str k),.o true (.l (fs.map .str))]=some (.str k,[.i (.str k),.o true (.l (fs.map .str))]):=rfl;show(if true=true then aH (eV 0 [.i (.str k),.o true (.l (fs.map .str))]) _ else _)=_;rw[if_pos rfl,f,dX];show aH (some (MO.l (fs.map .str))) _=_;rw[dX,q,dX,List.filter_cons_of_pos (by simp[c]),zc]
theorem W9{nm fs:aM}(nd:nm.Nodup)(J:fs.length<nm.length):(nm.filter λ k=>!decide (k∈fs))≠[]:=λ z=>by
 have h:=λ k q=>by
  have:=List.filter_eq_nil_iff.mp z k q;simpa using this
 have:=List.Nodup.length_le_of_subset nd h;lia
theorem RG(hn:ns.length<=63){nm:aM}(nd:nm.Nodup)(hl:nm.length<=20)(many:D)(i:Nat)(v:Int)(U:En)(hi:i<nm.length)(p:∃(o:MO)(fs:aM)(x4 J:Sl),dM ns o/\fs.length=i/\(fs.Nodup/\∀k∈fs,k∈nm)/\U=[.o true o,.i (.l (nm.map .str)),.i many,.o false (.l (fs.map .str)),x4,J]):∃O Z,gN 4 (.int v) U=some O/\Fe O=some (.nx Z)/\∃(o:MO)(fs:aM)(x4 J:Sl),dM ns o/\fs.length=i+1/\(fs.Nodup/\∀k∈fs,k∈nm)/\Z=[.o true o,.i (.l (nm.map .str)),.i many,.o false (.l (fs.map .str)),x4,J]:=by
 refine gn λ t m=>?_;obtain⟨o,fs,x4,J,l,j,⟨w,x⟩,rfl⟩:=p;refine cM (gb hn l) λ f e e1 y g=>?_;refine m ?_;have c:=I2 fs [.o true o,.i (.l (nm.map .str)),.i many,.o false (.l (fs.map .str)),.i (.int v),J] nm;have r:=W9 (fs:=fs) nd aE;have mem:∀a∈nm.filter (λ k=>!decide (k∈fs)),a∉fs:=λ a b=>by
  simpa using(List.mem_filter.mp b).2
 have q:∀a∈nm.filter (λ k=>!decide (k∈fs)),a∈nm:=λ a b=>(List.mem_filter.mp b).1;generalize nm.filter (λ k=>!decide (k∈fs))=left at c r mem q;have lp:0<left.length:=by grind
 have u:¬(left.length:Int)=0:=aE;have Y:¬left.length=0:=aE;have d:0<=f.fmod left.length/\f.fmod left.length<left.length:=⟨yu _ aE,j7 _ aE⟩;obtain⟨a,b,h⟩:=pH D.str left d.1 d.2;have n:nm.length<=sizeLine:=eY aE;have s:fs.length<1000000:=aE;refine⟨_,[.o true e,.i (.l (nm.map .str)),.i many,.o false (.l (fs.map .str++[.str a])),.i (.int v),.i (.l (left.map .str))],rfl,?_,e,fs++[a],.i (.int v),.i (.l (left.map .str)),g,by rw[zm,j];rfl,?_,?_⟩
 .simp[Fe,c,n,e1,Y,h,s]
 .grind
 .rw[zx];rfl
theorem F8(hn:ns.length<=63)(ho:dM ns o){nm:aM}(nd:nm.Nodup)(hl:nm.length<=20){m:Int}(m0:0<=m)(m1:m<=nm.length):∃(l:aM)(o':MO),qK o [.l (nm.map .str),.int m]=some (.l (l.map .str),o')/\l.length=m.toNat/\l.Nodup/\(∀k∈l,k∈nm)/\dM ns o':=by
 refine gn λ h d=>?_;obtain⟨g,a,Y,fs,J,O,q,j,⟨b,c⟩,rfl⟩:=BX (λ i U=>∃(o:MO)(fs:aM)(J O:Sl),dM ns o/\fs.length=i/\(fs.Nodup/\∀k∈fs,k∈nm)/\U=[.o true o,.i (.l (nm.map .str)),.i (.int m),.o false (.l (fs.map .str)),J,O]) m.toNat 0 0
  [.o true o,.i (.l (nm.map .str)),.i (.int m),.o false (.l []),.z,.z] (λ i v U hi p=>RG hn nd hl _ i v U aE p) ⟨o,[],.z,.z,ho,rfl,⟨Y4,λ k Z=>by simp at Z⟩,rfl⟩;refine d ?_
 have e:-4611686018427387904<=m:=aE;have f:m<4611686018427387904:=aE;refine⟨fs,Y,?_,by lia,b,c,q⟩;simp[qK,Hb,e,f,a]
theorem QI:(10:Int)^10=10000000000:=aQ
theorem Bz(q:ns.length<=63)(ho:dM ns o):∃(lo hi:bZ)(o':MO),vJ o []=some (.t [dO lo,dO hi],o')/\St.OB lo (2^40)/\St.OB hi (2^40)/\(∀a b,lo=some a->hi=some b->a<=b)/\dM ns o':=by
 refine ie (j_ q ho) λ c u e1 _ _ h1=>?_;refine ie (j_ q h1) λ d v e2 _ _ h2=>?_;refine ie (j_ q h2) λ r3 w e3 _ _ i=>?_;refine ie (j_ q i) λ Y y e4 _ _ j=>?_;refine ie (j_ q j) λ O p h _ _ k=>?_;have s:=eZ c (m:=41) aQ;have r:=eZ r3 (m:=40) aQ;have J:(10:Int).natAbs<2^64:=aQ;have n:gi (c.fmod 41-20) 10000000000=true:=tK aQ;have t:∀x:Int,-200000000000<=x->x<=200000000040->St.OB (some x) (2^40):=λ x a b l e=>by simp at e;rw[show(2:Nat)^40=1099511627776 from rfl];lia
 obtain⟨x,ex,z,A⟩:∃x:Int,(if d.fmod 5=1 then(c.fmod 41-20)*10000000000 else c.fmod 41-20)=x/\-200000000000<=x/\x<=200000000000:=⟨_,rfl,by split<;>lia,by split<;>lia⟩;refine⟨if O.fmod 4=1 then none else some x,if Y.fmod 4=1 then none else some (x+r3.fmod 40),p,?_,?_,?_,?_,k⟩
 .by_cases Z:d.fmod 5=1<;>by_cases f:Y.fmod 4=1<;>by_cases g:O.fmod 4=1<;>simp only[Z,if_true,if_false]at ex<;>simp[vJ,NG,e1,e2,e3,e4,h,Z,f,g,QI,n,ex]
 .split
  .exact λ l e=>by simp at e
  .grind
 .split
  .exact λ l e=>by simp at e
  .grind
 .grind
theorem BJ(a b c:Int)(q:0<=i)(h1:i<3):∃x,dW [.int a,.int b,.int c] i=some (.int x)/\(x=a\/x=b\/x=c):=by
 have:i=0\/i=1\/i=2:=aE;rcases this with rfl|rfl|rfl
 .exact⟨a,rfl,.inl rfl⟩
 .exact⟨b,rfl,.inr (.inl rfl)⟩
 .exact⟨c,rfl,.inr (.inr rfl)⟩
theorem Dm(h:0<=b/\∀x,e=some x->b<x):gy P (.time b e):=⟨λ _ _ z=>by cases z;exact h,d_,d_,d_,d_,λ _ z=>(by simp at z),λ _ z=>(by simp at z)⟩
theorem Dv(h:KPl P l/\l≠[]):gy P (.keys o l):=⟨d_,λ _ _ z=>by cases z;exact h,d_,d_,d_,λ _ z=>(by simp at z),λ _ z=>(by simp at z)⟩
theorem KG(h:St.OB lo (2^40)/\St.OB hi (2^40)/\∀a b,lo=some a->hi=some b->a<=b):gy P (.span lo hi):=⟨d_,d_,λ _ _ z=>by cases z;exact h,d_,d_,λ _ z=>(by simp at z),λ _ z=>(by simp at z)⟩
theorem IP(h:2<=m/\m<=2000/\0<=x/\x<m):gy P (.rest m x):=⟨d_,d_,d_,λ _ _ z=>by cases z;exact h,d_,λ _ z=>(by simp at z),λ _ z=>(by simp at z)⟩
theorem KD(h:a≠0/\a.natAbs<=1000/\b.natAbs<=1000):gy P (.turn a b):=⟨d_,d_,d_,d_,λ _ _ z=>by cases z;exact h,λ _ z=>(by simp at z),λ _ z=>(by simp at z)⟩
theorem UR(h:0<=c):gy P (.later c):=⟨d_,d_,d_,d_,d_,λ _ z=>by cases z;exact h,λ _ z=>(by simp at z)⟩
theorem Vz(h:KPl P (fst tb)/\tb.length<=4/\∀q∈tb,q.2∈P):gy P (.put tb):=⟨d_,d_,d_,d_,d_,λ _ z=>(by simp at z),λ _ z=>by cases z;exact h⟩
abbrev GR:FA:=aC (eV 0) (aC (e2 bW (eV 1) (e2 dZ (dU 2 eu aN) (zI 9))) aN)
theorem Js{ns:ed}(hn:ns.length<=63){J:aM}(hp:J.length=9){U:En}(h4:U[4]?=some (.i (.l (J.map .str)))):∀(ks:aM)(o:MO),dM ns o->∃(tb:Tb)(o':MO),ku dP (cH GR) U 0 [4,0] 1 o (ks.map .str)=some (tb.map (λ p=>.t [.str p.1,.str p.2]),o')/\fst tb=ks/\dM ns o'/\∀q∈tb,q.2∈J
 |[],o,a=>⟨[],o,rfl,rfl,a,λ q O=>by simp at O⟩
 |k::r,o,a=>by
  refine ie (j_ hn a) λ x Z e1 _ _ Y=>?_;refine ie (Js hn hp h4 r Z Y) λ tb i e b d j=>?_;have c:=eZ x (m:=9) aQ;obtain⟨y,h,g⟩:=pH D.str J c.1 (by rw[hp];exact c.2);refine⟨(k,y)::tb,i,?_,by unfold fst at b⊢;rw[zc,b],d,λ q O=>by
   rcases qt O with rfl|O
   .exact h
   .exact j q O⟩
  have fr:mK U 0 o [4,0]=some [.i (.l (J.map .str)),.o true o]:=by show aH (tL U[4]?) (λ s=>aH (aH (some (Sl.o true o)) λ s=>aH (some []) λ r=>some (s::r)) λ r=>some (s::r))=_;rw[h4];rfl
  have f:cH GR [.i (.str k),.i (.l (J.map .str)),.o true o]=some (.t [.str k,.str y],[.i (.str k),.i (.l (J.map .str)),.o true Z]):=by simp[e1,g]
  rw[zc,By,fr,dX];show aH (some (true,_)) _=_;rw[dX];show(if true=true then aH (cH GR [.i (.str k),.i (.l (J.map .str)),.o true o]) _ else _)=_;rw[if_pos rfl,f,dX];show aH (some Z) _=_;rw[dX,e,dX];rfl
abbrev A8:aM:=[wU,mx,my,wV,wW,wX,wY,wZ]
abbrev svQ(ns:ed)(o:MO)(P J:aM)(Y Z:D)(wd:Str):Prop:=∃(r:Rw)(o':MO),sF o [.str wd,Y,Z,.l (J.map .str)]=some (dY Y Z r,o')/\gy P r/\dM ns o'
theorem J3{ns:ed}(O:ns.length<=63){o:MO}(ho:dM ns o){J P:aM}(hp:J.length=9)(nd:J.Nodup)(aa:∀k∈J,k∈P)(Y Z:D)(wd:Str)(hw:wd∈A8):svQ ns o P J Y Z wd:=by
 have W:=@zJ;obtain⟨a,ρ,e1,_,_,h1⟩:=j_ O ho;have y:∀b:Bool,∃(r:Rw)(o':MO),sF o [.str (wO b),Y,Z,.l (J.map .str)]=some (dY Y Z r,o')/\gy P r/\dM ns o':=λ b=>by
  have T:=eZ a (m:=8) aQ;obtain⟨l,d,e2,u,M,v,h2⟩:=F8 O h1 nd aE (m:=1+a.fmod 8) aE aE;have n:l.length<=sizeLine:=eY aE;refine⟨.keys b l,d,?_,Dv ⟨⟨M,λ k t=>aa k (v k t)⟩,λ z=>by rw[z]at u;simp at u;omega⟩,h2⟩;cases b with
  |true=>exact Rt.fn (B:=l_) (k:=5) rfl (.noS rfl aQ (.yes dA ⟨_,by simp[W,oM,e1,e2,n,dY,dw,ec,List.replicate];rfl⟩))
  |false=>exact Rt.fn (B:=l_) (k:=5) rfl (.noS rfl aQ (.yes dA ⟨_,by simp[W,ky,e1,e2,n,dY,dw,ec,List.replicate];rfl⟩))
 simp only[y9,jw,Yv]at hw;rcases hw with rfl|rfl|rfl|rfl|rfl|rfl|rfl|rfl
 .obtain⟨g,d,e2,_,_,h2⟩:=j_ O h1;obtain⟨r3,h,e3,_,_,f⟩:=j_ O h2;have A:=eZ a (m:=40) aQ;have S:=eZ g (m:=40) aQ;by_cases c:r3.fmod 3=1
  .exact⟨.time (a.fmod 40) none,h,Rt.fn (B:=l_) (k:=5) rfl (.yesS rfl rfl ⟨_,by simp[e1,e2,e3,c,dY,dw,ec,List.replicate];rfl⟩),Dm ⟨A.1,λ x z=>by cases z⟩,f⟩
  .exact⟨.time (a.fmod 40) (some (a.fmod 40+1+g.fmod 40)),h,Rt.fn (B:=l_) (k:=5) rfl (.yesS rfl rfl ⟨_,by simp[e1,e2,e3,c,dY,dw,ec,List.replicate];rfl⟩),Dm ⟨A.1,λ x z=>by cases z;omega⟩,f⟩
 .exact y true
 .exact y false
 .obtain⟨lo,hi,d,e2,G,H,I,h2⟩:=Bz O ho;exact⟨.span lo hi,d,Rt.fn (B:=l_) (k:=5) rfl (.noS rfl aQ (.z dA (.yesS rfl rfl ⟨_,by simp[W,e2,dY,dw,ec,List.replicate];rfl⟩))),KG ⟨G,H,I⟩,h2⟩
 .obtain⟨g,d,e2,_,_,h2⟩:=j_ O h1;obtain⟨r3,h,e3,_,_,f⟩:=j_ O h2;have e:=eZ g (m:=3) aQ;obtain⟨x,ex,hx⟩:=BJ 4 4 999 e.1 e.2;have j:0<x:=by omega
  have i:¬x=0:=by omega
  have s:=eZ a j;have sz:¬(2+a.fmod x=0):=by omega
  have p:=eZ r3 (m:=2+a.fmod x) aE;exact⟨.rest (2+a.fmod x) (r3.fmod (2+a.fmod x)),h,Rt.fn (B:=l_) (k:=5) rfl (.noS rfl aQ (.z dA (.noS rfl aQ (.yesS rfl rfl ⟨_,by simp[W,e1,e2,e3,ex,i,sz,dY,dw,ec,List.replicate];rfl⟩)))),IP ⟨by omega,by omega,p.1,p.2⟩,f⟩
 .obtain⟨g,d,e2,_,_,h2⟩:=j_ O h1;obtain⟨r3,h,e3,_,_,f⟩:=j_ O h2;obtain⟨w,F,e4,_,_,C⟩:=j_ O f;have e:=eZ g (m:=3) aQ;obtain⟨x,ex,hx⟩:=BJ 3 3 1000 e.1 e.2;have j:0<x:=by omega
  have i:¬x=0:=by omega
  have s:=eZ a j;have R:=eZ w (m:=31) aQ;by_cases c:r3.fmod 2=1
  .exact⟨.turn (0-(1+a.fmod x)) (w.fmod 31-15),F,Rt.fn (B:=l_) (k:=5) rfl (.noS rfl aQ (.z dA (.noS rfl aQ (.noS rfl aQ (.yesS rfl rfl ⟨_,by simp[W,e1,e2,e3,e4,ex,i,c,dY,dw,ec,List.replicate];rfl⟩))))),KD ⟨by omega,by omega,by omega⟩,C⟩
  .exact⟨.turn (1+a.fmod x) (w.fmod 31-15),F,Rt.fn (B:=l_) (k:=5) rfl (.noS rfl aQ (.z dA (.noS rfl aQ (.noS rfl aQ (.yesS rfl rfl ⟨_,by simp[W,e1,e2,e3,e4,ex,i,c,dY,dw,ec,List.replicate];rfl⟩))))),KD ⟨by omega,by omega,by omega⟩,C⟩
 .obtain⟨g,d,e2,_,_,h2⟩:=j_ O h1;have e:=eZ g (m:=3) aQ;obtain⟨x,ex,hx⟩:=BJ 20 20 1000000 e.1 e.2;have j:0<x:=by omega
  have i:¬x=0:=by omega
  have s:=eZ a j;exact⟨.later (a.fmod x),d,Rt.fn (B:=l_) (k:=5) rfl (.noS rfl aQ (.z dA (.noS rfl aQ (.noS rfl aQ (.noS rfl aQ (.yesS rfl rfl ⟨_,by simp[W,e1,e2,ex,i,dY,dw,ec,List.replicate];rfl⟩)))))),UR s.1,h2⟩
 .have p:=eZ a (m:=4) aQ;obtain⟨l,d,e2,u,σ,v,h2⟩:=F8 O h1 nd aE (m:=1+a.fmod 4) aE aE;obtain⟨tb,h,e3,E,f,N⟩:=Js O hp (U:=[.o true d,.i (.str "put"),.i Y,.i Z,.i (.l (J.map .str)),.i (.l (l.map .str)),.z,.z,.z,.z]) rfl l d h2;have lt:tb.length=l.length:=by rw[<-E];unfold fst;rw[qx]
  have n:l.length<=sizeLine:=eY aE;have Q:tb.length<=sizeLine:=eY aE;refine⟨.put tb,h,?_,Vz ⟨by rw[E];exact⟨σ,λ k t=>aa k (v k t)⟩,by omega,λ q K=>aa _ (N q K)⟩,f⟩;exact Rt.fn (B:=l_) (k:=5) rfl (.noS rfl aQ (.z dA (.noS rfl aQ (.noS rfl aQ (.noS rfl aQ (.noS rfl aQ ⟨_,by simp[W,e1,e2,e3,n,Q,dY,dw,ec,dT,List.replicate];rfl⟩))))))
theorem JQ{k:Nat}(h:xs[k]?=some d):dW xs (k:Int)=some d:=by have q:=(fC.mp h).1;unfold dW qF;have:=aE;simp[q];exact(fC.mp h).2
theorem JP{nm:aM}{k:Nat}(h:nm[k]?=some s):dW (nm.map D.str) (k:Int)=some (.str s):=JQ (by rw[zl,h];rfl)
abbrev pE(o:MO)(nm:aM)(one:Str)(J:aM)(form many cut:Int)(q:de)(s8 s9 O Y Z:Sl):En:=[.o true o,.i (.l (nm.map .str)),.i (.str one),.i (.l (J.map .str)),.i (.int form),.i (.int many),.i (.int cut),.o false (.l (q.map aF)),s8,s9,O,Y,Z]
abbrev ptQ(P nm J:aM)(one:Str)(o:MO)(form many cut:Int)(k:Nat)(nk:Str)(q:de)(w:Nat)(s9 ac aa Y:Sl):Prop:=∃(r:Rw)(al ag ah ai:Sl),gy P r/\vj (pE o nm one J form many cut q (.i (.int (k:Int))) s9 ac aa Y)=some (.nx (pE o nm one J form many cut (q++[⟨nk,.one one r,w⟩]) (.i (.int (k:Int))) al ag ah ai))
theorem U0{P nm J:aM}{one:Str}(o:MO){form many cut:Int}{k:Nat}{nk pk:Str}(hn:nm[k]?=some nk)(hp:J[k]?=some pk)(pn:J.Nodup)(sub:∀k∈J,k∈P)(h1:(k:Int)<many)(h2:2<=many)(h3:many<=4)(f0:0<=form)(f1:form<=3)(c0:-10<=cut)(c1:cut<=20)(q:de)(hq:q.length<=10)(w:Nat)(s9 ac aa Y:Sl):ptQ P nm J one o form many cut k nk q w s9 ac aa Y:=by
 have g:=JP hn;have v:=JP hp;have n:gi 4 (k:Int)=true:=tK aE;have s:gi ((cut.natAbs:Int)+1) (k:Int)=true:=tK aE;have C:gi ((cut.natAbs:Int)+1) ((k:Int)+1)=true:=tK aE;have h:q.length<1000000:=aE;have u:pk∈P:=sub pk (zf hp);have pt:(J.take k).length<=sizeLine:=by rw[jd];exact eY aE
 have B:jN (J.map D.str) none (some (k:Int))=(J.take k).map .str:=by rw[DP,List.map_take]
 have I:(J.take k).length<=1000:=by rw[jd];lia
 have d:∀(a b:D),dW [a,b] 0=some a/\dW [a,b] 1=some b:=λ a b=>⟨rfl,rfl⟩
 obtain⟨lo,p⟩:∃x:bZ,x=if 0<k then some (cut+4*(k:Int)+1)else none:=⟨_,rfl⟩;obtain⟨hi,t⟩:∃x:bZ,x=if(k:Int)+1<many then some (cut+4*(k:Int)+4)else none:=⟨_,rfl⟩;obtain⟨Z,i⟩:∃x:Int,x=if 0<k then((cut.natAbs:Int)+1)*(k:Int)else 0:=⟨_,rfl⟩;obtain⟨c,r⟩:∃x:bZ,x=if(k:Int)+1<many then some (((cut.natAbs:Int)+1)*((k:Int)+1))else none:=⟨_,rfl⟩
 have O:vj (pE o nm one J form many cut q (.i (.int (k:Int))) s9 ac aa Y)=_:=(iu (ρ':=pE o nm one J form many cut q (.i (.int (k:Int))) (.i (dO lo)) ac aa Y) (by
   rcases Nat.eq_zero_or_pos k with rfl|j
   .simp[p,d,show gi 4 0=true from n]
   .simp[p,d,n,j])).trans ((iu (ρ':=pE o nm one J form many cut q (.i (.int (k:Int))) (.i (dO lo)) (.i (dO hi)) aa Y) (by by_cases b:(k:Int)+1<many<;>simp[t,d,n,b])).trans
  ((iu (ρ':=pE o nm one J form many cut q (.i (.int (k:Int))) (.i (dO lo)) (.i (dO hi)) (.i (.int Z)) Y) (by
   rcases Nat.eq_zero_or_pos k with rfl|j
   .simp[i,d,show gi ((cut.natAbs:Int)+1) 0=true from s]
   .simp[i,d,s,j])).trans (iu (ρ':=pE o nm one J form many cut q (.i (.int (k:Int))) (.i (dO lo)) (.i (dO hi)) (.i (.int Z)) (.i (dO c))) (by by_cases b:(k:Int)+1<many<;>simp[r,d,C,b]))))
 rcases(show form=0\/form=1\/form=2\/form=3 by lia)with rfl|rfl|rfl|rfl
 .have f:=eZ (cut.natAbs:Int) (m:=4) aQ;exact⟨.rest (many+(cut.natAbs:Int).fmod 4) (k:Int),.i (dO lo),.i (dO hi),.i (.int Z),.i (dO c),IP ⟨by lia,by lia,by lia,by lia⟩,O.trans (by simp[g,h,aF,dY,dw,ec])⟩
 .by_cases b:(k:Int)+1<many
  .exact⟨.keys true [pk],.i (dO lo),.i (dO hi),.i (.int Z),.i (dO c),Dv ⟨⟨by simp,λ x hx=>by cases qv hx;exact u⟩,by simp⟩,O.trans (by simp[b,g,v,h,aF,dY,dw,ec,oM])⟩
  .have E:J.take k≠[]:=λ z=>by
    have F:=(fC.mp hp).1;have:=Q1 List.length z;rw[jd,jb]at this;lia
   exact⟨.keys false (J.take k),.i (dO lo),.i (dO hi),.i (.int Z),.i (dO c),Dv ⟨⟨pn.sublist (Z2 ..),λ x hx=>sub x (Zg hx)⟩,E⟩,O.trans (by simp[b,g,B,pt,h,aF,dY,dw,ec,ky,-List.map_take])⟩
 .refine⟨.span lo hi,.i (dO lo),.i (dO hi),.i (.int Z),.i (dO c),KG ⟨λ l e=>?_,λ l e=>?_,λ x y e1 e2=>?_⟩,O.trans (by simp[g,h,aF,dY,dw,ec])⟩
  .grind
  .grind
  .grind
 .have G:0<=((cut.natAbs:Int)+1)*(k:Int):=Int.mul_nonneg aE aE;have H:((cut.natAbs:Int)+1)*((k:Int)+1)=((cut.natAbs:Int)+1)*(k:Int)+((cut.natAbs:Int)+1):=by rw[Int.mul_add,Z7]
  have A:0<=Z/\Z<=((cut.natAbs:Int)+1)*(k:Int):=by rw[i];split<;>lia
  refine⟨.time Z c,.i (dO lo),.i (dO hi),.i (.int Z),.i (dO c),Dm ⟨A.1,λ x e=>?_⟩,O.trans (by simp[g,h,aF,dY,dw,ec])⟩;rw[r]at e;split at e<;>cases e;lia
structure x9(P nm:aM)(one:Str)(w:Nat)(q:de):Prop where
 n:q.map (·.n)=nm.take q.length
 r:∀x∈q,∃r,x=⟨x.n,.one one r,w⟩/\gy P r
theorem KN(o:MO)(hn:nm.length=7)(hp:J.length=9)(pn:J.Nodup)(sub:∀k∈J,k∈P)(h2:2<=many)(h3:many<=4)(f0:0<=form)(f1:form<=3)(c0:-10<=cut)(c1:cut<=20)(w:Nat):∀(m k:Nat)(q:de)(s8 s9 O Z Y:Sl),(k:Int)+m=many->q.length=k->x9 P nm one w q->∃(q':de)(t8 t9 aa ae ac:Sl),c4 (gN 8) vj (fQ (k:Int) m) (pE o nm one J form many cut q s8 s9 O Z Y)=some (.nx (pE o nm one J form many cut q' t8 t9 aa ae ac))/\(q'.length:Int)=many/\x9 P nm one w q'
 |0,k,q,s8,s9,O,Z,Y,s,b,a=>⟨q,s8,s9,O,Z,Y,rfl,by lia,a⟩
 |m+1,k,q,s8,s9,O,Z,Y,s,b,a=>by
  obtain⟨d,c⟩:∃x,nm[k]?=some x:=⟨_,zt aE⟩;obtain⟨v,p⟩:∃x,J[k]?=some x:=⟨_,zt aE⟩;obtain⟨r,u,h,j,g,ok,e⟩:=U0 o c p pn sub aE h2 h3 f0 f1 c0 c1 q aE w s9 O Z Y;have i:x9 P nm one w (q++[⟨d,.one one r,w⟩]):=by
   refine⟨?_,λ x hx=>?_⟩
   .rw[zx,a.n,zm,List.length_singleton,b,Z3,c];rfl
   .rcases qw hx with z|z
    .exact a.r x z
    .grind
  refine pB (KN o hn hp pn sub h2 h3 f0 f1 c0 c1 w m (k+1) (q++[⟨d,.one one r,w⟩]) (.i (.int (k:Int))) u h j g aE (by rw[zm,b];rfl) i) λ q' t8 t9 aa ae ac l t f=>?_;refine⟨q',t8,t9,aa,ae,ac,?_,t,f⟩;show c4 _ _ (D.int (k:Int)::fQ ((k:Int)+1) m) _=_;rw[iP];show iC _ _ _ (some (pE o nm one J form many cut q (.i (.int (k:Int))) s9 O Z Y))=_;rw[jB,e,iQ];exact l
theorem UZ(O:ns.length<=63)(ho:dM ns o){P nm J:aM}(one:Str)(hn:nm.length=7)(hp:J.length=9)(pn:J.Nodup)(sub:∀k∈J,k∈P)(w:Nat):∃(q:de)(o':MO),wc o [.l (nm.map .str),.str one,.l (J.map .str)]=some (q.map aF,o')/\2<=q.length/\q.length<=4/\x9 P nm one w q/\dM ns o':=by
 refine cM (gb O ho) λ a r e1 _ h1=>?_;refine cM (gb O h1) λ Y s e2 _ h2=>?_;refine cM (gb O h2) λ r3 Z e3 _ c=>?_;have b:=eZ a (m:=4) aQ;have n:=eZ Y (m:=3) aQ;have p:=eZ r3 (m:=31) aQ;obtain⟨q,t,u,h,j,i,e,l,d⟩:=KN (many:=2+Y.fmod 3) (cut:=r3.fmod 31-10) Z hn hp pn sub aE aE b.1 aE aE aE w (2+Y.fmod 3).toNat 0 [] .z .z .z .z .z aE rfl ⟨rfl,λ x hx=>by simp at hx⟩;have f:-4611686018427387904<=2+Y.fmod 3:=aE;have g:2+Y.fmod 3<4611686018427387904:=aE;have e:c4 (gN 8) vj (fQ 0 (2+Y.fmod 3).toNat) [.o true Z,.i (.l (nm.map .str)),.i (.str one),.i (.l (J.map .str)),.i (.int (a.fmod 4)),.i (.int (2+Y.fmod 3)),.i (.int (r3.fmod 31-10)),.o false (.l []),.z,.z,.z,.z,.z]=_:=e;refine⟨q,Z,?_,by lia,by lia,d,c⟩;simp[wc,vC,Hc,e1,e2,e3,f,g,e,pE,CA,dX]
theorem TU{l m:List α}{x:α}(h:x∈l)(hi:l.length<=i):x∈(l++m).take i:=by rw[Jg];exact yn _ (by rw[j6 hi];exact h)
theorem gL.app(h:gL P q)(nd:(ex.map (·.n)).Nodup)(J:∀n∈ex.map (·.n),n∉q.map (·.n))(ok:∀i x,ex[i]?=some x->fg P (q++ex.take i) x):gL P (q++ex):=by
 refine⟨?_,λ i x hx=>?_⟩
 .rw[zx,jn];exact⟨h.nd,nd,λ a Y b O e=>J b O (e▸Y)⟩
 .by_cases c:i<q.length
  .rw[Qn c]at hx;rw[List.take_append_of_le_length (Q2 c)];exact h.ok i x hx
  .rw[Zw aE]at hx;have:=ok _ x hx;rw[Jg,j6 aE];exact this
theorem FK(ok:gy P r)(h:∃y∈up,y.n=f/\y.w<=w/\gG y.b=true):fg P up ⟨n,.one f r,w⟩:=⟨d_,λ g s e=>by cases e;exact⟨ok,h⟩,λ _ e=>(by simp at e),λ _ _ _ e=>(by simp at e)⟩
theorem Hk(h:∀f∈fs,∃y∈up,y.n=f/\y.w<=v/\gG y.b=true)(q:fs.length*v<=w):fg P up ⟨n,.pour fs,w⟩:=⟨d_,d_,λ J e=>by cases e;exact⟨v,h,q⟩,λ _ _ _ e=>(by simp at e)⟩
theorem BU:∀q:de,d4 dP (e2 bW (eV 0) (zI 1)) [] (q.map aF)=some ((q.map (·.n)).map .str)
 |[]=>rfl
 |x::q=>by
  have J:=BU q;have st:e2 bW (eV 0) (zI 1) [.i (aF x)]=some (.str x.n,[.i (aF x)]):=by simp[qC]
  rw[zc,lR];show vH _ _ _ _ (some (true,_))=_;rw[lU,st,lS,J,nv];rfl
theorem WE{k:Nat}(h:xs[k]?=some d):s_ xs (k:Int)=some d:=by unfold s_;rw[if_pos aE];exact h
structure uj(P:aM)(rs:de)(nm:aM)(w:Nat)(ex:de):Prop where
 nd:(ex.map (·.n)).Nodup
 sub:∀n∈ex.map (·.n),n∈nm
 len:ex.length<=6
 w1:∀x∈ex,w<=x.w/\x.w<=5*w
 c:∀x∈ex,gG x.b=true
 ok:∀i x,ex[i]?=some x->fg P (rs++ex.take i) x
abbrev puQ(ns:ed)(o:MO)(P O:aM)(Z:de)(w:Nat)(n0 n1 n2 n3 n4 J Y one:Str):Prop:=∃(ex:de)(o':MO),sQ o [.l ([n0,n1,n2,n3,n4,J,Y].map .str),.str one,.l ((Z.map (·.n)).map .str),.l (O.map .str)]=some (.l (ex.map aF),o')/\uj P Z [n0,n1,n2,n3,n4,J,Y] w ex/\dM ns o'
theorem UU{ns:ed}(aa:ns.length<=63){o:MO}(ho:dM ns o){P O:aM}(hp:O.length=9)(pn:O.Nodup)(sub:∀k∈O,k∈P){Z:de}{w:Nat}(hw:∀x∈Z,x.w<=w)(ah:∀x∈Z,gG x.b=true)(rl:Z.length<=20){n0 n1 n2 n3 n4 J Y:Str}(nd:[n0,n1,n2,n3,n4,J,Y].Nodup){one:Str}(h1:one∈Z.map (·.n)):puQ ns o P O Z w n0 n1 n2 n3 n4 J Y one:=by
 obtain⟨q,o1,e1,l1,l2,t,g1⟩:=UZ aa ho one (nm:=[n0,n1,n2,n3,n4,J,Y]) rfl hp pn sub w;obtain⟨N,o2,al,_,g2⟩:=gb aa g1;obtain⟨r3,o3,e3,_,g3⟩:=gb aa g2;have ql:(q.map (·.n)).length=q.length:=qx ..;have fa:=eZ N (m:=(q.length:Int)) aE;obtain⟨k,hk⟩:∃k:Nat,N.fmod (q.length:Int)=(k:Int):=⟨(N.fmod q.length).toNat,by lia⟩;rw[hk]at fa;have kl:k<q.length:=aE;obtain⟨f,ρ⟩:∃x,(q.map (·.n))[k]?=some x:=⟨_,zt aE⟩;have f3:=eZ r3 (m:=3) aQ;obtain⟨C,ew,ao⟩:∃C,dW [D.str "turn",.str "later",.str "put"] (r3.fmod 3)=some (.str C)∧C∈A8:=by
  rcases(show r3.fmod 3=0\/r3.fmod 3=1\/r3.fmod 3=2 by lia)with z|z|z<;>rw[z]
  .exact⟨_,rfl,by simp⟩
  .exact⟨_,rfl,by simp⟩
  .exact⟨_,rfl,by simp⟩
 obtain⟨rv,o4,e4,am,g4⟩:=J3 aa g3 hp pn sub (.str J) (.t [.str f]) C ao;obtain⟨r5,o5,e5,_,g5⟩:=gb aa g4;obtain⟨r6,M,σ,_,g6⟩:=gb aa g5;have rp:0<Z.length:=by
  cases Z with
  |nil=>cases h1
  |cons=>exact Zp _
 have fo:=eZ r5 (m:=(Z.length:Int)) aE;obtain⟨ot,aj,eo⟩:=pH D.str (Z.map (·.n)) fo.1 (by rw[qx];exact fo.2)
 let fr:aM:=(q.map (·.n)).set k J
 have af:∀fs:aM,(fs=fr\/fs=fr++[ot])->sQ o [.l ([n0,n1,n2,n3,n4,J,Y].map .str),.str one,.l ((Z.map (·.n)).map .str),.l (O.map .str)]=some (.l ((q++[(⟨J,.one f rv,w⟩:Row),⟨Y,.pour fs,5*w⟩]).map aF),M)->∃(ex:de)(o':MO),sQ o [.l ([n0,n1,n2,n3,n4,J,Y].map .str),.str one,.l ((Z.map (·.n)).map .str),.l (O.map .str)]=some (.l (ex.map aF),o')/\uj P Z [n0,n1,n2,n3,n4,J,Y] w ex/\dM ns o':=λ fs u e=>by
  have qn:∀x∈q.map (·.n),x∈[n0,n1,n2,n3]:=λ x hx=>by
   rw[t.n]at hx;have:x∈[n0,n1,n2,n3,n4,J,Y].take 4:=by rw[show[n0,n1,n2,n3,n4,J,Y].take q.length=([n0,n1,n2,n3,n4,J,Y].take 4).take q.length by rw[List.take_take,Nat.min_eq_left l2]]at hx;exact Zg hx
   exact this
  have I:J∉[n0,n1,n2,n3]/\Y∉[n0,n1,n2,n3]/\J≠Y:=by have a:=(jn (l₁:=[n0,n1,n2,n3]) (l₂:=[n4,J,Y])).mp nd;exact⟨λ h=>a.2.2 _ h _ (by simp) rfl,λ h=>a.2.2 _ h _ (by simp) rfl,λ e=>(List.nodup_cons.mp (List.nodup_cons.mp a.2.1).2).1 (e▸.head _)⟩
  have S:fr.length=q.length:=by show((q.map (·.n)).set k J).length=_;rw[yk,ql]
  refine⟨_,M,e,⟨?_,?_,by rw[zm];simp;lia,?_,?_,?_⟩,g6⟩
  .rw[zx,jn];refine⟨by rw[t.n];exact nd.sublist (Z2 ..),by simp[I.2.2],λ a ha b hb z=>?_⟩;subst z;have:=qn a ha;simp only[zc,yj,y9,jw,Yv]at hb;rcases hb with rfl|rfl
   .exact I.1 this
   .exact I.2.1 this
  .intro n hn;rw[zx]at hn;rcases qw hn with z|z
   .exact yn [n4,J,Y] (qn n z)
   .exact List.mem_append_right [n0,n1,n2,n3,n4] z
  .intro x hx;rcases qw hx with z|z
   .obtain⟨r,ex,_⟩:=t.r x z;rw[ex];exact⟨qj _,by show w<=5*w;lia⟩
   .simp only[y9,jw,Yv]at z;rcases z with rfl|rfl
    .exact⟨qj _,by show w<=5*w;lia⟩
    .exact⟨by show w<=5*w;lia,qj _⟩
  .intro x hx;rcases qw hx with z|z
   .obtain⟨r,ex,_⟩:=t.r x z;rw[ex];rfl
   .simp only[y9,jw,Yv]at z;rcases z with rfl|rfl<;>rfl
  .obtain⟨Q,G,ap⟩:=lC.mp h1;have T:∀g∈q.map (·.n),∃y∈q,y.n=g/\y.w<=w/\gG y.b=true:=λ g s=>by
    obtain⟨y,l,rfl⟩:=lC.mp s;obtain⟨r,V,_⟩:=t.r y l;exact⟨y,l,rfl,by rw[V];exact qj _,by rw[V];rfl⟩
   intro i x hx;by_cases c:i<q.length
   .rw[Qn c]at hx;obtain⟨r,ex,ok⟩:=t.r x (zf hx);rw[ex];exact FK ok ⟨Q,yn _ G,ap,hw Q G,ah Q G⟩
   .rw[Zw aE]at hx;obtain⟨j,ej⟩:∃j,i-q.length=j:=⟨_,rfl⟩;rw[ej]at hx;have tk:∀y∈q,y∈Z++(q++[(⟨J,.one f rv,w⟩:Row),⟨Y,.pour fs,5*w⟩]).take i:=λ y l=>qo _ (TU l aE)
    match j,hx with
    |0,hx=>
     cases hx;obtain⟨y,l,a,b,H⟩:=T f (zf ρ);exact FK am ⟨y,tk y l,a,b,H⟩
    |1,hx=>
     cases hx;refine Hk (v:=w) (λ g s=>?_) ?_
     .have as:g∈fr\/g=ot:=by
       rcases u with z|z
       .rw[z]at s;exact .inl s
       .rw[z]at s;rcases qw s with z|z
        .exact .inl z
        .exact .inr (qv z)
      rcases as with z|rfl
      .rcases List.mem_or_eq_of_mem_set z with z|rfl
       .obtain⟨y,l,a,b,H⟩:=T g z;exact⟨y,tk y l,a,b,H⟩
       .refine⟨⟨g,.one f rv,w⟩,qo _ ?_,rfl,qj _,rfl⟩;have ei:i=q.length+1:=aE;rw[ei,Jg,j6 aE];refine qo _ ?_;rw[show q.length+1-q.length=1 by lia];simp
      .obtain⟨y,l,rfl⟩:=lC.mp aj;exact⟨y,yn _ l,rfl,hw y l,ah y l⟩
     .have:fs.length<=5:=by
       rcases u with z|z<;>rw[z]
       .lia
       .rw[zm,S];simp;lia
      exact Y2 _ this
    |j+2,hx=>cases hx
 have ng:=BU q;have qs:q.length<=sizeLine:=eY aE;have xk:=WE (xs:=(q.map (·.n)).map D.str) (k:=k) (d:=.str f) (by rw[zl,ρ];rfl);obtain⟨F,E⟩:∃x,x=[n0,n1,n2,n3,n4,J,Y].map D.str:=⟨_,rfl⟩;have i5:dW F 5=some (.str J):=by rw[E];rfl
 have i6:dW F 6=some (.str Y):=by rw[E];rfl
 have t1:q.length<1000000:=aE;have rz:¬(Z.length:Int)=0:=aE;have aq:¬Z.length=0:=aE;have qz:¬(q.length:Int)=0:=aE;have ak:¬q.length=0:=aE;have st:((q.map (·.n)).map D.str).set k (.str J)=fr.map D.str:=by show _=((q.map (·.n)).set k J).map D.str;rw[Jc]
 have S:fr.length=q.length:=by show((q.map (·.n)).set k J).length=_;rw[yk,ql]
 rw[<-E]at e1;have en:∀fs:aM,aF (⟨Y,.pour fs,5*w⟩:Row)=.t [.str "pour",.str Y,.t (fs.map .str),.t []]:=λ _=>rfl;have an:aF (⟨J,.one f rv,w⟩:Row)=dY (.str J) (.t [.str f]) rv:=rfl;have X:fr.length<=sizeLine:=eY aE;have au:fr.length+1<=sizeLine:=eY aE;have t2:fr.length<1000000:=aE;have ls:q.length+1+1<=sizeLine:=eY aE
 let R:MO->Sl->Sl->Sl->Sl->Sl->En:=λ o a b c d e=>[.o true o,.i (.l F),.i (.str one),.i (.l ((Z.map (·.n)).map .str)),.i (.l (O.map .str)),a,b,c,d,e]
 let A:Sl:=.o false (.l (q.map aF))
 let p:Sl:=.o false (.l (q.map aF++[dY (.str J) (.t [.str f]) rv]))
 let B:aM->Sl:=λ x=>.o false (.l (x.map .str))
 let K:Sl:=.i (.int (k:Int))
 let W:Sl:=.i (.str C)
 obtain⟨fs,u,ar⟩:∃fs:aM,(fs=fr\/fs=fr++[ot])/\bX (dD (tB (e2 jF (e2 dZ (dU 0 eu aN) (zI 2)) (zI 1))) (tB (e2 ly (eV 9) (eV 2)))) (kx 6 (eV 9)) sN (R o5 p (B fr) K W (.i (.str ot)))=some (.nx (R M p (B fs) K W (.i (.str ot)))):=by
  by_cases c:r6.fmod 2=1
  .by_cases c':ot=one
   .exact⟨fr,.inl rfl,by simp[R,B,σ,c,c']⟩
   .exact⟨fr++[ot],.inr rfl,by simp[R,B,σ,c,c',t2]⟩
  .exact⟨fr,.inl rfl,by simp[R,B,σ,c]⟩
 have fl:fs.length<=fr.length+1:=by rcases u with rfl|rfl<;>simp
 have X:fs.length<=sizeLine:=eY aE;exact af fs u (by rw[<-E];exact(Rt.fn (B:=N2) (k:=5) rfl (.seq (ρ':=R o1 A .z .z .z .z) (by simp[-List.map_map,dX,R,A,e1]) (.seq (ρ':=R o1 A (B (q.map (·.n))) .z .z .z) (by simp[-List.map_map,dX,R,A,B,ng,qs]) (.seq (ρ':=R o2 A (B (q.map (·.n))) K .z .z) (by simp[-List.map_map,dX,R,A,B,K,al,hk,qz,ak])
  (.seq (ρ':=R o3 A (B (q.map (·.n))) K W .z) (by simp[-List.map_map,dX,R,A,B,K,W,e3,ew]) (.seq (ρ':=R o4 p (B (q.map (·.n))) K W .z) (by simp[-List.map_map,dX,R,A,p,B,K,W,i5,xk,e4,t1]) (.seq (ρ':=R o4 p (B fr) K W .z) (by simp[-List.map_map,dX,R,p,B,K,W,i5,kl,st])
  (.seq (ρ':=R o5 p (B fr) K W (.i (.str ot))) (by simp[-List.map_map,dX,R,p,B,K,W,e5,rz,aq,eo]) (.seq ar ⟨_,by simp[-List.map_map,dX,R,p,B,K,W,i6,ls,X,en,an];rfl⟩))))))))))
def sg(c:String)(k:Nat):Str:=jY c++(if k=0 then i8 else if k=1 then jY "l" else jY "m")
abbrev m7(k:Nat):aM:=[sg "c" k,sg "d" k,sg "e" k,sg "f" k,sg "g" k,sg "h" k,sg "i" k]
abbrev mj:aM:=m7 0++m7 1++m7 2
abbrev ab:aM:=[kb,jY "b"]
theorem VN(k:Nat)(h:k<3):d4 dP (e2 c_ (eV 0) (e2 bW (zR "klmnopq") (eV 1))) [.i (.int (k:Int))] (lZ (jY "cdefghi"))=some ((m7 k).map .str):=by rcases(show k=0\/k=1\/k=2 by lia)with rfl|rfl|rfl<;>rfl
structure Wn(P:aM)(k:Nat)(rs:de):Prop where
 ok:gL P rs
 w:∀x∈rs,1<=x.w/\x.w<=5^k
 nm:∀n∈rs.map (·.n),n∈ab++(mj.take (7*k))
 len:rs.length<=2+6*k
 c:∀x∈rs,gG x.b=true
 z:∃x lo hi,rs[0]?=some x/\x.b=.inn lo hi/\x.w=1
theorem YC(h:k<3):∀n∈m7 k,n∉ab++mj.take (7*k):=by rcases(show k=0\/k=1\/k=2 by lia)with rfl|rfl|rfl<;>decide+kernel
theorem WI(h:k<3):(∀n∈m7 k,n∈ab++mj.take (7*(k+1)))/\∀n∈ab++mj.take (7*k),n∈ab++mj.take (7*(k+1)):=by rcases(show k=0\/k=1\/k=2 by lia)with rfl|rfl|rfl<;>decide+kernel
theorem XJ(h:k<3):(m7 k).Nodup:=by rcases(show k=0\/k=1\/k=2 by lia)with rfl|rfl|rfl<;>decide+kernel
theorem Wn.app(h:Wn P k J)(O:k<3)(e:uj P J (m7 k) (5^k) ex):Wn P (k+1) (J++ex):=by
 have f:=YC O;obtain⟨d,Z⟩:=WI O;refine⟨h.ok.app e.nd (λ n q Y=>f n (e.sub n q) (h.nm n Y)) e.ok,λ x hx=>?_,λ n q=>?_,by rw[zm];have:=h.len;have:=e.len;lia,λ x hx=>?_,?_⟩
 .rcases qw hx with z|z
  .have:=h.w x z;exact⟨this.1,qy this.2 (Y1 aQ aE)⟩
  .have:=e.w1 x z;have p:1<=5^k:=Nat.one_le_pow _ _ aQ;exact⟨by lia,by grind⟩
 .rw[zx]at q;rcases qw q with z|z
  .exact Z n (h.nm n z)
  .exact d n (e.sub n z)
 .rcases qw hx with z|z
  .exact h.c x z
  .exact e.c x z
 .refine eU h.z λ x lo hi a b c=>?_;exact⟨x,lo,hi,by grind⟩
theorem IB(Z:x.n∈nm)(hw:w<=x.w/\x.w<=5*w)(Y:gG x.b=true)(ok:fg P O x):uj P O nm w [x]:=by
 refine⟨by simp,λ n J=>?_,by show 1<=6;decide,λ y q=>?_,λ y q=>?_,λ i y q=>?_⟩
 .grind
 .cases qv q;exact hw
 .grind
 .grind
abbrev chQ(ns:ed)(o:MO)(P J:aM)(k:Nat)(q:de)(s4 s5 s6 s7 s8 s9:Sl):Prop:=∃(ex:de)(o':MO)(t4 t5 t6 t7 t8 t9:Sl),vT [.o true o,.i (.l (J.map .str)),.o false (.l (q.map aF)),.i (.int (k:Int)),s4,s5,s6,s7,s8,s9]=some (.nx [.o true o',.i (.l (J.map .str)),.o false (.l ((q++ex).map aF)),.i (.int (k:Int)),t4,t5,t6,t7,t8,t9])/\uj P q (m7 k) (5^k) ex/\dM ns o'
abbrev vI(o:MO)(J:aM)(q:de)(k:Nat)(s4 s5 s6 s7 s8 s9:Sl):En:=[.o true o,.i (.l (J.map .str)),.o false (.l (q.map aF)),.i (.int (k:Int)),s4,s5,s6,s7,s8,s9]
theorem UA(O:ns.length<=63)(ho:dM ns o){P J:aM}(hp:J.length=9)(pn:J.Nodup)(sub:∀k∈J,k∈P)(hk:k<3)(h:Wn P k q)(s4 s5 s6 s7 s8 s9:Sl):chQ ns o P J k q s4 s5 s6 s7 s8 s9:=by
 have ng:=BU q;have M:=VN k hk;have rl:q.length<=14:=by have:=h.len;lia
 have g:q.length<=sizeLine:=eY aE;have rp:0<q.length:=by obtain⟨x,_,_,a,_⟩:=h.z;exact j0 (ym _) (fC.mp a).1
 have rz:¬(q.length:Int)=0:=aE;have Z:¬q.length=0:=aE;have W:(lZ (jY "cdefghi")).length≤sizeLine:=eY d8;obtain⟨r1,o1,e1,_,g1⟩:=gb O ho;obtain⟨d,o2,Y,_,u⟩:=gb O g1;have fo:=eZ r1 (m:=(q.length:Int)) aE;obtain⟨one,K,X⟩:=pH D.str (q.map (·.n)) fo.1 (by grind);have A:=λ x hx=>(h.w x hx).2;have N:5^k<=5*5^k:=by have:1<=5^k:=Nat.one_le_pow _ _ aQ;lia
 obtain⟨I,t,R⟩:=lC.mp K;obtain⟨b,C⟩:∃x,x=(m7 k).map D.str:=⟨_,rfl⟩;have E:dW b 0=some (.str (sg "c" k)):=by rw[C];rfl
 have S:=h.ok.nd;rw[<-C]at M;have H:vT (vI o J q k s4 s5 s6 s7 s8 s9)=_:=(iu (ρ':=vI o J q k (.i (.l ((q.map (·.n)).map .str))) s5 s6 s7 s8 s9) (by simp[-List.map_map,ng,g])).trans ((iu (ρ':=vI o J q k (.i (.l ((q.map (·.n)).map .str))) (.i (.l b)) s6 s7 s8 s9) (by simp[M,W])).trans ((iu (ρ':=vI o1 J q k (.i (.l ((q.map (·.n)).map .str))) (.i (.l b)) (.i (.str one)) s7 s8 s9) (by simp[-List.map_map,e1,Z,X])).trans (iu (ρ':=vI o2 J q k (.i (.l ((q.map (·.n)).map .str))) (.i (.l b)) (.i (.str one)) (.i (.int (d.fmod 5))) s8 s9) (by simp[Y]))));by_cases c0:d.fmod 5=0
 .obtain⟨ex,F,e3,ext,e⟩:=UU O u hp pn sub A h.c aE (XJ hk) K;have xl:q.length+ex.length<1000:=by have:=ext.len;lia
  rw[<-C]at e3;exact⟨ex,F,(.i (.l ((q.map (·.n)).map .str))),(.i (.l b)),(.i (.str one)),(.i (.int (d.fmod 5))),s8,s9,H.trans (by simp[-List.map_map,c0,e3,xl]),ext,e⟩
 .by_cases i:d.fmod 5=1/\1<q.length
  .obtain⟨i,j⟩:=i;obtain⟨r3,F,e3,_,e⟩:=gb O u;have f4:=eZ r3 (m:=4) aQ;have m0:0<=(if 2+r3.fmod 4<(q.length:Int)then 2+r3.fmod 4 else(q.length:Int))/\(if 2+r3.fmod 4<(q.length:Int)then 2+r3.fmod 4 else(q.length:Int))<=q.length/\(if 2+r3.fmod 4<(q.length:Int)then 2+r3.fmod 4 else(q.length:Int))<=5:=by split<;>lia
   obtain⟨l,G,e4,hl,ld,lm,v⟩:=F8 O e S (by grind) m0.1 (by grind);have lz:l.length<=sizeLine:=eY aE;have T:(1:Int)<(q.length:Int):=aE;have s:q.length<1000000:=aE;refine⟨[⟨sg "c" k,.pour l,5*5^k⟩],G,(.i (.l ((q.map (·.n)).map .str))),(.i (.l b)),(.i (.str one)),(.i (.int (d.fmod 5))),(.i (.l (l.map .str))),s9,H.trans (by simp[-List.map_map,g,i,T,e3,e4,s,E,aF]),IB bP ⟨N,qj _⟩ rfl (Hk (λ f hf=>?_) (Y2 _ aE)),v⟩;obtain⟨y,B,rfl⟩:=lC.mp (lm f hf);exact⟨y,B,rfl,A y B,h.c y B⟩
  .obtain⟨r3,F,e3,_,e⟩:=gb O u;have σ:=eZ r3 (m:=8) aQ;obtain⟨Q,ρ,p⟩:=pH D.str A8 σ.1 σ.2;have p:dW [D.str "time",.str "only",.str "but",.str "span",.str "rest",.str "turn",.str "later",.str "put"] (r3.fmod 8)=some (.str Q):=p;obtain⟨r,G,e4,ok,v⟩:=J3 O e hp pn sub (.str (sg "c" k)) (.t [.str one]) Q ρ;have s:q.length<1000000:=aE;refine⟨[⟨sg "c" k,.one one r,5^k⟩],G,(.i (.l ((q.map (·.n)).map .str))),(.i (.l b)),(.i (.str one)),(.i (.int (d.fmod 5))),s8,(.i (.l (A8.map .str))),H.trans ?_,IB bP ⟨qj _,N⟩ rfl (FK ok ⟨I,t,R,A I t,h.c I t⟩),v⟩;by_cases j:d.fmod 5=1
   .have V:¬(1:Int)<(q.length:Int):=λ z=>i ⟨j,by lia⟩;simp[-List.map_map,g,j,V,e3,p,e4,s,E,aF]
   .simp[-List.map_map,g,c0,j,e3,p,e4,s,E,aF]
theorem Kq(aa:ns.length<=63){P q:aM}(hp:q.length=9)(pn:q.Nodup)(sub:∀k∈q,k∈P):∀(m k:Nat)(o:MO)(O:de)(s3 s4 s5 s6 Y Z s9:Sl),k+m<=3->dM ns o->Wn P k O->∃(J:de)(o':MO)(t3 t4 t5 t6 t7 t8 t9:Sl)(k':Nat),c4 (gN 3) vT (fQ (k:Int) m) [.o true o,.i (.l (q.map .str)),.o false (.l (O.map aF)),s3,s4,s5,s6,Y,Z,s9]=some (.nx [.o true o',.i (.l (q.map .str)),.o false (.l (J.map aF)),t3,t4,t5,t6,t7,t8,t9])/\k'<=3/\Wn P k' J/\dM ns o'
 |0,k,o,O,s3,s4,s5,s6,Y,Z,s9,i,d,h=>⟨O,o,s3,s4,s5,s6,Y,Z,s9,k,rfl,by lia,h,d⟩
 |m+1,k,o,O,s3,s4,s5,s6,Y,Z,s9,i,d,h=>by
  obtain⟨ex,j,t4,t5,t6,t7,t8,t9,e,ext,g⟩:=UA aa d hp pn sub aE h s4 s5 s6 Y Z s9;obtain⟨J,o',l,n,p,r,s,t,u,k',f,a,b,c⟩:=Kq aa hp pn sub m (k+1) j (O++ex) (.i (.int (k:Int))) t4 t5 t6 t7 t8 t9 aE g (h.app aE ext);refine⟨J,o',l,n,p,r,s,t,u,k',?_,a,b,c⟩;show c4 _ _ (D.int (k:Int)::fQ ((k:Int)+1) m) _=_;rw[iP];show iC _ _ _ (some [.o true o,.i (.l (q.map .str)),.o false (.l (O.map aF)),.i (.int (k:Int)),s4,s5,s6,Y,Z,s9])=_;rw[jB,e,iQ];exact f
theorem KC(h:St.OB lo (2^40)/\St.OB hi (2^40)/\∀a b,lo=some a->hi=some b->a<=b):fg P up ⟨n,.inn lo hi,1⟩:=⟨λ a b e=>by cases e;exact⟨h.1,h.2.1,h.2.2,qj _⟩,d_,λ _ e=>(by simp at e),λ _ _ _ e=>(by simp at e)⟩
theorem Rk(O:ns.length<=63)(ho:dM ns o){P q:aM}(hP:P.length<=10)(hp:q.length=9)(pn:q.Nodup)(sub:∀k∈q,k∈P):∃(rs:de)(o':MO),sW o [.l (q.map .str)]=some (.l (rs.map aF),o')/\Gd P rs/\dM ns o':=by
 refine gn λ R b=>?_;obtain⟨Y,Z,ρ,e1,r,s,t,F⟩:=Bz O ho;obtain⟨f,d,V,u,y,C,D,G⟩:=Bz O F;refine cM (gb O G) λ r3 W e3 _ H=>?_;refine cM (gb O H) λ a l e4 _ I=>?_;refine b ?_;have T:=eZ a (m:=4) aQ
 let A:Row:=⟨kb,.inn Y Z,1⟩
 let B:Row:=⟨jY "b",.inn f d,1⟩
 have fin:∀J:de,(J=[A]\/J=[A,B])->jN [aF A,aF B] none (some (1+r3.fmod 2))=J.map aF->∃(rs:de)(o':MO),sW o [.l (q.map .str)]=some (.l (rs.map aF),o')/\Gd P rs/\dM ns o':=λ J K h=>by
  have p:Wn P 0 J:=by
   have v:fg P [] A:=KC ⟨r,s,t⟩;have S:fg P [A] B:=KC ⟨y,C,D⟩;rcases K with rfl|rfl
   .exact⟨⟨by simp,λ i x hx=>by cases i with|zero=>cases hx;exact v|succ i=>cases hx⟩,λ x hx=>by cases qv hx;exact⟨qj _,qj _⟩,λ n j=>by cases qv j;exact yn _ (qg ..),by show 1<=2;decide,λ x hx=>by cases qv hx;rfl,A,Y,Z,rfl,rfl,rfl⟩
   .refine⟨⟨?_,λ i x hx=>?_⟩,λ x hx=>?_,λ n j=>?_,by show 2<=2;decide,λ x hx=>?_,A,Y,Z,rfl,rfl,rfl⟩
    .show[kb,jY "b"].Nodup;decide+kernel
    .grind
    .grind
    .grind
    .simp only[y9,jw,Yv]at hx;rcases hx with rfl|rfl<;>rfl
  obtain⟨rs,o',X,t4,t5,t6,t7,t8,t9,b,e,k2,w,g⟩:=Kq O hp pn sub (a.fmod 4).toNat 0 l J .z .z .z .z .z .z .z aE I p;have e:c4 (gN 3) vT (fQ 0 (a.fmod 4).toNat) [.o true l,.i (.l (q.map .str)),.o false (.l (J.map aF)),.z,.z,.z,.z,.z,.z,.z]=_:=e;have σ:5^b<=125:=qy (Y1 aQ k2) aQ;have Q:=λ x hx=>qy (w.w x hx).2 σ;refine⟨rs,o',?_,⟨⟨hP,w.ok,Q,by have:=w.len;lia,w.c⟩,λ x hx=>(w.w x hx).1,w.z⟩,g⟩
  .have M:-4611686018427387904<=a.fmod 4:=aE;have N:a.fmod 4<4611686018427387904:=aE;have E:aF A=.t [.str "in",.str "a",.t [],.t [dO Y,dO Z]]:=rfl;have eB:aF B=.t [.str "in",.str "b",.t [],.t [dO f,dO d]]:=rfl;rw[E,eB]at h;simp[sW,Hd,e1,u,e3,e4,h,M,N,e]
 rcases(show r3.fmod 2=0\/r3.fmod 2=1 by lia)with z|z
 .exact fin [A] (.inl rfl) (by rw[z];rfl)
 .exact fin [A,B] (.inr rfl) (by rw[z];rfl)
structure Og(P:aM)(rs:de)(O:Str->List (Str×Bx)):Prop where
 gd:Gd P rs
 org:∀i x,rs[i]?=some x->Org P rs i x (O x.n)
 dj:∀x∈rs,nV x.b=true->Dj (O x.n)
theorem ZT(g:Gd P J)(ps:dy P J):∃O,Og P J O:=by
 have Y:∀n:Str,∃σ:jT,∀i x,J[i]?=some x->x.n=n->Org P J i x σ/\(nV x.b=true->Dj σ):=λ n=>by
  by_cases c:∃(i:Nat)(x:Row),J[i]?=some x/\x.n=n
  .refine dt c λ i x hx e=>?_;refine a_ (ps i x hx) λ σ o _ q=>?_;refine⟨σ,λ j y Z a=>?_⟩;cases g.wk.ok.idx hx Z (e.trans a.symm);rw[hx]at Z;obtain rfl:=aW Z;exact⟨o,q⟩
  .exact⟨[],λ i x hx e=>absurd ⟨i,x,hx,e⟩ c⟩
 obtain⟨O,h⟩:=Classical.axiomOfChoice Y;refine⟨O,g,λ i x hx=>(h x.n i x hx rfl).1,λ x hx=>?_⟩;obtain⟨i,hi⟩:=List.mem_iff_getElem?.mp hx;exact(h x.n i x hi rfl).2
abbrev xO(q:de)(nm:Str)(th:Th):Prop:=∀x∈q,x.n=nm->∀lo hi,x.b=.inn lo hi->(eP lo th.2.2&&eO hi th.2.2)=true
theorem ZF(d:Dj σ)(nm:Str)(th:Th):(σ.filter λ p=>decide (p.1=nm)&&lr p.2 th).length<=1:=by
 induction σ with
 |nil=>exact ym _
 |cons p σ O=>
  have d:=List.pairwise_cons.mp d;rw[List.filter_cons];by_cases c:(decide (p.1=nm)&&lr p.2 th)=true
  .rw[if_pos c];have c:=Bool.and_eq_true_iff.mp c;have:σ.filter (λ p=>decide (p.1=nm)&&lr p.2 th)=[]:=List.filter_eq_nil_iff.mpr λ q J z=>by
    have z:=Bool.and_eq_true_iff.mp z;exact d.1 q J ((jm c.1).trans (jm z.1).symm) _ _ _ c.2 z.2
   rw[this];exact qj _
  .rw[if_neg c];exact O d.2
theorem cv3(g:Og P Y O)(F:lj Y nm th G)(t0:0<=th.1)(ib:xO Y nm th)(i:Nat):∀x,Y[i]?=some x->(G x.n).length<=1:=by
 induction i using Nat.strongRecOn with
 |_ i b=>
  intro x hi;have J:=zf hi;have ok:=g.gd.wk.ok.ok i x hi;have Z:=F.eq x J;obtain⟨q,xb,xw⟩:=x;cases xb with
  |oth=>have:=g.gd.wk.c _ J;cases this
  |inn lo hi=>
   rw[Z];show(if q=nm then[th]else[]).length<=1;split
   .exact qj _
   .exact ym _
  |one f r=>
   obtain⟨_,y,l,e,_⟩:=ok.one f r rfl;obtain⟨j,k,h⟩:=kN l;have:=b j k y h;rw[Z];rw[<-e];exact qy (List.length_filterMap_le ..) this
  |pour fs=>
   have o:=g.org i _ hi;have a:=vA F t0 ib (i+1) _ _ _ J (o.2.2.2.1 (i+1) aE);have d:(G q).filter (λ z=>bR mP z.1 z.2.1 z.2.2)=G q:=List.filter_eq_self.mpr λ z m=>MX (F.t0 _ J z m);rw[show(Row.mk q (.pour fs) xw).n=q from rfl,d]at a;have:=ZF (g.dj _ J rfl) nm th;rw[show(Row.mk q (.pour fs) xw).n=q from rfl,a]at this;exact this
theorem cu3(ok:gy P r)(e:thr r x=some y)(h:x.2.2.natAbs<=2^n):y.2.2.natAbs<=2^(n+11):=by
 have p:2^(n+11)=2^n*2048:=by rw[Ze]
 have Y:1<=2^n:=Qu;obtain⟨t,k,v⟩:=x;have h:v.natAbs<=2^n:=h;have q:v.natAbs<=2^(n+11):=aE;cases r with
 |turn a b=>
  obtain rfl:=aW e;obtain⟨_,J,Z⟩:=ok.turn a b rfl;have h1:=Je (a*v) b;rw[Zx]at h1;have h2:=Y3 J h;lia
 |put tb=>obtain rfl:=aW e;exact q
 |later c=>obtain rfl:=aW e;exact q
 |time b O=>obtain⟨_,e⟩:=bM e;subst e;exact q
 |keys o l=>obtain⟨_,e⟩:=bM e;subst e;exact q
 |span lo hi=>obtain⟨_,e⟩:=bM e;subst e;exact q
 |rest m x=>obtain⟨_,e⟩:=bM e;subst e;exact q
theorem ZI{P:aM}(h:∀q∈tb,q.2∈P)(J:k∈P):fS tb k∈P:=by
 by_cases c:k∈fst tb
 .exact h _ (M1 c)
 .rw[C1 c];exact J
theorem Z_(h:gL P O)(F:lj O nm th G)(hv:th.2.2.natAbs<=2^42)(i:Nat):∀x,O[i]?=some x->∀z∈G x.n,z.2.2.natAbs<=2^(42+11*i):=by
 induction i using Nat.strongRecOn with
 |_ i Z=>
  intro x hi z a;have g:=zf hi;have ok:=h.ok i x hi;rw[F.eq x g]at a;obtain⟨l,xb,xw⟩:=x;cases xb with
  |oth=>cases a
  |inn lo hi=>
   have a:z∈(if l=nm then[th]else[]):=a;split at a
   .cases qv a;exact qy hv (fJ aE)
   .cases a
  |one f r=>
   obtain⟨k,y,Y,e,_⟩:=ok.one f r rfl;obtain⟨j,q,J⟩:=kN Y;obtain⟨u,d,b⟩:=List.mem_filterMap.mp a;have:=cu3 k b (Z j q y J u (by rw[e];exact d));exact qy this (fJ aE)
  |pour fs=>
   obtain⟨v,o,_⟩:=ok.pour fs rfl;obtain⟨f,c,a⟩:=List.mem_flatMap.mp a;obtain⟨y,Y,e,_⟩:=o f c;obtain⟨j,q,J⟩:=kN Y;exact qy (Z j q y J z (by rw[e];exact a)) (fJ aE)
theorem cF8(h:gL P Z)(F:lj Z nm th G)(hk:th.2.1∈P)(i:Nat):∀x,Z[i]?=some x->∀z∈G x.n,z.2.1∈P:=by
 induction i using Nat.strongRecOn with
 |_ i p=>
  intro x hi z d;have A:=zf hi;have ok:=h.ok i x hi;rw[F.eq x A]at d;obtain⟨C,xb,xw⟩:=x;cases xb with
  |oth=>cases d
  |inn lo hi=>
   have d:z∈(if C=nm then[th]else[]):=d;split at d
   .cases qv d;exact hk
   .cases d
  |one f r=>
   obtain⟨B,y,g,e,_⟩:=ok.one f r rfl;obtain⟨j,O,Y⟩:=kN g;obtain⟨u,w,J⟩:=List.mem_filterMap.mp d;have q:=p j O y Y u (by rw[e];exact w);obtain⟨t,k,v⟩:=u;cases r with
   |put tb=>obtain rfl:=aW J;exact ZI (B.put tb rfl).2.2 q
   |turn a b=>obtain rfl:=aW J;exact q
   |later c=>obtain rfl:=aW J;exact q
   |time b D=>obtain⟨_,e⟩:=bM J;subst e;exact q
   |keys o l=>obtain⟨_,e⟩:=bM J;subst e;exact q
   |span lo hi=>obtain⟨_,e⟩:=bM J;subst e;exact q
   |rest m x=>obtain⟨_,e⟩:=bM J;subst e;exact q
  |pour fs=>
   obtain⟨v,o,_⟩:=ok.pour fs rfl;obtain⟨f,s,d⟩:=List.mem_flatMap.mp d;obtain⟨y,g,e,_⟩:=o f s;obtain⟨j,O,Y⟩:=kN g;exact p j O y Y z (by rw[e];exact d)
abbrev xq:FE:=e2 jF (e2 bW (eV 0) (zI 1)) (eV 1)
theorem M7(nm:Str):∀q:de,d4 (tB xq) (eV 0) [.i (.str nm)] (q.map aF)=some ((q.filter λ x=>decide (x.n=nm)).map aF)
 |[]=>rfl
 |x::q=>by
  have J:=M7 nm q;have a:=qC x;have t:tB xq [.i (aF x),.i (.str nm)]=some (decide (x.n=nm),[.i (aF x),.i (.str nm)]):=by simp[a]
  have f:eV 0 [.i (aF x),.i (.str nm)]=some (aF x,[.i (aF x),.i (.str nm)]):=rfl;rw[zc,lR,t,List.filter_cons];by_cases c:x.n=nm
  .rw[zk c,lU,f,lS,J,nv];rfl
  .rw[yv c,sv,J];rfl
theorem M6(h:gL P q)(Y:q.length<=24)(hz:z∈q):rH [.l (q.map aF),.str z.n]=some (aF z):=by
 have g:=M7 z.n q;obtain⟨y,l,e⟩:∃y l,(q.filter λ x=>decide (x.n=z.n))=y::l:=by
  cases e:q.filter λ x=>decide (x.n=z.n)with
  |nil=>exact absurd (zk rfl) (List.filter_eq_nil_iff.mp e z hz)
  |cons y l=>exact⟨y,l,rfl⟩
 have J:y∈q.filter λ x=>decide (x.n=z.n):=by rw[e];exact qg ..
 rw[List.mem_filter,yf]at J;obtain rfl:y=z:=h.same J.1 hz J.2;rw[e,zc]at g;have sz:q.length<=sizeLine:=eY aE;have O:dW (aF y::l.map aF) 0=some (aF y):=JQ rfl;simp only[rH,MH];simp[g,sz,O]
theorem cl7(lo hi:bZ)(v:Int):nQ [.t [dO lo,dO hi],.int v]=some (.b (eP lo v&&eO hi v)):=by
 cases lo with
 |none=>cases hi with
  |none=>simp[nQ,rA,eR,fc,eP,eO]
  |some y=>simp[nQ,rA,eR,fc,eP,eO]
 |some x=>
  by_cases c:x<=v
  .cases hi with
   |none=>simp[nQ,rA,eR,fc,eP,eO,c]
   |some y=>simp[nQ,rA,eR,fc,eP,eO,c]
  .cases hi<;>simp[nQ,rA,eR,fc,eP,eO,c]
theorem Nh{p:α->Bool}{l:List α}(h:1<=(l.filter p).length):∃a∈l,p a=true:=by
 cases e:l.filter p with
 |nil=>rw[e]at h;cases h
 |cons a r=>
  have:a∈l.filter p:=by rw[e];exact qg ..
  exact⟨a,List.mem_filter.mp this⟩
theorem Ng{p:α->Bool}{l:List α}{a:α}(h:a∈l)(q:p a=true):1<=(l.filter p).length:=List.length_pos_of_mem (List.mem_filter.mpr ⟨h,q⟩)
theorem back_ok{P:aM}{J:de}{O:Str->List (Str×Bx)}(g:Og P J O)(hl:∀k∈P,k.length<=300){aO:ey}(M:uA J aO){nm:Str}{th:Th}{G:Str->List Th}(F:lj J nm th G)(t0:0<=th.1)(ib:xO J nm th)(hv:th.2.2.natAbs<=2^42)(hk:th.2.1∈P){m0:Int}(e0:cf nm aO=some (.int m0))(ah:m0<=th.1){x:Row}(hx:x∈J){one:Th}(h1:one∈G x.n):∃(n:Str)(c:Th)(m:Int)(G':Str->List Th),uo [.l (J.map aF),dct aO,.str x.n,el one]=some (kB n c)/\cf n aO=some (.int m)/\0<=m/\m<=c.1/\(∃z∈J,z.n=n/\∃lo hi,z.b=.inn lo hi/\(eP lo c.2.2&&eO hi c.2.2)=true)/\lj J n c G'/\G' x.n=[one]:=by
 obtain⟨i,hi⟩:=List.mem_iff_getElem?.mp hx;have il:=(fC.mp hi).1;have rl:=g.gd.wk.len;have H:=F.t0 x hx one h1;have X:=Z_ g.gd.wk.ok F hv i x hi one h1;have ok:=cF8 g.gd.wk.ok F hk i x hi one h1;have p1:2^(42+11*i)<=2^295:=fJ aE;have p2:2^(50+12*(i+1))<=2^429:=fJ aE;have p3:2^295<=2^429:=fJ aQ;have p4:2^429+2^429=2^430:=by rw[Nat.pow_succ 2 429];lia
 refine gn λ G' S=>?_;obtain⟨σ,_,T,ρ,V,_⟩:=JR g.gd.wk.hP g.gd.wk.ok g.gd.wk.w i x hi (g.gd.wk.c x hx) 50 (2^295) (kW one) (qj _) aE (fJ aQ) aE (cv0 ok H (qy X p1) Qu);have w:=V (i+1) aE;have o:∀p∈σ,Ca J p:=EG (i+1) x _ σ hx w;have I:=EH g.gd.wk.ok (i+1) x _ σ hx w (cq3 ok);have Q:=vA F t0 ib (i+1) x _ σ hx w;have u:1<=((G x.n).filter λ z=>bR (kW one) z.1 z.2.1 z.2.2).length:=Ng h1 (by rw[zK];exact zk rfl);rw[<-Q]at u;obtain⟨p,f,Y⟩:=Nh u;have Y:=Bool.and_eq_true_iff.mp Y;have pn:=jm Y.1;obtain⟨q,U,c,m,C,go,R,mp,W,j⟩:=M3 g.gd.wk hl M (.str x.n) (el one) σ .z .z .z (λ p f=>⟨T p f,o p f,I p f⟩) ⟨p,f,m0,by rw[pn];exact e0,th,t0,ah,Y.2⟩;have c0:0<=c.1:=aE;obtain⟨z,E,B,lo,N,A,D⟩:=o q C;obtain⟨G',h⟩:=EC g.gd.wk.ok q.1 (th:=c) c0 J.length (qj _);refine S ?_;rw[List.take_length]at h;have t:xO J q.1 c:=λ y d e am al l=>by
  cases g.gd.wk.ok.same E d (B.trans e.symm);rw[A]at l;cases l;exact D _ _ _ c0 j
 have Z:=cv3 g h c0 t i x hi;have K:=vA h c0 t (i+1) x _ σ hx w;have v:1<=(σ.filter λ p=>decide (p.1=q.1)&&lr p.2 c).length:=Ng C (by rw[zk rfl,j];rfl);rw[K]at v;obtain⟨y,d,s⟩:=Nh v;rw[zK,yf]at s;have e1:G' x.n=[one]:=by
  cases e:G' x.n with
  |nil=>rw[e]at d;cases d
  |cons a r=>
   rw[e]at Z d;cases r with
   |nil=>rw[<-pb d];exact Q1 (λ z=>[z]) s
   |cons b r=>rw[zg,zg]at Z;lia
 refine⟨q.1,c,m,G',?_,R,mp,W,⟨z,E,B,lo,N,A,D _ _ _ c0 j⟩,h,e1⟩;have tb:=XH H;have wb:=ρ 24 aE;generalize el one=od,dB (kW one)=bd at*;simp[uo,Kj,tb,wb,go]
theorem cp8{P:aM}{q:de}{O:Str->List (Str×Bx)}(g:Og P q O){aO:ey}{n Y:Str}{c one:Th}{m:Int}{J:Str->List Th}(em:cf n aO=some (.int m))(mp:0<=m)(mc:m<=c.1)(hz:∃z∈q,z.n=n/\∃lo hi,z.b=.inn lo hi/\(eP lo c.2.2&&eO hi c.2.2)=true)(F':lj q n c J)(hx:∃x∈q,x.n=Y)(e1:J Y=[one]):we [.l (q.map aF),dct aO,kB n c,.str Y,el one]=some (.b true):=by
 obtain⟨z,hz,l,lo,hi,j,o⟩:=hz;have e:=M6 g.gd.wk.ok g.gd.wk.len hz;rw[l]at e;have r3:bW (aF z) (.int 3)=some (.t [dO lo,dO hi]):=by obtain⟨H,G,I⟩:=z;cases j;rfl
 have f:=cl7 lo hi c.2.2;rw[o]at f;have fo:=ML g.gd.wk.ok g.gd.wk.w g.gd.wk.len g.gd.wk.c F';have td:el c=.t [.int c.1,.str c.2.1,.int c.2.2]:=rfl;rw[td]at fo;have h:=pX aO;have d:cf Y (g7 J q)=some (lT (J Y)):=Nd hx;rw[e1]at d;have E:=pX (g7 J q);have a:dI (lT [one])<=30:=by simp[lA]
 have Z:D.l [el one]=lT [one]:=rfl;have k:=Ec (lT [one]) a;have y:¬c.1<m:=aE;have F:ve (.d (g7 J q))=some (.c ((g7 J q).map (·.1)) ((g7 J q).map (·.2))):=rfl;have r:bW (kB n c) (.int 1)=some (.str n):=rfl;have p:bW (kB n c) (.int 0)=some (.str "thing"):=rfl;have t:bW (kB n c) (.int 2)=some (.int c.1):=rfl;have u:bW (kB n c) (.int 3)=some (.str c.2.1):=rfl;have v:bW (kB n c) (.int 4)=some (.int c.2.2):=rfl;have tt:l0 .tuple (kB n c)=true:=rfl;have A:iF [kB n c]=some (.int 5):=rfl;have C:nB (kB n c) (some 2) none=some (.t [.int c.1,.str c.2.1,.int c.2.2]):=by have B:¬(iq 5 0 (some 2)=0/\iq 5 5 none=5):=aQ;have i:jN [D.str "thing",D.str n,D.int c.1,D.str c.2.1,D.int c.2.2] (some 2) none=[.int c.1,.str c.2.1,.int c.2.2]:=rfl;simp[B,i]
 have dn:uW (.str n) (dct aO)=some (.b false):=by simp[h,em]
 have dx:kU (dct aO) (.str n)=some (.int m):=by simp[h,em]
 generalize hd:dct aO=ds,aa:kB n c=cm,g7 J q=fl,lT [one]=ac,el one=od at*;have lp:∀(s:Sl),c4 (gN 5) FY [.int c.1,.int c.2.2] [.i (.l (q.map aF)),.i ds,.i cm,.i (.str Y),.i od,s]=some (.nx [.i (.l (q.map aF)),.i ds,.i cm,.i (.str Y),.i od,.i (.int c.2.2)]):=λ s=>by
  simp[FY,iP,Ab]
 simp[we,Hv,tt,A,p,r,t,u,v,dn,dx,y,lp,e,r3,f,C,fo,E,d,Z,a,k]
theorem cl2{ns:ed}(q:ns.length<=63){o:MO}(ho:dM ns o)(s1 s3:Sl)(aO:ey)(x:Row)(hl:aO.length<90)(nn:x.n∉aO.map (·.1))(hc:gG x.b=true):∃(o':MO),dM ns o'/\((mZ x.b=false/\l9 [.o true o,s1,.o false (.d aO),.i (aF x)]=some (.nx [.o true o',s1,.o false (.d aO),.i (aF x)]))\/
   ∃m:bZ,mZ x.b=true/\(∀i,m=some i->0<=i)/\l9 [.o true o,s1,.o false (.d aO),.i (aF x)]=some (.nx [.o true o',s1,.o false (.d (aO++[(x.n,dO m)])),.i (aF x)])):=by
 have g:=qC x;obtain⟨Y,k,e1,_,h1⟩:=gb q ho;obtain⟨h,j,J,_,h2⟩:=gb q h1;have Z:=eZ Y (m:=40) aQ;have k1:aO.length<100:=aE;have k2:aO.length+1<100:=aE;have e:=MT nn (.int (Y.fmod 40));have d:=Dq nn .n (.int (Y.fmod 40));cases O:x.b with
 |inn lo hi=>
  have a:bW (aF x) (.int 0)=some (.str "in"):=by obtain⟨n,b,w⟩:=x;cases O;rfl
  refine⟨j,h2,.inr ?_⟩;by_cases c:h.fmod 6=1
  .refine⟨none,rfl,λ i z=>(by cases z),?_⟩;simp[l9,a,g,e1,J,e,d,k1,k2,c]
  .refine⟨some (Y.fmod 40),rfl,λ i z=>(by cases z;exact Z.1),?_⟩;simp[l9,a,g,e1,J,e,d,k1,k2,c]
 |pour fs=>
  have a:bW (aF x) (.int 0)=some (.str "pour"):=by obtain⟨n,b,w⟩:=x;cases O;rfl
  exact⟨o,ho,.inl ⟨rfl,by simp[l9,a,yX]⟩⟩
 |one f r=>
  have a:bW (aF x) (.int 0)=some (.str (dw r)):=by obtain⟨n,b,w⟩:=x;cases O;rfl
  exact⟨o,ho,.inl ⟨rfl,by simp[l9,a,Ct r]⟩⟩
 |oth=>rw[O]at hc;cases hc
abbrev du(J:List (Str×Option Int)):ey:=J.map λ q=>(q.1,dO q.2)
theorem MW(q:List (Str×Option Int)):(du q).map (·.1)=q.map (·.1):=by rw[zu];rfl
theorem DZ{ns:ed}(Z:ns.length<=63)(s1:Sl):∀(l:de)(o:MO)(J:List (Str×Option Int))(s3:Sl),dM ns o->(∀x∈l,gG x.b=true)->(l.map (·.n)).Nodup->(∀x∈l,x.n∉J.map (·.1))->J.length+l.length<90->∃(o':MO)(O:List (Str×Option Int))(Y:Sl),dM ns o'/\O.map (·.1)=(l.filter λ x=>mZ x.b).map (·.n)/\(∀q∈O,∀i,q.2=some i->0<=i)/\c4 (gN 3) l9 (l.map aF) [.o true o,s1,.o false (.d (du J)),s3]=some (.nx [.o true o',s1,.o false (.d (du (J++O))),Y])
 |[],o,J,s3,f,_,_,_,_=>⟨o,[],s3,f,rfl,λ q c=>(by cases c),by rw[yd];rfl⟩
 |x::l,o,J,s3,f,j,nd,k,r=>by
  rw[zc,List.nodup_cons]at nd;rw[zg]at r;have h:=λ y a=>j y (qh x a);have g:=λ y a=>k y (qh x a);have step:c4 (gN 3) l9 ((x::l).map aF) [.o true o,s1,.o false (.d (du J)),s3]=qL (gN 3) l9 (l.map aF) (l9 [.o true o,s1,.o false (.d (du J)),.i (aF x)]):=by rw[zc,iP];show iC _ _ _ (some [.o true o,s1,.o false (.d (du J)),.i (aF x)])=_;rw[jB]
  obtain⟨p,h1,st⟩:=cl2 Z f s1 s3 (du J) x (by rw[qx];lia) (by rw[MW];exact k x (qg ..)) (j x (qg ..));rw[step];rcases st with⟨e,st⟩|⟨m,e,t,st⟩
  .obtain⟨o',O,Y,h2,e1,d,go⟩:=DZ Z s1 l p J (.i (aF x)) h1 h nd.2 g aE;exact⟨o',O,Y,h2,by rw[e1,Qy (by rw[e];decide)],d,by rw[st,iQ,go]⟩
  .have s:du J++[(x.n,dO m)]=du (J++[(x.n,m)]):=by show _=List.map _ (J++_);rw[zx];rfl
   rw[s]at st;obtain⟨o',O,Y,h2,e1,d,go⟩:=DZ Z s1 l p (J++[(x.n,m)]) (.i (aF x)) h1 h nd.2 (λ y a z=>by
    rw[zx,Yn]at z;rcases z with z|z
    .exact g y a z
    .have z:y.n=x.n:=qv z;exact nd.1 (by rw[<-z];exact Zm a)) (by rw[zm];simp;lia)
   refine⟨o',(x.n,m)::O,Y,h2,by rw[List.filter_cons_of_pos (by rw[e])];simp[e1],λ q c i z=>?_,by rw[st,iQ,go,Z5];rfl⟩;rcases qt c with rfl|c
   .exact t i z
   .exact d q c i z
structure Mk(rs:de)(ms:List (Str×Option Int)):Prop where
 nm:ms.map (·.1)=(rs.filter λ x=>mZ x.b).map (·.n)
 p:∀q∈ms,∀i,q.2=some i->0<=i
theorem cq8(O:ns.length<=63)(Z:dM ns o)(h:Wk P J):∃(q:List (Str×Option Int))(o':MO),uy o [.l (J.map aF)]=some (dct (du q),o')/\Mk J q/\dM ns o':=by
 have a:=h.len;refine dN (DZ O (.i (.l (J.map aF))) J o [] .z Z h.c h.ok.nd (λ _ _ z=>by cases z) (by rw[jb];lia)) λ o' q b h2 e1 Y go=>?_;rw[Zl,show du []=[]from rfl]at go;refine⟨q,o',?_,⟨e1,Y⟩,h2⟩;generalize du q=aO at go⊢;simp[uy,IM,go,ma]
theorem EL:∀{J:List (Str×Option Int)},n∈J.map (·.1)->∃q∈J,q.1=n/\cf n (du J)=some (dO q.2)
 |q::J,h=>by
  by_cases c:q.1=n
  .exact⟨q,qg ..,c,by simp[cf,c]⟩
  .rw[zc,y9]at h;refine a_ (EL (h.resolve_left λ z=>c z.symm)) λ p O e g=>?_;exact⟨p,qh _ O,e,by rw[<-g];grind [cf]⟩
theorem Mk.mks(M:Mk O J):uA O (du J):=⟨λ z b Z=>by
 have Y:z.n∈J.map (·.1):=by rw[M.nm];exact Zm (List.mem_filter.mpr ⟨b,Z⟩)
 obtain⟨q,a,_,e⟩:=EL Y;exact⟨q.2,e,M.p q a⟩⟩
theorem MZ:∀{J:List (Str×Option Int)},(J.map (·.1)).Nodup->∀q∈J,cf q.1 (du J)=some (dO q.2)
 |p::J,nd,q,h=>by
  rw[zc,List.nodup_cons]at nd;rcases qt h with rfl|h
  .simp[cf]
  .have:=MZ nd.2 q h;have O:p.1≠q.1:=λ z=>nd.1 (by rw[z];exact Zm h);rw[<-this];grind [cf]
theorem Mk.same{P:aM}{Z:de}(h:Wk P Z){J:List (Str×Option Int)}(M:Mk Z J):sO (dct (du J)) (dct (du J))=some (.b true):=by
 have nd:(J.map (·.1)).Nodup:=by rw[M.nm];exact h.ok.nd.sublist (List.filter_sublist.map _)
 have O:List.all ((du J).map (·.2)) jP=true:=by rw[zu,List.all_map,Yb];intro q Y;show jP (dO q.2)=true;cases q.2<;>rfl
 have b:=pX (du J);show sO (.c ((du J).map (·.1)) ((du J).map (·.2))) (.c ((du J).map (·.1)) ((du J).map (·.2)))=_;rw[cH1,if_pos ⟨O,O⟩,b];congr 2;unfold vL;rw[ze,Jb];refine⟨rfl,wm.mpr λ p a=>?_⟩;obtain⟨q,Y,rfl⟩:=lC.mp a;show Ai (dO q.2) (cf q.1 (du J))=true;rw[MZ nd q Y];show cJ (dO q.2) (dO q.2)=true;exact Ec _ (by rw[VZ];decide)
def tw(lo:bZ)(v:Int):Int:=match lo with|none=>v|some l=>if l>v then l else v
def sX(hi:bZ)(w:Int):Int:=match hi with|none=>w|some h=>if h<w then h else w
def nI(lo hi:bZ)(v:Int):Int:=sX hi (tw lo v)
abbrev ivQ(ns:ed)(o:MO)(lo hi:bZ):Prop:=∃(v:Int)(o':MO),wM o [.t [dO lo,dO hi]]=some (.int v,o')/\(eP lo v&&eO hi v)=true/\v.natAbs<=2^42/\dM ns o'
theorem ci9{ns:ed}(q:ns.length<=63){o:MO}(ho:dM ns o){lo hi:bZ}(o1:St.OB lo (2^40))(o2:St.OB hi (2^40))(o3:∀a b,lo=some a->hi=some b->a<=b):ivQ ns o lo hi:=by
 obtain⟨c,r,e1,_,h1⟩:=gb q ho;obtain⟨O,g,h,_,h2⟩:=gb q h1;have t:=eZ c (m:=61) aQ;have B:=eZ O (m:=2) aQ;obtain⟨d,Z,hd⟩:∃d:bZ,dW [dO lo,dO hi] (O.fmod 2)=some (dO d)/\(d=lo\/d=hi):=by
  rcases(show O.fmod 2=0\/O.fmod 2=1 by lia)with z|z<;>rw[z]
  .exact⟨lo,rfl,.inl rfl⟩
  .exact⟨hi,rfl,.inr rfl⟩
 have n:∀x,d=some x->x.natAbs<=2^40:=λ x e=>by
  rcases hd with z|z
  .exact o1 x (z▸e)
  .exact o2 x (z▸e)
 have w:2^40=1099511627776:=rfl;have u:2^42=4398046511104:=rfl;have fin:∀(v:Int)(p:MO),dM ns p->v.natAbs<=2^41->Rt (aR (bX (tB (e2 kj (e2 bW (eV 1) (zI 0)) (eC .n)))
   (bH 2 (eF nG (aC (eV 2) (aC (e2 bW (eV 1) (zI 0)) aN)))) sN) (aR (bX (tB (e2 kj (e2 bW (eV 1) (zI 1)) (eC .n)))
   (bH 2 (eF oP (aC (eV 2) (aC (e2 bW (eV 1) (zI 1)) aN)))) sN) (bU (eV 2))) [.o true p,.i (.t [dO lo,dO hi]),.i (.int v),.i (dO d)]) (.int (nI lo hi v)) p:=λ v p f Y=>by
  cases lo with
  |none=>cases hi with
   |none=>exact⟨_,by simp[eR,fc,nI,sX,tw];first|rfl|exact⟨rfl,rfl⟩⟩
   |some y=>exact⟨_,by simp[eR,fc,nI,sX,tw];first|rfl|exact⟨rfl,rfl⟩⟩
  |some x=>cases hi with
   |none=>exact⟨_,by simp[eR,fc,nI,sX,tw];first|rfl|exact⟨rfl,rfl⟩⟩
   |some y=>exact⟨_,by simp[eR,fc,nI,sX,tw];first|rfl|exact⟨rfl,rfl⟩⟩
 have J:∀v:Int,v.natAbs<=2^41->(eP lo (nI lo hi v)&&eO hi (nI lo hi v))=true/\(nI lo hi v).natAbs<=2^42:=λ v Y=>by
  unfold nI sX tw;have i:2^41=2199023255552:=rfl;cases lo with
  |none=>cases hi with
   |none=>exact⟨rfl,by dsimp only;lia⟩
   |some y=>
    have:=o2 y rfl;dsimp only;split<;>simp[eP,eO]<;>lia
  |some x=>
   have:=o1 x rfl;cases hi with
   |none=>
    dsimp only;split<;>simp[eP,eO]<;>lia
   |some y=>
    have:=o2 y rfl;have:=o3 x y rfl rfl;dsimp only;split<;>split<;>simp[eP,eO]<;>lia
 have Z:bW (.t [dO lo,dO hi]) (.int (O.fmod 2))=some (dO d):=by simp[Z]
 have go:∀(v:Int)(p:MO),dM ns p->v.natAbs<=2^41->bX OW (bH 2 (e2 ij (e2 c_ (eV 3) (e2 dZ (dU 0 eu aN) (zI 25))) (zI 12))) sN [.o true g,.i (.t [dO lo,dO hi]),.i (.int (c.fmod 61-30)),.i (dO d)]=some (.nx [.o true p,.i (.t [dO lo,dO hi]),.i (.int v),.i (dO d)])->∃(v:Int)(o':MO),wM o [.t [dO lo,dO hi]]=some (.int v,o')/\(eP lo v&&eO hi v)=true/\v.natAbs<=2^42/\dM ns o':=λ v p f Y e=>by
  obtain⟨j,k⟩:=J v Y;refine⟨_,p,Rt.fn rfl (Rt.seq (ρ':=[.o true r,.i (.t [dO lo,dO hi]),.i (.int (c.fmod 61-30)),.z]) (by simp[e1]) (Rt.seq (ρ':=[.o true g,.i (.t [dO lo,dO hi]),.i (.int (c.fmod 61-30)),.i (dO d)]) (by
   generalize D.t [dO lo,dO hi]=bd at Z⊢;simp[h,Z]) (Rt.seq e (fin v p f Y)))),j,k,f⟩
 have i:2^41=2199023255552:=rfl;cases d with
 |none=>exact go (c.fmod 61-30) g h2 aE bP
 |some y=>
  obtain⟨r3,s,e3,_,l⟩:=gb q h2;have A:=eZ r3 (m:=25) aQ;have:=n y rfl;exact go (y+r3.fmod 25-12) s l aE (by simp[e3])
theorem cz9(G:Str->List Th)(q:de):oT ((g7 G q).map (·.1)) ((g7 G q).map (·.2))=q.map λ x=>.t [.str x.n,lT (G x.n)]:=by unfold oT;rw[pX,zu];rfl
structure xy(P:aM)(rs:de)(O:Str->List (Str×Bx))(aO:ey)(nm:Str)(th:Th)(G:Str->List Th):Prop where
 g:Og P rs O
 hl:∀k∈P,k.length<=300
 M:uA rs aO
 F:lj rs nm th G
 t0:0<=th.1
 ib:xO rs nm th
 hv:th.2.2.natAbs<=2^42
 hk:th.2.1∈P
 mkr:∃m0:Int,cf nm aO=some (.int m0)/\m0<=th.1
theorem cq2{P:aM}{J:de}{O:Str->List (Str×Bx)}{aO:ey}{nm:Str}{th:Th}{G:Str->List Th}(W:xy P J O aO nm th G){x:Row}(hx:x∈J){one:Th}(h1:one∈G x.n)(s0 s1 s2 s6 s7 Z s9 q:Sl):zZ [s0,s1,s2,.i (.l (J.map aF)),.i (dct aO),.i (dct aO),s6,s7,Z,s9,.i (.str x.n),q,.i (el one)]=some (.nx [s0,s1,s2,.i (.l (J.map aF)),.i (dct aO),.i (dct aO),s6,s7,Z,s9,.i (.str x.n),q,.i (el one)]):=by
 obtain⟨j,e0,Y⟩:=W.mkr;obtain⟨n,c,m,i,b,d,h,f,e,a,e1⟩:=back_ok W.g W.hl W.M W.F W.t0 W.ib W.hv W.hk e0 Y hx h1;have r:=cp8 (one:=one) W.g d h f e a ⟨x,hx,rfl⟩ e1;generalize kB n c=cm,el one=od,dct aO=ds at*;simp[zZ,b,r]
theorem M9{P:aM}{rs:de}{O:Str->List (Str×Bx)}{aO:ey}{nm:Str}{th:Th}{G:Str->List Th}(W:xy P rs O aO nm th G){x:Row}(hx:x∈rs)(s0 s1 s2 s6 Z Y s9 q:Sl):∀(l:List Th)(J:Sl),(∀z∈l,z∈G x.n)->∃aa,c4 (gN 12) zZ (l.map el) [s0,s1,s2,.i (.l (rs.map aF)),.i (dct aO),.i (dct aO),s6,Z,Y,s9,.i (.str x.n),q,J]=some (.nx [s0,s1,s2,.i (.l (rs.map aF)),.i (dct aO),.i (dct aO),s6,Z,Y,s9,.i (.str x.n),q,aa])
 |[],J,_=>⟨J,rfl⟩
 |z::l,J,h=>by
  obtain⟨a,go⟩:=M9 W hx s0 s1 s2 s6 Z Y s9 q l (.i (el z)) λ y b=>h y (qh _ b);have st:=cq2 W hx (h z (qg ..)) s0 s1 s2 s6 Z Y s9 q;refine⟨a,?_⟩;rw[zc,iP];show iC _ _ _ (some [s0,s1,s2,.i (.l (rs.map aF)),.i (dct aO),.i (dct aO),s6,Z,Y,s9,.i (.str x.n),q,.i (el z)])=_;rw[jB,st,iQ,go]
theorem MM{P:aM}{rs:de}{O:Str->List (Str×Bx)}{aO:ey}{nm:Str}{th:Th}{G:Str->List Th}(W:xy P rs O aO nm th G)(s0 s1 s2 s6 s7 Z s9:Sl):∀(l:de)(J Y q:Sl),(∀x∈l,x∈rs)->∃aa af ac,c4 (gT [10,11]) zY (l.map λ x=>.t [.str x.n,lT (G x.n)]) [s0,s1,s2,.i (.l (rs.map aF)),.i (dct aO),.i (dct aO),s6,s7,Z,s9,J,Y,q]=some (.nx [s0,s1,s2,.i (.l (rs.map aF)),.i (dct aO),.i (dct aO),s6,s7,Z,s9,aa,af,ac])
 |[],J,Y,q,_=>⟨J,Y,q,rfl⟩
 |x::l,J,Y,q,h=>by
  obtain⟨a,st⟩:=M9 W (h x (qg ..)) s0 s1 s2 s6 s7 Z s9 (.i (lT (G x.n))) (G x.n) q λ _ z=>z;obtain⟨c,d,b,go⟩:=MM W s0 s1 s2 s6 s7 Z s9 l (.i (.str x.n)) (.i (lT (G x.n))) a λ y e=>h y (qh _ e);refine⟨c,d,b,?_⟩;rw[zc,iP];show iC _ _ _ (some [s0,s1,s2,.i (.l (rs.map aF)),.i (dct aO),.i (dct aO),s6,s7,Z,s9,.i (.str x.n),.i (lT (G x.n)),q])=_;have st:zY [s0,s1,s2,.i (.l (rs.map aF)),.i (dct aO),.i (dct aO),s6,s7,Z,s9,.i (.str x.n),.i (lT (G x.n)),q]=some (.nx [s0,s1,s2,.i (.l (rs.map aF)),.i (dct aO),.i (dct aO),s6,s7,Z,s9,.i (.str x.n),.i (lT (G x.n)),a]):=by simp only[zY];simp[st]
  rw[jB,st,iQ,go]
abbrev piQ(ns:ed)(o:MO)(Y:aM)(Z:de)(J:List (Str×Option Int))(s0 s6 s7 s8 s9 ac af ae:Sl):Prop:=∃(o':MO)(t7 t8 t9 ao ap am:Sl),dM ns o'/\vd [s0,.o false o,.i (.l (Y.map .str)),.i (.l (Z.map aF)),.i (dct (du J)),.i (dct (du J)),s6,s7,s8,s9,ac,af,ae]=some (.nx [s0,.o false o',.i (.l (Y.map .str)),.i (.l (Z.map aF)),.i (dct (du J)),.i (dct (du J)),s6,t7,t8,t9,ao,ap,am])
theorem cm6{ns:ed}(aa:ns.length≤63){o:MO}(ho:dM ns o){Y:aM}(hp:pJ Y){Z:de}{O:Str→jT}(g:Og (Y++[kf]) Z O){J:List (Str×Option Int)}(M:Mk Z J)(s0 s6 s7 s8 s9 ac af ae:Sl):piQ ns o Y Z J s0 s6 s7 s8 s9 ac af ae:=by
 obtain⟨r1,o1,e1,_,h1⟩:=gb aa ho;obtain⟨f0,a3,ay,X,ρ,_⟩:=g.gd.z;have rl:=g.gd.wk.len;have ml:J.length<=24:=by
  have a:=Q1 List.length M.nm;rw[qx,qx]at a;have:=Q8 (λ x:Row=>mZ x.b) Z
  lia
 have mp:0<J.length:=by
  have a:=Q1 List.length M.nm;rw[qx,qx]at a;have:=List.length_pos_of_mem (show f0∈Z.filter (λ x=>mZ x.b)from List.mem_filter.mpr ⟨zf X,by rw[ρ];rfl⟩)
  lia
 have P:¬(J.length:Int)=0:=aE;have H:¬J.length=0:=aE;have σ:=eZ r1 (m:=(J.length:Int)) aE;obtain⟨nm,r,l⟩:=pH D.str (J.map (·.1)) σ.1 (by rw[qx];exact σ.2);obtain⟨q,hq,eq,N⟩:=EL r;have zz:=pX (du J);have kl:((du J).map (·.1)).length=J.length:=by rw[qx,qx]
 have km:(du J).map (·.1)=J.map (·.1):=MW J;have V:J.length<=1000:=aE;have s:Al [dct (du J)]=some (.l ((J.map (·.1)).map .str)):=by show some (D.l (((du J).map (·.1)).map .str))=_;rw[km]
 have I:AA [dct (du J)]=some (.int J.length):=by show(if((du J).map (·.1)).length<=1000 then some (D.int (((du J).map (·.1)).length))else none)=_;rw[kl,if_pos V]
 have dx:kU (dct (du J)) (.str nm)=some (dO q.2):=by show kU (.c ((du J).map (·.1)) ((du J).map (·.2))) (.str nm)=_;rw[cf4,zz,N]
 generalize (J.map (·.1)).map D.str=a2 at s l;cases j:q.2 with
 |none=>
  rw[j]at dx;refine⟨o1,.i (.str nm),s8,s9,ac,af,ae,h1,?_⟩;generalize dct (du J)=ds at*;simp only[vd];simp[e1,s,I,P,H,l,dx]
 |some m=>
  have dx:kU (dct (du J)) (.str nm)=some (.int m):=by rw[dx,j];rfl
  have m0:=M.p q hq m j;have d:∃z∈Z,z.n=nm/\mZ z.b=true:=by rw[M.nm]at r;obtain⟨z,d,e⟩:=lC.mp r;have d:=List.mem_filter.mp d;exact⟨z,d.1,e,d.2⟩
  obtain⟨z,d,K,C⟩:=d;obtain⟨lo,hi,t⟩:∃lo hi,z.b=.inn lo hi:=by
   cases u:z.b with
   |inn lo hi=>exact⟨lo,hi,rfl⟩
   |_=>rw[u]at C;cases C
  obtain⟨i,au⟩:=List.mem_iff_getElem?.mp d;obtain⟨p1,p2,p3,_⟩:=(g.gd.wk.ok.ok i z au).inn lo hi t;obtain⟨v,o2,ev,u,hv,h2⟩:=ci9 aa h1 p1 p2 p3;obtain⟨f,o3,e3,_,h3⟩:=gb aa h2;obtain⟨r3,Q,e4,_,h4⟩:=gb aa h3;have ax:=eZ f (m:=60) aQ;have E:=eZ r3 (m:=10) aQ;obtain⟨k,A,h⟩:=pH D.str (Y++[kf]) E.1 (by rw[zm,hp.n9];exact E.2);rw[zx]at h;have h:dW (Y.map .str++[.str "q"]) (r3.fmod 10)=some (.str k):=h;have lz:Y.length+1<=sizeLine:=eY (by rw[hp.n9];decide);have R:=M6 g.gd.wk.ok g.gd.wk.len d;rw[K]at R;have aw:bW (aF z) (.int 3)=some (.t [dO lo,dO hi]):=by obtain⟨zn,zb,zw⟩:=z;cases t;rfl
  have S:0<=m+f.fmod 60:=aE;obtain⟨G,F⟩:=EC g.gd.wk.ok nm (th:=(m+f.fmod 60,k,v)) S Z.length (qj _);rw[List.take_length]at F;have W:xy (Y++[kf]) Z O (du J) nm (m+f.fmod 60,k,v) G:=⟨g,λ k A=>by
    rcases qw A with z|z
    .exact hp.len k z
    .rw[pb z];decide+kernel,M.mks,F,S,λ y hy e a0 az B=>by
    cases g.gd.wk.ok.same d hy (K.trans e.symm);rw[t]at B;cases B;exact u,hv,A,m,by rw[N,j];rfl,by show m<=m+f.fmod 60;lia⟩
  have fo:=ML g.gd.wk.ok g.gd.wk.w g.gd.wk.len g.gd.wk.c F;have fo:rj [.l (Z.map aF),.str nm,.t [.int (m+f.fmod 60),.str k,.int v]]=_:=fo;obtain⟨av,as,T,go⟩:=MM W s0 (.o false Q) (.i (.l (Y.map .str))) s6 (.i (.str nm)) (.i (.int v)) (.i (.t [.int (m+f.fmod 60),.str k,.int v])) Z ac af ae λ _ z=>z;have it:=cz9 G Z;rw[<-it]at go;refine⟨Q,.i (.str nm),.i (.int v),.i (.t [.int (m+f.fmod 60),.str k,.int v]),av,as,T,h4,?_⟩;generalize dct (du J)=ds,g7 G Z=fl at*;simp only[vd];simp[e1,s,I,P,H,l,dx,R,aw,ev,e3,e4,h,lz,fo];exact go
theorem Sr(ns:ed):∃o,v8 [.l (ns.map .int)]=some o/\dM ns o:=by obtain⟨x,e⟩:=C0 ns (k:=0) aQ;refine⟨.d (gC ns (x.fmod 2) 0 1 x 0),?_,x.fmod 2,0,1,x,0,rfl,by decide,by decide,by decide⟩;simp[v8,qO,Hs,sC,Ae,e,dX,h8,gC];decide+kernel
theorem MV{ns:ed}(aa:ns.length≤63){q:aM}(hp:pJ q){rs:de}{O:Str→jT}(g:Og (q++[kf]) rs O){ms:List (Str×Option Int)}(M:Mk rs ms)(s0:Sl):∀(m:Nat)(lo:Int)(o:MO)(s6 s7 s8 s9 J Z Y:Sl),dM ns o→∃(o':MO)(t6 t7 t8 t9 af aj ah:Sl),c4 (gN 6) vd (fQ lo m) [s0,.o false o,.i (.l (q.map .str)),.i (.l (rs.map aF)),.i (dct (du ms)),.i (dct (du ms)),s6,s7,s8,s9,J,Z,Y]=
   some (.nx [s0,.o false o',.i (.l (q.map .str)),.i (.l (rs.map aF)),.i (dct (du ms)),.i (dct (du ms)),t6,t7,t8,t9,af,aj,ah])
 |0,lo,o,s6,s7,s8,s9,J,Z,Y,a=>⟨o,s6,s7,s8,s9,J,Z,Y,rfl⟩
 |m+1,lo,o,s6,s7,s8,s9,J,Z,Y,a=>by
  obtain⟨s,b,c,d,f,k,j,h1,st⟩:=cm6 aa a hp g M s0 (.i (.int lo)) s7 s8 s9 J Z Y;obtain⟨t,l,n,p,r,i,h,e,go⟩:=MV aa hp g M s0 m (lo+1) s (.i (.int lo)) b c d f k j h1;refine⟨t,l,n,p,r,i,h,e,?_⟩;show c4 _ _ (D.int lo::fQ (lo+1) m) _=_;rw[iP];show iC _ _ _ (some [s0,.o false o,.i (.l (q.map .str)),.i (.l (rs.map aF)),.i (dct (du ms)),.i (dct (du ms)),.i (.int lo),s7,s8,s9,J,Z,Y])=_;rw[jB,st,iQ,go]
theorem mi(ns:ed)(q:ns.length<=63):rW [.l (ns.map .int)]=some (.b true):=by
 obtain⟨u,e0,d⟩:=Sr ns;obtain⟨J,v,e1,Y,e⟩:=Te q d;obtain⟨n,w,c,Z,f⟩:=Rk q e (P:=J++[kf]) (by rw[zm,Y.n9];decide) Y.n9 Y.nd λ _ z=>yn _ z;obtain⟨y,e3,a,ps⟩:=XR Z;obtain⟨O,g⟩:=ZT a ps;obtain⟨b,i,e4,M,h⟩:=cq8 q f a.wk;obtain⟨x,p,r,s,t,m,o,k,l⟩:=MV q Y g M (.i (.l (ns.map .int))) 12 0 i .z .z .z .z .z .z .z h;have j:=M.same a.wk;have bd:Aj [dct (du b)]=some (dct (du b)):=rfl;generalize dct (du b)=ds at*;simp only[rW,Mn];simp[e0,e1,c,e3,e4,bd,l,j]
open PySem.Spec PyProof.Rows L2
theorem H4{K:Frag}{H:Hp}:∀ns:ed,aD K H (ns.map D.int) (ns.map V.int)
 |[]=>aD.nil_
 |n::r=>aD.cons (gE H n) (H4 r)
inductive bF(K:Frag)(x:Str)(st:Stmt)(f:Addr):Prop
 |mk {od an:kD}{sl:Array (kC)}{oc kV dc pm cd ct:Value} (a:nsIn K mainGlobals x=some (some (.ref f))) (l:K.lookup f=some ⟨oc,od,.func (fnOf x x (n5 st) (gQ st) (bA st) .none kV dc pm an cd ct),sl⟩) (c:codeIn K cd x=true) (k:keepIn K (.ref f)=true):bF K x st f
inductive lN(K:Frag)(x:Str)(st:Stmt)(f:Addr)(P:Addr):Prop
 |mk {od an:kD}{sl:Array (kC)}{oc kV dc pm ct:Value}{cL:Addr} (a:nsIn K mainGlobals x=some (some (.ref f))) (l:K.lookup f=some ⟨oc,od,.func (fnOf x x (n5 st) (gQ st) (bA st) .none kV dc pm an (.ref cL) ct),sl⟩) (c:codeIn K (.ref cL) x=true) (k:keepIn K (.ref f)=true) (h:PySem.W.codeHdIn K cL P=true):lN K x st f P
inductive pC(K:Frag)(st:Stmt)(f:Addr):Prop
 |mk {od an:kD}{sl:Array (kC)}{oc kV dc pm cd ct:Value} (l:K.lookup f=some ⟨oc,od,.func (fnOf "__init__" "NoWorks.__init__" (n5 st) (gQ st) (bA st) .none kV dc pm an cd ct),sl⟩) (c:codeIn K cd "NoWorks.__init__"=true) (k:keepIn K (.ref f)=true):pC K st f
theorem F0{P:bO->Prop}(h:P [])(us:bO)(l:us.length=0):P us:=by
 cases us with
 |nil=>exact h
 |cons=>cases l
theorem wN{n:Nat}{P:bO->Prop}(h:∀a us,us.length=n->P (a::us))(us:bO)(l:us.length=n+1):P us:=by
 cases us with
 |nil=>cases l
 |cons a r=>exact h a r (Nat.succ.inj l)
theorem dn{K:Frag}{mg:Str->Option Value}{x:Str}{st:Stmt}{f:Addr}{ps:aM}(N:∀{x v},nsIn K mainGlobals x=some (some v)->mg x=some v)(e:bF K x st f)(h:∀(kV J O:Value)(Y:kD)(q ct:Value)(us:bO),us.length=ps.length->bindArgs (fnOf x x (n5 st) (gQ st) (bA st) .none kV J O Y q ct) ⟨us,[]⟩=pure (ps.zip us):=by intro _ _ _ _ _ _;(repeat' refine wN λ _=>?_);exact F0 rfl):Dn K mg x st ps:=by obtain⟨a,l,c,k⟩:=e;have F:=vO (st:=st) l c k;exact⟨_,_,F,F.binds h,N a⟩
theorem us1{P:bO->Prop}(h:∀q,P [q]):∀us:bO,us.length=1->P us
 |[_],_=>h ..
abbrev m6(K:Frag)(n:Str)(v:Value):Prop:=nsIn K mainGlobals n=some (some v)
abbrev gH(K:Frag)(n:Str):Prop:=nsIn K mainGlobals n=some none
abbrev qZ(K:Frag)(a:Addr)(x:g9)(n)(s):=K.lookup a=some ⟨.type "tuple",none,.seq x n,s⟩
abbrev nP(K:Frag)(u:Addr)(n:Str):=PySem.W.findIn K (.ref u) n
theorem pW{l:OpenLaw}{w:World}{K:Frag}{h:Heap}{mg:Str→kC}(X:K.In h)(G:h.Ns mainGlobals mg)(bq:mg "law"=some (.ref fa))(e1:bF K "keys_hold" N7 f1)(e2:bF K "keys_meet" oZ f2)(e3:bF K "keys_put_back" qJ f3)(e4:lN K "keys_some" rB f4 42)(e5:bF K "stretch_made" NO f5)(e6:bF K "is_between" NZ f6)(e7:bF K "stretch_has" NS f7)(e8:bF K "lower_bound" NT f8)(e9:bF K "upper_bound" NR f9)(b7:bF K "stretch_between" NJ f10)(ao:bF K "stretch_above" Ia f11)(a0:bF K "stretch_below" HV f12)(bp:bF K "stretch_moved" vV f13)(am:bF K "divisor_and_factor" E3 f14)(cc:bF K "stretch_back" Fd f15)(ba:bF K "stretch_meet" NN f16)(ce:lN K "nearest" zH f17 130)(bx:bF K "stretch_some" BH f18)(bf:bF K "box_made" Ou f19)(bi:bF K "box_meet" Ot f20)(aj:bF K "thing_box" Kt f21)(c1:bF K "box_some" JT f22)(cy:bF K "boxes_met" ra f23)(a5:bF K "box_sieved" N0 f24)(as:bF K "box_later" N8 f25)(aq:bF K "row_back" Oq f26)(ap:bF K "row_named" Fv f27)(b2:bF K "in_box" Hj f28)(cp:bF K "in_boxes" Dh f29)(ay:bF K "ways_back" tr f30)(cz:bF K "back_coming" BQ f31)(al:bF K "origins_of" NX f32)(bw:bF K "one_comes_twice" E8 f33)(b9:bF K "check_works" Fg f34)(b3:bF K "_law_cell_at" NU f35)(cw:bF K "_law_mixed" N6 f36)(cn:bF K "_law_draws" Fy f37)(cb:bF K "_law_next" FZ f38)(a7:bF K "_law_pool" wA f39)(bn:bF K "_law_through" BP f40)(br:bF K "_law_unlike" v_ f41)(be:bF K "_law_bounds" NY f42)(ar:bF K "_law_sieve" wj f43)(az:bF K "_law_parted" Fo f44)(ak:bF K "_law_poured" wa f45)(cr:bF K "_law_chains" qQ f46)(bz:bF K "_law_let_by" Fp f47)(bo:bF K "_law_marks" CO f48)(cx:bF K "_law_flows" q_ f49)(a6:bF K "_law_row" uP f50)(c2:bF K "_law_within" Ks f51)(bh:bF K "_law_in_value" Ic f52)(cm:bF K "_law_coming_right" Bp f53)(aw:bF K "law" pS f54)(y1:m6 K "LETTERS" (.str "abcdefghijklmnopqrstuvwxyz" tc1))(y2:m6 K "LONGEST" (.int 8 tc2))(q:qZ K ec31 #[] nec31 slec31)(ah:qZ K ec3 #[.str "but" tec30,.ref ec31] nec3 slec3)(y3:m6 K "EVERY_KEY" (.ref ec3))(ac:qZ K ec4 #[.none,.none,.int 1 tec42,.int 0 tec43] nec4 slec4)(y4:m6 K "EVERY_VALUE" (.ref ec4))(O:qZ K ec5 #[.str "in" tec50,.str "time" tec51,.str "only" tec52,.str "but" tec53,.str "span" tec54,.str "rest" tec55,.str "turn" tec56,.str "later" tec57,.str "put" tec58,.str "pour" tec59] nec5 slec5)(y5:m6 K "CHAINS" (.ref ec5))(q0:m6 K "NoWorks" (.ref u0))(q2:m6 K "WellError" (.ref u2))(q3:nP K u0 "__init__"=some (some (.ref u3)))(q4:pC K zA u3)(q5:vb K u0 u3=true)(q6:MS K u0=true)(q7:nP K u0 "__setattr__"=some (some (.builtin "object.__setattr__")))(q8:nP K u0 "at"=some none)(q9:nP K u0 "__getattribute__"=some (some (.builtin "BaseException.__getattribute__")))(b8:nP K u0 "__getattr__"=some none)(cq:nP K u0 "__class__"=some (some (.builtin "object.__class__")))(cg:PySem.W.specialIn K (.builtin "object.__class__") "__get__"=some (some (.builtin "getset_descriptor.__get__")))(av:PySem.W.takesIn K (.builtin "object.__class__")=some true)(Y:PySem.W.mroIn K u0 (.type "object")=some true)(bj:PySem.W.mroIn K u0 (.type "BaseException")=some true)(cj:PySem.W.exmOne K (.ref u0) (.ref u2)=some true)(an:PySem.W.kitOne K (.ref u0) (.ref u0)=some true)(cl:PySem.W.kitOne K (.type "NoneType") (.ref u0)=some false)(b6:PySem.W.exmOne K (.ref u0) (.ref u0)=some true)(z1:gH K "abs")(z2:gH K "len")(z3:gH K "max")(z4:gH K "min")(z5:gH K "any")(z6:gH K "all")(z7:gH K "range")(z8:gH K "isinstance")(z9:gH K "int")(a2:gH K "bool")(b0:gH K "str")(bg:gH K "tuple")(a9:gH K "list")(ca:gH K "sorted")(bc:gH K "dict")(cv:gH K "set")(cu:gH K "sum")(c3:gH K "zip")(bu:gH K "enumerate")(co:gH K "reversed"):∃fd:FuncData,(∀(s:Shared)(v:Value),BindsTo s fd ⟨[v],[]⟩ [("_law_script",v)])∧∀base:Heap,K.In base→base.Ns mainGlobals mg→cR l.prog w K mg base fX 35 fa fd ["_law_script"] (qY K rW):=by
 obtain⟨o,V,I,S,R⟩:=e4;obtain⟨B,C,n,m,H⟩:=ce;obtain @⟨c7,u,c5,c6,y,r,z,Z,t,E,σ,p,Q⟩:=aw;have e:=bq.symm.trans (mg_of X G E);cases e;obtain⟨li,P,ρ⟩:=q4;have b:=vO (st:=zA) li P ρ;have F:=b.binds (ps:=["self","at"]) λ _ _ _ _ _ _=>wN λ _=>wN λ _=>F0 rfl;have M:∀{x},nsIn K mainGlobals x=some none->mg x=none:=mg_none_of X G;have N:∀{x v},nsIn K mainGlobals x=some (some v)->mg x=some v:=mg_of X G;have T:la w K mg:=⟨M z1,M z2,M z3,M z4,M z5,M z6,M z7,M z8,M z9,M a2,M b0,M bg,M a9,M ca,M bc,M cv,M cu,M c3,M bu,M co,⟨_,N y1⟩,⟨_,N y2⟩,⟨_,N y3,(zF ah bP (jI mw (jI (zF q bP xZ) xZ)))⟩,⟨_,N y4,(zF ac bP (jI JE (jI JE (jI JF (jI JF xZ)))))⟩,⟨_,N y5,(zF O bP (jI mw (jI mw (jI mw (jI mw (jI mw (jI mw (jI mw (jI mw (jI mw (jI mw xZ)))))))))))⟩,⟨u0,u2,u3,_,⟨N q0,N q2,q5,⟨q7,q8,YT q6⟩,⟨YS Y,q9,b8,cq,cg,av,Y,bj⟩,cj,an,cl,b,F⟩,b6⟩⟩;have a:=vO (st:=rB) V I S;have D:=a.binds (ps:=["keys","others"]) λ _ _ _ _ _ _=>wN λ _=>wN λ _=>F0 rfl;have F17:=vO (st:=zH) C n m;have A:=F17.binds (ps:=["values"]) λ _ _ _ _ _ _=>us1 λ _=>rfl;have F54:=vO (st:=pS) σ p Q;refine⟨fnOf "law" "law" (n5 pS) (gQ pS) (bA pS) .none y r z u Z t,λ s v=>.of_eq rfl,λ base _ _=>?_⟩;have c:aL l.prog w K mg base 1 _ nM:=gS (dn N e1) PB T dJ;have g:=O2 l.prog base T (dn N e3);have J:aL l.prog w K mg base 1 _ kO:=gS (dn N e5) PC T dJ;have j:aL l.prog w K mg base 1 _ N1:=gS (dn N e6) PD T dJ;have k:aL l.prog w K mg base 1 _ vY:=gS (dn N e8) PH T dJ;have d:aL l.prog w K mg base 1 _ sP:=gS (dn N e9) PJ T dJ;have G14:=s_9 l.prog base T (dn N am);have G19:aL l.prog w K mg base 1 _ gB:=gS (dn N bf) PR T dJ;have G27:=QL l.prog base T (dn N ap);have G35:aL l.prog w K mg base 1 _ qN:=gS (dn N b3) P6 T dJ;have G36:aL l.prog w K mg base 1 _ o7:=gS (dn N cw) P7 T dJ;have G40:=Sj l.prog base T (dn N bn);have G50:=cl1 l.prog base (w:=w) (dn N a6);have G51:aL l.prog w K mg base 1 _ nQ:=gS (dn N c2) P_ T dJ;have G7:aL l.prog w K mg base 2 _ y_5:=gS (dn N e7) PF T (cU j dJ);have G10:aL l.prog w K mg base 2 _ sR:=gS (dn N b7) PK T (cU k (cU J (cU d dJ)));have G13:=O1 l.prog base T J (dn N bp);have G15:=O7 l.prog base T J G14 (dn N cc);have G21:aL l.prog w K mg base 2 _ uv:=gS (dn N aj) PX T (cU G19 (cU J dJ));have G24:aL l.prog w K mg base 2 _ sd:=gS (dn N a5) PZ T (cU G19 (cU J dJ));have G25:aL l.prog w K mg base 2 _ v9:=gS (dn N as) P0 T (cU G19 dJ);have G28:aL l.prog w K mg base 2 _ m9:=gS (dn N b2) P2 T (cU G19 (cU J dJ));have G37:=QN l.prog base (w:=w) G35 (dn N cn);have G38:=TL l.prog base T G35 G36 (dn N cb);have G49:=VX l.prog base (w:=w) G40 (dn N cx);have i:=VY l.prog base T a D (N o) ⟨_,rfl,R⟩;have G11:aL l.prog w K mg base 3 _ wG:=gS (dn N ao) PL T (cU G10 dJ);have G12:aL l.prog w K mg base 3 _ wF:=gS (dn N a0) PM T (cU G10 dJ);have G16:aL l.prog w K mg base 3 _ vU:=gS (dn N ba) PN T (cU G15 (cU G10 (cU G13 dJ)));have G17:=cl0 l.prog base T F17 A (N B) ⟨_,rfl,H⟩;have G29:=ci7 l.prog base T G28 (dn N cp);have G39:=TK l.prog base T G38 (dn N a7);have G41:=Pq l.prog base T G38 (dn N br);have G42:dG l.prog w K mg base 3 _ vJ:=Oa (dn N be) P8 T (hJ G38 dJ);have G44:=Pt l.prog base T G38 (dn N az);have G48:=Vm l.prog base T G38 (dn N bo);have G52:dG l.prog w K mg base 3 _ wM:=Oa (dn N bh) QA T (hJ G38 dJ);have G53:=TJ l.prog base T G49 G50 G51 (dn N cm);have G2b:=Pb l.prog base T c (dn N e2);have f:=QO l.prog base T c G2b (dn N e2);have G18:=UK l.prog base T G17 G11 G12 (dn N bx);have G43:=QM l.prog base T G38 G42 G41 (dn N ar);have G20:aL l.prog w K mg base 5 _ kX:=gS (dn N bi) PU T (cU G19 (cU f (cU G16 (cU d dJ))));have G22:aL l.prog w K mg base 5 _ uD:=gS (dn N c1) PY T (cU i (cU G18 dJ));have G45:=Pr l.prog base T G38 G44 G43 (dn N ak);have G23:=V0 l.prog base T G20 (dn N cy);have G26:aL l.prog w K mg base 6 _ kA:=gS (dn N aq) P1 T (cU G25 (cU G19 (cU G20 (cU G24 (cU g (cU G15 dJ))))));have G33:=y_2 l.prog base T G20 (dn N bw);have G46:=Pw l.prog base T G38 G42 G41 G43 G45 (dn N cr)
 have G30:=QK l.prog base T G20 G28 G26 G27 (dn N ay);have G31:=SH l.prog base T G27 G22 G23 G29 G21 G30 (dn N cz);have G32:aL l.prog w K mg base 32 _ qR:=gS (dn N al) P4 T (cU G19 (cU G30 dJ));have G34:=Su l.prog base T G33 G32 (dn N b9);have G47:=Pu l.prog base T G34 (dn N bz);exact YD l.prog base T G38 G49 G50 G46 G53 G37 G52 G47 G48 G39 G31 F54
theorem tab_or{p:Addr}{q:Str}(h:(p,q)∈L2.Tabs):(p=42∧q="keys_some.<locals>.<lambda>")∨(p=130∧q="nearest.<locals>.<lambda>"):=by unfold L2.Tabs at h;simpa only [y9,jw,Yv,Prod.mk.injEq]using h
theorem walk{l:OpenLaw}{q:Program}{J:aM}{XP:(Str->Option Value)->Heap->Prop}{Y:World->Heap->Prop}{d:DefRec}{K:Params->Frag}(hn:l.most=some 63)(Z:d.params.defaults=[])(hY:∀(w:World)(h:Heap),Y w h->(K w.params).In h)(aa:∀p q,(p,q)∈L2.Tabs->∀(w:World)(h:Heap),Y w h->h.get? p=some (PySem.W.tabObj #[]))(O:∀p q,(p,q)∈L2.Tabs->∀w:World,(K w.params).lookup p=none)(hC:∀p q,(p,q)∈L2.Tabs->∀w:World,∃c,PySem.W.codeHdIn (K w.params) c p=true)(F:∀(w:World)(mg:Str->Option Value)(fa:Addr)(h:Heap),(K w.params).In h->h.Ns mainGlobals mg->mg d.name=some (.ref fa)->∃fd:FuncData,(∀(s:Shared)(u:Value),BindsTo s fd ⟨[u],[]⟩ [("_law_script",u)])∧∀base:Heap,(K w.params).In base→base.Ns mainGlobals mg→cR l.prog w (K w.params) mg base fX 35 fa fd ["_law_script"] (qY (K w.params) rW)):PySem.W.WalkO q J XP Y l.row.toRowW d [] (λ f vs=>PySem.call f vs):=
 L2.walk_of2 (n:=63) (k:=35) (x:="_law_script") (CX:=λ _=>fX) (sp:=λ w=>qY (K w.params) rW) hn aQ Z ⟨rfl,by decide,by decide⟩ (λ p q h=>by rcases tab_or h with⟨rfl,rfl⟩|⟨rfl,rfl⟩<;>rfl) hY aa O hC F
  (λ w H a ns e b=>⟨H,[.l (ns.map .int)],.b true,aB.refl _,aD.one (by unfold aU;exact⟨a,_,rfl,b,H4 ns⟩),mi ns e,λ v dH H' S r=>by unfold aU at r;exact r⟩) λ _ _ _ _ _ z=>z
end
end Lake
open PySem.W PyProof.Rows
structure PySem.W.Fast:Prop where
 (tw7879146092542590629 tw14008596420994173712 tw7098460321840120654 tw12212643619864226809 tw17580291820056587509 tw4441560211289841618 tw194233539234050723 tw16947830343093006002 tw4840105820205157045 tw103680424141316557 tw14507326417268018298 tw5856292445453742408 tw3165073925023008030 tw15585378488399303833 tw5868556143766707193 tw13062138924228641104 tw3001832776177419269 tw3365636936141422415 tw5752115657074658393 tw15168836747357023613 tw4866695250914523014 tw3023170895075409857 tw10190987093387858836 tw8229887984441990635 tw5002183105209800853 tw17468325357870521102 tw11129514879154615364 tw10183622562990666097 tw8667539294951512293 tw17357245564532789435 tw13316969827648060296 tw11048270651826607826 tw9318000343205366004 tw17213655380963354139 tw7998274657924603291 tw12844237058217104494 tw15936784518317024916 tw10077882538006369346 tw6968738030299582563 tw2390213866129865693 tw7900166734991836321 tw8720289632790105504 tw2824561511840086706 tw596073280663236810 tw6723761475277205293 tw1964613488296529605 tw6396336594791124973 tw12916907202160268305 tw16127928482446330790 tw3444433608411528949 tw2121835423872646887 tw4509342628480480165 tw6160874440608046483 tw17680701441746913604 tw17285099085299778067 tw737007983292651844 tw4209667151432485596 tw6180012335670075626 tw1826191121999876750 tw16768606243638719273 tw3651137864628713538 tw16553674092690685334 tw5516158881716883373 tw16681172918519984706 tw11010278906311900640 tw8461734124459606400 tw343386919544803497 tw9321957438893058399 tw11275552731339867662 tw10344913438406263389 tw6367994995574961309 tw18335942387307646376 tw6332719558044745904 tw16768655789841911379 tw4451968801353685254 tw5983869063312295630 tw4299695042439314437 tw13466200020414198557 tw12161817601682631920 tw2019704986432079474 tw3279939021487435539 tw6707218412466216440 tw12002211201996081682 tw14259758753731816347 tw11702455488884953172 tw15145371837319761972 tw12512183339913457776 tw756566387437637143 tw17840480451233859528 tw9612295207171804080 tw9194267074071769537 tw2131143612058644196 tw13816281142924101173 tw12739356608114323197 tw12237966608972527801 tw6001805841374613563 tw13792138373144226091 tw15697410568208456161 tw16780986326707424635 tw13593625410686379356 tw10791505737571397637 tw5990560003544906717 tw6541256309688417168 tw12023234397592282487 tw1990117282160971683 tw14077678978871733888 tw5931307870353454808 tw9922569598022252026 tw16296645013324642062 tw1427563553633493972 tw3193352285933592588 tw15900203399521895421 tw17109245780925485503 tw7671723295178680609 tw192890856427070097 tw5350919042208393083 tw7307308812201591062 tw409109541709283795 tw4352270657770800625 tw14803594018670176427 tw18096414927244791420 tw5629203281518803251 tw2915049193427716858 tw2648408891081874108 tw2042573112178784205 tw16133365780886653069 tw6356959627648293912 tw12715483108179915177 tw3334686617445085686 tw982727597055987168 tw4195162066121577157 tw14795764495193666093 tw5733279246295521334 tw2093378203773282055 tw15253924455486134969 tw10223108951856863478 tw6367373858069364854 tw2791566571392264318 tw13913297355262057797 tw11689909554920157731 tw8366415206273641029 tw15652349092818042941 tw15107545494097807868 tw13433097558722250963 tw2870758913612434610 tw7804305972353119447 tw15799282802400415850 tw2975009392438307242 tw1634966114330592788 tw14287415463104807849 tw10172271305963418236 tw11364330383029758469 tw6611944656115855852 tw13568905585827356646 tw10672196713816292837 tw8842383331621761172 tw6594311890468197961 tw5701039993170952041 tw245125082073778268 tw18288306826632497637 tw12546438685489704911 tw11293029894533868660 tw10847492065857766401 tw7854396398687591208 tw4964609176829514277 tw5222206799144275783 tw8018026790351931989 tw726526949668121072 tw6681739295550689623 tw6567315542954705484 tw5266176236200596078 tw3865087392040514138 tw2392069552659216323 tw2320832858096536433 tw17673829549675065141 tw16058567967817987447 tw15478701883266166572 tw9704881618104050341 tw9163146136982039955 tw8371260379595600349 tw8330508013926031135 tw832081222690093670 tw7887860347828868665 tw7751277575570013495 tw7234059839746697829 tw7006671126965651701 tw6820537338108846970 tw6534424690812837529 tw615673174102800450 tw6103519386413950892 tw6021226023184000192 tw5674385666102877861 tw5467017007005276753 tw543993453203154683 tw5089662571728489406 tw4985800067141409497 tw4482327702123137278 tw4293544105528711719 tw4088975093335141328 tw3758509791039482250:True)
set_option maxRecDepth 100000 in
set_option maxHeartbeats 0 in
theorem PySem.Challenge.cw_latewell_k42_back_to_a_coming_holds : PySem.Challenge.rw_latewell_k42_back_to_a_coming.Holds := by
 w_on;o_law;k_head;(case hw=>w_witness2)
 k_fill
 refine Lake.walk (l:=PySem.Challenge.rw_latewell_k42_back_to_a_coming) rfl rfl (λ w h Y=>PySem.W.km_in_of Y) (λ p q h=>by rcases Lake.tab_or h with⟨rfl,_⟩|⟨rfl,_⟩;exact(λ w h Y=>PySem.W.km_tabs_of Y _ bP);exact(λ w h Y=>PySem.W.km_tabs_of Y _ bP)) (λ p q h=>by rcases Lake.tab_or h with⟨rfl,_⟩|⟨rfl,_⟩;exact(λ w=>by kernel_rfl);exact(λ w=>by kernel_rfl)) (λ p q h=>by rcases Lake.tab_or h with⟨rfl,_⟩|⟨rfl,_⟩;exact(λ w=>⟨44,by kernel_rfl⟩);exact(λ w=>⟨134,by kernel_rfl⟩)) ?F
 case F=>
  intro w mg fa h KX G hmg;refine' Lake.pW KX G hmg ?e1 ?e2 ?e3 ?e4 ?e5 ?e6 ?e7 ?e8 ?e9 ?e10 ?e11 ?e12 ?e13 ?e14 ?e15 ?e16 ?e17 ?e18 ?e19 ?e20 ?e21 ?e22 ?e23 ?e24 ?e25 ?e26 ?e27 ?e28 ?e29 ?e30 ?e31 ?e32 ?e33 ?e34 ?e35 ?e36 ?e37 ?e38 ?e39 ?e40 ?e41 ?e42 ?e43 ?e44 ?e45 ?e46 ?e47 ?e48 ?e49 ?e50 ?e51 ?e52 ?e53 ?e54 ?y1 ?y2 ?lec31 ?lec3 ?y3 ?lec4 ?y4 ?lec5 ?y5 ?q0 ?q2 ?q3 ?q4 ?q5 ?q6 ?q7 ?q8 ?q9 ?q10 ?q11 ?q12 ?q13 ?q14 ?q15 ?q16 ?q17 ?q18 ?q19 ?z1 ?z2 ?z3 ?z4 ?z5 ?z6 ?z7 ?z8 ?z9 ?z10 ?z11 ?z12 ?z13 ?z14 ?z15 ?z16 ?z17 ?z18 ?z19 ?z20
  (case e4=>refine' Lake.lN.mk ?a ?l ?c ?k ?h;(case a=>k_is);(case l=>k_is);(case c=>k_is);(case k=>k_is);(case h=>kernel_rfl))
  (case e17=>refine' Lake.lN.mk ?a ?l ?c ?k ?h;(case a=>k_is);(case l=>k_is);(case c=>k_is);(case k=>k_is);(case h=>kernel_rfl))
  all_goals try (refine' Lake.bF.mk ?a ?l ?c ?k;(case a=>k_is);(case l=>k_is);(case c=>k_is);(case k=>k_is))
  (case y1|y2|y3|y4|y5|lec3|lec4|lec5|lec31|q0|q2|q3=>(try delta Lake.m6 Lake.gH Lake.qZ Lake.nP);k_is)
  (case q4=>refine' Lake.pC.mk ?l ?c ?k;(case l=>k_is);(case c=>k_is);(case k=>k_is))
  (case q5=>kernel_rfl)
  (case q6=>kernel_rfl)
  (case q7|q8|q9|q10|q11|q12|q13|q14|q15=>(try delta Lake.m6 Lake.gH Lake.qZ Lake.nP);k_is)
  (case q16=>kts_exm)
  (case q17=>kit_is)
  (case q18=>kit_is)
  (case q19=>kts_exm)
  (case z1|z2|z3|z4|z5|z6|z7|z8|z9|z10|z11|z12|z13|z14|z15|z16|z17|z18|z19|z20=>(try delta Lake.m6 Lake.gH Lake.qZ Lake.nP);k_is)
