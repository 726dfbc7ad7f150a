import PyProof.Rows.All
import Wide.All
import OpenK.AllK
import Wide.FinOn
import PySem.Challenge.RW_latewell_k26_whole_any_rows
set_option compiler.extract_closed false
set_option genSizeOfSpec false
set_option genSizeOf false
set_option Elab.async false
set_option linter.all false
set_option maxRecDepth 100000
set_option maxHeartbeats 4000000
noncomputable section
open PySem.W (Frag nsIn mg_of mg_none_of fnOf codeIn keepIn OpenLaw)
section
open PySem PyProof.Rows
abbrev qb:=@wpAny_bind
abbrev qc:=@wpAny_pure
abbrev qf:=@Heap.get?_push_of_some
abbrev qg:=@List.mem_cons_self
abbrev qh:=@List.mem_cons_of_mem
abbrev qi:=@Option.some.inj
abbrev qj:=@Nat.le_refl
abbrev qk:=@Heap.get?_push_size
abbrev qm:=@Heap.lt_size
abbrev qo:=@List.mem_append_right
abbrev qp:=@Bool.false_ne_true
abbrev qr:=@Nat.le_of_ble_eq_true
abbrev qt:=@Nat.lt_of_lt_of_le
abbrev qv:=@Nat.ne_of_lt
abbrev qw:=@List.mem_map_of_mem
theorem dt{α:Type _}{a b:α}(h:a∈[b]):a=b:=List.mem_singleton.mp h
theorem cR{p:Prop}(h:p:=by simp;first|lia|omega):p:=h
noncomputable abbrev bU(p:PySem.Program)(w:PySem.World)(A:PySem.Around){α}(m:PySem.Sem α):=PySem.wpAny (PySem.model p w) A m
noncomputable abbrev _root_.PySem.Heap.n(h:PySem.Heap):Nat:=h.objs.size
abbrev dI:=@List.mem_map
abbrev ir:=@List.getElem?_eq_some_iff
abbrev iX:=@List.all_eq_true
noncomputable abbrev _root_.cq(s:String):PySem.Str:=PySem.Str.ofString s
abbrev bH:=cq "pour"
abbrev bI:=cq "ask"
abbrev bL:=cq "pair"
abbrev bW:=cq "NAME"
abbrev cy:=cq "FROM"
abbrev cH:=cq "in"
abbrev c1:=cq "put"
abbrev cU:=cq "sum"
abbrev dR:=cq "gaps"
abbrev ed:=cq "KEY"
abbrev e_:=cq "span"
abbrev fb:=cq "rest"
abbrev fe:=cq "turn"
abbrev fC:=cq "time"
abbrev fD:=cq "later"
abbrev fh:=cq ""
abbrev fY:=cq "slide"
abbrev fE:=cq "a"
abbrev gH:=cq "only"
abbrev gJ:=cq "but"
abbrev fZ:=cq "FOLD"
abbrev f_:=cq "count"
abbrev gb:=cq "OTHER"
abbrev hZ:=cq "fixed"
abbrev h6:=cq "ever"
abbrev gK:=cq "-"
abbrev gL:=cq "0"
abbrev iJ:=cq "LOW"
abbrev lV:=cq " "
abbrev jJ:=cq "less"
abbrev jK:=cq "left"
abbrev jL:=cq "right"
abbrev kC:=cq "HOW"
abbrev kD:=cq "HIGH"
abbrev lW:=cq "NoText"
abbrev lX:=cq "at"
abbrev nF:=cq "A"
abbrev nG:=cq "WIDTH"
abbrev nH:=cq "most"
abbrev nI:=cq "least"
abbrev uU:=cq "qhbxdmaztgkpcwrvfnyjuesl"
abbrev nJ:=cq "in y 0 1"
abbrev nK:=cq "no row"
@[simp] theorem MU{α:Type _}(n:Nat)(a:α):List.replicate (n+1) a=a::List.replicate n a:=rfl
theorem aK{α}{a b:α}(h:a=b:=by kernel_rfl):a=b:=h
theorem aH{p:Prop}[Decidable p](h:p:=by decide):p:=h
theorem aD{p:Prop}(h:p:=by first|lia|omega):p:=h
theorem aQ{p:Prop}(h:p:=by simp):p:=h
theorem aW{p:Prop}[Decidable p](h:p:=by decide+kernel):p:=h
theorem qx{α:Type _}{a b:α}{l:List α}(h:a∈b::l):a=b\/a∈l:=List.mem_cons.mp h
theorem qy{α:Type _}{a:α}{l k:List α}(h:a∈l++k):a∈l\/a∈k:=List.mem_append.mp h
abbrev qz:=@List.length_map
abbrev zh:=@decide_eq_true_eq
abbrev zj:=@List.map_cons
abbrev zk:=@List.size_toArray
abbrev zl:=@decide_eq_true
abbrev zm:=@Bool.and_eq_true
abbrev zn:=@decide_eq_false
abbrev zo:=@Bool.eq_iff_iff
abbrev zr:=@List.length_append
abbrev zt:=@List.length_cons
abbrev zu:=@List.map_map
abbrev zv:=@List.not_mem_nil
abbrev zw:=@Nat.le_trans
abbrev zx:=@List.map_append
abbrev zy:=@of_decide_eq_true
abbrev yb:=@List.append_nil
abbrev yc:=@List.mem_cons
abbrev yd:=@PySem.wpAny_mono
abbrev ye:=@List.getElem?_set_self
abbrev yf:=@Bool.false_ne_true
abbrev yg:=@Nat.zero_le
abbrev yh:=@List.getElem?_set_ne
abbrev yi:=@PySem.wpAny_newObj_type
abbrev yj:=@PySem.wpAny_field
abbrev yk:=@PyProof.Rows.callWith_type1
abbrev ym:=@Array.length_toList
abbrev yn:=@PySem.wpAny_truthy_bool
abbrev yo:=@PySem.wpAny_holding
abbrev yp:=@Int.fmod_nonneg_of_pos
abbrev yq:=@List.getElem?_eq_getElem
abbrev yr:=@List.cons.inj
abbrev yt:=@List.getElem?_map
abbrev yu:=@Nat.lt_irrefl
abbrev yv:=@List.length_set
abbrev yw:=@Int.fmod_lt_of_pos
abbrev yz:=@Int.emod_lt_of_pos
abbrev y0:=@congrArg
abbrev ja:=@List.mem_cons_of_mem
abbrev jb:=@PySem.Heap.get?_none_of_le
abbrev jc:=@Ne.symm
abbrev jd:=@or_false
abbrev je:=@List.take_of_length_le
abbrev jf:=@List.exists_cons_of_ne_nil
abbrev jg:=@PySem.Heap.get?_update_other
abbrev jh:=@List.replicate_succ
abbrev ji:=@PySem.Heap.get?_update_self
abbrev jj:=@PySem.wpAny_Call_Name_kw
abbrev jm:=@List.all_eq_true
abbrev jn:=@PySem.Around.under_plainId
abbrev jo:=@Int.emod_nonneg
abbrev jp:=@PySem.mem_of_lookup
abbrev jq:=@List.drop_eq_nil_of_le
abbrev jr:=@List.length_drop
abbrev jt:=@List.append_inj'
abbrev ju:=@List.getElem?_append_left
abbrev jv:=@PySem.codeAny_builtin
abbrev jw:=@PySem.W.kia_one
abbrev jx:=@PySem.lookup_relabel_local
abbrev jy:=@List.mem_append_left
abbrev j4:=@List.flatten_cons
abbrev j5:=@PyProof.Rows.slot_tuple_getitem
abbrev j6:=@List.isEmpty_iff_length_eq_zero
abbrev j7:=@eq_false
abbrev j8:=@List.length_take
abbrev j9:=@Int.eq_ofNat_of_zero_le
abbrev Qa:=@PySem.Heap.size_push
abbrev Qb:=@PySem.wpAny_setField_rec
abbrev Qd:=@PySem.call_meets
abbrev Qg:=@PySem.F.slot_str_split
abbrev Qh:=@PySem.Calls.spliced_cons
abbrev Qi:=@List.length_filter_le
abbrev Qj:=@PySem.codeAny_mono
abbrev Qk:=@List.map_nil
abbrev Ql:=@Classical.byContradiction
abbrev Qm:=@PyProof.Rows.F.plain_set_update_loop
abbrev Qn:=@List.any_cons
abbrev Qo:=@List.all_cons
abbrev Qp:=@PySem.PassesOwn.never
abbrev Qq:=@List.zip_cons_cons
abbrev Qr:=@decide_eq_false_iff_not
abbrev Qs:=@PySem.F.plainAttrs_list
abbrev Qt:=@PyProof.Rows.boot_tuple
abbrev Qu:=@Nat.le_succ
abbrev Qv:=@PySem.wpAny_seqItems
abbrev Qw:=@PySem.wpAny_loadPart_at
abbrev Qx:=@PySem.F.plainAttrs_str
abbrev Qy:=@List.append_assoc
abbrev Qz:=@Function.comp_def
abbrev Q1:=@PySem.Calls.spliced_nil
abbrev Q2:=@PySem.Calls.callWith_builtin
abbrev Q3:=@Bool.not_eq_true'
abbrev Q5:=@Bool.and_false
abbrev Q6:=@PyProof.Rows.boot_str
abbrev Q7:=@List.length_singleton
abbrev Q8:=@PySem.wpAny_call_entry
abbrev Q9:=@PySem.wpAny_call
abbrev Za:=@beq_self_eq_true
abbrev Zb:=@True.intro
abbrev Zc:=@PySem.wpAny_standAt
abbrev Zd:=@PySem.plainId_quiet
abbrev Ze:=@PySem.codeAny_call_builtin
abbrev Zf:=@Sum.inr.inj
abbrev Zg:=@List.mem_of_mem_take
abbrev Zh:=@PySem.wpAny_updateSeq
abbrev Zi:=@PySem.wpAny_passesOwn
abbrev Zj:=@PySem.wpAny_execs_nil
abbrev Zk:=@Option.some.inj
abbrev Zl:=@List.of_mem_zip
abbrev Zm:=@List.filterMap_cons
abbrev Zn:=@PySem.typeIs_str
abbrev Zo:=@PySem.tupleKind_room_in1
abbrev Zp:=@List.mem_cons_self
abbrev Zq:=@List.map_singleton
abbrev Zr:=@List.getElem?_append_right
abbrev Zs:=@List.filterMap_map
abbrev Zt:=@PySem.Heap.IsSliceOf.new
abbrev Zu:=@PySem.F.plain_extend_loop
abbrev Zv:=@PySem.wpAny_of_eq
abbrev Zw:=@List.reverse_cons
abbrev Zx:=@Int.toNat_natCast
abbrev Zy:=@PySem.wpAny_getItem_list_slice
abbrev Zz:=@PySem.wpAny_comprehension_free
abbrev Z0:=@PySem.evalPart_none
abbrev Z1:=@PySem.F.args_str_split_2
abbrev Z2:=@List.sum_cons
abbrev Z3:=@PySem.wpAny_execs_cons
abbrev Z4:=@PySem.F.entry_str_split
abbrev Z5:=@Nat.succ_le_succ
abbrev Z6:=@Nat.le_of_not_lt
abbrev Z7:=@List.getElem?_replicate
abbrev Z8:=@PySem.wpAny_typeOf
abbrev Z9:=@PyProof.Rows.Subscript_
abbrev Ya:=@Nat.le_of_lt
abbrev Yb:=@PySem.codeAny_of_tree
abbrev Yc:=@List.mem_append
abbrev Yd:=@PySem.F.slot_dict_get
abbrev Ye:=@PyProof.Rows.boot_all
abbrev Yf:=@List.length_replicate
abbrev Yg:=@Bool.beq_eq_decide_eq
abbrev Yh:=@Array.getElem?_toList
abbrev Yi:=@List.mem_of_mem_drop
abbrev Yj:=@List.mem_of_getElem?
abbrev Yk:=@List.drop_zero
abbrev Yl:=@PySem.Heap.get?_push_cases
abbrev Ym:=@PySem.Calls.evalArgs_plain
abbrev Yn:=@eq_comm
abbrev Yo:=@PyProof.Rows.F.entry_set_update_loop
abbrev Yp:=@List.map_congr_left
abbrev Yq:=@PySem.Heap.SameBut.update
abbrev Yr:=@PySem.wpAny_attempt
abbrev Ys:=@PySem.intBits_le_64
abbrev Yt:=@PySem.evalPart_some
abbrev Yu:=@PySem.Paired.length
abbrev Yv:=@List.map_take
abbrev Yw:=@List.mem_singleton
abbrev Yx:=@or_congr
abbrev Yy:=@PyProof.Rows.slice_to_min_closes
abbrev Yz:=@Option.isSome_map
abbrev Y1:=@Nat.ne_of_gt
abbrev Y2:=@Nat.lt_trans
abbrev Y3:=@Nat.le_of_eq
abbrev Y4:=@List.flatMap_cons
abbrev Y5:=@Iff.rfl
abbrev Y6:=@Array.size_append
abbrev Y7:=@List.map_snd_zip
abbrev Y8:=@List.map_reverse
abbrev Y9:=@List.map_fst_zip
abbrev Ja:=@List.lookup_cons
abbrev Jb:=@List.getElem_mem
end
namespace L2
open PySem PySem.Spec PyProof.Rows
noncomputable abbrev aO:=Sum Int Str
def rh:aO->Value->Bool
 |.inl k,v=>Value.isInt k v
 |.inr x,v=>Value.isStrOf x v
def ZG(w:World):aO->Int
 |.inl k=>hashInt k
 |.inr x=>hashStr w x
theorem g_5:∀{k:aO}{v:Value},rh k v=true->(∃i t,k=Sum.inl i/\v=Value.int i t)\/(∃x t,k=Sum.inr x/\v=Value.str x t)
 |.inl i,v,h=>by
  obtain⟨t,e⟩:=Value.isInt_shape h;exact .inl ⟨i,t,rfl,e⟩
 |.inr x,v,h=>by
  obtain⟨t,e⟩:=Value.isStrOf_shape h;exact .inr ⟨x,t,rfl,e⟩
theorem Ug(i:Int)(t:Tok):rh (.inl i) (.int i t)=true:=by simp[rh,Value.isInt]
theorem Ue(x:Str)(t:Tok):rh (.inr x) (.str x t)=true:=by simp[rh,Value.isStrOf]
theorem WQ(a b:Int):decide ((Sum.inl a:aO)=Sum.inl b)=(a==b):=by grind
theorem WM(a b:Str):decide ((Sum.inr a:aO)=Sum.inr b)=decide (a=b):=by grind
theorem WO(a:Int)(b:Str):decide ((Sum.inl a:aO)=Sum.inr b)=false:=zn (λ q=>nomatch q)
theorem WN(a:Str)(b:Int):decide ((Sum.inr a:aO)=Sum.inl b)=false:=zn (λ q=>nomatch q)
def gk(prog:Program)(w:World):PySem.KeyKind prog w aO where
 is:=rh
 hash:=ZG w
 inj:=λ v a b Y O=>by
  rcases g_5 Y with⟨i,t,rfl,rfl⟩|⟨x,t,rfl,rfl⟩
  .rcases g_5 O with⟨j,u,rfl,e⟩|⟨y,u,rfl,e⟩
   .injection e with e1 _;rw[e1]
   .exact nomatch e
  .rcases g_5 O with⟨j,u,rfl,e⟩|⟨y,u,rfl,e⟩
   .exact nomatch e
   .injection e with e1 _;rw[e1]
 byValue:=λ k v h=>by
  rcases g_5 h with⟨i,t,rfl,rfl⟩|⟨x,t,rfl,rfl⟩<;>rfl
 pyHash:=λ q h=>by
  rcases g_5 q with⟨i,t,rfl,rfl⟩|⟨x,t,rfl,rfl⟩
  .exact wpAny_pyHash_int h
  .exact wpAny_pyHash_str h
 eqBool:=λ Z q h=>by
  rcases g_5 Z with⟨i,t,rfl,rfl⟩|⟨x,t,rfl,rfl⟩
  .rcases g_5 q with⟨j,u,rfl,rfl⟩|⟨y,u,rfl,rfl⟩
   .rw[WQ]at h;exact wpAny_eqBool_int h
   .rw[WO]at h;exact SeqAt.EqAt.int_str i t y u _ _ _ _ h
  .rcases g_5 q with⟨j,u,rfl,rfl⟩|⟨y,u,rfl,rfl⟩
   .rw[WN]at h;exact SeqAt.EqAt.str_int x t j u _ _ _ _ h
   .rw[WM]at h;exact wpAny_eqBool_str h
 «strs»:=λ k x t v h=>by
  rcases g_5 h with⟨i,u,rfl,e⟩|⟨y,u,rfl,e⟩
  .exact nomatch e
  .injection e with e1 _
   subst e1;cases v<;>rfl
theorem Sf(prog:Program)(w:World)(i:Int)(t:Tok):(gk prog w).is (.inl i) (.int i t)=true:=Ug i t
theorem BA(prog:Program)(w:World)(x:Str)(t:Tok):(gk prog w).is (.inr x) (.str x t)=true:=Ue x t
inductive V where
 |n|b (b:Bool)|int (i:Int)|str (x:Str)|byt (b:Array UInt8)|flt (b:UInt64)|ref (a:Addr)|ty (n:String)
 deriving DecidableEq
def aX:V->Value->Prop
 |.n,u=>u=Value.none
 |.b b,u=>u=Value.bool b
 |.int i,u=>∃t,u=Value.int i t
 |.str x,u=>∃t,u=Value.str x t
 |.byt b,u=>∃t,u=Value.bytes b t
 |.flt b,u=>∃t,u=Value.float b t
 |.ref a,u=>u=Value.ref a
 |.ty n,u=>u=Value.type n
noncomputable abbrev _root_.bY:=List V
abbrev aM:bY->List Value->Prop:=Paired aX
theorem aM.length(r:aM xs us):xs.length=us.length:=Yu r
noncomputable abbrev _root_.cf:=List Value
theorem aM.get:∀{xs:bY}{us:cf}{i:Nat}{x:V},aM xs us->xs[i]?=some x->∃u,us[i]?=some u/\aX x u
 |_,_,_,_,.nil,e=>by simp at e
 |_,_,0,_,.cons r _,e=>by simp at e;subst e;exact⟨_,rfl,r⟩
 |_,_,i+1,x,.cons _ t,e=>by
  obtain⟨u,a,b⟩:=aM.get t (by simpa using e);exact⟨u,by simpa using a,b⟩
theorem aM.set(r:aX x u):∀{xs:bY}{us:cf}(i:Nat),aM xs us->aM (xs.set i x) (us.set i u)
 |_,_,_,.nil=>.nil
 |_,_,0,.cons _ t=>.cons r t
 |_,_,i+1,.cons q t=>.cons q (aM.set r i t)
theorem aM.append:∀{xs ys:bY}{us ws:cf},aM xs us->aM ys ws->aM (xs++ys) (us++ws)
 |_,_,_,_,.nil,s=>s
 |_,_,_,_,.cons r t,s=>.cons r (aM.append t s)
theorem aM.take:∀{xs:bY}{us:cf}(n:Nat),aM xs us->aM (xs.take n) (us.take n)
 |_,_,0,_=>.nil
 |_,_,_+1,.nil=>.nil
 |_,_,n+1,.cons r t=>.cons r (aM.take n t)
theorem aM.drop:∀{xs:bY}{us:cf}(n:Nat),aM xs us->aM (xs.drop n) (us.drop n)
 |_,_,0,r=>r
 |_,_,_+1,.nil=>.nil
 |_,_,n+1,.cons _ t=>aM.drop n t
theorem aM.none_of:∀{xs:bY}{us:cf}{i:Nat},aM xs us->xs[i]?=none->us[i]?=none:=λ{xs us i}r e=>by
 have a:=r.length;have b:=List.getElem?_eq_none_iff.mp e;exact List.getElem?_eq_none_iff.mpr aD
def d7:Option V->Option Value->Prop
 |some v,some u=>aX v u
 |none,none=>True
 |_,_=>False
def KV{κ:Type}:List (κ×V)->List (κ×Value)->Prop:=Paired λ(p:κ×V)(q:κ×Value)=>p.1=q.1/\aX p.2 q.2
def kV:aO->V
 |.inl i=>.int i
 |.inr x=>.str x
abbrev _root_.jX:=List aO
noncomputable abbrev _root_.gm:=Array Value
inductive HO where
 |l (xs:bY)
 |t (xs:bY)
 |dK (kvs:List (aO×V))|dT (kvs:List (jX×V))
 |set (σ:Int->Bool) (n:Nat)
 |ins (C dx:Addr) (fs:List (Str×V))
 |own (x:Addr)
 |xd (fs:List (Str×V))
 |met (f x:Addr)
 |rng (lo hi:Int)
 |frz (o:Obj) (u:HO)
 |tbl (ps:gm)
 |ext (φ:Heap->Prop)
noncomputable abbrev Hp:=Addr->Option HO
def upd(H:Hp)(a:Addr)(o:HO):Hp:=λ b=>if b=a then some o else H b
theorem cM:upd H a o a=some o:=by unfold upd;rw[if_pos rfl]
theorem bX(h:b≠a):upd H a o b=H b:=by unfold upd;rw[if_neg h]
theorem cx5{H:Hp}{a b:Addr}{o u:HO}(h:H a=some o)(h':H b=some u)(d:o≠u):a≠b:=by intro e;subst e;rw[h]at h';exact d (qi h')
theorem iU{H:Hp}(h:H a=some o)(h':H b=none):a≠b:=by intro e;subst e;rw[h]at h';cases h'
def d6(h:Heap)(a:Addr)(items:gm):Prop:=∃o,h.get? a=some o∧o.cls=.type "tuple"∧(∃n,o.data=.seq items n)∧o.dict=none
theorem d6.tup(x:d6 h a items):IsTup h a items:=let ⟨o,p,q,⟨n,r⟩,_⟩:=x;⟨o,p,q,n,r⟩
theorem d6.new(h:Heap)(items:gm):d6 (h.push {cls:=.type "tuple",data:=.seq items}) h.n items:=⟨_,qk _ rfl,rfl,⟨0,rfl⟩,rfl⟩
section
variable(P:Program)(w:World)
def bO(H:Hp)(h:Heap)(a:Addr):HO->Prop
 |.l xs=>xs.length≤sizeLine∧∃(O:cf)(n:Nat),aM xs O∧h.get? a=some {cls:=.type "list",data:=.seq O.toArray n}
 |.t xs=>xs.length<=sizeLine/\∃O:cf,aM xs O/\d6 h a O.toArray
 |.dK kvs=>kvs.length<=sizeLine/\(a==sysModules)=false/\∃vs,KV kvs vs/\h.DictOf (gk P w) a vs
 |.dT kvs=>kvs.length<=sizeLine/\(a==sysModules)=false/\∃xs:List (jX×Addr×Value),Paired (λ(p:jX×V)(q:jX×Addr×Value)=>p.1=q.1/\H q.2.1=some (.t (p.1.map kV))/\aX p.2 q.2.2) kvs xs/\∃o es ep,h.get? a=some o/\o.ExactDict/\o.data=.dict es ep/\es.toList=xs.map (entryOfKey (tupleKind (gk P w)))/\(xs.map (·.1)).Nodup
 |.set σ n=>h.SetOf (intKind P w) a σ n
 |.ins C dx fs=>H dx=some (.own a)/\fs.length<=1000/\dx≠a/\h.get? a=some (PySem.W.instObj C dx)/\∃Y,h.Ns1 dx Y/\(∀f,d7 (fs.lookup f) (Y f))/\PySem.Within Y (fs.map (·.1))
 |.own _=>∃o,h.get? a=some o
 |.xd fs=>∃Y,h.Ns1 a Y/\∀f,d7 (fs.lookup f) (Y f)
 |.rng lo hi=>∃t u v,h.get? a=some {cls:=.type "range",data:=.fields #[.int lo t,.int hi u,.int 1 v]}
 |.frz o u=>h.get? a=some o/\bO H h a u
 |.tbl ps=>h.get? a=some {cls:=.none,data:=.fields ps}
 |.met f x=>h.get? a=some (PySem.W.methodObj (.ref f) (.ref x))
 |.ext Z=>Z h/\(∃o,h.get? a=some o)/\∀h1 h2:Heap,Z h1->(∀o,h1.get? a=some o->h2.get? a=some o)->Z h2
def ef(H:Hp)(h:Heap):Prop:=∀a o,H a=some o->bO P w H h a o
end
theorem bO.lt(x:bO P w H h a o):a<h.n:=by
 cases o with
 |l xs=>obtain⟨_,_,_,_,e⟩:=x;exact qm e
 |t xs=>obtain⟨_,_,_,p⟩:=x;exact p.tup.lt
 |dK kvs=>obtain⟨_,_,_,_,o,_,_,e,_⟩:=x;exact qm e
 |dT kvs=>obtain⟨_,_,_,_,o,_,_,e,_⟩:=x;exact qm e
 |set σ n=>obtain⟨o,_,_,_,e,_⟩:=x;exact qm e
 |ins C dx fs=>obtain⟨_,_,_,e,_⟩:=x;exact qm e
 |own y=>obtain⟨_,e⟩:=x;exact qm e
 |xd fs=>obtain⟨_,⟨_,_,_,e,_⟩,_⟩:=x;exact qm e
 |rng lo hi=>obtain⟨_,_,_,e⟩:=x;exact qm e
 |frz ob u=>obtain⟨e,_⟩:=x;exact qm e
 |tbl ps=>exact qm (show h.get? a=some _ from x)
 |met f y=>exact qm (show h.get? a=some _ from x)
 |ext q=>obtain⟨_,⟨_,e⟩,_⟩:=x;exact qm e
theorem Paired.mapP:∀{l₁:List α}{l₂:List β},Paired F l₁ l₂->(∀a b,F a b->G a b)->Paired G l₁ l₂
 |[],_,h,_=>by cases h;exact .nil
 |x::l,_,h,f=>by
  cases h with
  |cons r t=>exact .cons (f _ _ r) (Paired.mapP t f)
theorem bO.stay(x:bO P w H h a o)(k:∀b u,(b=a\/H b=some (.own a))->h.get? b=some u->h'.get? b=some u)(ho:∀b,H b=some (.own a)->H' b=some (.own a))(Z:∀b xs,H b=some (.t xs)->H' b=some (.t xs)):bO P w H' h' a o:=by
 induction o with
 |l xs=>obtain⟨z,O,n,r,e⟩:=x;exact⟨z,O,n,r,k _ _ (.inl rfl) e⟩
 |t xs=>obtain⟨z,O,r,ob,e,c⟩:=x;exact⟨z,O,r,ob,k _ _ (.inl rfl) e,c⟩
 |dK kvs=>obtain⟨z,y,vs,r,ob,es,g,e,c⟩:=x;exact⟨z,y,vs,r,ob,es,g,k _ _ (.inl rfl) e,c⟩
 |dT kvs=>
  obtain⟨z,y,xs,r,ob,es,g,e,c⟩:=x;exact⟨z,y,xs,Paired.mapP r λ p q z=>⟨z.1,Z _ _ z.2.1,z.2.2⟩,ob,es,g,k _ _ (.inl rfl) e,c⟩
 |set σ n=>obtain⟨ob,es,g,t,e,c⟩:=x;exact⟨ob,es,g,t,k _ _ (.inl rfl) e,c⟩
 |ins C dx fs=>
  obtain⟨d,z,l,e,Y,⟨i,es,g,e2,c⟩,r⟩:=x;exact⟨ho _ d,z,l,k _ _ (.inl rfl) e,Y,⟨i,es,g,k _ _ (.inr d) e2,c⟩,r⟩
 |own y=>obtain⟨ob,e⟩:=x;exact⟨ob,k _ _ (.inl rfl) e⟩
 |xd fs=>obtain⟨Y,⟨i,es,g,e,c⟩,r⟩:=x;exact⟨Y,⟨i,es,g,k _ _ (.inl rfl) e,c⟩,r⟩
 |rng lo hi=>obtain⟨t,u,v,e⟩:=x;exact⟨t,u,v,k _ _ (.inl rfl) e⟩
 |frz ob u j=>obtain⟨e,q⟩:=x;exact⟨k _ _ (.inl rfl) e,j q⟩
 |tbl ps=>
  have e:=x;exact k a _ (.inl rfl) e
 |met f y=>
  have e:=x;exact k a _ (.inl rfl) e
 |ext m=>obtain⟨p,⟨o,e⟩,st⟩:=x;exact⟨st _ _ p λ o q=>k _ _ (.inl rfl) q,⟨o,k _ _ (.inl rfl) e⟩,st⟩
theorem ef.lt(x:ef P w H h)(e:H a=some o):a<h.n:=(x a o e).lt
theorem ef.fresh(x:ef P w H h)(e:h.n<=a):H a=none:=by
 cases q:H a with
 |none=>rfl
 |some u=>exact absurd (qt (x.lt q) e) (yu _)
theorem ef.kept(x:ef P w H h)(k:∀b u,h.get? b=some u->h'.get? b=some u):ef P w H h':=λ a o e=>
 (x a o e).stay (λ b u _ q=>k b u q) (λ _ q=>q) λ _ _ q=>q
theorem ef.laid(x:ef P w H h)(k:∀b u,h.get? b=some u->h'.get? b=some u)(Y:h.n<=a)(new:bO P w (upd H a o) h' a o):ef P w (upd H a o) h':=λ b u e=>by
 have hn:=x.fresh Y;by_cases O:b=a
 .grind[cM]
 .rw[bX O]at e;exact(x b u e).stay (λ c v _ q=>k c v q) (λ c q=>by grind[bX]) λ c xs q=>by grind[bX]
def Rd(H:Hp)(a:Addr)(u:HO):Prop:=H a=some u\/∃o,H a=some (.frz o u)
theorem Rd.of(h:H a=some u):Rd H a u:=.inl h
theorem Rd.ok(r:Rd H a u)(x:ef P w H h):bO P w H h a u:=by grind[Rd,ef,bO]
noncomputable def sQ:Option HO->Prop
 |some (.l _)=>True
 |some (.dK _)=>True
 |some (.dT _)=>True
 |some (.set _ _)=>True
 |some (.ins _ _ _)=>True
 |some (.ext _)=>True
 |_=>False
theorem ef.write(ok:ef P w H h)(mu:sQ (H x))(he:e=x\/H e=some (.own x))(k:∀b u,b≠e->h.get? b=some u->h'.get? b=some u)(aa:∃u,h'.get? e=some u)(new:bO P w (upd H x o') h' x o'):ef P w (upd H x o') h':=λ b u q=>by
 have Y:∀c y,H c=some (.own y)->c≠x:=λ c y r z=>by subst z;rw[r]at mu;exact mu
 have Z:∀c xs,H c=some (.t xs)->c≠x:=λ c xs r z=>by subst z;rw[r]at mu;exact mu
 by_cases f:b=x
 .grind[cM]
 .rw[bX f]at q;by_cases O:b=e
  .have d:H b=some (.own x):=by
    rcases he with z|z
    .grind
    .rw[O];exact z
   rw[q]at d;cases d;obtain⟨v,g⟩:=aa;exact⟨v,by rw[O];exact g⟩
  .refine(ok b u q).stay (λ c v a r=>k c v ?_ r) (λ c r=>by grind[bX]) λ c xs r=>by rw[bX (Z c xs r)];exact r
   rcases a with rfl|a
   .exact O
   .grind
noncomputable abbrev _root_.fB:=List Addr
structure Un(fs ex:fB)(H H':Hp)(h h':Heap):Prop where
 keep:∀b o,h.get? b=some o->H b=none->b∉fs->b∉ex->h'.get? b=some o
 slot:∀b o,h.get? b=some o->H b=none->b∈fs->b∉ex->∃sl,h'.get? b=some {o with slots:=sl}
 free:∀b o,h.get? b=some o->H b=none->b∉ex->H' b=none
 there:∀b o,h.get? b=some o->b∉ex->∃o',h'.get? b=some o'
 tups:∀b xs,H b=some (.t xs)->H' b=some (.t xs)
 frzs:∀b o u,H b=some (.frz o u)->H' b=some (.frz o u)
 tbls:∀b ps,H b=some (.tbl ps)->∃more,H' b=some (.tbl (ps++more))
theorem Un.any(u:Un fs ex H H1 h h1)(q:h.get? b=some ob)(n:H b=none)(O:b∉ex):∃Z,h1.get? b=some {ob with slots:=Z}:=by
 by_cases Y:b∈fs
 .exact u.slot b ob q n Y O
 .exact⟨ob.slots,u.keep b ob q n Y O⟩
theorem Un.kept(k:∀b u,h.get? b=some u->h'.get? b=some u):Un fs ex H H h h':=
 ⟨λ b ob q _ _ _=>k b ob q,λ b ob q _ _ _=>⟨ob.slots,k b ob q⟩,λ _ _ _ n _=>n,λ b ob q _=>⟨ob,k b ob q⟩,λ _ _ q=>q,λ _ _ _ q=>q,λ _ ps q=>⟨#[],by rw[q];simp⟩⟩
theorem Un.refl:Un fs ex H H h h:=Un.kept λ _ _ q=>q
theorem Un.laid(k:∀b u,h.get? b=some u->h'.get? b=some u)(O:h.n<=a)(hn:H a=none):Un fs ex H (upd H a o) h h' where
 keep:=λ b u q _ _ _=>k b u q
 slot:=λ b u q _ _ _=>⟨u.slots,k b u q⟩
 free:=λ b u q n _=>by rw[bX (Nat.ne_of_lt (Nat.lt_of_lt_of_le (Heap.lt_size q) O))];exact n
 there:=λ b u q _=>⟨u,k b u q⟩
 tups:=λ b xs q=>by grind[bX]
 frzs:=λ b u xs q=>by grind[bX]
 tbls:=λ b ps q=>⟨#[],by rw[bX (iU q hn),q];simp⟩
theorem Un.write(Y:sQ (H x))(he:e=x\/H e=some (.own x))(k:∀b u,b≠e->h.get? b=some u->h'.get? b=some u)(Z:∃u,h'.get? e=some u):Un fs ex H (upd H x o) h h':=by
 have d:∀b,H b=none->b≠x:=λ b n z=>by subst z;rw[n]at Y;exact Y
 have c:∀b,H b=none->b≠e:=λ b n z=>by
  subst z;rcases he with r|r
  .exact d b n r
  .rw[n]at r;cases r
 have a:∀b u,H b=some u->¬sQ (some u)->b≠x:=λ b u q nm z=>by grind
 refine⟨λ b u q n _ _=>k b u (c b n) q,λ b u q n _ _=>⟨u.slots,k b u (c b n) q⟩,λ b u q n _=>by rw[bX (d b n)];exact n,λ b u q _=>?_,λ b xs q=>by rw[bX (a b _ q λ z=>z)];exact q,λ b u xs q=>by rw[bX (a b _ q λ z=>z)];exact q,λ b ps q=>⟨#[],by rw[bX (a b _ q λ z=>z),q];simp⟩⟩
 by_cases O:b=e
 .subst O;exact Z
 .grind
theorem Un.mono(u:Un fs ex H H1 h h1)(hs:∀b∈fs,b∈fs')(Y:∀b∈ex,b∈ex'):Un fs' ex' H H1 h h1:=
 ⟨λ b ob q n Z O=>u.keep b ob q n (λ z=>Z (hs b z)) λ z=>O (Y b z),λ _ _ q n _ O=>u.any q n λ z=>O (Y _ z),λ b ob q n O=>u.free b ob q n λ z=>O (Y b z),λ b ob q O=>u.there b ob q λ z=>O (Y b z),u.tups,u.frzs,u.tbls⟩
def yJ(h:Heap)(H:Hp):fB:=(List.range h.n).filter λ a=>(H a).isSome
def nX(h:Heap)(H:Hp):Heap:=PySem.W.hideAll h (yJ h H)
theorem O8(h:Heap)(H:Hp):(nX h H).objs.size=h.n:=PySem.W.hideAll_size _ _
theorem P6(e:h.get? b=some o)(n:H b=none):(nX h H).get? b=some o:=
 PySem.W.hideAll_get _ e λ O=>by
  have q:=(List.mem_filter.mp O).2;grind
theorem VP(e:(nX h H).get? b=some o):h.get? b=some o/\H b=none:=by
 have O:=PySem.W.of_hideAll (yJ h H) e;refine⟨O,?_⟩;cases q:H b with
 |none=>rfl
 |some x=>
  have Y:b∈yJ h H:=List.mem_filter.mpr ⟨List.mem_range.mpr (qm O),by simp[q]⟩;have z:(nX h H).get? b=none:=PySem.W.hideAll_none (yJ h H) Y;rw[z]at e;cases e
noncomputable abbrev _root_.cB:=List (Addr×Obj)
def V8(g h:Heap)(L:Addr):cB:=(List.range h.n).filterMap λ a=>if a=L\/(g.get? a).isSome=true then none else(h.get? a).map λ o=>(a,o)
def rest(g h:Heap)(L d:Addr):cB:=(V8 g h L).filter λ p=>decide (p.1≠d)
structure Mod(K:Frag)(mg:Str->Option Value)(base:Heap):Prop where
 kin:K.In base
 glob:base.Ns mainGlobals mg
 blt:∃mb,base.Ns builtinsNs mb∧∀x:Str,x≠"__name__"→mb x=bootBuiltins x
 nolimit:base.NoLimit
noncomputable abbrev _root_.dw:=Value->Shared->Prop
noncomputable abbrev _root_.hO:=List Env
noncomputable abbrev _root_.aP:=List Str
structure Cx where
 p:Program
 w:World
 K:Frag
 mg:Str->Option Value
 base:Heap
 A:Around
 N:aP
 s₀:Shared
 H₀:Hp
 v:Env
 outer:hO
 stack:hO
 ex:fB
 fn:Str->Bool
 c:Bool
 pn:cB
 xe:dw
abbrev rP(X:Cx)(e:Expr)(o:Option Expr)(l:Nat)(b:Bool):Prop:=swapsWith e o l X.v=pure b
abbrev oA(X:Cx)(e:Expr):Prop:=∀v,foldedSetIterable e X.v v=pure v
abbrev oz(X:Cx)(p:Pos)(es:List Expr):Prop:=((backTo p (starEach es X.v)).all (λ x=>!x.1)&&(backToKw p (keywordEach [] X.v)).all (λ x=>x.1.isSome)&&decide (es.length+([]:List Keyword).length+(if([]:List Keyword).isEmpty then 0 else 1)<30))=true
abbrev lG(X:Cx)(o:Expr)(n:Str):Prop:=attributeBase o n X.v (eval o X.v)=eval o X.v
abbrev lH(X:Cx)(p:Pos)(es:List Expr):Prop:=(backTo p (starEach es X.v)).any (·.1)=false
abbrev gP(X:Cx)(e:Expr):Prop:=starEach [e] X.v=[(false,eval e X.v)]
abbrev kv(X:Cx)(e:Expr)(es:List Expr):Prop:=starEach (e::es) X.v=(false,eval e X.v)::starEach es X.v
def gC(l:hO):fB:=l.filterMap (·.frame)
abbrev Cx.fs(X:Cx):fB:=gC X.outer
def jR(sc:Scope)(x:Str):Prop:=sc.names.lookup x=some .local\/sc.names.lookup x=some .cell\/sc.names.lookup x=some .free
def Loc(sc:Scope)(x:Str):Prop:=sc.names.lookup x=some .local\/sc.names.lookup x=some .cell
theorem nE{sc x}(h:jR sc x:=by first|exact Or.inl rfl|exact Or.inr (Or.inl rfl)|exact Or.inr (Or.inr rfl)):jR sc x:=h
theorem mA{p q:Prop}(h:p∨q:=by first|exact .inl rfl|exact .inr rfl):p∨q:=h
def ZT(env:Env)(h:Heap)(m:Str->Option Value)(x:Str)(u:Value):Prop:=
 (env.kindOf x=some .local/\m x=some u)\/((env.kindOf x=some .cell\/env.kindOf x=some .free)/\∃c,env.cells.lookup x=some c/\h.IsCell c (some u))
structure Cx.Ok(X:Cx):Prop where
 mod:Mod X.K X.mg X.base
 kind:X.v.scope.kind=.function
 glob:X.v.globals=mainGlobals
 blt:X.v.builtins=builtinsNs
 above:X.s₀.heap.n<=X.v.locals
 inj:∀x y c,X.v.cells.lookup x=some c->X.v.cells.lookup y=some c->x=y
 has:∀x,(X.v.kindOf x=some .cell\/X.v.kindOf x=some .free)->∃c,X.v.cells.lookup x=some c
 cab:∀x c,X.fn x=true->X.v.cells.lookup x=some c->X.s₀.heap.n<=c
 hd:X.c=true->X.A.handled=none
 frames:X.A.frames=some X.stack
 stk:X.stack=X.outer\/(X.stack=X.v::X.outer/\X.v.frame=some X.v.locals)
 exf:∀b∈X.ex,b≠X.v.locals/\∀x c,X.v.cells.lookup x=some c->c≠b
 bs:∀b o,X.base.get? b=some o->X.s₀.heap.get? b=some o/\X.H₀ b=none
 bsz:X.base.objs.size<=X.s₀.heap.n
 noex:∀b o,X.base.get? b=some o->b∉X.ex
 exfs:∀b∈X.ex,b∉X.fs
 funs:X.s₀.heap.FunFrames X.base X.outer
 frf:∀b∈X.fs,X.H₀ b=none
structure aI(X:Cx)(aA:cB)(S:List (Option V))(H:Hp)(s:Shared):Prop where
 ok:X.Ok
 os:s.os=X.s₀.os
 bare:AllBare s.gens
 base:Un X.fs X.ex X.H₀ H X.s₀.heap s.heap
 loc:∃m,s.heap.Ns X.v.locals m/\∀(i:Nat)(x:Str)(v:V),X.N[i]?=some x->S[i]?=some (some v)->jR X.v.scope x->∃u,aX v u/\ZT X.v s.heap m x u
 cell:∀x c,X.v.cells.lookup x=some c->∃v,s.heap.IsCell c v
 free:H X.v.locals=none
 freeC:∀x c,X.v.cells.lookup x=some c->H c=none
 pin:∀p∈X.pn++aA,s.heap.get? p.1=some p.2/\H p.1=none/\p.1≠X.v.locals/\p.1∉X.fs/\∀v,p.2.data≠.cell v
 hok:ef X.p X.w H s.heap
 len:S.length=X.N.length
section
variable{X:Cx}{aA:cB}{S:List (Option V)}{H H':Hp}{s:Shared}{h':Heap}
theorem Cx.Ok.nofr(ok:X.Ok)(e:X.base.get? b=some o):b∉X.fs:=λ q=>by
 have:=(ok.funs.mem q).1;rw[e]at this;cases this
theorem aI.bs(I:aI X aA S H s):∀b o,X.base.get? b=some o->s.heap.get? b=some o/\H b=none:=λ b o e=>
 ⟨I.base.keep b o (I.ok.bs b o e).1 (I.ok.bs b o e).2 (I.ok.nofr e) (I.ok.noex b o e),I.base.free b o (I.ok.bs b o e).1 (I.ok.bs b o e).2 (I.ok.noex b o e)⟩
theorem aI.bk(I:aI X aA S H s):∀b o,X.base.get? b=some o->s.heap.get? b=some o:=λ b o e=>(I.bs b o e).1
theorem aI.mod(I:aI X aA S H s):Mod X.K X.mg X.base:=I.ok.mod
theorem aI.kIn(I:aI X aA S H s):X.K.In s.heap:=I.ok.mod.kin.keeps I.bk
theorem aI.nolimit(I:aI X aA S H s):s.heap.NoLimit:=I.ok.mod.nolimit.keeps I.bk
theorem aI.fr(I:aI X aA S H s):∃m,Fr X.base X.v.locals s.heap m:=
 let ⟨m,hn,_⟩:=I.loc
 ⟨m,hn,I.bk,zw I.ok.bsz I.ok.above⟩
theorem aI.lt(I:aI X aA S H s):X.v.locals<s.heap.n:=let ⟨_,hn,_⟩:=I.loc;hn.lt
theorem aI.sz(I:aI X aA S H s):X.s₀.heap.n<=s.heap.n:=zw I.ok.above (Ya I.lt)
theorem aI.nofs(I:aI X aA S H s)(h:s.heap.n<=a):a∉X.fs:=λ O=>by
 obtain⟨_,o,q,_⟩:=I.ok.funs.mem O;exact absurd (qt (qm q) (zw I.sz h)) (yu _)
theorem aI.cne(I:aI X aA S H s):∀x c,X.v.cells.lookup x=some c->c≠X.v.locals:=λ x c e z=>by
 obtain⟨v,o,Y,hd⟩:=I.cell x c e;obtain⟨m,⟨b,es,a,q,O,_⟩,_⟩:=I.loc;grind
theorem aI.funs(I:aI X aA S H s):s.heap.FunFrames X.base X.outer:=by
 have all:∀(l:hO),(∀b∈gC l,b∈X.fs)->X.s₀.heap.FunFrames X.base l->s.heap.FunFrames X.base l:=by
  intro l;induction l with
  |nil=>intro _ _;trivial
  |cons a r f=>
   intro Y hl;obtain⟨Z,⟨L,o,q,hn,c,hd⟩,d⟩:=hl;have hL:=Y L (by unfold gC;rw[Zm,q];exact qg);obtain⟨g,e⟩:=I.base.slot L o c (I.ok.frf L hL) hL λ z=>I.ok.exfs L z hL;exact⟨Z,⟨L,_,q,hn,e,hd⟩,f (λ b O=>Y b (by unfold gC;rw[Zm,q];exact qh _ O)) d⟩
 exact all X.outer (λ _ O=>O) I.ok.funs
theorem aI.stack(I:aI X aA S H s):s.heap.FunFrames X.base X.stack:=by
 rcases I.ok.stk with e|⟨e,a⟩
 .rw[e];exact I.funs
 .rw[e];obtain⟨m,hn,_⟩:=I.loc;refine .cons (by rw[I.ok.kind];decide) a hn ?_ I.funs;exact jb (zw I.ok.bsz I.ok.above)
theorem aI.stkSub(I:aI X aA S H s):∀b∈gC X.stack,b∈X.v.locals::X.fs:=λ b q=>by
 rcases I.ok.stk with e|⟨e,a⟩
 .grind
 .grind[gC]
theorem aI.stkFree(I:aI X aA S H s):∀b∈gC X.stack,H b=none:=λ b q=>by
 rcases qx (I.stkSub b q)with e|q
 .rw[e];exact I.free
 .obtain⟨_,o,O,_⟩:=I.ok.funs.mem q;exact I.base.free b o O (I.ok.frf b q) λ z=>I.ok.exfs b z q
theorem aI.step{ch:fB}(I:aI X aA S H s)(Z:∀b∈ch,(b∈X.ex\/X.s₀.heap.n<=b)/\b≠X.v.locals/\(∀x c,X.v.cells.lookup x=some c->c≠b)/\∀p∈X.pn++aA,p.1≠b)(keep:∀b o,b≠X.v.locals->b∉X.fs->b∉ch->s.heap.get? b=some o->H b=none->h'.get? b=some o)(slot:∀b o,b≠X.v.locals->b∈X.fs->b∉ch->s.heap.get? b=some o->H b=none->∃sl,h'.get? b=some {o with slots:=sl})(free:∀b o,b∉ch->s.heap.get? b=some o->H b=none->H' b=none)(there:∀b o,b∉ch->s.heap.get? b=some o->∃o',h'.get? b=some o')(tups:∀b xs,H b=some (.t xs)->H' b=some (.t xs))(frzs:∀b o u,H b=some (.frz o u)->H' b=some (.frz o u))(tbls:∀b ps,H b=some (.tbl ps)->∃ae,H' b=some (.tbl (ps++ae)))(ns:∀m,s.heap.Ns X.v.locals m->h'.Ns X.v.locals m)(ah:ef X.p X.w H' h')(hg:AllBare g'):aI X aA S H' {s with heap:=h',gens:=g',drawn:=d',toks:=t'}:=by
 have j:∀b o,X.s₀.heap.get? b=some o->b≠X.v.locals:=λ b o e=>qv (qt (qm e) I.ok.above);have h:∀b o,X.s₀.heap.get? b=some o->b∉X.ex->b∉ch:=λ b o e O a=>by
  rcases(Z b a).1 with z|z
  .exact O z
  .exact absurd (qt (qm e) z) (yu _)
 have Y:∀x c,X.v.cells.lookup x=some c->∀v,s.heap.IsCell c v->h'.IsCell c v:=λ x c e v C=>by
  obtain⟨o,f,hd⟩:=C;have g:=λ z=>(Z c z).2.2.1 x c e rfl;by_cases t:c∈X.fs
  .obtain⟨sl,q⟩:=slot c o (I.cne x c e) t g f (I.freeC x c e);exact⟨_,q,hd⟩
  .exact⟨o,keep c o (I.cne x c e) t g f (I.freeC x c e),hd⟩
 refine⟨I.ok,I.os,hg,⟨λ b o e n a O=>?_,λ b o e n a O=>?_,λ b o e n O=>?_,λ b o e O=>?_,λ b xs e=>tups b xs (I.base.tups b xs e),λ b o xs e=>frzs b o xs (I.base.frzs b o xs e),λ b ps e=>?_⟩,?_,λ x c e=>?_,?_,λ x c e=>?_,λ p y=>?_,ah,I.len⟩
 .exact keep b o (j b o e) a (h b o e O) (I.base.keep b o e n a O) (I.base.free b o e n O)
 .obtain⟨sl,e1⟩:=I.base.slot b o e n a O;obtain⟨D,e2⟩:=slot b _ (j b o e) a (h b o e O) e1 (I.base.free b o e n O);exact⟨D,e2⟩
 .obtain⟨o',e1⟩:=I.base.there b o e O;exact free b o' (h b o e O) e1 (I.base.free b o e n O)
 .obtain⟨o',e1⟩:=I.base.there b o e O;exact there b o' (h b o e O) e1
 .obtain⟨E,e1⟩:=I.base.tbls b ps e;obtain⟨F,e2⟩:=tbls b _ e1;grind
 .obtain⟨m,hn,hl⟩:=I.loc;refine⟨m,ns m hn,λ i x v e1 e2 e3=>?_⟩;obtain⟨u,r,l⟩:=hl i x v e1 e2 e3;refine⟨u,r,?_⟩;rcases l with l|⟨k,c,e,z⟩
  .exact .inl l
  .exact .inr ⟨k,c,e,Y x c e _ z⟩
 .obtain⟨v,z⟩:=I.cell x c e;exact⟨v,Y x c e v z⟩
 .obtain⟨m,⟨o,_,_,f,_⟩,_⟩:=I.loc;exact free _ o (λ z=>(Z _ z).2.1 rfl) f I.free
 .obtain⟨v,o,f,hd⟩:=I.cell x c e;exact free c o (λ z=>(Z c z).2.2.1 x c e rfl) f (I.freeC x c e)
 .obtain⟨e,n,A,B,d⟩:=I.pin p y;have g:=λ z=>(Z p.1 z).2.2.2 p y rfl;exact⟨keep p.1 p.2 A B g e n,free p.1 p.2 g e n,A,B,d⟩
theorem aI.un(I:aI X aA S H s)(u:Un X.fs [] H H' s.heap h')(O:ef X.p X.w H' h'):aI X aA S H' {s with heap:=h',toks:=t'}:=by
 obtain⟨m,⟨o,es,g,a,r⟩,_⟩:=id I.loc;obtain⟨j,hL⟩:=u.any a I.free aQ;exact I.step (ch:=[]) (λ _ z=>nomatch z) (λ b o _ Y _ e n=>u.keep b o e n Y aQ) (λ b o _ Y _ e n=>u.slot b o e n Y aQ) (λ b o _ e n=>u.free b o e n aQ) (λ b o _ e=>u.there b o e aQ) u.tups u.frzs u.tbls (λ h d=>by
  obtain⟨i,c,Z,q,f⟩:=d;rw[a]at q;cases q;exact⟨_,c,Z,hL,f⟩) O I.bare
theorem aI.call(I:aI X aA S H s)(u:Un (gC X.stack) ch H H' s.heap h')(Z:ef X.p X.w H' h')(hg:AllBare g')(O:∀b∈ch,(b∈X.ex\/X.s₀.heap.n<=b)/\b≠X.v.locals/\(∀x c,X.v.cells.lookup x=some c->c≠b)/\∀p∈X.pn++aA,p.1≠b):aI X aA S H' {s with heap:=h',gens:=g',drawn:=d',toks:=t'}:=by
 obtain⟨m,⟨o,es,j,a,r⟩,_⟩:=id I.loc;obtain⟨t,hL⟩:=u.any a I.free λ z=>(O _ z).2.1 rfl;exact I.step O (λ b o hL g q e n=>u.keep b o e n (λ z=>(qx (I.stkSub b z)).elim hL g) q) (λ b o _ _ q e n=>u.any e n q) (λ b o q e n=>u.free b o e n q) (λ b o q e=>u.there b o e q) u.tups u.frzs u.tbls (λ k h=>by
  obtain⟨l,f,d,Y,i⟩:=h;rw[a]at Y;cases Y;exact⟨_,f,d,hL,i⟩) Z hg
theorem aI.turned(I:aI X aA S H s)(k:∀b o,b≠it->s.heap.get? b=some o->h'.get? b=some o)(hn:H it=none)(hL:it≠X.v.locals)(h1:it∈X.ex\/X.s₀.heap.n<=it)(h2:∀x c,X.v.cells.lookup x=some c->c≠it)(h3:∀p∈X.pn++aA,p.1≠it):aI X aA S H {s with heap:=h',toks:=t'}:=by
 have Y:∀b u,H b=some u->b≠it:=λ b u e z=>by rw[z,hn]at e;cases e
 refine I.step (ch:=[it]) (λ b Z=>?_) (λ b o _ _ O e _=>k b o (λ z=>O (by simp[z])) e) (λ b o _ _ O e _=>⟨o.slots,k b o (λ z=>O (by simp[z])) e⟩) (λ _ _ _ _ n=>n)
  (λ b o O e=>⟨o,k b o (λ z=>O (by simp[z])) e⟩) (λ _ _ e=>e) (λ _ _ _ e=>e) (λ b ps e=>⟨#[],by rw[e];simp⟩) (λ m d=>?_) (λ b u e=>?_) I.bare
 .have e:b=it:=by simpa using Z
  subst e;exact⟨h1,hL,h2,h3⟩
 .obtain⟨o,es,a,f,r⟩:=d;exact⟨o,es,a,k _ o (jc hL) f,r⟩
 .refine(I.hok b u e).stay (λ c v O q=>k c v ?_ q) (λ _ q=>q) λ _ _ q=>q;rcases O with z|z
  .rw[z];exact Y b u e
  .exact Y c _ z
theorem aI.tok(I:aI X aA S H s)(t:Nat):aI X aA S H {s with toks:=t}:=I.un Un.refl I.hok
theorem aI.kept(I:aI X aA S H s)(k:∀b u,s.heap.get? b=some u->h'.get? b=some u):aI X aA S H {s with heap:=h',toks:=t'}:=I.un (Un.kept k) (I.hok.kept k)
theorem aI.laid(I:aI X aA S H s)(k:∀b u,s.heap.get? b=some u->h'.get? b=some u)(q:s.heap.n<=a)(new:bO X.p X.w (upd H a o) h' a o):aI X aA S (upd H a o) {s with heap:=h',toks:=t'}:=I.un (Un.laid k q (I.hok.fresh q)) (I.hok.laid k q new)
theorem aI.write(I:aI X aA S H s)(Y:sQ (H x))(O:e=x\/H e=some (.own x))(k:∀b u,b≠e->s.heap.get? b=some u->h'.get? b=some u)(q:∃u,h'.get? e=some u)(new:bO X.p X.w (upd H x o) h' x o):aI X aA S (upd H x o) {s with heap:=h',toks:=t'}:=I.un (Un.write Y O k q) (I.hok.write Y O k q new)
theorem aI.weak(I:aI X aA S H s)(hl:q.length=S.length)(w:∀(i:Nat)v,q[i]?=some (some v)->S[i]?=some (some v)):aI X aA q H s:=
 ⟨I.ok,I.os,I.bare,I.base,let ⟨m,hn,hl'⟩:=I.loc;⟨m,hn,λ i x v e1 e2 e3=>hl' i x v e1 (w i v e2) e3⟩,I.cell,I.free,I.freeC,I.pin,I.hok,hl.trans I.len⟩
theorem aI.pins_of{pins':cB}(I:aI X aA S H s)(h:∀p∈pins',s.heap.get? p.1=some p.2/\H p.1=none/\p.1≠X.v.locals/\p.1∉X.fs/\∀v,p.2.data≠.cell v):aI X pins' S H s:=
 ⟨I.ok,I.os,I.bare,I.base,I.loc,I.cell,I.free,I.freeC,λ p q=>(qy q).elim (λ z=>I.pin p (jy _ z)) (h p),I.hok,I.len⟩
theorem Am{N:aP}(q:N.Nodup){i j:Nat}(a:N[i]?=some x)(b:N[j]?=some x):i=j:=by obtain⟨c,e1⟩:=ir.mp a;obtain⟨d,e2⟩:=ir.mp b;exact(List.getElem_inj q).mp (e1.trans e2.symm)
theorem G5{M:Model}{A:Around}{E:dw}{i:Nat}{x:Str}{v:V}{u:Value}{Q:Unit->Shared->Prop}(I:aI X aA S H s)(hN:X.N.Nodup)(hi:X.N[i]?=some x)(hx:Loc X.v.scope x)(r:aX v u)(h:∀s',aI X aA (S.set i (some v)) H s'->(∃a,Heap.SameBut a s.heap s'.heap/\(a=X.v.locals\/X.v.cells.lookup x=some a))->Q () s')(hf:X.fn x=true\/X.v.scope.names.lookup x=some .local):wpAny M A (storeName X.v x u) Q E s:=by
 obtain⟨m,hn,hl⟩:=id I.loc;have af:(X.v.scope.kind==.class||(X.v.scope.kind==.module&&X.v.locals != X.v.globals))=false:=by rw[I.ok.kind];rfl
 have σ:i<S.length:=by rw[I.len];exact(ir.mp hi).1
 have cne:=I.cne;have Y:∀{a:Addr}{h':Heap},(∃o,s.heap.get? a=some o/\H a=none)->Heap.SameBut a s.heap h'->ef X.p X.w H h':=λ{a h'}ha O b ob e=>by
  obtain⟨_,_,aa⟩:=ha;refine(I.hok b ob e).stay (λ c C Z q=>(O.2 c ?_).trans q) (λ _ q=>q) λ _ _ q=>q;rintro rfl;rcases Z with rfl|Z
  .grind
  .grind
 rcases hx with l|l
 .refine wpAny_storeName_local l hn (λ h' ak O=>?_) af;obtain⟨oL,_,_,al,_⟩:=id hn;refine h _ ⟨I.ok,I.os,I.bare,⟨λ b o e n f hx=>?_,λ b o e n f hx=>?_,I.base.free,λ b o e hx=>?_,I.base.tups,I.base.frzs,I.base.tbls⟩,⟨_,ak,λ j y R e1 e2 e3=>?_⟩,λ y c e=>?_,I.free,I.freeC,λ p F=>?_,Y ⟨oL,al,I.free⟩ O,by simpa using I.len⟩ ⟨_,O,.inl rfl⟩
  .exact(O.2 b (qv (qt (qm e) I.ok.above))).trans (I.base.keep b o e n f hx)
  .obtain⟨L,e1⟩:=I.base.slot b o e n f hx;exact⟨L,(O.2 b (qv (qt (qm e) I.ok.above))).trans e1⟩
  .obtain⟨ρ,e1⟩:=I.base.there b o e hx;exact⟨ρ,(O.2 b (qv (qt (qm e) I.ok.above))).trans e1⟩
  .by_cases g:j=i
   .subst g;rw[hi]at e1;cases e1;rw[ye σ]at e2;cases e2;exact⟨u,r,.inl ⟨l,by simp⟩⟩
   .rw[yh (jc g)]at e2;obtain⟨P,K,q⟩:=hl j y R e1 e2 e3;refine⟨P,K,?_⟩;rcases q with⟨k,e⟩|⟨k,c,e,z⟩
    .refine .inl ⟨k,?_⟩;have:y≠x:=λ e=>g (Am hN e1 (e▸hi));simp[this,e]
    .exact .inr ⟨k,c,e,z.sameBut O (cne y c e)⟩
  .obtain⟨C,z⟩:=I.cell y c e;exact⟨C,z.sameBut O (cne y c e)⟩
  .obtain⟨e,n,B,G,d⟩:=I.pin p F;exact⟨(O.2 p.1 B).trans e,n,B,G,d⟩
 .have D:X.fn x=true:=by
   rcases hf with z|z
   .exact z
   .grind
  obtain⟨c,Z⟩:=I.ok.has x (.inl l);obtain⟨C,z⟩:=I.cell x c Z;refine wpAny_storeName_cell I.ok.kind l Z z (λ h' W O=>?_);obtain⟨oc,T,aj⟩:=id z;refine h {s with heap:=h'} ⟨I.ok,I.os,I.bare,⟨λ b o e n f hx=>?_,λ b o e n f hx=>?_,I.base.free,λ b o e hx=>?_,I.base.tups,I.base.frzs,I.base.tbls⟩,⟨m,hn.sameBut O (jc (cne x c Z)),λ j y R e1 e2 e3=>?_⟩,λ y t e=>?_,I.free,I.freeC,λ p F=>?_,Y ⟨oc,T,I.freeC x c Z⟩ O,by simpa using I.len⟩ ⟨c,O,.inr Z⟩
  .exact(O.2 b (qv (qt (qm e) (I.ok.cab x c D Z)))).trans (I.base.keep b o e n f hx)
  .obtain⟨L,e1⟩:=I.base.slot b o e n f hx;exact⟨L,(O.2 b (qv (qt (qm e) (I.ok.cab x c D Z)))).trans e1⟩
  .obtain⟨ρ,e1⟩:=I.base.there b o e hx;exact⟨ρ,(O.2 b (qv (qt (qm e) (I.ok.cab x c D Z)))).trans e1⟩
  .by_cases g:j=i
   .subst g;rw[hi]at e1;cases e1;rw[ye σ]at e2;cases e2;exact⟨u,r,.inr ⟨.inl l,c,Z,W⟩⟩
   .rw[yh (jc g)]at e2;obtain⟨P,K,q⟩:=hl j y R e1 e2 e3;refine⟨P,K,?_⟩;rcases q with q|⟨k,t,e,z'⟩
    .exact .inl q
    .refine .inr ⟨k,t,e,z'.sameBut O ?_⟩;rintro rfl;exact g (Am hN e1 (I.ok.inj _ _ _ e Z▸hi))
  .by_cases U:t=c
   .subst U;exact⟨_,W⟩
   .obtain⟨w2,z2⟩:=I.cell y t e;exact⟨w2,z2.sameBut O U⟩
  .obtain⟨e,n,B,G,d⟩:=I.pin p F;refine⟨(O.2 p.1 ?_).trans e,n,B,G,d⟩;intro q;rw[q,T]at e;have q':oc=p.2:=qi e;exact d C (by rw[<-q'];exact aj)
theorem zP{M:Model}{A:Around}{E:dw}{i:Nat}{x:Str}{v:V}{u:Value}{Q:Unit->Shared->Prop}(I:aI X aA S H s)(O:X.N.Nodup)(hi:X.N[i]?=some x)(Y:Loc X.v.scope x)(r:aX v u)(h:∀s',aI X aA (S.set i (some v)) H s'->Q () s')(q:X.fn x=true\/X.v.scope.names.lookup x=some .local):wpAny M A (storeName X.v x u) Q E s:=
 G5 I O hi Y r (λ s' Z _=>h s' Z) q
theorem aI.call'(I:aI X aA S H s)(Y:s'.os=s.os)(u:Un (gC X.stack) ch H H' s.heap s'.heap)(q:ef X.p X.w H' s'.heap)(Z:AllBare s'.gens)(O:∀b∈ch,(b∈X.ex\/X.s₀.heap.n<=b)/\b≠X.v.locals/\(∀x c,X.v.cells.lookup x=some c->c≠b)/\∀p∈X.pn++aA,p.1≠b):aI X aA S H' s':=by
 obtain⟨h',d,a,g,f⟩:=s';have e:=Y;subst e;exact I.call u q Z O
end
abbrev XK:=Value->Option Addr->Hp->Prop
noncomputable abbrev St:=List (Option V)
abbrev VK:=V->Hp->Prop
abbrev TE:=St->Hp->VK->Prop
abbrev TT:=St->Hp->(Bool->Hp->Prop)->Prop
abbrev TA:=St->Hp->(bY->Hp->Prop)->Prop
structure gv where
 nx:St->Hp->Prop
 rt:VK
 bk:St->Hp->Prop:=λ _ _=>False
 ct:St->Hp->Prop:=λ _ _=>False
abbrev TS:=gv->St->Hp->Prop
def EP(X:Cx)(aA:cB)(S:St)(Q:VK)(u:Value)(s':Shared):Prop:=∃v H',aI X aA S H' s'/\aX v u/\Q v H'
def TP(X:Cx)(aA:cB)(S:St)(Q:Bool->Hp->Prop)(b:Bool)(s':Shared):Prop:=∃H',aI X aA S H' s'/\Q b H'
def AP(X:Cx)(aA:cB)(S:St)(Q:bY->Hp->Prop)(us:cf)(s':Shared):Prop:=∃vs H',aI X aA S H' s'/\aM vs us/\Q vs H'
def SP(X:Cx)(aA:cB)(D:gv)(f:Flow)(s':Shared):Prop:=
 match f with
 |.next=>∃q H',aI X aA q H' s'/\D.nx q H'
 |.brk=>∃q H',aI X aA q H' s'/\D.bk q H'
 |.cont=>∃q H',aI X aA q H' s'/\D.ct q H'
 |.ret u=>∃v q H',aI X aA q H' s'/\aX v u/\D.rt v H'
def PE(X:Cx)(e:Expr)(t:TE):Prop:=
 ∀(aA:cB)(s:Shared)(S:St)(H:Hp)(Q:VK),aI X aA S H s->t S H Q->bU X.p X.w X.A (eval e X.v) (EP X aA S Q) X.xe s
def PT(X:Cx)(e:Expr)(t:TT):Prop:=
 ∀(aA:cB)(s:Shared)(S:St)(H:Hp)(Q:Bool->Hp->Prop),aI X aA S H s->t S H Q->bU X.p X.w X.A (isTrue e X.v (eval e X.v)) (TP X aA S Q) X.xe s
def PW(X:Cx)(e:Expr)(t:TT):Prop:=
 ∀(q:Sem Value)(aA:cB)(s:Shared)(S:St)(H:Hp)(Q:Bool->Hp->Prop),aI X aA S H s->t S H Q->bU X.p X.w X.A (isTrue e X.v q) (TP X aA S Q) X.xe s
theorem PW.pt(h:PW X e t):PT X e t:=h _
noncomputable abbrev _root_.eH:=List Expr
def PA(X:Cx)(es:eH)(t:TA):Prop:=
 ∀(pos:Pos)(aA:cB)(s:Shared)(S:St)(H:Hp)(Q:bY->Hp->Prop),aI X aA S H s->t S H Q->bU X.p X.w X.A (spliced (backTo pos (starEach es X.v))) (AP X aA S Q) X.xe s
def PS(X:Cx)(st:Stmt)(t:TS):Prop:=
 ∀(aA:cB)(s:Shared)(S:St)(H:Hp)(D:gv),aI X aA S H s->t D S H->bU X.p X.w X.A (exec st X.v) (SP X aA D) X.xe s
noncomputable abbrev _root_.iF:=List Stmt
def eE(X:Cx)(st:iF)(t:TS):Prop:=
 ∀(aA:cB)(s:Shared)(S:St)(H:Hp)(D:gv),aI X aA S H s->t D S H->bU X.p X.w X.A (execs st X.v) (SP X aA D) X.xe s
theorem dD{A B C:α->β->Prop}{P:Prop}(h:∀x y,A x y->B x y->C x y->P)(e:∃x y,A x y/\B x y/\C x y):P:=by obtain⟨x,y,a,b,c⟩:=e;exact h x y a b c
theorem bQ(h:wpAny M A t Q E s)(O:∀a s,Q a s->q a s):wpAny M A t q E s:=yd h O λ _ _ x=>x
section
variable{X:Cx}
def JF(i:Nat):TE:=λ S H Q=>∃v,S[i]?=some (some v)/\Q v H
def tC(v:V):TE:=λ _ H Q=>Q v H
abbrev dJ(x:Str):=(x==("__debug__":Str))=false
abbrev jZ(x:Str):=(x==("__classdict__":Str))=false
theorem lI{i:Nat}{x:Str}{pos:Pos}(hN:X.N[i]?=some x)(Z:jR X.v.scope x)(hd:dJ x)(Y:jZ x):PE X (.Name x pos) (JF i):=by
 intro aA s S H Q I h;obtain⟨v,e,h⟩:=h;obtain⟨m,hn,hl⟩:=I.loc;obtain⟨u,r,l⟩:=hl i x v hN e Z;have O:EP X aA S Q u s:=⟨v,H,I,r,h⟩;rcases l with⟨q,b⟩|⟨q,c,a,hcell⟩
 .exact wpAny_Name (wpAny_loadName_local I.ok.kind q hn b O) hd
 .rcases q with q|q
  .exact wpAny_Name (wpAny_loadName_cell I.ok.kind q a hcell O) hd
  .exact wpAny_Name (wpAny_loadName_free I.ok.kind q a hcell O Y) hd
theorem sO:PE X (.Constant (.int i) j pos) (tC (.int i)):=λ _ _ _ H _ I h=>wpAny_Constant_int ⟨.int i,H,I.tok _,⟨_,rfl⟩,h⟩
theorem UP:PE X (.Constant (.bool b) j pos) (tC (.b b)):=λ _ _ _ H _ I h=>Constant_bool ⟨.b b,H,I,rfl,h⟩
theorem Lf:PE X (.Constant .none j pos) (tC .n):=λ _ _ _ H _ I h=>Constant_none ⟨.n,H,I,rfl,h⟩
theorem G8:PE X (.Constant (.str x) j pos) (tC (.str x)):=λ _ _ _ H _ I h=>Calls.Constant_str ⟨.str x,H,I.tok _,⟨_,rfl⟩,h⟩
def Gl(X:Cx)(x:Str):Prop:=X.v.kindOf x=some .globalImplicit
theorem nO{E:dw}{aA:cB}{s:Shared}{S:St}{H:Hp}{x:Str}{u:Value}{pos:Pos}{Q:dw}(I:aI X aA S H s)(O:Gl X x)(q:X.mg x=some u)(h:Q u s)(hd:dJ x):bU X.p X.w X.A (eval (.Name x pos) X.v) Q E s:=
 Calls.Name_function_global I.ok.kind O (Calls.loadGlobal_global (by rw[I.ok.glob];exact I.mod.glob.keeps I.bk) q h) hd
theorem l_(I:aI X aA S H s)(Y:Gl X x)(q:X.mg x=none)(O:bootBuiltins x=some u)(h:Q u s)(hn:x≠"__name__":=by decide)(hd:dJ x:=by decide):bU X.p X.w X.A (eval (.Name x pos) X.v) Q E s:=by
 obtain⟨Z,a,b⟩:=I.mod.blt;exact Calls.Name_function_global I.ok.kind Y (Calls.loadGlobal_builtin (by rw[I.ok.glob];exact I.mod.glob.keeps I.bk) q (by rw[I.ok.blt];exact a.keeps I.bk) ((b x hn).trans O) h) hd
theorem By{x:Str}{v:V}{u:Value}{pos:Pos}(O:Gl X x)(q:X.mg x=some u)(r:aX v u)(hd:dJ x):PE X (.Name x pos) (tC v):=
 λ _ _ _ H _ I h=>nO I O q ⟨v,H,I,r,h⟩ hd
theorem RU{x:Str}{v:V}{u:Value}{pos:Pos}(Y:Gl X x)(O:X.mg x=none)(q:bootBuiltins x=some u)(r:aX v u)(hn:x≠"__name__")(hd:dJ x):PE X (.Name x pos) (tC v):=
 λ _ _ _ H _ I h=>l_ I Y O q ⟨v,H,I,r,h⟩ hn hd
variable{a b:Expr}{ta tb:TE}{pos:Pos}
def PC(X:Cx)(op:CmpOp)(a b:Expr)(t:TE):Prop:=
 ∀(aA:cB)(s:Shared)(S:St)(H:Hp)(Q:VK),aI X aA S H s->t S H Q->bU X.p X.w X.A (eval a X.v) (λ v O=>bU X.p X.w X.A (eval b X.v) (λ u q=>bU X.p X.w X.A (compareOp op v u) (EP X aA S Q) X.xe q) X.xe O) X.xe s
def tB(t:TE):TT:=λ S H Q=>t S H λ x H1=>∃c,x=.b c/\Q c H1
theorem ci8{op:CmpOp}{t:TE}(h:PC X op a b t)(h1:behindInMarks op b=false):PT X (.Compare a [op] [b] pos) (tB t):=by intro aA s S H Q I hw;refine wpAny_isTrue_Compare1 (bQ (h aA s S H _ I hw) λ v g h1=>bQ h1 λ u i f=>bQ f λ c j=>dD λ x e Z O Y=>?_) h1;obtain⟨d,rfl,q⟩:=Y;cases O;exact yn ⟨e,Z,q⟩
theorem Ld(h:PE X e t)(he:∀O,isTrue e X.v O=(do let v<-O;standAt e.pos;holding [v] (truthy v)):=by intro _;rfl):PT X e (tB t):=by intro aA s S H Q I hw;refine isTrue_plain (bQ (h aA s S H _ I hw) λ v c=>dD λ x a b Y Z=>?_) (he _);obtain⟨d,rfl,q⟩:=Z;cases Y;exact yn ⟨a,b,q⟩
variable{tA tB':TT}{rest:eH}
def ey(t u:TT):TT:=λ S H Q=>t S H λ c H1=>if c=true then u S H1 Q else Q false H1
def c_(t u:TT):TT:=λ S H Q=>t S H λ c H1=>if c=true then Q true H1 else u S H1 Q
def cZ(t:TT):TT:=λ S H Q=>t S H λ c H1=>Q (!c) H1
theorem RJ(q:PT X a tA):PW X (.BoolOp .And [a] pos) tA:=by
 intro O aA s S H Q I h;refine isTrue_and (bQ (q aA s S H Q I h) λ c Y e=>?_);cases c with
 |true=>exact isTrue_and_nil e
 |false=>exact e
theorem Wg(q:PT X a tA):PW X (.BoolOp .Or [a] pos) tA:=by
 intro O aA s S H Q I h;refine isTrue_or (bQ (q aA s S H Q I h) λ c Y e=>?_);cases c with
 |false=>exact isTrue_or_nil e
 |true=>exact e
theorem Wh(ha:PT X a tA)(Z:PW X (.BoolOp .And (b::rest) pos) tB'):PW X (.BoolOp .And (a::b::rest) pos) (ey tA tB'):=by
 intro f aA s S H Q I h;refine isTrue_and (bQ (ha aA s S H _ I h) λ c e q=>?_);obtain⟨d,Y,O⟩:=q;cases c with
 |true=>exact Z f aA e S d Q Y O
 |false=>exact⟨d,Y,O⟩
theorem UN(ha:PT X a tA)(Z:PW X (.BoolOp .Or (b::rest) pos) tB'):PW X (.BoolOp .Or (a::b::rest) pos) (c_ tA tB'):=by
 intro f aA s S H Q I h;refine isTrue_or (bQ (ha aA s S H _ I h) λ c e q=>?_);obtain⟨d,Y,O⟩:=q;cases c with
 |true=>exact⟨d,Y,O⟩
 |false=>exact Z f aA e S d Q Y O
theorem Wk(q:PT X a tA):PT X (.UnaryOp .Not a pos) (cZ tA):=by intro aA s S H Q I h;exact isTrue_not (q aA s S H (λ c b=>Q (!c) b) I h)
def Uu(ta tb:TE):TE:=λ S H Q=>ta S H λ x H1=>∃c,x=.b c/\if c=true then tb S H1 Q else Q (.b false) H1
def Vy(ta tb:TE):TE:=λ S H Q=>ta S H λ x H1=>∃c,x=.b c/\if c=true then Q (.b true) H1 else tb S H1 Q
theorem Wq(h:PE X a t):PE X (.BoolOp op [a] pos) t:=λ aA s S H Q I hw=>BoolOp_one (h aA s S H Q I hw)
theorem Wt(ha:PE X a ta)(Y:PE X (.BoolOp .And (b::rest) pos) tb):PE X (.BoolOp .And (a::b::rest) pos) (Uu ta tb):=by
 intro aA s S H Q I h;refine BoolOp_and (bQ (ha aA s S H _ I h) λ v e=>dD λ x d O Z q=>?_);obtain⟨c,rfl,q⟩:=q;cases Z;refine yn ?_;cases c with
 |true=>exact Y aA e S d Q O q
 |false=>exact⟨.b false,d,O,rfl,q⟩
theorem UO(ha:PE X a ta)(Y:PE X (.BoolOp .Or (b::rest) pos) tb):PE X (.BoolOp .Or (a::b::rest) pos) (Vy ta tb):=by
 intro aA s S H Q I h;refine BoolOp_or (bQ (ha aA s S H _ I h) λ v e=>dD λ x d O Z q=>?_);obtain⟨c,rfl,q⟩:=q;cases Z;refine yn ?_;cases c with
 |false=>exact Y aA e S d Q O q
 |true=>exact⟨.b true,d,O,rfl,q⟩
def tIf(t:TT)(ta tb:TE):TE:=λ S H Q=>t S H λ c H1=>if c=true then ta S H1 Q else tb S H1 Q
theorem PR(hc:PT X c tA)(ha:PE X a ta)(hb:PE X b tb):PE X (.IfExp c a b pos) (tIf tA ta tb):=by
 intro aA s S H Q I h;refine wpAny_IfExp (bQ (hc aA s S H _ I h) λ d Z q=>?_);obtain⟨e,Y,O⟩:=q;cases d with
 |true=>exact ha aA Z S e Q Y O
 |false=>exact hb aA Z S e Q Y O
end
def c9(K:Frag)(H:Hp)(a:Addr)(xs:bY):Prop:=
 Rd H a (.l xs)\/
  ∃(o:Obj)(q:gm)(n:Nat),K.lookup a=some o∧o.cls=.type "list"∧o.dict=none∧o.data=.seq q n∧q.size≤sizeLine∧aM xs q.toList
def d8(K:Frag)(H:Hp)(a:Addr)(xs:bY):Prop:=
 Rd H a (.t xs)\/
  ∃(o:Obj)(q:gm)(n:Nat),K.lookup a=some o∧o.cls=.type "tuple"∧o.dict=none∧o.data=.seq q n∧q.size≤sizeLine∧aM xs q.toList
def ZR:Value->Option V
 |.none=>some .n
 |.bool b=>some (.b b)
 |.int i _=>some (.int i)
 |.str x _=>some (.str x)
 |.bytes b _=>some (.byt b)
 |.float b _=>some (.flt b)
 |.ref a=>some (.ref a)
 |.type n=>some (.ty n)
 |_=>none
theorem aX.abs(r:aX x u):ZR u=some x:=by
 cases x with
 |n=>cases r;rfl
 |b _=>cases r;rfl
 |int _=>obtain⟨t,rfl⟩:=r;rfl
 |str _=>obtain⟨t,rfl⟩:=r;rfl
 |byt _=>obtain⟨t,rfl⟩:=r;rfl
 |flt _=>obtain⟨t,rfl⟩:=r;rfl
 |ref _=>cases r;rfl
 |ty _=>cases r;rfl
theorem aX.inj(r:aX x u)(q:aX y u):x=y:=qi (r.abs.symm.trans q.abs)
theorem aM.inj:∀{xs ys:bY}{us:cf},aM xs us->aM ys us->xs=ys
 |[],ys,us,h,k=>by cases h;cases k;rfl
 |x::xs,ys,us,h,k=>by
  cases h with
  |cons r t=>
   cases k with
   |cons q a=>rw[r.inj q,aM.inj t a]
section
variable{X:Cx}{aA:cB}{S:St}{H:Hp}{s:Shared}{a:Addr}{xs ys:bY}
theorem c9.of{K:Frag}(h:H a=some (.l xs)):c9 K H a xs:=.inl (.inl h)
theorem d8.of{K:Frag}(h:H a=some (.t xs)):d8 K H a xs:=.inl (.inl h)
theorem aI.list(I:aI X aA S H s)(h:c9 X.K H a xs):∃q:cf,aM xs q/\PlainL s.heap a q.toArray/\xs.length<=sizeLine:=by
 rcases h with h|⟨o,q,n,c,b,hd,d,f,r⟩
 .obtain⟨z,q,n,r,e⟩:=h.ok I.hok;exact⟨q,r,⟨_,n,e,rfl,rfl,rfl⟩,z⟩
 .refine⟨q.toList,r,⟨o,n,I.kIn a o c,b,hd,by simpa using d⟩,?_⟩;have e:=r.length;grind
theorem aI.tuple(I:aI X aA S H s)(h:d8 X.K H a xs):∃q:cf,aM xs q/\IsTup s.heap a q.toArray/\xs.length<=sizeLine:=by
 rcases h with h|⟨o,q,n,c,b,_,d,f,r⟩
 .obtain⟨z,q,r,p⟩:=h.ok I.hok;exact⟨q,r,p.tup,z⟩
 .refine⟨q.toList,r,⟨o,I.kIn a o c,b,n,by simpa using d⟩,?_⟩;have e:=r.length;grind
theorem aI.list_inj(I:aI X aA S H s)(h:c9 X.K H a xs)(h':c9 X.K H a ys):xs=ys:=by
 obtain⟨q,r,⟨o,n,e,_,_,d⟩,_⟩:=I.list h;obtain⟨its',Y,⟨f,Z,O,_,_,b⟩,_⟩:=I.list h';rw[e]at O;cases O;rw[d]at b;injection b with c _
 have:q=its':=by grind
 subst this;exact r.inj Y
theorem aI.tuple_inj(I:aI X aA S H s)(h:d8 X.K H a xs)(h':d8 X.K H a ys):xs=ys:=by
 obtain⟨q,r,⟨o,e,_,n,d⟩,_⟩:=I.tuple h;obtain⟨its',Y,⟨f,O,_,Z,b⟩,_⟩:=I.tuple h';rw[e]at O;cases O;rw[d]at b;injection b with c _
 have:q=its':=by grind
 subst this;exact r.inj Y
end
abbrev Cx.wish(X:Cx)(E:dw):Cx:={X with xe:=E}
abbrev Cx.nox(X:Cx):Cx:=X.wish λ _ _=>False
theorem Cx.Ok.wish{X:Cx}(ok:X.Ok)(E:dw):(X.wish E).Ok:=
 ⟨ok.mod,ok.kind,ok.glob,ok.blt,ok.above,ok.inj,ok.has,ok.cab,ok.hd,ok.frames,ok.stk,ok.exf,ok.bs,ok.bsz,ok.noex,ok.exfs,ok.funs,ok.frf⟩
theorem Cx.Ok.unwish{X:Cx}(ok:(X.wish E).Ok):X.Ok:=
 ⟨ok.mod,ok.kind,ok.glob,ok.blt,ok.above,ok.inj,ok.has,ok.cab,ok.hd,ok.frames,ok.stk,ok.exf,ok.bs,ok.bsz,ok.noex,ok.exfs,ok.funs,ok.frf⟩
section
variable{X:Cx}{aA:cB}{S:St}{H:Hp}{s:Shared}{E:dw}
theorem aI.wish(I:aI X aA S H s)(E:dw):aI (X.wish E) aA S H s:=⟨I.ok.wish E,I.os,I.bare,I.base,I.loc,I.cell,I.free,I.freeC,I.pin,I.hok,I.len⟩
theorem aI.unwish(I:aI (X.wish E) aA S H s):aI X aA S H s:=⟨I.ok.unwish,I.os,I.bare,I.base,I.loc,I.cell,I.free,I.freeC,I.pin,I.hok,I.len⟩
theorem SP.unwish(h:SP (X.wish E) aA D f s'):SP X aA D f s':=by
 cases f with
 |next=>obtain⟨O,H',I,q⟩:=h;exact⟨O,H',I.unwish,q⟩
 |brk=>obtain⟨O,H',I,q⟩:=h;exact⟨O,H',I.unwish,q⟩
 |cont=>obtain⟨O,H',I,q⟩:=h;exact⟨O,H',I.unwish,q⟩
 |ret u=>obtain⟨v,O,H',I,r,q⟩:=h;exact⟨v,O,H',I.unwish,r,q⟩
theorem PE.nox(h:PE X.nox e t):PE X e t:=λ aA s S H Q I hw=>
 yd (h aA s S H Q (I.wish _) hw) (λ _ _⟨v,H',O,r,q⟩=>⟨v,H',O.unwish,r,q⟩) λ _ _ z=>False.elim z
theorem PT.nox(h:PT X.nox e t):PT X e t:=λ aA s S H Q I hw=>
 yd (h aA s S H Q (I.wish _) hw) (λ _ _⟨H',O,q⟩=>⟨H',O.unwish,q⟩) λ _ _ z=>False.elim z
theorem eE.nox{st:iF}(h:eE X.nox st t):eE X st t:=λ aA s S H D I hw=>
 yd (h aA s S H D (I.wish _) hw) (λ _ _ q=>q.unwish) λ _ _ z=>False.elim z
end
section
variable{st:Stmt}{rest:iF}
def Uo:TS:=λ D S H=>D.nx S H
def Vw(t u:TS):TS:=λ D S H=>t {D with nx:=u D} S H
theorem B6:eE X [] Uo:=λ _ _ S H _ I h=>Zj ⟨S,H,I,h⟩
theorem rV(h1:PS X st t)(h2:eE X rest u):eE X (st::rest) (Vw t u):=by
 intro aA s S H D I h;refine Z3 (bQ (h1 aA s S H {D with nx:=u D} I h) λ f Z q=>?_);cases f with
 |next=>
  obtain⟨O,H',Y,q⟩:=q;exact h2 aA Z O H' D Y q
 |ret v=>exact q
 |brk=>exact q
 |cont=>exact q
theorem r8(h1:PS X st t):eE X [st] t:=by
 intro aA s S H D I h;refine Z3 (bQ (h1 aA s S H D I h) λ f O q=>?_);cases f with
 |next=>exact Zj q
 |ret v=>exact q
 |brk=>exact q
 |cont=>exact q
theorem aI.quiet(I:aI X aA S H s):interactive X.v=false:=by simp[interactive,I.ok.kind]
def Up(te:TE):TS:=λ D S H=>te S H λ _ H1=>D.nx S H1
theorem wI(Z:PE X e te)(Y:rP X e none pos.line false):PS X (.Expr e pos) (Up te):=by intro aA s S H D I h;exact wpAny_Expr_any (bQ (Z aA s S H _ I h) λ v c=>dD λ x a O b q=>⟨S,a,O,q⟩) I.quiet Y
def Vx(te:TE):TS:=λ D S H=>te S H D.rt
theorem B7(Z:PE X e te):PS X (.Return (some e) pos) (Vx te):=by intro aA s S H D I h;exact wpAny_Return_some (bQ (Z aA s S H _ I h) λ v b=>dD λ x a Y q O=>⟨x,S,a,Y,q,O⟩)
def VB(c:TT)(t u:TS):TS:=λ D S H=>c S H λ b H1=>if b=true then t D S H1 else u D S H1
theorem v9(hc:PT X c tc)(ha:eE X a t)(hb:eE X b u):PS X (.If c a b pos) (VB tc t u):=by
 intro aA s S H D I h;refine wpAny_If (bQ (hc aA s S H _ I h) λ d Z q=>?_);obtain⟨e,Y,O⟩:=q;cases d with
 |true=>exact ha aA Z S e D Y O
 |false=>exact hb aA Z S e D Y O
def VJ:TS:=λ _ _ _=>False
theorem F9{sts:iF}:eE X sts VJ:=λ _ _ _ _ _ _ h=>h.elim
end
abbrev TG:=V->St->Hp->(St->Hp->Prop)->Prop
abbrev mT:=bY->St->Hp->(St->Hp->Prop)->Prop
def PG(X:Cx)(q:Expr)(t:TG):Prop:=
 ∀(aA:cB)(s:Shared)(S:St)(H:Hp)(v:V)(u:Value)(Q:St->Hp->Prop),aI X aA S H s->aX v u->t v S H Q->bU X.p X.w X.A (assign q X.v u) (λ _ s'=>∃O H',aI X aA O H' s'/\Q O H') X.xe s
def qV(X:Cx)(ts:eH)(t:mT):Prop:=
 ∀(aA:cB)(s:Shared)(S:St)(H:Hp)(vs:bY)(us:cf)(Q:St->Hp->Prop),aI X aA S H s->aM vs us->t vs S H Q->bU X.p X.w X.A (assignInOrder ((assignEach ts X.v).map (·.2)) us) (λ _ s'=>∃q H',aI X aA q H' s'/\Q q H') X.xe s
section
variable{X:Cx}{pos:Pos}
def tY(i:Nat):TG:=λ v S H Q=>Q (S.set i (some v)) H
theorem wK{i:Nat}{x:Str}(O:X.N.Nodup)(hi:X.N[i]?=some x)(Y:Loc X.v.scope x)(q:X.fn x=true\/X.v.scope.names.lookup x=some .local):PG X (.Name x pos) (tY i):=by intro aA s S H v u Q I r h;exact wpAny_assign_Name (zP I O hi Y r (λ s' Z=>⟨_,H,Z,h⟩) q)
def LZ:mT:=λ vs S H Q=>vs=[]/\Q S H
def Ck(t:TG)(u:mT):mT:=λ vs S H Q=>∃v r,vs=v::r/\t v S H λ q H'=>u r q H' Q
theorem ID:qV X [] LZ:=by intro aA s S H vs us Q I r h;obtain⟨e,h⟩:=h;subst e;cases r;exact assignInOrder_nil ⟨S,H,I,h⟩
theorem Bf(h1:PG X e t)(h2:qV X es u)(hs:(assignEach (e::es) X.v).map (·.2)=assign e X.v::(assignEach es X.v).map (·.2):=by rfl):qV X (e::es) (Ck t u):=by
 intro aA s S H vs us Q I r h;obtain⟨v,d,e1,h⟩:=h;subst e1;cases r with
 |cons r b=>
  rw[hs];refine assignInOrder_cons (bQ (h1 aA s S H _ _ _ I r h) λ _ c q=>?_);obtain⟨O,a,Z,Y⟩:=q;exact h2 aA c O a _ _ Q Z b Y
def LX(K:Frag)(n:Nat)(t:mT):TG:=λ v S H Q=>∃a xs,v=.ref a/\d8 K H a xs/\xs.length=n/\t xs S H Q
theorem Le{es:eH}{k:Nat}{t:mT}{n:Nat}(hc:X.c=true)(h:qV X es t)(hn:(assignEach es X.v).length=n)(q:(assignEach es X.v).findIdx? (·.1)=none):PG X (.Tuple es k pos) (LX X.K n t):=by
 intro aA s S H v u Q I r hw;obtain⟨a,xs,e1,Z,hl,hw⟩:=hw;subst e1;cases r;obtain⟨f,O,Y,g⟩:=I.tuple Z;refine assign_Tuple_tuple (I.ok.hd hc) Y (by simp[hn,<-hl,O.length]) q λ h' d=>?_;have c:aI X aA S H {s with heap:=h'}:=I.kept (t':=s.toks) λ b o e=>d b o (qv (qm e)) e;exact h aA _ S H xs _ Q c (by simpa using O) hw
def JG(te:TE)(g:TG):TS:=λ D S H=>te S H λ x H1=>g x S H1 D.nx
theorem TC{tg e:Expr}{te:TE}{g:TG}(he:PE X e te)(O:PG X tg g)(hs:swapsWithSole [tg] e pos.line X.v=pure false)(hw:swappedStores [tg] e X.v=pure none)(h1:(assignEach [tg] X.v).map (·.2)=[assign tg X.v]):PS X (.Assign [tg] e pos) (JG te g):=by
 intro aA s S H D I h;refine wpAny_Assign_stores (bQ (he aA s S H _ I h) λ v c=>dD λ x a b Y Z=>?_) hs hw;rw[h1];exact bQ (O aA c S a x v _ b Y Z) λ _ d q=>q
theorem sx(hN:X.N.Nodup)(hi:X.N[i]?=some x)(hx:Loc X.v.scope x)(he:PE X e te)(hs:rP X e (some (.Name x pos')) pos.line false:=by rfl)(q:X.fn x=true\/X.v.scope.names.lookup x=some .local:=by first|exact .inl rfl|exact .inr rfl|assumption):PS X (.Assign [.Name x pos'] e pos) (JG te (tY i)):=by
 intro aA s S H D I h;refine wpAny_Assign_Name (bQ (he aA s S H _ I h) λ v c=>dD λ y a b O Z=>?_) hs;exact zP b hN hi hx O (λ d Y=>⟨_,a,Y,Z⟩) q
end
structure It where
 go:Nat->Hp->Prop
 yld:Nat->Hp->V->Hp->Prop
 stop:Nat->Hp->Prop
def cK(X:Cx)(aA:cB)(H:Hp)(b:Addr):Prop:=
 H b=none/\b≠X.v.locals/\b∉X.fs/\(b∈X.ex\/X.s₀.heap.n<=b)/\(∀x c,X.v.cells.lookup x=some c->c≠b)/\∀p∈X.pn++aA,p.1≠b
theorem aI.fpOk(I:aI X aA S H s)(O:s.heap.n<=b)(hn:H' b=none):cK X aA H' b:=by
 refine⟨hn,Y1 (qt I.lt O),I.nofs O,.inr (zw I.sz O),λ x c e z=>?_,λ p Y z=>?_⟩
 .obtain⟨v,q⟩:=I.cell x c e;exact absurd (qt q.lt (by rw[z];exact O)) (yu _)
 .exact absurd (qt (qm (I.pin p Y).1) (by rw[z];exact O)) (yu _)
structure gZ(P:Program)(w:World)(K:Frag)(tg:Expr)(ρ:It)(fp:fB)(it:Addr)(tn:Nat->Heap->Prop):Prop where
 mem:it∈fp
 obj:∀i h,tn i h->∀b∈fp,∃o,h.get? b=some o/\∀v,o.data≠.cell v
 keep:∀i h h',tn i h->(∀b∈fp,∀o,h.get? b=some o->h'.get? b=some o)->tn i h'
 item:∀(X:Cx),X.p=P->X.w=w->X.K=K->X.c=true->∀(i:Nat)(aA:cB)(s:Shared)(S:St)(H:Hp)(E:dw),aI X aA S H s->(∀b∈fp,cK X aA H b)->tn i s.heap->ρ.go i H->wpAny (model P w) X.A (pyNext (.ref it)) (λ r s1=>∃u,r=some u/\wpAny (model P w) X.A (letOwnedTupleGo tg (.ref it) u) (λ _ s2=>∃x H',aI X aA S H' s2/\aX x u/\ρ.yld i H x H'/\tn (i+1) s2.heap/\∀b∈fp,H' b=none) E s1) E s
 done:∀(X:Cx),X.p=P->X.w=w->X.K=K->X.c=true->∀(i:Nat)(aA:cB)(s:Shared)(S:St)(H:Hp)(E:dw),aI X aA S H s->(∀b∈fp,cK X aA H b)->tn i s.heap->ρ.stop i H->wpAny (model P w) X.A (pyNext (.ref it)) (λ r s1=>r=none/\aI X aA S H s1) E s
 self:∀(A:Around)(i:Nat)(s:Shared)(Q:dw)(E:dw),tn i s.heap->Q (.ref it) s->wpAny (model P w) A (pyIter (.ref it)) Q E s
abbrev TI:=St->Hp->(It->Hp->Prop)->Prop
def GO(X:Cx)(aA:cB)(S:St)(tg:Expr)(R:It->Hp->Prop)(q:Value)(O:Shared):Prop:=
 ∃(it:Addr)(fp:fB)(tn:Nat->Heap->Prop)(ρ:It)(H':Hp),q=.ref it/\aI X aA S H' O/\gZ X.p X.w X.K tg ρ fp it tn/\tn 0 O.heap/\(∀b∈fp,cK X aA H' b)/\R ρ H'
def PI(X:Cx)(tg iter:Expr)(q:TI):Prop:=
 ∀(aA:cB)(s:Shared)(S:St)(H:Hp)(R:It->Hp->Prop),aI X aA S H s->q S H R->bU X.p X.w X.A (eval iter X.v) (λ v O=>bU X.p X.w X.A (pyIter v) (GO X aA S tg R) X.xe O) X.xe s
theorem vO(Y:s.heap.get? it=some o)(O:o.cls=.type n)(hd:o.data=.fields vs)(hn:["enumerate","zip","dict_itemiterator","dict_reverseitemiterator","odict_iterator","itertools.zip_longest","itertools.pairwise"].contains n=false)(q:Q () s):wpAny M A (letOwnedTupleGo tg (.ref it) u) Q E s:=by
 cases tg<;>first
  |exact qc q
  |(cases u<;>first
    |exact qc q
    |(refine qb (wpAny_load Y ?_);rw[O,hd];show wpAny M A (if(["enumerate","zip","dict_itemiterator","dict_reverseitemiterator","odict_iterator","itertools.zip_longest","itertools.pairwise"].contains n&&vs[0]?==some (rawInt _))=true then _ else _) Q E s;rw[if_neg (by grind)];exact qc q))
noncomputable def Ad(K:Frag)(a:Addr):It:=
 ⟨λ i H=>∃xs x,c9 K H a xs/\xs[i]?=some x,λ i H x H'=>H'=H/\∀xs,c9 K H a xs->xs[i]?=some x,λ i H=>∃xs,c9 K H a xs/\xs.length<=i⟩
noncomputable def Af(K:Frag)(a:Addr):It:=
 ⟨λ i H=>∃xs x,d8 K H a xs/\xs[i]?=some x,λ i H x H'=>H'=H/\∀xs,d8 K H a xs->xs[i]?=some x,λ i H=>∃xs,d8 K H a xs/\xs.length<=i⟩
def sM(lo:Int)(n:Nat):It:=⟨λ i _=>i<n,λ i H x H'=>H'=H/\x=.int (lo+i),λ i _=>n<=i⟩
theorem Tj{K:Frag}(a it:Addr):gZ P w K tg (Ad K a) [it] it (λ i h=>h.IsListIter it a i)where
 mem:=aQ
 obj:=λ i h st b q=>by
  have e:b=it:=by simpa using q
  subst e;obtain⟨o,e,c,d⟩:=st;exact⟨o,e,λ v z=>by rw[d]at z;cases z⟩
 keep:=λ i h h' st k=>st.at λ o e=>k it aQ o e
 item:=by
  intro X m hw l y i aA s S H E I Z st n;subst m hw l;obtain⟨xs,x,Y,r⟩:=n;obtain⟨B,t,p,ρ⟩:=I.list Y;obtain⟨u,F,L⟩:=t.get r;obtain⟨f0,f1,D,f,g,j⟩:=Z it aQ;refine wpAny_pyNext_list_item st p.isList (by simpa using F) λ h' O sb=>?_;have A:=I.turned (t':=s.toks) (λ b o q e=>(sb.2 b q).trans e) f0 f1 f g j;obtain⟨o,e,c,d⟩:=id O;exact⟨u,rfl,vO e c d aH ⟨x,H,A,L,⟨rfl,λ ys G=>by rw[I.list_inj G Y];exact r⟩,O,λ b q=>(Z b q).1⟩⟩
 done:=by
  intro X m hw l y i aA s S H E I Z st n;subst m hw l;obtain⟨xs,Y,r⟩:=n;obtain⟨B,t,p,ρ⟩:=I.list Y;obtain⟨f0,f1,D,f,g,j⟩:=Z it aQ;have hl:=t.length;exact wpAny_pyNext_list_end (I.ok.hd y) st p.isList cR λ h' C=>⟨rfl,I.turned (λ b o q e=>C b o q e) f0 f1 f g j⟩
 self:=λ _ _ _ _ _ st h=>wpAny_pyIter_listiter st h
theorem S1{K:Frag}(a it:Addr):gZ P w K tg (Af K a) [it] it (λ i h=>h.IsTupleIter it a i)where
 mem:=aQ
 obj:=λ i h st b q=>by
  have e:b=it:=by simpa using q
  subst e;obtain⟨o,e,c,d⟩:=st;exact⟨o,e,λ v z=>by rw[d]at z;cases z⟩
 keep:=λ i h h' st k=>st.at λ o e=>k it aQ o e
 item:=by
  intro X n hw m A i aA s S H E I f st r;subst n hw m;obtain⟨xs,x,Z,t⟩:=r;obtain⟨O,y,p,ρ⟩:=I.tuple Z;obtain⟨u,F,L⟩:=y.get t;obtain⟨f0,f1,D,g,j,l⟩:=f it aQ;refine wpAny_pyNext_tuple_item st (show s.heap.IsTuple a O.toArray from p) (by simpa using F) λ h' Y sb=>?_;have B:=I.turned (t':=s.toks) (λ b o q e=>(sb.2 b q).trans e) f0 f1 g j l;obtain⟨o,e,c,d⟩:=id Y;exact⟨u,rfl,vO e c d aH ⟨x,H,B,L,⟨rfl,λ ys G=>by rw[I.tuple_inj G Z];exact t⟩,Y,λ b q=>(f b q).1⟩⟩
 done:=by
  intro X n hw m A i aA s S H E I f st r;subst n hw m;obtain⟨xs,Z,t⟩:=r;obtain⟨O,y,p,ρ⟩:=I.tuple Z;obtain⟨f0,f1,D,g,j,l⟩:=f it aQ;have hl:=y.length;exact wpAny_pyNext_tuple_end (I.ok.hd A) st (show s.heap.IsTuple a O.toArray from p) cR λ h' C=>⟨rfl,I.turned (λ b o q e=>C b o q e) f0 f1 g j l⟩
 self:=λ _ _ _ _ _ st h=>wpAny_pyIter_tupleiter st h
theorem S2{K:Frag}(it:Addr)(lo:Int)(n:Nat):gZ P w K tg (sM lo n) [it] it (λ i h=>IsRangeIter h it (lo+(i:Nat)*1) ((n:Int)-(i:Nat)) 1)where
 mem:=aQ
 obj:=λ i h st b q=>by
  have e:b=it:=by simpa using q
  subst e;exact⟨_,st,λ v z=>by
   have y:=z;cases y⟩
 keep:=λ i h h' st k=>k it aQ _ st
 item:=by
  intro X g hw f j i aA s S H E I Y st Z;subst g hw f;obtain⟨f0,f1,p,a,c,d⟩:=Y it aQ;have W:=Walks.range (prog:=X.p) (w:=X.w) (I.ok.hd j) it lo 1 n;refine W.item i s _ _ Z st λ v h' x r O u=>?_;obtain⟨t,rfl⟩:=r;have l:aI X aA S H {s with heap:=h',toks:=x}:=I.turned (λ b o q e=>u b o (by simpa using q) e) f0 f1 a c d;refine⟨_,rfl,vO O rfl rfl aH ⟨.int (lo+i),H,l,⟨t,?_⟩,⟨rfl,rfl⟩,O,λ b q=>(Y b q).1⟩⟩;rw[Int.mul_one]
 done:=by
  intro X g hw f j i aA s S H E I Y st Z;subst g hw f;obtain⟨f0,f1,p,a,c,d⟩:=Y it aQ;exact wpAny_pyNext_range_end (I.ok.hd j) st (by have:n<=i:=Z;lia) λ h' m=>⟨rfl,I.turned (λ b o q e=>m b o q e) f0 f1 a c d⟩
 self:=λ _ _ _ _ _ st h=>wpAny_pyIter_rangeiter st h
def Lo(K:Frag)(tl:TE):TI:=λ S H R=>tl S H λ x H1=>∃a,x=.ref a/\(∃xs,c9 K H1 a xs)/\R (Ad K a) H1
def JQ(K:Frag)(tl:TE):TI:=λ S H R=>tl S H λ x H1=>∃a,x=.ref a/\(∃xs,d8 K H1 a xs)/\R (Af K a) H1
theorem Sb(hl:PE X l tl):PI X tg l (Lo X.K tl):=by
 intro aA s S H R I h;refine bQ (hl aA s S H _ I h) λ v Y=>dD λ x c O g f=>?_;obtain⟨a,e,⟨xs,d⟩,q⟩:=f;subst e;cases g;obtain⟨i,k,p,j⟩:=O.list d;refine wpAny_pyIter_list p.isList ?_;refine⟨Y.heap.objs.size,[Y.heap.objs.size],_,_,c,rfl,O.kept λ b o e=>qf _ e,Tj a _,⟨_,qk _ rfl,rfl,rfl⟩,λ b Z=>?_,q⟩;have e:b=Y.heap.objs.size:=by simpa using Z
 subst e;exact O.fpOk (qj _) (O.hok.fresh (qj _))
theorem Wl(hl:PE X l tl):PI X tg l (JQ X.K tl):=by
 intro aA s S H R I h;refine bQ (hl aA s S H _ I h) λ v O=>dD λ x c Y i g=>?_;obtain⟨a,e,⟨xs,f⟩,q⟩:=g;subst e;cases i;obtain⟨Z,k,p,j⟩:=Y.tuple f;refine wpAny_pyIter_tuple (show O.heap.IsTuple a Z.toArray from p) ?_;refine⟨O.heap.objs.size,[O.heap.objs.size],_,_,c,rfl,Y.kept λ b o e=>qf _ e,S1 a _,⟨_,qk _ rfl,rfl,rfl⟩,λ b d=>?_,q⟩;have e:b=O.heap.objs.size:=by simpa using d
 subst e;exact Y.fpOk (qj _) (Y.hok.fresh (qj _))
theorem H_{lo hi:Int}(I:aI X aA S H s)(h1:-(2^62)<=lo)(h2:lo<2^62)(h3:-(2^62)<=hi)(Y:hi<2^62)(q:R (sM lo (hi-lo).toNat) H):bU X.p X.w X.A (pyIter (.ref s.heap.n)) (GO X aA S tg R) E {s with heap:=s.heap.push {cls:=.type "range",data:=.fields #[.int lo t,.int hi u,.int 1 v]},toks:=tk}:=by
 refine wpAny_pyIter_range (IsRange.new ..) (small_one h1 h2 h3 Y) ?_;have O:aI X aA S H {s with heap:=s.heap.push {cls:=.type "range",data:=.fields #[.int lo t,.int hi u,.int 1 v]},toks:=tk}:=I.kept λ b o e=>qf _ e;refine⟨(s.heap.push {cls:=.type "range",data:=.fields #[.int lo t,.int hi u,.int 1 v]}).objs.size,[(s.heap.push {cls:=.type "range",data:=.fields #[.int lo t,.int hi u,.int 1 v]}).objs.size],_,_,H,rfl,O.kept λ b o e=>qf _ e,S2 _ lo (hi-lo).toNat,?_,λ b Z=>?_,q⟩
 .have e1:lo+((0:Nat):Int)*1=lo:=aQ;have e2:(((hi-lo).toNat:Nat):Int)-((0:Nat):Int)=Builtin.Range.rangeSize lo hi 1:=by rw[rangeSize_one];split<;>lia
  rw[e1,e2];exact qk _ rfl
 .have e:b=(s.heap.push {cls:=.type "range",data:=.fields #[.int lo t,.int hi u,.int 1 v]}).objs.size:=by simpa using Z
  subst e;exact O.fpOk (qj _) (O.hok.fresh (qj _))
def U2(ta:TA):TI:=λ S H R=>ta S H λ vs H1=>∃j:Int,vs=[.int j]/\-(2^62)<=j/\j<2^62/\R (sM 0 j.toNat) H1
def cz8(ta:TA):TI:=λ S H R=>ta S H λ vs H1=>∃i j:Int,vs=[.int i,.int j]/\(-(2^62)<=i/\i<2^62/\-(2^62)<=j/\j<2^62)/\R (sM i (j-i).toNat) H1
theorem Jv{a:Expr}{ta:TA}{p pos:Pos}(Y:Gl X "range")(hm:X.mg "range"=none)(ha:PA X [a] ta)(hs:gP X a):PI X tg (.Call (.Name "range" p) [a] [] pos) (U2 ta):=by
 intro aA s S H R I h;refine Call_ (l_ I Y hm boot_range (yk (bQ (ha pos aA s S H _ I h) λ us g=>dD λ vs f b Z O=>?_) hs rfl));obtain⟨j,e,O,c,q⟩:=O;subst e;cases Z with
 |cons r d=>
  cases d;obtain⟨t,rfl⟩:=r;exact call_range_1 (H_ b aD aD O c (by simpa using q))
theorem TZ{a b:Expr}{ta:TA}{p pos:Pos}(hg:Gl X "range")(hm:X.mg "range"=none)(ha:PA X [a,b] ta)(hs:starEach [a,b] X.v=[(false,eval a X.v),(false,eval b X.v)])(O:gP X b):PI X tg (.Call (.Name "range" p) [a,b] [] pos) (cz8 ta):=by
 intro aA s S H R I h;refine Call_ (l_ I hg hm boot_range (yk (bQ (ha pos aA s S H _ I h) λ us n=>dD λ vs m c l Y=>?_) (by show _=_;rw[hs,O]) (by rw[O];rfl)));obtain⟨i,j,e,⟨Y,d,f,g⟩,q⟩:=Y;subst e;cases l with
 |cons r Z=>
  cases Z with
  |cons k Z=>
   cases Z;obtain⟨t,rfl⟩:=r;obtain⟨o,rfl⟩:=k;exact call_range_2 (H_ c Y d f g q)
def VC(Z:TI)(g:TG)(tb:TS):TS:=λ D S H=>Z S H λ ρ H1=>∃W:Nat->Nat->St->Hp->Prop,(∃m,W 0 m S H1)/\∀i m S H,W i m S H->(ρ.stop i H/\D.nx S H)\/(ρ.go i H/\∃N:St->Hp->Prop,(∀q H',N q H'->∃Y,Y<m/\W (i+1) Y q H')/\∀x H',ρ.yld i H x H'->g x S H' λ O H2=>tb {D with nx:=N,ct:=N,bk:=D.nx} O H2)
def tj(fp:fB)(h:Heap):cB:=fp.filterMap λ b=>(h.get? b).map λ o=>(b,o)
theorem yK(q:b∈fp)(e:h.get? b=some o):(b,o)∈tj fp h:=List.mem_filterMap.mpr ⟨b,q,by rw[e];rfl⟩
theorem TV(Y:p∈tj fp h):p.1∈fp/\h.get? p.1=some p.2:=by
 obtain⟨b,Z,e⟩:=List.mem_filterMap.mp Y;cases q:h.get? b with
 |none=>rw[q]at e;cases e
 |some o=>
  rw[q]at e;have O:=qi e;subst O;exact⟨Z,q⟩
theorem aI.pinned(I:aI X aA S H s)(Y:∀b∈fp,cK X aA H b)(ho:∀b∈fp,∃o,s.heap.get? b=some o/\∀v,o.data≠.cell v):aI X (aA++tj fp s.heap) S H s:=
 I.pins_of λ p a=>(qy a).elim (λ z=>I.pin p (qo _ z)) λ z=>by
  obtain⟨q,e⟩:=TV z;obtain⟨f0,f1,Z,_⟩:=Y p.1 q;obtain⟨o,O,d⟩:=ho p.1 q;rw[e]at O;cases O;exact⟨e,f0,f1,Z,d⟩
theorem aI.unpinned{aA O:cB}{S:St}{H:Hp}{s:Shared}(I:aI X (aA++O) S H s):aI X aA S H s:=I.pins_of λ p q=>I.pin p (qo _ (jy _ q))
theorem tJ{iter:Expr}{body:iF}{wi:TI}{g:TG}{tb:TS}{pos:Pos}(hp:PassesOwn (model X.p X.w) X.A X.v X.xe)(hc:X.c=true)(hi:PI X tg iter wi)(hg:PG X tg g)(hb:eE X body tb)(hs:oA X iter):PS X (.For tg iter body [] pos) (VC wi g tb):=by
 intro aA s S H D I h;refine wpAny_For (bQ (hi aA s S H _ I h) λ v s1 h1=>bQ h1 λ al s2 h2=>?_) hs;obtain⟨it,fp,tn,ρ,P,e,R,T,aj,K,W,⟨m0,w0⟩,af⟩:=h2;subst e;have Z:∀{H':Hp},(∀b∈fp,H' b=none)->∀b∈fp,cK X aA H' b:=λ hn b hb=>⟨hn b hb,(K b hb).2⟩
 refine codeAny_forLoop_any (λ n s'=>∃i Y H',aI X aA Y H' s'/\tn i s'.heap/\(∀b∈fp,H' b=none)/\W i n Y H') ?_ m0 ⟨0,S,P,R,aj,λ b hb=>(K b hb).1,w0⟩;rintro n L ⟨i,k,p,C,F,G,w3⟩;rcases af i n k p w3 with⟨stop,qn⟩|⟨go,N,hN,step⟩
 .refine Zi hp (bQ (T.done X rfl rfl rfl hc i aA L k p X.xe C (Z G) F stop) λ r s4 O=>?_);obtain⟨y,σ⟩:=O;subst y;exact Zj ⟨k,p,σ,qn⟩
 .refine Zi hp (bQ (T.item X rfl rfl rfl hc i aA L k p X.xe C (Z G) F go) λ r s4 O=>?_);obtain⟨u,y,h4⟩:=O;subst y;refine Zi hp (bQ h4 λ _ M O=>?_);obtain⟨x,B,U,r5,y5,t,ak⟩:=O;have I5':=U.pinned (Z ak) (T.obj _ _ t);refine Zi hp (bQ (hg _ M k B x u _ I5' r5 (step x B y5)) λ _ s6 O=>?_);obtain⟨ai,Q,V,q6⟩:=O;refine Zi hp (bQ (hb _ s6 ai Q _ V q6) λ f z j=>?_);have E:∀{q:St}{a:Hp},aI X (aA++tj fp M.heap) q a z->N q a->∃m,m<n/\∃i Y H',aI X aA Y H' z/\tn i z.heap/\(∀b∈fp,H' b=none)/\W i m Y H':=λ{q a}c l=>by
   obtain⟨m',hm,w7⟩:=hN q a l;refine⟨m',hm,i+1,q,a,c.unpinned,T.keep _ _ _ t λ b hb o e=>(c.pin (b,o) (qo _ (qo _ (yK hb e)))).1,λ b hb=>?_,w7⟩;obtain⟨o,e,d⟩:=T.obj _ _ t b hb;exact(c.pin (b,o) (qo _ (qo _ (yK hb e)))).2.1
  cases f with
  |next=>obtain⟨q,a,c,l⟩:=j;exact E c l
  |cont=>obtain⟨q,a,c,l⟩:=j;exact E c l
  |brk=>obtain⟨q,a,c,j⟩:=j;exact⟨q,a,c.unpinned,j⟩
  |ret v=>obtain⟨x7,q,a,c,r7,j⟩:=j;exact⟨x7,q,a,c.unpinned,r7,j⟩
abbrev R2:=V->V->Hp->VK->Prop
def dB(X:Cx)(f:Value->Value->Sem Value)(r:R2):Prop:=
 ∀(aA:cB)(s:Shared)(S:St)(H:Hp)(x y:V)(v u:Value)(Q:VK),aI X aA S H s->aX x v->aX y u->r x y H Q->bU X.p X.w X.A (f v u) (EP X aA S Q) X.xe s
def AO(X:Cx)(f:Value->Sem Value)(r:V->Hp->VK->Prop):Prop:=
 ∀(aA:cB)(s:Shared)(S:St)(H:Hp)(x:V)(v:Value)(Q:VK),aI X aA S H s->aX x v->r x H Q->bU X.p X.w X.A (f v) (EP X aA S Q) X.xe s
def bV(X:Cx)(f:Value)(r:bY->Hp->VK->Prop):Prop:=
 ∀(aA:cB)(s:Shared)(S:St)(H:Hp)(xs:bY)(us:cf)(Q:VK),aI X aA S H s->aM xs us->r xs H Q->bU X.p X.w X.A (call f us) (EP X aA S Q) X.xe s
def ZS(X:Cx)(r:V->Hp->(Bool->Hp->Prop)->Prop):Prop:=
 ∀(aA:cB)(s:Shared)(S:St)(H:Hp)(x:V)(v:Value)(Q:Bool->Hp->Prop),aI X aA S H s->aX x v->r x H Q->bU X.p X.w X.A (truthy v) (TP X aA S Q) X.xe s
def uP(r:R2)(ta tb:TE):TE:=λ S H Q=>ta S H λ x H1=>tb S H1 λ y H2=>r x y H2 Q
def tUn(r:V->Hp->VK->Prop)(ta:TE):TE:=λ S H Q=>ta S H λ x H1=>r x H1 Q
def rI(C:Int->Int->Prop)(g:Int->Int->V):R2:=λ x y H Q=>∃i j,x=.int i/\y=.int j/\C i j/\Q (g i j) H
def lS(g:Int->Int->V):R2:=λ x y H Q=>∃i j,x=.int i/\y=.int j/\Q (g i j) H
def rU(g:Int->V):V->Hp->VK->Prop:=λ x H Q=>∃i,x=.int i/\Q (g i) H
theorem Cr(ha:PE X a ta)(hb:PE X b tb){R:V->V->Hp->Prop}(I:aI X aA S H s)(h:ta S H λ x H1=>tb S H1 λ y H2=>R x y H2){f:Value->Value->Sem Value}(Z:∀v u Y x y H2,aI X aA S H2 Y->aX x v->aX y u->R x y H2->bU X.p X.w X.A (f v u) Q X.xe Y):bU X.p X.w X.A (eval a X.v) (λ v q=>bU X.p X.w X.A (eval b X.v) (λ u O=>bU X.p X.w X.A (f v u) Q X.xe O) X.xe q) X.xe s:=by
 refine bQ (ha aA s S H _ I h) λ v k=>dD λ x H1 c i e=>?_;refine bQ (hb aA k S H1 _ c e) λ u Y=>dD λ y H2 d j g=>?_;exact Z v u Y x y H2 d i j g
theorem vS(ho:dB X (binaryOp op) r)(ha:PE X a ta)(Y:PE X b tb):PE X (.BinOp a op b pos) (uP r ta tb):=by intro aA s S H Q I h;exact wpAny_BinOp (Cr ha Y I h λ v u e x y c Z d O q=>ho aA e S c x y v u Q Z d O q)
theorem JB(Z:AO X (unaryOp op) r)(ha:PE X a ta):PE X (.UnaryOp op a pos) (tUn r ta):=by intro aA s S H Q I h;exact UnaryOp_ (bQ (ha aA s S H _ I h) λ v c=>dD λ x b Y q O=>Z aA c S b x v Q Y q O)
theorem ya{g:Int->Int->Int}(O:∀(i j:Int)(t u:Tok)(s:Shared)(Q:dw)(E:dw),C i j->Q (.int (g i j) s.toks) {s with toks:=s.toks+1}->bU X.p X.w X.A (f (.int i t) (.int j u)) Q E s):dB X f (rI C λ i j=>.int (g i j)):=by
 intro aA s S H x y v u Q I a Y h;obtain⟨i,j,rfl,rfl,Z,q⟩:=h;obtain⟨t,rfl⟩:=a;obtain⟨b,rfl⟩:=Y;exact O i j t b s _ _ Z ⟨.int (g i j),H,I.tok _,⟨_,rfl⟩,q⟩
theorem JN{g:Int->Int->Int}(O:∀(i j:Int)(t u:Tok)(s:Shared)(Q:dw)(E:dw),Q (.int (g i j) s.toks) {s with toks:=s.toks+1}->bU X.p X.w X.A (f (.int i t) (.int j u)) Q E s):dB X f (lS λ i j=>.int (g i j)):=by
 intro aA s S H x y v u Q I Z Y h;obtain⟨i,j,rfl,rfl,q⟩:=h;obtain⟨t,rfl⟩:=Z;obtain⟨a,rfl⟩:=Y;exact O i j t a s _ _ ⟨.int (g i j),H,I.tok _,⟨_,rfl⟩,q⟩
theorem wM{g:Int->Int->Bool}(O:∀(i j:Int)(t u:Tok)(s:Shared)(Q:dw)(E:dw),Q (.bool (g i j)) s->bU X.p X.w X.A (f (.int i t) (.int j u)) Q E s):dB X f (lS λ i j=>.b (g i j)):=by
 intro aA s S H x y v u Q I Z Y h;obtain⟨i,j,rfl,rfl,q⟩:=h;obtain⟨t,rfl⟩:=Z;obtain⟨a,rfl⟩:=Y;exact O i j t a s _ _ ⟨.b (g i j),H,I,rfl,q⟩
def ZU(i j:Int):Prop:=0<=j/\j<=1000000/\i.natAbs<2^64
def sF(i j:Int):Prop:=(-(2^64)<i/\i<2^64)\/(-(2^64)<j/\j<2^64)
theorem sF.ok(h:sF i j):IntMulOk i j:=by
 rcases h with⟨a,b⟩|⟨a,b⟩
 .exact .of_left (Ys a b)
 .exact .of_right (Ys a b)
theorem qs:dB X (binaryOp .Add) (lS λ i j=>.int (i+j)):=JN λ _ _ _ _ _ _ _ q=>add_int q
theorem Wx:dB X (binaryOp .Sub) (lS λ i j=>.int (i-j)):=JN λ _ _ _ _ _ _ _ q=>sub_int q
theorem R9:dB X (binaryOp .Mod) (rI (λ _ j=>j≠0) λ i j=>.int (i.fmod j)):=ya λ _ _ _ _ _ _ _ O q=>mod_int' O q
theorem Wy:dB X (binaryOp .Pow) (rI ZU λ i j=>.int (i^j.toNat)):=ya λ _ _ _ _ _ _ _ O q=>pow_int_small O.1 O.2.1 O.2.2 q
theorem unI{g:Int->Int}(O:∀(i:Int)(t:Tok)(s:Shared)(Q:dw)(E:dw),Q (.int (g i) s.toks) {s with toks:=s.toks+1}->bU X.p X.w X.A (f (.int i t)) Q E s):AO X f (rU λ i=>.int (g i)):=by
 intro aA s S H x v Q I Y h;obtain⟨i,rfl,q⟩:=h;obtain⟨t,rfl⟩:=Y;exact O i t s _ _ ⟨.int (g i),H,I.tok _,⟨_,rfl⟩,q⟩
theorem KR:AO X (unaryOp .USub) (rU λ i=>.int (-i)):=unI λ _ _ _ _ _ q=>neg_int q
section
variable{X:Cx}{a b c:Expr}{ta tb tc:TE}{pos:Pos}
theorem A3(I:aI X aA S H s)(q:Q (.b k) H)(e:k=O):EP X aA S Q (.bool O) s:=by subst e;exact⟨.b k,H,I,rfl,q⟩
theorem UR:dB X (compareOp .Lt) (lS λ i j=>.b (decide (i<j))):=wM λ _ _ _ _ _ _ _ q=>lt_int q
theorem US:dB X (compareOp .LtE) (lS λ i j=>.b (decide (i<=j))):=wM λ _ _ _ _ _ _ _ q=>le_int q
theorem UT:dB X (compareOp .Gt) (lS λ i j=>.b (decide (j<i))):=wM λ _ _ _ _ _ _ _ q=>gt_int q
theorem cw8:dB X (compareOp .GtE) (lS λ i j=>.b (decide (j<=i))):=wM λ _ _ _ _ _ _ _ q=>ge_int q
theorem TR:dB X (compareOp .In) (λ x y H Q=>∃i j,x=.str i/\y=.str j/\Q (.b (!(Builtin.Str.occurrences j i 0 j.length 1).isEmpty)) H):=by intro aA s S H x y v u Q I Y O h;obtain⟨i,j,rfl,rfl,q⟩:=h;obtain⟨t,rfl⟩:=Y;obtain⟨a,rfl⟩:=O;exact in_str (A3 I q rfl)
theorem WB:dB X (compareOp .Is) (λ x y H Q=>y=.n/\Q (.b (decide (x=.n))) H):=by
 intro aA s S H x y v u Q I O Y h;obtain⟨rfl,q⟩:=h;cases Y;refine is_none_gen (A3 I q ?_);cases x<;>first
  |(cases O;rfl)
  |(obtain⟨t,rfl⟩:=O;rfl)
theorem R8:dB X (compareOp .IsNot) (λ x y H Q=>y=.n/\Q (.b (!decide (x=.n))) H):=by
 intro aA s S H x y v u Q I O Y h;obtain⟨rfl,q⟩:=h;cases Y;refine isnot_none_gen (A3 I q ?_);cases x<;>first
  |(cases O;rfl)
  |(obtain⟨t,rfl⟩:=O;rfl)
theorem dB.or(h:dB X f r)(h':dB X f Z):dB X f (λ x y H Q=>r x y H Q\/Z x y H Q):=by
 intro aA s S H x y v u Q I Y O q;rcases q with q|q
 .exact h aA s S H x y v u Q I Y O q
 .exact h' aA s S H x y v u Q I Y O q
theorem B9(b:Expr)(h:op≠.In:=by decide)(h2:op≠.NotIn:=by decide):behindInMarks op b=false:=by
 have e1:(op==CmpOp.In)=false:=by cases op<;>first|rfl|exact absurd rfl h
 have e2:(op==CmpOp.NotIn)=false:=by cases op<;>first|rfl|exact absurd rfl h2
 cases b<;>simp[behindInMarks,e1,e2]
theorem RQ(ho:dB X (compareOp op) r)(ha:PE X a ta)(Y:PE X b tb)(hm:behindInMarks op b=false):PE X (.Compare a [op] [b] pos) (uP r ta tb):=by intro aA s S H Q I h;exact wpAny_Compare1 (Cr ha Y I h λ v u e x y c Z d O q=>ho aA e S c x y v u Q Z d O q) hm
def Br(t:TE):TT:=λ S H Q=>t S H λ x H'=>∃k,x=.b k/\Q k H'
theorem Tz(ho:dB X (compareOp op) r)(ha:PE X a ta)(q:PE X b tb)(hm:behindInMarks op b=false):PT X (.Compare a [op] [b] pos) (Br (uP r ta tb)):=by
 intro aA s S H Q I h;refine wpAny_isTrue_Compare1 (bQ (ha aA s S H _ I h) λ v o=>dD λ x d i O Z=>bQ (q aA o S d _ i Z) λ u p=>dD λ y f Y n l=>
  bQ (ho aA p S f x y v u _ Y O n l) λ c t⟨z,g,j,r3,k,e,m⟩=>?_) hm
 subst e;cases r3;exact yn ⟨g,j,m⟩
def Bm(r Z:R2)(ta tb tc:TE):TE:=λ S H Q=>ta S H λ x H1=>tb S H1 λ y H2=>r x y H2 λ z q=>∃k,z=.b k/\(if k=true then tc S q λ Y O=>Z y Y O Q else Q (.b false) q)
theorem Ra{op q:CmpOp}{r r':R2}(ho:dB X (compareOp op) r)(O:dB X (compareOp q) r')(ha:PE X a ta)(hb:PE X b tb)(hc:PE X c tc)(hm:lastMarks [op,q] [b,c]=false):PE X (.Compare a [op,q] [b,c] pos) (Bm r r' ta tb tc):=by
 intro aA s S H Q I h;refine Compare_chain (bQ (ha aA s S H _ I h) λ v C=>dD λ x i m A p=>chain_link (bQ (hb aA C S i _ m p) λ u D=>dD λ y j n g t=>
  bQ (ho aA D S j x y v u _ n A g t) λ d E⟨z,Y,f,r3,k,e,Z⟩=>?_)) hm
 subst e;cases r3;refine yn ?_;cases k with
 |false=>exact ite_ff ⟨.b false,Y,f,rfl,Z⟩
 |true=>exact ite_tt (chain_last (bQ (hc aA E S Y _ f Z) λ F s4=>dD λ G l o B w=>O aA s4 S l y G u F Q o g B w))
theorem PM{op q:CmpOp}{r r':R2}(ho:dB X (compareOp op) r)(Y:dB X (compareOp q) r')(ha:PE X a ta)(hb:PE X b tb)(hc:PE X c tc)(hm:lastMarks [op,q] [b,c]=false):PT X (.Compare a [op,q] [b,c] pos) (Br (Bm r r' ta tb tc)):=by
 intro aA s S H Q I h;refine isTrue_chain (bQ (ha aA s S H _ I h) λ v L=>dD λ x j o G C=>test_link (bQ (hb aA L S j _ o C) λ u M=>dD λ y l p i D=>
  bQ (ho aA M S l x y v u _ p G i D) λ d N⟨z,Z,f,r3,k,e,g⟩=>?_)) hm
 subst e;cases r3;refine yn ?_;cases k with
 |false=>
  obtain⟨T,A,B⟩:=g;cases A;exact ite_ff ⟨Z,f,B⟩
 |true=>
  refine ite_tt (test_last (bQ (hc aA N S Z _ f g) λ P s4=>dD λ R m t ρ E=>bQ (Y aA s4 S m y R u P _ t i ρ E) λ σ U O=>?_));obtain⟨V,n,w,K,k2,e2,F⟩:=O;subst e2;cases K;exact yn ⟨n,w,F⟩
def Ct(K:Frag)(x:V)(H:Hp)(k:Bool):Prop:=
 match x with
 |.n=>k=false
 |.b b=>k=b
 |.int i=>k=(i != 0)
 |.str y=>y.length<=sizeLine/\k=((y.length:Int) != 0)
 |.byt y=>y.size<=sizeLine/\k=((y.size:Int) != 0)
 |.ref p=>(∃xs,c9 K H p xs/\k=!xs.isEmpty)\/(∃xs,d8 K H p xs/\k=!xs.isEmpty)\/∃kvs,H p=some (.dK kvs)/\k=!kvs.isEmpty
 |_=>False
theorem Tb(r:KV kvs vs):(!vs.isEmpty)=!kvs.isEmpty:=by cases r<;>rfl
theorem F8(r:aM xs q):(!q.toArray.isEmpty)=!xs.isEmpty:=by cases r<;>simp
theorem sH:(sizeLine:Nat)<2^63:=by rw[sizeLine_eq];decide
theorem KW:ZS X (λ x H Q=>∃k,Ct X.K x H k/\Q k H):=by
 intro aA s S H x v Q I Z h;obtain⟨k,e,q⟩:=h;have l:=sizeLine_eq;cases x with
 |n=>
  cases Z;have O:=e;subst O;exact truthy_none ⟨H,I,q⟩
 |b b=>
  cases Z;have O:=e;subst O;exact yn ⟨H,I,q⟩
 |int i=>
  obtain⟨t,rfl⟩:=Z;have O:=e;subst O;exact PySem.P.truthy_int ⟨H,I,q⟩
 |str y=>
  obtain⟨t,rfl⟩:=Z;obtain⟨j,O⟩:=e;subst O;exact PySem.P.truthy_str aD ⟨H,I.tok _,q⟩
 |byt y=>
  obtain⟨t,rfl⟩:=Z;obtain⟨j,O⟩:=e;subst O;exact PySem.W.truthy_bytes aD ⟨H,I.tok _,q⟩
 |ref p=>
  cases Z;have O:=e;rcases O with⟨xs,a,O⟩|⟨xs,a,O⟩|⟨kvs,a,O⟩
  .subst O;obtain⟨f,r,c,d⟩:=I.list a;have Y:=r.length;exact wpAny_truthy_list c.isList (by simp only[zk];lia) ⟨H,I.tok _,by rw[F8 r];exact q⟩
  .subst O;obtain⟨f,r,c,d⟩:=I.tuple a;have Y:=r.length;exact truthy_tuple c (by simp only[zk];lia) ⟨H,I.tok _,by rw[F8 r];exact q⟩
  .subst O;obtain⟨d,g,vs,r,m⟩:=I.hok p _ a;have Y:=Yu r;exact wpAny_truthy_dict g m aD ⟨H,I.tok _,by rw[Tb r];exact q⟩
 |_=>exact(show False from e).elim
theorem PJ(ha:PE X a ta)(he:∀q,isTrue a X.v q=(do let v<-q;standAt a.pos;holding [v] (truthy v))):PT X a (λ S H Q=>ta S H λ x H'=>∃k,Ct X.K x H' k/\Q k H'):=by
 intro aA s S H Q I h;exact isTrue_plain (bQ (ha aA s S H _ I h) λ v c=>dD λ x b Z O Y=>KW aA c S b x v Q Z O Y) (he _)
theorem jG:dB X (binaryOp .Add) (λ x y H Q=>∃i j,x=.str i/\y=.str j/\i.length+j.length<=sizeLine/\Q (.str (i++j)) H):=by intro aA s S H x y v u Q I Y O h;obtain⟨i,j,rfl,rfl,a,q⟩:=h;obtain⟨t,rfl⟩:=Y;obtain⟨b,rfl⟩:=O;exact add_str (λ b c=>⟨.str (i++j),H,I.tok _,⟨_,rfl⟩,q⟩) a
theorem gr(r:aM [x] us):∃u,us=[u]/\aX x u:=by
 cases r with
 |cons q O=>cases O;exact⟨_,rfl,q⟩
theorem tw(r:aM [x,y] us):∃u q,us=[u,q]/\aX x u/\aX y q:=by
 cases r with
 |cons O Y=>
  cases Y with
  |cons r3 Z=>cases Z;exact⟨_,_,rfl,O,r3⟩
theorem QA:bV X (.builtin "abs") (λ xs H Q=>∃i,xs=[.int i]∧Q (.int (if i<0 then -i else i)) H):=by
 intro aA s S H xs us Q I r h;obtain⟨i,rfl,q⟩:=h;obtain⟨u,rfl,t,rfl⟩:=gr r;exact call_abs_int λ u a=>⟨.int (if i<0 then -i else i),H,I.tok _,⟨_,rfl⟩,q⟩
theorem Pn(Y:X.c=true):bV X (.builtin "max") (λ xs H Q=>∃i j,xs=[.int i,.int j]∧Q (.int (if j>i then j else i)) H):=by
 intro aA s S H xs us Q I r h;obtain⟨i,j,rfl,q⟩:=h;obtain⟨u,Z,rfl,⟨t,rfl⟩,⟨a,rfl⟩⟩:=tw r;refine max_two_ints (I.ok.hd Y) λ h' b k=>⟨_,H,I.kept k,?_,q⟩
 by_cases O:j>i
 .rw[if_pos O,if_pos O];exact⟨_,rfl⟩
 .rw[if_neg O,if_neg O];exact⟨_,rfl⟩
theorem Pj(Y:X.c=true):bV X (.builtin "min") (λ xs H Q=>∃i j,xs=[.int i,.int j]∧Q (.int (if j<i then j else i)) H):=by
 intro aA s S H xs us Q I r h;obtain⟨i,j,rfl,q⟩:=h;obtain⟨u,Z,rfl,⟨t,rfl⟩,⟨a,rfl⟩⟩:=tw r;refine min_two_ints (I.ok.hd Y) λ h' b k=>⟨_,H,I.kept k,?_,q⟩
 by_cases O:j<i
 .rw[if_pos O,if_pos O];exact⟨_,rfl⟩
 .rw[if_neg O,if_neg O];exact⟨_,rfl⟩
theorem Po:bV X (.type "int") (λ xs H Q=>(∃i,xs=[.int i]∧Q (.int i) H)∨∃k,xs=[.b k]∧Q (.int (if k then 1 else 0)) H):=by
 intro aA s S H xs us Q I r h;rcases h with⟨i,rfl,q⟩|⟨k,rfl,q⟩
 .obtain⟨u,rfl,t,rfl⟩:=gr r;exact call_int_int ⟨.int i,H,I,⟨_,rfl⟩,q⟩
 .obtain⟨u,rfl,O⟩:=gr r;cases O;exact call_int_bool ⟨.int (if k then 1 else 0),H,I.tok _,⟨_,rfl⟩,q⟩
end
theorem d7.some_of(r:d7 (some v) o):∃u,o=some u/\aX v u:=by
 cases o with
 |none=>exact(show False from r).elim
 |some u=>exact⟨u,rfl,r⟩
theorem d7.none_of(r:d7 none o):o=none:=by grind[d7]
structure Fp(K:Frag)(C:Addr):Prop where
 pg:PySem.W.plainGet K C Str.empty=true
 hd:PySem.W.hasDictIn K C=true
 po:PySem.W.plainOver K C=true
 sa:PySem.W.findIn K (.ref C) "__setattr__"=some (some (.builtin "object.__setattr__"))
theorem Fp.get{K:Frag}(c:Fp K C)(f:Str):PySem.W.plainGet K C f=true:=c.pg
section
variable{X:Cx}{aA:cB}{S:St}{H:Hp}{s:Shared}{a C dx:Addr}{fs:List (Str×V)}{f:Str}{v:V}{A:Around}{E:dw}
theorem V7(O:attributeBase e f env (eval e env)=eval e env)(h:bU prog w A (eval e env) (λ o q=>bU prog w A (getAttr o f true) Q E q) E s):bU prog w A (eval (.Attribute e f pos) env) Q E s:=
 Attribute_any_ h (by rw[arm_eval_Attribute,O])
end
section
variable{X:Cx}{aA:cB}{S:St}{H:Hp}{s:Shared}{A:Around}{E:dw}{Q:dw}{c:Value}{b:Bool}
end
structure cm(k:Nat)(A:Around):Prop where
 hd:A.handled=none
 dp:A.depth+3*k+5<recursionLimit
 un:A.units+16*k+200<cLine
theorem cm.mono(r:cm k A)(h:j<=k):cm j A:=⟨r.hd,by have:=r.dp;lia,by have:=r.un;lia⟩
theorem cm.deeper(r:cm (k+1) A)(env:Env):cm k (A.deeper env):=
 ⟨r.hd,by have:=r.dp;show A.depth+1+3*k+5<_;lia,by have:=r.un;show A.units+3+16*k+200<_;lia⟩
theorem cm.in1(r:cm (k+1) A):cm k A.in1:=
 ⟨r.hd,by have:=r.dp;show A.depth+3*k+5<_;lia,by have:=r.un;show A.units+1+16*k+200<_;lia⟩
theorem S_{A:Around}:(A.under (.builtin "type.__call__" ⟨.ref C::us,kw⟩)).depth=A.depth+1:=by
 first|rfl|simp[Around.under,Code.weight,Code.isCreation,Code.isGuard,Code.isCaller,Code.frames,Code.isFrame,guardIds]
theorem S9{A:Around}:(A.under (.builtin "type.__call__" ⟨.ref C::us,kw⟩)).units=A.units+1:=by
 first|rfl|simp[Around.under,Code.cUnits,Code.frames,Code.isFrame]
theorem cm.make(r:cm (k+1) A)(C:Addr)(us:cf)(kw:List (Str×Value)):cm k (A.under (.builtin "type.__call__" ⟨.ref C::us,kw⟩)):=
 ⟨r.hd,by have:=r.dp;rw[S_];lia,by have:=r.un;rw[S9];lia⟩
theorem cm.depth(r:cm k A):A.depth<recursionLimit:=by have:=r.dp;lia
theorem cm.units(r:cm k A):A.units+64<cLine:=by have:=r.un;lia
def Vz:TA:=λ _ H Q=>Q [] H
def Us(ta:TE)(q:TA):TA:=λ S H Q=>ta S H λ x H1=>q S H1 λ xs H2=>Q (x::xs) H2
theorem k7:PA X [] Vz:=λ _ _ _ _ H Q I h=>Q1 ⟨[],H,I,.nil,h⟩
theorem iT(ha:PE X e te)(q:PA X es t)(hs:kv X e es:=by rfl):PA X (e::es) (Us te t):=by
 intro pos aA s S H Q I h;rw[hs];refine Qh (bQ (ha aA s S H _ I h) λ u g=>dD λ x a c O Z=>?_);exact bQ (q pos aA g S a _ c Z) λ us i=>dD λ xs b Y f d=>⟨x::xs,b,Y,.cons O f,d⟩
def Vv(t:TA):TE:=λ S H Q=>t S H λ xs H1=>xs.length<=sizeLine/\∀p,H1 p=none->Q (.ref p) (upd H1 p (.t xs))
def VA(t:TA):TE:=λ S H Q=>t S H λ xs H1=>xs.length<=sizeLine/\∀p,H1 p=none->Q (.ref p) (upd H1 p (.l xs))
theorem Ss(h:PA X es t):PE X (.Tuple es x1 pos) (Vv t):=by intro aA s S H Q I c;refine wpAny_Tuple_spliced (bQ (h pos aA s S H _ I c) λ us O⟨xs,a,Y,r,z,q⟩=>⟨by rw[<-r.length];exact z,?_⟩);have Z:=Y.hok.fresh (qj _);refine⟨.ref O.heap.objs.size,upd a O.heap.objs.size (.t xs),Y.laid (λ b u e=>qf _ e) (qj _) ?_,rfl,q _ Z⟩;exact⟨z,us,r,⟨_,qk _ rfl,rfl,⟨_,rfl⟩,rfl⟩⟩
theorem BL(h:PA X es t):PE X (.List es pos) (VA t):=by intro aA s S H Q I c;refine wpAny_List_spliced (bQ (h pos aA s S H _ I c) λ us O⟨xs,a,Y,r,z,q⟩=>⟨by rw[<-r.length];exact z,?_⟩);have Z:=Y.hok.fresh (qj _);refine⟨.ref O.heap.objs.size,upd a O.heap.objs.size (.l xs),Y.laid (λ b u e=>qf _ e) (qj _) ?_,rfl,q _ Z⟩;exact⟨z,us,0,r,qk _ rfl⟩
abbrev Sp:=bY->Hp->VK->XK->Prop
abbrev nP:=hO->Hp->Shared->XK->Value->Shared->Prop
structure gw(P:Program)(w:World)(K:Frag)(mg:Str->Option Value)(base:Heap)(A:Around)(outer:hO)(s:Shared)(H:Hp):Prop where
 frames:A.frames=some outer
 mod:Mod K mg base
 bs:∀b o,base.get? b=some o->s.heap.get? b=some o/\H b=none
 bsz:base.objs.size<=s.heap.n
 funs:s.heap.FunFrames base outer
 frf:∀b∈gC outer,H b=none
 hok:ef P w H s.heap
 bare:AllBare s.gens
def CE(outer:hO)(P:Program)(w:World)(H:Hp)(s:Shared)(Q:VK)(u:Value)(s':Shared):Prop:=
 ∃v H',s'.os=s.os/\AllBare s'.gens/\Un (gC outer) [] H H' s.heap s'.heap/\ef P w H' s'.heap/\aX v u/\Q v H'
def CR(CX:nP)(outer:hO)(P:Program)(w:World)(H:Hp)(s:Shared)(Q:VK)(E:XK)(r:Result)(s':Shared):Prop:=
 match r with
 |.ok (.ret u)=>CE outer P w H s Q u s'
 |.ok _=>False
 |.error e=>CX outer H s E e s'
structure da(P:Program)(w:World)(K:Frag)(mg:Str->Option Value)(base:Heap)(CX:nP)(k:Nat)(f:Addr)(fd:FuncData)(ps:aP)(sp:Sp):Prop where
 len:∀vs H Q E,sp vs H Q E->vs.length=ps.length
 run:∀(A:Around)(outer:hO)(s:Shared)(H:Hp)(args:Args)(us:cf)(vs:bY)(Q:VK)(E:XK),cm k A->gw P w K mg base A outer s H->BindsTo s fd args (ps.zip us)->aM vs us->sp vs H Q E->codeAny (model P w) A (.call (.ref f) args) (CR CX outer P w H s Q E) s
theorem da.mono{K:Frag}(F:da P w K mg base CX j f fd ps sp)(h:j<=k):da P w K mg base CX k f fd ps sp:=⟨F.len,λ A outer s H args us vs Q E q=>F.run A outer s H args us vs Q E (q.mono h)⟩
theorem da.imp{K:Frag}(F:da P w K mg base CX k f fd ps sp)(h:∀vs H Q E,O vs H Q E->sp vs H Q E):da P w K mg base CX k f fd ps O:=
 ⟨λ vs H Q E q=>F.len vs H Q E (h _ _ _ _ q),λ A outer s H args us vs Q E Z a Y c b=>F.run A outer s H args us vs Q E Z a Y c (h _ _ _ _ b)⟩
theorem gw.make{K:Frag}(e:gw P w K mg base A outer s H)(C:Addr)(us:cf)(kw:List (Str×Value)):gw P w K mg base (A.under (.builtin "type.__call__" ⟨.ref C::us,kw⟩)) outer s H:=⟨by first|exact e.frames|(simpa [Around.under,Code.envs,Code.isFrame,pushEnvs]using e.frames),e.mod,e.bs,e.bsz,e.funs,e.frf,e.hok,e.bare⟩
theorem gw.in1{K:Frag}(e:gw P w K mg base A outer s H):gw P w K mg base A.in1 outer s H:=⟨e.frames,e.mod,e.bs,e.bsz,e.funs,e.frf,e.hok,e.bare⟩
section
variable{X:Cx}{aA:cB}{S:St}{H:Hp}{s s':Shared}
theorem aI.env0(I:aI X aA S H s):gw X.p X.w X.K X.mg X.base X.A X.stack s H:=
 ⟨I.ok.frames,I.ok.mod,I.bs,zw I.ok.bsz I.sz,I.stack,I.stkFree,I.hok,I.bare⟩
theorem aI.after(I:aI X aA S H s)(h:CE X.stack X.p X.w H s Q u s'):EP X aA S Q u s':=by obtain⟨v,H',os,O,un,Y,r,q⟩:=h;obtain⟨a,g,d,t,Z⟩:=s';obtain rfl:Z=s.os:=os;exact⟨v,H',I.call un Y O (λ b z=>absurd z aQ),r,q⟩
end
def Ut(sp:Sp)(dvs:bY)(E:XK)(t:TA):TE:=λ S H Q=>t S H λ vs H1=>sp (vs++dvs) H1 Q E
def dS(K:Frag)(fd:FuncData)(ps:aP)(ds:cf):Prop:=
 ∀(s:Shared)(us:cf),K.In s.heap->(us++ds).length=ps.length->BindsTo s fd ⟨us,[]⟩ (ps.zip (us++ds))
theorem dS.all{K:Frag}(h:∀us:cf,us.length=ps.length->bindArgs fd ⟨us,[]⟩=pure (ps.zip us)):dS K fd ps []:=λ s us _ hl=>by
 rw[yb]at hl⊢;exact .of_eq (h us hl)
def wu(CX:nP)(X:Cx)(E:XK):Prop:=∀(aA:cB)(S:St)(H:Hp)(s:Shared)(e:Value)(s':Shared),aI X aA S H s->CX X.stack H s E e s'->X.xe e s'
section
variable{X:Cx}{CX:nP}{k:Nat}{f C:Addr}{fd:FuncData}{ps:aP}{sp:Sp}{dvs:bY}{ds:cf}{E:XK}{x m:Str}{p pos apos:Pos}{e o:Expr}{es:eH}{ta:TE}{t:TA}
theorem Wc(F:da X.p X.w X.K X.mg X.base CX k f fd ps sp)(Z:cm k X.A)(Y:dS X.K fd ps ds)(hd:aM dvs ds)(hx:wu CX X E)(I:aI X aA S H s)(r:aM vs us)(h:sp (vs++dvs) H Q E):bU X.p X.w X.A (call (.ref f) us) (EP X aA S Q) X.xe s:=by
 have O:=r.append hd;have hl:(us++ds).length=ps.length:=by rw[<-O.length];exact F.len _ _ _ _ h
 refine Q9 (Qj (F.run X.A X.stack s H ⟨us,[]⟩ (us++ds) (vs++dvs) Q E Z I.env0 (Y s us I.kIn hl) O h) λ r s' q=>?_);cases r with
 |error e=>exact hx aA S H s e s' I q
 |ok a=>
  cases a with
  |ret u=>exact I.after q
  |next=>exact False.elim q
  |brk=>exact False.elim q
  |cont=>exact False.elim q
theorem F_(F:da X.p X.w X.K X.mg X.base CX k f fd ps sp)(hr:cm k X.A)(hg:Gl X x)(hm:X.mg x=some (.ref f))(hk:keepIn X.K (.ref f)=true)(hb:dS X.K fd ps ds)(hd:aM dvs ds)(hx:wu CX X E)(ha:PA X (e::es) t)(Y:dJ x)(he:kv X e es)(O:lH X pos es):PE X (.Call (.Name x p) (e::es) [] pos) (Ut sp dvs E t):=by
 intro aA s S H Q I h;refine jj (nO I hg hm ?_ Y);refine PySem.W.callWith_K (h₀:=X.base) I.ok.mod.kin hk (bQ (ha pos aA s S H _ I h) λ us b=>dD λ vs a Z r q=>⟨Z.kIn,?_⟩) he O;exact Wc F hr hb hd hx Z r q
end
noncomputable abbrev _root_.ux:=List Keyword
def PK(X:Cx)(kws:ux)(t:TA):Prop:=
 ∀(pos:Pos)(aA:cB)(s:Shared)(S:St)(H:Hp)(Q:bY->Hp->Prop),aI X aA S H s->t S H Q->bU X.p X.w X.A (evalAll ((backToKw pos (keywordEach kws X.v)).map (·.2))) (AP X aA S Q) X.xe s
structure aJ(N P:aP)(sc:Scope):Prop where
 kind:sc.kind=.function
 co:sc.isCoroutine=false
 gen:sc.isGenerator=false
 nd:N.Nodup
 pre:N.take P.length=P
 par:∀x∈P,sc.names.lookup x=some .local\/sc.names.lookup x=some .cell
 nofree:∀y∈sc.names,y.2≠.free
theorem Hm:∀{binds:List (Str×Value)}{m:Str->Option Value},(∀v,(x,v)∉binds)->bindL q binds m x=m x
 |[],_,_=>rfl
 |(n,v)::r,m,h=>by
  unfold bindL;rw[Hm λ w hw=>h w (ja _ hw)];split
  .grind
  .rfl
theorem Ho:∀{binds:List (Str×Value)}{m:Str->Option Value},(∀v,(x,v)∉binds)->bindC q binds m x=m x
 |[],_,_=>rfl
 |(n,v)::r,m,h=>by
  unfold bindC;rw[Ho λ w hw=>h w (ja _ hw)];split
  .rfl
  .grind
theorem Hn:∀{P:aP}{vs:cf}{i:Nat}{m:Str->Option Value},P.Nodup->P[i]?=some x->vs[i]?=some v->q x=some .local->bindL q (P.zip vs) m x=some v
 |[],_,_,_,_,h,_,_=>by simp at h
 |_::_,[],_,_,_,_,h,_=>by simp at h
 |p::P,w::vs,0,m,nd,a,b,c=>by
  simp at a b;subst a;subst b;show bindL q ((p,w)::P.zip vs) m p=_;unfold bindL;rw[Hm λ v O=>(List.nodup_cons.mp nd).1 (Zl O).1,if_pos c];simp
 |p::P,w::vs,i+1,m,nd,a,b,c=>by
  show bindL q ((p,w)::P.zip vs) m x=_;exact Hn (List.nodup_cons.mp nd).2 (by simpa using a) (by simpa using b) c
theorem Hq:∀{P:aP}{vs:cf}{i:Nat}{m:Str->Option Value},P.Nodup->P[i]?=some x->vs[i]?=some v->q x≠some .local->bindC q (P.zip vs) m x=some v
 |[],_,_,_,_,h,_,_=>by simp at h
 |_::_,[],_,_,_,_,h,_=>by simp at h
 |p::P,w::vs,0,m,nd,a,b,c=>by
  simp at a b;subst a;subst b;show bindC q ((p,w)::P.zip vs) m p=_;unfold bindC;rw[Ho λ v O=>(List.nodup_cons.mp nd).1 (Zl O).1,if_neg c];simp
 |p::P,w::vs,i+1,m,nd,a,b,c=>by
  show bindC q ((p,w)::P.zip vs) m x=_;exact Hq (List.nodup_cons.mp nd).2 (by simpa using a) (by simpa using b) c
def start(N:aP)(vs:bY):St:=vs.map some++List.replicate (N.length-vs.length) none
def ig(CX:nP)(P:Program)(w:World)(K:Frag)(mg:Str->Option Value)(base:Heap)(N:aP)(qual:Str)(scope:Scope)(f:Addr)(cd:Value)(A:Around)(outer:hO)(s:Shared)(H:Hp)(E:XK):Cx where
 p:=P
 w:=w
 K:=K
 mg:=mg
 base:=base
 A:=A.deeper (envOfC qual scope s.heap.n f cd)
 N:=N
 s₀:=s
 H₀:=H
 v:=envOfC qual scope s.heap.n f cd
 outer:=outer
 stack:=envOfC qual scope s.heap.n f cd::outer
 ex:=[]
 c:=true
 fn:=λ _=>true
 pn:=[]
 xe:=λ e s'=>wpAny (model P w) (A.deeper (envOfC qual scope s.heap.n f cd)) (leaving (envOfC qual scope s.heap.n f cd) e) (λ _ q=>CX outer H s E e q) (λ O q=>CX outer H s E O q) s'
theorem Ji{sc:Scope}(h:sc.names.lookup x=some .cell):∃c,(cellsFrom n sc.names []).lookup x=some c:=by have q:=PySem.W.cellsFrom_some sc.names n [] (.inl h);exact Option.isSome_iff_exists.mp q
theorem O6{K:Frag}(σ:aJ N ps scope)(hd:A.handled=none)(e0:gw P w K mg base A outer s H)(hl:vs.length=ps.length)(r:aM vs us)(x:InCallC s s.heap.n (bindL (envOfC qual scope s.heap.n f cd).kindOf (ps.zip us) λ _=>none) (cellsFrom (s.heap.n+1) scope.names []) (bindC (envOfC qual scope s.heap.n f cd).kindOf (ps.zip us) λ _=>none) s1):aI (ig CX P w K mg base N qual scope f cd A outer s H E) [] (start N vs) H s1:=by
 have B:ps.length<=N.length:=by have:=y0 List.length σ.pre;rw[j8]at this;lia
 obtain⟨g,D,rfl,l⟩:=x.done;have Y:∀b:Addr,b∉(ig CX P w K mg base N qual scope f cd A outer s H E).ex:=λ b z=>absurd (show b∈([]:fB)from z) aQ;refine⟨⟨e0.mod,σ.kind,rfl,rfl,qj _,λ y z c g d=>?_,λ y O=>?_,λ y c _ h=>?_,λ _=>hd,Around.frames_deeper e0.frames,.inr ⟨rfl,rfl⟩,λ b z=>absurd z (Y b),e0.bs,e0.bsz,λ b _ _=>Y b,λ b z=>absurd z (Y b),e0.funs,e0.frf⟩,rfl,e0.bare,Un.kept l,⟨_,x.toInCall.ns,λ i y v g d C=>?_⟩,λ y c h=>⟨_,x.cell y c h⟩,e0.hok.fresh (qj _),λ y c h=>?_,λ p Z=>absurd (show p∈([]:cB)from Z) aQ,e0.hok.kept l,?_⟩
 .exact name_of_addr x.apart (jp g) (jp d)
 .have O:=O;rcases O with O|O
  .exact Ji O
  .exact absurd rfl (σ.nofree _ (jp O))
 .exact Ya (x.above y c (jp h))
 .have hi:i<vs.length:=by
   unfold start at d;by_cases hi:i<vs.length
   .exact hi
   .rw[Zr (by simpa using hi)]at d;rw[Z7]at d;split at d<;>cases d
  have o:vs[i]?=some v:=by
   unfold start at d;rw[ju (by simpa using hi),yt]at d;cases e:vs[i]? with
   |none=>rw[e]at d;cases d
   |some a=>rw[e]at d;cases d;rfl
  obtain⟨u,m,t⟩:=r.get o;have Z:ps[i]?=some y:=by rw[<-σ.pre,List.getElem?_take_of_lt aD];exact g
  have j:ps.Nodup:=by rw[<-σ.pre];exact σ.nd.sublist (List.take_sublist _ _)
  refine⟨u,t,?_⟩;rcases σ.par y (Yj Z)with k|k
  .exact .inl ⟨k,Hn j Z m k⟩
  .obtain⟨c,e⟩:=Ji k;refine .inr ⟨.inl k,c,e,?_⟩;have q:=x.cell y c e;rw[Hq j Z m (by show scope.names.lookup y≠_;rw[k];decide)]at q;exact q
 .exact e0.hok.fresh (Ya (x.above y c (jp h)))
 .unfold start;show _=N.length;rw[zr,qz,Yf];lia
theorem CG{K:Frag}{dV kV ah pm O ct oc:Value}(lk:K.lookup f=some ⟨oc,od,.func (fnOf name qual Y body scope dV kV ah pm an O ct),aj⟩)(ak:codeIn K O qual=true)(σ:aJ N ps scope)(ae:∀vs H Q E,sp vs H Q E->vs.length=ps.length)(ac:∀(A:Around)(outer:hO)(s:Shared)(H:Hp)(vs:bY)(Q:VK)(E:XK),cm k (A.deeper (envOfC qual scope s.heap.n f O))->sp vs H Q E->∃t,eE (ig CX P w K mg base N qual scope f O A outer s H E) body t/\t {nx:=λ _ H'=>Q .n H',rt:=Q} (start N vs) H):da P w K mg base CX (k+1) f (fnOf name qual Y body scope dV kV ah pm an O ct) ps sp:=by
 refine⟨ae,λ A outer s H args us vs Q E c e0 B r h=>?_⟩;have hl:=ae _ _ _ _ h;have g:=e0.mod.kin.keeps λ b o e=>(e0.bs b o e).1;have m:=e0.mod.nolimit.keeps λ b o e=>(e0.bs b o e).1;have j:∀y∈ps.zip us,scope.names.lookup y.1=some .local\/(scope.names.lookup y.1=some .cell/\((cellsFrom (s.heap.n+1) scope.names []).lookup y.1).isSome=true):=λ l G=>by
  obtain⟨n,v⟩:=l;rcases σ.par n (Zl G).1 with q|q
  .exact .inl q
  .exact .inr ⟨q,PySem.W.cellsFrom_some _ _ _ (.inl q)⟩
 refine codeAny_call_function c.depth (g _ _ lk) rfl σ.co σ.gen rfl (PySem.W.codeRec_of g ak) (B _ _ _ _ ?_);refine wpAny_newFunctionEnv_cells σ.kind j λ p C s1 x=>?_;subst C;refine⟨m.keeps x.toInCall.keep,codeAny_func ?_⟩;obtain⟨t,F,D⟩:=ac A outer s H vs Q E (c.deeper _) h;have I:aI (ig CX P w K mg base N qual scope f O A outer s H E) [] (start N vs) H s1:=O6 σ c.hd e0 hl r x;refine yd (F [] s1 (start N vs) H _ I D) (λ z s' a=>?_) λ e s' a=>a;have i:∀{Z:St}{H':Hp}{v:V}{u:Value},aI (ig CX P w K mg base N qual scope f O A outer s H E) [] Z H' s'->aX v u->Q v H'->CE outer P w H s Q u s':=
  λ{Z H' v u}ρ d q=>⟨v,H',ρ.os,ρ.bare,ρ.base,ρ.hok,d,q⟩
 cases z with
 |ret u=>
  obtain⟨v,Z,H',ρ,d,q⟩:=a;exact i ρ d q
 |next=>
  obtain⟨Z,H',ρ,q⟩:=a;exact i (v:=V.n) ρ rfl q
 |brk=>
  obtain⟨_,_,_,q⟩:=a;exact False.elim q
 |cont=>
  obtain⟨_,_,_,q⟩:=a;exact False.elim q
section
variable{id T:String}
def Ea(r:bY->Hp->VK->Prop)(t:TA):TE:=λ S H Q=>t S H λ vs H1=>r vs H1 Q
theorem uF(hc:bV X (.builtin id) r)(Z:Gl X x)(hm:X.mg x=none)(hv:bootBuiltins x=some (.builtin id))(Y:PA X (e::es) t)(hn:x≠"__name__":=by decide)(O:dJ x:=by decide)(he:kv X e es:=by rfl)(q:lH X pos es:=by rfl):PE X (.Call (.Name x p) (e::es) [] pos) (Ea r t):=by
 intro aA s S H Q I h;refine jj (l_ I Z hm hv ?_ hn O);exact PyProof.Rows.callWith_builtin1 (bQ (Y pos aA s S H _ I h) λ us f=>dD λ vs a b d c=>hc aA f S a vs us Q b d c) he q
theorem Nj(hc:bV X (.type T) r)(Z:Gl X x)(hm:X.mg x=none)(hv:bootBuiltins x=some (.type T))(Y:PA X (e::es) t)(hn:x≠"__name__")(O:dJ x)(he:kv X e es)(q:lH X pos es):PE X (.Call (.Name x p) (e::es) [] pos) (Ea r t):=by
 intro aA s S H Q I h;refine jj (l_ I Z hm hv ?_ hn O);exact yk (bQ (Y pos aA s S H _ I h) λ us f=>dD λ vs a b d c=>hc aA f S a vs us Q b d c) he q
end
end L2
namespace HT
open PySem PyProof.Rows
section
variable{prog:Program}{w:World}{A:Around}{E:dw}{s:Shared}
noncomputable abbrev _root_.eO:=Option Int
def sIx(n d:Nat):eO->Nat
 |none=>d
 |some v=>if v<0 then(v+(n:Int)).toNat else min v.toNat n
theorem sIx_nat(n d k:Nat):sIx n d (some (k:Int))=min k n:=by show(if(k:Int)<0 then((k:Int)+(n:Int)).toNat else min (k:Int).toNat n)=min k n;rw[if_neg aD,Zx]
theorem sIx_le(n d:Nat)(hd:d<=n)(o:eO):sIx n d o<=n:=by
 cases o with
 |none=>exact hd
 |some v=>
  show(if v<0 then(v+(n:Int)).toNat else min v.toNat n)<=n;by_cases q:v<0
  .rw[if_pos q];lia
  .rw[if_neg q];exact Nat.min_le_right _ _
theorem clip_eq(v:Int)(n d:Nat):(if v<0 then max (v+(n:Int)) 0 else min v (n:Int))=((sIx n d (some v):Nat):Int):=by
 show(if v<0 then max (v+(n:Int)) 0 else min v (n:Int))=(((if v<0 then(v+(n:Int)).toNat else min v.toNat n):Nat):Int);by_cases q:v<0
 .simp only[if_pos q];lia
 .simp only[if_neg q];lia
theorem Tg(lo hi:eO)(n:Nat):Builtin.Slice.sliceAdjust lo hi 1 (n:Int)=(((sIx n 0 lo:Nat):Int),((sIx n n hi:Nat):Int)):=by
 have a:¬((1:Int)<0):=aD;unfold Builtin.Slice.sliceAdjust;refine Prod.ext ?_ ?_
 .cases lo with
  |none=>rfl
  |some v=>exact clip_eq v n 0
 .cases hi with
  |none=>rfl
  |some v=>exact clip_eq v n n
theorem S7(i j:Nat):Builtin.Slice.slicePlaces (i:Int) (j:Int) 1=j-i:=by unfold Builtin.Slice.slicePlaces;grind
theorem slicePart_{v:Value}{o:eO}{Q:eO->Shared->Prop}(p:IsPart v o)(h:Q o s):bU prog w A (Builtin.Slice.slicePartIndex v) Q E s:=by
 cases p with
 |none=>exact slicePart_none h
 |int i t=>exact slicePart_int h
theorem N3{lo hi:eO}{n:Nat}(hs:s.heap.IsSliceOf Z O Y .none)(pl:IsPart O lo)(pu:IsPart Y hi)(h:Q (((sIx n 0 lo:Nat):Int),1,sIx n n hi-sIx n 0 lo) s):bU prog w A (Builtin.Slice.sliceApplied (.ref Z) (pure (n:Int))) Q E s:=by
 obtain⟨os,q,a,hds⟩:=id hs;refine qb (qb (yj q hds rfl (qb (yj q hds rfl (qb (yj q hds rfl (qc ?_)))))));refine qb (slicePart_none ?_);rw[if_neg aH];refine qb (slicePart_ pl (qb (slicePart_ pu (qb (qc ?_)))));show wpAny _ _ (match Builtin.Slice.sliceAdjust lo hi 1 (n:Int)with|(lo,hi)=>pure (lo,(1:Int),Builtin.Slice.slicePlaces lo hi 1)) _ _ s;rw[Tg lo hi n];show wpAny _ _ (pure (((sIx n 0 lo:Nat):Int),(1:Int),Builtin.Slice.slicePlaces ((sIx n 0 lo:Nat):Int) ((sIx n n hi:Nat):Int) 1)) _ _ s;rw[S7];exact qc h
theorem PQ(xs:gm)(i k:Nat):((List.range k).filterMap λ(m:Nat)=>xs[((i:Int)+(m:Int)*1).toNat]?).toArray=((xs.toList.drop i).take k).toArray:=by
 have e:(λ(m:Nat)=>xs[((i:Int)+(m:Int)*1).toNat]?)=λ m=>xs[i+m]?:=by funext m;have:((i:Int)+(m:Int)*1).toNat=i+m:=aD;rw[this]
 rw[e];have:=pick_run xs i k;rw[Zs]at this;have e2:((λ x=>xs[x]?)∘λ x=>i+x)=λ m=>xs[i+m]?:=rfl;rw[e2]at this;rw[this]
theorem getItem_tuple_cut{lo hi:eO}(Y:IsTup s.heap t items)(hs:s.heap.IsSliceOf sl vl vu .none)(pl:IsPart vl lo)(pu:IsPart vu hi)(hw:¬(sIx items.size 0 lo=0/\sIx items.size items.size hi=items.size))(h:Q (.ref s.heap.n) {s with heap:=s.heap.push {cls:=.type "tuple",data:=.seq ((items.toList.drop (sIx items.size 0 lo)).take (sIx items.size items.size hi-sIx items.size 0 lo)).toArray}})(hsz:items.size<=sizeLine):bU prog w A (getItem (.ref t) (.ref sl)) Q E s:=by
 have O:sizeOk (.seq ((items.toList.drop (sIx items.size 0 lo)).take (sIx items.size items.size hi-sIx items.size 0 lo)).toArray):=by show((items.toList.drop (sIx items.size 0 lo)).take (sIx items.size items.size hi-sIx items.size 0 lo)).toArray.size<=sizeLine;rw[zk,j8,jr,ym];lia
 have d:sIx items.size items.size hi<=items.size:=sIx_le _ _ (qj _) hi;obtain⟨os,c,a,hds⟩:=id hs;have b:s.TypeIs (.ref sl) "slice":=⟨os,c,a⟩;unfold getItem
 try with_reducible refine yo ?_
 first|refine qb (qc ?_)|skip
 refine qb (wpAny_sequenceKey Y.typeIs aH ?_);refine qb (wpAny_callSpecial?_slot Y.typeIs j5
  (Q8 j5 Y.typeIs entry_tuple_getitem ?_ (args_tuple_getitem _ _)))
 show wpAny _ _ (Builtin.Tuple.tupleItemsOf (.ref t) >>= _) _ _ s;refine qb (tupleItemsOf_ Y ?_);refine qb (Z8 b ?_);rw[if_pos aH];refine qb (N3 hs pl pu ?_);have Z:¬((((sIx items.size 0 lo:Nat):Int)==0&&(1:Int)==1&&(sIx items.size items.size hi-sIx items.size 0 lo)==items.size)=true):=by intro q;rw[zm,zm]at q;have e:=eq_of_beq q.1.1;have f:=eq_of_beq q.2;exact hw ⟨by lia,by lia⟩
 show wpAny _ _ (if(((sIx items.size 0 lo:Nat):Int)==0&&(1:Int)==1&&(sIx items.size items.size hi-sIx items.size 0 lo)==items.size)=true then _ else _) _ _ s;rw[if_neg Z,PQ]
 first
  |exact qb (yi (qc ⟨_,rfl,qc h⟩) O)
  |exact qb (yi (qb (qc (qc ⟨_,rfl,qc h⟩))) O)
  |exact qb (qb (yi (qc (qc ⟨_,rfl,qc h⟩)) O))
  |exact qb (qb (yi (qc ⟨_,rfl,qc h⟩) O))
end
end HT
namespace L2
open PySem PySem.Spec PyProof.Rows
abbrev TO:=St->Hp->(eO->Hp->Prop)->Prop
def PO(X:Cx)(e:Option Expr)(t:TO):Prop:=
 ∀(aA:cB)(s:Shared)(S:St)(H:Hp)(Q:eO->Hp->Prop),aI X aA S H s->t S H Q->bU X.p X.w X.A (evalPart e X.v) (λ u s'=>∃o H',aI X aA S H' s'/\IsPart u o/\Q o H') X.xe s
def Rt:TO:=λ _ H Q=>Q none H
def Ul(t:TE):TO:=λ S H Q=>t S H λ x H1=>∃i,x=.int i/\Q (some i) H1
theorem dQ:∀{us:cf},aM (q.map V.int) us->IntsAre us q:=by
 induction q with
 |nil=>intro us r;rw[Qk]at r;cases r;exact .nil
 |cons n q Z=>
  intro us r;rw[zj]at r;cases r with
  |cons O Y=>
   obtain⟨t,e⟩:=O;subst e;exact .cons n t (Z Y)
section
variable{lo hi:Option Expr}
theorem IC:PO X none Rt:=by intro aA s S H Q I h;rw[Z0];exact qc ⟨none,H,I,.none,h⟩
theorem IB(h:PE X e te):PO X (some e) (Ul te):=by
 intro aA s S H Q I hw;rw[Yt];refine bQ (h aA s S H _ I hw) λ u b=>dD λ x a Z O Y=>?_;obtain⟨i,rfl,q⟩:=Y;obtain⟨t,rfl⟩:=O;exact⟨some i,a,Z,.int i t,q⟩
def nR(X:Cx)(r:V->Option Int->Option Int->Hp->VK->Prop):Prop:=
 ∀(aA:cB)(s:Shared)(S:St)(H:Hp)(x:V)(v O q:Value)(lo hi:eO)(Y:Addr)(Q:VK),aI X aA S H s->aX x v->s.heap.IsSliceOf Y O q .none->IsPart O lo->IsPart q hi->r x lo hi H Q->∃T id,typeLookup (.type T) "__getitem__"=pure (some (.builtin id))∧s.TypeIs v T∧bU X.p X.w X.A (getItem v (.ref Y)) (EP X aA S Q) X.xe s
theorem nR.or(h:nR X r)(h':nR X Z):nR X (λ x lo hi H Q=>r x lo hi H Q\/Z x lo hi H Q):=by
 intro aA s S H x v Y e lo hi d Q I c a b O q;rcases q with q|q
 .exact h aA s S H x v Y e lo hi d Q I c a b O q
 .exact h' aA s S H x v Y e lo hi d Q I c a b O q
def tSl(r:V->Option Int->Option Int->Hp->VK->Prop)(te:TE)(tl th:TO):TE:=λ S H Q=>te S H λ x H1=>tl S H1 λ l H2=>th S H2 λ u q=>r x l u q Q
theorem Su(hr:nR X r)(he:PE X e te)(hl:PO X lo tl)(hu:PO X hi th):PE X (.Subscript e (.Slice lo hi none p2) pos) (tSl r te tl th):=by
 intro aA s S H Q I h;refine Z9 (bQ (he aA s S H _ I h) λ v A=>dD λ x c f z t=>?_);refine wpAny_Slice (bQ (hl aA A S c _ f t) λ Y B=>dD λ l d g o w=>bQ (hu aA B S d _ g w) λ Z O=>dD λ u a i p y=>?_);rw[Z0];refine qc ?_;have j:aI X aA S a {O with heap:=O.heap.push {cls:=.type "slice",data:=.fields #[Y,Z,.none]}}:=i.kept λ b ob q=>qf _ q;obtain⟨T,id,k,n,m⟩:=hr aA {O with heap:=O.heap.push {cls:=.type "slice",data:=.fields #[Y,Z,.none]}} S a x v Y Z l u O.heap.objs.size Q j z (Zt ..) o p y;exact tail_any n k m (by with_unfolding_all rfl)
def nW(xs:bY)(lo hi:eO):bY:=(xs.drop (HT.sIx xs.length 0 lo)).take (HT.sIx xs.length xs.length hi-HT.sIx xs.length 0 lo)
theorem FQ(xs:bY)(lo hi:eO):(nW xs lo hi).length<=xs.length:=by unfold nW;rw[j8,jr];lia
def VG(K:Frag):V->Option Int->Option Int->Hp->VK->Prop:=λ x lo hi H Q=>∃a xs,x=.ref a/\d8 K H a xs/\¬(HT.sIx xs.length 0 lo=0/\HT.sIx xs.length xs.length hi=xs.length)/\∀p,H p=none->Q (.ref p) (upd H p (.t (nW xs lo hi)))
theorem QM:nR X (VG X.K):=by
 intro aA s S H x v k l lo hi j Q I i d f g h;obtain⟨a,xs,rfl,e,hw,q⟩:=h;cases i;obtain⟨Y,r,Z,c⟩:=I.tuple e;have O:Y.toArray.size=xs.length:=by rw[zk];exact r.length.symm
 refine⟨"tuple",_,PyProof.Rows.slot_tuple_getitem.lookup,Z.typeIs,?_⟩;refine HT.getItem_tuple_cut Z d f g (by rw[O];exact hw) ?_ (by rw[O];exact c);rw[O];refine⟨.ref s.heap.n,_,I.laid (λ b ob q=>qf _ q) (qj _) ?_,rfl,q _ (I.hok.fresh (qj _))⟩;exact⟨zw (FQ xs lo hi) c,_,(r.drop (HT.sIx xs.length 0 lo)).take (HT.sIx xs.length xs.length hi-HT.sIx xs.length 0 lo),d6.new _ _⟩
end
def uw(n:Nat)(i:Int):Option Nat:=if 0<=i then(if i<n then some i.toNat else none)else if -(n:Int)<=i then some (i+n).toNat else none
def pw{α:Type}(xs:List α)(i:Int):Option α:=(uw xs.length i).bind λ j=>xs[j]?
theorem Uh(h:uw n i=some j):seqIndex? i n=some j/\j<n/\-(n:Int)<=i/\i<n:=by
 unfold uw at h;by_cases q:0<=i
 .rw[if_pos q]at h;by_cases a:i<n
  .rw[if_pos a]at h;have e:=qi h;exact⟨by rw[seqIndex_of q a,e],by lia,by lia,a⟩
  .rw[if_neg a]at h;cases h
 .rw[if_neg q]at h;by_cases a:-(n:Int)<=i
  .rw[if_pos a]at h;have e:=qi h;exact⟨by rw[seqIndex_neg aD a,e],by lia,a,by lia⟩
  .rw[if_neg a]at h;cases h
theorem BE(h:pw xs i=some v):∃j,seqIndex? i xs.length=some j/\xs[j]?=some v/\j<xs.length/\-(xs.length:Int)<=i/\i<xs.length:=by
 unfold pw at h;cases e:uw xs.length i with
 |none=>rw[e]at h;cases h
 |some j=>
  rw[e]at h;obtain⟨a,b,O,q⟩:=Uh e;exact⟨j,a,h,b,O,q⟩
def AH(b:Expr):Prop:=∀o i,subscripted b false o i=operate [o,i] (getItem o i)
def mQ(X:Cx)(r:R2):Prop:=
 ∀(value q:Expr)(aA:cB)(s:Shared)(S:St)(H:Hp)(x y:V)(v u:Value)(Q:VK),aI X aA S H s->aX x v->aX y u->r x y H Q->subscripted q false v u=operate [v,u] (getItem v u)->bU X.p X.w X.A (subscriptTail value q v u) (EP X aA S Q) X.xe s
def mS(X:Cx)(id:String)(r:V->List V->Hp->VK->Prop):Prop:=
 ∀(aA:cB)(s:Shared)(S:St)(H:Hp)(x:V)(xs:bY)(v:Value)(us:cf)(Q:VK),aI X aA S H s->aX x v->aM xs us->r x xs H Q->bU X.p X.w X.A (call (.builtin id) (v::us)) (EP X aA S Q) X.xe s
section
variable{X:Cx}{a b:Expr}{ta tb:TE}{pos:Pos}
theorem mQ.or(h:mQ X r)(h':mQ X r'):mQ X (λ x y H Q=>r x y H Q\/r' x y H Q):=by
 intro value O aA s S H x y v u Q I a Y q Z;rcases q with q|q
 .exact h value O aA s S H x y v u Q I a Y q Z
 .exact h' value O aA s S H x y v u Q I a Y q Z
theorem mS.or{id:String}(h:mS X id r)(h':mS X id Z):mS X id (λ x xs H Q=>r x xs H Q\/Z x xs H Q):=by
 intro aA s S H x xs v us Q I Y O q;rcases q with q|q
 .exact h aA s S H x xs v us Q I Y O q
 .exact h' aA s S H x xs v us Q I Y O q
theorem Sd(Z:mQ X r)(ha:PE X a ta)(Y:PE X b tb)(hs:AH b):PE X (.Subscript a b pos) (uP r ta tb):=by intro aA s S H Q I h;exact Z9 (Cr ha Y I h λ v u f x y c d e O q=>Z a b aA f S c x y v u Q d e O q (hs _ _))
def JL(K:Frag):R2:=λ x y H Q=>∃p xs i v,x=.ref p/\y=.int i/\c9 K H p xs/\pw xs i=some v/\Q v H
def JI(K:Frag):R2:=λ x y H Q=>∃p xs i v,x=.ref p/\y=.int i/\d8 K H p xs/\pw xs i=some v/\Q v H
def JK:R2:=λ x y H Q=>∃z i c,x=.str z/\y=.int i/\z.length<=sizeLine/\pw z.cps.toList i=some c/\Q (.str ⟨#[c]⟩) H
theorem ng:mQ X (JL X.K):=by
 intro value B aA s S H x y v u Q I o A h d;obtain⟨p,xs,i,z,rfl,rfl,n,m,q⟩:=h;cases o;obtain⟨t,rfl⟩:=A;obtain⟨f,r,Z,D⟩:=I.list n;obtain⟨j,a,g,C,k,l⟩:=BE m;obtain⟨w,b,e⟩:=r.get g;have hl:=r.length;have hn:=sH;have O:EP X aA S Q w s:=⟨z,H,I,e,q⟩;by_cases c:0<=i
 .have Y:i.toNat=j:=by rw[seqIndex_of c l]at a;exact qi a
  exact item_listR Z.isList c aD (by rw[Y];simpa using b) O d
 .have Y:(i+(f.toArray.size:Int)).toNat=j:=by rw[seqIndex_neg aD k]at a;rw[zk,<-hl];exact qi a
  exact subscriptTail_builtinR Z.isList.typeIs slot_list_getitem.lookup
   (wpAny_getItem_list_neg Z.isList aD (by rw[zk]<;>lia) aD (by rw[Y];simpa using b) ⟨rfl,O⟩) d
theorem pW:mQ X (JI X.K):=by
 intro value O aA s S H x y v u Q I k l h g;obtain⟨p,xs,i,z,rfl,rfl,f,e,q⟩:=h;cases k;obtain⟨t,rfl⟩:=l;obtain⟨m,r,a,B⟩:=I.tuple f;obtain⟨j,c,d,n,o,A⟩:=BE e;obtain⟨w,b,Y⟩:=r.get d;have hl:=r.length;have hn:=sH;have Z:EP X aA S Q w s:=⟨z,H,I,Y,q⟩;exact subscriptTail_builtinR a.typeIs slot_tuple_getitem.lookup
  (getItem_tuple a aD aD (by rw[zk,<-hl];exact c) (by simpa using b) ⟨rfl,Z⟩) g
theorem WR:mQ X JK:=by
 intro value O aA s S H x y v u Q I f Y h e;obtain⟨z,i,c,rfl,rfl,l,d,q⟩:=h;obtain⟨t,rfl⟩:=f;obtain⟨m,rfl⟩:=Y;obtain⟨j,a,g,k,b,Z⟩:=BE d;have hl:z.cps.toList.length=z.length:=by simp[Str.length]
 rw[hl]at a b Z;have hn:=sH;exact tail_any (Zn s z t) slot_str_getitem.lookup (getItem_str (by
grind) (by grind) ⟨.str ⟨#[c]⟩,H,I.tok _,⟨_,rfl⟩,q⟩) e
def MR(K:Frag):R2:=λ x y H Q=>JL K x y H Q\/JI K x y H Q\/JK x y H Q
theorem WS:mQ X (MR X.K):=ng.or (pW.or WR)
theorem aI.lst(I:aI X aA S H s)(h:H p=some (.l xs)):∃(q:cf)(n:Nat),aM xs q∧s.heap.get? p=some {cls:=.type "list",data:=.seq q.toArray n}∧xs.length≤sizeLine:=by
 obtain⟨z,q,n,r,e⟩:=I.hok p _ h;exact⟨q,n,r,e,z⟩
theorem OY(lo hi:eO)(n:Nat):(sliceBounds lo hi none n).1=((HT.sIx n 0 lo:Nat):Int)/\(sliceBounds lo hi none n).2.1=((HT.sIx n n hi:Nat):Int)/\(sliceBounds lo hi none n).2.2=1:=by
 refine⟨?_,?_,rfl⟩
 .cases lo with
  |none=>simp[sliceBounds,HT.sIx]
  |some i=>
   simp only[sliceBounds,HT.sIx,Option.getD_none,show(1:Int)>0 by decide,if_true];by_cases h:i<0
   .simp only[h,if_true]<;>lia
   .simp only[h,if_false]<;>lia
 .cases hi with
  |none=>simp[sliceBounds,HT.sIx]
  |some i=>
   simp only[sliceBounds,HT.sIx,Option.getD_none,show(1:Int)>0 by decide,if_true];by_cases h:i<0
   .simp only[h,if_true]<;>lia
   .simp only[h,if_false]<;>lia
theorem Ov(q:cf)(lo hi:eO):slicePick q.toArray lo hi none=((q.drop (HT.sIx q.length 0 lo)).take (HT.sIx q.length q.length hi-HT.sIx q.length 0 lo)).toArray:=by obtain⟨a,b,O⟩:=OY lo hi q.toArray.size;unfold slicePick;rw[a,b,O];simp only[sliceRange_one,pick_run,zk]<;>rfl
def VI(K:Frag):V->Option Int->Option Int->Hp->VK->Prop:=λ x lo hi H Q=>∃a xs,x=.ref a/\c9 K H a xs/\∀p,H p=none->Q (.ref p) (upd H p (.l (nW xs lo hi)))
theorem nB:nR X (VI X.K):=by intro aA s S H x v k l lo hi j Q I g c f Z h;obtain⟨a,xs,rfl,d,q⟩:=h;cases g;obtain⟨i,r,Y,e⟩:=I.list d;have O:=r.length;refine⟨"list",_,slot_list_getitem.lookup,Y.isList.typeIs,?_⟩;refine Zy Y.isList c f Z .none aQ ?_ (by grind);rw[Ov,<-O];refine⟨.ref s.heap.n,_,I.laid (λ b ob q=>qf _ q) (qj _) ?_,rfl,q _ (I.hok.fresh (qj _))⟩;exact⟨zw (FQ xs lo hi) e,_,0,(r.drop (HT.sIx xs.length 0 lo)).take (HT.sIx xs.length xs.length hi-HT.sIx xs.length 0 lo),qk _ rfl⟩
noncomputable def l6:V->Bool
 |.n=>true
 |.b _=>true
 |.int _=>true
 |.str _=>true
 |_=>false
noncomputable def m_:V->V->Bool
 |.n,.n=>true
 |.b a,.b b=>a==b
 |.b a,.int b=>(if a then 1 else 0)==b
 |.int a,.b b=>a==(if b then 1 else 0)
 |.int a,.int b=>a==b
 |.str a,.str b=>a==b
 |_,_=>false
theorem Xc{A:Around}{s:Shared}{y x:V}{u v:Value}(O:aX y u)(q:aX x v)(Z:l6 y=true)(Y:l6 x=true):SeqAt.EqAt A s u v (m_ y x):=by
 cases y with
 |n=>
  cases O;cases x with
  |n=>cases q;exact SeqAt.EqAt.same _
  |b b=>cases q;exact SeqAt.EqAt.none_bool b
  |int b=>obtain⟨t,rfl⟩:=q;exact SeqAt.EqAt.none_int b t
  |str b=>obtain⟨t,rfl⟩:=q;exact SeqAt.EqAt.none_str b t
  |_=>exact absurd (show false=true from Y) qp
 |b a=>
  cases O;cases x with
  |n=>cases q;exact SeqAt.EqAt.bool_none a
  |b b=>cases q;exact SeqAt.EqAt.bool_bool a b
  |int b=>obtain⟨t,rfl⟩:=q;exact SeqAt.EqAt.bool_int a b t
  |str b=>obtain⟨t,rfl⟩:=q;exact SeqAt.EqAt.bool_str a b t
  |_=>exact absurd (show false=true from Y) qp
 |int a=>
  obtain⟨c,rfl⟩:=O;cases x with
  |n=>cases q;exact SeqAt.EqAt.int_none a c
  |b b=>cases q;exact SeqAt.EqAt.int_bool a c b
  |int b=>obtain⟨t,rfl⟩:=q;exact SeqAt.EqAt.int_int a c b t
  |str b=>obtain⟨t,rfl⟩:=q;exact SeqAt.EqAt.int_str a c b t
  |_=>exact absurd (show false=true from Y) qp
 |str a=>
  obtain⟨c,rfl⟩:=O;cases x with
  |n=>cases q;exact SeqAt.EqAt.str_none a c
  |b b=>cases q;exact SeqAt.EqAt.str_bool a c b
  |int b=>obtain⟨t,rfl⟩:=q;exact SeqAt.EqAt.str_int a c b t
  |str b=>obtain⟨t,rfl⟩:=q;exact SeqAt.EqAt.str_str a c b t
  |_=>exact absurd (show false=true from Y) qp
 |_=>exact absurd (show false=true from Z) qp
def jD(x:V)(u:Value):Bool:=match u with
 |.none=>m_ .n x
 |.bool b=>m_ (.b b) x
 |.int i _=>m_ (.int i) x
 |.str z _=>m_ (.str z) x
 |_=>false
theorem Iz{x y:V}{u:Value}(r:aX y u)(f:l6 y=true):jD x u=m_ y x:=by
 cases y with
 |n=>cases r;rfl
 |b b=>cases r;rfl
 |int i=>obtain⟨t,rfl⟩:=r;rfl
 |str z=>obtain⟨t,rfl⟩:=r;rfl
 |_=>exact absurd (show false=true from f) qp
theorem sJ:∀{xs:bY}{us:cf},aM xs us->xs.all l6=true->us.any (jD x)=xs.any λ y=>m_ y x
 |_,_,.nil,_=>rfl
 |y::xs,u::us,.cons r t,f=>by
  rw[Qo,zm]at f;rw[Qn,Qn,Iz r f.1,sJ t f.2]
theorem uX(Y:aX x v)(O:l6 x=true):∀{xs:bY}{us:cf},aM xs us->xs.all l6=true->∀u∈us,SeqAt.EqAt A s u v (jD x u)
 |_,_,.nil,_=>λ u q=>by cases q
 |y::xs,u::us,.cons r t,f=>λ Z q=>by
  rw[Qo,zm]at f;rcases qx q with rfl|q
  .rw[Iz r f.1];exact Xc r Y f.1 O
  .exact uX Y O t f.2 Z q
def xR(x:V)(xs:bY):Bool:=xs.any λ y=>m_ y x
def uI(K:Frag)(q:Bool):R2:=λ x y H Q=>∃p xs,y=.ref p/\(c9 K H p xs\/d8 K H p xs)/\l6 x=true/\xs.all l6=true/\Q (.b (if q then !xR x xs else xR x xs)) H
theorem TU:dB X (compareOp .In) (uI X.K false):=by
 intro aA s S H x y v u Q I b d h;obtain⟨p,xs,rfl,Y,a,fs,q⟩:=h;cases d;rcases Y with Y|Y
 .obtain⟨O,r,Z,c⟩:=I.list Y;refine SeqAt.in_listAt (jD x) Z.isList (λ w hw=>uX b a r fs w (by simpa using hw)) ⟨.b _,H,I,rfl,?_⟩;rw[show O.toArray.any (jD x)=O.any (jD x) by simp,sJ r fs];exact q
 .obtain⟨O,r,Z,c⟩:=I.tuple Y;refine SeqAt.in_tupleAt (jD x) Z (λ w hw=>uX b a r fs w (by simpa using hw)) ⟨.b _,H,I,rfl,?_⟩;rw[show O.toArray.any (jD x)=O.any (jD x) by simp,sJ r fs];exact q
theorem OZ:dB X (compareOp .NotIn) (uI X.K true):=by
 intro aA s S H x y v u Q I b d h;obtain⟨p,xs,rfl,Y,a,fs,q⟩:=h;cases d;rcases Y with Y|Y
 .obtain⟨O,r,Z,c⟩:=I.list Y;refine SeqAt.notIn_listAt (jD x) Z.isList (λ w hw=>uX b a r fs w (by simpa using hw)) ⟨.b _,H,I,rfl,?_⟩;rw[show O.toArray.any (jD x)=O.any (jD x) by simp,sJ r fs];exact q
 .obtain⟨O,r,Z,c⟩:=I.tuple Y;refine SeqAt.notIn_tupleAt (jD x) Z (λ w hw=>uX b a r fs w (by simpa using hw)) ⟨.b _,H,I,rfl,?_⟩;rw[show O.toArray.any (jD x)=O.any (jD x) by simp,sJ r fs];exact q
theorem Of:dB X (compareOp .NotIn) (λ x y H Q=>∃i j,x=.str i/\y=.str j/\Q (.b (!(!(Builtin.Str.occurrences j i 0 j.length 1).isEmpty))) H):=by intro aA s S H x y v u Q I Y O h;obtain⟨i,j,rfl,rfl,q⟩:=h;obtain⟨t,rfl⟩:=Y;obtain⟨a,rfl⟩:=O;exact notIn_str ⟨.b _,H,I,rfl,q⟩
theorem g7:bV X (.builtin "len") (λ xs H Q=>∃p ys,xs=[.ref p]∧(c9 X.K H p ys∨d8 X.K H p ys)∧Q (.int ys.length) H):=by
 intro aA s S H xs us Q I r h;obtain⟨p,ys,rfl,Y,q⟩:=h;obtain⟨u,rfl,d⟩:=gr r;cases d;have hn:=sH;rcases Y with Y|Y
 .obtain⟨b,Z,a,c⟩:=I.list Y;have O:=Z.length;exact Calls.call_len_list a.isList (by grind) ⟨.int ys.length,H,I.tok _,⟨s.toks+1,by grind⟩,q⟩
 .obtain⟨b,Z,a,c⟩:=I.tuple Y;have O:=Z.length;exact len_tuple a (by grind) ⟨.int ys.length,H,I.tok _,⟨s.toks+1,by grind⟩,q⟩
theorem O5:bV X (.builtin "len") (λ xs H Q=>∃z,xs=[.str z]∧z.length≤sizeLine∧Q (.int z.length) H):=by intro aA s S H xs us Q I r h;obtain⟨z,rfl,a,q⟩:=h;obtain⟨u,rfl,t,rfl⟩:=gr r;have hn:=sH;exact len_str aD ⟨.int z.length,H,I.tok _,⟨_,rfl⟩,q⟩
theorem bV.or(h:bV X f r)(h':bV X f Y):bV X f (λ xs H Q=>r xs H Q\/Y xs H Q):=by
 intro aA s S H xs us Q I O q;rcases q with q|q
 .exact h aA s S H xs us Q I O q
 .exact h' aA s S H xs us Q I O q
theorem NZ:bV X (.type "list") (λ xs H Q=>∃p ys,xs=[.ref p]∧(c9 X.K H p ys∨d8 X.K H p ys)∧∀l,H l=none→Q (.ref l) (upd H l (.l ys))):=by
 intro aA s S H xs us Q I r h;obtain⟨p,ys,rfl,a,q⟩:=h;obtain⟨u,rfl,t⟩:=gr r;cases t;have j:∀(O:cf),aM ys O->ys.length<=sizeLine->∀(h':Heap)(Y:Nat),(∀b k,s.heap.get? b=some k->h'.get? b=some k)->h'.get? s.heap.n=some {cls:=.type "list",dict:=none,data:=.seq O.toArray Y,slots:=#[]}→EP X aA S Q (.ref s.heap.n) {s with heap:=h'}:=λ O Z c h' Y d e=>
  ⟨.ref s.heap.n,_,I.laid d (qj _) (show bO X.p X.w _ h' _ (.l ys)from⟨c,O,Y,Z,e⟩),rfl,q _ (I.hok.fresh (qj _))⟩
 rcases a with a|a
 .obtain⟨O,Z,i,c⟩:=I.list a;have m:=Z.length;obtain⟨o,g,f,n,hd⟩:=i.isList;exact call_list_seq p (.inl rfl) g f hd (λ h' Y d e=>j O Z c h' Y d e) (by grind)
 .obtain⟨O,Z,i,c⟩:=I.tuple a;have m:=Z.length;obtain⟨o,g,f,n,hd⟩:=i;exact call_list_seq p (.inr rfl) g f hd (λ h' Y d e=>j O Z c h' Y d e) (by grind)
theorem Oy:bV X (.type "tuple") (λ xs H Q=>∃p ys,xs=[.ref p]∧((c9 X.K H p ys∧∀l,H l=none→Q (.ref l) (upd H l (.t ys)))∨(d8 X.K H p ys∧Q (.ref p) H))):=by
 intro aA s S H xs us Q I r h;obtain⟨p,ys,rfl,h⟩:=h;obtain⟨u,rfl,i⟩:=gr r;cases i;rcases h with⟨a,q⟩|⟨a,q⟩
 .obtain⟨O,Y,Z,d⟩:=I.list a;have j:=Y.length;refine call_tuple_list Z.isList (λ h' g=>?_) (by grind);have c:=I.kept (t':=s.toks) g;have f:=
   c.laid (t':=s.toks) (λ b o e=>qf _ e) (qj _) (show bO X.p X.w _ _ _ (.t ys)from⟨d,O,Y,d6.new _ _⟩)
  exact⟨.ref h'.n,_,f,rfl,q _ (c.hok.fresh (qj _))⟩
 .obtain⟨O,Y,Z,d⟩:=I.tuple a;exact call_tuple_same Z ⟨.ref p,H,I,rfl,q⟩
def uR(K:Frag)(T:String)(x:V)(H:Hp):Prop:=match x with
 |.str _=>T="str"
 |.int _=>T="int"
 |.ref p=>(T="list"∧∃xs,c9 K H p xs)∨(T="tuple"∧∃o,K.lookup p=some o∧o.cls=.type "tuple"∧o.dict=none)∨
   (T="dict"∧((∃kvs,H p=some (.dK kvs))∨∃kvs,H p=some (.dT kvs)))∨(T="set"∧∃σ n,H p=some (.set σ n))
 |_=>False
theorem KU(I:aI X aA S H s)(r:aX x v)(ty:uR X.K T x H):s.TypeIs v T/\∀a,v=.ref a->∃ob,s.heap.get? a=some ob/\ob.dict=none:=by
 cases x with
 |str z=>
  obtain⟨t,rfl⟩:=r;cases(show T="str" from ty);exact⟨Zn s z t,λ _ e=>nomatch e⟩
 |int i=>
  obtain⟨t,rfl⟩:=r;cases(show T="int" from ty);exact⟨typeIs_int s i t,λ _ e=>nomatch e⟩
 |ref p=>
  cases r;rcases ty with⟨rfl,xs,f⟩|⟨rfl,o,q,d,hd⟩|⟨rfl,q⟩|⟨rfl,σ,n,q⟩
  .obtain⟨Y,_,O,_⟩:=I.list f;refine⟨O.isList.typeIs,λ a e=>?_⟩;cases e;obtain⟨o,n,e,c,hd,_⟩:=O;exact⟨o,e,hd⟩
  .refine⟨⟨o,I.kIn p o q,d⟩,λ a e=>?_⟩;cases e;exact⟨o,I.kIn _ o q,hd⟩
  .have z:∃o,s.heap.get? p=some o/\o.ExactDict:=by
    rcases q with⟨kvs,q⟩|⟨kvs,q⟩
    .obtain⟨_,_,_,_,o,_,_,e,b,_⟩:=I.hok p _ q;exact⟨o,e,b⟩
    .obtain⟨_,_,_,_,o,_,_,e,b,_⟩:=I.hok p _ q;exact⟨o,e,b⟩
   obtain⟨o,e,b⟩:=z;refine⟨⟨o,e,b.1⟩,λ a e2=>?_⟩;cases e2;exact⟨o,e,b.2.1⟩
  .obtain⟨o,_,_,_,e,b,_⟩:=I.hok p _ q;refine⟨⟨o,e,b.1⟩,λ a e2=>?_⟩;cases e2;exact⟨o,e,b.2.1⟩
 |_=>exact False.elim ty
def YF(K:Frag)(T:String)(r:V->List V->Hp->VK->Prop)(to:TE):TE:=λ S H Q=>to S H λ x H1=>uR K T x H1/\r x [] H1 Q
def tBM(K:Frag)(T:String)(r:V->List V->Hp->VK->Prop)(to:TE)(t:TA):TE:=λ S H Q=>to S H λ x H1=>uR K T x H1/\t S H1 λ xs H2=>r x xs H2 Q
variable{T id:String}
theorem cj3(pa:PlainAttrs T)(slot:Slot T name id)(Z:typeOf (.builtin id)=pure (.type "method_descriptor"))(hm:mS X id r)(ho:PE X o to)(q:lG X o name)(O:(apos.endLine==cpos.line)=true):PE X (.Call (.Attribute o name apos) [] [] cpos) (YF X.K T r to):=by
 intro aA s S H Q I h;refine wpAny_Call_method0_late q O (bQ (ho aA s S H _ I h) λ v g Y=>?_);obtain⟨x,c,a,b,ty,f⟩:=Y;obtain⟨d,e⟩:=KU a b ty;exact⟨T,id,pa,slot,Z,d,e,Q2 rfl (PySem.evalArgs_none (hm aA g S c x [] v [] Q a b .nil f))⟩
theorem pE(pa:PlainAttrs T)(slot:Slot T name id)(ac:typeOf (.builtin id)=pure (.type "method_descriptor"))(hm:mS X id r)(ho:PE X o to)(ha:PA X (e::es) t)(Y:lG X o name)(aa:oz X cpos (e::es))(O:(apos.endLine==cpos.line)=true)(hs:kv X e es)(q:lH X cpos es):PE X (.Call (.Attribute o name apos) (e::es) [] cpos) (tBM X.K T r to t):=by
 intro aA s S H Q I h;refine wpAny_Call_method_late Y aa O rfl (bQ (ho aA s S H _ I h) λ v n Z=>?_);obtain⟨x,d,a,c,ty,k⟩:=Z;obtain⟨i,j⟩:=KU a c ty;refine⟨T,id,pa,slot,ac,i,j,?_⟩;have b:=ha cpos aA n S d _ a k;rw[hs]at b⊢;refine Q2 (by show(false||(backTo cpos (starEach es X.v)).any (·.1))=false;rw[q]<;>rfl) (Ym ?_);exact bQ b λ us p=>dD λ vs f g m l=>hm aA p S f x vs v us Q g c m l
end
def vk(X:Cx)(id:String)(r:V->List V->Hp->VK->Prop):Prop:=
 ∀(aA:cB)(s:Shared)(S:St)(H:Hp)(x:V)(xs:bY)(v:Value)(us:cf)(Q:VK),aI X aA S H s->aX x v->aM xs us->r x xs H Q->bU X.p X.w X.A (call (.builtin id) (v::us)) (EP X aA S Q) X.xe s
theorem aM.one:∀{x:V}{us:cf},aM [x] us->∃u,us=[u]/\aX x u
 |_,_,h=>by
  cases h with
  |cons r t=>cases t;exact⟨_,rfl,r⟩
theorem aM.two:∀{x y:V}{us:cf},aM [x,y] us->∃u v,us=[u,v]/\aX x u/\aX y v
 |_,_,_,h=>by
  cases h with
  |cons r t=>
   cases t with
   |cons q z=>cases z;grind
theorem aM.zero:∀{us:cf},aM [] us->us=[]
 |_,.nil=>rfl
theorem aM.dropLast{xs:bY}{us:cf}(h:aM xs us):aM xs.dropLast us.dropLast:=by
 induction h with
 |nil=>exact .nil
 |cons r t O=>
  cases t with
  |nil=>exact .nil
  |cons q a=>exact .cons r O
theorem aM.eraseIdx:∀{xs:bY}{us:cf}(i:Nat),aM xs us->aM (xs.eraseIdx i) (us.eraseIdx i)
 |_,_,_,.nil=>.nil
 |_,_,0,.cons _ t=>t
 |_,_,i+1,.cons r t=>.cons r (aM.eraseIdx i t)
theorem aM.reverse{xs:bY}{us:cf}(h:aM xs us):aM xs.reverse us.reverse:=by
 induction h with
 |nil=>exact .nil
 |cons r t q=>rw[Zw,Zw];exact aM.append q (.cons r .nil)
theorem aM.rep{xs:bY}{us:cf}(h:aM xs us):∀k:Nat,aM (List.replicate k xs).flatten (List.replicate k us).flatten
 |0=>.nil
 |k+1=>by
  rw[jh,jh,j4,j4];exact aM.append h (aM.rep h k)
theorem SK{α:Type}(l:List α):l.eraseIdx (l.length-1)=l.dropLast:=by
 induction l with
 |nil=>rfl
 |cons a r q=>
  cases r with
  |nil=>rfl
  |cons b r=>
   have e:(a::b::r).length-1=((b::r).length-1)+1:=by have c:(a::b::r).length=r.length+2:=rfl;have d:(b::r).length=r.length+1:=rfl;lia
   rw[e,List.eraseIdx_cons_succ,q]
   all_goals rfl
theorem GK(q:cf):∀(k:Nat)(O:cf),List.foldl (λ Y x2=>Y++x2) O.toArray (List.replicate k q.toArray)=(O++(List.replicate k q).flatten).toArray
 |0,O=>by simp
 |k+1,O=>by
  have e:O.toArray++q.toArray=(O++q).toArray:=aQ;have e2:(O++q)++(List.replicate k q).flatten=O++(List.replicate (k+1) q).flatten:=by rw[jh,j4,Qy]
  rw[<-e2,<-GK q k (O++q),<-e,jh,List.foldl_cons]
section
variable{X:Cx}{aA:cB}{S:St}{H:Hp}{s:Shared}{l b:Addr}{xs ys zs:bY}
theorem aI.lset{O its':cf}(I:aI X aA S H s)(hH:H l=some (.l xs))(e:s.heap.get? l=some {cls:=.type "list",data:=.seq O.toArray n})(Y:f O.toArray=its'.toArray)(hv:aM ys its')(hz:ys.length≤sizeLine):aI X aA S (upd H l (.l ys)) {s with heap:=s.heap.update l (Obj.mapSeq f),toks:=t'}:=by
 have q:=PySem.IsL.update e f;rw[Y]at q;refine I.write (by rw[hH];exact trivial) (.inl rfl) (λ b u Z a=>(jg s.heap (Obj.mapSeq f) (jc Z)).trans a) ⟨_,q⟩ ?_;exact⟨hz,its',_,hv,q⟩
theorem aI.lnew(I:aI X aA S H s)(Y:aM ys O)(hz:ys.length<=sizeLine):aI X aA S (upd H s.heap.n (.l ys)) {s with heap:=s.heap.push {cls:=.type "list",data:=.seq O.toArray},toks:=t'}:=
 I.laid (λ _ _ q=>qf _ q) (qj _) ⟨hz,O,0,Y,qk _ rfl⟩
theorem aI.fresh(I:aI X aA S H s):H s.heap.n=none:=I.hok.fresh (qj _)
theorem aI.lstM(I:aI X aA S H s)(O:H l=some (.l xs)):xs.length≤sizeLine∧∃(q:cf)(n:Nat),aM xs q∧xs.length=q.length∧s.heap.get? l=some {cls:=.type "list",data:=.seq q.toArray n}:=by obtain⟨z,q,n,r,e⟩:=I.hok l _ O;exact⟨z,q,n,r,r.length,e⟩
theorem Bg(h:n<=sizeLine):Builtin.List.listTooLong n=false:=by exact zn aD
end
def RH:V->List V->Hp->VK->Prop:=λ x vs H Q=>∃l xs y,x=.ref l/\vs=[y]/\H l=some (.l xs)/\xs.length<sizeLine/\Q .n (upd H l (.l (xs++[y])))
theorem TY:vk X "list.append" RH:=by intro aA s S H x vs v us Q I b a h;obtain⟨l,xs,y,rfl,rfl,Y,c,q⟩:=h;cases b;obtain⟨u,rfl,Z⟩:=a.one;obtain⟨z,O,n,r,hl,e⟩:=I.lstM Y;refine Qd F.slot_list_append ⟨_,e,rfl⟩ F.entry_list_append (F.args_list_append_2 _ _) (PySem.list_append l O.toArray n u (by rw[zk];lia)) ⟨e,?_⟩;refine⟨.n,_,I.lset Y e aQ (r.append (.cons Z .nil)) ?_,rfl,q⟩;rw[zr,Q7];lia
def Xd:V->List V->Hp->VK->Prop:=λ x vs H Q=>∃l b xs zs,x=.ref l/\vs=[.ref b]/\H l=some (.l xs)/\H b=some (.l zs)/\xs.length+zs.length<=sizeLine/\Q .n (upd H l (.l (xs++zs)))
theorem O_:vk X "list.extend" Xd:=by
 intro aA s S H x vs v us Q I k j h;obtain⟨l,b,xs,zs,rfl,rfl,c,d,o,q⟩:=h;cases k;obtain⟨u,rfl,i⟩:=j.one;cases i;obtain⟨z,Y,n,r,hl,e⟩:=I.lstM c;obtain⟨p,O,f,g,m,e2⟩:=I.lstM d;have a:Y.toArray.size+O.toArray.size<=sizeLine:=by rw[zk,zk];lia
 have Z:¬(!Y.toArray.isEmpty&&Builtin.List.listTooLong (Y.toArray.size+O.toArray.size))=true:=by rw[Bg a,Q5];exact qp
 refine Qd F.slot_list_extend ⟨_,e,rfl⟩ F.entry_list_extend (F.args_list_extend_2 _ _)
  (AutoSeq1.list_extend_list_list_0 l Y.toArray n b O.toArray f Z (by rw[zk];lia) aD) ⟨e,e2,?_⟩
 refine⟨.n,_,I.lset (its':=Y++O) c e aQ (r.append g) ?_,rfl,q⟩;rw[zr];lia
def YJ:V->List V->Hp->VK->Prop:=λ x vs H Q=>∃l xs y,x=.ref l/\vs=[]/\H l=some (.l xs)/\xs[xs.length-1]?=some y/\Q y (upd H l (.l xs.dropLast))
theorem cl1:vk X "list.pop" YJ:=by
 intro aA s S H x vs v us Q I g f h;obtain⟨l,xs,y,rfl,rfl,a,c,q⟩:=h;cases g;have Y:=f.zero;subst Y;obtain⟨z,O,n,r,hl,e⟩:=I.lstM a;obtain⟨u,b,d⟩:=r.get c;have Z:O.toArray[O.toArray.size-1]?=some u:=by show O.toArray[O.length-1]?=some u;rw[<-Yh,<-hl];exact b
 refine Qd F.slot_list_pop ⟨_,e,rfl⟩ F.entry_list_pop (F.args_list_pop_1 _) (MeetsSeq.list_pop_last l O.toArray n u Z (by rw[zk];lia)) ⟨e,?_⟩;refine⟨y,_,I.lset (its':=O.dropLast) a e ?_ r.dropLast ?_,d,q⟩
 .show O.toArray.eraseIdxIfInBounds (O.toArray.size-1)=O.dropLast.toArray;rw[zk,List.eraseIdxIfInBounds_toArray,SK]
 .rw[List.length_dropLast]
  lia
def YI:R2:=λ x y H Q=>∃l k xs,x=.ref l/\y=.int k/\H l=some (.l xs)/\-(2^63)<=k/\k<2^63/\xs.length*k.toNat<=sizeLine/\∀p,H p=none->Q (.ref p) (upd H p (.l (List.replicate k.toNat xs).flatten))
theorem XH{α:Type}(xs:List α)(k:Nat):(List.replicate k xs).flatten.length=k*xs.length:=by
 induction k with
 |zero=>simp
 |succ k q=>rw[jh,j4,zr,q,Nat.succ_mul,Nat.add_comm]
theorem cj4:dB X (binaryOp .Mult) YI:=by
 intro aA s S H x y v u Q I p w h;obtain⟨l,k,xs,rfl,rfl,o,i,j,c,q⟩:=h;cases p;obtain⟨t,rfl⟩:=w;obtain⟨z,O,n,r,hl,e⟩:=I.lstM o;have f:O.toArray.size*k.toNat<=sizeLine:=by rw[zk,<-hl];exact c
 have Z:¬O.toArray.size*k.toNat>(2^63-1)/8:=by
  have:(sizeLine:Nat)<=(2^63-1)/8:=aH
  lia
 have g:¬(!Builtin.List.listFitsIndex k)=true:=by rw[fitsIndex_both i j];exact qp
 have Y:¬Builtin.List.listTooLong (O.toArray.size*k.toNat)=true:=by rw[Bg f];exact qp
 have d:List.foldl (λ b x2=>b++x2) #[] (List.replicate (if O.toArray.isEmpty=true then 0 else k.toNat) O.toArray)=(List.replicate k.toNat O).flatten.toArray:=by
  have f0:∀m:Nat,List.foldl (λ b x2=>b++x2) #[] (List.replicate m O.toArray)=(List.replicate m O).flatten.toArray:=λ m=>by
   have:=GK O m [];rw[List.nil_append]at this;exact this
  rw[f0];cases O with
  |nil=>simp
  |cons a A=>rw[if_neg aQ]
 refine wpAny_binaryOp_repeat_ref (T:="list") (U:="int") aH ⟨_,e,rfl⟩ (λ s'=>typeIs_int s' k t) noFill_list_mul F.fills_int_mul F.slot_int_rmul repeat_list F.slot_int_index.lookup
  (Qd F.slot_int_rmul (typeIs_int s k t) F.entry_int_rmul (F.args_int_rmul_2 _ _) (int___rmul___int_list k t l O.toArray n)
   ⟨e,rfl,⟨_,e,rfl⟩,Qd F.slot_list_mul ⟨_,e,rfl⟩ F.entry_list_mul (F.args_list_mul_2 _ _) (AutoListH.list___mul___list_int_3 l O.toArray n k t g Z Y) ⟨e,?_⟩⟩)
 rw[d];exact⟨.ref _,_,I.lnew (t':=s.toks) (r.rep k.toNat) (by rw[XH,Nat.mul_comm];exact c),rfl,q _ I.fresh⟩
end L2
namespace Att
open PySem PySem.W PySem.Calls PyProof.Rows
noncomputable abbrev _root_.eB:=List Int
theorem N9:∀(q:eB)(vs:cf),WellAll P h vs (q.map WData.int)->IntsAre vs q:=by
 intro q;induction q with
 |nil=>
  intro vs w;rw[Qk]at w;cases w;exact .nil
 |cons n q O=>
  intro vs w;rw[zj]at w;cases w with
  |cons a b=>
   cases a;exact .cons _ _ (O _ b)
theorem Ts{l:OpenLaw}(hn:l.most=some n)(Y:l.row.toRowW.claim.pre args=true)(af:WellAll P h Z args):∃a vs O,Z=[Value.ref a]∧args=[WData.list (O.map WData.int)]∧h.get? a=some {cls:=.type "list",data:=.seq vs.toArray}∧IntsAre vs O∧O.length≤n:=by
 have g:=(pre_splitW Y).1;have m:l.pre.holds [] {args:=args}=true:=(pre_splitW Y).2;obtain⟨d,r,rfl,i,j⟩:=hasAllW_cons g;obtain rfl:=hasAllW_nil j;obtain⟨xs,rfl,k⟩:=hasW_list i;obtain⟨O,rfl⟩:=items_int k;have e:O.length<=n:=by
  have b:(WTm.not (.lt (.lit (.int (n:Int))) (.len (.arg 0)))).holds [] {args:=[.list (O.map .int)]}=true:=by have b:=(holds_andW m).1;rw[hn]at b;exact b
  have c:=condW_of b (w_not (w_lt w_lit (w_len_list (w_arg rfl))));rw[qz]at c;refine Z6 λ q=>?_;have p:(n:Int)<((O.length:Nat):Int):=aD
  first
   |(rw[zl p]at c;exact absurd c aH)
   |(simp at c;lia)
 cases af with
 |cons s t=>
  cases t;cases s with
  |list o f=>exact⟨_,_,O,rfl,rfl,o,N9 O _ f,e⟩
theorem TH(l:OpenLaw)(args:List WData):l.row.toRowW.claim.post args (.bool true) args=true:=
 postW_of
  (show WShape.has [] (.bool true) .bool=true by first|rfl|decide|simp[WShape.has,WShape.arms,WShape.armsAll])
  (show(WTm.eq .res (.lit (.bool true))).value [] {args:=args,res:=some (.bool true),after:=args}=some (.bool (true==true))from w_eq_bool (w_res rfl) w_lit) rfl
theorem attach_call{l:OpenLaw}(hn:l.most=some n)(ah:d.params.defaults=[])(call:∀(w:World)(s₀ O:Shared)(mg mb:Str->Option Value)(fa:Addr)(o:Obj)(pm cd ac:Value)(a:Addr)(vs:cf)(ns:eB),Ground q Z [] XP w s₀ mg mb O.heap->YP w O.heap->O.heap.get? fa=some o->o.data=.func (docDef d.name d.params d.body d.scope pm cd ac)->O.heap.CodeRec cd d.name->mg d.name=some (.ref fa)->O.heap.get? a=some {cls:=.type "list",data:=.seq vs.toArray}→IntsAre vs ns→ns.length≤n→O.gens=#[]→codeAny (model l.prog w) callerA (.call (.ref fa) ⟨[.ref a],[]⟩) (λ r s'=>r=.ok (.ret (.bool true))/\OldK O.heap s'.heap/\s'.os=O.os/\AllBare s'.gens) O):WalkO q Z XP YP l.row.toRowW d [] (λ f vs=>PySem.call f vs):=by
 intro w s₀ O mg mb G Y fa o pm cd ac m kV x hd j b k u args z D e A C i B;obtain rfl:m=.none:=Dflts.none b ah;obtain rfl:kV=.none:=Dflts.noKw b;obtain⟨a,vs,ns,rfl,rfl,g,c,h⟩:=Ts hn e i;refine enter_call (Qj (call w s₀ O mg mb fa o pm cd ac a vs ns G Y x (fd_plain hd) j k g c h u) λ r s' y=>?_);obtain⟨rfl,p,s,t⟩:=y;exact⟨.inl ⟨.bool true,.bool true,[],rfl,λ _=>rfl,.bool true,TH l _,λ _=>⟨List.Pairwise.nil,λ _ v=>(nomatch v)⟩⟩,p,s,t⟩
section
variable{prog:Program}{w:World}{A:Around}{E:dw}{s:Shared}{K:Frag}
noncomputable def Cc(h:Heap):Heap:={h with objs:=#[]}
theorem SF(h:Heap)(b:Addr):(Cc h).get? b=none:=by
 cases e:(Cc h).get? b with
 |none=>rfl
 |some o=>exact absurd (qm e) (Nat.not_lt_zero _)
theorem eu{h:Heap}{L:Addr}{m:Str->Option Value}(n:h.Ns L m):Fr (Cc h) L h m:=
 ⟨n,λ b o e=>(by rw[SF]at e;cases e),yg _⟩
end
end Att
namespace L2
open PySem PySem.Spec PyProof.Rows
theorem eZ:∀{vs:cf}{q:eB},IntsAre vs q->aM (q.map V.int) vs
 |_,_,.nil=>.nil
 |_,_,.cons n t h=>.cons ⟨t,rfl⟩ (eZ h)
def Cv(H:Hp):Prop:=∀b,H b=none\/∃o xs,H b=some (.frz o (.l xs))
theorem P4{K:Frag}(KX:K.In O.heap)(ai:O.heap.Ns mainGlobals mg)(Z:O.heap.Ns builtinsNs mb)(an:∀x:Str,x≠"__name__"→mb x=bootBuiltins x)(ah:O.heap.NoLimit)(hg:O.gens=#[])(ha:O.heap.get? a=some {cls:=.type "list",data:=.seq vs.toArray})(hi:IntsAre vs ns)(hl:ns.length≤sizeLine)(hr:cm k callerA)(F:∀base:Heap,K.In base->base.Ns mainGlobals mg->da P w K mg base CX k fa fd [x] sp)(ae:∀(s:Shared)(u:Value),BindsTo s fd ⟨[u],[]⟩ [(x,u)])(ap:∀H:Hp,Cv H->c9 K H a (ns.map V.int)->sp [.ref a] H (λ v _=>v=.b true) λ _ _ _=>False)(am:∀H e s',CX [] H O (λ _ _ _=>False) e s'->False):codeAny (model P w) callerA (.call (.ref fa) ⟨[.ref a],[]⟩) (λ r s'=>r=.ok (.ret (.bool true))/\OldK O.heap s'.heap/\s'.os=O.os/\AllBare s'.gens) O:=by
 have M:=eZ hi;have R:=hi.length;have i:∀H:Hp,Cv H->c9 K H a (ns.map V.int)->ef P w H O.heap->(∀b,H b≠none->b=a)->(H a≠none->K.lookup a=none)->codeAny (model P w) callerA (.call (.ref fa) ⟨[.ref a],[]⟩) (λ r s'=>r=.ok (.ret (.bool true))/\OldK O.heap s'.heap/\s'.os=O.os/\AllBare s'.gens) O:=by
  intro H p I l E σ;have Y:∀{b:Addr}{o:Obj},O.heap.get? b=some o->H b=none->(nX O.heap H).get? b=some o:=λ e n=>P6 e n;have A:∀{b:Addr}{o:Obj}{es:Array DictEntry}{f:Nat},O.heap.get? b=some o->o.data=.dict es f->H b=none:=λ{b o es f}e d=>by
   cases q:H b with
   |none=>rfl
   |some u=>
    have C:=E b (by rw[q];simp);subst C;rw[ha]at e;cases e;have B:=d;cases B
  have c:∀{b:Addr}{m:Str->Option Value},O.heap.Ns b m->(nX O.heap H).Ns b m:=λ{b m}⟨o,es,f,e,d,r⟩=>⟨o,es,f,Y e (A e d),d,r⟩
  have j:=λ b o e=>Y (KX b o e) (by
grind)
  have G:Mod K mg (nX O.heap H):=⟨j,c ai,⟨mb,c Z,an⟩,let ⟨mc,h1,h2⟩:=ah;⟨mc,c h1,h2⟩⟩;have e0:gw P w K mg (nX O.heap H) callerA [] O H:=⟨rfl,G,λ b o e=>VP e,Y3 (O8 _ _),trivial,λ b Z=>absurd (show b∈([]:fB)from Z) aQ,l,.of_eq hg⟩;refine Qj ((F _ j (c ai)).run callerA [] O H ⟨[.ref a],[]⟩ [.ref a] [.ref a] _ _ hr e0 (ae O (.ref a)) (.cons rfl .nil) (ap H p I)) λ r s' h=>?_;cases r with
  |error e=>exact(am H e s' h).elim
  |ok D=>
   cases D with
   |next=>exact False.elim h
   |brk=>exact False.elim h
   |cont=>exact False.elim h
   |ret u=>
    obtain⟨v,H',os,t,un,y,L,q⟩:=h;have ρ:=q;subst ρ;obtain rfl:u=Value.bool true:=L;refine⟨rfl,OldK.of_keep λ b o e=>?_,os,t⟩;cases q:H b with
    |none=>exact un.keep b o e q (by intro z;exact absurd (show b∈([]:fB)from z) aQ) aQ
    |some u=>
     rcases p b with z|⟨ob,xs,z⟩
     .rw[q]at z;cases z
     .have Q:=un.frzs b ob _ z;obtain⟨e1,_⟩:=l b _ z;obtain⟨e2,_⟩:=y b _ Q;grind
 cases g:K.lookup a with
 |some o=>
  have e:=KX a o g;rw[ha]at e;cases e;refine i (λ _=>none) (λ _=>.inl rfl) (.inr ⟨_,vs.toArray,_,g,rfl,rfl,rfl,by grind⟩) (λ b u z=>by grind) (λ b z=>absurd rfl z) λ z=>absurd rfl z
 |none=>
  refine i (λ b=>if b=a then some (.frz {cls:=.type "list",data:=.seq vs.toArray} (.l (ns.map V.int)))else none) (λ b=>?_) (.inl (.inr ⟨{cls:=.type "list",data:=.seq vs.toArray},if_pos rfl⟩)) (λ b u z=>?_) (λ b z=>?_) λ _=>g
  .grind
  .by_cases Z:b=a
   .have N:=(if_pos Z).symm.trans z;cases N;subst Z;exact⟨ha,by rw[qz];exact hl,vs,_,M,ha⟩
   .grind
  .grind
theorem walk_of{l:OpenLaw}{K:Params->Frag}{CX:World->nP}{sp:World->Sp}(hn:l.most=some n)(ag:n<=sizeLine)(af:d.params.defaults=[])(hr:cm k callerA)(hY:∀(w:World)(h:Heap),YP w h->(K w.params).In h)(F:∀(w:World)(mg:Str->Option Value)(fa:Addr)(h:Heap),(K w.params).In h->h.Ns mainGlobals mg->mg d.name=some (.ref fa)->∃fd:FuncData,(∀(s:Shared)(u:Value),BindsTo s fd ⟨[u],[]⟩ [(x,u)])/\∀base:Heap,(K w.params).In base->base.Ns mainGlobals mg->da l.prog w (K w.params) mg base (CX w) k fa fd [x] (sp w))(ai:∀(w:World)(H:Hp)(a:Addr)(ns:eB),ns.length<=n->Cv H->c9 (K w.params) H a (ns.map V.int)->sp w [.ref a] H (λ v _=>v=.b true) λ _ _ _=>False)(ah:∀(w:World)(H:Hp)(s:Shared)(e:Value)(s':Shared),CX w [] H s (λ _ _ _=>False) e s'->False):PySem.W.WalkO q Z XP YP l.row.toRowW d [] (λ f vs=>PySem.call f vs):=by
 refine Att.attach_call hn af λ w i p mg ρ fa o L E D a vs ns G Y I hd C r m j O B=>?_;have c:=hY w _ Y;obtain⟨fd,A,t⟩:=F w mg fa _ c G.T.g r;exact P4 c G.T.g G.T.b G.T.builtins G.T.nolimit B m j (zw O ag) hr t A (λ H y z=>ai w H a ns O y z) λ H e s'=>ah w H p e s'
noncomputable def oP(s:Stmt):Arguments:=match s with
 |.FunctionDef _ a _ _ _ _ _ _ _ _=>a
 |_=>{posonlyargs:=[],args:=[],vararg:=none,kwonlyargs:=[],kw_defaults:=[],kwarg:=none,defaults:=[]}
def iG(s:Stmt):iF:=match s with
 |.FunctionDef _ _ b _ _ _ _ _ _ _=>b
 |_=>[]
noncomputable def b_(s:Stmt):Scope:=match s with
 |.FunctionDef _ _ _ _ _ _ sc _ _ _=>sc
 |_=>{kind:=.function,names:=[],isGenerator:=false,isCoroutine:=false}
abbrev i7:nP:=λ _ _ _ _ _ _=>False
abbrev E0:XK:=λ _ _ _=>False
theorem Ia:wu i7 X E0:=λ _ _ _ _ _ _ _ h=>h.elim
noncomputable abbrev _root_.jW:=Option Addr
structure kb(K:Frag)(x qual:Str)(st:Stmt)(f:Addr)(fd:FuncData):Prop where
 ex:∃(oc:Value)(od:jW)(kV doc pm:Value)(an:jW)(cdv ct:Value)(osl:Array (Option Value)),fd=fnOf x qual (oP st) (iG st) (b_ st) .none kV doc pm an cdv ct/\K.lookup f=some ⟨oc,od,.func fd,osl⟩/\codeIn K cdv qual=true
 kp:keepIn K (.ref f)=true
section
variable{K:Frag}
theorem kb.ok{st:Stmt}(F:kb K x qual st f fd)(σ:aJ N ps (b_ st))(Z:∀vs H Q E,sp vs H Q E->vs.length=ps.length)(Y:∀(O:Value)(A:Around)(outer:hO)(s:Shared)(H:Hp)(vs:bY)(Q:VK)(E:XK),cm k (A.deeper (envOfC qual (b_ st) s.heap.n f O))->sp vs H Q E->∃t,eE (ig i7 P w K mg base N qual (b_ st) f O A outer s H E).nox (iG st) t/\t {nx:=λ _ H'=>Q .n H',rt:=Q} (start N vs) H):da P w K mg base i7 (k+1) f fd ps sp:=by
 obtain⟨j,l,kV,e,m,g,O,i,d,rfl,lk,a⟩:=F.ex;refine CG lk a σ Z λ A outer s H vs Q E c b=>?_;obtain⟨t,h,q⟩:=Y O A outer s H vs Q E c b;exact⟨t,h.nox,q⟩
theorem kb.binds{st:Stmt}(F:kb K x qual st f fd)(h:∀(kV O Y:Value)(Z:jW)(q ct:Value)(us:cf),us.length=ps.length->bindArgs (fnOf x qual (oP st) (iG st) (b_ st) .none kV O Y Z q ct) ⟨us,[]⟩=pure (ps.zip us)):dS K fd ps []:=by
 obtain⟨c,d,kV,O,Y,Z,q,ct,a,rfl,lk,b⟩:=F.ex;exact .all (h kV O Y Z q ct)
theorem Dq{st:Stmt}{kV O Z q ct:Value}(l:K.lookup f=some ⟨oc,od,.func (fnOf x qual (oP st) (iG st) (b_ st) .none kV O Z an q ct),Y⟩)(c:codeIn K q qual=true)(k:keepIn K (.ref f)=true):kb K x qual st f (fnOf x qual (oP st) (iG st) (b_ st) .none kV O Z an q ct):=⟨⟨oc,od,kV,O,Z,an,q,ct,Y,rfl,l,c⟩,k⟩
end
theorem lQ(q:cm k A):A.units+1<cLine:=Nat.lt_of_le_of_lt (Nat.add_le_add_left (by decide:1<=64) _) q.units
theorem zS(h:n<=1000):n<sizeLine:=Nat.lt_of_le_of_lt h aH
theorem pv(i:Nat)(Y:X.N[i]?=some x:=by rfl)(O:jR X.v.scope x:=by exact nE)(hd:dJ x:=by decide)(q:jZ x:=by decide):PE X (.Name x pos) (JF i):=lI Y O hd q
theorem YX{A B:Prop}(h:B):if false=true then A else B:=by rw[if_neg yf];exact h
theorem ZI{A B:Prop}(h:A):if true=true then A else B:=by rw[if_pos rfl];exact h
def aE(H H':Hp):Prop:=∀b o,H b=some o->H' b=some o
theorem aE.refl(H:Hp):aE H H:=λ _ _ h=>h
theorem aE.trans(a:aE H H1)(b:aE H1 H2):aE H H2:=λ c o h=>b c o (a c o h)
theorem aE.free(e:aE H H')(h:H' l=Option.none):H l=Option.none:=by
 cases q:H l with
 |none=>rfl
 |some o=>
  rw[e l o q]at h;cases h
theorem aE.seq{K:Frag}(e:aE H H')(h:c9 K H a xs):c9 K H' a xs:=by
 rcases h with(h|⟨o,h⟩)|h
 .exact .inl (.inl (e _ _ h))
 .exact .inl (.inr ⟨o,e _ _ h⟩)
 .exact .inr h
section
variable[DecidableEq κ]
noncomputable def ia(kvs:List (κ×V))(k:κ):Option V:=(kvs.find? λ q=>decide (q.1=k)).map (·.2)
noncomputable def iw(kvs:List (κ×V))(k:κ)(v:V):List (κ×V):=
 if(kvs.any λ q=>decide (q.1=k))=true then kvs.map (λ q=>if q.1=k then(q.1,v)else q)else kvs++[(k,v)]
theorem zN{k:κ}(e:p.1=k):ia (p::r) k=some p.2:=by simp[ia,e]
theorem uT{k:κ}(e:¬p.1=k):ia (p::r) k=ia r k:=by simp[ia,e]
theorem yQ(k:κ):∀kvs:List (κ×V),(kvs.any λ q=>decide (q.1=k))=(ia kvs k).isSome
 |[]=>rfl
 |p::r=>by
  rw[Qn];by_cases e:p.1=k
  .simp only[zN e,zl e,Bool.true_or,Option.isSome_some]
  .rw[uT e,zn e,Bool.false_or];exact yQ k r
theorem Ng(kvs:List (κ×V))(k:κ)(v:V):(iw kvs k v).length<=kvs.length+1:=by grind[iw]
theorem PH{k:κ}(v:V)(h:ia kvs k=none):iw kvs k v=kvs++[(k,v)]:=by grind[iw,yQ]
theorem d7.isSome_eq(r:d7 o u):o.isSome=u.isSome:=by
 cases o with
 |none=>cases u with
  |none=>rfl
  |some _=>exact(show False from r).elim
 |some _=>cases u with
  |none=>exact(show False from r).elim
  |some _=>rfl
theorem d7.getD(r:d7 o u)(rd:aX d d'):aX (o.getD d) (u.getD d'):=by
 cases o with
 |none=>cases u with
  |none=>exact rd
  |some _=>exact(show False from r).elim
 |some _=>cases u with
  |none=>exact(show False from r).elim
  |some _=>exact r
theorem KV.val(r:KV kvs vs)(k:κ):d7 (ia kvs k) (valueAt vs k):=by
 induction r with
 |nil=>exact Zb
 |@cons p q ps Y h t Z=>
  obtain⟨a,c⟩:=h;by_cases e:p.1=k
  .have O:=a.symm.trans e;have b:valueAt (q::Y) k=some q.2:=by simp[valueAt,O]
   rw[zN e,b];exact c
  .have O:¬q.1=k:=λ z=>e (a.trans z);have b:valueAt (q::Y) k=valueAt Y k:=by simp[valueAt,O]
   rw[uT e,b];exact Z
theorem KV.any(r:KV kvs vs)(k:κ):(kvs.any λ q=>decide (q.1=k))=vs.any λ q=>decide (q.1=k):=by
 induction r with
 |nil=>rfl
 |cons h t O=>rw[Qn,Qn,O,h.1]
theorem KV.repl(r:KV kvs vs)(k:κ)(Y:aX y u):KV (kvs.map λ O=>if O.1=k then(O.1,y)else O) (vs.map λ O=>if O.1=k then(O.1,u)else O):=by
 induction r with
 |nil=>exact .nil
 |@cons p q ps a h t Z=>
  rw[zj,zj];refine .cons ?_ Z;grind
theorem KV.put(r:KV kvs vs)(k:κ)(q:aX y u):KV (iw kvs k y) (stored vs k u):=by
 unfold iw stored;rw[r.any k];by_cases e:(vs.any λ O=>decide (O.1=k))=true
 .rw[if_pos e,if_pos e];exact r.repl k q
 .rw[if_neg e,if_neg e];exact Paired.snoc r ⟨rfl,q⟩
theorem KV.length(r:KV kvs vs):kvs.length=vs.length:=Yu r
end
theorem pq(r:aX (kV k) u):(gk P w).is k u=true:=by
 cases k with
 |inl i=>obtain⟨t,e⟩:=(show ∃t,u=Value.int i t from r);subst e;exact Sf P w i t
 |inr x=>obtain⟨t,e⟩:=(show ∃t,u=Value.str x t from r);subst e;exact BA P w x t
theorem Hb:∀{ks:jX}{us:cf},aM (ks.map kV) us->ItemsAre (gk P w) ks us
 |[],_,r=>by rw[Qk]at r;cases r;exact .nil
 |k::ks,_,r=>by
  rw[zj]at r;cases r with
  |cons h t=>exact .cons (pq h) (Hb t)
abbrev KT(H:Hp):List (jX×V)->List (jX×Addr×Value)->Prop:=Paired λ p q=>p.1=q.1/\H q.2.1=some (.t (p.1.map kV))/\aX p.2 q.2.2
theorem KT.val(r:KT H kvs xs)(k:jX):d7 (ia kvs k) ((atKey xs k).map (·.2)):=by
 induction r with
 |nil=>exact Zb
 |@cons p q ps Y h t Z=>
  obtain⟨a,_,c⟩:=h;by_cases e:p.1=k
  .have O:=a.symm.trans e;have b:atKey (q::Y) k=some q.2:=by simp[atKey,O]
   rw[zN e,b];exact c
  .have O:¬q.1=k:=λ z=>e (a.trans z);have b:atKey (q::Y) k=atKey Y k:=by simp[atKey,O]
   rw[uT e,b];exact Z
theorem KT.repl(r:KT H kvs xs)(k:jX)(Y:aX y u):KT H (kvs.map λ O=>if O.1=k then(O.1,y)else O) (xs.map (putAt k u)):=by
 induction r with
 |nil=>exact .nil
 |@cons p q ps d h t c=>
  rw[zj,zj];refine .cons ?_ c;obtain⟨a,b,Z⟩:=h;unfold putAt;by_cases e:p.1=k
  .rw[if_pos e,if_pos (a.symm.trans e)];exact⟨a,b,Y⟩
  .rw[if_neg e,if_neg (λ z=>e (a.trans z))];exact⟨a,b,Z⟩
theorem KT.put(r:KT H kvs xs)(k:jX)(Y:H b=some (.t (k.map kV)))(O:aX y u):KT H (iw kvs k y) (storedH xs k b u):=by
 have e:(kvs.any λ Z=>decide (Z.1=k))=(atKey xs k).isSome:=by rw[yQ,(r.val k).isSome_eq,Yz]
 unfold iw storedH;rw[e];by_cases q:(atKey xs k).isSome=true
 .rw[if_pos q,if_pos q];exact r.repl k O
 .rw[if_neg q,if_neg q];exact Paired.snoc r ⟨rfl,Y,O⟩
theorem KT.keeps(r:KT H kvs xs)(q:∀b ys,H b=some (.t ys)->H' b=some (.t ys)):KT H' kvs xs:=
 Paired.mapP r λ _ _ z=>⟨z.1,q _ _ z.2.1,z.2.2⟩
theorem Lb(ok:ef P w H h)(e:Rd H a u):bO P w H h a u:=e.ok ok
theorem ra(ok:ef P w H h)(e:Rd H a (.dK kvs)):kvs.length<=sizeLine/\(a==sysModules)=false/\∃vs,KV kvs vs/\h.DictOf (gk P w) a vs:=
 show bO P w H h a (.dK kvs)from Lb ok e
theorem Lv(ok:ef P w H h)(e:H a=some (.dK kvs)):kvs.length<=sizeLine/\(a==sysModules)=false/\∃vs,KV kvs vs/\h.DictOf (gk P w) a vs:=ra ok (.inl e)
theorem tL(ok:ef P w H h)(e:H a=some (.t (ks.map kV))):(tupleKind (gk P w)).is h ks a:=by obtain⟨_,q,r,o,b,c,⟨n,O⟩,_⟩:=(show bO P w H h a (.t (ks.map kV))from ok a _ e);exact⟨o,q.toArray,n,b,c,O,by simpa using Hb r⟩
theorem q_(ok:ef P w H h)(e:Rd H a (.dT kvs)):kvs.length<=sizeLine/\(a==sysModules)=false/\∃xs,KT H kvs xs/\h.DictOfH (tupleKind (gk P w)) a xs:=by
 obtain⟨z,y,xs,r,o,es,b,c,d,f,g,Z⟩:=(show bO P w H h a (.dT kvs)from Lb ok e);refine⟨z,y,xs,r,o,es,b,c,d,f,g,λ x O=>?_,Z⟩;have all:∀{l:List (jX×V)}{m:List (jX×Addr×Value)},KT H l m->∀x∈m,(tupleKind (gk P w)).is h x.1 x.2.1:=by
  intro l m q;induction q with
  |nil=>intro x O;exact nomatch O
  |@cons p q ps j Y t i=>
   intro x O;rcases qx O with e|O
   .subst e;exact tL ok (by rw[<-Y.1];exact Y.2.1)
   .exact i x O
 exact all r x O
theorem U4(ok:ef P w H h)(e:H a=some (.dT kvs)):kvs.length<=sizeLine/\(a==sysModules)=false/\∃xs,KT H kvs xs/\h.DictOfH (tupleKind (gk P w)) a xs:=q_ ok (.inl e)
def eR(H:Hp)(a:Addr)(y:V)(r:Option V):Prop:=
 (∃kvs k,Rd H a (.dK kvs)/\y=kV k/\r=ia kvs k)\/∃kvs k b,Rd H a (.dT kvs)/\y=.ref b/\H b=some (.t (k.map kV))/\r=ia kvs k
def i8(H:Hp)(a:Addr)(y v:V)(H':Hp):Prop:=
 (∃kvs k,H a=some (.dK kvs)/\y=kV k/\kvs.length<sizeLine/\H'=upd H a (.dK (iw kvs k v)))\/
 ∃kvs k b,H a=some (.dT kvs)/\y=.ref b/\H b=some (.t (k.map kV))/\kvs.length<sizeLine/\H'=upd H a (.dT (iw kvs k v))
theorem eR.k{H:Hp}{a:Addr}{kvs:List (aO×V)}{k:aO}(e:H a=some (.dK kvs)):eR H a (kV k) (ia kvs k):=.inl ⟨kvs,k,.inl e,rfl,rfl⟩
theorem eR.t{k:jX}(e:H a=some (.dT kvs))(q:H b=some (.t (k.map kV))):eR H a (.ref b) (ia kvs k):=.inr ⟨kvs,k,b,.inl e,rfl,q,rfl⟩
theorem i8.k{H:Hp}{a:Addr}{kvs:List (aO×V)}{k:aO}{v:V}(e:H a=some (.dK kvs))(hl:kvs.length<sizeLine):i8 H a (kV k) v (upd H a (.dK (iw kvs k v))):=.inl ⟨kvs,k,e,rfl,hl,rfl⟩
theorem i8.t{k:jX}(e:H a=some (.dT kvs))(q:H b=some (.t (k.map kV)))(hl:kvs.length<sizeLine):i8 H a (.ref b) v (upd H a (.dT (iw kvs k v))):=.inr ⟨kvs,k,b,e,rfl,q,hl,rfl⟩
section
variable{X:Cx}{aA:cB}{S:St}{H:Hp}{s:Shared}{a:Addr}{y v:V}{u r:Value}{o:Option V}{A:Around}{E:dw}
theorem aI.big(I:aI X aA S H s):sysModules<s.heap.n:=by have h:=(I.mod.glob.keeps I.bk).lt;exact Y2 aH h
theorem Pf(hu:A.units+1<cLine)(I:aI X aA S H s)(g:eR H a y (some v))(ry:aX y u)(h:∀Y s',aI X aA S H s'->aX v Y->Q Y s'):wpAny (model X.p X.w) A (getItem (.ref a) u) Q E s:=by
 rcases g with⟨kvs,k,e,c,l⟩|⟨kvs,k,b,e,c,d,l⟩
 .subst c;obtain⟨z,hd,vs,O,dd⟩:=ra I.hok e;obtain⟨Y,hw,q⟩:=d7.some_of (by rw[l];exact O.val k);exact wpAny_getItem_of (pq ry) dd.mapOf hw (h Y _ (I.tok _) q)
 .subst c;cases(show u=Value.ref b from ry);obtain⟨z,hd,xs,O,dd⟩:=q_ I.hok e;obtain⟨Y,hw,q⟩:=d7.some_of (by rw[l];exact O.val k);obtain⟨p,f,Z⟩:=Option.map_eq_some_iff.mp hw;refine wpAny_getItem_heap (Zo hu) (tL I.hok d) dd f ?_;rw[Z];exact h Y _ (I.tok _) q
theorem ZC{Q:dw}(Z:A.units+1<cLine)(I:aI X aA S H s)(g:eR H a y o)(Y:aX y u)(h:∀s',aI X aA S H s'->Q (.bool o.isSome) s'):wpAny (model X.p X.w) A (compareOp .In u (.ref a)) Q E s:=by
 rcases g with⟨kvs,k,e,c,l⟩|⟨kvs,k,b,e,c,d,l⟩
 .subst c;obtain⟨z,hd,vs,O,dd⟩:=ra I.hok e;refine wpAny_in_of (pq Y) hd dd.mapOf ?_;rw[<-(O.val k).isSome_eq,<-l];exact h _ (I.tok _)
 .subst c;cases(show u=Value.ref b from Y);obtain⟨z,hd,xs,O,dd⟩:=q_ I.hok e;refine wpAny_in_heap (Zo Z) (tL I.hok d) hd dd ?_;have q:=(O.val k).isSome_eq;rw[Yz]at q;rw[<-q,<-l];exact h _ (I.tok _)
theorem IZ(I:aI X aA S H s)(Z:sQ (H a))(hs:Heap.SameBut a s.heap h')(O:∃q,h'.get? a=some q)(new:bO X.p X.w (upd H a ob) h' a ob):aI X aA S (upd H a ob) {s with heap:=h',toks:=t'}:=
 I.write Z (.inl rfl) (λ b q Y z=>(hs.2 b Y).trans z) O new
theorem Pd(z:kvs.length<=sizeLine)(hd:(a==sysModules)=false)(q:KV kvs vs)(dd:h'.DictOf (gk P w) a vs):bO P w H' h' a (.dK kvs):=⟨z,hd,vs,q,dd⟩
theorem Pe(hu:A.units+1<cLine)(I:aI X aA S H s)(g:i8 H a y v H')(ry:aX y u)(rv:aX v r)(h:∀s',aI X aA S H' s'->Q () s'):wpAny (model X.p X.w) A (setItem (.ref a) u r) Q E s:=by
 rcases g with⟨kvs,k,e,f,l,d⟩|⟨kvs,k,b,e,f,j,l,d⟩
 .subst f d;obtain⟨z,hd,vs,O,dd⟩:=Lv I.hok e;have C:vs.length<=sizeLine:=by rw[<-O.length];exact z
  have hl:(iw kvs k v).length<=sizeLine:=by have:=Ng kvs k v;lia
  refine wpAny_setItem_pairs (pq ry) dd λ h' Y i=>h _ ?_;have B:∃q,h'.get? a=some q:=let ⟨q,_,_,Z,_⟩:=Y;⟨q,Z⟩;exact IZ I (by rw[e];exact Zb) i B (Pd hl hd (O.put k rv) Y)
 .subst f d;cases(show u=Value.ref b from ry);obtain⟨z,hd,xs,O,dd⟩:=U4 I.hok e;have C:xs.length<=sizeLine:=by rw[<-Yu O];exact z
  have hl:(iw kvs k v).length<=sizeLine:=by have:=Ng kvs k v;lia
  refine wpAny_setItem_heap (Zo hu) (tL I.hok j) dd λ h' Y i=>h _ ?_;obtain⟨q,es,n,Z,o,p,t,_,x⟩:=Y;refine IZ I (by rw[e];exact Zb) i ⟨q,Z⟩ ⟨hl,hd,_,(O.put k j rv).keeps λ c ys m=>?_,q,es,n,Z,o,p,t,x⟩;rw[bX (cx5 m e (λ z=>nomatch z))];exact m
end
def wO(i:Expr):Prop:=∀q O,subscripted i false q O=operate [q,O] (getItem q O)
theorem IA{T id:String}(hl:typeLookup (.type T) "__getitem__"=pure (some (.builtin id)))(hs:wO q)(h:bU prog w A (eval value env) (λ o aa=>bU prog w A (eval q env) (λ i O=>O.TypeIs o T/\bU prog w A (getItem o i) Q E O) E aa) E s):bU prog w A (eval (.Subscript value q pos) env) Q E s:=by
 refine Z9 (yd h (λ o aa d=>yd d (λ i O Y=>?_) λ _ _ x=>x) λ _ _ x=>x);obtain⟨b,Y⟩:=Y;refine qb ?_;rw[getitemInPython_of_ne b.not_modules];refine qb (wpAny_specialOf b hl ?_);have a:bU prog w A (subscripted q false o i) (λ r Z=>bU prog w A (letTemporaryGo value o r >>= λ _=>pure r) Q E Z) E O:=by rw[hs o i];exact wpAny_operating (yd Y (λ r Z c=>qb (wpAny_letTemporaryGo (qc c))) λ _ _ x=>x)
 first
  |exact qc (qb a)
  |exact qb (qc (qb a))
  |exact qb a
theorem Sk(I:aI X aA S H s)(g:eR H a y o):s.TypeIs (.ref a) "dict":=by
 rcases g with⟨kvs,k,e,_,_⟩|⟨kvs,k,b,e,_,_,_⟩
 .obtain⟨_,_,vs,_,dd⟩:=ra I.hok e;exact dd.typeIs
 .obtain⟨_,_,xs,_,dd⟩:=q_ I.hok e;exact dd.typeIs
def Ur(td ty:TE):TE:=λ S H Q=>td S H λ x H1=>ty S H1 λ y H2=>∃a v,x=.ref a/\eR H2 a y (some v)/\Q v H2
def UE(td ty tv:TE):TS:=λ D S H=>tv S H λ v H1=>td S H1 λ x H2=>ty S H2 λ y O=>∃a q,x=.ref a/\i8 O a y v q/\D.nx S q
theorem TM(hu:X.A.units+1<cLine)(ho:PE X o td)(hi:PE X i ty)(hs:wO i):PE X (.Subscript o i pos) (Ur td ty):=by intro aA s S H Q I h;refine IA PySem.F.slot_dict_getitem.lookup hs (bQ (ho aA s S H _ I h) λ u m⟨x,b,d,l,j⟩=>bQ (hi aA m S b _ d j) λ n p q=>?_);obtain⟨y,c,Y,Z,a,v,f,g,k⟩:=q;subst f;obtain rfl:u=Value.ref a:=l;exact⟨Sk Y g,Pf hu Y g Z λ t r e O=>⟨v,c,e,O,k⟩⟩
theorem RN(hu:X.A.units+1<cLine)(ho:PE X o td)(hi:PE X i ty)(hv:PE X value tv)(hs:rP X value (some (.Subscript o i pos')) pos.line false):PS X (.Assign [.Subscript o i pos'] value pos) (UE td ty tv):=by
 intro aA s S H D I h;refine wpAny_Assign_Subscript (bQ (hv aA s S H _ I h) λ r t⟨v,b,d,Z,l⟩=>bQ (ho aA t S b _ d l) λ u w⟨x,c,e,p,m⟩=>bQ (hi aA w S c _ e m) λ B C q=>?_) hs;obtain⟨y,z,f,Y,a,O,k,g,n⟩:=q;subst k;obtain rfl:u=Value.ref a:=p;exact Pe hu f g Y Z λ s4 j=>⟨S,O,j,n⟩
theorem P9(h:Heap)(q:sysModules<h.n):bO P w H (h.push {cls:=.type "dict",data:=.dict #[]}) h.n (.dK []):=
 ⟨yg _,beq_eq_false_iff_ne.mpr (jc (qv q)),[],.nil,Heap.DictOf.new h⟩
def VM:TE:=λ _ H Q=>∀p,H p=none->Q (.ref p) (upd H p (.dK []))
section
variable{X:Cx}{pos:Pos}
theorem Q0:PE X (.Dict [] [] pos) VM:=λ aA s S H Q I h=>
 wpAny_Dict_empty ⟨.ref s.heap.n,_,I.laid (a:=s.heap.n) (o:=.dK []) (t':=s.toks) (λ _ _ q=>qf _ q) (qj _) (P9 s.heap I.big),rfl,h _ (I.hok.fresh (qj _))⟩
end
abbrev VV:List (V×V)->List (Value×Value)->Prop:=Paired λ p q=>aX p.1 q.1/\aX p.2 q.2
structure M2(X:Cx)(o:Expr)(m:Str)(apos:Pos)(e f:Expr)(cpos:Pos):Prop where
 base:attributeBase o m X.v (eval o X.v)=eval o X.v
 few:((backTo cpos (starEach [e,f] X.v)).all (λ x=>!x.1)&&(backToKw cpos (keywordEach [] X.v)).all (λ x=>x.1.isSome)
  &&decide (([e,f]:eH).length+([]:ux).length+(if([]:ux).isEmpty then 0 else 1)<30))=true
 line:(apos.endLine==cpos.line)=true
 trees:backTo cpos (starEach [e,f] X.v)=[(false,eval e X.v),(false,eval f X.v)]
def FU(H:Hp)(a:Addr):Prop:=(∃kvs,Rd H a (.dK kvs))\/∃kvs,Rd H a (.dT kvs)
theorem cm3{X:Cx}{aA:cB}{S:St}{H:Hp}{s:Shared}{a:Addr}(I:aI X aA S H s)(d:FU H a):s.TypeIs (.ref a) "dict"∧(∀b,Value.ref a=.ref b→∃ob,s.heap.get? b=some ob∧ob.dict=none)∧(a==sysModules)=false:=by
 rcases d with⟨kvs,e⟩|⟨kvs,e⟩
 .obtain⟨_,hd,vs,_,dd⟩:=ra I.hok e;refine⟨dd.typeIs,λ b q=>?_,hd⟩;cases q;obtain⟨ob,_,_,c,f,_⟩:=dd;exact⟨ob,c,f.2.1⟩
 .obtain⟨_,hd,xs,_,dd⟩:=q_ I.hok e;refine⟨dd.typeIs,λ b q=>?_,hd⟩;cases q;obtain⟨ob,_,_,c,f,_⟩:=dd;exact⟨ob,c,f.2.1⟩
section
variable{X:Cx}{aA:cB}{S:St}{H:Hp}{s:Shared}{a:Addr}{y d:V}{u r:Value}{o:Option V}{A:Around}{E:dw}
theorem co5{Q:dw}(Z:A.units+1<cLine)(I:aI X aA S H s)(g:eR H a y o)(O:aX y u)(rd:aX d r)(h:∀Y s',aI X aA S H s'->aX (o.getD d) Y->Q Y s'):wpAny (model X.p X.w) A (call (.builtin "dict.get") [.ref a,u,r]) Q E s:=by
 rcases g with⟨kvs,k,e,c,l⟩|⟨kvs,k,b,e,c,f,l⟩
 .subst c;obtain⟨z,hd,vs,q,dd⟩:=ra I.hok e;refine call_meetsIn Yd dd.typeIs PySem.F.entry_dict_get (PySem.F.args_dict_get_3 _ _ _) (meets_dict_get_default (gk X.p X.w) a (pq O) hd r) ⟨_,dd.mapOf,h _ _ (I.tok _) ?_⟩;rw[l];exact(q.val k).getD rd
 .subst c;cases(show u=Value.ref b from O);obtain⟨z,hd,xs,q,dd⟩:=q_ I.hok e;refine call_meetsIn Yd dd.typeIs PySem.F.entry_dict_get (PySem.F.args_dict_get_3 _ _ _) (meetsH_dict_get_default (tupleKind (gk X.p X.w)) a b hd r) ⟨Zo Z,k,xs,tL I.hok f,dd,h _ _ (I.tok _) ?_⟩;rw[l];exact(q.val k).getD rd
end
def ZE(td ty tx:TE):TE:=λ S H Q=>td S H λ x H1=>∃a,x=.ref a/\FU H1 a/\ty S H1 λ y H2=>tx S H2 λ z q=>∃o,eR q a y o/\Q (o.getD z) q
section
variable{X:Cx}{o e f:Expr}{apos cpos:Pos}{td ty tx:TE}
theorem Q_(hu:X.A.units+1<cLine)(ho:PE X o td)(he:PE X e ty)(hf:PE X f tx)(m:M2 X o "get" apos e f cpos):PE X (.Call (.Attribute o "get" apos) [e,f] [] cpos) (ZE td ty tx):=by
 intro aA s S H Q I h;refine wpAny_Call_method m.base m.few m.line PySem.F.plainAttrs_dict Yd PySem.F.type_dict_get (bQ (ho aA s S H _ I h) λ u B q=>?_);obtain⟨x,b,Y,t,a,l,d,n⟩:=q;subst l;obtain rfl:u=Value.ref a:=t;obtain⟨D,E,_⟩:=cm3 Y d;refine⟨D,E,?_⟩;rw[m.trees];refine Q2 rfl (Ym (Qh (bQ (he aA B S b _ Y n) λ ρ C⟨y,c,i,v,p⟩=>
  Qh (bQ (hf aA C S c _ i p) λ G L⟨z,Z,j,w,K,g,r⟩=>Q1 ?_))))
 exact co5 hu j g v w λ M s4 k O=>⟨_,Z,k,O,r⟩
end
end L2
namespace L2
open PySem PySem.Spec PyProof.Rows
theorem kF{n:Nat}(h:a<n)(h':n<=b):a≠b:=qv (qt h h')
theorem Ip{n:Nat}(h:a<n)(h':n<=b):b≠a:=(kF h h').symm
noncomputable abbrev _root_.rT:=List (Str×NameKind)
def jS(cells:List (Str×Addr)):rT->List (Str×Addr)->List (Str×Addr)
 |[],we=>we
 |(n,k)::r,we=>jS cells r (if(k==NameKind.free)=true then(n,(cells.lookup n).getD 0)::we else we)
theorem zG:∀(l:rT)(q:List (Str×Addr)),(∀y∈l,y.2=.free->∃c,env.cells.lookup y.1=some c)->(forIn l q λ y(cs:List (Str×Addr))=>(match y with
   |(name,kind)=>if(kind==NameKind.free)=true then do let c<-cellOf env name;pure (ForInStep.yield ((name,c)::cs))else pure (ForInStep.yield cs):Sem _))=pure (jS env.cells l q)
 |[],q,_=>rfl
 |(n,k)::r,q,h=>by
  rw[List.forIn_cons];unfold jS;by_cases e:(k==NameKind.free)=true
  .have Z:k=NameKind.free:=by simpa using e
   obtain⟨c,Y⟩:=h (n,k) qg Z;simp only[e,if_true,cellOf,Y,pure_bind,Option.getD_some];exact zG r _ λ y O=>h y (qh _ O)
  .simp only[e,if_false];exact zG r _ λ y O=>h y (qh _ O)
theorem Aj(h:∀y∈sc.names,y.2=.free->∃c,env.cells.lookup y.1=some c):closureFor sc env=pure (jS env.cells sc.names []):=by have e:=zG sc.names [] h;exact(bind_pure _).trans e
theorem R_6:∀(l:rT)(O:List (Str×Addr)),(∀y∈l,y.2=.free->∃c,cells.lookup y.1=some c)->(jS cells l O).lookup y=some c->cells.lookup y=some c\/O.lookup y=some c
 |[],O,_,e=>.inr e
 |(n,k)::r,O,h,e=>by
  have d:=λ y f=>h y (qh _ f);rcases R_6 r _ d e with q|q
  .exact .inl q
  .by_cases z:(k==NameKind.free)=true
   .rw[if_pos z]at q;rw[Ja]at q;cases Z:y==n with
    |true=>
     rw[Z]at q;obtain⟨b,a⟩:=h (n,k) qg (by simpa using z);have Y:=a;rw[Y]at q;have e1:y=n:=by simpa using Z
     have g:b=c:=qi q;exact .inl (by rw[e1,Y,g])
    |false=>
     rw[Z]at q;exact .inr q
   .rw[if_neg z]at q;exact .inr q
theorem uY:∀(l:rT)(q:List (Str×Addr)),((y,NameKind.free)∈l\/∃c,q.lookup y=some c)->∃c,(jS cells l q).lookup y=some c
 |[],q,h=>by
  rcases h with h|h
  .cases h
  .exact h
 |(n,k)::r,q,h=>by
  have O:∀v:Addr,(∃c,q.lookup y=some c)->∃c,((n,v)::q).lookup y=some c:=λ v Y=>by
   obtain⟨c,Z⟩:=Y;rw[Ja];cases y==n with
   |true=>exact⟨v,rfl⟩
   |false=>exact⟨c,Z⟩
  rcases h with h|h
  .rcases qx h with e|h
   .have e1:=y0 Prod.fst e;have e2:=y0 Prod.snd e;subst e1 e2;refine uY r _ (.inr ?_);rw[if_pos (by rfl)];refine⟨(cells.lookup y).getD 0,?_⟩;rw[Ja];simp
   .exact uY r _ (.inl h)
  .refine uY r _ (.inr ?_);split
   .exact O _ h
   .exact h
theorem G7(hc:∀z∈scope.names,z.2≠.cell)(h:(relabel scope env).names.lookup y=some k)(Y:k=.cell\/k=.free):(y,NameKind.free)∈scope.names:=by have m:=jp h;obtain⟨⟨n,O⟩,q,e⟩:=dI.mp m;grind
theorem Oe{env:Env}(O:env.scope.kind=.function):∀{names:rT}{y:Str},names.lookup y=some .free->env.kindOf y=some .cell->(names.map λ(n,k)=>if(k==NameKind.free&&env.scope.kind==.function&&env.kindOf n==some .cell)then(n,NameKind.cell)else(n,k)).lookup y=some .cell:=by intro a;induction a<;>grind
noncomputable abbrev _root_.dr:=List Nat
structure iB(N:aP)(sc scope:Scope)(x:Str)(aT:aP)(js:dr):Prop where
 kind:scope.kind=.function
 fk:sc.kind=.function
 cells:∀y∈scope.names,y.2≠.cell
 locs:∀y∈scope.names,y.2=.local->scope.names.lookup y.1=some .local
 own:scope.names.lookup x=some .local
 fr:∀y∈scope.names,y.2=.free->sc.names.lookup y.1=some .cell
 nd:(x::aT).Nodup
 ln:aT.length=js.length
 zp:∀p∈aT.zip js,N[p.2]?=some p.1/\sc.names.lookup p.1=some .cell/\scope.names.lookup p.1=some .free
def de(X:Cx)(N:aP)(scope:Scope)(s:Shared)(H:Hp)(C:Addr)(fp:fB):Cx where
 p:=X.p
 w:=X.w
 K:=X.K
 mg:=X.mg
 base:=X.base
 A:=X.A
 N:=N
 s₀:=s
 H₀:=H
 v:=compEnvC scope (jS X.v.cells scope.names []) C X.v
 outer:=X.stack
 stack:=X.stack
 ex:=fp
 fn:=λ _=>false
 c:=X.c
 pn:=[]
 xe:=λ _ _=>False
def iD(S:St)(js:dr):St:=js.map λ j=>(S[j]?).join
def kH(X:Cx)(cx:eH)(t:TT):Prop:=
 ∀(aA:cB)(s:Shared)(S:St)(H:Hp)(Q:Bool->Hp->Prop),aI X aA S H s->t S H Q->
  bU X.p X.w X.A (forIn cx true λ c r=>if r=true then do let ok<-isTrue c X.v (eval c X.v);pure (ForInStep.yield ok)else pure (ForInStep.yield r)) (TP X aA S Q) X.xe s
def bD:TT:=λ _ H Q=>Q true H
theorem RL:kH X [] bD:=λ _ _ _ H _ I h=>wpAny_tests_nil ⟨H,I,h⟩
theorem RK(h:PT X c t):kH X [c] t:=λ aA s S H Q I q=>wpAny_tests_one (h aA s S H Q I q)
def vj(js:dr)(tt:TT)(te:TE)(S:St)(Q:bY->Hp->Prop)(ρ:It)(H1:Hp):Prop:=
 ∃W:Nat->Nat->List V->Hp->Prop,(∃m,W 0 m [] H1)/\∀i m ys H,W i m ys H->(ρ.stop i H/\ys.length<=sizeLine/\Q ys H)\/
  (ρ.go i H/\ys.length<sizeLine/\∀x H',ρ.yld i H x H'->tt (some x::iD S js) H' λ b H2=>
   if b=true then te (some x::iD S js) H2 λ v O=>∃q,q<m/\W (i+1) q (ys++[v]) O else ∃q,q<m/\W (i+1) q ys H2)
section
variable{X:Cx}{aA:cB}{S:St}{H:Hp}{s:Shared}{x:Str}{scope sc:Scope}{aT:aP}{js:dr}
theorem aj2(I:aI X aA S H s)(q:X.v.scope=sc)(B:iB X.N sc scope x aT js):∀y∈scope.names,y.2=.free->∃c,X.v.cells.lookup y.1=some c:=λ y Y O=>
 I.ok.has y.1 (.inl (show X.v.scope.names.lookup y.1=some .cell by rw[q];exact B.fr y Y O))
theorem Jm:∀{l:List α}{r:List β}{k:Nat}{a:α},l.length=r.length->l[k]?=some a->∃b,r[k]?=some b/\(a,b)∈l.zip r
 |[],_,_,_,_,h=>by simp at h
 |_::_,[],_,_,hl,_=>by simp at hl
 |d::l,c::r,0,a,_,h=>by
  simp at h;subst h;exact⟨c,rfl,by simp⟩
 |d::l,c::r,k+1,a,hl,h=>by
  obtain⟨b,e,f⟩:=Jm (by simpa using hl) (by simpa using h);exact⟨b,by simpa using e,by rw[Qq];exact qh _ f⟩
theorem Pr{fp:fB}{O:Heap}{C D:Addr}{tk:Nat}{mC:Str->Option Value}{oD:Obj}(I:aI X aA S H s)(ac:X.v.scope=sc)(B:iB X.N sc scope x aT js)(hf:∀b∈fp,cK X aA H b)(ai:∀b∈fp,b<s.heap.n)(hC:s.heap.n<=C)(hD:s.heap.n<=D)(aj:D≠C)(Y:∀b o,s.heap.get? b=some o->O.get? b=some o)(ns:O.Ns C mC)(gD:O.get? D=some oD)(nD:∀v,oD.data≠.cell v):aI (de X (x::aT) scope s H C fp) (aA++[(D,oD)]) (none::iD S js) H {s with heap:=O,toks:=tk}:=by
 have lc:=aj2 I ac B;have sub:∀y c,(jS X.v.cells scope.names []).lookup y=some c->X.v.cells.lookup y=some c:=λ y c e=>by
  rcases R_6 scope.names [] lc e with q|q
  .exact q
  .cases q
 have ak:∀y c,X.v.cells.lookup y=some c->c<s.heap.n:=λ y c e=>by
  obtain⟨v,q⟩:=I.cell y c e;exact q.lt
 have K:∀b∈fp,(b∈X.ex\/X.s₀.heap.n<=b):=λ b Z=>(hf b Z).2.2.2.1;obtain⟨m,hn,hl⟩:=I.loc;refine⟨⟨I.ok.mod,B.kind,I.ok.glob,I.ok.blt,hC,?_,?_,?_,I.ok.hd,I.ok.frames,.inl rfl,?_,?_,zw I.ok.bsz I.sz,?_,?_,I.stack,I.stkFree⟩,rfl,I.bare,Un.kept Y,⟨mC,ns,?_⟩,?_,I.hok.fresh hC,?_,?_,I.hok.kept Y,?_⟩
 .exact λ y z c e1 e2=>I.ok.inj y z c (sub y c e1) (sub z c e2)
 .intro y T;have R:(y,NameKind.free)∈scope.names:=by
   rcases T with q|q
   .exact G7 (env:=X.v) B.cells q (.inl rfl)
   .exact G7 (env:=X.v) B.cells q (.inr rfl)
  exact uY scope.names [] (.inl R)
 .exact λ y c z _=>absurd z qp
 .intro b Z;refine⟨λ z=>?_,λ y c e z=>(hf b Z).2.2.2.2.1 y c (sub y c e) z⟩;have h:b=C:=z;exact absurd (qt (ai b Z) hC) (by rw[h];exact yu _)
 .exact λ b o e=>I.bs b o e
 .intro b o e Z;rcases K b Z with z|z
  .exact I.ok.noex b o e z
  .exact absurd (qt (qm (I.ok.bs b o e).1) z) (yu _)
 .intro b Z z;rcases qx (I.stkSub b z)with e|e
  .exact(hf b Z).2.1 e
  .exact(hf b Z).2.2.1 e
 .intro i y v e1 e2 e3;cases i with
  |zero=>simp at e2
  |succ k=>
   have ρ:aT[k]?=some y:=by have e0:(x::aT)[k+1]?=some y:=e1;simpa using e0
   obtain⟨j,Q,U⟩:=Jm B.ln ρ;obtain⟨z1,z2,w⟩:=B.zp _ U;have d:(iD S js)[k]?=some (some v):=by simpa using e2
   have e4:S[j]?=some (some v):=by
    unfold iD at d;rw[yt,Q]at d;have a:(S[j]?).join=some v:=qi d;cases q:S[j]? with
    |none=>rw[q]at a;cases a
    |some w'=>rw[q]at a;cases w' with
     |none=>cases a
     |some w2=>cases a;rfl
   have g:X.v.kindOf y=some .cell:=by show X.v.scope.names.lookup y=_;rw[ac];exact z2
   obtain⟨u,r,q⟩:=hl j y v z1 e4 (.inr (.inl g));refine⟨u,r,?_⟩;rcases q with⟨q,_⟩|⟨_,c,P,V⟩
   .rw[g]at q;cases q
   .have W:(compEnvC scope (jS X.v.cells scope.names []) C X.v).kindOf y=some .cell:=Oe (env:=X.v) (by rw[ac];exact B.fk) w g;refine .inr ⟨.inl W,c,?_,?_⟩
    .obtain⟨M,t⟩:=uY (cells:=X.v.cells) scope.names [] (.inl (jp w));have:=sub y M t;rw[P]at this;cases this;exact t
    .obtain⟨o,f,hd⟩:=V;exact⟨o,Y c o f,hd⟩
 .intro y c e;obtain⟨v,o,f,hd⟩:=I.cell y c (sub y c e);exact⟨v,o,Y c o f,hd⟩
 .exact λ y c e=>I.freeC y c (sub y c e)
 .intro p σ;have L:p∈aA++[(D,oD)]:=by simpa [de]using σ
  rcases qy L with z|z
  .obtain⟨l,A,E,F,G⟩:=I.pin p (qo _ z);refine⟨Y _ _ l,A,λ e=>?_,λ e=>?_,G⟩
   .exact absurd (qt (qm l) hC) (by rw[show p.1=C from e];exact yu _)
   .rcases qx (I.stkSub p.1 e)with e|e
    .exact E e
    .exact F e
  .have h:p=(D,oD):=by simpa using z
   subst h;refine⟨gD,I.hok.fresh hD,aj,λ e=>?_,nD⟩;rcases qx (I.stkSub D e)with e|e
   .exact absurd (qt I.lt hD) (by rw[show D=X.v.locals from e];exact yu _)
   .exact I.nofs hD e
 .show(none::iD S js).length=(x::aT).length;rw[zt,zt,B.ln,iD,qz]
end
theorem Tc(I:Nat->Shared->Prop)(Y:∀n s,I n s->bU prog w A (pyNext it) (λ r Z=>match r with
   |none=>R (.ok .next) Z
   |some v=>bU prog w A (letOwnedTupleGo q it v) (λ _ s2=>bU prog w A (assign q env v) (λ _ s3=>
     bU prog w A (forIn cx true λ c r=>if r=true then do let ok<-isTrue c env (eval c env);pure (ForInStep.yield ok)else pure (ForInStep.yield r)) (λ ok s4=>
      if ok=true then bU prog w A (eval elt env) (λ y s5=>bU prog w A (call (.builtin "list.append") [O,y]) (λ _ s6=>∃m,m<n∧I m s6) (λ _ _=>False) s5) (λ _ _=>False) s4
      else ∃m,m<n/\I m s4) (λ _ _=>False) s3) (λ _ _=>False) s2) (λ _ _=>False) Z) (λ _ _=>False) s)(n:Nat)(h:I n s):codeAny (model prog w) A (.compLoop (.ListComp elt [⟨q,iter,cx,0⟩] scope pos) 0 it O env) R s:=by
 refine codeAny_loop rfl I (λ n s i=>?_) n h;refine wpAny_noted ?_;rw[compTurn_list];refine qb (Zc (qb (yd (Y n s i) (λ r Z a=>?_) λ _ _ z=>z.elim)));cases r with
 |none=>exact qc a
 |some v=>
  refine qb (yd a (λ _ s2 d=>?_) λ _ _ z=>z.elim);refine qb (yd d (λ _ s3 e=>?_) λ _ _ z=>z.elim);refine qb (yd e (λ ok s4 b=>?_) λ _ _ z=>z.elim);cases ok with
  |false=>exact qc ⟨rfl,b⟩
  |true=>
   refine qb (qb (yd b (λ y s5 f=>?_) λ _ _ z=>z.elim));exact qb (yd f (λ _ s6 g=>qc (qc ⟨rfl,g⟩)) λ _ _ z=>z.elim)
section
variable{X:Cx}{aA:cB}{S:St}{H:Hp}{s:Shared}{x:Str}{scope sc:Scope}{aT:aP}{js:dr}{elt iter:Expr}{cx:eH}{px pos:Pos}{tt:TT}{te:TE}{E:dw}
abbrev kP(q:cf)(n:Nat):Obj:={cls:=.type "list",data:=.seq q.toArray n}
def Oi(tg:TG)(Y:St)(tt:TT)(te:TE)(Q:bY->Hp->Prop)(ρ:It)(H1:Hp):Prop:=
 ∃W:Nat->Nat->List V->Hp->Prop,(∃m,W 0 m [] H1)/\∀i m ys H,W i m ys H->(ρ.stop i H/\ys.length<=sizeLine/\Q ys H)\/
  (ρ.go i H/\ys.length<sizeLine/\∀x H',ρ.yld i H x H'->tg x Y H' λ q H'=>(Y.length=q.length/\∀(j:Nat)v,Y[j]?=some (some v)->q[j]?=some (some v))/\tt q H' λ b H2=>
   if b=true then te q H2 λ v Z=>∃O,O<m/\W (i+1) O (ys++[v]) Z else ∃O,O<m/\W (i+1) O ys H2)
theorem J5{aj:Expr}{N':aP}{τ:St}{tg:TG}{it:Addr}{fp:fB}{tn:Nat->Heap->Prop}{ρ:It}{Qe:bY->Hp->Prop}{RR:Value->Addr->Result->Shared->Prop}(I:aI X aA S H s)(hc:X.c=true)(bc:X.v.scope=sc)(B:iB X.N sc scope x aT js)(T:gZ X.p X.w X.K aj ρ fp it tn)(st:tn 0 s.heap)(f:∀b∈fp,cK X aA H b)(S0:∀{C pl H' s'},aI (de X (x::aT) scope s H C fp) pl (none::iD S js) H' s'->aI (de X N' scope s H C fp) pl τ H' s')(hg:∀C,PG (de X N' scope s H C fp) aj tg)(hW:Oi tg τ tt te Qe ρ H)(ht:∀s H C fp,kH (de X N' scope s H C fp) cx tt)(he:∀s H C fp,PE (de X N' scope s H C fp) elt te)(hR:∀(D C:Addr)(s':Shared)(H':Hp)(ys:bY)(O:cf)(n:Nat),s.heap.objs.size<=D->s.heap.objs.size<=C->D≠C->aI (de X N' scope s H C fp) aA τ H' s'->H' D=none->aM ys O->s'.heap.get? D=some (kP O n)->ys.length<=sizeLine->Qe ys H'->RR (.ref D) C (.ok .next) s'):bU X.p X.w X.A (newList []) (λ aw s3=>bU X.p X.w X.A (newFunctionEnv scope X.v.globals (jS X.v.cells scope.names []) [] X.v.qual none .none (some X.v)) (λ aq s4=>
   codeAny (model X.p X.w) X.A (.compStart (.ListComp elt [⟨aj,iter,cx,0⟩] scope pos) 0 (.ref it) aw {aq with scope:=relabel scope X.v}) (RR aw aq.locals) s4) E s3) E s:=by
 obtain⟨W,⟨m0,w0⟩,a7⟩:=hW;refine yi (wpAny_newFunctionEnv B.cells (by intro y hy;simp at hy) (λ ah L Z=>?_) B.kind);dsimp only at L Z⊢;generalize hG:s.heap.push {cls:=.type "list",dict:=none,data:=.seq ([]:cf).toArray}=G at L Z⊢;have ba:G.objs.size=s.heap.objs.size+1:=by rw[<-hG,Qa]
 have ar:s.heap.objs.size<=G.objs.size:=by rw[ba];exact Qu _
 have ap:s.heap.objs.size≠G.objs.size:=by rw[ba];exact qv (Nat.lt_succ_self _)
 obtain⟨C,be⟩:∃C:Addr,C=G.objs.size:=⟨_,rfl⟩;obtain⟨D,M⟩:∃D:Addr,D=s.heap.objs.size:=⟨_,rfl⟩;rw[<-be]at L Z ap ar⊢;have d:s.heap.objs.size<=D:=by rw[M];exact qj _
 have P:s.heap.objs.size<=C:=ar;have t:D≠C:=by rw[M];exact ap
 have a1:∀b o,s.heap.get? b=some o->ah.get? b=some o:=λ b o e=>by
  refine Z.extBut b o (kF (qm e) P) (qf _ ?_);rw[<-hG];exact qf _ e
 have gD:ah.get? D=some (kP [] 0):=by refine Z.extBut D _ t (qf _ ?_);rw[<-hG,M];exact qk _ rfl
 have au:∀b∈fp,b<s.heap.objs.size:=λ b a=>by
  obtain⟨o,e,_⟩:=T.obj 0 _ st b a;exact qm e
 show codeAny (model X.p X.w) X.A (.compStart (.ListComp elt [⟨aj,iter,cx,0⟩] scope pos) 0 (.ref it) (.ref s.heap.objs.size) (compEnvC scope (jS X.v.cells scope.names []) C X.v)) (RR (.ref s.heap.objs.size) C) _;rw[<-M];have bg:D∉fp:=λ z=>kF (au D z) d rfl;have Y0:=S0 (Pr (tk:=s.toks+([]:List (Str×Value)).length) (x:=x) I bc B f au P d t a1 L gD (λ v z=>nomatch z));have bb:tn 0 ah:=T.keep 0 _ _ st λ b _ o e=>a1 b o e;have sub:∀y c,(jS X.v.cells scope.names []).lookup y=some c->X.v.cells.lookup y=some c:=λ y c e=>by
  rcases R_6 scope.names [] (aj2 I bc B) e with q|q
  .exact q
  .cases q
 have ay:∀p∈aA,p.1<s.heap.objs.size:=λ p j=>qm (I.pin p (qo _ j)).1;have ai:∀{H':Hp}{o:Obj},(∀b∈fp,H' b=none)->∀b∈fp,cK (de X N' scope s H C fp) (aA++[(D,o)]) H' b:=λ{H' o}hn b a=>by
  obtain⟨_,a2,a3,a4,a5,a6⟩:=f b a;have lt:=au b a;refine⟨hn b a,?_,λ z=>?_,.inl a,λ y c e=>a5 y c (sub y c e),λ p j=>?_⟩
  .exact kF lt P
  .rcases qx (I.stkSub b z)with e|e
   .exact a2 e
   .exact a3 e
  .have as:p∈aA++[(D,o)]:=by simpa [de]using j
   rcases qy as with z|z
   .exact a6 p (qo _ z)
   .have z':p=(D,o):=by simpa using z
    subst z';exact Ip lt d
 have ao:∀s3:Shared,s3={s with heap:=ah,toks:=s.toks+([]:List (Str×Value)).length}->codeAny (model X.p X.w) X.A (.compLoop (.ListComp elt [⟨aj,iter,cx,0⟩] scope pos) 0 (.ref it) (.ref D) (compEnvC scope (jS X.v.cells scope.names []) C X.v)) (RR (.ref D) C) s3:=by
  rintro s3 rfl;refine Tc (λ n s'=>∃i ys O k H',aI (de X N' scope s H C fp) (aA++[(D,kP O k)]) τ H' s'/\tn i s'.heap/\(∀b∈fp,H' b=none)/\aM ys O/\W i n ys H') ?_ m0
   ⟨0,[],[],0,H,Y0,bb,λ b a=>(f b a).1,.nil,w0⟩
  rintro n s4 ⟨i,ys,O,k,m,I4,a9,a8,U,w4⟩;have pD:∀{pl:cB}{h:St}{H':Hp}{s':Shared},aI (de X N' scope s H C fp) (aA++[(D,kP O k)]++pl) h H' s'->s'.heap.get? D=some (kP O k)/\H' D=none:=λ g=>by
   have q:=g.pin (D,kP O k) (qo _ (jy _ (qo _ qg)));exact⟨q.1,q.2.1⟩
  have ac:∀{pl:cB}{h:St}{H':Hp}{s':Shared},aI (de X N' scope s H C fp) (aA++pl) h H' s'->aI (de X N' scope s H C fp) aA h H' s':=λ g=>g.unpinned;rcases a7 i n ys m w4 with⟨stop,lz,qe⟩|⟨go,lz,step⟩
  .refine bQ (T.done (de X N' scope s H C fp) rfl rfl rfl hc i _ s4 _ m (λ _ _=>False) I4 (ai a8) a9 stop) λ r s5 Y=>?_;obtain⟨hr,I5⟩:=Y;subst hr;have I5':aI (de X N' scope s H C fp) (aA++[(D,kP O k)]++[]) τ m s5:=by simpa using I5
   exact hR D C s5 m ys O k d P t (ac I5) (pD I5').2 U (pD I5').1 lz qe
  .refine bQ (T.item (de X N' scope s H C fp) rfl rfl rfl hc i _ s4 _ m (λ _ _=>False) I4 (ai a8) a9 go) λ r s5 Y=>?_;obtain⟨u,hr,h5⟩:=Y;subst hr;refine bQ h5 λ _ s6 Y=>?_;obtain⟨y,H6,I6,r6,y6,Q,bf⟩:=Y;have I6':=I6.pinned (ai bf) (T.obj _ _ Q);have bd:D∉(de X N' scope s H C fp).fs:=λ z=>by
    rcases qx (I.stkSub D z)with e|e
    .exact kF I.lt d e.symm
    .exact I.nofs d e
   refine bQ (hg C _ s6 _ H6 y u _ I6' r6 (step y H6 y6)) λ _ s7 Y=>?_;obtain⟨az,H7,I7,e7,q7⟩:=Y;have back:∀{h:St}{H':Hp}{s':Shared},aI (de X N' scope s H C fp) (aA++[(D,kP O k)]++tj fp s6.heap) h H' s'->(∀b∈fp,∀o,s6.heap.get? b=some o->s'.heap.get? b=some o)/\∀b∈fp,H' b=none:=λ{h H' s'}g=>
    ⟨λ b a o e=>(g.pin (b,o) (qo _ (qo _ (yK a e)))).1,λ b a=>by
     obtain⟨o,e,_⟩:=T.obj _ _ Q b a;exact(g.pin (b,o) (qo _ (qo _ (yK a e)))).2.1⟩
   have ag:∀{pl:cB}{H':Hp}{s':Shared},aI (de X N' scope s H C fp) pl az H' s'->aI (de X N' scope s H C fp) pl τ H' s':=λ g=>g.weak e7.1 e7.2;refine bQ (ht s H C fp _ s7 _ H7 _ I7 q7) λ ok s8 Y=>?_;obtain⟨H8,V,σ⟩:=Y;cases ok with
   |false=>
    rw[if_neg yf]at σ⊢;obtain⟨m',hm,w8⟩:=σ;obtain⟨b1,b2⟩:=back V;exact⟨m',hm,i+1,ys,O,k,H8,ag V.unpinned,T.keep _ _ _ Q b1,b2,U,w8⟩
   |true=>
    rw[if_pos rfl]at σ⊢;refine bQ (he s H C fp _ s8 _ H8 _ V σ) λ v l Y=>?_;obtain⟨vv,H9,I9,r9,m',hm,w9⟩:=Y;obtain⟨av,ax⟩:=pD I9;obtain⟨b1,b2⟩:=back I9;have bh:=U.length;refine Qd F.slot_list_append ⟨_,av,rfl⟩ F.entry_list_append (F.args_list_append_2 _ _) (PySem.list_append D O.toArray k v (by rw[zk];lia)) ⟨av,?_⟩;have ea:O.toArray.push v=(O++[v]).toArray:=aQ;obtain⟨R,q⟩:∃R,(l.heap.update D (Obj.mapSeq (·.push v))).get? D=some (kP (O++[v]) R):=by have q0:=PySem.IsL.update av (·.push v);rw[ea]at q0;exact⟨_,q0⟩
    have a0:∀b o,b≠D->l.heap.get? b=some o->(l.heap.update D (Obj.mapSeq (·.push v))).get? b=some o:=λ b o a e=>(jg l.heap (Obj.mapSeq (·.push v)) (jc a)).trans e;have I10:aI (de X N' scope s H C fp) aA az H9 {l with heap:=l.heap.update D (Obj.mapSeq (·.push v))}:=
     (ac I9.unpinned).turned (t':=l.toks) (it:=D) a0 ax t (.inr d) (λ y' c e z=>by
      obtain⟨w',q'⟩:=I.cell y' c (sub y' c e);exact kF q'.lt d z) (λ p j z=>by
      have as:p∈aA:=by simpa [de]using j
      exact kF (ay p as) d z)
    refine⟨m',hm,i+1,ys++[vv],O++[v],R,H9,ag (I10.pins_of λ p j=>?_),T.keep _ _ _ Q λ b a o e=>a0 b o (λ z=>bg (z▸a)) (b1 b a o e),b2,U.append (.cons r9 .nil),w9⟩;rcases qy j with z|z
    .exact I10.pin p (qo _ z)
    .have z':p=(D,kP (O++[v]) R):=dt z;subst z';exact⟨q,ax,t,bd,λ w' z2=>nomatch z2⟩
 exact codeAny_compStart_list (ao _ rfl) (T.self _ 0 _ _ _ bb (ao _ rfl))
theorem Iv{RR:Value->Addr->Result->Shared->Prop}(I:aI X aA S H s)(hc:X.c=true)(aa:X.v.scope=sc)(B:iB X.N sc scope x aT js)(T:gZ X.p X.w X.K (.Name x px) ρ fp it tn)(st:tn 0 s.heap)(f:∀b∈fp,cK X aA H b)(hW:vj js tt te S Qe ρ H)(ht:∀s H C fp,kH (de X (x::aT) scope s H C fp) cx tt)(he:∀s H C fp,PE (de X (x::aT) scope s H C fp) elt te)(hR:∀(D C:Addr)(s':Shared)(H':Hp)(ys:bY)(Z:cf)(n:Nat),s.heap.n<=D->s.heap.n<=C->D≠C->aI (de X (x::aT) scope s H C fp) aA (none::iD S js) H' s'->H' D=none->aM ys Z->s'.heap.get? D=some (kP Z n)->ys.length<=sizeLine->Qe ys H'->RR (.ref D) C (.ok .next) s'):bU X.p X.w X.A (newList []) (λ O s3=>bU X.p X.w X.A (newFunctionEnv scope X.v.globals (jS X.v.cells scope.names []) [] X.v.qual none .none (some X.v)) (λ q s4=>
   codeAny (model X.p X.w) X.A (.compStart (.ListComp elt [⟨.Name x px,iter,cx,0⟩] scope pos) 0 (.ref it) O {q with scope:=relabel scope X.v}) (RR O q.locals) s4) E s3) E s:=by
 refine J5 (tg:=tY 0) I hc aa B T st f (λ h=>h) (λ C=>wK B.nd rfl (.inl (jx B.own)) (.inr (jx B.own))) ?_ ht he hR;obtain⟨W,d,Y⟩:=hW;refine⟨W,d,λ i m ys H w=>?_⟩;rcases Y i m ys H w with h|⟨a,c,step⟩
 .exact .inl h
 .exact .inr ⟨a,c,λ y H' g=>⟨⟨rfl,λ j v e=>by
   cases j with
   |zero=>simp at e
   |succ j=>simpa using e⟩,step y H' g⟩⟩
theorem BM(I:aI X aA S H s)(f:∀b∈fp,cK X aA H b)(hD:s.heap.n<=D)(ρ:aI (de X (x::aT) scope s H C fp) aA (none::iD S js) H' s')(Z:H' D=none)(rv:aM ys O)(gD:s'.heap.get? D=some (kP O n))(hz:ys.length<=sizeLine):aI X aA S (upd H' D (.l ys)) s':=by
 have u:=ρ.base;have j:=ρ.hok;refine I.call' ρ.os ⟨u.keep,u.slot,λ b o e l k=>?_,u.there,λ b xs e=>?_,λ b o v e=>?_,λ b ps e=>?_⟩ (λ b o e=>?_) ρ.bare λ b a=>?_
 .rw[bX (kF (Heap.lt_size e) hD)];exact u.free b o e l k
 .have q:=u.tups b xs e;rw[bX (iU q Z)];exact q
 .have q:=u.frzs b o v e;rw[bX (iU q Z)];exact q
 .obtain⟨Y,q⟩:=u.tbls b ps e;exact⟨Y,by grind[bX]⟩
 .by_cases a:b=D
  .subst a;rw[cM]at e;cases e;exact⟨hz,O,n,rv,gD⟩
  .rw[bX a]at e;exact(j b o e).stay (λ c v _ q=>q) (λ c q=>by grind[bX]) λ c xs q=>by grind[bX]
 .obtain⟨_,d,m,g,h,i⟩:=f b a;exact⟨g,d,h,i⟩
theorem CL(I:aI X aA S H s)(ρ:aI X aA O H' s')(Y:s.heap.n<=C)(nC:H' C=none)(hs:Heap.SameBut C s'.heap h'):aI X aA O H' {s' with heap:=h'}:=by
 refine ρ.turned (λ b o Z e=>(hs.2 b Z).trans e) nC (λ z=>?_) (.inr (zw I.sz Y)) (λ y c e z=>?_) λ p a z=>?_
 .exact kF I.lt Y z.symm
 .obtain⟨v,q⟩:=I.cell y c e;exact kF q.lt Y z
 .exact kF (qm (I.pin p a).1) Y z
def tLC(q:TI)(js:dr)(tt:TT)(te:TE):TE:=λ S H Q=>q S H (vj js tt te S λ ys H'=>∀D,H' D=none->Q (.ref D) (upd H' D (.l ys)))
theorem Ws{wi:TI}(hc:X.c=true)(O:X.v.scope=sc)(B:iB X.N sc scope x aT js)(hi:PI X (.Name x px) iter wi)(ht:∀s H C fp,kH (de X (x::aT) scope s H C fp) cx tt)(he:∀s H C fp,PE (de X (x::aT) scope s H C fp) elt te)(hs:oA X iter):PE X (.ListComp elt [⟨.Name x px,iter,cx,0⟩] scope pos) (tLC wi js tt te):=by
 intro aA s S H Q I h;rw[eval_ListComp];refine Zz (use:=none) rfl hs (Aj (aj2 I O B)) B.kind B.locs (bQ (hi aA s S H _ I h) λ v G k=>bQ k λ E K l=>?_);obtain⟨it,fp,tn,ρ,z,e,a,T,g,c,r⟩:=l;subst e;refine Iv (RR:=λ Y C=>compPost (model X.p X.w) X.A X.xe none (EP X aA S Q) Y C) a hc O B T g c r ht he ?_;intro D C s' H' ys F n p o i b d y j t q;obtain⟨m,hn,_⟩:=b.loc;refine⟨m,hn,λ h' Z=>?_⟩;have f:=BM a c p b d y j t;have u:(upd H' D (.l ys)) C=none:=by rw[bX (jc i)];exact b.free
 exact⟨.ref D,_,CL a f o u Z,rfl,q D d⟩
def Wb(i:Nat)(q:TI)(js:dr)(tt:TT)(te:TE):TS:=λ D S H=>q S H (vj js tt te S λ ys H'=>∀a,H' a=none->D.nx (S.set i (some (.ref a))) (upd H' a (.l ys)))
theorem Ni{wi:TI}{i:Nat}{y:Str}{py spos:Pos}(hN:X.N.Nodup)(ae:X.N[i]?=some y)(hy:X.v.scope.names.lookup y=some .local)(hc:X.c=true)(Z:X.v.scope=sc)(B:iB X.N sc scope x aT js)(hi:PI X (.Name x px) iter wi)(ht:∀s H C fp,kH (de X (x::aT) scope s H C fp) cx tt)(he:∀s H C fp,PE (de X (x::aT) scope s H C fp) elt te)(ah:swapsWith (.ListComp elt [⟨.Name x px,iter,cx,0⟩] scope pos) (some (.Name y py)) spos.line X.v=pure true)(hs:oA X iter):PS X (.Assign [.Name y py] (.ListComp elt [⟨.Name x px,iter,cx,0⟩] scope pos) spos) (Wb i wi js tt te):=by
 intro aA s S H D I h;rw[exec_Assign_Name_used _ _ _ _ ah];refine qb (Zc (qb ?_));show wpAny _ X.A (do let _<-comprehension (.ListComp elt [⟨.Name x px,iter,cx,0⟩] scope pos) scope X.v _ (newList []) false (eval iter X.v) (some (assign (.Name y py) X.v))) _ _ s;refine qb (yd (Zz (use:=some (assign (.Name y py) X.v)) (Q:=λ _ s'=>SP X aA D .next s') rfl hs (Aj (aj2 I Z B)) B.kind B.locs
  (bQ (hi aA s S H _ I h) λ v s1 G=>bQ G λ ai s2 K=>?_)) (λ _ s' q=>qc (qc q)) λ _ _ z=>z)
 obtain⟨it,fp,tn,ρ,H2,e,O,T,t,f,M⟩:=K;subst e;refine Iv (RR:=λ l C=>compPost (model X.p X.w) X.A X.xe (some (assign (.Name y py) X.v)) (λ _ s'=>SP X aA D .next s') l C) O hc Z B T t f M ht he ?_;intro a C s' H' ys aj n L d u c g rv F σ q;have j:=BM O f L c g rv F σ;have U:(upd H' a (.l ys)) C=none:=by rw[bX (jc u)];exact c.free
 obtain⟨m,hn,_⟩:=c.loc;have hL:C≠X.v.locals:=Ip O.lt d;show wpAny _ X.A (assign (.Name y py) X.v (.ref a)) _ _ s';refine wpAny_assign_Name (G5 j hN ae (.inl hy) (v:=.ref a) rfl (λ s3 k Y=>?_) (.inr hy));obtain⟨b,sb,P⟩:=Y;have V:C≠b:=by
  rcases P with z|z
  .rw[z];exact hL
  .intro e;obtain⟨v,W⟩:=O.cell y b z;exact kF W.lt d e.symm
 obtain⟨o,es,E,R,r⟩:=hn;refine⟨m,⟨o,es,E,(sb.2 C V).trans R,r⟩,λ h' p=>?_⟩;exact⟨_,_,CL O k d U p,q a g⟩
end
end L2
namespace Fx
open PySem
inductive D where
 |n|b (b:Bool)|int (i:Int)|str (x:Str)|t (xs:List D)|l (xs:List D)
 |opq
 |c (ks:aP) (vs:List D)
noncomputable abbrev _root_.ew:=List (Str×D)
noncomputable abbrev _root_.aG:=List D
inductive MO where
 |l (xs:aG)|d (kvs:ew)
inductive Sl where
 |z|i (d:D)|o (b:Bool) (o:MO)
noncomputable abbrev En:=List Sl
inductive jP where
 |nx (J:En)|rt (d:D) (J:En)|bk (J:En)|ct (J:En)
abbrev FE:=En->Option (D×En)
abbrev FT:=En->Option (Bool×En)
abbrev FA:=En->Option (aG×En)
abbrev FS:=En->Option jP
noncomputable def aF{α β:Type}(x:Option α)(f:α->Option β):Option β:=x.bind f
theorem cD(a:α)(f:α->Option β):aF (some a) f=f a:=rfl
mutual
noncomputable def bZ:D->D->Bool
 |.n,.n=>true
 |.b a,.b b=>a==b
 |.b a,.int b=>(if a then 1 else 0)==b
 |.int a,.b b=>a==(if b then 1 else 0)
 |.int a,.int b=>a==b
 |.str a,.str b=>a==b
 |.t a,.t b=>ic a b
 |.l a,.l b=>ic a b
 |_,_=>false
noncomputable def ic:aG->List D->Bool
 |[],[]=>true
 |a::r,b::t=>bZ a b&&ic r t
 |_,_=>false
end
theorem yI{α:Sort _}{a b:α}(h:a=b):a=b:=h
@[simp] theorem bd8:bZ .n .n=true/\(∀y,bZ .n (.b y)=false)/\(∀y,bZ .n (.int y)=false)/\(∀y,bZ .n (.str y)=false)/\(∀y,bZ .n (.t y)=false)/\(∀y,bZ .n (.l y)=false)/\(∀x,bZ (.b x) .n=false):=by and_intros<;>(intros;rfl)
@[simp] theorem bt5:bZ (.b x) (.b y)=decide (x=y):=yI (Yg _ _)
@[simp] theorem bi5:(∀x y,bZ (.b x) (.int y)=((if x then 1 else 0)==y))/\(∀x y,bZ (.b x) (.str y)=false)/\(∀x y,bZ (.b x) (.t y)=false)/\(∀x y,bZ (.b x) (.l y)=false)/\(∀x,bZ (.int x) .n=false)/\(∀x y,bZ (.int x) (.b y)=(x==(if y then 1 else 0))):=by and_intros<;>intros<;>rfl
@[simp] theorem be2:bZ (.int x) (.int y)=decide (x=y):=yI (Yg _ _)
@[simp] theorem be0:(∀x y,bZ (.int x) (.str y)=false)/\(∀x y,bZ (.int x) (.t y)=false)/\(∀x y,bZ (.int x) (.l y)=false)/\(∀x,bZ (.str x) .n=false)/\(∀x y,bZ (.str x) (.b y)=false)/\(∀x y,bZ (.str x) (.int y)=false):=by and_intros<;>intros<;>rfl
@[simp] theorem kJ:bZ (.str x) (.str y)=decide (x=y):=yI (Yg _ _)
@[simp] theorem bJ7:(∀x y,bZ (.str x) (.t y)=false)/\(∀x y,bZ (.str x) (.l y)=false)/\(∀x,bZ (.t x) .n=false)/\(∀x y,bZ (.t x) (.b y)=false)/\(∀x y,bZ (.t x) (.int y)=false)/\(∀x y,bZ (.t x) (.str y)=false):=by and_intros<;>intros<;>rfl
@[simp] theorem Si(x:aG)(y:aG):bZ (.t x) (.t y)=ic x y:=yI rfl
@[simp] theorem bJ5:(∀x y,bZ (.t x) (.l y)=false)/\(∀x,bZ (.l x) .n=false)/\(∀x y,bZ (.l x) (.b y)=false)/\(∀x y,bZ (.l x) (.int y)=false)/\(∀x y,bZ (.l x) (.str y)=false)/\(∀x y,bZ (.l x) (.t y)=false):=by and_intros<;>intros<;>rfl
@[simp] theorem Sj(x:aG)(y:aG):bZ (.l x) (.l y)=ic x y:=yI rfl
@[simp] theorem bI5:ic [] []=true/\(∀a r b t,ic (a::r) (b::t)=(bZ a b&&ic r t))/\(∀b t,ic [] (b::t)=false)/\(∀b t,ic (b::t) []=false):=by and_intros<;>(intros;rfl)
mutual
noncomputable def c7:D->Nat
 |.t xs=>eQ xs+1
 |.l xs=>eQ xs+1
 |.opq=>1000
 |.c _ _=>1000
 |_=>0
noncomputable def eQ:aG->Nat
 |[]=>0
 |d::r=>max (c7 d) (eQ r)
end
@[simp] theorem V4:c7 .opq=1000:=rfl
@[simp] theorem V5:c7 (.c ks vs)=1000:=rfl
@[simp] theorem cB4:c7 .n=0:=rfl
@[simp] theorem cH6(b:Bool):c7 (.b b)=0:=rfl
@[simp] theorem cB5(i:Int):c7 (.int i)=0:=rfl
@[simp] theorem cB3(x:Str):c7 (.str x)=0:=rfl
@[simp] theorem vr:c7 (.t xs)=eQ xs+1:=rfl
@[simp] theorem vw:c7 (.l xs)=eQ xs+1:=rfl
@[simp] theorem cu1:eQ []=0:=rfl
@[simp] theorem Hj:eQ (d::r)=max (c7 d) (eQ r):=rfl
noncomputable def BZ(i:Int):Bool:=decide (i.natAbs<2^1000)
def gR(i j:Int):Bool:=decide (i.natAbs<2^64)||decide (j.natAbs<2^64)||(BZ i&&BZ j)
noncomputable def fN(j:Int):Bool:=decide (j≠0)&&decide (j.natAbs<2^1000)
noncomputable def mj:D->Option Int
 |.int i=>some i
 |_=>none
noncomputable abbrev _root_.fA:=Option D
def ql(g:Int->Int->Option D)(x y:D):fA:=aF (mj x) λ i=>aF (mj y) (g i)
theorem qS(e:ql g x y=some d):∃i j,x=.int i/\y=.int j/\g i j=some d:=by
 cases x with
 |int i=>
  cases y with
  |int j=>exact⟨i,j,rfl,rfl,e⟩
  |_=>cases e
 |_=>cases e
noncomputable def cu:D->D->Option D
 |.int i,.int j=>some (.int (i+j))
 |.str a,.str b=>if a.length+b.length<=sizeLine then some (.str (a++b))else none
 |.l a,.l b=>if a.length+b.length<=sizeLine then some (.l (a++b))else none
 |_,_=>none
def ke:D->D->Option D:=ql λ i j=>some (.int (i-j))
def i_:D->D->Option D:=ql λ i j=>if gR i j=true then some (.int (i*j))else none
def nY:D->D->Option D:=ql λ i j=>if fN j=true then some (.int (i.fdiv j))else none
def cV:D->D->Option D:=ql λ i j=>if j≠0 then some (.int (i.fmod j))else none
def fS:D->D->Option D:=ql λ i j=>if 0<=j/\j<=64/\i.natAbs<2^64 then some (.int (i^j.toNat))else none
noncomputable def rf:D->Option D
 |.int i=>some (.int (-i))
 |_=>none
def ub(p:Int->Int->Bool):D->D->Option D:=ql λ i j=>some (.b (p i j))
def gB:D->D->Option D:=ub λ i j=>decide (i<j)
def fR:D->D->Option D:=ub λ i j=>decide (i<=j)
def lB:D->D->Option D:=ub λ i j=>decide (j<i)
def ot:D->D->Option D:=ub λ i j=>decide (j<=i)
def bM(x y:D):fA:=if c7 x<=30/\c7 y<=30 then some (.b (bZ x y))else none
def dv(x y:D):fA:=if c7 x<=30/\c7 y<=30 then some (.b (!bZ x y))else none
noncomputable def jE:D->Bool
 |.n=>true
 |_=>false
@[simp] theorem cz0:jE .opq=false:=rfl
@[simp] theorem cz4(ks:aP)(vs:aG):jE (.c ks vs)=false:=rfl
@[simp] theorem cz1:jE .n=true:=rfl
@[simp] theorem cF3(b:Bool):jE (.b b)=false:=rfl
@[simp] theorem cz3(b:Int):jE (.int b)=false:=rfl
@[simp] theorem cy9(b:Str):jE (.str b)=false:=rfl
@[simp] theorem cy8(b:aG):jE (.t b)=false:=rfl
@[simp] theorem cz2(b:aG):jE (.l b)=false:=rfl
def mm(x y:D):fA:=match y with
 |.n=>some (.b (jE x))
 |_=>none
def vM(x y:D):fA:=match y with
 |.n=>some (.b (!jE x))
 |_=>none
noncomputable def og:D->Option Bool
 |.n=>some false
 |.b b=>some b
 |.int i=>some (i != 0)
 |.l xs=>some (!xs.isEmpty)
 |.t xs=>some (!xs.isEmpty)
 |_=>none
def iq(n:Nat)(i:Int):Option Nat:=if 0<=i then(if i<n then some i.toNat else none)else if -(n:Int)<=i then some (i+n).toNat else none
def cw(xs:aG)(i:Int):fA:=(iq xs.length i).bind λ j=>xs[j]?
def jQ(n d:Nat):eO->Nat
 |none=>d
 |some v=>if v<0 then(v+(n:Int)).toNat else min v.toNat n
theorem rb(n d k:Nat):jQ n d (some (k:Int))=min k n:=by show(if(k:Int)<0 then((k:Int)+(n:Int)).toNat else min (k:Int).toNat n)=_;exact if_neg (Int.not_lt.mpr (Int.natCast_nonneg k))
def eg(xs:aG)(lo hi:eO):aG:=(xs.drop (jQ xs.length 0 lo)).take (jQ xs.length xs.length hi-jQ xs.length 0 lo)
def mX:aG->Option D
 |[.int i]=>some (.int (if i<0 then -i else i))
 |_=>none
def qU:aG->Option (eB)
 |[]=>some []
 |.int i::r=>aF (qU r) λ is=>some (i::is)
 |_=>none
theorem Sg(i:Int)(r:aG):qU (.int i::r)=aF (qU r) λ is=>some (i::is):=rfl
noncomputable def mh:Int->List Int->Int
 |m,[]=>m
 |m,x::r=>mh (if x<m then x else m) r
noncomputable def mi:Int->List Int->Int
 |m,[]=>m
 |m,x::r=>mi (if m<x then x else m) r
def CJ(f:Int->List Int->Int):eB->Option D
 |[]=>none
 |i::r=>some (.int (f i r))
def oi:aG->Option D
 |[.int i,.int j]=>some (.int (if j>i then j else i))
 |[.l xs]=>aF (qU xs) λ is=>CJ mi is
 |_=>none
def t7:aG->Option D
 |[.int i,.int j]=>some (.int (if j<i then j else i))
 |[.l xs]=>aF (qU xs) λ is=>CJ mh is
 |_=>none
def lh:aG->Option (List Bool)
 |[]=>some []
 |.b b::r=>aF (lh r) λ bs=>some (b::bs)
 |_=>none
theorem SR(b:Bool)(r:aG):lh (.b b::r)=aF (lh r) λ bs=>some (b::bs):=rfl
def gf:aG->Option D
 |[.l xs]=>aF (lh xs) λ bs=>some (.b (bs.all id))
 |_=>none
inductive Ty where
 |int|bool|str|tuple|list
noncomputable def iP:Ty->D->Bool
 |.int,.int _=>true
 |.int,.b _=>true
 |.bool,.b _=>true
 |.str,.str _=>true
 |.tuple,.t _=>true
 |.list,.l _=>true
 |_,_=>false
def D6(J:En):Option Sl->Option (D×En)
 |some (.i d)=>some (d,J)
 |_=>none
abbrev _root_.bK:=Option (D×En)
def eV(i:Nat)(J:En):bK:=D6 J J[i]?
def eC(d:D)(J:En):bK:=some (d,J)
abbrev zI(n:Int):=eC (.int n)
abbrev zR(x:Str):=eC (.str x)
def e1(op:D->Option D)(F:FE)(J:En):bK:=aF (F J) λ p=>aF (op p.1) λ d=>some (d,p.2)
def e2(op:D->D->Option D)(F G:FE)(J:En):bK:=aF (F J) λ p=>aF (G p.2) λ q=>aF (op p.1 q.1) λ d=>some (d,q.2)
noncomputable def iS:D->Option Bool
 |.b b=>some b
 |_=>none
def e3(op O:D->D->Option D)(F G L:FE)(J:En):bK:=aF (F J) λ p=>aF (G p.2) λ q=>aF (op p.1 q.1) λ z=>aF (iS z) λ b=>
 if b=true then aF (L q.2) λ r=>aF (O q.1 r.1) λ d=>some (d,r.2)else some (.b false,q.2)
def aN(J:En):Option (aG×En):=some ([],J)
def aC(F:FE)(A:FA)(J:En):Option (aG×En):=aF (F J) λ p=>aF (A p.2) λ q=>some (p.1::q.1,q.2)
def df(A:FA)(J:En):bK:=aF (A J) λ p=>if p.1.length<=1000 then some (.t p.1,p.2)else none
def cY(A:FA)(J:En):bK:=aF (A J) λ p=>if p.1.length<=1000 then some (.l p.1,p.2)else none
def eF(g:aG->Option D)(A:FA)(J:En):bK:=aF (A J) λ p=>aF (g p.1) λ d=>some (d,p.2)
def pN(t:Ty)(F:FE)(J:En):bK:=aF (F J) λ p=>some (.b (iP t p.1),p.2)
abbrev FO:=En->Option (eO×En)
def oN(J:En):Option (eO×En):=some (none,J)
def oS(F:FE)(J:En):Option (eO×En):=aF (F J) λ p=>aF (mj p.1) λ i=>some (some i,p.2)
abbrev _root_.fq:=Option (Bool×En)
def tB(F:FE)(J:En):fq:=aF (F J) λ p=>aF (iS p.1) λ b=>some (b,p.2)
def tV(F:FE)(J:En):fq:=aF (F J) λ p=>aF (og p.1) λ b=>some (b,p.2)
def ey(T U:FT)(J:En):fq:=aF (T J) λ p=>if p.1=true then U p.2 else some (false,p.2)
def c_(T U:FT)(J:En):fq:=aF (T J) λ p=>if p.1=true then some (true,p.2)else U p.2
def cZ(T:FT)(J:En):fq:=aF (T J) λ p=>some (!p.1,p.2)
def bD(J:En):fq:=some (true,J)
def pM(T:FT)(F G:FE)(J:En):bK:=aF (T J) λ p=>if p.1=true then F p.2 else G p.2
def eG(F G:FE)(J:En):bK:=aF (F J) λ p=>aF (iS p.1) λ b=>if b=true then G p.2 else some (.b false,p.2)
def iV(F G:FE)(J:En):bK:=aF (F J) λ p=>aF (iS p.1) λ b=>if b=true then some (.b true,p.2)else G p.2
noncomputable def yF:Option Sl->Option Sl
 |some (.i d)=>some (.i d)
 |_=>none
def fj(J:En):dr->Option En
 |[]=>some []
 |j::js=>aF (yF J[j]?) λ s=>aF (fj J js) λ r=>some (s::r)
theorem IS(J:En):fj J []=some []:=rfl
theorem O7(J:En)(j:Nat)(js:dr):fj J (j::js)=aF (yF J[j]?) λ s=>aF (fj J js) λ r=>some (s::r):=rfl
def du(T:FT)(F:FE)(fr:En):aG->Option (aG)
 |[]=>some []
 |d::r=>aF (T (.i d::fr)) λ p=>if p.1=true then aF (F p.2) λ q=>aF (du T F fr r) λ t=>some (q.1::t)else du T F fr r
theorem Pq(T:FT)(F:FE)(fr:En):du T F fr []=some []:=rfl
theorem SV(T:FT)(F:FE)(fr:En)(d:D)(r:aG):du T F fr (d::r)=aF (T (.i d::fr)) λ p=>if p.1=true then aF (F p.2) λ q=>aF (du T F fr r) λ t=>some (q.1::t)else du T F fr r:=rfl
noncomputable def cJ(c:Nat):Str:=⟨#[c]⟩
def km(z:Str):aG:=z.cps.toList.map λ c=>.str (cJ c)
def items:D->Option (aG)
 |.l xs=>some xs
 |.t xs=>some xs
 |.str z=>some (km z)
 |_=>none
def c4(js:dr)(I:FE)(T:FT)(F:FE)(J:En):bK:=aF (I J) λ p=>aF (items p.1) λ xs=>aF (fj p.2 js) λ fr=>aF (du T F fr xs) λ ys=>if xs.length<=sizeLine then some (.l ys,p.2)else none
noncomputable abbrev _root_.c8:=Option jP
def sN(J:En):c8:=some (.nx J)
def MM(G:FS):jP->Option jP
 |.nx ρ'=>G ρ'
 |.rt d J=>some (.rt d J)
 |.bk J=>some (.bk J)
 |.ct J=>some (.ct J)
def aL(F G:FS)(J:En):c8:=aF (F J) λ r=>MM G r
def bN(i:Nat)(F:FE)(J:En):c8:=aF (F J) λ p=>some (.nx (p.2.set i (.i p.1)))
def lY:dr->List D->En->En
 |i::is,d::ds,J=>lY is ds (J.set i (.i d))
 |_,_,J=>J
theorem Sa(i:Nat)(is:dr)(d:D)(ds:aG)(J:En):lY (i::is) (d::ds) J=lY is ds (J.set i (.i d)):=rfl
theorem S3(ds:aG)(J:En):lY [] ds J=J:=by cases ds<;>rfl
def Cf:D->Option (aG)
 |.t xs=>some xs
 |.l xs=>some xs
 |_=>none
def gN(i:Nat)(d:D)(J:En):Option En:=some (J.set i (.i d))
def gT(is:dr)(d:D)(J:En):Option En:=aF (Cf d) λ xs=>if xs.length=is.length then some (lY is xs J)else none
def CS(is:dr)(F:FE)(J:En):c8:=aF (F J) λ p=>aF (gT is p.1 p.2) λ ρ'=>some (.nx ρ')
def bG(T:FT)(F G:FS)(J:En):c8:=aF (T J) λ p=>if p.1=true then F p.2 else G p.2
def bJ(F:FE)(J:En):c8:=aF (F J) λ p=>some (.rt p.1 p.2)
def Dy(G:FS):jP->Option jP
 |.nx J=>G J
 |.ct J=>G J
 |.bk J=>some (.nx J)
 |.rt d J=>some (.rt d J)
def dh(g:D->En->Option En)(B:FS):aG->FS
 |[],J=>some (.nx J)
 |d::r,J=>aF (g d J) λ q=>aF (B q) λ z=>Dy (dh g B r) z
theorem Pb(g:D->En->Option En)(B:FS)(J:En):dh g B [] J=some (.nx J):=rfl
theorem SN(g:D->En->Option En)(B:FS)(d:D)(r:aG)(J:En):dh g B (d::r) J=aF (g d J) λ q=>aF (B q) λ z=>Dy (dh g B r) z:=rfl
def oh(g:D->En->Option En)(F:FE)(B:FS)(J:En):c8:=aF (F J) λ p=>aF (items p.1) λ xs=>dh g B xs p.2
def dz(lo:Int):Nat->List D
 |0=>[]
 |n+1=>.int lo::dz (lo+1) n
def dZ(F:FE)(J:En):Option (aG×En):=aF (F J) λ p=>aF (mj p.1) λ j=>if -(2^62)<=j/\j<2^62 then some (dz 0 j.toNat,p.2)else none
def uf(F G:FE)(J:En):Option (aG×En):=aF (F J) λ p=>aF (G p.2) λ q=>aF (mj p.1) λ i=>aF (mj q.1) λ j=>
 if -(2^62)<=i/\i<2^62/\-(2^62)<=j/\j<2^62 then some (dz i (j-i).toNat,q.2)else none
def kg(g:D->En->Option En)(R:FA)(B:FS)(J:En):c8:=aF (R J) λ p=>dh g B p.1 p.2
def t5(A:FA)(J:En):Option (aG×En):=aF (A J) λ p=>if p.1.length<=1000 then some p else none
def m1(i:Nat)(A:FA)(J:En):c8:=aF (A J) λ p=>some (.nx (p.2.set i (.o false (.l p.1))))
def jH:Option Sl->Option (aG)
 |some (.o false (.l ds))=>some ds
 |_=>none
def pk(i:Nat)(F:FE)(J:En):c8:=aF (jH J[i]?) λ _=>aF (F J) λ p=>aF (jH p.2[i]?) λ ds=>if ds.length<1000000 then some (.nx (p.2.set i (.o false (.l (ds++[p.1])))))else none
def frz(i:Nat)(J:En):En:=match J[i]? with
 |some (.o false (.l ds))=>J.set i (.i (.l ds))
 |_=>J
def jT(i:Nat)(F:FS)(J:En):c8:=F (frz i J)
def mq(js:dr)(R:FA)(T:FT)(F:FE)(J:En):bK:=aF (R J) λ p=>aF (fj p.2 js) λ fr=>aF (du T F fr p.1) λ ys=>if p.1.length<=sizeLine then some (.l ys,p.2)else none
noncomputable def xa:jP->Option D
 |.rt d _=>some d
 |.nx _=>some .n
 |_=>none
def dH(n k:Nat)(B:FS)(ds:aG):fA:=if ds.length=n then aF (B (ds.map .i++List.replicate k .z)) λ r=>xa r else none
end Fx
namespace Fx
open PySem PySem.Spec PyProof.Rows L2
mutual
noncomputable def aU(K:Frag)(H:Hp):D->V->Prop
 |.n,v=>v=.n
 |.b b,v=>v=.b b
 |.int i,v=>v=.int i
 |.str x,v=>v=.str x
 |.t ds,v=>∃a vs,v=.ref a/\d8 K H a vs/\aB K H ds vs
 |.l ds,v=>∃a vs,v=.ref a/\c9 K H a vs/\aB K H ds vs
 |.opq,v=>∃a kvs,v=.ref a/\H a=some (.dK kvs)
 |.c ks ds,v=>∃a o vs,v=.ref a/\H a=some (.frz o (.dK ((ks.map Sum.inr).zip vs)))/\aB K H ds vs/\ks.length=ds.length
noncomputable def aB(K:Frag)(H:Hp):aG->List V->Prop
 |[],vs=>vs=[]
 |d::ds,vs=>∃v r,vs=v::r/\aU K H d v/\aB K H ds r
end
theorem aE.rd(e:aE H H')(h:Rd H a u):Rd H' a u:=by grind[aE,Rd]
theorem aE.seqT{K:Frag}(e:aE H H')(h:d8 K H a xs):d8 K H' a xs:=by
 rcases h with h|h
 .exact .inl (aE.rd e h)
 .exact .inr h
section
variable{K:Frag}
mutual
theorem aU.mono(e:aE H H'):∀(d:D){v:V},aU K H d v->aU K H' d v
 |.n,_,h=>h
 |.b _,_,h=>h
 |.int _,_,h=>h
 |.str _,_,h=>h
 |.t ds,_,h=>by
  unfold aU at h⊢;obtain⟨a,vs,q,s,r⟩:=h;exact⟨a,vs,q,aE.seqT e s,aB.mono e ds r⟩
 |.l ds,_,h=>by
  unfold aU at h⊢;obtain⟨a,vs,q,s,r⟩:=h;exact⟨a,vs,q,aE.seq e s,aB.mono e ds r⟩
 |.opq,_,h=>by
  unfold aU at h⊢;obtain⟨a,kvs,q,s⟩:=h;exact⟨a,kvs,q,e _ _ s⟩
 |.c ks ds,_,h=>by
  unfold aU at h⊢;obtain⟨a,o,vs,q,s,r,l⟩:=h;exact⟨a,o,vs,q,e _ _ s,aB.mono e ds r,l⟩
theorem aB.mono(e:aE H H'):∀(ds:aG){vs:bY},aB K H ds vs->aB K H' ds vs
 |[],_,h=>h
 |d::ds,_,h=>by
  unfold aB at h⊢;obtain⟨v,r,q,s,t⟩:=h;exact⟨v,r,q,aU.mono e d s,aB.mono e ds t⟩
end
theorem aB.length:∀{ds:aG}{vs:bY},aB K H ds vs->ds.length=vs.length:=by intro a;induction a<;>grind[aB]
theorem aB.get:∀{ds:aG}{vs:bY}{i:Nat}{d:D},aB K H ds vs->ds[i]?=some d->∃v,vs[i]?=some v/\aU K H d v
 |[],_,_,_,_,e=>by simp at e
 |d::ds,_,0,_,h,e=>by
  obtain⟨v,r,rfl,s,_⟩:=h;simp at e;subst e;exact⟨v,rfl,s⟩
 |d::ds,_,i+1,c,h,e=>by
  obtain⟨v,r,rfl,_,t⟩:=h;obtain⟨w,a,b⟩:=aB.get t (by simpa using e);exact⟨w,by simpa using a,b⟩
theorem aB.app:∀{ds es:aG}{vs ws:bY},aB K H ds vs->aB K H es ws->aB K H (ds++es) (vs++ws)
 |[],_,_,_,h,h'=>by rw[h];exact h'
 |d::ds,es,_,ws,h,h'=>by
  obtain⟨v,r,rfl,s,t⟩:=h;exact⟨v,r++ws,rfl,s,aB.app t h'⟩
theorem aB.take:∀{ds:aG}{vs:bY}(n:Nat),aB K H ds vs->aB K H (ds.take n) (vs.take n)
 |[],_,n,h=>by rw[h];simp[aB]
 |d::ds,vs,0,h=>by simp[aB]
 |d::ds,_,n+1,h=>by
  obtain⟨v,r,rfl,s,t⟩:=h;exact⟨v,r.take n,rfl,s,aB.take n t⟩
theorem aB.drop:∀{ds:aG}{vs:bY}(n:Nat),aB K H ds vs->aB K H (ds.drop n) (vs.drop n)
 |[],_,n,h=>by rw[h];simp[aB]
 |d::ds,vs,0,h=>by simpa using h
 |d::ds,_,n+1,h=>by
  obtain⟨v,r,rfl,s,t⟩:=h;simpa using aB.drop n t
theorem aB.one(h:aU K H d v):aB K H [d] [v]:=by exact⟨v,[],rfl,h,rfl⟩
theorem aB.cons(h:aU K H d v)(t:aB K H ds vs):aB K H (d::ds) (v::vs):=by exact⟨v,vs,rfl,h,t⟩
theorem aB.nil_:aB K H [] []:=by rfl
end
structure FC where
 Hi:Hp
 He:Hp
 Ap:fB
def fQ(K:Frag)(H0 H:Hp)(a:Addr):MO->Prop
 |.l ds=>∃vs,H a=some (.l vs)/\aB K H0 ds vs
 |.d kds=>∃ks vs,H a=some (.dK ((ks.map Sum.inr).zip vs))/\ks=kds.map (·.1)/\aB K H0 (kds.map (·.2)) vs
structure RS(K:Frag)(c:FC)(H0 H:Hp)(J:En)(S:L2.St):Prop where
 same:aE H0 H
 init:aE c.Hi H0
 fresh:∀b o,H0 b=some o->c.Hi b=some o\/c.He b=none
 keep:∀b o,c.He b=some o->b∉c.Ap->H b=some o
 apt:∀a∈c.Ap,H a≠none
 len:J.length=S.length
 im:∀(i:Nat)(d:D),J[i]?=some (.i d)->∃v,S[i]?=some (some v)/\aU K H0 d v
 ow:∀(i:Nat)(b:Bool)(o:MO),J[i]?=some (.o b o)->∃a,S[i]?=some (some (.ref a))/\H0 a=none/\(if b=true then a∈c.Ap else c.He a=none)/\fQ K H0 H a o
 ne:∀(i j:Nat)(b b':Bool)(o o':MO)(a:Addr),J[i]?=some (.o b o)->J[j]?=some (.o b' o')->S[i]?=some (some (.ref a))->S[j]?=some (some (.ref a))->i=j
section
variable{K:Frag}
theorem fQ.some(h:fQ K H0 H a o):∃u,H a=Option.some u:=by
 cases o with
 |l ds=>obtain⟨vs,e,_⟩:=h;exact⟨_,e⟩
 |d ds=>obtain⟨b,vs,e,_⟩:=h;exact⟨_,e⟩
theorem fQ.step(h:fQ K H0 H a o)(O:aE H0 aV)(s:∀u,H a=Option.some u->H' a=Option.some u):fQ K aV H' a o:=by
 cases o with
 |l ds=>obtain⟨vs,e,r⟩:=h;exact⟨vs,s _ e,aB.mono O ds r⟩
 |d ds=>obtain⟨b,vs,e,q,r⟩:=h;exact⟨b,vs,s _ e,q,aB.mono O _ r⟩
structure bS(H0 H aV H':Hp):Prop where
 s0:aE H0 aV
 s:aE H H'
 s':aE aV H'
 fr:∀b o,aV b=some o->H0 b=some o\/H b=none
theorem RS.after(R:RS K c H0 H J S)(σ:bS H0 H aV H'):RS K c aV H' J S:=by
 refine⟨σ.s',R.init.trans σ.s0,λ b o e=>?_,λ b o e n=>σ.s _ _ (R.keep b o e n),λ a Y e=>?_,R.len,λ i d e=>?_,λ i b o e=>?_,R.ne⟩
 .rcases σ.fr b o e with h|h
  .exact R.fresh b o h
  .refine .inr ?_;cases q:c.He b with
   |none=>rfl
   |some u=>
    by_cases O:b∈c.Ap
    .exact absurd h (R.apt b O)
    .rw[R.keep b u q O]at h;cases h
 .cases q:H a with
  |none=>exact R.apt a Y q
  |some u=>rw[σ.s _ _ q]at e;cases e
 .obtain⟨v,a,b⟩:=R.im i d e;exact⟨v,a,aU.mono σ.s0 d b⟩
 .obtain⟨a,x,y,z,w⟩:=R.ow i b o e;refine⟨a,x,?_,z,w.step σ.s0 λ u q=>σ.s _ _ q⟩;obtain⟨u,q⟩:=w.some;cases t:aV a with
  |none=>rfl
  |some f=>
   rcases σ.fr a f t with h|h
   .rw[y]at h;cases h
   .rw[q]at h;cases h
theorem bS.refl(s:aE H0 H):bS H0 H H0 H:=⟨aE.refl _,aE.refl _,s,λ _ _ e=>.inl e⟩
theorem bS.trans(x:bS H0 H aV H')(y:bS aV H' A B):bS H0 H A B:=by
 refine⟨x.s0.trans y.s0,x.s.trans y.s,y.s',λ b o e=>?_⟩;rcases y.fr b o e with h|h
 .exact x.fr b o h
 .exact .inr (x.s.free h)
theorem bS.alloc(s:aE H0 H)(O:H p=none):bS H0 H (upd H0 p o) (upd H p o):=by
 have Y:=s.free O;refine⟨λ b u e=>by rw[bX (iU e Y)];exact e,λ b u e=>by rw[bX (iU e O)];exact e,λ b u e=>?_,λ b u e=>?_⟩
 .by_cases q:b=p
  .grind[cM]
  .rw[bX q]at e⊢;exact s _ _ e
 .grind[bX]
end
def tE(K:Frag)(F:FE):TE:=λ S H Q=>∃c H0 J d ρ',RS K c H0 H J S/\F J=some (d,ρ')/\∀v aV H',aE H0 aV->RS K c aV H' ρ' S->aU K aV d v->Q v H'
def lT(K:Frag)(F:FT):TT:=λ S H Q=>∃c H0 J b ρ',RS K c H0 H J S/\F J=some (b,ρ')/\∀aV H',aE H0 aV->RS K c aV H' ρ' S->Q b H'
def D9(K:Frag)(F:FA):TA:=λ S H Q=>∃c H0 J ds ρ',RS K c H0 H J S/\F J=some (ds,ρ')/\∀vs aV H',aE H0 aV->RS K c aV H' ρ' S->aB K aV ds vs->Q vs H'
def tOo(K:Frag)(F:FO):TO:=λ S H Q=>∃c H0 J o ρ',RS K c H0 H J S/\F J=some (o,ρ')/\∀aV H',aE H0 aV->RS K c aV H' ρ' S->Q o H'
def XE(X:Cx)(e:Expr)(F:FE):Prop:=PE X e (tE X.K F)
def XT(X:Cx)(e:Expr)(F:FT):Prop:=PT X e (lT X.K F)
def XW(X:Cx)(e:Expr)(F:FT):Prop:=PW X e (lT X.K F)
def XA(X:Cx)(es:eH)(F:FA):Prop:=PA X es (D9 X.K F)
def XO(X:Cx)(e:Option Expr)(F:FO):Prop:=PO X e (tOo X.K F)
theorem aS(h:aF x f=some b):∃a,x=some a/\f a=some b:=by
 cases x with
 |none=>cases h
 |some a=>exact⟨a,rfl,h⟩
theorem PE.wk(h:PE X e t)(w:∀S H Q,t' S H Q->t S H Q):PE X e t':=λ aA s S H Q I q=>h aA s S H Q I (w S H Q q)
theorem PT.wk(h:PT X e t)(w:∀S H Q,t' S H Q->t S H Q):PT X e t':=λ aA s S H Q I q=>h aA s S H Q I (w S H Q q)
theorem PW.wk(h:PW X e t)(w:∀S H Q,t' S H Q->t S H Q):PW X e t':=λ O aA s S H Q I q=>h O aA s S H Q I (w S H Q q)
theorem PA.wk(h:PA X e t)(w:∀S H Q,t' S H Q->t S H Q):PA X e t':=λ pos aA s S H Q I q=>h pos aA s S H Q I (w S H Q q)
theorem PS.wk(h:PS X e t)(w:∀D S H,t' D S H->t D S H):PS X e t':=λ aA s S H D I q=>h aA s S H D I (w D S H q)
theorem eE.wk(h:eE X e t)(w:∀D S H,t' D S H->t D S H):eE X e t':=λ aA s S H D I q=>h aA s S H D I (w D S H q)
section
theorem xv(i:Nat)(hN:X.N[i]?=some x:=by rfl)(Z:jR X.v.scope x:=by exact nE)(hd:dJ x:=by decide)(Y:jZ x:=by decide):XE X (.Name x pos) (eV i):=
 PE.wk (lI hN Z hd Y) λ S H Q O=>by
  obtain⟨c,H0,J,d,g,R,f,q⟩:=O;unfold eV at f;cases z:J[i]? with
  |none=>rw[z]at f;cases f
  |some e=>
   rw[z]at f;cases e with
   |z=>cases f
   |o b o=>cases f
   |i h=>
    have a:=f;cases a;obtain⟨v,e1,e2⟩:=R.im i _ z;exact⟨v,e1,q v H0 H (aE.refl _) R e2⟩
theorem o4(h:eC d J=some (d',ρ')):d'=d/\ρ'=J:=by have h':=h;cases h';exact⟨rfl,rfl⟩
theorem n4:XE X (.Constant (.int i) j pos) (zI i):=PE.wk sO λ S H Q O=>by
 obtain⟨c,H0,J,d,a,R,f,q⟩:=O;obtain⟨rfl,rfl⟩:=o4 f;exact q _ H0 H (aE.refl _) R (by rfl)
theorem xbl:XE X (.Constant (.bool i) j pos) (eC (.b i)):=PE.wk UP λ S H Q O=>by
 obtain⟨c,H0,J,d,a,R,f,q⟩:=O;obtain⟨rfl,rfl⟩:=o4 f;exact q _ H0 H (aE.refl _) R (by rfl)
theorem xX:XE X (.Constant .none j pos) (eC .n):=PE.wk Lf λ S H Q O=>by
 obtain⟨c,H0,J,d,a,R,f,q⟩:=O;obtain⟨rfl,rfl⟩:=o4 f;exact q _ H0 H (aE.refl _) R (by rfl)
theorem mn:XE X (.Constant (.str x) j pos) (eC (.str x)):=PE.wk G8 λ S H Q O=>by
 obtain⟨c,H0,J,d,a,R,f,q⟩:=O;obtain⟨rfl,rfl⟩:=o4 f;exact q _ H0 H (aE.refl _) R (by rfl)
abbrev zH(K:Frag)(c:FC)(H0:Hp)(J:En)(S:L2.St)(d:D)(Q:VK):Prop:=∀v aV H',aE H0 aV->RS K c aV H' J S->aU K aV d v->Q v H'
def jO(K:Frag)(r:R2)(op:D->D->Option D):Prop:=∀(c:FC)(H0 H:Hp)(J:En)(S:L2.St)(x y d:D)(O q:V)(Q:VK),RS K c H0 H J S->aU K H0 x O->aU K H0 y q->op x y=some d->zH K c H0 J S d Q->r O q H Q
def mW(X:Cx)(op:Operator)(f:D->D->Option D):Prop:=∃r,dB X (binaryOp op) r/\jO X.K r f
def gs(X:Cx)(op:CmpOp)(f:D->D->Option D):Prop:=∃r,dB X (compareOp op) r/\jO X.K r f
theorem nZ(h:e2 op F G J=some (d,ρ')):∃x q y,F J=some (x,q)/\G q=some (y,ρ')/\op x y=some d:=by obtain⟨⟨x,q⟩,a,h⟩:=aS h;obtain⟨⟨y,O⟩,b,h⟩:=aS h;obtain⟨z,Y,h⟩:=aS h;have h':=h;cases h';exact⟨x,q,y,a,b,Y⟩
theorem wq{K:Frag}(o:jO K r op)(h:tE K (e2 op F G) S H Q):uP r (tE K F) (tE K G) S H Q:=by
 obtain⟨c,H0,J,d,a,R,f,q⟩:=h;obtain⟨x,O,y,k,l,m⟩:=nZ f;refine⟨c,H0,J,x,O,R,k,λ t b w p i Z=>?_⟩;refine⟨c,b,O,y,a,i,l,λ u e dk Y R2 n=>?_⟩;exact o c e dk a S x y d t u Q R2 (aU.mono Y x Z) n m λ v g eN s j r3=>q v g eN (p.trans (Y.trans s)) j r3
theorem xb(o:mW X op f)(O:XE X a F)(q:XE X b G):XE X (.BinOp a op b pos) (e2 f F G):=by
 obtain⟨r,c,d⟩:=o;exact PE.wk (vS c O q) λ S H Q h=>wq d h
theorem tm(o:gs X op f)(Y:XE X a F)(O:XE X b G)(q:behindInMarks op b=false:=by first|exact B9 _|with_unfolding_all rfl):XE X (.Compare a [op] [b] pos) (e2 f F G):=by
 obtain⟨r,c,d⟩:=o;exact PE.wk (RQ c Y O q) λ S H Q h=>wq d h
theorem Bs{K:Frag}(w:∀Q,tE K F S H Q->t S H Q)(h:lT K (tB F) S H Q):Br t S H Q:=by
 obtain⟨c,H0,J,b,n,R,f,q⟩:=h;obtain⟨⟨d,O⟩,l,f⟩:=aS f;obtain⟨o,a,f⟩:=aS f;have j:=f;cases j;refine w _ ⟨c,H0,J,d,_,R,l,λ v g Z m i Y=>?_⟩;cases d with
 |b k=>
  have e:=qi a;exact⟨k,Y,by rw[e];exact q g Z m i⟩
 |_=>cases a
theorem xt(o:gs X op f)(Y:XE X a F)(O:XE X b G)(q:behindInMarks op b=false:=by first|exact B9 _|with_unfolding_all rfl):XT X (.Compare a [op] [b] pos) (tB (e2 f F G)):=by
 obtain⟨r,c,d⟩:=o;exact PT.wk (Tz c Y O q) λ S H Q h=>Bs (λ Q h=>wq d h) h
theorem HX{K:Frag}(o:jO K r op)(o':jO K r' Z)(h:tE K (e3 op Z F G L) S H Q):Bm r r' (tE K F) (tE K G) (tE K L) S H Q:=by
 obtain⟨c,H0,J,d,ρ',R,f,q⟩:=h;obtain⟨⟨x,Y⟩,I,f⟩:=aS f;obtain⟨⟨y,O⟩,ρ,f⟩:=aS f;obtain⟨z,M,f⟩:=aS f;obtain⟨k,l,f⟩:=aS f;refine⟨c,H0,J,x,Y,R,I,λ X t Hh p C σ=>?_⟩;refine⟨c,t,Y,y,O,C,ρ,λ s u dk b R2 n=>?_⟩;refine o c u dk O S x y z X s _ R2 (aU.mono b x σ) n M λ v i eN g j r3=>?_;cases z with
 |b m=>
  have e:=qi l;subst e;refine⟨m,r3,?_⟩;cases m with
  |false=>
   rw[if_neg yf]at f⊢;have a:=f;cases a;exact q _ i eN (p.trans (b.trans g)) j (by rfl)
  |true=>
   rw[if_pos rfl]at f⊢;obtain⟨⟨w,aa⟩,N,f⟩:=aS f;obtain⟨d',P,f⟩:=aS f;have a:=f;cases a;refine⟨c,i,O,w,_,j,N,λ W A Hh4 s4 D T=>?_⟩;exact o' c A Hh4 _ S y w d s W Q D (aU.mono s4 y (aU.mono g y n)) T P λ v B Hh5 V E U=>q v B Hh5 (p.trans (b.trans (g.trans (s4.trans V)))) E U
 |_=>cases l
theorem cv1{op q:CmpOp}{f Z:D->D->Option D}{m:Expr}(o:gs X op f)(o':gs X q Z)(ha:XE X a F)(hb:XE X b G)(hc:XE X m L)(hm:lastMarks [op,q] [b,m]=false:=by with_unfolding_all rfl):XE X (.Compare a [op,q] [b,m] pos) (e3 f Z F G L):=by
 obtain⟨r,c,d⟩:=o;obtain⟨e,O,Y⟩:=o';exact PE.wk (Ra c O ha hb hc hm) λ S H Q h=>HX d Y h
theorem xt3(o:gs X op f)(o':gs X q Z)(ha:XE X a F)(hb:XE X b G)(hc:XE X m L)(hm:lastMarks [op,q] [b,m]=false:=by with_unfolding_all rfl):XT X (.Compare a [op,q] [b,m] pos) (tB (e3 f Z F G L)):=by
 obtain⟨r,c,d⟩:=o;obtain⟨e,O,Y⟩:=o';exact PT.wk (PM c O ha hb hc hm) λ S H Q h=>Bs (λ Q h=>HX d Y h) h
theorem Es(hc:XT X c T)(ha:XE X a F)(hb:XE X b G):XE X (.IfExp c a b pos) (pM T F G):=PE.wk (PR hc ha hb) λ S H Q Y=>by
 obtain⟨c,H0,J,d,e,R,f,q⟩:=Y;obtain⟨⟨k,O⟩,m,f⟩:=aS f;refine⟨c,H0,J,k,O,R,m,λ i n l j=>?_⟩;cases k with
 |true=>
  rw[if_pos rfl]at f⊢;exact⟨c,i,O,d,e,j,f,λ v g dk Z R2 h=>q v g dk (l.trans Z) R2 h⟩
 |false=>
  rw[if_neg yf]at f⊢;exact⟨c,i,O,d,e,j,f,λ v g dk Z R2 h=>q v g dk (l.trans Z) R2 h⟩
theorem wV(h:XE X a F):XE X (.BoolOp op [a] pos) F:=Wq h
variable{rest:eH}
theorem t_(ha:XE X a F)(hb:XE X (.BoolOp .And (b::rest) pos) G):XE X (.BoolOp .And (a::b::rest) pos) (eG F G):=PE.wk (Wt ha hb) λ S H Q Y=>by
 obtain⟨c,H0,J,d,g,R,f,q⟩:=Y;obtain⟨⟨z,O⟩,p,f⟩:=aS f;obtain⟨k,j,f⟩:=aS f;refine⟨c,H0,J,z,O,R,p,λ v h n l i r=>?_⟩;cases z with
 |b Z=>
  have e:=qi j;subst e;refine⟨Z,r,?_⟩;cases Z with
  |true=>
   rw[if_pos rfl]at f⊢;exact⟨c,h,O,d,g,i,f,λ v m dk t R2 s=>q v m dk (l.trans t) R2 s⟩
  |false=>
   rw[if_neg yf]at f⊢;have o:=f;cases o;exact q _ h n l i (by rfl)
 |_=>cases j
theorem xor(ha:XE X a F)(hb:XE X (.BoolOp .Or (b::rest) pos) G):XE X (.BoolOp .Or (a::b::rest) pos) (iV F G):=PE.wk (UO ha hb) λ S H Q Y=>by
 obtain⟨c,H0,J,d,g,R,f,q⟩:=Y;obtain⟨⟨z,O⟩,p,f⟩:=aS f;obtain⟨k,j,f⟩:=aS f;refine⟨c,H0,J,z,O,R,p,λ v h n l i r=>?_⟩;cases z with
 |b Z=>
  have e:=qi j;subst e;refine⟨Z,r,?_⟩;cases Z with
  |true=>
   rw[if_pos rfl]at f⊢;have o:=f;cases o;exact q _ h n l i (by rfl)
  |false=>
   rw[if_neg yf]at f⊢;exact⟨c,h,O,d,g,i,f,λ v m dk t R2 s=>q v m dk (l.trans t) R2 s⟩
 |_=>cases j
theorem xw(h:XW X a T):XT X a T:=PW.pt h
theorem v_0(q:XT X a T):XW X (.BoolOp .And [a] pos) T:=RJ q
theorem n5(q:XT X a T):XW X (.BoolOp .Or [a] pos) T:=Wg q
theorem N4(ha:XT X a T)(hb:XW X (.BoolOp .And (b::rest) pos) U):XW X (.BoolOp .And (a::b::rest) pos) (ey T U):=PW.wk (Wh ha hb) λ S H Q Y=>by
 obtain⟨c,H0,J,k,d,R,f,q⟩:=Y;obtain⟨⟨Z,O⟩,m,f⟩:=aS f;refine⟨c,H0,J,Z,O,R,m,λ e j h g=>?_⟩;cases Z with
 |true=>
  rw[if_pos rfl]at f⊢;exact⟨c,e,O,k,d,g,f,λ i dk n R2=>q i dk (h.trans n) R2⟩
 |false=>
  rw[if_neg yf]at f⊢;have l:=f;cases l;exact q e j h g
theorem kk(ha:XT X a T)(hb:XW X (.BoolOp .Or (b::rest) pos) U):XW X (.BoolOp .Or (a::b::rest) pos) (c_ T U):=PW.wk (UN ha hb) λ S H Q Y=>by
 obtain⟨c,H0,J,k,d,R,f,q⟩:=Y;obtain⟨⟨Z,O⟩,m,f⟩:=aS f;refine⟨c,H0,J,Z,O,R,m,λ e j h g=>?_⟩;cases Z with
 |true=>
  rw[if_pos rfl]at f⊢;have l:=f;cases l;exact q e j h g
 |false=>
  rw[if_neg yf]at f⊢;exact⟨c,e,O,k,d,g,f,λ i dk n R2=>q i dk (h.trans n) R2⟩
theorem o9(ha:XT X a T):XT X (.UnaryOp .Not a pos) (cZ T):=PT.wk (Wk ha) λ S H Q O=>by
 obtain⟨c,H0,J,k,j,R,f,q⟩:=O;obtain⟨⟨Z,Y⟩,h,f⟩:=aS f;have g:=f;cases g;exact⟨c,H0,J,Z,_,R,h,λ b d i e=>q b d i e⟩
theorem KY{K:Frag}(s:aE H0 H)(r:aU K H0 d v)(h:og d=some k):Ct K v H k:=by
 cases d with
 |n=>unfold aU at r;subst r;cases h;rfl
 |b b=>unfold aU at r;subst r;cases h;rfl
 |int i=>unfold aU at r;subst r;cases h;rfl
 |str x=>cases h
 |opq=>cases h
 |c a vs=>cases h
 |t ds=>
  obtain⟨p,vs,rfl,q,t⟩:=r;have e:=qi h;have e2:ds.isEmpty=vs.isEmpty:=by rw[zo,j6,j6,t.length]
  exact .inr (.inl ⟨vs,aE.seqT s q,by grind⟩)
 |l ds=>
  obtain⟨p,vs,rfl,q,t⟩:=r;have e:=qi h;have e2:ds.isEmpty=vs.isEmpty:=by rw[zo,j6,j6,t.length]
  exact .inl ⟨vs,aE.seq s q,by grind⟩
theorem mH(ha:XE X a F)(he:∀O,isTrue a X.v O=(do let v<-O;standAt a.pos;holding [v] (truthy v))):XT X a (tV F):=PT.wk (PJ ha he) λ S H Q Y=>by
 obtain⟨c,H0,J,k,n,R,f,q⟩:=Y;obtain⟨⟨d,Z⟩,i,f⟩:=aS f;obtain⟨o,j,f⟩:=aS f;have h:=f;cases h;exact⟨c,H0,J,d,_,R,i,λ v e g m b l=>⟨k,KY b.same l j,q e g m b⟩⟩
theorem eP:XA X [] aN:=PA.wk k7 λ S H Q O=>by
 obtain⟨c,H0,J,ds,a,R,f,q⟩:=O;have Y:=f;cases Y;exact q [] H0 H (aE.refl _) R aB.nil_
theorem ez(ha:XE X e F)(hr:XA X es A)(hs:kv X e es:=by rfl):XA X (e::es) (aC F A):=PA.wk (iT ha hr hs) λ S H Q Y=>by
 obtain⟨c,H0,J,ds,o,R,f,q⟩:=Y;obtain⟨⟨d,O⟩,j,f⟩:=aS f;obtain⟨⟨r,Z⟩,k,f⟩:=aS f;have i:=f;cases i;refine⟨c,H0,J,d,O,R,j,λ v b p n h l=>?_⟩;refine⟨c,b,O,r,_,h,k,λ vs g dk a R2 m=>?_⟩;exact q _ g dk (n.trans a) R2 (aB.cons (aU.mono a d l) m)
theorem v3(h:n<=1000):n<=sizeLine:=Ya (zS h)
theorem l_8(h:XA X es A):XE X (.Tuple es x1 pos) (df A):=PE.wk (Ss h) λ S H Q O=>by
 obtain⟨c,H0,J,d,g,R,f,q⟩:=O;obtain⟨⟨ds,k⟩,a,f⟩:=aS f;split at f
 .rename_i hl;cases f;refine⟨c,H0,J,ds,_,R,a,λ vs i j e Z Y=>⟨by rw[<-Y.length];exact v3 hl,λ p b=>?_⟩⟩;have σ:=bS.alloc (o:=.t vs) Z.same b;refine q _ _ _ (e.trans σ.s0) (Z.after σ) ?_;exact⟨p,vs,rfl,.inl (.inl cM),aB.mono σ.s0 ds Y⟩
 .cases f
theorem F0(h:XA X es A):XE X (.List es pos) (cY A):=PE.wk (BL h) λ S H Q O=>by
 obtain⟨c,H0,J,d,g,R,f,q⟩:=O;obtain⟨⟨ds,k⟩,a,f⟩:=aS f;split at f
 .rename_i hl;cases f;refine⟨c,H0,J,ds,_,R,a,λ vs i j e Z Y=>⟨by rw[<-Y.length];exact v3 hl,λ p b=>?_⟩⟩;have σ:=bS.alloc (o:=.l vs) Z.same b;refine q _ _ _ (e.trans σ.s0) (Z.after σ) ?_;exact⟨p,vs,rfl,.inl (.inl cM),aB.mono σ.s0 ds Y⟩
 .cases f
theorem Xj:@iq=@uw:=rfl
theorem Lx{K:Frag}(r:aB K H ds vs)(h:cw ds i=some d):∃v,pw vs i=some v/\aU K H d v:=by obtain⟨j,a,b⟩:=aS h;obtain⟨v,e1,e2⟩:=r.get b;refine⟨v,?_,e2⟩;unfold pw;rw[<-r.length,<-Xj,a];exact e1
theorem PO.wk(h:PO X e t)(w:∀S H Q,t' S H Q->t S H Q):PO X e t':=λ aA s S H Q I q=>h aA s S H Q I (w S H Q q)
theorem xoN:XO X none oN:=PO.wk IC λ S H Q O=>by
 obtain⟨c,H0,J,o,a,R,f,q⟩:=O;have Y:=f;cases Y;exact q H0 H (aE.refl _) R
theorem xoS(h:XE X e F):XO X (some e) (oS F):=PO.wk (IB h) λ S H Q O=>by
 obtain⟨c,H0,J,o,p,R,f,q⟩:=O;obtain⟨⟨d,Y⟩,m,f⟩:=aS f;obtain⟨i,a,f⟩:=aS f;have l:=f;cases l;refine⟨c,H0,J,d,_,R,m,λ v b g n k Z=>?_⟩;cases d with
 |int j=>
  have e:=qi a;subst e;exact⟨j,Z,q b g n k⟩
 |_=>cases a
theorem vA(n d:Nat)(o:eO):jQ n d o=HT.sIx n d o:=by cases o<;>rfl
theorem HG{K:Frag}(r:aB K H ds vs)(lo hi:eO):aB K H (eg ds lo hi) (nW vs lo hi):=by unfold eg nW;rw[vA,vA,r.length];exact(r.drop _).take _
end
section
variable{K:Frag}
theorem vn(h:∀x y d,f x y=some d->∃i j,x=.int i/\y=.int j/\C i j/\∀H,aU K H d (g i j)):jO K (rI C g) f:=λ c H0 H J S x y d b k Q R O Y e q=>by
 obtain⟨i,j,rfl,rfl,a,Z⟩:=h x y d e;exact⟨i,j,O,Y,a,q _ H0 H (aE.refl _) R (Z H0)⟩
theorem Jd(h:∀x y d,f x y=some d->∃i j,x=.int i/\y=.int j/\∀H,aU K H d (g i j)):jO K (lS g) f:=λ c H0 H J S x y d a b Q R O Y e q=>by
 obtain⟨i,j,rfl,rfl,Z⟩:=h x y d e;exact⟨i,j,O,Y,q _ H0 H (aE.refl _) R (Z H0)⟩
theorem fV(H:Hp)(i:Int):aU K H (.int i) (.int i):=by rfl
theorem lN(H:Hp)(i:Bool):aU K H (.b i) (.b i):=by rfl
theorem cx[Decidable c](h:(if c then some a else none)=some d):c/\a=d:=by grind
theorem G4:mW X .Sub ke:=⟨_,Wx,Jd λ x y d e=>by
 obtain⟨i,j,rfl,rfl,e⟩:=qS e;cases e;exact⟨_,_,rfl,rfl,λ H=>fV H _⟩⟩
def jM(i j:Int):Prop:=gR i j=true
theorem Fm(h:BZ i=true):Builtin.Int.intBits i<=1000:=by
 have h:=zy h;unfold Builtin.Int.intBits;split
 .exact yg _
 .rename_i a;have a:i≠0:=by simpa using a
  have q:i.natAbs≠0:=aD;have:=(Nat.log2_lt q).mpr h;lia
theorem jM.ok(h:jM i j):IntMulOk i j:=by
 unfold jM gR at h;simp only[Bool.or_eq_true,zm,zh]at h;rcases h with(h|h)|⟨a,b⟩
 .exact IntMulOk.of_left (Ys aD aD)
 .exact IntMulOk.of_right (Ys aD aD)
 .unfold IntMulOk;have q:=Fm a;have O:=Fm b;have:Builtin.Int.intTooBig ((Builtin.Int.intBits i:Int)+(Builtin.Int.intBits j:Int))=false:=by
   refine zn ?_;have:(2000:Int)<=bitsLine:=aH
   lia
  simp[this]
theorem Se:mW X .Mult i_:=⟨rI jM λ i j=>.int (i*j),ya λ _ _ _ _ _ _ _ O q=>mul_int q O.ok,vn λ x y d e=>by
 obtain⟨i,j,rfl,rfl,e⟩:=qS e;obtain⟨h,rfl⟩:=cx e;exact⟨_,_,rfl,rfl,h,λ H=>fV H _⟩⟩
def Ly(i j:Int):Prop:=fN j=true
theorem VQ:mW X .FloorDiv nY:=⟨rI Ly λ i j=>.int (i.fdiv j),ya λ i j _ _ _ _ _ O q=>by
  unfold Ly fN at O;simp only[zm,zh]at O;refine floordiv_int O.1 q (.inl (PyProof.noPylong_of_log2 ?_));have Y:j.natAbs≠0:=by have:=O.1;lia
  have:=(Nat.log2_lt Y).mpr O.2
  lia,vn λ x y d e=>by
 obtain⟨i,j,rfl,rfl,e⟩:=qS e;obtain⟨h,rfl⟩:=cx e;exact⟨_,_,rfl,rfl,h,λ H=>fV H _⟩⟩
theorem j_9:mW X .Mod cV:=⟨_,R9,vn λ x y d e=>by
 obtain⟨i,j,rfl,rfl,e⟩:=qS e;obtain⟨h,rfl⟩:=cx e;exact⟨_,_,rfl,rfl,h,λ H=>fV H _⟩⟩
theorem ZF:mW X .Pow fS:=⟨_,Wy,vn λ x y d e=>by
 obtain⟨i,j,rfl,rfl,e⟩:=qS e;obtain⟨h,rfl⟩:=cx e;exact⟨_,_,rfl,rfl,⟨h.1,by lia,h.2.2⟩,λ H=>fV H _⟩⟩
def Lc(K:Frag):R2:=λ x y H Q=>∃l b xs zs,x=.ref l/\y=.ref b/\c9 K H l xs/\c9 K H b zs/\xs.length+zs.length<=sizeLine/\∀p,H p=none->Q (.ref p) (upd H p (.l (xs++zs)))
theorem B8:dB X (binaryOp .Add) (Lc X.K):=by intro aA s S H x y v u Q I z A h;obtain⟨l,b,xs,zs,rfl,rfl,o,m,G,q⟩:=h;cases z;cases A;obtain⟨Y,r,w,_⟩:=I.list o;obtain⟨O,d,g,_⟩:=I.list m;have hl:=r.length;have E:=d.length;obtain⟨⟨k,dd,data,B⟩,c,p,n,hd⟩:=w.isList;obtain⟨⟨D,i,C,j⟩,a,Z,t,f⟩:=g.isList;subst p hd Z f;have e:Y.toArray++O.toArray=(Y++O).toArray:=aQ;refine concat_meets ⟨_,c,rfl⟩ ⟨_,a,rfl⟩ noFill_list_add seq_list_add PySem.F.slot_list_add PySem.F.entry_list_add (PySem.F.args_list_add_2 _ _) (list_addW l b Y.toArray O.toArray n t dd i B j (by grind)) ⟨c,a,?_⟩;rw[e];exact⟨.ref _,_,I.lnew (r.append d) (by grind),rfl,q _ I.fresh⟩
def UM(K:Frag):R2:=λ x y H Q=>lS (λ i j=>.int (i+j)) x y H Q\/((∃i j,x=.str i/\y=.str j/\i.length+j.length<=sizeLine/\Q (.str (i++j)) H)\/Lc K x y H Q)
theorem DI:mW X .Add cu:=⟨UM X.K,qs.or (jG.or B8),λ c H0 H J S x y d k l Q R O Y e q=>by
 cases x with
 |int i=>
  cases y with
  |int j=>
   cases e;exact .inl ⟨_,_,O,Y,q _ H0 H (aE.refl _) R (fV H0 _)⟩
  |_=>cases e
 |str i=>
  cases y with
  |str j=>
   obtain⟨h,rfl⟩:=cx e;exact .inr (.inl ⟨_,_,O,Y,h,q _ H0 H (aE.refl _) R (by rfl)⟩)
  |_=>cases e
 |l ds=>
  cases y with
  |l es=>
   obtain⟨h,rfl⟩:=cx e;obtain⟨p,vs,rfl,s,t⟩:=O;obtain⟨p2,Z,rfl,g,a⟩:=Y;refine .inr (.inr ⟨p,p2,vs,Z,rfl,rfl,aE.seq R.same s,aE.seq R.same g,by rw[<-t.length,<-a.length];exact h,λ f b=>?_⟩);have σ:=bS.alloc (o:=.l (vs++Z)) R.same b;refine q _ _ _ σ.s0 (R.after σ) ?_;exact⟨f,_,rfl,.inl (.inl cM),aB.mono σ.s0 _ (t.app a)⟩
  |_=>cases e
 |_=>cases y<;>cases e⟩
theorem CQ(ha:XE X a F):XE X (.UnaryOp .USub a pos) (e1 rf F):=PE.wk (JB KR ha) λ S H Q O=>by
 obtain⟨c,H0,J,d,n,R,f,q⟩:=O;obtain⟨⟨x,Y⟩,l,f⟩:=aS f;obtain⟨o,b,f⟩:=aS f;have k:=f;cases k;refine⟨c,H0,J,x,_,R,l,λ v g h m j Z=>?_⟩;cases x with
 |int i=>
  have e:=qi b;subst e;exact⟨i,Z,q _ g h m j (fV _ _)⟩
 |_=>cases b
theorem wN:jO K (lS λ i j=>.b (p i j)) (ub p):=Jd λ x y d e=>by
 obtain⟨i,j,rfl,rfl,e⟩:=qS e;cases e;exact⟨_,_,rfl,rfl,λ H=>lN H _⟩
theorem LU:gs X .Lt gB:=⟨_,UR,wN⟩
theorem C6:gs X .LtE fR:=⟨_,US,wN⟩
theorem X2:gs X .Gt lB:=⟨_,UT,wN⟩
theorem C4:gs X .GtE ot:=⟨_,cw8,wN⟩
theorem Iw(r:aU K H x v):jE x=decide (v=.n):=by
 cases x with
 |n=>unfold aU at r;subst r;rfl
 |b b=>unfold aU at r;subst r;rfl
 |int b=>unfold aU at r;subst r;rfl
 |str b=>unfold aU at r;subst r;rfl
 |t ds=>unfold aU at r;obtain⟨p,vs,rfl,_⟩:=r;rfl
 |opq=>unfold aU at r;obtain⟨p,kvs,rfl,_⟩:=r;rfl
 |c a vs=>unfold aU at r;obtain⟨p,o,us,rfl,_⟩:=r;rfl
 |l ds=>unfold aU at r;obtain⟨p,vs,rfl,_⟩:=r;rfl
theorem C5:gs X .Is mm:=⟨_,WB,λ c H0 H J S x y d a b Q R Y O e q=>by
 cases y with
 |n=>
  have Z:D.b (jE x)=d:=by cases x<;>exact qi e
  subst Z;exact⟨O,by rw[<-Iw Y];exact q _ H0 H (aE.refl _) R (lN _ _)⟩
 |_=>cases x<;>cases e⟩
theorem HM:gs X .IsNot vM:=⟨_,R8,λ c H0 H J S x y d a b Q R Y O e q=>by
 cases y with
 |n=>
  have Z:D.b (!jE x)=d:=by cases x<;>exact qi e
  subst Z;exact⟨O,by rw[<-Iw Y];exact q _ H0 H (aE.refl _) R (lN _ _)⟩
 |_=>cases x<;>cases e⟩
end
theorem sv:∀(ds es:aG),ic ds es=((List.range (min ds.length es.length)).all (λ j=>bZ (ds.getD j .n) (es.getD j .n))&&ds.length==es.length)
 |[],[]=>rfl
 |[],e::es=>by simp
 |d::ds,[]=>by simp
 |d::ds,e::es=>by
  rw[ic,sv ds es];have h:min (d::ds).length (e::es).length=min ds.length es.length+1:=by simp only[zt];lia
  rw[h,List.range_succ_eq_map,Qo,List.all_map];have a:((d::ds).length==(e::es).length)=(ds.length==es.length):=aQ;rw[a,Bool.and_assoc];rfl
theorem qH:∀{ds:aG}{n:Nat}{j:Nat}{d:D},eQ ds<=n->ds[j]?=some d->c7 d<=n
 |[],_,_,_,_,e=>by simp at e
 |d::ds,n,0,_,h,e=>by
  rw[Hj]at h;simp at e;subst e;lia
 |d::ds,n,j+1,a,h,e=>by
  rw[Hj]at h;exact qH (ds:=ds) aD (by simpa using e)
section
variable{X:Cx}{aA:cB}{S:L2.St}{H:Hp}{s:Shared}
theorem V3(hd:aB X.K H ds vs)(Y:aB X.K H es vs)(h:∀(j:Nat)(d e:D)(v:V),vs[j]?=some v->ds[j]?=some d->es[j]?=some e->aU X.K H d v->aU X.K H e v->bZ d e=true):ic ds es=true:=by
 rw[sv];have g:=hd.length;have k:=Y.length;rw[zm,jm];refine⟨λ j f=>?_,by simp;lia⟩;have O:j<ds.length:=by have:=List.mem_range.mp f;lia
 have q:j<es.length:=aD;obtain⟨v,Z,b⟩:=hd.get (i:=j) (d:=ds[j]) (by simp[O]);obtain⟨l,a,c⟩:=Y.get (i:=j) (d:=es[j]) (by simp[q]);rw[Z]at a;cases a;have:=h j ds[j] es[j] v Z (by simp[O]) (by simp[q]) b c;simpa [List.getD,O,q]using this
theorem Li(I:aI X aA S H s)(h:d8 X.K H a xs)(h':c9 X.K H a ys):False:=by obtain⟨_,_,⟨o,e,c,_⟩,_⟩:=I.tuple h;obtain⟨_,_,⟨b,n,q,O,_⟩,_⟩:=I.list h';grind
theorem ZP(h:c7 (.t ds)<1000):eQ ds<999:=by rw[vr]at h;lia
theorem ZQ(h:c7 (.l ds)<1000):eQ ds<999:=by rw[vw]at h;lia
theorem JT(h:eQ ds<999){j:Nat}(e:ds[j]?=some d):c7 d<1000:=by
 have:=qH (n:=998) aD e
 lia
inductive Sh(X:Cx)(H:Hp)(s:Shared):D->V->Value->Prop
 |n:Sh X H s .n .n .none
 |b (b:Bool):Sh X H s (.b b) (.b b) (.bool b)
 |int (i:Int) (t:Tok):Sh X H s (.int i) (.int i) (.int i t)
 |str (x:Str) (t:Tok):Sh X H s (.str x) (.str x) (.str x t)
 |t {ds:aG}{p:Addr}{vs:bY}{its:cf} (s1:d8 X.K H p vs) (q:aB X.K H ds vs) (rv:aM vs its) (tp:IsTup s.heap p its.toArray) (z:eQ ds<999):Sh X H s (.t ds) (.ref p) (.ref p)
 |l {ds:aG}{p:Addr}{vs:bY}{its:cf} (s1:c9 X.K H p vs) (q:aB X.K H ds vs) (rv:aM vs its) (tp:s.heap.IsList p its.toArray) (z:eQ ds<999):Sh X H s (.l ds) (.ref p) (.ref p)
theorem nS(I:aI X aA S H s)(hz:c7 d<1000)(r:aU X.K H d x)(w:aX x u):Sh X H s d x u:=by
 cases d with
 |opq=>exact absurd hz (by rw[V4];lia)
 |c c vs=>exact absurd hz (by rw[V5];lia)
 |n=>unfold aU at r;subst r;cases(show u=Value.none from w);exact .n
 |b b=>unfold aU at r;subst r;cases(show u=Value.bool _ from w);exact .b b
 |int i=>unfold aU at r;subst r;obtain⟨t,rfl⟩:=w;exact .int i t
 |str i=>unfold aU at r;subst r;obtain⟨t,rfl⟩:=w;exact .str i t
 |t ds=>
  obtain⟨p,vs,rfl,O,q⟩:=r;cases(show u=Value.ref _ from w);obtain⟨Y,a,Z,_⟩:=I.tuple O;exact .t O q a Z (ZP hz)
 |l ds=>
  obtain⟨p,vs,rfl,O,q⟩:=r;cases(show u=Value.ref _ from w);obtain⟨Y,a,Z,_⟩:=I.list O;exact .l O q a Z.isList (ZQ hz)
theorem tR(I:aI X aA S H s)(go:∀{ds es:aG}{vs:bY}{Z:cf},eQ ds+1<=n->eQ ds<999->eQ es<999->aB X.K H ds vs->aB X.K H es vs->aM vs Z->ic ds es=true)(hn:c7 d<=n)(hz1:c7 d<1000)(hz2:c7 e<1000)(r1:aU X.K H d v)(r2:aU X.K H e v)(w:aX v u):bZ d e=true:=by
  have k1:=nS I hz1 r1 w;have k2:=nS I hz2 r2 w;clear r1 r2 w hz1 hz2;cases k1 with
  |t a q Y h z=>cases k2 with
   |t O b g f c=>
    cases I.tuple_inj a O;rw[vr]at hn;exact go hn z c q b Y
   |l O=>exact(Li I a O).elim
  |l a q Y h z=>cases k2 with
   |l O b g f c=>
    cases I.list_inj a O;rw[vw]at hn;exact go hn z c q b Y
   |t O=>exact(Li I O a).elim
  |_=>cases k2;simp
theorem Tu(I:aI X aA S H s)(n:Nat):∀(d e:D)(v:V)(u:Value),c7 d<=n->c7 d<1000->c7 e<1000->aU X.K H d v->aU X.K H e v->aX v u->bZ d e=true:=by
 induction n with
 |zero=>exact λ d e v u=>tR I (λ h=>nomatch h)
 |succ n i=>
  exact λ d e v u=>tR I λ hn m o k l Y=>V3 k l λ j d e v f c g a b=>by
   obtain⟨u,_,w⟩:=Y.get f;exact i d e v u (qH (Nat.le_of_succ_le_succ hn) c) (JT m c) (JT o g) a b w
def Av(X:Cx)(H:Hp)(s:Shared)(n:Nat):Prop:=∀(A:Around)(d e:D)(x y:V)(u v:Value),c7 d<=n->c7 d<1000->c7 e<1000->A.units+n<cLine->aU X.K H d x->aX x u->aU X.K H e y->aX y v->SeqAt.RcAt A s u v (bZ d e)
def u_(X:Cx)(H:Hp)(s:Shared)(n:Nat):Prop:=∀(A:Around)(d e:D)(x y:V)(u v:Value),c7 d<=n->c7 d<1000->c7 e<1000->A.units+n<cLine->aU X.K H d x->aX x u->aU X.K H e y->aX y v->SeqAt.EqAt A s u v (bZ d e)
theorem Xb(I:aI X aA S H s)(rc:Av X H s n):u_ X H s n:=by
 intro A d e x y u v hn Z Y p c g f i;have O:A.units<cLine:=aD;have key:=rc A d e x y u v hn Z Y p c g f i;have one:x=y->bZ d e=true:=λ z=>Tu I _ d e x u (qj _) Z Y c (z▸f) g;have b:∀a p2,x=.ref a->y=.ref p2->u=.ref a->v=.ref p2->SeqAt.EqAt A s u v (bZ d e):=λ a p2 k l m o=>by
  subst k l m o;by_cases h:a=p2
  .rw[one (by rw[h]),h];exact SeqAt.EqAt.same _
  .exact SeqAt.EqAt.of_refs h key
 clear key one;have k1:=nS I Z c g;have k2:=nS I Y f i;cases k1 with
 |n=>cases k2;exact SeqAt.EqAt.same _;exact SeqAt.EqAt.none_bool _;exact SeqAt.EqAt.none_int _ _;exact SeqAt.EqAt.none_str _ _;exact SeqAt.EqAt.none_tuple ‹_› O;exact SeqAt.EqAt.none_list ‹_› O
 |b=>cases k2;exact SeqAt.EqAt.bool_none _;exact SeqAt.EqAt.bool_bool _ _;exact SeqAt.EqAt.bool_int _ _ _;exact SeqAt.EqAt.bool_str _ _ _;exact SeqAt.EqAt.bool_tuple _ ‹_› O;exact SeqAt.EqAt.bool_list _ ‹_› O
 |int=>cases k2;exact SeqAt.EqAt.int_none _ _;exact SeqAt.EqAt.int_bool _ _ _;exact SeqAt.EqAt.int_int _ _ _ _;exact SeqAt.EqAt.int_str _ _ _ _;exact SeqAt.EqAt.int_tuple _ _ ‹_› O;exact SeqAt.EqAt.int_list _ _ ‹_› O
 |str=>cases k2;exact SeqAt.EqAt.str_none _ _;exact SeqAt.EqAt.str_bool _ _ _;exact SeqAt.EqAt.str_int _ _ _ _;exact SeqAt.EqAt.str_str _ _ _ _;exact SeqAt.EqAt.str_tuple _ _ ‹_› O;exact SeqAt.EqAt.str_list _ _ ‹_› O
 |t t r j q=>cases k2;exact SeqAt.EqAt.tuple_none q O;exact SeqAt.EqAt.tuple_bool _ q O;exact SeqAt.EqAt.tuple_int _ _ q O;exact SeqAt.EqAt.tuple_str _ _ q O;exact b _ _ rfl rfl rfl rfl;exact b _ _ rfl rfl rfl rfl
 |l t r j q=>cases k2;exact SeqAt.EqAt.list_none q O;exact SeqAt.EqAt.list_bool _ q O;exact SeqAt.EqAt.list_int _ _ q O;exact SeqAt.EqAt.list_str _ _ q O;exact b _ _ rfl rfl rfl rfl;exact b _ _ rfl rfl rfl rfl
theorem HQ{q:cf}(h:j<q.toArray.size):q[j]?=some q.toArray[j]:=by
 have h':j<q.length:=by simpa using h
 simp[h']
theorem vq{A:Around}(Z:u_ X H s n)(hn:eQ ds<=n)(ac:eQ ds<1000)(aa:eQ es<1000)(hA:A.in1.units+n<cLine)(q1:aB X.K H ds vs)(q2:aB X.K H es O)(rv:aM vs q)(Y:aM O its')(j:Nat)(h1:j<q.toArray.size)(h2:j<its'.toArray.size):SeqAt.EqAt A.in1 s q.toArray[j] its'.toArray[j] (bZ (ds.getD j .n) (es.getD j .n)):=by
 have o:=q1.length;have p:=q2.length;have r:=rv.length;have t:=Y.length;have k1:j<ds.length:=by rw[zk]at h1;lia
 have k2:j<es.length:=by rw[zk]at h2;lia
 have e1:ds[j]?=some ds[j]:=by simp[k1]
 have e2:es[j]?=some es[j]:=by simp[k2]
 obtain⟨v,c,d⟩:=q1.get e1;obtain⟨m,e,f⟩:=q2.get e2;obtain⟨u,a,g⟩:=rv.get c;obtain⟨l,b,h⟩:=Y.get e;rw[HQ h1]at a;rw[HQ h2]at b;have i:ds.getD j .n=ds[j]:=by simp[List.getD,k1]
 have k:es.getD j .n=es[j]:=by simp[List.getD,k2]
 rw[i,k,Zk a,Zk b];exact Z A.in1 ds[j] es[j] v m u l (qH hn e1) (by have z:=qH (n:=999) aD e1;lia) (by have z:=qH (n:=999) aD e2;lia) hA d g f h
theorem MT(I:aI X aA S H s)(n:Nat)(ih:∀m,m<n->u_ X H s m):Av X H s n:=by
 intro A d e x y u v hn k j r f h g i;have O:A.units<cLine:=aD;have hi:=λ _=>by show A.units+1+(n-1)<cLine;omega
 have k1:=nS I k f h;have k2:=nS I j g i;clear f g h i;cases k1 with
 |n=>cases k2;exact SeqAt.RcAt.none_none;exact SeqAt.RcAt.none_bool _;exact SeqAt.RcAt.none_int _ _;exact SeqAt.RcAt.none_str _ _;exact SeqAt.RcAt.none_tuple ‹_› O;exact SeqAt.RcAt.none_list ‹_› O
 |b=>cases k2;exact SeqAt.RcAt.bool_none _;exact SeqAt.RcAt.bool_bool _ _;exact SeqAt.RcAt.bool_int _ _ _;exact SeqAt.RcAt.bool_str _ _ _;exact SeqAt.RcAt.bool_tuple _ ‹_› O;exact SeqAt.RcAt.bool_list _ ‹_› O
 |int=>cases k2;exact SeqAt.RcAt.int_none _ _;exact SeqAt.RcAt.int_bool _ _ _;exact SeqAt.RcAt.int_int _ _ _ _;exact SeqAt.RcAt.int_str _ _ _ _;exact SeqAt.RcAt.int_tuple _ _ ‹_› O;exact SeqAt.RcAt.int_list _ _ ‹_› O
 |str=>cases k2;exact SeqAt.RcAt.str_none _ _;exact SeqAt.RcAt.str_bool _ _ _;exact SeqAt.RcAt.str_int _ _ _ _;exact SeqAt.RcAt.str_str _ _ _ _;exact SeqAt.RcAt.str_tuple _ _ ‹_› O;exact SeqAt.RcAt.str_list _ _ ‹_› O
 |@t ds l _ Z o a Y q p=>
  cases k2
  case t es p2 _ its2 s2 q2 rv2 tp2 z2=>
   rw[vr]at hn;have z:=SeqAt.RcAt.tuples q tp2 O (vq (ih (n-1) aD) aD aD aD (hi aD) a q2 Y rv2);rw[zk,zk,<-Y.length,<-rv2.length,<-a.length,<-q2.length]at z;rw[bZ,sv];exact z
  exact SeqAt.RcAt.tuple_none q O;exact SeqAt.RcAt.tuple_bool _ q O;exact SeqAt.RcAt.tuple_int _ _ q O;exact SeqAt.RcAt.tuple_str _ _ q O;exact SeqAt.RcAt.tuple_list q ‹_› O
 |@l ds l _ Z o a Y q p=>
  cases k2
  case l es p2 _ its2 s2 q2 rv2 tp2 z2=>
   rw[vw]at hn;have b:Z.toArray.size=ds.length:=by rw[zk,<-Y.length,<-a.length]
   have c:its2.toArray.size=es.length:=by rw[zk,<-rv2.length,<-q2.length]
   rw[bZ,sv];by_cases hl:ds.length=es.length
   .have z:=SeqAt.RcAt.lists q tp2 (by rw[b,c];exact hl) O (vq (ih (n-1) aD) aD aD aD (hi aD) a q2 Y rv2);rw[b]at z;rw[show min ds.length es.length=ds.length by omega,show(ds.length==es.length)=true by simp[hl],Bool.and_true];exact z
   .rw[show(ds.length==es.length)=false by simp[hl],Q5];exact SeqAt.RcAt.lists_lengths q tp2 (by rw[b,c];simp[hl]) O
  exact SeqAt.RcAt.list_none q O;exact SeqAt.RcAt.list_bool _ q O;exact SeqAt.RcAt.list_int _ _ q O;exact SeqAt.RcAt.list_str _ _ q O;exact SeqAt.RcAt.list_tuple q ‹_› O
theorem A5(I:aI X aA S H s)(n:Nat):u_ X H s n:=by
 induction n using Nat.strongRecOn with
 |ind n q=>exact Xb I (MT I n q)
theorem rcN(I:aI X aA S H s)(n:Nat):Av X H s n:=MT I n λ m _=>A5 I m
def JM(K:Frag):R2:=λ x y H Q=>∃d e,aU K H d x/\aU K H e y/\c7 d<=30/\c7 e<=30/\Q (.b (bZ d e)) H
theorem WC(hu:X.A.units+64<cLine):dB X (compareOp .Eq) (JM X.K):=by intro aA s S H x y v u Q I b O h;obtain⟨d,e,Z,a,hd,Y,q⟩:=h;exact rcN I 30 X.A d e x y v u hd aD aD aD Z b a O X.p X.w X.xe _ ⟨.b _,H,I,rfl,q⟩
theorem U3{K:Frag}:jO K (JM K) bM:=λ c H0 H J S x y d Z a Q R O Y e q=>by
 unfold bM at e;split at e
 .rename_i hd;cases e;exact⟨x,y,aU.mono R.same x O,aU.mono R.same y Y,hd.1,hd.2,q _ H0 H (aE.refl _) R (lN _ _)⟩
 .cases e
theorem uc(q:X.A.units+64<cLine):gs X .Eq bM:=⟨_,WC q,U3⟩
theorem neN(I:aI X aA S H s)(n:Nat)(A:Around)(d e:D)(x y:V)(u v:Value)(hn:c7 d<=n)(ac:c7 d<1000)(aa:c7 e<1000)(hA:A.units+n<cLine)(r1:aU X.K H d x)(w1:aX x u)(r2:aU X.K H e y)(w2:aX y v):SeqAt.RcNeAt A s u v (!bZ d e):=by
 have O:A.units<cLine:=aD;have hi:=λ _=>by show A.units+1+(n-1)<cLine;omega
 have k1:=nS I ac r1 w1;have k2:=nS I aa r2 w2;clear r1 r2 w1 w2;cases k1 with
 |n=>cases k2;exact SeqAt.RcNeAt.none_none;exact SeqAt.RcNeAt.none_bool _;exact SeqAt.RcNeAt.none_int _ _;exact SeqAt.RcNeAt.none_str _ _;exact SeqAt.RcNeAt.none_tuple ‹_› O;exact SeqAt.RcNeAt.none_list ‹_› O
 |b=>cases k2;exact SeqAt.RcNeAt.bool_none _;exact SeqAt.RcNeAt.bool_bool _ _;exact SeqAt.RcNeAt.bool_int _ _ _;exact SeqAt.RcNeAt.bool_str _ _ _;exact SeqAt.RcNeAt.bool_tuple _ ‹_› O;exact SeqAt.RcNeAt.bool_list _ ‹_› O
 |int=>cases k2;exact SeqAt.RcNeAt.int_none _ _;exact SeqAt.RcNeAt.int_bool _ _ _;exact SeqAt.RcNeAt.int_int _ _ _ _;exact SeqAt.RcNeAt.int_str _ _ _ _;exact SeqAt.RcNeAt.int_tuple _ _ ‹_› O;exact SeqAt.RcNeAt.int_list _ _ ‹_› O
 |str=>cases k2;exact SeqAt.RcNeAt.str_none _ _;exact SeqAt.RcNeAt.str_bool _ _ _;exact SeqAt.RcNeAt.str_int _ _ _ _;exact SeqAt.RcNeAt.str_str _ _ _ _;exact SeqAt.RcNeAt.str_tuple _ _ ‹_› O;exact SeqAt.RcNeAt.str_list _ _ ‹_› O
 |@t ds f _ Z g a Y q h=>
  cases k2
  case t es p2 _ its2 s2 q2 rv2 tp2 z2=>
   rw[vr]at hn;have z:=SeqAt.RcNeAt.tuples q tp2 O (vq (A5 I (n-1)) aD aD aD (hi aD) a q2 Y rv2);rw[zk,zk,<-Y.length,<-rv2.length,<-a.length,<-q2.length]at z;rw[bZ,sv];exact z
  exact SeqAt.RcNeAt.tuple_none q O;exact SeqAt.RcNeAt.tuple_bool _ q O;exact SeqAt.RcNeAt.tuple_int _ _ q O;exact SeqAt.RcNeAt.tuple_str _ _ q O;exact SeqAt.RcNeAt.tuple_list q ‹_› O
 |@l ds f _ Z g a Y q h=>
  cases k2
  case l es p2 _ its2 s2 q2 rv2 tp2 z2=>
   rw[vw]at hn;have b:Z.toArray.size=ds.length:=by rw[zk,<-Y.length,<-a.length]
   have c:its2.toArray.size=es.length:=by rw[zk,<-rv2.length,<-q2.length]
   rw[bZ,sv];by_cases hl:ds.length=es.length
   .have z:=SeqAt.RcNeAt.lists q tp2 (by rw[b,c];exact hl) O (vq (A5 I (n-1)) aD aD aD (hi aD) a q2 Y rv2);rw[b]at z;grind
   .rw[show(ds.length==es.length)=false by simp[hl],Q5];exact SeqAt.RcNeAt.lists_lengths q tp2 (by rw[b,c];simp[hl]) O
  exact SeqAt.RcNeAt.list_none q O;exact SeqAt.RcNeAt.list_bool _ q O;exact SeqAt.RcNeAt.list_int _ _ q O;exact SeqAt.RcNeAt.list_str _ _ q O;exact SeqAt.RcNeAt.list_tuple q ‹_› O
def JH(K:Frag):R2:=λ x y H Q=>∃d e,aU K H d x/\aU K H e y/\c7 d<=30/\c7 e<=30/\Q (.b (!bZ d e)) H
theorem WA(hu:X.A.units+64<cLine):dB X (compareOp .NotEq) (JH X.K):=by intro aA s S H x y v u Q I b O h;obtain⟨d,e,Z,a,hd,Y,q⟩:=h;exact neN I 30 X.A d e x y v u hd aD aD aD Z b a O X.p X.w X.xe _ ⟨.b _,H,I,rfl,q⟩
theorem UX{K:Frag}:jO K (JH K) dv:=λ c H0 H J S x y d Z a Q R O Y e q=>by
 unfold dv at e;split at e
 .rename_i hd;cases e;exact⟨x,y,aU.mono R.same x O,aU.mono R.same y Y,hd.1,hd.2,q _ H0 H (aE.refl _) R (lN _ _)⟩
 .cases e
theorem LV(q:X.A.units+64<cLine):gs X .NotEq dv:=⟨_,WA q,UX⟩
end
section
variable{X:Cx}
def i6(X:Cx)(f:Value)(g:aG->Option D):Prop:=∃r,bV X f r/\∀(c:FC)(H0 H:Hp)(J:En)(S:L2.St)(ds:aG)(d:D)(vs:bY)(Q:VK),RS X.K c H0 H J S->aB X.K H0 ds vs->g ds=some d->zH X.K c H0 J S d Q->r vs H Q
theorem Lu(o:∀(c:FC)(H0 H:Hp)(J:En)(S:L2.St)(ds:aG)(d:D)(vs:bY)(Q:VK),RS X.K c H0 H J S->aB X.K H0 ds vs->g ds=some d->zH X.K c H0 J S d Q->r vs H Q)(h:tE X.K (eF g A) S H Q):Ea r (D9 X.K A) S H Q:=by
 obtain⟨c,H0,J,d,p,R,f,q⟩:=h;obtain⟨⟨ds,O⟩,j,f⟩:=aS f;obtain⟨s,k,f⟩:=aS f;have i:=f;cases i;exact⟨c,H0,J,ds,_,R,j,λ vs a Z m e Y=>o c a Z _ S ds d vs Q e Y k λ v b dk n R2 l=>q v b dk (m.trans n) R2 l⟩
theorem xB{id:String}(o:i6 X (.builtin id) g)(Z:Gl X x)(hm:X.mg x=none)(hv:bootBuiltins x=some (.builtin id))(Y:XA X (e::es) A)(hn:x≠"__name__":=by decide)(O:dJ x:=by decide)(he:kv X e es:=by rfl)(q:lH X pos es:=by rfl):XE X (.Call (.Name x p) (e::es) [] pos) (eF g A):=by
 obtain⟨r,a,b⟩:=o;exact PE.wk (uF a Z hm hv Y hn O he q) λ S H Q h=>Lu b h
theorem aB.v1{K:Frag}(h:aB K H [d] vs):∃v,vs=[v]/\aU K H d v:=by obtain⟨v,r,e,a,b⟩:=h;exact⟨v,by rw[e,b],a⟩
theorem aB.v2{K:Frag}(h:aB K H [d,d'] vs):∃v q,vs=[v,q]/\aU K H d v/\aU K H d' q:=by obtain⟨v,r,e,a,b⟩:=h;obtain⟨q,O,Y⟩:=aB.v1 b;exact⟨v,q,by rw[e,O],a,Y⟩
theorem QG(h:mX ds=some d):∃i,ds=[.int i]/\d=.int (if i<0 then -i else i):=by
 unfold mX at h;split at h
 .cases h;exact⟨_,rfl,rfl⟩
 .cases h
theorem Oc:i6 X (.builtin "abs") mX:=⟨_,QA,λ c H0 H J S ds d vs Q R r e q=>by
 obtain⟨i,rfl,rfl⟩:=QG e;obtain⟨v,rfl,O⟩:=aB.v1 r;subst O;exact⟨i,rfl,q _ H0 H (aE.refl _) R (fV _ _)⟩⟩
theorem Ao{K:Frag}:∀{ds:aG}{is:eB}{vs:bY},qU ds=some is->aB K H ds vs->vs=is.map V.int
 |[],_,_,e,r=>by
  have q:=qi e;rw[r,<-q];rfl
 |d::ds,_,_,e,r=>by
  cases d with
  |int i=>
   rw[Sg]at e;obtain⟨is,e1,e2⟩:=aS e;cases e2;obtain⟨v,O,rfl,a,t⟩:=r;rw[a,Ao e1 t];rfl
  |_=>cases e
theorem dQ:∀{is:eB}{us:cf},aM (is.map V.int) us->IntsAre us is:=by
 intro is;induction is with
 |nil=>intro us h;cases h;exact .nil
 |cons b r q=>
  intro us h;cases h with
  |cons a t=>obtain⟨c,rfl⟩:=(show ∃t,_=Value.int b t from a);exact .cons b c (q t)
theorem O1:∀(r:eB)(m:Int),(mh m r=m\/mh m r∈r)/\mh m r<=m/\∀a∈r,mh m r<=a:=by intro b;induction b<;>grind[mh]
theorem O2:∀(r:eB)(m:Int),(mi m r=m\/mi m r∈r)/\m<=mi m r/\∀a∈r,a<=mi m r:=by intro b;induction b<;>grind[mi]
theorem T5(h:M∈i::r)(h':∀a∈i::r,M<=a):M=mh i r:=by grind[O1]
theorem T8(h:M∈i::r)(h':∀a∈i::r,a<=M):M=mi i r:=by grind[O2]
theorem Ph(hc:X.c=true):bV X (.builtin "min") (λ xs H Q=>∃(p:Addr)(i:Int)(r:eB),xs=[.ref p]∧c9 X.K H p ((i::r).map V.int)∧Q (.int (mh i r)) H):=by
 intro aA s S H xs us Q I r h;obtain⟨l,i,is,rfl,hl,q⟩:=h;obtain⟨u,rfl,m⟩:=gr r;cases m;obtain⟨o,n,k,x⟩:=I.list hl;have hi:=dQ n;have hL:=k.isList;obtain⟨ys,e⟩:=hi.allInts.items;have O:i::is=ys.toList.map (·.1):=by rw[<-hi.numsOf,<-nums_intItems,<-e]
 have b:0<ys.size:=by have Y:0<(i::is).length:=Nat.succ_pos _;rw[O,qz,ym]at Y;exact Y
 rw[e]at hL;refine min_intList (I.ok.hd hc) hL b λ v h' y g f=>?_;obtain⟨t,rfl⟩:=intItems_at g;obtain⟨w,c⟩:=argBest_lt (numAt ys) (ys.size-1);refine⟨_,H,I.kept f,?_,q⟩;have:numAt ys (argBest (λ i j=>decide (numAt ys i<numAt ys j)) (ys.size-1))=mh i is:=T5 (by rw[O,numAt_eq];exact getD_mem (by rw[qz,ym];lia)) λ a Z=>by
  rw[O]at Z;obtain⟨j,d,rfl⟩:=mem_getD Z;rw[qz,ym]at d;rw[<-numAt_eq];exact c j aD
 rw[this];exact⟨_,rfl⟩
theorem Pm(hc:X.c=true):bV X (.builtin "max") (λ xs H Q=>∃(p:Addr)(i:Int)(r:eB),xs=[.ref p]∧c9 X.K H p ((i::r).map V.int)∧Q (.int (mi i r)) H):=by
 intro aA s S H xs us Q I r h;obtain⟨l,i,is,rfl,hl,q⟩:=h;obtain⟨u,rfl,m⟩:=gr r;cases m;obtain⟨o,n,k,x⟩:=I.list hl;have hi:=dQ n;have hL:=k.isList;obtain⟨ys,e⟩:=hi.allInts.items;have O:i::is=ys.toList.map (·.1):=by rw[<-hi.numsOf,<-nums_intItems,<-e]
 have b:0<ys.size:=by have Y:0<(i::is).length:=Nat.succ_pos _;rw[O,qz,ym]at Y;exact Y
 rw[e]at hL;refine max_intList (I.ok.hd hc) hL b λ v h' y g f=>?_;obtain⟨t,rfl⟩:=intItems_at g;obtain⟨w,c⟩:=argBest_gt (numAt ys) (ys.size-1);refine⟨_,H,I.kept f,?_,q⟩;have:numAt ys (argBest (λ i j=>decide (numAt ys i>numAt ys j)) (ys.size-1))=mi i is:=T8 (by rw[O,numAt_eq];exact getD_mem (by rw[qz,ym];lia)) λ a Z=>by
  rw[O]at Z;obtain⟨j,d,rfl⟩:=mem_getD Z;rw[qz,ym]at d;rw[<-numAt_eq];exact c j aD
 rw[this];exact⟨_,rfl⟩
theorem bV.or(h:bV X f r)(h':bV X f q):bV X f (λ xs H Q=>r xs H Q\/q xs H Q):=
 λ aA s S H xs us Q I v z=>z.elim (λ a=>h aA s S H xs us Q I v a) (λ a=>h' aA s S H xs us Q I v a)
theorem Hr(h:CJ f is=some d):∃i r,is=i::r/\d=.int (f i r):=by
 cases is with
 |nil=>cases h
 |cons i r=>cases h;exact⟨i,r,rfl,rfl⟩
theorem Sm(Z:X.c=true):i6 X (.builtin "max") oi:=⟨_,(Pn Z).or (Pm Z),λ c H0 H J S ds d vs Q R r e q=>by
 unfold oi at e;split at e
 .cases e;obtain⟨v,f,rfl,O,b⟩:=aB.v2 r;subst O b;exact .inl ⟨_,_,rfl,q _ H0 H (aE.refl _) R (fV _ _)⟩
 .obtain⟨a,e1,e2⟩:=aS e;obtain⟨i,a,rfl,rfl⟩:=Hr e2;obtain⟨v,rfl,Y⟩:=aB.v1 r;obtain⟨p,ws,rfl,s,t⟩:=Y;have:=Ao e1 t;subst this;exact .inr ⟨p,i,a,rfl,aE.seq R.same s,q _ H0 H (aE.refl _) R (fV _ _)⟩
 .cases e⟩
theorem Pp(Z:X.c=true):i6 X (.builtin "min") t7:=⟨_,(Pj Z).or (Ph Z),λ c H0 H J S ds d vs Q R r e q=>by
 unfold t7 at e;split at e
 .cases e;obtain⟨v,f,rfl,O,b⟩:=aB.v2 r;subst O b;exact .inl ⟨_,_,rfl,q _ H0 H (aE.refl _) R (fV _ _)⟩
 .obtain⟨a,e1,e2⟩:=aS e;obtain⟨i,a,rfl,rfl⟩:=Hr e2;obtain⟨v,rfl,Y⟩:=aB.v1 r;obtain⟨p,ws,rfl,s,t⟩:=Y;have:=Ao e1 t;subst this;exact .inr ⟨p,i,a,rfl,aE.seq R.same s,q _ H0 H (aE.refl _) R (fV _ _)⟩
 .cases e⟩
theorem GN{K:Frag}{H:Hp}:∀{ds:aG}{bs:List Bool}{vs:bY},lh ds=some bs->aB K H ds vs->vs=bs.map V.b
 |[],_,_,e,r=>by
  have q:([]:List Bool)=_:=qi e;unfold aB at r;rw[r,<-q];rfl
 |d::ds,_,_,e,r=>by
  cases d with
  |b b=>
   rw[SR]at e;obtain⟨bs,e1,e2⟩:=aS e;cases e2;unfold aB at r;obtain⟨v,O,rfl,a,t⟩:=r;unfold aU at a;rw[a,GN e1 t];rfl
  |_=>cases e
theorem O4:∀{bs:List Bool}{us:cf},aM (bs.map V.b) us->LSm.BoolsAre us bs:=by
 intro bs;induction bs with
 |nil=>intro us h;cases h;exact .nil
 |cons b r q=>
  intro us h;cases h with
  |cons a t=>cases(show _=Value.bool b from a);exact .cons b (q t)
theorem P0(hc:X.c=true):bV X (.builtin "all") (λ xs H Q=>∃(p:Addr)(bs:List Bool),xs=[.ref p]∧c9 X.K H p (bs.map V.b)∧Q (.b (bs.all id)) H):=by
 intro aA s S H xs us Q I r h;obtain⟨l,bs,rfl,hl,q⟩:=h;obtain⟨u,rfl,g⟩:=gr r;cases g;obtain⟨O,j,f,t⟩:=I.list hl;have Z:=O4 j;have hl:=f.isList;have Y:l<s.heap.n:=by obtain⟨_,e,_⟩:=hl;exact qm e
 refine call_all_walk (wpAny_pyIter_list hl ?_);refine⟨s.heap.n,[s.heap.n,l],[s.heap.n],O.toArray.size,_,_,λ i=>(bs[i]?).getD true,rfl,Walks.list (A:=X.A.in1) (I.ok.hd hc) _ l (qv Y) O.toArray,⟨⟨_,qk _ rfl,rfl,rfl⟩,hl.push _⟩,λ i v s' o m c a=>?_,λ h' k d=>?_⟩
 .obtain⟨b,e,rfl⟩:=Z.get i v (by simpa using c);simp only[e,Option.getD_some]at a;exact yn a
 .have e:((List.range O.toArray.size).all λ i=>(bs[i]?).getD true)=bs.all id:=by rw[zk,Z.length];exact LSm.range_all bs
  rw[e];exact⟨.b _,H,I.kept (t':=k) (LSm.kept_iter d),rfl,q⟩
theorem AZ(Y:X.c=true):i6 X (.builtin "all") gf:=⟨_,P0 Y,λ c H0 H J S ds d vs Q R r e q=>by
 unfold gf at e;split at e
 .obtain⟨bs,e1,e2⟩:=aS e;cases e2;obtain⟨v,rfl,O⟩:=aB.v1 r;unfold aU at O;obtain⟨p,ws,rfl,s,t⟩:=O;have:=GN e1 t;subst this;exact⟨p,bs,rfl,aE.seq R.same s,q _ H0 H (aE.refl _) R (lN _ _)⟩
 .cases e⟩
noncomputable def uQ:Ty->String
 |.int=>"int"| .bool=>"bool"| .str=>"str"| .tuple=>"tuple"| .list=>"list"
noncomputable def uR(d:D):Value:=match d with
 |.n=>.type "NoneType"| .b _=>.type "bool"| .int _=>.type "int"| .str _=>.type "str"| .t _=>.type "tuple"| .l _=>.type "list"| .opq=>.type "dict"| .c _ _=>.type "dict"
theorem cl9(K:Frag)(t:Ty)(d:D):PySem.W.kitOne K (uR d) (.type (uQ t))=some (iP t d):=by cases t<;>cases d<;>rfl
theorem VS(t:Ty):bV X (.builtin "isinstance") (λ xs H Q=>∃d x,xs=[x,.ty (uQ t)]∧aU X.K H d x∧Q (.b (iP t d)) H):=by
 intro aA s S H xs us Q I r h;obtain⟨d,x,rfl,Y,q⟩:=h;obtain⟨u,w,rfl,Z,l⟩:=tw r;cases(show w=Value.type _ from l);have k:=cl9 X.K t d;have O:∀j,EP X aA S Q (.bool (iP t d)) {s with toks:=j}:=λ j=>⟨.b _,H,I.tok j,rfl,q⟩
 cases d with
 |n=>unfold aU at Y;subst Y;cases(show u=Value.none from Z);exact jw PySem.W.kitx_none I.kIn Zb k (λ z=>nomatch z) O
 |b y=>unfold aU at Y;subst Y;cases(show u=Value.bool y from Z);exact jw PySem.W.kitx_bool I.kIn Zb k (λ z=>nomatch z) O
 |int i=>unfold aU at Y;subst Y;obtain⟨t,z⟩:=(show ∃t,u=Value.int i t from Z);cases z;exact jw PySem.W.kitx_int I.kIn Zb k (λ z=>nomatch z) O
 |str y=>unfold aU at Y;subst Y;obtain⟨t,z⟩:=(show ∃t,u=Value.str y t from Z);cases z;exact jw PySem.W.kitx_str I.kIn Zb k (λ z=>nomatch z) O
 |t ds=>
  unfold aU at Y;obtain⟨a,vs,rfl,g,_⟩:=Y;cases(show u=Value.ref a from Z);obtain⟨_,_,⟨o,b,c,_⟩,_⟩:=I.tuple g;exact jw PySem.W.kitx_tuple I.kIn ⟨o,b,c⟩ k (λ z=>nomatch z) O
 |c p ds=>
  unfold aU at Y;obtain⟨a,ob,us,rfl,e,_⟩:=Y;cases(show u=Value.ref a from Z);obtain⟨_,_,_,vs,_,f⟩:=(show bO X.p X.w H s.heap a (.frz ob (.dK _))from I.hok a _ e);obtain⟨o,es,m,b,c,_⟩:=f;exact jw PySem.W.kitx_dict I.kIn ⟨o,b,c.1⟩ k (λ z=>nomatch z) O
 |opq=>
  unfold aU at Y;obtain⟨a,kvs,rfl,e⟩:=Y;cases(show u=Value.ref a from Z);obtain⟨_,_,vs,_,f⟩:=(show bO X.p X.w H s.heap a (.dK kvs)from I.hok a _ e);obtain⟨o,es,m,b,c,_⟩:=f;exact jw PySem.W.kitx_dict I.kIn ⟨o,b,c.1⟩ k (λ z=>nomatch z) O
 |l ds=>
  unfold aU at Y;obtain⟨a,vs,rfl,g,_⟩:=Y;cases(show u=Value.ref a from Z);obtain⟨_,_,⟨o,n,b,c,_⟩,_⟩:=I.list g;exact jw PySem.W.kitx_list I.kIn ⟨o,b,c⟩ k (λ z=>nomatch z) O
theorem Ew{t:Ty}{T:Str}{p O pos:Pos}{e:Expr}{F:FE}(hi:X.mg "isinstance"=none)(hm:X.mg T=none)(hT:bootBuiltins T=some (.type (uQ t)))(ha:XE X e F)(hg:Gl X "isinstance":=by rfl)(Z:Gl X T:=by rfl)(hn:T≠"__name__":=by decide)(hd:dJ T:=by decide)(hs:starEach [e,.Name T O] X.v=(false,eval e X.v)::starEach [.Name T O] X.v:=by rfl)(ac:starEach [.Name T O] X.v=[(false,eval (.Name T O) X.v)]:=by rfl)(ae:(backTo pos (starEach [.Name T O] X.v)).any (·.1)=false:=by rfl):XE X (.Call (.Name "isinstance" p) [e,.Name T O] [] pos) (pN t F):=
 PE.wk (uF (VS t) hg hi PyProof.Rows.boot_isinstance (iT ha (iT (RU (v:=.ty (uQ t)) Z hm hT rfl hn hd) k7 ac) hs) aH aH hs ae) λ S H Q Y=>by
  obtain⟨c,H0,J,d,a,R,f,q⟩:=Y;unfold pN at f;obtain⟨⟨x,i⟩,k,f⟩:=aS f;have j:some (D.b (iP t x),i)=some (d,a):=f;cases j;exact⟨c,H0,J,x,_,R,k,λ v g h m b l=>⟨x,v,rfl,aU.mono b.same x l,q _ g h m b (lN _ _)⟩⟩
def r_(K:Frag)(g:aG->Option D):Sp:=λ vs H Q _=>∃q ds d,aE q H/\aB K q ds vs/\g ds=some d/\∀v eS H',bS q H eS H'->aU K eS d v->Q v H'
structure aR(P:Program)(w:World)(K:Frag)(mg:Str->Option Value)(base:Heap)(k:Nat)(x:Str)(g:aG->Option D):Prop where
 ex:∃f fd ps,da P w K mg base i7 k f fd ps (r_ K g)/\dS K fd ps []/\keepIn K (.ref f)=true/\mg x=some (.ref f)
theorem xF{k:Nat}{x:Str}{g:aG→fA}{A:FA}{p pos:Pos}{e:Expr}{es:eH}(G:aR X.p X.w X.K X.mg X.base k x g)(hr:cm k X.A)(ha:XA X (e::es) A)(hg:Gl X x)(aa:dJ x)(he:kv X e es)(Z:lH X pos es):XE X (.Call (.Name x p) (e::es) [] pos) (eF g A):=by
 obtain⟨f,fd,ps,F,m,n,o⟩:=G.ex;refine PE.wk (F_ F hr hg o n m .nil Ia ha aa he Z) λ S H Q O=>?_;obtain⟨c,H0,J,d,a,R,z,q⟩:=O;unfold eF at z;obtain⟨⟨ds,Y⟩,j,z⟩:=aS z;obtain⟨i,l,z⟩:=aS z;have u:some (i,Y)=some (d,a):=z;cases u;exact⟨c,H0,J,ds,_,R,j,λ vs h y t b r=>⟨h,ds,d,b.same,by rw[yb];exact r,l,λ v eS H' σ s=>q v eS H' (t.trans σ.s0) (b.after σ) s⟩⟩
end
def lZ(K:Frag)(ρ:It)(H1:Hp)(xs:aG):Prop:=∀(H0 H:Hp)(i:Nat),aE H1 H0->aE H0 H->(∀d,xs[i]?=some d->ρ.go i H/\∀x H',ρ.yld i H x H'->∃aV,bS H0 H aV H'/\aU K aV d x)/\(xs.length<=i->ρ.stop i H)
theorem R_{K:Frag}(rd:c9 K H1 a vs)(r:aB K H1 xs vs):lZ K (Ad K a) H1 xs:=λ H0 H i s s'=>by
 have q:=aE.seq (s.trans s') rd;refine⟨λ d e=>?_,λ h=>⟨vs,q,by rw[<-r.length];exact h⟩⟩;obtain⟨v,e1,e2⟩:=r.get e;refine⟨⟨vs,v,q,e1⟩,λ x H'⟨rfl,b⟩=>⟨H0,.refl s',?_⟩⟩;have:=b vs q;rw[e1]at this;cases this;exact aU.mono s d e2
theorem SX{K:Frag}(rd:d8 K H1 a vs)(r:aB K H1 xs vs):lZ K (Af K a) H1 xs:=λ H0 H i s s'=>by
 have q:=aE.seqT (s.trans s') rd;refine⟨λ d e=>?_,λ h=>⟨vs,q,by rw[<-r.length];exact h⟩⟩;obtain⟨v,e1,e2⟩:=r.get e;refine⟨⟨vs,v,q,e1⟩,λ x H'⟨rfl,b⟩=>⟨H0,.refl s',?_⟩⟩;have:=b vs q;grind[e1,aU.mono,aU,e2]
theorem va:∀(n:Nat)(lo:Int),(dz lo n).length=n
 |0,_=>rfl
 |n+1,lo=>by show(dz (lo+1) n).length+1=n+1;rw[va n]
theorem BK:∀(n:Nat)(lo:Int)(i:Nat)(d:D),(dz lo n)[i]?=some d->d=.int (lo+i)/\i<n
 |0,lo,i,d,h=>by simp[dz]at h
 |n+1,lo,0,d,h=>by
  simp[dz]at h;exact⟨by rw[<-h];simp,by lia⟩
 |n+1,lo,i+1,d,h=>by
  have h':(dz (lo+1) n)[i]?=some d:=by simpa [dz]using h
  obtain⟨a,b⟩:=BK n (lo+1) i d h';refine⟨by rw[a];congr 1;push_cast;lia,by lia⟩
theorem BQ{K:Frag}(lo:Int)(n:Nat):lZ K (sM lo n) H1 (dz lo n):=λ H0 H i s s'=>by
 refine⟨λ d e=>?_,λ h=>by rw[va]at h;exact h⟩;obtain⟨rfl,hi⟩:=BK n lo i d e;refine⟨hi,λ x H'⟨rfl,a⟩=>⟨H0,.refl s',a⟩⟩
def Ae(z:Str):It:=⟨λ i _=>i<z.cps.size,λ i H x H'=>H'=H/\∃c,z.cps[i]?=some c/\x=.str (cJ c),λ i _=>z.cps.size<=i⟩
theorem I3{K:Frag}(z:Str)(t:Tok)(it:Addr)(hn:["enumerate","zip","dict_itemiterator","dict_reverseitemiterator","odict_iterator","itertools.zip_longest","itertools.pairwise"].contains n=false)(W:∀A:Around,A.handled=none->Walks P w A it [it] [it] z.cps.size (SignAt z) (λ i h=>h.IsStrIter it n z t i))(ac:∀(A:Around)(s:Shared)(i:Nat)(Q:Option Value->Shared->Prop)(E:dw),A.handled=none->s.heap.IsStrIter it n z t i->z.cps[i]?=none->(∀h',Heap.ExtBut it s.heap h'->Q none {s with heap:=h'})->wpAny (model P w) A (pyNext (.ref it)) Q E s)(aa:∀(A:Around)(i:Nat)(s:Shared)(Q:dw)(E:dw),s.heap.IsStrIter it n z t i->Q (.ref it) s->wpAny (model P w) A (pyIter (.ref it)) Q E s):gZ P w K tg (Ae z) [it] it (λ i h=>h.IsStrIter it n z t i)where
 mem:=aQ
 obj:=λ i h st b q=>by
  have e:b=it:=by simpa using q
  subst e;obtain⟨o,e,c,d⟩:=st;exact⟨o,e,λ v z=>by rw[d]at z;cases z⟩
 keep:=λ i h h' st k=>let ⟨o,e,r⟩:=st;⟨o,k it aQ o e,r⟩
 item:=by
  intro X l hw j m i aA s S H E I Z st O;subst l hw j;obtain⟨f0,f1,B,a,f,g⟩:=Z it aQ;refine(W X.A (I.ok.hd m)).item i s _ _ O st λ v h' F C Y D=>?_;obtain⟨p,u,e1,rfl⟩:=C;have x:aI X aA S H {s with heap:=h',toks:=F}:=I.turned (λ b o q e=>D b o (by simpa using q) e) f0 f1 a f g;obtain⟨o,e,c,d⟩:=id Y;exact⟨_,rfl,vO e c d hn ⟨.str (cJ p),H,x,⟨u,rfl⟩,⟨rfl,p,e1,rfl⟩,Y,λ b q=>(Z b q).1⟩⟩
 done:=by
  intro X l hw j m i aA s S H E I Z st O;subst l hw j;obtain⟨f0,f1,B,a,f,g⟩:=Z it aQ;have O:z.cps.size<=i:=O;exact ac X.A s i _ _ (I.ok.hd m) st (by simp[O]) λ h' y=>⟨rfl,I.turned (λ b o q e=>y b o q e) f0 f1 a f g⟩
 self:=λ A i s Q E st h=>aa A i s Q E st h
def JR(t:TE):TI:=λ S H R=>t S H λ x H1=>∃z,x=.str z/\R (Ae z) H1
def MC(K:Frag)(t:TE):TI:=λ S H R=>Lo K t S H R\/JQ K t S H R\/JR t S H R
theorem Wm(hl:PE X l tl):PI X tg l (JR tl):=by
 intro aA s S H R I h;refine bQ (hl aA s S H _ I h) λ v O=>dD λ x a Z k j=>?_;obtain⟨z,e,q⟩:=j;subst e;obtain⟨t,rfl⟩:=k;have fp:∀(o:Obj),∀b∈[O.heap.objs.size],cK X aA a b:=λ o b g=>by
  have e:b=O.heap.objs.size:=by simpa using g
  subst e;exact Z.fpOk (qj _) (Z.hok.fresh (qj _))
 cases f:z.cps.all (·<128)
 .refine wpAny_pyIter_wide f ?_;exact⟨O.heap.objs.size,[O.heap.objs.size],_,_,a,rfl,Z.kept λ b o e=>qf _ e,I3 z t _ aH (λ A Y=>Walks.strWide Y _ z t) (λ A s i Q E Y st d c=>wpAny_pyNext_wide_end Y st d c) (λ _ _ _ _ _ st h=>wpAny_pyIter_striter_wide st h),⟨_,qk _ rfl,rfl,rfl⟩,fp {cls:=.none,data:=.fields #[]},q⟩
 .refine wpAny_pyIter_ascii f ?_;exact⟨O.heap.objs.size,[O.heap.objs.size],_,_,a,rfl,Z.kept λ b o e=>qf _ e,I3 z t _ aH (λ A Y=>Walks.strAscii Y _ z t) (λ A s i Q E Y st d c=>wpAny_pyNext_ascii_end Y st d c) (λ _ _ _ _ _ st h=>wpAny_pyIter_striter_ascii st h),⟨_,qk _ rfl,rfl,rfl⟩,fp {cls:=.none,data:=.fields #[]},q⟩
theorem SY{K:Frag}(z:Str):lZ K (Ae z) H1 (km z):=λ H0 H i s s'=>by
 have hl:(km z).length=z.cps.size:=by unfold km;rw[qz,ym]
 refine⟨λ d e=>?_,λ h=>by rw[hl]at h;exact h⟩;have hi:i<z.cps.size:=by rw[<-hl];exact(ir.mp e).1
 refine⟨hi,λ x H'⟨rfl,b,a,O⟩=>⟨H0,.refl s',?_⟩⟩;unfold km at e;rw[yt,Yh,a]at e;have q:=qi e;subst q;exact O
theorem wJ(hl:PE X l tl):PI X tg l (MC X.K tl):=λ aA s S H R I h=>by
 rcases h with h|h|h
 .exact Sb hl aA s S H R I h
 .exact Wl hl aA s S H R I h
 .exact Wm hl aA s S H R I h
theorem x5{K:Frag}(rs:RS K c H0 H J S)(f:F J=some (d,ρ'))(hx:items d=some xs)(h:∀ρ H1 O,aE H0 H1->RS K c H1 O ρ' S->lZ K ρ H1 xs->R ρ O):MC K (tE K F) S H R:=by
 cases d with
 |l ds=>
  have e:=qi hx;subst e;refine .inl ⟨c,H0,J,_,ρ',rs,f,λ v H1 O Z Y q=>?_⟩;obtain⟨a,vs,rfl,rd,r⟩:=q;exact⟨a,rfl,⟨vs,aE.seq Y.same rd⟩,h _ H1 O Z Y (R_ rd r)⟩
 |t ds=>
  have e:=qi hx;subst e;refine .inr (.inl ⟨c,H0,J,_,ρ',rs,f,λ v H1 O Z Y q=>?_⟩);obtain⟨a,vs,rfl,rd,r⟩:=q;exact⟨a,rfl,⟨vs,aE.seqT Y.same rd⟩,h _ H1 O Z Y (SX rd r)⟩
 |str z=>
  have e:=qi hx;subst e;refine .inr (.inr ⟨c,H0,J,_,ρ',rs,f,λ v H1 O Z Y q=>?_⟩);exact⟨z,q,h _ H1 O Z Y (SY z)⟩
 |_=>cases hx
theorem Jf:∀{js:dr}{fr:En},fj J js=some fr->fr.length=js.length/\∀(k:Nat)(s:Sl),fr[k]?=some s->∃j d,js[k]?=some j/\J[j]?=some (.i d)/\s=.i d
 |[],_,h=>by
  have h':=qi h;subst h';exact⟨rfl,λ k s e=>by simp at e⟩
 |j::js,_,h=>by
  rw[O7]at h;obtain⟨s,c,h⟩:=aS h;obtain⟨r,f,h⟩:=aS h;cases h;obtain⟨a,b⟩:=Jf f;refine⟨by rw[zt,zt,a],λ k s' e=>?_⟩;cases k with
  |zero=>
   simp at e;subst e;cases z:J[j]? with
   |none=>rw[z]at c;cases c
   |some Z=>
    rw[z]at c;cases Z with
    |i d=>exact⟨j,d,rfl,z,(qi c).symm⟩
    |_=>cases c
  |succ k=>
   obtain⟨O,d,Y,x2,q⟩:=b k s' (by simpa using e);exact⟨O,d,by simpa using Y,x2,q⟩
theorem RS.block{K:Frag}(R:RS K c H0 H J S)(Y:fj J js=some fr)(rx:aU K H0 d x):RS K ⟨H0,H,[]⟩ H0 H (.i d::fr) (some x::iD S js):=by
 obtain⟨l,g⟩:=Jf Y;refine⟨R.same,aE.refl _,λ b o e=>.inl e,λ b o e _=>e,λ a h=>(by cases h),?_,λ i f e=>?_,λ i b o e=>?_,λ i j b p o r a e=>?_⟩
 .rw[zt,zt,l,iD,qz]
 .cases i with
  |zero=>simp at e;subst e;exact⟨x,rfl,rx⟩
  |succ k=>
   obtain⟨j,O,Z,x2,q⟩:=g k _ (by simpa using e);cases q;obtain⟨v,m,n⟩:=R.im j f x2;refine⟨v,?_,n⟩;show(iD S js)[k]?=some (some v);unfold iD;rw[yt,Z];show some (S[j]?).join=some (some v);rw[m];rfl
 .cases i with
  |zero=>simp at e
  |succ k=>
   obtain⟨j,O,_,_,q⟩:=g k _ (by simpa using e);cases q
 .cases i with
  |zero=>simp at e
  |succ k=>
   obtain⟨j,O,_,_,q⟩:=g k _ (by simpa using e);cases q
theorem RS.step{K:Frag}(R:RS K ⟨O,q,[]⟩ H0 H J S):bS O q H0 H:=
 ⟨R.init,λ b o e=>R.keep b o e aQ,R.same,R.fresh⟩
theorem u7{xs:List α}{d:α}(h:xs[i]?=some d):xs.drop i=d::xs.drop (i+1):=by obtain⟨hi,e⟩:=ir.mp h;rw[<-e];exact List.drop_eq_getElem_cons hi
theorem CF{K:Frag}(R:RS K c H1 Hh J S)(hf:fj J js=some fr)(hc:du T F fr xs=some Z)(hz:xs.length<=sizeLine)(hy:lZ K ρ H1 xs)(q:∀ys H0 H,aE H1 H0->RS K c H0 H J S->aB K H0 Z ys->Qf ys H):vj js (lT K T) (tE K F) S Qf ρ Hh:=by
 refine⟨λ i m ys H=>m=xs.length-i/\i<=xs.length/\∃H0,aE H1 H0/\RS K c H0 H J S/\∃Y rest,aB K H0 Y ys/\Y.length<=i/\du T F fr (xs.drop i)=some rest/\Y++rest=Z,⟨xs.length,by simp,yg _,H1,aE.refl _,R,[],Z,aB.nil_,yg _,by simpa using hc,rfl⟩,?_⟩;rintro i m ys H ⟨rfl,hi,H0,s0,d,Y,rest,a,G,O,e⟩;obtain⟨B,C⟩:=hy H0 H i s0 d.same;by_cases h:i<xs.length
 .have hd:xs[i]?=some xs[i]:=by simp[h]
  obtain⟨w,D⟩:=B _ hd;refine .inr ⟨w,by rw[<-a.length];lia,λ x H' y=>?_⟩;obtain⟨aV,g,A⟩:=D x H' y;have f:=d.after g;have s0:=s0.trans g.s0;have a:=aB.mono g.s0 _ a;rw[u7 hd,SV]at O;obtain⟨⟨b,l⟩,r,O⟩:=aS O;refine⟨⟨aV,H',[]⟩,aV,_,b,l,f.block hf A,r,λ k dk I R2=>?_⟩;cases b with
  |false=>
   rw[if_neg yf]at O⊢;have σ:=R2.step;exact⟨xs.length-(i+1),by lia,rfl,h,k,s0.trans σ.s0,f.after σ,Y,rest,aB.mono σ.s0 _ a,by lia,O,e⟩
  |true=>
   rw[if_pos rfl]at O⊢;obtain⟨⟨z,p⟩,s,O⟩:=aS O;obtain⟨t,u,O⟩:=aS O;have j:=O;cases j;refine⟨⟨aV,H',[]⟩,k,l,z,p,R2,s,λ v n eN L o r3=>?_⟩;have σ:=o.step;refine⟨xs.length-(i+1),by lia,rfl,h,n,s0.trans σ.s0,f.after σ,Y++[z],t,(aB.mono σ.s0 _ a).app (aB.one r3),?_,u,?_⟩
   .rw[zr,Q7];lia
   .rw[Qy];exact e
 .have E:i=xs.length:=aD;have hn:xs.drop i=[]:=jq aD;rw[hn,Pq]at O;have j:=qi O;subst j;rw[yb]at e;subst e;exact .inl ⟨C aD,by rw[<-a.length];lia,q ys H0 H s0 d a⟩
def nV(X:Cx)(cx:eH)(T:FT):Prop:=kH X cx (lT X.K T)
theorem kH.wk(h:kH X e t)(w:∀S H Q,t' S H Q->t S H Q):kH X e t':=λ aA s S H Q I q=>h aA s S H Q I (w S H Q q)
theorem qE:nV X [] Fx.bD:=kH.wk RL λ S H Q O=>by
 obtain⟨c,H0,J,b,a,R,f,q⟩:=O;have Y:=f;cases Y;exact q H0 H (aE.refl _) R
theorem FG(h:XT X c T):nV X [c] T:=RK h
section
variable{cx:eH}
theorem HC(h:c4 js I T F J=some (d,ρ')):∃z xs fr ys,I J=some (z,ρ')/\items z=some xs/\fj ρ' js=some fr/\du T F fr xs=some ys/\xs.length<=sizeLine/\d=.l ys:=by
 obtain⟨⟨z,Y⟩,a,h⟩:=aS h;obtain⟨xs,b,h⟩:=aS h;obtain⟨fr,O,h⟩:=aS h;obtain⟨ys,q,h⟩:=aS h;split at h
 .rename_i c;cases h;exact⟨z,xs,fr,ys,a,b,O,q,c,rfl⟩
 .cases h
theorem Nn(hc:X.c=true)(Y:X.v.scope=sc)(B:iB X.N sc scope x aT js)(hi:XE X iter I)(Z:∀s H C fp,nV (de X (x::aT) scope s H C fp) cx T)(he:∀s H C fp,XE (de X (x::aT) scope s H C fp) elt F)(hs:oA X iter:=by intro _;rfl):XE X (.ListComp elt [⟨.Name x px,iter,cx,0⟩] scope pos) (c4 js I T F):=
 PE.wk (Ws (tt:=lT X.K T) (te:=tE X.K F) hc Y B (wJ hi) Z he hs) λ S H Q O=>by
  obtain⟨c,H0,J,d,r,R,f,q⟩:=O;obtain⟨z,xs,fr,ys,b,e,g,h,k,rfl⟩:=HC f;refine x5 R b e λ ρ t v m a j=>?_;refine CF a g h k j λ vs u dk n R2 l=>λ p i=>?_;have σ:=bS.alloc (o:=.l vs) R2.same i;refine q _ _ _ (m.trans (n.trans σ.s0)) (R2.after σ) ?_;exact⟨p,vs,rfl,.inl (.inl cM),aB.mono σ.s0 _ l⟩
end
def gx(K:Frag)(c:FC)(Dn:gv)(H0:Hp):jP->Prop
 |.nx ρ'=>∀q aV H',aE H0 aV->RS K c aV H' ρ' q->Dn.nx q H'
 |.rt d ρ'=>∀v q aV H',aE H0 aV->RS K c aV H' ρ' q->aU K aV d v->Dn.rt v H'
 |.bk ρ'=>∀q aV H',aE H0 aV->RS K c aV H' ρ' q->Dn.bk q H'
 |.ct ρ'=>∀q aV H',aE H0 aV->RS K c aV H' ρ' q->Dn.ct q H'
def tS(K:Frag)(F:FS):TS:=λ Dn S H=>∃c H0 J r,RS K c H0 H J S/\F J=some r/\gx K c Dn H0 r
def XS(X:Cx)(st:Stmt)(F:FS):Prop:=PS X st (tS X.K F)
def il(X:Cx)(sts:iF)(F:FS):Prop:=eE X sts (tS X.K F)
theorem gx.mono{K:Frag}(s:aE H0 H1):∀{r:jP},gx K c Dn H0 r->gx K c Dn H1 r
 |.nx _,h=>λ q aV H' z=>h q aV H' (s.trans z)
 |.rt _ _,h=>λ v q aV H' z=>h v q aV H' (s.trans z)
 |.bk _,h=>λ q aV H' z=>h q aV H' (s.trans z)
 |.ct _,h=>λ q aV H' z=>h q aV H' (s.trans z)
theorem RS.set{K:Frag}(R:RS K c H0 H J S)(i:Nat)(r:aU K H0 d v):RS K c H0 H (J.set i (.i d)) (S.set i (some v)):=by
 have hl:=R.len;have O:∀(j:Nat)(Z:Sl),j≠i->(J.set i (.i d))[j]?=some Z->J[j]?=some Z:=λ j Z Y e=>by grind
 have q:∀(j:Nat),j≠i->(S.set i (some v))[j]?=S[j]?:=λ j Y=>yh (jc Y);have same:∀(Z:Sl),(J.set i (.i d))[i]?=some Z->Z=.i d/\i<J.length:=λ Z e=>by
  by_cases hi:i<J.length
  .grind
  .grind
 refine⟨R.same,R.init,R.fresh,R.keep,R.apt,by rw[yv,yv,hl],λ j l e=>?_,λ j h o e=>?_,λ j k f g o m a e1 e2 e3 e4=>?_⟩
 .by_cases Y:j=i
  .grind
  .rw[q j Y];exact R.im j l (O j _ Y e)
 .by_cases Y:j=i
  .grind
  .rw[q j Y];exact R.ow j h o (O j _ Y e)
 .by_cases Y:j=i
  .grind
  .by_cases b:k=i
   .grind
   .rw[q j Y]at e3;rw[q k b]at e4;exact R.ne j k f g o m a (O j _ Y e1) (O k _ b e2) e3 e4
section
variable{X:Cx}{pos:Pos}{e:Expr}{F:FE}{T:FT}{A B:FS}
theorem gU:il X [] sN:=eE.wk B6 λ Dn S H O=>by
 obtain⟨c,H0,J,r,R,f,q⟩:=O;have Y:=f;cases Y;exact q S H0 H (aE.refl _) R
theorem fi{st:Stmt}(h:XS X st A):il X [st] A:=r8 h
theorem b3{st:Stmt}{rest:iF}(h1:XS X st A)(h2:il X rest B):il X (st::rest) (aL A B):=eE.wk (rV h1 h2) λ Dn S H Z=>by
 obtain⟨c,H0,J,r,R,f,q⟩:=Z;obtain⟨z,h,f⟩:=aS f;refine⟨c,H0,J,z,R,h,?_⟩;cases z with
 |nx O=>exact λ b aV H' s a=>⟨c,aV,O,r,a,f,q.mono s⟩
 |rt d O=>have Y:=f;cases Y;exact q
 |bk O=>have Y:=f;cases Y;exact q
 |ct O=>have Y:=f;cases Y;exact q
theorem kZ(i:Nat)(hN:X.N.Nodup)(he:XE X e F)(hi:X.N[i]?=some x:=by rfl)(hx:Loc X.v.scope x:=by exact mA)(hs:rP X e (some (.Name x pos')) pos.line false:=by rfl)(Z:X.fn x=true\/X.v.scope.names.lookup x=some .local:=by exact mA):XS X (.Assign [.Name x pos'] e pos) (bN i F):=PS.wk (sx hN hi hx he hs Z) λ Dn S H Y=>by
 obtain⟨c,H0,J,r,R,f,q⟩:=Y;obtain⟨⟨d,O⟩,j,f⟩:=aS f;have h:=f;cases h;exact⟨c,H0,J,d,O,R,j,λ v a b l g k=>q _ a b l (g.set i k)⟩
theorem wB(i:Nat){cx:eH}(hN:X.N.Nodup)(hc:X.c=true)(ae:X.v.scope=sc)(Bk:iB X.N sc scope x aT js)(hi:XE X iter I)(ht:∀s H C fp,nV (de X (x::aT) scope s H C fp) cx T)(he:∀s H C fp,XE (de X (x::aT) scope s H C fp) elt F)(aa:X.N[i]?=some y:=by rfl)(Z:X.v.scope.names.lookup y=some .local:=by rfl)(ac:swapsWith (.ListComp elt [⟨.Name x px,iter,cx,0⟩] scope pos) (some (.Name y py)) spos.line X.v=pure true:=by rfl)(hs:oA X iter:=by intro _;rfl):XS X (.Assign [.Name y py] (.ListComp elt [⟨.Name x px,iter,cx,0⟩] scope pos) spos) (bN i (c4 js I T F)):=
 PS.wk (Ni (tt:=lT X.K T) (te:=tE X.K F) hN aa Z hc ae Bk (wJ hi) ht he ac hs) λ Dn S H O=>by
  obtain⟨c,H0,J,r,R,f,q⟩:=O;obtain⟨⟨d,Y⟩,g,f⟩:=aS f;have b:=f;cases b;obtain⟨z,xs,fr,ys,e,h,j,k,m,rfl⟩:=HC g;refine x5 R e h λ ρ v A t a Z=>?_;refine CF a j k m Z λ vs w dk u R2 n=>λ p l=>?_;have σ:=bS.alloc (o:=.l vs) R2.same l;refine q _ _ _ (t.trans (u.trans σ.s0)) ((R2.after σ).set i ?_);exact⟨p,vs,rfl,.inl (.inl cM),aB.mono σ.s0 _ n⟩
theorem gS(hc:XT X c T)(ha:il X a A)(hb:il X b B):XS X (.If c a b pos) (bG T A B):=PS.wk (v9 hc ha hb) λ Dn S H Y=>by
 obtain⟨c,H0,J,r,R,f,q⟩:=Y;obtain⟨⟨k,O⟩,g,f⟩:=aS f;refine⟨c,H0,J,k,O,R,g,λ d h e Z=>?_⟩;cases k with
 |true=>
  rw[if_pos rfl]at f⊢;exact⟨c,d,O,r,Z,f,q.mono e⟩
 |false=>
  rw[if_neg yf]at f⊢;exact⟨c,d,O,r,Z,f,q.mono e⟩
theorem oB(he:XE X e F):XS X (.Return (some e) pos) (bJ F):=PS.wk (B7 he) λ Dn S H Y=>by
 obtain⟨c,H0,J,r,R,f,q⟩:=Y;obtain⟨⟨d,O⟩,i,f⟩:=aS f;have h:=f;cases h;exact⟨c,H0,J,d,O,R,i,λ v a b j g Z=>q v S a b j g Z⟩
abbrev GD:=D->En->Option En
def tG(K:Frag)(g:GD):TG:=λ v S H Q=>∃c H0 J d ρ',RS K c H0 H J S/\aU K H0 d v/\g d J=some ρ'/\∀q aV H',aE H0 aV->RS K c aV H' ρ' q->Q q H'
def tGs(K:Frag)(is:dr):mT:=λ vs S H Q=>∃c H0 J ds,RS K c H0 H J S/\aB K H0 ds vs/\ds.length=is.length/\∀q aV H',aE H0 aV->RS K c aV H' (lY is ds J) q->Q q H'
def XG(X:Cx)(tg:Expr)(g:GD):Prop:=PG X tg (tG X.K g)
def vK(X:Cx)(q:eH)(is:dr):Prop:=qV X q (tGs X.K is)
theorem iZ(i:Nat)(hN:X.N.Nodup)(hi:X.N[i]?=some x:=by rfl)(hx:Loc X.v.scope x:=by exact mA)(Y:X.fn x=true\/X.v.scope.names.lookup x=some .local:=by exact mA):XG X (.Name x pos) (gN i):=
 λ aA s S H v u Q I Z O=>by obtain⟨c,H0,J,d,b,R,r,f,q⟩:=O;exact wK hN hi hx Y aA s S H v u Q I Z (by
  have a:=f;cases a;exact q _ H0 H (aE.refl _) (R.set i r))
theorem CV:vK X [] []:=λ aA s S H vs us Q I Y O=>by obtain⟨c,H0,J,ds,R,r,l,q⟩:=O;exact ID aA s S H vs us Q I Y (by
 have e:=List.length_eq_zero_iff.mp l;subst e;exact⟨r,q S H0 H (aE.refl _) (by simpa [S3]using R)⟩)
theorem rH(h1:XG X e (gN i))(h2:vK X es is)(hs:(assignEach (e::es) X.v).map (·.2)=assign e X.v::(assignEach es X.v).map (·.2):=by rfl):vK X (e::es) (i::is):=
 λ aA s S H vs us Q I j O=>by obtain⟨c,H0,J,ds,R,r,l,q⟩:=O;exact Bf h1 h2 hs aA s S H vs us Q I j (by
  cases ds with
  |nil=>simp at l
  |cons d ds=>
   obtain⟨v,m,rfl,g,h⟩:=r;refine⟨v,m,rfl,c,H0,J,d,_,R,g,rfl,λ o a n Z f=>?_⟩;exact⟨c,a,_,ds,f,aB.mono Z _ h,by simpa using l,λ Y b dk k R2=>q Y b dk (Z.trans k) (by simpa [Sa]using R2)⟩)
theorem NW{items:gm}(Y:X.A.handled=none)(hl:s.heap.IsList l items)(hn:(assignEach q X.v).length=items.size)(O:(assignEach q X.v).findIdx? (·.1)=none)(h:∀h',Heap.ExtBut s.heap.n s.heap h'->bU X.p X.w X.A (assignInOrder ((assignEach q X.v).map (·.2)) items.toList) Q E {s with heap:=h'}):bU X.p X.w X.A (assign (.Tuple q k pos) X.v (.ref l)) Q E s:=by
 rw[assign_Tuple];refine qb (Zc ?_);unfold unpack;rw[hn,O];exact qb (yo (PySem.W.kun_itemsOf Y hl h))
def ZK(K:Frag)(n:Nat)(t:mT):TG:=λ v S H Q=>∃a xs,v=.ref a/\c9 K H a xs/\xs.length=n/\t xs S H Q
theorem Wo{es:eH}{k:Nat}{t:mT}{n:Nat}(hc:X.c=true)(h:qV X es t)(hn:(assignEach es X.v).length=n)(q:(assignEach es X.v).findIdx? (·.1)=none):PG X (.Tuple es k pos) (ZK X.K n t):=by
 intro aA s S H v u Q I r hw;obtain⟨a,xs,e1,Y,hl,hw⟩:=hw;subst e1;cases r;obtain⟨f,O,d,g⟩:=I.list Y;refine NW (I.ok.hd hc) d.isList (by simp[hn,<-hl,O.length]) q λ h' c=>?_;have Z:aI X aA S H {s with heap:=h'}:=I.kept (t':=s.toks) λ b o e=>c b o (qv (qm e)) e;exact h aA _ S H xs _ Q Z (by simpa using O) hw
theorem Ep(h:vK X es is)(hc:X.c=true:=by rfl)(hn:(assignEach es X.v).length=is.length:=by rfl)(O:(assignEach es X.v).findIdx? (·.1)=none:=by rfl):XG X (.Tuple es k pos) (gT is):=
 λ aA s S H v u Q I g Y=>by
  obtain⟨c,H0,J,d,i,R,r,f,q⟩:=Y;obtain⟨xs,b,f⟩:=aS f;split at f
  .rename_i hl;cases f;cases d with
   |t ds=>
    refine Le hc h hn O aA s S H v u Q I g ?_;have e:=qi b;subst e;obtain⟨a,vs,rfl,Z,r⟩:=r;exact⟨a,vs,rfl,aE.seqT R.same Z,by rw[<-r.length];exact hl,c,H0,J,ds,R,r,hl,q⟩
   |l ds=>
    refine Wo hc h hn O aA s S H v u Q I g ?_;have e:=qi b;subst e;obtain⟨a,vs,rfl,Z,r⟩:=r;exact⟨a,vs,rfl,aE.seq R.same Z,by rw[<-r.length];exact hl,c,H0,J,ds,R,r,hl,q⟩
   |_=>cases b
  .cases f
theorem Rj(hg:XG X tg (gT is))(he:XE X e F)(hs:swapsWithSole [tg] e pos.line X.v=pure false:=by rfl)(hw:swappedStores [tg] e X.v=pure none:=by rfl)(h1:(assignEach [tg] X.v).map (·.2)=[assign tg X.v]:=by rfl):XS X (.Assign [tg] e pos) (CS is F):=PS.wk (TC he hg hs hw h1) λ Dn S H Z=>by
 obtain⟨c,H0,J,r,R,f,q⟩:=Z;obtain⟨⟨d,Y⟩,h1,f⟩:=aS f;obtain⟨O,j,f⟩:=aS f;have i:=f;cases i;exact⟨c,H0,J,d,Y,R,h1,λ v a n l g k=>⟨c,a,Y,d,O,g,k,j,λ h b dk m R2=>q h b dk (l.trans m) R2⟩⟩
theorem vY{K:Frag}(R:RS K c H1 Hh J S)(hf:dh g B xs J=some r)(hy:lZ K ρ H1 xs)(q:gx K c Dn H1 r):∃W:Nat->Nat->L2.St->Hp->Prop,(∃m,W 0 m S Hh)/\∀i m S H,W i m S H->(ρ.stop i H/\Dn.nx S H)\/(ρ.go i H/\∃N:L2.St->Hp->Prop,(∀O H',N O H'->∃m',m'<m/\W (i+1) m' O H')/\∀x H',ρ.yld i H x H'->tG K g x S H' λ af H2=>tS K B {Dn with nx:=N,ct:=N,bk:=Dn.nx} af H2):=by
 refine⟨λ i m S H=>m=xs.length-i/\i<=xs.length/\∃H0 J,aE H1 H0/\RS K c H0 H J S/\dh g B (xs.drop i) J=some r,⟨xs.length,by simp,yg _,H1,J,aE.refl _,R,by simpa using hf⟩,?_⟩;rintro i m S H ⟨rfl,hi,H0,J,s0,n,e⟩;obtain⟨y,A⟩:=hy H0 H i s0 n.same;by_cases o:i<xs.length
 .have hd:xs[i]?=some xs[i]:=by simp[o]
  obtain⟨go,C⟩:=y _ hd;refine .inr ⟨go,λ O H'=>∃m',m'<xs.length-i/\m'=xs.length-(i+1)/\i+1<=xs.length/\∃H0 J,aE H1 H0/\RS K c H0 H' J O/\dh g B (xs.drop (i+1)) J=some r,λ O H'⟨m',a,b⟩=>⟨m',a,b⟩,λ x H' u=>?_⟩;obtain⟨aV,σ,w⟩:=C x H' u;rw[u7 hd,SN]at e;obtain⟨p,s,e⟩:=aS e;obtain⟨z,t,e⟩:=aS e;refine⟨c,aV,J,_,p,n.after σ,w,s,λ D H2 dk l R2=>⟨c,H2,p,z,R2,t,?_⟩⟩;have k:=s0.trans σ.s0;cases z with
  |nx Y=>exact λ O f eN j h=>⟨_,by lia,rfl,o,f,Y,k.trans (l.trans j),h,e⟩
  |ct Y=>exact λ O f eN j h=>⟨_,by lia,rfl,o,f,Y,k.trans (l.trans j),h,e⟩
  |bk Y=>
   have Z:=e;cases Z;exact λ O f eN j h=>q O f eN (k.trans (l.trans j)) h
  |rt d Y=>
   have Z:=e;cases Z;exact λ v O f eN j h r3=>q v O f eN (k.trans (l.trans j)) h r3
 .have hn:xs.drop i=[]:=jq aD;rw[hn,Pb]at e;have Z:=e;cases Z;exact .inl ⟨A aD,q S H0 H s0 n⟩
theorem xf(Z:XG X tg g)(hi:XE X iter F)(Y:il X body B)(hp:PassesOwn (model X.p X.w) X.A X.v X.xe:=by exact Qp)(hc:X.c=true:=by rfl)(hs:oA X iter:=by intro _;rfl):XS X (.For tg iter body [] pos) (oh g F B):=PS.wk (tJ hp hc (wJ hi) Z Y hs) λ Dn S H O=>by
 obtain⟨c,H0,J,r,R,f,q⟩:=O;obtain⟨⟨d,l⟩,b,f⟩:=aS f;obtain⟨xs,e,f⟩:=aS f;exact x5 R b e λ ρ j k i a h=>vY a f h (q.mono i)
theorem ti(hm:X.mg "range"=none)(hg:XG X tg g)(ha:XE X a F)(hb:il X body B)(aa:Gl X "range":=by rfl)(hp:PassesOwn (model X.p X.w) X.A X.v X.xe:=by exact Qp)(hc:X.c=true:=by rfl)(O:gP X a:=by rfl)(hs:∀x,foldedSetIterable (.Call (.Name "range" p) [a] [] pos') X.v x=pure x:=by intro _;rfl):XS X (.For tg (.Call (.Name "range" p) [a] [] pos') body [] pos) (kg g (dZ F) B):=PS.wk (tJ hp hc (Jv aa hm (iT ha k7 O) O) hg hb hs) λ Dn S H Y=>by
 obtain⟨c,H0,J,r,R,f,q⟩:=Y;obtain⟨⟨xs,u⟩,b,f⟩:=aS f;obtain⟨⟨d,t⟩,l,b⟩:=aS b;obtain⟨j,Z,b⟩:=aS b;split at b
 .rename_i h;cases b;refine⟨c,H0,J,d,_,R,l,λ v o s n i m=>?_⟩;cases d with
  |int k=>
   have e:=qi Z;subst e;subst m;exact⟨k,rfl,h.1,h.2,vY i f (BQ 0 k.toNat) (q.mono n)⟩
  |_=>cases Z
 .cases b
theorem Vq{tg a b:Expr}{body:iF}{g:GD}{G:FE}{p pos':Pos}(hm:X.mg "range"=none)(hg:XG X tg g)(ha:XE X a F)(ae:XE X b G)(hb:il X body B)(ac:Gl X "range":=by rfl)(hp:PassesOwn (model X.p X.w) X.A X.v X.xe:=by exact Qp)(hc:X.c=true:=by rfl)(Z:starEach [a,b] X.v=[(false,eval a X.v),(false,eval b X.v)]:=by rfl)(O:gP X b:=by rfl)(hs:∀x,foldedSetIterable (.Call (.Name "range" p) [a,b] [] pos') X.v x=pure x:=by intro _;rfl):XS X (.For tg (.Call (.Name "range" p) [a,b] [] pos') body [] pos) (kg g (uf F G) B):=PS.wk (tJ hp hc (TZ ac hm (iT ha (iT ae k7 O) (by show _=_;rw[Z,O])) Z O) hg hb hs) λ Dn S H C=>by
 obtain⟨c,H0,J,r,R,f,q⟩:=C;unfold kg uf at f;obtain⟨⟨xs,N⟩,h,f⟩:=aS f;obtain⟨⟨d,Y⟩,E,h⟩:=aS h;obtain⟨⟨o,P⟩,s,h⟩:=aS h;obtain⟨i,l,h⟩:=aS h;obtain⟨j,m,h⟩:=aS h;dsimp only at h s l m f;split at h
 .rename_i I;cases h;refine⟨c,H0,J,d,Y,R,E,λ v y M ρ z t=>?_⟩;refine⟨c,y,Y,o,_,z,s,λ Q L dk K R2 u=>?_⟩;cases d with
  |int k=>
   cases o with
   |int n=>
    have e:k=i:=qi l;have D:n=j:=qi m;subst e D;unfold aU at t u;subst t u;exact⟨k,n,rfl,I,vY R2 f (BQ k (n-k).toNat) (q.mono (ρ.trans K))⟩
   |_=>cases m
  |_=>cases l
 .cases h
end
theorem RS.nq{ds:List D}{m i:Nat}{b:Bool}{o:MO}:¬(ds.map Sl.i++List.replicate m Sl.z)[i]?=some (.o b o):=λ e=>by
 by_cases hi:i<ds.length
 .rw[ju (by simpa using hi),yt]at e;cases z:ds[i]? with
  |none=>rw[z]at e;cases e
  |some k=>rw[z]at e;cases e
 .rw[Zr (by simpa using Z6 hi),Z7]at e;split at e<;>cases e
theorem RS.start{K:Frag}(s:aE q H)(r:aB K q ds vs)(hn:n-vs.length=m):RS K ⟨q,H,[]⟩ q H (ds.map .i++List.replicate m .z) (vs.map some++List.replicate (n-vs.length) none):=by
 have hl:=r.length;refine⟨s,aE.refl _,λ b o e=>.inl e,λ b o e _=>e,λ a h=>(by cases h),by simp[hl];lia,λ i d e=>?_,λ i b o e=>(RS.nq e).elim,λ i j b Y o f a e=>(RS.nq e).elim⟩;by_cases hi:i<ds.length
 .rw[ju (by simpa using hi),yt]at e;cases z:ds[i]? with
  |none=>rw[z]at e;cases e
  |some c=>
   rw[z]at e;have O:c=d:=by have:=qi e;injection this
   subst O;obtain⟨v,a,b⟩:=r.get z;exact⟨v,by rw[ju (by simpa[hl]using hi),yt,a];rfl,b⟩
 .rw[Zr (by simpa using Z6 hi),Z7]at e;split at e<;>cases e
theorem MF{K:Frag}{st:Stmt}(F:kb K x qual st f fd)(σ:aJ N ps (b_ st))(hn:ps.length=n)(hN:N.length=n+m)(hb:∀(O:Value)(A:Around)(outer:hO)(s:Shared)(H:Hp)(E:XK),cm k (A.deeper (envOfC qual (b_ st) s.heap.n f O))->il (ig i7 P w K mg base N qual (b_ st) f O A outer s H E).nox (iG st) B):da P w K mg base i7 (k+1) f fd ps (r_ K (dH n m B)):=by
 have inv:∀{ds:aG}{d:D},dH n m B ds=some d->ds.length=n/\∃r,B (ds.map .i++List.replicate m .z)=some r/\xa r=some d:=λ{ds d}h=>by
  unfold dH at h;split at h
  .rename_i hl;obtain⟨r,i,b⟩:=aS h;exact⟨hl,r,i,b⟩
  .cases h
 refine F.ok σ (λ vs H Q E h=>?_) (λ O A outer s H vs Q E j h=>?_)
 .obtain⟨Z,ds,d,_,r,e,_⟩:=h;rw[hn,<-r.length];exact(inv e).1
 .obtain⟨Z,ds,d,l,r,e,q⟩:=h;obtain⟨hl,c,i,b⟩:=inv e;refine⟨_,hb O A outer s H E j,⟨Z,H,[]⟩,Z,_,c,RS.start l r (by rw[<-r.length];lia),i,?_⟩;cases c with
  |nx a=>
   have g:=qi b;subst g;exact λ Y aV H' p R=>q .n aV H' R.step (by rfl)
  |rt t a=>
   have g:=qi b;subst g;exact λ v Y aV H' p R o=>q v aV H' R.step o
  |bk a=>cases b
  |ct a=>cases b
end Fx
namespace Fx
open PySem
@[simp] theorem bV1:(∀i j,cu (.int i) (.int j)=some (.int (i+j)))/\(∀a b,cu (.l a) (.l b)=if a.length+b.length<=sizeLine then some (.l (a++b))else none)/\(∀a b,cu (.str a) (.str b)=if a.length+b.length<=sizeLine then some (.str (a++b))else none)/\(∀i j,ke (.int i) (.int j)=some (.int (i-j)))/\(∀i j,i_ (.int i) (.int j)=if gR i j=true then some (.int (i*j))else none)/\(∀i j,nY (.int i) (.int j)=if fN j=true then some (.int (i.fdiv j))else none)/\(∀i j,cV (.int i) (.int j)=if j≠0 then some (.int (i.fmod j))else none)/\(∀i j,fS (.int i) (.int j)=if 0<=j/\j<=64/\i.natAbs<2^64 then some (.int (i^j.toNat))else none)/\(∀i,rf (.int i)=some (.int (-i)))/\(∀i j,gB (.int i) (.int j)=some (.b (decide (i<j))))/\(∀i j,fR (.int i) (.int j)=some (.b (decide (i<=j))))/\(∀i j,lB (.int i) (.int j)=some (.b (decide (j<i))))/\(∀i j,ot (.int i) (.int j)=some (.b (decide (j<=i)))):=by and_intros<;>intros<;>rfl
@[simp] theorem fL:bM x y=if c7 x<=30/\c7 y<=30 then some (.b (bZ x y))else none:=yI rfl
@[simp] theorem pK:dv x y=if c7 x<=30/\c7 y<=30 then some (.b (!bZ x y))else none:=yI rfl
@[simp] theorem ci0:(∀x,mm x .n=some (.b (jE x)))/\(∀x,vM x .n=some (.b (!jE x)))/\(∀b,og (.b b)=some b)/\(∀xs,og (.t xs)=some (!xs.isEmpty)):=by and_intros<;>intros<;>rfl
@[simp] theorem cf8:mX [.int i]=some (.int (i.natAbs:Int)):=by grind[mX]
@[simp] theorem cf7:oi [.int i,.int j]=some (.int (if j>i then j else i)):=yI rfl
@[simp] theorem cf6:t7 [.int i,.int j]=some (.int (if j<i then j else i)):=yI rfl
def CB{α:Type}(x:α)(o:Option (List α)):Option (List α):=aF o λ t=>some (x::t)
@[simp] theorem o5(x:α)(t:List α):CB x (some t)=some (x::t):=yI rfl
@[simp] theorem A0(b:Bool)(r:aG):lh (.b b::r)=CB b (lh r):=yI rfl
def LR(o:Option (List Bool)):fA:=aF o λ bs=>some (.b (bs.all id))
@[simp] theorem Bl(bs:List Bool):LR (some bs)=some (.b (bs.all id)):=yI rfl
@[simp] theorem Cw(xs:aG):gf [.l xs]=LR (lh xs):=yI rfl
def hP(o:fA)(J:En):bK:=aF o λ d=>some (d,J)
def Ms(op:D->Option D)(o:bK):bK:=aF o λ p=>aF (op p.1) λ d=>some (d,p.2)
def Dt(op:D->D->Option D)(x:D)(o:bK):bK:=aF o λ q=>aF (op x q.1) λ d=>some (d,q.2)
def Ds(op:D->D->Option D)(G:FE)(o:bK):bK:=aF o λ p=>aF (G p.2) λ q=>aF (op p.1 q.1) λ d=>some (d,q.2)
def Du(q:D->D->Option D)(L:FE)(y:D)(J:En)(o:fA):bK:=aF o λ z=>aF (iS z) λ b=>if b=true then aF (L J) λ r=>aF (q y r.1) λ d=>some (d,r.2)else some (.b false,J)
def Mu(op O:D->D->Option D)(L:FE)(x:D)(o:bK):bK:=aF o λ q=>aF (op x q.1) λ z=>aF (iS z) λ b=>if b=true then aF (L q.2) λ r=>aF (O q.1 r.1) λ d=>some (d,r.2)else some (.b false,q.2)
def Mt(op O:D->D->Option D)(G L:FE)(o:bK):bK:=aF o λ p=>aF (G p.2) λ q=>aF (op p.1 q.1) λ z=>aF (iS z) λ b=>if b=true then aF (L q.2) λ r=>aF (O q.1 r.1) λ d=>some (d,r.2)else some (.b false,q.2)
def HK(x:D)(o:Option (aG×En)):Option (aG×En):=aF o λ q=>some (x::q.1,q.2)
def HI(A:FA)(o:bK):Option (aG×En):=aF o λ p=>aF (A p.2) λ q=>some (p.1::q.1,q.2)
@[simp] theorem aM6:(∀ks vs,iP .tuple (.c ks vs)=false)/\iP .tuple .opq=false/\(∀b,iP .str (.str b)=true)/\iP .tuple .n=false/\(∀b,iP .tuple (.b b)=false)/\(∀b,iP .tuple (.int b)=false)/\(∀b,iP .tuple (.str b)=false)/\(∀b,iP .tuple (.t b)=true)/\(∀b,iP .tuple (.l b)=false)/\(∀d J,hP (some d) J=some (d,J))/\(∀J d,D6 J (some (.i d))=some (d,J))/\(∀i J,eV i J=D6 J J[i]?)/\(∀d J,eC d J=some (d,J))/\(∀op F J,e1 op F J=Ms op (F J))/\(∀op x J,Ms op (some (x,J))=hP (op x) J)/\(∀op F G J,e2 op F G J=Ds op G (F J))/\(∀op G x J,Ds op G (some (x,J))=Dt op x (G J))/\(∀op x y J,Dt op x (some (y,J))=hP (op x y) J)/\(∀op q F G L J,e3 op q F G L J=Mt op q G L (F J))/\(∀op q G L x J,Mt op q G L (some (x,J))=Mu op q L x (G J))/\(∀op q L x y J,Mu op q L x (some (y,J))=Du q L y J (op x y))/\(∀q L y J,Du q L y J (some (.b true))=Dt q y (L J))/\(∀q L y J,Du q L y J (some (.b false))=some (.b false,J))/\(∀J,aN J=some ([],J))/\(∀F A J,aC F A J=HI A (F J))/\(∀A x J,HI A (some (x,J))=HK x (A J))/\(∀x xs J,HK x (some (xs,J))=some (x::xs,J)):=by and_intros<;>(intros;rfl)
def JE(o:Option (aG×En)):bK:=aF o λ p=>if p.1.length<=1000 then some (.t p.1,p.2)else none
def JP(o:Option (aG×En)):bK:=aF o λ p=>if p.1.length<=1000 then some (.l p.1,p.2)else none
def Mv(g:aG->Option D)(o:Option (aG×En)):bK:=aF o λ p=>aF (g p.1) λ d=>some (d,p.2)
def LM(t:Ty)(o:bK):bK:=aF o λ p=>some (.b (iP t p.1),p.2)
def MN(o:bK):Option (eO×En):=aF o λ p=>aF (mj p.1) λ i=>some (some i,p.2)
def MH(o:Option Bool)(J:En):fq:=aF o λ b=>some (b,J)
def D_(o:bK):fq:=aF o λ p=>aF (iS p.1) λ b=>some (b,p.2)
def M0(o:bK):fq:=aF o λ p=>aF (og p.1) λ b=>some (b,p.2)
def Bt(U:FT)(o:fq):fq:=aF o λ p=>if p.1=true then U p.2 else some (false,p.2)
def Cg(U:FT)(o:fq):fq:=aF o λ p=>if p.1=true then some (true,p.2)else U p.2
def K0(o:fq):fq:=aF o λ p=>some (!p.1,p.2)
@[simp] theorem cM8:(∀A J,df A J=JE (A J))/\(∀xs J,JE (some (xs,J))=if xs.length<=1000 then some (.t xs,J)else none)/\(∀A J,cY A J=JP (A J))/\(∀xs J,JP (some (xs,J))=if xs.length<=1000 then some (.l xs,J)else none)/\(∀g A J,eF g A J=Mv g (A J))/\(∀g xs J,Mv g (some (xs,J))=hP (g xs) J)/\(∀t F J,pN t F J=LM t (F J))/\(∀t x J,LM t (some (x,J))=some (.b (iP t x),J))/\(∀J,oN J=some (none,J))/\(∀F J,oS F J=MN (F J))/\(∀i J,MN (some (.int i,J))=some (some i,J))/\(∀b J,MH (some b) J=some (b,J))/\(∀F J,tB F J=D_ (F J))/\(∀b J,D_ (some (.b b,J))=some (b,J))/\(∀F J,tV F J=M0 (F J))/\(∀x J,M0 (some (x,J))=MH (og x) J)/\(∀T U J,ey T U J=Bt U (T J))/\(∀U J,Bt U (some (true,J))=U J)/\(∀U J,Bt U (some (false,J))=some (false,J))/\(∀T U J,c_ T U J=Cg U (T J))/\(∀U J,Cg U (some (true,J))=some (true,J))/\(∀U J,Cg U (some (false,J))=U J)/\(∀T J,cZ T J=K0 (T J))/\(∀b J,K0 (some (b,J))=some (!b,J))/\(∀J,bD J=some (true,J)):=by and_intros<;>intros<;>rfl
@[simp high] theorem vvz:(∀d r,eV 0 (.i d::r)=some (d,.i d::r))/\(∀d z r o,e2 o (eV 0) (eC z) (.i d::r)=hP (o d z) (.i d::r))/\(∀a d r,eV 1 (a::.i d::r)=some (d,a::.i d::r))/\(∀a d z r o,e2 o (eV 1) (eC z) (a::.i d::r)=hP (o d z) (a::.i d::r))/\(∀a b d r,eV 2 (a::b::.i d::r)=some (d,a::b::.i d::r))/\(∀a b d z r o,e2 o (eV 2) (eC z) (a::b::.i d::r)=hP (o d z) (a::b::.i d::r))/\(∀a b c d r,eV 3 (a::b::c::.i d::r)=some (d,a::b::c::.i d::r))/\(∀a b c d z r o,e2 o (eV 3) (eC z) (a::b::c::.i d::r)=hP (o d z) (a::b::c::.i d::r))/\(∀a b c e d r,eV 4 (a::b::c::e::.i d::r)=some (d,a::b::c::e::.i d::r))/\(∀a b c e d z r o,e2 o (eV 4) (eC z) (a::b::c::e::.i d::r)=hP (o d z) (a::b::c::e::.i d::r))/\(∀a b c e f d r,eV 5 (a::b::c::e::f::.i d::r)=some (d,a::b::c::e::f::.i d::r))/\(∀a b c e f d z r o,e2 o (eV 5) (eC z) (a::b::c::e::f::.i d::r)=hP (o d z) (a::b::c::e::f::.i d::r))/\(∀a b c e f g d r,eV 6 (a::b::c::e::f::g::.i d::r)=some (d,a::b::c::e::f::g::.i d::r))/\(∀a b c e f g h d r,eV 7 (a::b::c::e::f::g::h::.i d::r)=some (d,a::b::c::e::f::g::h::.i d::r))/\(∀a b c e f g h i d r,eV 8 (a::b::c::e::f::g::h::i::.i d::r)=some (d,a::b::c::e::f::g::h::i::.i d::r))/\(∀o x z r,Ds o (eC z) (some (x,r))=hP (o x z) r)/\(∀b r,D_ (hP (some (.b b)) r)=some (b,r)):=by and_intros<;>intros<;>rfl
def Co(F G:FE)(o:fq):bK:=aF o λ p=>if p.1=true then F p.2 else G p.2
def CN(G:FE)(o:bK):bK:=aF o λ p=>aF (iS p.1) λ b=>if b=true then G p.2 else some (.b false,p.2)
def CY(G:FE)(o:bK):bK:=aF o λ p=>aF (iS p.1) λ b=>if b=true then some (.b true,p.2)else G p.2
def ME(o:Option Sl)(q:Option En):Option En:=aF o λ s=>aF q λ r=>some (s::r)
def LO(T:FT)(F:FE)(fr:En)(r:aG)(o:bK):Option (aG):=aF o λ q=>aF (du T F fr r) λ t=>some (q.1::t)
def ud(T:FT)(F:FE)(fr:En)(r:aG)(o:fq):Option (aG):=aF o λ p=>if p.1=true then aF (F p.2) λ q=>aF (du T F fr r) λ t=>some (q.1::t)else du T F fr r
@[simp] theorem cd8:(∀T F G J,pM T F G J=Co F G (T J))/\(∀F G J,Co F G (some (true,J))=F J)/\(∀F G J,Co F G (some (false,J))=G J)/\(∀F G J,eG F G J=CN G (F J))/\(∀G J,CN G (some (.b true,J))=G J)/\(∀G J,CN G (some (.b false,J))=some (.b false,J))/\(∀F G J,iV F G J=CY G (F J))/\(∀G J,CY G (some (.b true,J))=some (.b true,J))/\(∀G J,CY G (some (.b false,J))=G J)/\(∀s r,ME (some s) (some r)=some (s::r))/\(∀d,yF (some (.i d))=some (.i d))/\(∀J,fj J []=some [])/\(∀J j js,fj J (j::js)=ME (yF J[j]?) (fj J js))/\(∀T F fr,du T F fr []=some []):=by and_intros<;>intros<;>rfl
@[simp] theorem vP:du T F fr (d::r)=ud T F fr r (T (.i d::fr)):=yI rfl
@[simp] theorem vR:ud T F fr r (some (true,J))=LO T F fr r (F J):=yI rfl
@[simp] theorem V6:ud T F fr r (some (false,J))=du T F fr r:=yI rfl
@[simp] theorem vQ:LO T F fr r (some (x,J))=CB x (du T F fr r):=yI rfl
def tU(J:En)(xs:aG)(o:Option (aG)):bK:=aF o λ ys=>if xs.length<=sizeLine then some (.l ys,J)else none
def Cm(T:FT)(F:FE)(J:En)(xs:aG)(o:Option En):bK:=aF o λ fr=>tU J xs (du T F fr xs)
def Cn(js:dr)(T:FT)(F:FE)(J:En)(o:Option (aG)):bK:=aF o λ xs=>Cm T F J xs (fj J js)
def JS(js:dr)(T:FT)(F:FE)(o:bK):bK:=aF o λ p=>Cn js T F p.2 (items p.1)
@[simp] theorem bI0:(∀xs,items (.l xs)=some xs)/\(∀xs,items (.t xs)=some xs)/\(∀js I T F J,c4 js I T F J=JS js T F (I J))/\(∀js T F x J,JS js T F (some (x,J))=Cn js T F J (items x))/\(∀js T F J xs,Cn js T F J (some xs)=Cm T F J xs (fj J js))/\(∀T F J xs fr,Cm T F J xs (some fr)=tU J xs (du T F fr xs))/\(∀J xs ys,tU J xs (some ys)=if xs.length<=sizeLine then some (.l ys,J)else none)/\(∀J,sN J=some (.nx J)):=by and_intros<;>intros<;>rfl
def tH(G:FS)(o:c8):c8:=aF o λ r=>MM G r
@[simp] theorem CD:aL F G J=tH G (F J):=yI rfl
def K3(i:Nat)(o:bK):c8:=aF o λ p=>some (.nx (p.2.set i (.i p.1)))
@[simp] theorem bC9:(∀G J,tH G (some (.nx J))=G J)/\(∀G d J,tH G (some (.rt d J))=some (.rt d J))/\(∀i F J,bN i F J=K3 i (F J))/\(∀i x J,K3 i (some (x,J))=some (.nx (J.set i (.i x))))/\(∀i is d ds J,lY (i::is) (d::ds) J=lY is ds (J.set i (.i d))):=by and_intros<;>intros<;>rfl
@[simp] theorem cr3(ds:aG)(J:En):lY [] ds J=J:=by cases ds<;>exact Eq.trans rfl rfl
def MA(is:dr)(J:En)(o:Option (aG)):Option En:=aF o λ xs=>if xs.length=is.length then some (lY is xs J)else none
def Bu(o:Option En):c8:=aF o λ J=>some (.nx J)
def K2(is:dr)(o:bK):c8:=aF o λ p=>Bu (gT is p.1 p.2)
def Ci(F G:FS)(o:fq):c8:=aF o λ p=>if p.1=true then F p.2 else G p.2
def K4(o:bK):c8:=aF o λ p=>some (.rt p.1 p.2)
@[simp] theorem cD6:(∀xs,Cf (.t xs)=some xs)/\(∀i d J,gN i d J=some (J.set i (.i d)))/\(∀is d J,gT is d J=MA is J (Cf d))/\(∀is J xs,MA is J (some xs)=if xs.length=is.length then some (lY is xs J)else none)/\(∀is F J,CS is F J=K2 is (F J))/\(∀is x J,K2 is (some (x,J))=Bu (gT is x J))/\(∀J,Bu (some J)=some (.nx J))/\(∀T F G J,bG T F G J=Ci F G (T J))/\(∀F G J,Ci F G (some (true,J))=F J)/\(∀F G J,Ci F G (some (false,J))=G J)/\(∀F J,bJ F J=K4 (F J))/\(∀x J,K4 (some (x,J))=some (.rt x J)):=by and_intros<;>intros<;>rfl
def oy(g:D->En->Option En)(B:FS)(r:aG)(o:c8):c8:=aF o λ z=>Dy (dh g B r) z
def xO(g:D->En->Option En)(B:FS)(r:aG)(o:Option En):c8:=aF o λ q=>oy g B r (B q)
theorem wX(g:D->En->Option En)(B:FS)(J:En):dh g B [] J=some (.nx J):=yI rfl
theorem iQ(g:D->En->Option En)(B:FS)(d:D)(r:aG)(J:En):dh g B (d::r) J=xO g B r (g d J):=yI rfl
@[simp] theorem oZ:xO g B r (some J)=oy g B r (B J):=yI rfl
@[simp] theorem mV:oy g B r (some (.nx J))=dh g B r J:=yI rfl
@[simp] theorem aL1:oy g B r (some (.rt d J))=some (.rt d J):=yI rfl
def Bv(g:D->En->Option En)(B:FS)(J:En)(o:Option (aG)):c8:=aF o λ xs=>dh g B xs J
def K9(g:D->En->Option En)(B:FS)(o:bK):c8:=aF o λ p=>Bv g B p.2 (items p.1)
@[simp] theorem VE:oh g F B J=K9 g B (F J):=yI rfl
def La(o:bK):Option (aG×En):=aF o λ p=>aF (mj p.1) λ j=>if -(2^62)<=j/\j<2^62 then some (dz 0 j.toNat,p.2)else none
def CM(x:D)(o:bK):Option (aG×En):=aF o λ q=>aF (mj x) λ i=>aF (mj q.1) λ j=>if -(2^62)<=i/\i<2^62/\-(2^62)<=j/\j<2^62 then some (dz i (j-i).toNat,q.2)else none
def L4(G:FE)(o:bK):Option (aG×En):=aF o λ p=>CM p.1 (G p.2)
def Ik(g:D->En->Option En)(B:FS)(o:Option (aG×En)):c8:=aF o λ p=>dh g B p.1 p.2
def cP(o:c8):fA:=aF o λ r=>xa r
def Lh(o:Option (aG×En)):Option (aG×En):=aF o λ p=>if p.1.length<=1000 then some p else none
def K5(i:Nat)(o:Option (aG×En)):c8:=aF o λ p=>some (.nx (p.2.set i (.o false (.l p.1))))
def Bw(i:Nat)(x:D)(J:En)(o:Option (aG)):c8:=aF o λ ds=>if ds.length<1000000 then some (.nx (J.set i (.o false (.l (ds++[x])))))else none
def Bx(i:Nat)(o:bK):c8:=aF o λ p=>Bw i p.1 p.2 (jH p.2[i]?)
def K_(i:Nat)(F:FE)(J:En)(o:Option (aG)):c8:=aF o λ _=>Bx i (F J)
@[simp] theorem bD9:(∀g B x J,K9 g B (some (x,J))=Bv g B J (items x))/\(∀g B J xs,Bv g B J (some xs)=dh g B xs J)/\(∀F J,dZ F J=La (F J))/\(∀j J,La (some (.int j,J))=if -(2^62)<=j/\j<2^62 then some (dz 0 j.toNat,J)else none)/\(∀F G J,uf F G J=L4 G (F J))/\(∀G x J,L4 G (some (x,J))=CM x (G J))/\(∀i j J,CM (.int i) (some (.int j,J))=if -(2^62)<=i/\i<2^62/\-(2^62)<=j/\j<2^62 then some (dz i (j-i).toNat,J)else none)/\(∀g X B J,kg g X B J=Ik g B (X J))/\(∀g B xs J,Ik g B (some (xs,J))=dh g B xs J)/\(∀d J,cP (some (.rt d J))=some d)/\(∀n k B ds,dH n k B ds=if ds.length=n then cP (B (ds.map .i++List.replicate k .z))else none)/\(∀A J,t5 A J=Lh (A J))/\(∀xs J,Lh (some (xs,J))=if xs.length<=1000 then some (xs,J)else none)/\(∀i A J,m1 i A J=K5 i (A J))/\(∀i xs J,K5 i (some (xs,J))=some (.nx (J.set i (.o false (.l xs)))))/\(∀ds,jH (some (.o false (.l ds)))=some ds)/\(∀i F J,pk i F J=K_ i F J (jH J[i]?))/\(∀i F J ds,K_ i F J (some ds)=Bx i (F J))/\(∀i x J,Bx i (some (x,J))=Bw i x J (jH J[i]?))/\(∀i x J ds,Bw i x J (some ds)=if ds.length<1000000 then some (.nx (J.set i (.o false (.l (ds++[x])))))else none):=by and_intros<;>intros<;>rfl
def CT(i:Nat)(J:En):Option Sl->En
 |some (.o false (.l ds))=>J.set i (.i (.l ds))
 |_=>J
@[simp] theorem ch3:frz i J=CT i J J[i]?:=by unfold frz CT;split<;>simp_all
def CZ(T:FT)(F:FE)(J:En)(xs:aG)(o:Option En):bK:=aF o λ fr=>tU J xs (du T F fr xs)
def LP(js:dr)(T:FT)(F:FE)(o:Option (aG×En)):bK:=aF o λ p=>CZ T F p.2 p.1 (fj p.2 js)
@[simp] theorem bR0:(∀i J ds,CT i J (some (.o false (.l ds)))=J.set i (.i (.l ds)))/\(∀i F J,jT i F J=F (frz i J))/\(∀js R T F J,mq js R T F J=LP js T F (R J))/\(∀js T F xs J,LP js T F (some (xs,J))=CZ T F J xs (fj J js))/\(∀T F J xs fr,CZ T F J xs (some fr)=tU J xs (du T F fr xs)):=by and_intros<;>intros<;>rfl
open PySem.Spec PyProof.Rows L2
theorem RS.heNone{K:Frag}(R:RS K c H0 H J S)(O:H p=none):c.He p=none:=by
 cases q:c.He p with
 |none=>rfl
 |some u=>
  by_cases Y:p∈c.Ap
  .exact absurd O (R.apt p Y)
  .rw[R.keep p u q Y]at O;cases O
theorem RS.setOwn{K:Frag}(R:RS K c H0 H J S)(i:Nat)(hp:H p=none)(r:fQ K H0 (upd H p u) p o):RS K c H0 (upd H p u) (J.set i (.o false o)) (S.set i (some (.ref p))):=by
 have hl:=R.len;have C:=R.same.free hp;have E:=R.heNone hp;have f:∀b v,H b=some v->(upd H p u) b=some v:=λ b v e=>by rw[bX (iU e hp)];exact e
 have Y:∀(j:Nat)(sl:Sl),j≠i->(J.set i (.o false o))[j]?=some sl->J[j]?=some sl:=λ j sl Z e=>by rwa [yh (jc Z)]at e
 have O:∀(j:Nat),j≠i->(S.set i (some (V.ref p)))[j]?=S[j]?:=λ j Z=>yh (jc Z);have same:∀(sl:Sl),(J.set i (.o false o))[i]?=some sl->sl=.o false o/\i<J.length:=λ sl e=>by
  by_cases hi:i<J.length
  .rw[ye hi]at e;exact⟨(qi e).symm,hi⟩
  .rw[List.getElem?_eq_none (by rw[yv];lia)]at e;cases e
 have h:∀(j:Nat)(b:Bool)(o:MO)(a:Addr),J[j]?=some (.o b o)->S[j]?=some (some (.ref a))->a≠p:=λ j b o a e1 e2=>by
  obtain⟨G,x,_,_,w⟩:=R.ow j b o e1;rw[x]at e2;cases e2;obtain⟨u,q⟩:=w.some;exact iU q hp
 refine⟨λ b u e=>f b u (R.same b u e),R.init,R.fresh,λ b o e n=>f b o (R.keep b o e n),λ a D e=>?_,by rw[yv,yv,hl],λ j B e=>?_,λ j A F e=>?_,λ j k l m s t a e1 e2 e3 e4=>?_⟩
 .cases q:H a with
  |none=>exact R.apt a D q
  |some v=>rw[f a v q]at e;cases e
 .by_cases Z:j=i
  .subst Z;obtain⟨g,_⟩:=same _ e;cases g
  .rw[O j Z];exact R.im j B (Y j _ Z e)
 .by_cases Z:j=i
  .subst Z;obtain⟨g,hi⟩:=same _ e;cases g;exact⟨p,by rw[ye aD],C,E,r⟩
  .rw[O j Z];obtain⟨a,x,y,z,w⟩:=R.ow j A F (Y j _ Z e);exact⟨a,x,y,z,w.step (aE.refl _) λ v q=>f a v q⟩
 .by_cases Z:j=i
  .by_cases d:k=i
   .lia
   .subst Z;obtain⟨_,hi⟩:=same _ e1;rw[ye aD]at e3;cases e3;rw[O k d]at e4;exact absurd rfl (h k m t _ (Y k _ d e2) e4)
  .by_cases d:k=i
   .subst d;obtain⟨_,hi⟩:=same _ e2;rw[ye aD]at e4;cases e4;rw[O j Z]at e3;exact absurd rfl (h j l s _ (Y j _ Z e1) e3)
   .rw[O j Z]at e3;rw[O k d]at e4;exact R.ne j k l m s t a (Y j _ Z e1) (Y k _ d e2) e3 e4
theorem RS.lent{K:Frag}(R:RS K c H0 H J S)(hi:J[i]?=some (.o b o))(ha:S[i]?=some (some (.ref a)))(s0:aE H0 aV)(s':aE aV H')(kp:∀x u,H x=some u->x≠a->H' x=some u)(fr:∀x u,aV x=some u->H0 x=some u\/H x=none)(r:fQ K aV H' a o'):RS K c aV H' (J.set i (.o b o')) S:=by
 obtain⟨V,x,y,z,w⟩:=R.ow i b o hi;rw[ha]at x;cases x;obtain⟨W,P⟩:=w.some;have ρ:=(ir.mp hi).1;have g:∀x,H0 x=none->H x≠none->aV x=none:=λ x F G=>by
  cases q:aV x with
  |none=>rfl
  |some u=>
   rcases fr x u q with h|h
   .rw[F]at h;cases h
   .exact absurd h G
 have O:∀(j:Nat)(sl:Sl),j≠i->(J.set i (.o b o'))[j]?=some sl->J[j]?=some sl:=λ j sl Y e=>by rwa [yh (jc Y)]at e
 have same:∀(sl:Sl),(J.set i (.o b o'))[i]?=some sl->sl=.o b o':=λ sl e=>by
  rw[ye ρ]at e;exact(qi e).symm
 have f:∀(j:Nat)(Z:Bool)(d:MO),(J.set i (.o b o'))[j]?=some (.o Z d)->∃Z B,J[j]?=some (.o Z B):=λ j Z d e=>by
  by_cases Y:j=i
  .exact⟨b,o,by rw[Y];exact hi⟩
  .exact⟨Z,d,O j _ Y e⟩
 refine⟨s',R.init.trans s0,λ x u e=>?_,λ x u e n=>?_,λ x I e=>?_,by rw[yv];exact R.len,λ j E e=>?_,λ j Z d e=>?_,λ j k C D M N x e1 e2 e3 e4=>?_⟩
 .rcases fr x u e with h|h
  .exact R.fresh x u h
  .exact .inr (R.heNone h)
 .have:x≠a:=λ h=>by
   cases b with
   |true=>exact n (h▸z)
   |false=>
    have T:=z;rw[h,T]at e;cases e
  exact kp x u (R.keep x u e n) this
 .by_cases h:x=a
  .obtain⟨u,q⟩:=r.some;rw[h,q]at e;cases e
  .cases q:H x with
   |none=>exact R.apt x I q
   |some u=>rw[kp x u q h]at e;cases e
 .by_cases Y:j=i
  .subst Y;cases same _ e
  .obtain⟨v,t,A⟩:=R.im j E (O j _ Y e);exact⟨v,t,aU.mono s0 _ A⟩
 .by_cases Y:j=i
  .subst Y;cases same _ e;exact⟨a,ha,g a y (by rw[P];intro h;cases h),z,r⟩
  .have l:=O j _ Y e;obtain⟨x,s,σ,U,m⟩:=R.ow j Z d l;have L:x≠a:=λ h=>Y (R.ne j i Z b d o x l hi s (by rw[h];exact ha));obtain⟨u,Q⟩:=m.some;exact⟨x,s,g x σ (by rw[Q];intro h;cases h),U,m.step s0 λ v q=>kp x v q L⟩
 .obtain⟨_,p,e1⟩:=f j C M e1;obtain⟨_,q,e2⟩:=f k D N e2;exact R.ne j k _ _ p q x e1 e2 e3 e4
theorem RS.mutOwn{K:Frag}(R:RS K c H0 H J S)(hi:J[i]?=some (.o b o))(q:S[i]?=some (some (.ref a)))(r:fQ K H0 (upd H a u) a o'):RS K c H0 (upd H a u) (J.set i (.o b o')) S:=by
 obtain⟨O,x,y,z,w⟩:=R.ow i b o hi;rw[q]at x;cases x;refine R.lent hi q (aE.refl _) (λ x v e=>?_) (λ x v e n=>by rw[bX n];exact e) (λ x v e=>.inl e) r;have:x≠a:=λ h=>by grind
 rw[bX this];exact R.same x v e
theorem RS.freeze{K:Frag}(R:RS K c H0 H J S)(hi:J[i]?=some (.o false (.l ds))):∃aV,aE H0 aV/\RS K c aV H (J.set i (.i (.l ds))) S:=by
 obtain⟨a,x,y,z,vs,e,r⟩:=R.ow i _ _ hi;have B:=z;have C:=(ir.mp hi).1;have d:aE H0 (upd H0 a (.l vs)):=λ b u q=>by rw[bX (iU q y)];exact q
 have O:∀(j:Nat)(Z:Sl),j≠i->(J.set i (.i (.l ds)))[j]?=some Z->J[j]?=some Z:=λ j Z Y e=>by rwa [yh (jc Y)]at e
 have same:∀(Z:Sl),(J.set i (.i (.l ds)))[i]?=some Z->Z=.i (.l ds):=λ Z e=>by
  rw[ye C]at e;exact(qi e).symm
 refine⟨upd H0 a (.l vs),d,λ b u q=>?_,R.init.trans d,λ b u q=>?_,R.keep,R.apt,by rw[yv];exact R.len,λ j A q=>?_,λ j g f q=>?_,λ j k t w f s b e1 e2 e3 e4=>?_⟩
 .by_cases h:b=a
  .subst h;rw[cM]at q;cases q;exact e
  .rw[bX h]at q;exact R.same b u q
 .by_cases h:b=a
  .subst h;exact .inr B
  .rw[bX h]at q;exact R.fresh b u q
 .by_cases Y:j=i
  .subst Y;cases same _ q;refine⟨.ref a,x,?_⟩;exact⟨a,vs,rfl,.inl (.inl cM),aB.mono d _ r⟩
  .obtain⟨v,o,p⟩:=R.im j A (O j _ Y q);exact⟨v,o,aU.mono d _ p⟩
 .by_cases Y:j=i
  .subst Y;cases same _ q
  .have m:=O j _ Y q;obtain⟨b,n,F,G,E⟩:=R.ow j g f m;have D:b≠a:=λ h=>Y (R.ne j i g false f _ b m hi n (by rw[h];exact x));exact⟨b,n,by rw[bX D];exact F,G,E.step d λ u q=>q⟩
 .by_cases Y:j=i
  .subst Y;cases same _ e1
  .by_cases l:k=i
   .subst l;cases same _ e2
   .exact R.ne j k t w f s b (O j _ Y e1) (O k _ l e2) e3 e4
def tEo(K:Frag)(A:FA):TE:=λ S H Q=>∃c H0 J ds ρ',RS K c H0 H J S/\A J=some (ds,ρ')/\∀p vs aV H',aE H0 aV->RS K c aV H' ρ' S->H' p=none->aB K aV ds vs->Q (.ref p) (upd H' p (.l vs))
def mU(X:Cx)(e:Expr)(A:FA):Prop:=PE X e (tEo X.K A)
theorem kE(h:jH o=some ds):o=some (.o false (.l ds)):=by
 unfold jH at h;split at h
 .cases h;rfl
 .cases h
theorem Bq(h:XA X es A):mU X (.List es pos) (t5 A):=PE.wk (BL h) λ S H Q O=>by
 obtain⟨c,H0,J,ds,k,R,f,q⟩:=O;obtain⟨⟨Z,l⟩,g,f⟩:=aS f;obtain⟨hl,e⟩:=cx f;cases e;exact⟨c,H0,J,ds,_,R,g,λ vs a b j d Y=>⟨by rw[<-Y.length];exact v3 hl,λ p i=>q p vs a b j d i Y⟩⟩
theorem rJ(i:Nat)(hN:X.N.Nodup)(he:mU X e A)(hi:X.N[i]?=some x:=by rfl)(hx:Loc X.v.scope x:=by exact mA)(hs:rP X e (some (.Name x pos')) pos.line false:=by rfl)(Z:X.fn x=true\/X.v.scope.names.lookup x=some .local:=by exact mA):XS X (.Assign [.Name x pos'] e pos) (m1 i A):=PS.wk (sx hN hi hx he hs Z) λ Dn S H Y=>by
 obtain⟨c,H0,J,r,R,f,q⟩:=Y;obtain⟨⟨ds,O⟩,g,f⟩:=aS f;have d:=f;cases d;exact⟨c,H0,J,ds,O,R,g,λ p vs a l k b h j=>q _ a _ k (b.setOwn i h ⟨vs,cM,j⟩)⟩
theorem tu(i:Nat)(ha:XA X [e] (aC F aN))(hN:X.N[i]?=some x:=by rfl)(hv:jR X.v.scope x:=by exact nE)(hd:dJ x:=by decide)(ag:jZ x:=by decide)(Y:lG X (.Name x p1) "append":=by rfl)(ac:oz X Z [e]:=by rfl)(O:(p2.endLine==Z.line)=true:=by rfl)(ah:starEach [e] X.v=(false,eval e X.v)::starEach [] X.v:=by rfl)(ai:(backTo Z (starEach [] X.v)).any (·.1)=false:=by rfl)(hs:swapsWith (.Call (.Attribute (.Name x p1) "append" p2) [e] [] Z) none pos.line X.v=pure false:=by rfl):XS X (.Expr (.Call (.Attribute (.Name x p1) "append" p2) [e] [] Z) pos) (pk i F):=
 PS.wk (wI (pE Qs PySem.F.slot_list_append PySem.F.type_list_append TY (lI hN hv hd ag) ha Y ac O ah ai) hs) λ Dn S H l=>by
  obtain⟨c,H0,J,r,R,f,q⟩:=l;obtain⟨C,p,f⟩:=aS f;obtain⟨⟨d,m⟩,s,f⟩:=aS f;obtain⟨ds,h,f⟩:=aS f;obtain⟨hl,o⟩:=cx f;cases o;obtain⟨a,b,_,_,n,y,_⟩:=R.ow i _ _ (kE p);refine⟨.ref a,b,.inl ⟨rfl,n,c9.of y⟩,c,H0,J,[d],m,R,by unfold aC aN;rw[s];rfl,λ vs k A w g t=>?_⟩;obtain⟨v,rfl,u⟩:=aB.v1 t;obtain⟨B,x2,_,_,ws,z,j⟩:=g.ow i _ _ (kE h);rw[b]at x2;cases x2;refine⟨a,ws,v,rfl,rfl,z,?_,?_⟩
  .rw[<-j.length];exact qt hl (by rw[sizeLine_eq];decide)
  .exact q S k _ w (g.mutOwn (kE h) b ⟨_,cM,j.app (aB.one u)⟩)
theorem o7(i:Nat){st:Stmt}(h:XS X st G):XS X st (jT i G):=PS.wk h λ Dn S H O=>by
 obtain⟨c,H0,J,r,R,f,q⟩:=O;unfold jT frz at f;cases z:J[i]? with
 |none=>rw[z]at f;exact⟨c,H0,J,r,R,f,q⟩
 |some a=>
  rw[z]at f;cases a with
  |z=>exact⟨c,H0,J,r,R,f,q⟩
  |i d=>exact⟨c,H0,J,r,R,f,q⟩
  |o b o=>
   cases b with
   |true=>exact⟨c,H0,J,r,R,f,q⟩
   |false=>
   cases o with
   |d kds=>exact⟨c,H0,J,r,R,f,q⟩
   |l ds=>
    obtain⟨aV,Y,Z⟩:=R.freeze z;exact⟨c,aV,_,r,Z,f,q.mono Y⟩
section
variable{X:Cx}{scope sc:Scope}{x:Str}{aT:aP}{js:dr}{px pos p pos':Pos}{elt a b:Expr}{cx:eH}{F G I:FE}{T:FT}
theorem U5{R:FA}{J ρ':En}{d:D}(h:mq js R T F J=some (d,ρ')):∃xs fr ys,R J=some (xs,ρ')/\fj ρ' js=some fr/\du T F fr xs=some ys/\xs.length<=sizeLine/\d=.l ys:=by unfold mq at h;obtain⟨⟨xs,Y⟩,a,h⟩:=aS h;obtain⟨fr,O,h⟩:=aS h;obtain⟨ys,q,h⟩:=aS h;dsimp only at O q h;obtain⟨b,h⟩:=Fx.cx h;cases h;exact⟨xs,fr,ys,a,O,q,b,rfl⟩
end
end Fx
namespace Fx
open PySem
def iR(z:Str)(i:Int):fA:=if z.length<=sizeLine then aF (aF (iq z.cps.toList.length i) λ j=>z.cps.toList[j]?) λ c=>some (.str (cJ c))else none
def bA:D->D->Option D
 |.t xs,.int i=>cw xs i
 |.l xs,.int i=>cw xs i
 |.str z,.int i=>iR z i
 |_,_=>none
def cg:aG->Option D
 |[.l xs]=>some (.int xs.length)
 |[.t xs]=>some (.int xs.length)
 |[.str z]=>if z.length<=sizeLine then some (.int z.length)else none
 |_=>none
noncomputable def ri:D->Bool
 |.opq=>false
 |.c _ _=>false
 |.t _=>false
 |.l _=>false
 |_=>true
def fz(x:D)(xs:aG):Bool:=xs.any λ y=>bZ y x
def fv(x:D)(xs:aG):Bool:=ri x&&xs.all ri
def dIn:D->D->Option D
 |x,.t xs=>if fv x xs=true then some (.b (fz x xs))else none
 |x,.l xs=>if fv x xs=true then some (.b (fz x xs))else none
 |_,_=>none
def co7:D->D->Option D
 |x,.t xs=>if fv x xs=true then some (.b (!fz x xs))else none
 |x,.l xs=>if fv x xs=true then some (.b (!fz x xs))else none
 |_,_=>none
def kQ:aG->Option D
 |[.int i]=>some (.int i)
 |[.b b]=>some (.int (if b then 1 else 0))
 |_=>none
def mE:aG->Option D
 |[.l xs]=>some (.t xs)
 |[.t xs]=>some (.t xs)
 |_=>none
def n8:aG->Option D
 |[.l xs]=>some (.l xs)
 |[.t xs]=>some (.l xs)
 |_=>none
@[simp] theorem bU4:(∀xs i,bA (.t xs) (.int i)=cw xs i)/\(∀xs i,bA (.l xs) (.int i)=cw xs i)/\(∀z i,bA (.str z) (.int i)=iR z i):=by and_intros<;>intros<;>rfl
@[simp] theorem g6:cg [.l xs]=some (.int xs.length):=yI rfl
@[simp] theorem sr(xs:aG):cg [.t xs]=some (.int xs.length):=yI rfl
@[simp] theorem bM0:(∀z,cg [.str z]=if z.length<=sizeLine then some (.int z.length)else none)/\(∀b,kQ [.b b]=some (.int (if b then 1 else 0)))/\(∀xs,mE [.l xs]=some (.t xs))/\(∀xs,n8 [.t xs]=some (.l xs)):=by and_intros<;>intros<;>rfl
open PySem.Spec PyProof.Rows L2
section
variable{X:Cx}{K:Frag}
theorem qQ(H:Hp)(x:Str):aU K H (.str x) (.str x):=by rfl
theorem ZH:jO K (MR K) bA:=λ c H0 H J S x y d Z f Q R O Y e q=>by
 cases y with
 |int i=>
  subst Y;cases x with
  |t ds=>
   obtain⟨p,vs,rfl,s,t⟩:=O;obtain⟨v,e1,e2⟩:=Lx t e;exact .inr (.inl ⟨p,vs,i,v,rfl,rfl,aE.seqT R.same s,e1,q v H0 H (aE.refl _) R e2⟩)
  |l ds=>
   obtain⟨p,vs,rfl,s,t⟩:=O;obtain⟨v,e1,e2⟩:=Lx t e;exact .inl ⟨p,vs,i,v,rfl,rfl,aE.seq R.same s,e1,q v H0 H (aE.refl _) R e2⟩
  |str z=>
   subst O;have e:iR z i=some d:=e;unfold iR at e;by_cases a:z.length<=sizeLine
   .rw[if_pos a]at e;obtain⟨b,e1,e2⟩:=aS e;have e2:=e2;cases e2;exact .inr (.inr ⟨z,i,b,rfl,rfl,a,e1,q _ H0 H (aE.refl _) R (qQ H0 (cJ b))⟩)
   .rw[if_neg a]at e;cases e
  |_=>cases e
 |_=>cases x<;>cases e
theorem ui(O:XE X a F)(q:XE X b G)(Y:AH b:=by intro _ _;rfl):XE X (.Subscript a b pos) (e2 bA F G):=PE.wk (Sd WS O q Y) λ S H Q h=>wq ZH h
theorem MG:i6 X (.builtin "len") cg:=⟨_,g7.or O5,λ c H0 H J S ds d vs Q R r e q=>by
 unfold cg at e;split at e
 .cases e;obtain⟨v,rfl,O⟩:=aB.v1 r;obtain⟨p,ws,rfl,s,t⟩:=O;exact .inl ⟨p,ws,rfl,.inl (aE.seq R.same s),by rw[<-t.length];exact q _ H0 H (aE.refl _) R (fV _ _)⟩
 .cases e;obtain⟨v,rfl,O⟩:=aB.v1 r;obtain⟨p,ws,rfl,s,t⟩:=O;exact .inl ⟨p,ws,rfl,.inr (aE.seqT R.same s),by rw[<-t.length];exact q _ H0 H (aE.refl _) R (fV _ _)⟩
 .rename_i z;obtain⟨a,rfl⟩:=cx e;obtain⟨v,rfl,O⟩:=aB.v1 r;subst O;exact .inr ⟨z,rfl,a,q _ H0 H (aE.refl _) R (fV _ _)⟩
 .cases e⟩
theorem yR(o:i6 X (.type T) g)(Z:Gl X x)(hm:X.mg x=none)(hv:bootBuiltins x=some (.type T))(Y:XA X (e::es) A)(hn:x≠"__name__":=by decide)(O:dJ x:=by decide)(he:kv X e es:=by rfl)(q:lH X pos es:=by rfl):XE X (.Call (.Name x p) (e::es) [] pos) (eF g A):=by
 obtain⟨r,a,b⟩:=o;exact PE.wk (Nj a Z hm hv Y hn O he q) λ S H Q h=>Lu b h
theorem G0:i6 X (.type "int") kQ:=⟨_,Po,λ c H0 H J S ds d vs Q R r e q=>by
 unfold kQ at e;split at e
 .cases e;obtain⟨v,rfl,O⟩:=aB.v1 r;subst O;exact .inl ⟨_,rfl,q _ H0 H (aE.refl _) R (fV _ _)⟩
 .cases e;obtain⟨v,rfl,O⟩:=aB.v1 r;subst O;exact .inr ⟨_,rfl,q _ H0 H (aE.refl _) R (fV _ _)⟩
 .cases e⟩
theorem QB:i6 X (.type "list") n8:=⟨_,NZ,λ c H0 H J S ds d vs Q R r e q=>by
 unfold n8 at e;split at e
 .cases e;obtain⟨v,rfl,O⟩:=aB.v1 r;obtain⟨p,ws,rfl,s,t⟩:=O;refine⟨p,ws,rfl,.inl (aE.seq R.same s),λ l hl=>?_⟩;have σ:=bS.alloc (o:=.l ws) R.same hl;refine q _ _ _ σ.s0 (R.after σ) ?_;exact⟨l,_,rfl,.inl (.inl cM),aB.mono σ.s0 _ t⟩
 .cases e;obtain⟨v,rfl,O⟩:=aB.v1 r;obtain⟨p,ws,rfl,s,t⟩:=O;refine⟨p,ws,rfl,.inr (aE.seqT R.same s),λ l hl=>?_⟩;have σ:=bS.alloc (o:=.l ws) R.same hl;refine q _ _ _ σ.s0 (R.after σ) ?_;exact⟨l,_,rfl,.inl (.inl cM),aB.mono σ.s0 _ t⟩
 .cases e⟩
theorem DC:i6 X (.type "tuple") mE:=⟨_,Oy,λ c H0 H J S ds d vs Q R r e q=>by
 unfold mE at e;split at e
 .cases e;obtain⟨v,rfl,O⟩:=aB.v1 r;obtain⟨p,ws,rfl,s,t⟩:=O;refine⟨p,ws,rfl,.inl ⟨aE.seq R.same s,λ l hl=>?_⟩⟩;have σ:=bS.alloc (o:=.t ws) R.same hl;refine q _ _ _ σ.s0 (R.after σ) ?_;exact⟨l,_,rfl,.inl (.inl cM),aB.mono σ.s0 _ t⟩
 .cases e;obtain⟨v,rfl,O⟩:=aB.v1 r;have Y:=O;obtain⟨p,ws,rfl,s,t⟩:=O;exact⟨p,ws,rfl,.inr ⟨aE.seqT R.same s,q _ H0 H (aE.refl _) R Y⟩⟩
 .cases e⟩
theorem zQ(h:ri d=true)(r:aU K H d v):l6 v=true/\∀d' q,ri d'=true->aU K H d' q->m_ v q=bZ d d':=by
 cases d with
 |t xs=>cases h
 |l xs=>cases h
 |opq=>cases h
 |c a vs=>cases h
 |_=>
  subst r;refine⟨rfl,λ d' q h' O=>?_⟩;cases d' with
  |t xs=>cases h'
  |l xs=>cases h'
  |opq=>cases h'
  |c a vs=>cases h'
  |_=>
   subst O;rfl
theorem BN(q:ri x=true)(r:aU K H x v):∀{ds:aG}{vs:bY},ds.all ri=true->aB K H ds vs->vs.all l6=true/\xR v vs=fz x ds
 |[],vs,_,t=>by
  subst t;exact⟨rfl,rfl⟩
 |d::ds,vs,h,t=>by
  obtain⟨u,us,rfl,Y,Z⟩:=t;rw[Qo,zm]at h;obtain⟨i1,i2⟩:=BN q r h.2 Z;obtain⟨f1,O⟩:=zQ h.1 Y;refine⟨by rw[Qo,f1,i1];rfl,?_⟩;unfold xR fz at*;rw[Qn,Qn,O x v q r,i2]
theorem Lm(hf:∀x y d,f x y=some d->∃xs,(y=.t xs\/y=.l xs)/\fv x xs=true/\d=.b (if O then !fz x xs else fz x xs)):jO K (uI K O) f:=λ c H0 H J S x y d b g Q R Y Z e q=>by
 obtain⟨xs,a,ok,rfl⟩:=hf x y d e;unfold fv at ok;rw[zm]at ok;rcases a with rfl|rfl
 .obtain⟨p,ws,rfl,s,t⟩:=Z;obtain⟨i1,i2⟩:=BN ok.1 Y ok.2 t;exact⟨p,ws,rfl,.inr (aE.seqT R.same s),(zQ ok.1 Y).1,i1,by rw[i2];exact q _ H0 H (aE.refl _) R (lN _ _)⟩
 .obtain⟨p,ws,rfl,s,t⟩:=Z;obtain⟨i1,i2⟩:=BN ok.1 Y ok.2 t;exact⟨p,ws,rfl,.inl (aE.seq R.same s),(zQ ok.1 Y).1,i1,by rw[i2];exact q _ H0 H (aE.refl _) R (lN _ _)⟩
end
end Fx
namespace Fx
open PySem
def bE(k:Str):ew->Option D
 |[]=>none
 |q::r=>if q.1=k then some q.2 else bE k r
def pj(k:Str)(d:D):ew->List (Str×D)
 |[]=>[]
 |q::r=>(if q.1=k then(q.1,d)else q)::pj k d r
noncomputable def j1:Option Sl->Option (Bool×List (Str×D))
 |some (.o b (.d kds))=>some (b,kds)
 |_=>none
noncomputable def jk:Sl->Bool
 |.o _ _=>false
 |_=>true
def ua(A:FS)(F:En->Option MO)(J:En):Option MO:=aF (A J) λ r=>match r with
 |.nx ρ'=>F ρ'
 |_=>none
def uq(n k:Nat)(F:En->Option MO)(ds:aG):Option MO:=if ds.length=n then F (ds.map .i++List.replicate k .z)else none
@[simp] theorem ca1:j1 (some (.o b (.d o)))=some (b,o):=yI rfl
open PySem.Spec PyProof.Rows L2
def eL(ks:aP)(vs:bY):List (aO×V):=(ks.map Sum.inr).zip vs
theorem yP(k:Str)(ks:aP)(v:V)(vs:bY):eL (k::ks) (v::vs)=(Sum.inr k,v)::eL ks vs:=rfl
section
variable{K:Frag}
theorem BH:∀{kds:ew}{vs:bY},aB K H (kds.map (·.2)) vs->bE k kds=some d->∃v,ia (eL (kds.map (·.1)) vs) (.inr k)=some v/\aU K H d v:=by intro a;induction a<;>grind[yP,bE,aB,ia]
theorem Iq(rv:aU K H d v):∀{kds:ew}{vs:bY},aB K H (kds.map (·.2)) vs->∃O,(eL (kds.map (·.1)) vs).map (λ Z=>if Z.1=Sum.inr k then(Z.1,v)else Z)=eL ((pj k d kds).map (·.1)) O/\aB K H ((pj k d kds).map (·.2)) O
 |[],vs,t=>⟨[],rfl,aB.nil_⟩
 |q::r,vs,t=>by
  rw[zj]at t;obtain⟨u,c,rfl,a,b⟩:=t;obtain⟨O,e1,e2⟩:=Iq rv b;unfold pj;rw[zj,yP,zj,e1];by_cases Y:q.1=k
  .refine⟨v::O,?_,?_⟩
   .rw[if_pos (show(Sum.inr q.1:aO)=Sum.inr k by rw[Y]),if_pos Y];rfl
   .rw[if_pos Y];exact aB.cons rv e2
  .refine⟨u::O,?_,?_⟩
   .rw[if_neg (show ¬(Sum.inr q.1:aO)=Sum.inr k from λ z=>Y (Zf z)),if_neg Y];rfl
   .rw[if_neg Y];exact aB.cons a e2
theorem Wi(Y:aU K H d v)(t:aB K H (kds.map (·.2)) vs)(h:bE k kds=some O):∃q,iw (eL (kds.map (·.1)) vs) (.inr k) v=eL ((pj k d kds).map (·.1)) q/\aB K H ((pj k d kds).map (·.2)) q:=by
 obtain⟨u,e,_⟩:=BH t h;obtain⟨q,e1,e2⟩:=Iq Y t;refine⟨q,?_,e2⟩;grind[iw,yQ,e1]
end
theorem tF(h:j1 o=some q):o=some (.o q.1 (.d q.2)):=by
 unfold j1 at h;split at h
 .cases h;rfl
 .cases h
section
variable{X:Cx}{pos:Pos}{e:Expr}{F:FE}{A:FA}
theorem UZ(h:n<100):n<sizeLine:=zS aD
theorem Pu{K:Frag}{kds:ew}(t:aB K H (kds.map (·.2)) vs):(eL (kds.map (·.1)) vs).length=kds.length:=by have hl:=t.length;grind[eL]
end
def Ku(K:Frag)(q H:Hp)(o:MO)(a:Addr)(eS H':Hp):Prop:=
 aE q eS/\aE eS H'/\aE H H'/\(∀b u,eS b=some u->q b=some u\/H b=none)/\eS a=none/\H a=none/\fQ K eS H' a o
def MZ(K:Frag)(g:aG->Option MO):Sp:=λ vs H Q _=>∃q ds o,aE q H/\aB K q ds vs/\g ds=some o/\∀a eS H',Ku K q H o a eS H'->Q (.ref a) H'
structure oW(P:Program)(w:World)(K:Frag)(mg:Str->Option Value)(base:Heap)(k:Nat)(x:Str)(g:aG->Option MO):Prop where
 ex:∃f fd ps,da P w K mg base i7 k f fd ps (MZ K g)/\dS K fd ps []/\keepIn K (.ref f)=true/\mg x=some (.ref f)
section
variable{X:Cx}{pos:Pos}{e:Expr}{F:FE}{A:FA}
def tN(K:Frag)(F:En->Option MO):TS:=λ Dn S H=>∃O q H0 J o,RS K ⟨O,q,[]⟩ H0 H J S/\F J=some o/\∀a aV H',Ku K O q o a aV H'->Dn.rt (.ref a) H'
def XN(X:Cx)(sts:iF)(F:En->Option MO):Prop:=eE X sts (tN X.K F)
theorem Et{st:Stmt}{rest:iF}(h1:PS X st (λ Dn S H=>∃Y Z H0 J r,RS X.K ⟨Y,Z,[]⟩ H0 H J S/\B J=some r/\gx X.K ⟨Y,Z,[]⟩ Dn H0 r))(h2:XN X rest N):XN X (st::rest) (ua B N):=
 eE.wk (rV h1 h2) λ Dn S H b=>by
  obtain⟨Y,Z,H0,J,o,R,f,q⟩:=b;obtain⟨z,h,f⟩:=aS f;refine⟨Y,Z,H0,J,z,R,h,?_⟩;cases z with
  |nx O=>exact λ c aV H' s a=>⟨Y,Z,aV,O,o,a,f,q⟩
  |rt d O=>cases f
  |bk O=>cases f
  |ct O=>cases f
theorem Eu{st:Stmt}(h:XS X st B):PS X st (λ Dn S H=>∃Y O H0 J r,RS X.K ⟨Y,O,[]⟩ H0 H J S/\B J=some r/\gx X.K ⟨Y,O,[]⟩ Dn H0 r):=
 PS.wk h λ Dn S H⟨Y,O,H0,J,r,R,f,q⟩=>⟨⟨Y,O,[]⟩,H0,J,r,R,f,q⟩
end
theorem W7{K:Frag}{st:Stmt}(F:kb K x qual st f fd)(σ:aJ N ps (b_ st))(hn:ps.length=n)(hN:N.length=n+m)(Z:∀(O:Value)(A:Around)(outer:hO)(s:Shared)(H:Hp)(E:XK),cm k (A.deeper (envOfC qual (b_ st) s.heap.n f O))->XN (ig i7 P w K mg base N qual (b_ st) f O A outer s H E).nox (iG st) B):da P w K mg base i7 (k+1) f fd ps (MZ K (uq n m B)):=by
 refine F.ok σ (λ vs H Q E h=>?_) (λ O A outer s H vs Q E a h=>?_)
 .obtain⟨Y,ds,o,_,r,e,_⟩:=h;unfold uq at e;split at e
  .rename_i hl;rw[hn,<-r.length];exact hl
  .cases e
 .obtain⟨Y,ds,o,b,r,e,q⟩:=h;unfold uq at e;split at e
  .rename_i hl;exact⟨_,Z O A outer s H E a,Y,H,Y,_,o,RS.start b r (by rw[<-r.length];lia),e,q⟩
  .cases e
end Fx
namespace Fx
open PySem
def mY:D->Option Int->Option Int->Option D
 |.l xs,lo,hi=>some (.l (eg xs lo hi))
 |.t xs,lo,hi=>if jQ xs.length 0 lo=0/\jQ xs.length xs.length hi=xs.length then none else some (.t (eg xs lo hi))
 |.str z,lo,hi=>if z.length<=sizeLine then some (.str (Txt.slice z lo hi))else none
 |_,_,_=>none
def cz(F:FE)(lo hi:FO)(J:En):bK:=aF (F J) λ p=>aF (lo p.2) λ l=>aF (hi l.2) λ h=>aF (mY p.1 l.1 h.1) λ d=>some (d,h.2)
noncomputable def ej(x z:Str):Bool:=!(Builtin.Str.occurrences z x 0 z.length 1).isEmpty
def bP:D->D->Option D
 |x,.t xs=>if fv x xs=true then some (.b (fz x xs))else none
 |x,.l xs=>if fv x xs=true then some (.b (fz x xs))else none
 |.str x,.str z=>some (.b (ej x z))
 |_,_=>none
def el:D->D->Option D
 |x,.t xs=>if fv x xs=true then some (.b (!fz x xs))else none
 |x,.l xs=>if fv x xs=true then some (.b (!fz x xs))else none
 |.str x,.str z=>some (.b (!ej x z))
 |_,_=>none
def Lq(x:D)(l:eO)(o:Option (eO×En)):bK:=aF o λ h=>aF (mY x l h.1) λ d=>some (d,h.2)
def Lr(hi:FO)(x:D)(o:Option (eO×En)):bK:=aF o λ l=>aF (hi l.2) λ h=>aF (mY x l.1 h.1) λ d=>some (d,h.2)
def Ls(lo hi:FO)(o:bK):bK:=aF o λ p=>aF (lo p.2) λ l=>aF (hi l.2) λ h=>aF (mY p.1 l.1 h.1) λ d=>some (d,h.2)
@[simp] theorem cd1:(∀F lo hi J,cz F lo hi J=Ls lo hi (F J))/\(∀lo hi x J,Ls lo hi (some (x,J))=Lr hi x (lo J))/\(∀hi x l J,Lr hi x (some (l,J))=Lq x l (hi J))/\(∀x l h J,Lq x l (some (h,J))=hP (mY x l h) J)/\(∀xs lo hi,mY (.l xs) lo hi=some (.l (eg xs lo hi)))/\(∀z lo hi,mY (.str z) lo hi=if z.length<=sizeLine then some (.str (Txt.slice z lo hi))else none):=by and_intros<;>intros<;>rfl
@[simp] theorem eT:bP x (.t xs)=if fv x xs=true then some (.b (fz x xs))else none:=by cases x<;>rfl
@[simp] theorem gO:bP x (.l xs)=if fv x xs=true then some (.b (fz x xs))else none:=by cases x<;>rfl
@[simp] theorem cI0(x z:Str):bP (.str x) (.str z)=some (.b (ej x z)):=yI rfl
@[simp] theorem lE(x:D)(xs:aG):el x (.t xs)=if fv x xs=true then some (.b (!fz x xs))else none:=by cases x<;>rfl
@[simp] theorem kr(x:D)(xs:aG):el x (.l xs)=if fv x xs=true then some (.b (!fz x xs))else none:=by cases x<;>rfl
@[simp] theorem co6(x z:Str):el (.str x) (.str z)=some (.b (!ej x z)):=yI rfl
open PySem.Spec PyProof.Rows L2
section
variable{K:Frag}
def VH:V->Option Int->Option Int->Hp->VK->Prop:=λ x lo hi H Q=>∃z,x=.str z/\z.length<=sizeLine/\Q (.str (Txt.slice z lo hi)) H
theorem Lg(p:IsPart v o):∃l:Option (Int×Tok),v=partValue l/\l.map (·.1)=o:=by
 cases p with
 |none=>exact⟨none,rfl,rfl⟩
 |int i t=>exact⟨some (i,t),rfl,rfl⟩
theorem QN:nR X VH:=by intro aA s S H x v e f lo hi c Q I Z Y b O h;obtain⟨z,rfl,a,q⟩:=h;obtain⟨t,rfl⟩:=Z;obtain⟨l,rfl,rfl⟩:=Lg b;obtain⟨u,rfl,rfl⟩:=Lg O;refine⟨"str",_,slot_str_getitem.lookup,Zn _ _ _,wpAny_getItem_str_slice (st:=none) Y rfl ?_⟩;exact post_val_or_str ⟨zw (Txt.slice_le z _ _) a,λ d k=>⟨.str (Txt.slice z (l.map (·.1)) (u.map (·.1))),H,I.tok _,⟨_,rfl⟩,q⟩⟩
theorem Rk{lo hi:Option Expr}(he:XE X e F)(hl:XO X lo A)(hh:XO X hi B):XE X (.Subscript e (.Slice lo hi none p2) pos) (cz F A B):=PE.wk (Su ((nB.or QM).or QN) he hl hh) λ S H Q y=>by
 obtain⟨c,H0,J,d,L,R,f,q⟩:=y;obtain⟨⟨x,Y⟩,E,f⟩:=aS f;obtain⟨⟨l,m⟩,G,f⟩:=aS f;obtain⟨⟨u,N⟩,I,f⟩:=aS f;obtain⟨P,Z,f⟩:=aS f;have C:=f;cases C;refine⟨c,H0,J,x,Y,R,E,λ v n M j w K=>?_⟩;refine⟨c,n,Y,l,m,w,G,λ r dk b R2=>?_⟩;refine⟨c,r,m,u,_,R2,I,λ k eN g O=>?_⟩;have r3:=aU.mono g x (aU.mono b x K);cases x with
 |l ds=>
  have e:=qi Z;subst e;obtain⟨p,vs,rfl,s,t⟩:=r3;refine .inl (.inl ⟨p,vs,rfl,aE.seq O.same s,λ i h=>?_⟩);have σ:=bS.alloc (o:=.l (nW vs l u)) O.same h;refine q _ _ _ (j.trans (b.trans (g.trans σ.s0))) (O.after σ) ?_;exact⟨i,_,rfl,.inl (.inl cM),aB.mono σ.s0 _ (HG t l u)⟩
 |t ds=>
  have a:(if jQ ds.length 0 l=0/\jQ ds.length ds.length u=ds.length then none else some (D.t (eg ds l u)))=some d:=Z;by_cases hn:jQ ds.length 0 l=0/\jQ ds.length ds.length u=ds.length
  .rw[if_pos hn]at a;cases a
  .rw[if_neg hn]at a;cases a;obtain⟨p,vs,rfl,s,t⟩:=r3;refine .inl (.inr ⟨p,vs,rfl,aE.seqT O.same s,?_,λ i h=>?_⟩)
   .rw[<-vA,<-vA,<-t.length];exact hn
   have σ:=bS.alloc (o:=.t (nW vs l u)) O.same h;refine q _ _ _ (j.trans (b.trans (g.trans σ.s0))) (O.after σ) ?_;exact⟨i,_,rfl,.inl (.inl cM),aB.mono σ.s0 _ (HG t l u)⟩
 |str z=>
  obtain⟨ρ,rfl⟩:=cx Z;exact .inr ⟨z,r3,ρ,q _ k eN (j.trans (b.trans g)) O (qQ k _)⟩
 |_=>cases Z
theorem dB.or(h:dB X f r)(h':dB X f Z):dB X f (λ x y H Q=>r x y H Q\/Z x y H Q):=by
 intro aA s S H x y v u Q I Y O q;rcases q with q|q
 .exact h aA s S H x y v u Q I Y O q
 .exact h' aA s S H x y v u Q I Y O q
theorem Ll:jO K (uI K false) dIn:=Lm λ x y d e=>by
 cases y with
 |t xs=>obtain⟨h,rfl⟩:=cx e;exact⟨xs,.inl rfl,h,rfl⟩
 |l xs=>obtain⟨h,rfl⟩:=cx e;exact⟨xs,.inr rfl,h,rfl⟩
 |_=>cases e
theorem II:jO K (uI K true) co7:=Lm λ x y d e=>by
 cases y with
 |t xs=>obtain⟨h,rfl⟩:=cx (c:=fv x xs=true) e;exact⟨xs,.inl rfl,h,rfl⟩
 |l xs=>obtain⟨h,rfl⟩:=cx (c:=fv x xs=true) e;exact⟨xs,.inr rfl,h,rfl⟩
 |_=>cases e
theorem U8:gs X .In bP:=⟨_,dB.or TU TR,λ c H0 H J S x y d Z f Q R O Y e q=>by
 cases y with
 |t xs=>rw[eT]at e;exact .inl (Ll c H0 H J S x (.t xs) d Z f Q R O Y e q)
 |l xs=>rw[gO]at e;exact .inl (Ll c H0 H J S x (.l xs) d Z f Q R O Y e q)
 |str b=>
  cases x with
  |str a=>
   have g:=e;cases g;subst O Y;exact .inr ⟨a,b,rfl,rfl,q _ H0 H (aE.refl _) R (lN _ _)⟩
  |_=>cases e
 |_=>cases x<;>cases e⟩
theorem Vg:gs X .NotIn el:=⟨_,dB.or OZ Of,λ c H0 H J S x y d Z f Q R O Y e q=>by
 cases y with
 |t xs=>rw[lE]at e;exact .inl (II c H0 H J S x (.t xs) d Z f Q R O Y e q)
 |l xs=>rw[kr]at e;exact .inl (II c H0 H J S x (.l xs) d Z f Q R O Y e q)
 |str b=>
  cases x with
  |str a=>
   have g:some (D.b (!ej a b))=some d:=e;cases g;unfold aU at O Y;subst O Y;exact .inr ⟨a,b,rfl,rfl,q _ H0 H (aE.refl _) R (lN _ _)⟩
  |_=>cases e
 |_=>cases x<;>cases e⟩
end
section
variable{X:Cx}{pos:Pos}
theorem rq{x:Str}{i:Int}(h:∃t,X.mg x=some (.int i t))(Y:Gl X x:=by rfl)(hd:dJ x:=by decide):XE X (.Name x pos) (zI i):=by
 obtain⟨t,h⟩:=h;exact PE.wk (By Y h (v:=.int i) ⟨t,rfl⟩ hd) λ S H Q O=>by
  obtain⟨c,H0,J,d,a,R,f,q⟩:=O;obtain⟨rfl,rfl⟩:=o4 f;exact q _ H0 H (aE.refl _) R (fV _ _)
theorem LC{x z:Str}(h:∃t,X.mg x=some (.str z t))(Y:Gl X x:=by rfl)(hd:dJ x:=by decide):XE X (.Name x pos) (eC (.str z)):=by
 obtain⟨t,h⟩:=h;exact PE.wk (By Y h (v:=.str z) ⟨t,rfl⟩ hd) λ S H Q O=>by
  obtain⟨c,H0,J,d,a,R,f,q⟩:=O;obtain⟨rfl,rfl⟩:=o4 f;exact q _ H0 H (aE.refl _) R (qQ _ _)
end
end Fx
namespace Fx
open PySem
mutual
noncomputable def t4:D->D->Bool
 |.n,.n=>true
 |.b a,.b b=>a==b
 |.int a,.int b=>a==b
 |.str a,.str b=>decide (a=b)
 |.t a,.t b=>o8 a b
 |.l a,.l b=>o8 a b
 |.opq,.opq=>true
 |.c k a,.c l b=>decide (k=l)&&o8 a b
 |_,_=>false
noncomputable def o8:aG->List D->Bool
 |[],[]=>true
 |a::r,b::t=>t4 a b&&o8 r t
 |_,_=>false
end
mutual
theorem CP:∀a b:D,t4 a b=true->a=b
 |.n,b,h=>by cases b<;>first|rfl|cases h
 |.b a,b,h=>by cases b<;>first|cases h;done|exact y0 _ (beq_iff_eq.mp h)
 |.int a,b,h=>by cases b<;>first|cases h;done|exact y0 _ (beq_iff_eq.mp h)
 |.str a,b,h=>by cases b<;>first|cases h;done|exact y0 _ (zy h)
 |.t a,b,h=>by cases b<;>first|cases h;done|exact y0 _ (tf _ _ h)
 |.l a,b,h=>by cases b<;>first|cases h;done|exact y0 _ (tf _ _ h)
 |.opq,b,h=>by cases b<;>first|rfl|cases h
 |.c k a,b,h=>by
  cases b<;>first|cases h;done|skip
  have h:=Bool.and_eq_true_iff.mp h;rw[zy h.1,tf _ _ h.2]
theorem tf:∀a b:aG,o8 a b=true->a=b
 |[],b,h=>by cases b<;>first|rfl|cases h
 |x::r,b,h=>by
  cases b with
  |nil=>cases h
  |cons y t=>
   have h:=Bool.and_eq_true_iff.mp h;rw[CP _ _ h.1,tf _ _ h.2]
end
mutual
theorem CO:∀a:D,t4 a a=true
 |.n=>rfl
 |.b a=>Za a
 |.int a=>Za a
 |.str a=>zl rfl
 |.t a=>s_ a
 |.l a=>s_ a
 |.opq=>rfl
 |.c k a=>Bool.and_eq_true_iff.mpr ⟨zl rfl,s_ a⟩
theorem s_:∀a:aG,o8 a a=true
 |[]=>rfl
 |x::r=>Bool.and_eq_true_iff.mpr ⟨CO x,s_ r⟩
end
def wU:ew->List (Str×D)->Bool
 |[],[]=>true
 |(k,a)::r,(l,b)::t=>decide (k=l)&&(t4 a b&&wU r t)
 |_,_=>false
theorem K1:∀a b:ew,wU a b=true->a=b
 |[],[],_=>rfl
 |[],_::_,h=>nomatch h
 |_::_,[],h=>nomatch h
 |(k,a)::r,(l,b)::t,h=>by
  have h:=Bool.and_eq_true_iff.mp h;rw[zm]at h;rw[zy h.1,CP _ _ h.2.1,K1 _ _ h.2.2]
theorem KZ:∀a:ew,wU a a=true
 |[]=>rfl
 |(k,a)::r=>by show(_&&(_&&_))=true;rw[CO,KZ r,zl rfl];rfl
def CI:Sl->Sl->Bool
 |.z,.z=>true
 |.i a,.i b=>t4 a b
 |.o c (.l a),.o d (.l b)=>c==d&&o8 a b
 |.o c (.d a),.o d (.d b)=>c==d&&wU a b
 |_,_=>false
theorem cp9:∀a b:Sl,CI a b=true->a=b
 |.z,.z,_=>rfl
 |.i a,.i b,h=>y0 _ (CP _ _ h)
 |.o c (.l a),.o d (.l b),h=>by have h:=Bool.and_eq_true_iff.mp h;rw[beq_iff_eq.mp h.1,tf _ _ h.2]
 |.o c (.d a),.o d (.d b),h=>by have h:=Bool.and_eq_true_iff.mp h;rw[beq_iff_eq.mp h.1,K1 _ _ h.2]
 |.z,.i _,h=>nomatch h
 |.z,.o _ _,h=>nomatch h
 |.i _,.z,h=>nomatch h
 |.i _,.o _ _,h=>nomatch h
 |.o _ (.l _),.z,h=>by cases h
 |.o _ (.d _),.z,h=>by cases h
 |.o _ (.l _),.i _,h=>by cases h
 |.o _ (.d _),.i _,h=>by cases h
 |.o _ (.l _),.o _ (.d _),h=>by cases h
 |.o _ (.d _),.o _ (.l _),h=>by cases h
theorem cp8:∀a:Sl,CI a a=true
 |.z=>rfl
 |.i a=>CO a
 |.o c (.l a)=>Bool.and_eq_true_iff.mpr ⟨Za c,s_ a⟩
 |.o c (.d a)=>Bool.and_eq_true_iff.mpr ⟨Za c,KZ a⟩
def rG:En->En->Bool
 |[],[]=>true
 |a::r,b::t=>CI a b&&rG r t
 |_,_=>false
theorem K7:∀a b:En,rG a b=true->a=b
 |[],[],_=>rfl
 |[],_::_,h=>nomatch h
 |_::_,[],h=>nomatch h
 |a::r,b::t,h=>by rw[rG,zm]at h;rw[cp9 _ _ h.1,K7 _ _ h.2]
theorem K6:∀a:En,rG a a=true
 |[]=>rfl
 |a::r=>by rw[rG,cp8,K6 r];rfl
def C0(a b:En):Decidable (a=b):=if h:rG a b=true then .isTrue (K7 a b h)else .isFalse λ e=>h (e▸K6 a)
def mZ:aG->Option (aP)
 |[]=>some []
 |.str x::r=>aF (mZ r) λ t=>some (x::t)
 |_=>none
theorem AK(x:Str)(r:aG):mZ (.str x::r)=aF (mZ r) λ t=>some (x::t):=rfl
def xA:D->Option (aG)
 |.l xs=>some xs
 |_=>none
noncomputable def wL:D->Option Str
 |.str x=>some x
 |_=>none
def o3(q:Str)(xs:aG):fA:=aF (mZ xs) λ ss=>if(ss.map (·.length)).sum+ss.length*q.length<=1000000 then some (.str (Str.join q ss))else none
def gQ(q:Str)(F:FE)(J:En):bK:=aF (F J) λ p=>aF (xA p.1) λ xs=>aF (o3 q xs) λ d=>some (d,p.2)
def Ba(q:Str)(J:En)(o:Option (aG)):bK:=aF o λ xs=>aF (o3 q xs) λ d=>some (d,J)
def KG(q:Str)(o:bK):bK:=aF o λ p=>Ba q p.2 (xA p.1)
def kI(q:aP)(x:Str):aP:=if x∈q then q else q++[x]
def g_(q:aP)(xs:aP):aP:=xs.foldl kI q
noncomputable def kS:D->Option Str
 |.str k=>some k
 |_=>none
def kM(k:Str)(d:D)(kds:ew):ew:=if(bE k kds).isSome=true then pj k d kds else kds++[(k,d)]
def uO(i:Nat)(J:En):c8:=some (.nx (J.set i (.o false (.d []))))
def xm(i:Nat)(d:D)(J:En)(k:Str)(o:Option (Bool×List (Str×D))):c8:=aF o λ q=>if q.2.length<100 then some (.nx (J.set i (.o q.1 (.d (kM k d q.2)))))else none
def xo(i:Nat)(d:D)(J:En)(o:Option Str):c8:=aF o λ k=>xm i d J k (j1 J[i]?)
def xp(i:Nat)(d:D)(o:bK):c8:=aF o λ p=>xo i d p.2 (kS p.1)
def xq(i:Nat)(G:FE)(d:D)(J:En)(o:Option (Bool×List (Str×D))):c8:=aF o λ _=>xp i d (G J)
def xr(i:Nat)(G:FE)(o:bK):c8:=aF o λ p=>xq i G p.1 p.2 (j1 p.2[i]?)
def rZ(i:Nat)(G F:FE)(J:En):c8:=xr i G (F J)
@[simp] theorem cE8:(∀xs,xA (.l xs)=some xs)/\(∀q F J,gQ q F J=KG q (F J))/\(∀q x J,KG q (some (x,J))=Ba q J (xA x))/\(∀q J xs,Ba q J (some xs)=hP (o3 q xs) J)/\(∀k,kS (.str k)=some k)/\(∀i J,uO i J=some (.nx (J.set i (.o false (.d [])))))/\(∀i G F J,rZ i G F J=xr i G (F J))/\(∀i G d J,xr i G (some (d,J))=xq i G d J (j1 J[i]?))/\(∀i G d J q,xq i G d J (some q)=xp i d (G J))/\(∀i d x J,xp i d (some (x,J))=xo i d J (kS x))/\(∀i d J k,xo i d J (some k)=xm i d J k (j1 J[i]?))/\(∀i d J k b kds,xm i d J k (some (b,kds))=if kds.length<100 then some (.nx (J.set i (.o b (.d (kM k d kds)))))else none):=by and_intros<;>intros<;>rfl
mutual
noncomputable def nd:D->Bool
 |.opq=>false
 |.c _ _=>false
 |.t xs=>iv xs
 |.l xs=>iv xs
 |_=>true
noncomputable def iv:aG->Bool
 |[]=>true
 |d::r=>nd d&&iv r
end
def oE:Sl->Bool
 |.o _ (.l ds)=>iv ds
 |.o _ (.d kds)=>iv (kds.map (·.2))
 |_=>true
def fy(kds:ew):Sl:=.i (.c (kds.map (·.1)) (kds.map (·.2)))
def tP(i:Nat)(G:FS)(J:En)(o:Option (Bool×List (Str×D))):c8:=aF o λ q=>if q.1=false then G (J.set i (fy q.2))else none
def xk(i:Nat)(G:FS)(J:En):c8:=tP i G J (j1 J[i]?)
@[simp] theorem cv7(i:Nat)(G:FS)(J:En):xk i G J=tP i G J (j1 J[i]?):=yI rfl
@[simp] theorem WJ(i:Nat)(G:FS)(J:En)(b:Bool)(kds:ew):tP i G J (some (b,kds))=if b=false then G (J.set i (fy kds))else none:=yI rfl
def lA:D->D->Option D
 |.c ks ds,.str k=>bE k (ks.zip ds)
 |_,_=>none
@[simp] theorem XU(ks:aP)(ds:aG)(k:Str):lA (.c ks ds) (.str k)=bE k (ks.zip ds):=yI rfl
def qI(J q:En)(o:fq):fq:=aF o λ p=>@ite _ (p.2=q) (C0 _ _) (some (p.1,J)) none
def vN(i:Nat)(T:FT)(J:En)(o:Option (Bool×List (Str×D))):fq:=aF o λ q=>if q.1=false/\J.all oE=true then qI J (J.set i (fy q.2)) (T (J.set i (fy q.2)))else none
def eI(i:Nat)(T:FT)(J:En):fq:=vN i T J (j1 J[i]?)
@[simp] theorem VL(i:Nat)(T:FT)(J:En):eI i T J=vN i T J (j1 J[i]?):=yI rfl
@[simp] theorem QK(i:Nat)(T:FT)(J:En)(b:Bool)(kds:ew):vN i T J (some (b,kds))=if b=false/\J.all oE=true then qI J (J.set i (fy kds)) (T (J.set i (fy kds)))else none:=yI rfl
theorem QJ(J q:En)(b:Bool):qI J q (some (b,q))=some (b,J):=by unfold qI aF;exact if_pos rfl
def D2:FS:=λ _=>none
open PySem.Spec PyProof.Rows L2
section
variable{K:Frag}{H:Hp}
theorem J6{k:Str}:∀{kds:ew}{vs:bY},aB K H (kds.map (·.2)) vs->bE k kds=none->ia (eL (kds.map (·.1)) vs) (.inr k)=none
 |[],_,_,_=>rfl
 |q::r,vs,t,e=>by
  rw[zj]at t;unfold aB at t;obtain⟨v,Z,rfl,_,Y⟩:=t;rw[zj,yP];unfold bE at e;by_cases O:q.1=k
  .rw[if_pos O]at e;cases e
  .rw[if_neg O]at e;rw[uT λ z=>O (Zf z)];exact J6 Y e
theorem QC{ks:aP}{vs:bY}{k:Str}{v:V}(h:ks.length=vs.length):eL ks vs++[(Sum.inr k,v)]=eL (ks++[k]) (vs++[v]):=by unfold eL;rw[zx,List.zip_append (by rw[qz];exact h)];rfl
theorem Xh{k:Str}{d:D}{v:V}{kds:ew}{vs:bY}(Y:aU K H d v)(t:aB K H (kds.map (·.2)) vs):∃O,iw (eL (kds.map (·.1)) vs) (.inr k) v=eL ((kM k d kds).map (·.1)) O/\aB K H ((kM k d kds).map (·.2)) O:=by
 unfold kM;cases q:bE k kds with
 |some Z=>rw[if_pos (show(some Z).isSome=true from rfl)];exact Wi Y t q
 |none=>
  rw[if_neg aQ];have hl:=t.length;rw[qz]at hl;refine⟨vs++[v],?_,?_⟩
  .rw[PH v (J6 t q),QC (by rw[qz];exact hl),zx];rfl
  .rw[zx];exact t.app (aB.one Y)
end
section
variable{X:Cx}{pos:Pos}{e:Expr}{F G:FE}{A:FA}
theorem Em(i:Nat){x:Str}{p p2:Pos}(hN:X.N.Nodup)(hi:X.N[i]?=some x:=by rfl)(hx:Loc X.v.scope x:=by exact mA)(Z:swapsWith (.Dict [] [] p2) (some (.Name x p)) pos.line X.v=pure false:=by rfl)(Y:X.fn x=true\/X.v.scope.names.lookup x=some .local:=by exact mA):XS X (.Assign [.Name x p] (.Dict [] [] p2) pos) (uO i):=
 PS.wk (sx hN hi hx Q0 Z Y) λ Dn S H O=>by
  obtain⟨c,H0,J,r,R,f,q⟩:=O;have b:some (jP.nx (J.set i (.o false (.d []))))=some r:=f;cases b;exact λ a d=>q _ H0 _ (aE.refl _) (R.setOwn (o:=.d []) (u:=.dK []) i d ⟨[],[],by rw[cM];rfl,rfl,aB.nil_⟩)
theorem El(i:Nat){x:Str}{k:Expr}{p p3:Pos}(hu:X.A.units+1<cLine)(hk:XE X k G)(he:XE X e F)(hN:X.N[i]?=some x:=by rfl)(hv:jR X.v.scope x:=by exact nE)(hd:dJ x:=by decide)(ac:jZ x:=by decide)(hs:swapsWith e (some (.Subscript (.Name x p) k p3)) pos.line X.v=pure false:=by rfl):XS X (.Assign [.Subscript (.Name x p) k p3] e pos) (rZ i G F):=
 PS.wk (RN hu (lI hN hv hd ac) hk he hs) λ Dn S H Y=>by
  obtain⟨c,H0,J,r,R,f,q⟩:=Y;unfold rZ xr at f;obtain⟨⟨d,O⟩,w,f⟩:=aS f;unfold xq at f;obtain⟨⟨u,Q⟩,B,f⟩:=aS f;unfold xp at f;obtain⟨⟨x2,s⟩,C,f⟩:=aS f;unfold xo at f;obtain⟨k2,h,f⟩:=aS f;unfold xm at f;obtain⟨⟨b,kds⟩,D,f⟩:=aS f;obtain⟨E,rfl⟩:=cx f;have o:x2=.str k2:=by
   cases x2 with
   |str z=>cases h;rfl
   |_=>cases h
  subst o;refine⟨c,H0,J,d,O,R,w,λ v m M ρ g I=>?_⟩;obtain⟨a,e1,_⟩:=g.ow i u _ (tF B);refine⟨_,e1,c,m,O,_,s,g,C,λ y n dk l R2 j=>?_⟩;unfold aU at j;subst j;have z:=tF D;obtain⟨P,e2,_,_,σ,vs,e4,rfl,t⟩:=R2.ow i b _ z;rw[e1]at e2;cases e2;obtain⟨Z,K,L⟩:=Xh (k:=k2) (aU.mono l d I) t;refine⟨a,_,rfl,i8.k (k:=.inr k2) e4 (by have:=Pu t;unfold eL at this;rw[this];exact UZ E),?_⟩;exact q S n _ (ρ.trans l) (R2.mutOwn z e1 ⟨_,Z,by rw[cM];exact y0 (λ y=>some (HO.dK y)) K,rfl,L⟩)
end
section
variable{X:Cx}{aA:cB}{S:L2.St}{H:Hp}{s:Shared}{a:Addr}{kvs:List (aO×V)}
theorem Kq(I:aI X aA S H s)(e:H a=some (.dK kvs)):∃ob,aI X aA S (upd H a (.frz ob (.dK kvs))) s:=by obtain⟨z,n,vs,O,o,es,b,Y,r⟩:=(show bO X.p X.w H s.heap a (.dK kvs)from I.hok a _ e);exact⟨o,I.write (t':=s.toks) (h':=s.heap) (x:=a) (e:=a) (by rw[e];trivial) (.inl rfl) (λ _ _ _ q=>q) ⟨o,Y⟩ ⟨Y,z,n,vs,O,o,es,b,Y,r⟩⟩
def LS(X:Cx)(a:Addr):Prop:=(∀xs,X.H₀ a≠some (.t xs))/\(∀o u,X.H₀ a≠some (.frz o u))/\∀ps,X.H₀ a≠some (.tbl ps)
theorem Rr(I:aI X aA S H s)(e:H a=some (.dK kvs)):LS X a:=by
 refine⟨λ xs z=>?_,λ o u z=>?_,λ ps z=>?_⟩
 .have q:=I.base.tups a xs z;rw[e]at q;cases q
 .have q:=I.base.frzs a o u z;rw[e]at q;cases q
 .obtain⟨m,q⟩:=I.base.tbls a ps z;rw[e]at q;cases q
theorem Rq{ob:Obj}(I:aI X aA S H s)(e:H a=some (.frz ob (.dK kvs)))(O:LS X a):aI X aA S (upd H a (.dK kvs)) s:=by
 have d:∀{b:Addr},H b=none->b≠a:=λ z h=>by rw[h,e]at z;cases z
 have un:=I.base;refine⟨I.ok,I.os,I.bare,⟨un.keep,un.slot,λ b o q n j=>?_,un.there,λ b xs q=>?_,λ b o u q=>?_,λ b ps q=>?_⟩,I.loc,I.cell,?_,λ x c q=>?_,λ p i=>?_,λ b u q=>?_,I.len⟩
 .have z:=un.free b o q n j;rw[bX (d z)];exact z
 .rw[bX λ h=>O.1 xs (by rw[<-h];exact q)];exact un.tups b xs q
 .rw[bX λ h=>O.2.1 o u (by rw[<-h];exact q)];exact un.frzs b o u q
 .rw[bX λ h=>O.2.2 ps (by rw[<-h];exact q)];exact un.tbls b ps q
 .rw[bX (d I.free)];exact I.free
 .have z:=I.freeC x c q;rw[bX (d z)];exact z
 .obtain⟨g,f,Z⟩:=I.pin p i;exact⟨g,by rw[bX (d f)];exact f,Z⟩
 .by_cases Y:b=a
  .subst Y;rw[cM]at q;cases q;obtain⟨_,w⟩:=(show bO X.p X.w H s.heap b (.frz ob (.dK kvs))from I.hok b _ e);exact w
  .rw[bX Y]at q;refine(I.hok b u q).stay (λ _ _ _ r=>r) (λ c r=>?_) λ c xs r=>?_
   .rw[bX λ h=>by rw[h,e]at r;cases r];exact r
   .rw[bX λ h=>by rw[h,e]at r;cases r];exact r
end
section
variable{X:Cx}{e:Expr}{st:Stmt}{t:TE}
def YC(i:Nat)(t:TT):TT:=λ S H Q=>∃a kvs,S[i]?=some (some (.ref a))/\H a=some (.dK kvs)/\∀ob,t S (upd H a (.frz ob (.dK kvs))) λ v H2=>H2 a=some (.frz ob (.dK kvs))/\Q v (upd H2 a (.dK kvs))
theorem cw3(i:Nat){t:TT}(h:PT X e t):PT X e (YC i t):=λ aA s S H Q I O=>by
 obtain⟨a,kvs,_,Y,q⟩:=O;obtain⟨ob,b⟩:=Kq I Y;exact bQ (h aA s S _ _ b (q ob)) λ u f⟨d,Z,e2,c⟩=>⟨_,Rq Z e2 (Rr I Y),c⟩
def YD(i:Nat)(t:TS):TS:=λ D S H=>∃a kvs,S[i]?=some (some (.ref a))/\H a=some (.dK kvs)/\∀ob,t D S (upd H a (.frz ob (.dK kvs)))
theorem cw4(i:Nat){t:TS}(h:PS X st t):PS X st (YD i t):=λ aA s S H D I O=>by
 obtain⟨a,kvs,_,Z,q⟩:=O;obtain⟨ob,Y⟩:=Kq I Z;exact h aA s S _ D Y (q ob)
end
def less(H:Hp)(a:Addr):Hp:=λ b=>if b=a then none else H b
theorem HA{H:Hp}{a:Addr}:less H a a=none:=if_pos rfl
theorem tT(h:b≠a):less H a b=H b:=if_neg h
theorem AJ{H:Hp}{a b:Addr}{u:HO}(h:less H a b=some u):b≠a/\H b=some u:=by
 by_cases e:b=a
 .rw[e,HA]at h;cases h
 .exact⟨e,by rw[tT e]at h;exact h⟩
section
variable{K:Frag}{H:Hp}{a:Addr}{ob:Obj}{kvs:List (aO×V)}
theorem Rd.less(q:H a=some (.frz ob (.dK kvs)))(h:Rd H b u)(n:∀kvs,u≠.dK kvs)(O:∀o v,u≠.frz o v):Rd (less H a) b u:=by
 have c:b≠a:=λ e=>by
  rw[e]at h;rcases h with h|⟨o,h⟩
  .rw[q]at h;exact O _ _ (qi h).symm
  .rw[q]at h;cases h;exact n kvs rfl
 rcases h with h|⟨o,h⟩
 .exact .inl (by rw[tT c];exact h)
 .exact .inr ⟨o,by rw[tT c];exact h⟩
mutual
theorem aU.less(q:H a=some (.frz ob (.dK kvs))):∀(d:D){v:V},nd d=true->aU K H d v->aU K (less H a) d v
 |.n,_,_,h=>by unfold aU at h⊢;exact h
 |.b _,_,_,h=>by unfold aU at h⊢;exact h
 |.int _,_,_,h=>by unfold aU at h⊢;exact h
 |.str _,_,_,h=>by unfold aU at h⊢;exact h
 |.t ds,_,n,h=>by
  unfold aU at h⊢;obtain⟨b,vs,e,s,r⟩:=h;refine⟨b,vs,e,?_,aB.less q ds n r⟩;rcases s with s|s
  .exact .inl (Rd.less q s (λ _ z=>nomatch z) λ _ _ z=>nomatch z)
  .exact .inr s
 |.l ds,_,n,h=>by
  unfold aU at h⊢;obtain⟨b,vs,e,s,r⟩:=h;refine⟨b,vs,e,?_,aB.less q ds n r⟩;rcases s with s|s
  .exact .inl (Rd.less q s (λ _ z=>nomatch z) λ _ _ z=>nomatch z)
  .exact .inr s
 |.opq,_,n,_=>by cases n
 |.c _ _,_,n,_=>by cases n
theorem aB.less(q:H a=some (.frz ob (.dK kvs))):∀(ds:aG){vs:bY},iv ds=true->aB K H ds vs->aB K (less H a) ds vs
 |[],_,_,h=>by unfold aB at h⊢;exact h
 |d::r,_,n,h=>by
  unfold iv at n;rw[zm]at n;unfold aB at h⊢;obtain⟨v,O,e,h1,h2⟩:=h;exact⟨v,O,e,aU.less q d n.1 h1,aB.less q r n.2 h2⟩
end
end
section
variable{K:Frag}{c:FC}{H0 H:Hp}{J:En}{S:L2.St}{i:Nat}{kds:ew}
theorem RS.asData(R:RS K c H0 H J S)(hi:J[i]?=some (.o false (.d kds))):∃a vs,S[i]?=some (some (.ref a))/\H0 a=none/\c.He a=none/\H a=some (.dK (eL (kds.map (·.1)) vs))/\aB K H0 (kds.map (·.2)) vs/\∀ob,aE H0 (upd H0 a (.frz ob (.dK (eL (kds.map (·.1)) vs))))/\RS K c (upd H0 a (.frz ob (.dK (eL (kds.map (·.1)) vs)))) (upd H a (.frz ob (.dK (eL (kds.map (·.1)) vs)))) (J.set i (fy kds)) S:=by
 obtain⟨a,x,y,z,T,vs,e,rfl,r⟩:=R.ow i _ _ hi;have p:c.He a=none:=z;have F:i<J.length:=(ir.mp hi).1;refine⟨a,vs,x,y,p,e,r,λ ob=>?_⟩;have g:aE H0 (upd H0 a (.frz ob (.dK (eL (kds.map (·.1)) vs)))):=λ b u q=>by rw[bX (iU q y)];exact q
 have O:∀{j:Nat}{sl:Sl},j≠i->(J.set i (fy kds))[j]?=some sl->J[j]?=some sl:=λ Z q=>by rwa [yh (jc Z)]at q
 have l:∀{sl:Sl},(J.set i (fy kds))[i]?=some sl->sl=fy kds:=λ q=>by rw[ye F]at q;exact(qi q).symm
 refine⟨g,λ b u q=>?_,R.init.trans g,λ b u q=>?_,λ b u q m=>?_,λ b m=>?_,by rw[yv];exact R.len,λ j d q=>?_,λ j b o q=>?_,λ j k D E ρ L b w Y M N=>?_⟩
 .by_cases h:b=a
  .subst h;rw[cM]at q⊢;exact q
  .rw[bX h]at q⊢;exact R.same b u q
 .by_cases h:b=a
  .subst h;exact .inr p
  .rw[bX h]at q;exact R.fresh b u q
 .rw[bX (iU q p)];exact R.keep b u q m
 .by_cases h:b=a
  .subst h;rw[cM];exact Option.some_ne_none _
  .rw[bX h];exact R.apt b m
 .by_cases Z:j=i
  .subst Z;have Y:=l q;unfold fy at Y;cases Y;refine⟨.ref a,x,?_⟩;unfold aU;exact⟨a,ob,vs,rfl,cM,aB.mono g _ r,by rw[qz,qz]⟩
  .obtain⟨v,B,C⟩:=R.im j d (O Z q);exact⟨v,B,aU.mono g _ C⟩
 .by_cases Z:j=i
  .subst Z;have Y:=l q;unfold fy at Y;cases Y
  .have t:=O Z q;obtain⟨n,A,Q,σ,P⟩:=R.ow j b o t;have s:n≠a:=λ h=>Z (R.ne j i b false o _ n t hi A (by rw[h];exact x));exact⟨n,A,by rw[bX s];exact Q,σ,P.step g λ u q=>by rw[bX s];exact q⟩
 .have G:j≠i:=λ h=>by subst h;have f:=l w;unfold fy at f;cases f
  have I:k≠i:=λ h=>by subst h;have f:=l Y;unfold fy at f;cases f
  exact R.ne j k D E ρ L b (O G w) (O I Y) M N
theorem RS.back{aV H':Hp}{a:Addr}{vs:bY}{ob:Obj}(R:RS K c H0 H J S)(hi:J[i]?=some (.o false (.d kds)))(x:S[i]?=some (some (.ref a)))(y:H0 a=none)(he:c.He a=none)(r:aB K H0 (kds.map (·.2)) vs)(sm:aE (upd H0 a (.frz ob (.dK (eL (kds.map (·.1)) vs)))) aV)(Y:RS K c aV H' (J.set i (fy kds)) S)(hn:J.all oE=true):aE H0 (less aV a)/\H' a=some (.frz ob (.dK (eL (kds.map (·.1)) vs)))/\RS K c (less aV a) (upd H' a (.dK (eL (kds.map (·.1)) vs))) J S:=by
 have e:aV a=some (.frz ob (.dK (eL (kds.map (·.1)) vs))):=sm a _ cM;have g:aE H0 (less aV a):=λ b u q=>by
  have Z:b≠a:=λ h=>by rw[h,y]at q;cases q
  rw[tT Z];exact sm b u (by rw[bX Z];exact q)
 have C:∀{j:Nat}{sl:Sl},j≠i->J[j]?=some sl->(J.set i (fy kds))[j]?=some sl:=λ f q=>by rw[yh (jc f)];exact q
 have O:fQ K (less aV a) (upd H' a (.dK (eL (kds.map (·.1)) vs))) a (.d kds):=⟨_,vs,cM,rfl,aB.mono g _ r⟩;have A:∀{b:Bool}{o:MO},J[i]?=some (.o b o)->b=false/\o=.d kds:=λ q=>by rw[hi]at q;cases q;exact⟨rfl,rfl⟩
 refine⟨g,Y.same a _ e,λ b u q=>by rw[bX (AJ q).1];exact Y.same b u (AJ q).2,λ b u q=>?_,λ b u q=>Y.fresh b u (AJ q).2,λ b u q m=>?_,λ b m=>?_,R.len,λ j d q=>?_,λ j b o q=>?_,R.ne⟩
 .exact g b u (R.init b u q)
 .rw[bX (iU q he)];exact Y.keep b u q m
 .by_cases h:b=a
  .subst h;rw[cM];exact Option.some_ne_none _
  .rw[bX h];exact Y.apt b m
 .obtain⟨v,w,z⟩:=R.im j d q;exact⟨v,w,aU.mono g _ z⟩
 .by_cases f:j=i
  .subst f;obtain⟨rfl,rfl⟩:=A q;exact⟨a,x,HA,he,O⟩
  .obtain⟨p,E,n,F,t⟩:=Y.ow j b o (C f q);have Z:p≠a:=λ h=>by rw[h,e]at n;cases n
   refine⟨p,E,by rw[tT Z];exact n,F,?_⟩;have s:oE (.o b o)=true:=iX.mp hn _ (Yj q);cases o with
   |l ds=>obtain⟨ws,k,l⟩:=t;exact⟨ws,by rw[bX Z];exact k,aB.less e ds s l⟩
   |d G=>obtain⟨B,ws,k,l,D⟩:=t;exact⟨B,ws,by rw[bX Z];exact k,l,aB.less e _ s D⟩
end
section
variable{X:Cx}{pos:Pos}{e:Expr}{F G:FE}{A:FA}
theorem X7(i:Nat){st:Stmt}{σ:FS}(h:XS X st σ):XS X st (xk i σ):=PS.wk (cw4 i h) λ Dn S H O=>by
 obtain⟨c,H0,J,r,R,f,q⟩:=O;unfold xk tP at f;obtain⟨⟨b,kds⟩,e,f⟩:=aS f;by_cases Z:b=false
 .have d:σ (J.set i (fy kds))=some r:=by
   have Y:(if b=false then σ (J.set i (fy kds))else none)=some r:=f
   rwa [if_pos Z]at Y
  subst Z;obtain⟨a,vs,x,_,_,e4,_,RR⟩:=R.asData (tF e);exact⟨a,_,x,e4,λ ob=>⟨c,_,_,r,(RR ob).2,d,gx.mono (RR ob).1 q⟩⟩
 .have Y:(if b=false then σ (J.set i (fy kds))else none)=some r:=f;rw[if_neg Z]at Y;cases Y
end
section
variable{X:Cx}{pos:Pos}{e:Expr}{F G:FE}{A:FA}
theorem Eo{o k:Expr}(hu:X.A.units+1<cLine)(ho:XE X o F)(hk:XE X k G)(hs:wO k:=by exact λ _ _=>rfl):XE X (.Subscript o k pos) (e2 lA F G):=
 PE.wk (TM hu ho hk hs) λ S H Q Y=>by
  obtain⟨c,H0,J,d,e,R,f,q⟩:=Y;obtain⟨x,O,y,s,u,b⟩:=nZ f;unfold lA at b;split at b
  .rename_i ks ds k;refine⟨c,H0,J,_,O,R,s,λ v1 m C z n w=>⟨c,m,O,_,e,n,u,λ v2 g dk i R2 h=>?_⟩⟩;have Z:=aU.mono i _ w;unfold aU at Z h;obtain⟨a,o,ws,rfl,p,t,l⟩:=Z;have rd:Rd g a (.dK ((ks.map Sum.inr).zip ws)):=.inr ⟨o,p⟩;subst h;have f1:(ks.zip ds).map (·.1)=ks:=Y9 aD;have r:(ks.zip ds).map (·.2)=ds:=Y7 aD;obtain⟨v,j,B⟩:=BH (kds:=ks.zip ds) (vs:=ws) (by rw[r];exact t) b;rw[f1]at j;exact⟨a,v,rfl,.inl ⟨_,.inr k,aE.rd R2.same rd,rfl,j.symm⟩,q v g dk (z.trans i) R2 B⟩
  .cases b
end
section
variable{X:Cx}{pos:Pos}{e:Expr}{T:FT}
theorem J3(i:Nat)(he:XT X e T):XT X e (eI i T):=PT.wk (cw3 i he) λ S H Q Y=>by
 obtain⟨c,H0,J,d,g,R,f,q⟩:=Y;unfold eI vN at f;obtain⟨⟨b,kds⟩,o,f⟩:=aS f;have O:(if b=false/\J.all oE=true then qI J (J.set i (fy kds)) (T (J.set i (fy kds)))else none)=some (d,g):=f;by_cases h:b=false/\J.all oE=true
 .rw[if_pos h]at O;obtain⟨rfl,hn⟩:=h;unfold qI at O;obtain⟨⟨m,l⟩,p,j⟩:=aS O;by_cases hd:l=J.set i (fy kds)
  .have Z:some (m,J)=some (d,g):=(if_pos hd).symm.trans j;cases Z;subst hd;have z:=tF o;obtain⟨a,vs,x,y,s,e4,r,RR⟩:=R.asData z;refine⟨a,_,x,e4,λ ob=>⟨c,_,_,d,_,(RR ob).2,p,λ aV H' u k=>?_⟩⟩;obtain⟨t,n,R2⟩:=R.back z x y s r u k hn;exact⟨n,q _ _ t R2⟩
  .have Z:=(if_neg hd).symm.trans j;cases Z
 .rw[if_neg h]at O;cases O
theorem LA{st:Stmt}:XS X st D2:=λ _ _ _ _ _ _⟨_,_,_,_,_,f,_⟩=>nomatch f
end
def kd(K:Frag)(d:D)(u:Value):Prop:=∃v,aX v u/\∀H,aU K H d v
def vi(K:Frag)(ds:aG)(us:cf):Prop:=∃vs,aM vs us/\∀H,aB K H ds vs
section
variable{K:Frag}
theorem di:kd K (.str x) (.str x t):=⟨.str x,⟨t,rfl⟩,λ H=>qQ H x⟩
theorem oY:vi K [] []:=⟨[],.nil,λ H=>aB.nil_⟩
theorem ei(a:kd K d u)(b:vi K ds us):vi K (d::ds) (u::us):=by obtain⟨v,r,p⟩:=a;obtain⟨vs,q,ps⟩:=b;exact⟨v::vs,.cons r q,λ H=>aB.cons (p H) (ps H)⟩
theorem pe(l:K.lookup a=some ⟨.type "tuple",none,.seq us.toArray n,q⟩)(hz:us.length≤1000)(h:vi K ds us):kd K (.t ds) (.ref a):=by
 obtain⟨vs,O,ps⟩:=h;refine⟨.ref a,rfl,λ H=>?_⟩;refine⟨a,vs,rfl,.inr ⟨_,us.toArray,n,l,rfl,rfl,rfl,?_,?_⟩,ps H⟩
 .rw[zk];exact Ya (zS hz)
 .exact O
end
theorem fX:∀{xs:aG}{ss:aP},mZ xs=some ss->xs=ss.map .str
 |[],ss,h=>by cases h;rfl
 |.str x::r,ss,h=>by
  rw[AK]at h;obtain⟨t,e,f⟩:=aS h;cases f;rw[fX e];rfl
 |.n::_,_,h=>by cases h
 |.b _::_,_,h=>by cases h
 |.int _::_,_,h=>by cases h
 |.t _::_,_,h=>by cases h
 |.l _::_,_,h=>by cases h
theorem Ek{K:Frag}{H:Hp}:∀ss:aP,aB K H (ss.map D.str) (ss.map V.str)
 |[]=>aB.nil_
 |x::r=>aB.cons (qQ H x) (Ek r)
theorem DF{K:Frag}{H:Hp}:∀{ss:aP}{vs:bY},aB K H (ss.map D.str) vs->vs=ss.map V.str:=by intro a;induction a<;>grind[aB,aU]
theorem Nr:∀{ss:aP}{us:cf},aM (ss.map V.str) us->StrsAre us ss
 |[],us,h=>by rw[Qk]at h;cases h;exact .nil
 |x::r,us,h=>by
  rw[zj]at h;cases h with
  |cons a b=>obtain⟨t,rfl⟩:=a;exact .cons x t (Nr b)
theorem MY:∀{us:cf}{ss:aP},StrsAre us ss->aM (ss.map V.str) us
 |_,_,.nil=>.nil
 |_,_,.cons x t h=>.cons ⟨t,rfl⟩ (MY h)
section
variable{X:Cx}
theorem Fq:∀{ss:aP}{us:cf},aM (ss.map V.str) us->∃l:List (Str×Tok),us=strValues l/\l.map (·.1)=ss
 |[],us,h=>by rw[Qk]at h;cases h;exact⟨[],rfl,rfl⟩
 |x::r,us,h=>by
  rw[zj]at h;cases h with
  |cons a b=>
   obtain⟨t,rfl⟩:=a;obtain⟨l,rfl,e⟩:=Fq b;exact⟨(x,t)::l,rfl,by rw[zj,e]⟩
theorem IM(q:Str):∀ss:aP,(Str.join q ss).length<=(ss.map (·.length)).sum+ss.length*q.length
 |[]=>by show(Str.empty).length<=_;exact yg _
 |[x]=>by simp[Str.join]
 |x::y::r=>by
  have Y:=IM q (y::r);have O:∀a b:Str,(a++b).length=a.length+b.length:=λ a b=>by
   show(a.cps++b.cps).size=_;rw[Y6];rfl
  show(x++q++Str.join q (y::r)).length<=_;rw[O,O,zj,Z2,zt,Nat.succ_mul];lia
theorem Xu:mS X "str.join" (λ x xs H Q=>∃O p ss,x=.str O∧xs=[.ref p]∧c9 X.K H p (ss.map V.str)∧(ss.map (·.length)).sum+ss.length*O.length≤1000000∧Q (.str (Str.join O ss)) H):=by
 intro aA s S H x xs v us Q I n j h;obtain⟨O,p,ss,rfl,rfl,e,f,q⟩:=h;obtain⟨t,rfl⟩:=n;obtain⟨u,rfl,k⟩:=gr j;cases k;obtain⟨o,m,i,_⟩:=I.list e;obtain⟨l,rfl,Z⟩:=Fq m;have g:=IM O ss;have c:(Str.join O ss).length<=sizeLine:=zw (zw g f) aH;have d:Builtin.Str.tooLong ((l.map (·.1)).toArray.foldl (λ a p=>a+p.length+O.length) 0)=false:=by rw[StrLaws.joinTotal,Z];unfold Builtin.Str.tooLong;exact zn (by have:=(show(1000000:Nat)<=sizeLine by decide);lia)
 refine Qd PySem.F.slot_str_join (Zn _ _ _) PySem.F.entry_str_join (PySem.F.args_str_join_2 _ _) (meets_str_join_list O t p l d) ⟨i.isList,?_⟩;have Y:Builtin.Str.glued O (l.map (·.1))=Str.join O ss:=by rw[StrLaws.glued_eq_join,Z]
 match l,Z,Y with
 |[a],Z,_=>
  have e1:Str.join O ss=a.1:=by rw[<-Z];rfl
  exact⟨.str (Str.join O ss),H,I,⟨a.2,by rw[e1]⟩,q⟩
 |[],_,Y=>exact⟨by rw[Y];exact c,.str (Str.join O ss),H,I.tok _,⟨s.toks,by rw[Y]⟩,q⟩
 |a::b::r,_,Y=>exact⟨by rw[Y];exact c,.str (Str.join O ss),H,I.tok _,⟨s.toks,by rw[Y]⟩,q⟩
theorem JW{e:Expr}{F:FE}{O:Str}{j:Nat}{p apos cpos:Pos}(h:XE X e F)(Y:attributeBase (.Constant (.str O) j p) "join" X.v (eval (.Constant (.str O) j p) X.v)=eval (.Constant (.str O) j p) X.v:=by rfl)(ac:oz X cpos [e]:=by rfl)(Z:(apos.endLine==cpos.line)=true:=by rfl)(hs:gP X e:=by rfl):XE X (.Call (.Attribute (.Constant (.str O) j p) "join" apos) [e] [] cpos) (gQ O F):=
 PE.wk (pE Qx PySem.F.slot_str_join PySem.F.type_str_join Xu G8 (ez h eP hs) Y ac Z hs rfl) λ S H Q r=>by
  obtain⟨c,H0,J,d,a,R,f,q⟩:=r;unfold gQ at f;obtain⟨⟨i,s⟩,x,f⟩:=aS f;obtain⟨xs,k,f⟩:=aS f;obtain⟨u,b,f⟩:=aS f;have w:some (u,s)=some (d,a):=f;cases w;have e1:i=.l xs:=by
   cases i with
   |l ys=>cases k;rfl
   |_=>cases k
  subst e1;unfold o3 at b;obtain⟨ss,y,b⟩:=aS b;obtain⟨z,rfl⟩:=cx b;cases fX y;refine⟨rfl,c,H0,J,[.l (ss.map .str)],a,R,?_,λ vs n o B g A=>?_⟩
  .rw[aC,x];rfl
  .obtain⟨v,rfl,l⟩:=aB.v1 A;unfold aU at l;obtain⟨p,ws,rfl,m,t⟩:=l;rw[DF t]at m;exact⟨O,p,ss,rfl,rfl,aE.seq g.same m,z,q _ n o B g (qQ _ _)⟩
end
theorem I2{k:Str}:∀{kds:ew}{vs:bY},kds.length=vs.length->bE k kds=none->ia (eL (kds.map (·.1)) vs) (.inr k)=none
 |[],vs,_,_=>rfl
 |q::r,[],l,_=>by cases l
 |q::r,v::vs,l,h=>by
  unfold bE at h;by_cases O:q.1=k
  .grind
  .rw[if_neg O]at h;rw[zj,yP,uT λ z=>O (Zf z)];exact I2 (Nat.succ.inj l) h
section
variable{X:Cx}
theorem o6(h:∃a,X.mg x=some (.ref a)∧kd X.K d (.ref a))(hg:Gl X x:=by rfl)(hd:dJ x:=by decide):XE X (.Name x pos) (eC d):=by
 obtain⟨a,h,v,Z,Y⟩:=h;exact PE.wk (By hg h Z hd) λ S H Q O=>by
  obtain⟨c,H0,J,d,b,R,f,q⟩:=O;obtain⟨rfl,rfl⟩:=o4 f;exact q _ H0 H (aE.refl _) R (Y H0)
end
section
variable{X:Cx}{scope sc:Scope}{x y:Str}{aT:aP}{js:dr}{px py spos pos p pos':Pos}{elt a:Expr}{cx:eH}{F I:FE}{T:FT}
theorem Wr(n:Nat)(hN:X.N.Nodup)(hm:X.mg "range"=none)(hc:X.c=true)(af:X.v.scope=sc)(B:iB X.N sc scope x aT js)(ha:XE X a F)(ht:∀s H C fp,nV (de X (x::aT) scope s H C fp) cx T)(he:∀s H C fp,XE (de X (x::aT) scope s H C fp) elt I)(aa:X.N[n]?=some y:=by rfl)(hy:X.v.scope.names.lookup y=some .local:=by rfl)(Z:Gl X "range":=by rfl)(O:gP X a:=by rfl)(ac:swapsWith (.ListComp elt [⟨.Name x px,.Call (.Name "range" p) [a] [] pos',cx,0⟩] scope pos) (some (.Name y py)) spos.line X.v=pure true:=by rfl)(hs:∀v,foldedSetIterable (.Call (.Name "range" p) [a] [] pos') X.v v=pure v:=by intro _;rfl):XS X (.Assign [.Name y py] (.ListComp elt [⟨.Name x px,.Call (.Name "range" p) [a] [] pos',cx,0⟩] scope pos) spos) (bN n (mq js (dZ F) T I)):=
 PS.wk (Ni (tt:=lT X.K T) (te:=tE X.K I) hN aa hy hc af B (Jv Z hm (iT ha k7 O) O) ht he ac hs) λ Dn S H Y=>by
  obtain⟨c,H0,J,r,R,f,q⟩:=Y;unfold bN at f;obtain⟨⟨d,u⟩,A,f⟩:=aS f;have w:some (jP.nx (u.set n (.i d)))=some r:=f;cases w;obtain⟨xs,fr,ys,b,D,E,ρ,rfl⟩:=U5 A;unfold dZ at b;obtain⟨⟨j,V⟩,z,b⟩:=aS b;obtain⟨i,g,b⟩:=aS b;dsimp only at g b;obtain⟨l,b⟩:=Fx.cx b;cases b;refine⟨c,H0,J,j,_,R,z,λ v P U L t m=>?_⟩;cases j with
  |int k=>
   have e:k=i:=qi g;subst e;unfold aU at m;subst m;refine⟨k,rfl,l.1,l.2,CF t D E ρ (BQ 0 k.toNat) λ vs Q eN M h r3=>λ p G=>?_⟩;have σ:=bS.alloc (o:=.l vs) h.same G;refine q _ _ _ (L.trans (M.trans σ.s0)) ((h.after σ).set n ?_);unfold aU;exact⟨p,vs,rfl,.inl (.inl cM),aB.mono σ.s0 _ r3⟩
  |_=>cases g
end
end Fx
namespace Fx
open PySem
def wY:D->Option (aP×List D)
 |.c ks vs=>some (ks,vs)
 |_=>none
def ki(k d:D):fA:=aF (wY d) λ q=>aF (wL k) λ s=>some (.b (bE s (q.1.zip q.2)).isSome)
@[simp] theorem XY(ks:aP)(vs:aG)(k:Str):ki (.str k) (.c ks vs)=some (.b (bE k (ks.zip vs)).isSome):=yI rfl
def lq(E O Y:FE)(J:En):bK:=aF (E J) λ p=>aF (wY p.1) λ q=>aF (O p.2) λ k=>aF (Y k.2) λ e=>aF (wL k.1) λ s=>some ((bE s (q.1.zip q.2)).getD e.1,e.2)
def Cp(q:aP×List D)(k:D)(o:bK):bK:=aF o λ e=>aF (wL k) λ s=>some ((bE s (q.1.zip q.2)).getD e.1,e.2)
def Cq(q:aP×List D)(O:FE)(o:bK):bK:=aF o λ k=>Cp q k.1 (O k.2)
def Mh(O Y:FE)(o:bK):bK:=aF o λ p=>aF (wY p.1) λ q=>Cq q Y (O p.2)
@[simp] theorem cM9:(∀E q O J,lq E q O J=Mh q O (E J))/\(∀q O ks vs J,Mh q O (some (.c ks vs,J))=Cq (ks,vs) O (q J))/\(∀q O k J,Cq q O (some (k,J))=Cp q k (O J))/\(∀ks vs k e J,Cp (ks,vs) (.str k) (some (e,J))=some ((bE k (ks.zip vs)).getD e,J)):=by and_intros<;>intros<;>rfl
open PySem.Spec PyProof.Rows L2
theorem iC(h:wY d=some q):d=.c q.1 q.2:=by
 cases d with
 |c a vs=>cases h;rfl
 |_=>cases h
end Fx
namespace Fx
open PySem PySem.W L2
structure XC(K:Frag)(C:Addr):Prop where
 is:(clsIn K C).isSome=true
 ga:findIn K (.ref C) "__getattribute__"=some (some (.builtin "BaseException.__getattribute__"))
 gh:findIn K (.ref C) "__getattr__"=some none
 cl:findIn K (.ref C) "__class__"=some (some (.builtin "object.__class__"))
 ge:specialIn K (.builtin "object.__class__") "__get__"=some (some (.builtin "getset_descriptor.__get__"))
 tk:takesIn K (.builtin "object.__class__")=some true
 mo:mroIn K C (.type "object")=some true
 mb:mroIn K C (.type "BaseException")=some true
theorem XC.ty(f:XC K C)(X:K.In h):Looks M h (isType (.ref C)) true:=by
 obtain⟨a,O⟩:=Option.isSome_iff_exists.mp f.is;revert O;unfold clsIn;intro O;split at O
 .rename_i b Z c Y hl;exact λ A Q E s k q=>qb (wpAny_loadPart (k C _ (X C _ hl)) (qc q))
 .exact nomatch O
theorem XC.ck{tk:Tok}(f:XC K C)(X:K.In s.heap)(I:InstAt s.heap x ox C od)(h:Q () s):bU prog w A (checkBuiltinCall "BaseException.__getattribute__" ⟨[.ref x,.str n tk],[]⟩) Q E s:=by
 have e1:builtinKind "BaseException.__getattribute__"=some .slot:=aW;have e2:splitId "BaseException.__getattribute__"=some ("BaseException","__getattribute__"):=aW;have e3:=F.args_bexc_ga (.ref x) (.str n tk);obtain⟨O,g,d,t,os⟩:=s;have q:Looks (model prog w) O (isInstance (.ref x) (.type "BaseException")) true:=(I.type).andThen (looks_mroIn X f.mb);refine qb (q.at ?_);rw[if_neg aH];exact Zv e3 h
theorem XC.ca(f:XC K C)(X:K.In s.heap)(I:InstAt s.heap x ox C od)(h:Q (some (.ref C)) {s with toks:=s.toks+1}):bU prog w A (getAttr? (.ref x) "__class__") Q E s:=by
 have a:findObj K C od "__class__"=some (.bind (.builtin "getset_descriptor.__get__") (.builtin "object.__class__")):=by obtain⟨c,b⟩:=Option.isSome_iff_exists.mp f.is;simp[findObj,b,f.cl,f.ge,f.tk]
 obtain⟨e,g,d,t,os⟩:=s;have q:=I.type (M:=model prog w);have O:=looks_findIn (M:=model prog w) X f.ga;have L2:=looks_findIn (M:=model prog w) X f.gh;have Y:=looks_find (M:=model prog w) X I a;have Z:(onTheHeap (.ref C)&&Value.builtin "BaseException.__getattribute__"==Value.builtin "object.__getattribute__")=false:=by rw[show(Value.builtin "BaseException.__getattribute__"==Value.builtin "object.__getattribute__")=false by decide+kernel];rfl
 refine qb (wpAny_mkText (qb (Yr ?_)));refine yo (qb (q.at (qb (O.at ?_))));dsimp only;rw[Z,if_neg aH];unfold getAttrByItsOwn hookBefore;refine qb ?_;rw[show onTheHeap (.ref C)=true from rfl,if_pos rfl];refine L2.at (qb (Yr (yo ?_)));unfold callGetattribute;rw[show(false&&onTheHeap (Value.builtin "BaseException.__getattribute__"))=false from rfl,if_neg aH];refine qb (Zv (F.attr_ValueError.ga.bind (.ref x)) ?_);refine Q9 (Ze F.attr_ValueError.ga.plain F.entry_bexc_ga (f.ck X I ?_));refine qb (qc (qb (qc (qb (q.at (qb (Y.at ?_)))))));refine qb (yo (Q9 (class_get X I f.mo (qc ?_))));exact handed_on rfl (qc h)
theorem XC.kitx(f:XC K C):KitX K (.ref x) (.ref C) (λ h=>InstAt h x ox C od)where
 ty:=λ _ _ _ I=>I.type
 it:=λ _ _ X _=>f.ty X
 ne:=λ h O dd Z n i X e=>by
  obtain⟨a,q⟩:=Option.isSome_iff_exists.mp f.is;cases Y:(Value.ref C==Value.ref O)with
  |false=>rfl
  |true=>
   obtain rfl:C=O:=Value.ref.inj (beq_iff_eq.mp Y);revert q;unfold clsIn;intro q;split at q
   .rename_i b c d g hl;exact nomatch (X C _ hl).symm.trans e
   .exact nomatch q
 ca:=λ X I k=>f.ca X I k
def dY(c:Value)(vs:gm)(dd:jW:=none):Obj:={cls:=c,dict:=dd,data:=.fields vs,slots:=#[]}
theorem w5(q:s.heap.get? a=some (dY c vs dd))(O:k<vs.size)(h:∀h',h'.get? a=some (dY c (vs.setIfInBounds k x) dd)->Heap.SameBut a s.heap h'->Q () {s with heap:=h'}):bU prog w A (setField (.ref a) k x) Q E s:=
 wpAny_setField q rfl O (h _ (ji _ q rfl) (Yq s.heap a _))
def Aw(fs es:fB)(h h':Heap):Prop:=∀b o,h.get? b=some o->b∉es->(b∉fs->h'.get? b=some o)/\∃q,h'.get? b=some {o with slots:=q}
theorem Aw.of(k:∀b o,b∉es->h.get? b=some o->h'.get? b=some o):Aw fs es h h':=λ b o e n=>⟨λ _=>k b o n e,o.slots,k b o n e⟩
def iM(h:Heap)(e T C:Addr)(dd:jW)(q:Value):Prop:=T≠e∧(∃vs,h.get? e=some (dY (.ref C) vs dd)∧vs[1]?=some (.ref T))∧∃ts,h.get? T=some (dY (.type "traceback") ts)∧ts[3]?=some q
section
variable{s:Shared}{L e C T:Addr}
theorem Je(hl:s.heap.FunFrames base l)(O:s.heap.get? e=some (dY c vs dd)):e∉gC l:=λ z=>by
 obtain⟨_,o,q,hn⟩:=hl.mem z;rw[O]at q;cases q;exact hn vs rfl
theorem IX{O:Value}{nx:Bool}{vs:gm}(aa:A.frames=some (env::outer))(hl:s.heap.FunFrames base (env::outer))(hf:env.frame=some L)(he:s.heap.get? e=some (dY (.ref C) vs dd))(h1:1<vs.size)(k:∀h' T,Aw (gC (env::outer)) [e] s.heap h'->s.heap.n<=T->iM h' e T C dd (rawInt L)->Q () {s with heap:=h'}):
  bU prog w A (do setField (.ref e) 1 (<-EntryCells.newEntry O (<-frameOf env) .none (rawInt L) .none (<-entryPlaceOf L nx))) Q E s:=by
 refine qb (wpAny_frameOf_fun aa hl hf λ g Y=>qb (wpAny_entryPlaceOf λ Z h=>qb ?_));refine yi ?_ (h.sizeOk5 O (.ref L) .none (rawInt L) .none);have c:([O,.ref L,.none,rawInt L,.none]++(if Z.isEmpty then List.replicate 6 Value.none else Z)).toArray[3]?=some (rawInt L):=rfl;generalize ([O,.ref L,.none,rawInt L,.none]++(if Z.isEmpty then List.replicate 6 Value.none else Z)).toArray=ts at c⊢;have a:g.get? e=some (dY (.ref C) vs dd):=(Y.2.1 e (Je hl he)).trans he;refine w5 (qf _ a) h1 λ h' e1 sb=>?_;have te:g.n≠e:=Y1 (qm a);refine k h' g.n (λ b o q n=>?_) (Y3 Y.1.symm) ⟨te,⟨_,e1,by simp[h1]⟩,ts,?_,c⟩
 .have f:b≠e:=λ z=>n (by simp[z]);have d:∀o',g.get? b=some o'->h'.get? b=some o':=λ o' z=>(sb.2 b f).trans (qf _ z);obtain⟨i,z⟩:=Y.2.2 b o q;exact⟨λ m=>d o ((Y.2.1 b m).trans q),i,d _ z⟩
 .exact(sb.2 _ te).trans (qk _ rfl)
theorem F5(q:A.frames=some (env::outer))(hl:s.heap.FunFrames base (env::outer))(O:env.frame=some L)(Y:s.heap.get? e=some (dY (.ref C) vs dd))(h1:vs[1]?=some .none)(k:∀h' T,Aw (gC (env::outer)) [e] s.heap h'->s.heap.n<=T->iM h' e T C dd (rawInt L)->Q () {s with heap:=h'}):bU prog w A (noteFrame (.ref e) env) Q E s:=by
 simp only[noteFrame,O];refine qb (yj Y rfl h1 ?_);rw[show(Value.none != Value.none)=false from rfl,if_neg aH];exact IX q hl O Y (Array.getElem?_eq_some_iff.mp h1).1 k
theorem zY(aa:A.frames=some (env::outer))(hl:s.heap.FunFrames base (env::outer))(hf:env.frame=some L)(x:iM s.heap e T C dd .none)(k:∀h' Y,Aw (gC (env::outer)) [e,T] s.heap h'->s.heap.n<=Y->iM h' e Y C dd (rawInt L)->Q () {s with heap:=h'}):bU prog w A (noteFrame (.ref e) env) Q E s:=by
 obtain⟨te,⟨vs,g,c⟩,i,Z,d⟩:=x;simp only[noteFrame,hf];refine qb (yj g rfl c ?_);rw[show(Value.ref T != Value.none)=true from rfl,if_pos rfl];refine qb (yj Z rfl d ?_);rw[show(Value.none==rawInt L)=false from rfl,if_neg aH];refine qb (w5 Z (Array.getElem?_eq_some_iff.mp d).1 λ O e1 sb=>?_);have h:=hl.of_keeps λ b o q n=>by
  have bt:b≠T:=λ z=>by subst z;rw[Z]at q;cases q;exact n i rfl
  exact⟨o,(sb.2 b bt).trans q,rfl⟩
 refine IX aa h hf ((sb.2 e te.symm).trans g) (Array.getElem?_eq_some_iff.mp c).1 λ h' Y a z f=>k h' Y (λ b o q n=>?_) (zw (Y3 sb.1.symm) z) f;simp only[yc,zv,jd,not_or]at n;exact a b o ((sb.2 b n.2).trans q) (by simp[n.1])
theorem vo(x:iM s.heap e T C dd Z)(k:∀h',Heap.SameBut T s.heap h'->iM h' e T C dd .none->Q () {s with heap:=h'}):bU prog w A (setFlight (.ref e) none) Q E s:=by
 obtain⟨te,⟨vs,q,a⟩,c,Y,b⟩:=x;have O:=(Array.getElem?_eq_some_iff.mp b).1;refine qb (yj q rfl a ?_);rw[show(Value.ref T != Value.none)=true from rfl,if_pos rfl];exact w5 Y O λ h' e1 sb=>k h' sb ⟨te,⟨vs,(sb.2 e te.symm).trans q,a⟩,_,e1,by simp[O]⟩
theorem G_(O:env.frame=some L)(x:iM s.heap e T C dd (rawInt L))(k:Q () s):bU prog w A (noteFrame (.ref e) env) Q E s:=by obtain⟨te,⟨vs,q,a⟩,b,Y,Z⟩:=x;simp only[noteFrame,O];refine qb (yj q rfl a ?_);rw[show(Value.ref T != Value.none)=true from rfl,if_pos rfl];refine qb (yj Y rfl Z ?_);rw[if_pos (Za _)];exact qc k
theorem W9(x:iM s.heap e T C dd Z)(k:∀h',Heap.SameBut T s.heap h'->iM h' e T C dd (rawInt L)->Q () {s with heap:=h'}):
    bU prog w A (do if(← field (.ref e) 1)==.none then unsupported "frame.own-activation:exception-without-traceback"
                               setFlight (.ref e) (some L)) Q E s:=by
  obtain⟨te,⟨vs,q,a⟩,c,Y,b⟩:=x;have O:=(Array.getElem?_eq_some_iff.mp b).1;refine qb (yj q rfl a ?_);rw[show(Value.ref T==Value.none)=false from rfl,if_neg aH];refine qb (yj q rfl a ?_);rw[show(Value.ref T != Value.none)=true from rfl,if_pos rfl];exact w5 Y O λ h' e1 sb=>k h' sb ⟨te,⟨vs,(sb.2 e te.symm).trans q,a⟩,_,e1,by simp[O]⟩
end
open PySem.Spec PyProof.Rows
def iL(P:Program)(w:World):nP:=λ outer H s E e s'=>∃a T C dd H',e=.ref a/\s'.os=s.os/\AllBare s'.gens/\Un (gC outer) [] H H' s.heap s'.heap/\ef P w H' s'.heap/\s.heap.get? a=none/\s.heap.get? T=none/\H' a=none/\H' T=none/\iM s'.heap a T C dd .none/\E (.ref C) dd H'
theorem VX{o:HO}(h:bO P w H h' a o):∃u,h'.get? a=some u:=by cases o<;>first|exact h|exact⟨_,h⟩|exact⟨_,h.1⟩|(obtain⟨_,_,_,e⟩:=h;exact⟨_,e⟩)|(obtain⟨_,_,_,e,_⟩:=h;exact⟨_,e⟩)|(obtain⟨_,_,_,_,e⟩:=h;exact⟨_,e⟩)|(obtain⟨_,_,_,_,e,_⟩:=h;exact⟨_,e⟩)|(obtain⟨_,_,_,_,_,_,_,e,_⟩:=h;exact⟨_,e⟩)|(obtain⟨_,e,_⟩:=h;exact e)|(obtain⟨_,⟨_,_,_,e,_⟩,_⟩:=h;exact⟨_,e⟩)
theorem yX(ok:ef P w H h)(n:h.get? a=none):H a=none:=by
 cases e:H a with
 |none=>rfl
 |some o=>
  obtain⟨u,q⟩:=VX (ok a o e);rw[n]at q;cases q
section
variable{X:Cx}{aA:cB}{S:L2.St}{H:Hp}{s:Shared}{h':Heap}{es:fB}
theorem Iy(ok:ef P w H h)(a:Aw fs es h h')(hf:∀b∈fs,H b=none)(Z:∀b∈es,H b=none):ef P w H h':=λ b o e=>by
 have O:∀c,H c≠none->c∉fs/\c∉es:=λ c n=>⟨λ z=>n (hf c z),λ z=>n (Z c z)⟩
 refine(ok b o e).stay (λ c u Y q=>?_) (λ _ z=>z) (λ _ _ z=>z);have n:H c≠none:=by
  rcases Y with rfl|Y
  .grind
  .grind
 exact(a c u q (O c n).2).1 (O c n).1
def ro(X:Cx)(aA:cB)(H:Hp)(b:Addr):Prop:=
 H b=none/\b≠X.v.locals/\(b∈X.ex\/X.s₀.heap.get? b=none)/\(∀x c,X.v.cells.lookup x=some c->c≠b)/\∀p∈X.pn++aA,p.1≠b
theorem B_(I:aI X aA S H s)(n:s.heap.get? b=none)(hn:H' b=none):ro X aA H' b:=by
 refine⟨hn,λ z=>?_,?_,λ x c e z=>?_,λ p Y z=>?_⟩
 .obtain⟨m,⟨o,_,_,q,_⟩,_⟩:=I.loc;rw[<-z,n]at q;cases q
 .by_cases O:b∈X.ex
  .exact .inl O
  .refine .inr ?_;cases e:X.s₀.heap.get? b with
   |none=>rfl
   |some o=>
    obtain⟨a,q⟩:=I.base.there b o e O;rw[n]at q;cases q
 .obtain⟨v,o,q,_⟩:=I.cell x c e;rw[z,n]at q;cases q
 .have q:=(I.pin p Y).1;rw[z,n]at q;cases q
theorem qT(I:aI X aA S H s)(a:Aw (gC X.stack) es s.heap h')(he:∀b∈es,ro X aA H b):aI X aA S H {s with heap:=h',toks:=t'}:=by
 have Y:∀b o,X.s₀.heap.get? b=some o->b∉X.ex->b≠X.v.locals/\b∉es:=λ b o q O=>by
  refine⟨qv (qt (qm q) I.ok.above),λ z=>?_⟩;rcases(he b z).2.2.1 with y|y
  .exact O y
  .rw[q]at y;cases y
 have fr:∀b,b≠X.v.locals->b∉X.fs->b∉gC X.stack:=λ b n m z=>(qx (I.stkSub b z)).elim n m;have un:=I.base;have Z:∀x c v,X.v.cells.lookup x=some c->s.heap.IsCell c v->h'.IsCell c v:=λ x c v e D=>by
  obtain⟨o,q,d⟩:=D;obtain⟨_,C,g⟩:=a c o q λ z=>(he c z).2.2.2.1 x c e rfl;exact⟨_,g,d⟩
 refine⟨I.ok,I.os,I.bare,⟨λ b o q n f O=>?_,λ b o q n f O=>?_,un.free,λ b o q O=>?_,un.tups,un.frzs,un.tbls⟩,?_,λ x c e=>?_,I.free,I.freeC,λ p w=>?_,Iy I.hok a I.stkFree λ b z=>(he b z).1,I.len⟩
 .exact(a b o (un.keep b o q n f O) (Y b o q O).2).1 (fr b (Y b o q O).1 f)
 .obtain⟨C,h⟩:=un.slot b o q n f O;obtain⟨_,t,j⟩:=a b _ h (Y b o q O).2;exact⟨t,j⟩
 .obtain⟨ρ,h⟩:=un.there b o q O;obtain⟨_,t,j⟩:=a b _ h (Y b o q O).2;exact⟨_,j⟩
 .obtain⟨m,⟨o,E,F,q,r⟩,hl⟩:=I.loc;obtain⟨_,C,g⟩:=a _ o q λ z=>(he _ z).2.1 rfl;refine⟨m,⟨_,E,F,g,r⟩,λ i x v e1 e2 e3=>?_⟩;obtain⟨u,G,l⟩:=hl i x v e1 e2 e3;refine⟨u,G,l.imp id ?_⟩;rintro ⟨k,c,e,z⟩;exact⟨k,c,e,Z x c _ e z⟩
 .obtain⟨v,z⟩:=I.cell x c e;exact⟨v,Z x c v e z⟩
 .obtain⟨q,n,A,B,d⟩:=I.pin p w;exact⟨(a p.1 p.2 q λ z=>(he _ z).2.2.2.2 p w rfl).1 (fr p.1 A B),n,A,B,d⟩
end
section
variable{K:Frag}
theorem PZ(I:aI (ig (iL P w) P w K mg base N qual scope f cd A outer s H E) aA S H1 Y)(fa:H1 a=none)(na:s.heap.get? a=none)(there:(∃vs,Y.heap.get? a=some (dY (.ref C) vs dd)/\vs[1]?=some .none)\/∃T O,(O=.none\/O=rawInt s.heap.n)/\H1 T=none/\s.heap.get? T=none/\iM Y.heap a T C dd O)(e:E (.ref C) dd H1):(ig (iL P w) P w K mg base N qual scope f cd A outer s H E).xe (.ref a) Y:=by
 have u:=I.stack;have v:=I.ok.frames;have un:=I.base;have Q:∀b,Y.heap.get? b=none->s.heap.get? b=none:=λ b z=>by
  cases q:s.heap.get? b with
  |none=>rfl
  |some o=>
   obtain⟨W,ρ⟩:=un.there b o q (by intro y;cases y);rw[z]at ρ;cases ρ
 have hL:∀b o,s.heap.get? b=some o->b≠s.heap.n:=λ b o q=>qv (qm q);have B:∀(h':Heap)(T:Addr)(es:fB),Aw (gC (envOfC qual scope s.heap.n f cd::outer)) es Y.heap h'->(∀b∈es,H1 b=none/\s.heap.get? b=none)->T∈es->iM h' a T C dd .none->iL P w outer H s E (.ref a) {Y with heap:=h'}:=by
  intro h' T es d Z G O;have j:∀b o,s.heap.get? b=some o->b∉es:=λ b o q z=>by rw[(Z b z).2]at q;cases q
  refine⟨a,T,C,dd,H1,rfl,I.os,I.bare,⟨λ b o q n g _=>?_,λ b o q n g _=>?_,λ b o q n p=>un.free b o q n p,λ b o q p=>?_,un.tups,un.frzs,un.tbls⟩,Iy I.hok d (λ b z=>I.stkFree b z) (λ b z=>(Z b z).1),na,(Z T G).2,fa,(Z T G).1,O,e⟩
  .have c:=un.keep b o q n g (by intro z;cases z);refine(d b o c (j b o q)).1 λ z=>?_;rcases qx (show b∈s.heap.n::gC outer from z)with z|z
   .exact hL b o q z
   .exact g z
  .obtain⟨L,c⟩:=un.slot b o q n g (by intro z;cases z);obtain⟨_,x,r⟩:=d b _ c (j b o q);exact⟨x,r⟩
  .obtain⟨W,c⟩:=un.there b o q p;obtain⟨_,x,r⟩:=d b _ c (j b o q);exact⟨_,r⟩
 have t:∀(h':Heap)(T:Addr)(es:fB),Aw (gC (envOfC qual scope s.heap.n f cd::outer)) es Y.heap h'->Y.heap.objs.size<=T->(∀b∈es,H1 b=none/\s.heap.get? b=none)->iM h' a T C dd (rawInt s.heap.n)->wpAny (model P w) (A.deeper (envOfC qual scope s.heap.n f cd)) (setFlight (.ref a) none) (λ _ i=>iL P w outer H s E (.ref a) i) (λ σ i=>iL P w outer H s E σ i) {Y with heap:=h'}:=by
  intro h' T es d zT Z O;have D:=jb zT;refine vo O λ l sb k=>B l T (T::es) (λ b o q n=>?_) (λ b z=>?_) aQ k
  .simp only[yc,not_or]at n;obtain⟨X,L,c⟩:=d b o q n.2;exact⟨λ m=>(sb.2 b n.1).trans (X m),L,(sb.2 b n.1).trans c⟩
  .rcases qx z with rfl|z
   .exact⟨yX I.hok D,Q _ D⟩
   .exact Z b z
 show wpAny _ _ (leaving _ _) _ _ _;rcases there with⟨vs,U,V⟩|⟨T,_,rfl|rfl,F,nT,O⟩
 .exact qb (F5 v u rfl U V λ h' T h z O=>t h' T [a] h z (by simpa using⟨fa,na⟩) O)
 .exact qb (zY v u rfl O λ h' M h z R=>t h' M [a,T] h z (by simpa using⟨⟨fa,na⟩,F,nT⟩) R)
 .exact qb (G_ rfl O (vo O λ l sb k=>B l T [T] (Aw.of λ b o n z=>(sb.2 b (by simpa using n)).trans z) (by simpa using⟨F,nT⟩) aQ k))
def BF(X:Cx)(E:XK):Prop:=∀(aA:cB)(S:L2.St)(H:Hp)(s:Shared)(e C:Addr)(dd:jW)(vs:gm),aI X aA S H s->H e=none->X.s₀.heap.get? e=none->s.heap.get? e=some (dY (.ref C) vs dd)->vs[1]?=some .none->E (.ref C) dd H->X.xe (.ref e) s
end
abbrev bmV:cf:=[.type "ValueError",.type "Exception",.type "BaseException",.type "object"]
end Fx
namespace Fx
open PySem
noncomputable abbrev XV:=Str×Option (Str×D)
inductive RX where
 |ok (r:jP)|ex (x:XV)
abbrev FX:=En->Option RX
noncomputable def DP(r:jP):Option RX:=some (.ok r)
def rS(A:FS)(J:En):Option RX:=aF (A J) DP
def rX(B:FX):RX->Option RX
 |.ok (.nx J)=>B J
 |r=>some r
def pA(A B:FX)(J:En):Option RX:=aF (A J) (rX B)
def xQ(A B:FX)(p:Bool×En):Option RX:=if p.1=true then A p.2 else B p.2
def yB(T:FT)(A B:FX)(J:En):Option RX:=aF (T J) (xQ A B)
def Ak(x f:Str)(o:bK):Option RX:=aF o λ p=>some (.ex (x,some (f,p.1)))
def vm(x f:Str)(F:FE)(J:En):Option RX:=Ak x f (F J)
def w_:RX->Option (D⊕XV)
 |.ok r=>aF (xa r) λ d=>some (.inl d)
 |.ex x=>some (.inr x)
def rO(n k:Nat)(B:FX)(ds:aG):Option (D⊕XV):=if ds.length=n then aF (B (ds.map .i++List.replicate k .z)) w_ else none
@[simp] theorem by0:(∀x f F J,vm x f F J=Ak x f (F J))/\(∀x f d J,Ak x f (some (d,J))=some (.ex (x,some (f,d))))/\(∀A J,rS A J=aF (A J) DP)/\(∀r,DP r=some (.ok r))/\(∀B J,rX B (.ok (.nx J))=B J)/\(∀B x,rX B (.ex x)=some (.ex x))/\(∀A B J,pA A B J=aF (A J) (rX B))/\(∀A B J,xQ A B (true,J)=A J)/\(∀A B J,xQ A B (false,J)=B J)/\(∀T A B J,yB T A B J=aF (T J) (xQ A B)):=by and_intros<;>intros<;>rfl
open PySem.W PySem.Spec PyProof.Rows L2
def XD(K:Frag)(H0 H:Hp):Option (Str×D)->Option Addr->Prop
 |none,none=>True
 |some p,some dx=>∃v,aU K H0 p.2 v/\H dx=some (.xd [(p.1,v)])
 |_,_=>False
def iz(K:Frag)(mg:Str->Option Value)(E:XK)(c:FC)(Dn:gv)(H0:Hp):RX->Prop
 |.ok r=>gx K c Dn H0 r
 |.ex x=>∀C dd ρ' q aV H',mg x.1=some (.ref C)->aE H0 aV->RS K c aV H' ρ' q->XD K aV H' x.2 dd->E (.ref C) dd H'
theorem iz.mono{K:Frag}(s:aE H0 H1):∀{r:RX},iz K mg E c Dn H0 r->iz K mg E c Dn H1 r
 |.ok _,h=>gx.mono s h
 |.ex _,h=>λ C dd a q aV H' m z=>h C dd a q aV H' m (s.trans z)
def tX(K:Frag)(mg:Str->Option Value)(E:XK)(F:FX):TS:=λ Dn S H=>∃c H0 J r,RS K c H0 H J S/\F J=some r/\iz K mg E c Dn H0 r
def qZ(X:Cx)(E:XK)(st:Stmt)(F:FX):Prop:=PS X st (tX X.K X.mg E F)
def XX(X:Cx)(E:XK)(sts:iF)(F:FX):Prop:=eE X sts (tX X.K X.mg E F)
section
variable{st:Stmt}
theorem Im(h:rS σ J=some r):∃z,σ J=some z/\r=.ok z:=by obtain⟨z,a,b⟩:=aS h;exact⟨z,a,(qi b).symm⟩
theorem yW(h:XS X st σ):qZ X E st (rS σ):=PS.wk h λ Dn S H O=>by
 obtain⟨c,H0,J,r,R,f,q⟩:=O;obtain⟨z,a,rfl⟩:=Im f;exact⟨c,H0,J,z,R,a,q⟩
theorem JC(h:il X sts σ):XX X E sts (rS σ):=eE.wk h λ Dn S H O=>by
 obtain⟨c,H0,J,r,R,f,q⟩:=O;obtain⟨z,a,rfl⟩:=Im f;exact⟨c,H0,J,z,R,a,q⟩
theorem yV(h:qZ X E st A):XX X E [st] A:=r8 h
theorem uV(h1:qZ X E st A)(h2:XX X E sts B):XX X E (st::sts) (pA A B):=eE.wk (rV h1 h2) λ Dn S H O=>by
 obtain⟨c,H0,J,r,R,f,q⟩:=O;obtain⟨z,h,f⟩:=aS f;refine⟨c,H0,J,z,R,h,?_⟩
 match z,f with
 |.ok (.nx a),f=>exact λ Y aV H' s Z=>⟨c,aV,a,r,Z,f,q.mono s⟩
 |.ok (.rt _ _),f=>cases f;exact q
 |.ok (.bk _),f=>cases f;exact q
 |.ok (.ct _),f=>cases f;exact q
 |.ex _,f=>cases f;exact q
theorem JD(hc:XT X c T)(ha:XX X E a A)(hb:XX X E b B):qZ X E (.If c a b pos) (yB T A B):=PS.wk (v9 hc ha hb) λ Dn S H Y=>by
 obtain⟨c,H0,J,r,R,f,q⟩:=Y;obtain⟨⟨k,O⟩,g,f⟩:=aS f;refine⟨c,H0,J,k,O,R,g,λ d h e Z=>?_⟩;cases k with
 |true=>rw[if_pos rfl];exact⟨c,d,O,r,Z,f,q.mono e⟩
 |false=>rw[if_neg yf];exact⟨c,d,O,r,Z,f,q.mono e⟩
end
def ZL(K:Frag)(mg:Str->Option Value)(q H:Hp)(Q:VK)(E:XK):D⊕XV->Prop
 |.inl d=>∀v eS H',bS q H eS H'->aU K eS d v->Q v H'
 |.inr x=>∀C dd eS H',mg x.1=some (.ref C)->bS q H eS H'->XD K eS H' x.2 dd->E (.ref C) dd H'
def yH(K:Frag)(mg:Str->Option Value)(g:aG->Option (D⊕XV)):Sp:=λ vs H Q E=>∃q ds r,aE q H/\aB K q ds vs/\g ds=some r/\ZL K mg q H Q E r
structure mM(P:Program)(w:World)(K:Frag)(mg:Str->Option Value)(base:Heap)(k:Nat)(x:Str)(g:aG->Option (D⊕XV)):Prop where
 ex:∃f fd ps,da P w K mg base (iL P w) k f fd ps (yH K mg g)/\dS K fd ps []/\keepIn K (.ref f)=true/\mg x=some (.ref f)
theorem W6{K:Frag}{st:Stmt}(F:kb K x qual st f fd)(σ:aJ N ps (b_ st))(hn:ps.length=n)(hN:N.length=n+m)(hb:∀(O:Value)(A:Around)(outer:hO)(s:Shared)(H:Hp)(E:XK),cm k (A.deeper (envOfC qual (b_ st) s.heap.n f O))->XX (ig (iL P w) P w K mg base N qual (b_ st) f O A outer s H E) E (iG st) B):da P w K mg base (iL P w) (k+1) f fd ps (yH K mg (rO n m B)):=by
 have inv:∀{ds:aG}{r:D⊕XV},rO n m B ds=some r->ds.length=n/\∃z,B (ds.map .i++List.replicate m .z)=some z/\w_ z=some r:=λ{ds r}h=>by
  unfold rO at h;split at h
  .rename_i hl;obtain⟨z,b,a⟩:=aS h;exact⟨hl,z,b,a⟩
  .cases h
 obtain⟨G,I,kV,u,ρ,y,O,ct,t,rfl,lk,g⟩:=F.ex;refine CG lk g σ (λ vs H Q E h=>?_) λ A outer s H vs Q E i h=>?_
 .obtain⟨Z,ds,d,_,r,e,_⟩:=h;rw[hn,<-r.length];exact(inv e).1
 .obtain⟨Z,ds,d,j,r,e,q⟩:=h;obtain⟨hl,z,b,a⟩:=inv e;refine⟨_,hb O A outer s H E i,⟨Z,H,[]⟩,Z,_,z,RS.start j r (by rw[<-r.length];lia),b,?_⟩
  match z,a with
  |.ok (.nx _),a=>cases a;exact λ Y aV H' c R=>q .n aV H' R.step (by rfl)
  |.ok (.rt _ _),a=>cases a;exact λ v Y aV H' c R l=>q v aV H' R.step l
  |.ok (.bk _),a=>cases a
  |.ok (.ct _),a=>cases a
  |.ex _,a=>cases a;exact λ C dd p Y aV H' m c R o=>q C dd aV H' m R.step o
section
variable{X:Cx}{aA:cB}{S:L2.St}{H:Hp}{s:Shared}{a:Addr}{o:Obj}
noncomputable abbrev mG(X:Cx)(a:Addr)(o:Obj):Cx:={X with pn:=(a,o)::X.pn}
theorem UU(k:X.Ok):(mG X a o).Ok:=⟨k.mod,k.kind,k.glob,k.blt,k.above,k.inj,k.has,k.cab,k.hd,k.frames,k.stk,k.exf,k.bs,k.bsz,k.noex,k.exfs,k.funs,k.frf⟩
theorem Uj(k:(mG X a o).Ok):X.Ok:=⟨k.mod,k.kind,k.glob,k.blt,k.above,k.inj,k.has,k.cab,k.hd,k.frames,k.stk,k.exf,k.bs,k.bsz,k.noex,k.exfs,k.funs,k.frf⟩
theorem V9(I:aI X aA S H s)(q:s.heap.get? a=some o)(n:H a=none)(Y:a≠X.v.locals)(O:a∉X.fs)(d:∀v,o.data≠.cell v):aI X ((a,o)::aA) S H s:=
 ⟨I.ok,I.os,I.bare,I.base,I.loc,I.cell,I.free,I.freeC,λ p Z=>by
  rcases qy Z with z|z
  .exact I.pin p (List.mem_append.mpr (.inl z))
  .rcases qx z with rfl|z
   .exact⟨q,n,Y,O,d⟩
   .exact I.pin p (List.mem_append.mpr (.inr z)),I.hok,I.len⟩
theorem Uk(I:aI X ((a,o)::aA) S H s):aI (mG X a o) aA S H s:=
 ⟨UU I.ok,I.os,I.bare,I.base,I.loc,I.cell,I.free,I.freeC,λ p q=>I.pin p (by grind),I.hok,I.len⟩
theorem wW(I:aI (mG X a o) aA S H s):aI X aA S H s:=
 ⟨Uj I.ok,I.os,I.bare,I.base,I.loc,I.cell,I.free,I.freeC,λ p q=>I.pin p (qh _ q),I.hok,I.len⟩
theorem ZN{D:gv}{f:Flow}{s':Shared}(h:SP (mG X a o) aA D f s'):SP X aA D f s':=by
 cases f with
 |next=>obtain⟨O,H',I,q⟩:=h;exact⟨O,H',wW I,q⟩
 |brk=>obtain⟨O,H',I,q⟩:=h;exact⟨O,H',wW I,q⟩
 |cont=>obtain⟨O,H',I,q⟩:=h;exact⟨O,H',wW I,q⟩
 |ret u=>obtain⟨v,O,H',I,r,q⟩:=h;exact⟨v,O,H',wW I,r,q⟩
abbrev BC(X:Cx)(a:Addr)(E:dw):Cx:={X with A:=X.A.mark (some (.ref a)),c:=false,xe:=E}
theorem IQ{E:dw}(I:aI X aA S H s)(b:Addr):aI (BC X b E) aA S H s:=
 let k:=I.ok
 ⟨⟨k.mod,k.kind,k.glob,k.blt,k.above,k.inj,k.has,k.cab,(λ z=>nomatch z),k.frames,k.stk,k.exf,k.bs,k.bsz,k.noex,k.exfs,k.funs,k.frf⟩,I.os,I.bare,I.base,I.loc,I.cell,I.free,I.freeC,I.pin,I.hok,I.len⟩
theorem Pw(ok:X.Ok)(I:aI (BC X b E) aA S H s):aI X aA S H s:=
 ⟨ok,I.os,I.bare,I.base,I.loc,I.cell,I.free,I.freeC,I.pin,I.hok,I.len⟩
theorem P5(I:aI X aA S H s)(hN:X.N.Nodup)(hi:X.N[i]?=some x)(hm:s.heap.Ns X.v.locals m)(hn:h'.Ns X.v.locals (λ y=>if y=x then v else m y))(sb:Heap.SameBut X.v.locals s.heap h'):aI X aA (S.set i none) H {s with heap:=h',toks:=t'}:=by
 have Y:∀b o,X.s₀.heap.get? b=some o->b≠X.v.locals:=λ b o q=>qv (qt (qm q) I.ok.above);refine⟨I.ok,I.os,I.bare,⟨λ b o e n g Z=>(sb.2 b (Y b o e)).trans (I.base.keep b o e n g Z),λ b o e n g Z=>?_,I.base.free,λ b o e Z=>?_,I.base.tups,I.base.frzs,I.base.tbls⟩,?_,λ y c e=>?_,I.free,I.freeC,λ p E=>?_,λ b u e=>?_,by simpa using I.len⟩
 .obtain⟨L,q⟩:=I.base.slot b o e n g Z;exact⟨L,(sb.2 b (Y b o e)).trans q⟩
 .obtain⟨ρ,q⟩:=I.base.there b o e Z;exact⟨ρ,(sb.2 b (Y b o e)).trans q⟩
 .obtain⟨T,B,hl⟩:=I.loc;obtain⟨U,R,M,K,C,k1,f1⟩:=B;obtain⟨P,Q,σ,A,t,k2,D⟩:=hm;rw[K]at A;cases A;rw[C]at t;cases t;have F:=funext λ y=>(D y).symm.trans (f1 y);subst F;refine⟨_,hn,λ j y u e1 e2 e3=>?_⟩;by_cases h:j=i
  .subst h;rw[ye (by rw[I.len];exact(ir.mp hi).1)]at e2;cases e2
  .rw[yh (jc h)]at e2;obtain⟨w,r,l⟩:=hl j y u e1 e2 e3;have f:y≠x:=λ z=>h (Am hN e1 (z▸hi));refine⟨w,r,?_⟩;rcases l with⟨k,e⟩|⟨k,c,e,z⟩
   .exact .inl ⟨k,by simp[f,e]⟩
   .exact .inr ⟨k,c,e,z.sameBut sb (I.cne y c e)⟩
 .obtain⟨w,z⟩:=I.cell y c e;exact⟨w,z.sameBut sb (I.cne y c e)⟩
 .obtain⟨q,n,f,G,d⟩:=I.pin p E;exact⟨(sb.2 p.1 f).trans q,n,f,G,d⟩
 .refine(I.hok b u e).stay (λ c w a q=>(sb.2 c λ z=>?_).trans q) (λ _ q=>q) λ _ _ q=>q;subst z;have O:=I.free;rcases a with rfl|a
  .rw[O]at e;cases e
  .rw[O]at a;cases a
end
section
variable{X:Cx}{k:Nat}{x:Str}{g:aG->Option (D⊕XV)}{e0:Expr}{es:eH}{A:FA}{p pos:Pos}
def JX(X:Cx)(aA:cB)(S:L2.St)(c:FC)(H0:Hp)(ρ':En)(y:XV)(e:Value)(s':Shared):Prop:=
 ∃C a T dd aV H',X.mg y.1=some (.ref C)/\e=.ref a/\aI X aA S H' s'/\aE H0 aV/\RS X.K c aV H' ρ' S/\ro X aA H' a/\ro X aA H' T/\iM s'.heap a T C dd .none/\XD X.K aV H' y.2 dd
theorem co0(hf:∀e s,X.xe e s→False)(G:mM X.p X.w X.K X.mg X.base k x g)(hr:cm k X.A)(ha:XA X (e0::es) A)(hg:Gl X x)(ae:dJ x)(he:kv X e0 es)(ac:lH X pos es){aA:cB}{s:Shared}{S:L2.St}{H H0:Hp}{c:FC}{J ρ':En}{ds:aG}{r:D⊕XV}(I:aI X aA S H s)(R:RS X.K c H0 H J S)(h1:A J=some (ds,ρ'))(h2:g ds=some r):bU X.p X.w X.A (eval (.Call (.Name x p) (e0::es) [] pos) X.v) (λ _ s'=>(∃d,r=.inl d)/\∃aV H',aI X aA S H' s'/\aE H0 aV/\RS X.K c aV H' ρ' S) (λ e s'=>∃y,r=.inr y/\JX X aA S c H0 ρ' y e s') s:=by
 obtain⟨f,fd,ps,E,W,hk,hm⟩:=G.ex;refine jj (nO I hg hm ?_ ae);refine callWith_K (h₀:=X.base) I.ok.mod.kin hk (yd (ha pos aA s S H (λ vs H'=>∃aV,aE H0 aV/\RS X.K c aV H' ρ' S/\aB X.K aV ds vs) I ⟨c,H0,J,ds,ρ',R,h1,λ vs aV H' a b d=>⟨aV,a,b,d⟩⟩) (λ us i h=>?_) λ e i z=>(hf e i z).elim) he ac;obtain⟨vs,F,O,ρ,aV,L,n,rp⟩:=h;refine⟨O.kIn,?_⟩;have sp:yH X.K X.mg g vs F (λ _ H'=>(∃d,r=.inl d)/\∃H0'',aE H0 H0''/\RS X.K c H0'' H' ρ' S) (λ N dd H'=>∃y C H0'',r=.inr y/\X.mg y.1=some (.ref C)/\N=.ref C/\aE H0 H0''/\RS X.K c H0'' H' ρ' S/\XD X.K H0'' H' y.2 dd):=by
  refine⟨aV,ds,r,n.same,rp,h2,?_⟩;cases r with
  |inl d=>exact λ v eS H' σ _=>⟨⟨d,rfl⟩,eS,L.trans σ.s0,n.after σ⟩
  |inr y=>exact λ C dd eS H' m σ B=>⟨y,C,eS,rfl,m,rfl,L.trans σ.s0,n.after σ,B⟩
 have hl:us.length=ps.length:=by rw[<-ρ.length];exact E.len _ _ _ _ sp
 have Z:=W i us O.kIn (by rw[yb];exact hl);rw[yb]at Z;refine Q9 (Qj (E.run X.A X.stack i F ⟨us,[]⟩ us vs _ _ hr O.env0 Z ρ sp) λ z s' Y=>?_);cases z with
 |error e=>
  obtain⟨a,T,C,dd,H',rfl,os,V,un,ok,na,nT,Q,P,o,y,C',H0'',hy,m,z,q,l,B⟩:=Y;cases z;obtain⟨hh,U,d,t,M⟩:=s';obtain rfl:M=i.os:=os;have j:=O.call (h':=hh) (g':=U) (d':=d) (t':=t) (ch:=[]) un ok V (λ b z=>absurd z aQ);exact⟨y,hy,C,a,T,dd,H0'',H',m,rfl,j,q,l,B_ O na Q,B_ O nT P,o,B⟩
 |ok o=>
  cases o with
  |ret u=>
   obtain⟨v,H',j,_,hd,H0'',q,l⟩:=O.after Y;exact⟨hd,H0'',H',j,q,l⟩
  |next=>exact False.elim Y
  |brk=>exact False.elim Y
  |cont=>exact False.elim Y
def C3(X:Cx)(ie ik:Nat)(rest:iF)(Dn:gv)(S:L2.St)(C:Addr)(dd:jW)(H:Hp):Prop:=
 ∀a vs,∃t,eE (mG X a (dY (.ref C) vs dd)) rest t/\t Dn (((S.set ik (some (.ref a))).set ie (some (.ref a))).set ik none) H
theorem PV{aA:cB}{s:Shared}{S:L2.St}{c:FC}{H0:Hp}{ρ':En}{y:XV}{wn xe Z:Str}{W:Addr}{ie ik:Nat}{Dn:gv}{rest:iF}{e:Value}{p1 p2 p3 p4 p5:Pos}(Y:X.stack=X.v::X.outer)(am:X.v.frame=some X.v.locals)(hN:X.N.Nodup)(aq:X.N[ie]?=some xe)(O:X.N[ik]?=some Z)(le:X.v.scope.names.lookup xe=some .local)(lk:X.v.scope.names.lookup Z=some .local)(hg:Gl X wn)(hW:X.mg wn=some (.ref W))(an:dJ wn)(al:dJ Z)(ao:jZ Z)(ap:∀C,X.mg y.1=some (.ref C)→exmOne X.K (.ref C) (.ref W)=some true)(as:swapsWith (.Name Z p3) (some (.Name xe p2)) p4.line X.v=pure false)(q:∀C dd aV H',X.mg y.1=some (.ref C)->aE H0 aV->RS X.K c aV H' ρ' S->XD X.K aV H' y.2 dd->C3 X ie ik rest Dn S C dd H')(h:JX X aA S c H0 ρ' y e s):bU X.p X.w X.A (noteFrame e X.v) (λ _ ag=>bU X.p X.w X.A (setFlight e none) (λ _ aa=>
   bU X.p X.w X.A (handleBy e X.v [.ExceptHandler (some (.Name wn p1)) (some Z) [.Assign [.Name xe p2] (.Name Z p3) p4] p5]) (λ f s4=>match f with| .next=>bU X.p X.w X.A (execs rest X.v) (SP X aA Dn) X.xe s4|f=>SP X aA Dn f s4) X.xe aa) X.xe ag) X.xe s:=by
 obtain⟨C,a,T,dd,aV,H',m,rfl,d,sm,R,l,yT,fl,xd⟩:=h;have fr:=d.ok.frames;rw[Y]at fr;have st:=d.stack;rw[Y]at st;refine zY fr st am fl λ h2 T2 x z2 av=>?_;rw[<-Y]at x;have L:=qT (t':=s.toks) d x (by simpa using⟨l,yT⟩);have F:s.heap.get? T2=none:=jb z2;have ρ:ro X aA H' T2:=B_ d F (yX d.hok F);refine vo av λ G aj B=>?_;have j:=qT (t':=s.toks) (es:=[T2]) (h':=G) L (Aw.of λ b o n z=>(aj.2 b (by simpa using n)).trans z) (by simpa using ρ);refine wpAny_handleBy_cons (codeAny_handlers_test (nO (IQ (E:=X.xe) j a) hg hW ?_ an)) (by intro z;cases z);have U:Looks (model X.p X.w) G (typeOf (.ref a)) (.ref C):=by obtain⟨_,⟨vs,q1,_⟩,_⟩:=B;exact(Looks.ld q1).andThen .now
 refine(exm_one j.kIn U (ap C m)).at ?_;refine codeAny_handlers_suite_as (vo B λ H aw au=>?_);have r:=qT (t':=s.toks) (es:=[T2]) (h':=H) j (Aw.of λ b o n z=>(aw.2 b (by simpa using n)).trans z) (by simpa using ρ);obtain⟨_,⟨vs,I,_⟩,_⟩:=id au;have nf:a∉X.fs:=λ z=>Je (s:={s with heap:=H}) r.funs I z;have M:=V9 (a:=a) (o:=dY (.ref C) vs dd) r I l.1 l.2.1 nf (λ v z=>nomatch z);refine zP (v:=.ref a) M hN O (.inl lk) rfl (λ s5 P=>?_) (.inr lk);have go:=r8 (X:=BC X a λ _ _=>False) (sx (i:=ie) (pos:=p4) (pos':=p2) hN aq (.inl le) (pv ik (pos:=p3) O (Or.inl lk) al ao) as (.inr le));have V:ik<S.length:=by rw[d.len];exact(ir.mp O).1
 refine yd (go _ s5 _ H' {nx:=λ ak H''=>H''=H'/\ak=(S.set ik (some (.ref a))).set ie (some (.ref a)),rt:=λ _ _=>False} (IQ P a) ⟨.ref a,ye V,rfl,rfl⟩) (λ f s6 g=>?_) λ _ _ z=>z.elim;cases f with
 |brk=>obtain⟨_,_,_,z⟩:=g;exact z.elim
 |cont=>obtain⟨_,_,_,z⟩:=g;exact z.elim
 |ret u=>obtain⟨_,_,_,_,_,z⟩:=g;exact z.elim
 |next=>
  obtain⟨ax,p,Q,rfl,rfl⟩:=g;have k:=Pw d.ok Q;obtain⟨m8,D,_⟩:=id k.loc;refine wpAny_nameGoes_keeps lk D (by rw[k.ok.kind];rfl) λ h9 v ai ar=>?_;have σ:=Uk (P5 (t':=s6.toks+1) k hN O D ai ar);obtain⟨t,ht,hq⟩:=q C dd aV p m sm R xd a vs;exact yd (ht aA _ _ p Dn σ hq) (λ f s' z=>ZN z) λ _ _ z=>z
theorem Xk{OK:Str->Prop}{rest:iF}{tN:TS}(hf:∀e s,X.xe e s->False)(G:mM X.p X.w X.K X.mg X.base k x g)(hr:cm k X.A)(ha:XA X (e0::es) A)(ae:X.stack=X.v::X.outer)(aa:X.v.frame=some X.v.locals)(hN:X.N.Nodup)(ah:X.N[ie]?=some xe)(Y:X.N[ik]?=some O)(le:X.v.scope.names.lookup xe=some .local)(lk:X.v.scope.names.lookup O=some .local)(am:Gl X wn)(hW:X.mg wn=some (.ref W))(ag:∀y C,X.mg y=some (.ref C)->OK y->exmOne X.K (.ref C) (.ref W)=some true)(hs:eE X rest tN)(ak:swapsWith (.Name O p3) (some (.Name xe p2)) p4.line X.v=pure false:=by rfl)(al:swapsWith (.Call (.Name x p) (e0::es) [] pos) none p6.line X.v=pure false:=by rfl)(ac:dJ wn:=by decide)(Z:dJ O:=by decide)(af:jZ O:=by decide)(hg:Gl X x:=by rfl)(ai:dJ x:=by decide)(he:kv X e0 es:=by rfl)(aj:lH X pos es:=by rfl):eE X (.Try [.Expr (.Call (.Name x p) (e0::es) [] pos) p6] [.ExceptHandler (some (.Name wn p1)) (some O) [.Assign [.Name xe p2] (.Name O p3) p4] p5] [] [] p7::rest)
   (λ Dn S H=>∃c H0 J ds ρ' r,RS X.K c H0 H J S/\A J=some (ds,ρ')/\g ds=some r/\match r with
    |.inl _=>∀aV H',aE H0 aV->RS X.K c aV H' ρ' S->tN Dn S H'
    |.inr y=>OK y.1/\∀C dd aV H',X.mg y.1=some (.ref C)->aE H0 aV->RS X.K c aV H' ρ' S->XD X.K aV H' y.2 dd->C3 X ie ik rest Dn S C dd H'):=by
 intro aA s S H Dn I ⟨c,H0,J,ds,ρ',r,R,h,i,q⟩;refine Z3 (wpAny_Try_except (Z3 (wpAny_Expr_any (yd (co0 hf G hr ha hg ai he aj I R h i) (λ v a z=>?_) λ e a z=>?_) I.quiet al)))
 .obtain⟨⟨d,rfl⟩,aV,H',b,j,f⟩:=z;exact Zj (Zj (hs aA a S H' Dn b (q aV H' j f)))
 .obtain⟨y,rfl,z⟩:=z;exact PV ae aa hN ah Y le lk am hW ac Z af (λ C m=>ag y.1 C m q.1) ak q.2 z
end
theorem Xl{K:Frag}(h:mroIn K c v=some b):(clsIn K c).isSome=true:=by
 unfold mroIn at h;cases e:clsIn K c with
 |none=>rw[e]at h;cases h
 |some d=>rfl
def Ha(H:Hp):jW->Prop
 |none=>True
 |some dx=>∃fs,H dx=some (.xd fs)
theorem V0(I:aI (mG X a (dY (.ref C) vs dd)) aA S H s)(t:Ha H dd):∃od,InstAt s.heap a (dY (.ref C) vs dd) C od:=by
 have q:=(I.pin (a,dY (.ref C) vs dd) (qg)).1;cases dd with
 |none=>exact⟨none,q,rfl,rfl,trivial⟩
 |some dx=>
  obtain⟨fs,e⟩:=t;obtain⟨Y,⟨o,_,_,O,_⟩,_⟩:=(show bO _ _ H s.heap dx (.xd fs)from I.hok dx _ e);exact⟨some o,q,rfl,rfl,O⟩
theorem u_7(f:XC X.K C)(O:∀w,aX v w→w=u)(Y:kitOne X.K (.ref C) u=some b):bV (mG X a (dY (.ref C) vs dd)) (.builtin "isinstance") (λ xs H Q=>xs=[.ref a,v]∧Ha H dd∧Q (.b b) H):=by
 intro aA s S H xs us Q I r h;obtain⟨rfl,xt,q⟩:=h;obtain⟨g,i,rfl,Z,d⟩:=tw r;obtain rfl:g=.ref a:=Z;obtain rfl:=O i d;obtain⟨j,c⟩:=V0 I xt;exact kia_one f.kitx I.kIn c Y (λ z=>nomatch z) λ e=>⟨.b b,H,I.tok e,rfl,q⟩
theorem G9{D:Addr}(q:Y.mg x=some (.ref D))(O:Gl Y x:=by rfl)(hd:dJ x:=by decide):PE Y (.Name x p) (tC (.ref D)):=λ aA s S H Q I h=>nO I O q ⟨.ref D,H,I,rfl,h⟩ hd
end Fx
namespace Fx
open PySem
def MB(G:FX):RX->Option RX
 |.ok (.nx J)=>G J
 |.ok (.ct J)=>G J
 |.ok (.bk J)=>some (.ok (.nx J))
 |z=>some z
def h8(g:D->En->Option En)(B:FX):aG->FX
 |[],J=>some (.ok (.nx J))
 |d::r,J=>aF (g d J) λ q=>aF (B q) λ z=>MB (h8 g B r) z
theorem Ro(g:D->En->Option En)(B:FX)(J:En):h8 g B [] J=some (.ok (.nx J)):=rfl
theorem BG(g:D->En->Option En)(B:FX)(d:D)(r:aG)(J:En):h8 g B (d::r) J=aF (g d J) λ q=>aF (B q) λ z=>MB (h8 g B r) z:=rfl
open PySem.W PySem.Spec PyProof.Rows L2
def zV(X:Cx)(E:XK)(e:Value)(s':Shared):Prop:=∃S H1 a C dd,e=.ref a/\aI X [] S H1 s'/\H1 a=none/\X.s₀.heap.get? a=none/\((∃vs,s'.heap.get? a=some (dY (.ref C) vs dd)/\vs[1]?=some .none)\/∃T q,(q=.none\/q=rawInt X.v.locals)/\H1 T=none/\X.s₀.heap.get? T=none/\iM s'.heap a T C dd q)/\E (.ref C) dd H1
theorem wy(Z:X.pn=[])(I:aI X [] S H s)(q:s.heap.get? a=some (dY c vs dd))(h:H a=none)(n:X.s₀.heap.get? a=none):ro X [] H a:=by
 refine⟨h,λ z=>?_,.inr n,λ x Y e z=>?_,λ p m=>?_⟩
 .obtain⟨m,⟨o,es,b,O,d,_⟩,_⟩:=I.loc;rw[<-z,q]at O;cases O;cases d
 .obtain⟨v,o,O,d⟩:=I.cell x Y e;rw[z,q]at O;cases O;cases d
 .rw[Z]at m;cases m
theorem V2(Z:X.stack=X.v::X.outer)(Y:X.v.frame=some X.v.locals)(hx:X.ex=[])(hp:X.pn=[]):PassesOwn (model X.p X.w) X.A X.v (zV X E):=by
 rintro e s' ⟨S,h,a,C,dd,rfl,I,i,k,x,q⟩;have fr:=I.ok.frames;rw[Z]at fr;have st:=I.stack;rw[Z]at st;have r:∀b,s'.heap.get? b=none->X.s₀.heap.get? b=none:=λ b z=>by
  cases w:X.s₀.heap.get? b with
  |none=>rfl
  |some o=>
   obtain⟨F,s⟩:=I.base.there b o w (by rw[hx];intro y;cases y);rw[z]at s;cases s
 have l:∀(h':Heap)(T:Addr),aI X [] S h {s' with heap:=h'}->h T=none->X.s₀.heap.get? T=none->iM h' a T C dd (rawInt X.v.locals)->cameBackBy (model X.p X.w) X.A X.v (zV X E) (.ref a) {s' with heap:=h'}:=λ h' T m f nT O=>by
  unfold cameBackBy;rw[Y];refine W9 O λ D sb t=>⟨S,h,a,C,dd,rfl,?_,i,k,.inr ⟨T,_,.inr rfl,f,nT,t⟩,q⟩
  obtain⟨_,_,B,j,_⟩:=id O;exact qT (es:=[T]) m (Aw.of λ b o n z=>(sb.2 b (by simpa using n)).trans z) (by simpa using wy hp m j f nT)
 rcases x with⟨vs,g,v⟩|⟨T,_,rfl|rfl,f,nT,O⟩
 .refine F5 fr st Y g v λ h' T c z O=>?_;have d:=jb z;rw[<-Z]at c;exact l h' T (qT I c (by simpa using wy hp I g i k)) (yX I.hok d) (r T d) O
 .obtain⟨_,⟨vs,g,_⟩,B,j,_⟩:=id O;refine zY fr st Y O λ h' p c z u=>?_;have d:=jb z;rw[<-Z]at c;exact l h' p (qT I c (by simpa using⟨wy hp I g i k,wy hp I j f nT⟩)) (yX I.hok d) (r p d) u
 .exact G_ Y O (l s'.heap T I f nT O)
section
variable{K:Frag}
abbrev rL(P:Program)(w:World)(K:Frag)(mg:Str->Option Value)(base:Heap)(N:aP)(qual:Str)(scope:Scope)(f:Addr)(cd:Value)(A:Around)(outer:hO)(s:Shared)(H:Hp)(E:XK):Cx:=
 (ig (iL P w) P w K mg base N qual scope f cd A outer s H E).wish (zV (ig (iL P w) P w K mg base N qual scope f cd A outer s H E) E)
theorem UQ:PassesOwn (model P w) (rL P w K mg base N qual scope f cd A outer s H E).A (rL P w K mg base N qual scope f cd A outer s H E).v (rL P w K mg base N qual scope f cd A outer s H E).xe:=
 V2 rfl rfl rfl rfl
theorem Ju:BF (rL P w K mg base N qual scope f cd A outer s H E) E:=λ aA S a Z e C dd vs I Y c O b q=>⟨S,a,e,C,dd,rfl,(I.pins_of (pins':=[]) λ p z=>nomatch z).unwish,Y,c,.inl ⟨vs,O,b⟩,q⟩
theorem VY(h:eE (rL P w K mg base N qual scope f cd A outer s H E) sts t):eE (ig (iL P w) P w K mg base N qual scope f cd A outer s H E) sts t:=λ aA d S b D I hw=>
 yd (h aA d S b D (I.wish _) hw) (λ _ _ q=>q.unwish) λ e s' O=>by
  obtain⟨S,b,a,C,dd,Y,I,Z,c,g,q⟩:=O;subst Y;exact PZ I Z c g q
end
theorem W5{K:Frag}{st:Stmt}(F:kb K x qual st f fd)(σ:aJ N ps (b_ st))(hn:ps.length=n)(O:N.length=n+m)(Y:∀(q:Value)(A:Around)(outer:hO)(s:Shared)(H:Hp)(E:XK),cm k (A.deeper (envOfC qual (b_ st) s.heap.n f q))->XX (rL P w K mg base N qual (b_ st) f q A outer s H E) E (iG st) B):da P w K mg base (iL P w) (k+1) f fd ps (yH K mg (rO n m B)):=W6 F σ hn O λ q A outer s H E Z=>VY (Y q A outer s H E Z)
section
variable{X:Cx}{E:XK}{A:FA}{B:FX}{F:FE}{k:Nat}{x:Str}{g:aG->Option (D⊕XV)}{e0:Expr}{es:eH}{p pos p6:Pos}
theorem RY:wu (iL X.p X.w) X E0:=by intro _ _ _ _ _ _ _ h;obtain⟨_,_,_,_,_,_,_,_,_,_,_,_,_,_,_,q⟩:=h;exact q.elim
end
open Builtin.ObjectAttr
def pb:cf->Bool
 |[]=>false
 |v::r=>v::r==bmV||match v with
  |.ref _=>pb r
  |_=>false
theorem bp1(h:pb (v::r)=true):v::r=bmV\/∃c,v=.ref c/\pb r=true:=by
 rcases Bool.or_eq_true_iff.mp h with h|h
 .grind
 .grind
theorem Io(self:Value):∀{l:cf},pb l=true→refuseLoop self "__setattr__" l=pure ()∧l.contains (.type "object")=true
 |[],e=>nomatch e
 |v::r,e=>by
  rcases bp1 e with h|⟨c,rfl,h⟩
  .rw[h];exact⟨PySem.F.store_ValueError.passes self,by decide⟩
  .obtain⟨a,b⟩:=Io self h;exact⟨(refuseLoop_ref ..).trans a,by grind⟩
section
variable{K:Frag}
structure nU(K:Frag)(C:Addr)(name:Str):Prop where
 sa:findIn K (.ref C) "__setattr__"=some (some (.builtin "object.__setattr__"))
 na:findIn K (.ref C) name=some none
 cl:∃cd,clsIn K C=some cd/\pb cd.mro=true/\cd.hasDict=true
theorem Pc(X:K.In s.heap)(f:nU K C name)(Z:s.heap.get? e=some (dY (.ref C) vs))(h:∀h' dx tk,dx=s.heap.n->h'.get? e=some (dY (.ref C) vs (some dx))->h'.Ns1 dx (λ y=>if y=name then some v else none)->(∀b o,b≠e->s.heap.get? b=some o->h'.get? b=some o)->dx≠e->Q () {s with heap:=h',toks:=tk}):bU prog w A (setAttr (.ref e) name v) Q E s:=by
 obtain⟨O,g,d,t,os⟩:=s;have I:InstAt O e (dY (.ref C) vs) C none:=⟨Z,rfl,rfl,trivial⟩;obtain⟨c,l,j,hd⟩:=f.cl;obtain⟨G,p2⟩:=Io (.ref e) j;have D:c.mro.isEmpty=false:=by
  cases z:c.mro with
  |nil=>rw[z]at j;cases j
  |cons _ _=>rfl
 have Y:=PySem.F.store_object;have a:=I.type (M:=model prog w);have k:=looks_clsIn (M:=model prog w) X l;have sub:Looks (model prog w) O (isInstance (.ref e) (.type "object")) true:=a.andThen (looks_mroIn X (by unfold mroIn;rw[l,Option.bind_some,D,p2];rfl));have B:Looks (model prog w) O (mroOf (.ref C)) c.mro:=k.andThen .now;have p:=looks_findIn (M:=model prog w) X f.na;refine set_plain X I f.sa ?_;refine Ze Y.slot.plain Y.entry (@check_slot (model prog w) _ _ ⟨O,g,d,t+1,os⟩ "object.__setattr__" "object" "__setattr__" (.ref e) [.str name t,v] [] _ Y.kind Y.split sub (Y.args (.ref e) (.str name t) v) ?_);rw[osa_eq,refuse_eq];refine qb (qb (a.at (qb (B.at ?_))));rw[G];refine qc (qb (a.at (qb (p.at (qb (qc ?_))))));refine qb (qc (qb (qb (wpAny_loadPart Z (qb (k.at ?_))))));rw[hd];have big:=qv (qm Z);have at1:=qf {cls:=.type "dict",data:=.dict #[]} Z;refine qb (wpAny_alloc' (qb (wpAny_update' at1 (qc ?_))));generalize i:(O.push {cls:=.type "dict",data:=.dict #[]}).update e (λ o=>{o with dict:=some O.n})=U;have r:U.get? O.n=some {cls:=.type "dict",data:=.dict #[]}:=by rw[<-i];exact(Heap.get?_update_ne _ _ _ _ big.symm).trans (Heap.get?_push_at rfl rfl)
 have u:U.get? e=some (dY (.ref C) vs (some O.n)):=by rw[<-i];exact ji _ at1 rfl
 have x:∀b o,b≠e->O.get? b=some o->U.get? b=some o:=λ b o n q=>by
  rw[<-i];exact(Heap.get?_update_ne _ _ _ _ n).trans (qf _ q)
 have nd:U.Ns O.n (λ _=>none):=⟨_,#[],_,r,rfl,λ _ z=>absurd z aQ,λ _=>rfl⟩;refine qb (qc (qb (wpAny_nsSet1 (Heap.Ns1.of_empty nd) λ h' m sb=>?_)));obtain⟨P,es,N,H,ρ,L⟩:=m.count (Within.cons name v Within.nil);refine qb (wpAny_lookBehind H ?_ (qc ?_))
 .rw[ρ];exact pastItsLine_dict (zw L (show 1<=sizeLine+1 by decide))
 .exact h h' O.n _ rfl ((sb.2 e big).trans u) m (λ b o n q=>(sb.2 b (qv (qm q))).trans (x b o n q)) big.symm
end
noncomputable abbrev kK(e:Addr)(o:Obj):HO:=.ext λ h=>h.get? e=some o
theorem Il(q:h.get? e=some o):bO P w H h e (kK e o):=⟨q,⟨o,q⟩,λ _ _ a k=>k o a⟩
def UD(K:Frag)(ta tv:TE)(f:Str):TS:=λ Dn S H=>tv S H λ y H1=>ta S H1 λ x H2=>∃e C vs,x=.ref e/\nU K C f/\H2 e=some (kK e (dY (.ref C) vs))/\∀dx,H2 dx=none->dx≠e->Dn.nx S (upd (upd H2 dx (.xd [(f,y)])) e (kK e (dY (.ref C) vs (some dx))))
theorem RM(ha:PE X o ta)(hv:PE X value tv)(hs:rP X value (some (.Attribute o f pos')) pos.line false):PS X (.Assign [.Attribute o f pos'] value pos) (UD X.K ta tv f):=by
 intro aA s S H D I h;refine plainObj_wpAny_Assign_Attribute (bQ (hv aA s S H _ I h) λ u G=>dD λ y j k F q=>bQ (ha aA G S j _ k q) λ w O=>dD λ x a Y E A=>?_) hs;obtain⟨e,C,vs,rfl,c,Z,B⟩:=A;obtain rfl:w=.ref e:=E;obtain⟨q,_,_⟩:=(show bO _ _ a O.heap e (kK e (dY (.ref C) vs))from Y.hok e _ Z);refine Pc Y.kIn c q λ h' dx ρ p d t v g=>?_;subst p;have fr:=Y.fresh;obtain⟨i,es,r,k1,k2⟩:=id t;have l:aI X aA S (upd a O.heap.objs.size (.xd [(f,y)])) {O with heap:=O.heap.push i}:=by
  refine Y.laid (λ b u z=>qf _ z) (qj _) ⟨_,⟨i,es,r,qk _ ?_,k2⟩,λ n=>?_⟩
  .exact(Heap.get?_some_iff.mp k1).2
  .by_cases z:n=f
   .subst z;simpa [List.lookup,d7]using F
   .simp[List.lookup,beq_false_of_ne z,z,d7]
 have m:=l.write (t':=ρ) (by rw[bX g.symm,Z];trivial) (.inl rfl) (λ b u n z=>?_) ⟨_,d⟩ (Il d)
 .exact⟨S,_,m,B _ fr g⟩
 .rcases Yl z with⟨rfl,rfl⟩|z
  .exact k1
  .exact v b u n z
end Fx
namespace Fx
open PySem PySem.W PySem.Spec PyProof.Rows L2
section
variable{prog:Program}{w:World}{A:Around}{E:dw}{h:Heap}{g:Array GenState}{d:Drawn}{t:Nat}{os:OsState}
variable{nm qn:Str}{C N fI:Addr}{bs bm:cf}{hd:Bool}{sn:aP}{sub:cf}{ab:Bool}{col:Option Bool}{dd:jW}{k0 k1 k2 k3 k5:Option Value}{mN:Str->Option Value}{oI:Obj}{us:cf}
abbrev rK(nm qn:Str)(C N:Addr)(bs bm:cf)(hd:Bool)(sn:aP)(sub:cf)(ab:Bool)(col:Option Bool)(dd:jW)(k0 k1 k2 k3 k5:Option Value):Obj:=excClassObj nm qn C N bs bm hd sn sub ab col dd k0 k1 k2 k3 k5 "ValueError.__new__"
theorem Wa(T:OwnTail h bmV bm)(Z:h.get? C=some (rK nm qn C N bs bm hd sn sub ab col dd k0 k1 k2 k3 k5))(nN:h.Ns N mN)(hi:mN "__init__"=some (.ref fI))(gI:h.get? fI=some oI)(cI:oI.cls=.type "function")(hz:us.length≤sizeLine)(go:∀h' e,h.n<=e->Heap.MadeExcOf h h' e (.ref C) us->wpAny (model prog w) A (call (.ref fI) (.ref e::us)) (λ r s'=>r=.none/\Q (.done (.ret (.ref e))) s') E ⟨h',g,d,t,os⟩):wpAny (model prog w) A (Builtin.«type.__call__» ⟨.ref C::us,[]⟩) Q E ⟨h,g,d,t,os⟩:=by
 have B:=F.excBase_ValueError;have Y:bmV.contains (.type "ValueError")=true:=aH
 repeat (first
  |with_reducible refine Qw Z ?_
  |with_reducible refine wpAny_madeBy_exc Z ?_
  |wp_step)
 refine codeAny_call_builtin_code (Code.quiet_builtin _ B.quiet) (wpAny_check_new_subU B Y T Z ?_);refine codeAny_exc_new_subU B Y B T Z ?_ hz;have O:∀b o,h.get? b=some o→((h.push {cls:=.type "tuple",data:=.seq us.toArray}).push {cls:=.ref C,data:=.fields #[.ref h.n,.none,.none,.none,.bool false,.none]}).get? b=some o:=λ b o q=>qf _ (qf _ q);have c:((h.push {cls:=.type "tuple",data:=.seq us.toArray}).push {cls:=.ref C,data:=.fields #[.ref h.n,.none,.none,.none,.bool false,.none]}).get? (h.n+1)=some {cls:=.ref C,data:=.fields #[.ref h.n,.none,.none,.none,.bool false,.none]}:=Heap.get?_push_at (by rw[Qa]) rfl;have i:((h.push {cls:=.type "tuple",data:=.seq us.toArray}).push {cls:=.ref C,data:=.fields #[.ref h.n,.none,.none,.none,.bool false,.none]}).get? h.n=some {cls:=.type "tuple",data:=.seq us.toArray}:=qf _ (qk _ rfl);generalize (h.push {cls:=.type "tuple",data:=.seq us.toArray}).push {cls:=.ref C,data:=.fields #[.ref h.n,.none,.none,.none,.bool false,.none]}=U at*;have a:=O _ _ Z;have j:U.Ns N mN:=let ⟨o,es,ep,q,r⟩:=nN;⟨o,es,ep,O _ _ q,r⟩;have f:=T.keeps O;have self:(Value.ref C::bm).contains (.ref C)=true:=aQ
 repeat (first
  |with_reducible refine Qw c ?_
  |(with_reducible refine wpAny_isSubtype_exc a ?_;rw[self])
  |wp_step)
 refine wpAny_typeLookup_tail a j f B.mroIs B.init.lookup ?_;rw[hi];refine yo (qb ?_);refine qb (Z8 ⟨_,O _ _ gI,cI⟩ ?_);rw[if_pos aH];refine qc (qb (yd (go U (h.n+1) (Qu _) ⟨O,jb (Qu _),h.n,c,jb (qj _),i⟩) (λ r s' z=>?_) λ _ _ z=>z));obtain⟨rfl,z⟩:=z;wp_walk;exact z
theorem U7(T:OwnTail h bmV bm)(q:h.get? C=some (rK nm qn C N bs bm hd sn sub ab col dd k0 k1 k2 k3 k5))(O:h.Ns N mN)(hi:mN "__init__"=some (.ref fI))(Z:h.get? fI=some oI)(cI:oI.cls=.type "function")(hz:us.length≤sizeLine)(Y:∀h' e,h.n≤e→Heap.MadeExcOf h h' e (.ref C) us→wpAny (model prog w) (A.under (.builtin "type.__call__" ⟨.ref C::us,[]⟩)) (call (.ref fI) (.ref e::us)) (λ r s'=>r=.none∧Q (.ref e) s') E ⟨h',g,d,t,os⟩):bU prog w A (call (.ref C) us) Q E ⟨h,g,d,t,os⟩:=by
 have a:=tc_lookup;have b:=tc_bind (.ref C);have ty:(⟨h,g,d,t,os⟩:Shared).TypeIs (.ref C) "type":=⟨_,q,rfl⟩;refine Q9 (Yb ?_)
 repeat (any_goals (first
  |assumption
  |with_reducible refine Qw q ?_
  |wp_step))
 refine⟨rfl,codeAny_call_builtin_at (Code.quiet_builtin _ aW) entry_typeCall (wpAny_check_type_call_sub q (Wa T q O hi Z cI hz λ h' e z m=>?_))⟩;exact Y h' e z m
end
section
variable{sub:cf}
theorem VF(hb:bm.contains (.type "BaseException")=true)(hh:A.handled=none)(h:bU prog w A x (λ v O=>∃e t od,v=.ref e/\O.heap.get? C=some (rK nm qn C N bs bm hd sn sub ab col dd k0 k1 k2 k3 k5)/\O.heap.get? e=some (dY (.ref C) #[.ref t,.none,.none,.none,.bool false,.none] od)/\E (.ref e) O) E s):bU prog w A (raiseStmt env (some x) none) Q E s:=by
 have a:(Value.ref C::bm).contains (.type "BaseException")=true:=by grind
 refine qb (yd h (λ v O z=>?_) λ _ _ z=>z);obtain⟨e,t,od,rfl,Z,Y,q⟩:=z;obtain⟨b,g,d,c,os⟩:=O;have Y:b.get? e=some {cls:=.ref C,dict:=od,data:=.fields #[.ref t,.none,.none,.none,.bool false,.none],slots:=#[]}:=Y
 repeat (first
  |with_reducible refine Qw Y ?_
  |with_reducible refine Qw Z ?_
  |(with_reducible refine wpAny_isSubtype_exc Z ?_;rw[a])
  |wp_step)
 exact wpAny_raiseNew_none hh q
theorem Wf(hb:bm.contains (.type "BaseException")=true)(hh:A.handled=none)(Z:(backTo cpos (starEach args env)).any (·.1)=false)(h:bU prog w A (eval (.Name x np) env) (λ f s1=>f=.ref C/\bU prog w A (evalArgs (.ref C) true (backTo cpos (starEach args env)) [])
   (λ a O=>a.kw=[]∧a.pos.length≤sizeLine∧O.heap.get? C=some (rK nm qn C N bs bm hd sn sub ab col dd k0 k1 k2 k3 k5)∧O.heap.Ns N mN∧mN "__init__"=some (.ref fI)∧O.heap.get? fI=some oI∧oI.cls=.type "function"∧OwnTail O.heap bmV bm∧∀h' e,O.heap.objs.size≤e→Heap.MadeExcOf O.heap h' e (.ref C) a.pos→wpAny (model prog w) (A.under (.builtin "type.__call__" ⟨.ref C::a.pos,[]⟩)) (call (.ref fI) (.ref e::a.pos)) (λ r Y=>r=.none∧Y.heap.get? C=some (rK nm qn C N bs bm hd sn sub ab col dd k0 k1 k2 k3 k5)∧(∃t od,Y.heap.get? e=some (dY (.ref C) #[.ref t,.none,.none,.none,.bool false,.none] od))/\E (.ref e) Y) E {O with heap:=h'}) E s1) E s):bU prog w A (exec (.Raise (some (.Call (.Name x np) args [] cpos)) none pos) env) Q E s:=by
 rw[arm_exec_Raise];refine qb (Zc (VF hb hh (C:=C) (nm:=nm) (qn:=qn) (N:=N) (bs:=bs) (hd:=hd) (sn:=sn) (sub:=sub) (ab:=ab) (col:=col) (dd:=dd) (k0:=k0) (k1:=k1) (k2:=k2) (k3:=k3) (k5:=k5) ?_));refine qb (yd (wpAny_Call_ofName (yd h (λ f s1 z=>?_) λ _ _ z=>z)) (λ v Y z=>qb (Zc (qc z))) λ _ _ z=>z);obtain⟨rfl,z⟩:=z;refine qb (yo (yd z (λ a O y=>qb (Zc ?_)) λ _ _ z=>z));obtain⟨us,kw⟩:=a;obtain⟨rfl,l,b,n,hi,i,cI,T,k⟩:=y;obtain⟨o,g,d,p,os⟩:=O;simp only[Z];refine qb (wpAny_keeperOf_exc b (qb (U7 T b n hi i cI l λ h' e y m=>yd (k h' e y m) (λ r Y y=>⟨y.1,?_⟩) λ _ _ z=>z)));obtain⟨_,c,⟨t,od,j⟩,q⟩:=y;exact qb (yo (wpAny_point (qc ⟨e,t,od,rfl,c,j,q⟩)))
end
def rn(K:Frag)(C fI:Addr):Bool:=
 match K.lookup C with
 |some ⟨.type "type",_,.cls c,sl⟩=>
  (match c.mro,sl.toList with
  |.ref C'::bm,[_,_,_,_,some (.builtin n),_]=>C'==C&&n=="ValueError.__new__"&&!c.hasDel&&tailIn K bmV bm&&nsOkIn K c.ns&&nsIn K c.ns "__init__"==some (some (.ref fI))&&(K.lookup fI).any λ o=>o.cls==.type "function"
  |_,_=>false)
 |_=>false
theorem UW{K:Frag}(X:K.In h)(G:h.Ns N m)(e:nsIn K N x=some (some v)):m x=some v:=by
 obtain⟨o,es,a,Y,hd,_,Z⟩:=G;unfold nsIn at e;split at e
 case h_2=>cases e
 case h_1 q=>
  have z:=X _ _ q;rw[Y]at z;cases z;cases hd;split at e
  .rename_i O;cases e;rw[<-Z];unfold nsFind findBy;rw[<-Array.find?_toList,O];rfl
  .split at e<;>cases e
theorem P8{K:Frag}(X:K.In h)(x:rn K C fI=true):∃bm N nm q bs hd sn sub ab col dd k0 k1 k2 k3 k5 m oI,h.get? C=some (rK nm q C N bs bm hd sn sub ab col dd k0 k1 k2 k3 k5)∧h.Ns N m∧m "__init__"=some (.ref fI)∧OwnTail h bmV bm∧h.get? fI=some oI∧oI.cls=.type "function":=by
 revert x;unfold rn;intro x;split at x
 case h_2=>cases x
 case h_1 dd c Z l=>
  split at x
  case h_2=>cases x
  case h_1 C' bm k0 k1 k2 k3 n k5 e1 e2=>
   simp only[zm,beq_iff_eq,Q3]at x;obtain⟨⟨⟨⟨⟨⟨t,x2⟩,u⟩,v⟩,b⟩,w⟩,y⟩:=x;have O:=X C _ l;obtain⟨d,e,A,a,f,g,i,j,k,Y,z⟩:=c;obtain⟨Z⟩:=Z;cases e1;cases t;cases x2;cases u;cases(show Z=_ from e2);have f1:∃oI,h.get? fI=some oI∧oI.cls=.type "function":=by obtain⟨o,r,s⟩:=any_some y;exact⟨o,X fI o r,beq_iff_eq.mp s⟩
   obtain⟨oI,f1,p⟩:=f1;exact⟨bm,a,d,f,e,g,i,j,k,Y,dd,k0,k1,k2,k3,k5,h.nsMap a,oI,O,.of_isNs (isNs_of_in X b),UW X (.of_isNs (isNs_of_in X b)) w,tail_of_in X v,f1,p⟩
def pL(H:Hp)(e:Addr):Hp:=λ b=>if b=e then none else H b
theorem A6(h:b≠e):pL H e b=H b:=if_neg h
theorem Jh:pL H e e=none:=if_pos rfl
section
variable{X:Cx}{aA:cB}{S:L2.St}{H:Hp}{s:Shared}
theorem VZ(I:aI X aA S H s)(he:H e=some (.ext Z)):aI X aA S (pL H e) s:=by
 have un:=I.base;have Y:∀b,H b=none->pL H e b=none:=λ b z=>by grind[pL]
 have a:∀b u,H b=some u->(∀h,u≠.ext h)->pL H e b=some u:=λ b u z n=>by
  rw[A6 λ y=>by grind];exact z
 refine⟨I.ok,I.os,I.bare,⟨un.keep,un.slot,λ b o q n x=>Y b (un.free b o q n x),un.there,λ b xs q=>a b _ (un.tups b xs q) (λ _ z=>nomatch z),λ b o u q=>a b _ (un.frzs b o u q) (λ _ z=>nomatch z),λ b ps q=>?_⟩,I.loc,I.cell,Y _ I.free,λ x c q=>Y c (I.freeC x c q),λ p d=>?_,λ b u q=>?_,I.len⟩
 .obtain⟨O,g⟩:=un.tbls b ps q;exact⟨O,a b _ g λ _ z=>nomatch z⟩
 .obtain⟨q,n,z⟩:=I.pin p d;exact⟨q,Y _ n,z⟩
 .have f:b≠e:=λ y=>by subst y;rw[Jh]at q;cases q
  rw[A6 f]at q;exact(I.hok b u q).stay (λ _ _ _ z=>z) (λ c z=>a c _ z λ _ y=>nomatch y) λ c xs z=>a c _ z λ _ y=>nomatch y
end
def yG(K:Frag)(f:Str):Sp:=λ vs H Q _=>∃e v C us,vs=[.ref e,v]/\nU K C f/\H e=some (kK e (dY (.ref C) us))/\∀dx,H dx=none->dx≠e->Q .n (upd (upd H dx (.xd [(f,v)])) e (kK e (dY (.ref C) us (some dx))))
theorem V1{K:Frag}{st:Stmt}(Fu:kb K x qual st fI fd)(σ:aJ ["self",f] ["self",f] (b_ st))(hn:("self":Str)≠f)(hb:iG st=[.Assign [.Attribute (.Name "self" p1) f p2] (.Name f p3) pos])(hs:∀(O:Value)(A:Around)(outer:hO)(s:Shared)(H:Hp)(E:XK),swapsWith (.Name f p3) (some (.Attribute (.Name "self" p1) f p2)) pos.line (ig CX P w K mg base ["self",f] qual (b_ st) fI O A outer s H E).v=pure false)(h1:dJ f)(h2:jZ f):da P w K mg base CX 1 fI fd ["self",f] (yG K f):=by
 obtain⟨o,p,kV,g,r,j,O,k,d,rfl,lk,Z⟩:=Fu.ex;refine CG lk Z σ (λ vs H Q E h=>?_) λ A outer s H vs Q E l h=>?_
 .obtain⟨e,v,C,us,rfl,_⟩:=h;rfl
 .obtain⟨e,v,C,us,rfl,c,a,q⟩:=h;rw[hb];have Y:∀y∈(["self",f]:aP),jR (ig CX P w K mg base ["self",f] qual (b_ st) fI O A outer s H E).v.scope y:=λ y b=>(σ.par y b).imp id .inl;refine⟨_,r8 (RM (lI (i:=0) rfl (Y _ aQ) aH aH) (lI (i:=1) rfl (Y _ aQ) h1 h2) (hs ..)),?_⟩;exact⟨v,rfl,.ref e,rfl,e,C,us,rfl,c,a,λ dx n m=>q dx n m⟩
def JO(P:V->Hp->Prop):bY->Hp->Prop
 |[v],H=>P v H
 |_,_=>False
theorem VO:∀{vs:bY},JO P vs H->∃v,vs=[v]/\P v H
 |[v],h=>⟨v,rfl,h⟩
 |[],h=>h.elim
 |_::_::_,h=>h.elim
theorem TB(hR:BF X E)(hc:X.c=true)(ac:X.ex=[])(hm:X.mg x=some (.ref C))(hx:rn X.K C fI=true)(h1:nU X.K C f)(Fk:da X.p X.w X.K X.mg X.base (iL X.p X.w) k fI fd ["self",f] (yG X.K f))(hr:cm (k+1) X.A)(Z:dS X.K fd ["self",f] [])(ha:PE X a ta)(hg:Gl X x)(hd:dJ x)(hs:gP X a):PS X (.Raise (some (.Call (.Name x np) [a] [] cpos)) none pos) (λ _ S H=>ta S H λ v H1=>∀dx,H1 dx=none->E (.ref C) (some dx) (upd H1 dx (.xd [(f,v)]))):=by
 intro aA s S H D I q;obtain⟨bm,N,nm,qn,bs,U,sn,sub,ab,col,dd,k0,k1,k2,k3,k5,m,oI,p,L,M,t,P,Q⟩:=P8 I.mod.kin hx;have F:=hs▸iT ha k7 hs cpos aA s S H (JO λ v H'=>∀dx,H' dx=none->E (.ref C) (some dx) (upd H' dx (.xd [(f,v)]))) I q;refine Wf (nm:=nm) (qn:=qn) (N:=N) (bs:=bs) (hd:=U) (sn:=sn) (sub:=sub) (ab:=ab) (col:=col) (dd:=dd) (k0:=k0) (k1:=k1) (k2:=k2) (k3:=k3) (k5:=k5) (fI:=fI) (oI:=oI) (mN:=m) (t.hasType aH) (I.ok.hd hc) (by rw[hs];rfl) (nO I hg hm ⟨rfl,hs▸Ym (bQ F λ us s2 z=>?_)⟩ hd);obtain⟨vs,c,Y,r,z⟩:=z;obtain⟨v,rfl,W⟩:=VO z;obtain⟨u,rfl,ru⟩:=gr r;refine⟨rfl,(show 1<=sizeLine by decide),Y.bk C _ p,L.keeps Y.bk,M,Y.bk fI _ P,Q,t.keeps Y.bk,λ h' e z mk=>?_⟩;obtain⟨O,T,_,_⟩:=mk.there;have ρ:=Y.laid (t':=s2.toks) mk.keeps z (Il T);have e0:=Y.hok.fresh z;have r2:aM [V.ref e,v] [Value.ref e,u]:=.cons rfl (.cons ru .nil);have sp:yG X.K f [.ref e,v] (upd c e (kK e (dY (.ref C) #[.ref O,.none,.none,.none,.bool false,.none]))) (λ y H'=>y=.n/\∃dx,c dx=none/\dx≠e/\H'=upd (upd (upd c e (kK e (dY (.ref C) #[.ref O,.none,.none,.none,.bool false,.none]))) dx (.xd [(f,v)])) e (kK e (dY (.ref C) #[.ref O,.none,.none,.none,.bool false,.none] (some dx)))) E0:=
  ⟨e,v,C,_,rfl,h1,cM,λ dx n g=>⟨rfl,dx,by rwa [bX g]at n,g,rfl⟩⟩
 refine Q9 (Qj (Fk.run _ X.stack _ _ ⟨[.ref e,u],[]⟩ [.ref e,u] _ _ E0 (hr.make C [u] []) (ρ.env0.make C [u] []) (Z _ [.ref e,u] ρ.kIn rfl) r2 sp) λ rr s' d=>?_);cases rr with
 |error er=>exact RY aA S _ _ er s' ρ d
 |ok σ=>
  cases σ with
  |ret y=>
   obtain⟨y',H',j,rv,R,dx,G,g,i⟩:=ρ.after d;subst R i;obtain rfl:y=.none:=rv;have l:=(show bO _ _ _ s'.heap e (kK e _)from j.hok e _ cM).1;have h:=VZ j cM;have i:pL (upd (upd (upd c e (kK e (dY (.ref C) #[.ref O,.none,.none,.none,.bool false,.none]))) dx (.xd [(f,v)])) e (kK e (dY (.ref C) #[.ref O,.none,.none,.none,.bool false,.none] (some dx)))) e=upd c dx (.xd [(f,v)]):=by
    funext b;by_cases Z:b=e
    .subst Z;rw[Jh,bX g.symm,e0]
    .rw[A6 Z,bX Z];by_cases hd:b=dx
     .subst hd;rw[cM,cM]
     .rw[bX hd,bX hd,bX Z]
   rw[i]at h;refine⟨rfl,h.bk C _ p,⟨O,some dx,l⟩,hR aA S _ s' e C (some dx) _ h (by rw[bX g.symm];exact e0) ?_ l rfl (W dx G)⟩;cases w0:X.s₀.heap.get? e with
   |none=>rfl
   |some o=>
    obtain⟨o',B⟩:=Y.base.there e o w0 (by rw[ac];intro z;cases z);rw[jb z]at B;cases B
  |next=>exact False.elim d
  |brk=>exact False.elim d
  |cont=>exact False.elim d
end Fx
namespace Fx
open PySem
abbrev Ky:=List (eB)
mutual
noncomputable def fK:D->Ky
 |.int i=>[[i]]
 |.str s=>[s.cps.toList.map Int.ofNat]
 |.t xs=>Mx xs
 |_=>[]
noncomputable def Mx:aG->Ky
 |[]=>[]
 |d::r=>fK d++Mx r
end
noncomputable def r3:D->Bool
 |.t [.int _,.str _,.int _]=>true
 |_=>false
noncomputable def tW:D->Option D
 |.l xs=>some (.l xs.reverse)
 |_=>none
@[simp] theorem cH9(xs:aG):tW (.l xs)=some (.l xs.reverse):=yI rfl
noncomputable def two:D->Option (D×D)
 |.t [a,b]=>some (a,b)
 |_=>none
def dF(T:FT)(F:FE)(fr:En):aG->Option (aG)
 |[]=>some []
 |d::r=>aF (two d) λ q=>aF (T (.i q.1::.i q.2::fr)) λ p=>if p.1=true then aF (F p.2) λ z=>aF (dF T F fr r) λ t=>some (z.1::t)else dF T F fr r
theorem Sn(T:FT)(F:FE)(fr:En):dF T F fr []=some []:=rfl
theorem uD(T:FT)(F:FE)(fr:En)(d:D)(r:aG):dF T F fr (d::r)=aF (two d) λ q=>aF (T (.i q.1::.i q.2::fr)) λ p=>if p.1=true then aF (F p.2) λ z=>aF (dF T F fr r) λ t=>some (z.1::t)else dF T F fr r:=rfl
def eU(js:dr)(I:FE)(T:FT)(F:FE)(J:En):bK:=aF (I J) λ p=>aF (items p.1) λ xs=>aF (fj p.2 js) λ fr=>aF (dF T F fr xs) λ ys=>if xs.length<=sizeLine then some (.l ys,p.2)else none
def rM(kds:ew):D->Option D
 |.str k=>bE k kds
 |_=>none
def m5:Option Sl->Option (aG)
 |some (.o false (.l ds))=>some ds
 |_=>none
@[simp] theorem cE4(ds:aG):m5 (some (.o false (.l ds)))=some ds:=yI rfl
def lx(i:Nat)(J:En):Bool:=(J.set i .z).all jk
def Ei(J q:En)(o:fq):fq:=aF o λ p=>@ite _ (p.2=q) (C0 _ _) (some (p.1,J)) none
def zZ(i:Nat)(T:FT)(J:En)(o:Option (aG)):fq:=aF o λ ds=>if lx i J=true then Ei J (J.set i (.i (.l ds))) (T (J.set i (.i (.l ds))))else none
def eY(i:Nat)(T:FT)(J:En):fq:=zZ i T J (m5 J[i]?)
@[simp] theorem WH(i:Nat)(T:FT)(J:En):eY i T J=zZ i T J (m5 J[i]?):=yI rfl
@[simp] theorem Th(i:Nat)(T:FT)(J:En)(ds:aG):zZ i T J (some ds)=if lx i J=true then Ei J (J.set i (.i (.l ds))) (T (J.set i (.i (.l ds))))else none:=yI rfl
theorem FV(J q:En)(b:Bool):Ei J q (some (b,q))=some (b,J):=by exact if_pos rfl
noncomputable def wC:MO->Option D
 |.l ds=>some (.l ds)
 |_=>none
def C7(J:En)(o:Option MO):bK:=aF o λ m=>hP (wC m) J
def C_(g:aG->Option MO)(o:Option (aG×En)):bK:=aF o λ p=>C7 p.2 (g p.1)
def xN(g:aG->Option MO)(A:FA)(J:En):bK:=C_ g (A J)
def wa:D->D->Option D
 |.str x,.int n=>if 0<=n/\n<=1000/\x.length<=1000 then some (.str (Txt.mul x n))else none
 |_,_=>none
@[simp] theorem cN5:(∀ds,wC (.l ds)=some (.l ds))/\(∀g A J,xN g A J=C_ g (A J))/\(∀g ds J,C_ g (some (ds,J))=C7 J (g ds))/\(∀J m,C7 J (some m)=hP (wC m) J)/\(∀x n,wa (.str x) (.int n)=if 0<=n/\n<=1000/\x.length<=1000 then some (.str (Txt.mul x n))else none):=by and_intros<;>intros<;>rfl
noncomputable def kA:D->D->Option D
 |.str x,.str y=>if y.length≠0/\x.length<=100000 then some (.l ((Txt.split x y).map .str))else none
 |_,_=>none
@[simp] theorem IY(x y:Str):kA (.str x) (.str y)=if y.length≠0/\x.length<=100000 then some (.l ((Txt.split x y).map .str))else none:=yI rfl
noncomputable def wj:D->D->Option D
 |.str x,.str y=>some (.b (Txt.startswith x y))
 |_,_=>none
def Dm:eO->Option D
 |some n=>some (.int n)
 |none=>none
@[simp] theorem cu2:(∀x y,wj (.str x) (.str y)=some (.b (Txt.startswith x y)))/\(∀n,Dm (some n)=some (.int n)):=by and_intros<;>intros<;>rfl
def iH:aG->Option D
 |[.str x]=>if x.length<=640 then Dm (intText? x)else none
 |_=>none
@[simp] theorem A1(x:Str):iH [.str x]=if x.length<=640 then Dm (intText? x)else none:=yI rfl
def kO:aG->Option D
 |[.int n]=>if n.natAbs<10^100 then some (.str (cq (toString n)))else none
 |[.str x]=>some (.str x)
 |[.n]=>some (.str "None")
 |_=>none
@[simp] theorem cI3:(∀n,kO [.int n]=if n.natAbs<10^100 then some (.str (cq (toString n)))else none)/\(∀x,kO [.str x]=some (.str x))/\kO [.n]=some (.str "None"):=by and_intros<;>(intros;rfl)
mutual
noncomputable def nl:D->Bool
 |.l _=>false
 |.c _ _=>false
 |.opq=>false
 |.t xs=>oF xs
 |_=>true
noncomputable def oF:aG->Bool
 |[]=>true
 |d::r=>nl d&&oF r
end
def zF(J q:En)(o:bK):bK:=aF o λ p=>@ite _ (nl p.1=true/\p.2=q) (@instDecidableAnd _ _ _ (C0 _ _)) (some (p.1,J)) none
def Ab(i:Nat)(F:FE)(J:En)(o:Option (aG)):bK:=aF o λ ds=>if lx i J=true then zF J (J.set i (.i (.l ds))) (F (J.set i (.i (.l ds))))else none
def dO(i:Nat)(F:FE)(J:En):bK:=Ab i F J (m5 J[i]?)
@[simp] theorem U6(i:Nat)(F:FE)(J:En):dO i F J=Ab i F J (m5 J[i]?):=yI rfl
@[simp] theorem PF(i:Nat)(F:FE)(J:En)(ds:aG):Ab i F J (some ds)=if lx i J=true then zF J (J.set i (.i (.l ds))) (F (J.set i (.i (.l ds))))else none:=yI rfl
theorem PB(J q:En)(d:D)(h:nl d=true):zF J q (some (d,q))=some (d,J):=by exact if_pos ⟨h,rfl⟩
def DK(o:bK):Option (aG×En):=aF o λ p=>match p.1 with
 |.l ds=>some (ds,p.2)
 |_=>none
def qa(F:FE)(J:En):Option (aG×En):=DK (F J)
def xy(o:Option (aG×En)):Option MO:=aF o λ p=>some (.l p.1)
def x6(A:FA)(J:En):Option MO:=xy (A J)
def ZV(i:Nat)(J:En)(o:Option (aG)):c8:=aF o λ ds=>if ds.length=0 then none else some (.nx (J.set i (.o false (.l ds.dropLast))))
def Mq(i:Nat)(J:En):c8:=ZV i J (jH J[i]?)
def ZW(i:Nat)(J:En)(xs:aG)(o:Option (aG)):c8:=aF o λ ds=>if ds.length+xs.length<1000 then some (.nx (J.set i (.o false (.l (ds++xs)))))else none
def ZX(i:Nat)(o:Option (aG×En)):c8:=aF o λ p=>ZW i p.2 p.1 (jH p.2[i]?)
def ZY(i:Nat)(A:FA)(J:En)(o:Option (aG)):c8:=aF o λ _=>ZX i (A J)
def Mr(i:Nat)(A:FA)(J:En):c8:=ZY i A J (jH J[i]?)
noncomputable def xD:D->Option Int
 |.int k=>some k
 |_=>none
def Bn(xs:aG)(J:En)(o:eO):Option (aG×En):=aF o λ k=>if k<=1000/\-1000<=k/\xs.length<=1000 then some ((List.replicate k.toNat xs).flatten,J)else none
def Bo(xs:aG)(o:bK):Option (aG×En):=aF o λ p=>Bn xs p.2 (xD p.1)
def Bp(G:FE)(o:Option (aG×En)):Option (aG×En):=aF o λ p=>Bo p.1 (G p.2)
def wZ(A:FA)(G:FE)(J:En):Option (aG×En):=Bp G (A J)
def Dj(o:Option (aG×En)):bK:=aF o λ p=>some (.l p.1,p.2)
def uj(A:FA)(J:En):bK:=Dj (A J)
def jY:D->Option (aG)
 |.l xs=>some xs
 |_=>none
def wD(i:Nat)(J:En)(xs:aG)(o:Option (aG)):c8:=aF o λ ds=>if ds.length+xs.length<1000 then some (.nx (J.set i (.o false (.l (ds++xs)))))else none
def wF(i:Nat)(J:En)(o:Option (aG)):c8:=aF o λ xs=>wD i J xs (jH J[i]?)
def wG(i:Nat)(o:bK):c8:=aF o λ p=>wF i p.2 (jY p.1)
def wH(i:Nat)(F:FE)(J:En)(o:Option (aG)):c8:=aF o λ _=>wG i (F J)
def rg(i:Nat)(F:FE)(J:En):c8:=wH i F J (jH J[i]?)
noncomputable def fG:Nat->List D->List D
 |_,[]=>[]
 |k,d::r=>.t [.int (k:Int),d]::fG (k+1) r
def BI(g:D->En->Option En)(B:FS)(J:En)(o:Option (aG)):c8:=aF o λ xs=>dh g B (fG 0 xs) J
def BJ(g:D->En->Option En)(B:FS)(o:bK):c8:=aF o λ p=>BI g B p.2 (jY p.1)
def A_(g:D->En->Option En)(F:FE)(B:FS)(J:En):c8:=BJ g B (F J)
noncomputable def cF{α:Type}:List α->List α
 |[]=>[]
 |[a]=>[a]
 |a::_::r=>a::cF r
def n9(i:Nat):D->Option D
 |.t xs=>some (.t (cF (xs.drop i)))
 |_=>none
def qd(xs:aG):fA:=aF (mZ xs) λ ss=>if ss.length<1000 then some (.int ((g_ [] ss).length:Int))else none
def mz:aG->Option D
 |[.l xs]=>qd xs
 |[.t xs]=>qd xs
 |_=>none
def d5(xs ys:aG):aG:=(xs.zip ys).map λ p=>.t [p.1,p.2]
def v_:D->D->Option D
 |.l xs,.l ys=>if xs.length<=1000 then some (.l (d5 xs ys))else none
 |_,_=>none
def wA:D->D->Option D
 |.t xs,.t ys=>if xs.length<=1000 then some (.t (d5 xs ys))else none
 |_,_=>none
@[simp] theorem ch1:(∀F J,qa F J=DK (F J))/\(∀ds J,DK (some (.l ds,J))=some (ds,J))/\(∀A J,x6 A J=xy (A J))/\(∀ds J,xy (some (ds,J))=some (.l ds))/\(∀k,xD (.int k)=some k)/\(∀A G J,wZ A G J=Bp G (A J))/\(∀G xs J,Bp G (some (xs,J))=Bo xs (G J))/\(∀xs d J,Bo xs (some (d,J))=Bn xs J (xD d))/\(∀xs J k,Bn xs J (some k)=if k<=1000/\-1000<=k/\xs.length<=1000 then some ((List.replicate k.toNat xs).flatten,J)else none)/\(∀A J,uj A J=Dj (A J))/\(∀ds J,Dj (some (ds,J))=some (.l ds,J))/\(∀xs,jY (.l xs)=some xs)/\(∀i F J,rg i F J=wH i F J (jH J[i]?))/\(∀i F J ds,wH i F J (some ds)=wG i (F J))/\(∀i d J,wG i (some (d,J))=wF i J (jY d))/\(∀i J xs,wF i J (some xs)=wD i J xs (jH J[i]?))/\(∀i J xs ds,wD i J xs (some ds)=if ds.length+xs.length<1000 then some (.nx (J.set i (.o false (.l (ds++xs)))))else none)/\(∀g F B J,A_ g F B J=BJ g B (F J))/\(∀g B d J,BJ g B (some (d,J))=BI g B J (jY d))/\(∀g B J xs,BI g B J (some xs)=dh g B (fG 0 xs) J)/\(∀i xs,n9 i (.t xs)=some (.t (cF (xs.drop i))))/\(∀xs,mz [.l xs]=qd xs)/\(∀xs,mz [.t xs]=qd xs)/\(∀xs ys,v_ (.l xs) (.l ys)=if xs.length<=1000 then some (.l (d5 xs ys))else none)/\(∀xs ys,wA (.t xs) (.t ys)=if xs.length<=1000 then some (.t (d5 xs ys))else none):=by and_intros<;>intros<;>rfl
def Dg(J:En)(n:Nat)(o:Option (aG)):bK:=aF o λ ys=>if n<=sizeLine then some (.l ys,J)else none
def Dh(T:FT)(F:FE)(xs ys:aG)(J:En)(o:Option En):bK:=aF o λ fr=>Dg J xs.length (dF T F fr (d5 xs ys))
def Di(js:dr)(T:FT)(F:FE)(xs:aG)(J:En)(o:Option (aG)):bK:=aF o λ ys=>Dh T F xs ys J (fj J js)
def Dc(js:dr)(T:FT)(F:FE)(xs:aG)(o:bK):bK:=aF o λ p=>Di js T F xs p.2 (jY p.1)
def Dd(js:dr)(B:FE)(T:FT)(F:FE)(J:En)(o:Option (aG)):bK:=aF o λ xs=>Dc js T F xs (B J)
def De(js:dr)(B:FE)(T:FT)(F:FE)(o:bK):bK:=aF o λ p=>Dd js B T F p.2 (jY p.1)
def Dv(js:dr)(A B:FE)(T:FT)(F:FE)(J:En):bK:=De js B T F (A J)
@[simp] theorem cO5:(∀js A B T F J,Dv js A B T F J=De js B T F (A J))/\(∀js B T F d J,De js B T F (some (d,J))=Dd js B T F J (jY d))/\(∀js B T F J xs,Dd js B T F J (some xs)=Dc js T F xs (B J))/\(∀js T F xs d J,Dc js T F xs (some (d,J))=Di js T F xs J (jY d))/\(∀js T F xs ys J,Di js T F xs J (some ys)=Dh T F xs ys J (fj J js))/\(∀T F xs ys J fr,Dh T F xs ys J (some fr)=Dg J xs.length (dF T F fr (d5 xs ys)))/\(∀J n ys,Dg J n (some ys)=if n<=sizeLine then some (.l ys,J)else none):=by and_intros<;>intros<;>rfl
def l4(kds:ew):D->Option D
 |.str k=>some (.b (!(bE k kds).isSome))
 |_=>none
@[simp] theorem AY(kds:ew)(k:Str):l4 kds (.str k)=some (.b (!(bE k kds).isSome)):=yI rfl
def Bz(J:En)(o:Option (Bool×List (Str×D))):Option (aG×En):=aF o λ q=>if q.2.length<=1000 then some (q.2.map (·.2),J)else none
def tK(i:Nat)(J:En):Option (aG×En):=Bz J (j1 J[i]?)
def wg(J:En)(o:Option Bool):bK:=aF o λ b=>some (.b (!b),J)
def wh(o:bK):bK:=aF o λ p=>wg p.2 (og p.1)
def qY(F:FE)(J:En):bK:=wh (F J)
def xY(op:D->D->Option D)(x:D)(o:bK):bK:=aF o λ r=>hP (op x r.1) r.2
def xi(op:D->D->Option D)(M:FE)(y:D)(J:En)(o:Option Bool):bK:=aF o λ b=>if b=true then xY op y (M J)else some (.b false,J)
def xj(op:D->D->Option D)(M:FE)(y:D)(J:En)(o:fA):bK:=aF o λ z=>xi op M y J (iS z)
def xZ(op q:D->D->Option D)(M:FE)(x:D)(o:bK):bK:=aF o λ r=>xj q M r.1 r.2 (op x r.1)
def xg(op q:D->D->Option D)(L M:FE)(y:D)(J:En)(o:Option Bool):bK:=aF o λ b=>if b=true then xZ op q M y (L J)else some (.b false,J)
def xh(op q:D->D->Option D)(L M:FE)(y:D)(J:En)(o:fA):bK:=aF o λ z=>xg op q L M y J (iS z)
def x4(op O q:D->D->Option D)(L M:FE)(x:D)(o:bK):bK:=aF o λ r=>xh O q L M r.1 r.2 (op x r.1)
def xM(op O q:D->D->Option D)(G L M:FE)(o:bK):bK:=aF o λ p=>x4 op O q L M p.1 (G p.2)
def e4(op O q:D->D->Option D)(F G L M:FE)(J:En):bK:=xM op O q G L M (F J)
@[simp] theorem cE5:(∀i J,tK i J=Bz J (j1 J[i]?))/\(∀J b kds,Bz J (some (b,kds))=if kds.length<=1000 then some (kds.map (·.2),J)else none)/\(∀F J,qY F J=wh (F J))/\(∀d J,wh (some (d,J))=wg J (og d))/\(∀J b,wg J (some b)=some (.b (!b),J))/\(∀op x d J,xY op x (some (d,J))=hP (op x d) J)/\(∀op M y J b,xi op M y J (some b)=if b=true then xY op y (M J)else some (.b false,J))/\(∀op M y z J,xj op M y J (some z)=xi op M y J (iS z))/\(∀op q M x d J,xZ op q M x (some (d,J))=xj q M d J (op x d))/\(∀op q L M y J b,xg op q L M y J (some b)=if b=true then xZ op q M y (L J)else some (.b false,J))/\(∀op q L M y z J,xh op q L M y J (some z)=xg op q L M y J (iS z))/\(∀op O q L M x d J,x4 op O q L M x (some (d,J))=xh O q L M d J (op x d))/\(∀op O q G L M d J,xM op O q G L M (some (d,J))=x4 op O q L M d (G J))/\(∀op O q F G L M J,e4 op O q F G L M J=xM op O q G L M (F J)):=by and_intros<;>intros<;>rfl
open PySem.W PySem.Spec PyProof.Rows L2
theorem T6(h:x.length<=100000):(Builtin.Str.partsBetween x (Builtin.Str.occurrences x y 0 x.length (x.length+1)) y.length).length<=sizeLine:=by have e:=StrLaws.occ_length_le x y 0 x.length (x.length+1);have b:(100002:Nat)<=sizeLine:=aH;rw[length_partsBetween];lia
theorem Sw(ny:(y.length==0)=false)(hx:x.length<=100000)(Y:∀l k,l.map (·.1)=Txt.split x y→Q (.ref s.heap.n) {s with heap:=s.heap.push {cls:=.type "list",data:=.seq (strValues l).toArray},toks:=k}):bU prog w A (call (.builtin "str.split") [.str x t,.str y u]) Q Er s:=by
 have b:(100000:Nat)<=sizeLine:=aH;have e:=T6 (y:=y) hx;by_cases Z:(decide (x.length<y.length)||decide (Builtin.Str.strKind x<Builtin.Str.strKind y))=true
 .have q:Txt.split x y=[x]:=if_pos Z;exact Qd Qg (Zn s x t) Z4 (Z1 (.str x t) (.str y u)) (meets_str_split_cannot_occur x y t u Z) (Y [(x,t)] s.toks q.symm)
 .have c:=Bool.eq_false_iff.mpr Z;by_cases a:(Builtin.Str.occurrences x y 0 x.length (x.length+1)).isEmpty=true
  .have q:Txt.split x y=[x]:=(if_neg Z).trans (if_pos a);exact Qd Qg (Zn s x t) Z4 (Z1 (.str x t) (.str y u)) (meets_str_split_not_found x y t u c ny a) (Y [(x,t)] s.toks q.symm)
  .have O:Txt.split x y=Builtin.Str.partsBetween x (Builtin.Str.occurrences x y 0 x.length (x.length+1)) y.length:=(if_neg Z).trans (if_neg a);have m:=meets_str_split_sep x y t u c ny (Bool.eq_false_iff.mpr a) (zw hx b) e;rw[<-O]at m;refine Qd Qg (Zn s x t) Z4 (Z1 (.str x t) (.str y u)) m ?_;have d:=Y (numbered s.toks (Txt.split x y)) (s.toks+(Txt.split x y).length) (numbered_texts _ _);rw[<-strsFrom_eq]at d;exact d
section
variable{X:Cx}{pos:Pos}{o e:Expr}{F G:FE}
theorem IJ:mS X "str.split" (λ x vs H Q=>∃a b,x=.str a∧vs=[.str b]∧(b.length==0)=false∧a.length≤100000∧∀l,H l=none→Q (.ref l) (upd H l (.l ((Txt.split a b).map V.str)))):=by
 intro aA s S H x vs v us Q I f e h;obtain⟨a,b,rfl,rfl,Z,d,q⟩:=h;obtain⟨t,rfl⟩:=f;obtain⟨u,rfl,g,rfl⟩:=gr e;refine Sw Z d λ l k hl=>?_;have big:(100002:Nat)<=sizeLine:=aH;have Y:(Txt.split a b).length<=sizeLine:=zw (split_le a b) aD;have O:aM ((Txt.split a b).map V.str) (strValues l):=by rw[<-hl];exact MY (strsAre_of_values l)
 refine⟨.ref s.heap.n,_,I.laid (o:=.l ((Txt.split a b).map V.str)) (λ p z c=>qf _ c) (qj _) ⟨by rw[qz];exact Y,strValues l,0,O,qk _ rfl⟩,rfl,q _ (I.hok.fresh (qj _))⟩
theorem BS(ho:XE X o F)(he:XE X e G)(O:lG X o "split":=by rfl)(ac:oz X cpos [e]:=by rfl)(Y:(apos.endLine==cpos.line)=true:=by rfl)(hs:gP X e:=by rfl):XE X (.Call (.Attribute o "split" apos) [e] [] cpos) (e2 kA F G):=
 PE.wk (pE Qx Qg PySem.F.type_str_split IJ ho (ez he eP hs) O ac Y hs rfl) λ S H Q m=>by
  obtain⟨c,H0,J,d,h,R,f,q⟩:=m;obtain⟨x,Z,y,n,p,g⟩:=nZ f;unfold kA at g;split at g
  .rename_i a b;obtain⟨i,rfl⟩:=cx g;refine⟨c,H0,J,_,Z,R,n,λ v j B w k r=>?_⟩;subst r;refine⟨rfl,c,j,Z,[_],h,k,by unfold aC aN;rw[p];rfl,λ vs A dk z R2 s=>?_⟩;obtain⟨u,rfl,t⟩:=aB.v1 s;subst t;refine⟨_,_,rfl,rfl,by simpa using i.1,i.2,λ l hl=>?_⟩;have σ:=bS.alloc (o:=.l ((Txt.split a b).map V.str)) R2.same hl;refine q _ _ _ ((w.trans z).trans σ.s0) (R2.after σ) ?_;exact⟨l,_,rfl,.inl (.inl cM),Ek _⟩
  .cases g
theorem O9:mS X "str.startswith" (λ x vs H Q=>∃a b,x=.str a∧vs=[.str b]∧Q (.b (Txt.startswith a b)) H):=by intro aA s S H x vs v us Q I Y O h;obtain⟨a,b,rfl,rfl,q⟩:=h;obtain⟨t,rfl⟩:=Y;obtain⟨u,rfl,Z,rfl⟩:=gr O;exact PySem.SC.startswith ⟨.b _,H,I,rfl,q⟩
theorem Wn(ho:XE X o F)(he:XE X e G)(O:lG X o "startswith":=by rfl)(ac:oz X cpos [e]:=by rfl)(Y:(apos.endLine==cpos.line)=true:=by rfl)(hs:gP X e:=by rfl):XE X (.Call (.Attribute o "startswith" apos) [e] [] cpos) (e2 wj F G):=
 PE.wk (pE Qx PySem.F.slot_str_startswith PySem.F.type_str_startswith O9 ho (ez he eP hs) O ac Y hs rfl) λ S H Q j=>by
  obtain⟨c,H0,J,d,b,R,f,q⟩:=j;obtain⟨x,Z,y,k,l,a⟩:=nZ f;unfold wj at a;split at a
  .cases a;refine⟨c,H0,J,_,Z,R,k,λ v g t r i m=>?_⟩;subst m;refine⟨rfl,c,g,Z,[_],b,i,by unfold aC aN;rw[l];rfl,λ vs h dk s R2 n=>?_⟩;obtain⟨u,rfl,p⟩:=aB.v1 n;subst p;exact⟨_,_,rfl,rfl,q _ h dk (r.trans s) R2 (by rfl)⟩
  .cases a
theorem PY:bV X (.type "int") (λ xs H Q=>∃x n,xs=[.str x]∧x.length≤640∧PySem.intText? x=some n∧Q (.int n) H):=by intro aA s S H xs us Q I r h;obtain⟨x,n,rfl,a,hn,q⟩:=h;obtain⟨u,rfl,t,rfl⟩:=gr r;exact PySem.W.KIN.call_text hn a ⟨.int n,H,I.tok _,⟨_,rfl⟩,q⟩
theorem VT:i6 X (.type "int") iH:=⟨_,PY,λ c H0 H J S ds d vs Q R r e q=>by
 unfold iH at e;split at e
 .rename_i x;by_cases a:x.length<=640
  rotate_left
  .rw[if_neg a]at e;cases e
  rw[if_pos a]at e;obtain⟨v,rfl,O⟩:=aB.v1 r;subst O;cases hn:PySem.intText? x with
  |none=>rw[hn]at e;cases e
  |some n=>
   rw[hn]at e;cases e;exact⟨_,n,rfl,a,hn,q _ H0 H (aE.refl _) R (fV _ _)⟩
 .cases e⟩
theorem PX:bV X (.type "str") (λ xs H Q=>(∃x,xs=[.str x]∧Q (.str x) H)∨(∃n:Int,xs=[.int n]∧n.natAbs.log2<1920∧Q (.str (cq (toString n))) H)∨(xs=[.n]∧Q (.str "None") H)):=by
 intro aA s S H xs us Q I r h;rcases h with⟨x,rfl,q⟩|⟨n,rfl,a,q⟩|⟨rfl,q⟩
 .obtain⟨u,rfl,t,rfl⟩:=gr r;exact PySem.P.str_of_str ⟨.str x,H,I,⟨t,rfl⟩,q⟩
 .obtain⟨u,rfl,t,rfl⟩:=gr r;exact PySem.P.str_of_int a ⟨.str _,H,I.tok _,⟨_,rfl⟩,q⟩
 .obtain⟨u,rfl,e⟩:=gr r;cases e;exact PySem.P.str_of_none ⟨.str _,H,I.tok _,⟨_,rfl⟩,q⟩
theorem Vf:i6 X (.type "str") kO:=⟨_,PX,λ c H0 H J S ds d vs Q R r e q=>by
 unfold kO at e;split at e
 .rename_i n;obtain⟨a,rfl⟩:=cx e;obtain⟨v,rfl,O⟩:=aB.v1 r;subst O;refine .inr (.inl ⟨_,rfl,?_,q _ H0 H (aE.refl _) R (by rfl)⟩);by_cases z:n.natAbs=0
  .rw[z];decide
  .exact(Nat.log2_lt z).mpr (qt a aW)
 .cases e;obtain⟨v,rfl,O⟩:=aB.v1 r;subst O;exact .inl ⟨_,rfl,q _ H0 H (aE.refl _) R (by rfl)⟩
 .cases e;obtain⟨v,rfl,O⟩:=aB.v1 r;subst O;exact .inr (.inr ⟨rfl,q _ H0 H (aE.refl _) R (by rfl)⟩)
 .cases e⟩
end
end Fx
namespace Fx
open PySem PySem.Spec PyProof.Rows L2
def lss(H:Hp)(a:Addr):Hp:=λ b=>if b=a then none else H b
theorem Iu:lss H a a=none:=if_pos rfl
theorem wz(h:b≠a):lss H a b=H b:=if_neg h
theorem Ir(h:lss H a b=some u):b≠a/\H b=some u:=by grind[Iu,wz]
theorem IE(h:m5 o=some ds):o=some (.o false (.l ds)):=by
 unfold m5 at h;split at h
 .cases h;rfl
 .cases h
section
variable{K:Frag}
theorem d8.lss(q:H a=some (.l us))(h:d8 K H b vs):d8 K (lss H a) b vs:=by
 rcases h with h|h
 .refine .inl ?_;have c:b≠a:=λ e=>by
   rw[e]at h;rcases h with h|⟨o,h⟩<;>rw[q]at h<;>cases h
  rcases h with h|⟨o,h⟩
  .exact .inl (by rw[wz c];exact h)
  .exact .inr ⟨o,by rw[wz c];exact h⟩
 .exact .inr h
mutual
theorem aU.lss(q:H a=some (.l us)):∀(d:D){v:V},nl d=true->aU K H d v->aU K (lss H a) d v
 |.n,_,_,h=>by unfold aU at h⊢;exact h
 |.b _,_,_,h=>by unfold aU at h⊢;exact h
 |.int _,_,_,h=>by unfold aU at h⊢;exact h
 |.str _,_,_,h=>by unfold aU at h⊢;exact h
 |.t ds,_,n,h=>by
  unfold aU at h⊢;obtain⟨b,vs,e,s,r⟩:=h;exact⟨b,vs,e,d8.lss q s,aB.lss q ds n r⟩
 |.l _,_,n,_=>by cases n
 |.opq,_,n,_=>by cases n
 |.c _ _,_,n,_=>by cases n
theorem aB.lss(q:H a=some (.l us)):∀(ds:aG){vs:bY},oF ds=true->aB K H ds vs->aB K (lss H a) ds vs
 |[],_,_,h=>by unfold aB at h⊢;exact h
 |d::r,_,n,h=>by
  unfold oF at n;rw[zm]at n;unfold aB at h⊢;obtain⟨v,O,e,h1,h2⟩:=h;exact⟨v,O,e,aU.lss q d n.1 h1,aB.lss q r n.2 h2⟩
end
end
section
variable{K:Frag}{c:FC}{H0 H:Hp}{J:En}{S:L2.St}{i:Nat}{ds:aG}
theorem RS.asList(R:RS K c H0 H J S)(hi:J[i]?=some (.o false (.l ds))):∃a vs,S[i]?=some (some (.ref a))/\H0 a=none/\c.He a=none/\H a=some (.l vs)/\aB K H0 ds vs/\aE H0 (upd H0 a (.l vs))/\RS K c (upd H0 a (.l vs)) H (J.set i (.i (.l ds))) S:=by
 obtain⟨a,x,y,z,vs,e,r⟩:=R.ow i _ _ hi;have A:=z;have C:=(ir.mp hi).1;have Z:aE H0 (upd H0 a (.l vs)):=λ b u q=>by grind[bX]
 have Y:∀{j:Nat}{sl:Sl},j≠i->(J.set i (.i (.l ds)))[j]?=some sl->J[j]?=some sl:=λ O e=>by grind
 have g:∀{sl:Sl},(J.set i (.i (.l ds)))[i]?=some sl->sl=.i (.l ds):=λ e=>by
  rw[ye C]at e;exact(qi e).symm
 refine⟨a,vs,x,y,A,e,r,Z,λ b u q=>?_,R.init.trans Z,λ b u q=>?_,R.keep,R.apt,by rw[yv];exact R.len,λ j w q=>?_,λ j f d q=>?_,λ j k s t d p b e1 e2 e3 e4=>?_⟩
 .by_cases h:b=a
  .grind[cM]
  .rw[bX h]at q;exact R.same b u q
 .by_cases h:b=a
  .grind
  .rw[bX h]at q;exact R.fresh b u q
 .by_cases O:j=i
  .subst O;cases g q;refine⟨.ref a,x,?_⟩;exact⟨a,vs,rfl,.inl (.inl cM),aB.mono Z _ r⟩
  .obtain⟨v,n,o⟩:=R.im j w (Y O q);exact⟨v,n,aU.mono Z _ o⟩
 .by_cases O:j=i
  .subst O;cases g q
  .have l:=Y O q;obtain⟨b,m,F,G,E⟩:=R.ow j f d l;have D:b≠a:=λ h=>O (R.ne j i f false d _ b l hi m (by rw[h];exact x));exact⟨b,m,by rw[bX D];exact F,G,E.step Z λ u q=>q⟩
 .by_cases O:j=i
  .grind
  .by_cases B:k=i
   .grind
   .exact R.ne j k s t d p b (Y O e1) (Y B e2) e3 e4
theorem RS.backL(R:RS K c H0 H J S)(hi:J[i]?=some (.o false (.l ds)))(one:lx i J=true)(x:S[i]?=some (some (.ref a)))(y:H0 a=none)(he:c.He a=none)(r:aB K H0 ds vs)(Z:aE (upd H0 a (.l vs)) aV)(O:RS K c aV H' (J.set i (.i (.l ds))) S):aE H0 (lss aV a)/\RS K c (lss aV a) H' J S:=by
 have Y:aE H0 (lss aV a):=λ b u q=>by
  have f:b≠a:=λ h=>by grind
  rw[wz f];exact Z b u (by rw[bX f];exact q)
 refine⟨Y,λ b u q=>O.same b u (Ir q).2,λ b u q=>Y b u (R.init b u q),λ b u q=>O.fresh b u (Ir q).2,O.keep,O.apt,R.len,λ j d q=>?_,λ j b o q=>?_,R.ne⟩
 .obtain⟨v,g,k⟩:=R.im j d q;exact⟨v,g,aU.mono Y _ k⟩
 .by_cases e:j=i
  .subst e;rw[hi]at q;cases q;exact⟨a,x,Iu,he,vs,O.same a _ (Z a _ cM),aB.mono Y _ r⟩
  .have:=iX.mp one (.o b o) (Yj (by rw[yh (jc e)];exact q));cases this
end
section
variable{X:Cx}{pos:Pos}{e:Expr}{F:FE}{A:FA}{T:FT}
theorem Lz(i:Nat)(he:XT X e T):XT X e (eY i T):=PT.wk he λ S H Q O=>by
 obtain⟨c,H0,J,d,g,R,f,q⟩:=O;obtain⟨ds,m,f⟩:=aS f;by_cases b:lx i J=true
 .rw[if_pos b]at f;obtain⟨⟨l,Z⟩,n,h⟩:=aS f;by_cases hd:Z=J.set i (.i (.l ds))
  .have Y:some (l,J)=some (d,g):=(if_pos hd).symm.trans h;cases Y;subst hd;have z:=IE m;obtain⟨a,vs,x,y,o,_,r,_,k⟩:=R.asList z;refine⟨c,_,_,d,_,k,n,λ aV H' s j=>?_⟩;obtain⟨p,R2⟩:=R.backL z b x y o r s j;exact q _ _ p R2
  .have Y:=(if_neg hd).symm.trans h;cases Y
 .rw[if_neg b]at f;cases f
theorem yU(i:Nat)(he:XE X e F):XE X e (dO i F):=PE.wk he λ S H Q O=>by
 obtain⟨c,H0,J,d,g,R,f,q⟩:=O;obtain⟨ds,n,f⟩:=aS f;by_cases b:lx i J=true
 .rw[if_pos b]at f;obtain⟨⟨h,Z⟩,o,j⟩:=aS f;by_cases hd:nl h=true/\Z=J.set i (.i (.l ds))
  .have Y:some (h,J)=some (d,g):=(if_pos hd).symm.trans j;obtain⟨hn,hd⟩:=hd;cases Y;subst hd;have z:=IE n;obtain⟨a,vs,x,y,p,_,r,_,m⟩:=R.asList z;refine⟨c,_,_,d,_,m,o,λ v aV H' k l s=>?_⟩;obtain⟨t,R2⟩:=R.backL z b x y p r k l;exact q v _ _ t R2 (aU.lss (k a _ cM) d hn s)
  .have Y:=(if_neg hd).symm.trans j;cases Y
 .rw[if_neg b]at f;cases f
end
theorem aB.dropLast{K:Frag}:∀{ds:aG}{vs:bY},aB K H ds vs->aB K H ds.dropLast vs.dropLast
 |[],vs,h=>by subst h;exact aB.nil_
 |[d],vs,h=>by
  obtain⟨v,r,rfl,_,a⟩:=h;subst a;exact aB.nil_
 |d::e::ds,vs,h=>by
  obtain⟨v,r,rfl,b,a⟩:=h;have q:=aB.dropLast a;obtain⟨O,Y,rfl,_,_⟩:=a;exact aB.cons b q
theorem IF{K:Frag}(h:aB K H ds vs):∀k:Nat,aB K H (List.replicate k ds).flatten (List.replicate k vs).flatten
 |0=>aB.nil_
 |k+1=>by
  rw[jh,jh,j4,j4];exact h.app (IF h k)
theorem X4(i:Nat)(hN:X.N[i]?=some x:=by rfl)(hv:jR X.v.scope x:=by exact nE)(hd:dJ x:=by decide)(ac:jZ x:=by decide)(O:lG X (.Name x Z) "pop":=by rfl)(Y:(p2.endLine==p3.line)=true:=by rfl)(hs:swapsWith (.Call (.Attribute (.Name x Z) "pop" p2) [] [] p3) none pos.line X.v=pure false:=by rfl):XS X (.Expr (.Call (.Attribute (.Name x Z) "pop" p2) [] [] p3) pos) (Mq i):=
 PS.wk (wI (cj3 Qs PySem.F.slot_list_pop PySem.F.type_list_pop cl1 (lI hN hv hd ac) O Y) hs) λ Dn S H k=>by
  obtain⟨c,H0,J,r,R,f,q⟩:=k;obtain⟨ds,d,f⟩:=aS f;by_cases e:ds.length=0
  .rw[if_pos e]at f;cases f
  .rw[if_neg e]at f;cases f;obtain⟨a,g,_,_,vs,h,j⟩:=R.ow i _ _ (kE d);have hl:=j.length;have b:∃y,vs[vs.length-1]?=some y:=⟨vs[vs.length-1]' aD,yq _⟩;obtain⟨y,b⟩:=b;refine⟨.ref a,g,.inl ⟨rfl,vs,c9.of h⟩,a,vs,y,rfl,rfl,h,b,?_⟩;exact q S H0 _ (aE.refl _) (R.mutOwn (kE d) g ⟨_,cM,aB.dropLast j⟩)
theorem X8(i:Nat)(he:mU X e A)(hN:X.N[i]?=some x:=by rfl)(hv:jR X.v.scope x:=by exact nE)(hd:dJ x:=by decide)(ah:jZ x:=by decide)(Y:lG X (.Name x p1) "extend":=by rfl)(ae:oz X Z [e]:=by rfl)(O:(p2.endLine==Z.line)=true:=by rfl)(aa:starEach [e] X.v=(false,eval e X.v)::starEach [] X.v:=by rfl)(ai:(backTo Z (starEach [] X.v)).any (·.1)=false:=by rfl)(hs:swapsWith (.Call (.Attribute (.Name x p1) "extend" p2) [e] [] Z) none pos.line X.v=pure false:=by rfl):XS X (.Expr (.Call (.Attribute (.Name x p1) "extend" p2) [e] [] Z) pos) (Mr i A):=
 PS.wk (wI (pE Qs PySem.F.slot_list_extend PySem.F.type_list_extend O_ (lI hN hv hd ah) (iT he k7 aa) Y ae O aa ai) hs) λ Dn S H k=>by
  obtain⟨c,H0,J,r,R,f,q⟩:=k;obtain⟨D,s,f⟩:=aS f;obtain⟨⟨xs,l⟩,t,f⟩:=aS f;obtain⟨ds,b,f⟩:=aS f;dsimp only at b f;obtain⟨hl,n⟩:=cx f;cases n;obtain⟨a,d,_,_,m,w,_⟩:=R.ow i _ _ (kE s);refine⟨.ref a,d,.inl ⟨rfl,m,c9.of w⟩,c,H0,J,xs,l,R,t,λ p vs z B v g u h=>?_⟩;have σ:=bS.alloc (o:=.l vs) g.same u;have R2:=g.after σ;obtain⟨C,x2,_,_,ws,y,j⟩:=R2.ow i _ _ (kE b);rw[d]at x2;cases x2;have E:=j.length;have G:=h.length;refine⟨a,p,ws,vs,rfl,rfl,y,cM,?_,?_⟩
  .have:(1000:Nat)<=sizeLine:=aH
   lia
  .exact q S _ _ (v.trans σ.s0) (R2.mutOwn (kE b) d ⟨_,cM,j.app (aB.mono σ.s0 _ h)⟩)
theorem Vt(i:Nat)(hX:X.N.Nodup)(he:XE X e F)(hN:X.N[i]?=some x:=by rfl)(hx:Loc X.v.scope x:=by exact mA)(hv:jR X.v.scope x:=by exact nE)(hd:dJ x:=by decide)(aa:jZ x:=by decide)(hs:swapsWith (.BinOp (.Name x p1) .Add e O) (some (.Name x pos')) pos.line X.v=pure false:=by rfl)(hf:X.fn x=true\/X.v.scope.names.lookup x=some .local:=by exact mA):XS X (.Assign [.Name x pos'] (.BinOp (.Name x p1) .Add e O) pos) (rg i F):=
 PS.wk (sx hX hN hx (vS B8 (lI hN hv hd aa) he) hs hf) λ Dn S H Y=>by
  obtain⟨c,H0,J,r,R,f,q⟩:=Y;obtain⟨D,s,f⟩:=aS f;obtain⟨⟨d,Z⟩,t,f⟩:=aS f;obtain⟨xs,g,f⟩:=aS f;obtain⟨ds,j,f⟩:=aS f;dsimp only at g j f;obtain⟨hl,o⟩:=cx f;cases o;obtain⟨a,l,_,_,C,I,_⟩:=R.ow i _ _ (kE s);refine⟨.ref a,l,c,H0,J,d,Z,R,t,λ v n A y h w=>?_⟩;unfold jY at g;split at g
  rotate_left
  .cases g
  cases g;obtain⟨b,zs,rfl,sb,k⟩:=w;obtain⟨B,x2,_,_,ws,z,m⟩:=h.ow i _ _ (kE j);rw[l]at x2;cases x2;have E:=m.length;have G:=k.length;refine⟨a,b,ws,zs,rfl,rfl,c9.of z,aE.seq h.same sb,?_,λ p u=>?_⟩
  .have:(1000:Nat)<=sizeLine:=aH
   lia
  .exact q _ n _ y (h.setOwn i u ⟨_,cM,m.app k⟩)
theorem Wu(ho:XE X o F)(he:XE X e G)(O:lG X o "split":=by rfl)(ac:oz X cpos [e]:=by rfl)(Y:(apos.endLine==cpos.line)=true:=by rfl)(hs:gP X e:=by rfl):mU X (.Call (.Attribute o "split" apos) [e] [] cpos) (qa (e2 kA F G)):=
 PE.wk (pE Qx Qg PySem.F.type_str_split IJ ho (ez he eP hs) O ac Y hs rfl) λ S H Q m=>by
  obtain⟨c,H0,J,ds,C,R,f,q⟩:=m;obtain⟨⟨d,n⟩,f,p⟩:=aS f;obtain⟨x,Z,y,r,s,g⟩:=nZ f;unfold kA at g;split at g
  .rename_i a b;obtain⟨h,rfl⟩:=cx g;cases p;refine⟨c,H0,J,_,Z,R,r,λ v i D A k t=>?_⟩;subst t;refine⟨rfl,c,i,Z,[_],n,k,by unfold aC aN;rw[s];rfl,λ vs j dk B R2 w=>?_⟩;obtain⟨u,rfl,z⟩:=aB.v1 w;subst z;exact⟨_,_,rfl,rfl,by simpa using h.1,h.2,λ l hl=>q l _ j dk (A.trans B) R2 hl (Ek _)⟩
  .cases g
theorem JU(h:XA X es A)(hn:XE X e G):mU X (.BinOp (.List es lp) .Mult e pos) (wZ A G):=
 PE.wk (vS cj4 (BL h) hn) λ S H Q Z=>by
  obtain⟨c,H0,J,ds,g,R,f,q⟩:=Z;obtain⟨⟨xs,Y⟩,t,f⟩:=aS f;obtain⟨⟨d,B⟩,m,f⟩:=aS f;obtain⟨k,O,f⟩:=aS f;dsimp only at m O f;obtain⟨⟨k1,k2,hl⟩,s⟩:=cx f;cases s;refine⟨c,H0,J,xs,Y,R,t,λ vs y z x i a=>⟨by rw[<-a.length];exact v3 hl,λ p u=>?_⟩⟩;have σ:=bS.alloc (o:=.l vs) i.same u;have R2:=i.after σ;refine⟨c,_,Y,d,g,R2,m,λ v n eN b j w=>?_⟩;unfold xD at O;split at O
  rotate_left
  .cases O
  cases O;subst w;have lv:=a.length;refine⟨p,k,vs,rfl,rfl,j.same _ _ (b _ _ cM),by lia,by lia,?_,λ l r=>?_⟩
  .have:vs.length*k.toNat<=1000*1000:=Nat.mul_le_mul aD aD;have:(1000*1000:Nat)<=sizeLine:=aH
   lia
  .exact q l _ n eN (x.trans (σ.s0.trans b)) j r (IF (aB.mono (σ.s0.trans b) _ a) _)
theorem JV(ha:XE X a F)(hb:XE X b G):mU X (.BinOp a .Add b pos) (qa (e2 cu F G)):=
 PE.wk (vS B8 ha hb) λ S H Q m=>by
  obtain⟨c,H0,J,ds,B,R,f,q⟩:=m;obtain⟨⟨d,r⟩,f,e⟩:=aS f;obtain⟨x,Y,y,s,t,O⟩:=nZ f;unfold cu at O;split at O
  .cases O;cases e
  .obtain⟨_,rfl⟩:=cx O;cases e
  .rename_i xs ys;obtain⟨D,rfl⟩:=cx O;cases e;refine⟨c,H0,J,_,Y,R,s,λ v i C A k w=>⟨c,i,Y,_,r,k,t,λ u j dk h R2 z=>?_⟩⟩;have n:=aU.mono h _ w;obtain⟨p,vs,rfl,sp,g⟩:=n;obtain⟨p2,ws,rfl,o,Z⟩:=z;have E:=g.length;have I:=Z.length;exact⟨p,p2,vs,ws,rfl,rfl,aE.seq R2.same sp,aE.seq R2.same o,by lia,λ l hl=>q l _ j dk (A.trans h) R2 hl (g.app Z)⟩
  .cases O
theorem Nk(h:mU X e A):XE X e (uj A):=PE.wk h λ S H Q O=>by
 obtain⟨c,H0,J,d,j,R,f,q⟩:=O;obtain⟨⟨ds,Y⟩,a,f⟩:=aS f;cases f;refine⟨c,H0,J,ds,Y,R,a,λ p vs k l i Z b g=>?_⟩;have σ:=bS.alloc (o:=.l vs) Z.same b;refine q _ _ _ (i.trans σ.s0) (Z.after σ) ?_;exact⟨p,vs,rfl,.inl (.inl cM),aB.mono σ.s0 _ g⟩
end Fx
namespace L2
open PySem PySem.Spec PyProof.Rows
theorem aI.turnedL{fs:fB}(I:aI X aA S H s)(k:∀b o,b∉fs->s.heap.get? b=some o->h'.get? b=some o)(Z:∀b∈fs,cK X aA H b):aI X aA S H {s with heap:=h',toks:=t'}:=by
 have Y:∀b u,H b=some u->b∉fs:=λ b u e z=>by rw[(Z b z).1]at e;cases e
 refine I.step (λ b d=>?_) (λ b o _ _ O e _=>k b o O e) (λ b o _ _ O e _=>⟨o.slots,k b o O e⟩) (λ _ _ _ _ n=>n)
  (λ b o O e=>⟨o,k b o O e⟩) (λ _ _ e=>e) (λ _ _ _ e=>e) (λ b ps e=>⟨#[],by rw[e];simp⟩) (λ m f=>?_) (λ b u e=>?_) I.bare
 .obtain⟨_,h,_,i,j,z5⟩:=Z b d;exact⟨i,h,j,z5⟩
 .obtain⟨o,es,a,g,r⟩:=f;exact⟨o,es,a,k _ o (λ z=>(Z _ z).2.1 rfl) g,r⟩
 .refine(I.hok b u e).stay (λ c v O q=>k c v ?_ q) (λ _ q=>q) λ _ _ q=>q;rcases O with z|z
  .rw[z];exact Y b u e
  .exact Y _ _ z
theorem cK.upd(h:cK X aA H b)(n:b≠p):cK X aA (upd H p u) b:=⟨by rw[bX n];exact h.1,h.2⟩
end L2
namespace Fx
open PySem PySem.Spec PyProof.Rows L2
def vg(K:Frag)(l:Addr):It:=
 ⟨λ i H=>∃xs x,c9 K H l xs/\xs[i]?=some x,λ i H x H'=>∃v p,(∀xs,c9 K H l xs->xs[i]?=some v)/\x=.ref p/\H p=none/\H'=upd H p (.t [.int i,v]),λ i H=>∃xs,c9 K H l xs/\xs.length<=i⟩
theorem Tn{K:Frag}(l e it:Addr)(ne:e≠it):gZ P w K (.Tuple ac x1 pt) (vg K l) [e,it] e (λ i h=>∃Z,IsEnum h e it i Z/\h.IsListIter it l i)where
 mem:=qg
 obj:=λ i h O b Y=>by
  obtain⟨Z,st,f⟩:=O;rcases qx Y with rfl|Y
  .exact⟨_,st,λ v z=>by cases z⟩
  .obtain⟨o,a,c,d⟩:=f;rw[dt Y];exact⟨o,a,λ v z=>by rw[d]at z;cases z⟩
 keep:=λ i h h'⟨Z,st,f⟩k=>⟨Z,k e aQ _ st,f.at λ o q=>k it aQ o q⟩
 item:=λ X p hw m D i aA s S H E I r O j=>by
  obtain⟨Z,st,f⟩:=O;obtain⟨xs,x,g,t⟩:=j;subst p hw m;obtain⟨M,B,A,V⟩:=I.list g;obtain⟨u,T,W⟩:=B.get t;have ρ:=qm st;have L:it<s.heap.n:=by obtain⟨_,q,_⟩:=id f;exact qm q
  have σ:=I.hok.fresh (qj _);refine wpAny_pyNext_enum_item st f A.isList (by simpa using T) ne λ h1 k1 k2 k3 k4 k5=>⟨_,rfl,?_⟩
  refine wpAny_letOwnedTupleGo_enum k1 λ R e2 sb=>?_;have F:=
   I.laid (t':=s.toks+1) (λ b o q=>qf _ q) (qj _) (show bO X.p X.w _ _ _ (.t [.int i,x])from⟨by show(2:Nat)<=sizeLine;decide,[.int i s.toks,u],.cons ⟨_,rfl⟩ (.cons W .nil),d6.new _ _⟩)
  have fp:∀b∈[e,it],cK X aA (upd H s.heap.n (.t [.int i,x])) b:=λ b Y=>(r b Y).upd (by
   rcases qx Y with rfl|Y
   .exact qv ρ
   .rw[dt Y];exact qv L)
  have G:aI X aA S (upd H s.heap.n (.t [.int i,x])) {s with heap:=R,toks:=s.toks+1}:=aI.turnedL (s:={s with heap:=s.heap.push {cls:=.type "tuple",data:=.seq #[.int i s.toks,u]},toks:=s.toks+1}) F (λ b q Y z=>by
   have C:b≠e:=λ y=>Y (by simp[y]);have N:b≠it:=λ y=>Y (by simp[y]);refine(sb.2 b C).trans ?_;rcases Yl z with⟨z1,z2⟩|z
   .rw[z1,z2];exact k3
   .exact k5 b q C N z) fp
  refine⟨.ref s.heap.n,_,G,rfl,⟨x,_,λ ys U=>by rw[I.list_inj U g];exact t,rfl,σ,rfl⟩,⟨_,by rw[show((i+1:Nat):Int)=(i:Int)+1 by lia];exact e2,k2.at λ o q=>(sb.2 it (jc ne)).trans q⟩,λ b Y=>(fp b Y).1⟩
 done:=λ X p hw m D i aA s S H E I r O j=>by
  obtain⟨Z,st,f⟩:=O;obtain⟨xs,g,t⟩:=j;subst p hw m;obtain⟨M,B,A,V⟩:=I.list g;have hl:=B.length;exact wpAny_pyNext_enum_end (I.ok.hd D) st f A.isList cR λ h' Q=>⟨rfl,I.turnedL (λ b o Y q=>Q b o (λ y=>Y (by simp[y])) q) r⟩
 self:=λ _ _ _ _ _⟨_,st,_⟩h=>wpAny_pyIter_enum st h
def ZJ(K:Frag)(t:TE):TI:=λ S H R=>t S H λ x H1=>∃a xs,x=.ref a/\c9 K H1 a xs/\R (vg K a) H1
theorem Jw(hg:Gl X "enumerate")(hm:X.mg "enumerate"=none)(hl:PE X l tl)(hs:gP X l):PI X (.Tuple Z x1 pt) (.Call (.Name "enumerate" p) [l] [] pos) (ZJ X.K tl):=by
 intro aA s S H R I h;refine Call_ (l_ I hg hm (u:=.type "enumerate") aW (yk (bQ (iT hl k7 hs pos aA s S H (λ vs c=>match vs with|[x]=>(∃a xs,x=.ref a∧c9 X.K c a xs∧R (vg X.K a) c)|_=>False) I h) λ us Y=>dD λ vs c O f e=>?_) hs rfl))
 match vs,e,f with
 |[x],e,f=>
  obtain⟨a,xs,rfl,m,q⟩:=e;obtain⟨u,rfl,j⟩:=gr f;cases j;obtain⟨n,r,i,o⟩:=O.list m;refine call_enumerate_list i.isList λ h' st g sz k=>?_;refine wpAny_pyIter_enum st ⟨Y.heap.objs.size+1,[Y.heap.objs.size+1,Y.heap.objs.size],_,_,c,rfl,O.kept k,Tn a (Y.heap.objs.size+1) Y.heap.objs.size (Nat.succ_ne_self _),⟨_,st,g⟩,λ b d=>?_,q⟩;rcases qx d with rfl|d
  .exact O.fpOk (Qu _) (O.hok.fresh (Qu _))
  .rw[dt d];exact O.fpOk (qj _) (O.hok.fresh (qj _))
theorem Jg:∀(xs:aG)(k:Nat),(fG k xs).length=xs.length
 |[],_=>rfl
 |_::r,k=>by show(fG (k+1) r).length+1=r.length+1;rw[Jg r]
theorem IW:∀(xs:aG)(k i:Nat){d:D},(fG k xs)[i]?=some d->∃y,xs[i]?=some y/\d=.t [.int ((k+i:Nat):Int),y]
 |[],_,_,_,h=>by cases h
 |x::r,k,0,d,h=>by cases h;exact⟨x,rfl,rfl⟩
 |x::r,k,i+1,d,h=>by
  obtain⟨y,a,b⟩:=IW r (k+1) i (show(fG (k+1) r)[i]?=some d from h);exact⟨y,a,by rw[b,show k+1+i=k+(i+1) by lia]⟩
theorem FD{K:Frag}(rd:c9 K H1 a vs)(r:aB K H1 xs vs):lZ K (vg K a) H1 (fG 0 xs):=λ H0 H i s s'=>by
 have Y:=aE.seq (s.trans s') rd;refine⟨λ d e=>?_,λ h=>⟨vs,Y,by rw[<-r.length,<-Jg xs 0];exact h⟩⟩;obtain⟨y,e1,rfl⟩:=IW xs 0 i e;obtain⟨v,e2,Z⟩:=r.get e1;refine⟨⟨vs,v,Y,e2⟩,λ x H' q=>?_⟩;obtain⟨g,p,O,c,f,b⟩:=q;have O:=O vs Y;subst c b;rw[e2]at O;cases O;have σ:=bS.alloc (o:=.t [.int i,v]) s' f;refine⟨_,σ,?_⟩;rw[Nat.zero_add];exact⟨p,_,rfl,.inl (.inl cM),aB.cons (fV _ _) (aB.one (aU.mono (s.trans σ.s0) _ Z))⟩
theorem XF(hm:X.mg "enumerate"=none)(hg:XG X (.Tuple O x1 pt) g)(ha:XE X a F)(hb:il X body B)(aa:Gl X "enumerate":=by rfl)(hp:PassesOwn (model X.p X.w) X.A X.v X.xe:=by exact Qp)(hc:X.c=true:=by rfl)(ac:gP X a:=by rfl)(hs:∀x,foldedSetIterable (.Call (.Name "enumerate" p) [a] [] pos') X.v x=pure x:=by intro _;rfl):XS X (.For (.Tuple O x1 pt) (.Call (.Name "enumerate" p) [a] [] pos') body [] pos) (A_ g F B):=PS.wk (tJ hp hc (Jw aa hm ha ac) hg hb hs) λ Dn S H Y=>by
 obtain⟨c,H0,J,r,R,f,q⟩:=Y;obtain⟨⟨d,Z⟩,i,f⟩:=aS f;obtain⟨xs,b,f⟩:=aS f;dsimp only at b f;unfold jY at b;split at b
 rotate_left
 .cases b
 cases b;refine⟨c,H0,J,_,Z,R,i,λ v m n l e j=>?_⟩;obtain⟨a,vs,rfl,h,k⟩:=j;exact⟨a,vs,rfl,aE.seq e.same h,vY e f (FD h k) (q.mono l)⟩
end Fx
namespace Fx
open PySem PySem.W PyProof.Rows
section
variable{n:Nat}{r:Nat->Nat}
noncomputable def KP(r:Nat->Nat)(p:Array Nat)(k:Nat):Nat:=r (p.getD k 0)
end
structure Gm(le:Keyed->Keyed->Prop)(T out P Q:List Keyed):Prop where
 perm:(out++P++Q).Perm T
 so:out.Pairwise le
 bp:∀x∈out,∀y∈P,le x y
 bq:∀x∈out,∀y∈Q,le x y
 sp:P.Pairwise le
 sq:Q.Pairwise le
open PySem.Spec L2
section
variable{X:Cx}{pos:Pos}{o e:Expr}{F G:FE}
theorem Xt(h1:0<=n)(h2:n<=1000)(q:x.length<=1000):MulOk x n:=by
 refine⟨?_,λ _ _=>?_,λ _ _=>?_⟩
 .rw[zn aD,zn aD];rfl
 .have:(x.length:Int)*n<=1000*1000:=Int.mul_le_mul aD h2 aD aH;have:=Int.le_ediv_of_mul_le (show 0<n by lia) (show(x.length:Int)*n<=2^63-1 by lia)
  lia
 .have:x.length*n.toNat<=1000*1000:=Nat.mul_le_mul q aD;unfold Builtin.Str.tooLong;have big:1000*1000<=sizeLine:=aH;simp;lia
theorem cx3:mW X .Mult wa:=⟨λ x y H Q=>∃a n,x=.str a/\y=.int n/\MulOk a n/\Q (.str (Txt.mul a n)) H,λ aA s S H x y u v Q I j l O=>by
 obtain⟨a,n,b,f,ok,q⟩:=O;subst b f;obtain⟨t,rfl⟩:=j;obtain⟨w,rfl⟩:=l;exact SB.mul ok λ m k=>⟨.str _,H,I.tok k,⟨m,rfl⟩,q⟩,λ c H0 H J S x y d o p Q R Y Z e q=>by
  unfold wa at e;split at e
  .obtain⟨⟨g,h,i⟩,rfl⟩:=cx e;subst Y Z;exact⟨_,_,rfl,rfl,Xt g h i,q _ H0 H (aE.refl _) R (by rfl)⟩
  .cases e⟩
end
end Fx
namespace Fx
open PySem PySem.Spec PyProof.Rows L2
theorem zE:∀l:List α,((List.range ((l.length+1)/2)).filterMap λ m=>l[2*m]?)=cF l
 |[]=>by simp[cF]
 |[a]=>by simp[cF]
 |a::b::r=>by
  have q:=zE r;have e:((a::b::r).length+1)/2=(r.length+1)/2+1:=by simp only[zt];lia
  rw[e,List.range_succ_eq_map,Zm];show a::_=a::cF r;rw[Zs,<-q];congr 1
theorem sj:∀l:List α,(cF l).length<=l.length
 |[]=>qj _
 |[a]=>qj _
 |a::b::r=>by
  have:=sj r;show(cF r).length+1<=r.length+1+1;lia
theorem z_:∀{xs:bY}{us:cf},aM xs us->aM (cF xs) (cF us)
 |[],_,h=>by cases h;exact .nil
 |[_],_,h=>by
  cases h with
  |cons a t=>cases t;exact .cons a .nil
 |_::_::_,_,h=>by
  cases h with
  |cons a t=>
   cases t with
   |cons b c=>exact .cons a (z_ c)
theorem yN{K:Frag}:∀{ds:aG}{vs:bY},aB K H ds vs->aB K H (cF ds) (cF vs)
 |[],vs,h=>by subst h;exact aB.nil_
 |[d],vs,h=>by
  obtain⟨v,r,rfl,a,b⟩:=h;subst b;exact aB.one a
 |d::e::ds,vs,h=>by
  obtain⟨v,r,rfl,a,b⟩:=h;obtain⟨O,Y,rfl,_,q⟩:=b;exact aB.cons a (yN q)
theorem Ti(xs:gm)(i:Nat)(hi:i<=xs.size):((List.range (Builtin.Slice.slicePlaces (i:Int) (xs.size:Int) 2)).filterMap λ(m:Nat)=>xs[((i:Int)+(m:Int)*2).toNat]?).toArray=(cF (xs.toList.drop i)).toArray:=by
 have k:Builtin.Slice.slicePlaces (i:Int) (xs.size:Int) 2=((xs.toList.drop i).length+1)/2:=by
  unfold Builtin.Slice.slicePlaces;rw[jr,ym,if_pos aH];by_cases h:(i:Int)<(xs.size:Int)
  .rw[if_pos h];lia
  .rw[if_neg h];lia
 rw[k,<-zE];congr 2;funext m;rw[List.getElem?_drop,Yh,show((i:Int)+(m:Int)*2).toNat=i+2*m by lia]
section
variable{prog:Program}{w:World}{A:Around}{E:dw}{s:Shared}
theorem Tq{sl:Addr}{O:Value}{lo:Option Int}{t:Tok}{n:Nat}{Q:Int×Int×Nat->Shared->Prop}(hs:s.heap.IsSliceOf sl O .none (.int 2 t))(pl:IsPart O lo)(h:Q (((HT.sIx n 0 lo:Nat):Int),2,Builtin.Slice.slicePlaces ((HT.sIx n 0 lo:Nat):Int) (n:Int) 2) s):bU prog w A (Builtin.Slice.sliceApplied (.ref sl) (pure (n:Int))) Q E s:=by
 obtain⟨os,q,a,hds⟩:=id hs;unfold Builtin.Slice.sliceApplied Builtin.Slice.sliceFields;refine qb (qb (yj q hds (x:=O) rfl (qb (yj q hds (x:=.none) rfl (qb (yj q hds (x:=.int 2 t) rfl (qc ?_)))))));refine qb (HT.slicePart_ (.int 2 t) ?_);show wpAny _ _ (if((2:Int)==0)=true then _ else _) _ _ s;rw[if_neg (by decide)];refine qb (HT.slicePart_ pl (qb (HT.slicePart_ .none (qb (qc ?_)))));have Y:Builtin.Slice.sliceAdjust lo none 2 (n:Int)=(((HT.sIx n 0 lo:Nat):Int),(n:Int)):=by
  have Z:¬((2:Int)<0):=aD;unfold Builtin.Slice.sliceAdjust;simp only[Z,if_false];refine Prod.ext ?_ rfl;cases lo with
  |none=>rfl
  |some v=>exact HT.clip_eq v n 0
 show wpAny _ _ (match Builtin.Slice.sliceAdjust lo none 2 (n:Int)with|(lo,hi)=>pure (lo,(2:Int),Builtin.Slice.slicePlaces lo hi 2)) _ _ s;rw[Y];exact qc h
theorem Rp{t Z:Addr}{items:gm}{vl:Value}{lo:eO}{tk:Tok}{Q:dw}(q:IsTup s.heap t items)(hs:s.heap.IsSliceOf Z vl .none (.int 2 tk))(pl:IsPart vl lo)(h:Q (.ref s.heap.n) {s with heap:=s.heap.push {cls:=.type "tuple",data:=.seq (cF (items.toList.drop (HT.sIx items.size 0 lo))).toArray}})(hsz:items.size<=sizeLine):bU prog w A (getItem (.ref t) (.ref Z)) Q E s:=by
 have ok:sizeOk (.seq (cF (items.toList.drop (HT.sIx items.size 0 lo))).toArray):=by show(cF (items.toList.drop (HT.sIx items.size 0 lo))).toArray.size<=sizeLine;have c:=sj (items.toList.drop (HT.sIx items.size 0 lo));have d:=jr (i:=HT.sIx items.size 0 lo) (l:=items.toList);have e:items.toList.length=items.size:=ym;rw[zk];lia
 obtain⟨os,a,O,hds⟩:=id hs;have Y:s.TypeIs (.ref Z) "slice":=⟨os,a,O⟩;unfold getItem
 try with_reducible refine yo ?_
 first|refine qb (qc ?_)|skip
 refine qb (wpAny_sequenceKey q.typeIs aH ?_);refine qb (wpAny_callSpecial?_slot (name:=cq "__getitem__") q.typeIs j5
  (Q8 j5 q.typeIs entry_tuple_getitem ?_ (args_tuple_getitem _ _)))
 show wpAny _ _ (Builtin.Tuple.tupleItemsOf (.ref t) >>= _) _ _ s;refine qb (tupleItemsOf_ q ?_);refine qb (Z8 Y ?_);rw[if_pos aH];refine qb (Tq hs pl ?_);have b:¬((((HT.sIx items.size 0 lo:Nat):Int)==0&&(2:Int)==1&&Builtin.Slice.slicePlaces ((HT.sIx items.size 0 lo:Nat):Int) (items.size:Int) 2==items.size)=true):=by rw[show((2:Int)==1)=false by decide,Q5,Bool.false_and];exact qp
 show wpAny _ _ (if(((HT.sIx items.size 0 lo:Nat):Int)==0&&(2:Int)==1&&Builtin.Slice.slicePlaces ((HT.sIx items.size 0 lo:Nat):Int) (items.size:Int) 2==items.size)=true then _ else _) _ _ s;rw[if_neg b,Ti items _ (HT.sIx_le _ _ (yg _) lo)]
 first
  |exact qb (m:=Builtin.Tuple.tupleExact _) (yi (qc ⟨_,rfl,qc h⟩) ok)
  |exact qb (m:=Builtin.Tuple.tupleExact _) (yi (qb (qc (qc ⟨_,rfl,qc h⟩))) ok)
  |exact qb (qb (m:=Builtin.Tuple.tupleExact _) (yi (qc (qc ⟨_,rfl,qc h⟩)) ok))
  |exact qb (qb (m:=Builtin.Tuple.tupleExact _) (yi (qc ⟨_,rfl,qc h⟩) ok))
end
section
variable{X:Cx}{pos:Pos}{F:FE}{e:Expr}
theorem Kg{te:TE}{lo:Option Expr}{tl:TO}{p2 p3:Pos}{k:Nat}(he:PE X e te)(hl:PO X lo tl):PE X (.Subscript e (.Slice lo none (some (.Constant (.int 2) k p3)) p2) pos)
  (λ S H Q=>te S H λ x H1=>tl S H1 λ o H2=>∃a xs,x=.ref a/\d8 X.K H2 a xs/\∀p,H2 p=none->Q (.ref p) (upd H2 p (.t (cF (xs.drop (HT.sIx xs.length 0 o)))))):=by
 intro aA s S H Q I h;refine Z9 (bQ (he aA s S H _ I h) λ v D=>dD λ x H1 i B A=>?_);refine wpAny_Slice (bQ (hl aA D S H1 _ i A) λ G E O=>?_);obtain⟨o,H2,j,z,a,xs,r,F,q⟩:=O;subst r;cases B;rw[Z0];refine qc ?_;rw[Yt];refine bQ (sO aA E S H2 (λ y H'=>y=.int 2/\H'=H2) j ⟨rfl,rfl⟩) λ st Y O=>?_;obtain⟨y,g,l,C,u,n⟩:=O;subst u n;obtain⟨t,rfl⟩:=C;have c:aI X aA S g {Y with heap:=Y.heap.push {cls:=.type "slice",data:=.fields #[G,.none,.int 2 t]}}:=l.kept λ b ob q=>qf _ q;obtain⟨m,f,d,w⟩:=c.tuple F;have Z:m.toArray.size=xs.length:=by rw[zk];exact f.length.symm
 refine tail_any d.typeIs PyProof.Rows.slot_tuple_getitem.lookup ?_ (by with_unfolding_all rfl);refine Rp d (Zt ..) z ?_ (by rw[Z];exact w);rw[Z];refine⟨.ref _,_,c.laid (λ b ob q=>qf _ q) (qj _) ?_,rfl,q _ (c.hok.fresh (qj _))⟩;refine⟨zw (sj _) (by rw[jr];lia),_,z_ (f.drop _),d6.new _ _⟩
theorem Jn(h:e1 (n9 i) F J=some (d,ρ')):∃xs,F J=some (.t xs,ρ')/\d=.t (cF (xs.drop i)):=by
 unfold e1 at h;obtain⟨⟨x,q⟩,b,f⟩:=aS h;obtain⟨c,a,f⟩:=aS f;have O:=f;cases O;dsimp only at a;unfold n9 at a;split at a
 .cases a;exact⟨_,b,rfl⟩
 .cases a
theorem LF(he:XE X e F):XE X (.Subscript e (.Slice none none (some (.Constant (.int 2) k p3)) p2) pos) (e1 (n9 0) F):=PE.wk (Kg he IC) λ S H Q O=>by
 obtain⟨c,H0,J,d,j,R,f,q⟩:=O;obtain⟨xs,b,rfl⟩:=Jn f;refine⟨c,H0,J,_,_,R,b,λ v l m h Y Z=>?_⟩;obtain⟨a,ws,rfl,i,t⟩:=Z;refine⟨a,ws,rfl,aE.seqT Y.same i,λ p g=>?_⟩;have σ:=bS.alloc (o:=.t (cF (ws.drop 0))) Y.same g;refine q _ _ _ (h.trans σ.s0) (Y.after σ) ?_;exact⟨p,_,rfl,.inl (.inl cM),aB.mono σ.s0 _ (yN t)⟩
theorem X9(he:XE X e F):XE X (.Subscript e (.Slice (some (.Constant (.int 1) k1 p4)) none (some (.Constant (.int 2) k p3)) p2) pos) (e1 (n9 1) F):=PE.wk (Kg he (IB sO)) λ S H Q O=>by
 obtain⟨c,H0,J,d,j,R,f,q⟩:=O;obtain⟨xs,b,rfl⟩:=Jn f;refine⟨c,H0,J,_,_,R,b,λ v l m h Y Z=>?_⟩;obtain⟨a,ws,rfl,i,t⟩:=Z;refine⟨1,rfl,a,ws,rfl,aE.seqT Y.same i,λ p g=>?_⟩;have e:ws.drop (HT.sIx ws.length 0 (some 1))=ws.drop 1:=by
  rw[show(some (1:Int))=some ((1:Nat):Int)from rfl,HT.sIx_nat];cases ws with
  |nil=>rfl
  |cons a r=>rw[show min 1 (a::r).length=1 by simp]
 rw[e];have σ:=bS.alloc (o:=.t (cF (ws.drop 1))) Y.same g;refine q _ _ _ (h.trans σ.s0) (Y.after σ) ?_;exact⟨p,_,rfl,.inl (.inl cM),aB.mono σ.s0 _ (yN (aB.drop 1 t))⟩
end
end Fx
namespace Fx
open PySem PySem.Spec
def dN(P:Program)(w:World)(bt:Bool)(h:Heap)(a:Addr)(ss:aP):Prop:=h.SetOf (PySem.strKind P w) a (λ k=>decide (k∈ss)) ss.length
section
variable{P:Program}{w:World}{bt:Bool}{A:Around}{E:dw}{s:Shared}{a:Addr}{ss:aP}
theorem M8(e:v=.str y t):(PySem.strKind P w).is x v=decide (x=y):=by
 subst e;have h:(PySem.strKind P w).is y (.str y t)=true:=by show Value.isStrOf y (.str y t)=true;simp[Value.isStrOf]
 exact KeyKind.is_eq_decide h x
theorem Od(Z:dN P w bt s.heap a ss)(O:ss.length+1<scanBound)(h:∀h',Heap.SameBut a s.heap h'->dN P w bt h' a (if x∈ss then ss else ss++[x])->Q (!decide (x∈ss)) {s with heap:=h'}):wpAny (model P w) A (setAddHashed a (.str x tk) ((PySem.strKind P w).hash x)) Q E s:=by
 refine wpAny_setAddHashed_of (by rw[M8 rfl];simp) rfl Z O λ h' sb Y=>h h' sb ?_;unfold dN;by_cases c:x∈ss
 .rw[zl c]at Y;rw[if_pos c];have e:(λ k=>decide (k∈ss)||decide (k=x))=λ k=>decide (k∈ss):=funext λ k=>by
   by_cases q:k=x
   .rw[q];simp[c]
   .simp[q]
  rw[e]at Y;exact Y
 .rw[zn c]at Y;rw[if_neg c,zr];have e:(λ k=>decide (k∈ss)||decide (k=x))=λ k=>decide (k∈ss++[x]):=funext λ k=>by simp
  rw[e]at Y;exact Y
end
noncomputable def iy:Bool->Heap->Addr->Addr->Nat->Prop
 |true,h,it,c,i=>h.IsTupleIter it c i
 |false,h,it,c,i=>h.IsListIter it c i
noncomputable def gy:Bool->Heap->Addr->Array Value->Prop
 |true,h,c,us=>h.IsTuple c us
 |false,h,c,us=>h.IsList c us
section
variable{P:Program}{w:World}{A:Around}{E:dw}{s:Shared}{it c:Addr}{i:Nat}{us:gm}
theorem gy.keep(q:gy T h c us)(k:∀b o,h.get? b=some o->h'.get? b=some o):gy T h' c us:=by
 cases T with
 |true=>obtain⟨o,O,r⟩:=q;exact⟨o,k _ _ O,r⟩
 |false=>obtain⟨o,O,r⟩:=q;exact⟨o,k _ _ O,r⟩
theorem TX(a:iy T s.heap it c i)(b:gy T s.heap c us)(q:us[i]?=some x)(k:∀h',iy T h' it c (i+1)->Heap.SameBut it s.heap h'->Q (some x) {s with heap:=h'}):wpAny (model P w) A (pyNext (.ref it)) Q E s:=by
 cases T with
 |true=>exact wpAny_pyNext_tuple_item a b q k
 |false=>exact wpAny_pyNext_list_item a b q k
theorem PU(q:A.handled=none)(a:iy T s.heap it c i)(b:gy T s.heap c us)(O:us[i]?=none)(k:∀h',Heap.ExtBut it s.heap h'->Q none {s with heap:=h'}):wpAny (model P w) A (pyNext (.ref it)) Q E s:=by
 cases T with
 |true=>exact wpAny_pyNext_tuple_end q a b O k
 |false=>exact wpAny_pyNext_list_end q a b O k
theorem Ta(b:gy T s.heap c us)(k:∀oI:Obj,iy T (s.heap.push oI) s.heap.n c 0->Q (.ref s.heap.n) {s with heap:=s.heap.push oI}):wpAny (model P w) A (pyIter (.ref c)) Q E s:=by
 cases T with
 |true=>exact wpAny_pyIter_tuple b (k _ ⟨_,qk _ rfl,rfl,rfl⟩)
 |false=>exact wpAny_pyIter_list b (k _ ⟨_,qk _ rfl,rfl,rfl⟩)
theorem iy.same(q:iy T h it c i)(sb:Heap.SameBut b h h')(ne:it≠b):iy T h' it c i:=by
 cases T with
 |true=>obtain⟨o,O,r⟩:=q;exact⟨o,(sb.2 it ne).trans O,r⟩
 |false=>obtain⟨o,O,r⟩:=q;exact⟨o,(sb.2 it ne).trans O,r⟩
theorem dN.same(q:dN P w bt h a ss)(sb:Heap.SameBut b h h')(ne:a≠b):dN P w bt h' a ss:=by obtain⟨o,es,c,t,O,r⟩:=q;exact⟨o,es,c,t,(sb.2 a ne).trans O,r⟩
theorem dN.ext(q:dN P w bt h a ss)(O:Heap.ExtBut b h h')(ne:a≠b):dN P w bt h' a ss:=by obtain⟨o,es,c,t,Y,r⟩:=q;exact⟨o,es,c,t,O a _ ne Y,r⟩
theorem dN.keep(q:dN P w bt h a ss)(k:∀b o,h.get? b=some o->h'.get? b=some o):dN P w bt h' a ss:=by obtain⟨o,es,c,t,O,r⟩:=q;exact⟨o,es,c,t,k _ _ O,r⟩
theorem Ru(h:PyProof.Rows.StrsAre all xs)(e:xs.drop i=x::r):∃tk,all[i]?=some (.str x tk):=by
 induction h generalizing i with
 |nil=>simp at e
 |cons y t h O=>
  cases i with
  |zero=>
   rw[Yk]at e;injection e with e1 e2
   subst e1;exact⟨t,rfl⟩
  |succ i=>
   rw[List.drop_succ_cons]at e;grind
theorem Px(ao:hI.get? a=none)(ah:hI.get? it=none)(ac:a≠it)(sq:gy T hI c all.toArray)(sa:PyProof.Rows.StrsAre all ae)(hh:A.handled=none):∀(xs:aP)(O:aP)(s:Shared)(i:Nat),ae.drop i=xs->(∀b o,hI.get? b=some o->s.heap.get? b=some o)->iy T s.heap it c i->dN P w bt s.heap a O->O.length+xs.length+1<scanBound->(∀h' Z,(∀b o,hI.get? b=some o->h'.get? b=some o)->dN P w bt h' a (g_ O xs)->R (.ok (.ret .none)) {s with heap:=h',toks:=Z})->codeAny (model P w) A (.builtin "set.update.loop" ⟨[.ref a,.ref it],[]⟩) R s:=by
 intro xs;induction xs with
 |nil=>
  intro O s i e d g h p q;refine jv Yo ?_;rw[jn Qm _];show wpAny _ A.in1 (pyNext (.ref it) >>= _) _ _ s;have hl:all.length=ae.length:=by have:=sa.strs;rw[<-this,qz]
  have j:all.toArray[i]?=none:=by have:all[i]?=none:=List.getElem?_eq_none (by rw[hl];simpa using e);simpa using this
  refine qb (PU hh g (sq.keep d) j λ h' m=>qc ?_);exact q h' s.toks (λ b o Y=>m b o (λ z=>by rw[z,ah]at Y;cases Y) (d _ _ Y)) (h.ext m ac)
 |cons x xs F=>
  intro O s i e d g h p q;refine jv Yo ?_;rw[jn Qm _];show wpAny _ A.in1 (pyNext (.ref it) >>= _) _ _ s;obtain⟨f,B⟩:=Ru sa e;have j:all.toArray[i]?=some (.str x f):=by simpa using B
  refine qb (TX g (sq.keep d) j λ E r l=>?_);have u:∀b o,hI.get? b=some o->E.get? b=some o:=λ b o Y=>(l.2 b (λ z=>by rw[z,ah]at Y;cases Y)).trans (d _ _ Y);show wpAny _ A.in1 (holding [Value.str x f] (setAdd a (.str x f)) >>= _) _ _ _;refine qb (yo ?_);unfold setAdd;have t:(PySem.strKind P w).is x (.str x f)=true:=by rw[M8 rfl];simp
  refine yo (qb ((PySem.strKind P w).pyHash t ?_));simp only[zt]at p;refine Od (h.same l ac) aD λ n k y=>?_;have v:∀b o,hI.get? b=some o->n.get? b=some o:=λ b o Y=>(k.2 b (λ z=>by rw[z,ao]at Y;cases Y)).trans (u _ _ Y);have G:(kI O x).length<=O.length+1:=by
   unfold kI;split
   .lia
   .rw[zr];exact qj _
  refine qc ⟨Zd Qm _,?_⟩;exact F (kI O x) {s with heap:=n,toks:=s.toks+1} (i+1) (by rw[<-List.drop_drop,e];rfl) v (r.same k (jc ac)) y aD λ h' Z C D=>q h' Z C D
end
noncomputable abbrev pI(w:World):Bool:=w.params.followText "set-order"
abbrev kl(w:World):Obj:={cls:=.type "set",dict:=none,data:=.set #[] 0 (.fresh 0 0 (!pI w))}
theorem Ou:isSubtype (.type "tuple") (.type "set")=pure false:=by rw[isSubtype_type];kernel_rfl
theorem v_6:isSubtype (.type "tuple") (.type "frozenset")=pure false:=by rw[isSubtype_type];kernel_rfl
section
variable{P:Program}{w:World}{A:Around}{E:dw}{s:Shared}
theorem Py(h:Heap):dN P w (pI w) (h.push (kl w)) h.n []:=
 ⟨_,#[],0,_,qk _ rfl,⟨rfl,rfl,rfl⟩,rfl,λ e q=>(by simp at q),λ k=>by simp,by decide,by rfl,rfl⟩
theorem Td(v:Value)(h:Q₁ (.ref s.heap.n) {s with heap:=s.heap.push (kl w)}):codeAny (model P w) A (.call (.builtin "set.__new__") ⟨[.type "set",v],[]⟩) (wants Q₁ E) s:=by
 refine Yb ?_;refine qb (Zv (F.newCall_set_1 v) (qc ⟨Zd F.plain_set_new _,jv F.entry_set_new ?_⟩));rw[jn F.plain_set_new _];have sb:=sub_set_self;obtain⟨q,O,Y,k0,Z⟩:=s;wp_walk;refine wpAny_askSetting (qc ?_);exact qb (wpAny_alloc (qc (qc h)))
set_option maxHeartbeats 3200000 in
theorem Pg(hh:A.handled=none)(sq:gy T s.heap c all.toArray)(sa:PyProof.Rows.StrsAre all xs)(hz:xs.length+1<scanBound)(k:∀(h':Heap)(tk:Nat),(∀b o,s.heap.get? b=some o->h'.get? b=some o)->dN P w (pI w) h' s.heap.n (g_ [] xs)->Q (.ref s.heap.n) {s with heap:=h',toks:=tk}):wpAny (model P w) A (call (.type "set") [.ref c]) Q E s:=by
 obtain⟨mc,mt,mr⟩:=F.called_set.mro;have md:=F.called_set.made;have su:=F.called_set.sub;refine Q9 (Yb ?_);show wpAny _ _ (callAny (.type "set") _) _ _ _;refine qc ⟨Code.quiet_builtin _ aW,jv F.entry_type_call ?_⟩;rw[Around.under_plain (weight_type_call_type "set" [.ref c] []) rfl];have f3:=F.typeCall_set_1 (.ref c)
 repeat (any_goals (first|assumption|wp_step))
 refine Qj (Td (.ref c) (E:=E) (Q₁:=λ z s1=>z=.ref s.heap.n/\s1={s with heap:=s.heap.push (kl w)}) ⟨rfl,rfl⟩) λ r s1 hr=>?_;cases r with
 |error e=>exact hr
 |ok fl=>
  cases fl with
  |ret z=>
   obtain⟨rfl,rfl⟩:=hr;have aa:(s.heap.push (kl w)).get? s.heap.n=some (kl w):=qk _ rfl;have ac:Shared.TypeIs {s with heap:=s.heap.push (kl w)} (.ref s.heap.n) "set":=⟨_,aa,rfl⟩;have li:=F.called_set.init.lookup;have bi:=F.called_set.init.bind (.ref s.heap.n)
   repeat (any_goals (first|assumption|wp_step))
   refine Qj (Ze (R:=wants (λ r s2=>r=.none/\∃h' tk,s2={s with heap:=h',toks:=tk}/\(∀b o,s.heap.get? b=some o->h'.get? b=some o)/\dN P w (pI w) h' s.heap.n (g_ [] xs)) E) F.called_set.init.plain F.entry_set_init (check_set_init_1 ac ?_)) λ r2 s2 q=>?_
   .have O:gy T (s.heap.push (kl w)) c all.toArray:=sq.keep λ b o e=>qf _ e;have e1:∃TT:String,Shared.TypeIs {s with heap:=s.heap.push (kl w)} (.ref c) TT∧(isSubtype (.type TT) (.type "set")=pure false)∧(isSubtype (.type TT) (.type "frozenset")=pure false)∧(Value.type TT==Value.type "dict")=false:=by
     cases T with
     |true=>obtain⟨o,ho,hc,_⟩:=O;exact⟨"tuple",⟨o,ho,hc⟩,Ou,v_6,by decide⟩
     |false=>obtain⟨o,ho,hc,_⟩:=O;exact⟨"list",⟨o,ho,hc⟩,F.sub_list_set,F.sub_list_frozenset,by decide⟩
    obtain⟨TT,ah,n1,n2,n3⟩:=e1;unfold Builtin.«set.__init__» noKeywords Builtin.Frozenset.updateFrom;generalize ag:pyIter=PI;wp_walk;subst ag;refine Ta (s:={s with heap:=s.heap.push (kl w)}) O λ oI af=>?_;have sz:(s.heap.push (kl w)).objs.size=s.heap.n+1:=by rw[Qa]
    have none_of:∀n,s.heap.n<=n->s.heap.get? n=none:=λ n hn=>by
     cases z:s.heap.get? n with
     |none=>rfl
     |some o=>exact absurd (qm z) (Nat.not_lt.mpr hn)
    refine qb (wpAny_runValue ?_);refine Px (A:=A.in1.in1) (bt:=pI w) (hI:=s.heap) (none_of _ (qj _)) (none_of _ (by show s.heap.n<=(s.heap.push (kl w)).objs.size;rw[sz];exact Qu _)) (by show s.heap.n≠(s.heap.push (kl w)).objs.size;rw[sz];exact qv (Nat.lt_succ_self _)) sq sa hh
     xs [] {s with heap:=(s.heap.push (kl w)).push oI} 0 rfl (λ b o e=>qf _ (qf _ e)) af ((Py s.heap).keep λ b o e=>qf _ e) (by rw[List.length_nil];lia) λ h' tk Z Y=>?_
    refine qc (qc ?_);exact⟨rfl,h',tk,rfl,Z,Y⟩
   .cases r2 with
    |error e=>exact q
    |ok ae=>
     cases ae with
     |ret r=>
      obtain⟨rfl,h',tk,rfl,Z,Y⟩:=q
      repeat (any_goals (first|assumption|wp_step))
      exact k _ _ Z Y
     |_=>exact q.elim
  |_=>exact hr.elim
end
open PyProof.Rows L2
def n_(P:Program)(w:World)(a:Addr)(ss:aP):HO:=.ext λ h=>dN P w (pI w) h a ss
theorem Tr(q:dN P w (pI w) h a ss):bO P w H h a (n_ P w a ss):=by
 refine⟨q,?_,λ c d Y k=>?_⟩
 .obtain⟨o,es,b,t,O,_⟩:=q;exact⟨o,O⟩
 .obtain⟨o,es,b,t,O,r⟩:=Y;exact⟨o,es,b,t,k _ O,r⟩
theorem bS.side(s:aE H0 H)(O:H p=none):bS H0 H H0 (upd H p o):=by refine⟨aE.refl _,λ b u e=>by rw[bX (iU e O)];exact e,λ b u e=>?_,λ b u e=>.inl e⟩;have q:=s _ _ e;grind[bX]
theorem Uw(I:aI X aA S H s)(O:c9 X.K H p xs\/d8 X.K H p xs):∃(T:Bool)(q:cf),aM xs q/\gy T s.heap p q.toArray:=by
 rcases O with O|O
 .obtain⟨q,Y,a,_⟩:=I.list O;exact⟨false,q,Y,a.isList⟩
 .obtain⟨q,Y,Z,_⟩:=I.tuple O;exact⟨true,q,Y,Z⟩
theorem Oh(hc:X.c=true):bV X (.type "set") (λ xs H Q=>∃p ss,xs=[.ref p]∧(c9 X.K H p (ss.map V.str)∨d8 X.K H p (ss.map V.str))∧ss.length<1000∧∀l,H l=none→Q (.ref l) (upd H l (n_ X.p X.w l (g_ [] ss)))):=by
 intro aA s S H xs us Q I r h;obtain⟨p,ss,rfl,Y,e,q⟩:=h;obtain⟨u,rfl,O⟩:=gr r;cases O;obtain⟨T,d,Z,c⟩:=Uw I Y;refine Pg (I.ok.hd hc) c (Nr Z) (by unfold scanBound;lia) λ h' f b a=>?_;exact⟨.ref s.heap.n,_,I.laid b (qj _) (Tr a),rfl,q _ (I.hok.fresh (qj _))⟩
section
variable{X:Cx}
theorem SQ:bV X (.builtin "len") (λ xs H Q=>∃p ss,xs=[.ref p]∧H p=some (n_ X.p X.w p ss)∧Q (.int ss.length) H):=by
 intro aA s S H xs us Q I r h;obtain⟨p,ss,rfl,Y,q⟩:=h;obtain⟨u,rfl,O⟩:=gr r;cases O;obtain⟨o,es,d,t,c,a,hd,Z,e,sb,b,hn⟩:=(show bO X.p X.w H s.heap p (n_ X.p X.w p ss)from I.hok p _ Y).1;have lt:(es.size:Int)<2^63:=by
  have:scanBound<=2^62:=aH
  lia
 exact call_len_set c a hd b lt ⟨.int ss.length,H,I.tok _,⟨_,by rw[hn]⟩,q⟩
theorem Fz(h:qd xs=some d):∃ss:aP,xs=ss.map .str/\ss.length<1000/\d=.int ((g_ [] ss).length:Int):=by obtain⟨ss,e,f⟩:=aS h;obtain⟨l,rfl⟩:=cx f;exact⟨ss,fX e,l,rfl⟩
theorem Jl(hm:X.mg "set"=none)(af:X.mg "len"=none)(he:XE X a F)(hc:X.c=true:=by rfl)(hg:Gl X "set":=by rfl)(ag:Gl X "len":=by rfl)(h1:gP X a:=by rfl)(h2:starEach [.Call (.Name "set" p) [a] [] Y] X.v=[(false,eval (.Call (.Name "set" p) [a] [] Y) X.v)]:=by rfl):XE X (.Call (.Name "len" p2) [.Call (.Name "set" p) [a] [] Y] [] pos) (eF mz (aC F aN)):=
 PE.wk (uF SQ ag af PySem.boot_len (iT (Nj (Oh hc) hg hm PyProof.Rows.boot_set (ez he eP h1) aH aH h1 rfl) k7 h2) aH aH h2 rfl) λ S H Q u=>by
  obtain⟨c,H0,J,d,k,R,f,q⟩:=u;unfold eF at f;obtain⟨⟨ds,x⟩,B,f⟩:=aS f;obtain⟨y,e,f⟩:=aS f;have A:some (y,x)=some (d,k):=f;cases A;refine⟨c,H0,J,ds,_,R,B,λ vs E b C j r=>?_⟩;have Z:∀(g:Addr)(ss:aP),vs=[.ref g]->ss.length<1000->d=.int ((g_ [] ss).length:Int)->(c9 X.K b g (ss.map V.str)\/d8 X.K b g (ss.map V.str))->∃p ss,vs=[.ref p]/\(c9 X.K b p (ss.map V.str)\/d8 X.K b p (ss.map V.str))/\ss.length<1000/\∀l,b l=none->∃p n,[V.ref l]=[.ref p]/\upd b l (n_ X.p X.w l (g_ [] ss)) p=some (n_ X.p X.w p n)/\Q (.int n.length) (upd b l (n_ X.p X.w l (g_ [] ss))):=λ g ss z O h D=>by
   refine⟨g,ss,z,D,O,λ l hl=>⟨l,g_ [] ss,rfl,cM,?_⟩⟩;have m:=bS.side (o:=n_ X.p X.w l (g_ [] ss)) j.same hl;refine q _ _ _ (C.trans m.s0) (j.after m) ?_;rw[h];exact fV _ _
  have e:mz ds=some d:=e;unfold mz at e;split at e
  .obtain⟨ss,rfl,O,h⟩:=Fz e;obtain⟨v,rfl,i⟩:=aB.v1 r;unfold aU at i;obtain⟨p,ws,rfl,s,t⟩:=i;rw[DF t]at s;exact Z p ss rfl O h (.inl (aE.seq j.same s))
  .obtain⟨ss,rfl,O,h⟩:=Fz e;obtain⟨v,rfl,i⟩:=aB.v1 r;unfold aU at i;obtain⟨p,ws,rfl,s,t⟩:=i;rw[DF t]at s;exact Z p ss rfl O h (.inr (aE.seqT j.same s))
  .cases e
end
open Sem (wp)
def eo(T:Bool)(K:Frag)(H:Hp)(a:Addr)(xs:bY):Prop:=if T=true then d8 K H a xs else c9 K H a xs
def oq(T:Bool)(h:Heap)(a:Addr)(q:gm):Prop:=if T=true then IsTup h a q else h.IsList a q
def eD(T:Bool)(h:Heap)(i a:Addr)(k:Nat):Prop:=if T=true then IsTupIter h i a k else h.IsListIter i a k
theorem eD.at(x:eD T h i a k)(q:∀o,h.get? i=some o->h'.get? i=some o):eD T h' i a k:=by
 cases T with
 |true=>obtain⟨o,e,r⟩:=x;exact⟨o,q o e,r⟩
 |false=>exact Heap.IsListIter.at x q
theorem oq.at(x:oq T h a u)(q:∀o,h.get? a=some o->h'.get? a=some o):oq T h' a u:=by
 cases T with
 |true=>obtain⟨o,e,r⟩:=x;exact⟨o,q o e,r⟩
 |false=>obtain⟨o,e,r⟩:=x;exact⟨o,q o e,r⟩
abbrev zO(f0:Value)(f1:Bool)(TI TO:Addr):Obj:={cls:=.type "zip",dict:=none,data:=.fields #[f0,.bool f1,.bool false,.ref TI,.ref TO],slots:=#[]}
def tZ(T:Bool)(z TI TO i1 i2 a b:Addr)(i:Nat)(f0:Value)(f1:Bool)(h:Heap):Prop:=
 h.get? z=some (zO f0 f1 TI TO)/\IsPair h TI (.ref i1) (.ref i2)/\(∃u v,IsPair h TO u v)/\eD T h i1 a i/\eD T h i2 b i
abbrev zK(z TI TO i1 i2:Addr)(h h':Heap):=∀c o,c∉[z,TI,TO,i1,i2]->h.get? c=some o->h'.get? c=some o
noncomputable abbrev Al(h:Heap)(f0:Value):=f0=.none\/∃(T0:Addr)(o:Obj),f0=rawInt T0/\h.get? T0=some o/\o.cls≠.type "list"
noncomputable abbrev sI(h:Heap)(e:Addr):=∃o,h.get? e=some o/\o.cls=.type "StopIteration"
theorem z5{z TI TO i1 i2 c:Addr}(m:c∉[z,TI,TO,i1,i2]):c≠z/\c≠TI/\c≠TO/\c≠i1/\c≠i2:=by simpa using m
section
variable{prog:Program}{w:World}{A:Around}{E Q:dw}{s:Shared}{T:Bool}{z TI TO i1 i2 a b:Addr}{us vs:gm}{k:Nat}{f0:Value}{f1:Bool}
theorem cq8{Q}(h:Q (s.heap.get? a) s):bU prog w A (loadIfAlive a) Q E s:=λ O p q=>by
 unfold loadIfAlive;rw[Sem.wp_loadIfAlive];exact(qc h) O p q
theorem v5(Y:A.handled=none)(st:eD T s.heap i1 a k)(hb:oq T s.heap a us)(O:∀h' x,us[k]?=some x->eD T h' i1 a (k+1)->Heap.SameBut i1 s.heap h'->Q x {s with heap:=h'})(O':∀h' e,us[k]?=none->Heap.ExtBut i1 s.heap h'->sI h' e->E (.ref e) {s with heap:=h'}):bU prog w A (Builtin.SmallTypes.nextOf (.ref i1)) Q E s:=by
 cases T with
 |false=>
  cases b:us[k]? with
  |none=>exact wpAny_nextOf_list_end Y st hb b λ h' e=>O' h' e b
  |some x=>exact wpAny_nextOf_list_item st hb b λ h'=>O h' x b
 |true=>
  obtain⟨o,c,d,q⟩:=id st;obtain⟨g,Z,_,tn,f⟩:=hb;unfold Builtin.SmallTypes.nextOf;have ty:=IsTupIter.typeIs st;refine qb (wpAny_callSpecial?_slot ty slot_tupleiter_next (Q8 slot_tupleiter_next ty entry_tupleiter_next ?_ (args_tupleiter_next _)));show wpAny _ _ (field (.ref i1) 0 >>= _) _ _ s;refine qb (yj c q rfl ?_);show wpAny _ _ (if(Value.ref a==Value.none)=true then _ else _) _ _ s;rw[if_neg (by exact yf)];refine qb (yj c q rfl ?_);refine qb (Qv Z f ?_);simp only[Zx];cases b:us[k]? with
  |some x=>
   refine qb (wpAny_setField c q aQ (qc ⟨x,rfl,qc (O _ x b ?_ (Yq ..))⟩));refine⟨_,ji _ c (Obj.isFreed_of_fields (Obj.data_mapFields q _)),(Obj.cls_mapFields ..).trans d,?_⟩;rw[Obj.data_mapFields q];simp[rawInt]
  |none=>
   refine qb (wpAny_rule (qb (wpAny_setField c q aQ (qb ?_))));simp only[newExc,newTuple];refine qb (yi ?_ (by size_fits));refine qb (Zv (by first|rfl|(simp only[firstArgMember];rfl)) ?_);refine yi ?_ (by size_fits);simp only[raiseNew];refine qb (wpAny_handled ?_)
   first|rw[show A.in1.handled=none from Y]|rw[Y]
   exact qb (qc (wpAny_throw (O' _ _ b (((Yq ..).extBut.push _).push _) ⟨_,qk _ rfl,rfl⟩)))
theorem L5{h:Heap}{e:Addr}{f:Bool}(hz:h.get? z=some (zO f0 f TI TO))(O:sI h e):e≠z:=λ q=>by
 obtain⟨o,a,b⟩:=O;rw[q,hz]at a;cases a;simp at b
theorem P_(Y:A.handled=none)(D:ZipApart z TI TO i1 i2 a b)(Z:tZ T z TI TO i1 i2 a b k f0 f1 s.heap)(p1:oq T s.heap a us)(p2:oq T s.heap b vs)(al:Al s.heap f0)(O:∀h'(T0:Addr)g x y,us[k]?=some x->vs[k]?=some y->tZ T z TI TO i1 i2 a b (k+1) (rawInt T0) g h'->(T0=s.heap.n/\g=false\/f0≠.none/\∃o,s.heap.get? T0=some o/\o.cls≠.type "list")->IsPair h' s.heap.n x y->zK z TI TO i1 i2 s.heap h'->Q (.ref s.heap.n) {s with heap:=h'})(O':∀h' e,us[k]?=none\/vs[k]?=none->zK z TI TO i1 i2 s.heap h'->sI h' e->E (.ref e) {s with heap:=h'}):bU prog w A (Builtin.«zip.__next__» ⟨[.ref z],[]⟩) (λ f s'=>∃v,f=.done (.ret v)/\Q v s') E s:=by
 obtain⟨r,x2,⟨c,d,x3⟩,G,H⟩:=Z;show wpAny _ _ (field (.ref z) 2 >>= _) _ _ _;refine qb (yj r rfl rfl (qb (yj r rfl rfl (qb (Qv x2 rfl ?_)))));rcases al with rfl|⟨T0,o,rfl,hT,hl⟩
 .refine qb (qb (yj r rfl rfl (qc ?_)));simp only[if_true];refine qb (wpAny_rule (qb (yj r rfl rfl (qb (Qb r aQ λ P I l=>?_)))));have I:P.get? z=some (zO .ellipsis f1 TI TO):=I;refine qb ?_;simp only[List.zipIdx_cons,List.zipIdx_nil,List.forIn_cons,List.forIn_nil];refine qb (qb (wpAny_onRaise (qb (v5 (s:={s with heap:=P}) Y (G.at λ o=>(l.2 _ D.i1z).trans) (p1.at λ o=>(l.2 _ D.l1z).trans) (λ u x B G sb=>qc ?_) λ u e B xb i=>?_))))
  .have tb:IsPair u TO c d:=(sb.2 _ D.TOi1).trans ((l.2 TO D.TOz).trans x3);refine qb (Qv tb rfl (qb (wpAny_updateSeq_pair tb λ j tc sc=>qb (wpAny_letGo (qc ?_)))));have ck:∀c o,c≠z->c≠TO->c≠i1->s.heap.get? c=some o->j.get? c=some o:=λ c o p ρ t e=>(sc.2 c ρ).trans ((sb.2 c t).trans ((l.2 c p).trans e));have zc:j.get? z=some (zO .ellipsis f1 TI TO):=(sc.2 z D.TOz.symm).trans ((sb.2 z D.i1z.symm).trans I);refine qb (qb (wpAny_onRaise (qb (v5 (s:={s with heap:=j}) Y (H.at λ o=>ck _ o D.i2z D.TOi2.symm D.i12.symm) (p2.at λ o=>ck _ o D.l2z D.l2TO D.l2i1) (λ hd y C H R=>qc ?_) λ hd e C xd i=>?_))))
   .have td:hd.get? TO=some {cls:=.type "tuple",data:=.seq #[x,d]}:=(R.2 _ D.TOi2).trans tc;refine qb (Qv td rfl (qb (wpAny_updateSeq_pair td λ i te σ=>qb (wpAny_letGo (qc (qc ?_))))));have te:IsPair i TO x y:=te;have N:i.objs.size=s.heap.n:=by rw[σ.1,R.1,sc.1,sb.1,l.1]
    have ze:i.get? z=some (zO .ellipsis f1 TI TO):=(σ.2 z D.TOz.symm).trans ((R.2 z D.i2z.symm).trans zc);refine qb (Qv te rfl (qb (wpAny_newTuple ?_)));refine qb ?_;have zf:(i.push {cls:=.type "tuple",data:=.seq #[x,y]}).get? z=some (zO .ellipsis f1 TI TO):=qf _ ze;unfold Builtin.SmallTypes.ownedTupleHandOut;refine qb (Qb zf aQ λ K X sg=>?_);have X:K.get? z=some (zO (rawInt i.objs.size) f1 TI TO):=X;refine Qb X aQ λ hi zi si=>qc ⟨_,rfl,?_⟩;have F:∀c o,c≠z->i.get? c=some o->hi.get? c=some o:=λ c o p e=>(si.2 c p).trans ((sg.2 c p).trans (qf _ e));have W:∀c o,c≠z->c≠TO->c≠i2->j.get? c=some o->hi.get? c=some o:=λ c o p ρ t e=>F c o p ((σ.2 c ρ).trans ((R.2 c t).trans e));have nz:=Y1 (qm ze);have L:IsPair hi i.objs.size x y:=(si.2 _ nz).trans ((sg.2 _ nz).trans (qk _ rfl));show Q (.ref i.objs.size) _;rw[N]at L⊢;exact O hi i.objs.size _ x y B C ⟨zi,W _ _ D.TIz D.TITO D.TIi2 (ck _ _ D.TIz D.TITO D.TIi1 x2),⟨x,y,F _ _ D.TOz te⟩,G.at λ o e=>W _ o D.i1z D.TOi1.symm D.i12 ((sc.2 _ D.TOi1.symm).trans e),H.at λ o e=>F _ o D.i2z ((σ.2 _ D.TOi2.symm).trans e)⟩ (.inl ⟨N,rfl⟩) L λ c o m e=>have ⟨a,_,b,d,f⟩:=z5 m;W c o a b f (ck c o a b d e)
   .have M:=xd z _ D.i2z.symm zc;have U:=L5 M i;obtain⟨V,e1,e2⟩:=i;exact Qb M aQ λ K _ sg=>O' K e (.inr C) (λ c o m q=>have ⟨a,_,b,d,f⟩:=z5 m;(sg.2 c a).trans (xd c o f (ck c o a b d q))) ⟨V,(sg.2 e U).trans e1,e2⟩
  .have M:=xb z _ D.i1z.symm I;have U:=L5 M i;obtain⟨V,e1,e2⟩:=i;exact Qb M aQ λ K _ sg=>O' K e (.inl B) (λ c o m q=>have ⟨a,_,_,d,_⟩:=z5 m;(sg.2 c a).trans (xb c o d ((l.2 c a).trans q))) ⟨V,(sg.2 e U).trans e1,e2⟩
 .have fr:bU prog w A (Builtin.SmallTypes.ownedTupleIsFree (.ref z)) (λ f s'=>f=false/\∃h',s'={s with heap:=h'}/\h'.get? z=some (zO (rawInt T0) true TI TO)/\Heap.SameBut z s.heap h') E s:=by
   unfold Builtin.SmallTypes.ownedTupleIsFree;refine qb (yj r rfl rfl ?_);show wpAny _ _ (loadIfAlive (Int.toNat (T0:Int)) >>= _) _ _ s;rw[Zx];refine qb (cq8 ?_);rw[hT];show wpAny _ _ (field (.ref z) 1 >>= _) _ _ s;refine qb (yj r rfl rfl ?_);cases f1 with
   |false=>exact qb (Qb r aQ λ h' O sb=>qc ⟨rfl,h',rfl,O,sb⟩)
   |true=>exact qc ⟨rfl,s.heap,rfl,r,rfl,λ _ _=>rfl⟩
  refine qb (yd fr (λ f s' q=>?_) λ _ _ h=>h);obtain⟨rfl,P,rfl,I,l⟩:=q;rw[if_neg (yf)];refine qb ?_;simp only[<-Array.forIn_toList,List.forIn_cons,List.forIn_nil];refine qb (qb (yo (qb (v5 (s:={s with heap:=P}) Y (G.at λ o=>(l.2 _ D.i1z).trans) (p1.at λ o=>(l.2 _ D.l1z).trans) (λ u x B G sb=>qc (qc ?_)) λ u e B xb i=>O' u e (.inl B) (λ c o m q=>have ⟨a,_,_,d,_⟩:=z5 m;xb c o d ((l.2 c a).trans q)) i))));have ck:∀c o,c≠z->c≠i1->s.heap.get? c=some o->u.get? c=some o:=λ c o p t e=>(sb.2 c t).trans ((l.2 c p).trans e);refine qb (qb (yo (qb (v5 (s:={s with heap:=u}) Y (H.at λ o=>ck _ o D.i2z D.i12.symm) (p2.at λ o=>ck _ o D.l2z D.l2i1) (λ j y C H sc=>qc (qc (qc ?_))) λ j e C xc i=>O' j e (.inr C) (λ c o m q=>have ⟨a,_,_,d,f⟩:=z5 m;xc c o f (ck c o a d q)) i))));have N:j.objs.size=s.heap.n:=by rw[sc.1,sb.1,l.1]
  refine qb (wpAny_newTuple (qc ⟨_,rfl,?_⟩) (by show(2:Nat)<=sizeLine;decide));have F:∀c o,c≠z->c≠i1->c≠i2->s.heap.get? c=some o->(j.push {cls:=.type "tuple",data:=.seq #[x,y]}).get? c=some o:=λ c o p ρ t e=>qf _ ((sc.2 c t).trans (ck c o p ρ e));have L:IsPair (j.push {cls:=.type "tuple",data:=.seq #[x,y]}) j.objs.size x y:=qk _ rfl;show Q (.ref j.objs.size) _;rw[N]at L⊢;exact O _ T0 _ x y B C ⟨qf _ ((sc.2 z D.i2z.symm).trans ((sb.2 z D.i1z.symm).trans I)),F _ _ D.TIz D.TIi1 D.TIi2 x2,⟨c,d,F _ _ D.TOz D.TOi1 D.TOi2 x3⟩,G.at λ o e=>qf _ ((sc.2 _ D.i12).trans e),H.at λ o e=>qf _ e⟩ (.inr ⟨nofun,o,hT,hl⟩) L λ c o m e=>have ⟨a,_,_,d,f⟩:=z5 m;F c o a d f e
end
def zq(h:Heap)(a b:Addr):Heap:=
 ((((h.push {cls:=.type "tuple_iterator",data:=.fields #[.ref a,.int 0 0]}).push {cls:=.type "tuple_iterator",data:=.fields #[.ref b,.int 0 0]}).push {cls:=.type "tuple",data:=.seq #[.ref h.n,.ref (h.n+1)]}).push
  {cls:=.type "tuple",data:=.seq #[.none,.none]}).push (zO .none false (h.n+2) (h.n+3))
theorem vL{h:Heap}(e:h.n=n)(q:o.isFreed=false):(h.push o).get? n=some o:=by subst e;exact qk _ q
theorem IsTup.pushed(x:IsTup h t xs)(o:Obj):IsTup (h.push o) t xs:=let ⟨p,e,r⟩:=x;⟨p,qf _ e,r⟩
theorem Rg(O Y:Addr)(xs ys:gm):Meets (Builtin.«zip.__new__» ⟨[.type "zip",.ref O,.ref Y],[]⟩) (λ _ R s=>IsTup s.heap O xs∧IsTup s.heap Y ys∧R (.ok (.ret (.ref (s.heap.n+4)))) {s with heap:=zq s.heap O Y}):=
 .of_wp λ prog w A R s h=>by
  obtain⟨q,g,d,f,os⟩:=s;obtain⟨c,e,h⟩:=h;have Z:=PySem.sub_zip;have a:=c;have b:IsTup (Shared.heap ⟨q.push {cls:=.type "tuple_iterator",data:=.fields #[.ref O,.int 0 0]},g,d,f,os⟩) Y ys:=IsTup.pushed e _;wp_walk using iter_tuple a,iter_tuple b;refine⟨_,rfl,?_⟩;simp only[Qa];exact h
theorem Ow(h1:IsTup s.heap q xs)(h2:IsTup s.heap O ys)(Y:∀h',h'.get? (s.heap.n+4)=some (zO .none false (s.heap.n+2) (s.heap.n+3))->IsPair h' (s.heap.n+2) (.ref s.heap.n) (.ref (s.heap.n+1))->IsPair h' (s.heap.n+3) .none .none->IsTupIter h' s.heap.n q 0->IsTupIter h' (s.heap.n+1) O 0->(∀c o,s.heap.get? c=some o->h'.get? c=some o)->Q (.ref (s.heap.n+4)) {s with heap:=h'}):bU prog w A (call (.type "zip") [.ref q,.ref O]) Q E s:=by
 refine callType_new F.called_zip aH (F.typeCall_zip_2 _ _) (F.newCall_zip_2 _ _) (λ obj=>F.args_object_init_3 obj _ _) F.entry_zip_new (Rg q O xs ys) ⟨h1,h2,?_⟩;have a:(zq s.heap q O).get? (s.heap.n+4)=some (zO .none false (s.heap.n+2) (s.heap.n+3)):=vL (by simp only[Heap.n,Qa]) rfl;exact⟨⟨_,a,rfl⟩,Y _ a (qf _ (qf _ (vL (by simp only[Heap.n,Qa]) rfl))) (qf _ (vL (by simp only[Heap.n,Qa]) rfl)) ⟨_,qf _ (qf _ (qf _ (qf _ (qk _ rfl)))),rfl,rfl⟩ ⟨_,qf _ (qf _ (qf _ (vL (by simp only[Heap.n,Qa]) rfl))),rfl,rfl⟩ λ c o e=>qf _ (qf _ (qf _ (qf _ (qf _ e))))⟩
end Fx
namespace Fx
open PySem PySem.Spec PyProof.Rows L2
structure ka(X:Cx)(fp:fB)(it:Addr)(tn:Nat->Heap->Prop)(n:Nat)(W:Nat->Hp->bY->Prop):Prop where
 hn:n<=1000
 mem:it∈fp
 ty:∀{i h},tn i h->∃f0 f1 TI TO,h.get? it=some (zO f0 f1 TI TO)
 obj:∀i h,tn i h->∀b∈fp,b<h.n
 keep:∀i h h'(σ:Addr),tn i h->σ∉fp->(∀o,h.get? σ=some o->o.cls=.type "list")->(∀b o,b≠σ->h.get? b=some o->h'.get? b=some o)->tn i h'
 item:∀(A:Around)(i:Nat)(aA:cB)(s:Shared)(S:L2.St)(H:Hp)(E:dw)(vs:bY),A.handled=none->aI X aA S H s->(∀b∈fp,cK X aA H b)->tn i s.heap->i<n->W i H vs->wpAny (model X.p X.w) A (pyNext (.ref it)) (λ r s1=>∃u x H',r=some u/\aI X aA S H' s1/\aX x u/\W (i+1) H' (vs++[x])/\tn (i+1) s1.heap/\(∀b,cK X aA H b->b<s.heap.n->cK X aA H' b)/\∀b o,b∉fp->s.heap.get? b=some o->s1.heap.get? b=some o) E s
 done:∀(A:Around)(aA:cB)(s:Shared)(S:L2.St)(H:Hp)(E:dw)(vs:bY),A.handled=none->aI X aA S H s->(∀b∈fp,cK X aA H b)->tn n s.heap->W n H vs->wpAny (model X.p X.w) A (pyNext (.ref it)) (λ r s1=>r=none/\aI X aA S H s1/\∀b o,b∉fp->s.heap.get? b=some o->s1.heap.get? b=some o) E s
abbrev lO(q:cf)(c:Nat):Obj:={cls:=.type "list",dict:=none,data:=.seq q.toArray c,slots:=#[]}
section
variable{X:Cx}{fp:fB}{it σ:Addr}{tn:Nat->Heap->Prop}{aA:cB}{S:L2.St}{A:Around}{R:Result->Shared->Prop}{n:Nat}{W:Nat->Hp->List V->Prop}{s:Shared}{H:Hp}
theorem RD(C:ka X fp it tn n W)(hA:A.handled=none)(hS:σ∉fp)(res:Value)(ah:∀s' H' ac aa c',aI X aA S H' s'->H' σ=none->s'.heap.get? σ=some (lO aa c')->aM ac aa->ac.length=n->W n H' ac->R (.ok (.ret res)) s'):∀(m i:Nat)(s:Shared)(H:Hp)(vs:bY)(O:cf)(c:Nat),n-i=m->i<=n->aI X aA S H s->(∀b∈σ::fp,cK X aA H b)->tn i s.heap->s.heap.get? σ=some (lO O c)->aM vs O->vs.length=i->W i H vs->codeAny (model X.p X.w) A (.builtin "list.extend.loop" ⟨[.ref σ,.ref it,res],[]⟩) R s:=by
 intro m;induction m<;>intro i s H vs O c D hi I f g hL h hl hw<;>refine jv PySem.F.entry_extend_loop ?_<;>rw[jn Zu _]<;>have Z:=λ b Y=>f b (qh _ Y)
 case zero=>
  have e:i=n:=aD;subst e;refine qb (yd (C.done A.in1 aA s S H _ vs hA I Z g hw) (λ r j Z=>?_) λ _ _ z=>z);obtain⟨rfl,a,k⟩:=Z;exact qc (ah j H vs O c a (f σ qg).1 (k σ _ hS hL) h hl hw)
 case succ m ih=>
  have lt:i<n:=aD;refine qb (yd (C.item A.in1 i aA s S H _ vs hA I Z g lt hw) (λ r j Z=>?_) λ _ _ z=>z);obtain⟨u,x,l,rfl,a,y,t,p,v,k⟩:=Z;have d:=k σ _ hS hL;have free:=λ b Y=>v b (f b Y) (by
   rcases qx Y with rfl|Y
   .exact qm hL
   .exact C.obj _ _ g b Y)
  have B:O.length=i:=by rw[<-h.length];exact hl
  have big:(1001:Nat)<=sizeLine:=aH;have:=C.hn;refine qb (Zh d rfl (qc ⟨Zd Zu _,ih (i+1) _ l (vs++[x]) (O++[u]) (c+1) aD lt ?_ free ?_ ?_ (h.append (.cons y .nil)) (by rw[zr,hl];rfl) t⟩) (by rw[zk];lia) (by rw[Array.size_push,zk];lia))
  .exact aI.turnedL (fs:=[σ]) a (λ b o Y q=>(jg _ _ (λ e=>Y (by simp[e]))).trans q) λ b Y=>by rw[dt Y];exact free σ qg
  .exact C.keep _ _ _ σ p hS (λ o q=>by rw[d]at q;cases q;rfl) λ b o Y q=>(jg _ _ (jc Y)).trans q
  .rw[ji _ d rfl];simp[Obj.mapSeq]
theorem S8:typeLookup (.type "zip") "__len__"=pure none:=by rw[typeLookup_type,builtinLookup_eq_fast];kernel_rfl
theorem So:typeLookup (.type "zip") "__length_hint__"=pure none:=by rw[typeLookup_type,builtinLookup_eq_fast];kernel_rfl
theorem IV(C:ka X fp it tn n W)(hA:A.handled=none)(hS:σ∉fp)(res:Value)(ac:∀s' H' Z Y c',aI X aA S H' s'->H' σ=none->s'.heap.get? σ=some (lO Y c')->aM Z Y->Z.length=n->W n H' Z->R (.ok (.ret res)) s')(I:aI X aA S H s)(hf:∀b∈σ::fp,cK X aA H b)(ht:tn 0 s.heap)(hL:s.heap.get? σ=some (lO [] c))(hw:W 0 H []):wpAny (model X.p X.w) A.in1 (Builtin.List.listExtendWith (.ref σ) (.ref it) res) (λ f s'=>match f with| .done f=>R (.ok f) s'| .again c'=>c'.quiet=true/\codeAny (model X.p X.w) A c' R s') (λ e s'=>R (.error e) s') s:=by
 obtain⟨_,_,_,_,d⟩:=C.ty ht;have ty:s.TypeIs (.ref it) "zip":=⟨_,d,rfl⟩;refine qb (Z8 ty ?_);have g:Builtin.List.listSameRef (.ref σ) (.ref it)=false:=beq_eq_false_iff_ne.mpr λ e=>hS (e▸C.mem);rw[g];refine wpAny_ite_split (λ z=>absurd z aH) λ _=>?_;refine qb (wpAny_pyIter_slot ty PySem.F.slot_zip_iter (Q8 PySem.F.slot_zip_iter ty PySem.F.entry_zip_iter (qc ⟨_,rfl,"zip",_,ty,PySem.F.slot_zip_next.lookup,?_⟩) (PySem.F.args_zip_iter_1 _)));refine qb (yo (qb (wpAny_specialOf ty S8 (qb (wpAny_specialOf ty So (qc ?_))))));refine wpAny_ite_split (λ _=>?_) λ z=>absurd rfl z;refine qb (wpAny_rule ?_);have a:(s.heap.update σ (Obj.mapSeq (·.push Value.none))).get? σ=some (lO [.none] (c+1)):=by rw[ji _ hL rfl];simp[Obj.mapSeq]
 have h:((s.heap.update σ (Obj.mapSeq (·.push Value.none))).update σ (Obj.mapSeq (·.pop))).get? σ=some (lO [] (c+1+1)):=by rw[ji _ a rfl];simp[Obj.mapSeq]
 have far:∀b o,b≠σ->s.heap.get? b=some o->((s.heap.update σ (Obj.mapSeq (·.push Value.none))).update σ (Obj.mapSeq (·.pop))).get? b=some o:=λ b o O q=>
  (jg _ _ (jc O)).trans ((jg _ _ (jc O)).trans q)
 refine qb (qb (Zh hL rfl (Zh a rfl ?_ aH (by exact yg _)) (by exact yg _) aH));refine qc ⟨Zd Zu _,RD C hA hS res ac n 0 _ H [] [] (c+1+1) rfl (yg _) (aI.turnedL (s:=s) (fs:=[σ]) I (λ b o O q=>far b o (λ e=>O (by simp[e])) q) λ b O=>by rw[dt O];exact hf σ qg) hf
  (C.keep _ _ _ σ ht hS (λ o q=>by rw[hL]at q;cases q;rfl) λ b o O q=>far b o O q) h .nil rfl hw⟩
end
end Fx
namespace L2
open PySem PySem.Spec PyProof.Rows
theorem aI.track(I:aI X aA S H s)(hf:cK X aA H a)(Y:X.s₀.heap.n<=a)(new:bO X.p X.w (upd H a o) s.heap a o):aI X aA S (upd H a o) s:=by
 obtain⟨hn,hl,_,_,g,h⟩:=hf;have d:∀{b:Addr}{u:HO},H b=some u->b≠a:=λ q=>iU q hn;have lt:∀{b:Addr}{u:Obj},X.s₀.heap.get? b=some u->b≠a:=λ q=>qv (qt (qm q) Y);refine⟨I.ok,I.os,I.bare,⟨I.base.keep,I.base.slot,λ b u q n i=>by rw[bX (lt q)];exact I.base.free b u q n i,I.base.there,λ b xs q=>?_,λ b u v q=>?_,λ b ps q=>?_⟩,I.loc,I.cell,by rw[bX (jc hl)];exact I.free,λ x c q=>by rw[bX (g x c q)];exact I.freeC x c q,λ p f=>?_,λ b u e=>?_,I.len⟩
 .have z:=I.base.tups b xs q;rw[bX (d z)];exact z
 .have z:=I.base.frzs b u v q;rw[bX (d z)];exact z
 .obtain⟨O,z⟩:=I.base.tbls b ps q;exact⟨O,by rw[bX (d z)];exact z⟩
 .obtain⟨j,p2,k⟩:=I.pin p f;exact⟨j,by rw[bX (h p f)];exact p2,k⟩
 .by_cases Z:b=a
  .subst Z;rw[cM]at e;cases e;exact new
  .rw[bX Z]at e;exact(I.hok b u e).stay (λ c v _ q=>q) (λ c q=>by rw[bX (d q)];exact q) λ c xs q=>by rw[bX (d q)];exact q
end L2
namespace Fx
open PySem PySem.Spec PyProof.Rows L2
section
variable{X:Cx}{fp:fB}{it:Addr}{tn:Nat->Heap->Prop}{aA:cB}{S:L2.St}{n:Nat}{W:Nat->Hp->List V->Prop}{s:Shared}{H:Hp}
theorem Ri(hc:X.c=true)(C:ka X fp it tn n W)(I:aI X aA S H s)(hf:∀b∈fp,cK X aA H b)(ht:tn 0 s.heap)(hw:W 0 H [])(ag:∀H' O p,H' p=none->O.length=n->W n H' O->Q (.ref p) (upd H' p (.l O))):bU X.p X.w X.A (call (.type "list") [.ref it]) (EP X aA S Q) X.xe s:=by
 have big:(1001:Nat)<=sizeLine:=aH;refine callType_codes (Q₁:=λ o f=>o=.ref s.heap.n∧f={s with heap:=s.heap.push {cls:=.type "list",data:=.seq #[]}}) PySem.F.called_list (PySem.F.typeCall_list_1 _) PySem.F.entry_list_init (code_list_new _ ⟨rfl,rfl⟩) λ o f m=>?_;obtain⟨rfl,rfl⟩:=m;have new:(s.heap.push {cls:=.type "list",data:=.seq #[]}).get? s.heap.n=some {cls:=.type "list",data:=.seq #[]}:=qk _ rfl;have e2:((s.heap.push {cls:=.type "list",data:=.seq #[]}).update s.heap.n (Obj.mapSeq (λ _=>(#[]:gm)))).get? s.heap.n=some (lO [] 0):=by rw[ji (Obj.mapSeq (λ _=>(#[]:gm))) new rfl];simp[Obj.mapSeq]
 have g:∀b o,s.heap.get? b=some o→((s.heap.push {cls:=.type "list",data:=.seq #[]}).update s.heap.n (Obj.mapSeq (λ _=>(#[]:gm)))).get? b=some o:=λ b o e=>
  (jg _ _ (Y1 (qm e))).trans (qf _ e)
 have c:=λ z=>yu _ (C.obj _ _ ht _ z);have d:=I.fpOk (qj _) (I.hok.fresh (qj _));refine⟨⟨_,new,rfl⟩,PySem.F.args_list_init_2 _ _,?_⟩;refine qb (qb (Qv new rfl (qc ?_)));refine qb (Zh new rfl ?_);refine qb (wpAny_letGo ?_);refine IV (A:=X.A.in1) C (I.ok.hd hc) c .none (λ s' H' O i l h Z j r hl k=>?_) (I.kept g) (λ b a=>?_) (C.keep _ _ _ s.heap.n ht c (λ o q=>absurd (qm q) (yu _)) λ b o _ q=>g b o q) e2 hw
 .have:=C.hn;refine⟨rfl,.ref s.heap.n,_,h.track (o:=.l O) ⟨Z,d.2⟩ I.sz ⟨by lia,i,l,r,j⟩,rfl,ag H' O _ Z hl k⟩
 .rcases qx a with rfl|a
  .exact d
  .exact hf b a
theorem O0{A:Around}{E:Value->Shared->Prop}{Qc:List Value->Shared->Prop}(hA:A.handled=none)(C:ka X fp it tn n W)(I:aI X aA S H s)(hf:∀b∈fp,cK X aA H b)(ht:tn 0 s.heap)(hw:W 0 H [])(af:∀s' H' Y O,aI X aA S H' s'->aM Y O->Y.length=n->W n H' Y->Qc O s'):wpAny (model X.p X.w) A (collect (.ref it)) Qc E s:=by
 unfold collect;refine qb (wpAny_runValue (jv PySem.F.entry_proto_collect ?_));rw[jn PySem.F.plain_proto_collect _];show wpAny _ A.in1 (newList [] >>= λ z=>again (.builtin "list.__iadd__" ⟨[z,.ref it],[]⟩)) _ _ s;refine qb (yi (qc ⟨Zd PySem.F.plain_list_iadd _,jv PySem.F.entry_list_iadd ?_⟩));rw[jn PySem.F.plain_list_iadd _];have m:(s.heap.push {cls:=.type "list",data:=.seq ([]:List Value).toArray}).get? s.heap.n=some (lO [] 0):=qk _ rfl;have j:∀b o,s.heap.get? b=some o→(s.heap.push {cls:=.type "list",data:=.seq ([]:List Value).toArray}).get? b=some o:=λ b o e=>qf _ e;have i:s.heap.n∉fp:=λ z=>yu _ (C.obj _ _ ht _ z);have l:cK X aA H s.heap.n:=I.fpOk (qj _) (I.hok.fresh (qj _));show wpAny _ A.in1 (Builtin.List.listExtendWith (.ref s.heap.n) (.ref it) (.ref s.heap.n)) _ _ _;have key:=IV (A:=A) (H:=H) (s:={s with heap:=s.heap.push {cls:=.type "list",data:=.seq ([]:List Value).toArray}}) (R:=λ(q:Result)(s':Shared)=>q=.ok (.ret (.ref s.heap.n))∧∃H' Y O d,aI X aA S H' s'∧s'.heap.get? s.heap.n=some (lO O d)∧aM Y O∧Y.length=n∧W n H' Y)
  C hA i (.ref s.heap.n) (λ s' H' Y O d a r Z g hl c=>⟨rfl,H',Y,O,d,a,Z,g,hl,c⟩) (I.kept (t':=s.toks) j) (λ b h=>by
   rcases qx h with rfl|h
   .exact l
   .exact hf b h) (C.keep _ _ _ s.heap.n ht i (λ o q=>absurd (qm q) (yu _)) λ b o _ q=>j b o q) m hw
 refine yd key (λ f s' x=>?_) λ e s' x=>?_
 .cases f with
  |done f=>
   obtain⟨e,H',Y,O,d,a,Z,g,hl,c⟩:=x;cases e;show wpAny _ A (load s.heap.n >>= _) _ _ _;exact qb (wpAny_load Z (qc (af s' H' Y O a g hl c)))
  |again p=>
   refine⟨x.1,Qj x.2 λ q k y=>?_⟩;obtain⟨rfl,H',Y,O,d,a,Z,g,hl,c⟩:=y;show wpAny _ A (load s.heap.n >>= _) _ _ _;exact qb (wpAny_load Z (qc (af k H' Y O a g hl c)))
 .cases x.1
theorem Tf(hc:X.c=true)(C:ka X fp it tn n W)(I:aI X aA S H s)(hf:∀b∈fp,cK X aA H b)(ht:tn 0 s.heap)(hw:W 0 H [])(ac:∀H' Y p,H' p=none->Y.length=n->W n H' Y->Q (.ref p) (upd H' p (.t Y))):bU X.p X.w X.A (call (.type "tuple") [.ref it]) (EP X aA S Q) X.xe s:=by
 have g:=I.ok.hd hc;have big:(1001:Nat)<=sizeLine:=aH;obtain⟨_,_,_,_,h⟩:=C.ty ht;have ty:s.TypeIs (.ref it) "zip":=⟨_,h,rfl⟩;refine callType_codes (Q₁:=λ o a=>a.TypeIs o "tuple"∧EP X aA S Q o a) PySem.F.called_tuple (PySem.F.typeCall_tuple_1 _) PySem.F.entry_object_init (Yb ?_) λ o a c=>⟨c.1,PySem.F.args_object_init_2 o _,object_init_meets PySem.F.called_tuple.init.lookup PySem.F.called_tuple.made aH X.p X.w X.A.in1 _ a ⟨c.1,rfl,c.2⟩⟩
 refine qb (Zv (PySem.F.newCall_tuple_1 _) (qc ⟨Zd PySem.F.plain_tuple_new _,jv PySem.F.entry_tuple_new ?_⟩));rw[jn PySem.F.plain_tuple_new _];have j:=sub_tuple_self;have k:=init_tuple_lookup;have l:=madeHere_tuple;wp_walk using Z8 ty,O0 (A:=X.A.in1.in1) g C I hf ht hw;intro s' H' Y O d e hl f;have i:O.length=n:=by rw[<-e.length];exact hl
 have:=C.hn;show wpAny _ _ (Builtin.Tuple.tupleExact O.toArray >>= λ v=>ret v) _ _ _;refine qb (yi (qc ?_) (by show O.toArray.size<=sizeLine;rw[zk];lia));refine⟨⟨_,qk _ rfl,rfl⟩,.ref s'.heap.n,_,d.laid (o:=.t Y) (λ b o q=>qf _ q) (qj _) ⟨by lia,O,e,d6.new _ _⟩,rfl,ac H' Y _ (d.hok.fresh (qj _)) hl f⟩
end
theorem eo.inv(I:aI X aA S H s)(h:eo T X.K H a xs):∃q:cf,aM xs q/\oq T s.heap a q.toArray/\xs.length<=sizeLine:=by
 cases T with
 |true=>
  obtain⟨q,r,p,z⟩:=I.tuple h;exact⟨q,r,p,z⟩
 |false=>
  obtain⟨q,r,p,z⟩:=I.list h;exact⟨q,r,p.isList,z⟩
theorem eo.inj(I:aI X aA S H s)(h:eo T X.K H a xs)(h':eo T X.K H a ys):xs=ys:=by
 cases T with
 |true=>exact I.tuple_inj h h'
 |false=>exact I.list_inj h h'
theorem eo.same{K:Frag}(s:aE H H')(h:eo T K H a xs):eo T K H' a xs:=by
 cases T with
 |true=>exact aE.seqT s h
 |false=>exact aE.seq s h
theorem tZ.keep{z TI TO i1 i2 a b:Addr}(x:tZ T z TI TO i1 i2 a b i f0 f1 h)(k:∀c∈[z,TI,TO,i1,i2],∀o,h.get? c=some o->h'.get? c=some o):tZ T z TI TO i1 i2 a b i f0 f1 h':=by obtain⟨Y,x2,⟨u,v,q⟩,O,Z⟩:=x;exact⟨k z aQ _ Y,k TI aQ _ x2,⟨u,v,k TO aQ _ q⟩,O.at λ o e=>k i1 aQ o e,Z.at λ o e=>k i2 aQ o e⟩
theorem eD.obj(y:eD T h i a k):∃o,h.get? i=some o∧(∀v,o.data≠.cell v)∧o.cls≠.type "list":=by
 cases T with
 |true=>obtain⟨o,e,q,d⟩:=y;exact⟨o,e,by simp[d],by rw[q];decide⟩
 |false=>obtain⟨o,e,q,d⟩:=y;exact⟨o,e,by simp[d],by rw[q];decide⟩
theorem tZ.obj{z TI TO i1 i2 a b:Addr}(x:tZ T z TI TO i1 i2 a b i f0 f1 h):∀c∈[z,TI,TO,i1,i2],∃o,h.get? c=some o∧(∀v,o.data≠.cell v)∧o.cls≠.type "list":=by
 obtain⟨d,x2,⟨u,v,Y⟩,Z,e⟩:=x;intro c O;simp only[yc,zv,jd]at O;rcases O with rfl|rfl|rfl|rfl|rfl
 .exact⟨_,d,by simp,aQ⟩
 .exact⟨_,x2,by simp,aQ⟩
 .exact⟨_,Y,by simp,aQ⟩
 .exact Z.obj
 .exact e.obj
theorem aM.got{xs:bY}{us:cf}{k:Nat}{x:Value}(r:aM xs us)(h:us.toArray[k]?=some x):∃v,xs[k]?=some v/\aX v x:=by
 cases e:xs[k]? with
 |none=>have:=r.none_of e;simp[this]at h
 |some v=>obtain⟨u,e1,e2⟩:=r.get e;simp[e1]at h;exact⟨v,rfl,h▸e2⟩
section
variable{X:Cx}{z TI TO i1 i2 a b:Addr}{T:Bool}
theorem wR(hA:A.handled=none)(D:ZipApart z TI TO i1 i2 a b)(I:aI X aA S H s)(hf:∀c∈[z,TI,TO,i1,i2],cK X aA H c)(Z:tZ T z TI TO i1 i2 a b k f0 f1 s.heap)(q1:eo T X.K H a xs)(q2:eo T X.K H b ys)(al:Al s.heap f0)(O:∀h'(T0:Addr)g v w,xs[k]?=some v->ys[k]?=some w->tZ T z TI TO i1 i2 a b (k+1) (rawInt T0) g h'->(T0=s.heap.n/\g=false\/f0≠.none)->Al h' (rawInt T0)->H s.heap.n=none->aI X aA S (upd H s.heap.n (.t [v,w])) {s with heap:=h'}->zK z TI TO i1 i2 s.heap h'->Q (some (.ref s.heap.n)) {s with heap:=h'})(O':∀h',xs[k]?=none\/ys[k]?=none->aI X aA S H {s with heap:=h'}->zK z TI TO i1 i2 s.heap h'->Q none {s with heap:=h'}):bU X.p X.w A (pyNext (.ref z)) Q E s:=by
 obtain⟨us,h,B,_⟩:=q1.inv I;obtain⟨vs,i,p2,_⟩:=q2.inv I;have ty:s.TypeIs (.ref z) "zip":=⟨_,Z.1,rfl⟩;refine qb (Yr (wpAny_callSpecial?_slot ty PySem.F.slot_zip_next (Q8 PySem.F.slot_zip_next ty PySem.F.entry_zip_next (P_ (A:=A.in1) hA D Z B p2 al (λ h' T0 g x y t u j l f k=>qc ?_) λ h' e p k r=>?_) (PySem.F.args_zip_next_1 _))))
 .obtain⟨v,e1,C⟩:=aM.got h t;obtain⟨w,e2,rw⟩:=aM.got i u;refine O h' T0 g v w e1 e2 j (l.imp_right (·.1)) (.inr ?_) (I.hok.fresh (qj _)) (aI.turnedL (s:={s with heap:=s.heap.push {cls:=.type "tuple",data:=.seq #[x,y]}}) (t':=s.toks) (I.laid (t':=s.toks) (λ c o q=>qf _ q) (qj _) (show bO X.p X.w _ _ _ (.t [v,w])from⟨by show(2:Nat)<=sizeLine;decide,[x,y],.cons C (.cons rw .nil),d6.new _ _⟩)) (λ c q O e=>?_) λ c O=>(hf c O).upd (have ⟨_,e,_⟩:=Z.obj c O;qv (qm e))) k
  .rcases l with⟨rfl,_⟩|⟨_,o,e,d⟩
   .exact⟨_,_,rfl,f,aQ⟩
   .by_cases m:T0∈[z,TI,TO,i1,i2]
    .have ⟨o,e,_,d⟩:=j.obj _ m;exact⟨T0,o,rfl,e,d⟩
    .exact⟨T0,o,rfl,k _ _ m e,d⟩
  .rcases Yl e with⟨G,ρ⟩|e
   .rw[G,ρ];exact f
   .exact k c q O e
 .obtain⟨o,a,b⟩:=r;exact qb (wpAny_isInstance ⟨o,a,b⟩ isSubtype_stop (qc (O' h' (by have:=h.length;have:=i.length;simp at p⊢;omega) (aI.turnedL I k hf) k)))
theorem vb(xs ys:aG):(d5 xs ys).length=min xs.length ys.length:=by unfold d5;rw[qz,List.length_zip]
theorem Jk{i:Nat}(h1:xs[i]?=some d)(h2:ys[i]?=some e):(d5 xs ys)[i]?=some (.t [d,e]):=by unfold d5;have:=List.getElem?_zip_eq_some (l₁:=xs) (l₂:=ys) (z:=(d,e)) (i:=i);rw[yt,this.mpr ⟨h1,h2⟩];rfl
def Wz(K:Frag)(H0 H:Hp)(xs ys:aG)(i:Nat)(H':Hp)(vs:bY):Prop:=∃aV,bS H0 H aV H'/\aB K aV ((d5 xs ys).take i) vs
def tC(T:Bool)(z TI TO i1 i2 a b:Addr)(i:Nat)(h:Heap):Prop:=∃f0 f1,tZ T z TI TO i1 i2 a b i f0 f1 h/\Al h f0
theorem I0(D:ZipApart z TI TO i1 i2 a b)(q1:eo T X.K Hs a us)(q2:eo T X.K Hs b vs)(r1:aB X.K H0 xs us)(r2:aB X.K H0 ys vs)(hn:min xs.length ys.length<=1000):ka X [z,TI,TO,i1,i2] z (tC T z TI TO i1 i2 a b) (min xs.length ys.length) (Wz X.K H0 Hs xs ys)where
 hn:=hn
 mem:=qg
 ty:=λ⟨_,_,st,_⟩=>⟨_,_,_,_,st.1⟩
 obj:=λ i h⟨_,_,st,_⟩c m=>have ⟨_,e,_⟩:=st.obj c m;qm e
 keep:=λ i h h' σ⟨f0,f1,st,fr⟩C hl k=>⟨f0,f1,st.keep λ c m o e=>k c o (λ q=>C (q▸m)) e,fr.imp_right λ⟨f,o,e,p,d⟩=>⟨f,o,e,k f o (λ q=>d (hl o (q▸p))) p,d⟩⟩
 item:=λ A i aA s S H E ws r I t st hi hw=>by
  obtain⟨f0,f1,st,fr⟩:=st;obtain⟨aV,σ,y⟩:=hw;have G:=r1.length;have ρ:=r2.length;refine wR r D I t st (q1.same σ.s) (q2.same σ.s) fr (λ h' f g v w e1 e2 M _ B F j k=>⟨_,.ref s.heap.n,_,rfl,j,rfl,?_,⟨_,_,M,B⟩,λ c h l=>h.upd (qv l),k⟩) λ h' e=>by simp at e;omega
  have O:=bS.alloc (o:=.t [v,w]) σ.s' F;have u:xs[i]?=some xs[i]:=yq aD;have x:ys[i]?=some ys[i]:=yq aD;obtain⟨N,e3,L⟩:=r1.get u;obtain⟨P,e4,Y⟩:=r2.get x;rw[e3]at e1;cases e1;rw[e4]at e2;cases e2;refine⟨_,σ.trans O,?_⟩;rw[List.take_succ,Jk u x];refine(aB.mono O.s0 _ y).app (aB.one ?_);exact⟨_,_,rfl,.inl (.inl cM),aB.cons (aU.mono (σ.s0.trans O.s0) _ L) (aB.one (aU.mono (σ.s0.trans O.s0) _ Y))⟩
 done:=λ A aA s S H E ws r I t st hw=>by
  obtain⟨f0,f1,st,fr⟩:=st;obtain⟨aV,σ,y⟩:=hw;have G:=r1.length;have ρ:=r2.length;exact wR r D I t st (q1.same σ.s) (q2.same σ.s) fr (λ h' f g v w e1 e2=>by have:=(ir.mp e1).1;have:=(ir.mp e2).1;omega) λ h' e j k=>⟨rfl,j,k⟩
end
theorem Vn{n l r:Nat}(h1:l<n)(h2:r<n):ZipApart (n+4) (n+2) (n+3) n (n+1) l r:=by constructor<;>(show @Ne Nat _ _;omega)
section
variable{X:Cx}{aA:cB}{S:L2.St}{H:Hp}{s:Shared}{a b:Expr}{ta:TA}{p pos:Pos}
theorem Aa(T:Bool){QQ:Addr→Addr→bY→bY→Hp→Prop}(hg:Gl X "zip")(hm:X.mg "zip"=none)(I:aI X aA S H s)(ha:PA X [a,b] ta)(h:ta S H λ vs H1=>∃l r xs ys,vs=[.ref l,.ref r]/\eo T X.K H1 l xs/\eo T X.K H1 r ys/\QQ l r xs ys H1)(aa:∀O H1 z TI TO i1 i2 l r xs ys,aI X aA S H1 O->ZipApart z TI TO i1 i2 l r->tZ T z TI TO i1 i2 l r 0 .none false O.heap->(∀c∈[z,TI,TO,i1,i2],cK X aA H1 c)->eo T X.K H1 l xs->eo T X.K H1 r ys->QQ l r xs ys H1->Φ (.ref z) O)(hs:starEach [a,b] X.v=[(false,eval a X.v),(false,eval b X.v)])(Z:gP X b):bU X.p X.w X.A (eval (.Call (.Name "zip" p) [a,b] [] pos) X.v) Φ X.xe s:=by
 refine jj (l_ I hg hm (u:=.type "zip") aW (yk (bQ (ha pos aA s S H _ I h) λ us O=>dD λ vs H1 Y i d=>?_) (by rw[hs,Z]) (by rw[Z];rfl)));obtain⟨l,r,xs,ys,rfl,d,g,y⟩:=d;cases i with
 |cons i j=>
  cases j with
  |cons C j=>
   cases j;cases i;cases C;obtain⟨us,v1,f,_⟩:=d.inv Y;obtain⟨vs,v2,p2,_⟩:=g.inv Y;have lt:∀{c:Addr}{u:gm},oq T O.heap c u->c<O.heap.n:=λ{c u}q=>by
    cases T with
    |true=>obtain⟨o,e,_⟩:=q;exact qm e
    |false=>obtain⟨o,e,_⟩:=q;exact qm e
   have D:=Vn (lt f) (lt p2);have fp:∀c∈[O.heap.n+4,O.heap.n+2,O.heap.n+3,O.heap.n,O.heap.n+1],cK X aA H1 c:=λ c B=>
    have le:O.heap.n<=c:=by simp at B;omega
    Y.fpOk le (Y.hok.fresh le)
   cases T with
   |true=>exact Ow f p2 λ h' m t v x z5 k=>aa {O with heap:=h'} H1 _ _ _ _ _ l r xs ys (Y.kept k) D ⟨m,t,⟨_,_,v⟩,x,z5⟩ fp d g y
   |false=>exact call_zip_2 f p2 λ h' m t v x z5 _ k=>aa {O with heap:=h'} H1 _ _ _ _ _ l r xs ys (Y.kept k) D ⟨m,t,⟨_,_,v⟩,x,z5⟩ fp d g y
end
section
variable{X:Cx}{a b:Expr}{F G:FE}{p p2 pos pos2:Pos}
theorem zU{K:Frag}(R:RS K c H0 H J S)(h1:F J=some ((if T=true then .t xs else .l xs),q))(h2:G q=some ((if T=true then .t ys else .l ys),ρ')):D9 K (aC F (aC G aN)) S H λ vs H1=>∃l r us ws,vs=[.ref l,.ref r]/\eo T K H1 l us/\eo T K H1 r ws/\∃Y,aE H0 Y/\RS K c Y H1 ρ' S/\aB K Y xs us/\aB K Y ys ws/\eo T K Y l us/\eo T K Y r ws:=by
 refine⟨c,H0,J,[if T=true then .t xs else .l xs,if T=true then .t ys else .l ys],ρ',R,by unfold aC;rw[h1];show aF (aF (G q) _) _=_;rw[h2];rfl,λ vs H1 i h O b=>?_⟩;obtain⟨v,r,rfl,g,b⟩:=b;obtain⟨u,rfl,f⟩:=aB.v1 b;cases T with
 |true=>
  obtain⟨l,us,rfl,Z,d⟩:=g;obtain⟨m,ws,rfl,a,e⟩:=f;exact⟨l,m,us,ws,rfl,aE.seqT O.same Z,aE.seqT O.same a,H1,h,O,d,e,Z,a⟩
 |false=>
  obtain⟨l,us,rfl,Z,d⟩:=g;obtain⟨m,ws,rfl,a,e⟩:=f;exact⟨l,m,us,ws,rfl,aE.seq O.same Z,aE.seq O.same a,H1,h,O,d,e,Z,a⟩
theorem J2(xs ys:aG):(d5 xs ys).take (min xs.length ys.length)=d5 xs ys:=je (by rw[vb];exact qj _)
theorem QD(hm:X.mg "list"=none)(hz:X.mg "zip"=none)(hc:X.c=true)(ha:XE X a F)(hb:XE X b G)(hg:Gl X "list":=by rfl)(ac:Gl X "zip":=by rfl)(hs:starEach [a,b] X.v=[(false,eval a X.v),(false,eval b X.v)]:=by rfl)(O:gP X b:=by rfl)(Y:starEach [.Call (.Name "zip" p2) [a,b] [] pos2] X.v=[(false,eval (.Call (.Name "zip" p2) [a,b] [] pos2) X.v)]:=by rfl):XE X (.Call (.Name "list" p) [.Call (.Name "zip" p2) [a,b] [] pos2] [] pos) (e2 v_ F G):=by
 intro aA s S H Q ρ ⟨c,H0,J,d,I,R,f,q⟩;obtain⟨x,L,y,k,m,Z⟩:=nZ f;unfold v_ at Z;split at Z
 .rename_i xs ys;obtain⟨hl,rfl⟩:=cx Z;refine jj (l_ ρ hg hm PyProof.Rows.boot_list (yk ?_ Y rfl));rw[Y];refine Qh (Aa false ac hz ρ (ez ha (ez hb eP O) (by show _=_;rw[hs,O])) (zU R k m) (λ N K z TI TO i1 i2 l r us ws i D E fp u v w=>Q1 ?_) hs O);obtain⟨h,C,Rd',A,B,_,_⟩:=w;refine Ri hc (I0 D u v A B aD) i fp ⟨.none,false,E,.inl rfl⟩ ⟨h,bS.refl Rd'.same,by rw[List.take_zero];exact aB.nil_⟩ λ H' j t n M hw=>?_;obtain⟨aV,σ,g⟩:=hw;rw[J2]at g;have e:=bS.alloc (o:=.l j) σ.s' n;refine q _ _ _ (C.trans (σ.trans e).s0) (Rd'.after (σ.trans e)) ?_;exact⟨t,_,rfl,.inl (.inl cM),aB.mono e.s0 _ g⟩
 .cases Z
theorem Wj(hm:X.mg "tuple"=none)(hz:X.mg "zip"=none)(hc:X.c=true)(ha:XE X a F)(hb:XE X b G)(hg:Gl X "tuple":=by rfl)(ac:Gl X "zip":=by rfl)(hs:starEach [a,b] X.v=[(false,eval a X.v),(false,eval b X.v)]:=by rfl)(O:gP X b:=by rfl)(Y:starEach [.Call (.Name "zip" p2) [a,b] [] pos2] X.v=[(false,eval (.Call (.Name "zip" p2) [a,b] [] pos2) X.v)]:=by rfl):XE X (.Call (.Name "tuple" p) [.Call (.Name "zip" p2) [a,b] [] pos2] [] pos) (e2 wA F G):=by
 intro aA s S H Q ρ ⟨c,H0,J,d,I,R,f,q⟩;obtain⟨x,L,y,k,m,Z⟩:=nZ f;unfold wA at Z;split at Z
 .rename_i xs ys;obtain⟨hl,rfl⟩:=cx Z;refine jj (l_ ρ hg hm Qt (yk ?_ Y rfl));rw[Y];refine Qh (Aa true ac hz ρ (ez ha (ez hb eP O) (by show _=_;rw[hs,O])) (zU R k m) (λ N K z TI TO i1 i2 l r us ws i D E fp u v w=>Q1 ?_) hs O);obtain⟨h,C,Rd',A,B,_,_⟩:=w;refine Tf hc (I0 D u v A B aD) i fp ⟨.none,false,E,.inl rfl⟩ ⟨h,bS.refl Rd'.same,by rw[List.take_zero];exact aB.nil_⟩ λ H' j t n M hw=>?_;obtain⟨aV,σ,g⟩:=hw;rw[J2]at g;have e:=bS.alloc (o:=.t j) σ.s' n;refine q _ _ _ (C.trans (σ.trans e).s0) (Rd'.after (σ.trans e)) ?_;exact⟨t,_,rfl,.inl (.inl cM),aB.mono e.s0 _ g⟩
 .cases Z
end
section
variable{X:Cx}{pos:Pos}{e:Expr}{F:FE}
theorem Kz:∀l:List α,(∀k∈l,f k=some (g k))->l.filterMap f=l.map g
 |[],_=>rfl
 |k::r,h=>by rw[Zm,h k Zp,zj,Kz r λ x q=>h x (ja _ q)]
theorem QZ(q:cf):slicePick q.toArray none none (some (-1))=q.reverse.toArray:=by
 unfold slicePick;have b:sliceBounds none none (some (-1)) q.toArray.size=((q.length:Int)-1,-1,-1):=by unfold sliceBounds;simp
 rw[b];have r:sliceRange ((q.length:Int)-1) (-1) (-1)=(List.range q.length).map λ k=>q.length-1-k:=by
  unfold sliceRange;have c:(if(-1:Int)>0 then(if(q.length:Int)-1< -1 then(-1-((q.length:Int)-1)+-1-1)/ -1 else 0)else(if(q.length:Int)-1> -1 then((q.length:Int)-1- -1- -1-1)/(- -1)else 0)).toNat=q.length:=by
   rw[if_neg aH];by_cases h:(q.length:Int)-1> -1
   .rw[if_pos h,show(- -1:Int)=1 by decide,Int.ediv_one];lia
   .rw[if_neg h];lia
  simp only[c];refine Yp λ k O=>?_;have:=List.mem_range.mp O;lia
 rw[r,Zs];congr 1;have e:((List.range q.length).filterMap λ k=>q.toArray[q.length-1-k]?)=(List.range q.length).map λ k=>q.getD (q.length-1-k) Value.none:=by
  refine Kz _ λ k O=>?_;have:=List.mem_range.mp O;rw[List.getElem?_toArray,yq aD];simp[show q.length-1-k<q.length by lia]
 refine Eq.trans ?_ (e.trans ?_)
 .rfl
 .refine List.ext_getElem aQ λ i a d=>?_;have hi:i<q.length:=by simpa using a
  rw[List.getElem_map,List.getElem_range,List.getElem_reverse];simp[show q.length-1-i<q.length by lia]
theorem cj1(he:PE X e te):PE X (.Subscript e (.Slice none none (some (.UnaryOp .USub (.Constant (.int 1) k p3) Z)) p2) pos) (λ S H Q=>te S H λ x H1=>∃a xs,x=.ref a/\c9 X.K H1 a xs/\∀p,H1 p=none->Q (.ref p) (upd H1 p (.l xs.reverse))):=by
 intro aA s S H Q I h;refine Z9 (bQ (he aA s S H _ I h) λ v w O=>?_);obtain⟨x,H1,i,r,a,xs,m,z,q⟩:=O;subst m;cases r;refine wpAny_Slice ?_;rw[Z0];refine qc (qc ?_);rw[Yt];refine bQ (JB KR (sO) aA w S H1 (λ y H'=>y=.int (-1)/\H'=H1) i ⟨1,rfl,rfl,rfl⟩) λ st Y O=>?_;obtain⟨y,g,j,u,n,l⟩:=O;subst n l;obtain⟨t,rfl⟩:=u;have c:aI X aA S g {Y with heap:=Y.heap.push {cls:=.type "slice",data:=.fields #[.none,.none,.int (-1) t]}}:=j.kept λ b ob q=>qf _ q;obtain⟨B,f,d,o⟩:=c.list z;have A:=f.length;refine tail_any d.isList.typeIs slot_list_getitem.lookup ?_ (by with_unfolding_all rfl);refine Zy d.isList (Zt ..) .none .none (.int (-1) t) aQ ?_ (by rw[zk]<;>lia);rw[QZ];refine⟨.ref _,_,c.laid (λ b ob q=>qf _ q) (qj _) ?_,rfl,q _ (c.hok.fresh (qj _))⟩;exact⟨by rw[List.length_reverse];exact o,_,0,aM.reverse f,qk _ rfl⟩
theorem Hw{K:Frag}:∀{ds:aG}{vs:bY},aB K H ds vs->aB K H ds.reverse vs.reverse
 |[],vs,r=>by subst r;exact aB.nil_
 |d::ds,vs,r=>by
  obtain⟨v,Y,rfl,q,O⟩:=r;rw[Zw,Zw];exact(Hw O).app (aB.one q)
theorem X3(he:XE X e F):XE X (.Subscript e (.Slice none none (some (.UnaryOp .USub (.Constant (.int 1) k p3) p4)) p2) pos) (e1 tW F):=PE.wk (cj1 he) λ S H Q O=>by
 obtain⟨c,H0,J,d,n,R,f,q⟩:=O;obtain⟨⟨x,Y⟩,h,f⟩:=aS f;obtain⟨u,b,f⟩:=aS f;have g:=f;cases g;cases x with
 |l xs=>
  cases b;refine⟨c,H0,J,_,_,R,h,λ v r s l Z j=>?_⟩;obtain⟨a,ws,rfl,m,t⟩:=j;refine⟨a,ws,rfl,aE.seq Z.same m,λ p i=>?_⟩;have σ:=bS.alloc (o:=.l ws.reverse) Z.same i;refine q _ _ _ (l.trans σ.s0) (Z.after σ) ?_;exact⟨p,_,rfl,.inl (.inl cM),aB.mono σ.s0 _ (Hw t)⟩
 |_=>cases b
end
end Fx
namespace L2
open PySem PySem.Spec PyProof.Rows
def Mp(K:Frag)(js:dr)(tt:TT)(te:TE)(S:St)(Q:bY->Hp->Prop)(ρ:It)(H1:Hp):Prop:=
 ∃W:Nat->Nat->List V->Hp->Prop,(∃m,W 0 m [] H1)/\∀i m ys H,W i m ys H->(ρ.stop i H/\ys.length<=sizeLine/\Q ys H)\/
  (ρ.go i H/\ys.length<sizeLine/\∀x H',ρ.yld i H x H'->∃ta v1 v2,x=.ref ta/\d8 K H' ta [v1,v2]/\tt (some v1::some v2::iD S js) H' λ b H2=>
   if b=true then te (some v1::some v2::iD S js) H2 λ v O=>∃q,q<m/\W (i+1) q (ys++[v]) O else ∃q,q<m/\W (i+1) q ys H2)
section
variable{X:Cx}{scope:Scope}{s:Shared}{H:Hp}{C:Addr}{fp:fB}{aA:cB}{H':Hp}{s':Shared}
theorem GI(I:aI (de X N scope s H C fp) aA S H' s')(hl:q.length=N'.length)(h:∀(i:Nat)(x:Str)(v:V),N'[i]?=some x->q[i]?=some (some v)->∃j:Nat,N[j]?=some x/\S[j]?=some (some v)):aI (de X N' scope s H C fp) aA q H' s':=
 let k:=I.ok
 ⟨⟨k.mod,k.kind,k.glob,k.blt,k.above,k.inj,k.has,k.cab,k.hd,k.frames,k.stk,k.exf,k.bs,k.bsz,k.noex,k.exfs,k.funs,k.frf⟩,I.os,I.bare,I.base,by
  obtain⟨m,hn,Z⟩:=I.loc;refine⟨m,hn,λ i x v e1 e2 e3=>?_⟩;obtain⟨j,O,Y⟩:=h i x v e1 e2;exact Z j x v O Y e3,I.cell,I.free,I.freeC,I.pin,I.hok,hl⟩
theorem UG(I:aI (de X (x::aT) scope s H C fp) aA (none::q) H' s'):aI (de X (x::x2::aT) scope s H C fp) aA (none::none::q) H' s':=
 GI I (by have:(none::q).length=(x::aT).length:=I.len;simp at this;simp[this]) λ i y v e1 e2=>by
  match i,e1,e2 with
  |0,_,e2=>simp at e2
  |1,_,e2=>simp at e2
  |i+2,e1,e2=>exact⟨i+1,by simpa using e1,by simpa using e2⟩
theorem UH(I:aI (de X (x::x2::aT) scope s H C fp) aA (none::none::q) H' s'):aI (de X (x::aT) scope s H C fp) aA (none::q) H' s':=
 GI I (by have:(none::none::q).length=(x::x2::aT).length:=I.len;simp at this;simp[this]) λ i y v e1 e2=>by
  match i,e1,e2 with
  |0,_,e2=>simp at e2
  |i+1,e1,e2=>exact⟨i+2,by simpa using e1,by simpa using e2⟩
end
section
variable{X:Cx}{aA:cB}{S:St}{H:Hp}{s:Shared}{x x2:Str}{scope sc:Scope}{aT:aP}{js:dr}{elt iter:Expr}{cx:eH}{px py pt pos:Pos}{kt:Nat}{tt:TT}{te:TE}{E:dw}
def YE(K:Frag)(q:TI)(js:dr)(tt:TT)(te:TE):TE:=λ S H Q=>q S H (Mp K js tt te S λ ys H'=>∀D,H' D=none->Q (.ref D) (upd H' D (.l ys)))
theorem Kh(hc:X.c=true)(O:X.v.scope=sc)(B:iB X.N sc scope x aT js)(Y:scope.names.lookup x2=some .local)(ae:(x::x2::aT).Nodup)(hi:PI X (.Tuple [.Name x px,.Name x2 py] kt pt) iter wi)(ht:∀s H C fp,kH (de X (x::x2::aT) scope s H C fp) cx tt)(he:∀s H C fp,PE (de X (x::x2::aT) scope s H C fp) elt te)(hs:oA X iter):PE X (.ListComp elt [⟨.Tuple [.Name x px,.Name x2 py] kt pt,iter,cx,0⟩] scope pos) (YE X.K wi js tt te):=by
 intro aA s S H Q I h;rw[eval_ListComp];refine Zz rfl hs (Aj (aj2 I O B)) B.kind B.locs (bQ (hi aA s S H _ I h) λ v s1 z=>bQ z λ ag s2 E=>?_);obtain⟨it,fp,tn,ρ,H2,e,a,T,l,d,L⟩:=E;subst e;refine J5 (tg:=LX X.K 2 (Ck (tY 0) (Ck (tY 1) LZ))) (Qe:=λ ys c=>∀p,c p=none->Q (.ref p) (upd c p (.l ys))) (RR:=λ Y C=>compPost (model X.p X.w) X.A X.xe none (EP X aA S Q) Y C) a hc O B T l d UG (λ C=>Le hc (Bf (wK ae rfl (.inl (jx B.own)) (.inr (jx B.own))) (Bf (wK ae rfl (.inl (jx Y)) (.inr (jx Y))) ID)) rfl rfl) ?_ ht he ?_
 .obtain⟨W,V,Z⟩:=L;refine⟨W,V,λ i m ys H w=>(Z i m ys H w).imp id λ⟨u,P,step⟩=>⟨u,P,λ y H' yl=>?_⟩⟩;obtain⟨ta,v1,v2,r,U,ae⟩:=step y H' yl;exact⟨ta,[v1,v2],r,U,rfl,v1,[v2],rfl,v2,[],rfl,rfl,⟨rfl,λ j v e=>by
   match j,e with
   |0,e=>simp at e
   |1,e=>simp at e
   |j+2,e=>simpa using e⟩,ae⟩
 intro D C s' H' ys ah n G F o b f σ t M q;obtain⟨m,hn,_⟩:=b.loc;refine⟨m,hn,λ h' k=>?_⟩;have g:=BM a d G (UH b) f σ t M;have R:(upd H' D (.l ys)) C=none:=by rw[bX (jc o)];exact b.free
 exact⟨.ref D,_,CL a g F R k,rfl,q D f⟩
end
end L2
namespace Fx
open PySem PySem.Spec PyProof.Rows L2
theorem RS.block2{K:Frag}(R:RS K c H0 H J S)(hf:fj J js=some fr)(rx:aU K H0 d x)(ry:aU K H0 e y):RS K ⟨H0,H,[]⟩ H0 H (.i d::.i e::fr) (some x::some y::iD S js):=by
 have B:=R.block hf ry;have O:∀(i:Nat)(b:Bool)(o:MO),(Sl.i e::fr)[i]?≠some (.o b o):=λ i b o z=>by
  obtain⟨a,_,m,Y,g⟩:=B.ow i b o z;cases b with
  |true=>exact absurd Y aQ
  |false=>
   have h:H a=none:=Y;obtain⟨u,Z⟩:=g.some;rw[h]at Z;cases Z
 refine⟨B.same,B.init,B.fresh,B.keep,B.apt,by have:=B.len;simp at this;simp[this],λ i f q=>?_,λ i b o q=>?_,λ i j b k o l a q=>?_⟩
 .match i,q with
  |0,q=>cases q;exact⟨x,rfl,rx⟩
  |i+1,q=>exact B.im i f (by simpa using q)
 .match i,q with
  |0,q=>cases q
  |i+1,q=>exact absurd (by simpa using q) (O i b o)
 .match i,q with
  |0,q=>cases q
  |i+1,q=>exact absurd (by simpa using q) (O i b o)
theorem Te(h:two d=some q):d=.t [q.1,q.2]:=by
 unfold two at h;split at h
 .cases h;rfl
 .cases h
theorem JA{K:Frag}(R:RS K c H1 Hh J S)(hf:fj J js=some fr)(hc:dF T F fr xs=some Z)(hz:xs.length<=sizeLine)(hy:lZ K ρ H1 xs)(q:∀ys H0 H,aE H1 H0->RS K c H0 H J S->aB K H0 Z ys->Qf ys H):Mp K js (lT K T) (tE K F) S Qf ρ Hh:=by
 refine⟨λ i m ys H=>m=xs.length-i/\i<=xs.length/\∃H0,aE H1 H0/\RS K c H0 H J S/\∃Y rest,aB K H0 Y ys/\Y.length<=i/\dF T F fr (xs.drop i)=some rest/\Y++rest=Z,⟨xs.length,by simp,yg _,H1,aE.refl _,R,[],Z,aB.nil_,yg _,by simpa using hc,rfl⟩,?_⟩;rintro i m ys H ⟨rfl,hi,H0,s0,g,Y,rest,a,Q,O,e⟩;obtain⟨I,L⟩:=hy H0 H i s0 g.same;by_cases j:i<xs.length
 .have hd:xs[i]?=some xs[i]:=by simp[j]
  obtain⟨B,M⟩:=I _ hd;refine .inr ⟨B,by rw[<-a.length];lia,λ x H' C=>?_⟩;obtain⟨aV,h,n⟩:=M x H' C;have f:=g.after h;have s0:=s0.trans h.s0;have a:=aB.mono h.s0 _ a;rw[u7 hd,uD]at O;obtain⟨⟨N,P⟩,u,O⟩:=aS O;rw[Te u]at n;obtain⟨ta,ws,rfl,G,d⟩:=n;obtain⟨v1,W,rfl,D,d⟩:=d;obtain⟨v2,X,rfl,E,d⟩:=d;subst d;refine⟨ta,v1,v2,rfl,aE.seqT f.same G,?_⟩;obtain⟨⟨b,l⟩,w,O⟩:=aS O;refine⟨⟨aV,H',[]⟩,aV,_,b,l,f.block2 hf D E,w,λ k dk U R2=>?_⟩;cases b with
  |false=>
   rw[if_neg yf]at O⊢;have σ:=R2.step;exact⟨xs.length-(i+1),by lia,rfl,j,k,s0.trans σ.s0,f.after σ,Y,rest,aB.mono σ.s0 _ a,by lia,O,e⟩
  |true=>
   rw[if_pos rfl]at O⊢;obtain⟨⟨z,s⟩,y,O⟩:=aS O;obtain⟨t,A,O⟩:=aS O;have r:=O;cases r;refine⟨⟨aV,H',[]⟩,k,l,z,s,R2,y,λ v o eN V p r3=>?_⟩;have σ:=p.step;refine⟨xs.length-(i+1),by lia,rfl,j,o,s0.trans σ.s0,f.after σ,Y++[z],t,(aB.mono σ.s0 _ a).app (aB.one r3),?_,A,?_⟩
   .rw[zr,Q7];lia
   .rw[Qy];exact e
 .have hn:xs.drop i=[]:=jq aD;rw[hn,Sn]at O;cases O;rw[yb]at e;subst e;exact .inl ⟨L aD,by rw[<-a.length];lia,q ys H0 H s0 g a⟩
structure lj(N:aP)(sc scope:Scope)(x x2:Str)(aT:aP)(js:dr):Prop where
 B:iB N sc scope x aT js
 own2:scope.names.lookup x2=some .local
 nd2:(x::x2::aT).Nodup
section
variable{X:Cx}{x x2:Str}{scope sc:Scope}{aT:aP}{js:dr}{elt iter:Expr}{cx:eH}{px py pt pos:Pos}{kt:Nat}{I F:FE}{T:FT}
theorem LB(hc:X.c=true)(Y:X.v.scope=sc)(B:lj X.N sc scope x x2 aT js)(hi:XE X iter I)(Z:∀s H C fp,nV (de X (x::x2::aT) scope s H C fp) cx T)(he:∀s H C fp,XE (de X (x::x2::aT) scope s H C fp) elt F)(hs:oA X iter:=by intro _;rfl):XE X (.ListComp elt [⟨.Tuple [.Name x px,.Name x2 py] kt pt,iter,cx,0⟩] scope pos) (eU js I T F):=
 PE.wk (Kh (tt:=lT X.K T) (te:=tE X.K F) hc Y B.B B.own2 B.nd2 (wJ hi) Z he hs) λ S H Q O=>by
  obtain⟨c,H0,J,d,r,R,f,q⟩:=O;obtain⟨⟨z,w⟩,b,f⟩:=aS f;obtain⟨xs,e,f⟩:=aS f;obtain⟨fr,g,f⟩:=aS f;obtain⟨ys,h,f⟩:=aS f;obtain⟨k,f⟩:=Fx.cx f;cases f;refine x5 R b e λ ρ t v m a j=>?_;refine JA a g h k j λ vs u dk n R2 l=>λ p i=>?_;have σ:=bS.alloc (o:=.l vs) R2.same i;refine q _ _ _ (m.trans (n.trans σ.s0)) (R2.after σ) ?_;exact⟨p,vs,rfl,.inl (.inl cM),aB.mono σ.s0 _ l⟩
end
theorem Hx(h:jY d=some xs):d=.l xs:=by
 unfold jY at h;split at h
 .cases h;rfl
 .cases h
def Ag(T:Bool)(K:Frag)(a b:Addr):It:=
  ⟨λ i H=>∃xs ys,eo T K H a xs/\eo T K H b ys/\i<xs.length/\i<ys.length,λ i H x H'=>∃v w p,(∀xs,eo T K H a xs->xs[i]?=some v)/\(∀ys,eo T K H b ys->ys[i]?=some w)/\x=.ref p/\H p=none/\H'=upd H p (.t [v,w]),λ i H=>∃xs ys,eo T K H a xs/\eo T K H b ys/\(xs.length<=i\/ys.length<=i)⟩
theorem QI{P:Program}{w:World}{K:Frag}{T:Bool}{aa:List Expr}{x1:Nat}{pt:Pos}{z TI TO i1 i2 a b:Addr}(D:ZipApart z TI TO i1 i2 a b):gZ P w K (.Tuple aa x1 pt) (Ag T K a b) [z,TI,TO,i1,i2] z (λ i h=>tZ T z TI TO i1 i2 a b i .none false h)where
 mem:=qg
 obj:=λ i h st c f=>let ⟨o,e,d,_⟩:=st.obj c f;⟨o,e,d⟩
 keep:=λ i h h' st k=>st.keep k
 item:=λ X C hw B f i aA s S H E I j st Y=>by
  obtain⟨xs,ys,r,t,l1,l2⟩:=Y;subst C hw B;refine wR (I.ok.hd f) D I j st r t (.inl rfl) (λ M L g v w e1 e2 G W _ N x k=>⟨_,rfl,?_⟩) λ h e=>by simp at e;omega
  obtain⟨rfl,rfl⟩|h:=W
  .refine wpAny_letOwnedTupleGo_zip (s:={s with heap:=M}) G.1 λ h2 Z sb=>?_;have fp:=λ c m=>(j c m).upd (p:=s.heap.n) (u:=.t [v,w]) (have ⟨_,e,_⟩:=st.obj c m;qv (qm e));obtain⟨_,R,⟨u,y,σ⟩,U,V⟩:=G;have ρ:=aI.turnedL (t':=s.toks) (fs:=[z]) x (λ c o O e=>(sb.2 c (λ q=>O (by simp[q]))).trans e) λ c O=>by rw[dt O];exact fp z qg
   exact⟨.ref s.heap.n,_,ρ,rfl,⟨v,w,_,λ zs F=>by rw[eo.inj I F r];exact e1,λ zs F=>by rw[eo.inj I F t];exact e2,rfl,N,rfl⟩,⟨Z,(sb.2 TI D.TIz).trans R,⟨u,y,(sb.2 TO D.TOz).trans σ⟩,U.at λ o=>(sb.2 i1 D.i1z).trans,V.at λ o=>(sb.2 i2 D.i2z).trans⟩,λ c O=>(fp c O).1⟩
  .exact absurd rfl h
 done:=λ X C hw B f i aA s S H E I j st Y=>by
  obtain⟨xs,ys,r,t,l⟩:=Y;subst C hw B;exact wR (I.ok.hd f) D I j st r t (.inl rfl) (λ h' L g v w e1 e2=>by have:=(ir.mp e1).1;have:=(ir.mp e2).1;omega) λ h e x _=>⟨rfl,x⟩
 self:=λ A i s Q E st h=>wpAny_pyIter_zip st.1 h
def YZ(T:Bool)(K:Frag)(t:TA):TI:=λ S H R=>t S H λ vs H1=>∃l r xs ys,vs=[.ref l,.ref r]/\eo T K H1 l xs/\eo T K H1 r ys/\R (Ag T K l r) H1
theorem cj0(Z:Gl X "zip")(hm:X.mg "zip"=none)(Y:PA X [a,b] ta)(hs:starEach [a,b] X.v=[(false,eval a X.v),(false,eval b X.v)])(O:gP X b):PI X (.Tuple q x1 pt) (.Call (.Name "zip" p) [a,b] [] pos) (YZ T X.K ta):=λ aA s S H R I h=>
 Aa T Z hm I Y h (λ j d z TI TO i1 i2 l r xs ys e D c fp g i f=>wpAny_pyIter_zip c.1 ⟨z,_,_,_,d,rfl,e,QI D,c,fp,f⟩) hs O
theorem Sq{K:Frag}(q1:eo T K H1 l us)(q2:eo T K H1 r vs)(Y:aB K H1 xs us)(r2:aB K H1 ys vs):lZ K (Ag T K l r) H1 (d5 xs ys):=λ H0 H i s s'=>by
 have a:=q1.same (s.trans s');have b:=q2.same (s.trans s');have t:=Y.length;have u:=r2.length;refine⟨λ d e=>?_,λ h=>⟨us,vs,a,b,by rw[vb]at h;lia⟩⟩;have hi:=(ir.mp e).1;rw[vb]at hi;have c:xs[i]?=some xs[i]:=yq aD;have Z:ys[i]?=some ys[i]:=yq aD;rw[Jk c Z]at e;cases e;obtain⟨m,e3,k⟩:=Y.get c;obtain⟨n,e4,O⟩:=r2.get Z;refine⟨⟨us,vs,a,b,by lia,by lia⟩,λ x H' q=>?_⟩;obtain⟨v,w,p,e1,e2,g,j,f⟩:=q;subst g f;have e1:=e1 us a;have e2:=e2 vs b;rw[e3]at e1;cases e1;rw[e4]at e2;cases e2;have σ:=bS.alloc (o:=.t [m,n]) s' j;refine⟨_,σ,?_⟩;exact⟨p,_,rfl,.inl (.inl cM),aB.cons (aU.mono (s.trans σ.s0) _ k) (aB.one (aU.mono (s.trans σ.s0) _ O))⟩
section
variable{X:Cx}{x x2:Str}{scope sc:Scope}{aT:aP}{js:dr}{elt a b:Expr}{cx:eH}{px py pt pos p p2:Pos}{kt:Nat}{A B F:FE}{T:FT}
theorem X6(hm:X.mg "zip"=none)(hc:X.c=true)(ae:X.v.scope=sc)(Bk:lj X.N sc scope x x2 aT js)(ha:XE X a A)(hb:XE X b B)(ht:∀s H C fp,nV (de X (x::x2::aT) scope s H C fp) cx T)(he:∀s H C fp,XE (de X (x::x2::aT) scope s H C fp) elt F)(hg:Gl X "zip":=by rfl)(Y:starEach [a,b] X.v=[(false,eval a X.v),(false,eval b X.v)]:=by rfl)(O:gP X b:=by rfl)(hs:∀v,foldedSetIterable (.Call (.Name "zip" p) [a,b] [] p2) X.v v=pure v:=by intro _;rfl):XE X (.ListComp elt [⟨.Tuple [.Name x px,.Name x2 py] kt pt,.Call (.Name "zip" p) [a,b] [] p2,cx,0⟩] scope pos) (Dv js A B T F):=
 PE.wk (Kh (tt:=lT X.K T) (te:=tE X.K F) hc ae Bk.B Bk.own2 Bk.nd2 (cj0 hg hm (ez ha (ez hb eP O) (by show _=_;rw[Y,O])) Y O) ht he hs) λ S H Q Z=>by
  obtain⟨c,H0,J,d,ρ',R,f,q⟩:=Z;obtain⟨⟨d1,af⟩,z,f⟩:=aS f;obtain⟨xs,w,f⟩:=aS f;obtain⟨⟨d2,ag⟩,D,f⟩:=aS f;obtain⟨ys,y,f⟩:=aS f;obtain⟨fr,E,f⟩:=aS f;obtain⟨ah,G,f⟩:=aS f;obtain⟨hz,f⟩:=Fx.cx f;cases f;have ρ:=Hx w;have L:=Hx y;subst ρ L;obtain⟨n,aV,m,ds,k,h,u,V⟩:=zU (T:=false) R z D;refine⟨n,aV,m,ds,k,h,u,λ vs e g s1 i W=>?_⟩;obtain⟨l,r,us,ws,t,P,U,Hd,sd,j,t1,t2,e1,e2⟩:=V vs e g s1 i W;refine⟨l,r,us,ws,t,P,U,JA j E G (by rw[vb];lia) (Sq e1 e2 t1 t2) λ vs H2 dk s2 R2 r2=>λ M I=>?_⟩;have σ:=bS.alloc (o:=.l vs) R2.same I;refine q _ _ _ (sd.trans (s2.trans σ.s0)) (R2.after σ) ?_;exact⟨M,vs,rfl,.inl (.inl cM),aB.mono σ.s0 _ r2⟩
end
inductive kc(w:World)(K:Frag):List DictEntry->List (Str×D)->Prop
 |nil:kc w K [] []
 |cons {k:Str}{d:D}{t:Tok}{v:Value}{es:List DictEntry}{kds:ew}:kd K d v->kc w K es kds->kc w K (⟨hashStr w k,.str k t,v⟩::es) ((k,d)::kds)
def xI(w:World)(K:Frag)(a:Addr)(kds:ew):Prop:=∃es n,K.lookup a=some {cls:=.type "dict",data:=.dict es n}∧(a==sysModules)=false∧kc w K es.toList kds∧(kds.map (·.1)).Nodup
theorem kc.all{w:World}{K:Frag}:∀{es:List DictEntry}{kds:ew},kc w K es kds->∃vs:List (aO×Value),vs.map (·.1)=kds.map (λ q=>Sum.inr q.1)/\(∀(P:Program),PySem.Pairs (gk P w) es vs)/\(∀(P:Program),∀e∈es,∃k,(gk P w).is k e.key=true/\e.hash=(gk P w).hash k)/\∀k d,bE k kds=some d->∃u,valueAt vs (.inr k)=some u/\kd K d u
 |_,_,.nil=>⟨[],rfl,λ _=>.nil,λ _ e h=>(by cases h),λ k d h=>(by cases h)⟩
 |_,_,.cons (k:=k) (d:=d) (t:=t) (v:=v) (es:=es) (kds:=kds) h r=>by
  obtain⟨vs,e1,e2,e3,e4⟩:=r.all;refine⟨(.inr k,v)::vs,by rw[zj,zj,e1],λ P=>.cons (BA P w k t) rfl (e2 P),λ P e Y=>?_,λ Z a O=>?_⟩
  .rcases qx Y with rfl|Y
   .exact⟨.inr k,BA P w k t,rfl⟩
   .exact e3 P e Y
  .unfold bE at O;unfold valueAt;rw[List.find?_cons];by_cases z:k=Z
   .subst z;rw[if_pos rfl]at O;cases O;exact⟨v,by simp,h⟩
   .rw[if_neg z]at O;obtain⟨u,b,c⟩:=e4 Z a O;refine⟨u,?_,c⟩;rw[zn (λ y=>z (Zf y))];exact b
section
variable{X:Cx}{pos:Pos}{e k:Expr}{F G:FE}{A:FA}
theorem Nl(h:∃a,X.mg x=some (.ref a)∧xI X.w X.K a kds)(hk:XE X k G)(hg:Gl X x:=by rfl)(hd:dJ x:=by decide)(hs:wO k:=by exact λ _ _=>rfl):XE X (.Subscript (.Name x p) k pos) (e1 (rM kds) G):=by
 obtain⟨a,P,es,n,hl,lo,σ,nd⟩:=h;obtain⟨vs,t,B,C,D⟩:=σ.all;intro aA s S H Q I ⟨c,H0,J,d,g,R,f,q⟩;obtain⟨⟨y,A⟩,M,f⟩:=aS f;obtain⟨E,m,f⟩:=aS f;have L:some (E,A)=some (d,g):=f;cases L;refine IA PySem.F.slot_dict_getitem.lookup hs (nO I hg P (bQ (hk aA s S H (λ v O=>∃b,aE H0 b/\RS X.K c b O g S/\aU X.K b y v) I ⟨c,H0,J,y,_,R,M,λ v b O j i Z=>⟨b,j,i,Z⟩⟩) λ W V Y=>?_) hd);obtain⟨v,O,l,U,b,j,i,Z⟩:=Y;cases y with
 |str o=>
  subst Z;obtain⟨u,ρ,w,rw,T⟩:=D o d m;have dd:V.heap.DictOf (gk X.p X.w) a vs:=⟨_,es,n,l.kIn a _ hl,⟨rfl,rfl,rfl⟩,rfl,λ e N=>C X.p e (by simpa using N),B X.p,by
   rw[t];exact List.pairwise_map.mpr ((List.pairwise_map.mp nd).imp λ r z=>r (Zf z))⟩
  exact⟨dd.typeIs,wpAny_getItem_of (pq (k:=.inr o) U) dd.mapOf ρ ⟨w,O,l.tok _,rw,q w b O j i (T b)⟩⟩
 |_=>cases m
end
theorem dP:∀{kds:ew},(bE k kds).isSome=true↔k∈kds.map (·.1)
 |[]=>by simp[bE]
 |q::r=>by
  unfold bE;by_cases h:q.1=k
  .simp[h]
  .rw[if_neg h,dP,zj,yc];exact⟨.inr,λ z=>z.resolve_left (λ y=>h y.symm)⟩
theorem Sr:(valueAt vs (.inr k)).isSome=true↔(Sum.inr k:aO)∈vs.map (·.1):=by
 unfold valueAt;rw[Yz,List.find?_isSome];constructor
 .rintro ⟨x,q,e⟩;exact dI.mpr ⟨x,q,by simpa using e⟩
 .intro h;obtain⟨x,q,e⟩:=dI.mp h;exact⟨x,q,by simpa using e⟩
section
variable{X:Cx}{pos:Pos}{e k:Expr}{F G:FE}{A:FA}
theorem Xo(h:∃a,X.mg x=some (.ref a)∧xI X.w X.K a kds)(hk:XE X k G)(hg:Gl X x)(hd:dJ x):PC X .NotIn k (.Name x p) (tE X.K (e1 (l4 kds) G)):=by
 obtain⟨a,L,es,n,hl,lo,M,nd⟩:=h;obtain⟨vs,O,B,C,σ⟩:=M.all;intro aA s S H Q I ⟨c,H0,J,d,g,R,f,q⟩;obtain⟨⟨y,A⟩,F,f⟩:=aS f;obtain⟨D,t,f⟩:=aS f;have E:some (D,A)=some (d,g):=f;cases E;refine bQ (hk aA s S H (λ v Y=>∃b,aE H0 b/\RS X.K c b Y g S/\aU X.K b y v) I ⟨c,H0,J,y,_,R,F,λ v b Y r j o=>⟨b,r,j,o⟩⟩) λ T P Z=>?_;obtain⟨v,Y,i,N,b,r,j,o⟩:=Z;refine nO i hg L ?_ hd;cases y with
 |str m=>
  subst o;have dd:P.heap.DictOf (gk X.p X.w) a vs:=⟨_,es,n,i.kIn a _ hl,⟨rfl,rfl,rfl⟩,rfl,λ e ρ=>C X.p e (by simpa using ρ),B X.p,by
   rw[O];exact List.pairwise_map.mpr ((List.pairwise_map.mp nd).imp λ u z=>u (Zf z))⟩
  have same:(valueAt vs (.inr m)).isSome=(bE m kds).isSome:=by
   rw[zo,Sr,dP,O];constructor
   .intro z;obtain⟨q,l,e⟩:=dI.mp z;exact dI.mpr ⟨q,l,Zf e⟩
   .intro z;obtain⟨q,l,e⟩:=dI.mp z;exact dI.mpr ⟨q,l,by rw[e]⟩
  cases t;refine wpAny_notIn_of (pq (k:=.inr m) N) lo dd.mapOf ?_;rw[same];exact⟨.b _,Y,i.tok _,rfl,q _ b Y r j (by rfl)⟩
 |_=>cases t
theorem Vp(h:∃a,X.mg x=some (.ref a)∧xI X.w X.K a kds)(O:XE X k G)(Y:Gl X x:=by rfl)(hd:dJ x:=by decide)(q:behindInMarks .NotIn (.Name x p)=false:=by first|exact B9 _|with_unfolding_all rfl):XT X (.Compare k [.NotIn] [.Name x p] pos) (Fx.tB (e1 (l4 kds) G)):=PT.wk (ci8 (Xo h O Y hd) q) λ S H Q h=>Bs (λ Q h=>h) h
theorem IP{kvs:List (aO×V)}{vs:List (aO×Value)}(h:KV kvs vs):aM (kvs.map (·.2)) (vs.map (·.2)):=by
 induction h with
 |nil=>exact .nil
 |cons r _ q=>exact .cons r.2 q
theorem QE{vs:List (aO×Value)}(h:ItemsOf (λ i v=>∃k,vs[i]?=some (k,v)) q vs.length):q=(vs.map (·.2)).toArray:=by
 refine Array.ext (by rw[h.1];simp) λ i a b=>?_;obtain⟨k,e⟩:=h.2 i q[i] (Array.getElem?_eq_getElem a);have:=(ir.mp e).2;simp[this]
theorem Xn{o:Expr}{to:TE}{p ap cp:Pos}(hc:X.c=true)(hm:X.mg "list"=none)(ho:PE X o to)(hg:Gl X "list")(Y:lG X o "values")(O:(ap.endLine==cp.line)=true)(hs:starEach [.Call (.Attribute o "values" ap) [] [] cp] X.v=[(false,eval (.Call (.Attribute o "values" ap) [] [] cp) X.v)]):PE X (.Call (.Name "list" p) [.Call (.Attribute o "values" ap) [] [] cp] [] pos) (λ S H Q=>to S H λ x H1=>∃a kvs,x=.ref a∧H1 a=some (.dK kvs)∧∀l,H1 l=none→Q (.ref l) (upd H1 l (.l (kvs.map (·.2))))):=by
 intro aA s S H Q I h;refine jj (l_ I hg hm (u:=.type "list") PyProof.Rows.boot_list (yk ?_ hs rfl));rw[hs];refine Qh (wpAny_Call_method0_late Y O (bQ (ho aA s S H _ I h) λ v f C=>?_));obtain⟨x,H1,i,ρ,a,kvs,G,E,q⟩:=C;subst G;cases ρ;obtain⟨z,hd,vs,B,dd⟩:=Lv i.hok E;have ty:f.TypeIs (.ref a) "dict":=dd.typeIs;obtain⟨ob,es,ep,g,Z,A,t,m,y⟩:=dd;refine⟨"dict","dict.values",PySem.F.plainAttrs_dict,PySem.F.slot_dict_values,PySem.F.type_dict_values,ty,λ b q=>by cases q;exact⟨ob,g,Z.2.1⟩,Q2 rfl (PySem.evalArgs_none ?_)⟩;refine call_meetsIn PySem.F.slot_dict_values ty PySem.F.entry_dict_values (PySem.F.args_dict_values_1 _) (meets_dict_values (gk X.p X.w) a hd) ⟨⟨vs,ob,es,ep,g,Z,A,t,m,y⟩,Q1 ?_⟩;have j:aI X aA S H1 {f with heap:=f.heap.push {cls:=.type "dict_values",data:=.fields #[.ref a]}}:=i.kept (t':=f.toks) λ b o e=>qf _ e;have D:vs.length=kvs.length:=by have:=(IP B).length;simpa using this.symm
 refine PySem.W.kdl_call (PySem.W.kdl_values (prog:=X.p) (w:=X.w) (knd:=gk X.p X.w) (r:=f.heap.n) (d:=a) (kvs:=vs) (ep:=ep)) (I.ok.hd hc) ⟨⟨_,qk _ rfl,rfl,rfl⟩,ob,es,qf _ g,Z,A,t,m,y⟩ (by rw[D];exact z) λ h' K L c k new it=>?_;rw[QE it]at new;refine⟨.ref _,_,j.laid (t':=K) (o:=.l (kvs.map (·.2))) k (qj _) ⟨by rw[qz];exact z,vs.map (·.2),c,IP B,new⟩,rfl,q _ (j.hok.fresh (qj _))⟩
theorem J4(i:Nat)(hc:X.c=true)(hm:X.mg "list"=none)(hN:X.N[i]?=some x:=by rfl)(hv:jR X.v.scope x:=by exact nE)(hd:dJ x:=by decide)(ae:jZ x:=by decide)(hg:Gl X "list":=by rfl)(O:lG X (.Name x Z) "values":=by rfl)(Y:(ap.endLine==cp.line)=true:=by rfl)(hs:starEach [.Call (.Attribute (.Name x Z) "values" ap) [] [] cp] X.v=[(false,eval (.Call (.Attribute (.Name x Z) "values" ap) [] [] cp) X.v)]:=by rfl):mU X (.Call (.Name "list" p) [.Call (.Attribute (.Name x Z) "values" ap) [] [] cp] [] pos) (tK i):=
 PE.wk (Xn hc hm (lI hN hv hd ae) hg O Y hs) λ S H Q e=>by
  obtain⟨c,H0,J,ds,o,R,f,q⟩:=e;obtain⟨⟨b,kds⟩,n,f⟩:=aS f;obtain⟨hl,m⟩:=cx f;cases m;obtain⟨a,e1,_,_,d,vs,e4,k,t⟩:=R.ow i b _ (tF n);refine⟨_,e1,a,_,rfl,e4,λ l h=>?_⟩;have g:=t.length;have lk:d.length=vs.length:=by rw[k,qz,<-g,qz]
  have j:((d.map (Sum.inr:Str->aO)).zip vs).map (·.2)=vs:=Y7 (by rw[qz];lia);rw[j];exact q l vs H0 H (aE.refl _) R h t
end
section
variable{X:Cx}
end
section
variable{X:Cx}{pos:Pos}{e:Expr}{F:FE}{A:FA}{T:FT}
theorem Vm(h:wC m=some d):∃ds,m=.l ds/\d=.l ds:=by
 cases m with
 |l ds=>cases h;exact⟨ds,rfl,rfl⟩
 |d kds=>cases h
theorem Nh(N:oW X.p X.w X.K X.mg X.base k x g)(hr:cm k X.A)(ha:XA X (e::es) A)(hg:Gl X x:=by rfl)(aa:dJ x:=by decide)(he:kv X e es:=by rfl)(ac:lH X pos es:=by rfl):XE X (.Call (.Name x p) (e::es) [] pos) (xN g A):=by
 obtain⟨f,fd,ps,l,D,E,F⟩:=N.ex;refine PE.wk (F_ l hr hg F E D .nil Ia ha aa he ac) λ S H Q O=>?_;obtain⟨c,H0,J,d,M,R,z,q⟩:=O;obtain⟨⟨ds,Y⟩,y,z⟩:=aS z;obtain⟨m,B,z⟩:=aS z;obtain⟨σ,C,z⟩:=aS z;have L:=z;cases L;obtain⟨es,rfl,rfl⟩:=Vm C;refine⟨c,H0,J,ds,_,R,y,λ vs n P ρ i I=>⟨n,ds,_,i.same,by rw[yb];exact I,B,λ a eS H' G=>?_⟩⟩;obtain⟨j,s',s,fr,o,t,ws,v,r⟩:=G;have Z:aE eS (upd eS a (.l ws)):=λ b u q=>by rw[bX (iU q o)];exact q
 refine q _ (upd eS a (.l ws)) H' (ρ.trans (j.trans Z)) (i.after ⟨j.trans Z,s,λ b u q=>?_,λ b u q=>?_⟩) ?_
 .by_cases h:b=a
  .subst h;rw[cM]at q;cases q;exact v
  .rw[bX h]at q;exact s' b u q
 .by_cases h:b=a
  .subst h;exact .inr t
  .rw[bX h]at q;exact fr b u q
 .exact⟨a,ws,rfl,.inl (.inl cM),aB.mono Z _ r⟩
end
section
variable{X:Cx}
theorem HE{K:Frag}{ks:aP}(s:aE H0 H)(O:H0 a=some (.frz o (.dK ((ks.map Sum.inr).zip vs))))(t:aB K H0 ds vs)(l:ks.length=ds.length):∃u,eR H a (.str k) u/\(bE k (ks.zip ds)=none->u=none)/\∀d,bE k (ks.zip ds)=some d->∃v,u=some v/\aU K H0 d v:=by
 have f1:(ks.zip ds).map (·.1)=ks:=Y9 aD;have Z:(ks.zip ds).map (·.2)=ds:=Y7 aD;have b:=t.length;refine⟨ia (eL ks vs) (.inr k),.inl ⟨_,.inr k,.inr ⟨o,s _ _ O⟩,rfl,rfl⟩,λ h=>?_,λ d h=>?_⟩
 .grind[I2]
 .obtain⟨v,q,Y⟩:=BH (by rw[Z];exact t) h;rw[f1]at q;exact⟨v,q,Y⟩
theorem iI(h:wL d=some k):d=.str k:=by
 cases d with
 |str z=>cases h;rfl
 |_=>cases h
theorem cj5(hu:X.A.units+1<cLine):dB X (compareOp .In) (λ y x H Q=>∃a o,x=.ref a/\eR H a y o/\Q (.b o.isSome) H):=by
 intro aA s S H x y v u Q I Z O h;obtain⟨a,o,rfl,g,q⟩:=h;cases O;exact ZC hu I g Z λ s' Y=>⟨.b o.isSome,H,Y,rfl,q⟩
theorem Xi{K:Frag}(s:aE H0 H)(q:aU K H0 (.str k) Y)(O:aU K H0 (.c ks ds) Z):∃a o,Z=.ref a/\eR H a Y o/\o.isSome=(bE k (ks.zip ds)).isSome:=by
 subst q;obtain⟨a,ob,vs,rfl,b,t,l⟩:=O;obtain⟨u,dg,hn,c⟩:=HE s b t l;refine⟨a,u,rfl,dg,?_⟩;cases z:bE k (ks.zip ds)with
 |none=>rw[hn z];rfl
 |some d=>obtain⟨v,e,_⟩:=c d z;rw[e];rfl
theorem C1(Z:X.A.units+1<cLine):gs X .In ki:=⟨_,cj5 Z,λ c H0 H J S x y d h i Q R O Y e q=>by
 unfold ki at e;obtain⟨⟨g,ds⟩,b,e⟩:=aS e;obtain⟨k,f,e⟩:=aS e;cases iC b;cases iI f;cases e;obtain⟨a,o,rfl,dg,z⟩:=Xi R.same O Y;exact⟨a,o,rfl,dg,by rw[z];exact q _ H0 H (aE.refl _) R (by unfold aU;rfl)⟩⟩
end
structure YS(X:Cx)(st:Stmt)(F:FS):Prop where
 go:XS X st F
structure A2(X:Cx)(st:iF)(F:FS):Prop where
 go:il X st F
section
variable{st:Stmt}
theorem yx(h:XS X st B):YS X st B:=⟨h⟩
theorem nL(h:YS X st B)(k:A2 X ss C):A2 X (st::ss) (aL B C):=⟨b3 h.go k.go⟩
end
section
variable{X:Cx}{pos:Pos}{a e:Expr}{F:FE}{A:FA}
theorem cu8(ha:XE X a F):XE X (.UnaryOp .Not a pos) (qY F):=λ aA s S H Q I O=>by
 obtain⟨c,H0,J,d,u,R,f,q⟩:=O;unfold qY wh at f;obtain⟨⟨z,l⟩,o,f⟩:=aS f;unfold wg at f;obtain⟨k,p,f⟩:=aS f;cases f;refine UnaryOp_ (bQ (ha aA s S H (λ v Y=>∃e,aE H0 e/\RS X.K c e Y l S/\aU X.K e z v) I ⟨c,H0,J,z,_,R,o,λ v e Y h Z g=>⟨e,h,Z,g⟩⟩) λ v h⟨x,Y,i,r,e,t,Z,g⟩=>not_of ?_);exact yd (KW aA h S Y x v (λ b H'=>b=k/\H'=Y) i r ⟨k,KY Z.same g p,rfl,rfl⟩) (λ b w O=>by obtain⟨H',j,n,m⟩:=O;subst n m;exact⟨.b (!b),H',j,rfl,q _ e H' t Z (by unfold aU;rfl)⟩) λ _ _ z=>z
theorem X5{Y:Pos}(h:mU X e A):PS X (.Return (some e) Y) (tN X.K (x6 A)):=
 PS.wk (B7 h) λ Dn S H k=>by
  obtain⟨j,g,H0,J,o,R,f,q⟩:=k;unfold x6 xy at f;obtain⟨⟨ds,l⟩,m,f⟩:=aS f;cases f;refine⟨⟨j,g,[]⟩,H0,J,ds,l,R,m,λ p vs d s t O c r=>?_⟩;have i:d p=none:=O.same.free c;refine q p d _ ⟨O.init,λ b u a=>?_,λ b u a=>?_,O.fresh,i,?_,vs,cM,r⟩
  .rw[bX (iU a i)];exact O.same b u a
  .have Z:=O.keep b u a aQ;rw[bX (iU Z c)];exact Z
  .cases n:g p with
   |none=>rfl
   |some u=>have:=O.keep p u n aQ;rw[c]at this;cases this
theorem xnL{st:Stmt}{N:En->Option MO}(h:PS X st (tN X.K N)):XN X [st] N:=r8 h
end
def WI(r r' q:R2)(ta tb tc td:TE):TE:=λ S H Q=>ta S H λ x H1=>tb S H1 λ y H2=>r x y H2 λ z Z=>∃k,z=.b k/\(if k=true then tc S Z λ u H4=>r' y u H4 λ z' Y=>∃O,z'=.b O/\(if O=true then td S Y λ w' H6=>q u w' H6 Q else Q (.b false) Y)else Q (.b false) Z)
section
variable{X:Cx}{pos:Pos}{a b c d:Expr}{ta tb tc td:TE}{F G L M:FE}
theorem T4{op O q:CmpOp}{r r' Y:R2}(ho:dB X (compareOp op) r)(ac:dB X (compareOp O) r')(Z:dB X (compareOp q) Y)(ha:PE X a ta)(hb:PE X b tb)(hc:PE X c tc)(hd:PE X d td)(hm:lastMarks [op,O,q] [b,c,d]=false):PE X (.Compare a [op,O,q] [b,c,d] pos) (WI r r' Y ta tb tc td):=by
 intro aA s S H Q I h;refine Compare_chain (bQ (ha aA s S H _ I h) λ v U=>dD λ x w D R L=>chain_link (bQ (hb aA U S w _ D L) λ u V=>dD λ y A E n M=>
  bQ (ho aA V S A x y v u _ E R n M) λ dd W⟨z,f,i,r3,k,e,l⟩=>?_)) hm
 subst e;cases r3;refine yn ?_;cases k with
 |false=>exact ite_ff ⟨.b false,f,i,rfl,l⟩
 |true=>
  refine ite_tt (chain_link (bQ (hc aA W S f _ i l) λ p s4=>dD λ t B F o N=>bQ (ac aA s4 S B y t u p _ F n o N) λ ee s5 ρ=>?_));obtain⟨z5,g,j,σ,k5,K,m⟩:=ρ;subst K;cases σ;refine yn ?_;cases k5 with
  |false=>exact ite_ff ⟨.b false,g,j,rfl,m⟩
  |true=>exact ite_tt (chain_last (bQ (hd aA s5 S g _ j m) λ w6 s6=>dD λ z6 C G T P=>Z aA s6 S C t z6 p w6 Q G o T P))
theorem Ii{z:D}{b:Bool}(h:iS z=some b):z=.b b:=by
 cases z with
 |b k=>cases h;rfl
 |_=>cases h
theorem cv0{op aa O:CmpOp}{f f' ae:D->D->Option D}(o:gs X op f)(o':gs X aa f')(ak:gs X O ae)(ha:XE X a F)(hb:XE X b G)(hc:XE X c L)(hd:XE X d M)(hm:lastMarks [op,aa,O] [b,c,d]=false:=by with_unfolding_all rfl):XE X (.Compare a [op,aa,O] [b,c,d] pos) (e4 f f' ae F G L M):=by
 obtain⟨r,h1,h2⟩:=o;obtain⟨r',ai,aj⟩:=o';obtain⟨am,af,ag⟩:=ak;refine PE.wk (T4 h1 ai af ha hb hc hd hm) λ S H Q ah=>?_;obtain⟨c,H0,J,w,i,R,g,q⟩:=ah;unfold e4 xM at g;obtain⟨⟨x,P⟩,g1,s⟩:=aS g;unfold x4 at s;obtain⟨⟨y,Y⟩,σ,A⟩:=aS s;unfold xh at A;obtain⟨z,T,B⟩:=aS A;unfold xg at B;obtain⟨k,U,e⟩:=aS B;clear g s A B;dsimp only at σ T U e;have m:=Ii U;subst m;refine⟨c,H0,J,x,P,R,g1,λ vx H1 Hh n R1 r1=>⟨c,H1,P,y,Y,R1,σ,λ vy H2 dk j R2 r2=>?_⟩⟩;refine h2 c H2 dk Y S x y _ vx vy _ R2 (aU.mono j x r1) r2 T λ v I eN l K r3=>?_;unfold aU at r3;refine⟨k,r3,?_⟩;cases k with
 |false=>
  rw[if_neg yf]at e⊢;cases e;exact q _ I eN (n.trans (j.trans l)) K (by unfold aU;rfl)
 |true=>
  rw[if_pos rfl]at e⊢;unfold xZ at e;obtain⟨⟨u,Z⟩,g5,C⟩:=aS e;unfold xj at C;obtain⟨z',V,E⟩:=aS C;unfold xi at E;obtain⟨k',W,h⟩:=aS E;clear e C E;dsimp only at V W h;have m:=Ii W;subst m;refine⟨c,I,Y,u,Z,K,g5,λ vu H4 Hh4 s4 R4 r4=>?_⟩;refine aj c H4 Hh4 Z S y u _ vy vu _ R4 (aU.mono s4 y (aU.mono l y r2)) r4 V λ v' ρ Hh5 p N r5=>?_;unfold aU at r5;refine⟨k',r5,?_⟩;cases k' with
  |false=>
   rw[if_neg yf]at h⊢;cases h;exact q _ ρ Hh5 (n.trans (j.trans (l.trans (s4.trans p)))) N (by unfold aU;rfl)
  |true=>
   rw[if_pos rfl]at h⊢;unfold xY hP at h;obtain⟨⟨t,al⟩,g8,t8⟩:=aS h;obtain⟨w',g9,t9⟩:=aS t8;dsimp only at g9 t9;cases t9;refine⟨c,ρ,Z,t,i,N,g8,λ vt H6 Hh6 s6 R6 r6=>?_⟩;exact ag c H6 Hh6 i S u t w vu vt Q R6 (aU.mono s6 u (aU.mono p u r4)) r6 g9 λ v7 H7 Hh7 s7 R7 r7=>q v7 H7 Hh7 (n.trans (j.trans (l.trans (s4.trans (p.trans (s6.trans s7)))))) R7 r7
end
end Fx
namespace L2
open PySem PySem.Spec PyProof.Rows
set_option maxRecDepth 8000 in
theorem RB(l:Addr)(xs:gm)(n:Nat)(b:Addr)(ys:gm)(m:Nat)(dd:jW)(O:Array (Option Value))(Z:¬(!xs.isEmpty&&Builtin.List.listTooLong (xs.size+ys.size))=true)(h1:xs.size<=sizeLine)(h2:xs.size+ys.size<=sizeLine+1):Meets (Builtin.«list.extend» ⟨[.ref l,.ref b],[]⟩) (λ _ R s=>s.heap.get? l=some {cls:=.type "list",data:=.seq xs n}∧s.heap.get? b=some {cls:=.type "tuple",dict:=dd,data:=.seq ys m,slots:=O}∧R (.ok (.ret Value.none)) {s with heap:=s.heap.update l (Obj.mapSeq λ x=>x++ys),toks:=s.toks}):=
 .of_wp λ prog w A R s h=>by
  obtain⟨hp,g,d,tk,os⟩:=s;obtain⟨hl,q,h⟩:=h;have Y:=AutoSeq1.sub_tuple_tuple;have t2:=AutoSeq1.sub_list_list;have t3:=AutoSeq1.sub_tuple_list;have hz:(xs++ys).size<=sizeLine+1:=Y6▸h2;wp_walk using(Zh hl rfl (hz:=h1) (_hz':=hz)),wpAny_loadPart' hl,wpAny_loadPart' q;exact⟨_,rfl,h⟩
section
variable{X:Cx}
def cw2(K:Frag):V->List V->Hp->VK->Prop:=λ x vs H Q=>∃l b xs zs,x=.ref l/\vs=[.ref b]/\H l=some (.l xs)/\d8 K H b zs/\xs.length+zs.length<=sizeLine/\Q .n (upd H l (.l (xs++zs)))
theorem Xv:vk X "list.extend" (cw2 X.K):=by
 intro aA s S H x vs v us Q I g f h;obtain⟨l,b,xs,zs,rfl,rfl,Z,a,p,q⟩:=h;cases g;obtain⟨u,rfl,d⟩:=f.one;cases d;obtain⟨_,O,n,r,hl,e⟩:=I.lstM Z;obtain⟨ys,Y,⟨⟨k,dd,o,i⟩,e2,c,m,hd⟩,_⟩:=I.tuple a;cases c;cases hd;have j:=Y.length;have big:O.toArray.size+ys.toArray.size<=sizeLine:=by rw[zk,zk];lia
 refine Qd F.slot_list_extend ⟨_,e,rfl⟩ F.entry_list_extend (F.args_list_extend_2 _ _)
  (RB l O.toArray n b ys.toArray m dd i (by rw[Bg big,Q5];exact qp) (by rw[zk];lia) aD) ⟨e,e2,?_⟩
 refine⟨.n,_,I.lset (its':=O++ys) Z e aQ (r.append Y) ?_,rfl,q⟩;rw[zr];lia
end
end L2
namespace Fx
open PySem PySem.Spec PyProof.Rows L2
noncomputable def Dp:D->Option D
 |.t xs=>some (.l xs)
 |_=>none
@[simp] theorem cN2(xs:aG):Dp (.t xs)=some (.l xs):=yI rfl
section
variable{X:Cx}{pos:Pos}{e:Expr}{F:FE}
theorem cu9(i:Nat){x:Str}{p1 p2 Z:Pos}(he:XE X e F)(hN:X.N[i]?=some x:=by rfl)(hv:jR X.v.scope x:=by exact nE)(hd:dJ x:=by decide)(ag:jZ x:=by decide)(Y:lG X (.Name x p1) "extend":=by rfl)(ae:oz X Z [e]:=by rfl)(O:(p2.endLine==Z.line)=true:=by rfl)(aa:starEach [e] X.v=(false,eval e X.v)::starEach [] X.v:=by rfl)(ah:(backTo Z (starEach [] X.v)).any (·.1)=false:=by rfl)(hs:swapsWith (.Call (.Attribute (.Name x p1) "extend" p2) [e] [] Z) none pos.line X.v=pure false:=by rfl):XS X (.Expr (.Call (.Attribute (.Name x p1) "extend" p2) [e] [] Z) pos) (rg i (e1 Dp F)):=
 PS.wk (wI (pE Qs PySem.F.slot_list_extend PySem.F.type_list_extend Xv (lI hN hv hd ag) (iT he k7 aa) Y ae O aa ah) hs) λ Dn S H w=>by
  obtain⟨c,H0,J,r,R,f,q⟩:=w;unfold rg wH at f;obtain⟨M,B,f⟩:=aS f;unfold wG at f;obtain⟨⟨d,L⟩,m,f⟩:=aS f;unfold wF at f;obtain⟨xs,n,f⟩:=aS f;unfold wD at f;obtain⟨ds,j,f⟩:=aS f;dsimp only at n j f;obtain⟨hl,A⟩:=cx f;cases A;unfold e1 at m;obtain⟨⟨l,z⟩,C,g⟩:=aS m;obtain⟨P,o,g⟩:=aS g;cases g;obtain⟨a,k,_,_,y,E,_⟩:=R.ow i _ _ (kE B);refine⟨.ref a,k,.inl ⟨rfl,y,c9.of E⟩,c,H0,J,l,z,R,C,λ v I ρ D h p=>?_⟩;cases l with
  |t zs=>
   cases o;cases n;unfold aU at p;obtain⟨b,ws,rfl,sb,s⟩:=p;obtain⟨K,x2,_,_,vs,G,t⟩:=h.ow i _ _ (kE j);rw[k]at x2;cases x2;have Q:=t.length;have σ:=s.length;refine⟨a,b,vs,ws,rfl,rfl,G,aE.seqT h.same sb,?_,?_⟩
   .have:(1000:Nat)<=sizeLine:=aH
    lia
   .exact q S _ _ D (h.mutOwn (o':=.l (ds++xs)) (u:=.l (vs++ws)) (kE j) k ⟨_,cM,t.app s⟩)
  |_=>cases o
end
open PySem.W
def I_(g:D->En->Option En)(B:FX)(J:En)(o:Option (aG)):Option RX:=aF o λ xs=>h8 g B (fG 0 xs) J
def Jc(g:D->En->Option En)(B:FX)(o:bK):Option RX:=aF o λ p=>I_ g B p.2 (jY p.1)
def Bc(g:D->En->Option En)(F:FE)(B:FX)(J:En):Option RX:=Jc g B (F J)
theorem P7{K:Frag}(R:RS K c H1 Hh J S)(hf:h8 g B xs J=some r)(hy:lZ K ρ H1 xs)(q:iz K mg E c Dn H1 r):∃W:Nat->Nat->L2.St->Hp->Prop,(∃m,W 0 m S Hh)/\∀i m S H,W i m S H->(ρ.stop i H/\Dn.nx S H)\/(ρ.go i H/\∃N:L2.St->Hp->Prop,(∀O H',N O H'->∃m',m'<m/\W (i+1) m' O H')/\∀x H',ρ.yld i H x H'->tG K g x S H' λ ae H2=>tX K mg E B {Dn with nx:=N,ct:=N,bk:=Dn.nx} ae H2):=by
 refine⟨λ i m S H=>m=xs.length-i/\i<=xs.length/\∃H0 J,aE H1 H0/\RS K c H0 H J S/\h8 g B (xs.drop i) J=some r,⟨xs.length,by simp,yg _,H1,J,aE.refl _,R,by simpa using hf⟩,?_⟩;rintro i m S H ⟨rfl,hi,H0,J,s0,k,Y⟩;obtain⟨A,D⟩:=hy H0 H i s0 k.same;by_cases l:i<xs.length
 .have hd:xs[i]?=some xs[i]:=by simp[l]
  obtain⟨go,F⟩:=A _ hd;refine .inr ⟨go,λ O H'=>∃m',m'<xs.length-i/\m'=xs.length-(i+1)/\i+1<=xs.length/\∃H0 J,aE H1 H0/\RS K c H0 H' J O/\h8 g B (xs.drop (i+1)) J=some r,λ O H'⟨m',a,b⟩=>⟨m',a,b⟩,λ x H' t=>?_⟩;obtain⟨aV,σ,u⟩:=F x H' t;rw[u7 hd,BG]at Y;obtain⟨o,p,Y⟩:=aS Y;obtain⟨z,s,Y⟩:=aS Y;have s0:=s0.trans σ.s0;refine⟨c,aV,J,_,o,k.after σ,u,p,λ G H2 dk j R2=>⟨c,H2,o,z,R2,s,?_⟩⟩
  match z,Y with
  |.ok (.nx e),Y=>exact λ O Z eN h f=>⟨_,by lia,rfl,l,Z,e,s0.trans (j.trans h),f,Y⟩
  |.ok (.ct e),Y=>exact λ O Z eN h f=>⟨_,by lia,rfl,l,Z,e,s0.trans (j.trans h),f,Y⟩
  |.ok (.bk e),Y=>cases Y;exact λ O Z eN h f=>q O Z eN (s0.trans (j.trans h)) f
  |.ok (.rt d e),Y=>cases Y;exact λ v O Z eN h f r3=>q v O Z eN (s0.trans (j.trans h)) f r3
  |.ex y,Y=>cases Y;exact λ C dd n O Z eN m h f w=>q C dd n O Z eN m (s0.trans (j.trans h)) f w
 .have hn:xs.drop i=[]:=jq aD;rw[hn,Ro]at Y;cases Y;exact .inl ⟨D aD,q S H0 H s0 k⟩
theorem HR(hR:BF X E)(hm:X.mg x=some (.ref C))(hx:rn X.K C fI=true)(h1:nU X.K C f)(Fk:da X.p X.w X.K X.mg X.base (iL X.p X.w) k fI fd ["self",f] (yG X.K f))(hr:cm (k+1) X.A)(hb:dS X.K fd ["self",f] [])(ha:XE X a F)(hc:X.c=true:=by rfl)(Z:X.ex=[]:=by rfl)(hg:Gl X x:=by rfl)(hd:dJ x:=by decide)(hs:gP X a:=by rfl):qZ X E (.Raise (some (.Call (.Name x np) [a] [] cpos)) none pos) (vm x f F):=
 PS.wk (TB hR hc Z hm hx h1 Fk hr hb ha hg hd hs) λ Dn S H Y=>by
  obtain⟨c,H0,J,r,R,e,q⟩:=Y;obtain⟨⟨d,O⟩,g,e⟩:=aS e;cases e;refine⟨c,H0,J,d,O,R,g,λ v j l i b h dx hx=>?_⟩;have σ:=bS.alloc (o:=.xd [(f,v)]) b.same hx;exact q C (some dx) O S _ _ hm (i.trans σ.s0) (b.after σ) ⟨v,aU.mono σ.s0 _ h,cM⟩
theorem V_(hp:PassesOwn (model X.p X.w) X.A X.v X.xe)(hm:X.mg "enumerate"=none)(hg:XG X (.Tuple O x1 pt) g)(ha:XE X a F)(hb:XX X E body B)(aa:Gl X "enumerate":=by rfl)(hc:X.c=true:=by rfl)(ac:gP X a:=by rfl)(hs:∀x,foldedSetIterable (.Call (.Name "enumerate" p) [a] [] pos') X.v x=pure x:=by intro _;rfl):qZ X E (.For (.Tuple O x1 pt) (.Call (.Name "enumerate" p) [a] [] pos') body [] pos) (Bc g F B):=PS.wk (tJ hp hc (Jw aa hm ha ac) hg hb hs) λ Dn S H Y=>by
 obtain⟨c,H0,J,r,R,f,q⟩:=Y;obtain⟨⟨d,Z⟩,i,f⟩:=aS f;obtain⟨xs,e,f⟩:=aS f;cases d with
 |l ys=>
  cases e;refine⟨c,H0,J,_,Z,R,i,λ v m n l b j=>?_⟩;obtain⟨a,vs,rfl,h,k⟩:=j;exact⟨a,vs,rfl,aE.seq b.same h,P7 b f (FD h k) (q.mono l)⟩
 |_=>cases e
section
variable{K:Frag}
theorem XC.fld(f:XC K C)(g:nU K C name)(X:K.In s.heap)(I:InstAt s.heap x ox C (some od))(hl:lookIn name od=some (some v))(hv:handedIn v=true)(h:Q v {s with toks:=s.toks+1}):wpAny (model prog w) A (getAttr (.ref x) name true) Q E s:=by
 obtain⟨c,b,_,hd⟩:=g.cl;have a:=findObj_own (by unfold hasDictIn;rw[b];exact hd) g.na rfl hl;obtain⟨i,e,d,t,os⟩:=s;have q:=I.type (M:=model prog w);have O:=looks_findIn (M:=model prog w) X f.ga;have L2:=looks_findIn (M:=model prog w) X f.gh;have Y:=looks_find (M:=model prog w) X I a;have Z:(onTheHeap (.ref C)&&Value.builtin "BaseException.__getattribute__"==Value.builtin "object.__getattribute__")=false:=by rw[show(Value.builtin "BaseException.__getattribute__"==Value.builtin "object.__getattribute__")=false by decide+kernel];rfl
 refine qb (wpAny_mkText ?_);refine yo (qb (q.at (qb (O.at ?_))));dsimp only;rw[Z,if_neg aH];unfold getAttrByItsOwn hookBefore;refine qb ?_;rw[show onTheHeap (.ref C)=true from rfl,if_pos rfl];refine L2.at (qb (Yr (yo ?_)));unfold callGetattribute;rw[show(true&&onTheHeap (Value.builtin "BaseException.__getattribute__"))=false from rfl,if_neg aH];refine qb (Zv (F.attr_ValueError.ga.bind (.ref x)) ?_);refine Q9 (Ze F.attr_ValueError.ga.plain F.entry_bexc_ga (f.ck X I ?_));refine qb (qc (qb (qc (qb (q.at (qb (Y.at ?_)))))));refine qc ?_;show wpAny _ _ (handedOut v) _ _ _;rw[handedOut_of hv];exact qc h
end
theorem VW{h:Heap}(n:h.Ns1 dx m)(e:m name=some u):∃o,h.get? dx=some o/\lookIn name o=some (some u):=by obtain⟨o,es,a,q,Y,b,Z,O⟩:=n;refine⟨o,q,?_⟩;unfold lookIn;rw[Y];dsimp only;have z:=O name;rw[e]at z;unfold nsFind findBy at z;grind
theorem RV(c:XC X.K C)(g:nU X.K C f)(he:PE (mG X a (dY (.ref C) vs (some dx))) e te)(hb:attributeBase e f X.v (eval e X.v)=eval e X.v):PE (mG X a (dY (.ref C) vs (some dx))) (.Attribute e f pos) (λ S H Q=>te S H λ x H1=>x=.ref a/\∃n,H1 dx=some (.xd [(f,.int n)])/\Q (.int n) H1):=by
 intro aA s S H Q I h;refine V7 hb (bQ (he aA s S H _ I h) λ u p=>dD λ x H1 Y l z=>?_);obtain⟨rfl,n,b,q⟩:=z;obtain rfl:u=.ref a:=l;obtain⟨m,d,k⟩:=(show bO _ _ H1 p.heap dx (.xd [(f,.int n)])from Y.hok dx _ b);have O:=k f;rw[show([(f,V.int n)]:List (Str×V)).lookup f=some (.int n) by simp[List.lookup]]at O;cases Z:m f with
 |none=>rw[Z]at O;exact O.elim
 |some u=>
  rw[Z]at O;obtain⟨r,rfl⟩:=O;obtain⟨o,i,j⟩:=VW d Z;exact c.fld g Y.kIn ⟨(Y.pin (a,dY (.ref C) vs (some dx)) (qg)).1,rfl,rfl,i⟩ j rfl ⟨.int n,H1,Y.tok _,⟨r,rfl⟩,q⟩
theorem VR{X:Cx}{c:Addr}{b:Bool}(O:kitOne X.K (.type "NoneType") (.ref c)=some b):bV X (.builtin "isinstance") (λ xs H Q=>xs=[.n,.ref c]∧Q (.b b) H):=by
 intro aA s S H xs us Q I r h;obtain⟨rfl,q⟩:=h;obtain⟨d,e,rfl,Y,Z⟩:=tw r;obtain rfl:d=.none:=Y;obtain rfl:e=.ref c:=Z;exact kia_one kitx_none I.kIn trivial O (λ z=>nomatch z) λ a=>⟨.b b,H,I.tok a,rfl,q⟩
def Mb(K:Frag)(C:Addr):Bool:=(clsIn K C).any λ c=>pb c.mro&&c.hasDict
theorem Xm{K:Frag}(h:Mb K C=true):∃cd,clsIn K C=some cd/\pb cd.mro=true/\cd.hasDict=true:=by obtain⟨cd,a,b⟩:=any_some h;grind
structure O3(K:Frag)(mg:Str->Option Value)(x y f qual:Str)(st:Stmt)(c0 c2 fI:Addr)(fd:FuncData):Prop where
 m0:mg x=some (.ref c0)
 m2:mg y=some (.ref c2)
 x0:rn K c0 fI=true
 s1:nU K c0 f
 k0:XC K c0
 e0:exmOne K (.ref c0) (.ref c2)=some true
 t0:kitOne K (.ref c0) (.ref c0)=some true
 n0:kitOne K (.type "NoneType") (.ref c0)=some false
 fn:kb K "__init__" qual st fI fd
 b0:dS K fd ["self",f] []
def Jt:D⊕XV->Option D
 |.inl _=>some .n
 |.inr (x,some (f,.int n))=>if x="NoText"∧f="at" then some (.int n)else none
 |_=>none
theorem Vi{y:XV}{d:D}(h:Jt (.inr y)=some d):∃n:Int,y=(lW,some (lX,D.int n))∧d=.int n:=by
 obtain⟨x,_|⟨f,e⟩⟩:=y
 .cases h
 .cases e with
  |int n=>
   have h:(if x="NoText"∧f="at" then some (D.int n)else none)=some d:=h;split at h
   .rename_i q;cases h;exact⟨n,by rw[q.1,q.2],rfl⟩
   .cases h
  |_=>cases h
section
variable{X:Cx}
theorem JY{o b e:Expr}{E Kf Df:FE}{apos cpos:Pos}(hu:X.A.units+1<cLine)(ho:XE X o E)(hk:XE X b Kf)(hd:XE X e Df)(m:M2 X o "get" apos b e cpos:=by exact⟨rfl,rfl,rfl,rfl⟩):XE X (.Call (.Attribute o "get" apos) [b,e] [] cpos) (lq E Kf Df):=
 PE.wk (Q_ hu ho hk hd m) λ S H Q Z=>by
  obtain⟨c,H0,J,d,T,R,f,q⟩:=Z;unfold lq at f;obtain⟨⟨x,O⟩,D,f⟩:=aS f;obtain⟨⟨ρ,ds⟩,B,f⟩:=aS f;obtain⟨⟨y,Y⟩,F,f⟩:=aS f;obtain⟨⟨z,V⟩,G,f⟩:=aS f;obtain⟨k,C,f⟩:=aS f;cases iC B;cases iI C;cases f;refine⟨c,H0,J,_,O,R,D,λ W p U M g K=>?_⟩;have i:=K;unfold aU at i;obtain⟨a,ob,vs,rfl,j,t,l⟩:=i;refine⟨a,rfl,.inl ⟨_,.inr ⟨ob,g.same _ _ j⟩⟩,c,p,O,_,Y,g,F,λ vy r dk N R2 n=>⟨c,r,Y,_,_,R2,G,λ vz s eN P h r3=>?_⟩⟩;unfold aU at n;subst n;have σ:=N.trans P;obtain⟨u,dg,hn,I⟩:=HE (k:=k) h.same (σ _ _ j) (aB.mono σ _ t) l;refine⟨u,dg,q _ s eN (M.trans σ) h ?_⟩;cases w:bE k (ρ.zip ds)with
  |none=>rw[hn w];exact r3
  |some d=>obtain⟨v,e,L⟩:=I d w;rw[e];exact L
end
def B4:D⊕XV->Option D
 |.inl _=>some (.int (-1))
 |.inr y=>Jt (.inr y)
def B3(g:aG->Option (D⊕XV))(ds:aG):fA:=
 if ds.length=1 then aF (gQ (cq "\n") (eV 0) (ds.map .i++[.i .n,.z])) λ p=>aF (g [p.1]) B4 else none
theorem Ij{g:aG->Option (D⊕XV)}{ds:aG}{d:D}(h:B3 g ds=some d):∃O t z,ds=[O]∧gQ (cq "\n") (eV 0) [.i O,.i .n,.z]=some (t,[.i O,.i .n,.z])∧g [t]=some z∧B4 z=some d:=by
 unfold B3 at h;split at h
 .rename_i hl;cases ds with
  |nil=>cases hl
  |cons O r=>
   cases r with
   |cons=>cases hl
   |nil=>
    obtain⟨⟨t,J⟩,b,h⟩:=aS h;obtain⟨z,c,Z⟩:=aS h;have e:gQ (cq "\n") (eV 0) [.i O,.i .n,.z]=some (t,J):=b;have q:=e;unfold gQ at q;obtain⟨⟨x,Y⟩,a,q⟩:=aS q;have a:some (O,([.i O,.i .n,.z]:En))=some (x,Y):=a;cases a;obtain⟨xs,_,q⟩:=aS q;obtain⟨y,_,q⟩:=aS q;cases q;exact⟨O,t,z,rfl,e,c,Z⟩
 .cases h
def xH:D->Option D
 |.l xs=>some (.l (cF xs))
 |_=>none
@[simp] theorem cH8(xs:aG):xH (.l xs)=some (.l (cF xs)):=yI rfl
theorem QY(q:cf):slicePick q.toArray none none (some 2)=(cF q).toArray:=by
 unfold slicePick;have b:sliceBounds none none (some 2) q.toArray.size=(0,(q.length:Int),2):=by unfold sliceBounds;simp
 rw[b];have r:sliceRange 0 (q.length:Int) 2=(List.range ((q.length+1)/2)).map λ k=>2*k:=by
  unfold sliceRange;have c:(if(2:Int)>0 then(if(0:Int)<(q.length:Int)then((q.length:Int)-0+2-1)/2 else 0)else(if(0:Int)>(q.length:Int)then(0-(q.length:Int)-2-1)/(-2)else 0)).toNat=(q.length+1)/2:=by
   rw[if_pos aH];by_cases h:(0:Int)<(q.length:Int)
   .rw[if_pos h];lia
   .rw[if_neg h];lia
  simp only[c];refine Yp λ k O=>?_
  lia
 show((sliceRange 0 (q.length:Int) 2).filterMap (q.toArray[·]?)).toArray=_;rw[r,Zs,<-zE];congr 2;funext m;simp
section
variable{X:Cx}{pos:Pos}{F:FE}{e:Expr}
theorem cj2{te:TE}{p2 p3:Pos}{k:Nat}(he:PE X e te):PE X (.Subscript e (.Slice none none (some (.Constant (.int 2) k p3)) p2) pos) (λ S H Q=>te S H λ x H1=>∃a xs,x=.ref a/\c9 X.K H1 a xs/\∀p,H1 p=none->Q (.ref p) (upd H1 p (.l (cF xs)))):=by
 intro aA s S H Q I h;refine Z9 (bQ (he aA s S H _ I h) λ v C O=>?_);obtain⟨x,H1,g,z,a,xs,n,D,q⟩:=O;subst n;cases z;refine wpAny_Slice ?_;rw[Z0];refine qc (qc ?_);rw[Yt];refine bQ (sO (X:=X) (i:=2) (j:=k) (pos:=p3) aA C S H1 (λ y H'=>y=.int 2/\H'=H1) g ⟨rfl,rfl⟩) λ st Y O=>?_;obtain⟨y,f,l,B,r,m⟩:=O;subst r m;obtain⟨t,rfl⟩:=B;have Z:aI X aA S f {Y with heap:=Y.heap.push {cls:=.type "slice",data:=.fields #[.none,.none,.int 2 t]}}:=l.kept (t':=Y.toks) λ b ob q=>qf _ q;obtain⟨F,d,c,u⟩:=Z.list D;have E:=d.length;show wpAny (model X.p X.w) X.A (subscriptTail e (.Slice none none (some (.Constant (.int 2) k p3)) p2) (.ref a) (.ref Y.heap.objs.size)) (EP X aA S Q) X.xe {Y with heap:=Y.heap.push {cls:=.type "slice",data:=.fields #[.none,.none,.int 2 t]}};refine tail_any (ops:=[.ref a,.ref Y.heap.objs.size]) c.isList.typeIs slot_list_getitem.lookup ?_ (by with_unfolding_all rfl);refine Zy c.isList (Zt ..) .none .none (.int 2 t) aQ ?_ (by rw[zk]<;>lia);rw[QY];refine⟨.ref _,_,Z.laid (t':=Y.toks) (o:=.l (cF xs)) (λ b ob q=>qf _ q) (qj _) ?_,rfl,q _ (Z.hok.fresh (qj _))⟩;exact⟨zw (sj _) u,_,0,z_ d,qk _ rfl⟩
theorem LD{p2 p3:Pos}{k:Nat}(he:XE X e F):XE X (.Subscript e (.Slice none none (some (.Constant (.int 2) k p3)) p2) pos) (e1 xH F):=PE.wk (cj2 he) λ S H Q O=>by
 obtain⟨c,H0,J,d,b,R,f,q⟩:=O;unfold e1 at f;obtain⟨⟨x,Y⟩,l,f⟩:=aS f;obtain⟨i,g,f⟩:=aS f;have j:some (i,Y)=some (d,b):=f;cases j;cases x with
 |l xs=>
  cases g;refine⟨c,H0,J,_,_,R,l,λ v s u n Z h=>?_⟩;unfold aU at h;obtain⟨a,ws,rfl,r,t⟩:=h;refine⟨a,ws,rfl,aE.seq Z.same r,λ p m=>?_⟩;have σ:=bS.alloc (o:=.l (cF ws)) Z.same m;refine q _ _ _ (n.trans σ.s0) (Z.after σ) ?_;unfold aU;exact⟨p,_,rfl,.inl (.inl cM),aB.mono σ.s0 _ (yN t)⟩
 |_=>cases g
end
def m4(a:Int):eB->List Int
 |[]=>[a]
 |b::r=>if a<=b then a::b::r else b::m4 a r
def ij:eB->List Int
 |[]=>[]
 |a::r=>m4 a (ij r)
theorem z_9(a:Int):∀l,(m4 a l).Perm (a::l)
 |[]=>.refl _
 |b::r=>by
  unfold m4;split
  .exact .refl _
  .exact((z_9 a r).cons b).trans (.swap a b r)
theorem Ej:∀l,(ij l).Perm l
 |[]=>.refl _
 |a::r=>(z_9 a _).trans ((Ej r).cons a)
theorem HL(a:Int):∀l:eB,l.Pairwise (·<=·)->(m4 a l).Pairwise (·<=·)
 |[],_=>by simp[m4]
 |b::r,h=>by
  obtain⟨c,d⟩:=List.pairwise_cons.mp h;unfold m4;split
  .rename_i z;exact List.pairwise_cons.mpr ⟨λ x O=>by
    rcases qx O with q|q
    .lia
    .have:=c x q;lia,h⟩
  .rename_i z;exact List.pairwise_cons.mpr ⟨λ x O=>by
    rcases qx ((z_9 a r).mem_iff.mp O)with q|q
    .lia
    .exact c x q,HL a r d⟩
theorem Jp:∀l,(ij l).Pairwise (·<=·)
 |[]=>.nil
 |a::r=>HL a _ (Jp r)
def inX:D->Option Int
 |.int n=>some n
 |_=>none
def xE:aG->Option (eB)
 |[]=>some []
 |d::r=>aF (inX d) λ n=>aF (xE r) λ q=>some (n::q)
theorem iE:∀{l:aG}{O:eB},xE l=some O->l=O.map .int
 |[],O,h=>by cases h;rfl
 |d::r,O,h=>by
  unfold xE at h;obtain⟨n,a,h⟩:=aS h;obtain⟨q,b,h⟩:=aS h;cases h;rw[iE b];cases d with
  |int i=>cases a;rfl
  |_=>cases a
def mK:aG->Option D
 |[.l l]=>aF (xE l) λ q=>if q.length<=60 then some (.l ((ij q).map .int))else none
 |_=>none
theorem F3{K:Frag}{H:Hp}:∀{O:eB}{vs:bY},aB K H (O.map .int) vs->vs=O.map .int
 |[],vs,h=>by unfold aB at h;exact h
 |n::r,vs,h=>by
  unfold aB at h;obtain⟨v,q,rfl,a,b⟩:=h;unfold aU at a;rw[a,F3 b];rfl
theorem F4{K:Frag}{H:Hp}:∀q:eB,aB K H (q.map D.int) (q.map V.int)
 |[]=>aB.nil_
 |n::r=>aB.cons (fV H n) (F4 r)
section
variable{X:Cx}
theorem SO:bV X (.builtin "sorted") (λ xs H Q=>∃p O,xs=[.ref p]∧O.length≤60∧c9 X.K H p (O.map V.int)∧∀l,H l=none→Q (.ref l) (upd H l (.l ((ij O).map V.int)))):=by
 intro aA s S H xs us Q I r h;obtain⟨p,O,rfl,k,w,q⟩:=h;obtain⟨u,rfl,v⟩:=gr r;cases v;obtain⟨Y,a,t,A⟩:=I.list w;have j:IntsAre Y O:=dQ (is:=O) a;have z:Y.length=O.length:=by rw[<-a.length,qz]
 refine sorted_ints t.isList j aD λ Z f b c d=>?_;obtain⟨e,i⟩:=sortedAll_at s.heap Y Z;have g:f=ij O:=List.Perm.eq_of_pairwise (le:=(·<=·)) (λ x y _ _ p q=>Int.le_antisymm p q) d (Jp O) (c.trans (Ej O).symm);subst g;have m:((ij O).map V.int).length<=sizeLine:=by rw[qz,(Ej O).length_eq];exact zw k aH
 exact⟨.ref (s.heap.n+1),_,I.laid (t':=s.toks) (o:=.l ((ij O).map V.int)) (λ _ _=>sortedAll_old) (Qu _) ⟨m,Z.toList,e,eZ b,i⟩,rfl,q _ (I.hok.fresh (Qu _))⟩
theorem Ih:i6 X (.builtin "sorted") mK:=⟨_,SO,λ c H0 H J S ds d vs Q R r e q=>by
 unfold mK at e;split at e
 .obtain⟨Y,a,e⟩:=aS e;split at e
  .rename_i Z;cases e;cases iE a;obtain⟨v,rfl,O⟩:=aB.v1 r;unfold aU at O;obtain⟨p,ws,rfl,s,t⟩:=O;rw[F3 t]at s;refine⟨p,Y,rfl,Z,aE.seq R.same s,λ l hl=>?_⟩;have σ:=bS.alloc (o:=.l ((ij Y).map V.int)) R.same hl;refine q _ _ _ σ.s0 (R.after σ) ?_;unfold aU;exact⟨l,_,rfl,.inl (.inl cM),F4 _⟩
  .cases e
 .cases e⟩
end
end Fx
namespace Fx
open PySem
noncomputable section
abbrev gc:FS:=bJ (eC (.b false))
abbrev eJ:FA:=aC (eV 0) aN
abbrev E9:FT:=cZ (tV (pN .str (eV 0)))
def Ai:FS:=
 (aL (bG (c_ E9 (cZ (tB (e3 fR fR (zI 1) (eF cg eJ) (zI 8)))))
 gc
 sN)
 (bJ (eF gf (aC (c4 [] (eV 0) bD (e2 bP (eV 0) (zR "abcdefghijklmnopqrstuvwxyz"))) aN))))
def p9:aG->Option D:=dH 1 0 Ai
abbrev c5:FA:=aC (eV 1) aN
abbrev j_:FE:=e2 bA (eV 1) (zI 0)
def rR:FS:=
 (aL (bN 1 (pM (tV (e2 wj (eV 0) (zR "-"))) (cz (eV 0) (oS (zI 1)) oN) (eV 0)))
 (aL (bG (c_ (cZ (tB (e3 fR fR (zI 1) (eF cg c5) (zI 12)))) (cZ (tV (eF gf (aC (c4 [] (eV 1) bD (e2 bP (eV 0) (zR "0123456789"))) aN)))))
 gc
 sN)
 (bJ (iV (e2 bM (eV 0) (zR "0")) (e2 dv j_ (zR "0"))))))
def jC:aG->Option D:=dH 1 1 rR
abbrev lL:ew:=[(cH,(.str "NAME LOW HIGH")),(fC,(.str "NAME FROM BEGIN END")),(gH,(.str "NAME FROM KEY ..")),(gJ,(.str "NAME FROM KEY ..")),(e_,(.str "NAME FROM LOW HIGH")),(fb,(.str "NAME FROM M R")),(fe,(.str "NAME FROM A B")),(fD,(.str "NAME FROM C")),(c1,(.str "NAME FROM KEY OTHER ..")),(bH,(.str "NAME FROM FROM ..")),(bL,(.str "NAME LEFT RIGHT REACH HOW")),(hZ,(.str "NAME FROM WIDTH FOLD")),(fY,(.str "NAME FROM WIDTH STEP FOLD")),(dR,(.str "NAME FROM GAP FOLD")),(h6,(.str "NAME FROM FOLD")),(bI,(.str "NAME FROM"))]
abbrev i5:FE:=e1 rf (zI 1)
abbrev iK:FA:=aC (eV 3) aN
abbrev E6:FT:=tB (e2 bM (eV 0) (zR "ask"))
abbrev Fc:FT:=tB (e2 lB (eV 1) (zI 2))
def Fj:FS:=
 (aL (bN 2 (pM (ey E6 Fc) (e2 cu (e1 (rM lL) (eV 0)) (zR " LOW HIGH")) (e1 (rM lL) (eV 0))))
 (aL (m1 3 (qa (e2 kA (eV 2) (zR " "))))
 (aL (bG (eY 3 (tB (e2 bM (e2 bA (eV 3) i5) (zR ".."))))
 (aL (Mq 3)
 (Mr 3 (wZ (aC (dO 3 (e2 bA (eV 3) i5)) aN) (e2 ke (eV 1) (dO 3 (eF cg iK))))))
 sN)
 (jT 3 (bJ (eV 3))))))
def ip:aG->Option D:=dH 2 2 Fj
def lR:FS:=
 (aL (bG (tB (e2 bP (eV 0) (eC (.t [(.str "NAME"),(.str "FROM"),(.str "LEFT"),(.str "RIGHT"),(.str "KEY"),(.str "OTHER")]))))
 (bJ (eF p9 c5))
 sN)
 (aL (bG (tB (e2 bM (eV 0) (zR "HOW")))
 (bJ (e2 bP (eV 1) (eC (.t [(.str "sum"),(.str "less"),(.str "left"),(.str "right")]))))
 sN)
 (aL (bG (tB (e2 bM (eV 0) (zR "FOLD")))
 (bJ (e2 bP (eV 1) (eC (.t [(.str "count"),(.str "sum"),(.str "most"),(.str "least")]))))
 sN)
 (bJ (iV (eF jC c5) (eG (e2 bM (eV 1) (zR "*")) (e2 bP (eV 0) (eC (.t [(.str "LOW"),(.str "HIGH"),(.str "END")])))))))))
def dM:aG->Option D:=dH 2 0 lR
abbrev mI:FS:=bJ (eC .n)
def xV:FS:=
 (aL (bG (tB (e2 bM (eV 0) (zR "*")))
 mI
 sN)
 (bJ (pM (tV (eF jC eJ)) (eF iH eJ) (eV 0))))
def kU:aG->Option D:=dH 1 0 xV
def SW:FS:=
 (bJ (iV (e2 mm (eV 0) (eC .n)) (iV (e2 mm (eV 1) (eC .n)) (e2 fR (eV 0) (eV 1)))))
def Ed:aG->Option D:=dH 2 0 SW
def Nf:FS:=
 (bJ (e2 bM (eF mz eJ) (eF cg eJ)))
def pR:aG->Option D:=dH 1 0 Nf
abbrev i4:FE:=e2 bA (eV 2) (zI 0)
abbrev fF:FA:=aC (eV 2) aN
abbrev l3:FE:=e2 bA (eV 2) (zI 1)
abbrev u5:FE:=e2 bM (eV 0) (zR "ever")
abbrev EZ:FT:=tB (e2 bM (eV 0) (zR "slide"))
abbrev NL:FT:=tB (e2 bP (eV 0) (df (aC (zR "only") (aC (zR "but") aN))))
abbrev E1:FT:=tB (e2 bM (eV 0) (zR "time"))
abbrev E3:FT:=tB (e2 bM (eV 0) (zR "rest"))
abbrev E4:FT:=tB (e2 bM (eV 0) (zR "turn"))
abbrev NO:FE:=df (aC (zI 2) (aC (zI 4) (aC (zI 6) (aC (zI 8) aN))))
def MP:FS:=
 (aL (bG (tB (e2 bP (eV 0) (df (aC (zR "in") (aC (zR "span") (aC (zR "ask") aN))))))
 (bJ (iV (qY (eV 2)) (eF Ed (aC i4 (aC l3 aN)))))
 sN)
 (aL (bG E1
 (bJ (eG (e2 ot i4 (zI 0)) (iV (e2 mm l3 (eC .n)) (e2 gB i4 l3))))
 sN)
 (aL (bG NL
 (bJ (eG (e2 fR (eF cg fF) (zI 8)) (eF pR fF)))
 sN)
 (aL (bG E3
 (bJ (eG (e3 fR fR (zI 2) i4 (zI 1000)) (e3 fR gB (zI 0) l3 i4)))
 sN)
 (aL (bG E4
 (bJ (eG (e3 fR fR (e1 rf (zI 1000)) i4 (zI 1000)) (e2 dv i4 (zI 0))))
 sN)
 (aL (bG (tB (e2 bM (eV 0) (zR "put")))
 (bJ (eG (e2 bP (eF cg fF) NO) (eF pR (aC (e1 (n9 0) (eV 2)) aN))))
 sN)
 (aL (bG (tB (e2 bM (eV 0) (zR "pour")))
 (bJ (eG (e2 fR (eF cg c5) (zI 8)) (eF pR c5)))
 sN)
 (aL (bG (tB (e2 bP (eV 0) (df (aC (zR "later") (aC (zR "pair") aN)))))
 (bJ (e2 ot i4 (zI 0)))
 sN)
 (aL (bG EZ
 (bJ (e4 fR gB fR (zI 1) l3 i4 (e2 i_ (zI 20) l3)))
 sN)
 (bJ (iV u5 (e2 ot i4 (zI 1)))))))))))))
def dC:aG->Option D:=dH 3 0 MP
abbrev oT:FE:=e2 bA (eV 1) (zI 1)
abbrev ES:FS:=bN 6 (e2 wA (e1 (n9 0) (eV 6)) (e1 (n9 1) (eV 6)))
abbrev sD:FA:=aC (eV 5) aN
abbrev E7:FT:=tB (e2 bM (eV 2) (zR "put"))
def uE:FS:=
 (aL (bN 1 (e2 kA (eV 0) (zR " ")))
 (aL (bN 2 j_)
 (aL (bG (tB (e1 (l4 lL) (eV 2)))
 mI
 sN)
 (aL (bN 3 (eF ip (aC (eV 2) (aC (e2 ke (eF cg c5) (zI 1)) aN))))
 (aL (bN 4 (e2 v_ (eV 3) (cz (eV 1) (oS (zI 1)) oN)))
 (aL (bG (c_ (tB (e2 dv (eF cg iK) (e2 ke (eF cg c5) (zI 1)))) (cZ (tV (eF gf (aC (eU [] (eV 4) bD (eF dM (aC (eV 0) c5))) aN)))))
 mI
 sN)
 (aL (bN 5 (eF mE (aC (eU [] (eV 4) (tB (e2 bP (eV 0) (eC (.t [(.str "FROM"),(.str "LEFT"),(.str "RIGHT")])))) (eV 1)) aN)))
 (aL (bN 6 (eF mE (aC (c4 [] (cz (eV 1) (oS (e2 cu (zI 2) (eF cg sD))) oN) bD (eF kU eJ)) aN)))
 (aL (bG (cZ (tV (eF dC (aC (eV 2) (aC (eV 5) (aC (eV 6) aN))))))
 mI
 sN)
 (aL (bG E7
 ES
 sN)
 (bJ (df (aC (eV 2) (aC oT (aC (eV 5) (aC (eV 6) aN))))))))))))))))
def fH:aG->Option D:=dH 1 6 uE
abbrev i3:FE:=e2 bA (eV 0) (zI 0)
abbrev oQ:FE:=e2 bA (eV 0) (zI 3)
abbrev u6:FE:=e2 bA (eV 0) (zI 2)
def N2:FS:=
 (aL (bN 3 (e2 bA oQ i5))
 (aL (bG (c_ (tB (e2 bM i3 (zR "gaps"))) (c_ (tB (e2 bM (eV 3) (zR "sum"))) (tB (e2 bM (e2 bA (e2 lA (eV 1) (e2 bA u6 (zI 0))) (zI 0)) (zR "pair")))))
 gc
 sN)
 (bJ (iV (e2 dv (eV 3) (zR "count")) (eG (e2 vM (eV 2) (eC .n)) (e3 fR fR (zI 1) (eV 2) (zI 50)))))))
def uk:aG->Option D:=dH 3 1 N2
abbrev Nu:FS:=aL (bG (tB (e2 bM i3 (zR "ask")))
  (bJ (eG (e2 bP (e2 bA i4 (zI 0)) (eC (.t [(.str "fixed"),(.str "slide"),(.str "gaps"),(.str "ever")]))) (iV (qY oQ) (eF uk (aC i4 (aC (eV 1) (aC (e2 bA oQ (zI 0)) aN)))))))
  sN)
  (aL (bG (ey (tB (e2 bP i3 (df (aC (zR "fixed") (aC (zR "slide") (aC (zR "ever") aN)))))) (tB (e2 bM (e2 bA i4 (zI 0)) (zR "pair"))))
  (bJ (e2 dv (e2 bA oQ i5) (zR "sum")))
  sN)
  (bJ (eF gf (aC (c4 [] (eV 2) bD (e2 bP i3 (eC (.t [(.str "in"),(.str "time"),(.str "only"),(.str "but"),(.str "span"),(.str "rest"),(.str "turn"),(.str "later"),(.str "put"),(.str "pour")])))) aN))))
abbrev j3:FE:=e2 bA (eV 0) (zI 1)
abbrev Fh:FE:=e2 ki (eV 0) (eV 1)
def N1:FS:=
 (aL (bG (c_ (tB (e2 ki j3 (eV 1))) (cZ (tV (eF gf (aC (c4 [1] u6 bD Fh) aN)))))
 gc
 sN)
 (aL (bN 2 (c4 [1] u6 bD (e2 lA (eV 1) (eV 0))))
 Nu))
def gi:aG->Option D:=dH 2 1 N1
abbrev E8:FT:=tB (e2 mm (eV 4) (eC .n))
abbrev E_:FT:=tB (e2 ot (eV 2) (zI 24))
abbrev Fi:FE:=e2 bA (eV 4) (zI 1)
abbrev ur:FS:=
 (aL (bN 4 (eF fH iK))
 (aL (bG (eI 1 (c_ E_ (c_ E8 (cZ (tV (eF gi (aC (eV 4) c5)))))))
 D2
 sN)
 (rZ 1 Fi (eV 4))))
def Na:En->Option MO:=
 (ua (bG E9
 D2
 sN)
 (ua (uO 1)
 (ua (A_ (gT [2,3]) (e2 kA (eV 0) (zR "\n"))
 ur)
 (x6 (tK 1)))))
def rQ:aG->Option MO:=uq 1 4 Na
abbrev jU:FX:=
 (pA (rS (bN 4 (eF fH iK)))
 (pA (yB (eI 1 (c_ E_ (c_ E8 (cZ (tV (eF gi (aC (eV 4) c5)))))))
 (vm lW lX (eV 2))
 (rS sN))
 (rS (rZ 1 Fi (eV 4)))))
def MV:FX:=
 (pA (yB E9
 (vm lW lX (zI 0))
 (rS sN))
 (pA (rS (uO 1))
 (pA (Bc (gT [2,3]) (e2 kA (eV 0) (zR "\n"))
 jU)
 (rS (bJ (uj (tK 1)))))))
def ou:aG->Option (D⊕XV):=rO 1 4 MV
abbrev pO:FS:=
 (bG (tV (pN .tuple (eV 2)))
 (rg 1 (e1 Dp (eV 2)))
 (pk 1 (pM (tB (e2 mm (eV 2) (eC .n))) (zR "*") (eF kO fF))))
abbrev NB:FS:=bJ (gQ (cq " ") (eV 1))
def DW:FS:=
 (aL (m1 1 (qa (e2 cu (cY (aC i3 (aC j3 aN))) (eF n8 (aC u6 aN)))))
 (aL (oh (gN 2) oQ
 pO)
 (jT 1 NB)))
def uB:aG->Option D:=dH 1 2 DW
def DN:FS:=
 (bJ (gQ (cq "\n") (c4 [] (eV 0) bD (eF uB eJ))))
def xP:aG->Option D:=dH 1 0 DN
abbrev sA:FE:=e2 bA (eV 0) (eV 1)
def D3:FS:=
 (aL (bG (tB (e2 gB (eV 1) (eF cg eJ)))
 (bJ sA)
 sN)
 (bJ (zI 0)))
def kW:aG->Option D:=dH 2 0 D3
abbrev EW:FT:=tB (e2 gB (eV 0) (e2 fS (zI 10) (zI 40)))
abbrev Fd:FT:=tB (e2 bM (eV 3) (zI 0))
abbrev um:FS:=
 (aL (bN 5 (eV 3))
 (aL (bG (c_ EW Fd)
 (aL (bN 5 (e2 cV (e2 i_ (e2 cu (e2 cu (e2 cV (eV 0) (zI 2147483647)) (e2 i_ (zI 7919) (eV 4))) (zI 1)) (zI 48271)) (zI 2147483647)))
 (aL (bN 5 (e2 cV (e2 i_ (eV 5) (e2 cu (e2 nY (eV 5) (zI 1009)) (zI 69621))) (zI 2147483647)))
 (aL (bN 5 (e2 cV (e2 i_ (e2 cu (eV 5) (e2 i_ (zI 7) (eV 4))) (e2 cu (e2 nY (eV 5) (zI 677)) (zI 40692))) (zI 2147483399)))
 (bN 5 (e2 nY (eV 5) (zI 3))))))
 sN)
 (aL (pk 2 (e2 cV (eV 5) (zI 64)))
 (bN 3 (e2 nY (eV 3) (zI 64))))))
def Nd:FS:=
 (aL (m1 2 (t5 aN))
 (aL (bN 3 (eV 0))
 (aL (kg (gN 4) (dZ (eV 1)) um)
 (jT 2 (bJ (eV 2))))))
def pQ:aG->Option D:=dH 2 4 Nd
abbrev Dz:FS:=
 (bN 2 (e2 cu (e2 i_ (eV 2) (zI 64)) (e2 bA (eV 0) (e2 cu (eV 1) (eV 3)))))
abbrev EM:FT:=tB (e2 bM (e2 cV (e2 nY sA (zI 16)) (zI 2)) (zI 1))
abbrev u4:FE:=e2 fS (zI 10) (zI 12)
abbrev zA:FE:=e2 ke (zI 0) (eV 2)
def Nb:FS:=
 (aL (bN 2 (e2 cV sA (zI 16)))
 (aL (bG (tB (e2 lB sA (zI 31)))
 (aL (kg (gN 3) (uf (zI 1) (zI 8)) Dz)
 (bN 2 (e2 cV (eV 2) (e2 bA (cY (aC (zI 100) (aC (zI 1000) (aC (e2 fS (zI 10) (zI 6)) (aC u4 aN))))) (e2 cV sA (zI 4))))))
 sN)
 (aL (bG EM
 (bJ zA)
 sN)
 (bJ (eV 2)))))
def g0:aG->Option D:=dH 2 2 Nb
abbrev sy:FE:=e2 bA (eV 0) (e2 cu (eV 1) (zI 16))
abbrev oU:FA:=aC (eV 4) aN
abbrev zC:FA:=aC (eC .n) aN
def GP:FS:=
 (aL (bN 2 (eF mK (aC (cY (aC (eF g0 (aC (eV 0) c5)) (aC (eF g0 (aC (eV 0) (aC (e2 cu (eV 1) (zI 8)) aN))) aN))) aN)))
 (aL (bN 3 i4)
 (aL (bN 4 l3)
 (aL (bG (tB (e2 bM (e2 cV sy (zI 4)) (zI 1)))
 (bJ (df (aC (eC .n) oU)))
 sN)
 (aL (bG (tB (e2 bM (e2 cV sy (zI 4)) (zI 2)))
 (bJ (df (aC (eV 3) zC)))
 sN)
 (aL (bG (tB (e2 bM (e2 cV sy (zI 8)) (zI 3)))
 (bJ (df (aC (eC .n) zC)))
 sN)
 (bJ (df (aC (eV 3) oU)))))))))
def pY:aG->Option D:=dH 2 3 GP
abbrev DB:FS:=
 (aL (bN 6 (e2 bA (eV 3) (e2 cV (e2 cu sA (e2 i_ (zI 7) (eV 5))) (zI 26))))
 (aL (bN 7 (e2 bA (eV 3) (e2 cV (e2 bA (eV 0) (e2 cu (e2 cu (eV 1) (zI 1)) (eV 5))) (zI 26))))
 (pk 4 (e2 cu (eV 6) (e2 wa (eV 7) (e2 cV (e2 bA (eV 0) (e2 cu (e2 cu (eV 1) (zI 2)) (eV 5))) (zI 8)))))))
def FJ:FS:=
 (aL (bN 3 (zR "abcdefghijklmnopqrstuvwxyz"))
 (aL (m1 4 (t5 aN))
 (aL (kg (gN 5) (dZ (eV 2)) DB)
 (jT 4 (bJ (eV 4))))))
def kq:aG->Option D:=dH 3 5 FJ
abbrev nM:FA:=aC (zI 1) aN
abbrev EG:FS:=bN 3 (uj (wZ (aC (e2 bA (cY (aC (e2 bA (eF kq (aC (eV 1) (aC (zI 33) nM))) (zI 0)) (aC (zR "z") aN))) (e2 cV (e2 bA (eV 1) (zI 32)) (zI 2))) aN) (eF cg fF)))
abbrev Ny:FE:=eF g0 (aC (eV 1) (aC (zI 20) aN))
abbrev uZ:FE:=eF mX (aC Ny aN)
abbrev EO:FT:=tB (e2 lB (e2 cV (e2 bA (eV 1) (zI 32)) (zI 3)) (zI 0))
abbrev sC:FE:=e2 cu (eV 4) (zI 1)
abbrev EX:FA:=aC (eF g0 (aC (eV 1) (aC (zI 28) aN))) aN
abbrev NT:FT:=tB (e2 bM (eV 0) (zR "later"))
def DX:FS:=
 (aL (bG (c_ (tB (e2 bM (eV 0) (zR "in"))) (tB (e2 bM (eV 0) (zR "span"))))
 (bJ (eF pY (aC (eV 1) (aC (zI 20) aN))))
 sN)
 (aL (bG E1
 (aL (bN 4 (e2 cV uZ (e2 fS (zI 10) (zI 11))))
 (aL (bN 5 (e2 cV (eF mX EX) (e2 fS (zI 10) (zI 11))))
 (bJ (df (aC (eV 4) (aC (e2 bA (cY (aC (eC .n) (aC (e2 cu sC (eV 5)) aN))) (e2 cV (e2 bA (eV 1) (zI 37)) (zI 2))) aN))))))
 sN)
 (aL (bG (c_ (tB (e2 bM (eV 0) (zR "only"))) (tB (e2 bM (eV 0) (zR "but"))))
 (bJ (eF mE (aC (eF kq (aC (eV 1) (aC (zI 20) (aC (e2 cu (zI 1) (e2 cV (e2 bA (eV 1) (zI 31)) (zI 8))) aN)))) aN)))
 sN)
 (aL (bG E3
 (aL (bN 6 (e2 cu (zI 2) (e2 cV uZ (zI 999))))
 (bJ (df (aC (eV 6) (aC (e2 cV (eF mX EX) (eV 6)) aN)))))
 sN)
 (aL (bG E4
 (aL (bN 6 (e2 ke (e2 cV Ny (zI 2001)) (zI 1000)))
 (bJ (df (aC (e2 bA (cY (aC (eV 6) nM)) (eF kQ (aC (e2 bM (eV 6) (zI 0)) aN))) EX))))
 sN)
 (aL (bG NT
 (bJ (df (aC uZ aN)))
 sN)
 (aL (bN 2 (eF kq (aC (eV 1) (aC (zI 20) (aC (e2 cu (zI 1) (e2 cV (e2 bA (eV 1) (zI 31)) (zI 4))) aN)))))
 (aL (bN 3 (e1 tW (eV 2)))
 (aL (bG EO
 EG
 sN)
 (bJ (eF mE (aC (Dv [] (eV 2) (eV 3) bD (df (aC (eV 0) c5))) aN))))))))))))
def ko:aG->Option D:=dH 2 5 DX
abbrev EJ:FE:=cY (aC (zR "count") (aC (zR "most") (aC (zR "least") (aC (zR "sum") aN))))
abbrev NP:FE:=e2 i_ (e2 cV (e2 bA (eV 1) (zI 41)) (zI 19)) (eV 4)
abbrev Fe:FE:=e2 bA (eV 1) (zI 40)
def FK:FS:=
 (aL (bN 3 (e2 bA EJ (e2 cV Fe (e2 cu (zI 3) (eF kQ fF)))))
 (aL (bN 4 (e2 cu (zI 1) (e2 cV uZ (e2 fS (zI 10) (zI 10)))))
 (aL (bG (tB u5)
 (bJ (df iK))
 sN)
 (aL (bG EZ
 (bJ (df (aC (e2 cu sC NP) (aC (eV 4) iK))))
 sN)
 (bJ (df (aC (eV 4) iK)))))))
def uz:aG->Option D:=dH 3 2 FK
abbrev y_:FE:=e2 bA (eV 1) (zI 2)
def DY:FS:=
 (aL (bG (c_ (tB (e2 bM (e2 cV (e2 bA (eV 2) (zI 42)) (zI 2)) (zI 0))) (c_ (tB (e2 bM i3 (zR "gaps"))) (tB (e2 bM (e2 bA oQ i5) (zR "sum")))))
 (bJ (df aN))
 sN)
 (aL (bG (tB (e2 bM (e2 bA (e2 bA (c4 [0] (eV 1) (tB (e2 bM j3 (e2 bA y_ (zI 0)))) (eV 0)) (zI 0)) (zI 0)) (zR "pair")))
 (bJ (df aN))
 sN)
 (aL (CS [3,4] (eF pY (aC (eV 2) (aC (zI 20) aN))))
 (aL (bG (tB (e2 bM (e2 bA oQ i5) (zR "count")))
 (aL (bN 3 (e2 cu (zI 1) (e2 cV (e2 bA (eV 2) (zI 43)) (zI 50))))
 (bN 4 (e2 bA (cY (aC (eC .n) (aC (e2 cu (eV 3) (e2 bA (eV 2) (zI 44))) aN))) (e2 cV (e2 bA (eV 2) (zI 45)) (zI 2)))))
 sN)
 (bJ (df (aC (eV 3) oU)))))))
def xT:aG->Option D:=dH 3 2 DY
abbrev Nw:FA:=aC (zR "sum") (aC (zR "less") (aC (zR "left") (aC (zR "right") aN)))
abbrev Nx:FE:=iV (e2 bM (eV 3) (zR "gaps")) (iV (e2 bM (eV 6) (cY aN)) (e2 bM (e2 cV (e2 bA (eV 1) (zI 4)) (zI 2)) (zI 0)))
abbrev yY:FE:=e2 bA (eV 8) (zI 0)
abbrev NG:FE:=e2 bP (eV 3) (cz (eV 2) (oS (zI 11)) (oS (zI 15)))
abbrev zd:FA:=aC (eV 8) aN
abbrev NI:FT:=tB (e2 bM (eV 3) (zR "pour"))
abbrev NJ:FT:=tB (e2 bM (eV 3) (zR "ask"))
abbrev E5:FE:=e2 bA (eV 1) (zI 3)
abbrev Nt:FS:=aL (bG (tB (e2 bM (eV 3) (zR "in")))
  (bJ (df (aC (zR "in") (aC (eV 7) (aC (df aN) (aC (eF ko (aC (zR "in") c5)) aN))))))
  sN)
  (aL (bG NI
  (aL (bN 9 (e2 cu (zI 2) (e2 cV E5 (eF t7 (aC (zI 7) (aC (e2 ke (eF cg oU) (zI 1)) aN))))))
  (bJ (df (aC (eV 3) (aC (eV 7) (aC (eF mE (aC (cz (e1 tW (eV 4)) oN (oS (eV 9))) aN)) (aC (df aN) aN)))))))
  sN)
  (aL (bG (tB (e2 bM (eV 3) (zR "pair")))
  (aL (bN 10 (e2 bA (cY Nw) (e2 cV (e2 bA (eV 1) (zI 5)) (zI 4))))
  (bJ (df (aC (eV 3) (aC (eV 7) (aC (eF mE zd) (aC (df (aC uZ (aC (eV 10) aN))) aN)))))))
  sN)
  (aL (bG NJ
  (aL (bN 11 (e2 bA (eV 5) (e2 cV oT (eF cg sD))))
  (bJ (df (aC (eV 3) (aC (eV 7) (aC (df (aC (e2 bA (eV 11) (zI 1)) aN)) (aC (eF xT (aC (eV 11) (aC (eV 0) c5))) aN)))))))
  sN)
  (aL (bG (tB NG)
  (aL (bN 12 Nx)
  (aL (bN 13 (e2 bA (e2 bA (cY (aC (e2 cu (eV 6) (eV 8)) zd)) (eF kQ (aC (eV 12) aN))) (zI 0)))
  (bJ (df (aC (eV 3) (aC (eV 7) (aC (df (aC (eV 13) aN)) (aC (eF uz (aC (eV 3) (aC (eV 1) (aC (eV 12) aN)))) aN))))))))
  sN)
  (bJ (df (aC (eV 3) (aC (eV 7) (aC (df (aC yY aN)) (aC (eF ko (aC (eV 3) c5)) aN))))))))))
abbrev Nz:FT:=c_ (tB (e2 bM (eV 4) (cY aN))) (c_ (ey NJ (tB (e2 bM (eV 5) (cY aN)))) (ey NI (tB (e2 gB (eF cg oU) (zI 2)))))
abbrev NA:FE:=cY (aC (zR "in") (aC (zR "time") (aC (zR "only") (aC (zR "but") (aC (zR "span") (aC (zR "rest") (aC (zR "turn") (aC (zR "later") (aC (zR "put") (aC (zR "pour") (aC (zR "pair") aN)))))))))))
abbrev ET:FE:=cY (aC (zR "a") aN)
abbrev za:FE:=e2 cu (eV 1) ET
abbrev zb:FE:=e2 bA (eV 2) (e2 cu (zI 1) (eV 0))
abbrev NS:FE:=cz (eV 1) (oS (zI 11)) (oS (zI 15))
abbrev NV:FE:=cz (eV 1) oN (oS (zI 10))
def GQ:FS:=
 (aL (bN 2 NA)
 (aL (bN 2 (e2 cu (eV 2) (cY (aC (zR "fixed") (aC (zR "slide") (aC (zR "gaps") (aC (zR "ever") (aC (zR "ask") (aC (zR "ask") (aC (zR "fixed") aN))))))))))
 (aL (bN 3 (e2 bA (eV 2) (e2 cV j_ (eF cg fF))))
 (aL (bN 4 (c4 [2] (eV 0) (tB (e2 bP i3 NV)) j3))
 (aL (bN 5 (c4 [2] (eV 0) (tB (e2 bP i3 NS)) (eV 0)))
 (aL (bN 6 (c4 [] (eV 0) (tB (e2 bM i3 (zR "pair"))) j3))
 (aL (bN 7 (e2 cu (e2 bA (zR "qhbxdmaztgkpcwrvfnyjuesl") (eF cg eJ)) (cz (e2 bA (eF kq (aC (eV 1) (aC (zI 46) nM))) (zI 0)) oN (oS (zI 7)))))
 (aL (bN 8 (mq [4,1] (dZ (zI 2)) bD (e2 bA za (e2 cV zb (eF oi (aC (zI 1) (aC (eF cg c5) aN)))))))
 (aL (bG Nz
 (bN 3 (zR "in"))
 sN)
 Nt)))))))))
def uG:aG->Option D:=dH 2 12 GQ
abbrev jA:FS:=
 (bG (tV (pN .tuple (eV 2)))
 (rg 1 (eF n8 fF))
 (pk 1 (e2 bA (cY (aC (eF kO fF) (aC (zR "*") aN))) (eF kQ (aC (e2 mm (eV 2) (eC .n)) aN)))))
def x8:FS:=
 (aL (m1 1 (qa (e2 cu (cY (aC i3 (aC j3 aN))) (eF n8 (aC u6 aN)))))
 (aL (oh (gN 2) oQ
 jA)
 (jT 1 NB)))
def gj:aG->Option D:=dH 1 2 x8
abbrev NF:FS:=bG (tB (e2 bM (e2 cV (eV 1) (zI 4)) (zI 0)))
  (bJ (e2 bA (eV 4) (e2 cV (eV 2) (eF cg oU))))
  sN
abbrev NK:FA:=aC (zR "count") (aC (zR "sum") (aC (zR "most") (aC (zR "least") aN)))
def SU:FS:=
 (aL (bN 3 NA)
 (aL (bN 3 (e2 cu (eV 3) (cY (aC (zR "fixed") (aC (zR "slide") (aC (zR "gaps") (aC (zR "ever") (aC (zR "ask") NK))))))))
 (aL (bN 3 (e2 cu (eV 3) (cY (aC (zR "less") (aC (zR "left") (aC (zR "right") (aC (zR "a") (aC (zR "b") (aC (zR "z") (aC (zR "zz") (aC (zR "abcdefgh") (aC (zR "abcdefghi") (aC (zR "A") aN)))))))))))))
 (aL (bN 3 (e2 cu (eV 3) (cY (aC (zR "a1") aN))))
 (aL (bN 3 (e2 cu (eV 3) (cY (aC (zR "0") (aC (zR "1") (aC (zR "2") (aC (zR "3") (aC (zR "7") (aC (zR "50") (aC (zR "51") (aC (zR "-1") (aC (zR "-0") (aC (zR "01") (aC (zR "+1") (aC (zR "1000") (aC (zR "1001") aN))))))))))))))))
 (aL (bN 3 (e2 cu (eV 3) (cY (aC (zR "-1000") aN))))
 (aL (bN 3 (e2 cu (eV 3) (cY (aC (zR "*") (aC (zR "") (aC (zR "-") (aC (zR "999999999999") (aC (zR "1000000000000") (aC (zR "1_0") aN)))))))))
 (aL (bN 4 (e2 cu (c4 [] (eV 0) bD j3) ET))
 (aL NF
 (bJ (e2 bA (eV 3) (e2 cV (eV 2) (eF cg iK)))))))))))))
def uy:aG->Option D:=dH 3 2 SU
abbrev Fb:FE:=cz (eV 2) oN (oS (eV 4))
abbrev cC:FS:=
 (aL (bN 4 (e2 cV (e2 bA (eV 1) (e2 cu (zI 52) (eV 3))) (eF cg fF)))
 (aL (bN 5 (eF uy (aC (eV 0) (aC (e2 bA (eV 1) (e2 cu (zI 55) (eV 3))) (aC (e2 cu (e2 bA (eV 1) (e2 cu (zI 46) (eV 3))) (e2 bA (eV 1) (e2 cu (zI 43) (eV 3)))) aN)))))
 (aL (bN 6 (e2 cV (e2 bA (eV 1) (e2 cu (zI 56) (eV 3))) (zI 4)))
 (bG (tB (e2 gB (eV 6) (zI 2)))
 (bN 2 (e2 cu (e2 cu Fb (cY sD)) (cz (eV 2) (oS sC) oN)))
 (bG (c_ (tB (e2 bM (eV 6) (zI 2))) (tB (e2 bM (eF cg fF) (zI 1))))
 (bN 2 (e2 cu (e2 cu Fb (cY sD)) (cz (eV 2) (oS (eV 4)) oN)))
 (bN 2 (e2 cu Fb (cz (eV 2) (oS sC) oN))))))))
abbrev NH:FE:=eF uy (aC (eV 1) (aC (e2 bA (eV 2) (e2 cu (zI 51) (eV 0))) (aC (e2 bA (eV 2) (eV 0)) aN)))
abbrev NN:FT:=tB (e2 bM (e2 cV (e2 bA (eV 1) (zI 50)) (zI 8)) (zI 0))
abbrev NQ:FE:=e2 cu (zI 1) (e2 cV (e2 bA (eV 1) (zI 59)) (zI 7))
def M3:FS:=
 (aL (bN 2 (e2 kA (eF gj (aC (eF uG (aC (eV 0) c5)) aN)) (zR " ")))
 (aL (bG NN
 (bN 2 (mq [0,1] (dZ NQ) bD NH))
 sN)
 (aL (kg (gN 3) (dZ (e2 cV (e2 bA (eV 1) (zI 51)) (zI 4))) cC)
 (bJ (gQ (cq " ") (eV 2))))))
def uC:aG->Option D:=dH 2 5 M3
abbrev yZ:FE:=e2 el (eV 0) (eV 1)
def zL:FS:=
 (aL (bN 1 (zR "abcdefghijklmnopqrstuvwxyz"))
 (bJ (eG (e2 dv (eV 0) (zR "")) (eG (e2 gB (eF cg eJ) (zI 9)) (e2 bM (c4 [1] (eV 0) (tB yZ) (eV 0)) (cY aN))))))
def mw:aG->Option D:=dH 1 1 zL
abbrev zz:FT:=tB (e2 dv (c4 [] (eV 1) (tB (e2 el (eV 0) (zR "0123456789"))) (eV 0)) (cY aN))
def FH:FS:=
 (aL (bN 1 (eV 0))
 (aL (bG (tB (e2 bM (cz (eV 0) oN (oS (zI 1))) (zR "-")))
 (bN 1 (cz (eV 0) (oS (zI 1)) oN))
 sN)
 (aL (bG (c_ (tB (e2 bM (eV 1) (zR ""))) (tB (e2 lB (eF cg c5) (zI 12))))
 mI
 sN)
 (aL (bG zz
 mI
 sN)
 (aL (bG (ey (tB (e2 bM j_ (zR "0"))) (c_ (tB (e2 lB (eF cg c5) (zI 1))) (tB (e2 dv (eV 0) (eV 1)))))
 mI
 sN)
 (bJ (eF iH eJ)))))))
def jB:aG->Option D:=dH 1 1 FH
def lC:FS:=
 (aL (bG (c_ (tB (e2 dv (eF cg eJ) (zI 2))) (ey (tB (e2 bM i3 (zR "*"))) (cZ (tV (eV 1)))))
 gc
 sN)
 (aL (bN 2 (c4 [] (eV 0) (tB (e2 dv (eV 0) (zR "*"))) (eF jB eJ)))
 (bJ (eG (e2 el (eC .n) (eV 2)) (e2 bM (eF mK fF) (eV 2))))))
def g4:aG->Option D:=dH 2 1 lC
abbrev OX:FS:=
 (bG (c_ (tB (e2 gB (e2 bA (eV 3) (eV 4)) (e2 bA (eV 1) (eV 4)))) (tB (e2 lB (e2 bA (eV 3) (eV 4)) (e2 bA (eV 2) (eV 4)))))
 gc
 sN)
abbrev zD:FE:=eC (.b true)
def mx:FS:=
 (aL (bN 3 (c4 [] (eV 0) bD (eF jB eJ)))
 (aL (bG (c_ (tB (e2 bP (eC .n) (eV 3))) (tB (e2 dv (eF cg iK) (eF cg c5))))
 gc
 sN)
 (aL (kg (gN 4) (dZ (eF cg iK)) OX)
 (bJ zD))))
def fm:aG->Option D:=dH 3 2 mx
abbrev zB:FA:=aC (zI 0) aN
def MX:FS:=
 (aL (bN 2 u4)
 (aL (bG (tB (e2 bP (eV 0) (df (aC (zR "in") (aC (zR "span") aN)))))
 (bJ (eF g4 (aC (eV 1) (aC zD aN))))
 sN)
 (aL (bG E1
 (bJ (eG (eF g4 (aC (eV 1) (aC (eC (.b false)) aN))) (eG (e2 ot (eF jB (aC j_ aN)) (zI 0)) (e2 dv j_ oT))))
 sN)
 (aL (bG NL
 (aL (bN 3 (c4 [] (eV 1) (tV (eF mw eJ)) (eV 0)))
 (bJ (eG (e3 gB gB (zI 0) (eF cg c5) (zI 9)) (eG (e2 bM (eV 3) (eV 1)) (e2 bM (eF mz c5) (eF cg c5))))))
 sN)
 (aL (bG E3
 (bJ (eG (eF fm (aC (eV 1) (aC (cY (aC (zI 2) zB)) (aC (cY (aC (zI 1000) fF)) aN)))) (e2 gB (eF iH (aC oT aN)) (eF iH (aC j_ aN)))))
 sN)
 (aL (bG E4
 (bJ (eG (eF fm (aC (eV 1) (aC (cY (aC (e1 rf (zI 1000)) (aC zA aN))) (aC (cY (aC (zI 1000) fF)) aN)))) (e2 dv j_ (zR "0"))))
 sN)
 (aL (bG NT
 (bJ (eF fm (aC (eV 1) (aC (cY zB) (aC (cY fF) aN)))))
 sN)
 (aL (bN 3 (c4 [] (eV 1) (tV (eF mw eJ)) (eV 0)))
 (bJ (eG (e2 bM (eV 3) (eV 1)) (eG (e2 bP (eF cg c5) NO) (e2 bM (eF mz (aC (e1 xH (eV 1)) aN)) (eF cg (aC (e1 xH (eV 1)) aN))))))))))))))
def kR:aG->Option D:=dH 2 2 MX
abbrev NU:FT:=tB (e2 dv (eV 0) (zR "slide"))
def Nc:FS:=
 (aL (bN 2 u4)
 (aL (bG (c_ (tB (e2 bM (eV 1) (cY aN))) (tB (e2 el (e2 bA (eV 1) i5) (df NK))))
 gc
 sN)
 (aL (bG (tB u5)
 (bJ (e2 bM (eF cg c5) (zI 1)))
 sN)
 (aL (bG NU
 (bJ (eF fm (aC (cz (eV 1) oN (oS i5)) (aC (cY nM) (aC (cY fF) aN)))))
 sN)
 (aL (bG (cZ (tV (eF fm (aC (cz (eV 1) oN (oS i5)) (aC (cY (aC (zI 1) nM)) (aC (cY (aC (eV 2) fF)) aN))))))
 gc
 sN)
 (bJ (e3 gB fR (eF iH (aC oT aN)) (eF iH (aC j_ aN)) (e2 i_ (zI 20) (eF iH (aC oT aN))))))))))
def m9:aG->Option D:=dH 2 1 Nc
def FL:FS:=
 (aL (bG (tB (e2 bM (eV 0) (cY aN)))
 (bJ zD)
 sN)
 (aL (bG (c_ (tB (e2 bM j_ (zR "gaps"))) (c_ (tB (e2 bM (e2 bA E5 i5) (zR "sum"))) (tB (e2 bM (e2 lA (eV 2) (e2 bA y_ (zI 0))) (zR "pair")))))
 gc
 sN)
 (aL (bG (ey (tB (e2 bM (e2 bA E5 i5) (zR "count"))) (c_ (tB (e2 bM i3 (zR "*"))) (cZ (tV (eF fm (aC (cz (eV 0) oN (oS (zI 1))) (aC (cY nM) (aC (cY (aC (zI 50) aN)) aN))))))))
 gc
 sN)
 (bJ (eF g4 (aC (eV 0) (aC zD aN)))))))
def pS:aG->Option D:=dH 3 0 FL
abbrev rN:FS:=
 (rZ 3 Fi (e2 bA (eV 4) (zI 0)))
abbrev ED:FE:=df (aC (zR "fixed") (aC (zR "slide") (aC (zR "gaps") (aC (zR "ever") aN))))
abbrev zap:FE:=e2 dv (c4 [5] (eV 8) (tB yZ) (eV 0)) (cY aN)
abbrev EN:FA:=aC (eV 6) (aC (eV 9) aN)
abbrev NC:FT:=tB (e2 dv (eF cg zd) (eV 7))
abbrev EB:FS:=aL (bG NC
  gc
  sN)
  (aL (bG (c_ (tB (e2 bP (eV 6) (eV 5))) (tB (e2 bM (eV 6) (zR "pair"))))
  (aL (bG (tB zap)
  gc
  sN)
  (aL (bG (tB (e2 dv (eV 6) (zR "pair")))
  (bJ (eF kR EN))
  sN)
  (aL (bG (c_ (tB (e2 dv (eF cg (aC (eV 9) aN)) (zI 2))) (tB (e2 el (e2 bA (eV 9) (zI 1)) (df Nw))))
  gc
  sN)
  (bJ (eF fm (aC (cz (eV 9) oN (oS (zI 1))) (aC (cY zB) (aC (cY (aC u4 aN)) aN))))))))
  sN)
  (aL (bG (tB (e2 bM (eV 6) (zR "ask")))
  (aL (bG (tB (e2 el yY ED))
  gc
  sN)
  (bJ (eF pS (aC (eV 9) (aC (e2 bA (c4 [2] (eV 1) (tB (e2 bM j3 y_)) (eV 0)) (zI 0)) iK)))))
  sN)
  (aL (bG (c_ (tB (e2 el (eV 6) ED)) (cZ (tV (eF m9 EN))))
  gc
  sN)
  (bJ (iV (e2 bP yY (eV 5)) (eG (e2 bM yY (zR "pair")) (eG (e2 dv (eV 6) (zR "gaps")) (e2 dv (e2 bA (eV 9) i5) (zR "sum")))))))))
abbrev oR:FE:=cz (eV 2) (oS (zI 2)) oN
abbrev Nv:FS:=bG (tB (e2 bM (eV 6) (zR "pour")))
  (aL (bN 8 (c4 [3] oR bD (lq (eV 1) (eV 0) (zR ""))))
  (aL (bN 10 (c4 [5] (eV 8) (tB (e2 bP (eV 0) (eV 1))) (eV 0)))
  (bJ (eG (e3 gB gB (zI 1) (eF cg (aC oR aN)) (zI 9)) (eG (e2 bM (eV 10) (eV 8)) (e2 bM (eF mz (aC oR aN)) (eF cg (aC oR aN))))))))
  sN
abbrev EH:FE:=e2 cu (eF kQ (aC (e2 bM (eV 6) (zR "in")) aN)) (e2 i_ (zI 2) (eF kQ (aC (e2 bM (eV 6) (zR "pair")) aN)))
abbrev qG:FE:=e2 cu (zI 2) (eV 7)
abbrev EY:FE:=cY (aC (zI 1) (aC (zI 0) (aC (zI 2) aN)))
def Fl:FS:=
 (aL (bN 2 (e2 kA (eV 0) (zR " ")))
 (aL (uO 3)
 (aL (oh (gN 4) (eV 1)
 rN)
 (aL (xk 3 (bN 5 (cY (aC (zR "in") (aC (zR "time") (aC (zR "only") (aC (zR "but") (aC (zR "span") (aC (zR "rest") (aC (zR "turn") (aC (zR "later") (aC (zR "put") (aC (zR "pour") aN)))))))))))))
 (aL (bG (c_ (tB (e2 gB (eF cg fF) (zI 2))) (c_ (cZ (tV (eF mw (aC l3 aN)))) (tB (e2 ki l3 (eV 3)))))
 gc
 sN)
 (aL (bN 6 i4)
 (aL Nv
 (aL (bN 7 (e2 bA EY EH))
 (aL (bN 8 (c4 [3] (cz (eV 2) (oS (zI 2)) (oS qG)) bD (lq (eV 1) (eV 0) (zR ""))))
 (aL (bN 9 (cz (eV 2) (oS qG) oN))
 EB))))))))))
def gA:aG->Option D:=dH 2 9 Fl
def kX:aG->Option D:=B3 ou
abbrev bB:FS:=
 (aL (bG (cZ (tV (eF gA (aC (e2 bA (eV 0) (eV 2)) c5))))
 (bJ (eV 2))
 sN)
 (bN 1 (xN rQ (aC (gQ (cq "\n") (cz (eV 0) oN (oS (e2 cu (eV 2) (zI 1))))) aN))))
def zM:FS:=
 (aL (bN 1 (cY aN))
 (aL (kg (gN 2) (dZ (eF cg eJ)) bB)
 (bJ i5)))
def yD:aG->Option D:=dH 1 2 zM
abbrev zg:FE:=gQ (cq "\n") (eV 1)
abbrev Ff:FE:=eF cg (aC (eV 7) aN)
abbrev cn:FS:=
 (aL (bN 6 (eF uC (aC (eV 2) (aC (eF pQ (aC (eF kW (aC (eV 0) (aC (e2 cu (zI 1) (eV 3)) aN))) (aC (zI 60) aN))) aN))))
 (aL (pk 1 (eV 6))
 (aL (bG (cZ (tV (eF gA (aC (eV 6) fF))))
 (aL (jT 1 (bN 8 (e2 cu (eV 1) (cY (aC (zR "in y 0 1") (aC (zR "no row") aN))))))
 (bJ (eG (e2 bM (eF kX c5) (e2 ke (eF cg c5) (zI 1))) (e2 bM (eF kX zd) (e2 ke (eF cg c5) (zI 1))))))
 sN)
 (aL (bN 7 (xN rQ (aC (dO 1 zg) aN)))
 (aL (bG (eY 1 (c_ (tB (e2 dv Ff (eF cg c5))) (tB (e2 dv (c4 [] (eV 7) bD (eF gj eJ)) (eV 1)))))
 gc
 sN)
 (aL (bG (tB (e2 dv (eF xP (aC (eV 7) aN)) (dO 1 zg)))
 gc
 sN)
 (bN 2 (eV 7))))))))
def t6:FS:=
 (aL (m1 1 (t5 aN))
 (aL (bN 2 (cY aN))
 (aL (kg (gN 3) (dZ (e2 cu (zI 1) (e2 cV (eF kW (aC (eV 0) zB)) (zI 8)))) cn)
 (aL (jT 1 (bN 4 (e2 cV (eF kW (aC (eV 0) (aC (zI 9) aN))) (eF cg c5))))
 (aL (bN 5 (e2 cu (e2 cu (cz (eV 1) oN (oS (eV 4))) (cz (eV 1) (oS sC) oN)) (cY (aC (e2 bA (eV 1) (eV 4)) aN))))
 (bJ (eG (e2 bM (eF kX c5) i5) (e2 bM (eF kX sD) (eF yD sD)))))))))
def tI:aG->Option D:=dH 1 8 t6
end
open PySem.Spec PyProof.Rows L2
noncomputable def top(i:Nat):Stmt:=PySem.Challenge.pw_latewell_k26_whole_any_rows.main.body.getD i (.Pass ⟨0,0,0,0⟩)
abbrev wx:Stmt:=match top 2 with
 |.ClassDef _ _ _ b ..=>b.getD 0 (.Pass ⟨0,0,0,0⟩)
 |s=>s
theorem dW{N P:aP}{sc:Scope}(a:sc.kind=.function:=by rfl)(b:sc.isCoroutine=false:=by rfl)(c:sc.isGenerator=false:=by rfl)(d:N.Nodup:=by decide+kernel)(e:N.take P.length=P:=by rfl)(f:∀x∈P,sc.names.lookup x=some .local\/sc.names.lookup x=some .cell:=by decide+kernel)(g:∀y∈sc.names,y.2≠.free:=by decide+kernel):aJ N P sc:=⟨a,b,c,d,e,f,g⟩
theorem qC{N:aP}{sc scope:Scope}{x:Str}{aT:aP}{js:dr}(a:scope.kind=.function:=by rfl)(b:sc.kind=.function:=by rfl)(c:∀y∈scope.names,y.2≠.cell:=by decide+kernel)(d:∀y∈scope.names,y.2=.local->scope.names.lookup y.1=some .local:=by decide+kernel)(e:scope.names.lookup x=some .local:=by rfl)(f:∀y∈scope.names,y.2=.free->sc.names.lookup y.1=some .cell:=by decide+kernel)(g:(x::aT).Nodup:=by decide+kernel)(h:aT.length=js.length:=by rfl)(i:∀p∈aT.zip js,N[p.2]?=some p.1/\sc.names.lookup p.1=some .cell/\scope.names.lookup p.1=some .free:=by decide+kernel):iB N sc scope x aT js:=⟨a,b,c,d,e,f,g,h,i⟩
theorem xG{X:Cx}{k j:Nat}{x:Str}{g:aG→fA}{A:FA}{p pos:Pos}{e:Expr}{es:eH}(G:aR X.p X.w X.K X.mg X.base k x g)(hr:cm j X.A)(Y:XA X (e::es) A)(Z:k≤j:=by decide)(hg:Gl X x:=by rfl)(O:dJ x:=by decide)(he:kv X e es:=by rfl)(q:lH X pos es:=by rfl):XE X (.Call (.Name x p) (e::es) [] pos) (eF g A):=xF G (hr.mono Z) Y hg O he q
structure mL(w:World)(K:Frag)(mg:Str->Option Value):Prop where
 z_abs:mg "abs"=none
 z_len:mg "len"=none
 z_max:mg "max"=none
 z_min:mg "min"=none
 z_all:mg "all"=none
 z_range:mg "range"=none
 z_isinstance:mg "isinstance"=none
 z_int:mg "int"=none
 z_str:mg "str"=none
 z_tuple:mg "tuple"=none
 z_list:mg "list"=none
 z_sorted:mg "sorted"=none
 z_set:mg "set"=none
 z_zip:mg "zip"=none
 z_enumerate:mg "enumerate"=none
 c_LETTERS:∃t,mg "LETTERS"=some (.str "abcdefghijklmnopqrstuvwxyz" t)
 c_LONGEST:∃t,mg "LONGEST"=some (.int 8 t)
 c_CHAINS:∃a,mg "CHAINS"=some (.ref a)∧kd K (.t [(.str "in"),(.str "time"),(.str "only"),(.str "but"),(.str "span"),(.str "rest"),(.str "turn"),(.str "later"),(.str "put"),(.str "pour")]) (.ref a)
 c_FOLDS:∃a,mg "FOLDS"=some (.ref a)∧kd K (.t [(.str "fixed"),(.str "slide"),(.str "gaps"),(.str "ever")]) (.ref a)
 c_FROM_PLACES:∃a,mg "FROM_PLACES"=some (.ref a)∧kd K (.t [(.str "FROM"),(.str "LEFT"),(.str "RIGHT")]) (.ref a)
 c_KEY_PLACES:∃a,mg "KEY_PLACES"=some (.ref a)∧kd K (.t [(.str "NAME"),(.str "FROM"),(.str "LEFT"),(.str "RIGHT"),(.str "KEY"),(.str "OTHER")]) (.ref a)
 c_BOUND_PLACES:∃a,mg "BOUND_PLACES"=some (.ref a)∧kd K (.t [(.str "LOW"),(.str "HIGH"),(.str "END")]) (.ref a)
 c_HOWS:∃a,mg "HOWS"=some (.ref a)∧kd K (.t [(.str "sum"),(.str "less"),(.str "left"),(.str "right")]) (.ref a)
 c_FOLD_WORDS:∃a,mg "FOLD_WORDS"=some (.ref a)∧kd K (.t [(.str "count"),(.str "sum"),(.str "most"),(.str "least")]) (.ref a)
 c_FIGURES:∃t,mg "FIGURES"=some (.str "0123456789" t)
 c_MOST_FIGURES:∃t,mg "MOST_FIGURES"=some (.int 12 t)
 c_MOST_ROWS:∃t,mg "MOST_ROWS"=some (.int 24 t)
 c_MOST_COUNTED:∃t,mg "MOST_COUNTED"=some (.int 50 t)
 c_FORMS:∃a,mg "FORMS"=some (.ref a)∧xI w K a lL
 xn:∃c0 c2 fI fd,O3 K mg "NoText" "WellError" "at" "NoText.__init__" wx c0 c2 fI fd
structure Ps(e:Expr):Prop where
 st:∀es env,starEach (e::es) env=(false,eval e env)::starEach es env
 im:∀op,behindInMarks op e=false
 ix:AH e
 fs:∀env v,foldedSetIterable e env v=pure v
noncomputable def gE:Expr->Bool
 |.Starred .. | .Set .. | .Slice .. | .Call (.Name ..) [] [] _=>false
 |_=>true
theorem gn(h:gE e=true):Ps e:=by cases e<;>first|exact⟨λ _ _=>rfl,λ _=>rfl,λ _ _=>rfl,λ _ _=>rfl⟩|cases h
noncomputable def Js:Expr->Bool
 |.Call (.Name ..) [] [] _=>false
 |_=>true
theorem Tt(h:Js o=true)(a:Str)(env)(w:Sem Value):attributeBase o a env w=w:=by
 unfold attributeBase;split
 .cases h
 .rfl
abbrev qJ:=Str×(aG->Option D)
def xJ(X:Cx)(x:Str)(g:aG→fA):Prop:=X.mg x=none∧x≠"__name__"∧((∃i,i6 X (.builtin i) g∧bootBuiltins x=some (.builtin i))∨∃i,i6 X (.type i) g∧bootBuiltins x=some (.type i))
def X1(X:Cx)(c:qJ):Prop:=(∃k,aR X.p X.w X.K X.mg X.base k c.1 c.2/\cm k X.A)\/∀Y:Cx,Y.mg=X.mg->xJ Y c.1 c.2
abbrev kh:=rT
structure Ox(N:aP)(sc:kh)(C:List qJ)(X:Cx):Prop where
 n:X.N=N
 s:X.v.scope.names=sc
 fk:X.v.scope.kind=.function
 ca:X.c=true
 u:X.A.units+64<cLine
 t:mL X.w X.K X.mg
 c:∀c∈C,X1 X c
def pV:(N:aP)->(x:Str)->Option {i:Nat//N[i]?=some x}
 |[],_=>none
 |y::r,x=>if h:y=x then some ⟨0,by rw[h];rfl⟩else(pV r x).map λ i=>⟨i.1+1,i.2⟩
def Mz:(C:List qJ)->(x:Str)->Option {s:aG->Option D//(x,s)∈C}
 |[],_=>none
 |(y,s)::r,x=>if h:y=x then some ⟨s,h▸.head _⟩else(Mz r x).map λ d=>⟨d.1,.tail _ d.2⟩
def opO:(op:Operator)->Option {f:D->D->Option D//∀X,mW X op f}
 |.Add=>some ⟨cu,λ _=>DI⟩
 |.Sub=>some ⟨ke,λ _=>G4⟩
 |.Mult=>some ⟨i_,λ _=>Se⟩
 |.FloorDiv=>some ⟨nY,λ _=>VQ⟩
 |.Mod=>some ⟨cV,λ _=>j_9⟩
 |.Pow=>some ⟨fS,λ _=>ZF⟩
 |_=>none
def kT:(op:CmpOp)->{f:D->D->Option D//∀X:Cx,X.A.units+64<cLine->gs X op f}
 |.Is=>⟨mm,λ _ _=>C5⟩
 |.IsNot=>⟨vM,λ _ _=>HM⟩
 |.Lt=>⟨gB,λ _ _=>LU⟩
 |.LtE=>⟨fR,λ _ _=>C6⟩
 |.Gt=>⟨lB,λ _ _=>X2⟩
 |.Eq=>⟨bM,λ _=>uc⟩
 |.GtE=>⟨ot,λ _ _=>C4⟩
 |.NotIn=>⟨el,λ _ _=>Vg⟩
 |.NotEq=>⟨dv,λ _=>LV⟩
 |.In=>⟨bP,λ _ _=>U8⟩
section
variable(N:aP)(sc:kh)(C:List qJ)
abbrev RE(e:Expr):={F:FE//∀X,Ox N sc C X->XE X e F}
abbrev RT(e:Expr):={F:FT//∀X,Ox N sc C X->XT X e F}
abbrev RW(e:Expr):={F:FT//∀X,Ox N sc C X->XW X e F}
abbrev RO(e:Option Expr):={F:FO//∀X,Ox N sc C X->XO X e F}
abbrev RA(es:eH):={F:FA//∀X,Ox N sc C X->XA X es F/\∀pos env,(backTo pos (starEach es env)).any (·.1)=false}
abbrev RI(es:eH):={F:FT//∀X,Ox N sc C X->nV X es F}
abbrev Gk(x:Str):Prop:=sc.lookup x=some .globalImplicit∧dJ x
abbrev Lk(x:Str):Prop:=sc.lookup x=some .local\/sc.lookup x=some .cell
abbrev Vk(x:Str):Prop:=(sc.lookup x=some .local∨sc.lookup x=some .cell∨sc.lookup x=some .free)∧dJ x∧jZ x
abbrev u9(q:Scope)(x:Str)(fr:aP)(js:dr):Prop:=q.kind=.function/\(∀y∈q.names,y.2≠.cell)/\(∀y∈q.names,y.2=.local->q.names.lookup y.1=some .local)/\q.names.lookup x=some .local/\(∀y∈q.names,y.2=.free->sc.lookup y.1=some .cell)/\(x::fr).Nodup/\fr.length=js.length/\∀p∈fr.zip js,N[p.2]?=some p.1/\sc.lookup p.1=some .cell/\q.names.lookup p.1=some .free
variable{N sc C}
theorem Ox.vv(k:Ox N sc C X)(i:{i:Nat//N[i]?=some x})(h:Vk sc x):XE X (.Name x pos) (eV i.1):=xv i.1 (k.n▸i.2) (show X.v.scope.names.lookup x=_\/X.v.scope.names.lookup x=_\/X.v.scope.names.lookup x=_ from k.s▸h.1) h.2.1 h.2.2
theorem Ox.gl(k:Ox N sc C X)(h:Gk sc x):Gl X x:=by unfold Gl Env.kindOf;rw[k.s];exact h.1
abbrev AF(sc:kh)(x:Str)(px:Pos)(q:Scope)(p:Pos):Prop:=sc.lookup x=some .local/\(px.line==p.line)=true/\(q.names.any λ(n,k)=>n==x&&(k==.local||k==.cell))=false
theorem Ox.sw(k:Ox N sc C X)(h:AF sc x px so p):swapsWith (.ListComp e g so p) (some (.Name x px)) l X.v=pure true:=by obtain⟨a,b,c⟩:=h;show pure (X.v.blockKind==.function&&X.v.scope.names.lookup x==some .local&&px.line==p.line&&!(so.names.any λ(n,k)=>n==x&&(k==.local||k==.cell)))=_;unfold Env.blockKind;rw[k.fk,k.s,a,b,c];rfl
def D8(sc:kh)(x:Str):Expr->Bool
 |.ListComp ..=>!(sc.lookup x==some .local)
 |.SetComp .. | .DictComp ..=>false
 |_=>true
theorem Ox.sw0(k:Ox N sc C X)(h:D8 sc x e=true):swapsWith e (some (.Name x q)) l X.v=pure false:=by
 cases e<;>first|rfl|cases h|skip
 have h:(sc.lookup x==some .local)=false:=by simpa [D8]using h
 show pure (_&&(X.v.scope.names.lookup x==some .local)&&_&&_)=pure false;rw[k.s,h,Q5,Bool.false_and,Bool.false_and]
theorem Ox.lk(k:Ox N sc C X)(h:Lk sc x):L2.Loc X.v.scope x:=by unfold L2.Loc;rw[k.s];exact h
theorem Ox.sb(k:Ox N sc C X)(h:u9 N sc so x fr js):iB X.N X.v.scope so x fr js:=by obtain⟨a,b,c,d,e,f,g,i⟩:=h;exact⟨a,k.fk,b,c,d,k.s▸e,f,g,by rw[k.n,k.s];exact i⟩
def qB(q:Scope)(sc:kh):kh:=q.names.map λ(n,k)=>if(k==.free&&ScopeKind.function==.function&&sc.lookup n==some .cell)then(n,.cell)else(n,k)
theorem Ox.inn{s:Shared}{D:Addr}(k:Ox N sc C X)(h:so.kind=.function):Ox N' (qB so sc) C (de X N' so s H D fp):=
 ⟨rfl,by show(relabel so X.v).names=_;unfold relabel qB Env.kindOf;rw[k.s,k.fk],h,k.ca,k.u,k.t,λ c m=>k.c c m⟩
theorem Ox.ff(k:Ox N sc C X)(m:(∃k,aR X.p X.w X.K X.mg X.base k x g/\cm k X.A)\/xJ X x g)(O:Gk sc x)(Z:XA X (e::es) A)(Y:Ps e)(hs:∀pos env,(backTo pos (starEach (e::es) env)).any (·.1)=false):XE X (.Call (.Name x p) (e::es) [] pos) (eF g A):=by
 have q:=hs pos X.v;rw[Y.st]at q;rcases m with⟨j,G,r⟩|⟨m,n,⟨i,o,v⟩|⟨i,o,v⟩⟩
 .exact xF G r Z (k.gl O) O.2 (Y.st ..) q
 .exact xB o (k.gl O) m v Z n O.2 (Y.st ..) q
 .exact yR o (k.gl O) m v Z n O.2 (Y.st ..) q
def We(x:Str):Option {g:aG->Option D//∀X:Cx,mL X.w X.K X.mg->X.c=true->xJ X x g}:=
 if h:x="all" then some ⟨gf,λ X t c=>h▸⟨t.z_all,by decide,.inl ⟨_,(AZ c),Ye⟩⟩⟩else
 if h:x="int" then some ⟨iH,λ X t c=>h▸⟨t.z_int,by decide,.inr ⟨_,VT,PyProof.Rows.boot_int⟩⟩⟩else
 if h:x="str" then some ⟨kO,λ X t c=>h▸⟨t.z_str,by decide,.inr ⟨_,Vf,Q6⟩⟩⟩else
 if h:x="len" then some ⟨cg,λ X t c=>h▸⟨t.z_len,by decide,.inl ⟨_,MG,PySem.boot_len⟩⟩⟩else
 if h:x="tuple" then some ⟨mE,λ X t c=>h▸⟨t.z_tuple,by decide,.inr ⟨_,DC,boot_tuple⟩⟩⟩else
 if h:x="max" then some ⟨oi,λ X t c=>h▸⟨t.z_max,by decide,.inl ⟨_,(Sm c),boot_max⟩⟩⟩else
 if h:x="min" then some ⟨t7,λ X t c=>h▸⟨t.z_min,by decide,.inl ⟨_,(Pp c),boot_min⟩⟩⟩else
 if h:x="abs" then some ⟨mX,λ X t c=>h▸⟨t.z_abs,by decide,.inl ⟨_,Oc,boot_abs⟩⟩⟩else
 if h:x="list" then some ⟨n8,λ X t c=>h▸⟨t.z_list,by decide,.inr ⟨_,QB,boot_list⟩⟩⟩else
 none
def tyO(x:Str):Option {t:Ty//∀X:Cx,mL X.w X.K X.mg→X.mg x=none∧bootBuiltins x=some (.type (uQ t))∧x≠"__name__"}:=
 if h:x="str" then some ⟨.str,λ X t=>h▸⟨t.z_str,Q6,by decide⟩⟩else
 if h:x="tuple" then some ⟨.tuple,λ X t=>h▸⟨t.z_tuple,Qt,by decide⟩⟩else
 none
def csO(x:Str)(p:Pos):Option (RE N sc C (.Name x p)):=
 if h:x="CHAINS"∧Gk sc x then some ⟨eC (.t [(.str "in"),(.str "time"),(.str "only"),(.str "but"),(.str "span"),(.str "rest"),(.str "turn"),(.str "later"),(.str "put"),(.str "pour")]),λ X k=>o6 (h.1▸k.t.c_CHAINS) (k.gl h.2) h.2.2⟩else
 if h:x="FOLDS"∧Gk sc x then some ⟨eC (.t [(.str "fixed"),(.str "slide"),(.str "gaps"),(.str "ever")]),λ X k=>o6 (h.1▸k.t.c_FOLDS) (k.gl h.2) h.2.2⟩else
 if h:x="FROM_PLACES"∧Gk sc x then some ⟨eC (.t [(.str "FROM"),(.str "LEFT"),(.str "RIGHT")]),λ X k=>o6 (h.1▸k.t.c_FROM_PLACES) (k.gl h.2) h.2.2⟩else
 if h:x="KEY_PLACES"∧Gk sc x then some ⟨eC (.t [(.str "NAME"),(.str "FROM"),(.str "LEFT"),(.str "RIGHT"),(.str "KEY"),(.str "OTHER")]),λ X k=>o6 (h.1▸k.t.c_KEY_PLACES) (k.gl h.2) h.2.2⟩else
 if h:x="BOUND_PLACES"∧Gk sc x then some ⟨eC (.t [(.str "LOW"),(.str "HIGH"),(.str "END")]),λ X k=>o6 (h.1▸k.t.c_BOUND_PLACES) (k.gl h.2) h.2.2⟩else
 if h:x="HOWS"∧Gk sc x then some ⟨eC (.t [(.str "sum"),(.str "less"),(.str "left"),(.str "right")]),λ X k=>o6 (h.1▸k.t.c_HOWS) (k.gl h.2) h.2.2⟩else
 if h:x="FOLD_WORDS"∧Gk sc x then some ⟨eC (.t [(.str "count"),(.str "sum"),(.str "most"),(.str "least")]),λ X k=>o6 (h.1▸k.t.c_FOLD_WORDS) (k.gl h.2) h.2.2⟩else
 if h:x="LONGEST"∧Gk sc x then some ⟨eC (.int 8),λ X k=>rq (h.1▸k.t.c_LONGEST) (k.gl h.2) h.2.2⟩else
 if h:x="MOST_FIGURES"∧Gk sc x then some ⟨eC (.int 12),λ X k=>rq (h.1▸k.t.c_MOST_FIGURES) (k.gl h.2) h.2.2⟩else
 if h:x="MOST_ROWS"∧Gk sc x then some ⟨eC (.int 24),λ X k=>rq (h.1▸k.t.c_MOST_ROWS) (k.gl h.2) h.2.2⟩else
 if h:x="MOST_COUNTED"∧Gk sc x then some ⟨eC (.int 50),λ X k=>rq (h.1▸k.t.c_MOST_COUNTED) (k.gl h.2) h.2.2⟩else
 if h:x="LETTERS"∧Gk sc x then some ⟨eC (.str "abcdefghijklmnopqrstuvwxyz"),λ X k=>LC (h.1▸k.t.c_LETTERS) (k.gl h.2) h.2.2⟩else
 if h:x="FIGURES"∧Gk sc x then some ⟨eC (.str "0123456789"),λ X k=>LC (h.1▸k.t.c_FIGURES) (k.gl h.2) h.2.2⟩else
 none
abbrev Sx(X:Cx):Prop:=Ox N sc C X/\X.N.Nodup/\(∀x,X.fn x=true)/\PassesOwn (model X.p X.w) X.A X.v X.xe
noncomputable abbrev l7{α:Type}(P:Cx->Prop)(Q:Cx->α->Prop):=Option {F:α//∀X,P X->Q X F}
variable{α β γ δ:Type}
def gq(x:l7 P Q)(f:α->β)(h:∀{X}{F:α},P X->Q X F->σ X (f F)):l7 P σ:=x.map λ F=>⟨f F.1,λ X k=>h k (F.2 X k)⟩
def kB(x:l7 P Q)(y:l7 P R)(f:α->β->γ)(h:∀{X}{F:α}{G:β},P X->Q X F->R X G->σ X (f F G)):l7 P σ:=x.bind λ F=>gq y (f F.1) λ k=>h k (F.2 _ k)
def yE(x:l7 P Q)(y:l7 P R)(z:l7 P σ)(f:α->β->γ->δ)(h:∀{X}{F:α}{G:β}{L:γ},P X->Q X F->R X G->σ X L->U X (f F G L)):l7 P U:=x.bind λ F=>kB y z (f F.1) λ k=>h k (F.2 _ k)
def xS(N:aP):aP->Option (dr)
 |[]=>some []
 |y::r=>(pV N y).bind λ i=>(xS N r).map (i.1::·)
def mv(q:Scope):aP:=(q.names.filter (·.2==.free)).map (·.1)
abbrev LK(e:Expr)(h:gE e=true)(env cpos):((backTo cpos (starEach [e] env)).all (λ x=>!x.1)&&(backToKw cpos (keywordEach [] env)).all (λ x=>x.1.isSome)&&decide (([e]:eH).length+([]:ux).length+(if([]:ux).isEmpty then 0 else 1)<30))=true:=by rw[(gn h).st];rfl
mutual
noncomputable def cE:Nat->{N:aP}->{sc:kh}->(e:Expr)->Option (RE N sc C e)
 |n+1,N,sc,.Name x p=>match pV N x with
  |some i=>if h:Vk sc x then some ⟨eV i.1,λ _ k=>k.vv i h⟩else none
  |none=>csO x p
 |n+1,_,_,.Constant (.int i) _ _=>some ⟨eC (.int i),λ _ _=>n4⟩
 |n+1,_,_,.Constant (.str i) _ _=>some ⟨eC (.str i),λ _ _=>mn⟩
 |n+1,_,_,.Constant (.bool i) _ _=>some ⟨eC (.b i),λ _ _=>xbl⟩
 |n+1,_,_,.Constant .none _ _=>some ⟨eC .n,λ _ _=>xX⟩
 |n+1,_,_,.BinOp a op b _=>(opO op).bind λ o=>kB (cE n a) (cE n b) (e2 o.1) λ _=>xb (o.2 _)
 |n+1,_,_,.Compare a [op] [b] _=>if h:gE b=true then kB (cE n a) (cE n b) (e2 (kT op).1) λ k x y=>tm ((kT op).2 _ k.u) x y ((gn h).im _)else none
 |n+1,_,_,.Compare a [op,op'] [b,m] _=>if h:gE m=true then yE (cE n a) (cE n b) (cE n m) (e3 (kT op).1 (kT op').1) λ k x y z=>cv1 ((kT op).2 _ k.u) ((kT op').2 _ k.u) x y z ((gn h).im _)else none
 |n+1,_,_,.IfExp c a b _=>yE (cT n c) (cE n a) (cE n b) pM λ _=>Es
 |n+1,_,_,.UnaryOp .USub a _=>gq (cE n a) (e1 rf) λ _=>CQ
 |n+1,_,_,.UnaryOp .Not a _=>gq (cE n a) qY λ _=>cu8
 |n+1,_,_,.BoolOp _ [a] _=>gq (cE n a) id λ _=>wV
 |n+1,_,_,.BoolOp .And (a::b::r) p=>kB (cE n a) (cE n (.BoolOp .And (b::r) p)) eG λ _=>t_
 |n+1,_,_,.BoolOp .Or (a::b::r) p=>kB (cE n a) (cE n (.BoolOp .Or (b::r) p)) iV λ _=>xor
 |n+1,_,_,.Tuple es _ _=>gq (cA n es) df λ _ x=>l_8 x.1
 |n+1,_,_,.List es _=>gq (cA n es) cY λ _ x=>F0 x.1
 |n+1,_,_,.Subscript a (.Slice lo hi none _) _=>yE (cE n a) (cO n lo) (cO n hi) cz λ _=>Rk
 |n+1,_,_,.Subscript a (.Slice none none (some (.UnaryOp .USub (.Constant (.int 1) _ _) _)) _) _=>gq (cE n a) (e1 tW) λ _=>X3
 |n+1,_,_,.Subscript a b _=>if h:gE b=true then kB (cE n a) (cE n b) (e2 bA) λ _ x y=>ui x y (gn h).ix else none
 |n+1,_,sc,.Call (.Name "isinstance" _) [e,.Name t _] [] _=>(tyO t).bind λ b=>if h:gE e=true∧Gk sc "isinstance"∧Gk sc t then gq (cE n e) (pN b.1) λ k a=>Ew k.t.z_isinstance (b.2 _ k.t).1 (b.2 _ k.t).2.1 a (k.gl h.2.1) (k.gl h.2.2) (b.2 _ k.t).2.2 h.2.2.2 ((gn h.1).st ..)else none
 |n+1,_,sc,.Call (.Name "len" _) [.Call (.Name "set" _) [a] [] _] [] _=>if h:gE a=true∧Gk sc "set"∧Gk sc "len" then gq (cE n a) (λ A=>eF mz (aC A aN)) λ k x=>Jl k.t.z_set k.t.z_len x k.ca (k.gl h.2.1) (k.gl h.2.2) ((gn h.1).st ..)else none
 |n+1,_,sc,.Call (.Name x _) es [] _=>match Mz C x,es with
  |some ⟨g,m⟩,e::r=>if h:gE e=true/\Gk sc x then gq (cA n (e::r)) (eF g) λ k a=>k.ff ((k.c _ m).imp id (· _ rfl)) h.2 a.1 (gn h.1) a.2 else none
  |none,e::r=>(We x).bind λ b=>if h:gE e=true/\Gk sc x then gq (cA n (e::r)) (eF b.1) λ k a=>k.ff (.inr (b.2 _ k.t k.ca)) h.2 a.1 (gn h.1) a.2 else none
  |_,_=>none
 |n+1,_,_,.Call (.Attribute (.Constant (.str s) _ _) "join" a) [e] [] c=>if h:gE e=true∧(a.endLine==c.line)=true then gq (cE n e) (gQ s) λ k x=>JW x rfl (LK e h.1 ..) h.2 ((gn h.1).st ..)else none
 |n+1,_,_,.Call (.Attribute o "split" a) [e] [] c=>if h:gE e=true∧Js o=true∧(a.endLine==c.line)=true then kB (cE n o) (cE n e) (e2 kA) λ k x y=>BS x y (Tt h.2.1 ..) (LK e h.1 ..) h.2.2 ((gn h.1).st ..)else none
 |n+1,N,sc,.ListComp e [⟨.Name x _,i,l,0⟩] so _=>(xS N (mv so)).bind λ js=>if h:u9 N sc so x (mv so) js/\gE i=true then(cE n i).bind λ I=>(cI n l).bind λ T=>(cE n e).map λ F=>⟨c4 js I.1 T.1 F.1,λ X k=>Nn k.ca rfl (k.sb h.1) (I.2 X k) (λ _ _ _ _=>T.2 _ (k.inn h.1.1)) (λ _ _ _ _=>F.2 _ (k.inn h.1.1)) ((gn h.2).fs _)⟩else none
 |_,_,_,_=>none
noncomputable def cI:Nat->{N:aP}->{sc:kh}->(es:eH)->Option (RI N sc C es)
 |n+1,_,_,[]=>some ⟨bD,λ _ _=>qE⟩
 |n+1,_,_,[c]=>gq (cT n c) id λ _=>FG
 |_,_,_,_=>none
noncomputable def cT:Nat->{N:aP}->{sc:kh}->(e:Expr)->Option (RT N sc C e)
 |n+1,_,_,.Compare a [op] [b] _=>if h:gE b=true then kB (cE n a) (cE n b) (λ x y=>tB (e2 (kT op).1 x y)) λ k x y=>xt ((kT op).2 _ k.u) x y ((gn h).im _)else none
 |n+1,_,_,.Compare a [op,op'] [b,m] _=>if h:gE m=true then yE (cE n a) (cE n b) (cE n m) (λ x y z=>tB (e3 (kT op).1 (kT op').1 x y z)) λ k x y z=>xt3 ((kT op).2 _ k.u) ((kT op').2 _ k.u) x y z ((gn h).im _)else none
 |n+1,_,_,.BoolOp op l p=>gq (cW n (.BoolOp op l p)) id λ _=>xw
 |n+1,_,_,.UnaryOp .Not a _=>gq (cT n a) cZ λ _=>o9
 |n+1,_,_,.Name x p=>gq (cE n (.Name x p)) tV λ _ x=>mH x λ _=>rfl
 |n+1,_,_,.Call f l m p=>gq (cE n (.Call f l m p)) tV λ _ x=>mH x λ _=>rfl
 |n+1,_,_,.Subscript a b p=>gq (cE n (.Subscript a b p)) tV λ _ x=>mH x λ _=>rfl
 |_,_,_,_=>none
noncomputable def cW:Nat->{N:aP}->{sc:kh}->(e:Expr)->Option (RW N sc C e)
 |n+1,_,_,.BoolOp .And [a] _=>gq (cT n a) id λ _=>v_0
 |n+1,_,_,.BoolOp .Or [a] _=>gq (cT n a) id λ _=>n5
 |n+1,_,_,.BoolOp .And (a::b::r) p=>kB (cT n a) (cW n (.BoolOp .And (b::r) p)) ey λ _=>N4
 |n+1,_,_,.BoolOp .Or (a::b::r) p=>kB (cT n a) (cW n (.BoolOp .Or (b::r) p)) c_ λ _=>kk
 |_,_,_,_=>none
noncomputable def cO:Nat->{N:aP}->{sc:kh}->(e:Option Expr)->Option (RO N sc C e)
 |n+1,_,_,some e=>gq (cE n e) oS λ _=>xoS
 |n+1,_,_,none=>some ⟨oN,λ _ _=>xoN⟩
 |_,_,_,_=>none
noncomputable def cA:Nat->{N:aP}->{sc:kh}->(es:eH)->Option (RA N sc C es)
 |n+1,_,_,[]=>some ⟨aN,λ _ _=>⟨eP,λ _ _=>rfl⟩⟩
 |n+1,_,_,e::es=>if h:gE e=true then kB (cE n e) (cA n es) aC λ _ x a=>⟨ez x a.1 ((gn h).st ..),λ pos env=>by rw[(gn h).st];exact a.2 pos env⟩else none
 |_,_,_,_=>none
end
abbrev RZ(s:Stmt):={F:FS//∀X,Sx (N:=N) (sc:=sc) (C:=C) X->XS X s F}
def cL(n:Nat)(i:{i:Nat//N[i]?=some x})(q p:Pos)(e:Expr):Option (RZ (N:=N) (sc:=sc) (C:=C) (.Assign [.Name x q] e p)):=match n,i,q,p,e with
 |n,i,px,_,.ListComp e [⟨.Name y _,.Call (.Name "range" _) [a] [] _,l,0⟩] so p=>(xS N (mv so)).bind λ js=>if h:u9 N sc so y (mv so) js∧AF sc x px so p∧gE a=true∧Gk sc "range" then(cE n a).bind λ A=>(cI n (N:=y::mv so) (sc:=qB so sc) l).bind λ T=>(cE n (N:=y::mv so) (sc:=qB so sc) e).map λ F=>⟨bN i.1 (mq js (dZ A.1) T.1 F.1),λ X k=>Wr i.1 k.2.1 k.1.t.z_range k.1.ca rfl (k.1.sb h.1) (A.2 X k.1) (λ _ _ _ _=>T.2 _ (k.1.inn h.1.1)) (λ _ _ _ _=>F.2 _ (k.1.inn h.1.1)) (k.1.n▸i.2) (k.1.s▸h.2.1.1) (k.1.gl h.2.2.2) ((gn h.2.2.1).st ..) (k.1.sw h.2.1) λ _=>rfl⟩else none
 |n,i,px,_,.ListComp e [⟨.Name y _,a,l,0⟩] so p=>(xS N (mv so)).bind λ js=>if h:u9 N sc so y (mv so) js/\AF sc x px so p/\gE a=true then(cE n a).bind λ A=>(cI n (N:=y::mv so) (sc:=qB so sc) l).bind λ T=>(cE n (N:=y::mv so) (sc:=qB so sc) e).map λ F=>⟨bN i.1 (c4 js A.1 T.1 F.1),λ X k=>wB i.1 k.2.1 k.1.ca rfl (k.1.sb h.1) (A.2 X k.1) (λ _ _ _ _=>T.2 _ (k.1.inn h.1.1)) (λ _ _ _ _=>F.2 _ (k.1.inn h.1.1)) (k.1.n▸i.2) (k.1.s▸h.2.1.1) (k.1.sw h.2.1) ((gn h.2.2).fs _)⟩else none
 |_,_,_,_,_=>none
mutual
noncomputable def cS:Nat->(s:Stmt)->Option (RZ (N:=N) (sc:=sc) (C:=C) s)
 |n+1,.Assign [.Name x q] e p=>(pV N x).bind λ i=>if h:D8 sc x e=true/\Lk sc x then(cE n e).map λ F=>⟨bN i.1 F.1,λ X k=>kZ i.1 k.2.1 (F.2 X k.1) (k.1.n▸i.2) (k.1.lk h.2) (k.1.sw0 h.1) (.inl (k.2.2.1 x))⟩else cL n i q p e
 |n+1,.Return (some e) _=>(cE n e).map λ F=>⟨bJ F.1,λ X k=>oB (F.2 X k.1)⟩
 |n+1,.For (.Name x _) (.Call (.Name "range" _) [a] [] _) b [] _=>(pV N x).bind λ i=>if h:gE a=true∧Gk sc "range"∧Lk sc x then(cE n a).bind λ A=>(oo n b).map λ B=>⟨kg (gN i.1) (dZ A.1) B.1,λ X k=>ti k.1.t.z_range (iZ i.1 k.2.1 (k.1.n▸i.2) (k.1.lk h.2.2) (.inl (k.2.2.1 x))) (A.2 X k.1) (B.2 X k) (k.1.gl h.2.1) k.2.2.2 k.1.ca ((gn h.1).st ..) λ _=>rfl⟩else none
 |n+1,.For (.Name x _) (.Call (.Name "range" _) [a,d] [] _) b [] _=>(pV N x).bind λ i=>if h:gE a=true∧gE d=true∧Gk sc "range"∧Lk sc x then(cE n a).bind λ A=>(cE n d).bind λ D=>(oo n b).map λ B=>⟨kg (gN i.1) (uf A.1 D.1) B.1,λ X k=>Vq k.1.t.z_range (iZ i.1 k.2.1 (k.1.n▸i.2) (k.1.lk h.2.2.2) (.inl (k.2.2.1 x))) (A.2 X k.1) (D.2 X k.1) (B.2 X k) (k.1.gl h.2.2.1) k.2.2.2 k.1.ca (by rw[(gn h.1).st,(gn h.2.1).st];rfl) ((gn h.2.1).st ..) λ _=>rfl⟩else none
 |n+1,.For (.Name x _) a b [] _=>(pV N x).bind λ i=>if h:gE a=true/\Lk sc x then(cE n a).bind λ A=>(oo n b).map λ B=>⟨oh (gN i.1) A.1 B.1,λ X k=>xf (iZ i.1 k.2.1 (k.1.n▸i.2) (k.1.lk h.2) (.inl (k.2.2.1 x))) (A.2 X k.1) (B.2 X k) k.2.2.2 k.1.ca ((gn h.1).fs _)⟩else none
 |n+1,.If c a b _=>(cT n c).bind λ T=>kB (oo n a) (oo n b) (bG T.1) λ k=>gS (T.2 _ k.1)
 |_,_=>none
noncomputable def oo:Nat->(s:iF)->Option {F:FS//∀X,Sx (N:=N) (sc:=sc) (C:=C) X->il X s F}
 |n+1,[]=>some ⟨sN,λ _ _=>gU⟩
 |n+1,[s]=>gq (cS n s) id λ _=>fi
 |n+1,s::t::r=>kB (cS n s) (oo n (t::r)) aL λ _=>b3
 |_,_=>none
end
theorem uu{o:l7 P R}{F:α}{X:Cx}(k:P X)(h:o.map (·.1)=some F:=by kernel_rfl):R X F:=by
 cases o with
 |none=>cases h
 |some q=>cases h;exact q.2 X k
end
section
variable{P:Program}{w:World}{K:Frag}{mg:Str->Option Value}{base:Heap}
def om(P:Program)(w:World)(K:Frag)(mg:Str->Option Value)(base:Heap)(j:Nat)(L:List qJ):Prop:=∀c∈L,(∃k,k<=j/\aR P w K mg base k c.1 c.2)\/∀X:Cx,X.mg=mg->xJ X c.1 c.2
theorem eb:om P w K mg base j []:=λ _ h=>nomatch h
theorem dq(G:aR P w K mg base k x g)(r:om P w K mg base j L)(h:k<=j:=by first|decide|lia):om P w K mg base j ((x,g)::L):=List.forall_mem_cons.mpr ⟨.inl ⟨k,h,G⟩,r⟩
theorem uM(T:mL w K mg)(r:om P w K mg base j L):om P w K mg base j (("int",kQ)::L):=List.forall_mem_cons.mpr ⟨.inr λ X e=>⟨e▸T.z_int,by decide,.inr ⟨_,G0,boot_int⟩⟩,r⟩
variable{X:Cx}{N:aP}{sc:kh}{C L:List qJ}{j:Nat}
theorem LW{ps:aP}{O:Scope}(σ:aJ N ps O)(T:mL X.w X.K X.mg)(Z:cm j X.A)(hL:om X.p X.w X.K X.mg X.base j L)(n:X.N=N:=by rfl)(s:X.v.scope=O:=by rfl)(ca:X.c=true:=by rfl)(f:∀x,X.fn x=true:=by intro;rfl)(q:PassesOwn (model X.p X.w) X.A X.v X.xe:=by exact Qp):Sx (N:=N) (sc:=O.names) (C:=L) X:=
 ⟨⟨n,by rw[s],by rw[s];exact σ.kind,ca,Z.units,T,λ c m=>(hL c m).imp (fun⟨k,b,a⟩=>⟨k,a,Z.mono b⟩) λ q Y e=>q Y e⟩,n▸σ.nd,f,q⟩
theorem DZ{q:Scope}{s:Shared}{D:Addr}(k:Sx (N:=N) (sc:=sc) (C:=C) X)(h:q.kind=.function:=by rfl):Ox N' (qB q sc) C (de X N' q s H D fp):=k.1.inn h
theorem dU(k:Ox N sc C X)(h:(cE (C:=C) 99 (N:=N) (sc:=sc) e).map (·.1)=some F:=by kernel_rfl):XE X e F:=uu k h
theorem hV(k:Ox N sc C X)(h:(cT (C:=C) 99 (N:=N) (sc:=sc) e).map (·.1)=some F:=by kernel_rfl):XT X e F:=uu k h
theorem oK(k:Ox N sc C X)(h:(cA (C:=C) 99 (N:=N) (sc:=sc) e).map (·.1)=some F:=by kernel_rfl):XA X e F:=(uu (R:=λ X F=>XA X e F/\∀pos a,(backTo pos (starEach e a)).any (·.1)=false) k h).1
theorem c6(k:Sx (N:=N) (sc:=sc) (C:=C) X)(h:(cS (N:=N) (sc:=sc) (C:=C) 99 e).map (·.1)=some F:=by kernel_rfl):XS X e F:=uu k h
theorem fM(k:Sx (N:=N) (sc:=sc) (C:=C) X)(h:(oo (N:=N) (sc:=sc) (C:=C) 99 e).map (·.1)=some F:=by kernel_rfl):il X e F:=uu k h
def Dn(K:Frag)(mg:Str->Option Value)(x:Str)(st:Stmt)(ps:aP):Prop:=∃f fd,kb K x x st f fd/\dS K fd ps []/\mg x=some (.ref f)
variable{x:Str}{st:Stmt}{ps:aP}{n m:Nat}{B:FS}
theorem hE(D:Dn K mg x st ps)(σ:aJ N ps (b_ st))(Y:∀(f:Addr)(q:Value)(A:Around)(outer:hO)(s:Shared)(H:Hp)(E:XK),cm j (A.deeper (envOfC x (b_ st) s.heap.n f q))->il (ig i7 P w K mg base N x (b_ st) f q A outer s H E).nox (iG st) B)(hn:ps.length=n:=by rfl)(O:N.length=n+m:=by rfl):aR P w K mg base (j+1) x (dH n m B):=by obtain⟨f,fd,F,b,h⟩:=D;exact⟨f,fd,ps,MF F σ hn O (Y f),b,F.kp,h⟩
theorem iY(D:Dn K mg x st ps)(σ:aJ N ps (b_ st))(T:mL w K mg)(hL:om P w K mg base j L)(hn:ps.length=n:=by rfl)(O:N.length=n+m:=by rfl)(q:(oo (N:=N) (sc:=(b_ st).names) (C:=L) 99 (iG st)).map (·.1)=some B:=by kernel_rfl):aR P w K mg base (j+1) x (dH n m B):=
 hE D σ (λ _ _ _ _ _ _ _ Y=>fM (LW σ T Y hL) q) hn O
theorem hU{O:Scope}(σ:aJ N ps O)(T:mL X.w X.K X.mg)(Y:cm j X.A)(hL:om X.p X.w X.K X.mg X.base j L)(f:Sx (N:=N) (sc:=O.names) (C:=L) X->il X sts B)(n:X.N=N:=by rfl)(s:X.v.scope=O:=by rfl)(ca:X.c=true:=by rfl)(h:∀x,X.fn x=true:=by intro;rfl)(q:PassesOwn (model X.p X.w) X.A X.v X.xe:=by exact Qp):il X sts B:=f (LW σ T Y hL n s ca h q)
end
section
variable(P:Program){w:World}{K:Frag}{mg:Str->Option Value}(base:Heap)
variable(T:mL w K mg)
variable(Ga:aR P w K mg base 1 "are_unlike" pR)
variable(Gb:aR P w K mg base 1 "in_order" Ed)
variable(Gc:aR P w K mg base 2 "fits" dM)
variable(Gd:aR P w K mg base 2 "keeps_bounds" dC)
variable(Ge:aR P w K mg base 1 "places_of" ip)
variable(Gf:aR P w K mg base 2 "word_value" kU)
variable(Gg:aR P w K mg base 1 "bears_bounds" uk)
variable(Gh:aR P w K mg base 3 "read_row" fH)
variable(Gi:aR P w K mg base 2 "stands_right" gi)
variable(Gj:aR P w K mg base 1 "_law_number" g0)
variable(Gk:aR P w K mg base 1 "_law_keys" kq)
variable(Gl:aR P w K mg base 2 "_law_two" pY)
variable(Gm:aR P w K mg base 1 "_law_told" jB)
variable(Gn:aR P w K mg base 2 "_law_all" fm)
variable(Go:aR P w K mg base 2 "_law_bounded" g4)
variable(Gp:aR P w K mg base 1 "_law_key" mw)
variable(Gq:aR P w K mg base 3 "_law_asks" pS)
variable(Gr:aR P w K mg base 3 "_law_chained" kR)
variable(Gs:aR P w K mg base 3 "_law_folded" m9)
variable(Gt:mM P w K mg base 4 "read_works" ou)
variable(Gu:aR P w K mg base 4 "_law_right" gA)
variable(Gv:oW P w K mg base 4 "read_works" rQ)
variable(Gw:aR P w K mg base 5 "_law_at" kX)
variable(Gx:aR P w K mg base 1 "_law_cell_at" kW)
variable(Gy:aR P w K mg base 1 "_law_digits" pQ)
variable(Gz:aR P w K mg base 5 "_law_due" yD)
variable(GA:aR P w K mg base 5 "_law_line" uC)
variable(GB:aR P w K mg base 1 "_law_words" gj)
variable(GC:aR P w K mg base 2 "shown_works" xP)
abbrev Hu:Stmt:=top 6
abbrev Rf:aP:=["x"]
theorem Oz:aJ Rf ["x"] (b_ Hu):=dW
abbrev DU:Stmt:=top 20
abbrev OW:aP:=["word","figures"]
theorem Ax:aJ OW ["word"] (b_ DU):=dW
def Ot(F:Dn K mg "is_number" DU ["word"]):aR P w K mg base 1 "is_number" jC:=
 hE F Ax (λ _ q A outer s H E O=>hU Ax T O eb λ k=>b3 (kZ 1 Ax.nd (Es (mH (Wn (xv 0) mn) (λ _=>rfl)) (dU k.1) (xv 0))) (fM k))
abbrev DR:Stmt:=top 21
theorem vB:aJ ["word","count","form","places"] ["word","count"] (b_ DR):=dW
def Oj(F:Dn K mg "places_of" DR ["word","count"]):aR P w K mg base 1 "places_of" ip:=
 hE F vB (λ _ q A outer s H E O=>hU vB T O eb λ k=>b3 (kZ 2 vB.nd (Es (hV k.1) (xb DI (Nl T.c_FORMS (xv 0)) mn) (Nl T.c_FORMS (xv 0)))) (b3 (rJ 3 vB.nd (Wu (xv 2) mn)) (b3 (gS (Lz 3 (hV k.1)) (b3 (X4 3) (fi (X8 3 (JU (ez (yU 3 (dU k.1)) eP) (xb G4 (xv 1) (yU 3 (dU k.1))))))) gU) (fi (o7 3 (c6 k))))))
abbrev Kd:Stmt:=top 22
theorem OA:aJ ["place","word"] ["place","word"] (b_ Kd):=dW
abbrev M5:Stmt:=top 23
theorem OB:aJ ["word"] ["word"] (b_ M5):=dW
abbrev Fw:Stmt:=top 24
theorem OC:aJ ["low","high"] ["low","high"] (b_ Fw):=dW
abbrev M9:Stmt:=top 25
theorem OD:aJ ["names"] ["names"] (b_ M9):=dW
abbrev DG:Stmt:=top 26
theorem GU:aJ ["word","froms","rest"] ["word","froms","rest"] (b_ DG):=dW
def y_5(F:Dn K mg "keeps_bounds" DG ["word","froms","rest"]):aR P w K mg base 2 "keeps_bounds" dC:=
 hE F GU (λ _ O A outer s H E q=>hU GU T q (dq Ga (dq Gb eb)) λ k=>b3 (c6 k) (b3 (c6 k) (b3 (c6 k) (b3 (c6 k) (b3 (c6 k) (b3 (gS (hV k.1) (fi (oB (t_ (dU k.1) (wV (xG Ga q (ez (LF (xv 2)) eP)))))) gU) (b3 (c6 k) (b3 (c6 k) (b3 (gS (hV k.1) (fi (oB (cv0 C6 LU C6 n4 (dU k.1) (dU k.1) (dU k.1)))) gU) (fM k))))))))))
abbrev pU:Stmt:=top 27
abbrev Ec:aP:=["text","words","word","places","told","froms","rest"]
theorem sY:aJ Ec ["text"] (b_ pU):=dW
def OR(F:Dn K mg "read_row" pU ["text"]):aR P w K mg base 3 "read_row" fH:=
 hE F sY (λ _ q A outer s H E O=>hU sY T O (dq Gc (dq Gd (dq Ge (dq Gf eb)))) λ k=>b3 (c6 k) (b3 (c6 k) (b3 (gS (Vp T.c_FORMS (xv 2)) (fM k) gU) (b3 (c6 k) (b3 (kZ 4 sY.nd (QD T.z_list T.z_zip rfl (xv 3) (dU k.1))) (b3 (gS (xw (kk (hV k.1) (n5 (o9 (mH (xB (AZ rfl) rfl T.z_all Ye (ez (LB (sc:=b_ pU) rfl rfl (by show lj Ec (b_ pU) _ "place" "told_word" [] [];exact⟨qC,rfl,by decide+kernel⟩) (xv 4) (λ _ _ _ _=>qE) (λ _ _ _ _=>(dU (DZ k)))) eP)) (λ _=>rfl)))))) (fM k) gU) (b3 (kZ 5 sY.nd (yR DC rfl T.z_tuple Qt (ez (LB (sc:=b_ pU) rfl rfl (by show lj Ec (b_ pU) _ "place" "told_word" [] [];exact⟨qC,rfl,by decide+kernel⟩) (xv 4) (λ _ _ _ _=>(FG (hV (DZ k)))) (λ _ _ _ _=>(xv 1))) eP))) (b3 (c6 k) (b3 (c6 k) (b3 (gS (hV k.1) (fi (kZ 6 sY.nd (Wj T.z_tuple T.z_zip rfl (LF (xv 6)) (X9 (xv 6))))) gU) (fM k)))))))))))
abbrev DH:Stmt:=top 28
theorem GV:aJ ["fold","above","low","fold_word"] ["fold","above","low"] (b_ DH):=dW
def y_6(F:Dn K mg "bears_bounds" DH ["fold","above","low"]):aR P w K mg base 1 "bears_bounds" uk:=
 hE F GV (λ _ O A outer s H E q=>hU GV T q eb λ k=>b3 (c6 k) (b3 (gS (xw (kk (hV k.1) (kk (hV k.1) (n5 (xt (uc q.units) (ui (Eo (lQ q) (xv 1) (dU k.1)) n4) mn))))) (fM k) gU) (fM k)))
abbrev pP:Stmt:=top 29
abbrev DJ:aP:=["row","above","from_rows"]
theorem Ay:aJ DJ ["row","above"] (b_ pP):=dW
def y_4(F:Dn K mg "stands_right" pP ["row","above"]):aR P w K mg base 2 "stands_right" gi:=
 hE F Ay (λ _ O A outer s H E q=>hU Ay T q (dq Gg eb) λ k=>b3 (gS (xw (kk (xt (C1 (lQ q)) (dU k.1) (xv 1)) (n5 (o9 (mH (xB (AZ rfl) rfl T.z_all Ye (ez (Nn (sc:=b_ pP) rfl rfl (by show iB DJ (b_ pP) _ "name" ["above"] [1];exact qC) (dU k.1) (λ _ _ _ _=>qE) (λ _ _ _ _=>(tm (C1 (lQ q)) (xv 0) (xv 1)))) eP)) (λ _=>rfl)))))) (fM k) gU) (b3 (wB 2 Ay.nd (sc:=b_ pP) rfl rfl (by show iB DJ (b_ pP) _ "name" ["above"] [1];exact qC) (dU k.1) (λ _ _ _ _=>qE) (λ _ _ _ _=>(Eo (lQ q) (xv 1) (xv 0)))) (fM k)))
abbrev xU:Stmt:=top 30
theorem l8:aJ ["text","above","number","row_text","row"] ["text"] (b_ xU):=dW
def N7(F:Dn K mg "read_works" xU ["text"]):oW P w K mg base 4 "read_works" rQ:=by
 obtain⟨f,fd,F,Z,O⟩:=F;exact⟨f,fd,["text"],W7 F l8 rfl rfl (λ Y A outer s H E q=>
 (Et (Eu (gS (o9 (mH (Ew (t:=.str) T.z_isinstance T.z_str Q6 (xv 0)) (λ _=>rfl)))
 (fi LA)
 gU))
 (Et (Eu (Em 1 l8.nd))
 (Et (Eu (XF T.z_enumerate (Ep (rH (iZ 2 l8.nd) (rH (iZ 3 l8.nd) CV))) (BS (xv 0) mn)
 (b3 (kZ 4 l8.nd (xG Gh q (ez (xv 3) eP)))
 (b3 (gS (J3 1 (xw (kk (xt C4 (xv 2) (rq T.c_MOST_ROWS)) (kk (xt C5 (xv 4) xX) (n5 (o9 (mH (xG Gi q (ez (xv 4) (ez (xv 1) eP))) (λ _=>rfl))))))))
 (fi LA)
 gU)
 (fi (El 1 (lQ q) (ui (xv 4) n4) (xv 4)))))))
 (xnL (X5 (J4 1 rfl T.z_list))))))),Z,F.kp,O⟩
theorem OE:aJ ["self","at"] ["self","at"] (b_ wx):=dW
def NX(F:Dn K mg "read_works" xU ["text"]):mM P w K mg base 4 "read_works" ou:=by
 obtain⟨f,fd,F,O,Y⟩:=F;obtain⟨c0,c2,fI,ac,Z⟩:=T.xn;have I:=V1 (CX:=iL P w) (P:=P) (w:=w) (mg:=mg) (base:=base) (f:="at") Z.fn OE aH rfl (λ _ _ _ _ _ _=>rfl) aH aH;exact⟨f,fd,["text"],W5 F l8 rfl rfl (λ aa A outer s H E q=>
 (uV (JD (o9 (mH (Ew (t:=.str) T.z_isinstance T.z_str Q6 (xv 0)) (λ _=>rfl)))
 (yV (HR Ju Z.m0 Z.x0 Z.s1 I (q.mono aH) Z.b0 n4))
 (JC gU))
 (uV (yW (Em 1 l8.nd))
 (uV (V_ UQ T.z_enumerate (Ep (rH (iZ 2 l8.nd) (rH (iZ 3 l8.nd) CV))) (BS (xv 0) mn)
 (uV (yW (kZ 4 l8.nd (xG Gh q (ez (xv 3) eP))))
 (uV (JD (J3 1 (xw (kk (xt C4 (xv 2) (rq T.c_MOST_ROWS)) (kk (xt C5 (xv 4) xX) (n5 (o9 (mH (xG Gi q (ez (xv 4) (ez (xv 1) eP))) (λ _=>rfl))))))))
 (yV (HR Ju Z.m0 Z.x0 Z.s1 I (q.mono aH) Z.b0 (xv 2)))
 (JC gU))
 (yV (yW (El 1 (lQ q) (ui (xv 4) n4) (xv 4)))))))
 (yV (yW (oB (Nk (J4 1 rfl T.z_list))))))))),O,F.kp,Y⟩
abbrev DQ:Stmt:=top 31
theorem vC:aJ ["row","words","value"] ["row"] (b_ DQ):=dW
def Og(F:Dn K mg "shown_row" DQ ["row"]):aR P w K mg base 1 "shown_row" uB:=
 hE F vC (λ _ q A outer s H E O=>hU vC T O eb λ k=>b3 (rJ 1 vC.nd (JV (dU k.1) (dU k.1))) (b3 (xf (iZ 2 vC.nd) (dU k.1) (fi (gS (hV k.1) (fi (cu9 1 (xv 2))) (fi (tu 1 (oK k.1)))))) (fi (o7 1 (c6 k)))))
abbrev MS:Stmt:=top 32
abbrev N_:aP:=["works"]
theorem OF:aJ N_ ["works"] (b_ MS):=dW
abbrev MJ:Stmt:=top 34
theorem OG:aJ ["_law_script","_law_k"] ["_law_script","_law_k"] (b_ MJ):=dW
abbrev DO:Stmt:=top 35
theorem vE:aJ ["_law_cell","_law_many","_law_found","_law_rest","_law_k","_law_number_here"] ["_law_cell","_law_many"] (b_ DO):=dW
def N8(F:Dn K mg "_law_digits" DO ["_law_cell","_law_many"]):aR P w K mg base 1 "_law_digits" pQ:=
 hE F vE (λ _ q A outer s H E O=>hU vE T O eb λ k=>b3 (rJ 2 vE.nd (Bq eP)) (b3 (c6 k) (b3 (ti T.z_range (iZ 4 vE.nd) (xv 1) (b3 (c6 k) (b3 (c6 k) (b3 (tu 2 (oK k.1)) (fM k))))) (fi (o7 2 (c6 k))))))
abbrev M6:Stmt:=top 36
theorem OH:aJ ["_law_digits_here","_law_at_here","_law_number_here","_law_k"] ["_law_digits_here","_law_at_here"] (b_ M6):=dW
abbrev Ex:Stmt:=top 37
theorem Az:aJ ["_law_digits_here","_law_at_here","_law_some","_law_low","_law_high"] ["_law_digits_here","_law_at_here"] (b_ Ex):=dW
def SD(F:Dn K mg "_law_two" Ex ["_law_digits_here","_law_at_here"]):aR P w K mg base 2 "_law_two" pY:=
 hE F Az (λ _ q A outer s H E O=>hU Az T O (dq Gj eb) λ k=>b3 (kZ 2 Az.nd (xB Ih rfl T.z_sorted PyProof.Rows.boot_sorted (oK k.1))) (fM k))
abbrev D5:Stmt:=top 38
theorem vF:aJ ["_law_digits_here","_law_at_here","_law_many","_law_some","_law_found","_law_k","_law_first","_law_sign"] ["_law_digits_here","_law_at_here","_law_many"] (b_ D5):=dW
def OT(F:Dn K mg "_law_keys" D5 ["_law_digits_here","_law_at_here","_law_many"]):aR P w K mg base 1 "_law_keys" kq:=
 hE F vF (λ _ q A outer s H E O=>hU vF T O eb λ k=>b3 (c6 k) (b3 (rJ 4 vF.nd (Bq eP)) (b3 (ti T.z_range (iZ 5 vF.nd) (xv 2) (b3 (c6 k) (b3 (c6 k) (fi (tu 4 (ez (xb DI (xv 6) (xb cx3 (xv 7) (dU k.1))) eP)))))) (fi (o7 4 (c6 k))))))
abbrev uA:Stmt:=top 39
abbrev Np:aP:=["_law_word","_law_digits_here","_law_keys_here","_law_others","_law_begin","_law_far","_law_low"]
theorem AA:aJ Np ["_law_word","_law_digits_here"] (b_ uA):=dW
def Oo(F:Dn K mg "_law_chain" uA ["_law_word","_law_digits_here"]):aR P w K mg base 3 "_law_chain" ko:=
 hE F AA (λ _ q A outer s H E O=>hU AA T O (dq Gk (dq Gj (dq Gl (uM T eb)))) λ k=>b3 (c6 k) (b3 (c6 k) (b3 (c6 k) (b3 (c6 k) (b3 (c6 k) (b3 (c6 k) (b3 (c6 k) (b3 (c6 k) (b3 (gS (hV k.1) (fi (kZ 3 AA.nd (Nk (JU (oK k.1) (dU k.1))))) gU) (fi (oB (yR DC rfl T.z_tuple Qt (ez (X6 T.z_zip (sc:=b_ uA) rfl rfl (by show lj Np (b_ uA) _ "_law_key_here" "_law_other" [] [];exact⟨qC,rfl,by decide+kernel⟩) (xv 2) (xv 3) (λ _ _ _ _=>qE) (λ _ _ _ _=>(dU (DZ k)))) eP)))))))))))))
abbrev Fv:Stmt:=top 40
theorem OI:aJ ["_law_word","_law_digits_here","_law_summed","_law_fold_here","_law_wide"] ["_law_word","_law_digits_here","_law_summed"] (b_ Fv):=dW
abbrev DT:Stmt:=top 41
abbrev OV:aP:=["_law_fold_here","_law_above","_law_digits_here","_law_low","_law_high"]
theorem vG:aJ OV ["_law_fold_here","_law_above","_law_digits_here"] (b_ DT):=dW
def Oq(F:Dn K mg "_law_asked" DT ["_law_fold_here","_law_above","_law_digits_here"]):aR P w K mg base 3 "_law_asked" xT:=
 hE F vG (λ _ q A outer s H E O=>hU vG T O (dq Gl eb) λ k=>b3 (c6 k) (b3 (c6 k) (b3 (Rj (Ep (rH (iZ 3 vG.nd) (rH (iZ 4 vG.nd) CV))) (dU k.1)) (fM k))))
abbrev FY:Stmt:=top 42
abbrev Ub:aP:=["_law_above","_law_digits_here","_law_words_here","_law_word","_law_chains","_law_folds","_law_pairs","_law_name","_law_froms","_law_many","_law_how","_law_fold_here","_law_summed","_law_one"]
theorem OJ:aJ Ub ["_law_above","_law_digits_here"] (b_ FY):=dW
abbrev DS:Stmt:=top 43
theorem sZ:aJ ["_law_row_here","_law_words_here","_law_one"] ["_law_row_here"] (b_ DS):=dW
def Ol(F:Dn K mg "_law_words" DS ["_law_row_here"]):aR P w K mg base 1 "_law_words" gj:=
 hE F sZ (λ _ q A outer s H E O=>hU sZ T O (uM T eb) λ k=>b3 (rJ 1 sZ.nd (JV (dU k.1) (dU k.1))) (b3 (xf (iZ 2 sZ.nd) (dU k.1) (fi (gS (hV k.1) (fi (Vt 1 sZ.nd (dU k.1))) (fi (tu 1 (oK k.1)))))) (fi (o7 1 (c6 k)))))
abbrev Fs:Stmt:=top 44
abbrev SI:aP:=["_law_above","_law_digit","_law_other","_law_some","_law_names"]
theorem OL:aJ SI ["_law_above","_law_digit","_law_other"] (b_ Fs):=dW
abbrev Ft:Stmt:=top 45
abbrev SJ:aP:=["_law_above","_law_digits_here","_law_words_here","_law_k","_law_at_here","_law_one","_law_way"]
theorem OM:aJ SJ ["_law_above","_law_digits_here"] (b_ Ft):=dW
abbrev FZ:Stmt:=top 46
abbrev Uc:aP:=["_law_word","_law_some"]
theorem ON:aJ Uc ["_law_word"] (b_ FZ):=dW
abbrev M1:Stmt:=top 47
abbrev SG:aP:=["_law_word","_law_body"]
theorem OO:aJ SG ["_law_word"] (b_ M1):=dW
abbrev DM:Stmt:=top 48
abbrev Ob:aP:=["_law_words_here","_law_starred","_law_some"]
theorem GW:aJ Ob ["_law_words_here","_law_starred"] (b_ DM):=dW
def N0(F:Dn K mg "_law_bounded" DM ["_law_words_here","_law_starred"]):aR P w K mg base 2 "_law_bounded" g4:=
 hE F GW (λ _ O A outer s H E q=>hU GW T q (dq Gm eb) λ k=>b3 (c6 k) (b3 (c6 k) (fi (oB (t_ (dU k.1) (wV (tm (uc q.units) (xB Ih rfl T.z_sorted PyProof.Rows.boot_sorted (oK k.1)) (xv 2))))))))
abbrev F1:Stmt:=top 49
abbrev Ud:aP:=["_law_words_here","_law_least","_law_most","_law_some","_law_k"]
theorem OP:aJ Ud ["_law_words_here","_law_least","_law_most"] (b_ F1):=dW
abbrev DL:Stmt:=top 50
abbrev Oa:aP:=["_law_word","_law_words_here","_law_far","_law_keys_here"]
theorem GY:aJ Oa ["_law_word","_law_words_here"] (b_ DL):=dW
def NY(F:Dn K mg "_law_chained" DL ["_law_word","_law_words_here"]):aR P w K mg base 3 "_law_chained" kR:=
 hE F GY (λ _ O A outer s H E q=>hU GY T q (dq Gn (dq Go (dq Gp (dq Gm eb)))) λ k=>b3 (c6 k) (b3 (c6 k) (b3 (c6 k) (b3 (c6 k) (b3 (c6 k) (b3 (c6 k) (b3 (c6 k) (b3 (c6 k) (fi (oB (t_ (dU k.1) (t_ (dU k.1) (wV (tm (uc q.units) (Jl T.z_set T.z_len (LD (xv 1))) (xB MG rfl T.z_len PySem.boot_len (ez (LD (xv 1)) eP))))))))))))))))
abbrev M7:Stmt:=top 51
theorem OQ:aJ ["_law_word","_law_words_here","_law_far"] ["_law_word","_law_words_here"] (b_ M7):=dW
abbrev Eb:Stmt:=top 52
theorem GZ:aJ ["_law_words_here","_law_fold_here","_law_sorts"] ["_law_words_here","_law_fold_here","_law_sorts"] (b_ Eb):=dW
def OU(F:Dn K mg "_law_asks" Eb ["_law_words_here","_law_fold_here","_law_sorts"]):aR P w K mg base 3 "_law_asks" pS:=
 hE F GZ (λ _ O A outer s H E q=>hU GZ T q (dq Gn (dq Go eb)) λ k=>b3 (c6 k) (b3 (gS (xw (kk (hV k.1) (kk (hV k.1) (n5 (xt (uc q.units) (Eo (lQ q) (xv 2) (dU k.1)) mn))))) (fM k) gU) (fM k)))
abbrev pT:Stmt:=top 53
abbrev DV:aP:=["_law_line_here","_law_above","_law_words_here","_law_sorts","_law_row_here","_law_chains","_law_word","_law_many","_law_froms","_law_behind","_law_good"]
theorem qW:aJ DV ["_law_line_here","_law_above"] (b_ pT):=dW
def Om(F:Dn K mg "_law_right" pT ["_law_line_here","_law_above"]):aR P w K mg base 4 "_law_right" gA:=
 hE F qW (λ _ O A outer s H E q=>hU qW T q (dq Gn (dq Gq (dq Gr (dq Gs (dq Gp (uM T eb)))))) λ k=>@A2.go _ _ _ (nL (yx (c6 k)) (nL (yx (Em 3 qW.nd)) (nL (yx (xf (iZ 4 qW.nd) (xv 1) (fi (El 3 (lQ q) (dU k.1) (dU k.1))))) (nL (yx (X7 3 (c6 k))) (nL (yx (gS (xw (kk (hV k.1) (kk (hV k.1) (n5 (xt (C1 (lQ q)) (dU k.1) (xv 3)))))) (fM k) gU)) (nL (yx (c6 k)) (nL (yx (gS (hV k.1) (b3 (wB 8 qW.nd (sc:=b_ pT) rfl rfl (by show iB DV (b_ pT) _ "_law_one" ["_law_sorts"] [3];exact qC) (dU k.1) (λ _ _ _ _=>qE) (λ _ _ _ _=>(JY (lQ q) (xv 1) (xv 0) mn))) (fM k)) gU)) (nL (yx (c6 k)) (nL (yx (wB 8 qW.nd (sc:=b_ pT) rfl rfl (by show iB DV (b_ pT) _ "_law_one" ["_law_sorts"] [3];exact qC) (dU k.1) (λ _ _ _ _=>qE) (λ _ _ _ _=>(JY (lQ q) (xv 1) (xv 0) mn)))) ⟨fM k⟩))))))))))
abbrev uJ:Stmt:=top 54
theorem AB:aJ ["_law_rows","_law_error","e"] ["_law_rows"] (b_ uJ):=dW
def T7(F:Dn K mg "_law_at" uJ ["_law_rows"]):aR P w K mg base 5 "_law_at" kX:=by
 obtain⟨f,fd,F,bF,mF⟩:=F;obtain⟨c0,c2,fI,ah,Z⟩:=T.xn;refine⟨f,fd,["_law_rows"],F.ok AB (λ vs H Q E h=>?_) (λ aa A outer s H vs Q E hr h=>?_),bF,F.kp,mF⟩
 .obtain⟨Hi,ds,d,_,r,e,_⟩:=h;obtain⟨d0,t,z,rfl,_⟩:=Ij e;rw[<-r.length];rfl
 .obtain⟨Hi,ds,d,hs,r,e,q⟩:=h;obtain⟨d0,t,z,rfl,hj,h1,h2⟩:=Ij e;have Y:∀(dx:Addr)(n:Int)(S:L2.St)(H1:Hp)(Dn:gv),S.length=3→H1 dx=some (.xd [("at",.int n)])→Dn.rt (.int n) H1→C3 (ig i7 P w K mg base ["_law_rows","_law_error","e"] "_law_at" (b_ uJ) f aa A outer s H E).nox 1 2 ((iG uJ).drop 2) Dn S c0 (some dx) H1:=by
   intro dx n S H1 Dn ae hx af a us;have h3:(((S.set 2 (some (V.ref a))).set 1 (some (.ref a))).set 2 none)[1]?=some (some (.ref a)):=by rw[yh aH,ye (by rw[yv,ae];decide)]
   refine⟨_,rV (v9 (Ld (uF (u_7 (v:=.ref c0) Z.k0 (λ w r=>r) Z.t0) rfl T.z_isinstance rfl (iT (pv 1) (iT (G9 Z.m0) k7)))) (r8 (B7 (RV Z.k0 Z.s1 (pv 1) rfl))) B6) F9,?_⟩;exact⟨.ref a,h3,rfl,⟨_,hx⟩,true,rfl,ZI ⟨.ref a,h3,rfl,n,hx,af⟩⟩
  have R0:=(RS.start (n:=3) (m:=2) hs r (by rw[<-r.length];rfl)).set 1 (d:=.n) (v:=.n) (by unfold aU;rfl);refine⟨_,rV (sx AB.nd (i:=1) rfl (.inl rfl) Lf) (Xk (OK:=λ y=>y="NoText") (ie:=1) (ik:=2) (λ _ _ z=>z) Gt hr (ez (JW (xv 0)) eP) rfl rfl AB.nd rfl rfl rfl rfl rfl Z.m2 (λ y C m hy=>?_)
   (rV (v9 (Ld (uF (VR Z.n0) rfl T.z_isinstance rfl (iT (pv 1) (iT (G9 Z.m0) k7)))) F9 B6)
    (fi (oB (ui (F0 (ez (CQ n4) (ez (CQ n4) eP))) (yR G0 rfl T.z_int PyProof.Rows.boot_int (ez (tm HM (xv 1) xX) eP))))))),⟨Hi,H,[]⟩,Hi,_,[t],_,z,R0,by show aF (gQ (cq "\n") (eV 0) [.i d0,.i .n,.z]) _=_;rw[hj];rfl,h1,?_⟩
  .subst hy;obtain rfl:c0=C:=Value.ref.inj (qi (Z.m0.symm.trans m));exact Z.e0
  .cases z with
   |inl x=>
    obtain rfl:D.int (-1)=d:=qi h2;intro aV H' _ R';obtain⟨v,hv,O⟩:=R'.im 1 .n rfl;obtain rfl:v=.n:=by unfold aU at O;exact O
    refine⟨.n,hv,rfl,false,rfl,YX ⟨_,aV,[.i d0,.i .n,.z],.rt (.int (-1)) [.i d0,.i .n,.z],R',by kernel_rfl,λ v ag H2 dk s2 R2 O=>q v H2 dk R2.step O⟩⟩
   |inr y=>
    obtain⟨n,rfl,rfl⟩:=Vi h2;have ac:((vs.map some++List.replicate (3-vs.length) none:L2.St).set 1 (some .n)).length=3:=by rw[yv,zr,qz,Yf,<-r.length];rfl
    refine⟨rfl,λ C dd aV H' m _ R' xd=>?_⟩;obtain rfl:c0=C:=Value.ref.inj (qi (Z.m0.symm.trans m));cases dd with
    |none=>exact xd.elim
    |some dx=>
     obtain⟨v,O,hx⟩:=xd;obtain rfl:v=.int n:=by unfold aU at O;exact O
     exact Y dx n _ H' _ ac hx (q _ aV H' R'.step (by unfold aU;rfl))
abbrev Ey:Stmt:=top 55
theorem vH:aJ ["_law_rows","_law_works","_law_k"] ["_law_rows"] (b_ Ey):=dW
def SE(F:Dn K mg "_law_due" Ey ["_law_rows"]):aR P w K mg base 5 "_law_due" yD:=
 hE F vH (λ _ O A outer s H E q=>hU vH T q (dq Gu eb) λ k=>b3 (c6 k) (b3 (ti T.z_range (iZ 2 vH.nd) (dU k.1) (b3 (c6 k) (fi (kZ 1 vH.nd (Nh Gv (q.mono aH) (oK k.1)))))) (fM k)))
abbrev o_:Stmt:=top 56
abbrev cx6:aP:=["_law_script","_law_rows","_law_works","_law_k","_law_at_here","_law_moved","_law_line_here","_law_found","_law_behind"]
theorem s9:aJ cx6 ["_law_script"] (b_ o_):=dW
def W4{f:Addr}{fd:FuncData}(F:kb K "law" "law" o_ f fd):da P w K mg base i7 6 f fd ["_law_script"] (r_ K tI):=
 MF F s9 rfl rfl (λ O A outer s H E q=>hU s9 T q (dq Gw (dq Gx (dq Gy (dq Gz (dq GA (dq Gu (dq GB (dq GC eb)))))))) λ k=>b3 (rJ 1 s9.nd (Bq eP)) (b3 (c6 k) (b3 (ti T.z_range (iZ 3 s9.nd) (dU k.1) (b3 (c6 k) (b3 (tu 1 (oK k.1)) (b3 (gS (hV k.1) (b3 (o7 1 (c6 k)) (fM k)) gU) (b3 (kZ 7 s9.nd (Nh Gv (q.mono aH) (ez (yU 1 (dU k.1)) eP))) (b3 (gS (Lz 1 (hV k.1)) (fM k) gU) (b3 (gS (xt (LV q.units) (dU k.1) (yU 1 (dU k.1))) (fM k) gU) (fM k)))))))) (b3 (o7 1 (c6 k)) (fM k)))))
end
end Fx
namespace Fx
open PySem
theorem H3(P:En->Prop):∀(n:Nat)(lo:Int)(J:En),(∀(i:Nat)J,i<n->P J->∃Y O,g (.int (lo+i)) J=some Y/\B Y=some (.nx O)/\P O)->P J->∃ρ',dh g B (dz lo n) J=some (.nx ρ')/\P ρ'
 |0,lo,J,_,p=>⟨J,rfl,p⟩
 |n+1,lo,J,h,p=>by
  obtain⟨Y,O,f,j,p2⟩:=h 0 J aD p;have Z:g (.int lo) J=some Y:=by simpa using f
  obtain⟨ρ',e,k⟩:=H3 P n (lo+1) O (λ i J hi q=>by
   obtain⟨a,b,c,d,e⟩:=h (i+1) J aD q;refine⟨a,b,?_,d,e⟩;rw[show lo+1+(i:Int)=lo+((i+1:Nat):Int) by push_cast;lia];exact c) p2
  refine⟨ρ',?_,k⟩;rw[show dz lo (n+1)=.int lo::dz (lo+1) n from rfl,iQ,Z,oZ,j,mV];exact e
theorem uK(h:j.natAbs<2^64):gR i j=true:=by unfold gR;rw[zl h];simp
theorem vc(h:i.natAbs<2^64):gR i j=true:=by unfold gR;rw[zl h];simp
theorem ib(q:j≠0)(h:j.natAbs<2^64):fN j=true:=by unfold fN;rw[zl q,zl (Y2 h (Nat.pow_lt_pow_right aH aH))];rfl
def L9(F:En->Option MO)(o:c8):Option MO:=aF o λ r=>match r with
 |.nx ρ'=>F ρ'
 |_=>none
@[simp] theorem cO1:(∀n k F ds,uq n k F ds=if ds.length=n then F (ds.map .i++List.replicate k .z)else none)/\(∀A F J,ua A F J=L9 F (A J))/\(∀F J,L9 F (some (.nx J))=F J):=by and_intros<;>intros<;>rfl
abbrev cQ:Str:=cq "abcdefghijklmnopqrstuvwxyz"
theorem Pt:cQ.length=26:=aW
theorem QH:∀j:Nat,j<26->cQ.cps.toList[j]?=some (97+j):=by have e:cQ.cps.toList=List.range' 97 26:=aW;intro j q;rw[e,List.getElem?_range' q];simp
theorem cv(h:n<=1000):n<=sizeLine:=zw h aH
theorem T_(q:0<=i)(h1:i<26):iR cQ i=some (.str (cJ (97+i.toNat))):=by unfold iR;rw[if_pos (by rw[Pt];exact cv aH)];have l:cQ.cps.toList.length=26:=aW;unfold iq;rw[l,if_pos q,if_pos (by exact_mod_cast h1),cD,QH _ aD,cD]
theorem rB(x:Int):0<=x.fmod 26/\x.fmod 26<26:=by grind
def lM(x:Int):Str:=cJ (97+(x.fmod 26).toNat)
theorem Lj(x:Int):iR cQ (x.fmod 26)=some (.str (lM x)):=T_ (rB x).1 (rB x).2
theorem T9(x:Int):(lM x).length=1:=rfl
theorem G3(a b:Str):(a++b).length=a.length+b.length:=by show(a.cps++b.cps).size=_;rw[Y6];rfl
theorem qR(f:α->D)(xs:List α){i:Int}(q:0<=i)(h1:i<xs.length):∃x,x∈xs/\cw (xs.map f) i=some (f x):=by have hi:i.toNat<xs.length:=aD;refine⟨xs[i.toNat],Jb hi,?_⟩;unfold cw iq;rw[qz,if_pos q,if_pos h1];show(xs.map f)[i.toNat]?=_;rw[yt,yq hi];rfl
theorem Mn:∀{X Y A B:dr},c∉X->c∉Y->X++c::A=Y++c::B->X=Y/\A=B
 |[],[],A,B,_,_,h=>⟨rfl,(yr h).2⟩
 |[],y::Y,A,B,_,b,h=>absurd (by rw[(yr h).1];exact qg) b
 |x::X,[],A,B,a,_,h=>absurd (by rw[<-(yr h).1];exact qg) a
 |x::X,y::Y,A,B,a,b,h=>by
  obtain⟨e1,e2⟩:=yr h;obtain⟨e3,e4⟩:=Mn (λ z=>a (qh _ z)) (λ z=>b (qh _ z)) e2;exact⟨by rw[e1,e3],e4⟩
theorem lJ{a b:Str}(h:a.cps.toList=b.cps.toList):a=b:=by obtain⟨⟨x⟩⟩:=a;obtain⟨⟨y⟩⟩:=b;cases h;rfl
theorem yS(a b:Str):(a++b).cps.toList=a.cps.toList++b.cps.toList:=by show(a.cps++b.cps).toList=_;rw[Array.toList_append]
theorem rW(c:Nat)(x y:Str)(r:aP):(Str.join ⟨#[c]⟩ (x::y::r)).cps.toList=x.cps.toList++c::(Str.join ⟨#[c]⟩ (y::r)).cps.toList:=by show(x++⟨#[c]⟩++Str.join ⟨#[c]⟩ (y::r)).cps.toList=_;rw[yS,yS];simp
theorem GH:∀{ss ts:aP},ss≠[]->ts≠[]->(∀s∈ss,c∉s.cps.toList)->(∀s∈ts,c∉s.cps.toList)->Str.join ⟨#[c]⟩ ss=Str.join ⟨#[c]⟩ ts->ss=ts
 |[],_,h,_,_,_,_=>absurd rfl h
 |_,[],_,h,_,_,_=>absurd rfl h
 |[x],[y],_,_,_,_,h=>by
  have h:x=y:=h;rw[h]
 |[x],y::d::r,_,_,a,_,h=>by
  have h:x=Str.join ⟨#[c]⟩ (y::d::r):=h;have e:=y0 (λ z:Str=>z.cps.toList) h;rw[rW]at e;exact absurd (by rw[e];simp) (a x qg)
 |x::x2::r,[y],_,_,_,b,h=>by
  have h:Str.join ⟨#[c]⟩ (x::x2::r)=y:=h;have e:=y0 (λ z:Str=>z.cps.toList) h;rw[rW]at e;exact absurd (by rw[<-e];simp) (b y qg)
 |x::x2::r,y::d::q,_,_,a,b,h=>by
  have e:=y0 (λ z:Str=>z.cps.toList) h;rw[rW,rW]at e;obtain⟨e1,e2⟩:=Mn (a x qg) (b y qg) e;have Y:=GH aQ aQ (λ s O=>a s (qh _ O)) (λ s O=>b s (qh _ O)) (lJ e2);rw[lJ e1,Y]
theorem D4(q:ss≠[])(h:∀s∈ss,c∉s.cps.toList):Txt.split (Str.join ⟨#[c]⟩ ss) ⟨#[c]⟩=ss:=by
 have a:Txt.split (Str.join ⟨#[c]⟩ ss) ⟨#[c]⟩≠[]:=λ z=>by
  have:=PyProof.Rows.split_pos (Str.join ⟨#[c]⟩ ss) ⟨#[c]⟩;rw[z]at this;simp at this
 refine GH a q ?_ h ?_
 .first|exact StrLaws.split_free _ c|exact split_free _ c
 .first|exact StrLaws.join_split _ _|exact join_split _ _
abbrev bR:Str:=lV
abbrev lf:Str:=cq "\n"
theorem Bh:bR=(⟨#[32]⟩:Str):=aW
theorem CW:lf=(⟨#[10]⟩:Str):=aW
theorem yC(q:ss≠[])(h:∀s∈ss,32∉s.cps.toList):Txt.split (Str.join bR ss) bR=ss:=by rw[Bh];exact D4 q h
theorem Hl(q:ss≠[])(h:∀s∈ss,10∉s.cps.toList):Txt.split (Str.join lf ss) lf=ss:=by rw[CW];exact D4 q h
theorem Mc(L:Str):∀cs:dr,du bD (e2 bP (eV 0) (eC (.str L))) [] (cs.map λ c=>.str (cJ c))=some (cs.map λ c=>.b (ej (cJ c) L))
 |[]=>rfl
 |c::r=>by
  have f:e2 bP (eV 0) (eC (.str L)) [.i (.str (cJ c))]=some (.b (ej (cJ c) L),[.i (.str (cJ c))]):=aQ;rw[zj,vP];show ud _ _ _ _ (some (true,_))=_;rw[vR,f,vQ,Mc L r,o5];rfl
theorem I1(L:Str):∀cs:dr,lh (cs.map λ c=>.b (ej (cJ c) L))=some (cs.map λ c=>ej (cJ c) L)
 |[]=>rfl
 |c::r=>by rw[zj,A0,I1 L r,o5];rfl
theorem Ie(w:Str):(km w).length=w.length:=by unfold km;rw[qz,ym];rfl
abbrev iN:Str:=cq "0123456789"
theorem z0:∀c:Nat,c<123->ej (cJ c) cQ=decide (97<=c):=aW
theorem ve:∀c:Nat,c<123->ej (cJ c) iN=(decide (48<=c)&&decide (c<=57)):=aW
def aO(w:Str):Prop:=1<=w.length/\w.length<=8/\∀c∈w.cps.toList,97<=c/\c<123
theorem cq5(L:Str)(cs:dr):gf [.l (cs.map λ c=>.b (ej (cJ c) L))]=some (.b (cs.all λ c=>ej (cJ c) L)):=by rw[Cw,I1,Bl,List.all_map];rfl
theorem rY(L w:Str)(h:w.length<=1000)(hi:J[i]?=some (.i (.str w))):eF gf (aC (c4 [] (eV i) bD (e2 bP (eV 0) (eC (.str L)))) aN) J=some (.b (w.cps.toList.all λ c=>ej (cJ c) L),J):=by
 have q:(km w).length<=sizeLine:=by rw[Ie];exact cv h
 have g:du bD (e2 bP (eV 0) (eC (.str L))) [] (km w)=some (w.cps.toList.map λ c=>.b (ej (cJ c) L)):=Mc L _;have a:=cq5 L w.cps.toList;generalize (w.cps.toList.map λ c=>D.b (ej (cJ c) L))=C at g a;have v:eV i J=some (.str w,J):=by simp[hi]
 have e:c4 [] (eV i) bD (e2 bP (eV 0) (eC (.str L))) J=some (.l C,J):=by unfold c4;rw[v,cD];show aF (some (km w)) _=_;rw[cD,IS,cD,g,cD,if_pos q]
 generalize c4 [] (eV i) bD (e2 bP (eV 0) (eC (.str L)))=F at e;simp[e,a]
abbrev NM:FA:=aC (c4 [] (eV 0) bD (e2 bP (eV 0) (eC (.str cQ)))) aN
theorem Ko(h:aO w):p9 [.str w]=some (.b true):=by
 obtain⟨f,j,d⟩:=h;have O:w.length<=sizeLine:=cv aD;have g:=rY cQ w aD (J:=[.i (.str w)]) (i:=0) rfl;have a:(w.cps.toList.all λ c=>ej (cJ c) cQ)=true:=by rw[jm];intro c e;obtain⟨b,Y⟩:=d c e;rw[z0 c Y];simpa using b
 rw[a]at g;have e1:(1:Int)<=(w.length:Int):=aD;have q:(w.length:Int)<=8:=aD;generalize Z:eF gf NM=GG at g;unfold p9 Ai;rw[Z];simp[O,g,e1,q]
def dg(m:Nat):dr:=(Nat.toDigits 10 m).map Char.toNat
theorem my(h:m<10):dg m=[48+m]:=by unfold dg;rw[Nat.toDigits_of_lt_base h];have:∀d:Nat,d<10->(Nat.digitChar d).toNat=48+d:=aH;rw[zj,Qk,this m h]
theorem sV(h:¬m<10):dg m=dg (m/10)++[48+m%10]:=by have q:m%10<10:=Nat.mod_lt m aH;have t:Nat.toDigits 10 (m/10)++Nat.toDigits 10 (m%10)=Nat.toDigits 10 (10*(m/10)+m%10):=Nat.toDigits_append_toDigits aH aD q;rw[Nat.div_add_mod]at t;have e:=my q;unfold dg at e⊢;rw[<-t,zx,e]
theorem qP(m:Nat):∀c∈dg m,48<=c/\c<=57:=by
 induction m using Nat.strongRecOn with
 |_ m O=>
  intro c q;by_cases h:m<10
  .rw[my h]at q;have:=dt q;lia
  .rw[sV h]at q;rcases qy q with z|z
   .exact O (m/10) aD c z
   .have:=dt z
    lia
theorem v8(m:Nat):dg m≠[]:=by
 by_cases h:m<10
 .rw[my h];simp
 .rw[sV h];simp
theorem Be:∀(k m:Nat),m<10^(k+1)->(dg m).length<=k+1
 |0,m,h=>by rw[my (by simpa using h)];simp
 |k+1,m,h=>by
  by_cases q:m<10
  .rw[my q];simp
  .rw[sV q,zr];have:=Be k (m/10) (by rw[Nat.pow_succ]at h;lia);simp;lia
theorem Ib(m:Nat)(O:m≠0):∃c r,dg m=c::r/\c≠48:=by
 induction m using Nat.strongRecOn with
 |_ m q=>
  by_cases h:m<10
  .exact⟨48+m,[],my h,by lia⟩
  .obtain⟨c,r,e,n⟩:=q (m/10) aD aD;exact⟨c,r++[48+m%10],by rw[sV h,e];rfl,n⟩
def nT(n:Int):Str:=cq (toString n)
theorem sR(m:Nat):(nT (m:Int)).cps.toList=dg m:=PySem.W.KIN.signs_num m
theorem sT(m:Nat)(h:m≠0):(nT (-(m:Int))).cps.toList=45::dg m:=by obtain⟨k,rfl⟩:=Nat.exists_eq_succ_of_ne_zero h;have e:-((k.succ:Nat):Int)=Int.negSucc k:=rfl;unfold nT;rw[e,PyProof.Rows.signs_ofString];show("-"++Nat.repr (k+1)).toList.map Char.toNat=_;rw[String.toList_append,zx,Nat.toList_repr];rfl
theorem fT(w:Str):w.length=w.cps.toList.length:=Array.length_toList.symm
abbrev MI:Str:=gK
theorem cl2:MI=(⟨#[45]⟩:Str):=aW
theorem yA(h:w.cps.toList=c::r):Txt.startswith w MI=decide (c=45):=by
 obtain⟨⟨l⟩⟩:=w;have h:=h;subst h;rw[cl2];show(decide (0+1<=(c::r).length)&&(List.toArray (c::r)).extract 0 (0+1)==#[45])=_;have e:(List.toArray (c::r)).extract 0 (0+1)=#[c]:=aQ;rw[e];by_cases z:c=45
 .subst z;simp
 .simp[z]
theorem Ka(h:w.cps.toList=c::r):Txt.slice w (some 1) none=⟨r.toArray⟩:=by
 have l:w.length=r.length+1:=by rw[fT,h];rfl
 rw[PyProof.Rows.slice_from_eq aH aD rfl,h];have e:((c::r).drop (1:Int).toNat).take ((w.length:Int)-1).toNat=r:=by show r.take _=r;exact je aD
 rw[e]
abbrev u1:FA:=aC (c4 [] (eV 1) bD (e2 bP (eV 0) (eC (.str iN)))) aN
theorem KJ(hm:m<10^12)(h:w.cps.toList=dg m\/(w.cps.toList=45::dg m/\m≠0)):jC [.str w]=some (.b true):=by
 have I:=Be 11 m hm;have K:=List.length_pos_iff.mpr (v8 m);have u:((dg m).all λ c=>ej (cJ c) iN)=true:=by rw[jm];intro c D;obtain⟨y,A⟩:=qP m c D;rw[ve c aD];simp[y,A]
 have Z:(1:Int)<=((dg m).length:Int):=aD;have d:((dg m).length:Int)<=12:=aD;have j:∀(F:Str)(J:En),F.cps.toList=dg m->J[1]?=some (.i (.str F))->eF gf u1 J=some (.b true,J):=λ F J e hi=>by
  have g:=rY iN F (by rw[fT,e];lia) hi;rw[e,u]at g;exact g
 obtain⟨c,r,Y⟩:=jf (v8 m);have ρ:=qP m c (by rw[Y];exact qg);generalize o:eF gf u1=GG at j;rcases h with h|⟨h,C⟩
 .have s:w.length=(dg m).length:=by rw[fT,h]
  have b:w.length<=sizeLine:=cv aD;have st:Txt.startswith w gK=false:=by rw[yA (by rw[h,Y])];simp;lia
  have g:=j w [.i (.str w),.i (.str w)] h rfl;have O:iR w 0=some (.str (cJ c)):=by unfold iR iq;rw[if_pos b,h,if_pos aD,if_pos aD,cD,Y];rfl
  have t:(w=gL)∨¬(cJ c=gL):=by
   by_cases z:m=0
   .subst z;refine .inl (lJ ?_);rw[h,my aH];decide+kernel
   .obtain⟨v,E,a,k⟩:=Ib m z;rw[Y]at a;cases a;refine .inr λ q=>k ?_;have:=y0 (λ x:Str=>x.cps.toList) q;have e0:gL.cps.toList=[48]:=aW;rw[e0]at this;have this:=this;exact(yr this).1
  unfold jC rR;rw[o];rw[<-s]at Z d;by_cases z:w=gL
  .have l:=eq_true z;clear z;simp[st,b,g,Z,d,l]
  .have l:=j7 z;have H:=j7 (t.resolve_left z);clear z;simp[st,b,g,Z,d,O,l,H]
 .have s:w.length=(dg m).length+1:=by rw[fT,h];rfl
  have b:w.length<=sizeLine:=cv aD;have st:Txt.startswith w gK=true:=by rw[yA h];simp
  have p:=Ka h;generalize e:(⟨(dg m).toArray⟩:Str)=f at p;have i:f.cps.toList=dg m:=by rw[<-e]
  have B:f.length=(dg m).length:=by rw[fT,i]
  have n:f.length<=sizeLine:=cv aD;have g:=j f [.i (.str w),.i (.str f)] i rfl;have O:iR f 0=some (.str (cJ c)):=by unfold iR iq;rw[if_pos n,i,if_pos aD,if_pos aD,cD,Y];rfl
  have z:¬(cJ c=gL):=by obtain⟨v,E,a,k⟩:=Ib m C;rw[Y]at a;cases a;intro q;have:=y0 (λ x:Str=>x.cps.toList) q;have e0:gL.cps.toList=[48]:=aW;rw[e0]at this;have this:=this;exact k (yr this).1
  have G:¬(w=gL):=λ q=>by
   have:=y0 (λ x:Str=>x.cps.toList) q;have e0:gL.cps.toList=[48]:=aW;rw[e0,h]at this;cases this
  unfold jC rR;rw[o];rw[<-B]at Z d;simp[st,b,n,p,g,Z,d,O,z,G]
theorem sP(h:n.natAbs<10^12):jC [.str (nT n)]=some (.b true):=by
 rcases(show n<0\/0<=n by lia)with z|z
 .have e:n=-((n.natAbs:Nat):Int):=aD;rw[e];exact KJ h (.inr ⟨sT _ aD,by lia⟩)
 .have e:n=((n.natAbs:Nat):Int):=aD;rw[e];exact KJ h (.inl (sR _))
theorem qN(h:n.natAbs<10^12):(nT n).length<=13:=by
 have q:=Be 11 n.natAbs h;rcases(show n<0\/0<=n by lia)with z|z
 .have e:n=-((n.natAbs:Nat):Int):=aD;rw[fT,e,sT _ aD];simp;lia
 .have e:n=((n.natAbs:Nat):Int):=aD;rw[fT,e,sR];lia
theorem r_4:∀c∈(nT n).cps.toList,c=45\/(48<=c/\c<=57):=by
 intro c O;rcases(show n<0\/0<=n by lia)with z|z
 .have e:n=-((n.natAbs:Nat):Int):=aD;rw[e,sT _ aD]at O;rcases qx O with q|q
  .exact .inl q
  .exact .inr (qP _ c q)
 .have e:n=((n.natAbs:Nat):Int):=aD;rw[e,sR]at O;exact .inr (qP _ c O)
theorem KI(m:Nat):PySem.NumText.digitsVal (dg m)=m:=PySem.W.KIN.val_back m
theorem sU(h:n.natAbs<10^12):PySem.intText? (nT n)=some n:=by
 have l:=qN h;rcases(show n<0\/0<=n by lia)with z|z
 .have e:n=-((n.natAbs:Nat):Int):=aD;have q:=PySem.intText_neg (cs:=dg n.natAbs) (by rw[<-sT _ aD,<-e]) (qP _) (v8 _) aD;rw[q,KI,<-e]
 .have e:n=((n.natAbs:Nat):Int):=aD;have c:(nT n).cps.toList=dg n.natAbs:=by rw[<-sR,<-e]
  have q:=PySem.intText_digits (by rw[c];exact qP _) (by rw[c];exact v8 _) aD;rw[q,c,KI,<-e]
abbrev star:Str:=cq "*"
theorem Jz:¬(nT n=star):=λ q=>by
 have e:star.cps.toList=[42]:=aW;have:=r_4 42 (by rw[q,e];exact qg)
 lia
theorem WE(h:n.natAbs<10^12):kU [.str (nT n)]=some (.int n):=by have a:=sP h;have b:=sU h;have c:=qN h;have d:(nT n).length<=640:=aD;have e:=j7 (Jz (n:=n));simp[kU,xV,a,b,d,e]
theorem QF:kU [.str star]=some .n:=by simp[kU,xV]
theorem GF(h:aO w):jC [.str w]=some (.b false):=by
 obtain⟨a,j,d⟩:=h;have O:w.length<=sizeLine:=cv aD;obtain⟨c,r,q⟩:=jf (l:=w.cps.toList) (λ z=>by rw[fT,z]at a;simp at a);have e:=d c (by rw[q];exact qg);have st:Txt.startswith w gK=false:=by rw[yA q];simp;lia
 have g:=rY iN w aD (J:=[.i (.str w),.i (.str w)]) (i:=1) rfl;have b:(w.cps.toList.all λ c=>ej (cJ c) iN)=false:=by rw[List.all_eq_false];refine⟨c,by rw[q];exact qg,?_⟩;rw[ve c e.2];simp;lia
 rw[b]at g;generalize Y:eF gf u1=GG at g;have Z:(1:Int)<=(w.length:Int):=aD;have f:(w.length:Int)<=12:=aD;unfold jC rR;rw[Y];simp[st,O,g,Z,f]
theorem IK(h:aO w):¬(w=star):=λ q=>by
 have e:star.cps.toList=[42]:=aW;have:=h.2.2 42 (by rw[q,e];exact qg)
 lia
theorem Ar(h:aO w):kU [.str w]=some (.str w):=by have a:=GF h;have e:=j7 (IK h);simp[kU,xV,a,e]
noncomputable abbrev jN:D:=.t [(.str "NAME"),(.str "FROM"),(.str "LEFT"),(.str "RIGHT"),(.str "KEY"),(.str "OTHER")]
noncomputable abbrev BP:D:=.t [(.str "LOW"),(.str "HIGH"),(.str "END")]
abbrev HP:D:=.t [(.str "sum"),(.str "less"),(.str "left"),(.str "right")]
noncomputable abbrev FP:D:=.t [(.str "count"),(.str "sum"),(.str "most"),(.str "least")]
theorem A9(q:bP (.str p) jN=some (.b true))(h:aO w):dM [.str p,.str w]=some (.b true):=by have k:=Ko h;simp[-eT,dM,lR,q,k]
structure cG(p:Str):Prop where
 kp:bP (.str p) jN=some (.b false)
 nh:¬(p=kC)
 nf:¬(p=fZ)
theorem KA(q:cG p)(h:n.natAbs<10^12):dM [.str p,.str (nT n)]=some (.b true):=by have k:=sP h;have a:=q.kp;have b:=j7 q.nh;have c:=j7 q.nf;simp[-eT,dM,lR,a,b,c,k]
theorem Sv:jC [.str star]=some (.b false):=by have st:Txt.startswith star gK=false:=aW;have g:=rY iN star aW (J:=[.i (.str star),.i (.str star)]) (i:=1) rfl;have a:(star.cps.toList.all λ c=>ej (cJ c) iN)=false:=aW;rw[a]at g;generalize O:eF gf u1=GG at g;have q:star.length<=sizeLine:=aW;have Y:(1:Int)<=(star.length:Int):=aW;have Z:(star.length:Int)<=12:=aW;unfold jC rR;rw[O];simp[st,q,g,Y,Z]
theorem cn3(q:cG p)(O:bP (.str p) BP=some (.b true)):dM [.str p,.str star]=some (.b true):=by have a:=q.kp;have b:=j7 q.nh;have c:=j7 q.nf;have k:=Sv;simp[-eT,dM,lR,a,b,c,k,O]
theorem cn4(h:bP (.str w) HP=some (.b true)):dM [.str "HOW",.str w]=some (.b true):=by have a:bP (.str "HOW") jN=some (.b false):=aK;simp[-eT,dM,lR,a,h]
theorem cn5(h:bP (.str w) FP=some (.b true)):dM [.str "FOLD",.str w]=some (.b true):=by have a:bP (.str "FOLD") jN=some (.b false):=aK;have b:=j7 (show ¬(fZ=kC) by decide+kernel);simp[-eT,dM,lR,a,b,h]
theorem wb:cG iJ:=⟨by kernel_rfl,by decide+kernel,by decide+kernel⟩
theorem AE:cG kD:=⟨by kernel_rfl,by decide+kernel,by decide+kernel⟩
theorem Rc:cG (cq "BEGIN"):=⟨by kernel_rfl,by decide+kernel,by decide+kernel⟩
theorem ck1:cG (cq "END"):=⟨by kernel_rfl,by decide+kernel,by decide+kernel⟩
theorem YL:cG (cq "M"):=⟨by kernel_rfl,by decide+kernel,by decide+kernel⟩
theorem YK:cG (cq "R"):=⟨by kernel_rfl,by decide+kernel,by decide+kernel⟩
theorem YO:cG nF:=⟨by kernel_rfl,by decide+kernel,by decide+kernel⟩
theorem YN:cG (cq "B"):=⟨by kernel_rfl,by decide+kernel,by decide+kernel⟩
theorem YM:cG (cq "C"):=⟨by kernel_rfl,by decide+kernel,by decide+kernel⟩
theorem Rb:cG (cq "REACH"):=⟨by kernel_rfl,by decide+kernel,by decide+kernel⟩
theorem IH:cG nG:=⟨by kernel_rfl,by decide+kernel,by decide+kernel⟩
theorem Xp:cG (cq "STEP"):=⟨by kernel_rfl,by decide+kernel,by decide+kernel⟩
theorem ck0:cG (cq "GAP"):=⟨by kernel_rfl,by decide+kernel,by decide+kernel⟩
abbrev cc:ew:=lL
theorem Fy(hk:rM cc (.str wd)=some (.str form))(hl:form.length≤100000)(hs:Txt.split form bR=ws++[l])(hd:¬(l=cq ".."))(ha:¬(wd=bI∧2<n)):ip [.str wd,.int n]=some (.l ((ws++[l]).map .str)):=by
 have la:cw ((ws++[l]).map D.str) (-1)=some (.str l):=by unfold cw iq;rw[if_neg aH,if_pos cR];simp;have:((-1:Int)+(((ws.length:Nat):Int)+1)).toNat=ws.length:=aD;rw[this];simp
 have a:=j7 hd;have bl:bR.length≠0:=aW;have Z:=bl;have O:ey E6 Fc [.i (.str wd),.i (.int n),.z,.z]=some (false,[.i (.str wd),.i (.int n),.z,.z]):=by
  by_cases z:wd=bI
  .have c:¬(2<n):=λ q=>ha ⟨z,q⟩;have Y:=eq_true z;clear z;simp[Y,c]
  .have Y:=j7 z;simp[Y]
 generalize b:ey E6 Fc=CC at O;unfold ip Fj;rw[b];generalize hw:(ws++[l]).map D.str=LL at*;simp[O,hk,hl,hs,bl,hw,la,a,lx,jk,FV]
theorem wQ:¬(bR.length=0):=aW
theorem d3(a b:D):cw [a,b] 0=some a:=rfl
theorem jF(a b:D):cw [a,b] 1=some b:=rfl
noncomputable abbrev FR:D:=.t [(.str "FROM"),(.str "LEFT"),(.str "RIGHT")]
inductive fP:Str->Str->D->Prop
 |num {p:Str}{n:Int} (hp:cG p) (hf:bP (.str p) FR=some (.b false)) (h:n.natAbs<10^12):fP p (nT n) (.int n)
 |star {p:Str} (hp:cG p) (hf:bP (.str p) FR=some (.b false)) (h:bP (.str p) BP=some (.b true)):fP p star .n
 |key {p s:Str} (hp:bP (.str p) jN=some (.b true)) (hf:bP (.str p) FR=some (.b false)) (h:aO s):fP p s (.str s)
 |how {s:Str} (h:bP (.str s) HP=some (.b true)) (k:aO s):fP kC s (.str s)
 |fold {s:Str} (h:bP (.str s) FP=some (.b true)) (k:aO s):fP fZ s (.str s)
theorem nj(k:aO s):32∉s.cps.toList/\10∉s.cps.toList/\s.length<=13:=
 ⟨λ h=>by have:=k.2.2 _ h;lia,λ h=>by have:=k.2.2 _ h;lia,by have:=k.2.1;lia⟩
structure sL(p x:Str)(v:D):Prop where
 fits:dM [.str p,.str x]=some (.b true)
 fr:bP (.str p) FR=some (.b false)
 val:kU [.str x]=some v
 free:32∉x.cps.toList/\10∉x.cps.toList/\x.length<=13
 shw:∀(R:D)(L:aG),L.length+1<1000->jA [.i R,.o false (.l L),.i v]=some (.nx [.i R,.o false (.l (L++[.str x])),.i v])
theorem vV(x:Str)(R:D)(L:aG)(hl:L.length+1<1000):jA [.i R,.o false (.l L),.i (.str x)]=some (.nx [.i R,.o false (.l (L++[.str x])),.i (.str x)]):=by simp[d3];lia
theorem qF(h:fP p x v):sL p x v:=by
 cases h with
 |@num p n Y O h=>
  refine⟨KA Y h,O,WE h,⟨λ q=>?_,λ q=>?_,qN h⟩,λ R L hl=>?_⟩
  .have:=r_4 _ q;lia
  .have:=r_4 _ q;lia
  .have z:n.natAbs<10^100:=Y2 h aH;have e:cq n.repr=nT n:=rfl;simp[z,e,d3];lia
 |star Y O h=>
  refine⟨cn3 Y h,O,QF,⟨by decide+kernel,by decide+kernel,by decide+kernel⟩,λ R L hl=>?_⟩;simp[jF];lia
 |key Y O k=>exact⟨A9 Y k,O,Ar k,nj k,vV _⟩
 |how h k=>exact⟨cn4 h,by kernel_rfl,Ar k,nj k,vV _⟩
 |fold h k=>exact⟨cn5 h,by kernel_rfl,Ar k,nj k,vV _⟩
theorem Ht(a b:Str)(R:D)(L:aG)(hl:L.length+2<1000):jA [.i R,.o false (.l L),.i (.t [.str a,.str b])]=some (.nx [.i R,.o false (.l (L++[.str a,.str b])),.i (.t [.str a,.str b])]):=by simp[hl]
def vI(v:D)(xs:aP):Prop:=∀(R:D)(L:aG),L.length+xs.length<1000->jA [.i R,.o false (.l L),.i v]=some (.nx [.i R,.o false (.l (L++xs.map .str)),.i v])
theorem Kb(R:D):∀(Z:List (D×List Str))(L:aG)(Y:Sl),(∀q∈Z,vI q.1 q.2)->L.length+(Z.flatMap (·.2)).length<1000->∃O,dh (gN 2) jA (Z.map (·.1)) [.i R,.o false (.l L),Y]=some (.nx [.i R,.o false (.l (L++(Z.flatMap (·.2)).map .str)),O])
 |[],L,Y,_,_=>⟨Y,by rw[Qk,wX];simp⟩
 |(v,xs)::r,L,Y,h,hl=>by
  rw[Y4,zr]at hl;obtain⟨O,e⟩:=Kb R r (L++xs.map .str) (.i v) (λ q b=>h q (qh _ b)) (by simp at hl⊢;lia);refine⟨O,?_⟩;have g:gN 2 v [.i R,.o false (.l L),Y]=some [.i R,.o false (.l L),.i v]:=aQ;have a:=h _ qg R L (by simp at hl⊢;lia);rw[zj,iQ,g,oZ,a,mV,e];simp
theorem zX:∀ss:aP,mZ (ss.map D.str)=some ss
 |[]=>rfl
 |s::r=>by rw[zj,AK,zX r,cD]
theorem uL(q:Str)(ss:aP)(h:(ss.map (·.length)).sum+ss.length*q.length<=1000000):o3 q (ss.map D.str)=some (.str (Str.join q ss)):=by unfold o3;rw[zX,cD,if_pos h]
abbrev eX(w nm:Str)(froms:aP)(rest:aG):D:=.t [.str w,.str nm,.t (froms.map .str),.t rest]
theorem Eh{O:List (D×List Str)}(hq:∀q∈O,vI q.1 q.2)(hw:ws=[w,nm]++froms++O.flatMap (·.2))(hl:ws.length<1000)(Z:∀s∈ws,s.length<=13):gj [eX w nm froms (O.map (·.1))]=some (.str (Str.join bR ws)):=by
 have e0:D.str w::D.str nm::froms.map D.str=([w,nm]++froms).map D.str:=aQ;obtain⟨k,e⟩:=Kb (eX w nm froms (O.map (·.1))) O (([w,nm]++froms).map .str) .z hq (by rw[hw]at hl;simp at hl⊢;lia);rw[<-zx,<-hw]at e;have i:∀l:aP,(∀s∈l,s.length<=13)->(l.map (·.length)).sum<=13*l.length:=λ l=>by
  induction l with
  |nil=>intro _;simp
  |cons a r c=>
   intro h;have:=c λ s Z=>h s (qh _ Z);have:=h a qg;simp;lia
 have j:=uL bR ws (by
  have:=i ws Z;have:bR.length=1:=aW;rw[this];lia)
 have m:froms.length+2<1000:=by rw[hw]at hl;simp at hl;lia
 have b:2+(froms.map D.str).length<=sizeLine:=cv cR;generalize Y:eX w nm froms (O.map (·.1))=R at*;have d:bA R (.int 0)=some (.str w):=by rw[<-Y];rfl
 have f:bA R (.int 1)=some (.str nm):=by rw[<-Y];rfl
 have g:bA R (.int 2)=some (.t (froms.map .str)):=by rw[<-Y];rfl
 have r3:bA R (.int 3)=some (.t (O.map (·.1))):=by rw[<-Y];rfl
 generalize ws.map D.str=W,hC:([w,nm]++froms).map D.str=C,O.map (·.1)=Q,froms.map D.str=FF at*;clear Y;simp[gj,x8,d,f,g,r3,e0,e,j,b]
theorem Ah(A B:aG):eg (A++B) (some (A.length:Int)) none=B:=by unfold eg;rw[rb,zr,Nat.min_eq_left (Nat.le_add_right ..),List.drop_left];exact je (Y3 (Nat.add_sub_cancel_left ..).symm)
theorem mR(a:D)(r:aG):cw (a::r) 0=some a:=by unfold cw iq;rw[if_pos aH,if_pos aQ];rfl
theorem Cz(a b:D)(r:aG):cw (a::b::r) 1=some b:=by unfold cw iq;rw[if_pos aH,if_pos cR];rfl
theorem A4(h:dF T F [] zs=some ys)(hi:J[i]?=some (.i (.l zs)))(hl:zs.length<=1000):eU [] (eV i) T F J=some (.l ys,J):=by
 have v:eV i J=some (.l zs,J):=by simp[hi]
 unfold eU;rw[v,cD];show aF (some zs) _=_;rw[cD,IS,cD,h,cD,if_pos (cv hl)]
noncomputable abbrev _root_.pX:=List (Str×Str)
abbrev gG(P:pX):aG:=P.map λ p=>.t [.str p.1,.str p.2]
theorem BR:∀P:pX,d5 (P.map λ p=>.str p.1) (P.map λ p=>.str p.2)=gG P
 |[]=>rfl
 |p::r=>by
  have:=BR r;unfold d5 at this⊢;rw[zj,zj,Qq,zj,this];rfl
theorem HV:∀P:pX,(∀p∈P,dM [.str p.1,.str p.2]=some (.b true))->dF bD (eF dM (aC (eV 0) c5)) [] (gG P)=some (P.map λ _=>.b true)
 |[],_=>rfl
 |(a,b)::r,h=>by
  have c:=h _ qg;have e:eF dM (aC (eV 0) c5) [.i (.str a),.i (.str b)]=some (.b true,[.i (.str a),.i (.str b)]):=by simp[c]
  rw[gG,zj,uD];show aF (some (D.str a,D.str b)) _=_;rw[cD];show aF (some (true,_)) _=_;rw[cD,if_pos rfl,e,cD,HV r λ p q=>h p (ja _ q),cD];rfl
theorem I8(P:List α):gf [.l (P.map λ _=>.b true)]=some (.b true):=by
 have e:lh (P.map λ _=>D.b true)=some (P.map λ _=>true):=by
  induction P with
  |nil=>rfl
  |cons p r q=>rw[zj,A0,q,o5];rfl
 rw[Cw,e,Bl];simp
abbrev EI:FT:=tB (e2 bP (eV 0) (eC FR))
theorem vf{b:Bool}:∀P R:List (Str×Str),(∀p∈P,bP (.str p.1) FR=some (.b b))->dF (tB (e2 bP (eV 0) (eC FR))) (eV 1) [] (gG (P++R))=aF (dF (tB (e2 bP (eV 0) (eC FR))) (eV 1) [] (gG R)) λ t=>some ((if b=true then P.map (λ p=>.str p.2)else[])++t)
 |[],R,_=>by
  rw[List.nil_append];cases dF (tB (e2 bP (eV 0) (eC FR))) (eV 1) [] (gG R)with
  |none=>rfl
  |some t=>rw[cD];cases b<;>rfl
 |(x,y)::r,R,h=>by
  have a:=h _ qg;have e:tB (e2 bP (eV 0) (eC FR)) [.i (.str x),.i (.str y)]=some (b,[.i (.str x),.i (.str y)]):=by simp[-eT,a]
  rw[List.cons_append,gG,zj,uD];show aF (some (D.str x,D.str y)) _=_;rw[cD,e,cD,vf r R λ p q=>h p (ja _ q)];cases b with
  |false=>exact if_neg (show ¬(false=true) by decide)
  |true=>
   rw[if_pos rfl];show aF (some (D.str y,_)) _=_;rw[cD];cases dF (tB (e2 bP (eV 0) (eC FR))) (eV 1) [] (gG R)with
   |none=>rfl
   |some t=>rfl
theorem J7:∀ts:List (Str×Str×D),(∀t∈ts,fP t.1 t.2.1 t.2.2)->du bD (eF kU eJ) [] (ts.map λ t=>.str t.2.1)=some (ts.map (·.2.2))
 |[],_=>rfl
 |(p,x,v)::r,h=>by
  have a:=(qF (h _ qg)).val;have e:eF kU eJ [.i (.str x)]=some (v,[.i (.str x)]):=by simp[a]
  rw[zj,vP];show ud _ _ _ _ (some (true,_))=_;rw[vR,e,vQ,J7 r λ t q=>h t (ja _ q),o5];rfl
theorem KD:∀xs:List α,(cF xs).length<=xs.length
 |[]=>qj _
 |[_]=>qj _
 |_::_::r=>by
  have:=KD r;unfold cF;simp;lia
abbrev dE(nm:Str)(fts:pX)(ts:List (Str×Str×D)):pX:=(bW,nm)::(fts++ts.map λ t=>(t.1,t.2.1))
theorem AN(ss:aP)(h:∀s∈ss,s.length<=m):(Str.join ⟨#[c]⟩ ss).length<=(m+1)*ss.length:=by
 induction ss with
 |nil=>exact qr rfl
 |cons a r Y=>
  have d:=h a qg;have f:=Y λ s O=>h s (qh _ O);rw[zt,Nat.mul_succ];cases r with
  |nil=>show a.length<=_;lia
  |cons b q=>
   have e:(Str.join ⟨#[c]⟩ (a::b::q)).length=a.length+1+(Str.join ⟨#[c]⟩ (b::q)).length:=by rw[fT,fT a,fT (Str.join ⟨#[c]⟩ (b::q)),rW];simp;lia
   rw[e];lia
theorem p_(ss:aP)(h:∀s∈ss,s.length<=13):(Str.join bR ss).length<=14*ss.length:=by rw[Bh];exact AN ss h
theorem Z_(hw:bE w cc=some (.str form))(kw:w.length<=13/\32∉w.cps.toList)(kn:aO nm)(hf:∀p∈fts,bP (.str p.1) FR=some (.b true)/\bP (.str p.1) jN=some (.b true)/\aO p.2)(ht:∀t∈ts,fP t.1 t.2.1 t.2.2)(hn:(dE nm fts ts).length<=20)(O:ip [.str w,.int ((dE nm fts ts).length:Int)]=some (.l ((dE nm fts ts).map λ p=>.str p.1)))(hb:dC [.str w,.t ((fts.map (·.2)).map .str),.t (ts.map (·.2.2))]=some (.b b))(Y:(w=c1∧rest=d5 (cF (ts.map (·.2.2))) (cF ((ts.map (·.2.2)).drop 1)))∨(¬(w=c1)∧rest=ts.map (·.2.2))):fH [.str (Str.join bR (w::(dE nm fts ts).map (·.2)))]=some (if b=true then eX w nm (fts.map (·.2)) rest else .n):=by
 have k:∀p∈dE nm fts ts,dM [.str p.1,.str p.2]=some (.b true)/\32∉p.2.cps.toList/\p.2.length<=13:=λ p O=>by
  rcases qx O with q|q
  .subst q;exact⟨A9 aK kn,(nj kn).1,(nj kn).2.2⟩
  .rcases qy q with q|q
   .exact⟨A9 (hf p q).2.1 (hf p q).2.2,(nj (hf p q).2.2).1,(nj (hf p q).2.2).2.2⟩
   .obtain⟨t,g,rfl⟩:=dI.mp q;exact⟨(qF (ht t g)).fits,(qF (ht t g)).free.1,(qF (ht t g)).free.2.2⟩
 have Z:∀s∈w::(dE nm fts ts).map (·.2),32∉s.cps.toList/\s.length<=13:=λ s h=>by
  rcases qx h with q|q
  .subst q;exact⟨kw.2,kw.1⟩
  .obtain⟨p,g,rfl⟩:=dI.mp q;exact(k p g).2
 have sp:=yC aQ λ s h=>(Z s h).1;have r:(Txt.split (Str.join bR (w::(dE nm fts ts).map (·.2))) bR).map D.str=(w::(dE nm fts ts).map (·.2)).map D.str:=by rw[sp]
 have n:=p_ (w::(dE nm fts ts).map (·.2)) λ s h=>(Z s h).2;generalize T:Str.join bR (w::(dE nm fts ts).map (·.2))=ρ at r n⊢;have E:ρ.length<=100000:=by simp at n hn;omega
 have U:(fts.map (·.2)).length=fts.length:=aQ;have i:=Ah (.str w::.str nm::(fts.map (·.2)).map .str) (ts.map λ t=>.str t.2.1);have P:=BR (dE nm fts ts);have f1:=HV (dE nm fts ts) λ p O=>(k p O).1;have y:=I8 (dE nm fts ts);have z:dF EI (eV 1) [] (gG (dE nm fts ts))=some ((fts.map (·.2)).map .str):=by
  have e1:=vf (b:=false) [(bW,nm)] (fts++ts.map λ t=>(t.1,t.2.1)) (by intro p O;rw[dt O];kernel_rfl);have e2:=vf fts (ts.map λ t=>(t.1,t.2.1)) λ p O=>(hf p O).1;have e3:=vf (ts.map λ t=>(t.1,t.2.1)) [] (by intro p O;obtain⟨t,g,rfl⟩:=dI.mp O;exact(qF (ht t g)).fr);rw[yb]at e3;rw[e3]at e2;rw[e2]at e1;rw[List.singleton_append]at e1;rw[e1];show some _=some _;simp
 have A:=J7 ts ht;have R:cw ((w::(dE nm fts ts).map (·.2)).map .str) 1=some (.str nm):=Cz _ _ _;have C:cw ((w::(dE nm fts ts).map (·.2)).map .str) 0=some (.str w):=mR _ _;have L:(w::(dE nm fts ts).map (·.2)).map D.str=[.str w]++(dE nm fts ts).map λ p=>.str p.2:=by simp[Qz]
 have M:(w::(dE nm fts ts).map (·.2)).map D.str=(.str w::.str nm::(fts.map (·.2)).map .str)++ts.map λ t=>.str t.2.1:=by simp[Qz]
 have H:((w::(dE nm fts ts).map (·.2)).map D.str).length=(dE nm fts ts).length+1:=aQ;have I:((dE nm fts ts).map λ p=>D.str p.1).length=(dE nm fts ts).length:=aQ;have lt:(gG (dE nm fts ts)).length<=1000:=by simp at hn⊢;omega
 have F:(ts.map λ t=>D.str t.2.1).length<=sizeLine:=cv (by simp at hn⊢;omega);have x:eg ((w::(dE nm fts ts).map (·.2)).map D.str) (some 1) none=(dE nm fts ts).map λ p=>.str p.2:=by rw[L];exact Ah [.str w] _
 rw[<-M]at i;have lf:((D.str w::D.str nm::(fts.map (·.2)).map .str).length:Int)=2+(fts.length:Int):=cR;rw[lf]at i;have lz:=cv aD;have X:=cv aD;have V:=cv (by simp at hn;omega);have K:(dE nm fts ts).length<=1000:=aD;have G:((fts.map (·.2)).map D.str).length=fts.length:=aQ;have bl:=wQ;have le:(cF (ts.map (·.2.2))).length<=1000:=by have:=KD (ts.map (·.2.2));simp at hn this;omega
 have l:∀a b c d e f:Sl,eU [] (eV 4) bD (eF dM (aC (eV 0) c5)) [a,b,c,d,.i (.l (gG (dE nm fts ts))),e,f]=some (.l ((dE nm fts ts).map λ _=>.b true),[a,b,c,d,.i (.l (gG (dE nm fts ts))),e,f]):=λ _ _ _ _ _ _=>A4 f1 rfl lt;have m:∀a b c d e f:Sl,eU [] (eV 4) EI (eV 1) [a,b,c,d,.i (.l (gG (dE nm fts ts))),e,f]=some (.l ((fts.map (·.2)).map .str),[a,b,c,d,.i (.l (gG (dE nm fts ts))),e,f]):=λ _ _ _ _ _ _=>A4 z rfl lt;have o:l4 cc (.str w)=some (.b false):=by rw[AY,hw];rfl
 clear f1 z k Z hf ht L M hn n lf lt hw kn kw sp;generalize u:eU [] (eV 4) bD (eF dM (aC (eV 0) c5))=G1 at l;generalize v:eU [] (eV 4) EI (eV 1)=G2 at m;generalize B:l4 cc=KK at o;generalize (w::(dE nm fts ts).map (·.2)).map D.str=W,af:(dE nm fts ts).length=N,aj:((dE nm fts ts).map λ p=>D.str p.1)=P1,ai:((dE nm fts ts).map λ p=>D.str p.2)=P2,hB:((dE nm fts ts).map λ _=>D.b true)=BB,hT:gG (dE nm fts ts)=TL,ae:(fts.map (·.2)).map D.str=FF,ag:ts.map (·.2.2)=VV,ah:(ts.map λ t=>D.str t.2.1)=XX at*;cases b with
 |false=>
  unfold fH uE;rw[u,v,B];clear Y;simp[bl,E,r,C,o,H,O,x,i,P,I,l,y,m,G,A,F,hb,K]
 |true=>
  have σ:bG E7 ES sN [.i (.str ρ),.i (.l W),.i (.str w),.i (.l P1),.i (.l TL),.i (.t FF),.i (.t VV)]=some (.nx [.i (.str ρ),.i (.l W),.i (.str w),.i (.l P1),.i (.l TL),.i (.t FF),.i (.t rest)]):=by
   rcases Y with⟨e,Y⟩|⟨e,Y⟩
   .subst Y;have j:=eq_true e;clear e;simp[le,j]
   .subst Y;have j:=j7 e;clear e;simp[j]
  generalize Q:bG E7 ES sN=SS at σ;unfold fH uE;rw[u,v,B,Q];clear Y;simp[bl,E,r,C,R,o,H,O,x,i,P,I,l,y,m,G,A,F,hb,K,σ,ae]
theorem GR:∀(xs O:aP),(O++xs).Nodup->g_ O xs=O++xs
 |[],O,_=>by simp[g_]
 |x::r,O,h=>by
  have h':((O++[x])++r).Nodup:=by simpa using h
  have a:¬(x∈O):=by
   have:=List.nodup_append.mp h;exact λ q=>this.2.2 x q x qg rfl
  have e:kI O x=O++[x]:=by
   first|exact if_neg a|simp[a]
  have:=GR r (O++[x]) h';unfold g_ at this⊢;rw[List.foldl_cons,e,this];simp
theorem EA(O:c≠32):∀ss:aP,(∀s∈ss,c∉s.cps.toList)->c∉(Str.join bR ss).cps.toList
 |[],_=>by rw[show(Str.join bR []).cps.toList=[] by decide+kernel];simp
 |[x],h=>h x qg
 |x::y::r,h=>by
  have Y:=EA O (y::r) λ s a=>h s (qh _ a);have Z:=h x qg;rw[Bh]at Y⊢;rw[rW];intro q;rcases qy q with q|q
  .exact Z q
  .rcases qx q with q|q
   .exact O q
   .exact Y q
def Pl(m:Nat)(d:D):Prop:=nl d=true/\nd d=true/\c7 d<=m
structure Rd(w nm:Str)(froms:aP)(rest:aG):Prop where
 txt:∃t:Str,gj [eX w nm froms rest]=some (.str t)/\fH [.str t]=some (eX w nm froms rest)/\10∉t.cps.toList/\t.length<=400
 pl:∀d∈rest,Pl 1 d
theorem AV:∀{xs:aG},d∈cF xs->d∈xs
 |[],h=>h
 |[_],h=>h
 |a::_::r,h=>by
  rcases qx h with q|q
  .rw[q];exact qg
  .exact qh _ (qh _ (AV q))
theorem Vo(Y:∀d∈xs,Pl 0 d)(hy:∀d∈ys,Pl 0 d):∀d∈d5 xs ys,Pl 1 d:=λ d hd=>by
 obtain⟨⟨a,b⟩,c,rfl⟩:=dI.mp hd;have m:=Zl c;obtain⟨q,p2,e⟩:=Y a m.1;obtain⟨O,f,Z⟩:=hy b m.2;show(nl a&&(nl b&&true))=true/\(nd a&&(nd b&&true))=true/\max (c7 a) (max (c7 b) 0)+1<=1;rw[q,p2,O,f];exact⟨rfl,rfl,Z5 (Nat.max_le.mpr ⟨e,Nat.max_le.mpr ⟨Z,qj _⟩⟩)⟩
abbrev sS(x:String):Str:=cq x
theorem bC(h:T J=some (false,J))(k:cP (R J)=d):cP (aL (bG T A sN) R J)=d:=by simp[h,k]
theorem dX(h:T J=some (true,J))(k:E J=some (d,ρ')):cP (aL (bG T (bJ E) sN) R J)=some d:=by simp[h,k]
theorem pZ(a b c:D):dC [a,b,c]=cP (MP [.i a,.i b,.i c]):=aK
theorem cy6(w:Str)(hw:w=cH∨w=e_∨w=bI)(F:aG)(x:D):dC [.str w,.t F,.t [.n,x]]=some (.b true):=by rcases hw with rfl|rfl|rfl<;>kernel_rfl
theorem cy5(w:Str)(hw:w=cH∨w=e_∨w=bI)(F:aG)(a:Int):dC [.str w,.t F,.t [.int a,.n]]=some (.b true):=by rcases hw with rfl|rfl|rfl<;>kernel_rfl
theorem UB(F:aG):dC [.str bI,.t F,.t []]=some (.b true):=aK
theorem X0(b:Bool):iS (.b b)=some b:=rfl
theorem UA(F:aG)(x:D):dC [.str h6,.t F,.t [x]]=some (.b true):=aK
def BV(v:D):Prop:=v=.n\/∃n:Int,v=.int n/\n.natAbs<10^12
theorem cm2(O:cG p)(q:bP (.str p) FR=some (.b false))(Y:bP (.str p) BP=some (.b true))(h:BV v):∃x,fP p x v:=by
 rcases h with rfl|⟨n,rfl,hn⟩
 .exact⟨_,.star O q Y⟩
 .exact⟨_,.num O q hn⟩
def qX(l h:D):Prop:=BV l/\BV h/\(l=.n\/h=.n\/∃a b:Int,l=.int a/\h=.int b/\a<=b)
def W0(s:Str):Prop:=s.length<=13/\∀c∈s.cps.toList,33<=c/\c<123
def eA(w nm:Str)(fs:aP)(rest:aG):Prop:=∃ws:aP,gj [eX w nm fs rest]=some (.str (Str.join bR ws))/\ws≠[]/\ws.length<=18/\∀s∈ws,W0 s
theorem nv(k:aO s):W0 s:=⟨by have:=k.2.1;lia,λ c q=>by have:=k.2.2 c q;lia⟩
def Wv(k:Nat)(d:D):Prop:=∃xs:aP,vI d xs/\xs.length<=k/\∀s∈xs,W0 s
theorem YA(h:fP p x d):Wv 1 d:=by
 refine⟨[x],(qF h).shw,qj _,λ s Z=>?_⟩;rw[dt Z];cases h with
 |num Y O h=>exact⟨qN h,λ c q=>by have:=r_4 _ q;lia⟩
 |star Y O h=>exact⟨by decide+kernel,by decide+kernel⟩
 |key _ _ k=>exact nv k
 |how _ k=>exact nv k
 |fold _ k=>exact nv k
theorem oa(h:BV v):Wv 1 v:=by obtain⟨x,q⟩:=cm2 wb aK aK h;exact YA q
theorem lu(h:n.natAbs<10^12):Wv 1 (.int n):=oa (.inr ⟨n,rfl,h⟩)
theorem rA(k:aO s):Wv 1 (.str s):=⟨[s],vV s,qj _,λ x q=>by rw[dt q];exact nv k⟩
theorem X_(Z:aO a)(Y:aO b):Wv 2 (.t [.str a,.str b]):=⟨[a,b],Ht a b,qj _,λ x O=>by
 rcases qx O with q|q
 .rw[q];exact nv Z
 .rw[dt q];exact nv Y⟩
theorem JZ:∀{rest:aG},(∀d∈rest,Wv k d)->∃O:List (D×List Str),rest=O.map (·.1)/\(∀q∈O,vI q.1 q.2)/\(O.flatMap (·.2)).length<=k*rest.length/\∀s∈O.flatMap (·.2),W0 s
 |[],_=>⟨[],rfl,λ q Z=>(by cases Z),yg _,λ s Y=>(by cases Y)⟩
 |d::r,h=>by
  obtain⟨O,e,c,i,f⟩:=JZ λ d hd=>h d (qh _ hd);obtain⟨xs,a,g,b⟩:=h d qg;refine⟨(d,xs)::O,by rw[e];rfl,λ q Z=>?_,?_,λ s Y=>?_⟩
  .rcases qx Z with z|z
   .rw[z];exact a
   .exact c q z
  .rw[Y4,zr,zt,Nat.mul_succ];have:(d,xs).2.length=xs.length:=rfl;lia
  .rw[Y4]at Y;rcases qy Y with z|z
   .exact b s z
   .exact f s z
theorem iO(k:Nat)(kw:aO w)(kn:aO nm)(kf:∀f∈fs,aO f)(Z:∀d∈rest,Wv k d)(hl:2+fs.length+k*rest.length<=18):eA w nm fs rest:=by
 obtain⟨O,e,a,c,b⟩:=JZ Z;have g:([w,nm]++fs++O.flatMap (·.2)).length=2+fs.length+(O.flatMap (·.2)).length:=cR;have Y:∀s∈[w,nm]++fs++O.flatMap (·.2),W0 s:=λ s q=>by
  rcases qy q with z|z
  .rcases qy z with z|z
   .rcases qx z with z|z
    .rw[z];exact nv kw
    .rw[dt z];exact nv kn
   .exact nv (kf s z)
  .exact b s z
 have wd:=Eh a rfl aD λ s q=>(Y s q).1;rw[<-e]at wd;exact⟨_,wd,by simp,by lia,Y⟩
theorem BO{P:D->Prop}(h:P a):∀d∈[a],P d:=λ t q=>by rw[dt q];exact h
theorem mf{P:D->Prop}(h:P a)(k:P b):∀d∈[a,b],P d:=λ t O=>by
 rcases qx O with q|q
 .rw[q];exact h
 .exact BO k t q
theorem ky(k:aO f):∀x∈[f],aO x:=λ x q=>by rw[dt q];exact k
theorem c_4(h:(1<=s.length&&decide (s.length<=8)&&s.cps.toList.all λ c=>decide (97<=c)&&decide (c<123))=true):aO s:=by simp only[zm,zh,jm]at h;exact⟨h.1.1,h.1.2,h.2⟩
theorem cw1(kn:aO nm)(t:qX l h):eA cH nm [] [l,h]:=iO 1 (c_4 aW) kn (λ f q=>by cases q) (mf (oa t.1) (oa t.2.1)) (qr rfl)
theorem WV(kn:aO nm)(q:aO f)(t:qX l h):eA e_ nm [f] [l,h]:=iO 1 (c_4 aW) kn (ky q) (mf (oa t.1) (oa t.2.1)) (qr rfl)
theorem Jy(kn:aO nm)(O:aO f)(h:0≤a)(Z:a.natAbs<10^12)(q:BV x)(Y:x=.n∨∃b,x=.int b∧a<b):eA fC nm [f] [.int a,x]:=iO 1 (c_4 aW) kn (ky O) (mf (lu aD) (oa q)) (qr rfl)
theorem WX(kn:aO nm)(q:aO f)(h1:2≤a)(h2:a≤1000)(Y:0≤b)(O:b<a):eA fb nm [f] [.int a,.int b]:=iO 1 (c_4 aW) kn (ky q) (mf (lu aD) (lu aD)) (qr rfl)
theorem Jx(kn:aO nm)(q:aO f)(h1:-1000≤a)(h2:a≤1000)(Y:¬(a=0))(O:b.natAbs<10^12):eA fe nm [f] [.int a,.int b]:=iO 1 (c_4 aW) kn (ky q) (mf (lu aD) (lu aD)) (qr rfl)
theorem QU(kn:aO nm)(q:aO f)(h:0≤a)(O:a.natAbs<10^12):eA fD nm [f] [.int a]:=iO 1 (c_4 aW) kn (ky q) (BO (lu aD)) (qr rfl)
theorem QV(kn:aO nm)(q:aO f)(h:1≤a)(O:a.natAbs<10^12)(hw:bP (.str w) FP=some (.b true))(kw:aO w):eA hZ nm [f] [.int a,.str w]:=iO 1 (c_4 aW) kn (ky q) (mf (lu aD) (rA kw)) (qr rfl)
theorem W3(kn:aO nm)(q:aO f)(h:1≤a)(O:a.natAbs<10^12)(hw:bP (.str w) FP=some (.b true))(kw:aO w):eA dR nm [f] [.int a,.str w]:=iO 1 (c_4 aW) kn (ky q) (mf (lu aD) (rA kw)) (qr rfl)
theorem QT(kn:aO nm)(O:aO f)(h1:1≤b)(h2:b<a)(Z:a≤20*b)(Y:a.natAbs<10^12)(hw:bP (.str w) FP=some (.b true))(kw:aO w):eA fY nm [f] [.int a,.int b,.str w]:=iO 1 (c_4 aW) kn (ky O) (λ d hd=>by
  rcases qx hd with q|q
  .rw[q];exact lu aD
  .exact mf (lu aD) (rA kw) d q) (qr rfl)
theorem W8(kn:aO nm)(q:aO f)(hw:bP (.str w) FP=some (.b true))(kw:aO w):eA h6 nm [f] [.str w]:=iO 1 (c_4 aW) kn (ky q) (BO (rA kw)) (qr rfl)
theorem Xa(kn:aO nm)(q:aO f):eA bI nm [f] []:=iO 1 (c_4 aW) kn (ky q) (λ d hd=>by cases hd) (qr rfl)
theorem W_(kn:aO nm)(q:aO f)(t:qX l h):eA bI nm [f] [l,h]:=iO 1 (c_4 aW) kn (ky q) (mf (oa t.1) (oa t.2.1)) (qr rfl)
theorem WZ(kn:aO nm)(kf:aO f)(Z:aO g)(h:0≤a)(O:a.natAbs<10^12)(hw:bP (.str w) HP=some (.b true))(kw:aO w):eA bL nm [f,g] [.int a,.str w]:=iO 1 (c_4 aW) kn (λ x Y=>by
 rcases qx Y with q|q
 .rw[q];exact kf
 .rw[dt q];exact Z) (mf (lu O) (rA kw)) (qr rfl)
theorem W2(hw:w=gH∨w=gJ)(kn:aO nm)(O:aO f)(q:∀k∈k0::ks,aO k)(hl:ks.length≤7)(hd:(k0::ks).Nodup):eA w nm [f] ((k0::ks).map .str):=by
 refine iO 1 ?_ kn (ky O) (λ d hd=>?_) cR
 .rcases hw with rfl|rfl<;>exact c_4 aW
 .obtain⟨k,a,rfl⟩:=dI.mp hd;exact rA (q k a)
theorem WY(kn:aO nm)(q:∀k∈a::b::fs,aO k)(hl:fs.length≤6)(hd:(a::b::fs).Nodup):eA bH nm (a::b::fs) []:=iO 1 (c_4 aW) kn q (λ d hd=>by cases hd) cR
theorem ci6(kn:aO nm)(O:aO f)(q:∀p∈(a,b)::ps,aO p.1∧aO p.2)(hl:ps.length≤3)(hd:(((a,b)::ps).map (·.1)).Nodup):eA c1 nm [f] (((a,b)::ps).map λ p=>.t [.str p.1,.str p.2]):=by refine iO 2 (c_4 aW) kn (ky O) (λ d hd=>?_) cR;obtain⟨p,c,rfl⟩:=dI.mp hd;exact X_ (q p c).1 (q p c).2
theorem fx{a b:Int}(h:0<b):a.fmod b=a%b:=Int.fmod_eq_emod_of_nonneg a aD
theorem x9{a b:Int}(h:0<b):a.fdiv b=a/b:=Int.fdiv_eq_ediv_of_nonneg a aD
theorem yM(P:Nat->En->Prop):∀(n k:Nat)(J:En),(∀(i:Nat)J,k<=i->i<k+n->P i J->∃Y O,g (.int i) J=some Y/\B Y=some (.nx O)/\P (i+1) O)->P k J->∃ρ',dh g B (dz k n) J=some (.nx ρ')/\P (k+n) ρ'
 |0,k,J,_,p=>⟨J,rfl,p⟩
 |n+1,k,J,h,p=>by
  obtain⟨Y,O,c,d,p2⟩:=h k J (qj _) aD p;obtain⟨ρ',e,Z⟩:=yM P n (k+1) O (λ i J a b q=>h i J aD aD q) p2;refine⟨ρ',?_,by rw[show k+(n+1)=k+1+n by lia];exact Z⟩;rw[show dz (k:Int) (n+1)=.int k::dz ((k:Int)+1) n from rfl,iQ,c,oZ,d,mV];exact e
theorem HN(xs:eB)(h:i<xs.length):cw (xs.map D.int) i=some (.int xs[i]):=by unfold cw iq;rw[qz,if_pos aD,if_pos aD];show(xs.map D.int)[((i:Int)).toNat]?=_;rw[show((i:Int)).toNat=i by lia,yt,yq h];rfl
def qM(xs:eB):Prop:=∀x∈xs,0<=x/\x<64
noncomputable def m6(c:Int)(k:Nat):Int:=(c%2147483647+7919*k+1)*48271%2147483647
def m7(c:Int)(k:Nat):Int:=m6 c k*(m6 c k/1009+69621)%2147483647
def Dr(c:Int)(k:Nat):Int:=(m7 c k+7*k)*(m7 c k/677+40692)%2147483399/3
def PD(c n:Int)(k:Nat)(J:En):Prop:=∃(xs:eB)(r:Int)(O q:Sl),J=[.i (.int c),.i (.int n),.o false (.l (xs.map .int)),.i (.int r),O,q]/\xs.length=k/\qM xs
theorem SM(k:Nat)(hk:k<1000)(J:En)(p:PD c n k J):∃O aa,gN 4 (.int k) J=some O/\um O=some (.nx aa)/\PD c n (k+1) aa:=by
 obtain⟨xs,r,G,H,rfl,hl,hd⟩:=p;have app:∀y:Int,qM (xs++[y%64]):=λ y x t=>by
  rcases qy t with h|h
  .exact hd x h
  .rw[dt h];exact⟨jo _ aH,yz _ aH⟩
 have Y:∀y:Int,(xs++[y%64]).length=k+1:=λ y=>by rw[zr,hl];rfl
 have d:xs.length<1000000:=aD;have Z:∀x:Int,x.fmod 64=x%64:=λ x=>fx aH;have b:∀x:Int,x.fdiv 64=x/64:=λ x=>x9 aH;have q:fN 64=true:=ib aH aH;by_cases a:c<10000000000000000000000000000000000000000\/r=0
 .have u:∀x:Int,gR 7919 x=true:=λ x=>vc aH;have v:∀x:Int,gR x 48271=true:=λ x=>uK aH;have w:∀x:Int,gR 7 x=true:=λ x=>vc aH;have f1:∀x:Int,x.fmod 2147483647=x%2147483647:=λ x=>fx aH;have i:∀x:Int,x.fmod 2147483399=x%2147483399:=λ x=>fx aH;have j:∀x:Int,x.fdiv 1009=x/1009:=λ x=>x9 aH;have l:∀x:Int,x.fdiv 677=x/677:=λ x=>x9 aH;have m:∀x:Int,x.fdiv 3=x/3:=λ x=>x9 aH;have e:fN 1009=true:=ib aH aH;have f:fN 677=true:=ib aH aH;have g:fN 3=true:=ib aH aH;have E:0<=m6 c k/\m6 c k<2147483647:=⟨jo _ aH,yz _ aH⟩;have F:0<=m7 c k/\m7 c k<2147483647:=⟨jo _ aH,yz _ aH⟩;have z:gR (m6 c k) (m6 c k/1009+69621)=true:=vc aD;have A:gR (m7 c k+7*k) (m7 c k/677+40692)=true:=uK aD;have B:(c%2147483647+7919*k+1)*48271%2147483647=m6 c k:=rfl;have C:m6 c k*(m6 c k/1009+69621)%2147483647=m7 c k:=rfl;have D:(m7 c k+7*k)*(m7 c k/677+40692)%2147483399/3=Dr c k:=rfl;refine⟨_,[.i (.int c),.i (.int n),.o false (.l ((xs++[Dr c k%64]).map .int)),.i (.int (r/64)),.i (.int k),.i (.int (Dr c k))],rfl,?_,_,_,_,_,rfl,Y _,app _⟩;have tt:c_ EW Fd [.i (.int c),.i (.int n),.o false (.l (xs.map .int)),.i (.int r),.i (.int k),.i (.int r)]=some (true,[.i (.int c),.i (.int n),.o false (.l (xs.map .int)),.i (.int r),.i (.int k),.i (.int r)]):=by
   by_cases h:c<10000000000000000000000000000000000000000
   .simp[h]
   .simp[h,a.resolve_left h]
  simp only[um];generalize c_ EW Fd=TT at tt⊢;simp[tt,u,v,w,z,A,f1,i,j,l,m,e,f,g,Z,b,q,d,B,C,D]
 .have o:¬c<10000000000000000000000000000000000000000:=λ h=>a (.inl h);have s:¬r=0:=λ h=>a (.inr h);refine⟨_,[.i (.int c),.i (.int n),.o false (.l ((xs++[r%64]).map .int)),.i (.int (r/64)),.i (.int k),.i (.int r)],rfl,?_,_,_,_,_,rfl,Y _,app _⟩;simp[um,o,s,Z,b,q,d]
theorem PN(c:Int)(n:Nat)(hn:n<=1000):∃xs:eB,pQ [.int c,.int n]=some (.l (xs.map .int))/\xs.length=n/\qM xs:=by obtain⟨a,e,xs,r,Z,b,rfl,hl,hd⟩:=yM (PD c n) n 0 [.i (.int c),.i (.int n),.o false (.l []),.i (.int c),.z,.z] (λ i J _ h p=>SM i aD J p) ⟨[],c,_,_,rfl,rfl,λ x h=>by cases h⟩;refine⟨xs,?_,by lia,hd⟩;have Y:-4611686018427387904<=(n:Int):=aD;have q:(n:Int)<4611686018427387904:=aD;have O:dh (gN 4) um (dz 0 n) [.i (.int c),.i (.int n),.o false (.l []),.i (.int c),.z,.z]=_:=e;simp[pQ,Nd,Y,q,O]
theorem Cy(hd:qM xs){i:Int}(q:0<=i)(h1:i<xs.length):∃v:Int,cw (xs.map D.int) i=some (.int v)/\0<=v/\v<64:=by obtain⟨n,rfl⟩:=j9 q;have h:n<xs.length:=aD;exact⟨xs[n],HN xs h,hd _ (Jb h)⟩
theorem BD(q:eB)(i:Nat)(hl:q.length<=63):∃v:Int,kW [.l (q.map .int),.int i]=some (.int v):=by
 have O:q.length<=sizeLine:=cv aD;by_cases h:i<q.length
 .have e:=HN q h;have h':(i:Int)<(q.length:Int):=aD;exact⟨q[i],by simp[kW,D3,h',e]⟩
 .have h':¬((i:Int)<(q.length:Int)):=aD;exact⟨0,by simp[kW,D3,h']⟩
theorem Ua{r M:Int}(q:0<=r)(h:r<M)(O:M<=1000000000000):r.natAbs<10^12:=aD
theorem YV(v:Int):v%4=0\/v%4=1\/v%4=2\/v%4=3:=aD
theorem lD(hl:xs.length=60)(hd:qM xs)(a:Nat)(ha:a<=52):∃r:Int,g0 [.l (xs.map .int),.int a]=some (.int r)/\r.natAbs<10^12:=by
 obtain⟨v,e,E,v1⟩:=Cy hd (i:=(a:Int)) aD aD;have s:∀y:Int,∃(z:Int)(q:Sl),dh (gN 3) Dz (dz 1 7) [.i (.l (xs.map .int)),.i (.int a),.i (.int y),.z]=some (.nx [.i (.l (xs.map .int)),.i (.int a),.i (.int z),q]):=λ y=>by
  obtain⟨A,e,z,q,rfl⟩:=H3 (g:=gN 3) (B:=Dz) (λ J=>∃(z:Int)(q:Sl),J=[.i (.l (xs.map .int)),.i (.int a),.i (.int z),q]) 7 1 [.i (.l (xs.map .int)),.i (.int a),.i (.int y),.z] (λ i J hi p=>by
   obtain⟨z,q,rfl⟩:=p;obtain⟨u,e,_,_⟩:=Cy hd (i:=(a:Int)+(1+(i:Int))) aD aD;have m:gR z 64=true:=uK aH;generalize xs.map D.int=X at*;exact⟨_,[.i (.l X),.i (.int a),.i (.int (z*64+u)),.i (.int (1+(i:Int)))],rfl,by simp[m,e],_,_,rfl⟩) ⟨y,.z,rfl⟩
  exact⟨z,q,e⟩
 obtain⟨z,q,f⟩:=s (v%16);have O:v.fmod 16=v%16:=fx aH;have k:v.fmod 4=v%4:=fx aH;have Y:fN 16=true:=ib aH aH;have M:∃m:Int,cw [.int 100,.int 1000,.int 1000000,.int 1000000000000] (v%4)=some (.int m)/\0<m/\m<=1000000000000:=by
  have:=YV v;rcases this with h|h|h|h<;>rw[h]
  .exact⟨100,rfl,by decide,by decide⟩
  .exact⟨1000,rfl,by decide,by decide⟩
  .exact⟨1000000,rfl,by decide,by decide⟩
  .exact⟨1000000000000,rfl,by decide,by decide⟩
 obtain⟨m,j,d,t⟩:=M;have l:z.fmod m=z%m:=fx d;have x:(z%m).natAbs<10^12:=Ua (jo _ aD) (yz _ d) t;have C:fN m=true:=ib aD aD;have w:¬(m=0):=aD;generalize xs.map D.int=X at*;have b:∀(y:Int)(q:Sl),y.natAbs<10^12->∃r:Int,cP (aL (bG EM (bJ zA) sN) (bJ (eV 2)) [.i (.l X),.i (.int a),.i (.int y),q])=some (.int r)/\r.natAbs<10^12:=λ y q o=>by
  by_cases c:(v.fdiv 16).fmod 2=1
  .exact⟨-y,by simp[e,Y,c],by lia⟩
  .exact⟨y,by simp[e,Y,c],o⟩
 generalize n:aL (bG EM (bJ zA) sN) (bJ (eV 2))=T at b;unfold g0 Nb;rw[n];by_cases c:v>31
 .obtain⟨r,er,Z⟩:=b (z%m) q x;exact⟨r,by simp[e,O,k,c,f,j,l,w,er],Z⟩
 .obtain⟨r,er,Z⟩:=b (v%16) .z aD;exact⟨r,by simp[e,O,c,er],Z⟩
structure eK(xs:eB):Prop where
 len:xs.length=60
 dig:qM xs
theorem eK.at(h:eK xs)(i:Int)(q:0<=i)(h1:i<60):∃v:Int,cw (xs.map D.int) i=some (.int v)/\0<=v/\v<64:=Cy h.dig q (by rw[h.len];lia)
theorem BX(g:eK xs):∃l h:D,pY [.l (xs.map .int),.int 20]=some (.t [l,h])/\qX l h:=by
 obtain⟨x,d,j⟩:=lD g.len g.dig 20 aH;obtain⟨y,Z,k⟩:=lD g.len g.dig 28 aH;obtain⟨v,q,_,_⟩:=g.at 36 aH aH;have d:g0 [.l (xs.map .int),.int 20]=some (.int x):=d;have Z:g0 [.l (xs.map .int),.int 28]=some (.int y):=Z;have σ:∃a b:Int,mK [.l [.int x,.int y]]=some (.l [.int a,.int b])/\a<=b/\a.natAbs<10^12/\b.natAbs<10^12:=by
  show ∃a b:Int,some (D.l ((ij [x,y]).map .int))=_/\_;by_cases c:x<=y
  .exact⟨x,y,by simp[ij,m4,c],c,j,k⟩
  .exact⟨y,x,by simp[ij,m4,c],by lia,k,j⟩
 obtain⟨a,b,es,ab,f,i⟩:=σ;generalize xs.map D.int=X at*;have st:pY [.l X,.int 20]=cP (aL (bG (tB (e2 bM (e2 cV sy (zI 4)) (zI 1))) (bJ (df (aC (eC .n) oU))) sN) (aL (bG (tB (e2 bM (e2 cV sy (zI 4)) (zI 2))) (bJ (df (aC (eV 3) zC))) sN) (aL (bG (tB (e2 bM (e2 cV sy (zI 8)) (zI 3))) (bJ (df (aC (eC .n) zC))) sN) (bJ (df (aC (eV 3) oU))))) [.i (.l X),.i (.int 20),.i (.l [.int a,.int b]),.i (.int a),.i (.int b)]):=by simp[pY,GP,d,Z,es,d3,jF]
 rw[st];clear st;by_cases Y:v.fmod 4=1
 .exact⟨.n,.int b,by simp[q,Y],.inl rfl,.inr ⟨b,rfl,i⟩,.inl rfl⟩
 .by_cases O:v.fmod 4=2
  .exact⟨.int a,.n,by simp[q,O],.inr ⟨a,rfl,f⟩,.inl rfl,.inr (.inl rfl)⟩
  .by_cases e:v.fmod 8=3
   .exact⟨.n,.n,by simp[q,Y,O,e],.inl rfl,.inl rfl,.inl rfl⟩
   .exact⟨.int a,.int b,by simp[q,Y,O,e],.inr ⟨a,rfl,f⟩,.inr ⟨b,rfl,i⟩,.inr (.inr ⟨a,b,rfl,rfl,ab⟩)⟩
def k6(u v w:Int):Str:=lM u++Txt.mul (lM v) (w.fmod 8)
theorem IL(u v w:Int):(k6 u v w).cps.toList=(97+(u.fmod 26).toNat)::List.replicate (w.fmod 8).toNat (97+(v.fmod 26).toNat):=by unfold k6;rw[yS];show _++(Txt.mul ⟨#[97+(v.fmod 26).toNat]⟩ (w.fmod 8)).cps.toList=_;rw[PyProof.Rows.mul_one_list];rfl
theorem Dw(x:Int):0<=x.fmod 8/\x.fmod 8<8:=⟨yp _ aH,yw _ aH⟩
theorem UC(u v w:Int):aO (k6 u v w):=by
 have h:=IL u v w;have a:=rB u;have b:=rB v;have c:=Dw w;have l:(k6 u v w).length=(w.fmod 8).toNat+1:=by rw[fT,h,zt,Yf]
 refine⟨by lia,by lia,λ x O=>?_⟩;rw[h]at O;rcases qx O with q|q
 .lia
 .have:=List.eq_of_mem_replicate q
  lia
noncomputable def kx(s:Str):Nat:=s.cps.toList.headD 0
theorem cm1(u v w:Int):kx (k6 u v w)=97+(u.fmod 26).toNat:=by unfold kx;rw[IL];rfl
def PK(X:D)(a n d:Int)(k:Nat)(J:En):Prop:=∃(ks:aP)(O Y q:Sl),J=[.i X,.i (.int a),.i (.int n),.i (.str cQ),.o false (.l (ks.map .str)),O,Y,q]/\ks.length=k/\(∀x∈ks,aO x)/\ks.map kx=(List.range k).map λ(i:Nat)=>97+((d+7*(i:Int)).fmod 26).toNat
theorem vd(g:eK xs)(a n:Nat)(h:a+n<=56):∃(ks:aP)(d:Int),kq [.l (xs.map .int),.int a,.int n]=some (.l (ks.map .str))/\ks.length=n/\(∀x∈ks,aO x)/\ks.map kx=(List.range n).map λ(i:Nat)=>97+((d+7*(i:Int)).fmod 26).toNat:=by
 obtain⟨d,u,_,_⟩:=g.at a aD aD;have B:∀x:Int,gR 7 x=true:=λ x=>vc aH;have Y:∀(i:Nat)(J:En),i<n->PK (.l (xs.map .int)) a n d i J->∃O Z,gN 5 (.int i) J=some O/\DB O=some (.nx Z)/\PK (.l (xs.map .int)) a n d (i+1) Z:=λ i J hi p=>by
  obtain⟨ks,E,F,G,rfl,hl,f,b⟩:=p;obtain⟨v,y,_,_⟩:=g.at ((a:Int)+1+(i:Int)) aD aD;obtain⟨w,z,_,_⟩:=g.at ((a:Int)+2+(i:Int)) aD aD;have l:=Lj (d+7*(i:Int));have m:=Lj v;have k:=UC (d+7*(i:Int)) v w;have c:=Dw w;have s:w.fmod 8<=1000:=aD;have lk:(lM (d+7*(i:Int))).length+(Txt.mul (lM v) (w.fmod 8)).length<=sizeLine:=by have:=k.2.1;unfold k6 at this;rw[G3]at this;exact cv aD
  have e:lM (d+7*(i:Int))++Txt.mul (lM v) (w.fmod 8)=k6 (d+7*(i:Int)) v w:=rfl;have lv:(lM v).length<=1000:=by rw[T9];decide
  have A:(ks.map D.str).length<1000000:=cR;refine⟨_,[.i (.l (xs.map .int)),.i (.int a),.i (.int n),.i (.str cQ),.o false (.l ((ks++[k6 (d+7*(i:Int)) v w]).map .str)),.i (.int i),.i (.str (lM (d+7*(i:Int)))),.i (.str (lM v))],rfl,?_,ks++[k6 (d+7*(i:Int)) v w],_,_,_,rfl,by simp[hl],λ x j=>?_,?_⟩
  .have C:(ks++[k6 (d+7*(i:Int)) v w]).map D.str=ks.map D.str++[.str (k6 (d+7*(i:Int)) v w)]:=aQ;rw[C];generalize ks.map D.str=KS,xs.map D.int=X,k6 (d+7*(i:Int)) v w=KT at*;simp[u,y,z,l,m,B,c.1,s,lv,lk,e,A]
  .rcases qy j with q|q
   .exact f x q
   .rw[dt q];exact k
  .rw[zx,b,List.range_succ,zx];show _++[kx _]=_++[_];rw[cm1]
 obtain⟨H,e,ks,E,F,G,rfl,hl,f,b⟩:=yM (PK (.l (xs.map .int)) a n d) n 0 [.i (.l (xs.map .int)),.i (.int a),.i (.int n),.i (.str cQ),.o false (.l []),.z,.z,.z] (λ i J _ hi p=>Y i J aD p) ⟨[],_,_,_,rfl,rfl,λ x j=>(by cases j),rfl⟩;rw[Nat.zero_add]at hl b;refine⟨ks,d,?_,hl,f,b⟩;have o:-4611686018427387904<=(n:Int):=aD;have r:(n:Int)<4611686018427387904:=aD;have t:dh (gN 5) DB (dz 0 n) [.i (.l (xs.map .int)),.i (.int a),.i (.int n),.i (.str cQ),.o false (.l []),.z,.z,.z]=_:=e;generalize xs.map D.int=X,ks.map D.str=KS at*;simp[kq,FJ,o,r,t]
theorem m26{i j:Nat}(O:i<j)(Y:j<8)(q:(d+7*(i:Int))%26=(d+7*(j:Int))%26):False:=by obtain⟨k,rfl⟩:=Nat.exists_eq_add_of_lt O;have h:=Int.emod_eq_emod_iff_emod_sub_eq_zero.mp q.symm;have e:d+7*((i+k+1:Nat):Int)-(d+7*(i:Int))=7*(k:Int)+7:=aD;rw[e]at h;have z:∀k:Nat,k<7->(7*(k:Int)+7)%26≠0:=aH;exact z k aD h
theorem L8{ks:aP}(h:ks.map kx=(List.range n).map λ(i:Nat)=>97+((d+7*(i:Int)).fmod 26).toNat)(hn:n<=8):ks.Nodup:=by
 have nd:(ks.map kx).Nodup:=by
  rw[h];show List.Pairwise _ _;rw[List.pairwise_map];refine List.Pairwise.imp_of_mem ?_ List.pairwise_lt_range;intro i j hi Y O q;rw[List.mem_range]at hi Y;have a:=rB (d+7*(i:Int));have b:=rB (d+7*(j:Int));refine m26 (d:=d) O (qt Y hn) ?_;rw[<-fx aH,<-fx aH];generalize (d+7*(i:Int)).fmod 26=u,(d+7*(j:Int)).fmod 26=v at*;clear h hi Y O hn
  lia
 exact List.Pairwise.of_map kx (λ a b h q=>h (y0 kx q)) nd
def k8:c8->Option D
 |some (.rt d _)=>some d
 |_=>none
@[simp] theorem cK1(d:D)(J:En):k8 (some (.rt d J))=some d:=yI rfl
theorem ZZ(h:k8 o=some d):∃J,o=some (.rt d J):=by
 unfold k8 at h;split at h
 .cases h;exact⟨_,rfl⟩
 .cases h
theorem eW(h:T J=some (true,J))(k:k8 (A J)=some d):cP (aL (bG T A sN) R J)=some d:=by obtain⟨a,e⟩:=ZZ k;simp[h,e]
theorem ml(a b:D):ko [a,b]=cP (DX [.i a,.i b,.z,.z,.z,.z,.z]):=aK
theorem R5(g:eK xs):∃l h:D,ko [.str cH,.l (xs.map .int)]=some (.t [l,h])∧qX l h:=by obtain⟨l,h,e,t⟩:=BX g;refine⟨l,h,?_,t⟩;generalize xs.map D.int=X at*;rw[ml];exact eW aK (by simp[e])
theorem Vd(g:eK xs):∃rest,ko [.str e_,.l (xs.map .int)]=some (.t rest)∧∀nm f,aO nm→aO f→eA e_ nm [f] rest:=by obtain⟨l,h,e,t⟩:=BX g;refine⟨[l,h],?_,λ nm f a b=>WV a b t⟩;generalize xs.map D.int=X at*;rw[ml];exact eW aK (by simp[e])
theorem Vc(g:eK xs):∃rest,ko [.str fC,.l (xs.map .int)]=some (.t rest)∧∀nm f,aO nm→aO f→eA fC nm [f] rest:=by
 obtain⟨x,c,i⟩:=lD g.len g.dig 20 aH;obtain⟨y,O,j⟩:=lD g.len g.dig 28 aH;obtain⟨v,d,_,_⟩:=g.at 37 aH aH;have c:g0 [.l (xs.map .int),.int 20]=some (.int x):=c;have O:g0 [.l (xs.map .int),.int 28]=some (.int y):=O;have q:fN 100000000000=true:=ib aH aH;have h:((x.natAbs:Int)).fmod 100000000000=(x.natAbs:Int)%100000000000:=fx aH;have Z:((y.natAbs:Int)).fmod 100000000000=(y.natAbs:Int)%100000000000:=fx aH;generalize Y:(x.natAbs:Int)%100000000000=B,hC:(y.natAbs:Int)%100000000000=C at*;have Y:0<=B/\B<100000000000:=aD;have e:v.fmod 2=v%2:=fx aH;have z:v%2=0\/v%2=1:=aD;rcases z with z|z
 .refine⟨[.int B,.n],?_,λ nm f a b=>Jy a b Y.1 aD (.inl rfl) (.inl rfl)⟩;generalize xs.map D.int=X at*;rw[ml];exact bC aK (eW aK (by simp[c,O,d,h,Z,e,z,d3]))
 .refine⟨[.int B,.int (B+1+C)],?_,λ nm f a b=>Jy a b Y.1 aD (.inr ⟨_,rfl,by lia⟩) (.inr ⟨_,rfl,by lia⟩)⟩;generalize xs.map D.int=X at*;rw[ml];exact bC aK (eW aK (by simp[c,O,d,h,Z,e,z,jF]))
theorem Ig(g:eK xs)(hw:w=gH∨w=gJ):∃rest,ko [.str w,.l (xs.map .int)]=some (.t rest)∧∀nm f,aO nm→aO f→eA w nm [f] rest:=by
 obtain⟨v,e,i,_⟩:=g.at 31 aH aH;have h:=Dw v;obtain⟨n,hn⟩:∃n:Nat,1+v.fmod 8=(n:Int):=⟨(1+v.fmod 8).toNat,by lia⟩;obtain⟨c,d,q,O,Y,Z⟩:=vd g 20 n aD;have nd:=L8 Z aD;have q:kq [.l (xs.map .int),.int 20,.int n]=some (.l (c.map .str)):=q;cases c with
 |nil=>simp at O;lia
 |cons k0 r=>
  refine⟨(k0::r).map .str,?_,λ nm f a b=>W2 hw a b Y (by simp at O;lia) nd⟩;generalize (k0::r).map D.str=KS,xs.map D.int=X at*;rw[ml];exact bC (by rcases hw with rfl|rfl<;>kernel_rfl) (bC (by rcases hw with rfl|rfl<;>kernel_rfl) (eW (by rcases hw with rfl|rfl<;>kernel_rfl) (by simp[e,hn,q])))
theorem Ve(g:eK xs):∃rest,ko [.str fb,.l (xs.map .int)]=some (.t rest)∧∀nm f,aO nm→aO f→eA fb nm [f] rest:=by obtain⟨x,c,l⟩:=lD g.len g.dig 20 aH;obtain⟨y,O,m⟩:=lD g.len g.dig 28 aH;have c:g0 [.l (xs.map .int),.int 20]=some (.int x):=c;have O:g0 [.l (xs.map .int),.int 28]=some (.int y):=O;have h:((x.natAbs:Int)).fmod 999=(x.natAbs:Int)%999:=fx aH;have j:fN 999=true:=ib aH aH;generalize Z:2+(x.natAbs:Int)%999=B at*;have q:2<=B/\B<=1000:=aD;have i:((y.natAbs:Int)).fmod B=(y.natAbs:Int)%B:=fx aD;have k:fN B=true:=ib aD aD;have Y:¬(B=0):=aD;have d:=jo (y.natAbs:Int) Y;have e:=yz (y.natAbs:Int) (show 0<B by lia);refine⟨[.int B,.int ((y.natAbs:Int)%B)],?_,λ nm f a b=>WX a b q.1 q.2 d e⟩;generalize xs.map D.int=X at*;rw[ml];exact bC aK (bC aK (bC aK (eW aK (by simp[c,O,h,Z,i,Y]))))
theorem Vb(g:eK xs):∃rest,ko [.str fe,.l (xs.map .int)]=some (.t rest)∧∀nm f,aO nm→aO f→eA fe nm [f] rest:=by
 obtain⟨x,c,e⟩:=lD g.len g.dig 20 aH;obtain⟨y,O,Z⟩:=lD g.len g.dig 28 aH;have c:g0 [.l (xs.map .int),.int 20]=some (.int x):=c;have O:g0 [.l (xs.map .int),.int 28]=some (.int y):=O;have f1:x.fmod 2001=x%2001:=fx aH;have Y:fN 2001=true:=ib aH aH;by_cases z:x%2001-1000=0
 .refine⟨[.int 1,.int y],?_,λ nm f a b=>Jx a b aH aH aH Z⟩;generalize xs.map D.int=X at*;rw[ml];exact bC aK (bC aK (bC aK (bC aK (eW aK (by simp[c,O,f1,z,jF])))))
 .refine⟨[.int (x%2001-1000),.int y],?_,λ nm f a b=>Jx a b aD aD z Z⟩;generalize d:x%2001-1000=q,xs.map D.int=X at*;rw[ml];exact bC aK (bC aK (bC aK (bC aK (eW aK (by simp[c,O,f1,d,z,d3])))))
theorem VN(g:eK xs):∃rest,ko [.str fD,.l (xs.map .int)]=some (.t rest)∧∀nm f,aO nm→aO f→eA fD nm [f] rest:=by obtain⟨x,c,q⟩:=lD g.len g.dig 20 aH;have c:g0 [.l (xs.map .int),.int 20]=some (.int x):=c;refine⟨[.int (x.natAbs:Int)],?_,λ nm f a b=>QU a b aD aD⟩;generalize xs.map D.int=X at*;rw[ml];exact bC aK (bC aK (bC aK (bC aK (bC aK (eW aK (by simp[c]))))))
theorem Ma:∀A B:aG,dF bD (df (aC (eV 0) c5)) [] (d5 A B)=some (d5 A B)
 |[],_=>rfl
 |_::_,[]=>rfl
 |a::r,b::q=>by
  have O:=Ma r q;have e:df (aC (eV 0) c5) [.i a,.i b]=some (.t [a,b],[.i a,.i b]):=aQ;unfold d5 at O⊢;rw[Qq,zj,uD];show aF (some (a,b)) _=_;rw[cD];show aF (some (true,_)) _=_;rw[cD,if_pos rfl,e,cD,O,cD]
theorem J1:∀A B:aP,d5 (A.map D.str) (B.map D.str)=(A.zip B).map λ p=>.t [.str p.1,.str p.2]
 |[],_=>rfl
 |_::_,[]=>rfl
 |a::r,b::q=>by
  have O:=J1 r q;unfold d5 at O⊢;rw[zj,zj,Qq,zj,O];rfl
theorem IT(x:D):∀k:Nat,(List.replicate k [x]).flatten=List.replicate k x
 |0=>rfl
 |k+1=>by rw[jh,j4,IT x k];rfl
theorem cp3(g:eK xs):∃rest,ko [.str c1,.l (xs.map .int)]=some (.t rest)∧∀nm f,aO nm→aO f→eA c1 nm [f] rest:=by
 obtain⟨v,F,V,_⟩:=g.at 31 aH aH;obtain⟨u,t,U,_⟩:=g.at 32 aH aH;have H:v.fmod 4=v%4:=fx aH;have w:u.fmod 3=u%3:=fx aH;have G:u.fmod 2=u%2:=fx aH;obtain⟨n,hn⟩:∃n:Nat,1+v%4=(n:Int):=⟨(1+v%4).toNat,by lia⟩;obtain⟨h,d,k,B,A,N⟩:=vd g 20 n aD;have nd:=L8 N aD;have k:kq [.l (xs.map .int),.int 20,.int n]=some (.l (h.map .str)):=k;obtain⟨js,_,i,y,M,_⟩:=vd g 33 1 aH;have i:kq [.l (xs.map .int),.int 33,.int 1]=some (.l (js.map .str)):=i;obtain⟨j,rfl⟩:∃j,js=[j]:=by
  cases js with
  |nil=>cases y
  |cons a r=>cases r with
   |nil=>exact⟨a,rfl⟩
   |cons=>cases y
 have P:=M j qg;have m:aO (sS "z"):=c_4 aW;have L:cw ([j].map D.str) 0=some (.str j):=rfl;have O:∃os:aP,os.length=h.length∧(∀x∈os,aO x)∧bG EO EG sN [.i (.str c1),.i (.l (xs.map .int)),.i (.l (h.map .str)),.i (.l (h.map .str).reverse),.z,.z,.z]=some (.nx [.i (.str c1),.i (.l (xs.map .int)),.i (.l (h.map .str)),.i (.l (os.map .str)),.z,.z,.z]):=by
  by_cases c:0<u%3
  .have R:∃o:Str,aO o∧cw [.str j,.str "z"] (u%2)=some (.str o):=by
    have z:u%2=0\/u%2=1:=aD;rcases z with z|z<;>rw[z]
    .exact⟨j,P,rfl⟩
    .exact⟨_,m,rfl⟩
   obtain⟨o,Q,Y⟩:=R;refine⟨List.replicate h.length o,by simp,λ x l=>by rw[List.eq_of_mem_replicate l];exact Q,?_⟩;have fr:=IT (.str o) h.length;have Z:h.length<=sizeLine:=cv aD;have s:(h.map D.str).length=h.length:=aQ;have i1:(h.length:Int)<=1000:=aD;have i2:(-1000:Int)<=(h.length:Int):=aD;have σ:(List.replicate h.length o).map D.str=List.replicate h.length (.str o):=aQ;rw[σ];generalize xs.map D.int=X,[j].map D.str=ρ,h.map D.str=KS at*;simp[t,w,G,c,i,L,Y,s,i1,i2,fr]
  .refine⟨h.reverse,by simp,λ x l=>A x (List.mem_reverse.mp l),?_⟩;rw[Y8];generalize xs.map D.int=X,h.map D.str=KS at*;simp[t,w,c]
 obtain⟨os,E,ok,Y⟩:=O;have m:=Ma (h.map .str) (os.map .str);have Z:h.length<=sizeLine:=cv aD;refine⟨d5 (h.map .str) (os.map .str),?_,λ nm f a b=>?_⟩
 .have s:(h.map D.str).length=h.length:=aQ;generalize I:bG EO EG sN=FI at Y;generalize xs.map D.int=X,h.map D.str=KS,os.map D.str=OS at*;rw[ml];unfold DX;rw[I];refine bC aK (bC aK (bC aK (bC aK (bC aK (bC aK ?_)))));simp[F,H,hn,k,Y,m,s,Z]
 .rw[J1];cases h with
  |nil=>simp at B;lia
  |cons k0 r=>
   cases os with
   |nil=>cases E
   |cons C q=>
    have T:q.length=r.length:=by simpa using E
    refine ci6 (ps:=r.zip q) a b (λ p K=>?_) ?_ ?_
    .have:=Zl (l₁:=k0::r) (l₂:=C::q) K;exact⟨A _ this.1,ok _ this.2⟩
    .rw[List.length_zip];simp at B;lia
    .have e:((k0,C)::r.zip q).map (·.1)=k0::r:=by rw[zj,Y9 aD]
     rw[e];exact nd
structure FW(w:Str):Prop where
 fp:bP (.str w) FP=some (.b true)
 key:aO w
theorem Rx:FW f_:=⟨by kernel_rfl,c_4 aW⟩
theorem UL:FW nH:=⟨by kernel_rfl,c_4 aW⟩
theorem Rv:FW nI:=⟨by kernel_rfl,c_4 aW⟩
theorem cn0:FW cU:=⟨by kernel_rfl,c_4 aW⟩
theorem Vs(h:1+(x:Int)%10000000000=W):1<=W/\W<=10000000000:=aD
theorem Vr{W:Int}(h:1<=W/\W<=10000000000):W.natAbs<10^12:=aD
theorem Au{W A:Int}(h:1<=W/\W<=10000000000)(k:0<=A/\A<=18*W):W<W+1+A/\W+1+A<=20*W/\(W+1+A).natAbs<10^12:=aD
theorem U0(g:eK xs)(Y:Bool)(hw:w=hZ∨w=fY∨w=dR∨w=h6):∃(Z:aG)(q:Str),uz [.str w,.l (xs.map .int),.b Y]=some (.t (Z++[.str q]))∧(∀nm f,aO nm→aO f→eA w nm [f] (Z++[.str q]))∧FW q∧(Y=false→¬(q=cU)):=by
 obtain⟨x,e,L⟩:=lD g.len g.dig 20 aH;have e:g0 [.l (xs.map .int),.int 20]=some (.int x):=e;obtain⟨v,o,M,_⟩:=g.at 40 aH aH;obtain⟨c,l,ρ,_⟩:=g.at 41 aH aH;have s:((x.natAbs:Int)).fmod 10000000000=(x.natAbs:Int)%10000000000:=fx aH;have p:c.fmod 19=c%19:=fx aH;have H:fN 10000000000=true:=ib aH aH;generalize k:1+(x.natAbs:Int)%10000000000=W at*;have O:=Vs k;have i:=Vr O;have cW:0<=c%19*W/\c%19*W<=18*W:=⟨Int.mul_nonneg (jo _ aH) (Int.le_trans aH O.1),Int.mul_le_mul_of_nonneg_right (Int.le_of_lt_add_one (yz c aH)) (Int.le_trans aH O.1)⟩;have C:gR (c%19) W=true:=uK (Y2 i aH);generalize t:c%19*W=A at*;have F:∃q:Str,FW q∧(Y=false→¬(q=cU))∧e2 bA EJ (e2 cV Fe (e2 cu (zI 3) (eF kQ fF))) [.i (.str w),.i (.l (xs.map .int)),.i (.b Y),.z,.z]=some (.str q,[.i (.str w),.i (.l (xs.map .int)),.i (.b Y),.z,.z]):=by
  have I:∃m:Int,3+(if Y=true then 1 else 0:Int)=m/\(m=3\/m=4)/\(Y=false->m=3):=by cases Y<;>exact⟨_,rfl,by decide,by decide⟩
  obtain⟨m,n,y,B⟩:=I;have r:v.fmod m=v%m:=fx aD;have K:fN m=true:=ib aD aD;have nm:¬(m=0):=aD;have z:v%m=0\/v%m=1\/v%m=2\/(v%m=3/\m=4):=by rcases y with h|h<;>subst h<;>lia
  have R:∃q:Str,FW q∧(Y=false→¬(q=cU))∧cw [.str "count",.str "most",.str "least",.str "sum"] (v%m)=some (.str q):=by
   rcases z with z|z|z|⟨z,N⟩<;>rw[z]
   .exact⟨_,Rx,λ _=>by decide+kernel,rfl⟩
   .exact⟨_,UL,λ _=>by decide+kernel,rfl⟩
   .exact⟨_,Rv,λ _=>by decide+kernel,rfl⟩
   .exact⟨_,cn0,λ h=>absurd (B h) aD,rfl⟩
  obtain⟨q,E,G,r3⟩:=R;refine⟨q,E,G,?_⟩;generalize xs.map D.int=X at*;simp[o,n,r,nm,r3]
 obtain⟨q,f1,d,j⟩:=F;generalize u:e2 bA EJ (e2 cV Fe (e2 cu (zI 3) (eF kQ fF)))=EE at j;have st:uz [.str w,.l (xs.map .int),.b Y]=cP (aL (bG (tB u5) (bJ (df iK)) sN) (aL (bG EZ (bJ (df (aC (e2 cu sC NP) (aC (eV 4) iK)))) sN) (bJ (df (aC (eV 4) iK)))) [.i (.str w),.i (.l (xs.map .int)),.i (.b Y),.i (.str q),.i (.int W)]):=by generalize xs.map D.int=X at*;unfold uz FK;rw[u];simp[j,e,s,k]
 generalize xs.map D.int=X at*;rw[st];rcases hw with rfl|rfl|rfl|rfl
 .exact⟨[.int W],q,bC aK (bC aK aK),λ nm f a b=>QV a b O.1 i f1.fp f1.key,f1,d⟩
 .refine⟨[.int (W+1+A),.int W],q,bC aK (eW aK ?_),λ nm f a b=>QT a b O.1 (Au O cW).1 (Au O cW).2.1 (Au O cW).2.2 f1.fp f1.key,f1,d⟩;simp[l,p,t,C]
 .exact⟨[.int W],q,bC aK (bC aK aK),λ nm f a b=>W3 a b O.1 i f1.fp f1.key,f1,d⟩
 .exact⟨[],q,eW aK aK,λ nm f a b=>W8 a b f1.fp f1.key,f1,d⟩
structure Rw where
 w:Str
 nm:Str
 fr:aP
 rs:aG
abbrev Rw.d(r:Rw):D:=eX r.w r.nm r.fr r.rs
noncomputable abbrev _root_.cX:=List Rw
abbrev aZ(A:cX):aG:=A.map Rw.d
abbrev a_(A:cX):aP:=A.map Rw.nm
abbrev kds(A:cX):ew:=A.map λ r=>(r.nm,r.d)
abbrev d9(A:cX):D:=.c ((kds A).map (·.1)) ((kds A).map (·.2))
theorem YT(x:Str):[x].Nodup:=List.nodup_cons.mpr ⟨zv,List.nodup_nil⟩
theorem AG(A B:cX):a_ (A++B)=a_ A++a_ B:=zx
theorem Xq(A:cX):a_ A.reverse=(a_ A).reverse:=Y8
theorem HD(A:cX):(kds A).length=A.length:=qz ..
theorem Aq:∀l:ew,(l.map (·.1)).zip (l.map (·.2))=l
 |[]=>rfl
 |a::r=>by rw[zj,zj,Qq,Aq r]
theorem Cs(A:cX)(k:Str):ki (.str k) (d9 A)=some (.b (bE k (kds A)).isSome):=by rw[XY,Aq]
theorem LQ(A:cX)(k:Str):lA (d9 A) (.str k)=bE k (kds A):=by rw[XU,Aq]
theorem AS:∀{A:cX},k∉a_ A->bE k (kds A)=none
 |[],_=>rfl
 |r::q,h=>(if_neg λ e:r.nm=k=>h (by rw[<-e];exact qg)).trans (AS λ z=>h (qh _ z))
theorem kY:∀{A:cX},(a_ A).Nodup->r∈A->bE r.nm (kds A)=some r.d
 |a::q,nd,h=>by
  have O:=List.nodup_cons.mp nd;rcases qx h with e|e
  .subst e;exact if_pos rfl
  .exact(if_neg λ z:a.nm=r.nm=>O.1 (by rw[z];exact qw e)).trans (kY O.2 e)
abbrev gu:aP:=[cH,fC,gH,gJ,e_,fb,fe,fD,c1,bH]
abbrev h_:aP:=[hZ,fY,dR,h6]
def aY(w:Str):Bool:=fz (.str w) (gu.map .str)
def d4(w:Str):Bool:=fz (.str w) (h_.map .str)
def l9(w:Str):Bool:=fz (.str w) [.str hZ,.str fY,.str h6]
abbrev Fo:aG:=[.str "in",.str "time",.str "only",.str "but",.str "span",.str "rest",.str "turn",.str "later",.str "put",.str "pour"]
abbrev N6:aG:=[.str "fixed",.str "slide",.str "gaps",.str "ever"]
abbrev N5:aG:=[.str "fixed",.str "slide",.str "ever"]
theorem XI(h:l9 w=true)(q:l9 u=false):¬(w=u):=λ e=>by rw[e,q]at h;cases h
theorem gY(h:F J=some (d,J))(k:cP (R (J.set i (.i d)))=x):cP (aL (bN i F) R J)=x:=by simp[h,k]
theorem jV:∀A:List α,(∀r∈A,T (.i (g r)::fr)=some (p r,.i (g r)::fr))->(∀r∈A,p r=true->F (.i (g r)::fr)=some (v r,.i (g r)::fr))->du T F fr (A.map g)=some ((A.filter p).map v)
 |[],_,_=>rfl
 |r::q,b,a=>by
  have Y:=jV q (λ x O=>b x (qh _ O)) λ x O=>a x (qh _ O);rw[zj,vP,b r Zp];cases e:p r with
  |false=>rw[V6,Y,List.filter_cons_of_neg (by rw[e];decide)]
  |true=>rw[vR,a r Zp e,vQ,Y,o5,List.filter_cons_of_pos e];rfl
theorem oH{α:Type}{g:α->D}{v:α->D}(A:List α)(q:∀r∈A,F (.i (g r)::fr)=some (v r,.i (g r)::fr)):du bD F fr (A.map g)=some (A.map v):=by
 have e:=jV (T:=bD) A (λ r _=>rfl) λ r O _=>q r O;rw[e,List.filter_eq_self.mpr λ _ _=>rfl]
def cv3:FS:=Nu
theorem B0{r:Rw}(nd:(a_ A).Nodup)(hn:r.nm∉a_ A)(Y:∀q∈Rs,q∈A)(hf:r.fr=a_ Rs)(hl:Rs.length<=1000):gi [r.d,d9 A]=cP (cv3 [.i r.d,.i (d9 A),.i (.l (aZ Rs))]):=by
 have f:ki (.str r.nm) (d9 A)=some (.b false):=by rw[Cs,AS hn];rfl
 have b:du bD Fh [.i (d9 A)] (Rs.map λ q=>.str q.nm)=some (Rs.map λ _=>.b true):=oH Rs λ q O=>by
  have e:ki (.str q.nm) (d9 A)=some (.b true):=by rw[Cs,kY nd (Y q O)];rfl
  simp[e]
 have c:du bD (e2 lA (eV 1) (eV 0)) [.i (d9 A)] (Rs.map λ q=>.str q.nm)=some (aZ Rs):=oH Rs λ q O=>by
  have e:lA (d9 A) (.str q.nm)=some q.d:=by rw[LQ,kY nd (Y q O)]
  simp[e]
 have a:=I8 Rs;have Z:(Rs.map λ q=>D.str q.nm).length<=sizeLine:=cv (by simpa using hl);have i2:bA r.d (.int 2)=some (.t (Rs.map λ q=>.str q.nm)):=by show some (D.t (r.fr.map .str))=_;rw[hf,zu];rfl
 have i1:bA r.d (.int 1)=some (.str r.nm):=rfl;generalize g:(Rs.map λ _=>D.b true)=B,(Rs.map λ q=>D.str q.nm)=F,hR:aZ Rs=R,r.d=rd,d9 A=dA at*;refine bC ?_ (gY ?_ rfl)
 .simp[i1,i2,f,b,a,Z]
 .simp[i2,c,Z]
theorem kL(r:Rw):bA r.d (.int 0)=some (.str r.w):=rfl
theorem rE(r:Rw):bA r.d (.int 1)=some (.str r.nm):=rfl
theorem ue(r:Rw):bA r.d (.int 2)=some (.t (r.fr.map .str)):=rfl
theorem rD(r:Rw):bA r.d (.int 3)=some (.t r.rs):=rfl
theorem qD(q:aG)(x:D):cw (q++[x]) (-1)=some x:=by have l:(q++[x]).length=q.length+1:=aQ;unfold cw iq;rw[if_neg aH,l,if_pos aD];rw[show(-1+((q.length+1:Nat):Int)).toNat=q.length by lia];simp
theorem cz7(w:Str):bP (.str w) (.t Fo)=some (.b (aY w)):=aK
theorem cz6(w:Str):bP (.str w) (.t N6)=some (.b (d4 w)):=aK
theorem Md(w:Str):bP (.str w) (.t N5)=some (.b (l9 w)):=aK
structure iA(P:cX)(r:Rw):Prop where
 rd:Rd r.w r.nm r.fr r.rs
 key:aO r.nm
 nn:r.nm∉a_ P
 fo:d4 r.w=true->∃(f:Str)(pre:aG)(fw:Str),r.fr=[f]/\r.rs=pre++[.str fw]
 fr:∀f∈r.fr,f∈a_ P
 frl:r.fr.length<=8
 st:gi [r.d,d9 P]=some (.b true)
def ll:cX->List Rw->Prop
 |_,[]=>True
 |P,r::q=>iA P r/\ll (P++[r]) q
theorem qA(P:cX)(a:Rw)(q:cX):P++[a]++q=P++a::q:=by rw[Qy];rfl
theorem GJ:∀{A P:cX}{r:Rw},ll P A->iA (P++A) r->ll P (A++[r])
 |[],P,r,_,h=>⟨by rw[yb]at h;exact h,trivial⟩
 |a::q,P,r,g,h=>⟨g.1,GJ g.2 (by rw[qA];exact h)⟩
theorem nk:∀{A P:cX}{r:Rw},ll P A->r∈A->∃Q,iA Q r/\∀x∈a_ Q,x∈a_ (P++A)
 |a::q,P,r,g,h=>by
  rcases qx h with e|e
  .subst e;exact⟨P,g.1,λ x O=>by rw[AG];exact jy _ O⟩
  .have:=nk g.2 e;rw[qA]at this;exact this
theorem AQ:∀{A P:cX},(a_ P).Nodup->ll P A->(a_ (P++A)).Nodup
 |[],P,n,_=>by rw[yb];exact n
 |a::q,P,n,g=>by
  have h:(a_ (P++[a])).Nodup:=by rw[AG];refine List.nodup_append.mpr ⟨n,YT _,λ x O y Y e=>?_⟩;rw[dt Y]at e;exact g.1.nn (by rw[<-e];exact O)
  have:=AQ h g.2;rw[qA]at this;exact this
theorem AI:∀{l:aG},(∀d∈l,nl d=true/\nd d=true)->oF l=true/\iv l=true
 |[],_=>⟨rfl,rfl⟩
 |a::r,h=>by
  have b:=h a qg;have c:=AI λ d hd=>h d (qh _ hd);show(nl a&&oF r)=true/\(nd a&&iv r)=true;rw[b.1,b.2,c.1,c.2];exact⟨rfl,rfl⟩
theorem Cd:∀{l:aG},(∀d∈l,nd d=true)->iv l=true
 |[],_=>rfl
 |a::r,h=>by
  show(nd a&&iv r)=true;rw[h a Zp,Cd λ d hd=>h d (ja _ hd)];rfl
theorem tM:∀{l:aG},(∀d∈l,c7 d<=m)->eQ l<=m
 |[],_=>yg _
 |a::r,h=>Nat.max_le.mpr ⟨h a qg,tM λ d hd=>h d (qh _ hd)⟩
theorem B2{r:Rw}(h:∀d∈r.rs,Pl 1 d):Pl 3 r.d:=by
 have a:=AI λ d hd=>⟨(h d hd).1,(h d hd).2.1⟩
 have s:∀d∈r.fr.map D.str,Pl 0 d:=λ d hd=>by
  obtain⟨x,_,rfl⟩:=dI.mp hd;exact⟨rfl,rfl,qj _⟩
 have b:=AI λ d hd=>⟨(s d hd).1,(s d hd).2.1⟩
 have c:=tM λ d hd=>(h d hd).2.2;have e:=tM λ d hd=>(s d hd).2.2;show(oF (r.fr.map .str)&&(oF r.rs&&true))=true/\(iv (r.fr.map .str)&&(iv r.rs&&true))=true/\max 0 (max 0 (max (eQ (r.fr.map .str)+1) (max (eQ r.rs+1) 0)))+1<=3;rw[a.1,a.2,b.1,b.2];exact⟨rfl,rfl,Z5 (Nat.max_le.mpr ⟨yg _,Nat.max_le.mpr ⟨yg _,Nat.max_le.mpr ⟨Z5 (zw e (yg 1)),Nat.max_le.mpr ⟨Z5 c,yg _⟩⟩⟩⟩)⟩
theorem k_(A:aP):c7 (.l (A.map .str))<=30:=by
 have:=tM (m:=0) (l:=A.map D.str) λ d hd=>by
  obtain⟨x,_,rfl⟩:=dI.mp hd;exact qj _
 show eQ _+1<=30;lia
theorem iW(h:f∈a_ A):∃r∈A,r.nm=f:=by obtain⟨r,a,b⟩:=dI.mp h;exact⟨r,a,b⟩
theorem To(a b c:D):xT [a,b,c]=cP (DY [.i a,.i b,.i c,.z,.z]):=aK
theorem VU(g:eK xs)(nd:(a_ A).Nodup){f O:Rw}(hg:O∈A)(h2:f.fr=[O.nm])(h3:f.rs=Y++[.str Z])(hl:A.length≤1000):∃rest,xT [f.d,.l (aZ A),.l (xs.map .int)]=some (.t rest)∧(rest=[]∨∃l h:D,rest=[l,h]∧qX l h∧¬(f.w=dR)∧¬(Z=cU)∧¬(O.w=bL)∧(Z=f_→∃n:Int,l=.int n∧1≤n∧n≤50)):=by
 obtain⟨v,o,_,_⟩:=g.at 42 aH aH;obtain⟨a,U,a0,_⟩:=g.at 43 aH aH;obtain⟨b,V,b0,b1⟩:=g.at 44 aH aH;obtain⟨c,W,c0,_⟩:=g.at 45 aH aH;obtain⟨l,h,K,t⟩:=BX g;have x:=kL f;have i2:=ue f;rw[h2]at i2;have i:=rD f;rw[h3]at i;have la:=qD Y (.str Z);have j0:cw ([O.nm].map D.str) 0=some (.str O.nm):=rfl;have y:du (tB (e2 bM j3 (e2 bA y_ (zI 0)))) (eV 0) [.i f.d] (aZ A)=some ((A.filter λ r=>decide (r.nm=O.nm)).map Rw.d):=jV A (λ r _=>by
  have k1:=rE r;generalize [O.nm].map D.str=G,r.d=rd,f.d=fd at*;simp[k1,i2,j0]) λ r _ _=>rfl
 have N:(aZ A).length<=sizeLine:=cv (by simpa using hl);have Q:∃(C:aG)(B:D),(A.filter λ r=>decide (r.nm=O.nm)).map Rw.d=C/\cw C 0=some B/\bA B (.int 0)=some (.str O.w):=by
  have m:O∈A.filter λ r=>decide (r.nm=O.nm):=List.mem_filter.mpr ⟨hg,by simp⟩;generalize hF:(A.filter λ r=>decide (r.nm=O.nm))=F at m;cases F with
  |nil=>cases m
  |cons q r=>
   have M:=List.mem_filter.mp (hF▸qg:q∈A.filter λ r=>decide (r.nm=O.nm));have e:q.nm=O.nm:=by simpa using M.2
   have k:=kY nd M.1;rw[e,kY nd hg]at k;exact⟨_,q.d,rfl,mR _ _,by rw[<-Zk k];rfl⟩
 obtain⟨C,B,eq,σ,T⟩:=Q;rw[eq]at y;generalize Y++[.str Z]=P,[O.nm].map D.str=G,aZ A=R,xs.map D.int=X,f.d=fd at*;rw[To];by_cases p:v.fmod 2=0
 .exact⟨[],eW (by simp[o,p]) aK,.inl rfl⟩
 by_cases j:f.w=dR
 .exact⟨[],eW (by simp[o,p,x,j]) aK,.inl rfl⟩
 by_cases s:Z=cU
 .exact⟨[],eW (by simp[o,p,x,j,i,la,s]) aK,.inl rfl⟩
 have I:=λ d k=>(bC (by simp[o,p,x,j,i,la,s]) k:cP (DY [.i fd,.i (.l R),.i (.l X),.z,.z])=d)
 by_cases u:O.w=bL
 .exact⟨[],I _ (eW (by simp[y,N,σ,T,u]) aK),.inl rfl⟩
 have ρ:=λ d k=>I d (bC (by simp[y,N,σ,T,u]) k);by_cases E:Z=f_
 .have fa:a.fmod 50=a%50:=fx aH;have fc:c.fmod 2=c%2:=fx aH;have H:∃h:D,cw [.n,.int (1+a%50+b)] (c%2)=some h/\(h=.n\/h=.int (1+a%50+b)):=by
   have z:c%2=0\/c%2=1:=aD;rcases z with z|z<;>rw[z]
   .exact⟨_,rfl,.inl rfl⟩
   .exact⟨_,rfl,.inr rfl⟩
  obtain⟨h,eh,L⟩:=H;refine⟨[.int (1+a%50),h],ρ _ (by simp[K,i,la,E,U,V,W,fa,fc,eh]),.inr ⟨_,_,rfl,⟨.inr ⟨_,rfl,by lia⟩,?_,?_⟩,j,s,u,λ _=>⟨_,rfl,by lia,by lia⟩⟩⟩
  .rcases L with rfl|rfl
   .exact .inl rfl
   .exact .inr ⟨_,rfl,by lia⟩
  .rcases L with rfl|rfl
   .exact .inr (.inl rfl)
   .exact .inr (.inr ⟨_,_,rfl,rfl,by lia⟩)
 .exact⟨[l,h],ρ _ (by simp[K,i,la,E]),.inr ⟨l,h,rfl,t,j,s,u,λ z=>absurd z E⟩⟩
abbrev vJ:aP:=gu++(bL::h_++[bI,bI,hZ])
abbrev i9:aG:=vJ.map .str
def Dl(w:Str):Bool:=bZ (.str w) (.str bL)
abbrev cN(A:cX):cX:=A.filter λ r=>aY r.w
abbrev et(A:cX):cX:=A.filter λ r=>d4 r.w
abbrev hQ(A:cX):cX:=A.filter λ r=>Dl r.w
abbrev dy(A:cX):aG:=A.map λ r=>.str r.nm
def mO:FS:=Nt
def hds:dr:=uU.cps.toList
theorem UK:(List.range 24).all (λ n=>(match hds[n]? with|some c=>decide (97<=c)&&decide (c<123)&&(hds.take n).all (λ x=>decide (x≠c))|none=>false))=true:=aW
theorem cm9(h:n<24):∃c:Nat,hds[n]?=some c/\97<=c/\c<123/\c∉hds.take n:=by
 have e:=iX.mp UK n (List.mem_range.mpr h);cases O:hds[n]? with
 |none=>rw[O]at e;cases e
 |some c=>
  rw[O]at e;simp only[zm,zh,jm]at e;exact⟨c,rfl,e.1.1,e.1.2,λ q=>e.2 c q rfl⟩
theorem cm8{n c:Nat}(h:hds[n]?=some c):iR uU (n:Int)=some (.str (cJ c)):=by obtain⟨hn,e⟩:=ir.mp h;unfold iR;rw[if_pos aW];unfold iq;rw[if_pos aD,if_pos (by exact_mod_cast hn),cD];show aF hds[(n:Int).toNat]? _=_;rw[Zx,h,cD]
theorem ZD(k:Str):∃n,n<=7/\(Txt.slice k none (some 7)).cps.toList=k.cps.toList.take n:=by have e:=beq_iff_eq.mp (Yy (x:=k) (n:=7) aH rfl);refine⟨_,?_,by rw[e];rfl⟩;split<;>lia
theorem ck4(h1:97<=c)(h2:c<123)(Y:aO k):aO (cJ c++Txt.slice k none (some 7))/\kx (cJ c++Txt.slice k none (some 7))=c:=by
 obtain⟨n,hn,e⟩:=ZD k;have l:(cJ c++Txt.slice k none (some 7)).cps.toList=c::k.cps.toList.take n:=by rw[yS,e];rfl
 have Z:(k.cps.toList.take n).length<=7:=zw (List.length_take_le ..) hn;refine⟨⟨?_,?_,λ x O=>?_⟩,by unfold kx;rw[l];rfl⟩
 .rw[fT,l,zt];lia
 .rw[fT,l,zt];lia
 .rw[l]at O;rcases qx O with q|q
  .lia
  .exact Y.2.2 x (Zg q)
theorem k9(h:du T F fr zs=some ys)(hi:J[i]?=some (.i (.l zs)))(q:fj J js=some fr)(hl:zs.length<=1000):c4 js (eV i) T F J=some (.l ys,J):=by
 have v:eV i J=some (.l zs,J):=by simp[hi]
 unfold c4;rw[v,cD];show aF (some zs) _=_;rw[cD,q,cD,h,cD,if_pos (cv hl)]
theorem YH(a b:D):uG [a,b]=cP (GQ [.i a,.i b,.z,.z,.z,.z,.z,.z,.z,.z,.z,.z,.z,.z]):=aK
structure An(A:cX)(wd nm:Str)(f0 f1:Str):Prop where
 mem:wd∈vJ
 key:aO nm
 hd:hds[A.length]?=some (kx nm)
 ch:¬(wd=cH)→cN A≠[]∧f0∈a_ (cN A)∧f1∈a_ (cN A)
 ask:wd=bI→et A≠[]
 pour:wd=bH→2≤(cN A).length
theorem Ry(g:eK xs)(A:cX)(hl:A.length≤24)(h1:J[1]?=some (.i (.l (xs.map .int))))(h4:J[4]?=some (.i (.l (dy (cN A))))):∃f0 f1:Str,mq [4,1] (dZ (zI 2)) bD (e2 bA za (e2 cV zb (eF oi (aC (zI 1) (aC (eF cg c5) aN))))) J=some (.l [.str f0,.str f1],J)∧(cN A≠[]→f0∈a_ (cN A)∧f1∈a_ (cN A)):=by
 have H:(cN A).length<=24:=zw (Qi ..) hl;have E:∀k:Int,0≤k→k<2→∃f:Str,e2 bA za (e2 cV zb (eF oi (aC (zI 1) (aC (eF cg c5) aN)))) [.i (.int k),.i (.l (dy (cN A))),.i (.l (xs.map .int))]=some (.str f,[.i (.int k),.i (.l (dy (cN A))),.i (.l (xs.map .int))])∧(cN A≠[]→f∈a_ (cN A)):=λ k k0 k1=>by
  obtain⟨v,d,K,_⟩:=g.at (1+k) aD aD;generalize cN A=C at*;have p:(dy C).length=C.length:=qz ..;have I:C.length<=sizeLine:=cv aD;have o:C.length+1<=sizeLine:=cv aD;obtain⟨m,n,b,ρ⟩:∃m:Int,(if(C.length:Int)>1 then(C.length:Int)else 1)=m/\0<m/\(m=C.length\/(m=1/\C.length<=1)):=⟨_,rfl,by split<;>lia,by split<;>lia⟩;have j:v.fmod m=v%m:=fx b;have O:=jo v (show m≠0 by lia);have w:=yz v b;have y:fN m=true:=ib aD aD;have s:¬(m=0):=aD;have P:∃f:Str,cw (dy C++[.str "a"]) (v%m)=some (.str f)∧(C≠[]→f∈a_ C):=by
   obtain⟨f,a,q⟩:=qR D.str (a_ C++[fE]) O cR;have e:(a_ C++[fE]).map D.str=dy C++[.str "a"]:=by simp[Qz]
   rw[e]at q;refine⟨f,q,λ l=>?_⟩;have G:=List.length_pos_iff.mpr l;have x:v%m<C.length:=aD;obtain⟨B,Y,Z⟩:=qR D.str (a_ C) O cR;have:cw (dy C++[.str "a"]) (v%m)=cw ((a_ C).map .str) (v%m):=by
    have e2:dy C=(a_ C).map .str:=by simp[Qz]
    unfold cw iq;rw[e2,if_pos O,if_pos cR,if_pos O,if_pos cR];show(_++_)[(v%m).toNat]?=((a_ C).map D.str)[(v%m).toNat]?;rw[ju cR]
   rw[this,Z]at q;cases q;exact Y
  obtain⟨f,q,a⟩:=P;refine⟨f,?_,a⟩;generalize xs.map D.int=X,dy C=σ at*;simp[d,p,o,n,j,s,q]
 obtain⟨f0,e0,t⟩:=E 0 aH aH;obtain⟨f1,e1,u⟩:=E 1 aH aH;refine⟨f0,f1,?_,λ h=>⟨t h,u h⟩⟩;generalize F:e2 bA za (e2 cV zb (eF oi (aC (zI 1) (aC (eF cg c5) aN))))=EE,xs.map D.int=X,dy (cN A)=σ at*;have i:fj J [4,1]=some [.i (.l σ),.i (.l X)]:=by simp[h1,h4]
 have z:(2:Nat)<=sizeLine:=cv aH;have c:du bD EE [.i (.l σ),.i (.l X)] [.int 0,.int 1]=some [.str f0,.str f1]:=by simp[e0,e1]
 have r:dZ (zI 2) J=some ([.int 0,.int 1],J):=aK;generalize dZ (zI 2)=RR at*;unfold mq;rw[r,cD];rw[i,cD,c,cD];exact if_pos z
theorem oM(h:c7 (.l l)<=30):bM (.l l) (.l [])=some (.b l.isEmpty):=by unfold bM;rw[if_pos ⟨h,by decide⟩];cases l<;>rfl
theorem oO(a b:Str):bM (.str a) (.str b)=some (.b (decide (a=b))):=aQ
theorem rm(h:σ J=some (.nx ρ'))(k:cP (R ρ')=x):cP (aL σ R J)=x:=by simp[h,k]
theorem Ww(h1:J[1]?=some (.i (.l X)))(h2:J[2]?=some (.i (.l q)))(Y:cw X 0=some (.int v))(O:cw q (v.fmod 18)=some (.str wd))(l:q.length=18):e2 bA (eV 2) (e2 cV j_ (eF cg fF)) J=some (.str wd,J):=by have z:18<=sizeLine:=cv aH;simp[h1,h2,Y,O,l]
theorem Xs(Z:J[0]?=some (.i (.l R)))(h1:J[1]?=some (.i (.l X)))(q:R.length=n)(O:n≤sizeLine)(ix:iR (Str.ofString "qhbxdmaztgkpcwrvfnyjuesl") (n:Int)=some (.str (cJ c)))(ek:kq [.l X,.int 46,.int 1]=some (.l K))(k0:cw K 0=some (.str k))(kz:k.length≤sizeLine)(Y:(cJ c).length+(Txt.slice k none (some 7)).length≤sizeLine)(hn:cJ c++Txt.slice k none (some 7)=nm):e2 cu (e2 bA (zR "qhbxdmaztgkpcwrvfnyjuesl") (eF cg eJ)) (cz (e2 bA (eF kq (aC (eV 1) (aC (zI 46) nM))) (zI 0)) oN (oS (zI 7))) J=some (.str nm,J):=by have s:mY (.str k) none (some 7)=some (.str (Txt.slice k none (some 7))):=if_pos kz;generalize hL:Str.ofString "qhbxdmaztgkpcwrvfnyjuesl"=L at*;simp[Z,h1,q,ix,ek,k0,s,Y,hn]
theorem WL(g:eK xs)(hl:A.length<24)(aa:c7 (.l (aZ (et A)))<=30):∃wd nm f0 f1:Str,An A wd nm f0 f1/\uG [.l (aZ A),.l (xs.map .int)]=cP (mO [.i (.l (aZ A)),.i (.l (xs.map .int)),.i (.l i9),.i (.str wd),.i (.l (dy (cN A))),.i (.l (aZ (et A))),.i (.l (dy (hQ A))),.i (.str nm),.i (.l [.str f0,.str f1]),.z,.z,.z,.z,.z]):=by
 obtain⟨v,u,v0,_⟩:=g.at 0 aH aH;obtain⟨wd,hw,w⟩:=qR D.str vJ (yp _ aH) (yw _ aH);obtain⟨I,_,j,H,m,_⟩:=vd g 46 1 aH;have j:=j;obtain⟨k,rfl⟩:∃k,I=[k]:=by
  cases I with
  |nil=>cases H
  |cons a r=>cases r with
   |nil=>exact⟨a,rfl⟩
   |cons=>cases H
 have m:=m k qg;obtain⟨c,E,P,Q,_⟩:=cm9 hl;obtain⟨kn,hn⟩:=ck4 P Q m;have G:=cm8 E;have L:(aZ A).length=A.length:=qz ..;have M:A.length<=sizeLine:=cv aD;have k0:cw ([k].map D.str) 0=some (.str k):=rfl;have ρ:k.length<=sizeLine:=cv (by have:=m.2.1;lia);have N:(cJ c).length+(Txt.slice k none (some 7)).length<=sizeLine:=by have:=kn.2.1;rw[G3]at this;exact cv aD
 generalize U:cJ c++Txt.slice k none (some 7)=nm at*;obtain⟨f0,f1,t,F⟩:=Ry g A aD (J:=[.i (.l (aZ A)),.i (.l (xs.map .int)),.i (.l i9),.i (.str wd),.i (.l (dy (cN A))),.i (.l (aZ (et A))),.i (.l (dy (hQ A))),.i (.str nm),.z,.z,.z,.z,.z,.z]) rfl rfl;have x:du (tB (e2 bP i3 NV)) j3 [.i (.l i9)] (aZ A)=some (dy (cN A)):=jV A (λ r _=>by kernel_rfl) λ r _ _=>rfl;have y:du (tB (e2 bP i3 NS)) (eV 0) [.i (.l i9)] (aZ A)=some (aZ (et A)):=jV A (λ r _=>by kernel_rfl) λ r _ _=>rfl;have B:du (tB (e2 bM i3 (zR "pair"))) j3 [] (aZ A)=some (dy (hQ A)):=jV A (λ r _=>by kernel_rfl) λ r _ _=>rfl;have n:(aZ A).length<=1000:=aD;have o:∀O:Str,(O=cH∨(O=wd∧cN A≠[]∧(wd=bI→et A≠[])∧(wd=bH→2≤(cN A).length)))→An A O nm f0 f1:=λ O h=>by
  have hd:hds[A.length]?=some (kx nm):=by rw[hn];exact E
  rcases h with rfl|⟨rfl,f,i,V⟩
  .exact⟨by simp,kn,hd,λ z=>absurd rfl z,λ z=>absurd z aW,λ z=>absurd z aW⟩
  .exact⟨hw,kn,hd,λ _=>⟨f,F f⟩,i,V⟩
 have T:∃O:Str,An A O nm f0 f1∧bG Nz (bN 3 (zR "in")) sN [.i (.l (aZ A)),.i (.l (xs.map .int)),.i (.l i9),.i (.str wd),.i (.l (dy (cN A))),.i (.l (aZ (et A))),.i (.l (dy (hQ A))),.i (.str nm),.i (.l [.str f0,.str f1]),.z,.z,.z,.z,.z]=some (.nx [.i (.l (aZ A)),.i (.l (xs.map .int)),.i (.l i9),.i (.str O),.i (.l (dy (cN A))),.i (.l (aZ (et A))),.i (.l (dy (hQ A))),.i (.str nm),.i (.l [.str f0,.str f1]),.z,.z,.z,.z,.z]):=by
  have s4:(dy (cN A)).isEmpty=(cN A).isEmpty:=by cases cN A<;>rfl
  have W:(aZ (et A)).isEmpty=(et A).isEmpty:=by cases et A<;>rfl
  have e4:=oM (l:=dy (cN A)) (by
   have:=k_ (a_ (cN A));rw[zu]at this;exact this)
  have e:=oM aa;rw[s4]at e4;rw[W]at e;have K:(dy (cN A)).length=(cN A).length:=qz ..;have z4:(cN A).length<=sizeLine:=cv (zw (Qi ..) aD);clear x y B t F u w j G L M k0 ρ N n;generalize dy (cN A)=S4,aZ (et A)=S5,dy (hQ A)=S6,hW:i9=WW,xs.map D.int=X,aZ A=R at*;by_cases a:cN A=[]
  .rw[a]at e4;exact⟨_,o _ (.inl rfl),by simp[-fL,e4]⟩
  .rw[List.isEmpty_eq_false_iff.mpr a]at e4;by_cases b:wd=bI∧et A=[]
   .rw[b.2]at e;have Y:=zl b.1;exact⟨_,o _ (.inl rfl),by simp[-fL,-decide_eq_true_eq,e4,e,oO,Y]⟩
   .have C:wd=bI→bM (.l S5) (.l [])=some (.b false)∧et A≠[]:=λ q=>by
     have:=λ z=>b ⟨q,z⟩;rw[List.isEmpty_eq_false_iff.mpr this]at e;exact⟨e,this⟩
    by_cases c:wd=bH∧(cN A).length<2
    .have s:((cN A).length:Int)<2:=aD;have Y:decide (wd=bI)=false:=zn (by rw[c.1];decide+kernel);have Z:=zl c.1;exact⟨_,o _ (.inl rfl),by simp[-fL,e4,oO,Y,Z,K,s]⟩
    .refine⟨wd,o _ (.inr ⟨rfl,a,λ q=>(C q).2,λ q=>Z6 λ z=>c ⟨q,z⟩⟩),?_⟩;by_cases f:wd=bI
     .have e:=(C f).1;have Y:=zl f;have Z:decide (wd=bH)=false:=zn (by rw[f];decide+kernel);simp[-fL,e4,oO,Y,e,Z]
     .have Y:=zn f;by_cases i:wd=bH
      .have s:¬(((cN A).length:Int)<2):=λ z=>c ⟨i,by lia⟩;have Z:=zl i;simp[-fL,e4,oO,Y,Z,K,s]
      .have Z:=zn i;simp[-fL,e4,oO,Y,Z]
 obtain⟨O,p,σ⟩:=T;refine⟨O,nm,f0,f1,p,?_⟩;rw[YH];exact gY (d:=.l ((gu++[bL]).map .str)) aK (gY aK (gY (Ww rfl rfl u w rfl) (gY (k9 x rfl rfl n) (gY (k9 y rfl rfl n) (gY (k9 B rfl rfl n) (gY (Xs rfl rfl L M G j k0 ρ N U) (gY t (rm σ rfl))))))))
def oJ(w:Str)(n:Nat):Option (aP):=match ip [.str w,.int n]with
 |some (.l l)=>mZ l
 |_=>none
abbrev uS:aP:=[gH,gJ,c1,bH]
abbrev gz:aP:=cc.map (·.1)
def xW(p:Str):Bool:=match bP (.str p) jN with
 |some (.b b)=>b
 |_=>false
def MQ(w:Str)(n:Nat):Bool:=match oJ w n,oJ w (n+1)with
 |some a,some b=>decide (a.length≤30)&&decide (b.length≤30)&&(a.head?==some bW)&&!(n<2&&a.length==n)&&(if uS.contains w then a.all xW&&b.all xW else !(a.length==n&&b.length==n+1))
 |_,_=>false
theorem ci9:(gz.all λ w=>(List.range 21).all (MQ w))=true:=aK
theorem Hf:∀{l:aG}{ss:aP},mZ l=some ss->l=ss.map .str
 |[],ss,h=>by cases h;rfl
 |d::r,ss,h=>by
  cases d with
  |str s=>
   rw[AK]at h;obtain⟨q,a,b⟩:=aS h;cases b;rw[Hf a];rfl
  |_=>cases h
theorem AD(h:oJ w n=some a):ip [.str w,.int n]=some (.l (a.map .str)):=by
 unfold oJ at h;split at h
 .rename_i l e;rw[e,Hf h]
 .cases h
theorem cw6(h:w∈gz)(hn:n<21):∃a b:aP,oJ w n=some a∧oJ w (n+1)=some b∧a.length≤30∧b.length≤30∧a.head?=some bW∧(n<2→a.length≠n)∧(if uS.contains w then(∀p∈a,xW p=true)∧∀p∈b,xW p=true else ¬(a.length=n∧b.length=n+1)):=by
 have e:=iX.mp (iX.mp ci9 w h) n (List.mem_range.mpr hn);unfold MQ at e;split at e
 .rename_i a b O c;refine⟨a,b,O,c,?_⟩;rw[zm,zm,zm,zm]at e;obtain⟨⟨⟨⟨f,q⟩,e1⟩,e2⟩,e3⟩:=e;refine⟨zy f,zy q,beq_iff_eq.mp e1,λ d Z=>?_,?_⟩
  .rw[Z]at e2;simp[d]at e2
  .split
   .rename_i v;rw[if_pos v,zm]at e3;exact⟨iX.mp e3.1,iX.mp e3.2⟩
   .rename_i v;rw[if_neg v]at e3;intro⟨Y,g⟩;rw[Y,g]at e3;simp at e3
 .cases e
theorem sE(q:bP (.str p) jN=some (.b true))(h:p9 [.str w]=some (.b b)):dM [.str p,.str w]=some (.b b):=by simp[dM,lR,q,h]
theorem HW(q:Str×Str->Bool):∀P:pX,(∀p∈P,dM [.str p.1,.str p.2]=some (.b (q p)))->dF bD (eF dM (aC (eV 0) c5)) [] (gG P)=some (P.map λ p=>.b (q p))
 |[],_=>rfl
 |(a,b)::r,h=>by
  have c:=h _ qg;have e:eF dM (aC (eV 0) c5) [.i (.str a),.i (.str b)]=some (.b (q (a,b)),[.i (.str a),.i (.str b)]):=by simp[c]
  rw[gG,zj,uD];show aF (some (D.str a,D.str b)) _=_;rw[cD];show aF (some (true,_)) _=_;rw[cD,if_pos rfl,e,cD,HW q r λ p O=>h p (ja _ O),cD];rfl
theorem Bj(q:α->Bool)(P:List α):gf [.l (P.map λ p=>.b (q p))]=some (.b (P.all q)):=by
 have e:lh (P.map λ p=>D.b (q p))=some (P.map q):=by
  induction P with
  |nil=>rfl
  |cons p r O=>rw[zj,A0,O,o5];rfl
 rw[Cw,e,Bl];simp
abbrev Wd(s:Str):Prop:=32∉s.cps.toList/\s.length<=13
theorem Ki(O:∀s∈w::us,Wd s)(hn:us.length<=21)(hw:bE w cc=none):fH [.str (Str.join bR (w::us))]=some .n:=by
 have sp:=yC aQ λ s h=>(O s h).1;have Y:(Txt.split (Str.join bR (w::us)) bR).map D.str=(w::us).map D.str:=by rw[sp]
 have Z:=p_ (w::us) λ s h=>(O s h).2;generalize Str.join bR (w::us)=ρ at Y Z⊢;have c:ρ.length<=100000:=by simp at Z;lia
 have b:cw ((w::us).map D.str) 0=some (.str w):=mR _ _;have q:l4 cc (.str w)=some (.b true):=by rw[AY,hw];rfl
 have bl:=wQ;generalize a:l4 cc=KK at q;generalize (w::us).map D.str=W at*;unfold fH uE;rw[a];simp[bl,c,Y,b,q]
theorem Ca(hs:∀s∈w::us,Wd s)(hn:us.length<=21)(hw:∃form:Str,bE w cc=some (.str form))(hp:ip [.str w,.int (us.length:Int)]=some (.l (ps.map .str)))(hq:ps.length<=30)(h:ps.length=us.length->∃(P:pX)(q:Str×Str->Bool),P.map (·.1)=ps/\P.map (·.2)=us/\(∀p∈P,dM [.str p.1,.str p.2]=some (.b (q p)))/\P.all q=false):fH [.str (Str.join bR (w::us))]=some .n:=by
 have sp:=yC aQ λ s h=>(hs s h).1;have l:(Txt.split (Str.join bR (w::us)) bR).map D.str=(w::us).map D.str:=by rw[sp]
 have j:=p_ (w::us) λ s h=>(hs s h).2;generalize Str.join bR (w::us)=ρ at l j⊢;have x:ρ.length<=100000:=by simp at j;lia
 have v:cw ((w::us).map D.str) 0=some (.str w):=mR _ _;obtain⟨form,hw⟩:=hw;have k:l4 cc (.str w)=some (.b false):=by rw[AY,hw];rfl
 have bl:=wQ;have m:eg ((w::us).map D.str) (some 1) none=us.map .str:=Ah [.str w] _;have f:((w::us).map D.str).length=us.length+1:=aQ;have O:us.length+1<=sizeLine:=cv aD;have G:us.length<=sizeLine:=cv aD;have F:us.length<=1000:=aD;have C:(us.map D.str).length=us.length:=qz ..;have c:(ps.map D.str).length=ps.length:=qz ..;have Y:=cv aD;have y:ps.length<=1000:=aD;have T:∀a b d e:Sl,c_ (tB (e2 dv (eF cg iK) (e2 ke (eF cg c5) (zI 1)))) (cZ (tV (eF gf (aC (eU [] (eV 4) bD (eF dM (aC (eV 0) c5))) aN)))) [a,.i (.l ((w::us).map D.str)),b,.i (.l (ps.map .str)),.i (.l (d5 (ps.map .str) (us.map .str))),d,e]=some (true,[a,.i (.l ((w::us).map D.str)),b,.i (.l (ps.map .str)),.i (.l (d5 (ps.map .str) (us.map .str))),d,e]):=λ a b d e=>by
  by_cases hl:ps.length=us.length
  .obtain⟨P,q,rfl,rfl,n,o⟩:=h hl;have z:d5 ((P.map (·.1)).map D.str) ((P.map (·.2)).map D.str)=gG P:=by rw[zu,zu];exact BR P
   rw[z];have E:P.length<=21:=by simpa using hn
   have i:eU [] (eV 4) bD (eF dM (aC (eV 0) c5)) [a,.i (.l ((w::P.map (·.2)).map D.str)),b,.i (.l ((P.map (·.1)).map .str)),.i (.l (gG P)),d,e]=some (.l (P.map λ p=>.b (q p)),[a,.i (.l ((w::P.map (·.2)).map D.str)),b,.i (.l ((P.map (·.1)).map .str)),.i (.l (gG P)),d,e]):=A4 (HW q P n) rfl cR;have g:=Bj q P;rw[o]at g;generalize eU [] (eV 4) bD (eF dM (aC (eV 0) c5))=G1 at i⊢;have e1:((P.map (·.1)).length:Int)=((P.map (·.2)).length:Int):=by rw[hl]
   generalize (w::P.map (·.2)).map D.str=W at*;generalize A:(P.map (·.1)).map D.str=U at*;generalize (P.map λ p=>D.b (q p))=B at*;generalize gG P=TL at*;generalize (P.map (·.1)).length=n1 at*;generalize (P.map (·.2)).length=n2 at*;simp[f,c,e1,i,g]
  .have hl:¬((ps.length:Int)=(us.length:Int)):=aD;generalize (w::us).map D.str=W at*;generalize us.map D.str=U at*;generalize ps.map D.str=Q at*;generalize d5 Q U=Z at*;simp[f,c,hl]
 clear h;generalize t:c_ (tB (e2 dv (eF cg iK) (e2 ke (eF cg c5) (zI 1)))) (cZ (tV (eF gf (aC (eU [] (eV 4) bD (eF dM (aC (eV 0) c5))) aN))))=TT at T;generalize r:l4 cc=KK at k;generalize (w::us).map D.str=W at*;generalize us.map D.str=U at*;generalize ps.map D.str=Q at*;generalize u:d5 Q U=Z at*;unfold fH uE;rw[r,t];simp[bl,x,l,v,k,f,hp,m,c,y,u,T]
def W(s:Str):Prop:=s.length<=13/\∀c∈s.cps.toList,33<=c/\c<123
instance(s:Str):Decidable (aO s):=by unfold aO;infer_instance
theorem W.wd(h:W s):Wd s:=⟨λ q=>absurd (h.2 _ q).1 aH,h.1⟩
theorem W.lf(h:W s):10∉s.cps.toList:=λ q=>absurd (h.2 _ q).1 aH
theorem aO.w(k:aO s):W s:=⟨by have:=k.2.1;lia,λ c q=>by have:=k.2.2 c q;lia⟩
theorem Jq(h:W s):(s.cps.toList.all λ c=>ej (cJ c) cQ)=decide (∀c∈s.cps.toList,97<=c/\c<123):=by
 rw[zo,jm,zh];constructor
 .intro q c O;have:=q c O;rw[z0 c (h.2 c O).2]at this;exact⟨zy this,(h.2 c O).2⟩
 .intro q c O;rw[z0 c (h.2 c O).2];exact zl (q c O).1
theorem Jr{s:Str}(h:∀c∈s.cps.toList,c<123):(s.cps.toList.all λ c=>ej (cJ c) iN)=decide (∀c∈s.cps.toList,48<=c/\c<=57):=by
 rw[zo,jm,zh];constructor
 .intro q c O;have:=q c O;rw[ve c (h c O),zm]at this;exact⟨zy this.1,zy this.2⟩
 .intro q c O;rw[ve c (h c O),zm];exact⟨zl (q c O).1,zl (q c O).2⟩
theorem tr(h:W s):p9 [.str s]=some (.b (decide (aO s))):=by
 by_cases k:aO s
 .rw[Ko k,zl k]
 .rw[zn k];have c:=h.1;have O:s.length<=sizeLine:=cv aD;have g:=rY cQ s aD (J:=[.i (.str s)]) (i:=0) rfl;rw[Jq h]at g;generalize Z:eF gf NM=GG at g;unfold p9 Ai;rw[Z];by_cases l:1<=s.length/\s.length<=8
  .have a:=zn λ q=>k ⟨l.1,l.2,q⟩;rw[a]at g;have e1:(1:Int)<=(s.length:Int):=aD;have Y:(s.length:Int)<=8:=aD;simp[O,g,e1,Y]
  .by_cases e:(1:Int)<=(s.length:Int)
   .have b:¬((s.length:Int)<=8):=aD;simp[O,e,b]
   .simp[O,e]
theorem Km(h:du T F fr (km s)=some ys)(hi:J[i]?=some (.i (.str s)))(q:fj J js=some fr)(hl:s.length<=1000):c4 js (eV i) T F J=some (.l ys,J):=by
 have O:(km s).length<=sizeLine:=by rw[Ie];exact cv hl
 have v:eV i J=some (.str s,J):=by simp[hi]
 unfold c4;rw[v,cD];show aF (some (km s)) _=_;rw[cD,q,cD,h,cD,if_pos O]
theorem HY(L s:Str):bM (.l ((s.cps.toList.filter λ c=>!ej (cJ c) L).map λ c=>D.str (cJ c))) (.l [])=some (.b (s.cps.toList.all λ c=>ej (cJ c) L)):=by
 rw[oM (by
  have:=k_ ((s.cps.toList.filter λ c=>!ej (cJ c) L).map cJ)
  rwa [zu]at this)]
 congr 2;rw[List.isEmpty_map];induction s.cps.toList with
 |nil=>rfl
 |cons c r q=>
  rw[List.filter_cons,Qo];cases ej (cJ c) L with
  |true=>simpa using q
  |false=>rfl
theorem Ez(h:W s):mw [.str s]=some (.b (decide (aO s))):=by
 have b:=h.1;have Y:s.length<=sizeLine:=cv aD;have g:=Km (T:=tB yZ) (F:=eV 0) (J:=[.i (.str s),.i (.str cQ)]) (js:=[1]) (i:=0) (jV s.cps.toList (p:=λ c=>!ej (cJ c) cQ) (λ c _=>by simp) λ c _ _=>rfl) rfl rfl aD;have f:=HY cQ s;rw[Jq h]at f;generalize (s.cps.toList.filter λ c=>!ej (cJ c) cQ).map (λ c=>D.str (cJ c))=C at*;generalize Z:c4 [1] (eV 0) (tB yZ) (eV 0)=GG at g;have e0:(s=fh)↔s.length=0:=by
  constructor
  .intro q;rw[q];decide+kernel
  .intro q;refine lJ ?_;rw[fT]at q;rw[List.length_eq_zero_iff.mp q];decide+kernel
 by_cases z:s.length=0
 .have k:¬aO s:=λ k=>by have:=k.1;lia
  rw[zn k];have O:=e0.mpr z;simp[mw,zL,O]
 .have O:¬(s=fh):=λ q=>z (e0.mp q);unfold mw zL;rw[Z];by_cases l:(s.length:Int)<9
  .have a:decide (aO s)=decide (∀c∈s.cps.toList,97<=c/\c<123):=by rw[decide_eq_decide];exact⟨λ k=>k.2.2,λ q=>⟨by lia,by lia,q⟩⟩
   rw[a];generalize decide (∀c∈s.cps.toList,97<=c/\c<123)=B at*;simp[-fL,O,Y,l,g,f]
  .have k:¬aO s:=λ k=>by have:=k.2.1;lia
   rw[zn k];simp[O,Y,l]
theorem Cu:∀(k:Nat)(L:dr),L.length=k+1->(∀c∈L,48<=c/\c<=57)->(L=[48]\/L.head?≠some 48)->∃m,L=dg m/\m<10^(k+1)
 |0,L,hl,hd,_=>by
  obtain⟨c,rfl⟩:=List.length_eq_one_iff.mp hl;have:=hd c qg;exact⟨c-48,by rw[my aD];congr 1;lia,by lia⟩
 |k+1,L,hl,hd,b=>by
  obtain⟨M,c,rfl⟩:∃M c,L=M++[c]:=by
   rcases List.eq_nil_or_concat L with rfl|⟨M,c,rfl⟩
   .cases hl
   .exact⟨M,c,by simp⟩
  have Z:M.length=k+1:=by simpa using hl
  have e:=hd c aQ;obtain⟨a,r,rfl⟩:=jf (l:=M) (λ z=>by rw[z]at Z;cases Z);have O:a≠48:=λ z=>by
   rcases b with q|q
   .have:=y0 List.length q;simp at this
   .exact q (by rw[z];rfl)
  obtain⟨m,Y,lt⟩:=Cu k (a::r) Z (λ x d=>hd x (jy _ d)) (.inr (by simpa using O));have f:m≠0:=λ z=>by
   rw[z,my aH]at Y;cases Y;exact O rfl
  refine⟨10*m+(c-48),?_,?_⟩
  .rw[sV aD,show(10*m+(c-48))/10=m by lia,show(10*m+(c-48))%10=c-48 by lia,<-Y,show 48+(c-48)=c by lia]
  .rw[Nat.pow_succ];lia
abbrev mJ:Str:=gL
theorem fu:mJ.cps.toList=[48]:=aW
theorem fJ:(cJ c=mJ)↔c=48:=by
 constructor
 .intro q;have:=y0 (λ x:Str=>x.cps.toList) q;rw[fu]at this;exact(yr (show[c]=[48]from this)).1
 .intro q;rw[q];exact lJ fu.symm
structure Fg(s f:Str)(b:Bool):Prop where
 st:Txt.startswith s gK=b
 s1:decide (Txt.slice s none (some 1)=gK)=b
 fg:if b=true then Txt.slice s (some 1) none=f/\s.cps.toList=45::f.cps.toList else f=s
theorem cv5{t:Str}{i:Nat}(h:i<=t.length):(Txt.slice t none (some (i:Int))).cps.toList=t.cps.toList.take i:=by have e:=beq_iff_eq.mp (Yy (x:=t) (n:=(i:Int)) (by lia) rfl);rw[e,if_neg (by lia)];rfl
theorem Mf(s:Str):∃f b,Fg s f b:=by
 cases e:s.cps.toList with
 |nil=>
  have z:s=fh:=lJ (by rw[e];decide+kernel);subst z;exact⟨fh,false,by decide+kernel,by decide+kernel,rfl⟩
 |cons c r=>
  have st:=yA e;have Z:1<=s.length:=by rw[fT,e];simp
  have O:(Txt.slice s none (some 1)).cps.toList=[c]:=by have:=cv5 (t:=s) (i:=1) Z;rw[e]at this;exact this
  have Y:decide (Txt.slice s none (some 1)=gK)=decide (c=45):=by
   rw[decide_eq_decide];constructor
   .intro q;rw[q]at O;have m:gK.cps.toList=[45]:=aW;rw[m]at O;exact(yr O).1.symm
   .intro q;refine lJ ?_;rw[O,q];decide+kernel
  by_cases z:c=45
  .subst z;exact⟨⟨r.toArray⟩,true,by rw[st];rfl,by rw[Y];rfl,Ka e,e⟩
  .refine⟨s,false,by rw[st,zn z],by rw[Y,zn z],rfl⟩
theorem Fg.le(g:Fg s f b)(h:W s):f.length<=13/\∀c∈f.cps.toList,c<123:=by
 have q:=g.fg;cases b with
 |true=>
  have e:=q.2;have l:=h.1;rw[fT,e]at l;exact⟨by rw[fT];rw[zt]at l;lia,λ c O=>(h.2 c (by rw[e];exact qh _ O)).2⟩
 |false=>
  have q:=q;subst q;exact⟨h.1,λ c O=>(h.2 c O).2⟩
def sW(s f:Str):Prop:=1<=f.length/\f.length<=12/\(∀c∈f.cps.toList,48<=c/\c<=57)/\(s=mJ\/f.cps.toList.head?≠some 48)
theorem cw9(g:Fg s f b)(h:sW s f):∃n:Int,n.natAbs<10^12/\s=nT n:=by
 obtain⟨d,i,a,c⟩:=h;rw[fT]at d i;obtain⟨k,Z⟩:∃k,f.cps.toList.length=k+1:=⟨f.cps.toList.length-1,by lia⟩;have q:=g.fg;cases b with
 |true=>
  have e:=q.2;have Y:=c.resolve_left λ z=>by
   rw[z,fu]at e;cases e
  obtain⟨m,O,lt⟩:=Cu k f.cps.toList Z a (.inr Y);have j:m≠0:=λ z=>by
   rw[O,z,my aH]at Y;exact Y rfl
  refine⟨-(m:Int),?_,lJ (by rw[sT m j,e,O])⟩;have:10^(k+1)<=10^12:=Nat.pow_le_pow_right aH aD
  lia
 |false=>
  have q:=q;subst q;obtain⟨m,O,lt⟩:=Cu k f.cps.toList Z a (c.imp_left λ z=>by rw[z,fu]);refine⟨(m:Int),?_,lJ (by rw[sR,O])⟩;have:10^(k+1)<=10^12:=Nat.pow_le_pow_right aH aD
  lia
theorem C2(e:f.cps.toList=c::r)(q:f.length<=sizeLine):iR f 0=some (.str (cJ c)):=by unfold iR iq;rw[if_pos q,e,if_pos aD,if_pos aQ,cD];rfl
theorem Cb(g:Fg s f b)(h:W s)(n:¬sW s f):jC [.str s]=some (.b false):=by
 obtain⟨v,lt⟩:=g.le h;have u:s.length<=sizeLine:=cv (by have:=h.1;lia);have a:f.length<=sizeLine:=cv aD;have O:=rY iN f aD (J:=[.i (.str s),.i (.str f)]) (i:=1) rfl;rw[Jr lt]at O;generalize p:eF gf u1=GG at O;have st:=g.st;have Y:=g.fg;have o:∀x:fA,cP (aL (bG (c_ (cZ (tB (e3 fR fR (zI 1) (eF cg c5) (zI 12)))) (cZ (tV GG)))
   gc sN) (bJ (iV (e2 bM (eV 0) (zR "0")) (e2 dv j_ (zR "0")))) [.i (.str s),.i (.str f)])=x→jC [.str s]=x:=by
  intro x t;rw[<-t];unfold jC rR;rw[p];cases b with
  |true=>
   have Y:=Y.1;simp[st,u,Y]
  |false=>
   have Y:=Y;subst Y;simp[st]
 apply o;by_cases d:(1:Int)<=(f.length:Int)
 .by_cases k:(f.length:Int)<=12
  .by_cases dd:∀c∈f.cps.toList,48<=c/\c<=57
   .rw[zl dd]at O;have j:¬(s=mJ)/\f.cps.toList.head?=some 48:=by
     refine⟨λ q=>n ⟨by lia,by lia,dd,.inl q⟩,?_⟩;apply Decidable.byContradiction;exact λ q=>n ⟨by lia,by lia,dd,.inr q⟩
    obtain⟨j,Z⟩:=j;obtain⟨c,r,e⟩:=jf (l:=f.cps.toList) (λ z=>by rw[z]at Z;cases Z);rw[e]at Z;have Z:=qi Z;have m:=C2 e a;rw[fJ.mpr Z]at m;simp[a,O,d,k,m,j]
   .rw[zn dd]at O;simp[a,O,d,k]
  .simp[a,d,k]
 .simp[a,d]
theorem Ce(h:c7 (.l l)<=30):dv (.l l) (.l [])=some (.b (!l.isEmpty)):=by unfold dv;rw[if_pos ⟨h,by decide⟩];cases l<;>rfl
theorem cn6(L s:Str):dv (.l ((s.cps.toList.filter λ c=>!ej (cJ c) L).map λ c=>D.str (cJ c))) (.l [])=some (.b (!(s.cps.toList.all λ c=>ej (cJ c) L))):=by
 have hd:c7 (.l ((s.cps.toList.filter λ c=>!ej (cJ c) L).map λ c=>D.str (cJ c)))<=30:=by
  have:=k_ ((s.cps.toList.filter λ c=>!ej (cJ c) L).map cJ)
  rwa [zu]at this
 have e:=HY L s;rw[oM hd]at e;rw[Ce hd,D.b.inj (Zk e)]
def sG:FS:=(aL (bG (c_ (tB (e2 bM (eV 1) (zR ""))) (tB (e2 lB (eF cg c5) (zI 12))))
 mI
 sN)
 (aL (bG zz
 mI
 sN)
 (aL (bG (ey (tB (e2 bM j_ (zR "0"))) (c_ (tB (e2 lB (eF cg c5) (zI 1))) (tB (e2 dv (eV 0) (eV 1)))))
 mI
 sN)
 (bJ (eF iH eJ)))))
theorem Hg(g:Fg s f b)(h:W s)(hx:cP (sG [.i (.str s),.i (.str f)])=x):jB [.str s]=x:=by
 have Y:s.length<=sizeLine:=cv (by have:=h.1;lia);have O:=g.s1;have q:=g.fg;rw[<-hx];unfold jB FH;generalize Z:sG=TT;unfold sG at Z;rw[Z];cases b with
 |true=>
  have q:=q.1;have O:=zy O;simp[Y,q,O]
 |false=>
  have q:=q;subst q;have O:=of_decide_eq_false O;simp[Y,O]
theorem XR(f:Str):(f=fh)↔f.length=0:=by
 constructor
 .intro q;rw[q];decide+kernel
 .intro q;refine lJ ?_;rw[fT]at q;rw[List.length_eq_zero_iff.mp q];decide+kernel
abbrev zco:FE:=e2 el (eV 0) (eC (.str iN))
theorem Hk{s f:Str}{b:Bool}(g:Fg s f b)(h:W s):(sW s f->∀d,iH [.str s]=some d->jB [.str s]=some d)/\(¬sW s f->jB [.str s]=some .n):=by
 obtain⟨I,lt⟩:=g.le h;have E:s.length<=sizeLine:=cv (by have:=h.1;lia);have Y:f.length<=sizeLine:=cv (by lia);have k:=Km (T:=tB (e2 el (eV 0) (eC (.str iN)))) (F:=eV 0) (s:=f) (J:=[.i (.str s),.i (.str f)]) (fr:=[]) (js:=[]) (i:=1) (jV f.cps.toList (g:=λ c=>.str (cJ c)) (p:=λ c=>!ej (cJ c) iN) (v:=λ c=>.str (cJ c)) (λ c _=>by simp) λ c _ _=>rfl) rfl rfl (by lia);have ff:=cn6 iN f;rw[Jr lt]at ff;generalize (f.cps.toList.filter λ c=>!ej (cJ c) iN).map (λ c=>D.str (cJ c))=C at*;generalize x:c4 [] (eV 1) (tB (e2 el (eV 0) (eC (.str iN)))) (eV 0)=GG at k;have t:=XR f;refine⟨λ ok d y=>?_,λ n=>?_⟩
 .obtain⟨A,ρ,H,B⟩:=ok;refine Hg g h ?_;have O:¬(f=fh):=λ q=>by have:=t.mp q;lia
  have j:¬((f.length:Int)>12):=aD;rw[zl H]at ff;obtain⟨c,r,e⟩:=jf (l:=f.cps.toList) (λ z=>by rw[fT,z]at A;simp at A);have a:=C2 e Y;unfold sG zz;rw[x];by_cases z:s=mJ
  .have fs:f=s:=by
    have q:=g.fg;cases b with
    |true=>have q:=q.2;rw[z,fu]at q;cases q
    |false=>exact q
   subst fs;have o:c=48:=by rw[z,fu]at e;cases e;rfl
   rw[fJ.mpr o]at a;have m:¬((f.length:Int)>1):=by
    have:f.length=1:=by rw[fT,z,fu];rfl
    lia
   have w:dv (.str f) (.str f)=some (.b false):=aQ;clear z;simp[-pK,Y,O,j,k,ff,a,m,w,y]
  .have o:¬(cJ c=mJ):=λ q=>by
    rw[fJ]at q;rw[e,q]at B;exact(B.resolve_left z) rfl
   simp[-pK,E,Y,O,j,k,ff,a,o,y]
 .refine Hg g h ?_;unfold sG zz;rw[x];by_cases G:f.length=0
  .have O:=t.mpr G;simp[O]
  .have O:¬(f=fh):=λ q=>G (t.mp q);by_cases j:(f.length:Int)>12
   .simp[O,j,Y]
   .by_cases dd:∀c∈f.cps.toList,48<=c/\c<=57
    .rw[zl dd]at ff;have u:¬(s=mJ)/\f.cps.toList.head?=some 48:=by
      refine⟨λ q=>n ⟨by lia,by lia,dd,.inl q⟩,?_⟩;apply Decidable.byContradiction;exact λ q=>n ⟨by lia,by lia,dd,.inr q⟩
     obtain⟨u,Z⟩:=u;obtain⟨c,r,e⟩:=jf (l:=f.cps.toList) (λ z=>by rw[z]at Z;cases Z);rw[e]at Z;have Z:c=48:=qi Z;have a:=C2 e Y;rw[fJ.mpr Z]at a;by_cases m:(f.length:Int)>1
     .simp[-pK,Y,O,j,k,ff,a,m]
     .have w:dv (.str s) (.str f)=some (.b true):=by
       have:¬(s=f):=λ q=>u (by
        refine lJ ?_;rw[q,e,fu,Z];have:f.cps.toList.length<=1:=by rw[<-fT];lia
        rw[e]at this;simp at this;rw[this])
       simp[this]
      simp[-pK,E,Y,O,j,k,ff,a,m,w]
    .rw[zn dd]at ff;simp[-pK,Y,O,j,k,ff]
def Nm(s:Str)(n:Int):Prop:=n.natAbs<10^12/\s=nT n
theorem xx(h:n.natAbs<10^12):W (nT n):=⟨qN h,λ c O=>by rcases r_4 c O with q|q<;>lia⟩
theorem qO(O:a.natAbs<10^12)(q:b.natAbs<10^12)(h:nT a=nT b):a=b:=by have x:=sU O;rw[h,sU q]at x;exact(qi x).symm
theorem J9(h:n.natAbs<10^12):jB [.str (nT n)]=some (.int n):=by
 obtain⟨f,b,g⟩:=Mf (nT n);have w:=xx h;have l:=w.1;have i:=sU h;have ok:=Ql λ q=>by
  have:=Cb g w q;rw[sP h]at this;cases this
 refine(Hk g w).1 ok _ ?_;have O:(nT n).length<=640:=aD;simp[O,i]
theorem g_9(h:W s):(∃n,Nm s n)\/((∀n,¬Nm s n)/\jC [.str s]=some (.b false)/\jB [.str s]=some .n):=by
 obtain⟨f,b,g⟩:=Mf s;by_cases ok:sW s f
 .exact .inl (cw9 g ok)
 .refine .inr ⟨λ n q=>?_,Cb g h ok,(Hk g h).2 ok⟩;have:=Cb g h ok;rw[q.2,sP q.1]at this;cases this
def tD(s:Str):D:=match jB [.str s]with
 |some d=>d
 |none=>.n
theorem o1(h:W s):jB [.str s]=some (tD s):=by
 unfold tD;rcases g_9 h with⟨n,hn,rfl⟩|⟨_,_,e⟩
 .rw[J9 hn]
 .rw[e]
theorem ma(h:Nm s n):tD s=.int n:=by unfold tD;rw[h.2,J9 h.1]
theorem vU(h:W s)(n:∀n,¬Nm s n):tD s=.n:=by
 rcases g_9 h with⟨k,a⟩|⟨_,_,e⟩
 .exact absurd a (n k)
 .unfold tD;rw[e]
theorem oC(n:Int):¬Nm star n:=λ q=>Jz q.2.symm
theorem Rl(k:aO s)(n:Int):¬Nm s n:=λ q=>by
 have:=GF k;rw[q.2,sP q.1]at this;cases this
def Bd(s:Str):Prop:=s=star\/∃n,Nm s n
theorem L0(a b:Int):ij [a,b]=if a<=b then[a,b]else[b,a]:=rfl
theorem YG(a b:Int):(ij [a,b]=[a,b])↔a<=b:=by
 rw[L0];split
 .rename_i h;simp[h]
 .rename_i h;constructor
  .intro q;cases q;exact absurd (Int.le_refl _) h
  .intro q;exact absurd q h
noncomputable def pH:D->Bool
 |.n=>true
 |_=>false
theorem DE:∀ds:aG,(∀d∈ds,d=.n\/∃n,d=.int n)->fv .n ds=true/\fz .n ds=ds.any pH
 |[],_=>⟨rfl,rfl⟩
 |d::r,h=>by
  obtain⟨a,b⟩:=DE r λ x q=>h x (qh _ q);rcases h d qg with rfl|⟨n,rfl⟩
  .exact⟨a,rfl⟩
  .exact⟨a,b⟩
theorem nIn(h:∀d∈ds,d=.n\/∃n,d=.int n):bP .n (.l ds)=some (.b (ds.any pH)):=by obtain⟨a,b⟩:=DE ds h;rw[gO,if_pos a,b]
theorem ck8(h:∀d∈ds,d=.n\/∃n,d=.int n):el .n (.l ds)=some (.b (!(ds.any pH))):=by obtain⟨a,b⟩:=DE ds h;rw[kr,if_pos a,b]
theorem ni0:el .n (.l [])=some (.b true):=rfl
theorem MK(n:Int):el .n (.l [.int n])=some (.b true):=rfl
theorem ni2(n m:Int):el .n (.l [.int n,.int m])=some (.b true):=rfl
theorem ML:el .n (.l [.n])=some (.b false):=rfl
def kj(a b:Str):Prop:=Bd a/\Bd b/\∀n m,Nm a n->Nm b m->n<=m
theorem wt(ha:W a)(hb:W b)(r:Bool)(h:(kj a b/\(a=star->st=true))↔r=true):g4 [.l [.str a,.str b],.b st]=some (.b r):=by
 have l:=o1 ha;have i:=o1 hb;have Z:2<=sizeLine:=cv aH;by_cases O:a=star
 .cases st with
  |false=>
   have f:r=false:=by
    cases r with
    |false=>rfl
    |true=>exact absurd ((h.mpr rfl).2 O) aH
   subst f;simp[-kr,g4,lC,d3,O]
  |true=>
   by_cases Y:b=star
   .have k:=h.mp ⟨⟨.inl O,.inl Y,λ n m q=>absurd (O▸q) (oC n)⟩,λ _=>rfl⟩;subst k;have g:mK [.l []]=some (.l []):=rfl;simp[-kr,g4,lC,d3,O,Y,Z,g,ni0]
   .rcases g_9 hb with⟨m,c⟩|⟨j,_,e⟩
    .have k:=h.mp ⟨⟨.inl O,.inr ⟨m,c⟩,λ n m q=>absurd (O▸q) (oC n)⟩,λ _=>rfl⟩;subst k;rw[ma c]at i;have g:mK [.l [.int m]]=some (.l [.int m]):=rfl;simp[-kr,g4,lC,d3,O,Y,Z,i,g,MK]
    .have f:r=false:=by
      cases r with
      |false=>rfl
      |true=>
       rcases(h.mpr rfl).1.2.1 with q|⟨m,q⟩
       .exact absurd q Y
       .exact absurd q (j m)
     subst f;simp[-kr,g4,lC,d3,O,Y,Z,e,ML]
 .rcases g_9 ha with⟨n,hn⟩|⟨u,_,o⟩
  .rw[ma hn]at l;by_cases Y:b=star
   .have k:=h.mp ⟨⟨.inr ⟨n,hn⟩,.inl Y,λ n m _ q=>absurd (Y▸q) (oC m)⟩,λ q=>absurd q O⟩;subst k;have g:mK [.l [.int n]]=some (.l [.int n]):=rfl;simp[-kr,g4,lC,d3,O,Y,Z,l,g,MK]
   .rcases g_9 hb with⟨m,c⟩|⟨j,_,e⟩
    .rw[ma c]at i;have g:mK [.l [.int n,.int m]]=some (.l ((ij [n,m]).map .int)):=rfl;have v:r=decide (n<=m):=by
      rw[zo,zh,<-h];constructor
      .intro q;exact q.1.2.2 n m hn c
      .intro q;refine⟨⟨.inr ⟨n,hn⟩,.inr ⟨m,c⟩,λ x y p s=>?_⟩,λ z=>absurd z O⟩;rw[qO p.1 hn.1 (p.2.symm.trans hn.2),qO s.1 c.1 (s.2.symm.trans c.2)];exact q
     have dd:bM (.l ((ij [n,m]).map .int)) (.l [.int n,.int m])=some (.b (decide (n<=m))):=by
      by_cases z:n<=m
      .rw[(YG n m).mpr z];simp[z]
      .have e:ij [n,m]=[m,n]:=by rw[L0,if_neg z]
       have w:¬(m=n):=aD;rw[e];simp[z,w]
     rw[v];generalize (ij [n,m]).map D.int=σ at*;simp[-fL,-kr,g4,lC,d3,O,Y,Z,l,i,g,dd,ni2,oO]
    .have f:r=false:=by
      cases r with
      |false=>rfl
      |true=>
       rcases(h.mpr rfl).1.2.1 with q|⟨m,q⟩
       .exact absurd q Y
       .exact absurd q (j m)
     subst f;simp[-kr,g4,lC,d3,O,Y,Z,l,e,show el .n (.l [.int n,.n])=some (.b false)from rfl]
  .have f:r=false:=by
    cases r with
    |false=>rfl
    |true=>
     rcases(h.mpr rfl).1.1 with q|⟨m,q⟩
     .exact absurd q O
     .exact absurd q (u m)
   subst f;by_cases Y:b=star
   .simp[-kr,g4,lC,d3,O,Y,Z,o,ML]
   .have t:el .n (.l [.n,tD b])=some (.b false):=by
     rw[ck8 λ d hd=>by
      rcases List.mem_cons.mp hd with q|q
      .exact .inl q
      .rw[dt q];rcases g_9 hb with⟨m,c⟩|⟨j,_,_⟩
       .exact .inr ⟨m,ma c⟩
       .exact .inl (vU hb j)]
     rfl
    simp[-kr,g4,lC,d3,O,Y,Z,o,i,t]
theorem WG{ws:aP}(h:∀s∈ws,W s):du bD (eF jB eJ) [] (ws.map .str)=some (ws.map tD):=
 oH ws λ s q=>by
  have e:=o1 (h s q);simp[e]
theorem bc9(h:W s):tD s=.n\/∃n,tD s=.int n:=by
 rcases g_9 h with⟨n,hn⟩|⟨nn,_⟩
 .exact .inr ⟨n,ma hn⟩
 .exact .inl (vU h nn)
theorem sX{ws:aP}(h:∀s∈ws,W s)(hl:ws.length<=30)(ha:A.length<=30)(hn:(∃s∈ws,∀n,¬Nm s n)\/ws.length≠A.length):fm [.l (ws.map .str),.l A,.l B]=some (.b false):=by
 have g:=k9 (J:=[.i (.l (ws.map .str)),.i (.l A),.i (.l B),.z,.z]) (js:=[]) (i:=0) (WG h) rfl rfl (by rw[qz];lia);have i:=nIn λ d hd=>by
  obtain⟨s,Y,rfl⟩:=dI.mp hd;exact bc9 (h s Y)
 have b:(ws.map tD).length=ws.length:=qz ..;have f:ws.length<=sizeLine:=cv aD;have j:A.length<=sizeLine:=cv aD;have e:(ws.map tD).any pH=true\/((ws.map tD).any pH=false/\ws.length≠A.length):=by
  cases q:(ws.map tD).any pH with
  |true=>exact .inl rfl
  |false=>
   refine .inr ⟨rfl,hn.resolve_left λ O=>?_⟩;obtain⟨s,Y,nn⟩:=O;rw[List.any_eq_false]at q;have:=q _ (qw Y);rw[vU (h s Y) nn]at this;exact this rfl
 generalize a:c4 [] (eV 0) bD (eF jB eJ)=GG at g;generalize ws.map D.str=U,ws.map tD=V at*;unfold fm mx;rw[a];rcases e with e|⟨e,c⟩
 .rw[e]at i;simp[-gO,g,i]
 .rw[e]at i;have Z:¬((ws.length:Int)=(A.length:Int)):=aD;simp[-gO,g,i,b,Z]
theorem D0:dz 0 1=[.int 0]:=rfl
theorem uN:dz 0 2=[.int 0,.int 1]:=rfl
theorem DD(n:Int):bP .n (.l [.int n])=some (.b false):=rfl
theorem uv(n m:Int):bP .n (.l [.int n,.int m])=some (.b false):=rfl
theorem at1(a:D):cw [a] 0=some a:=rfl
theorem Mo(h:Nm s n):fm [.l [.str s],.l [.int a],.l [.int b]]=some (.b (decide (a<=n/\n<=b))):=by
 have e:=o1 (h.2▸xx h.1);rw[ma h]at e;have O:1<=sizeLine:=cv aH;by_cases q:n<a
 .have c:¬(a<=n/\n<=b):=aD;simp[-gO,fm,mx,e,DD,D0,iQ,at1,O,q,c]
 .by_cases Y:n>b
  .have c:¬(a<=n/\n<=b):=aD;simp[-gO,fm,mx,e,DD,D0,iQ,at1,O,q,Y,c]
  .have c:(a<=n/\n<=b):=aD;simp[-gO,fm,mx,e,DD,D0,iQ,wX,at1,O,q,Y,c]
theorem CA(h:Nm s n)(k:Nm t m):fm [.l [.str s,.str t],.l [.int a,.int b],.l [.int c,.int d]]=some (.b (decide ((a<=n/\n<=c)/\b<=m/\m<=d))):=by
 have e:=o1 (h.2▸xx h.1);rw[ma h]at e;have f:=o1 (k.2▸xx k.1);rw[ma k]at f;have O:2<=sizeLine:=cv aH;by_cases Y:n<a
 .have q:¬((a<=n/\n<=c)/\b<=m/\m<=d):=aD;simp[-gO,fm,mx,e,f,uv,uN,iQ,d3,O,Y,q]
 .by_cases Z:n>c
  .have q:¬((a<=n/\n<=c)/\b<=m/\m<=d):=aD;simp[-gO,fm,mx,e,f,uv,uN,iQ,d3,O,Y,Z,q]
  .by_cases g:m<b
   .have q:¬((a<=n/\n<=c)/\b<=m/\m<=d):=aD;simp[-gO,fm,mx,e,f,uv,uN,iQ,d3,jF,O,Y,Z,g,q]
   .by_cases i:m>d
    .have q:¬((a<=n/\n<=c)/\b<=m/\m<=d):=aD;simp[-gO,fm,mx,e,f,uv,uN,iQ,d3,jF,O,Y,Z,g,i,q]
    .have q:((a<=n/\n<=c)/\b<=m/\m<=d):=aD;simp[-gO,fm,mx,e,f,uv,uN,iQ,wX,d3,jF,O,Y,Z,g,i,q]
theorem Bi(hl:ws.length<=30)(h:ws.length≠2):g4 [.l ws,.b st]=some (.b false):=by have q:ws.length<=sizeLine:=cv aD;have a:¬((ws.length:Int)=2):=aD;simp[g4,lC,a]
theorem GS:∀(xs q:aP),(g_ q xs).length<=q.length+xs.length
 |[],q=>qj _
 |x::r,q=>by
  have O:=GS r (kI q x);have:(kI q x).length<=q.length+1:=by
   unfold kI;split
   .lia
   .simp
  show(g_ (kI q x) r).length<=_;rw[zt];lia
theorem FN:∀(xs O:aP),O.Nodup->(g_ O xs).length=O.length+xs.length->(O++xs).Nodup
 |[],O,h,_=>by rw[yb];exact h
 |x::r,O,h,e=>by
  have e:(g_ (kI O x) r).length=O.length+(r.length+1):=e;by_cases m:x∈O
  .rw[show kI O x=O from if_pos m]at e;have:=GS r O;lia
  .have a:kI O x=O++[x]:=if_neg m;rw[a]at e;have n:(O++[x]).Nodup:=List.nodup_append.mpr ⟨h,by simp,λ y Y z b q=>m (by rw[dt b]at q;rw[<-q];exact Y)⟩;have:=FN r (O++[x]) n (by rw[e];simp;lia);simpa using this
theorem vX{ss:aP}(hl:ss.length<1000):∃k:Int,qd (ss.map .str)=some (.int k)/\(k=(ss.length:Int)↔ss.Nodup):=by
 refine⟨((g_ [] ss).length:Int),?_,?_⟩
 .rw[qd,zX,cD,if_pos hl]
 .constructor
  .intro q;have:=FN ss [] .nil cR;simpa using this
  .intro q;rw[GR ss [] (by simpa using q)];rfl
theorem zW{ss:aP}(hl:ss.length<1000)(h:ss.Nodup↔r=true):pR [.t (ss.map .str)]=some (.b r):=by
 obtain⟨k,e,q⟩:=vX hl;have Z:(ss.map D.str).length<=sizeLine:=cv cR;have O:(ss.map D.str).length=ss.length:=aQ;have Y:r=decide (k=(ss.length:Int)):=by rw[zo,zh,q,h]
 rw[Y];generalize ss.map D.str=σ at*;simp[pR,Nf,e,O]
theorem GL:∀A B:aP,ic (A.map .str) (B.map .str)=decide (A=B)
 |[],[]=>rfl
 |[],_::_=>rfl
 |_::_,[]=>rfl
 |a::A,b::B=>by
  show(bZ (.str a) (.str b)&&ic (A.map .str) (B.map .str))=_;rw[GL A B,kJ];by_cases h:a=b
  .by_cases c:A=B
   .simp[h,c]
   .simp[h,c]
  .simp[h]
theorem AX(A B:aP):bM (.l (A.map .str)) (.l (B.map .str))=some (.b (decide (A=B))):=by unfold bM;rw[if_pos ⟨k_ A,k_ B⟩];show some (D.b (ic (A.map .str) (B.map .str)))=_;rw[GL]
theorem HZ{us:aP}:(us.filter λ s=>decide (aO s))=us↔∀s∈us,aO s:=by rw[List.filter_eq_self];exact⟨λ h s q=>zy (h s q),λ h s q=>zl (h s q)⟩
theorem pz(h:l.length=2):∃a b,l=[a,b]:=by
 match l,h with
 |[a,b],_=>exact⟨a,b,rfl⟩
theorem pJ(a b:D):kR [a,b]=cP (MX [.i a,.i b,.z,.z]):=aK
noncomputable abbrev far:Int:=1000000000000
abbrev EC(w:String)(U:aG):En:=[.i (.str (sS w)),.i (.l U),.i (.int far),.z]
theorem mD(k:cP (R [.i a,.i b,.i (.int far),.z])=x):cP (aL (bN 2 u4) R [.i a,.i b,.z,.z])=x:=
 gY aK k
theorem HB{us:aP}(h:∀s∈us,W s)(hl:us.length<=30)(hi:J[1]?=some (.i (.l (us.map .str)))):c4 [] (eV 1) (tV (eF mw eJ)) (eV 0) J=some (.l ((us.filter λ s=>decide (aO s)).map .str),J):=
 k9 (jV us (λ s q=>by
  have e:=Ez (h s q);simp[e]) λ s _ _=>rfl) hi rfl (by rw[qz];lia)
section
variable{us:aP}(h:∀s∈us,W s)(hl:us.length<=30){r:Bool}
include h hl
theorem Mk(hw:w="in"∨w="span")(O:(∃a b,us=[a,b]∧kj a b)↔r=true):kR [.str (sS w),.l (us.map .str)]=some (.b r):=by
 have B:g4 [.l (us.map .str),.b true]=some (.b r):=by
  by_cases l:us.length=2
  .obtain⟨a,b,rfl⟩:=pz l;exact wt (h a aQ) (h b aQ) r ⟨λ q=>O.mp ⟨a,b,rfl,q.1⟩,λ q=>by
    obtain⟨Z,c,e,o⟩:=O.mpr q;cases e;exact⟨o,λ _=>rfl⟩⟩
  .have Y:r=false:=by
    cases r with
    |false=>rfl
    |true=>
     obtain⟨a,b,e,_⟩:=O.mpr rfl;rw[e]at l;exact absurd rfl l
   rw[Y];exact Bi (by rw[qz];exact hl) (by rw[qz];exact l)
 rw[pJ];generalize us.map D.str=U at*;refine mD (dX (ρ':=EC w U) (by rcases hw with rfl|rfl<;>kernel_rfl) ?_);simp[B]
theorem U_(Y:(∃a b n,us=[a,b]∧Nm a n∧0≤n∧Bd b∧∀m,Nm b m→n<m)↔r=true):kR [.str fC,.l (us.map .str)]=some (.b r):=by
 rw[pJ];by_cases l:us.length=2
 .obtain⟨a,b,rfl⟩:=pz l;have i:=h a aQ;have s:=h b aQ;refine mD (bC aK (dX (ρ':=EC "time" [.str a,.str b]) aK ?_));by_cases o:kj a b/\(a=star->false=true)
  .have B:=wt i s true ⟨λ _=>rfl,λ _=>o⟩;obtain⟨⟨t,u,le⟩,y⟩:=o;obtain⟨n,hn⟩:=t.resolve_left λ q=>absurd (y q) aH;have ta:=o1 i;rw[ma hn]at ta;by_cases Z:n>=0
   .by_cases ab:a=b
    .have O:r=false:=by
      cases r with
      |false=>rfl
      |true=>
       obtain⟨j,k,d,e,c,_,_,g⟩:=Y.mpr rfl;cases e;exact absurd (g d (ab▸c)) aD
     subst O;subst ab;simp[B,ta,Z,d3,jF]
    .have z:=Y.mp ⟨a,b,n,rfl,hn,Z,u,λ m f=>by
      have:=le n m hn f;rcases Int.lt_or_eq_of_le this with q|q
      .exact q
      .exact absurd (hn.2.trans (by rw[q];exact f.2.symm)) ab⟩
     subst z;simp[B,ta,Z,d3,jF,ab]
   .have O:r=false:=by
     cases r with
     |false=>rfl
     |true=>
      obtain⟨j,k,d,e,c,v,_⟩:=Y.mpr rfl;cases e;rw[qO hn.1 c.1 (hn.2.symm.trans c.2)]at Z;lia
    subst O;simp[B,ta,Z,d3]
  .have B:=wt i s false ⟨λ q=>absurd q o,λ q=>by cases q⟩;have O:r=false:=by
    cases r with
    |false=>rfl
    |true=>
     obtain⟨j,k,d,e,c,v,g,w⟩:=Y.mpr rfl;cases e;refine absurd ⟨⟨.inr ⟨d,c⟩,g,λ x m p f=>?_⟩,λ q=>?_⟩ o
     .rw[qO p.1 c.1 (p.2.symm.trans c.2)];exact Int.le_of_lt (w m f)
     .exact absurd (q▸c) (oC d)
   subst O;simp[B]
 .have B:=Bi (st:=false) (ws:=us.map .str) (by rw[qz];exact hl) (by rw[qz];exact l);have O:r=false:=by
   cases r with
   |false=>rfl
   |true=>
    obtain⟨a,b,n,e,_⟩:=Y.mpr rfl;rw[e]at l;exact absurd rfl l
  subst O;generalize us.map D.str=U at*;refine mD (bC aK (dX (ρ':=EC "time" U) aK ?_));simp[B]
end
theorem xu(h:F J=some (d,J))(k:k8 (R (J.set i (.i d)))=x):k8 (aL (bN i F) R J)=x:=by simp[h,k]
theorem wm(a b:Int):bM (.int a) (.int b)=some (.b (decide (a=b))):=aQ
theorem c3(h:P↔r=true)(n:¬P):r=false:=by
 cases r with
 |false=>rfl
 |true=>exact absurd (h.mpr rfl) n
theorem ug(h:l.length=1):∃a,l=[a]:=by
 match l,h with
 |[a],_=>exact⟨a,rfl⟩
theorem iu(h:Nm s n)(k:Nm s m):n=m:=qO h.1 k.1 (h.2.symm.trans k.2)
theorem vZ(h:Nm s n):iH [.str s]=some (.int n):=by have i:=sU h.1;have l:=qN h.1;have q:(nT n).length<=640:=aD;rw[h.2];simp[q,i]
theorem AW(f:α->β):∀l:List α,cF (l.map f)=(cF l).map f
 |[]=>rfl
 |[_]=>rfl
 |a::b::r=>by
  show f a::cF (r.map f)=f a::(cF r).map f;rw[AW f r]
section
variable{us:aP}(h:∀s∈us,W s)(hl:us.length<=30){r:Bool}
include h hl
theorem Ic(hw:w="only"∨w="but")(hr:(1≤us.length∧us.length≤8∧(∀s∈us,aO s)∧us.Nodup)↔r=true):kR [.str (sS w),.l (us.map .str)]=some (.b r):=by
 rw[pJ];have g:=HB h hl (J:=EC w (us.map .str)) rfl;have e:=AX (us.filter λ s=>decide (aO s)) us;rw[show decide ((us.filter λ s=>decide (aO s))=us)=decide (∀s∈us,aO s)from decide_eq_decide.mpr HZ]at e;obtain⟨k,c,f⟩:=vX (ss:=us) aD;have m:us.length<=sizeLine:=cv aD;have d:(us.map D.str).length=us.length:=qz ..;generalize us.map D.str=U,(us.filter λ s=>decide (aO s)).map D.str=V at*;refine mD (bC (by rcases hw with rfl|rfl<;>kernel_rfl) (bC (by rcases hw with rfl|rfl<;>kernel_rfl) (eW (by rcases hw with rfl|rfl<;>kernel_rfl) ?_)));refine xu g ?_;have O:cg [.l U]=some (.int (us.length:Int)):=by simp[d]
 have i:1<=us.length↔(0:Int)<(us.length:Int):=aD;have j:us.length<=8↔(us.length:Int)<9:=aD;rw[i,j]at hr;generalize (us.length:Int)=n at*;by_cases Y:(0:Int)<n
 .by_cases a:n<9
  .by_cases b:∀s∈us,aO s
   .rw[zl b]at e;have l:r=decide (k=n):=by rw[zo,zh,f,<-hr];exact⟨λ q=>q.2.2.2,λ q=>⟨Y,a,b,q⟩⟩
    rw[l];simp[-fL,-g6,O,Y,a,e,c,wm]
   .rw[zn b]at e;have Z:=c3 hr λ q=>b q.2.2.1;subst Z;simp[-fL,-g6,O,Y,a,e]
  .have Z:=c3 hr λ q=>a q.2.1;subst Z;simp[-fL,-g6,O,Y,a]
 .have Z:=c3 hr λ q=>Y q.1;subst Z;simp[-fL,-g6,O,Y]
end
theorem aq1(h:∀s∈us,W s):(∃a b n m,us=[a,b]/\Nm a n/\Nm b m)\/((∃s∈us,∀n,¬Nm s n)\/us.length≠2):=by
 by_cases l:us.length=2
 .obtain⟨a,b,rfl⟩:=pz l;rcases g_9 (h a aQ)with⟨n,hn⟩|⟨d,_⟩
  .rcases g_9 (h b aQ)with⟨m,c⟩|⟨e,_⟩
   .exact .inl ⟨a,b,n,m,rfl,hn,c⟩
   .exact .inr (.inl ⟨b,by simp,e⟩)
  .exact .inr (.inl ⟨a,by simp,d⟩)
 .exact .inr (.inr l)
theorem BW(e:us=[a,b])(Z:Nm a n)(Y:Nm b m):¬((∃s∈us,∀n,¬Nm s n)\/us.length≠2):=by
 subst e;rintro (⟨s,O,q⟩|q)
 .simp only[yc,zv,jd]at O;rcases O with rfl|rfl
  .exact q _ Z
  .exact q _ Y
 .exact q rfl
theorem cj6(h:∀s∈us,W s):(∃a n,us=[a]/\Nm a n)\/((∃s∈us,∀n,¬Nm s n)\/us.length≠1):=by
 by_cases l:us.length=1
 .obtain⟨a,rfl⟩:=ug l;rcases g_9 (h a aQ)with⟨n,hn⟩|⟨b,_⟩
  .exact .inl ⟨a,n,rfl,hn⟩
  .exact .inr (.inl ⟨a,by simp,b⟩)
 .exact .inr (.inr l)
theorem cj7(e:us=[a])(O:Nm a n):¬((∃s∈us,∀n,¬Nm s n)\/us.length≠1):=by
 subst e;rintro (⟨s,Y,q⟩|q)
 .rw[dt Y]at q;exact q _ O
 .exact q rfl
theorem LJ:nT 0=mJ:=aW
theorem YR(h:Nm s n):s=mJ↔n=0:=by
 constructor
 .intro q;exact qO h.1 aH (by rw[<-h.2,q,LJ])
 .intro q;rw[h.2,q,LJ]
section
variable{us:aP}(h:∀s∈us,W s)(hl:us.length<=30){r:Bool}
include h hl
theorem Va(Z:(∃a b n m,us=[a,b]∧Nm a n∧Nm b m∧2≤n∧n≤1000∧0≤m∧m<n)↔r=true):kR [.str fb,.l (us.map .str)]=some (.b r):=by
 rw[pJ];rcases aq1 h with⟨a,b,n,m,rfl,hn,f⟩|j
 .refine mD (bC aK (bC aK (bC aK (dX (ρ':=EC "rest" [.str a,.str b]) aK ?_))));have A:=CA (a:=2) (b:=0) (c:=1000) (d:=far) hn f;have k:=vZ hn;have l:=vZ f;have O:(2<=n/\n<=1000/\0<=m/\m<n)↔r=true:=by
   rw[<-Z];constructor
   .intro q;exact⟨a,b,n,m,rfl,hn,f,q⟩
   .rintro ⟨p,s,u,t,e,g,i,q⟩;cases e;rw[iu hn g,iu f i];exact q
  by_cases c:(2<=n/\n<=1000)/\0<=m/\m<=far
  .rw[zl c]at A;have o:r=decide (m<n):=by rw[zo,zh,<-O];lia
   rw[o];simp[-A1,A,k,l,d3,jF]
  .rw[zn c]at A;have Y:=c3 O λ q=>c ⟨⟨q.1,q.2.1⟩,q.2.2.1,by show m<=1000000000000;lia⟩;subst Y;simp[A]
 .have A:=sX (A:=[.int 2,.int 0]) (B:=[.int 1000,.int far]) h hl aH j;have Y:=c3 Z fun⟨a,b,n,m,e,g,i,_⟩=>BW e g i j;subst Y;generalize us.map D.str=U at*;refine mD (bC aK (bC aK (bC aK (dX (ρ':=EC "rest" U) aK ?_))));simp[A]
theorem U9(hr:(∃a b n m,us=[a,b]∧Nm a n∧Nm b m∧ -1000≤n∧n≤1000∧n≠0)↔r=true):kR [.str fe,.l (us.map .str)]=some (.b r):=by
 rw[pJ];rcases aq1 h with⟨a,b,n,m,rfl,hn,g⟩|j
 .refine mD (bC aK (bC aK (bC aK (bC aK (dX (ρ':=EC "turn" [.str a,.str b]) aK ?_)))));have A:=CA (a:=-1000) (b:=-far) (c:=1000) (d:=far) hn g;have z:=YR hn;have O:(-1000<=n/\n<=1000/\n≠0)↔r=true:=by
   rw[<-hr];constructor
   .intro q;exact⟨a,b,n,m,rfl,hn,g,q⟩
   .rintro ⟨l,o,t,p,e,f,i,q⟩;cases e;rw[iu hn f];exact q
  have s:=g.1;by_cases c:(-1000<=n/\n<=1000)/\-far<=m/\m<=far
  .rw[zl c]at A;by_cases Z:n=0
   .have Y:=c3 O λ q=>q.2.2 Z;subst Y;have z:=z.mpr Z;subst z;simp[A,d3]
   .have k:=O.mp ⟨c.1.1,c.1.2,Z⟩;subst k;have z:¬(a=mJ):=λ q=>Z (z.mp q);simp[A,d3,z]
  .rw[zn c]at A;have Y:=c3 O λ q=>c ⟨⟨q.1,q.2.1⟩,by show -1000000000000<=m;lia,by show m<=1000000000000;lia⟩;subst Y;simp[A]
 .have A:=sX (A:=[.int (-1000),.int (-far)]) (B:=[.int 1000,.int far]) h hl aH j;have Y:=c3 hr fun⟨a,b,n,m,e,f,i,_⟩=>BW e f i j;subst Y;generalize us.map D.str=U at*;refine mD (bC aK (bC aK (bC aK (bC aK (dX (ρ':=EC "turn" U) aK ?_)))));simp[A]
theorem vh(ha:-far<=a)(O:(∃s n,us=[s]/\Nm s n/\a<=n)↔r=true):fm [.l (us.map .str),.l [.int a],.l [.int far]]=some (.b r):=by
 rcases cj6 h with⟨s,n,rfl,hn⟩|d
 .have A:=Mo (a:=a) (b:=far) hn;have Z:=hn.1;have g:r=decide (a<=n/\n<=far):=by
   rw[zo,zh,<-O];constructor
   .rintro ⟨s',f,e,c,q⟩;cases e;rw[iu hn c]at Z⊢;exact⟨q,by show f<=1000000000000;lia⟩
   .intro q;exact⟨s,n,rfl,hn,q.1⟩
  rw[g];exact A
 .have Y:=c3 O fun⟨s,n,e,c,_⟩=>cj7 e c d;subst Y;exact sX h hl (by show(1:Nat)<=30;decide) d
theorem R3(q:(∃s n,us=[s]∧Nm s n∧0≤n)↔r=true):kR [.str fD,.l (us.map .str)]=some (.b r):=by rw[pJ];have A:=vh h hl aH q;generalize us.map D.str=U at*;refine mD (bC aK (bC aK (bC aK (bC aK (bC aK (dX (ρ':=EC "later" U) aK ?_))))));simp[A]
theorem cp0(hr:((∀s∈us,aO s)∧(us.length=2∨us.length=4∨us.length=6∨us.length=8)∧(cF us).Nodup)↔r=true):kR [.str c1,.l (us.map .str)]=some (.b r):=by
 rw[pJ];have g:=HB h hl (J:=EC "put" (us.map .str)) rfl;have e:=AX (us.filter λ s=>decide (aO s)) us;rw[show decide ((us.filter λ s=>decide (aO s))=us)=decide (∀s∈us,aO s)from decide_eq_decide.mpr HZ]at e;have le:=sj us;obtain⟨k,f,l⟩:=vX (ss:=cF us) aD;have j:(us.map D.str).length=us.length:=qz ..;have i:=AW D.str us;have d:((cF us).map D.str).length=(cF us).length:=qz ..;have a:bP (.int (us.length:Int)) (.t [.int 2,.int 4,.int 6,.int 8])=some (.b (decide (us.length=2\/us.length=4\/us.length=6\/us.length=8))):=by rw[eT,if_pos (show fv (.int (us.length:Int)) [.int 2,.int 4,.int 6,.int 8]=true from rfl)];congr 2;show(bZ (.int 2) (.int (us.length:Int))||(bZ (.int 4) (.int (us.length:Int))||(bZ (.int 6) (.int (us.length:Int))||(bZ (.int 8) (.int (us.length:Int))||false))))=_;rw[zo];simp;lia
 generalize (cF us).map D.str=EU,us.map D.str=U,(us.filter λ s=>decide (aO s)).map D.str=V at*;have O:cg [.l U]=some (.int (us.length:Int)):=by simp[j]
 have Y:cg [.l EU]=some (.int ((cF us).length:Int)):=by simp[d]
 generalize ((cF us).length:Int)=m at*;refine mD (bC aK (bC aK (bC aK (bC aK (bC aK (bC aK ?_))))));refine gY g ?_;by_cases b:∀s∈us,aO s
 .rw[zl b]at e;by_cases Z:us.length=2\/us.length=4\/us.length=6\/us.length=8
  .rw[zl Z]at a;have o:r=decide (k=m):=by rw[zo,zh,l,<-hr];exact⟨λ q=>q.2.2,λ q=>⟨b,Z,q⟩⟩
   rw[o];generalize (us.length:Int)=n at*;simp[-fL,-g6,-eT,O,Y,a,e,f,i,wm]
  .rw[zn Z]at a;have c:=c3 hr λ q=>Z q.2.1;subst c;generalize (us.length:Int)=n at*;simp[-fL,-g6,-eT,O,a,e]
 .rw[zn b]at e;have c:=c3 hr λ q=>b q.1;subst c;simp[-fL,e]
end
theorem co8(P:aG)(x:D):eg (P++[x]) none (some (-1))=P:=by
 have e:jQ (P++[x]).length (P++[x]).length (some (-1))=P.length:=by
  show(if(-1:Int)<0 then(-1+((P++[x]).length:Int)).toNat else min (-1:Int).toNat (P++[x]).length)=P.length;rw[if_pos aH,zr,Q7]
  lia
 unfold eg;rw[e];show((P++[x]).drop 0).take (P.length-0)=P;rw[Yk,Nat.sub_zero,List.take_left'];rfl
theorem Mj(x:D)(P:aG):eg (x::P) none (some 1)=[x]:=by unfold eg;rw[show(some (1:Int))=some ((1:Nat):Int)from rfl,rb];show((x::P).drop 0).take (min 1 (P.length+1)-0)=[x];rw[Yk,Nat.sub_zero,show min 1 (P.length+1)=1 by lia];rfl
abbrev eM:aP:=[f_,cU,nH,nI]
theorem Cj(s:Str):bP (.str s) (.t (eM.map .str))=some (.b (decide (s∈eM))):=by rw[eT,if_pos (show fv (.str s) (eM.map .str)=true from rfl)];congr 2;show(bZ (.str f_) (.str s)||(bZ (.str cU) (.str s)||(bZ (.str nH) (.str s)||(bZ (.str nI) (.str s)||false))))=_;simp only[kJ,Bool.or_false];rw[zo];simp only[yc,zv,jd,Bool.or_eq_true,zh];exact Yx Yn (Yx Yn (Yx Yn Yn))
theorem Kt(s:Str):el (.str s) (.t (eM.map .str))=some (.b (!decide (s∈eM))):=by have e:=Cj s;rw[eT,if_pos (show fv (.str s) (eM.map .str)=true from rfl)]at e;rw[lE,if_pos (show fv (.str s) (eM.map .str)=true from rfl),D.b.inj (Zk e)]
theorem My(a b:D):m9 [a,b]=cP (Nc [.i a,.i b,.z]):=aK
def LH:FS:=(aL (bG (tB u5)
 (bJ (e2 bM (eF cg c5) (zI 1)))
 sN)
 (aL (bG NU
 (bJ (eF fm (aC (cz (eV 1) oN (oS i5)) (aC (cY nM) (aC (cY fF) aN)))))
 sN)
 (aL (bG (cZ (tV (eF fm (aC (cz (eV 1) oN (oS i5)) (aC (cY (aC (zI 1) nM)) (aC (cY (aC (eV 2) fF)) aN))))))
 gc
 sN)
 (bJ (e3 gB fR (eF iH (aC oT aN)) (eF iH (aC j_ aN)) (e2 i_ (zI 20) (eF iH (aC oT aN))))))))
abbrev EF(w:String)(U:aG):En:=[.i (.str (sS w)),.i (.l U),.i (.int far)]
theorem XJ(w:Str)(hn:∀q Z,us=q++[Z]->Z∉eM):m9 [.str w,.l (us.map .str)]=some (.b false):=by
 rw[My];refine gY (d:=.int far) aK ?_;rcases List.eq_nil_or_concat us with rfl|⟨P,x,rfl⟩
 .exact dX (ρ':=[.i (.str w),.i (.l []),.i (.int far)]) aQ aQ
 .have e:=hn P x aQ;have Y:(P.concat x).map D.str=P.map .str++[.str x]:=aQ;rw[Y];have la:=qD (P.map .str) (.str x);have a:=Kt x;rw[zn e]at a;have b:bM (.l (P.map .str++[.str x])) (.l [])=some (.b false):=by rw[<-Y,oM (k_ _),Y];simp
  generalize f:P.map D.str++[.str x]=U at*;have c:(eM.map D.str).length<=1000:=aH;generalize O:eM.map D.str=FF at*;refine dX (ρ':=[.i (.str w),.i (.l U),.i (.int far)]) ?_ aQ;have O:[D.str "count",.str "sum",.str "most",.str "least"]=FF:=O;simp[-fL,-lE,b,la,O,c,a]
theorem cn8(w:String)(e:us=P++[x])(hx:x∈eM)(k:cP (LH (EF w (us.map .str)))=o):m9 [.str (sS w),.l (us.map .str)]=o:=by
 rw[My];refine gY aK (bC ?_ k);subst e;have O:(P++[x]).map D.str=P.map .str++[.str x]:=aQ;rw[O];have la:=qD (P.map .str) (.str x);have Y:=Kt x;rw[zl hx]at Y;have a:bM (.l (P.map .str++[.str x])) (.l [])=some (.b false):=by rw[<-O,oM (k_ _),O];simp
 generalize c:P.map D.str++[.str x]=U at*;have b:(eM.map D.str).length<=1000:=aH;generalize q:eM.map D.str=Z at*;have q:[D.str "count",.str "sum",.str "most",.str "least"]=Z:=q;simp[-fL,-lE,a,la,q,b,Y]
def kG(w:String)(P:aP):Prop:=
 if w="ever" then P=[]else if w="slide" then ∃a b n m,P=[a,b]∧Nm a n∧Nm b m∧1≤m∧m<n∧n≤20*m else ∃a n,P=[a]∧Nm a n∧1≤n
theorem Mg(hw:w="fixed"∨w="slide"∨w="gaps"∨w="ever")(h:∀s∈us,W s)(hl:us.length≤30)(e:us=P++[x])(hx:x∈eM)(Y:kG w P↔r=true):m9 [.str (sS w),.l (us.map .str)]=some (.b r):=by
 refine cn8 w e hx ?_;subst e;have o:(P++[x]).map D.str=P.map .str++[.str x]:=aQ;have i:∀s∈P,W s:=λ s C=>h s (by simp[C]);have p:P.length<=30:=by rw[zr]at hl;lia
 have f:=co8 (P.map .str) (.str x);have ρ:(P++[x]).length<=sizeLine:=cv aD;rcases hw with rfl|rfl|rfl|rfl
 .have A:=vh i p aH (show(∃s n,P=[s]/\Nm s n/\1<=n)↔r=true from Y);rw[o];generalize P.map D.str=Q at*;generalize Q++[D.str x]=U at*;refine bC aK (dX (ρ':=EF "fixed" U) aK ?_);simp[f,A]
 .rw[show kG "slide" P=(∃a b n m,P=[a,b]∧Nm a n∧Nm b m∧1≤m∧m<n∧n≤20*m)from rfl]at Y;rcases aq1 i with⟨a,b,n,m,rfl,hn,g⟩|z
  .have A:=CA (a:=1) (b:=1) (c:=far) (d:=far) hn g;have v:=vZ hn;have y:=vZ g;have O:(1<=m/\m<n/\n<=20*m)↔r=true:=by
    rw[<-Y];constructor
    .intro q;exact⟨a,b,n,m,rfl,hn,g,q⟩
    .rintro ⟨G,H,M,K,e,k,l,q⟩;cases e;rw[iu hn k,iu g l];exact q
   have N:=hn.1;have L:=g.1;have u:cw [D.str a,.str b,.str x] 0=some (.str a):=rfl;have i1:cw [D.str a,.str b,.str x] 1=some (.str b):=rfl;have f:eg [D.str a,.str b,.str x] none (some (-1))=[.str a,.str b]:=f;show cP (LH (EF "slide" [.str a,.str b,.str x]))=_;generalize I:[D.str a,.str b,.str x]=U at*;refine bC aK (bC aK ?_);by_cases c:(1<=n/\n<=far)/\1<=m/\m<=far
   .rw[zl c]at A;refine bC (by simp[f,A]) ?_;by_cases j:m<n
    .have t:r=decide (n<=20*m):=by rw[zo,zh,<-O];lia
     rw[t];have F:gR 20 m=true:=by unfold gR;simp
     simp[-A1,v,y,u,i1,j,F]
    .have Z:=c3 O λ q=>j q.2.1;subst Z;simp[-A1,v,y,u,i1,j]
   .rw[zn c]at A;have Z:=c3 O λ q=>c ⟨⟨by lia,by show n<=1000000000000;lia⟩,q.1,by show m<=1000000000000;lia⟩;subst Z;exact dX (ρ':=EF "slide" U) (by simp[f,A]) aQ
  .have A:=sX (A:=[.int 1,.int 1]) (B:=[.int far,.int far]) i p aH z;have Z:=c3 Y fun⟨a,b,n,m,e,k,l,_⟩=>BW e k l z;subst Z;rw[o];generalize P.map D.str=Q at*;generalize Q++[D.str x]=U at*;exact bC aK (bC aK (dX (ρ':=EF "slide" U) (by simp[f,A]) aQ))
 .have A:=vh i p aH (show(∃s n,P=[s]/\Nm s n/\1<=n)↔r=true from Y);rw[o];generalize P.map D.str=Q at*;generalize Q++[D.str x]=U at*;refine bC aK (dX (ρ':=EF "gaps" U) aK ?_);simp[f,A]
 .have E:cg [.l ((P++[x]).map D.str)]=some (.int ((P.length:Int)+1)):=aQ;have t:r=decide ((P.length:Int)+1=1):=by
   rw[zo,zh,<-Y];constructor
   .intro q;rw[q];rfl
   .intro q;exact List.length_eq_zero_iff.mp aD
  rw[t];generalize (P++[x]).map D.str=U at*;generalize (P.length:Int)+1=n at*;refine dX (ρ':=EF "ever" U) aK ?_;simp[-g6,E]
abbrev gF(A:cX):D:=.c (a_ A) (A.map λ r=>.str r.w)
theorem AR:∀{A:cX}{g:Rw},(a_ A).Nodup->g∈A->bE g.nm ((a_ A).zip (A.map λ r=>D.str r.w))=some (.str g.w)
 |a::A,g,nd,h=>by
  obtain⟨Y,O⟩:=List.nodup_cons.mp nd;show(if a.nm=g.nm then some (D.str a.w)else bE g.nm ((a_ A).zip (A.map λ r=>D.str r.w)))=_;rcases qx h with rfl|h
  .rw[if_pos rfl]
  .rw[if_neg λ q=>Y (by rw[q];exact qw h)];exact AR O h
theorem HS:∀{A:cX}{s:Str},s∉a_ A->bE s ((a_ A).zip (A.map λ r=>D.str r.w))=none
 |[],s,_=>rfl
 |a::A,s,h=>by
  show(if a.nm=s then some (D.str a.w)else bE s ((a_ A).zip (A.map λ r=>D.str r.w)))=_;rw[if_neg λ q=>h (by rw[<-q];exact qg)];exact HS λ q=>h (qh _ q)
theorem SH(a b c:D):pS [a,b,c]=cP (FL [.i a,.i b,.i c]):=aK
def uh(us:aP)(fo q O:Str):Prop:=
 us=[]∨((fo≠dR∧q≠cU∧O≠bL∧(q=f_→∃a r n,us=a::r∧Nm a n∧1≤n∧n≤50))∧∃a b,us=[a,b]∧kj a b)
theorem cj8{s:Str}{a b:Int}(h:W s){r:Bool}(Y:(∃n,Nm s n/\a<=n/\n<=b)↔r=true):fm [.l [.str s],.l [.int a],.l [.int b]]=some (.b r):=by
 rcases g_9 h with⟨n,hn⟩|⟨nn,_⟩
 .have e:r=decide (a<=n/\n<=b):=by rw[zo,zh,<-Y];exact⟨λ O=>by obtain⟨m,c,q⟩:=O;rw[iu hn c];exact q,λ q=>⟨n,hn,q⟩⟩
  rw[e];exact Mo hn
 .have Z:=c3 Y fun⟨n,hn,_⟩=>nn n hn;rw[Z];exact sX (ws:=[s]) (λ x d=>by rw[dt d];exact h) (by show(1:Nat)<=30;decide) (by show(1:Nat)<=30;decide) (.inl ⟨s,by simp,nn⟩)
theorem Vj{A:List Rw}(nd:(a_ A).Nodup){f g:Rw}{aa:List D}{fw:Str}(hg:g∈A)(h2:f.fr=[g.nm])(h3:f.rs=aa++[.str fw]){us:List Str}(h:∀s∈us,W s)(hl:us.length<=30){r:Bool}(hr:uh us f.w fw g.w↔r=true):pS [.l (us.map .str),f.d,gF A]=some (.b r):=by
 rw[SH];have t:=kL f;have i2:=ue f;rw[h2]at i2;have Z:=rD f;rw[h3]at Z;have la:=qD aa (.str fw);have K:cw ([g.nm].map D.str) 0=some (.str g.nm):=rfl;have ρ:lA (gF A) (.str g.nm)=some (.str g.w):=AR nd hg;cases us with
 |nil=>
  have N:r=true:=hr.mp (.inl rfl);subst N;exact dX (ρ':=[.i (.l []),.i f.d,.i (gF A)]) (by simp) (by simp)
 |cons a us=>
  have L:=h a qg;have O:((f.w≠dR∧fw≠cU∧g.w≠bL∧(fw=f_→∃n,Nm a n∧1≤n∧n≤50))∧∃x b,a::us=[x,b]∧kj x b)↔r=true:=by
   rw[<-hr];constructor
   .rintro ⟨⟨v,C,E,F⟩,G⟩;refine .inr ⟨⟨v,C,E,λ z=>?_⟩,G⟩;obtain⟨n,z⟩:=F z;exact⟨a,us,n,rfl,z⟩
   .rintro (q|⟨⟨v,C,E,F⟩,G⟩)
    .cases q
    .refine⟨⟨v,C,E,λ z=>?_⟩,G⟩;obtain⟨P,m,n,e,z⟩:=F z;cases e;exact⟨n,z⟩
  have M:bM (.l ((a::us).map D.str)) (.l [])=some (.b false):=by rw[oM (k_ _)];rfl
  have u:cw ((a::us).map D.str) 0=some (.str a):=mR _ _;have I:eg ((a::us).map D.str) none (some 1)=[.str a]:=Mj _ _;have H:∀m:Bool,((∃x b,a::us=[x,b]/\kj x b)↔m=true)->g4 [.l ((a::us).map .str),.b true]=some (.b m):=λ m q=>by
   by_cases l:us.length=1
   .obtain⟨b,rfl⟩:=ug l;exact wt L (h b (by simp)) m ⟨λ z=>q.mp ⟨a,b,rfl,z.1⟩,λ z=>by
     obtain⟨x,y,e,o⟩:=q.mpr z;cases e;exact⟨o,λ _=>rfl⟩⟩
   .have Y:=c3 q fun⟨x,y,e,_⟩=>l (by cases e;rfl);rw[Y];exact Bi (by rw[qz];exact hl) (by rw[qz,zt];lia)
  have one:=@cj8 a 1 50 L;generalize (a::us).map D.str=U,hG:[g.nm].map D.str=GG,hS:gF A=SS,f.d=fd,hR:aa++[D.str fw]=RR at*;refine bC (by simp[-fL,M]) ?_;by_cases c:f.w=dR
  .have Y:=c3 O λ q=>q.1.1 c;subst Y;exact dX (ρ':=[.i (.l U),.i fd,.i SS]) (by simp[t,c]) (by simp)
  .by_cases j:fw=cU
   .have Y:=c3 O λ q=>q.1.2.1 j;subst Y;exact dX (ρ':=[.i (.l U),.i fd,.i SS]) (by simp[t,c,Z,la,j]) (by simp)
   .by_cases k:g.w=bL
    .have Y:=c3 O λ q=>q.1.2.2.1 k;subst Y;exact dX (ρ':=[.i (.l U),.i fd,.i SS]) (by simp[t,c,Z,la,j,i2,K,ρ,k]) (by simp)
    .refine bC (by simp[t,c,Z,la,j,i2,K,ρ,k]) ?_;by_cases i:fw=f_
     .by_cases st:a=star
      .have Y:=c3 O λ q=>by
        obtain⟨n,z,_⟩:=q.1.2.2.2 i;exact oC n (st▸z)
       subst Y;exact dX (ρ':=[.i (.l U),.i fd,.i SS]) (by simp[Z,la,i,u,st]) (by simp)
      .by_cases p:∃n,Nm a n/\1<=n/\n<=50
       .have o:=one (r:=true) ⟨λ _=>rfl,λ _=>p⟩;refine bC (by simp[Z,la,i,u,st,I,o]) ?_;have B:=H r ⟨λ q=>O.mp ⟨⟨c,j,k,λ _=>p⟩,q⟩,λ q=>(O.mpr q).2⟩;simp[B]
       .have o:=one (r:=false) ⟨λ q=>absurd q p,λ q=>by cases q⟩;have Y:=c3 O λ q=>p (q.1.2.2.2 i);subst Y;exact dX (ρ':=[.i (.l U),.i fd,.i SS]) (by simp[Z,la,i,u,st,I,o]) (by simp)
     .refine bC (by simp[Z,la,i]) ?_;have B:=H r ⟨λ q=>O.mp ⟨⟨c,j,k,λ z=>absurd z i⟩,q⟩,λ q=>(O.mpr q).2⟩;simp[B]
abbrev kw(A:cX):ew:=A.map λ r=>(r.nm,.str r.w)
theorem cl8(nn:r.nm∉a_ P):kM r.nm (.str r.w) (kw P)=kw (P++[r]):=by
 have e:¬((bE r.nm (kw P)).isSome=true):=λ q=>nn (by
  have:=dP.mp q
  rwa [zu]at this)
 unfold kM;rw[if_neg e];simp
theorem L1(a b c:Sl)(R:En):∀(A P:cX)(s4:Sl),(a_ (P++A)).Nodup->(P++A).length<=50->∃O,dh (gN 4) rN (aZ A) (a::b::c::.o false (.d (kw P))::s4::R)=some (.nx (a::b::c::.o false (.d (kw (P++A)))::O::R))
 |[],P,s4,_,_=>⟨s4,by rw[yb];exact wX _ _ _⟩
 |r::A,P,s4,nd,hl=>by
  have nn:=λ q=>by
   rw[AG]at nd;exact(List.nodup_append.mp nd).2.2 _ q _ qg rfl
  obtain⟨s',e⟩:=L1 a b c R A (P++[r]) (.i r.d) (by rw[qA];exact nd) (by rw[qA];exact hl);refine⟨s',?_⟩;rw[qA]at e;rw[<-e];have Y:=kL r;have i1:=rE r;have pt:=cl8 nn;have lk:(kw P).length<100:=by rw[qz];rw[zr]at hl;lia
  show dh (gN 4) rN (r.d::aZ A) _=_;rw[iQ];generalize r.d=rd,hK:kw P=KP,kw (P++[r])=KQ at*;have Z:rN (a::b::c::.o false (.d KP)::.i rd::R)=some (.nx (a::b::c::.o false (.d KQ)::.i rd::R)):=by simp[Y,i1,lk,pt]
  show xO _ _ _ (some (a::b::c::.o false (.d KP)::.i rd::R))=_;rw[oZ,Z,mV]
theorem lr0(a b:D):gA [a,b]=cP (Fl [.i a,.i b,.z,.z,.z,.z,.z,.z,.z,.z,.z]):=aK
abbrev ER(A:cX)(t:Str)(ws:aP)(s4 q:Sl):En:=[.i (.str t),.i (.l (aZ A)),.i (.l (ws.map .str)),.i (gF A),s4,.i (.l (gu.map .str)),q,.z,.z,.z,.z]
def Dk:FT:=c_ (tB (e2 gB (eF cg fF) (zI 2))) (c_ (cZ (tV (eF mw (aC l3 aN)))) (tB (e2 ki l3 (eV 3))))
def xl:FS:=(aL Nv
 (aL (bN 7 (e2 bA EY EH))
 (aL (bN 8 (c4 [3] (cz (eV 2) (oS (zI 2)) (oS qG)) bD (lq (eV 1) (eV 0) (zR ""))))
 (aL (bN 9 (cz (eV 2) (oS qG) oN))
 EB))))
theorem F2(nd:(a_ A).Nodup)(la:A.length<=50)(h0:ws≠[])(q:∀s∈ws,W s)(hl:ws.length<=30)(k:∀s4,cP (aL (bG Dk gc sN) (aL (bN 6 i4) xl) (ER A (Str.join bR ws) ws s4 .z))=o):gA [.str (Str.join bR ws),.l (aZ A)]=o:=by
 have sp:=yC h0 λ s h=>(q s h).wd.1;have c:=p_ ws λ s h=>(q s h).1;obtain⟨s4,e⟩:=L1 (.i (.str (Str.join bR ws))) (.i (.l (aZ A))) (.i (.l (ws.map .str))) [.z,.z,.z,.z,.z,.z] A [] .z (by simpa using nd) (by simpa using la);have k:=k s4;rw[lr0];have a:(Str.join bR ws).length<=100000:=aD;have bl:=wQ;have b:(Txt.split (Str.join bR ws) bR).map D.str=ws.map D.str:=by rw[sp]
 have Z:(aZ A).length<=sizeLine:=cv (by rw[qz];lia);have O:fy (kw A)=.i (gF A):=by show Sl.i (.c ((kw A).map (·.1)) ((kw A).map (·.2)))=_;rw[zu,zu];rfl
 generalize Str.join bR ws=ρ at*;refine gY (d:=.l (ws.map .str)) (by
  generalize ws.map D.str=U at*;simp[bl,a,b]) (rm (ρ':=[.i (.str ρ),.i (.l (aZ A)),.i (.l (ws.map .str)),.o false (.d []),.z,.z,.z,.z,.z,.z,.z]) aQ (rm (ρ':=[.i (.str ρ),.i (.l (aZ A)),.i (.l (ws.map .str)),.o false (.d (kw A)),s4,.z,.z,.z,.z,.z,.z]) ?_ (rm (ρ':=ER A ρ ws s4 .z) ?_ k)))
 .have e:dh (gN 4) rN (aZ A) [.i (.str ρ),.i (.l (aZ A)),.i (.l (ws.map .str)),.o false (.d []),.z,.z,.z,.z,.z,.z,.z]=_:=e;generalize Y:dh (gN 4) rN=GG,aZ A=RA,ws.map D.str=U at*;simp[Y,e]
 .rw[cv7];show tP 3 _ _ (some (false,kw A))=_;rw[WJ,if_pos rfl,O];generalize gF A=SS at*;kernel_rfl
theorem Hv(nd:(a_ A).Nodup)(la:A.length<=50)(Z:ws≠[])(hW:∀s∈ws,W s)(hl:ws.length<=30)(hn:∀w nm us,ws=w::nm::us->¬aO nm\/nm∈a_ A):gA [.str (Str.join bR ws),.l (aZ A)]=some (.b false):=by
 refine F2 nd la Z hW hl λ s4=>?_;refine dX (ρ':=ER A (Str.join bR ws) ws s4 .z) ?_ aQ;have c:ws.length<=sizeLine:=cv aD;have O:cg [.l (ws.map D.str)]=some (.int (ws.length:Int)):=aQ;unfold Dk ER;rcases ws with _|⟨w,_|⟨nm,us⟩⟩
 .exact absurd rfl Z
 .simp
 .have k:=Ez (hW nm aQ);have i1:cw ((w::nm::us).map D.str) 1=some (.str nm):=Cz _ _ _;have Y:¬(((w::nm::us).length:Int)<2):=cR;generalize ((w::nm::us).length:Int)=n,(w::nm::us).map D.str=U at*;by_cases kn:aO nm
  .rw[zl kn]at k;have m:=(hn w nm us rfl).resolve_left λ q=>q kn;have a:ki (.str nm) (gF A)=some (.b true):=by obtain⟨g,b,e⟩:=iW m;show aF (some (a_ A,A.map λ r=>D.str r.w)) _=_;rw[cD];show some (D.b (bE nm ((a_ A).zip (A.map λ r=>D.str r.w))).isSome)=_;rw[<-e,AR nd b];rfl
   generalize gF A=SS at*;simp[-g6,O,Y,i1,k,a]
  .rw[zn kn]at k;generalize gF A=SS at*;simp[-g6,O,Y,i1,k]
theorem p0(nd:(a_ A).Nodup)(la:A.length<=50)(O:∀s∈w::nm::us,W s)(hl:us.length<=25)(kn:aO nm)(nn:nm∉a_ A)(k:∀s4,cP (xl (ER A (Str.join bR (w::nm::us)) (w::nm::us) s4 (.i (.str w))))=o):gA [.str (Str.join bR (w::nm::us)),.l (aZ A)]=o:=by
 refine F2 nd la aQ O cR λ s4=>?_;have q:=Ez (O nm aQ);rw[zl kn]at q;have Y:cg [.l ((w::nm::us).map D.str)]=some (.int (((w::nm::us).length:Int))):=aQ;have i1:cw ((w::nm::us).map D.str) 1=some (.str nm):=Cz _ _ _;have b:cw ((w::nm::us).map D.str) 0=some (.str w):=mR _ _;have Z:¬(((w::nm::us).length:Int)<2):=cR;have a:ki (.str nm) (gF A)=some (.b false):=by show aF (some (a_ A,A.map λ r=>D.str r.w)) _=_;rw[cD];show some (D.b (bE nm ((a_ A).zip (A.map λ r=>D.str r.w))).isSome)=_;rw[HS nn];rfl
 refine bC ?_ (gY ?_ (k s4))
 .unfold Dk ER;generalize ((w::nm::us).length:Int)=n,(w::nm::us).map D.str=U,gF A=SS at*;simp[-g6,Y,Z,i1,q,a]
 .unfold ER;generalize (w::nm::us).map D.str=U,gF A=SS at*;simp[b]
def sg:cX->Str->Str
 |[],_=>fh
 |a::A,s=>if a.nm=s then a.w else sg A s
theorem Kc:∀(A:cX)(s:Str),(bE s ((a_ A).zip (A.map λ r=>D.str r.w))).getD (.str fh)=.str (sg A s)
 |[],s=>rfl
 |a::A,s=>by
  show(if a.nm=s then some (D.str a.w)else bE s ((a_ A).zip (A.map λ r=>D.str r.w))).getD _=D.str (if a.nm=s then a.w else sg A s);by_cases h:a.nm=s
  .rw[if_pos h,if_pos h];rfl
  .rw[if_neg h,if_neg h];exact Kc A s
theorem jI:∀{A:cX}{g:Rw},(a_ A).Nodup->g∈A->sg A g.nm=g.w
 |a::A,g,nd,h=>by
  obtain⟨Y,O⟩:=List.nodup_cons.mp nd;show(if a.nm=g.nm then a.w else sg A g.nm)=_;rcases qx h with rfl|h
  .rw[if_pos rfl]
  .rw[if_neg λ q=>Y (by rw[q];exact qw h)];exact jI O h
theorem vW:∀{A:cX}{s:Str},s∉a_ A→sg A s=fh
 |[],_,_=>rfl
 |a::A,s,h=>by
  show(if a.nm=s then a.w else sg A s)=_;rw[if_neg λ q=>h (by rw[<-q];exact qg)];exact vW λ q=>h (qh _ q)
theorem L3(A:cX)(vs:aP):du bD (lq (eV 1) (eV 0) (zR "")) [.i (gF A)] (vs.map .str)=some ((vs.map (sg A)).map .str):=by
 rw[zu];refine oH vs λ s _=>?_;have e:=Kc A s;show lq (eV 1) (eV 0) (zR "") [.i (.str s),.i (gF A)]=some (.str (sg A s),_);rw[<-e];simp
theorem KL(a b:D)(U:aG)(m:Nat):eg (a::b::U) (some 2) (some (2+(m:Int)))=U.take m/\eg (a::b::U) (some (2+(m:Int))) none=U.drop m/\eg (a::b::U) (some 2) none=U:=by
 have e2:jQ (a::b::U).length 0 (some 2)=2:=by rw[show(some (2:Int))=some ((2:Nat):Int)from rfl,rb];simp only[zt];lia
 have q:∀d,jQ (a::b::U).length d (some (2+(m:Int)))=min (2+m) (U.length+2):=λ d=>by
  rw[show(some (2+(m:Int)))=some ((2+m:Nat):Int) by rw[Int.natCast_add];rfl,rb];rfl
 refine⟨?_,?_,?_⟩
 .rw[eg,e2,q];rw[show min (2+m) (U.length+2)-2=min m U.length by lia];exact List.take_eq_take_min.symm
 .rw[eg,q];rw[je (by rw[jr];exact qj _),show min (2+m) (U.length+2)=min m U.length+2 by lia];show U.drop (min m U.length)=U.drop m;by_cases h:m<=U.length
  .rw[Nat.min_eq_left h]
  .rw[Nat.min_eq_right aD,List.drop_length,jq aD]
 .rw[eg,e2];show U.take (U.length+2-2)=U;exact je aD
abbrev E2(A:cX)(t:Str)(ws:aP)(s4:Sl)(w:Str)(m:Int)(F B:aP):En:=[.i (.str t),.i (.l (aZ A)),.i (.l (ws.map .str)),.i (gF A),s4,.i (.l (gu.map .str)),.i (.str w),.i (.int m),.i (.l (F.map .str)),.i (.l (B.map .str)),.z]
def pF:FS:=EB
def Mw:FE:=e2 bA EY EH
theorem rF{m:Nat}(hl:us.length≤25)(np:tB (e2 bM (eV 6) (zR "pour")) (ER A t (w::nm::us) s4 (.i (.str w)))=some (false,ER A t (w::nm::us) s4 (.i (.str w))))(h7:Mw (ER A t (w::nm::us) s4 (.i (.str w)))=some (.int m,ER A t (w::nm::us) s4 (.i (.str w))))(k:cP (pF (E2 A t (w::nm::us) s4 w m ((us.take m).map (sg A)) (us.drop m)))=o):cP (xl (ER A t (w::nm::us) s4 (.i (.str w))))=o:=by
 obtain⟨Z,b,_⟩:=KL (.str w) (.str nm) (us.map .str) m;have g:=L3 A (us.take m);have a:((us.take m).map D.str).length<=sizeLine:=cv (by rw[qz,j8];lia);refine bC np (gY h7 (gY ?_ (gY ?_ k)))
 .have q:∀(U RA Y V X:aG)(O:D),V.length≤sizeLine→eg (.str w::.str nm::U) (some 2) (some (2+(m:Int)))=V→du bD (lq (eV 1) (eV 0) (zR "")) [.i O] V=some X→c4 [3] (cz (eV 2) (oS (zI 2)) (oS qG)) bD (lq (eV 1) (eV 0) (zR "")) [.i (.str t),.i (.l RA),.i (.l (.str w::.str nm::U)),.i O,s4,.i (.l Y),.i (.str w),.i (.int m),.z,.z,.z]=some (.l X,[.i (.str t),.i (.l RA),.i (.l (.str w::.str nm::U)),.i O,s4,.i (.l Y),.i (.str w),.i (.int m),.z,.z,.z]):=λ U RA Y V X O a Z g=>by
   have v:cz (eV 2) (oS (zI 2)) (oS qG) [.i (.str t),.i (.l RA),.i (.l (.str w::.str nm::U)),.i O,s4,.i (.l Y),.i (.str w),.i (.int m),.z,.z,.z]=some (.l V,[.i (.str t),.i (.l RA),.i (.l (.str w::.str nm::U)),.i O,s4,.i (.l Y),.i (.str w),.i (.int m),.z,.z,.z]):=by simp[Z]
   unfold c4;rw[v,cD];show aF (some V) _=_;rw[cD];show aF (some ([.i O]:En)) _=_;rw[cD,g,cD,if_pos a]
  rw[<-Yv]at Z;exact q _ _ _ _ _ _ a Z g
 .have v:∀(U RA Y X:aG)(O:D)(y:Sl),eg (.str w::.str nm::U) (some (2+(m:Int))) none=(us.drop m).map .str->cz (eV 2) (oS qG) oN [.i (.str t),.i (.l RA),.i (.l (.str w::.str nm::U)),.i O,s4,.i (.l Y),.i (.str w),.i (.int m),.i (.l X),.z,.z]=some (.l ((us.drop m).map .str),[.i (.str t),.i (.l RA),.i (.l (.str w::.str nm::U)),.i O,s4,.i (.l Y),.i (.str w),.i (.int m),.i (.l X),.z,.z]):=λ U RA Y X O y c=>by
   simp[c]
  rw[<-List.map_drop]at b;exact v _ _ _ _ _ .z b
section
variable{A:cX}{t:Str}{ws:aP}{s4:Sl}{w:Str}{m:Nat}{F B:aP}
theorem qL(hl:F.length<=30)(h:F.length≠m):cP (pF (E2 A t ws s4 w m F B))=some (.b false):=by have q:cg [.l (F.map D.str)]=some (.int (F.length:Int)):=aQ;have a:¬((F.length:Int)=(m:Int)):=aD;refine dX (ρ':=E2 A t ws s4 w m F B) ?_ aQ;unfold E2;generalize (F.length:Int)=n,F.map D.str=O,(m:Int)=Y at*;simp[-g6,q,a]
theorem uW(h:F.length=m)(k:cP (R (E2 A t ws s4 w m F B))=o):cP (aL (bG NC gc sN) R (E2 A t ws s4 w m F B))=o:=by
 have q:cg [.l (F.map D.str)]=some (.int (m:Int)):=by simp[h]
 refine bC ?_ k;unfold E2;generalize F.map D.str=O,(m:Int)=Y at*;simp[-g6,q]
theorem L6(f:Str):el (.str f) (.l (gu.map .str))=some (.b (!aY f)):=aK
theorem KC(hl:F.length<=30):tB (e2 dv (c4 [5] (eV 8) (tB (e2 el (eV 0) (eV 1))) (eV 0)) (cY aN)) (E2 A t ws s4 w m F B)=some (!(F.all aY),E2 A t ws s4 w m F B):=by
 have g:=k9 (T:=tB (e2 el (eV 0) (eV 1))) (F:=eV 0) (zs:=F.map .str) (J:=E2 A t ws s4 w m F B) (fr:=[.i (.l (gu.map .str))]) (js:=[5]) (i:=8) (jV F (g:=.str) (p:=λ f=>!aY f) (v:=.str) (λ f _=>by
  have e:=L6 f;generalize gu.map D.str=O at*;simp[-kr,e]) λ f _ _=>rfl) rfl rfl (by rw[qz];lia)
 have n:=Ce (k_ (F.filter λ f=>!aY f));have e:((F.filter λ f=>!aY f).map D.str).isEmpty=F.all aY:=by
  rw[List.isEmpty_map];induction F with
  |nil=>rfl
  |cons c r q=>
   have q:=q (by simp at hl;lia);rw[List.filter_cons,Qo];cases aY c with
   |true=>simpa using q (k9 (T:=tB (e2 el (eV 0) (eV 1))) (F:=eV 0) (zs:=r.map .str) (J:=E2 A t ws s4 w m r B) (fr:=[.i (.l (gu.map .str))]) (js:=[5]) (i:=8) (jV r (g:=.str) (p:=λ f=>!aY f) (v:=.str) (λ f _=>by
     have e:=L6 f;generalize gu.map D.str=O at*;simp[-kr,e]) λ f _ _=>rfl) rfl rfl (by rw[qz];simp at hl;lia)) (Ce (k_ _))
   |false=>rfl
 rw[e]at n;generalize c4 [5] (eV 8) (tB (e2 el (eV 0) (eV 1))) (eV 0)=Y,(F.filter λ f=>!aY f).map D.str=V,E2 A t ws s4 w m F B=J at*;simp[-pK,g,n]
end
theorem tQ(h:T J=some (false,J))(k:k8 (R J)=d):k8 (aL (bG T A sN) R J)=d:=by simp[h,k]
theorem o2(h:T J=some (true,J))(k:E J=some (d,ρ')):k8 (aL (bG T (bJ E) sN) R J)=some d:=by simp[h,k]
def CH(w:String)(us:aP):Prop:=
 if w="in"∨w="span" then ∃a b,us=[a,b]∧kj a b
 else if w="time" then ∃a b n,us=[a,b]∧Nm a n∧0≤n∧Bd b∧∀m,Nm b m→n<m
 else if w="only"∨w="but" then 1≤us.length∧us.length≤8∧(∀s∈us,aO s)∧us.Nodup
 else if w="rest" then ∃a b n m,us=[a,b]∧Nm a n∧Nm b m∧2≤n∧n≤1000∧0≤m∧m<n
 else if w="turn" then ∃a b n m,us=[a,b]∧Nm a n∧Nm b m∧ -1000≤n∧n≤1000∧n≠0
 else if w="later" then ∃s n,us=[s]∧Nm s n∧0≤n
 else(∀s∈us,aO s)/\(us.length=2\/us.length=4\/us.length=6\/us.length=8)/\(cF us).Nodup
abbrev C9:List String:=["in","time","only","but","span","rest","turn","later","put"]
theorem cp5(hw:w∈C9)(h:∀s∈us,W s)(hl:us.length<=30)(q:CH w us↔r=true):kR [.str (sS w),.l (us.map .str)]=some (.b r):=by
 simp only[yc,zv,jd]at hw;rcases hw with rfl|rfl|rfl|rfl|rfl|rfl|rfl|rfl|rfl
 .exact Mk h hl (.inl rfl) q
 .exact U_ h hl q
 .exact Ic h hl (.inl rfl) q
 .exact Ic h hl (.inr rfl) q
 .exact Mk h hl (.inr rfl) q
 .exact Va h hl q
 .exact U9 h hl q
 .exact R3 h hl q
 .exact cp0 h hl q
section
variable{A:cX}{t:Str}{ws:aP}{s4:Sl}{w:String}{m:Nat}{F B:aP}
theorem IG(hw:w∈C9)(lF:F.length=m)(hF:F.length<=30)(hB:∀s∈B,W s)(hl:B.length<=30)(Z:(F.all aY=true/\CH w B)↔r=true):cP (pF (E2 A t ws s4 (sS w) m F B))=some (.b r):=by
 refine uW lF (eW ?_ ?_)
 .simp only[yc,zv,jd]at hw;rcases hw with rfl|rfl|rfl|rfl|rfl|rfl|rfl|rfl|rfl<;>kernel_rfl
 .have Y:=KC (A:=A) (t:=t) (ws:=ws) (s4:=s4) (w:=sS w) (m:=m) (B:=B) hF;cases O:F.all aY with
  |false=>
   have a:=c3 Z λ q=>by rw[O]at q;exact absurd q.1 aH
   rw[O]at Y;rw[a];exact o2 (ρ':=E2 A t ws s4 (sS w) m F B) Y aQ
  |true=>
   rw[O]at Y;refine tQ Y ?_;have C:=cp5 hw hB hl ⟨λ q=>Z.mp ⟨O,q⟩,λ q=>(Z.mpr q).2⟩;refine o2 (ρ':=E2 A t ws s4 (sS w) m F B) ?_ ?_
   .simp only[yc,zv,jd]at hw;rcases hw with rfl|rfl|rfl|rfl|rfl|rfl|rfl|rfl|rfl<;>kernel_rfl
   .unfold E2;generalize B.map D.str=BB at*;simp[C]
abbrev gX:aP:=[cU,jJ,jK,jL]
theorem Kr(s:Str):el (.str s) (.t (gX.map .str))=some (.b (!decide (s∈gX))):=by rw[lE,if_pos (show fv (.str s) (gX.map .str)=true from rfl)];congr 3;show(bZ (.str cU) (.str s)||(bZ (.str jJ) (.str s)||(bZ (.str jK) (.str s)||(bZ (.str jL) (.str s)||false))))=_;simp only[kJ,Bool.or_false];rw[zo];simp only[yc,zv,jd,Bool.or_eq_true,zh];exact Yx Yn (Yx Yn (Yx Yn Yn))
def nQ(B:aP):Prop:=∃a h n,B=[a,h]/\Nm a n/\0<=n/\h∈gX
theorem Xe(lF:F.length=m)(O:F.length≤30)(hB:∀s∈B,W s)(hl:B.length≤30)(hr:(F.all aY=true∧nQ B)↔r=true):cP (pF (E2 A t ws s4 bL m F B))=some (.b r):=by
 refine uW lF (eW aK ?_);have c:=KC (A:=A) (t:=t) (ws:=ws) (s4:=s4) (w:=bL) (m:=m) (B:=B) O;cases b:F.all aY with
 |false=>
  have Z:=c3 hr λ q=>by rw[b]at q;exact absurd q.1 aH
  rw[b]at c;rw[Z];exact o2 (ρ':=E2 A t ws s4 bL m F B) c aQ
 |true=>
  rw[b]at c;refine tQ c (tQ aK ?_);have Y:nQ B↔r=true:=⟨λ q=>hr.mp ⟨b,q⟩,λ q=>(hr.mpr q).2⟩;have u:cg [.l (B.map D.str)]=some (.int (B.length:Int)):=aQ;by_cases l:B.length=2
  .obtain⟨a,x,rfl⟩:=pz l;have f:=Kr x;have k:(gX.map D.str).length<=1000:=aH;have i1:cw ([a,x].map D.str) 1=some (.str x):=rfl;have o:eg ([a,x].map D.str) none (some 1)=[.str a]:=Mj _ _;have j:cg [.l ([a,x].map D.str)]=some (.int 2):=aQ;by_cases d:x∈gX
   .rw[zl d]at f;have g:=vh (us:=[a]) (λ s p=>hB s (by rw[dt p];simp)) (by show(1:Nat)<=30;decide) (a:=0) aH (by
     rw[<-Y];constructor
     .rintro ⟨s,n,e,h,i⟩;cases e;exact⟨a,x,n,rfl,h,i,d⟩
     .rintro ⟨s,y,n,e,h,i,_⟩;cases e;exact⟨a,n,rfl,h,i⟩)
    have g:fm [.l [.str a],.l [.int 0],.l [.int far]]=some (.b r):=g;have z:fS (.int 10) (.int 12)=some (.int far):=aK;unfold E2;generalize [a,x].map D.str=BB,O:gX.map D.str=FF at*;have O:[D.str "sum",.str "less",.str "left",.str "right"]=FF:=O;refine tQ (by simp[-g6,-lE,j,i1,O,k,f]) ?_;generalize fS (.int 10) (.int 12)=PW at*;simp[o,g]
   .rw[zn d]at f;have Z:=c3 Y fun⟨s,y,n,e,_,_,q⟩=>d (by cases e;exact q);rw[Z];refine o2 (ρ':=E2 A t ws s4 bL m F [a,x]) ?_ aQ;unfold E2;generalize [a,x].map D.str=BB,O:gX.map D.str=FF at*;have O:[D.str "sum",.str "less",.str "left",.str "right"]=FF:=O;simp[-g6,-lE,j,i1,O,k,f]
  .have Z:=c3 Y fun⟨s,y,n,e,_⟩=>l (by rw[e];rfl);rw[Z];refine o2 (ρ':=E2 A t ws s4 bL m F B) ?_ aQ;have v:¬((B.length:Int)=2):=aD;unfold E2;generalize (B.length:Int)=n,B.map D.str=BB at*;simp[-g6,u,v]
end
section
variable{A:cX}{t:Str}{ws:aP}{s4:Sl}{m:Nat}{F B:aP}
noncomputable abbrev Q4:List String:=["fixed","slide","gaps","ever"]
theorem Kw(s:Str):el (.str s) (.t (h_.map .str))=some (.b (!d4 s)):=aK
theorem A8(f:Str):bP (.str f) (.l (gu.map .str))=some (.b (aY f)):=aK
theorem Xf(hw:w∈Q4)(hB:∀s∈B,W s)(hl:B.length≤30)(hr:(∃P x,B=P++[x]∧x∈eM∧kG w P∧(aY f=true∨(f=bL∧w≠"gaps"∧x≠cU)))↔r=true):cP (pF (E2 A t ws s4 (sS w) 1 [f] B))=some (.b r):=by
 have O:w="fixed"∨w="slide"∨w="gaps"∨w="ever":=by simpa using hw
 refine uW rfl (bC (by rcases O with rfl|rfl|rfl|rfl<;>kernel_rfl) (bC (by rcases O with rfl|rfl|rfl|rfl<;>kernel_rfl) ?_));have p:el (.str (sS w)) (.t (h_.map .str))=some (.b false):=by rcases O with rfl|rfl|rfl|rfl<;>kernel_rfl
 have y:(h_.map D.str).length<=1000:=aH;have T:∀n,m9 [.str (sS w),.l (B.map .str)]=some (.b n)→c_ (tB (e2 el (eV 6) ED)) (cZ (tV (eF m9 EN))) (E2 A t ws s4 (sS w) 1 [f] B)=some (!n,E2 A t ws s4 (sS w) 1 [f] B):=λ n e=>by
  unfold E2;generalize B.map D.str=BB,m:h_.map D.str=FF at*;have m:[D.str "fixed",.str "slide",.str "gaps",.str "ever"]=FF:=m;generalize sS w=w' at*;simp[-lE,m,y,p,e]
 by_cases c:∃P x,B=P++[x]/\x∈eM
 .obtain⟨P,x,e,c⟩:=c;by_cases fp:kG w P
  .have g:=Mg O hB hl e c ⟨λ _=>rfl,λ _=>fp⟩;refine bC (T _ g) ?_;have k:(aY f=true∨(f=bL∧w≠"gaps"∧x≠cU))↔r=true:=by
    rw[<-hr];constructor
    .intro q;exact⟨P,x,e,c,fp,q⟩
    .rintro ⟨v,C,h,_,_,q⟩;rw[e]at h;obtain⟨e1,e2⟩:=jt h rfl;cases e2;exact q
   have b:cw ([f].map D.str) 0=some (.str f):=rfl;have la:=qD (P.map .str) (.str x);have z:B.map D.str=P.map .str++[.str x]:=by rw[e];simp
   have Z:=A8 f;have l:(sS w=dR)↔w="gaps":=by
    rcases O with rfl|rfl|rfl|rfl
    .exact⟨λ q=>absurd q aW,λ q=>absurd q aH⟩
    .exact⟨λ q=>absurd q aW,λ q=>absurd q aH⟩
    .exact⟨λ _=>rfl,λ _=>rfl⟩
    .exact⟨λ q=>absurd q aW,λ q=>absurd q aH⟩
   unfold E2;rw[z];generalize P.map D.str++[.str x]=U,gu.map D.str=CC,[f].map D.str=G,sS w=w' at*;cases i:aY f with
   |true=>
    have o:=k.mp (.inl i);rw[i]at Z;rw[o];simp[-gO,b,Z]
   |false=>
    rw[i]at Z;have Y:(f=bL∧w≠"gaps"∧x≠cU)↔r=true:=by rw[<-k,i];simp
    by_cases d:f=bL
    .by_cases p2:w="gaps"
     .have a:=c3 Y λ q=>q.2.1 p2;have p2:=l.mpr p2;rw[a];rw[d]at b Z;clear hr k Y T p l O;simp[-gO,b,Z,p2]
     .have u:¬(w'=dR):=λ q=>p2 (l.mp q);by_cases j:x=cU
      .have a:=c3 Y λ q=>q.2.2 j;rw[a];rw[d]at b Z;rw[j]at la;simp[-gO,b,Z,u,la]
      .have o:=Y.mp ⟨d,p2,j⟩;rw[o];rw[d]at b Z;simp[-gO,b,Z,u,la,j]
    .have a:=c3 Y λ q=>d q.1;rw[a];simp[-gO,b,Z,d]
  .have g:=Mg O hB hl e c (r:=false) ⟨λ q=>absurd q fp,λ q=>by cases q⟩;have a:=c3 hr fun⟨v,C,h,_,q,_⟩=>fp (by
    rw[e]at h;obtain⟨e1,_⟩:=jt h rfl;rw[e1];exact q)
   rw[a];exact dX (ρ':=E2 A t ws s4 (sS w) 1 [f] B) (T _ g) aQ
 .have g:=XJ (sS w) λ P x e q=>c ⟨P,x,e,q⟩;have a:=c3 hr fun⟨P,x,e,q,_⟩=>c ⟨P,x,e,q⟩;rw[a];exact dX (ρ':=E2 A t ws s4 (sS w) 1 [f] B) (T _ g) aQ
end
theorem Nq:∀{a b:aP},a.map D.str=b.map D.str->a=b
 |[],[],_=>rfl
 |_::_,_::_,h=>by
  obtain⟨c,d⟩:=yr h;rw[D.str.inj c,Nq d]
theorem B1{a b:Rw}(h:a.d=b.d):a=b:=by
 obtain⟨w,n,f,r⟩:=a;obtain⟨i,g,Z,Y⟩:=b;have h:D.t [.str w,.str n,.t (f.map .str),.t r]=D.t [.str i,.str g,.t (Z.map .str),.t Y]:=h;injection h with h
 obtain⟨c,h⟩:=yr h;obtain⟨e,h⟩:=yr h;obtain⟨q,h⟩:=yr h;obtain⟨O,_⟩:=yr h;injection q with q
 rw[D.str.inj c,D.str.inj e,Nq q,D.t.inj O]
section
variable{A:cX}{t:Str}{s4:Sl}{B:aP}
theorem ci7(nd:(a_ A).Nodup)(la:A.length<=50)(ac:∀g∈A,d4 g.w=true->∃(q:Rw)(O:List D)(Y:Str),q∈A/\g.fr=[q.nm]/\g.rs=O++[.str Y]){w nm u:Str}(hB:∀s∈B,W s)(hl:B.length<=30){r:Bool}(hr:(∃(g q:Rw)(O:List D)(Y:Str),g∈A∧g.nm=u∧d4 g.w=true∧q∈A∧g.fr=[q.nm]∧g.rs=O++[.str Y]∧uh B g.w Y q.w)↔r=true):cP (pF (E2 A t (w::nm::u::B) s4 bI 1 [sg A u] B))=some (.b r):=by
 refine uW (m:=1) rfl (bC (by kernel_rfl) (eW (by kernel_rfl) ?_));have ni:=Kw (sg A u);have i0:cw ([sg A u].map D.str) 0=some (.str (sg A u)):=rfl;have af:(h_.map D.str).length<=1000:=aH;have T:tB (e2 el (e2 bA (eV 8) (zI 0)) (df (aC (zR "fixed") (aC (zR "slide") (aC (zR "gaps") (aC (zR "ever") aN)))))) (E2 A t (w::nm::u::B) s4 bI 1 [sg A u] B)=some (!d4 (sg A u),E2 A t (w::nm::u::B) s4 bI 1 [sg A u] B):=by unfold E2;generalize [sg A u].map D.str=G,Z:h_.map D.str=FF at*;have Z:[D.str "fixed",.str "slide",.str "gaps",.str "ever"]=FF:=Z;simp[-lE,Z,af,i0,ni]
 by_cases m:u∈a_ A
 .obtain⟨g,b,rfl⟩:=iW m;have sw:=jI nd b;have o:d4 (sg A g.nm)=d4 g.w:=by rw[sw]
  rw[o]at T;cases a:d4 g.w with
  |false=>
   have n:=c3 hr λ V=>by
    obtain⟨j,q,O,Y,c,e,h3,_⟩:=V;have:=jI nd c;rw[e,sw]at this;rw[this,h3]at a;cases a
   rw[a]at T;rw[n];exact o2 (ρ':=E2 A t (w::nm::g.nm::B) s4 bI 1 [sg A g.nm] B) T (by simp)
  |true=>
   rw[a]at T;refine tQ T ?_;obtain⟨q,O,Y,l,y,C⟩:=ac g b a;have K:=Vj nd l y C hB hl (r:=r) (by
    rw[<-hr];constructor
    .intro z;exact⟨g,q,O,Y,b,rfl,a,l,y,C,z⟩
    .rintro ⟨j,q',ag,ah,c,e,_,h4,E,H,z⟩;have gg:j=g:=by have:=kY nd c;rw[e,kY nd b]at this;have d:=qi this;exact B1 d.symm
     subst gg;rw[y]at E;have nn:q.nm=q'.nm:=(yr E).1;have ρ:=jI nd l;rw[nn,jI nd h4]at ρ;rw[C]at H;obtain⟨_,e3⟩:=jt H rfl;cases e3;rw[ρ]at z;exact z)
   have lc:=jV (T:=tB (e2 bM (e2 bA (eV 0) (zI 1)) (e2 bA (eV 1) (zI 2)))) (F:=eV 0) (fr:=[.i (.l ((w::nm::g.nm::B).map .str))]) (g:=Rw.d) (p:=λ r=>decide (r.nm=g.nm)) (v:=Rw.d) A (λ r _=>by
    have k1:=rE r;have k2:cw ((w::nm::g.nm::B).map D.str) 2=some (.str g.nm):=by show cw (.str w::.str nm::.str g.nm::B.map .str) 2=_;unfold cw iq;rw[if_pos (by decide),if_pos cR];rfl
    generalize (w::nm::g.nm::B).map D.str=U,r.d=rd at*;simp[k1,k2]) λ r _ _=>rfl
   have g2:=k9 (J:=E2 A t (w::nm::g.nm::B) s4 bI 1 [sg A g.nm] B) (js:=[2]) (i:=1) lc rfl rfl (by rw[qz];lia);have L:cw ((A.filter λ r=>decide (r.nm=g.nm)).map Rw.d) 0=some g.d:=by
    have I:g∈A.filter λ r=>decide (r.nm=g.nm):=List.mem_filter.mpr ⟨b,by simp⟩;have all:∀x∈A.filter λ r=>decide (r.nm=g.nm),x=g:=λ x hx=>by
     obtain⟨x1,x2⟩:=List.mem_filter.mp hx;have:=kY nd x1;rw[zy x2,kY nd b]at this;exact B1 (qi this).symm
    cases Z:A.filter λ r=>decide (r.nm=g.nm)with
    |nil=>rw[Z]at I;cases I
    |cons x r=>
     rw[all x (by rw[Z];exact qg)];exact mR _ _
   generalize hG:c4 [2] (eV 1) (tB (e2 bM (e2 bA (eV 0) (zI 1)) (e2 bA (eV 1) (zI 2)))) (eV 0)=GG at*;have X:∀(J:En)(Q f:List D)(k h:D),GG J=some (.l Q,J)->cw Q 0=some k->J[9]?=some (.i (.l f))->J[3]?=some (.i h)->pS [.l f,k,h]=some (.b r)->k8 (bJ (eF pS (aC (eV 9) (aC (e2 bA GG (zI 0)) (aC (eV 3) aN)))) J)=some (.b r):=λ J Q f k h M N P R σ=>by
    simp[M,N,P,R,σ]
   exact X _ _ _ _ _ g2 L rfl rfl K
 .have n:=c3 hr fun⟨j,q,O,Y,c,e,_⟩=>m (by rw[<-e];exact qw c);have o:d4 (sg A u)=false:=by rw[vW m];kernel_rfl
  rw[o]at T;rw[n];exact o2 (ρ':=E2 A t (w::nm::u::B) s4 bI 1 [sg A u] B) T (by simp)
end
section
variable{A:cX}{t:Str}{s4:Sl}
theorem QW{m:Nat}(hl:F.length≤30)(h1:aY w=false)(h2:¬(w=bL))(h3:¬(w=bI))(h4:d4 w=false):cP (pF (E2 A t ws s4 w m F B))=some (.b false):=by
 by_cases l:F.length=m
 .refine uW l ?_;have Y:=A8 w;rw[h1]at Y;have Z:=Kw w;rw[h4]at Z;have O:(h_.map D.str).length<=1000:=aH;unfold E2;generalize gu.map D.str=CC,q:h_.map D.str=FF at*;have q:[D.str "fixed",.str "slide",.str "gaps",.str "ever"]=FF:=q;refine bC (by simp[-gO,Y,h2]) (bC (by simp[h3]) (dX (ρ':=[.i (.str t),.i (.l (aZ A)),.i (.l (ws.map .str)),.i (gF A),s4,.i (.l CC),.i (.str w),.i (.int m),.i (.l (F.map .str)),.i (.l (B.map .str)),.z]) (by simp[-lE,q,O,Z]) aQ))
 .exact qL hl l
def vp(A:cX)(us:aP):Prop:=2<=us.length/\us.length<=8/\(∀u∈us,aY (sg A u)=true)/\us.Nodup
theorem WK{nm:Str}{us:List Str}(hl:us.length≤25){r:Bool}(hr:vp A us↔r=true):cP (xl (ER A t (bH::nm::us) s4 (.i (.str bH))))=some (.b r):=by
 obtain⟨_,_,o⟩:=KL (.str bH) (.str nm) (us.map .str) 0;have g:=L3 A us;have C:(us.map D.str).length<=sizeLine:=cv (by rw[qz];lia);have ρ:(us.map D.str).length=us.length:=qz ..;obtain⟨k,s,E⟩:=vX (ss:=us) (by lia);have x:du (tB (e2 bP (eV 0) (eV 1))) (eV 0) [.i (.l (gu.map .str))] ((us.map (sg A)).map .str)=some (((us.map (sg A)).filter aY).map .str):=jV (us.map (sg A)) (g:=.str) (p:=aY) (v:=.str) (λ f _=>by
  have e:=A8 f;generalize gu.map D.str=Z at*;simp[-gO,e]) λ f _ _=>rfl
 have lf:((us.map (sg A)).map D.str).length<=sizeLine:=cv (by rw[qz,qz];lia);have b:=AX ((us.map (sg A)).filter aY) (us.map (sg A));have w:((us.map (sg A)).filter aY=us.map (sg A))↔∀u∈us,aY (sg A u)=true:=by
  rw[List.filter_eq_self];exact⟨λ h u m=>h _ (qw m),λ h f z=>by
   obtain⟨u,m,rfl⟩:=dI.mp z;exact h u m⟩
 rw[show decide ((us.map (sg A)).filter aY=us.map (sg A))=decide (∀u∈us,aY (sg A u)=true)from decide_eq_decide.mpr w]at b;have F:2<=us.length↔(1:Int)<(us.length:Int):=aD;have G:us.length<=8↔(us.length:Int)<9:=aD;have O:cg [.l (us.map D.str)]=some (.int (us.length:Int)):=aQ;have B:((us.map (sg A)).map D.str).length<=1000:=by rw[qz,qz];lia
 unfold vp at hr;rw[F,G]at hr;refine eW (by kernel_rfl) ?_;show k8 (aL _ _ [.i (.str t),.i (.l (aZ A)),.i (.l (.str bH::.str nm::us.map .str)),.i (gF A),s4,.i (.l (gu.map .str)),.i (.str bH),.z,.z,.z,.z])=_;generalize ((us.map (sg A)).filter aY).map D.str=V,(us.map (sg A)).map D.str=X,us.map D.str=U,gF A=Y,gu.map D.str=Z,aZ A=RA at*;have I:∀y:Sl,oR [.i (.str t),.i (.l RA),.i (.l (.str bH::.str nm::U)),.i Y,s4,.i (.l Z),.i (.str bH),.z,y,.z,.z]=some (.l U,[.i (.str t),.i (.l RA),.i (.l (.str bH::.str nm::U)),.i Y,s4,.i (.l Z),.i (.str bH),.z,y,.z,.z]):=λ y=>by simp[o]
 have v1:c4 [3] (oR) bD (lq (eV 1) (eV 0) (zR "")) [.i (.str t),.i (.l RA),.i (.l (.str bH::.str nm::U)),.i Y,s4,.i (.l Z),.i (.str bH),.z,.z,.z,.z]=some (.l X,[.i (.str t),.i (.l RA),.i (.l (.str bH::.str nm::U)),.i Y,s4,.i (.l Z),.i (.str bH),.z,.z,.z,.z]):=by unfold c4;rw[I,cD];show aF (some U) _=_;rw[cD];show aF (some ([.i Y]:En)) _=_;rw[cD,g,cD,if_pos C]
 refine xu v1 (xu (d:=.l V) (k9 x rfl rfl B) ?_);have l:oR [.i (.str t),.i (.l RA),.i (.l (.str bH::.str nm::U)),.i Y,s4,.i (.l Z),.i (.str bH),.z,.i (.l X),.z,.i (.l V)]=some (.l U,[.i (.str t),.i (.l RA),.i (.l (.str bH::.str nm::U)),.i Y,s4,.i (.l Z),.i (.str bH),.z,.i (.l X),.z,.i (.l V)]):=by simp[o]
 show k8 (bJ _ [.i (.str t),.i (.l RA),.i (.l (.str bH::.str nm::U)),.i Y,s4,.i (.l Z),.i (.str bH),.z,.i (.l X),.z,.i (.l V)])=_;generalize oR=SL,(us.length:Int)=n at*;by_cases a:(1:Int)<n
 .by_cases c:n<9
  .by_cases j:∀u∈us,aY (sg A u)=true
   .rw[zl j]at b;have H:r=decide (k=n):=by rw[zo,zh,E,<-hr];exact⟨λ q=>q.2.2.2,λ q=>⟨a,c,j,q⟩⟩
    rw[H];simp[-fL,-g6,l,O,a,c,b,s,wm]
   .rw[zn j]at b;have i:=c3 hr λ q=>j q.2.2.1;rw[i];simp[-fL,-g6,l,O,a,c,b]
  .have i:=c3 hr λ q=>c q.2.1;rw[i];simp[-fL,-g6,l,O,a,c]
 .have i:=c3 hr λ q=>a q.1;rw[i];simp[-fL,-g6,l,O,a]
end
section
variable{A:cX}(nd:(a_ A).Nodup)(la:A.length<=50){nm:Str}{us:aP}(hl:us.length<=25)(kn:aO nm)(nn:nm∉a_ A){r:Bool}
include nd la hl kn nn
abbrev Fn:List String:=["time","only","but","span","rest","turn","later","put"]
theorem Kk(q:s∈Fn)(hW:∀x∈sS s::nm::us,W x)(hr:(∃f vs,us=f::vs/\aY (sg A f)=true/\CH s vs)↔r=true):gA [.str (Str.join bR (sS s::nm::us)),.l (aZ A)]=some (.b r):=by
 have a:s∈C9:=qh _ (by
  revert q;exact id)
 refine p0 nd la hW hl kn nn λ s4=>rF (m:=1) hl ?_ ?_ ?_
 .simp only[yc,zv,jd]at q;rcases q with rfl|rfl|rfl|rfl|rfl|rfl|rfl|rfl<;>kernel_rfl
 .simp only[yc,zv,jd]at q;rcases q with rfl|rfl|rfl|rfl|rfl|rfl|rfl|rfl<;>kernel_rfl
 .cases us with
  |nil=>
   have c:=c3 hr λ O=>by obtain⟨f,vs,e,_⟩:=O;cases e
   rw[c];exact qL (by show(0:Nat)<=30;decide) aQ
  |cons f vs=>
   refine IG a rfl (by show(1:Nat)<=30;decide) (λ x b=>hW x (by simp[show x∈vs from b])) (by simp at hl;show vs.length<=30;lia) ?_;rw[<-hr];constructor
   .rintro ⟨Y,Z⟩;exact⟨f,vs,rfl,by simpa using Y,Z⟩
   .rintro ⟨g,d,e,Y,Z⟩;cases e;exact⟨by simpa using Y,Z⟩
theorem cy3(O:∀x∈cH::nm::us,W x)(Y:CH "in" us↔r=true):gA [.str (Str.join bR (cH::nm::us)),.l (aZ A)]=some (.b r):=by
 refine p0 nd la O hl kn nn λ s4=>rF (m:=0) hl aK aK ?_;exact IG aH rfl (by show(0:Nat)<=30;decide) (λ x Z=>O x (by simp[show x∈us from Z])) (by show us.length<=30;lia) ⟨λ q=>Y.mp q.2,λ q=>⟨rfl,Y.mpr q⟩⟩
theorem Hy(hW:∀x∈bL::nm::us,W x)(Z:(∃f g vs,us=f::g::vs∧aY (sg A f)=true∧aY (sg A g)=true∧nQ vs)↔r=true):gA [.str (Str.join bR (bL::nm::us)),.l (aZ A)]=some (.b r):=by
 refine p0 nd la hW hl kn nn λ s4=>rF (m:=2) hl aK aK ?_;rcases us with _|⟨f,_|⟨g,vs⟩⟩
 .have Y:=c3 Z λ q=>by obtain⟨f,g,vs,e,_⟩:=q;cases e
  rw[Y];exact qL (by show(0:Nat)<=30;decide) aQ
 .have Y:=c3 Z λ q=>by obtain⟨f,g,vs,e,_⟩:=q;cases e
  rw[Y];exact qL (by show(1:Nat)<=30;decide) (by show(1:Nat)≠2;decide)
 .refine Xe rfl (by show(2:Nat)<=30;decide) (λ x b=>hW x (by simp[show x∈vs from b])) (by simp at hl;show vs.length<=30;lia) ?_;rw[<-Z];constructor
  .rintro ⟨O,a⟩;have O:(aY (sg A f)&&(aY (sg A g)&&true))=true:=O;simp only[zm,and_true]at O;exact⟨f,g,vs,rfl,O.1,O.2,a⟩
  .rintro ⟨h,i,d,e,O,a,c⟩;cases e;refine⟨?_,c⟩;show(aY (sg A f)&&(aY (sg A g)&&true))=true;rw[O,a];rfl
theorem Hz(O:s∈Q4)(hW:∀x∈sS s::nm::us,W x)(Z:(∃f vs,us=f::vs∧∃P x,vs=P++[x]∧x∈eM∧kG s P∧(aY (sg A f)=true∨(sg A f=bL∧s≠"gaps"∧x≠cU)))↔r=true):gA [.str (Str.join bR (sS s::nm::us)),.l (aZ A)]=some (.b r):=by
 refine p0 nd la hW hl kn nn λ s4=>rF (m:=1) hl ?_ ?_ ?_
 .simp only[yc,zv,jd]at O;rcases O with rfl|rfl|rfl|rfl<;>kernel_rfl
 .simp only[yc,zv,jd]at O;rcases O with rfl|rfl|rfl|rfl<;>kernel_rfl
 .cases us with
  |nil=>
   have c:=c3 Z λ Y=>by obtain⟨f,vs,e,_⟩:=Y;cases e
   rw[c];exact qL (by show(0:Nat)<=30;decide) aQ
  |cons f vs=>
   refine Xf O (λ x b=>hW x (by simp[show x∈vs from b])) (by simp at hl;show vs.length<=30;lia) ?_;rw[<-Z];constructor
   .rintro ⟨P,x,e,q⟩;exact⟨f,vs,rfl,P,x,e,q⟩
   .rintro ⟨g,d,e,P,x,a,q⟩;cases e;exact⟨P,x,a,q⟩
theorem Kl(aa:∀g∈A,d4 g.w=true→∃(q:Rw)(O:aG)(Z:Str),q∈A∧g.fr=[q.nm]∧g.rs=O++[.str Z])(hW:∀x∈bI::nm::us,W x)(hr:(∃u vs,us=u::vs∧∃(g q:Rw)(O:aG)(Z:Str),g∈A∧g.nm=u∧d4 g.w=true∧q∈A∧g.fr=[q.nm]∧g.rs=O++[.str Z]∧uh vs g.w Z q.w)↔r=true):gA [.str (Str.join bR (bI::nm::us)),.l (aZ A)]=some (.b r):=by
 refine p0 nd la hW hl kn nn λ s4=>rF (m:=1) hl aK aK ?_;cases us with
 |nil=>
  have b:=c3 hr λ Y=>by obtain⟨f,vs,e,_⟩:=Y;cases e
  rw[b];exact qL (by show(0:Nat)<=30;decide) aQ
 |cons u vs=>
  refine ci7 nd la aa (λ x a=>hW x (by simp[show x∈vs from a])) (by simp at hl;lia) ?_;rw[<-hr];constructor
  .rintro q;exact⟨u,vs,rfl,q⟩
  .rintro ⟨d,c,e,q⟩;cases e;exact q
theorem XB(q:∀x∈bH::nm::us,W x)(O:vp A us↔r=true):gA [.str (Str.join bR (bH::nm::us)),.l (aZ A)]=some (.b r):=
 p0 nd la q hl kn nn λ s4=>WK hl O
theorem Rh(hW:∀x∈w::nm::us,W x)(h1:aY w=false)(h2:¬(w=bL))(h3:¬(w=bI))(Y:d4 w=false):gA [.str (Str.join bR (w::nm::us)),.l (aZ A)]=some (.b false):=by
 have O:¬(w=bH):=λ q=>by rw[q]at h1;cases(show aY bH=true by kernel_rfl).symm.trans h1
 have a:¬(w=cH):=λ q=>by rw[q]at h1;cases(show aY cH=true by kernel_rfl).symm.trans h1
 refine p0 nd la hW hl kn nn λ s4=>rF (m:=1) hl ?_ ?_ (QW (by rw[qz,j8];lia) h1 h2 h3 Y)
 .generalize gu.map D.str=Z at*;generalize gF A=SS at*;simp[O]
 .have i:cw [D.int 1,.int 0,.int 2] 0=some (.int 1):=rfl;have o:gR 2 0=true:=aK;unfold ER Mw;generalize gu.map D.str=Z,gF A=SS at*;simp[a,h2,i,o]
end
theorem nA[Decidable P](h:P↔r=true):r=decide P:=by rw[zo,zh,h]
section
variable{r:Bool}(F:aG)
theorem cy4(w:Str)(hw:w=cH∨w=e_∨w=bI)(a b:Int)(q:a≤b↔r=true):dC [.str w,.t F,.t [.int a,.int b]]=some (.b r):=by
 have e:dC [.str w,.t F,.t [.int a,.int b]]=some (.b (decide (a<=b))):=by rcases hw with rfl|rfl|rfl<;>kernel_rfl
 rw[e,nA q]
theorem Uq(a:Int)(x:D)(hx:x=.n∨∃b,x=.int b)(Y:(0≤a∧∀b,x=.int b→a<b)↔r=true):dC [.str fC,.t F,.t [.int a,x]]=some (.b r):=by
 rw[pZ];refine bC aK (dX (ρ':=[.i (.str fC),.i (.t F),.i (.t [.int a,x])]) aK ?_);by_cases O:a>=0
 .rcases hx with rfl|⟨b,rfl⟩
  .have c:=Y.mp ⟨O,λ b q=>by cases q⟩;rw[c];simp[O,d3,jF]
  .have d:=nA ⟨λ q=>Y.mp ⟨O,λ f e=>by cases e;exact q⟩,λ q=>(Y.mpr q).2 b rfl⟩;rw[d];simp[O,d3,jF]
 .have Z:=c3 Y λ q=>O q.1;rw[Z];simp[O,d3]
theorem Uz(w:Str)(hw:w=gH∨w=gJ)(ks:aP)(hl:ks.length≤30)(Y:(ks.length≤8∧ks.Nodup)↔r=true):dC [.str w,.t F,.t (ks.map .str)]=some (.b r):=by
 have u:=zW (ss:=ks) aD (r:=decide ks.Nodup) (by rw[zh]);have Z:cg [.t (ks.map D.str)]=some (.int (ks.length:Int)):=aQ;have a:ks.length<=8↔(ks.length:Int)<=8:=aD;rw[a]at Y;generalize (ks.length:Int)=n,ks.map D.str=K at*;rw[pZ];refine bC (by rcases hw with rfl|rfl<;>kernel_rfl) (bC (by rcases hw with rfl|rfl<;>kernel_rfl) (dX (ρ':=[.i (.str w),.i (.t F),.i (.t K)]) (by rcases hw with rfl|rfl<;>kernel_rfl) ?_));by_cases O:n<=8
 .have c:=nA ⟨λ q=>Y.mp ⟨O,q⟩,λ q=>(Y.mpr q).2⟩;rw[c];generalize decide ks.Nodup=B at*;simp[-sr,Z,O,u]
 .have b:=c3 Y λ q=>O q.1;rw[b];simp[-sr,Z,O]
theorem Uv(a b:Int)(Y:(2≤a∧a≤1000∧0≤b∧b<a)↔r=true):dC [.str fb,.t F,.t [.int a,.int b]]=some (.b r):=by
 have e:dC [.str fb,.t F,.t [.int a,.int b]]=some (.b (decide (2≤a)&&(decide (a≤1000)&&(decide (0≤b)&&decide (b<a))))):=by rw[pZ];refine bC aK (bC aK (bC aK (dX (ρ':=[.i (.str fb),.i (.t F),.i (.t [.int a,.int b])]) aK ?_)));by_cases Z:2<=a<;>by_cases O:a<=1000<;>by_cases c:0<=b<;>by_cases q:b<a<;>simp[Z,O,c,q,d3,jF]
 have d:r=(decide (2<=a)&&(decide (a<=1000)&&(decide (0<=b)&&decide (b<a)))):=by rw[zo,<-Y];simp only[zm,zh]
 rw[d];exact e
theorem Um(a b:Int)(O:(-1000≤a∧a≤1000∧a≠0)↔r=true):dC [.str fe,.t F,.t [.int a,.int b]]=some (.b r):=by
 have e:dC [.str fe,.t F,.t [.int a,.int b]]=some (.b (decide (-1000≤a)&&(decide (a≤1000)&&decide (a≠0)))):=by rw[pZ];refine bC aK (bC aK (bC aK (bC aK (dX (ρ':=[.i (.str fe),.i (.t F),.i (.t [.int a,.int b])]) aK ?_))));by_cases Y:-1000<=a<;>by_cases q:a<=1000<;>by_cases c:a=0<;>simp[Y,q,c,d3]
 have Z:r=(decide (-1000<=a)&&(decide (a<=1000)&&decide (a≠0))):=by rw[zo,<-O];simp only[zm,zh]
 rw[Z];exact e
theorem cm0(ks:aP)(hl:ks.length≤30)(Y:((ks.length=2∨ks.length=4∨ks.length=6∨ks.length=8)∧(cF ks).Nodup)↔r=true):dC [.str c1,.t F,.t (ks.map .str)]=some (.b r):=by
 have le:=sj ks;have u:=zW (ss:=cF ks) aD (r:=decide (cF ks).Nodup) (by rw[zh]);have Z:cg [.t (ks.map D.str)]=some (.int (ks.length:Int)):=aQ;have a:=AW D.str ks;have i:bP (.int (ks.length:Int)) (.t [.int 2,.int 4,.int 6,.int 8])=some (.b (decide (ks.length=2\/ks.length=4\/ks.length=6\/ks.length=8))):=by rw[eT,if_pos (show fv (.int (ks.length:Int)) [.int 2,.int 4,.int 6,.int 8]=true from rfl)];congr 2;show(bZ (.int 2) (.int (ks.length:Int))||(bZ (.int 4) (.int (ks.length:Int))||(bZ (.int 6) (.int (ks.length:Int))||(bZ (.int 8) (.int (ks.length:Int))||false))))=_;rw[zo];simp;lia
 generalize (cF ks).map D.str=EK,ks.map D.str=K at*;rw[pZ];refine bC aK (bC aK (bC aK (bC aK (bC aK (dX (ρ':=[.i (.str c1),.i (.t F),.i (.t K)]) aK ?_)))));by_cases O:ks.length=2\/ks.length=4\/ks.length=6\/ks.length=8
 .rw[zl O]at i;have c:=nA ⟨λ q=>Y.mp ⟨O,q⟩,λ q=>(Y.mpr q).2⟩;rw[c];generalize decide (cF ks).Nodup=B,(ks.length:Int)=n at*;simp[-eT,-sr,Z,i,a,u]
 .rw[zn O]at i;have b:=c3 Y λ q=>O q.1;rw[b];generalize (ks.length:Int)=n at*;simp[-eT,-sr,Z,i]
theorem Ux(R:aG)(ks:aP)(hl:ks.length≤30)(Y:(ks.length≤8∧ks.Nodup)↔r=true):dC [.str bH,.t (ks.map .str),.t R]=some (.b r):=by
 have u:=zW (ss:=ks) aD (r:=decide ks.Nodup) (by rw[zh]);have Z:cg [.t (ks.map D.str)]=some (.int (ks.length:Int)):=aQ;have a:ks.length<=8↔(ks.length:Int)<=8:=aD;rw[a]at Y;generalize (ks.length:Int)=n,ks.map D.str=K at*;rw[pZ];refine bC aK (bC aK (bC aK (bC aK (bC aK (bC aK (dX (ρ':=[.i (.str bH),.i (.t K),.i (.t R)]) aK ?_))))));by_cases O:n<=8
 .have c:=nA ⟨λ q=>Y.mp ⟨O,q⟩,λ q=>(Y.mpr q).2⟩;rw[c];generalize decide ks.Nodup=B at*;simp[-sr,Z,O,u]
 .have b:=c3 Y λ q=>O q.1;rw[b];simp[-sr,Z,O]
theorem Rn(a:Int)(q:0≤a↔r=true):dC [.str fD,.t F,.t [.int a]]=some (.b r):=by have e:dC [.str fD,.t F,.t [.int a]]=some (.b (decide (a≥0))):=aK;rw[e,nA q]
theorem Uy(a:Int)(x:D)(q:0≤a↔r=true):dC [.str bL,.t F,.t [.int a,x]]=some (.b r):=by have e:dC [.str bL,.t F,.t [.int a,x]]=some (.b (decide (a≥0))):=aK;rw[e,nA q]
theorem Rm(a b:Int)(x:D)(O:b.natAbs<2^64)(Y:(1≤b∧b<a∧a≤20*b)↔r=true):dC [.str fY,.t F,.t [.int a,.int b,x]]=some (.b r):=by
 have c:cw [D.int a,.int b,x] 0=some (.int a):=rfl;have Z:cw [D.int a,.int b,x] 1=some (.int b):=rfl;have m:gR 20 b=true:=uK O;have e:dC [.str fY,.t F,.t [.int a,.int b,x]]=some (.b (decide (1≤b)&&(decide (b<a)&&decide (a≤20*b)))):=by rw[pZ];refine bC aK (bC aK (bC aK (bC aK (bC aK (bC aK (bC aK (bC aK (dX (ρ':=[.i (.str fY),.i (.t F),.i (.t [.int a,.int b,x])]) aK ?_))))))));by_cases d:1<=b<;>by_cases q:b<a<;>by_cases f:a<=20*b<;>simp[d,q,f,c,Z,m,X0]
 have g:r=(decide (1<=b)&&(decide (b<a)&&decide (a<=20*b))):=by rw[zo,<-Y];simp only[zm,zh]
 rw[g];exact e
theorem Ui(w:Str)(hw:w=hZ∨w=dR)(a:Int)(x:D)(q:1≤a↔r=true):dC [.str w,.t F,.t [.int a,x]]=some (.b r):=by
 have e:dC [.str w,.t F,.t [.int a,x]]=some (.b (decide (a>=1))):=by rcases hw with rfl|rfl<;>kernel_rfl
 rw[e,nA q]
end
inductive Pk where
 |key|how|fold|num (b:Bool)
inductive gM:Str->Pk->Prop
 |key {p:Str} (hp:bP (.str p) jN=some (.b true)) (hf:bP (.str p) FR=some (.b false)):gM p .key
 |how:gM kC .how
 |fold:gM fZ .fold
 |num {p:Str}{b:Bool} (hp:cG p) (hf:bP (.str p) FR=some (.b false)) (hb:bP (.str p) BP=some (.b b)):gM p (.num b)
def kN:Pk->Str->Prop
 |.key,s=>aO s
 |.how,s=>s∈gX
 |.fold,s=>s∈eM
 |.num b,s=>(∃n,Nm s n)\/(b=true/\s=star)
theorem Me(s:Str):bP (.str s) HP=some (.b (decide (s∈gX))):=by have e:=Kr s;rw[lE,if_pos (show fv (.str s) (gX.map .str)=true from rfl)]at e;have e:=D.b.inj (qi e);show bP (.str s) (.t (gX.map .str))=_;rw[eT,if_pos (show fv (.str s) (gX.map .str)=true from rfl)];congr 2;revert e;cases fz (.str s) (gX.map .str)<;>cases decide (s∈gX)<;>intro e<;>first|rfl|cases e
theorem IU(h:gM p k)(Y:W s):∃r:Bool,dM [.str p,.str s]=some (.b r)/\(kN k s↔r=true):=by
 cases h with
 |key O _=>exact⟨decide (aO s),sE O (tr Y),by rw[zh];exact Y5⟩
 |how=>
  refine⟨decide (s∈gX),?_,by rw[zh];exact Y5⟩;have e:=Me s;have a:bP (.str "HOW") jN=some (.b false):=aK;generalize decide (s∈gX)=B at e;simp[-eT,dM,lR,a,e]
 |fold=>
  refine⟨decide (s∈eM),?_,by rw[zh];exact Y5⟩;have e:bP (.str s) FP=some (.b (decide (s∈eM))):=Cj s;have a:bP (.str "FOLD") jN=some (.b false):=aK;have b:=j7 (show ¬(fZ=kC) by decide+kernel);generalize decide (s∈eM)=B at e;simp[-eT,dM,lR,a,b,e]
 |@num _ b O g f=>
  have Z:=O.kp;have c:=j7 O.nh;have d:=j7 O.nf;rcases g_9 Y with⟨n,hn⟩|⟨nn,e,_⟩
  .refine⟨true,?_,λ _=>rfl,λ _=>.inl ⟨n,hn⟩⟩;rw[hn.2];exact KA O hn.1
  .by_cases st:s=star
   .refine⟨b,?_,?_⟩
    .subst st;simp[-eT,dM,lR,Z,c,d,e,f]
    .constructor
     .rintro (⟨n,q⟩|⟨q,_⟩)
      .exact absurd q (nn n)
      .exact q
     .intro q;exact .inr ⟨q,st⟩
   .refine⟨false,?_,?_⟩
    .simp[-eT,dM,lR,Z,c,d,e,st]
    .constructor
     .rintro (⟨n,q⟩|⟨_,q⟩)
      .exact absurd q (nn n)
      .exact absurd q st
     .intro q;cases q
def vD(s:Str):D:=if s=star then .n else if pH (tD s)=true then .str s else tD s
theorem qu:vD star=.n:=if_pos rfl
theorem gV(h:Nm s n):vD s=.int n:=by unfold vD;rw[if_neg (λ q:s=star=>oC n (q▸h)),ma h];rfl
theorem rC(k:aO s):vD s=.str s:=by unfold vD;rw[if_neg (IK k),vU k.w (Rl k)];rfl
theorem Ks:∀s∈gX,aO s:=aW
theorem wc:∀s∈eM,aO s:=aW
theorem HH(h:gM p k)(f:kN k s):fP p s (vD s):=by
 cases h with
 |key O q=>rw[rC f];exact .key O q f
 |how=>rw[rC (Ks s f)];exact .how (by rw[Me,zl (show s∈gX from f)]) (Ks s f)
 |fold=>rw[rC (wc s f)];exact .fold (by rw[show bP (.str s) FP=_ from Cj s,zl (show s∈eM from f)]) (wc s f)
 |num O q Y=>
  rcases f with⟨n,hn⟩|⟨a,rfl⟩
  .rw[gV hn,hn.2];exact .num O q hn.1
  .rw[qu];exact .star O q (by rw[Y,a])
def gW(L:List (Str×Pk))(vs:aP):Prop:=∀y∈L.zip vs,kN y.1.2 y.2
theorem ov:∀{a:List α}{b:List β},a.length=b.length->(a.zip b).map (·.1)=a/\(a.zip b).map (·.2)=b
 |[],[],_=>⟨rfl,rfl⟩
 |_::_,_::_,h=>by
  have:=ov (Nat.succ.inj h);simp[this.1,this.2]
theorem p8{ps:aP}(hw:bE w cc=some (.str form))(Y:∀s∈w::nm::us,W s)(hn:us.length<=19)(q:ip [.str w,.int ((us.length+1:Nat):Int)]=some (.l (ps.map .str)))(Z:ps.length<=30)(ne:ps.length≠us.length+1):fH [.str (Str.join bR (w::nm::us))]=some .n:=
 Ca (λ s O=>(Y s O).wd) cR ⟨form,hw⟩ (by rw[zt];exact q) Z λ e=>absurd e ne
section
variable{w nm:Str}{form:Str}{pf:aP}{L:List (Str×Pk)}{fs vs:aP}(hw:bE w cc=some (.str form))(kw:aO w)(hpf:∀p∈pf,bP (.str p) FR=some (.b true)/\bP (.str p) jN=some (.b true))(hL:∀x∈L,gM x.1 x.2)(lf:pf.length=fs.length)(lv:L.length=vs.length)(hn:fs.length+vs.length<=19)(wn:W nm)(wf:∀f∈fs,W f)(wv:∀v∈vs,W v)
 (hp:ip [.str w,.int ((fs.length+vs.length+1:Nat):Int)]=some (.l ((Str.ofString "NAME"::(pf++L.map (·.1))).map .str)))
include hw kw hpf hL lf lv hn wn wf wv hp
theorem WT(nf:¬(aO nm/\(∀f∈fs,aO f)/\gW L vs)):fH [.str (Str.join bR (w::nm::(fs++vs)))]=some .n:=by
 obtain⟨l,d⟩:=ov lf;obtain⟨j,k⟩:=ov lv;have i:∀p∈((bW,nm)::(pf.zip fs++(L.zip vs).map λ y=>(y.1.1,y.2))),∃r:Bool,dM [.str p.1,.str p.2]=some (.b r):=λ p a=>by
  rcases qx a with q|q
  .subst q;exact⟨_,sE aK (tr wn)⟩
  .rcases qy q with q|q
   .have g:p.1∈pf:=by rw[<-l];exact qw q
    have h:p.2∈fs:=by rw[<-d];exact qw q
    exact⟨_,sE (hpf _ g).2 (tr (wf _ h))⟩
   .obtain⟨y,b,rfl⟩:=dI.mp q;have g:y.1∈L:=by rw[<-j];exact qw b
    have h:y.2∈vs:=by rw[<-k];exact qw b
    obtain⟨r,e,_⟩:=IU (hL _ g) (wv _ h);exact⟨r,e⟩
 have c:∀p∈((bW,nm)::(pf.zip fs++(L.zip vs).map λ y=>(y.1.1,y.2))),dM [.str p.1,.str p.2]=some (.b (match dM [.str p.1,.str p.2]with|some (.b r)=>r|_=>false)):=λ p a=>by
  obtain⟨r,e⟩:=i p a;rw[e]
 refine Ca (λ s o=>?_) cR ⟨form,hw⟩ (by
  have e:((nm::(fs++vs)).length:Int)=((fs.length+vs.length+1:Nat):Int):=aQ;rw[e];exact hp) cR λ _=>⟨(bW,nm)::(pf.zip fs++(L.zip vs).map λ y=>(y.1.1,y.2)),λ p=>match dM [.str p.1,.str p.2]with|some (.b r)=>r|_=>false,?_,?_,c,?_⟩
 .rcases qx o with q|q
  .subst q;exact kw.w.wd
  .rcases qx q with q|q
   .subst q;exact wn.wd
   .rcases qy q with q|q
    .exact(wf s q).wd
    .exact(wv s q).wd
 .rw[zj,zx,l,zu];show _::(pf++(L.zip vs).map ((·.1)∘(·.1)))=_;rw[<-zu,j]
 .rw[zj,zx,d,zu];show _::(fs++(L.zip vs).map (·.2))=_;rw[k]
 .apply Bool.eq_false_iff.mpr;intro m;rw[jm]at m;have all:∀p∈((bW,nm)::(pf.zip fs++(L.zip vs).map λ y=>(y.1.1,y.2))),dM [.str p.1,.str p.2]=some (.b true):=λ p a=>by
   rw[c p a,m p a]
  refine nf ⟨?_,λ f n=>?_,λ y b=>?_⟩
  .have:=all _ qg;rw[sE aK (tr wn)]at this;exact zy (D.b.inj (qi this))
  .rw[<-d]at n;obtain⟨p,a,rfl⟩:=dI.mp n;have:=all p (qh _ (jy _ a));rw[sE (hpf p.1 (by rw[<-l];exact qw a)).2 (tr (wf p.2 (by rw[<-d];exact qw a)))]at this;exact zy (D.b.inj (qi this))
  .have:=all (y.1.1,y.2) (qh _ (qo _ (dI.mpr ⟨y,b,rfl⟩)));obtain⟨r,e,q⟩:=IU (hL y.1 (by rw[<-j];exact qw b)) (wv y.2 (by rw[<-k];exact qw b));rw[e]at this;exact q.mpr (D.b.inj (qi this))
theorem QP(kn:aO nm)(kf:∀f∈fs,aO f)(ft:gW L vs)(hb:dC [.str w,.t (fs.map .str),.t (vs.map vD)]=some (.b b))(hr:(w=c1∧rest=d5 (cF (vs.map vD)) (cF ((vs.map vD).drop 1)))∨(¬(w=c1)∧rest=vs.map vD)):fH [.str (Str.join bR (w::nm::(fs++vs)))]=some (if b=true then eX w nm fs rest else .n):=by
 obtain⟨l,a⟩:=ov lf;obtain⟨j,k⟩:=ov lv;have i:((L.zip vs).map λ y=>(y.1.1,y.2,vD y.2)).map (·.2.2)=vs.map vD:=by rw[zu];show(L.zip vs).map (vD∘(·.2))=_;rw[<-zu,k]
 have q:((L.zip vs).map λ y=>(y.1.1,y.2,vD y.2)).map (λ t=>(t.1,t.2.1))=(L.zip vs).map λ y=>(y.1.1,y.2):=by rw[zu];rfl
 have c:dE nm (pf.zip fs) ((L.zip vs).map λ y=>(y.1.1,y.2,vD y.2))=(bW,nm)::(pf.zip fs++(L.zip vs).map λ y=>(y.1.1,y.2)):=by show(_::(_++_))=_;rw[q]
 have p2:(dE nm (pf.zip fs) ((L.zip vs).map λ y=>(y.1.1,y.2,vD y.2))).map (·.2)=nm::(fs++vs):=by rw[c,zj,zx,a,zu];show _::(fs++(L.zip vs).map (·.2))=_;rw[k]
 have o:((dE nm (pf.zip fs) ((L.zip vs).map λ y=>(y.1.1,y.2,vD y.2))).map λ p=>D.str p.1)=(bW::(pf++L.map (·.1))).map .str:=by
  rw[c,zj,zx,zu,zj,zx];congr 2
  .show(pf.zip fs).map (D.str∘(·.1))=_;rw[<-zu,l]
  .show(L.zip vs).map ((λ x:Str×Pk=>D.str x.1)∘(·.1))=_;rw[<-zu,j,zu];rfl
 have g:(dE nm (pf.zip fs) ((L.zip vs).map λ y=>(y.1.1,y.2,vD y.2))).length=fs.length+vs.length+1:=by rw[c];simp[lf,lv]
 have r:=Z_ (ts:=(L.zip vs).map λ y=>(y.1.1,y.2,vD y.2)) hw ⟨(nj kw).2.2,(nj kw).1⟩ kn (λ p d=>by
   have h:p.1∈pf:=by rw[<-l];exact qw d
   have n:p.2∈fs:=by rw[<-a];exact qw d
   exact⟨(hpf _ h).1,(hpf _ h).2,kf _ n⟩) (λ t m=>by
   obtain⟨y,e,rfl⟩:=dI.mp m;exact HH (hL y.1 (by rw[<-j];exact qw e)) (ft y e)) (by rw[g];lia) (by rw[g,o];exact hp) (by rw[a,i];exact hb) (by rw[i];exact hr)
 rw[p2,a]at r;exact r
theorem se(h1:OK->gW L vs)(h2:(∀f∈fs,aO f)->gW L vs->∃b:Bool,dC [.str w,.t (fs.map .str),.t (vs.map vD)]=some (.b b)/\(OK↔b=true))(Z:(w=c1∧rest=d5 (cF (vs.map vD)) (cF ((vs.map vD).drop 1)))∨(¬(w=c1)∧rest=vs.map vD)):(¬(aO nm/\(∀f∈fs,aO f)/\OK)->fH [.str (Str.join bR (w::nm::(fs++vs)))]=some .n)/\((aO nm/\(∀f∈fs,aO f)/\OK)->fH [.str (Str.join bR (w::nm::(fs++vs)))]=some (eX w nm fs rest)):=by
 by_cases c:aO nm/\(∀f∈fs,aO f)/\gW L vs
 .obtain⟨b,Y,ok⟩:=h2 c.2.1 c.2.2;have r:=QP hw kw hpf hL lf lv hn wn wf wv hp c.1 c.2.1 c.2.2 Y Z;refine⟨λ q=>?_,λ q=>?_⟩
  .have O:=c3 ok λ z=>q ⟨c.1,c.2.1,z⟩;rw[r,O];rfl
  .rw[r,ok.mp q.2.2];rfl
 .have r:=WT hw kw hpf hL lf lv hn wn wf wv hp c;exact⟨λ _=>r,λ q=>absurd ⟨q.1,q.2.1,h1 q.2.2⟩ c⟩
end
theorem uH(lv:L.length=vs.length)(hL:∀x∈L,gM x.1 x.2)(ft:gW L vs)(hn:fs.length+vs.length<=19)(hs:∀s∈w::nm::(fs++vs),W s):gj [eX w nm fs (vs.map vD)]=some (.str (Str.join bR (w::nm::(fs++vs)))):=by
 obtain⟨c,d⟩:=ov lv;have e:vs.map vD=(vs.map λ s=>(vD s,[s])).map (·.1):=by rw[zu];rfl
 rw[e];refine Eh (λ q Z=>?_) ?_ cR λ s h=>(hs s h).1
 .obtain⟨s,O,rfl⟩:=dI.mp Z;rw[<-d]at O;obtain⟨y,Y,rfl⟩:=dI.mp O;have it:=qF (HH (hL y.1 (by rw[<-c];exact qw Y)) (ft y Y));exact λ R M b=>it.shw R M b
 .have:(vs.map λ s=>(vD s,[s])).flatMap (·.2)=vs:=by
   rw[List.flatMap_map];induction vs with
   |nil=>rfl
   |cons a r f=>simp
  rw[this];simp
abbrev RR(w nm:Str)(us:aP):fA:=fH [.str (Str.join bR (w::nm::us))]
theorem AU(kw:aO w)(hk:rM cc (.str w)=some (.str form))(hw:bE w cc=some (.str form))(fl:form.length≤100000)(hs:Txt.split form bR=ws++[l])(hd:¬(l=cq ".."))(na:¬(w=bI))(np:¬(w=c1))(e:ws++[l]=bW::(pf++L.map (·.1)))(hpf:∀p∈pf,bP (.str p) FR=some (.b true)∧bP (.str p) jN=some (.b true))(hL:∀x∈L,gM x.1 x.2)(sm:pf.length+L.length≤10)(O:∀s∈w::nm::us,W s)(hn:us.length≤19):(us.length≠pf.length+L.length->RR w nm us=some .n)/\∀fs vs,us=fs++vs->fs.length=pf.length->vs.length=L.length->∀OK:Prop,(OK->gW L vs)->((∀f∈fs,aO f)->gW L vs->∃b:Bool,dC [.str w,.t (fs.map .str),.t (vs.map vD)]=some (.b b)/\(OK↔b=true))->(¬(aO nm/\(∀f∈fs,aO f)/\OK)->RR w nm us=some .n)/\((aO nm/\(∀f∈fs,aO f)/\OK)->RR w nm us=some (eX w nm fs (vs.map vD))/\gj [eX w nm fs (vs.map vD)]=some (.str (Str.join bR (w::nm::us)))):=by
 have Z:∀n:Int,ip [.str w,.int n]=some (.l ((bW::(pf++L.map (·.1))).map .str)):=λ n=>by
  rw[<-e];exact Fy hk fl hs hd λ q=>na q.1
 refine⟨λ j=>p8 hw O hn (Z _) cR cR,λ fs vs d lf lv OK c g=>?_⟩;subst d;have wf:∀f∈fs,W f:=λ f h=>O f (by simp[h]);have wv:∀v∈vs,W v:=λ v i=>O v (by simp[i]);have Y:fs.length+vs.length<=19:=by simpa using hn
 obtain⟨a,b⟩:=se hw kw hpf hL lf.symm lv.symm Y (O nm aQ) wf wv (Z _) c g (.inr ⟨np,rfl⟩);exact⟨a,λ q=>⟨b q,uH lv.symm hL (c q.2.2) Y O⟩⟩
theorem eu:∀p∈[cy],bP (.str p) FR=some (.b true)∧bP (.str p) jN=some (.b true):=λ p q=>by
 rw[dt q];exact⟨by kernel_rfl,by kernel_rfl⟩
theorem d_:gW [p,q] [a,b]↔kN p.2 a/\kN q.2 b:=by
 constructor
 .intro h;exact⟨h (p,a) aQ,h (q,b) aQ⟩
 .rintro ⟨c,d⟩ y O;simp at O;rcases O with rfl|rfl
  .exact c
  .exact d
theorem nc:gW [p] [a]↔kN p.2 a:=by
 constructor
 .intro h;exact h (p,a) aQ
 .intro b y q;simp at q;rw[q];exact b
theorem en:kN (.num true) s↔Bd s:=by
 constructor
 .rintro (h|⟨_,h⟩)
  .exact .inr h
  .exact .inl h
 .rintro (h|h)
  .exact .inr ⟨rfl,h⟩
  .exact .inl h
theorem dG:kN (.num false) s↔∃n,Nm s n:=by
 constructor
 .rintro (h|⟨h,_⟩)
  .exact h
  .cases h
 .exact .inl
theorem pG(np:cG p)(q:bP (.str p) FR=some (.b false))(O:bP (.str p) BP=some (.b true)):gM p (.num true):=.num np q O
theorem ly(np:cG p)(q:bP (.str p) FR=some (.b false))(O:bP (.str p) BP=some (.b false)):gM p (.num false):=.num np q O
theorem mB{p q:Str×Pk}(Y:gM p.1 p.2)(Z:gM q.1 q.2):∀x∈[p,q],gM x.1 x.2:=λ x O=>by
 simp at O;rcases O with rfl|rfl
 .exact Y
 .exact Z
theorem A7(hw:w=cH∨w=e_∨w=bI)(F:aG)(Z:Bd a)(O:Bd b):∃r:Bool,dC [.str w,.t F,.t ([a,b].map vD)]=some (.b r)∧(kj a b↔r=true):=by
 rcases Z with rfl|⟨n,hn⟩
 .refine⟨true,?_,λ _=>rfl,λ _=>⟨.inl rfl,O,λ n m q=>absurd q (oC n)⟩⟩;show dC [.str w,.t F,.t [vD star,vD b]]=_;rw[qu];exact cy6 w hw F _
 .rcases O with rfl|⟨m,c⟩
  .refine⟨true,?_,λ _=>rfl,λ _=>⟨.inr ⟨n,hn⟩,.inl rfl,λ _ m _ q=>absurd q (oC m)⟩⟩;show dC [.str w,.t F,.t [vD a,vD star]]=_;rw[qu,gV hn];exact cy5 w hw F _
  .refine⟨decide (n<=m),?_,?_⟩
   .show dC [.str w,.t F,.t [vD a,vD b]]=_;rw[gV hn,gV c];exact cy4 F w hw n m (by rw[zh])
   .rw[zh];constructor
    .intro q;exact q.2.2 n m hn c
    .intro q;refine⟨.inr ⟨n,hn⟩,.inr ⟨m,c⟩,λ x y Y d=>?_⟩;rw[iu Y hn,iu d c];exact q
theorem WU(hW:∀s∈cH::nm::us,W s)(hn:us.length≤19):(¬(aO nm∧CH "in" us)→RR cH nm us=some .n)∧((aO nm∧CH "in" us)→RR cH nm us=some (eX cH nm [] (us.map vD))∧gj [eX cH nm [] (us.map vD)]=some (.str (Str.join bR (cH::nm::us)))):=by
 obtain⟨a,b⟩:=AU (form:=sS "NAME LOW HIGH") (ws:=[bW,iJ]) (pf:=[]) (L:=[(iJ,.num true),(kD,.num true)]) (c_4 aW) aK aK aW aW aW aW aW rfl (λ p h=>by cases h) (mB (pG wb aK aK) (pG AE aK aK)) aH hW hn;by_cases l:us.length=2
 .obtain⟨x,y,rfl⟩:=pz l;have Y:CH "in" [x,y]↔kj x y:=by exact⟨λ O=>by obtain⟨a,b,e,o⟩:=O;cases e;exact o,λ o=>⟨x,y,rfl,o⟩⟩
  obtain⟨c,d⟩:=b [] [x,y] rfl rfl rfl (CH "in" [x,y]) (λ q=>d_.mpr ⟨en.mpr (Y.mp q).1,en.mpr (Y.mp q).2.1⟩) λ _ f=>by
   obtain⟨f1,g⟩:=d_.mp f;rw[Y];exact A7 (.inl rfl) _ (en.mp f1) (en.mp g)
  exact⟨λ q=>c λ z=>q ⟨z.1,z.2.2⟩,λ q=>d ⟨q.1,(λ f Z=>by cases Z),q.2⟩⟩
 .exact⟨λ _=>a (by simpa using l),λ q=>by
   obtain⟨x,y,e,_⟩:=(show ∃a b,us=[a,b]/\kj a b from q.2);rw[e]at l;exact absurd rfl l⟩
def pB(s:String)(nm:Str)(us:aP)(C:aP->Prop)(q:aP->List D):Prop:=
 (¬(aO nm/\∃f vs,us=f::vs/\aO f/\C vs)->RR (sS s) nm us=some .n)/\∀f vs,us=f::vs->aO nm->aO f->C vs->RR (sS s) nm us=some (eX (sS s) nm [f] (q vs))/\gj [eX (sS s) nm [f] (q vs)]=some (.str (Str.join bR (sS s::nm::us)))
abbrev oj(s:String)(nm:Str)(us:aP)(q:aP->List D):Prop:=pB s nm us (CH s) q
theorem nt(kw:aO (sS s))(hk:rM cc (.str (sS s))=some (.str form))(hw:bE (sS s) cc=some (.str form))(fl:form.length≤100000)(hs:Txt.split form bR=ws++[l])(hd:¬(l=cq ".."))(na:¬(sS s=bI))(np:¬(sS s=c1))(e:ws++[l]=bW::([cy]++L.map (·.1)))(hL:∀x∈L,gM x.1 x.2)(sm:L.length≤9)(hW:∀x∈sS s::nm::us,W x)(hn:us.length≤19)(Z:∀vs,C vs->vs.length=L.length/\gW L vs)(Y:∀f vs,vs.length=L.length->gW L vs->∃r:Bool,dC [.str (sS s),.t [.str f],.t (vs.map vD)]=some (.b r)/\(C vs↔r=true)):pB s nm us C (·.map vD):=by
 obtain⟨a,b⟩:=AU kw hk hw fl hs hd na np e eu hL cR hW hn;cases us with
 |nil=>exact⟨λ _=>a cR,λ f vs e=>by cases e⟩
 |cons f vs=>
  by_cases l:vs.length=L.length
  .obtain⟨c,d⟩:=b [f] vs rfl rfl l (C vs) (λ q=>(Z vs q).2) λ _ j=>Y f vs l j;refine⟨λ q=>c λ z=>q ⟨z.1,f,vs,rfl,z.2.1 f aQ,z.2.2⟩,λ i O e kn h g=>?_⟩;cases e;exact d ⟨kn,λ x k=>by rw[dt k];exact h,g⟩
  .refine⟨λ _=>a cR,λ i O e kn h g=>?_⟩;cases e;exact absurd (Z vs g).1 l
theorem tq{vs:aP}(h:vs.length=[p,q].length):∃a b,vs=[a,b]:=pz h
theorem Kp(Z:Nm a n)(Y:Nm b m)[Decidable P](q:CH s [a,b]↔P)(O:∀r:Bool,(P↔r=true)->dC [.str (sS s),.t [.str f],.t [.int n,.int m]]=some (.b r)):∃r:Bool,dC [.str (sS s),.t [.str f],.t ([a,b].map vD)]=some (.b r)/\(CH s [a,b]↔r=true):=by refine⟨decide P,?_,q.trans (by rw[zh])⟩;show dC [_,_,.t [vD a,vD b]]=_;rw[gV Z,gV Y];exact O _ (by rw[zh])
section
variable{nm:Str}{us:aP}(hn:us.length<=19)
include hn
theorem TF(hW:∀x∈e_::nm::us,W x):oj "span" nm us (·.map vD):=by
 refine nt (form:=sS "NAME FROM LOW HIGH") (ws:=[bW,cy,iJ]) (L:=[(iJ,.num true),(kD,.num true)]) (c_4 aW) aK aK aW aW aW aW aW rfl (mB (pG wb aK aK) (pG AE aK aK)) aH hW hn ?_ ?_
 .rintro vs ⟨a,b,rfl,o⟩;exact⟨rfl,d_.mpr ⟨en.mpr o.1,en.mpr o.2.1⟩⟩
 .intro f vs l Z;obtain⟨a,b,rfl⟩:=tq l;obtain⟨f1,Y⟩:=d_.mp Z;obtain⟨r,e,o⟩:=A7 (.inr (.inl rfl)) [.str f] (en.mp f1) (en.mp Y);exact⟨r,e,⟨λ O=>by obtain⟨x,y,e,q⟩:=O;cases e;exact o.mp q,λ q=>⟨a,b,rfl,o.mpr q⟩⟩⟩
theorem Tw(hW:∀x∈fC::nm::us,W x):oj "time" nm us (·.map vD):=by
 refine nt (form:=sS "NAME FROM BEGIN END") (ws:=[bW,cy,sS "BEGIN"]) (L:=[(sS "BEGIN",.num false),(sS "END",.num true)]) (c_4 aW) aK aK aW aW aW aW aW rfl (mB (ly Rc aK aK) (pG ck1 aK aK)) aH hW hn ?_ ?_
 .rintro vs ⟨a,b,n,rfl,p,w,s,_⟩;exact⟨rfl,d_.mpr ⟨dG.mpr ⟨n,p⟩,en.mpr s⟩⟩
 .intro f vs l o;obtain⟨a,b,rfl⟩:=tq l;obtain⟨f1,j⟩:=d_.mp o;obtain⟨n,O⟩:=dG.mp f1;have g:=en.mp j;have u:vD b=.n\/∃m,vD b=.int m:=by
   rcases g with rfl|⟨m,Y⟩
   .exact .inl qu
   .exact .inr ⟨m,gV Y⟩
  have key:=λ r t=>Uq (r:=r) [.str f] n (vD b) u t;have i:CH "time" [a,b]↔(0≤n∧∀m,vD b=.int m→n<m):=by
   constructor
   .rintro ⟨x,y,k,e,Z,h,A,v⟩;cases e;rw[iu O Z];refine⟨h,λ m Y=>?_⟩;rcases g with rfl|⟨z,d⟩
    .rw[qu]at Y;cases Y
    .rw[gV d]at Y;cases Y;exact v _ d
   .rintro ⟨Z,h⟩;exact⟨a,b,n,rfl,O,Z,g,λ m Y=>h m (gV Y)⟩
  by_cases c:0<=n/\∀m,vD b=.int m->n<m
  .refine⟨true,?_,i.trans ⟨λ _=>rfl,λ _=>c⟩⟩;show dC [_,_,.t [vD a,vD b]]=_;rw[gV O];exact key true ⟨λ _=>rfl,λ _=>c⟩
  .refine⟨false,?_,i.trans ⟨λ q=>absurd q c,λ q=>by cases q⟩⟩;show dC [_,_,.t [vD a,vD b]]=_;rw[gV O];exact key false ⟨λ q=>absurd q c,λ q=>by cases q⟩
theorem TJ(hW:∀x∈fb::nm::us,W x):oj "rest" nm us (·.map vD):=by
 refine nt (form:=sS "NAME FROM M R") (ws:=[bW,cy,sS "M"]) (L:=[(sS "M",.num false),(sS "R",.num false)]) (c_4 aW) aK aK aW aW aW aW aW rfl (mB (ly YL aK aK) (ly YK aK aK)) aH hW hn ?_ ?_
 .rintro vs ⟨a,b,n,m,rfl,c,d,_⟩;exact⟨rfl,d_.mpr ⟨dG.mpr ⟨n,c⟩,dG.mpr ⟨m,d⟩⟩⟩
 .intro f vs l h;obtain⟨a,b,rfl⟩:=tq l;obtain⟨f1,g⟩:=d_.mp h;obtain⟨n,c⟩:=dG.mp f1;obtain⟨m,d⟩:=dG.mp g;refine Kp c d ?_ λ r Y=>Uv _ n m Y;exact⟨λ O=>by obtain⟨x,y,k,j,e,Z,i,q⟩:=O;cases e;rw[iu c Z,iu d i];exact q,λ q=>⟨a,b,n,m,rfl,c,d,q⟩⟩
theorem Tv(hW:∀x∈fe::nm::us,W x):oj "turn" nm us (·.map vD):=by
 refine nt (form:=sS "NAME FROM A B") (ws:=[bW,cy,nF]) (L:=[(nF,.num false),(sS "B",.num false)]) (c_4 aW) aK aK aW aW aW aW aW rfl (mB (ly YO aK aK) (ly YN aK aK)) aH hW hn ?_ ?_
 .rintro vs ⟨a,b,n,m,rfl,c,d,_⟩;exact⟨rfl,d_.mpr ⟨dG.mpr ⟨n,c⟩,dG.mpr ⟨m,d⟩⟩⟩
 .intro f vs l h;obtain⟨a,b,rfl⟩:=tq l;obtain⟨f1,g⟩:=d_.mp h;obtain⟨n,c⟩:=dG.mp f1;obtain⟨m,d⟩:=dG.mp g;refine Kp c d ?_ λ r Y=>Um _ n m Y;exact⟨λ O=>by obtain⟨x,y,j,i,e,Z,k,q⟩:=O;cases e;rw[iu c Z];exact q,λ q=>⟨a,b,n,m,rfl,c,d,q⟩⟩
theorem Sz(hW:∀x∈fD::nm::us,W x):oj "later" nm us (·.map vD):=by
 refine nt (form:=sS "NAME FROM C") (ws:=[bW,cy]) (L:=[(sS "C",.num false)]) (c_4 aW) aK aK aW aW aW aW aW rfl (λ x Z=>by rw[dt Z];exact ly YM aK aK) aH hW hn ?_ ?_
 .rintro vs ⟨a,n,rfl,b,_⟩;exact⟨rfl,nc.mpr (dG.mpr ⟨n,b⟩)⟩
 .intro f vs l c;obtain⟨a,rfl⟩:=ug (show vs.length=1 from l);obtain⟨n,b⟩:=dG.mp (nc.mp c);refine⟨decide (0<=n),?_,?_⟩
  .show dC [_,_,.t [vD a]]=_;rw[gV b];exact Rn _ n (by rw[zh])
  .rw[zh];exact⟨λ O=>by obtain⟨x,d,e,Y,q⟩:=O;cases e;rw[iu b Y];exact q,λ q=>⟨a,n,rfl,b,q⟩⟩
end
def LG(ws:aP)(l:Str)(n:Nat):aP:=ws++List.replicate (max 1 (n-ws.length)) l
abbrev lU:List (Str×List Str×Str):=[(gH,[bW,cy],ed),(gJ,[bW,cy],ed),(c1,[bW,cy,ed],gb),(bH,[bW,cy],cy)]
theorem WD:(lU.all λ x=>(List.range 21).all λ n=>oJ x.1 n==some (LG x.2.1 x.2.2 n))=true:=aK
theorem BU(h:x∈lU){n:Nat}(hn:n<21):ip [.str x.1,.int n]=some (.l ((LG x.2.1 x.2.2 n).map .str)):=
 AD (beq_iff_eq.mp (iX.mp (iX.mp WD x h) n (List.mem_range.mpr hn)))
theorem AM{vs:aP}(h:∀s∈vs,aO s):vs.map vD=vs.map .str:=Yp λ s q=>rC (h s q)
theorem hM:gW (List.replicate vs.length (p,.key)) vs↔∀s∈vs,aO s:=by
 obtain⟨O,Y⟩:=ov (a:=List.replicate vs.length (p,Pk.key)) (b:=vs) aQ;constructor
 .intro h s Z;rw[<-Y]at Z;obtain⟨y,q,rfl⟩:=dI.mp Z;have:=h y q;have m:y.1∈List.replicate vs.length (p,Pk.key):=by rw[<-O];exact qw q
  rw[(List.mem_replicate.mp m).2]at this;exact this
 .intro h y q;have m:y.1∈List.replicate vs.length (p,Pk.key):=by rw[<-O];exact qw q
  rw[(List.mem_replicate.mp m).2];exact h _ (by rw[<-Y];exact qw q)
theorem Ke:gM ed .key:=.key aK aK
theorem QX:gM gb .key:=.key aK aK
section
variable{nm:Str}{us:aP}(hn:us.length<=19)
include hn
theorem F7(Z:s="only"∨s="but")(hW:∀x∈sS s::nm::us,W x):oj s nm us (·.map vD):=by
 have r:(sS s,[bW,cy],ed)∈lU:=by rcases Z with rfl|rfl<;>simp
 have kw:aO (sS s):=by rcases Z with rfl|rfl<;>exact c_4 aW
 have hw:bE (sS s) cc=some (.str (sS "NAME FROM KEY ..")):=by rcases Z with rfl|rfl<;>kernel_rfl
 have t:¬(sS s=c1):=by rcases Z with rfl|rfl<;>decide+kernel
 have O:∀vs,CH s vs↔(1<=vs.length/\vs.length<=8/\(∀x∈vs,aO x)/\vs.Nodup):=λ vs=>by rcases Z with rfl|rfl<;>exact Y5
 have b:=λ n h=>BU r (n:=n) h;cases us with
 |nil=>exact⟨λ _=>p8 hw hW aQ (b 1 aH) (by show(3:Nat)<=30;decide) (by show(3:Nat)≠1;decide),λ f vs e=>by cases e⟩
 |cons f vs=>
  have u:vs.length<=18:=by simpa using hn
  by_cases j:vs=[]
  .subst j;refine⟨λ _=>p8 hw hW aQ (b 2 aH) (by show(3:Nat)<=30;decide) (by show(3:Nat)≠2;decide),λ l k e kn g a=>?_⟩;cases e;exact absurd ((O []).mp a).1 aH
  .have p:=List.length_pos_iff.mpr j;have o:ip [.str (sS s),.int (([f].length+vs.length+1:Nat):Int)]=some (.l ((bW::([cy]++(List.replicate vs.length (ed,Pk.key)).map (·.1))).map .str)):=by have e:=b ([f].length+vs.length+1) cR;rw[e];congr 3;show[bW,cy]++List.replicate (max 1 (1+vs.length+1-2)) ed=_;rw[List.map_replicate,show max 1 (1+vs.length+1-2)=vs.length by lia];rfl
   have hL:∀x∈List.replicate vs.length (ed,Pk.key),gM x.1 x.2:=λ x Y=>by rw[(List.mem_replicate.mp Y).2];exact Ke
   obtain⟨c,d⟩:=se (fs:=[f]) hw kw eu hL rfl aQ cR (hW nm aQ) (λ x Y=>hW x (by rw[dt Y];simp)) (λ x Y=>hW x (by simp[Y])) o (λ q=>hM.mpr ((O vs).mp q).2.2.1) (λ _ m=>by
    have i:=hM.mp m;refine⟨decide (vs.length<=8/\vs.Nodup),?_,?_⟩
    .rw[AM i];exact Uz _ (sS s) (by rcases Z with rfl|rfl;exact .inl rfl;exact .inr rfl) vs aD (by rw[zh])
    .rw[zh,O];exact⟨λ q=>⟨q.2.1,q.2.2.2⟩,λ q=>⟨p,q.1,i,q.2⟩⟩) (.inr ⟨t,rfl⟩)
   refine⟨λ q=>c λ z=>q ⟨z.1,f,vs,rfl,z.2.1 f aQ,z.2.2⟩,λ l k e kn g a=>?_⟩;cases e;exact⟨d ⟨kn,λ x Y=>by rw[dt Y];exact g,a⟩,uH aQ hL (hM.mpr ((O vs).mp a).2.2.1) cR hW⟩
theorem TK(Y:∀x∈bH::nm::us,W x):(¬(aO nm∧(∀f∈us,aO f)∧2≤us.length∧us.length≤8∧us.Nodup)→RR bH nm us=some .n)∧((aO nm∧(∀f∈us,aO f)∧2≤us.length∧us.length≤8∧us.Nodup)→RR bH nm us=some (eX bH nm us [])∧gj [eX bH nm us []]=some (.str (Str.join bR (bH::nm::us)))):=by
 have l:(bH,[bW,cy],cy)∈lU:=aQ;have hw:bE bH cc=some (.str (sS "NAME FROM FROM ..")):=aK;have g:=λ n h=>BU l (n:=n) h;by_cases b:2<=us.length
 .have Z:ip [.str bH,.int ((us.length+([]:aP).length+1:Nat):Int)]=some (.l ((bW::(List.replicate us.length cy++([]:List (Str×Pk)).map (·.1))).map .str)):=by have e:=g (us.length+1) aD;rw[show us.length+([]:aP).length+1=us.length+1 from rfl,e];congr 3;show[bW,cy]++List.replicate (max 1 (us.length+1-2)) cy=_;rw[show max 1 (us.length+1-2)=us.length-1 by lia,Qk,yb];obtain⟨k,i⟩:∃k,us.length=k+1:=⟨us.length-1,by lia⟩;rw[i];rfl
  have a:∀L:List (Str×Pk),gW L ([]:aP):=λ L y j=>by simp at j
  obtain⟨c,d⟩:=se hw (c_4 aW) (λ p Z=>by rw[(List.mem_replicate.mp Z).2];exact eu _ aQ) (λ x O=>by cases O) aQ rfl cR (Y nm aQ) (λ x O=>Y x (by simp[O])) (λ x O=>by cases O) Z (λ _=>a _) (λ _ _=>⟨decide (us.length≤8∧us.Nodup),Ux _ us aD (by rw[zh]),by rw[zh]⟩) (.inr ⟨by decide+kernel,rfl⟩);rw[yb]at c d;refine⟨λ q=>c λ z=>q ⟨z.1,z.2.1,b,z.2.2⟩,λ q=>⟨d ⟨q.1,q.2.1,q.2.2.2⟩,?_⟩⟩;have:=uH (L:=[]) rfl (λ x O=>by cases O) (a _) cR (by rw[yb];exact Y);rw[yb]at this;exact this
 .refine⟨λ _=>p8 hw Y hn (g (us.length+1) aD) ?_ ?_,λ q=>absurd q.2.2.1 b⟩
  .show([bW,cy]++List.replicate (max 1 (us.length+1-2)) cy).length≤30;simp;lia
  .show([bW,cy]++List.replicate (max 1 (us.length+1-2)) cy).length≠us.length+1;simp;lia
end
def rk:aP->List (Str×Str)
 |a::b::r=>(a,b)::rk r
 |_=>[]
theorem XM(b:D):∀r:aG,cF (b::r)=b::cF (r.drop 1)
 |[]=>rfl
 |_::_=>rfl
theorem Jj:∀vs:aP,vs.length%2=0->d5 (cF (vs.map .str)) (cF ((vs.map D.str).drop 1))=(rk vs).map (λ p=>.t [.str p.1,.str p.2])/\(rk vs).flatMap (λ p=>[p.1,p.2])=vs
 |[],_=>⟨rfl,rfl⟩
 |[_],h=>by cases h
 |a::b::r,h=>by
  obtain⟨c,d⟩:=Jj r (by simp at h;lia);constructor
  .show d5 (.str a::cF (r.map .str)) (cF (.str b::r.map .str))=_;rw[XM];show D.t [.str a,.str b]::d5 (cF (r.map .str)) (cF ((r.map D.str).drop 1))=_;rw[c];rfl
  .show[a,b]++(rk r).flatMap (λ p=>[p.1,p.2])=_;rw[d];rfl
abbrev D1(vs:aP):aG:=d5 (cF (vs.map vD)) (cF ((vs.map vD).drop 1))
section
variable{nm:Str}{us:aP}(hn:us.length<=19)
include hn
theorem QR(hW:∀x∈c1::nm::us,W x):oj "put" nm us D1:=by
 have A:(c1,[bW,cy,ed],gb)∈lU:=aQ;have hw:bE c1 cc=some (.str (sS "NAME FROM KEY OTHER ..")):=aK;have m:=λ n h=>BU A (n:=n) h;have O:∀vs,CH "put" vs↔((∀s∈vs,aO s)∧(vs.length=2∨vs.length=4∨vs.length=6∨vs.length=8)∧(cF vs).Nodup):=λ vs=>Y5;by_cases g:us.length<=2
 .refine⟨λ _=>p8 hw hW hn (m (us.length+1) aD) ?_ ?_,λ f vs e kn k b=>?_⟩
  .show([bW,cy,ed]++List.replicate (max 1 (us.length+1-3)) gb).length≤30;simp;lia
  .show([bW,cy,ed]++List.replicate (max 1 (us.length+1-3)) gb).length≠us.length+1;simp;lia
  .have:=((O vs).mp b).2.1;rw[e]at g;simp at g;lia
 .cases us with
  |nil=>simp at g
  |cons f vs=>
   have E:vs.length<=18:=by simpa using hn
   have H:2<=vs.length:=by simp at g;lia
   have v:ip [.str c1,.int (([f].length+vs.length+1:Nat):Int)]=some (.l ((bW::([cy]++((ed,Pk.key)::List.replicate (vs.length-1) (gb,Pk.key)).map (·.1))).map .str)):=by have e:=m ([f].length+vs.length+1) cR;rw[e];congr 3;show[bW,cy,ed]++List.replicate (max 1 (1+vs.length+1-3)) gb=_;rw[zj,List.map_replicate,show max 1 (1+vs.length+1-3)=vs.length-1 by lia];rfl
   have hL:∀x∈(ed,Pk.key)::List.replicate (vs.length-1) (gb,Pk.key),gM x.1 x.2:=λ x Y=>by
    rcases qx Y with rfl|Y
    .exact Ke
    .rw[(List.mem_replicate.mp Y).2];exact QX
   have l:((ed,Pk.key)::List.replicate (vs.length-1) (gb,Pk.key)).length=vs.length:=cR;have i:gW ((ed,Pk.key)::List.replicate (vs.length-1) (gb,Pk.key)) vs↔∀s∈vs,aO s:=by
    obtain⟨o,r⟩:=ov l;have a:∀y:(Str×Pk)×Str,y.1∈(ed,Pk.key)::List.replicate (vs.length-1) (gb,Pk.key)→(kN y.1.2 y.2↔aO y.2):=λ y Z=>by
     rcases qx Z with q|q
     .rw[q];exact Y5
     .rw[(List.mem_replicate.mp q).2];exact Y5
    constructor
    .intro h s j;rw[<-r]at j;obtain⟨y,Z,rfl⟩:=dI.mp j;exact(a y (by rw[<-o];exact qw Z)).mp (h y Z)
    .intro h y Z;exact(a y (by rw[<-o];exact qw Z)).mpr (h _ (by rw[<-r];exact qw Z))
   obtain⟨c,d⟩:=se (fs:=[f]) hw (c_4 aW) eu hL rfl l cR (hW nm aQ) (λ x Y=>hW x (by rw[dt Y];simp)) (λ x Y=>hW x (by simp[Y])) v (λ q=>i.mpr ((O vs).mp q).1) (λ _ t=>by
    have a:=i.mp t;refine⟨decide ((vs.length=2\/vs.length=4\/vs.length=6\/vs.length=8)/\(cF vs).Nodup),?_,?_⟩
    .rw[AM a];exact cm0 _ vs aD (by rw[zh])
    .rw[zh,O];exact⟨λ q=>q.2,λ q=>⟨a,q⟩⟩) (.inl ⟨rfl,rfl⟩)
   refine⟨λ q=>c λ z=>q ⟨z.1,f,vs,rfl,z.2.1 f aQ,z.2.2⟩,λ G F e kn k b=>?_⟩;cases e;refine⟨d ⟨kn,λ x Y=>by rw[dt Y];exact k,b⟩,?_⟩;obtain⟨k1,k2,_⟩:=(O vs).mp b;obtain⟨B,C⟩:=Jj vs aD;have er:D1 vs=((rk vs).map λ p=>(D.t [.str p.1,.str p.2],[p.1,p.2])).map (·.1):=by show d5 _ _=_;rw[AM k1,B,zu];rfl
   rw[er];refine Eh (λ q w=>?_) ?_ cR λ s h=>(hW s h).1
   .obtain⟨p,_,rfl⟩:=dI.mp w;exact λ R M u=>Ht p.1 p.2 R M u
   .have:((rk vs).map λ p=>(D.t [.str p.1,.str p.2],[p.1,p.2])).flatMap (·.2)=vs:=by rw[List.flatMap_map];exact C
    rw[this];rfl
end
def l5(s:String)(vs:aP):Prop:=∃P x,vs=P++[x]/\x∈eM/\kG s P
theorem Dx:l5 s [x]↔x∈eM/\kG s []:=by
 constructor
 .rintro ⟨P,y,e,h⟩;obtain⟨e1,e2⟩:=jt (show([]:aP)++[x]=P++[y]from e) rfl;cases e2;rw[e1];exact h
 .intro h;exact⟨[],x,rfl,h⟩
theorem ZA:l5 s [a,x]↔x∈eM/\kG s [a]:=by
 constructor
 .rintro ⟨P,y,e,h⟩;obtain⟨e1,e2⟩:=jt (show[a]++[x]=P++[y]from e) rfl;cases e2;rw[e1];exact h
 .intro h;exact⟨[a],x,rfl,h⟩
theorem Y_:l5 s [a,b,x]↔x∈eM/\kG s [a,b]:=by
 constructor
 .rintro ⟨P,y,e,h⟩;obtain⟨e1,e2⟩:=jt (show[a,b]++[x]=P++[y]from e) rfl;cases e2;rw[e1];exact h
 .intro h;exact⟨[a,b],x,rfl,h⟩
theorem uo:gW [p,q,o] [a,b,c]↔kN p.2 a/\kN q.2 b/\kN o.2 c:=by
 constructor
 .intro h;exact⟨h (p,a) aQ,h (q,b) aQ,h (o,c) aQ⟩
 .rintro ⟨d,e,Y⟩ y O;simp at O;rcases O with rfl|rfl|rfl
  .exact d
  .exact e
  .exact Y
theorem YW(h:l.length=3):∃a b c,l=[a,b,c]:=by
 match l,h with
 |[a,b,c],_=>exact⟨a,b,c,rfl⟩
section
variable{nm:Str}{us:aP}(hn:us.length<=19)
include hn
theorem F6(hs:s="fixed"∨s="gaps")(hW:∀x∈sS s::nm::us,W x):pB s nm us (l5 s) (·.map vD):=by
 have Y:∀a,kG s [a]↔∃n,Nm a n/\1<=n:=λ a=>by
  rcases hs with rfl|rfl
  .exact⟨λ O=>by obtain⟨x,n,e,q⟩:=O;cases e;exact⟨n,q⟩,fun⟨n,q⟩=>⟨a,n,rfl,q⟩⟩
  .exact⟨λ O=>by obtain⟨x,n,e,q⟩:=O;cases e;exact⟨n,q⟩,fun⟨n,q⟩=>⟨a,n,rfl,q⟩⟩
 have d:∀P,kG s P->P.length=1:=λ P h=>by
  rcases hs with rfl|rfl
  .obtain⟨x,n,e,_⟩:=h;rw[e];rfl
  .obtain⟨x,n,e,_⟩:=h;rw[e];rfl
 have c:∀p,∀vs,l5 s vs→vs.length=[(p,Pk.num false),(fZ,Pk.fold)].length∧gW [(p,Pk.num false),(fZ,Pk.fold)] vs:=λ p vs=>by
  rintro ⟨P,x,rfl,j,fp⟩;obtain⟨a,rfl⟩:=ug (d P fp);obtain⟨n,b,_⟩:=(Y a).mp fp;exact⟨rfl,d_.mpr ⟨dG.mpr ⟨n,b⟩,j⟩⟩
 have Z:∀p,∀f vs,vs.length=[(p,Pk.num false),(fZ,Pk.fold)].length→gW [(p,Pk.num false),(fZ,Pk.fold)] vs→∃r:Bool,dC [.str (sS s),.t [.str f],.t (vs.map vD)]=some (.b r)∧(l5 s vs↔r=true):=λ p f vs l i=>by
  obtain⟨a,x,rfl⟩:=tq l;obtain⟨f1,g⟩:=d_.mp i;obtain⟨n,b⟩:=dG.mp f1;refine⟨decide (1<=n),?_,?_⟩
  .show dC [_,_,.t [vD a,vD x]]=_;rw[gV b];exact Ui _ (sS s) (by rcases hs with rfl|rfl;exact .inl rfl;exact .inr rfl) n _ (by rw[zh])
  .rw[zh,ZA,Y];exact⟨λ O=>by obtain⟨_,m,k,o⟩:=O;rw[iu b k];exact o,λ q=>⟨g,n,b,q⟩⟩
 rcases hs with rfl|rfl
 .exact nt (form:=sS "NAME FROM WIDTH FOLD") (ws:=[bW,cy,nG]) (c_4 aW) aK aK aW aW aW aW aW rfl (mB (ly IH aK aK) .fold) aH hW hn (c _) (Z _)
 .exact nt (form:=sS "NAME FROM GAP FOLD") (ws:=[bW,cy,sS "GAP"]) (c_4 aW) aK aK aW aW aW aW aW rfl (mB (ly ck0 aK aK) .fold) aH hW hn (c _) (Z _)
theorem TQ(Y:∀x∈h6::nm::us,W x):pB "ever" nm us (l5 "ever") (·.map vD):=by
 refine nt (form:=sS "NAME FROM FOLD") (ws:=[bW,cy]) (L:=[(fZ,.fold)]) (c_4 aW) aK aK aW aW aW aW aW rfl (λ x q=>by rw[dt q];exact .fold) aH Y hn ?_ ?_
 .rintro vs ⟨P,x,rfl,q,fp⟩;have fp:=fp;subst fp;exact⟨rfl,nc.mpr q⟩
 .intro f vs l O;obtain⟨x,rfl⟩:=ug (show vs.length=1 from l);exact⟨true,UA _ _,Dx.trans ⟨λ _=>rfl,λ _=>⟨nc.mp O,rfl⟩⟩⟩
theorem Sy(hW:∀x∈fY::nm::us,W x):pB "slide" nm us (l5 "slide") (·.map vD):=by
 refine nt (form:=sS "NAME FROM WIDTH STEP FOLD") (ws:=[bW,cy,nG,sS "STEP"]) (L:=[(nG,.num false),(sS "STEP",.num false),(fZ,.fold)]) (c_4 aW) aK aK aW aW aW aW aW rfl (λ x O=>by
  rcases qx O with rfl|O
  .exact ly IH aK aK
  .exact mB (ly Xp aK aK) .fold x O) aH hW hn ?_ ?_
 .rintro vs ⟨P,x,rfl,O,a,b,n,m,rfl,d,c,_⟩;exact⟨rfl,uo.mpr ⟨dG.mpr ⟨n,d⟩,dG.mpr ⟨m,c⟩,O⟩⟩
 .intro f vs l h;obtain⟨a,b,x,rfl⟩:=YW (show vs.length=3 from l);obtain⟨f1,Z,g⟩:=uo.mp h;obtain⟨n,d⟩:=dG.mp f1;obtain⟨m,c⟩:=dG.mp Z;refine⟨decide (1<=m/\m<n/\n<=20*m),?_,?_⟩
  .show dC [_,_,.t [vD a,vD b,vD x]]=_;rw[gV d,gV c];exact Rm _ n m _ (by have:=c.1;lia) (by rw[zh])
  .rw[zh,Y_];constructor
   .rintro ⟨_,j,k,p,o,e,Y,i,q⟩;cases e;rw[iu d Y,iu c i];exact q
   .intro q;exact⟨g,a,b,n,m,rfl,d,c,q⟩
theorem TN(hW:∀x∈bL::nm::us,W x):(¬(aO nm∧∃f g vs,us=f::g::vs∧aO f∧aO g∧nQ vs)→RR bL nm us=some .n)∧∀f g vs,us=f::g::vs→aO nm→aO f→aO g→nQ vs→RR bL nm us=some (eX bL nm [f,g] (vs.map vD))∧gj [eX bL nm [f,g] (vs.map vD)]=some (.str (Str.join bR (bL::nm::us))):=by
 obtain⟨a,b⟩:=AU (form:=sS "NAME LEFT RIGHT REACH HOW") (ws:=[bW,sS "LEFT",sS "RIGHT",sS "REACH"]) (pf:=[sS "LEFT",sS "RIGHT"]) (L:=[(sS "REACH",.num false),(kC,.how)]) (c_4 aW) aK aK aW aW aW aW aW rfl (λ p j=>by
  simp only[yc,zv,jd]at j;rcases j with rfl|rfl<;>exact⟨by kernel_rfl,by kernel_rfl⟩) (mB (ly Rb aK aK) .how) aH hW hn
 by_cases l:us.length=4
 .obtain⟨f,g,x,h,rfl⟩:∃f g x h,us=[f,g,x,h]:=by
   match us,l with
   |[f,g,x,h],_=>exact⟨f,g,x,h,rfl⟩
  obtain⟨c,d⟩:=b [f,g] [x,h] rfl rfl rfl (nQ [x,h]) (λ O=>by
   obtain⟨r,h',n,e,Y,_,w⟩:=O;cases e;exact d_.mpr ⟨dG.mpr ⟨n,Y⟩,w⟩) λ _ t=>by
   obtain⟨f1,s⟩:=d_.mp t;obtain⟨n,i⟩:=dG.mp f1;refine⟨decide (0<=n),?_,?_⟩
   .show dC [_,_,.t [vD x,vD h]]=_;rw[gV i];exact Uy _ n _ (by rw[zh])
   .rw[zh];exact⟨λ O=>by obtain⟨r,h',m,e,Y,v,_⟩:=O;cases e;rw[iu i Y];exact v,λ q=>⟨x,h,n,rfl,i,q,s⟩⟩
  refine⟨λ q=>c λ z=>q ⟨z.1,f,g,[x,h],rfl,z.2.1 f aQ,z.2.1 g aQ,z.2.2⟩,λ B C A e kn o Z u=>?_⟩;cases e;exact d ⟨kn,λ y k=>by
   simp only[yc,zv,jd]at k;rcases k with rfl|rfl
   .exact o
   .exact Z,u⟩
 .refine⟨λ _=>a (by simpa using l),λ f g vs e kn o Z O=>?_⟩;obtain⟨x,h,n,e2,_⟩:=O;rw[e,e2]at l;exact absurd rfl l
end
theorem Vl:((List.range 18).all λ n=>oJ bI (n+3)==some [bW,cy,iJ,kD])=true:=aK
theorem cq3{n:Nat}(h1:3≤n)(h2:n<21):ip [.str bI,.int n]=some (.l ([bW,cy,iJ,kD].map .str)):=by have e:=beq_iff_eq.mp (iX.mp Vl (n-3) (List.mem_range.mpr aD));rw[show n-3+3=n by lia]at e;exact AD e
theorem K8(h:n≤2):ip [.str bI,.int n]=some (.l ([bW,cy].map .str)):=
 Fy (form:=sS "NAME FROM") (ws:=[bW]) aK aW aW aW λ q=>by have:=q.2;lia
def zJ(vs:aP):Prop:=vs=[]\/∃a b,vs=[a,b]/\kj a b
theorem QS(hn:us.length≤19)(Y:∀x∈bI::nm::us,W x):pB "ask" nm us zJ (·.map vD):=by
 have hw:bE bI cc=some (.str (sS "NAME FROM")):=aK;have kw:aO bI:=c_4 aW;have m:¬(bI=c1):=aW;cases us with
 |nil=>exact⟨λ _=>p8 hw Y aQ (K8 aH) aH aH,λ f vs e=>by cases e⟩
 |cons f vs=>
  have t:vs.length<=18:=by simpa using hn
  have wf:∀x∈[f],W x:=λ x O=>Y x (by rw[dt O];simp);by_cases i:vs=[]
  .subst i;have g:gW [] ([]:aP):=λ y s=>by cases s
   obtain⟨c,d⟩:=se (fs:=[f]) (vs:=[]) (L:=[]) (OK:=True) hw kw eu (λ x O=>by cases O) rfl rfl (by show(1:Nat)≤19;decide) (Y nm aQ) wf (λ x O=>by cases O) (K8 (n:=2) aH) (λ _=>g) (λ _ _=>⟨true,UB _,by simp⟩) (.inr ⟨m,rfl⟩);refine⟨λ q=>c λ z=>q ⟨z.1,f,[],rfl,z.2.1 f aQ,.inl rfl⟩,λ k Z e kn h _=>?_⟩;cases e;exact⟨d ⟨kn,λ x O=>by rw[dt O];exact h,trivial⟩,uH rfl (λ x O=>by cases O) g (by show(1:Nat)<=19;decide) Y⟩
  .have u:=List.length_pos_iff.mpr i;have p:=cq3 (n:=vs.length+1+1) aD aD;by_cases l:vs.length=2
   .obtain⟨a,b,rfl⟩:=pz l;have hL:∀x∈[(iJ,Pk.num true),(kD,Pk.num true)],gM x.1 x.2:=mB (pG wb aK aK) (pG AE aK aK);have j:zJ [a,b]↔kj a b:=⟨λ q=>by
     rcases q with q|⟨x,y,e,o⟩
     .cases q
     .cases e;exact o,λ o=>.inr ⟨a,b,rfl,o⟩⟩
    obtain⟨c,d⟩:=se (fs:=[f]) (vs:=[a,b]) (OK:=kj a b) hw kw eu hL rfl rfl (by show(3:Nat)≤19;decide) (Y nm aQ) wf (λ x O=>Y x (by simp at O;rcases O with rfl|rfl<;>simp)) p (λ o=>d_.mpr ⟨en.mpr o.1,en.mpr o.2.1⟩) (λ _ g=>by
     obtain⟨f1,r⟩:=d_.mp g;exact A7 (.inr (.inr rfl)) _ (en.mp f1) (en.mp r)) (.inr ⟨m,rfl⟩)
    refine⟨λ q=>c λ z=>q ⟨z.1,f,[a,b],rfl,z.2.1 f aQ,j.mpr z.2.2⟩,λ k Z e kn h o=>?_⟩;cases e;have o:=j.mp o;exact⟨d ⟨kn,λ x O=>by rw[dt O];exact h,o⟩,uH rfl hL (d_.mpr ⟨en.mpr o.1,en.mpr o.2.1⟩) (by show(3:Nat)<=19;decide) Y⟩
   .refine⟨λ _=>p8 hw Y hn p aH (by show(4:Nat)≠vs.length+1+1;lia),λ k Z e kn h o=>?_⟩;cases e;rcases o with q|⟨a,b,e,_⟩
    .exact absurd q i
    .rw[e]at l;exact absurd rfl l
theorem Mi(A:cX)(k:Str):ki (.str k) (d9 A)=some (.b (decide (k∈a_ A))):=by
 rw[Cs];congr 2;rw[zo,zh,dP];have e:(kds A).map (·.1)=a_ A:=by rw[zu];rfl
 rw[e]
theorem rj{r:Rw}(h:r.nm∈a_ A\/∃f∈r.fr,f∉a_ A)(hl:r.fr.length<=30):gi [r.d,d9 A]=some (.b false):=by
 have q:=Mi A r.nm;have i1:=rE r;have i2:=ue r;have g:du bD Fh [.i (d9 A)] (r.fr.map .str)=some (r.fr.map λ f=>.b (decide (f∈a_ A))):=oH r.fr λ f _=>by
  have e:=Mi A f;generalize d9 A=O,decide (f∈a_ A)=B at*;simp[e]
 have Y:=Bj (λ f=>decide (f∈a_ A)) r.fr;have i:(r.fr.map D.str).length<=sizeLine:=cv (by rw[qz];lia);have b:decide (r.nm∈a_ A)=true\/(decide (r.nm∈a_ A)=false/\r.fr.all (λ f=>decide (f∈a_ A))=false):=by
  by_cases c:r.nm∈a_ A
  .exact .inl (zl c)
  .refine .inr ⟨zn c,?_⟩;obtain⟨f,Z,j⟩:=h.resolve_left c;rw[List.all_eq_false];exact⟨f,Z,by simpa using j⟩
 generalize (r.fr.map λ f=>D.b (decide (f∈a_ A)))=B,r.fr.map D.str=F,r.d=rd,d9 A=O at*;refine dX (ρ':=[.i rd,.i O,.z]) ?_ aQ;rcases b with b|⟨b,a⟩
 .rw[b]at q;simp[i1,q]
 .rw[b]at q;rw[a]at Y;simp[i1,i2,q,g,Y,i]
theorem HU:∀{fr:aP},(∀f∈fr,f∈a_ A)->∃Rs:cX,(∀q∈Rs,q∈A)/\fr=a_ Rs
 |[],_=>⟨[],(λ q O=>by cases O),rfl⟩
 |f::r,h=>by
  obtain⟨Rs,a,b⟩:=HU λ x Y=>h x (qh _ Y);obtain⟨g,Z,e⟩:=iW (h f qg);refine⟨g::Rs,λ q O=>?_,by rw[b,<-e];rfl⟩;rcases qx O with rfl|O
  .exact Z
  .exact a q O
theorem qK{r:Rw}(nd:(a_ A).Nodup)(hn:r.nm∉a_ A)(hr:∀q∈Rs,q∈A)(Z:r.fr=a_ Rs)(hl:Rs.length≤1000)(ha:¬(r.w=bI))(hw:l9 r.w=false∨∃q l,Rs=q::l∧¬(q.w=bL)):gi [r.d,d9 A]=some (.b (Rs.all λ q=>aY q.w)):=by
 rw[B0 nd hn hr Z hl];have c:du bD (e2 bP i3 (eC (.t Fo))) [] (aZ Rs)=some (Rs.map λ q=>.b (aY q.w)):=oH Rs λ q e=>by
  have i:=cz7 q.w;have j:=kL q;generalize q.d=O at*;simp[-eT,i,j]
 have a:=Bj (λ q:Rw=>aY q.w) Rs;have b:(aZ Rs).length<=sizeLine:=cv (by simpa using hl);have Y:=kL r;have f:=Md r.w;have T:l9 r.w=false∨(l9 r.w=true∧∃(O:D)(u:Str),cw (aZ Rs) 0=some O∧bA O (.int 0)=some (.str u)∧¬(u=bL)):=by
  rcases hw with h|⟨q,l,rfl,nq⟩
  .exact .inl h
  .cases h:l9 r.w with
   |false=>exact .inl rfl
   |true=>exact .inr ⟨rfl,q.d,q.w,mR _ _,kL q,nq⟩
 generalize (Rs.map λ q=>D.b (aY q.w))=B,(Rs.all λ q=>aY q.w)=AL,aZ Rs=R,r.d=rd,d9 A=dA at*;refine bC (by simp[Y,ha]) (bC ?_ (by simp[c,a,b]));rcases T with h|⟨h,O,u,e1,e2,e3⟩
 .rw[h]at f;simp[-eT,Y,f]
 .rw[h]at f;simp[-eT,Y,f,e1,e2,e3]
theorem ZM{r p:Rw}(nd:(a_ A).Nodup)(hn:r.nm∉a_ A)(hp:p∈A)(hf:r.fr=[p.nm])(hw:l9 r.w=true)(h2:p.w=bL)(h3:r.rs=q++[.str O]):gi [r.d,d9 A]=some (.b (!decide (O=cU))):=by have c:¬(r.w=bI):=XI hw aK;rw[B0 (Rs:=[p]) nd hn (by simpa using hp) hf (qr rfl)];have Y:=kL r;have Z:=rD r;rw[h3]at Z;have l:=qD q (.str O);have f:=Md r.w;rw[hw]at f;have a:=kL p;rw[h2]at a;have b:cw (aZ [p]) 0=some p.d:=rfl;generalize q++[.str O]=P,aZ [p]=R,p.d=pd,r.d=rd,d9 A=dA at*;refine bC (by simp[Y,c]) (eW (by simp[-eT,Y,f,b,a]) (by simp[Z,l]))
theorem Vh{f g:Rw}(hl:l=.n∨∃n,l=.int n)(nd:(a_ A).Nodup)(hg:g∈A)(h2:f.fr=[g.nm])(h3:f.rs=ac++[.str O])(hr:(f.w≠dR∧O≠cU∧g.w≠bL∧(O=f_→∃n:Int,l=.int n∧1≤n∧n≤50))↔r=true):uk [f.d,d9 A,l]=some (.b r):=by
 have h:=kL f;have i2:=ue f;rw[h2]at i2;have o:=rD f;rw[h3]at o;have la:=qD ac (.str O);have p:=kL g;have k:cw ([g.nm].map D.str) 0=some (.str g.nm):=rfl;have dx:lA (d9 A) (.str g.nm)=some g.d:=by rw[LQ,kY nd hg]
 generalize ac++[.str O]=P,[g.nm].map D.str=G,g.d=gd,f.d=fd,d9 A=dA at*;refine gY (d:=.str O) (by simp[o,la]) ?_;by_cases Z:f.w=dR
 .have Y:=c3 hr λ q=>q.1 Z;rw[Y];exact dX (ρ':=[.i fd,.i dA,.i l,.i (.str O)]) (by simp[h,Z]) aQ
 .by_cases a:O=cU
  .have Y:=c3 hr λ q=>q.2.1 a;rw[Y];exact dX (ρ':=[.i fd,.i dA,.i l,.i (.str O)]) (by simp[h,Z,a]) aQ
  .by_cases b:g.w=bL
   .have Y:=c3 hr λ q=>q.2.2.1 b;rw[Y];exact dX (ρ':=[.i fd,.i dA,.i l,.i (.str O)]) (by simp[h,Z,a,i2,k,dx,p,b]) aQ
   .refine bC (by simp[h,Z,a,i2,k,dx,p,b]) ?_;by_cases c:O=f_
    .rcases hl with rfl|⟨n,rfl⟩
     .have Y:=c3 hr λ q=>by
       obtain⟨n,e,_⟩:=q.2.2.2 c;cases e
      rw[Y];simp[c]
     .have j:(1<=n/\n<=50)↔r=true:=by
       rw[<-hr];exact⟨λ q=>⟨Z,a,b,λ _=>⟨n,rfl,q⟩⟩,λ q=>by
        obtain⟨m,e,z⟩:=q.2.2.2 c;cases e;exact z⟩
      by_cases i:1<=n
      .have t:=nA ⟨λ q=>j.mp ⟨i,q⟩,λ q=>(j.mpr q).2⟩;rw[t];simp[c,i]
      .have Y:=c3 j λ q=>i q.1;rw[Y];simp[c,i]
    .have s:=hr.mp ⟨Z,a,b,λ q=>absurd q c⟩;rw[s];simp[c]
theorem Jo{r f:Rw}(nd:(a_ A).Nodup)(hn:r.nm∉a_ A)(hp:f∈A)(hf:r.fr=[f.nm])(hw:r.w=bI)(h3:d4 f.w=true→(r.rs=[]∧b=true)∨∃l h:D,r.rs=[l,h]∧uk [f.d,d9 A,l]=some (.b b)):gi [r.d,d9 A]=some (.b (d4 f.w&&b)):=by
 rw[B0 (Rs:=[f]) nd hn (by simpa using hp) hf (qr rfl)];have c:=kL r;rw[hw]at c;have q:=rD r;have a:=cz6 f.w;have Z:=kL f;have Y:cw (aZ [f]) 0=some f.d:=rfl;generalize aZ [f]=R,f.d=fd,r.d=rd,d9 A=dA at*;refine eW (by simp[c]) ?_;cases O:d4 f.w with
 |false=>
  rw[O]at a;simp[-eT,Y,Z,a]
 |true=>
  rw[O]at a;rcases h3 O with⟨h,rfl⟩|⟨l,h,e,b⟩
  .rw[h]at q;simp[-eT,Y,Z,a,q]
  .rw[e]at q;simp[-eT,Y,Z,a,q,b,d3]
def me(A:cX)(ws:aP):Prop:=
 (fH [.str (Str.join bR ws)]=some .n/\gA [.str (Str.join bR ws),.l (aZ A)]=some (.b false))\/
 ∃(r:Rw)(b:Bool),fH [.str (Str.join bR ws)]=some r.d/\gi [r.d,d9 A]=some (.b b)/\gA [.str (Str.join bR ws),.l (aZ A)]=some (.b b)/\gj [r.d]=some (.str (Str.join bR ws))/\(b=true->iA A r)
theorem CK(s:Str)(h:W s):Pl 0 (vD s):=by
 unfold vD;split
 .exact⟨rfl,rfl,qj _⟩
 .split
  .exact⟨rfl,rfl,qj _⟩
  .rcases bc9 h with e|⟨n,e⟩<;>rw[e]<;>exact⟨rfl,rfl,qj _⟩
theorem cw7(h:Pl 0 d):Pl 1 d:=⟨h.1,h.2.1,Nat.le_succ_of_le h.2.2⟩
theorem tO{vs:aP}(h:∀s∈vs,W s):∀d∈vs.map vD,Pl 1 d:=λ d hd=>by
 obtain⟨s,q,rfl⟩:=dI.mp hd;exact cw7 (CK s (h s q))
theorem lP(nd:(a_ A).Nodup)(la:A.length<=50)(Z:∀s∈w::nm::us,W s)(hn:us.length<=19)(r0:¬(aO nm/\RC)->RR w nm us=some .n)(r1:aO nm->RC->RR w nm us=some (eX w nm fs rest)/\gj [eX w nm fs rest]=some (.str (Str.join bR (w::nm::us))))(lw:aO nm->nm∉a_ A->gA [.str (Str.join bR (w::nm::us)),.l (aZ A)]=some (.b lb))(lr:lb=true->RC)(sf:fs.length<=19)(st:RC->nm∉a_ A->gi [eX w nm fs rest,d9 A]=some (.b lb))(ok:RC->lb=true->(d4 w=true->∃(f:Str)(Y:aG)(fw:Str),fs=[f]/\rest=Y++[.str fw])/\(∀f∈fs,f∈a_ A)/\fs.length<=8/\∀d∈rest,Pl 1 d):me A (w::nm::us):=by
 have c:(¬aO nm\/nm∈a_ A)->gA [.str (Str.join bR (w::nm::us)),.l (aZ A)]=some (.b false):=λ h=>Hv nd la aQ Z cR λ p o n e=>by cases e;exact h
 by_cases kn:aO nm
 .by_cases O:RC
  .obtain⟨a,b⟩:=r1 kn O;refine .inr ⟨⟨w,nm,fs,rest⟩,?_⟩;by_cases nn:nm∈a_ A
   .exact⟨false,a,rj (.inl nn) (by show fs.length<=30;lia),c (.inr nn),b,λ q=>by cases q⟩
   .refine⟨lb,a,st O nn,lw kn nn,b,λ q=>?_⟩;obtain⟨i,k,l,m⟩:=ok O q;have j:=p_ (w::nm::us) λ s h=>(Z s h).1;refine⟨⟨⟨_,b,a,EA aH _ λ s h=>(Z s h).lf,?_⟩,m⟩,kn,nn,i,k,l,by rw[<-q];exact st O nn⟩;simp at j;lia
  .refine .inl ⟨r0 λ q=>O q.2,?_⟩;by_cases nn:nm∈a_ A
   .exact c (.inr nn)
   .have g:lb=false:=by
     cases lb with
     |false=>rfl
     |true=>exact absurd (lr rfl) O
    rw[<-g];exact lw kn nn
 .exact .inl ⟨r0 λ q=>kn q.1,c (.inl kn)⟩
structure oV(A:cX):Prop where
 nd:(a_ A).Nodup
 la:A.length<=24
 key:∀f∈a_ A,aO f
 fo:∀g∈A,d4 g.w=true->∃(q:Rw)(pre:aG)(fw:Str),q∈A/\g.fr=[q.nm]/\g.rs=pre++[.str fw]
theorem cq9(g:ll [] A)(la:A.length<=24):oV A where
 nd:=AQ (P:=[]) .nil g
 la:=la
 key:=λ f Z=>by
  obtain⟨r,Y,rfl⟩:=iW Z;obtain⟨Q,k,_⟩:=nk g Y;exact k.key
 fo:=λ r Y h=>by
  obtain⟨Q,k,sub⟩:=nk g Y;obtain⟨f,O,a,e1,e2⟩:=k.fo h;have m:=sub f (k.fr f (by rw[e1];simp));obtain⟨q,b,rfl⟩:=iW m;exact⟨q,O,a,b,e1,e2⟩
theorem lg(a:oV A)(h:aY (sg A f)=true):∃g∈A,g.nm=f/\aY g.w=true:=by
 by_cases m:f∈a_ A
 .obtain⟨g,q,rfl⟩:=iW m;rw[jI a.nd q]at h;exact⟨g,q,rfl,h⟩
 .rw[vW m]at h;cases(show aY fh=false by kernel_rfl).symm.trans h
section
variable{A:cX}(a:oV A){nm:Str}{us:aP}(hn:us.length<=19)
include a hn
theorem sk(P:Prop):∃r:Bool,P↔r=true:=by
 by_cases h:P
 .exact⟨true,λ _=>rfl,λ _=>h⟩
 .exact⟨false,λ q=>absurd q h,λ q=>by cases q⟩
theorem oG(hs:s∈Fn)(hW:∀x∈sS s::nm::us,W x)(rd:oj s nm us rs)(pl:∀f vs,us=f::vs->CH s vs->∀d∈rs vs,Pl 1 d):me A (sS s::nm::us):=by
 have p:d4 (sS s)=false:=by simp only[yc,zv,jd]at hs;rcases hs with rfl|rfl|rfl|rfl|rfl|rfl|rfl|rfl<;>kernel_rfl
 have l:l9 (sS s)=false:=by simp only[yc,zv,jd]at hs;rcases hs with rfl|rfl|rfl|rfl|rfl|rfl|rfl|rfl<;>kernel_rfl
 have n:¬(sS s=bI):=by simp only[yc,zv,jd]at hs;rcases hs with rfl|rfl|rfl|rfl|rfl|rfl|rfl|rfl<;>decide+kernel
 have la:=a.la;obtain⟨B,O⟩:=sk a hn (∃f vs,us=f::vs/\aY (sg A f)=true/\CH s vs);cases us with
 |nil=>
  refine lP a.nd aD hW hn (RC:=False) (fs:=[]) (rest:=[]) (λ _=>rd.1 λ q=>by
   obtain⟨_,f,vs,e,_⟩:=q;cases e) (λ _ q=>q.elim) (λ kn nn=>Kk a.nd aD aQ kn nn hs hW O) (λ q=>by
   obtain⟨f,vs,e,_⟩:=O.mpr q;cases e) aQ (λ q=>q.elim) (λ q=>q.elim)
 |cons f vs=>
  refine lP a.nd aD hW hn (RC:=aO f/\CH s vs) (λ q=>rd.1 λ z=>by
   obtain⟨kn,h,Y,e,k,c⟩:=z;cases e;exact q ⟨kn,k,c⟩) (λ kn q=>rd.2 f vs rfl kn q.1 q.2) (λ kn nn=>Kk a.nd aD aD kn nn hs hW O) (λ q=>by
   obtain⟨h,Y,e,b,t⟩:=O.mpr q;cases e;obtain⟨g,Z,rfl,_⟩:=lg a b;exact⟨a.key _ (qw Z),t⟩) (by show(1:Nat)<=19;decide) (λ i nn=>?_) λ i q=>?_
  .by_cases m:f∈a_ A
   .obtain⟨g,Z,rfl⟩:=iW m;have e:=qK (r:=⟨sS s,nm,[g.nm],rs vs⟩) a.nd nn (λ q u=>by rw[dt u];exact Z) rfl (by show(1:Nat)<=1000;decide) n (.inl l);have o:B=aY g.w:=by
     rw[zo,<-O];constructor
     .rintro ⟨h,Y,e,b,_⟩;cases e;rw[jI a.nd Z]at b;exact b
     .intro c;exact⟨g.nm,vs,rfl,by rw[jI a.nd Z];exact c,i.2⟩
    rw[o];have e:gi [eX (sS s) nm [g.nm] (rs vs),d9 A]=some (.b (aY g.w&&true)):=e;rw[Bool.and_true]at e;exact e
   .have y:=c3 O λ j=>by
     obtain⟨h,Y,e,b,_⟩:=j;cases e;obtain⟨g,Z,e,_⟩:=lg a b;exact m (by rw[<-e];exact qw Z)
    rw[y];exact rj (r:=⟨sS s,nm,[f],rs vs⟩) (.inr ⟨f,by simp,m⟩) (by show(1:Nat)<=30;decide)
  .obtain⟨h,Y,e,b,_⟩:=O.mpr q;cases e;obtain⟨g,Z,rfl,_⟩:=lg a b;exact⟨λ z=>(by rw[p]at z;cases z),λ x v=>by rw[dt v];exact qw Z,by show(1:Nat)<=8;decide,pl _ _ rfl i.2⟩
end
theorem cp4(w:Str):aY w=decide (w∈gu):=by
 unfold aY fz;rw[zo,List.any_eq_true,zh];constructor
 .rintro ⟨d,hd,e⟩;obtain⟨s,q,rfl⟩:=dI.mp hd;rw[kJ]at e;rw[<-zy e];exact q
 .intro h;exact⟨.str w,qw h,by rw[kJ];exact zl rfl⟩
theorem cn2(w:Str):d4 w=decide (w∈h_):=by
 unfold d4 fz;rw[zo,List.any_eq_true,zh];constructor
 .rintro ⟨d,hd,e⟩;obtain⟨s,q,rfl⟩:=dI.mp hd;rw[kJ]at e;rw[<-zy e];exact q
 .intro h;exact⟨.str w,qw h,by rw[kJ];exact zl rfl⟩
theorem cp2:∀w∈gu,w∈gz:=aW
theorem cn1:∀w∈h_,w∈gz:=aW
theorem cp6(w:Str)(h:aY w=true):w∈gz:=cp2 w (by rw[cp4]at h;exact zy h)
theorem cz9(w:Str)(h:d4 w=true):w∈gz:=cn1 w (by rw[cn2]at h;exact zy h)
section
variable{A:cX}(a:oV A){nm:Str}{us:aP}(hn:us.length<=19)
include a hn
theorem co1(Z:∀x∈cH::nm::us,W x):me A (cH::nm::us):=by
 have la:=a.la;obtain⟨h,O⟩:=sk a hn (CH "in" us);obtain⟨e,g⟩:=WU Z hn;refine lP a.nd aD Z hn e (λ kn Y=>g ⟨kn,Y⟩) (λ kn nn=>cy3 a.nd aD aD kn nn Z O) O.mpr aQ (λ Y nn=>?_) λ Y q=>⟨λ z=>(by rw[show d4 cH=false by kernel_rfl]at z;cases z),λ f b=>(by cases b),by simp,tO λ s d=>Z s (by simp[d])⟩
 rw[O.mp Y];exact qK (Rs:=[]) (r:=⟨cH,nm,[],us.map vD⟩) a.nd nn (λ q c=>by cases c) rfl aH (by show ¬(cH=bI);decide+kernel) (.inl aK)
theorem RF(hW:∀x∈bH::nm::us,W x):me A (bH::nm::us):=by
 have la:=a.la;obtain⟨o,Y⟩:=sk a hn (vp A us);obtain⟨p,s⟩:=TK hn hW;refine lP a.nd aD hW hn p (λ kn b=>s ⟨kn,b⟩) (λ kn nn=>XB a.nd aD aD kn nn hW Y) (λ q=>?_) aD (λ b nn=>?_) λ b q=>⟨λ z=>(by rw[show d4 bH=false by kernel_rfl]at z;cases z),λ f Z=>?_,b.2.2.1,λ d hd=>by cases hd⟩
 .obtain⟨h,c,l,m⟩:=Y.mpr q;refine⟨λ f Z=>?_,h,c,m⟩;obtain⟨g,O,rfl,_⟩:=lg a (l f Z);exact a.key _ (qw O)
 .by_cases i:∀f∈us,f∈a_ A
  .obtain⟨j,h,c⟩:=HU i;have e:=qK (r:=⟨bH,nm,us,[]⟩) a.nd nn h c (by
    have:=y0 List.length c;rw[qz]at this;lia) (by show ¬(bH=bI);decide+kernel) (.inl aK)
   have le:o=j.all λ q=>aY q.w:=by
    rw[zo,<-Y,jm];constructor
    .intro q g O;have:=q.2.2.1 g.nm (by rw[c];exact qw O);rw[jI a.nd (h g O)]at this;exact this
    .intro q;refine⟨b.2.1,b.2.2.1,λ f Z=>?_,b.2.2.2⟩;rw[c]at Z;obtain⟨g,O,rfl⟩:=iW Z;rw[jI a.nd (h g O)];exact q g O
   rw[le];exact e
  .have n:=c3 Y λ q=>i λ f Z=>by
    obtain⟨g,O,rfl,_⟩:=lg a (q.2.2.1 f Z);exact qw O
   rw[n];have k:∃f∈us,f∉a_ A:=Ql λ z=>i λ f Z=>Ql λ y=>z ⟨f,Z,y⟩;exact rj (r:=⟨bH,nm,us,[]⟩) (.inr k) (by show us.length≤30;lia)
 .obtain⟨g,O,rfl,_⟩:=lg a ((Y.mpr q).2.2.1 f Z);exact qw O
theorem RG(hW:∀x∈bL::nm::us,W x):me A (bL::nm::us):=by
 have la:=a.la;obtain⟨C,O⟩:=sk a hn (∃f g vs,us=f::g::vs/\aY (sg A f)=true/\aY (sg A g)=true/\nQ vs);obtain⟨o,D⟩:=TN hn hW;by_cases n:∃f g vs,us=f::g::vs
 .obtain⟨f,g,vs,rfl⟩:=n;refine lP a.nd aD hW hn (RC:=aO f/\aO g/\nQ vs) (λ q=>o λ z=>by
   obtain⟨kn,j,l,h,e,k⟩:=z;cases e;exact q ⟨kn,k⟩) (λ kn q=>D f g vs rfl kn q.1 q.2.1 q.2.2) (λ kn nn=>Hy a.nd aD aD kn nn hW O) (λ q=>by
   obtain⟨j,l,h,e,Z,Y,u⟩:=O.mpr q;cases e;obtain⟨x,b,rfl,_⟩:=lg a Z;obtain⟨y,c,rfl,_⟩:=lg a Y;exact⟨a.key _ (qw b),a.key _ (qw c),u⟩) (by show(2:Nat)<=19;decide) (λ p nn=>?_) λ p q=>?_
  .by_cases i:f∈a_ A/\g∈a_ A
   .obtain⟨x,b,rfl⟩:=iW i.1;obtain⟨y,c,rfl⟩:=iW i.2;have e:=qK (Rs:=[x,y]) (r:=⟨bL,nm,[x.nm,y.nm],vs.map vD⟩) a.nd nn (λ q d=>by
     simp only[yc,zv,jd]at d;rcases d with rfl|rfl
     .exact b
     .exact c) rfl (by show(2:Nat)≤1000;decide) (by show ¬(bL=bI);decide+kernel) (.inl aK)
    have e:=e;have le:C=(aY x.w&&(aY y.w&&true)):=by
     rw[zo,<-O];simp only[zm,and_true];constructor
     .rintro ⟨j,l,h,e,Z,Y,_⟩;cases e;rw[jI a.nd b]at Z;rw[jI a.nd c]at Y;exact⟨Z,Y⟩
     .rintro ⟨Z,Y⟩;exact⟨x.nm,y.nm,vs,rfl,by rw[jI a.nd b];exact Z,by rw[jI a.nd c];exact Y,p.2.2⟩
    rw[le];exact e
   .have B:=c3 O λ t=>by
     obtain⟨j,l,h,e,Z,Y,_⟩:=t;cases e;obtain⟨x,b,e1,_⟩:=lg a Z;obtain⟨y,c,e2,_⟩:=lg a Y;exact i ⟨by rw[<-e1];exact qw b,by rw[<-e2];exact qw c⟩
    rw[B];refine rj (r:=⟨bL,nm,[f,g],vs.map vD⟩) (.inr ?_) (by show(2:Nat)≤30;decide);by_cases m:f∈a_ A
    .exact⟨g,by simp,λ z=>i ⟨m,z⟩⟩
    .exact⟨f,by simp,m⟩
  .obtain⟨j,l,h,e,Z,Y,_⟩:=O.mpr q;cases e;obtain⟨x,b,rfl,_⟩:=lg a Z;obtain⟨y,c,rfl,_⟩:=lg a Y;refine⟨λ z=>(by rw[show d4 bL=false by kernel_rfl]at z;cases z),λ q d=>?_,by show(2:Nat)≤8;decide,tO λ s v=>hW s (by simp[v])⟩;simp only[yc,zv,jd]at d;rcases d with rfl|rfl
   .exact qw b
   .exact qw c
 .refine lP a.nd aD hW hn (RC:=False) (fs:=[]) (rest:=[]) (λ _=>o fun⟨_,f,g,vs,e,_⟩=>n ⟨f,g,vs,e⟩) (λ _ q=>q.elim) (λ kn nn=>Hy a.nd aD aD kn nn hW O) (λ q=>by
   obtain⟨f,g,vs,e,_⟩:=O.mpr q;exact n ⟨f,g,vs,e⟩) aQ (λ q=>q.elim) (λ q=>q.elim)
theorem Pz(Y:∀x∈w::nm::us,W x)(Z:bE w cc=none):me A (w::nm::us):=by
 have la:=a.la;have O:w∉gz:=λ q=>by
  have:=dP.mpr q;rw[Z]at this;cases this
 have c:aY w=false:=by
  cases h:aY w with
  |false=>rfl
  |true=>exact absurd (cp6 w h) O
 have d:d4 w=false:=by
  cases h:d4 w with
  |false=>rfl
  |true=>exact absurd (cz9 w h) O
 have r:=Ki (λ s b=>(Y s b).wd) cR Z;exact lP a.nd aD Y hn (RC:=False) (fs:=[]) (rest:=[]) (λ _=>r) (λ _ q=>q.elim) (λ kn nn=>Rh a.nd aD aD kn nn Y c (λ q=>O (by rw[q];decide+kernel)) (λ q=>O (by rw[q];decide+kernel)) d) (λ q=>by cases q) aQ (λ q=>q.elim) (λ q=>q.elim)
end
theorem B5(nd:(a_ A).Nodup)(O:g∈A)(q:h∈A)(e:g.nm=h.nm):g=h:=by have:=kY nd O;rw[e,kY nd q]at this;exact B1 (qi this).symm
theorem Vu(b:Bd s)(h:vD s=.int n):Nm s n:=by
 rcases b with rfl|⟨m,a⟩
 .rw[qu]at h;cases h
 .rw[gV a]at h;cases h;exact a
section
variable{A:cX}(a:oV A){nm:Str}{us:aP}(hn:us.length<=19)
include a hn
theorem yO(hs:s∈Q4)(hW:∀x∈sS s::nm::us,W x)(rd:pB s nm us (l5 s) (·.map vD)):me A (sS s::nm::us):=by
 have la:=a.la;have v:s="fixed"∨s="slide"∨s="gaps"∨s="ever":=by simpa using hs
 have u:¬(sS s=bI):=by rcases v with rfl|rfl|rfl|rfl<;>decide+kernel
 have C:l9 (sS s)=!decide (s="gaps"):=by rcases v with rfl|rfl|rfl|rfl<;>kernel_rfl
 obtain⟨t,Y⟩:=sk a hn (∃f vs,us=f::vs∧∃P x,vs=P++[x]∧x∈eM∧kG s P∧(aY (sg A f)=true∨(sg A f=bL∧s≠"gaps"∧x≠cU)));cases us with
 |nil=>
  exact lP a.nd aD hW hn (RC:=False) (fs:=[]) (rest:=[]) (λ _=>rd.1 fun⟨_,f,vs,e,_⟩=>by cases e) (λ _ q=>q.elim) (λ kn nn=>Hz a.nd aD aQ kn nn hs hW Y) (λ q=>by
   obtain⟨f,vs,e,_⟩:=Y.mpr q;cases e) aQ (λ q=>q.elim) (λ q=>q.elim)
 |cons f vs=>
  have E:(aY (sg A f)=true∨(sg A f=bL∧s≠"gaps"))→f∈a_ A:=λ h=>Ql λ m=>by
   rw[vW m]at h;rcases h with h|h
   .cases(show aY fh=false by kernel_rfl).symm.trans h
   .exact absurd h.1 aW
  have wk:∀{x},(aY (sg A f)=true∨(sg A f=bL∧s≠"gaps"∧x≠cU))→f∈a_ A:=λ h=>E (h.imp_right λ q=>⟨q.1,q.2.1⟩);refine lP a.nd aD hW hn (RC:=aO f/\l5 s vs) (rest:=vs.map vD) (λ q=>rd.1 λ z=>by
   obtain⟨kn,n,Z,e,k,c⟩:=z;cases e;exact q ⟨kn,k,c⟩) (λ kn q=>rd.2 f vs rfl kn q.1 q.2) (λ kn nn=>Hz a.nd aD aD kn nn hs hW Y) (λ q=>by
   obtain⟨n,Z,e,P,x,e2,b,fp,c⟩:=Y.mpr q;cases e;exact⟨a.key _ (wk c),P,x,e2,b,fp⟩) (by show(1:Nat)<=19;decide) (λ D nn=>?_) λ D q=>?_
  .obtain⟨_,P,x,e2,b,fp⟩:=D;have O:(aY (sg A f)=true∨(sg A f=bL∧s≠"gaps"∧x≠cU))↔t=true:=by
    rw[<-Y];constructor
    .intro q;exact⟨f,vs,rfl,P,x,e2,b,fp,q⟩
    .rintro ⟨n,Z,e,H,I,B,_,_,q⟩;cases e;rw[e2]at B;obtain⟨_,e3⟩:=jt B rfl;cases e3;exact q
   have G:vs.map vD=P.map vD++[.str x]:=by rw[e2,zx,Zq,rC (wc x b)]
   by_cases m:f∈a_ A
   .obtain⟨g,j,rfl⟩:=iW m;rw[jI a.nd j]at O;by_cases d:g.w=bL
    .have l:aY g.w=false:=by rw[d];kernel_rfl
     by_cases i:s="gaps"
     .have p:=c3 O λ q=>by
       rcases q with q|q
       .rw[l]at q;cases q
       .exact q.2.1 i
      have e:=qK (r:=⟨sS s,nm,[g.nm],vs.map vD⟩) a.nd nn (λ q o=>by rw[dt o];exact j) rfl (by show(1:Nat)<=1000;decide) u (.inl (by rw[C,zl i];rfl));have e:gi [eX (sS s) nm [g.nm] (vs.map vD),d9 A]=some (.b (aY g.w&&true)):=e;rw[l]at e;rw[p];exact e
     .have e:=ZM (r:=⟨sS s,nm,[g.nm],vs.map vD⟩) a.nd nn j rfl (by rw[C,zn i];rfl) d G;have le:t=!decide (x=cU):=by rw[zo,<-O,l];simp[d,i]
      rw[le];exact e
    .have e:=qK (r:=⟨sS s,nm,[g.nm],vs.map vD⟩) a.nd nn (λ q o=>by rw[dt o];exact j) rfl (by show(1:Nat)<=1000;decide) u (.inr ⟨g,[],rfl,d⟩);have e:gi [eX (sS s) nm [g.nm] (vs.map vD),d9 A]=some (.b (aY g.w&&true)):=e;rw[Bool.and_true]at e;have le:t=aY g.w:=by rw[zo,<-O];exact⟨λ q=>q.resolve_right λ z=>d z.1,.inl⟩
     rw[le];exact e
   .have p:=c3 O λ q=>m (wk q);rw[p];exact rj (r:=⟨sS s,nm,[f],vs.map vD⟩) (.inr ⟨f,by simp,m⟩) (by show(1:Nat)<=30;decide)
  .obtain⟨n,Z,e,P,x,e2,b,fp,c⟩:=Y.mpr q;cases e;refine⟨λ _=>⟨f,P.map vD,x,rfl,by rw[e2,zx,Zq,rC (wc x b)]⟩,λ y F=>by rw[dt F];exact wk c,by show(1:Nat)<=8;decide,tO λ s hs=>hW s (by simp[hs])⟩
theorem U1(hW:∀x∈bI::nm::us,W x):me A (bI::nm::us):=by
 have la:=a.la;have rd:=QS hn hW;obtain⟨lb,O⟩:=sk a hn (∃u vs,us=u::vs/\∃(g q:Rw)(Y:aG)(i:Str),g∈A/\g.nm=u/\d4 g.w=true/\q∈A/\g.fr=[q.nm]/\g.rs=Y++[.str i]/\uh vs g.w i q.w);cases us with
 |nil=>
  exact lP a.nd aD hW hn (RC:=False) (fs:=[]) (rest:=[]) (λ _=>rd.1 fun⟨_,f,vs,e,_⟩=>by cases e) (λ _ q=>q.elim) (λ kn nn=>Kl a.nd aD aQ kn nn a.fo hW O) (λ q=>by
   obtain⟨f,vs,e,_⟩:=O.mpr q;cases e) aQ (λ q=>q.elim) (λ q=>q.elim)
 |cons u vs=>
  refine lP a.nd aD hW hn (RC:=aO u/\zJ vs) (λ q=>rd.1 λ z=>by
   obtain⟨kn,f',Z,e,k,c⟩:=z;cases e;exact q ⟨kn,k,c⟩) (λ kn q=>rd.2 u vs rfl kn q.1 q.2) (λ kn nn=>Kl a.nd aD aD kn nn a.fo hW O) (λ q=>by
   obtain⟨l,Z,e,g,j,Y,i,d,e1,_,_,_,_,Q⟩:=O.mpr q;cases e;refine⟨by rw[<-e1];exact a.key _ (qw d),?_⟩;rcases Q with z|⟨_,z⟩
   .exact .inl z
   .exact .inr z) (by show(1:Nat)<=19;decide) (λ P nn=>?_) λ P q=>?_
  .by_cases m:u∈a_ A
   .obtain⟨g,d,rfl⟩:=iW m;cases fo:d4 g.w with
    |false=>
     have F:=c3 O λ p=>by
      obtain⟨l,Z,e,L,j,Y,i,t,e1,K,_⟩:=p;cases e;rw[B5 a.nd t d e1,fo]at K;cases K
     have e:=Jo (b:=true) (r:=⟨bI,nm,[g.nm],vs.map vD⟩) a.nd nn d rfl rfl λ z=>by rw[fo]at z;cases z
     rw[fo]at e;rw[F];exact e
    |true=>
     obtain⟨q,Y,i,E,H,I⟩:=a.fo g d fo;have ρ:uh vs g.w i q.w↔lb=true:=by
      rw[<-O];constructor
      .intro z;exact⟨g.nm,vs,rfl,g,q,Y,i,d,rfl,fo,E,H,I,z⟩
      .rintro ⟨l,Z,e,L,j,ag,ah,σ,T,_,U,M,N,z⟩;cases e;have R:=B5 a.nd σ d T;subst R;rw[H]at M;have qq:=B5 a.nd E U (yr M).1;subst qq;rw[I]at N;obtain⟨_,e3⟩:=jt N rfl;cases e3;exact z
     have e:=Jo (r:=⟨bI,nm,[g.nm],vs.map vD⟩) a.nd nn d rfl rfl λ _=>by
      rcases P.2 with rfl|⟨x,y,rfl,o⟩
      .exact .inl ⟨rfl,ρ.mp (.inl rfl)⟩
      .refine .inr ⟨vD x,vD y,rfl,Vh ?_ a.nd E H I ?_⟩
       .rcases o.1 with rfl|⟨n,h⟩
        .exact .inl qu
        .exact .inr ⟨n,gV h⟩
       .rw[<-ρ];constructor
        .rintro ⟨v,B,C,D⟩;refine .inr ⟨⟨v,B,C,λ z=>?_⟩,x,y,rfl,o⟩;obtain⟨n,e,G⟩:=D z;exact⟨x,[y],n,rfl,Vu o.1 e,G⟩
        .rintro (z|⟨⟨v,B,C,D⟩,_⟩)
         .cases z
         .refine⟨v,B,C,λ z=>?_⟩;obtain⟨x',r',n,e,h,G⟩:=D z;cases e;exact⟨n,gV h,G⟩
     rw[fo]at e;exact e
   .have F:=c3 O λ p=>by
     obtain⟨l,Z,e,L,j,Y,i,t,e1,_⟩:=p;cases e;exact m (by rw[<-e1];exact qw t)
    rw[F];exact rj (r:=⟨bI,nm,[u],vs.map vD⟩) (.inr ⟨u,by simp,m⟩) (by show(1:Nat)≤30;decide)
  .obtain⟨l,Z,e,g,j,Y,i,d,e1,_⟩:=O.mpr q;cases e;exact⟨λ z=>(by rw[show d4 bI=false by kernel_rfl]at z;cases z),λ y X=>by rw[dt X,← e1];exact qw d,by show(1:Nat)≤8;decide,tO λ s V=>hW s (by simp[V])⟩
end
def YY:fA->Bool
 |some (.str _)=>true
 |_=>false
theorem UY:(gz.all λ w=>YY (bE w cc))=true:=aK
theorem Rz(w:Str)(h:w∈gz):∃form:Str,bE w cc=some (.str form):=by
 have:=iX.mp UY w h;generalize bE w cc=o at*;cases o with
 |none=>cases this
 |some d=>
  cases d with
  |str s=>exact⟨s,rfl⟩
  |_=>cases this
theorem XQ(a:oV A)(O:W w):me A [w]:=by
 have la:=a.la;refine .inl ⟨?_,Hv a.nd aD aQ (λ s q=>by rw[dt q];exact O) aQ λ f nm us e=>by cases e⟩;have q:∀s∈[w],Wd s:=λ s q=>by rw[dt q];exact O.wd
 cases e:bE w cc with
 |none=>exact Ki q aQ e
 |some d=>
  have m:=dP.mp (by rw[e];rfl);obtain⟨form,Y⟩:=Rz w m;obtain⟨x,_,b,_,Z,_,_,c,_⟩:=cw6 m (n:=0) aH;exact Ca q aQ ⟨form,Y⟩ (AD b) Z λ z=>absurd z (c aH)
theorem cu7(h:∀s∈vs,W s):∀d∈D1 vs,Pl 1 d:=
 Vo (λ d hd=>by
  obtain⟨s,q,rfl⟩:=dI.mp (AV hd);exact CK s (h s q)) λ d hd=>by
  obtain⟨s,q,rfl⟩:=dI.mp (Yi (AV hd));exact CK s (h s q)
theorem cq6:∀w∈gz,w=cH∨w=fC∨w=gH∨w=gJ∨w=e_∨w=fb∨w=fe∨w=fD∨w=c1∨w=bH∨w=bL∨w=hZ∨w=fY∨w=dR∨w=h6∨w=bI:=aW
theorem bI1(a:oV A)(Y:ws≠[])(q:∀s∈ws,W s)(hl:ws.length<=21):me A ws:=by
 rcases ws with _|⟨w,_|⟨nm,us⟩⟩
 .exact absurd rfl Y
 .exact XQ a (q w aQ)
 .have hn:us.length<=19:=by simp at hl;lia
  cases e:bE w cc with
  |none=>exact Pz a hn q e
  |some d=>
   have m:=dP.mp (by rw[e];rfl);have pv:∀f vs,us=f::vs->∀d∈vs.map vD,Pl 1 d:=λ f vs e=>tO λ s O=>q s (by rw[e];simp[O]);clear e;rcases cq6 w m with rfl|rfl|rfl|rfl|rfl|rfl|rfl|rfl|rfl|rfl|rfl|rfl|rfl|rfl|rfl|rfl
   .exact co1 a hn q
   .exact oG a hn aH q (Tw hn q) λ f vs e _=>pv f vs e
   .exact oG a hn aH q (F7 hn (.inl rfl) q) λ f vs e _=>pv f vs e
   .exact oG a hn aH q (F7 hn (.inr rfl) q) λ f vs e _=>pv f vs e
   .exact oG a hn aH q (TF hn q) λ f vs e _=>pv f vs e
   .exact oG a hn aH q (TJ hn q) λ f vs e _=>pv f vs e
   .exact oG a hn aH q (Tv hn q) λ f vs e _=>pv f vs e
   .exact oG a hn aH q (Sz hn q) λ f vs e _=>pv f vs e
   .exact oG a hn aH q (QR hn q) λ f vs e _=>cu7 λ s O=>q s (by rw[e];simp[O])
   .exact RF a hn q
   .exact RG a hn q
   .exact yO a hn aH q (F6 hn (.inl rfl) q)
   .exact yO a hn aH q (Sy hn q)
   .exact yO a hn aH q (F6 hn (.inr rfl) q)
   .exact yO a hn aH q (TQ hn q)
   .exact U1 a hn q
abbrev C8:aP:=[fC,gH,gJ,e_,fb,fe,fD,c1]
theorem oe(h:J[3]?=some (.i (.str w)))(n:¬(w=u)):tB (e2 bM (eV 3) (eC (.str u))) J=some (false,J):=by simp[h,n]
theorem YB(h:J[3]?=some (.i (.str w)))(n:w=u):tB (e2 bM (eV 3) (eC (.str u))) J=some (true,J):=by simp[h,n]
theorem M4(O:J[3]?=some (.i (.str w)))(h2:J[2]?=some (.i (.l i9)))(q:d4 w=b):tB NG J=some (b,J):=by have s:mY (.l i9) (some 11) (some 15)=some (.l (h_.map .str)):=aK;have i:bP (.str w) (.l (h_.map .str))=some (.b (d4 w)):=aK;rw[q]at i;generalize h_.map D.str=Y,i9=Z at*;simp[-gO,h2,O,s,i]
structure dj(A:cX):Prop where
 good:ll [] A
 len:A.length<=24
theorem dj.nd(u:dj A):(a_ A).Nodup:=by have:=AQ (P:=[]) List.nodup_nil u.good;exact this
theorem dj.row(u:dj A)(h:r∈A):∃Q,iA Q r/\∀x∈a_ Q,x∈a_ A:=by have:=nk u.good h;exact this
theorem dj.key(u:dj A)(h:f∈a_ A):aO f:=by obtain⟨r,q,rfl⟩:=iW h;obtain⟨Q,k,_⟩:=u.row q;exact k.key
theorem wo(h:f∈a_ (cN A)):∃r∈A,r.nm=f/\aY r.w=true:=by obtain⟨r,q,e⟩:=iW h;have:=List.mem_filter.mp q;exact⟨r,this.1,e,this.2⟩
abbrev pC(o:fA):Prop:=∃r:Rw,o=some r.d/\eA r.w r.nm r.fr r.rs
abbrev EV(A:cX)(X:aG)(wd nm f0 f1:Str):En:=[.i (.l (aZ A)),.i (.l X),.i (.l i9),.i (.str wd),.i (.l (dy (cN A))),.i (.l (aZ (et A))),.i (.l (dy (hQ A))),.i (.str nm),.i (.l [.str f0,.str f1]),.z,.z,.z,.z,.z]
theorem cx9(g:eK xs)(u:dj A)(kn:aO nm):pC (cP (mO (EV A (xs.map .int) cH nm f0 f1))):=by obtain⟨l,h,e,t⟩:=R5 g;refine⟨⟨cH,nm,[],[l,h]⟩,?_,cw1 kn t⟩;generalize xs.map D.int=X at*;exact eW (YB rfl rfl) (by simp[e])
theorem KO:C8.all (λ w=>aY w&&!(d4 w)&&!(bZ (.str w) (.str cH))&&!(bZ (.str w) (.str bH))&&!(bZ (.str w) (.str bL))&&!(bZ (.str w) (.str bI)))=true:=aW
theorem XZ(g:eK xs)(h:w∈C8):∃rest,ko [.str w,.l (xs.map .int)]=some (.t rest)/\∀nm f,aO nm->aO f->eA w nm [f] rest:=by
 simp only[yc,zv,jd]at h;rcases h with rfl|rfl|rfl|rfl|rfl|rfl|rfl|rfl
 .exact Vc g
 .exact Ig g (.inl rfl)
 .exact Ig g (.inr rfl)
 .exact Vd g
 .exact Ve g
 .exact Vb g
 .exact VN g
 .exact cp3 g
theorem cy0(g:eK xs)(u:dj A)(kn:aO nm)(hw:w∈C8)(Y:f0∈a_ (cN A)):pC (cP (mO (EV A (xs.map .int) w nm f0 f1))):=by
 obtain⟨rest,e,rd⟩:=XZ g hw;have t:=iX.mp KO w hw;simp only[zm,Q3,kJ,Qr]at t;obtain⟨⟨⟨⟨⟨h,b⟩,c⟩,d⟩,f⟩,O⟩:=t;have a:aO f0:=by obtain⟨q,Z,rfl,_⟩:=wo Y;exact u.key (qw Z)
 refine⟨⟨w,nm,[f0],rest⟩,?_,rd nm f0 kn a⟩;generalize xs.map D.int=X at*;refine bC (oe rfl c) (bC (oe rfl d) (bC (oe rfl f) (bC (oe rfl O) (bC (M4 rfl rfl b) ?_))));simp[e,d3]
theorem Xx(g:eK xs)(u:dj A)(kn:aO nm)(h0:f0∈a_ (cN A))(h1:f1∈a_ (cN A)):pC (cP (mO (EV A (xs.map .int) bL nm f0 f1))):=by
 obtain⟨x,a,l⟩:=lD g.len g.dig 20 aH;have a:g0 [.l (xs.map .int),.int 20]=some (.int x):=a;obtain⟨v,e,m,_⟩:=g.at 5 aH aH;obtain⟨q,Y,O⟩:=qR D.str [cU,jJ,jK,jL] (i:=v.fmod 4) (yp _ aH) (yw _ aH);have H:=iX.mp (show[cU,jJ,jK,jL].all (λ w=>fz (.str w) [.str cU,.str jJ,.str jK,.str jL]&&(1≤w.length&&decide (w.length≤8)&&w.cps.toList.all λ c=>decide (97≤c)&&decide (c<123)))=true by decide+kernel) q Y;rw[zm]at H;have f:bP (.str q) HP=some (.b true):=by have:bP (.str q) HP=some (.b (fz (.str q) [.str cU,.str jJ,.str jK,.str jL])):=aK;rw[this,H.1]
 obtain⟨h,b,rfl,j⟩:=wo h0;obtain⟨Z,d,rfl,k⟩:=wo h1;have k0:=u.key (qw b);have k1:=u.key (qw d);refine⟨⟨bL,nm,[h.nm,Z.nm],[.int (x.natAbs:Int),.str q]⟩,?_,WZ kn k0 k1 aD aD f (c_4 H.2)⟩
 .generalize xs.map D.int=X at*;refine bC aK (bC aK (eW aK ?_));have O:cw [.str "sum",.str "less",.str "left",.str "right"] (v.fmod 4)=some (.str q):=O;simp[e,O,a]
theorem cl3(g:eK xs)(u:dj A)(kn:aO nm)(hf:et A≠[]):pC (cP (mO (EV A (xs.map .int) bI nm f0 f1))):=by
 obtain⟨v,a,w,_⟩:=g.at 1 aH aH;have p:=List.length_pos_iff.mpr hf;have k:(et A).length<=24:=zw (Qi ..) u.len;have b:v.fmod ((et A).length:Int)=v%((et A).length:Int):=fx aD;obtain⟨f,q,O⟩:=qR Rw.d (et A) (jo _ aD) (yz _ aD);have q:=List.mem_filter.mp q;have Y:=u.key (qw q.1);obtain⟨Q,ok,sub⟩:=u.row q.1;obtain⟨Z,m,o,e1,e2⟩:=ok.fo q.2;obtain⟨s,c,rfl⟩:=iW (sub Z (ok.fr Z (by rw[e1];exact qg)));obtain⟨rest,er,e⟩:=VU g u.nd c e1 e2 (zw u.len aH);have rd:eA bI nm [f.nm] rest:=by
  rcases e with rfl|⟨l,h,rfl,t,_⟩
  .exact Xa kn Y
  .exact W_ kn Y t
 refine⟨⟨bI,nm,[f.nm],rest⟩,?_,rd⟩
 .have i1:=rE f;have i:(aZ (et A)).length=(et A).length:=qz ..;have r:(et A).length<=sizeLine:=cv aD;have n:fN ((et A).length:Int)=true:=ib aD aD;have j:=hf;refine bC aK (bC aK (bC aK (eW aK ?_)));have O:cw (aZ (et A)) (v%((et A).length:Int))=some f.d:=O;simp only[EV];generalize aZ (et A)=σ,aZ A=R,dy (cN A)=S4,dy (hQ A)=S6,hW:i9=WW,xs.map D.int=X,f.d=fd at*;simp[a,i,b,j,O,i1,er]
theorem Ac(xs:aG)(n:Nat):eg xs none (some (n:Int))=xs.take n:=by unfold eg;rw[rb];show(xs.drop 0).take (min n xs.length-0)=_;rw[Yk,Nat.sub_zero];exact List.take_eq_take_min.symm
theorem Xw(g:eK xs)(u:dj A)(kn:aO nm)(h2:2≤(cN A).length):pC (cP (mO (EV A (xs.map .int) bH nm f0 f1))):=by
 obtain⟨v,f,K,_⟩:=g.at 3 aH aH;have B:(cN A).length<=24:=zw (Qi ..) u.len;obtain⟨m,l,d,I,ρ⟩:∃m:Int,(if((cN A).length:Int)-1<7 then((cN A).length:Int)-1 else 7)=m/\0<m/\m<=7/\m<=(cN A).length-1:=⟨_,rfl,by split<;>lia,by split<;>lia,by split<;>lia⟩;have i:v.fmod m=v%m:=fx d;have C:=jo v (show m≠0 by lia);have E:=yz v d;have F:fN m=true:=ib aD aD;have x:¬(m=0):=aD;obtain⟨n,hn⟩:∃n:Nat,2+v%m=(n:Int):=⟨(2+v%m).toNat,by lia⟩;have sub:∀q∈(cN A).reverse.take n,q∈A/\aY q.w=true:=λ q o=>List.mem_filter.mp (List.mem_reverse.mp (Zg o));have t:((cN A).reverse.take n).length=n:=by rw[j8,List.length_reverse];lia
 have O:(a_ ((cN A).reverse.take n)).Nodup:=by have y:(a_ ((cN A).reverse.take n)).Sublist (a_ (cN A).reverse):=(List.take_sublist ..).map _;have z:(a_ (cN A)).Sublist (a_ A):=List.filter_sublist.map _;refine List.Nodup.sublist y ?_;rw[Xq];exact List.pairwise_reverse.mpr ((List.Nodup.sublist z u.nd).imp λ h=>jc h)
 have c:=Ac (dy (cN A)).reverse n;have e:(dy (cN A)).reverse.take n=(a_ ((cN A).reverse.take n)).map .str:=by rw[<-Y8,<-Yv,zu];rfl
 rw[e]at c;have s:(dy (cN A)).length=(cN A).length:=qz ..;have H:(cN A).length<=sizeLine:=cv aD;generalize G:(cN A).reverse.take n=Rs at*;have rd:eA bH nm (a_ Rs) []:=by
  have Z:∀k∈a_ Rs,aO k:=λ k j=>by
   obtain⟨r,p,rfl⟩:=iW j;exact u.key (qw (sub r p).1)
  have Y:(a_ Rs).length=n:=by rw[qz];exact t
  generalize a_ Rs=N at*
  match N,Z,Y,O with
  |[],_,Y,_=>simp at Y;lia
  |[a],_,Y,_=>simp at Y;lia
  |a::b::fs,Z,Y,O=>exact WY kn Z (by simp at Y;lia) O
 refine⟨⟨bH,nm,a_ Rs,[]⟩,?_,rd⟩
 .refine bC aK (eW aK ?_);show _=some (D.t [.str bH,.str nm,.t ((a_ Rs).map .str),.t []]);simp only[EV];generalize (a_ Rs).map D.str=NR,dy (cN A)=S4,aZ (et A)=S5,aZ A=R,dy (hQ A)=S6,hW:i9=WW,xs.map D.int=X at*;simp[f,s,l,i,x,hn,c]
theorem cw5(h:Dl w=true):w=bL:=by unfold Dl at h;rw[kJ,zh]at h;exact h
theorem Kx:h_.all (λ w=>d4 w&&!(bZ (.str w) (.str cH))&&!(bZ (.str w) (.str bH))&&!(bZ (.str w) (.str bL))&&!(bZ (.str w) (.str bI)))=true:=aW
def e12:FE:=Nx
theorem Xy(g:eK xs)(u:dj A)(kn:aO nm)(hw:w∈h_)(hf:f0∈a_ (cN A)):pC (cP (mO (EV A (xs.map .int) w nm f0 f1))):=by
 have t:=iX.mp Kx w hw;simp only[zm,Q3,kJ,Qr]at t;obtain⟨⟨⟨⟨M,N⟩,Q⟩,T⟩,U⟩:=t;obtain⟨v,H,V,_⟩:=g.at 4 aH aH;have c:=oM (l:=dy (hQ A)) (by
  have:=k_ (a_ (hQ A));rw[zu]at this;exact this)
 have s:(dy (hQ A)).length+2<=sizeLine:=cv (by
  have a:(hQ A).length<=A.length:=Qi ..;have:=u.len;rw[qz];lia)
 have σ:∃(O:Bool)(f:Str),e12 (EV A (xs.map .int) w nm f0 f1)=some (.b O,EV A (xs.map .int) w nm f0 f1)∧(O=true→f=f0)∧(O=false→¬(w=dR)∧∃p∈A,p.nm=f∧p.w=bL)∧cw (if O=true then[.str f0,.str f1]else dy (hQ A)++[.str f0,.str f1]) 0=some (.str f):=by
  have E:∃O:Bool,e12 (EV A (xs.map .int) w nm f0 f1)=some (.b O,EV A (xs.map .int) w nm f0 f1)∧(O=false→¬(w=dR)∧(dy (hQ A)).isEmpty=false):=by
   unfold e12;simp only[EV];generalize dy (hQ A)=S6,dy (cN A)=S4,aZ (et A)=S5,aZ A=R,hW:i9=WW,xs.map D.int=X at*;by_cases d:w=dR
   .exact⟨true,by simp[d],λ h=>by cases h⟩
   .cases x:S6.isEmpty with
    |true=>
     rw[x]at c;exact⟨true,by simp[-fL,oO,d,c],λ h=>by cases h⟩
    |false=>
     rw[x]at c;refine⟨decide (v.fmod 2=0),?_,λ _=>⟨d,rfl⟩⟩;simp[-fL,oO,wm,d,c,H]
  obtain⟨O,e,h⟩:=E;cases O with
  |true=>exact⟨true,f0,e,λ _=>rfl,(λ z=>by cases z),rfl⟩
  |false=>
   obtain⟨n,q⟩:=h rfl;generalize I:hQ A=P at*;cases P with
   |nil=>cases q
   |cons p r=>
    have m:=List.mem_filter.mp (I▸qg:p∈hQ A);exact⟨false,p.nm,e,(λ z=>by cases z),λ _=>⟨n,p,m.1,rfl,cw5 m.2⟩,mR _ _⟩
 obtain⟨O,f,e,B,C,Z⟩:=σ;have j:f∈a_ A:=by
  cases O with
  |true=>
   rw[B rfl];obtain⟨q,K,rfl,_⟩:=wo hf;exact qw K
  |false=>
   obtain⟨p,ρ,rfl,_⟩:=(C rfl).2;exact qw ρ
 have o:=u.key j;obtain⟨Y,i,k,rd,_,L⟩:=U0 g O (by
  simp only[yc,zv,jd]at hw;exact hw)
 have y:=rd nm f kn o;have σ:cP (mO (EV A (xs.map .int) w nm f0 f1))=some (D.t [.str w,.str nm,.t [.str f],.t (Y++[.str i])]):=by
  clear y rd L B C j hf hw kn o;refine bC (oe rfl N) (bC (oe rfl Q) (bC (oe rfl T) (bC (oe rfl U) (eW (M4 rfl rfl M) (xu e ?_)))));simp only[EV];generalize Y++[D.str i]=PP,dy (hQ A)=S6,dy (cN A)=S4,aZ (et A)=S5,aZ A=R,hW:i9=WW,xs.map D.int=X at*;have F:∀a b:D,cw [a,b] 0=some a:=λ _ _=>rfl;have G:∀a b:D,cw [a,b] 1=some b:=λ _ _=>rfl;cases O with
  |true=>
   have Z:cw [.str f0,.str f1] 0=some (.str f):=Z;simp[s,G,Z,k]
  |false=>
   have Z:cw (S6++[.str f0,.str f1]) 0=some (.str f):=Z;generalize hL:S6++[D.str f0,.str f1]=LL at*;simp[s,hL,F,Z,k]
 exact⟨⟨w,nm,[f],Y++[D.str i]⟩,σ,y⟩
theorem ap5:∀w∈vJ,w=cH∨w=bH∨w=bL∨w=bI∨w∈h_∨w∈C8:=aW
theorem QO(g:eK xs)(u:dj A)(hl:A.length<24):∃r:Rw,uG [.l (aZ A),.l (xs.map .int)]=some r.d/\eA r.w r.nm r.fr r.rs:=by
 obtain⟨wd,nm,f0,f1,p,e⟩:=WL g hl (by
  have:=tM (l:=aZ (et A)) λ d hd=>by
   obtain⟨r,q,rfl⟩:=dI.mp hd;obtain⟨Q,ok,_⟩:=u.row (List.mem_filter.mp q).1;exact(B2 ok.rd.pl).2.2
  show eQ _+1<=30;lia)
 have M:pC (cP (mO (EV A (xs.map .int) wd nm f0 f1))):=by
  rcases ap5 wd p.mem with rfl|rfl|rfl|rfl|h|h
  .exact cx9 g u p.key
  .exact Xw g u p.key (p.pour rfl)
  .have:=p.ch aW;exact Xx g u p.key this.2.1 this.2.2
  .exact cl3 g u p.key (p.ask rfl)
  .have t:=iX.mp Kx wd h;simp only[zm,Q3,kJ,Qr]at t;exact Xy g u p.key h (p.ch t.1.1.1.2).2.1
  .have t:=iX.mp KO wd h;simp only[zm,Q3,kJ,Qr]at t;exact cy0 g u p.key h (p.ch t.1.1.1.2).2.1
 obtain⟨r,er,ok⟩:=M;exact⟨r,e.trans er,ok⟩
abbrev MW:aP:=[cH,fC,gH,gJ,e_,fb,fe,fD,c1,bH,bL,hZ,fY,dR,h6,bI,f_,cU,nH,nI,jJ,jK,jL,fE,sS "b",sS "z",sS "zz",sS "abcdefgh",sS "abcdefghi",nF,sS "a1",gL,sS "1",sS "2",sS "3",sS "7",sS "50",sS "51",sS "-1",sS "-0",sS "01",sS "+1",sS "1000",sS "1001",sS "-1000",sS "*",fh,gK,sS "999999999999",sS "1000000000000",sS "1_0"]
def BY:FS:=(aL (bN 4 (e2 cu (c4 [] (eV 0) bD j3) ET))
 (aL NF
 (bJ (e2 bA (eV 3) (e2 cV (eV 2) (eF cg iK))))))
theorem cy1(R a b:D):uy [R,a,b]=cP (BY [.i R,.i a,.i b,.i (.l (MW.map .str)),.z]):=aK
theorem YU:∀s∈MW,s.length<=13/\∀c∈s.cps.toList,33<=c/\c<123:=aW
theorem LI(q:L≠[])(hl:L.length<=1000)(b:Int):∃s∈L,fN (L.length:Int)=true/\cw (L.map D.str) (b.fmod (L.length:Int))=some (.str s):=by have p:=List.length_pos_iff.mpr q;obtain⟨s,O,e⟩:=qR D.str L (yp _ aD) (yw _ aD);exact⟨s,O,ib aD aD,e⟩
theorem Kj(hk:∀f∈a_ A,aO f)(hl:A.length<=24)(a b:Int):∃s:Str,W s/\uy [.l (aZ A),.int a,.int b]=some (.str s):=by
 have l:du bD j3 [] (aZ A)=some (dy A):=by have:=jV (T:=bD) (F:=e2 bA (eV 0) (zI 1)) (fr:=[]) (g:=Rw.d) A (λ r _=>rfl) (λ r _ _=>rfl);rw[List.filter_eq_self.mpr λ _ _=>rfl]at this;exact this
 have e:dy A++[.str fE]=(a_ A++[fE]).map .str:=by simp[Qz]
 have t:(aZ A).length<=1000:=by rw[qz];lia
 have E:=k9 (J:=[.i (.l (aZ A)),.i (.int a),.i (.int b),.i (.l (MW.map .str)),.z]) (js:=[]) (i:=0) l rfl rfl t;obtain⟨Z,m,B,e1⟩:=LI (L:=a_ A++[fE]) aQ cR b;obtain⟨Y,n,C,O⟩:=LI (L:=MW) aQ aH b;have y:W Z:=by
  rcases qy m with q|q
  .exact(hk Z q).w
  .rw[dt q];exact(c_4 aW:aO fE).w
 have z:=YU Y n;have k:(dy A).length+1<=sizeLine:=cv (by rw[qz];lia);have o:((a_ A++[fE]).map D.str).length=(a_ A++[fE]).length:=qz ..;have p:(MW.map D.str).length=MW.length:=qz ..;have I:(a_ A++[fE]).length≤sizeLine:=cv cR;have ρ:MW.length<=sizeLine:=cv aH;have u:¬((a_ A++[fE]).length=0):=aQ;have p2:¬(MW.length=0):=aH;rw[cy1];generalize (a_ A++[fE])=LN at*;generalize MW=M at*;generalize H:LN.map D.str=ND at*;generalize G:M.map D.str=MD at*;generalize dy A=SA at*;generalize j:c4 [] (eV 0) bD j3=EE at*;have v:¬(LN=[]):=λ h=>u (by rw[h];rfl);have x:¬(M=[]):=λ h=>p2 (by rw[h];rfl);by_cases c:a.fmod 4=0
 .refine⟨Z,y,?_⟩;unfold BY;rw[j];simp[E,k,e,c,o,e1,v]
 .refine⟨Y,z,?_⟩;unfold BY;rw[j];simp[E,k,e,c,p,O,x]
theorem RP(xs:aG)(n:Nat):eg xs (some (n:Int)) none=xs.drop n:=by
 unfold eg;rw[rb];show(xs.drop (min n xs.length)).take (xs.length-min n xs.length)=_;rw[je (by rw[jr];lia)];rcases Nat.le_total n xs.length with h|h
 .rw[Nat.min_eq_left h]
 .rw[Nat.min_eq_right h,List.drop_length,jq h]
structure Lw(m:Nat)(ws:aP):Prop where
 ne:ws≠[]
 len:ws.length<=m
 w:∀s∈ws,W s
theorem J_(ws:aP)(n:Nat):eg (ws.map D.str) none (some (n:Int))=(ws.take n).map .str:=by rw[Ac,Yv]
theorem Bb(ws:aP)(n:Nat):eg (ws.map D.str) (some (n:Int)) none=(ws.drop n).map .str:=by rw[RP,List.map_drop]
def PL(A:cX)(xs:eB)(k:Nat)(J:En):Prop:=∃(ws:aP)(Y s4 q O:Sl),J=[.i (.l (aZ A)),.i (.l (xs.map .int)),.i (.l (ws.map .str)),Y,s4,q,O]/\Lw (18+k) ws
theorem D7{F G:FS}{J ρ':En}(h:F J=some (.nx ρ')):aL F G J=G ρ':=by rw[CD,h];rfl
theorem Pa(g:eK xs)(hk:∀f∈a_ A,aO f)(hl:A.length<=24)(i:Nat)(J:En)(hi:i<3)(p:PL A xs i J):∃aa ac,gN 3 (.int i) J=some aa/\cC aa=some (.nx ac)/\PL A xs (i+1) ac:=by
 obtain⟨ws,s3,s4,C,r,rfl,⟨E,h1,hw⟩⟩:=p;obtain⟨v,N,v0,_⟩:=g.at (52+(i:Int)) aD aD;obtain⟨V,O,_,_⟩:=g.at (55+(i:Int)) aD aD;obtain⟨m2,Z,_,_⟩:=g.at (46+(i:Int)) aD aD;obtain⟨m3,Y,_,_⟩:=g.at (43+(i:Int)) aD aD;obtain⟨u,M,_,_⟩:=g.at (56+(i:Int)) aD aD;obtain⟨s,F,es⟩:=Kj hk hl V (m2+m3);have lp:=List.length_pos_iff.mpr E;have f0:0<=v.fmod (ws.length:Int):=yp _ aD;have f1:v.fmod (ws.length:Int)<ws.length:=yw _ aD;obtain⟨n,hn⟩:=j9 f0;have dm:fN (ws.length:Int)=true:=ib aD aD;have B:(ws.map D.str).length=ws.length:=qz ..;have lz:ws.length<=sizeLine:=cv aD;have t:=J_ ws n;have G:=Bb ws n;have H:eg (ws.map D.str) (some ((n:Int)+1)) none=(ws.drop (n+1)).map .str:=Bb ws (n+1);have k1:((ws.take n).map D.str).length+1<=sizeLine:=cv cR;have k2:((ws.take n).map D.str).length+1+((ws.drop (n+1)).map D.str).length<=sizeLine:=cv cR;have k3:((ws.take n).map D.str).length+1+((ws.drop n).map D.str).length<=sizeLine:=cv cR;have U:((ws.take n).map D.str).length+((ws.drop (n+1)).map D.str).length<=sizeLine:=cv cR;have q0:=E;have c:∀{x:Str}{a b:Nat},x∈ws.take a\/x∈ws.drop b->W x:=λ h=>hw _ (h.elim Zg Yi);have I:Lw (18+(i+1)) (ws.take n++[s]++ws.drop (n+1)):=⟨by simp,by simp;lia,λ x j=>by
  simp only[Yc,Yw]at j;rcases j with(z|z)|z
  .exact c (b:=0) (.inl z)
  .rw[z];exact F
  .exact c (a:=0) (.inr z)⟩
 have ρ:Lw (18+(i+1)) (ws.take n++[s]++ws.drop n):=⟨by simp,by simp;lia,λ x j=>by
  simp only[Yc,Yw]at j;rcases j with(z|z)|z
  .exact c (b:=0) (.inl z)
  .rw[z];exact F
  .exact c (a:=0) (.inr z)⟩
 have L:¬(ws.length=1)->Lw (18+(i+1)) (ws.take n++ws.drop (n+1)):=λ h=>⟨λ q=>by
   have:=y0 List.length q;rw[zr,j8,jr,List.length_nil]at this;lia,by simp;lia,λ x j=>by
  simp only[Yc]at j;rcases j with z|z
  .exact c (b:=0) (.inl z)
  .exact c (a:=0) (.inr z)⟩
 have P:(ws.take n).map D.str++[.str s]++(ws.drop (n+1)).map D.str=(ws.take n++[s]++ws.drop (n+1)).map .str:=aQ;have σ:(ws.take n).map D.str++[.str s]++(ws.drop n).map D.str=(ws.take n++[s]++ws.drop n).map .str:=aQ;have T:(ws.take n).map D.str++(ws.drop (n+1)).map D.str=(ws.take n++ws.drop (n+1)).map .str:=aQ;have K:=λ d k=>((D7 (ρ':=[.i (.l (aZ A)),.i (.l (xs.map .int)),.i (.l (ws.map .str)),.i (.int i),.i (.int n),C,r]) (by generalize ws.map D.str=Q,xs.map D.int=X,aZ A=R at*;simp[N,B,q0,hn])).trans ((D7 (ρ':=[.i (.l (aZ A)),.i (.l (xs.map .int)),.i (.l (ws.map .str)),.i (.int i),.i (.int n),.i (.str s),r]) (by generalize ws.map D.str=Q,xs.map D.int=X,aZ A=R at*;simp[O,Z,Y,es])).trans ((D7 (ρ':=[.i (.l (aZ A)),.i (.l (xs.map .int)),.i (.l (ws.map .str)),.i (.int i),.i (.int n),.i (.str s),.i (.int (u.fmod 4))]) (by generalize ws.map D.str=Q,xs.map D.int=X,aZ A=R at*;simp[M])).trans k)):cC [.i (.l (aZ A)),.i (.l (xs.map .int)),.i (.l (ws.map .str)),.i (.int i),s4,C,r]=d)
 have R:∃zs:aP,Lw (18+(i+1)) zs/\cC [.i (.l (aZ A)),.i (.l (xs.map .int)),.i (.l (ws.map .str)),.i (.int i),s4,C,r]=some (.nx [.i (.l (aZ A)),.i (.l (xs.map .int)),.i (.l (zs.map .str)),.i (.int i),.i (.int n),.i (.str s),.i (.int (u.fmod 4))]):=by
  by_cases w:u.fmod 4<2
  .refine⟨_,I,?_⟩;rw[<-P];refine K _ ?_;clear K;generalize (ws.take n).map D.str=T1,(ws.drop (n+1)).map D.str=T3,ws.map D.str=Q,xs.map D.int=X,aZ A=R at*;simp[w,t,H,k1,k2]
  .by_cases y:u.fmod 4=2\/ws.length=1
   .refine⟨_,ρ,?_⟩;rw[<-σ];refine K _ ?_;clear K;generalize (ws.take n).map D.str=T1,(ws.drop n).map D.str=T3,ws.map D.str=Q,xs.map D.int=X,aZ A=R at*;by_cases l:u.fmod 4=2
    .simp[l,t,G,k1,k3]
    .have o:=y.resolve_left l;have m:((ws.length:Int)=1):=aD;have o:=eq_true o;have m:=eq_true m;simp[B,w,l,m,t,G,k1,k3]
   .have l:¬(u.fmod 4=2):=λ h=>y (.inl h);have o:=λ h=>y (.inr h);have m:¬((ws.length:Int)=1):=aD;refine⟨_,L o,?_⟩;rw[<-T];refine K _ ?_;clear K;generalize (ws.take n).map D.str=T1,(ws.drop (n+1)).map D.str=T3,ws.map D.str=Q,xs.map D.int=X,aZ A=R at*;simp[B,w,l,m,t,H,U]
 obtain⟨zs,h,e⟩:=R;exact⟨_,_,rfl,e,zs,_,_,_,_,rfl,h⟩
theorem Ml:∀{l:aG},(∀d∈l,∃s,W s/\F (.i d::fr)=some (.str s,.i d::fr))->∃zs:aP,du bD F fr l=some (zs.map .str)/\zs.length=l.length/\∀s∈zs,W s
 |[],_=>⟨[],rfl,rfl,λ s O=>(by cases O)⟩
 |d::r,h=>by
  obtain⟨zs,e,hl,hw⟩:=Ml λ d hd=>h d (qh _ hd);obtain⟨s,ws,es⟩:=h d qg;refine⟨s::zs,?_,by rw[zt,hl];rfl,λ x q=>?_⟩
  .have ty:bD (.i d::fr)=some (true,.i d::fr):=rfl;rw[vP,ty,vR,es,vQ,e,o5];rfl
  .rcases qx q with z|z
   .rw[z];exact ws
   .exact hw x z
theorem Xz:∀{n:Nat}{d:D}{lo:Int},d∈dz lo n->∃i:Int,d=.int i/\lo<=i/\i<lo+n:=λ{n d lo}h=>by
 obtain⟨i,hi⟩:=List.mem_iff_getElem?.mp h;obtain⟨e,hn⟩:=BK n lo i d hi;exact⟨lo+i,e,by lia,by lia⟩
def fO:FE:=NH
theorem Tp(g:eK xs)(q:∀f∈a_ A,aO f)(hl:A.length<=24)(hn:n<=7):∃zs:aP,du bD fO [.i (.l (aZ A)),.i (.l (xs.map .int))] (dz 0 n)=some (zs.map .str)/\zs.length=(dz 0 n).length/\∀s∈zs,W s:=by
 refine Ml λ d hd=>?_;obtain⟨i,rfl,c,i1⟩:=Xz hd;obtain⟨a,O,_,_⟩:=g.at (51+i) aD aD;obtain⟨b,Z,_,_⟩:=g.at i aD aD;obtain⟨s,Y,es⟩:=Kj q hl a b;refine⟨s,Y,?_⟩;unfold fO;generalize xs.map D.int=X,aZ A=R at*;simp[O,Z,es]
theorem cl6(g:eK xs)(u:dj A)(hl:A.length<24):∃ws:aP,Lw 21 ws/\uC [.l (aZ A),.l (xs.map .int)]=some (.str (Str.join bR ws)):=by
 have C:∀f∈a_ A,aO f:=λ f T=>u.key T;obtain⟨r,er,ws,v,E,w1,Y⟩:=QO g u hl;have Y:∀s∈ws,W s:=Y;have sp:Txt.split (Str.join bR ws) bR=ws:=D4 E λ s O=>(Y s O).wd.1;have jl:=p_ ws λ s O=>(Y s O).1;have jz:(Str.join bR ws).length<=100000:=aD;have I:¬(bR.length=0):=aW;have v:gj [r.d]=some (.str (Str.join bR ws)):=v;have ds:kA (.str (Str.join bR ws)) (.str bR)=some (.l (ws.map .str)):=by rw[IY,if_pos ⟨I,jz⟩,sp]
 obtain⟨a,B,_,_⟩:=g.at 50 aH aH;obtain⟨b,K,b0,_⟩:=g.at 59 aH aH;obtain⟨c,L,c0,_⟩:=g.at 51 aH aH;have f0:0<=b.fmod 7:=yp _ aH;have f1:b.fmod 7<7:=yw _ aH;have P:0<=c.fmod 4:=yp _ aH;have σ:c.fmod 4<4:=yw _ aH;obtain⟨m,V⟩:=j9 P;obtain⟨k,F⟩:=j9 f0;obtain⟨zs,N,x,hz⟩:=Tp g C u.len (n:=1+k) aD;rw[va]at x;have M:∃vs:aP,Lw 18 vs/\bG NN (bN 2 (mq [0,1] (dZ NQ) bD fO)) sN [.i (.l (aZ A)),.i (.l (xs.map .int)),.i (.l (ws.map .str)),.z,.z,.z,.z]=some (.nx [.i (.l (aZ A)),.i (.l (xs.map .int)),.i (.l (vs.map .str)),.z,.z,.z,.z]):=by
  by_cases q:a.fmod 8=0
  .refine⟨zs,⟨λ z=>by rw[z]at x;simp at x;lia,by lia,hz⟩,?_⟩;have tn:(1+(k:Int)).toNat=1+k:=aD;have r1:-4611686018427387904<=1+(k:Int):=aD;have r2:1+(k:Int)<4611686018427387904:=aD;have rl:(dz 0 (1+k)).length=1+k:=va ..;have rz:1+k<=sizeLine:=cv aD;generalize ws.map D.str=Q,zs.map D.str=Z,xs.map D.int=X,aZ A=R,fO=FM at*;simp[B,K,q,F,tn,r1,r2,N,rl,rz]
  .refine⟨ws,⟨E,w1,Y⟩,?_⟩;generalize ws.map D.str=Q,xs.map D.int=X,aZ A=R,fO=FM at*;simp[B,q]
 obtain⟨vs,lv,t⟩:=M;obtain⟨ρ',e,us,s3,s4,s5,s6,rfl,o⟩:=yM (PL A xs) m 0 [.i (.l (aZ A)),.i (.l (xs.map .int)),.i (.l (vs.map .str)),.z,.z,.z,.z] (λ i J _ hi p=>Pa g C u.len i J aD p) ⟨vs,_,_,_,_,rfl,lv⟩;refine⟨us,⟨o.ne,by have:=o.len;lia,o.w⟩,?_⟩;have j:=uL bR us (by
  have h:∀{l:aP},(∀s∈l,s.length<=13)->(l.map (·.length)).sum<=13*l.length:=λ{l}=>by
   induction l with
   |nil=>intro _;exact yg _
   |cons a r ih=>
    intro h;have σ:=h a qg;have h2:=ih λ s O=>h s (qh _ O);simp only[zj,Z2,zt];lia
  have:=h λ s O=>(o.w s O).1;have:=o.len;have:bR.length=1:=aW;rw[this];lia)
 have y:dh (gN 3) cC (dz 0 m) [.i (.l (aZ A)),.i (.l (xs.map .int)),.i (.l (vs.map .str)),.z,.z,.z,.z]=_:=e;have G:-4611686018427387904<=(m:Int):=aD;have H:(m:Int)<4611686018427387904:=aD;have l0:uC [.l (aZ A),.l (xs.map .int)]=cP (M3 [.i (.l (aZ A)),.i (.l (xs.map .int)),.z,.z,.z,.z,.z]):=aK;rw[l0];refine rm (ρ':=[.i (.l (aZ A)),.i (.l (xs.map .int)),.i (.l (ws.map .str)),.z,.z,.z,.z]) ?_ (rm t ?_)
 .clear y e t;generalize hJ:Str.join bR ws=ρ,ws.map D.str=Q,xs.map D.int=X,aZ A=R,r.d=rd at*;simp[-IY,er,v,ds]
 .clear t;generalize us.map D.str=U,vs.map D.str=Q,xs.map D.int=X,aZ A=R,cC=LL at*;simp[L,V,G,H,y,j]
def bT(r:Rw):Str:=match gj [r.d]with
 |some (.str t)=>t
 |_=>⟨#[]⟩
theorem mP(h:Rd r.w r.nm r.fr r.rs):gj [r.d]=some (.str (bT r))/\fH [.str (bT r)]=some r.d/\10∉(bT r).cps.toList/\(bT r).length<=400:=by
 obtain⟨t,e,a⟩:=h.txt;have:bT r=t:=by unfold bT;rw[e]
 rw[this];exact⟨e,a⟩
theorem Xg(nn:r.nm∉a_ P):kM r.nm r.d (kds P)=kds (P++[r]):=by unfold kM;rw[AS nn];exact(zx (f:=λ r:Rw=>(r.nm,r.d)) (l₁:=P) (l₂:=[r])).symm
theorem cm7(h1:j1 J[i]?=some (false,K))(h2:J.all oE=true)(Y:J.set i (fy K)=q)(O:T q=some (b,q)):eI i T J=some (b,J):=by rw[VL,h1,QK,if_pos ⟨rfl,h2⟩,Y,O];exact QJ _ _ _
theorem UI(h1:m5 J[i]?=some ds)(h2:lx i J=true)(Y:J.set i (.i (.l ds))=q)(O:T q=some (b,q)):eY i T J=some (b,J):=by rw[WH,h1,Th,if_pos h2,Y,O];exact FV _ _ _
theorem UJ(h1:m5 J[i]?=some ds)(h2:lx i J=true)(Z:J.set i (.i (.l ds))=q)(O:F q=some (d,q))(Y:nl d=true):dO i F J=some (d,J):=by rw[U6,h1,PF,if_pos h2,Z,O];exact PB _ _ _ Y
abbrev Kv:=ew
abbrev xK(k:Kv):D:=.c (k.map (·.1)) (k.map (·.2))
abbrev Ee:FT:=c_ E_ (c_ E8 (cZ (tV (eF gi (aC (eV 4) c5)))))
noncomputable def xC:D->Bool
 |.t _=>true
 |_=>false
def nu(d:D)(k:Kv):Option Bool:=if xC d then(match gi [d,xK k]with
 |some (.b b)=>some b
 |_=>none)else(match d with
 |.n=>some false
 |_=>none)
theorem au3(h:nu d k=some b):(d=.n/\b=false)\/((∃l,d=.t l)/\gi [d,xK k]=some (.b b)):=by
 unfold nu at h;cases d with
 |n=>cases h;exact .inl ⟨rfl,rfl⟩
 |t l=>
  refine .inr ⟨⟨l,rfl⟩,?_⟩;rw[if_pos (show xC (.t l)=true from rfl)]at h;split at h
  .rename_i e;cases h;exact e
  .cases h
 |_=>cases h
theorem J8(T:D){k:Kv}(hd:iv (k.map (·.2))=true){n:Nat}{t:Str}{d:D}{b:Bool}(h:nu d k=some b):eI 1 Ee [.i T,.o false (.d k),.i (.int n),.i (.str t),.i d]=some (decide (24<=n)||!b,[.i T,.o false (.d k),.i (.int n),.i (.str t),.i d]):=by
 have Z:fy k=.i (xK k):=rfl;have Y:[Sl.i T,.o false (.d k),.i (.int n),.i (.str t),.i d].all oE=true:=by show(true&&(iv (k.map (·.2))&&(true&&(true&&(true&&true)))))=true;rw[hd];rfl
 generalize O:xK k=DA at*;refine cm7 rfl Y (by rw[Z,List.set_cons_succ,List.set_cons_zero]) ?_;by_cases c:24<=n
 .have q:((n:Int)>=24):=aD;simp[c,q]
 .have q:¬((n:Int)>=24):=aD;rcases au3 h with⟨rfl,rfl⟩|⟨⟨l,rfl⟩,st⟩
  .simp[c,q]
  .rw[O]at st;have a:mm (.t l) .n=some (.b false):=rfl;simp[c,q,a,st]
noncomputable def x_:D->Option Str
 |.t [_,.str x,_,_]=>some x
 |_=>none
theorem cx4(h:x_ d=some x):bA d (.int 1)=some (.str x):=by
 unfold x_ at h;split at h
 .cases h;rfl
 .cases h
section
variable(T:D){k:Kv}(hd:iv (k.map (·.2))=true)(hl:k.length<100){n:Nat}{t:Str}(s4:Sl){d:D}(er:fH [.str t]=some d)
include hd hl er
theorem cy2{b:Bool}(O:nu d k=some b)(q:(decide (24<=n)||!b)=true):jU [.i T,.o false (.d k),.i (.int n),.i (.str t),s4]=some (.ex (lW,some (lX,.int n))):=by
 have z:=J8 T hd (n:=n) (t:=t) O;rw[q]at z;simp only[jU];generalize eI 1 Ee=TT at*;simp[er,z,cD]
theorem cl5{x:Str}(O:nu d k=some true)(Y:n<24)(Z:x_ d=some x):jU [.i T,.o false (.d k),.i (.int n),.i (.str t),s4]=some (.ok (.nx [.i T,.o false (.d (kM x d k)),.i (.int n),.i (.str t),.i d]))/\ur [.i T,.o false (.d k),.i (.int n),.i (.str t),s4]=some (.nx [.i T,.o false (.d (kM x d k)),.i (.int n),.i (.str t),.i d]):=by
 have z:=J8 T hd (n:=n) (t:=t) O;rw[show(decide (24<=n)||!true)=false by simp;lia]at z;have i1:=cx4 Z;generalize q:kM x d k=KN at*;simp only[jU,ur];generalize eI 1 Ee=TT at*;constructor
 .simp[er,z,i1,hl,q,cD]
 .simp[er,z,i1,hl,q]
end
theorem YQ(r:Rw):x_ r.d=some r.nm:=rfl
theorem yL(T:D):∀(A P:cX)(Z Y s4:Sl),ll P A->P.length+A.length<=24->(∀r∈P,nd r.d=true)->∃aa ac O,(∀rest,h8 (gT [2,3]) jU (fG P.length (A.map λ r=>.str (bT r))++rest) [.i T,.o false (.d (kds P)),Z,Y,s4]=h8 (gT [2,3]) jU rest [.i T,.o false (.d (kds (P++A))),aa,ac,O])/\dh (gT [2,3]) ur (fG P.length (A.map λ r=>.str (bT r))) [.i T,.o false (.d (kds P)),Z,Y,s4]=some (.nx [.i T,.o false (.d (kds (P++A))),aa,ac,O])
 |[],P,Z,Y,s4,_,_,_=>⟨Z,Y,s4,λ _=>by rw[yb];rfl,by rw[yb];rfl⟩
 |r::q,P,Z,Y,s4,g,hl,i=>by
  have k:P.length+(q.length+1)<=24:=hl;have x:=mP g.1.rd;have hn:iv ((kds P).map (·.2))=true:=(Cd λ d hd=>by
   rw[zu]at hd;obtain⟨p,h,rfl⟩:=dI.mp hd;exact i p h)
  have st:nu r.d (kds P)=some true:=by have:=g.1.st;unfold nu;rw[if_pos (show xC r.d=true from rfl)];show(match gi [r.d,d9 P]with|some (.b b)=>some b|_=>none)=_;rw[this]
  obtain⟨t,j⟩:=cl5 T hn (by rw[HD];lia) (n:=P.length) (t:=bT r) s4 x.2.1 st aD (YQ r);rw[Xg g.1.nn]at t j;obtain⟨a,b,c,e,f⟩:=yL T q (P++[r]) (.i (.int P.length)) (.i (.str (bT r))) (.i r.d) g.2 (by rw[zr];show P.length+1+_<=24;lia) (λ p h=>by
   rcases qy h with h|h
   .exact i p h
   .rw[dt h];exact(B2 g.1.rd.pl).2.1)
  rw[qA]at e f;rw[zr]at e f;refine⟨a,b,c,λ rest=>?_,?_⟩
  .show h8 _ _ (.t [.int (P.length:Int),.str (bT r)]::(fG (P.length+1) (q.map _)++rest)) _=_;rw[BG];show aF (some [.i T,.o false (.d (kds P)),.i (.int (P.length:Int)),.i (.str (bT r)),s4]) _=_;rw[cD,t,cD];exact e rest
  .show dh _ _ (.t [.int (P.length:Int),.str (bT r)]::fG (P.length+1) (q.map _)) _=_;rw[iQ];show xO _ _ _ (some [.i T,.o false (.d (kds P)),.i (.int (P.length:Int)),.i (.str (bT r)),s4])=_;rw[oZ,j,mV];exact f
theorem Hc(g:ll [] A)(h0:A≠[])(hl:A.length<=24):rQ [.str (Str.join lf (A.map bT))]=some (.l (aZ A)):=by
 have sp:=Hl (ss:=A.map bT) (by simpa using h0) λ s O=>by
  obtain⟨r,q,rfl⟩:=dI.mp O;obtain⟨Q,ok,_⟩:=nk g q;exact(mP ok.rd).2.2.1
 have f:(Txt.split (Str.join lf (A.map bT)) lf).map D.str=A.map λ r=>.str (bT r):=by rw[sp,zu];rfl
 have d:(Str.join lf (A.map bT)).length<=100000:=by
  have:=AN (c:=10) (m:=400) (A.map bT) λ s O=>by
   obtain⟨r,q,rfl⟩:=dI.mp O;obtain⟨Q,ok,_⟩:=nk g q;exact(mP ok.rd).2.2.2
  rw[CW];rw[qz]at this;lia
 have Y:¬(lf.length=0):=aW;generalize Str.join lf (A.map bT)=ρ at*;obtain⟨a,b,c,_,e⟩:=yL (.str ρ) A [] .z .z .z g (by simpa using hl) (λ r h=>by cases h);have e:dh (gT [2,3]) ur (fG 0 (A.map λ r=>.str (bT r))) [.i (.str ρ),.o false (.d []),.z,.z,.z]=some (.nx [.i (.str ρ),.o false (.d (kds A)),a,b,c]):=e;have Z:(kds A).map (·.2)=aZ A:=by rw[zu];rfl
 have lk:(kds A).length<=1000:=by rw[qz];lia
 generalize (A.map λ r=>D.str (bT r))=TS,aZ A=R,kds A=K at*;simp[rQ,Na,Y,d,f,e,lk,Z]
theorem H5:∀(xs ys:aG)(n:Nat),fG n (xs++ys)=fG n xs++fG (n+xs.length) ys
 |[],ys,n=>rfl
 |x::r,ys,n=>by
  show .t [.int n,x]::fG (n+1) (r++ys)=.t [.int n,x]::(fG (n+1) r++fG (n+(r.length+1)) ys);rw[H5 r ys,show n+1+r.length=n+(r.length+1) by lia]
abbrev Tx(s:Str):Prop:=10∉s.cps.toList/\s.length<=500
theorem L_(Y:ts≠[])(h1:ts.length<=30)(h2:∀s∈ts,Tx s):ou [.str (Str.join lf ts)]=aF (aF (h8 (gT [2,3]) jU (fG 0 (ts.map D.str)) [.i (.str (Str.join lf ts)),.o false (.d []),.z,.z,.z]) (rX (rS (bJ (uj (tK 1)))))) w_:=by
 have sp:=Hl Y λ s q=>(h2 s q).1;have a:(Str.join lf ts).length<=100000:=by
  have:=AN (c:=10) (m:=500) ts λ s q=>(h2 s q).2;rw[CW];lia
 have Z:(Txt.split (Str.join lf ts) lf).map D.str=ts.map D.str:=by rw[sp]
 have O:¬(lf.length=0):=aW;generalize Str.join lf ts=ρ,ts.map D.str=TS,hx:h8 (gT [2,3]) jU=GX at*;simp[ou,MV,rO,cD,Bc,Jc,I_,O,a,Z,hx]
theorem cx8(g:ll [] A)(hl:A.length<24)(Z:Tx t)(hu:∀s∈us,Tx s)(ul:A.length+us.length<=28)(er:fH [.str t]=some d)(hd:d=.n\/∃r:Rw,d=r.d/\gi [r.d,d9 A]=some (.b false)):ou [.str (Str.join lf (A.map bT++t::us))]=some (.inr (lW,some (lX,.int A.length))):=by
 have Y:∀s∈A.map bT++t::us,Tx s:=λ s f=>by
  rcases qy f with q|q
  .obtain⟨r,O,rfl⟩:=dI.mp q;obtain⟨Q,ok,_⟩:=nk g O;have:=(mP ok.rd).2.2;exact⟨this.1,by lia⟩
  .rcases qx q with q|q
   .rw[q];exact Z
   .exact hu s q
 have i:=L_ (ts:=A.map bT++t::us) aQ cR Y;have j:∀r∈A,nd r.d=true:=λ r O=>by
  obtain⟨Q,ok,_⟩:=nk g O;exact(B2 ok.rd.pl).2.1
 have hn:iv ((kds A).map (·.2))=true:=Cd λ d hd=>by
  rw[zu]at hd;obtain⟨p,h,rfl⟩:=dI.mp hd;exact j p h
 have k:nu d (kds A)=some false:=by
  rcases hd with rfl|⟨r,rfl,st⟩
  .rfl
  .unfold nu;rw[if_pos (show xC r.d=true from rfl)];show(match gi [r.d,d9 A]with|some (.b b)=>some b|_=>none)=_;rw[st]
 generalize Str.join lf (A.map bT++t::us)=ρ at*;obtain⟨a,b,c,e,_⟩:=yL (.str ρ) A [] .z .z .z g cR (λ r h=>by cases h);have e:∀rest,h8 (gT [2,3]) jU (fG 0 (A.map λ r=>.str (bT r))++rest) [.i (.str ρ),.o false (.d []),.z,.z,.z]=h8 (gT [2,3]) jU rest [.i (.str ρ),.o false (.d (kds A)),a,b,c]:=e;have z:=cy2 (.str ρ) hn (by rw[HD];lia) (n:=A.length) (t:=t) c er k aQ;have l:(A.map bT).map D.str=A.map λ r=>.str (bT r):=by rw[zu];rfl
 rw[i,zx,H5,l,e];have la:0+(A.map λ r=>D.str (bT r)).length=A.length:=aQ;rw[la];show aF (aF (h8 _ _ (.t [.int (A.length:Int),.str t]::fG (A.length+1) (us.map D.str)) _) _) _=_;rw[BG];show aF (aF (aF (some [.i (.str ρ),.o false (.d (kds A)),.i (.int (A.length:Int)),.i (.str t),c]) _) _) _=_;rw[cD,z,cD];rfl
theorem ck9(g:ll [] A)(Z:A≠[])(hl:A.length<=24):∃d,ou [.str (Str.join lf (A.map bT))]=some (.inl d):=by
 have O:=L_ (ts:=A.map bT) (by simpa using Z) cR λ s Y=>by
  obtain⟨r,q,rfl⟩:=dI.mp Y;obtain⟨Q,ok,_⟩:=nk g q;have:=(mP ok.rd).2.2;exact⟨this.1,by lia⟩
 generalize Str.join lf (A.map bT)=ρ at*;obtain⟨a,b,c,e,_⟩:=yL (.str ρ) A [] .z .z .z g cR (λ r h=>by cases h);have e:h8 (gT [2,3]) jU (fG 0 (A.map λ r=>.str (bT r))++[]) [.i (.str ρ),.o false (.d []),.z,.z,.z]=h8 (gT [2,3]) jU [] [.i (.str ρ),.o false (.d (kds A)),a,b,c]:=e [];have f:(A.map bT).map D.str=A.map λ r=>.str (bT r):=by rw[zu];rfl
 have lk:(kds A).length<=1000:=by rw[qz];lia
 rw[yb]at e;rw[O,f,e];have i:h8 (gT [2,3]) jU [] [.i (.str ρ),.o false (.d (kds A)),a,b,c]=some (.ok (.nx [.i (.str ρ),.o false (.d (kds A)),a,b,c])):=rfl;rw[i];generalize kds A=K at*;refine⟨.l (K.map (·.2)),?_⟩;simp[cD,rX,rS,w_,lk];rfl
theorem Mm(h1:ts.length<=30)(h2:∀s∈ts,Tx s):kX [.l (ts.map .str)]=aF (ou [.str (Str.join lf ts)]) B4:=by
 have j:=uL lf ts (by
  have h:∀{l:aP},(∀s∈l,s.length<=500)->(l.map (·.length)).sum<=500*l.length:=λ{l}=>by
   induction l with
   |nil=>intro _;exact yg _
   |cons a r O=>
    intro h;have h1:=h a qg;have h2:=O λ s q=>h s (qh _ q);simp only[zj,Z2,zt];lia
  have:=h λ s q=>(h2 s q).2;have:lf.length=1:=aW;rw[this];lia)
 have e:gQ (cq "\n") (eV 0) [.i (.l (ts.map .str)),.i .n,.z]=some (.str (Str.join lf ts),[.i (.l (ts.map .str)),.i .n,.z]):=by generalize ts.map D.str=T at*;simp[j]
 show aF (gQ (cq "\n") (eV 0) [.i (.l (ts.map .str)),.i .n,.z]) _=_;rw[e,cD]
mutual
theorem Lp:∀d:D,c7 d<=30->bZ d d=true
 |.n,_=>by simp
 |.b _,_=>by simp
 |.int _,_=>by simp
 |.str _,_=>by simp
 |.t l,h=>(Si l l).trans (As l (Nat.le_of_succ_le h))
 |.l l,h=>(Sj l l).trans (As l (Nat.le_of_succ_le h))
 |.opq,h=>absurd h aH
 |.c _ _,h=>absurd h (by show ¬1000<=30;decide)
theorem As:∀l:aG,eQ l<=30->ic l l=true
 |[],_=>by simp
 |d::r,h=>by
  have h:max (c7 d) (eQ r)<=30:=h;have a:=Lp d aD;have b:=As r aD;simp[a,b]
end
theorem L7(h:c7 d<=30):dv d d=some (.b false):=by unfold dv;rw[if_pos ⟨h,h⟩,Lp d h];rfl
theorem sw1(R v:D)(L:aG)(h:jA [.i R,.o false (.l L),.i v]=some z):pO [.i R,.o false (.l L),.i v]=some z/\∃q,z=.nx [.i R,.o false (.l q),.i v]:=by
 simp only[jA]at h;cases v with
 |t xs=>
  by_cases c:L.length+xs.length<1000
  .simp[c]at h;subst h;simp[c]
  .simp[c]at h
 |n=>
  by_cases c:L.length<1000000
  .simp[c,jF]at h;subst h;simp[c]
  .simp[c,jF]at h
 |int n=>
  by_cases b:n.natAbs<10^100
  .by_cases c:L.length<1000000
   .simp[b,c,d3]at h;subst h;simp[b,c]
   .simp[b,c,d3]at h
  .simp[b]at h;exact nomatch (show none=some z from h)
 |str x=>
  by_cases c:L.length<1000000
  .simp[c,d3]at h;subst h;simp[c]
  .simp[c,d3]at h
 |b b=>simp[kO]at h;exact nomatch (show none=some z from h)
 |l l=>simp[kO]at h;exact nomatch (show none=some z from h)
 |opq=>simp[kO]at h;exact nomatch (show none=some z from h)
 |c k l=>simp[kO]at h;exact nomatch (show none=some z from h)
theorem LY(R:D):∀(xs L:aG)(q:Sl){z:jP},dh (gN 2) jA xs [.i R,.o false (.l L),q]=some z->dh (gN 2) pO xs [.i R,.o false (.l L),q]=some z
 |[],_,_,_,h=>h
 |v::r,L,q,z,h=>by
  rw[iQ]at h⊢;have h:oy (gN 2) jA r (jA [.i R,.o false (.l L),.i v])=some z:=h;show oy (gN 2) pO r (pO [.i R,.o false (.l L),.i v])=some z;cases e:jA [.i R,.o false (.l L),.i v]with
  |none=>rw[e]at h;cases h
  |some y=>
   obtain⟨e2,O,rfl⟩:=sw1 R v L e;rw[e,mV]at h;rw[e2,mV];exact LY R r O (.i v) h
theorem QL{r:Rw}(O:r.fr.length<=8){x:D}(h:gj [r.d]=some x):uB [r.d]=some x:=by
 have Z:bA r.d (.int 0)=some (.str r.w):=rfl;have i1:=rE r;have i2:=ue r;have a:=rD r;have hl:(r.fr.map D.str).length<=8:=by rw[qz];exact O
 generalize r.fr.map D.str=q,r.rs=RS,r.d=rd at*;have b:m1 1 (qa (e2 cu (cY (aC (e2 bA (eV 0) (zI 0)) (aC (e2 bA (eV 0) (zI 1)) aN))) (eF n8 (aC (e2 bA (eV 0) (zI 2)) aN)))) [.i rd,.z,.z]=some (.nx [.i rd,.o false (.l ([.str r.w,.str r.nm]++q)),.z]):=by have Y:2+q.length<=sizeLine:=cv (by lia);simp[Z,i1,i2,Y]
 have p2:e2 bA (eV 0) (zI 3) [.i rd,.o false (.l ([.str r.w,.str r.nm]++q)),.z]=some (.t RS,[.i rd,.o false (.l ([.str r.w,.str r.nm]++q)),.z]):=by simp[a]
 have h:cP (x8 [.i rd,.z,.z])=some x:=h;show cP (DW [.i rd,.z,.z])=some x;unfold x8 at h;unfold DW;rw[CD,b]at h⊢;have h:cP (aL (oh (gN 2) (e2 bA (eV 0) (zI 3)) jA) (jT 1 (bJ (gQ lV (eV 1)))) [.i rd,.o false (.l ([.str r.w,.str r.nm]++q)),.z])=some x:=h;show cP (aL (oh (gN 2) (e2 bA (eV 0) (zI 3)) pO) (jT 1 (bJ (gQ lV (eV 1)))) [.i rd,.o false (.l ([.str r.w,.str r.nm]++q)),.z])=some x;rw[CD,VE,p2]at h⊢;have h:cP (tH (jT 1 (bJ (gQ lV (eV 1)))) (dh (gN 2) jA RS [.i rd,.o false (.l ([.str r.w,.str r.nm]++q)),.z]))=some x:=h;show cP (tH (jT 1 (bJ (gQ lV (eV 1)))) (dh (gN 2) pO RS [.i rd,.o false (.l ([.str r.w,.str r.nm]++q)),.z]))=some x;cases e:dh (gN 2) jA RS [.i rd,.o false (.l ([.str r.w,.str r.nm]++q)),.z]with
 |none=>rw[e]at h;cases h
 |some z=>rw[LY _ _ _ _ e];rw[e]at h;exact h
theorem ZO(u:dj A):xP [.l (aZ A)]=some (.str (Str.join lf (A.map bT))):=by
 have c:=oH (F:=eF uB eJ) (fr:=[]) (g:=Rw.d) (v:=λ r=>.str (bT r)) A λ r q=>by
  obtain⟨Q,ok,_⟩:=u.row q;have:=QL ok.frl (mP ok.rd).1;generalize r.d=rd at*;simp[this]
 have la:(aZ A).length<=1000:=by have:=u.len;rw[qz];lia
 have E:=k9 (J:=[.i (.l (aZ A))]) (js:=[]) (i:=0) c rfl rfl la;have Y:(A.map λ r=>D.str (bT r))=(A.map bT).map D.str:=by rw[zu];rfl
 have j:=uL lf (A.map bT) (by
  have h:∀{l:aP},(∀s∈l,s.length<=400)->(l.map (·.length)).sum<=400*l.length:=λ{l}=>by
   induction l with
   |nil=>intro _;exact yg _
   |cons a r Z=>
    intro h;have b:=h a qg;have e:=Z λ s O=>h s (qh _ O);simp only[zj,Z2,zt];lia
  have f:=h (l:=A.map bT) λ s O=>by
   obtain⟨r,q,rfl⟩:=dI.mp O;obtain⟨Q,ok,_⟩:=u.row q;exact(mP ok.rd).2.2.2
  have k:=u.len;have m:(A.map bT).length=A.length:=qz ..;have:lf.length=1:=aW;rw[this];lia)
 rw[Y]at E;generalize (A.map bT).map D.str=T,aZ A=R at*;show cP (DN [.i (.l R)])=_;unfold DN;generalize c4 [] (eV 0) bD (eF uB eJ)=EE at*;simp[E,j]
theorem CU(h:Lw 21 ws):Tx (Str.join bR ws):=by
 have j:=p_ ws λ s q=>(h.w s q).1;have:=h.len;exact⟨EA aH _ λ s q=>(h.w s q).lf,by lia⟩
theorem vT(u:dj A):∀s∈A.map bT,Tx s:=λ s O=>by
 obtain⟨r,q,rfl⟩:=dI.mp O;obtain⟨Q,ok,_⟩:=u.row q;have:=(mP ok.rd).2.2;exact⟨this.1,by lia⟩
theorem step(u:dj A)(hl:A.length<24)(h:Lw 21 ws):(gA [.str (Str.join bR ws),.l (aZ A)]=some (.b false)/\∀us:aP,(∀s∈us,Tx s)->A.length+us.length<=28->kX [.l ((A.map bT++Str.join bR ws::us).map .str)]=some (.int A.length))\/
  (gA [.str (Str.join bR ws),.l (aZ A)]=some (.b true)/\∃r:Rw,bT r=Str.join bR ws/\dj (A++[r])):=by
 have q:∀{d:D},fH [.str (Str.join bR ws)]=some d->(d=.n\/∃r:Rw,d=r.d/\gi [r.d,d9 A]=some (.b false))->∀us:aP,(∀s∈us,Tx s)->A.length+us.length<=28->kX [.l ((A.map bT++Str.join bR ws::us).map .str)]=some (.int A.length):=λ er hd us O Y=>by
  have m:=cx8 u.good hl (CU h) O Y er hd;rw[Mm cR (λ s Z=>?_),m,cD]
  .rfl
  .rcases qy Z with z|z
   .exact vT u s z
   .rcases qx z with z|z
    .rw[z];exact CU h
    .exact O s z
 rcases bI1 (cq9 u.good u.len) h.ne h.w h.len with⟨a,b⟩|⟨r,b,e1,e2,e3,e4,c⟩
 .exact .inl ⟨b,q a (.inl rfl)⟩
 .cases b with
  |false=>exact .inl ⟨e3,q e1 (.inr ⟨r,rfl,e2⟩)⟩
  |true=>
   refine .inr ⟨e3,r,by unfold bT;rw[e4],GJ u.good (c rfl),by rw[zr];show A.length+1<=24;lia⟩
theorem J0(u:dj A)(q:A≠[]):kX [.l ((A.map bT).map .str)]=some (.int (-1)):=by obtain⟨d,e⟩:=ck9 u.good q u.len;rw[Mm (by have:=u.len;simp;lia) (vT u),e,cD];rfl
def Ln(t:Str):Prop:=∃ws,Lw 21 ws/\t=Str.join bR ws
theorem Ln.tx(h:Ln t):Tx t:=by obtain⟨ws,h,rfl⟩:=h;exact CU h
theorem cv2{xs ys:List Str}{t:Str}:cw ((xs++t::ys).map D.str) (xs.length:Int)=some (.str t):=by unfold cw iq;rw[if_pos (by lia),if_pos cR];show((xs++t::ys).map D.str)[xs.length]?=_;simp
theorem VD:eg ((xs++t::ys).map D.str) none (some ((xs.length:Int)+1))=(xs++[t]).map .str:=by have:=Ac ((xs++t::ys).map D.str) (xs.length+1);refine this.trans ?_;rw[<-Yv];congr 1;rw[List.take_append,je aD,show xs.length+1-xs.length=1 by lia];rfl
theorem HF(h1:ts.length<=30)(h2:∀s∈ts,Tx s):o3 lf (ts.map D.str)=some (.str (Str.join lf ts)):=uL lf ts (by
  have h:∀{l:aP},(∀s∈l,s.length<=500)->(l.map (·.length)).sum<=500*l.length:=λ{l}=>by
   induction l with
   |nil=>intro _;exact yg _
   |cons a r O=>
    intro h;have h1:=h a qg;have h2:=O λ s q=>h s (qh _ q);simp only[zj,Z2,zt];lia
  have:=h λ s q=>(h2 s q).2;have:lf.length=1:=aW;rw[this];lia)
theorem KH(h0:ts≠[])(hl:ts.length<=8):∀(us:aP)(A:cX)(O:Sl),ts=A.map bT++us->dj A->(∀t∈us,Ln t)->∃(z:Int)(J:En),kX [.l (ts.map .str)]=some (.int z)/\(dh (gN 2) bB (dz A.length us.length) [.i (.l (ts.map .str)),.i (.l (aZ A)),O]=some (.rt (.int z) J)\/(z=-1/\dh (gN 2) bB (dz A.length us.length) [.i (.l (ts.map .str)),.i (.l (aZ A)),O]=some (.nx J)))
 |[],A,O,e,u,_=>by
  rw[yb]at e;have i:A≠[]:=λ q=>h0 (by rw[e,q];rfl);rw[e];exact⟨-1,_,J0 u i,.inr ⟨rfl,rfl⟩⟩
 |t::q,A,O,e,u,d=>by
  obtain⟨ws,m,rfl⟩:=d t qg;have v:A.length+(q.length+1)<=8:=by have:=y0 List.length e;simp at this;lia
  have la:(A.map bT).length=A.length:=qz ..;have Y:=cv2 (xs:=A.map bT) (ys:=q) (t:=Str.join bR ws);have Z:=VD (xs:=A.map bT) (ys:=q) (t:=Str.join bR ws);rw[la,<-e]at Y Z;have h:gN 2 (.int (A.length:Int)) [.i (.l (ts.map .str)),.i (.l (aZ A)),O]=some [.i (.l (ts.map .str)),.i (.l (aZ A)),.i (.int A.length)]:=rfl;have G:dh (gN 2) bB (dz A.length (Str.join bR ws::q).length) [.i (.l (ts.map .str)),.i (.l (aZ A)),O]=oy (gN 2) bB (dz ((A.length:Int)+1) q.length) (bB [.i (.l (ts.map .str)),.i (.l (aZ A)),.i (.int A.length)]):=by show dh (gN 2) bB (.int (A.length:Int)::dz ((A.length:Int)+1) q.length) _=_;rw[iQ,h,oZ]
  rw[G];rcases step u aD m with⟨n,c⟩|⟨o,r,p,a⟩
  .refine⟨A.length,[.i (.l (ts.map .str)),.i (.l (aZ A)),.i (.int A.length)],?_,.inl ?_⟩
   .rw[e];exact c q (λ s k=>(d s (qh _ k)).tx) aD
   .have b:bB [.i (.l (ts.map .str)),.i (.l (aZ A)),.i (.int A.length)]=some (.rt (.int A.length) [.i (.l (ts.map .str)),.i (.l (aZ A)),.i (.int A.length)]):=by generalize ts.map D.str=T,aZ A=R at*;simp only[bB];simp[Y,n]
    rw[b];rfl
  .have g:(A++[r]).map bT=A.map bT++[Str.join bR ws]:=by rw[zx,Zq,p]
   have w:=Hc a.good aQ a.len;have j:=HF (ts:=(A++[r]).map bT) (by have:=a.len;simp at this⊢;lia) (vT a);rw[<-g]at Z;have b:bB [.i (.l (ts.map .str)),.i (.l (aZ A)),.i (.int A.length)]=some (.nx [.i (.l (ts.map .str)),.i (.l (aZ (A++[r]))),.i (.int A.length)]):=by generalize aZ (A++[r])=R',Str.join lf ((A++[r]).map bT)=ρ,((A++[r]).map bT).map D.str=TT,ts.map D.str=T,aZ A=R at*;simp only[bB];simp[Y,o,Z,j,w]
   rw[b,mV];have f:=KH h0 hl q (A++[r]) (.i (.int A.length)) (by rw[g,Qy];exact e) a λ t l=>d t (qh _ l);rw[zr]at f;exact f
theorem co3(h0:ts≠[])(hl:ts.length<=8)(h:∀t∈ts,Ln t):∃z:Int,kX [.l (ts.map .str)]=some (.int z)/\yD [.l (ts.map .str)]=some (.int z):=by
 obtain⟨z,J,e,f0⟩:=KH h0 hl ts [] .z rfl ⟨trivial,by decide⟩ h;refine⟨z,e,?_⟩;have f:dh (gN 2) bB (dz 0 ts.length) [.i (.l (ts.map .str)),.i (.l []),.z]=some (.rt (.int z) J)\/(z=-1/\dh (gN 2) bB (dz 0 ts.length) [.i (.l (ts.map .str)),.i (.l []),.z]=some (.nx J)):=f0;clear f0;have q:(ts.map D.str).length=ts.length:=qz ..;have O:ts.length<=sizeLine:=cv aD;have Z:-4611686018427387904<=(ts.length:Int):=aD;have Y:(ts.length:Int)<4611686018427387904:=aD;show cP (zM [.i (.l (ts.map .str)),.z,.z])=_;unfold zM;generalize ts.map D.str=T,bB=LL at*;rcases f with f|⟨a,f⟩
 .simp[q,Z,Y,f]
 .simp[q,Z,Y,f,a]
abbrev EL(X:D)(L:aG)(R:aG)(Y O q:Sl):En:=[.i X,.o false (.l L),.i (.l R),Y,.z,.z,O,q,.z]
theorem Xr(B:aP):dv (.l (B.map .str)) (.l (B.map .str))=some (.b false):=L7 (k_ B)
theorem aU1(u:dj A)(hl:A.length<8)(g:eK xs)(ec:kW [X,.int (1+(A.length:Int))]=some (.int c))(ex:pQ [.int c,.int 60]=some (.l (xs.map .int)))(n6:jk s6=true)(n7:jk q=true):(∃J,cn (EL X ((A.map bT).map .str) (aZ A) (.i (.int A.length)) s6 q)=some (.rt (.b true) J))\/
  ∃(r:Rw)(O Y:Sl),dj (A++[r])/\Ln (bT r)/\jk O=true/\jk Y=true/\cn (EL X ((A.map bT).map .str) (aZ A) (.i (.int A.length)) s6 q)=some (.nx (EL X (((A++[r]).map bT).map .str) (aZ (A++[r])) (.i (.int A.length)) O Y)):=by
 obtain⟨ws,Z,l⟩:=cl6 g u aD;have la:((A.map bT).map D.str).length=A.length:=aQ;have t:((A.map bT).map D.str).length<1000000:=aD;rcases step u aD Z with⟨r0,e⟩|⟨r1,r,C,a⟩
 .left;have yy:∀s∈[nJ,nK],Tx s:=aW;have f:=e [] (λ s M=>by cases M) cR;have k:=e [nJ,nK] yy cR;have o:(A.map bT++[Str.join bR ws]).map D.str=(A.map bT).map D.str++[D.str (Str.join bR ws)]:=aQ;have p:(A.map bT++Str.join bR ws::[nJ,nK]).map D.str=((A.map bT).map D.str++[D.str (Str.join bR ws)])++[D.str nJ,D.str nK]:=aQ;rw[o]at f;rw[p]at k;have U:((A.map bT).map D.str++[D.str (Str.join bR ws)]).length=A.length+1:=aQ;have z1:A.length+1<=sizeLine:=cv aD;have z2:A.length+1+2<=sizeLine:=cv aD;clear o p e Z u;simp only[EL];generalize Str.join bR ws=ρ at*;generalize I:(A.map bT).map D.str++[D.str ρ]=T at*;generalize (A.map bT).map D.str=L at*;generalize xs.map D.int=XS at*;generalize aZ A=R at*;generalize A.length=n at*;simp only[cn];simp[ec,ex,l,t,I,r0,f,k,U,z2,n6]
 .right;refine⟨r,.i (.str (Str.join bR ws)),.i (.l (aZ (A++[r]))),a,⟨ws,Z,C⟩,rfl,rfl,?_⟩;have j:=HF (ts:=(A++[r]).map bT) (by have:=a.len;simp at this⊢;lia) (vT a);have w:=Hc a.good aQ a.len;have sh:=ZO a;have V:((A++[r]).map bT).map D.str=(A.map bT).map D.str++[D.str (Str.join bR ws)]:=by rw[zx,Zq,C,zx];rfl
  have nr:=Xr ((A++[r]).map bT);have c:=oH (F:=eF gj eJ) (fr:=[]) (g:=Rw.d) (v:=λ r=>.str (bT r)) (A++[r]) λ r K=>by
   obtain⟨Q,ok,_⟩:=a.row K;have:=(mP ok.rd).1;generalize r.d=rd at*;simp[this]
  have B:((A++[r]).map λ r=>D.str (bT r))=((A++[r]).map bT).map D.str:=by rw[zu];rfl
  rw[B]at c;have x:(aZ (A++[r])).length=A.length+1:=aQ;have P:(((A++[r]).map bT).map D.str).length=A.length+1:=aQ;have z1:A.length+1<=sizeLine:=cv aD;have σ:=k9 (J:=[.i X,.i (.l (((A++[r]).map bT).map D.str)),.i (.l (aZ A)),.i (.int A.length),.z,.z,.i (.str (Str.join bR ws)),.i (.l (aZ (A++[r]))),.z]) (js:=[]) (i:=7) c rfl rfl (by rw[x];lia);simp only[EL];clear c B;generalize Str.join lf ((A++[r]).map bT)=JJ at*;generalize ((A++[r]).map bT).map D.str=T at*;generalize aZ (A++[r])=R' at*;clear a Z u;generalize Str.join bR ws=ρ at*;generalize (A.map bT).map D.str=L at*;generalize xs.map D.int=XS at*;generalize aZ A=R at*;generalize A.length=n at*;have y:∀q:Sl,jk q=true->lx 1 [Sl.i X,.o false (.l T),.i (.l R),.i (.int n),.z,.z,.i (.str ρ),q,.z]=true:=λ q h=>by
   show(true&&(true&&(true&&(true&&(true&&(true&&(true&&(jk q&&(true&&true)))))))))=true;rw[h];rfl
  have m:∀q:Sl,jk q=true→dO 1 zg [Sl.i X,.o false (.l T),.i (.l R),.i (.int n),.z,.z,.i (.str ρ),q,.z]=some (.str JJ,[Sl.i X,.o false (.l T),.i (.l R),.i (.int n),.z,.z,.i (.str ρ),q,.z]):=λ q h=>UJ (ds:=T) rfl (y q h) rfl (by simp[j]) rfl;have G:=m q n7;have E:=m (.i (.l R')) rfl;generalize H:c4 [] (eV 7) bD (eF gj eJ)=EE at*;have N:=UI (i:=1) (T:=c_ (tB (e2 dv Ff (eF cg c5))) (tB (e2 dv EE (eV 1)))) (ds:=T) (b:=false) rfl (y (.i (.l R')) rfl) rfl (by
   show _=some (false,[Sl.i X,.i (.l T),.i (.l R),.i (.int n),.z,.z,.i (.str ρ),.i (.l R'),.z]);have W:∀z:Int,dv (.int z) (.int z)=some (.b false):=λ z=>L7 (by show 0<=30;decide);simp[-pK,x,P,σ,nr,W])
  simp only[cn];rw[H];generalize dO 1 zg=HJ at*;generalize eY 1 (c_ (tB (e2 dv Ff (eF cg c5))) (tB (e2 dv EE (eV 1))))=HT at*;simp[ec,ex,l,t,<-V,r1,G,E,N,w,sh]
theorem Kn{O:eB}(hl:O.length<=63):∀(n:Nat)(A:cX)(s3 q Y:Sl),dj A->(∀t∈A.map bT,Ln t)->A.length+n<=8->jk s3=true->jk q=true->jk Y=true->(∃J,dh (gN 3) cn (dz A.length n) (EL (.l (O.map .int)) ((A.map bT).map .str) (aZ A) s3 q Y)=some (.rt (.b true) J))\/
  ∃(B:cX)(ac Z aa:Sl),dj B/\B.length=A.length+n/\(∀t∈B.map bT,Ln t)/\jk ac=true/\jk Z=true/\jk aa=true/\dh (gN 3) cn (dz A.length n) (EL (.l (O.map .int)) ((A.map bT).map .str) (aZ A) s3 q Y)=some (.nx (EL (.l (O.map .int)) ((B.map bT).map .str) (aZ B) ac Z aa))
 |0,A,s3,q,Y,u,hL,_,o,g,j=>.inr ⟨A,s3,q,Y,u,rfl,hL,o,g,j,rfl⟩
 |n+1,A,s3,q,Y,u,hL,E,o,g,j=>by
  obtain⟨c,d⟩:=BD O (1+A.length) hl;have d:kW [.l (O.map .int),.int (1+(A.length:Int))]=some (.int c):=by rw[show(1+(A.length:Int))=((1+A.length:Nat):Int) by lia];exact d
  obtain⟨xs,f,C,y⟩:=PN c 60 aH;have f:pQ [.int c,.int 60]=some (.l (xs.map .int)):=f;have G:dh (gN 3) cn (dz A.length (n+1)) (EL (.l (O.map .int)) ((A.map bT).map .str) (aZ A) s3 q Y)=oy (gN 3) cn (dz ((A.length:Int)+1) n) (cn (EL (.l (O.map .int)) ((A.map bT).map .str) (aZ A) (.i (.int A.length)) q Y)):=by show dh (gN 3) cn (.int (A.length:Int)::dz ((A.length:Int)+1) n) _=_;have p:gN 3 (.int (A.length:Int)) (EL (.l (O.map .int)) ((A.map bT).map .str) (aZ A) s3 q Y)=some (EL (.l (O.map .int)) ((A.map bT).map .str) (aZ A) (.i (.int A.length)) q Y):=rfl;rw[iQ,p,oZ]
  rw[G];rcases aU1 u aD ⟨C,y⟩ d f g j with⟨J,e⟩|⟨r,Z,aa,x,w,i,k,e⟩
  .exact .inl ⟨J,by rw[e];rfl⟩
  .rw[e,mV];have m:=Kn hl n (A++[r]) (.i (.int A.length)) Z aa x (λ t l=>by
    rw[zx]at l;rcases qy l with z|z
    .exact hL t z
    .rw[dt z];exact w) (by rw[zr];show A.length+1+n<=8;lia) rfl i k
   have la:(A++[r]).length=A.length+1:=aQ;rw[la]at m;rcases m with h|⟨B,a,b,c,s,D,v⟩
   .exact .inl h
   .exact .inr ⟨B,a,b,c,s,by lia,v⟩
theorem lK(O:eB)(hl:O.length<=63):tI [.l (O.map .int)]=some (.b true):=by
 obtain⟨Z,e0⟩:=BD O 0 hl;have e0:kW [.l (O.map .int),.int 0]=some (.int Z):=e0;obtain⟨b,c⟩:=BD O 9 hl;have c:kW [.l (O.map .int),.int 9]=some (.int b):=c;have f0:0<=Z.fmod 8:=yp _ aH;have f1:Z.fmod 8<8:=yw _ aH;obtain⟨n,hn⟩:∃n:Nat,1+Z.fmod 8=(n:Int):=⟨(1+Z.fmod 8).toNat,by lia⟩;have d:-4611686018427387904<=(n:Int):=aD;have f:(n:Int)<4611686018427387904:=aD;have p:=Kn hl n [] .z .z .z ⟨trivial,by decide⟩ (λ t a=>by cases a) (by show 0+n<=8;lia) rfl rfl rfl;rcases p with⟨J,e⟩|⟨B,C,E,F,u,Y,hL,L,y,M,e⟩
 .have e:dh (gN 3) cn (dz 0 n) [.i (.l (O.map .int)),.o false (.l []),.i (.l []),.z,.z,.z,.z,.z,.z]=some (.rt (.b true) J):=e;show cP (t6 [.i (.l (O.map .int)),.z,.z,.z,.z,.z,.z,.z,.z])=_;unfold t6;generalize O.map D.int=X at*;generalize cn=LL at*;simp[e0,hn,d,f,e]
 .have Y:B.length=n:=by simpa using Y
  have e:dh (gN 3) cn (dz 0 n) [.i (.l (O.map .int)),.o false (.l []),.i (.l []),.z,.z,.z,.z,.z,.z]=some (.nx (EL (.l (O.map .int)) ((B.map bT).map .str) (aZ B) C E F)):=e;have v:B≠[]:=λ q=>by rw[q]at Y;simp at Y;lia
  have o:=J0 u v;have m:(B.map bT).length=n:=by simp[Y]
  generalize B.map bT=ts at*;have s:0<=b.fmod (ts.length:Int):=yp _ aD;have ρ:b.fmod (ts.length:Int)<ts.length:=yw _ aD;obtain⟨k,i⟩:=j9 s;have l:k<ts.length:=aD;have r:cw (ts.map D.str) (k:Int)=some (.str ts[k]):=by unfold cw iq;rw[if_pos aD,if_pos cR];show(ts.map D.str)[k]?=_;simp[l]
  have G:=J_ ts k;have H:eg (ts.map D.str) (some ((k:Int)+1)) none=(ts.drop (k+1)).map .str:=Bb ts (k+1);obtain⟨z,g,h⟩:=co3 (ts:=ts.take k++ts.drop (k+1)++[ts[k]]) aQ cR λ t a=>by
   simp only[Yc,Yw]at a;rcases a with(q|q)|q
   .exact hL t (Zg q)
   .exact hL t (Yi q)
   .rw[q];exact hL _ (Jb l)
  have j:(ts.take k++ts.drop (k+1)++[ts[k]]).map D.str=(ts.take k).map D.str++(ts.drop (k+1)).map D.str++[D.str ts[k]]:=aQ;rw[j]at g h;have k1:((ts.take k).map D.str).length+((ts.drop (k+1)).map D.str).length<=sizeLine:=cv cR;have k2:((ts.take k).map D.str).length+((ts.drop (k+1)).map D.str).length+1<=sizeLine:=cv cR;have x:(ts.map D.str).length=n:=by rw[qz];exact m
  have K:n<=sizeLine:=cv aD;have I:fN (n:Int)=true:=ib aD aD;have A:¬(n=0):=aD;rw[m]at i;show cP (t6 [.i (.l (O.map .int)),.z,.z,.z,.z,.z,.z,.z,.z])=_;unfold t6;simp only[EL]at e;generalize D.str ts[k]=tk at*;generalize (ts.take k).map D.str=T1 at*;generalize (ts.drop (k+1)).map D.str=T2 at*;generalize w:T1++T2++[tk]=Q at*;generalize ts.map D.str=T at*;generalize aZ B=R at*;generalize O.map D.int=X at*;generalize cn=LL at*;simp[e0,c,hn,d,f,e,x,A,i,G,H,k1,k2,w,r,o,g,h,y]
open PySem.Spec PyProof.Rows L2
theorem G6{K:Frag}{H:Hp}:∀q:eB,aB K H (q.map D.int) (q.map V.int)
 |[]=>aB.nil_
 |n::r=>aB.cons (fV H n) (G6 r)
inductive cj(K:Frag)(x:Str)(st:Stmt)(f:Addr):Prop
 |mk {od an:jW}{sl:Array (Option Value)}{oc kV dc pm cd ct:Value} (a:nsIn K mainGlobals x=some (some (.ref f))) (l:K.lookup f=some ⟨oc,od,.func (fnOf x x (oP st) (iG st) (b_ st) .none kV dc pm an cd ct),sl⟩) (c:codeIn K cd x=true) (k:keepIn K (.ref f)=true):cj K x st f
inductive oX(K:Frag)(st:Stmt)(f:Addr):Prop
 |mk {od an:jW}{sl:Array (Option Value)}{oc kV dc pm cd ct:Value} (l:K.lookup f=some ⟨oc,od,.func (fnOf "__init__" "NoText.__init__" (oP st) (iG st) (b_ st) .none kV dc pm an cd ct),sl⟩) (c:codeIn K cd "NoText.__init__"=true) (k:keepIn K (.ref f)=true):oX K st f
theorem M_{P:cf->Prop}(h:P [])(us:cf)(l:us.length=0):P us:=by
 cases us with
 |nil=>exact h
 |cons=>cases l
theorem Ef{n:Nat}{P:cf->Prop}(h:∀a us,us.length=n->P (a::us))(us:cf)(l:us.length=n+1):P us:=by
 cases us with
 |nil=>cases l
 |cons a r=>exact h a r (Nat.succ.inj l)
theorem dn{K:Frag}{mg:Str->Option Value}{x:Str}{st:Stmt}{f:Addr}{ps:aP}(N:∀{x v},nsIn K mainGlobals x=some (some v)->mg x=some v)(e:cj K x st f)(h:∀(kV q Y:Value)(Z:jW)(O ct:Value)(us:cf),us.length=ps.length->bindArgs (fnOf x x (oP st) (iG st) (b_ st) .none kV q Y Z O ct) ⟨us,[]⟩=pure (ps.zip us):=by intro _ _ _ _ _ _;(repeat' refine Ef λ _=>?_);exact M_ rfl):Dn K mg x st ps:=by obtain⟨a,l,c,k⟩:=e;have F:=Dq (st:=st) l c k;exact⟨_,_,F,F.binds h,N a⟩
abbrev fW(K:Frag)(n:Str)(v:Value):Prop:=nsIn K mainGlobals n=some (some v)
abbrev gp(K:Frag)(n:Str):Prop:=nsIn K mainGlobals n=some none
abbrev j2(K:Frag)(a:Addr)(x:Array Value)(n)(s):=K.lookup a=some ⟨.type "tuple",none,.seq x n,s⟩
noncomputable abbrev fU(w:World)(k:Str)(a)(v:Str)(b):=DictEntry.mk (PyData.keyHash w.params k) (.str k a) (.str v b)
abbrev ku(K:Frag)(u:Addr)(n:Str):=PySem.W.findIn K (.ref u) n
theorem ph{l:OpenLaw}{w:World}{K:Frag}{h:Heap}{mg:Str→Option Value}(X:K.In h)(G:h.Ns mainGlobals mg)(as:mg "law"=some (.ref fa))(e1:cj K "is_key" Hu f1)(e2:cj K "is_number" DU f2)(e3:cj K "places_of" DR f3)(e4:cj K "fits" Kd f4)(e5:cj K "word_value" M5 f5)(e6:cj K "in_order" Fw f6)(e7:cj K "are_unlike" M9 f7)(e8:cj K "keeps_bounds" DG f8)(e9:cj K "read_row" pU f9)(a1:cj K "bears_bounds" DH f10)(bz:cj K "stands_right" pP f11)(e12:cj K "read_works" xU f12)(b4:cj K "shown_row" DQ f13)(bq:cj K "shown_works" MS f14)(bd:cj K "_law_cell_at" MJ f15)(a5:cj K "_law_digits" DO f16)(bi:cj K "_law_number" M6 f17)(bg:cj K "_law_two" Ex f18)(az:cj K "_law_keys" D5 f19)(ao:cj K "_law_chain" uA f20)(aw:cj K "_law_fold" Fv f21)(bc:cj K "_law_asked" DT f22)(bf:cj K "_law_row" FY f23)(au:cj K "_law_words" DS f24)(b2:cj K "_law_menu" Fs f25)(ay:cj K "_law_line" Ft f26)(bv:cj K "_law_key" FZ f27)(bp:cj K "_law_told" M1 f28)(be:cj K "_law_bounded" DM f29)(bx:cj K "_law_all" F1 f30)(b7:cj K "_law_chained" DL f31)(b0:cj K "_law_folded" M7 f32)(a6:cj K "_law_asks" Eb f33)(ax:cj K "_law_right" pT f34)(b9:cj K "_law_at" uJ f35)(ba:cj K "_law_due" Ey f36)(b1:cj K "law" o_ f37)(y1:fW K "LETTERS" (.str "abcdefghijklmnopqrstuvwxyz" tc1))(y2:fW K "LONGEST" (.int 8 tc2))(q:j2 K ec3 #[.str "in" t30,.str "time" t31,.str "only" t32,.str "but" t33,.str "span" t34,.str "rest" t35,.str "turn" t36,.str "later" t37,.str "put" t38,.str "pour" t39] nec3 slec3)(y3:fW K "CHAINS" (.ref ec3))(ag:j2 K ec4 #[.str "fixed" t40,.str "slide" t41,.str "gaps" t42,.str "ever" t43] nec4 slec4)(y4:fW K "FOLDS" (.ref ec4))(ai:j2 K ec5 #[.str "FROM" t50,.str "LEFT" t51,.str "RIGHT" t52] nec5 slec5)(y5:fW K "FROM_PLACES" (.ref ec5))(Y:j2 K ec6 #[.str "NAME" t60,.str "FROM" t61,.str "LEFT" t62,.str "RIGHT" t63,.str "KEY" t64,.str "OTHER" t65] nec6 slec6)(y6:fW K "KEY_PLACES" (.ref ec6))(O:j2 K ec7 #[.str "LOW" t70,.str "HIGH" t71,.str "END" t72] nec7 slec7)(y7:fW K "BOUND_PLACES" (.ref ec7))(ac:j2 K ec8 #[.str "sum" t80,.str "less" t81,.str "left" t82,.str "right" t83] nec8 slec8)(y8:fW K "HOWS" (.ref ec8))(ak:j2 K ec9 #[.str "count" t90,.str "sum" t91,.str "most" t92,.str "least" t93] nec9 slec9)(y9:fW K "FOLD_WORDS" (.ref ec9))(a8:fW K "FIGURES" (.str "0123456789" tc10))(b8:fW K "MOST_FIGURES" (.int 12 tc11))(bn:fW K "MOST_ROWS" (.int 24 tc12))(cb:fW K "MOST_COUNTED" (.int 50 tc13))(al:K.lookup ed0=some {cls:=.type "dict",data:=.dict #[fU w "in" s0' "NAME LOW HIGH" v0',fU w "time" s1' "NAME FROM BEGIN END" v1',fU w "only" s2' "NAME FROM KEY .." v2',fU w "but" s3' "NAME FROM KEY .." v3',fU w "span" s4' "NAME FROM LOW HIGH" v4',fU w "rest" s5' "NAME FROM M R" v5',fU w "turn" s6' "NAME FROM A B" v6',fU w "later" s7' "NAME FROM C" v7',fU w "put" s8' "NAME FROM KEY OTHER .." v8',fU w "pour" s9' "NAME FROM FROM .." v9',fU w "pair" sa' "NAME LEFT RIGHT REACH HOW" va',fU w "fixed" sb' "NAME FROM WIDTH FOLD" vb',fU w "slide" sc' "NAME FROM WIDTH STEP FOLD" vc',fU w "gaps" sd' "NAME FROM GAP FOLD" vd',fU w "ever" se' "NAME FROM FOLD" ve',fU w "ask" sf' "NAME FROM" vf'] ned0})(aj:(ed0==sysModules)=false)(bj:fW K "FORMS" (.ref ed0))(q0:fW K "NoText" (.ref u0))(q2:fW K "WellError" (.ref u2))(q3:ku K u0 "__init__"=some (some (.ref u3)))(q4:oX K wx u3)(q5:rn K u0 u3=true)(q6:Mb K u0=true)(q7:ku K u0 "__setattr__"=some (some (.builtin "object.__setattr__")))(q8:ku K u0 "at"=some none)(q9:ku K u0 "__getattribute__"=some (some (.builtin "BaseException.__getattribute__")))(ar:ku K u0 "__getattr__"=some none)(b6:ku K u0 "__class__"=some (some (.builtin "object.__class__")))(a2:PySem.W.specialIn K (.builtin "object.__class__") "__get__"=some (some (.builtin "getset_descriptor.__get__")))(a0:PySem.W.takesIn K (.builtin "object.__class__")=some true)(am:PySem.W.mroIn K u0 (.type "object")=some true)(br:PySem.W.mroIn K u0 (.type "BaseException")=some true)(bu:PySem.W.exmOne K (.ref u0) (.ref u2)=some true)(b5:PySem.W.kitOne K (.ref u0) (.ref u0)=some true)(bw:PySem.W.kitOne K (.type "NoneType") (.ref u0)=some false)(z1:gp K "abs")(z2:gp K "len")(z3:gp K "max")(z4:gp K "min")(z6:gp K "all")(z7:gp K "range")(z8:gp K "isinstance")(z9:gp K "int")(a7:gp K "str")(a3:gp K "tuple")(bh:gp K "list")(a4:gp K "sorted")(bb:gp K "set")(bo:gp K "zip")(a9:gp K "enumerate"):∃fd:FuncData,(∀(s:Shared)(v:Value),BindsTo s fd ⟨[v],[]⟩ [("_law_script",v)])∧∀base:Heap,K.In base→base.Ns mainGlobals mg→da l.prog w K mg base i7 6 fa fd ["_law_script"] (r_ K tI):=by
 obtain @⟨H,u,I,ρ,r,p,o,t,Z,y,B,z,A⟩:=b1;have e:=as.symm.trans (mg_of X G y);cases e;obtain⟨F,D,E⟩:=q4;have a:=Dq (st:=wx) F D E;have C:=a.binds (ps:=["self","at"]) λ _ _ _ _ _ _=>Ef λ _=>Ef λ _=>M_ rfl;have M:∀{x},nsIn K mainGlobals x=some none->mg x=none:=mg_none_of X G;have N:∀{x v},nsIn K mainGlobals x=some (some v)->mg x=some v:=mg_of X G;have T:mL w K mg:=⟨M z1,M z2,M z3,M z4,M z6,M z7,M z8,M z9,M a7,M a3,M bh,M a4,M bb,M bo,M a9,⟨_,N y1⟩,⟨_,N y2⟩,⟨_,N y3,(pe q aQ (ei di (ei di (ei di (ei di (ei di (ei di (ei di (ei di (ei di (ei di oY)))))))))))⟩,⟨_,N y4,(pe ag aQ (ei di (ei di (ei di (ei di oY)))))⟩,⟨_,N y5,(pe ai aQ (ei di (ei di (ei di oY))))⟩,⟨_,N y6,(pe Y aQ (ei di (ei di (ei di (ei di (ei di (ei di oY)))))))⟩,⟨_,N y7,(pe O aQ (ei di (ei di (ei di oY))))⟩,⟨_,N y8,(pe ac aQ (ei di (ei di (ei di (ei di oY)))))⟩,⟨_,N y9,(pe ak aQ (ei di (ei di (ei di (ei di oY)))))⟩,⟨_,N a8⟩,⟨_,N b8⟩,⟨_,N bn⟩,⟨_,N cb⟩,⟨_,N bj,_,_,al,aj,(.cons di (.cons di (.cons di (.cons di (.cons di (.cons di (.cons di (.cons di (.cons di (.cons di (.cons di (.cons di (.cons di (.cons di (.cons di (.cons di .nil)))))))))))))))),by decide⟩,⟨u0,u2,u3,_,N q0,N q2,q5,⟨q7,q8,Xm q6⟩,⟨Xl am,q9,ar,b6,a2,a0,am,br⟩,bu,b5,bw,a,C⟩⟩;have F37:=Dq (st:=o_) B z A;refine⟨fnOf "law" "law" (oP o_) (iG o_) (b_ o_) .none r p o u t Z,λ s v=>.of_eq rfl,λ base _ _=>?_⟩;have d:aR l.prog w K mg base 1 _ p9:=iY (dn N e1) Oz T eb;have b:=Ot l.prog base T (dn N e2);have f:=Oj l.prog base T (dn N e3);have j:aR l.prog w K mg base 1 _ Ed:=iY (dn N e6) OC T eb;have k:aR l.prog w K mg base 1 _ pR:=iY (dn N e7) OD T eb;have G10:=y_6 l.prog base T (dn N a1);have G13:=Og l.prog base T (dn N b4);have G15:aR l.prog w K mg base 1 _ kW:=iY (dn N bd) OG T eb;have G16:=N8 l.prog base T (dn N a5);have G17:aR l.prog w K mg base 1 _ g0:=iY (dn N bi) OH T eb;have G19:=OT l.prog base T (dn N az);have G24:=Ol l.prog base T (dn N au);have G25:aR l.prog w K mg base 1 _ uy:=iY (dn N b2) OL T eb;have G27:aR l.prog w K mg base 1 _ mw:=iY (dn N bv) ON T eb;have G28:aR l.prog w K mg base 1 _ jB:=iY (dn N bp) OO T eb;have g:aR l.prog w K mg base 2 _ dM:=iY (dn N e4) OA T (dq d (dq b eb));have i:aR l.prog w K mg base 2 _ kU:=iY (dn N e5) OB T (dq b eb);have m:=y_5 l.prog base T k j (dn N e8);have G11:=y_4 l.prog base T G10 (dn N bz);have G14:aR l.prog w K mg base 2 _ xP:=iY (dn N bq) OF T (dq G13 eb);have G18:=SD l.prog base T G17 (dn N bg);have G21:aR l.prog w K mg base 2 _ uz:=iY (dn N aw) OI T (dq G17 (uM T eb));have G29:=N0 l.prog base T G28 (dn N be);have G30:aR l.prog w K mg base 2 _ fm:=iY (dn N bx) OP T (dq G28 eb);have c:=OR l.prog base T g m f i (dn N e9);have G20:=Oo l.prog base T G17 G19 G18 (dn N ao);have G22:=Oq l.prog base T G18 (dn N bc);have G31:=NY l.prog base T G28 G30 G29 G27 (dn N b7);have G32:aR l.prog w K mg base 3 _ m9:=iY (dn N b0) OQ T (dq G30 eb);have G33:=OU l.prog base T G30 G29 (dn N a6);have G12:=N7 l.prog base T c G11 (dn N e12);have n:=NX l.prog base T c G11 (dn N e12);have G23:aR l.prog w K mg base 4 _ uG:=iY (dn N bf) OJ T (dq G22 (dq G20 (dq G21 (dq G19 (dq G17 (uM T eb))))));have G34:=Om l.prog base T G30 G27 G33 G31 G32 (dn N ax);have G26:aR l.prog w K mg base 5 _ uC:=iY (dn N ay) OM T (dq G25 (dq G23 (dq G24 eb)));have G35:=T7 l.prog base T n (dn N b9);have G36:=SE l.prog base T G34 G12 (dn N ba);exact W4 l.prog base T G34 G12 G35 G15 G16 G36 G26 G24 G14 F37
theorem Eg{l:OpenLaw}{q:Program}{O:aP}{XP:(Str->Option Value)->Heap->Prop}{YP:World->Heap->Prop}{d:DefRec}{K:Params->Frag}(hn:l.most=some 63)(Z:d.params.defaults=[])(hY:∀(w:World)(h:Heap),YP w h->(K w.params).In h)(F:∀(w:World)(mg:Str->Option Value)(fa:Addr)(h:Heap),(K w.params).In h->h.Ns mainGlobals mg->mg d.name=some (.ref fa)->∃fd:FuncData,(∀(s:Shared)(u:Value),BindsTo s fd ⟨[u],[]⟩ [("_law_script",u)])∧∀base:Heap,(K w.params).In base→base.Ns mainGlobals mg→da l.prog w (K w.params) mg base i7 6 fa fd ["_law_script"] (r_ (K w.params) tI)):PySem.W.WalkO q O XP YP l.row.toRowW d [] (λ f vs=>PySem.call f vs):=
 L2.walk_of (n:=63) (k:=6) (x:="_law_script") (CX:=λ _=>i7) (sp:=λ w=>r_ (K w.params) tI) hn aH Z ⟨rfl,by decide,by decide⟩ hY F
  (λ w H a Y hl _ b=>⟨H,[.l (Y.map .int)],.b true,aE.refl _,aB.one (by unfold aU;exact⟨a,_,rfl,b,G6 Y⟩),lK Y hl,λ v eS H' σ r=>by unfold aU at r;exact r⟩) λ _ _ _ _ _ z=>z
end Fx
open PySem PySem.W PyProof.Rows
structure PySem.W.Fast:Prop where
 (tw16931468496419530364 tw14814651379214040321 tw15678928119402652617 tw2048110862786487999 tw17977329539145065236 tw15524644761206999847 tw3169683147937275179 tw6909360986815158295 tw5669764418681475526 tw148941522511468227 tw11517461068229276278 tw4500843143293927184 tw14429457662051964691 tw436460763927683421 tw13794677433076684201 tw8252646179207089329 tw14982715096901736612 tw13689728059606125565 tw10514868089477552784 tw563267473413462944 tw13355402346019167267 tw11844619924262012398 tw13190186262051674109 tw7192970382723175515 tw16828043166611082194 tw9945292806153656105 tw7814502577749806224 tw1321820475675285468 tw1493642646405963965 tw9166067250228900058 tw1975145717411586112 tw4263649519990608160 tw3576268506513789586 tw2886786037313009 tw6927342759095571890 tw12483310236674545360 tw7368989086128745087 tw15987436870021174166 tw2047006394097587787 tw15415701592458896810 tw11544199476873026542 tw9949602278293227 tw1193043309175335980 tw11471999980219730321 tw15277906086811493963 tw1138268160589069487 tw1696574948247902454 tw5000866136834127866 tw8446021194561991660 tw7321459494396120504 tw2207668920815642097 tw9925317672987447018 tw11650600935343766550 tw11720188861866672689 tw17774401699515139482 tw575019866515209768 tw14256131415896122275 tw8444083076010421629 tw9932978351498909977 tw15020546936576936797 tw12430576748065434700 tw1333731482460088933 tw4862735769492185574 tw16207958297662986816 tw14515625748087500541 tw1964130067169383415 tw4871493587823089431 tw11638844603976219933 tw206966968520241423 tw17981476129502158592 tw10408471874922741111 tw522567741096118379 tw7015025447565744263 tw15283901026645409713 tw2288210552300223005 tw6758782904609264230 tw8404607740112718152 tw11067971034759109201 tw9028266622758135796 tw2578294302211570375 tw2898966164343629763 tw10808616655491778808 tw17262187185939651985 tw9428540626709735026 tw17536393684951692792 tw8084060101931908603 tw12888344540121014118 tw12468701149642490173 tw10310755570864105992 tw9830112132930643474 tw2683990885658488747 tw15619956021709083115 tw4372340171829925801 tw18171693477366337383 tw9303489314659879807 tw13817917051524697483 tw8607023042083726144 tw3803033252060564538 tw17107849268685026545 tw276306904306802434 tw7686150781132725383 tw15479494655765468668 tw5763045754687704463 tw3570126101236024981 tw4127387355164272425 tw6135514011813793448 tw1084453007765468137 tw5794646124270385505 tw11686442938181149479 tw4077950357248425957 tw11841611587147831022 tw11657678793089906226 tw7701785353070897416 tw6361375655794657964 tw18011092666469194802 tw1793473382906754850 tw13433271908879170930 tw11458967463485781993 tw17650620551718311524 tw1565257227192323447 tw5472947097011480765 tw5801723014030830595 tw635748499428932076 tw4151935222894074873 tw3634993808685271794 tw2917093542934780619 tw17185235171419652212 tw15694027690041599543 tw14255600688812755864 tw10745265592017370897 tw10214206770131906319 tw9953048367070819372 tw9882041126456942816 tw9819895180669224887 tw8407796718253551984 tw829367526676965976 tw8069309844862163899 tw7370165476183115291 tw7240980828818778611 tw7125667792709089777 tw6352760549840252628 tw5638532834876255984 tw5614018450855600535 tw548370125874854094 tw5230435390711305756 tw518635481907567415 tw4753298444841335774 tw4610065474329870058 tw4391739366943280492 tw4330333070220914088 tw3696106611900022769 tw3448861645285031985 tw3037117463652577352 tw17877315126007643176 tw17302448465496736843 tw17064969881298600121 tw16797077131494010033 tw16460226682659624963 tw16190004059582761188 tw161755749703579376 tw14815052973616403103 tw1467889897300263742 tw134363477061706158 tw13289029260523077514 tw12707377999665112521 tw12417693163260579521 tw11287839477465509184 tw1090700409940269296 tw10614475016248384911 tw1038648061566573080 tw11311357385831276875 tw6963296958883063868 tw8320168300754650132 tw7807216034462148498 tw5629500918645208077 tw4284730260146080972 tw12790589494515278598 tw9022051816259530314 tw5193023662711981180 tw9137498547763605669 tw3983793456987751646 tw10520421296197551684 tw13911628341472527988 tw9359886984969126157 tw17538259258410046390 tw930976796384593214 tw11251401866015027065 tw3432854118428403604 tw11366662536166008968 tw10477695500437783774 tw9839578450250156571 tw9793967439665080111 tw977995365490076707 tw9023836831957221939 tw9010072031279343615 tw8090684768197778882 tw8061717903305770599 tw8006313877369917408 tw7485062944035243346 tw6775918059665069913 tw6771258099688946277 tw6754982887289809347 tw6749620652571906275 tw6616871393953887556 tw6539567530830019730 tw5928357029727904458 tw5822063433069004355 tw5528744713276496153 tw5476129148635308745 tw5256754964208285526 tw5251525269291126096 tw5206897228077987014 tw4968203848841471897 tw4869905235848221056 tw4543593901191426134 tw3364973306002975232 tw3264682232518259263 tw3240198636158855431 tw3155360444969089518 tw2393064749943384271:True)
set_option maxRecDepth 100000 in
set_option maxHeartbeats 0 in
theorem PySem.Challenge.cw_latewell_k26_whole_any_rows_holds : PySem.Challenge.rw_latewell_k26_whole_any_rows.Holds := by
 w_on;o_law;k_head;(case hw=>w_witness2)
 k_fill
 refine Fx.Eg (l:=PySem.Challenge.rw_latewell_k26_whole_any_rows) rfl rfl (λ w h Y=>PySem.W.kIn_of Y) ?F
 case F=>
  intro w mg fa h KX G hmg;refine' Fx.ph KX G hmg ?e1 ?e2 ?e3 ?e4 ?e5 ?e6 ?e7 ?e8 ?e9 ?e10 ?e11 ?e12 ?e13 ?e14 ?e15 ?e16 ?e17 ?e18 ?e19 ?e20 ?e21 ?e22 ?e23 ?e24 ?e25 ?e26 ?e27 ?e28 ?e29 ?e30 ?e31 ?e32 ?e33 ?e34 ?e35 ?e36 ?e37 ?y1 ?y2 ?lec3 ?y3 ?lec4 ?y4 ?lec5 ?y5 ?lec6 ?y6 ?lec7 ?y7 ?lec8 ?y8 ?lec9 ?y9 ?y10 ?y11 ?y12 ?y13 ?led0 ?ysd0 ?yd0 ?q0 ?q2 ?q3 ?q4 ?q5 ?q6 ?q7 ?q8 ?q9 ?q10 ?q11 ?q12 ?q13 ?q14 ?q15 ?q16 ?q17 ?q18 ?z1 ?z2 ?z3 ?z4 ?z6 ?z7 ?z8 ?z9 ?z11 ?z12 ?z13 ?z14 ?z16 ?z18 ?z19
  all_goals try (refine' Fx.cj.mk ?a ?l ?c ?k;(case a=>(try delta Fx.fW Fx.gp Fx.j2 Fx.fU Fx.ku);k_is);(case l=>(try delta Fx.fW Fx.gp Fx.j2 Fx.fU Fx.ku);k_is);(case c=>k_is);(case k=>k_is))
  (case y1|y2|y3|y4|y5|y6|y7|y8|y9|y10|y11|y12|y13|lec3|lec4|lec5|lec6|lec7|lec8|lec9|yd0=>(try delta Fx.fW Fx.gp Fx.j2 Fx.fU Fx.ku);k_is)
  (case ysd0=>rfl)
  (case led0|q0|q2|q3=>(try delta Fx.fW Fx.gp Fx.j2 Fx.fU Fx.ku);k_is)
  (case q4=>refine' Fx.oX.mk ?l ?c ?k;(case l=>(try delta Fx.fW Fx.gp Fx.j2 Fx.fU Fx.ku);k_is);(case c=>k_is);(case k=>k_is))
  (case q5=>kernel_rfl)
  (case q6=>kernel_rfl)
  (case q7|q8|q9|q10|q11|q12|q13|q14|q15=>(try delta Fx.fW Fx.gp Fx.j2 Fx.fU Fx.ku);k_is)
  (case q16=>kts_exm)
  (case q17=>kit_is)
  (case q18=>kit_is)
  (case z1|z2|z3|z4|z6|z7|z8|z9|z11|z12|z13|z14|z16|z18|z19=>(try delta Fx.fW Fx.gp Fx.j2 Fx.fU Fx.ku);k_is)
