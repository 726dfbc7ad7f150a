import PyProof.Rows.All
import Wide.All
import OpenK.AllK
import Wide.FinOn
import Lean
import PyProof.EqAt
import PyProof.EqKinds
import PyProof.TupleCall
import PySem.Sem
import PySem.Builtin.Int.W1All
import PyProof.StrBlockI
import PyProof.Rows.SortStr
import PyProof.TupleOfSeq
import PyProof.AttrMissHeap
import PyProof.TupleIter
import PyProof.DictUpdate
import PyProof.ListNew
import KE.KDictOf
import KE.KSortTup
import PyProof.Rows.SumAny
import PySem.Challenge.RW_latewell_k35_sessions
set_option Elab.async false
set_option linter.all false
set_option maxRecDepth 100000
namespace L2
open PySem PySem.Spec PyProof.Rows
abbrev Key := Sum Int Str
def keyIs : Key → Value → Bool
  | .inl k, v => Value.isInt k v
  | .inr x, v => Value.isStrOf x v
def keyH (w : World) : Key → Int
  | .inl k => hashInt k
  | .inr x => hashStr w x
theorem keyIs_shape : ∀ {k : Key} {v : Value}, keyIs k v = true → (∃ i t, k = Sum.inl i ∧ v = Value.int i t) ∨ (∃ x t, k = Sum.inr x ∧ v = Value.str x t)
  | .inl i, v, h => by
    obtain ⟨t, e⟩ := Value.isInt_shape (k := i) (v := v) h
    exact .inl ⟨i, t, rfl, e⟩
  | .inr x, v, h => by
    obtain ⟨t, e⟩ := Value.isStrOf_shape (x := x) (v := v) h
    exact .inr ⟨x, t, rfl, e⟩
theorem keyIs_int (i : Int) (t : Tok) : keyIs (.inl i) (.int i t) = true := by simp [keyIs, Value.isInt]
theorem keyIs_str (x : Str) (t : Tok) : keyIs (.inr x) (.str x t) = true := by simp [keyIs, Value.isStrOf]
theorem key_ll (a b : Int) : decide ((Sum.inl a : Key) = Sum.inl b) = (a == b) := by
  by_cases e : a = b
  · subst e; simp
  · have h : ¬ (Sum.inl a : Key) = Sum.inl b := fun q => e (Sum.inl.inj q)
    rw [decide_eq_false h]
    exact (beq_eq_false_iff_ne.mpr e).symm
theorem key_rr (a b : Str) : decide ((Sum.inr a : Key) = Sum.inr b) = decide (a = b) := by
  by_cases e : a = b
  · subst e; simp
  · have h : ¬ (Sum.inr a : Key) = Sum.inr b := fun q => e (Sum.inr.inj q)
    rw [decide_eq_false h, decide_eq_false e]
theorem key_lr (a : Int) (b : Str) : decide ((Sum.inl a : Key) = Sum.inr b) = false := decide_eq_false (fun q => nomatch q)
theorem key_rl (a : Str) (b : Int) : decide ((Sum.inr a : Key) = Sum.inl b) = false := decide_eq_false (fun q => nomatch q)
def mixKind (prog : Program) (w : World) : PySem.KeyKind prog w Key where
  is := keyIs
  hash := keyH w
  inj := fun v a b ha hb => by
    rcases keyIs_shape ha with ⟨i, t, rfl, rfl⟩ | ⟨x, t, rfl, rfl⟩
    · rcases keyIs_shape hb with ⟨j, u, rfl, e⟩ | ⟨y, u, rfl, e⟩
      · injection e with e1 _; rw [e1]
      · exact nomatch e
    · rcases keyIs_shape hb with ⟨j, u, rfl, e⟩ | ⟨y, u, rfl, e⟩
      · exact nomatch e
      · injection e with e1 _; rw [e1]
  byValue := fun k v h => by
    rcases keyIs_shape h with ⟨i, t, rfl, rfl⟩ | ⟨x, t, rfl, rfl⟩ <;> rfl
  pyHash := fun hv h => by
    rcases keyIs_shape hv with ⟨i, t, rfl, rfl⟩ | ⟨x, t, rfl, rfl⟩
    · exact wpAny_pyHash_int h
    · exact wpAny_pyHash_str h
  eqBool := fun hu hv h => by
    rcases keyIs_shape hu with ⟨i, t, rfl, rfl⟩ | ⟨x, t, rfl, rfl⟩
    · rcases keyIs_shape hv with ⟨j, u, rfl, rfl⟩ | ⟨y, u, rfl, rfl⟩
      · rw [key_ll] at h; exact wpAny_eqBool_int h
      · rw [key_lr] at h; exact SeqAt.EqAt.int_str i t y u _ _ _ _ h
    · rcases keyIs_shape hv with ⟨j, u, rfl, rfl⟩ | ⟨y, u, rfl, rfl⟩
      · rw [key_rl] at h; exact SeqAt.EqAt.str_int x t j u _ _ _ _ h
      · rw [key_rr] at h; exact wpAny_eqBool_str h
  «strs» := fun k x t v h => by
    rcases keyIs_shape h with ⟨i, u, rfl, e⟩ | ⟨y, u, rfl, e⟩
    · exact nomatch e
    · injection e with e1 _
      subst e1
      cases v <;> rfl
theorem mixKind_int (prog : Program) (w : World) (i : Int) (t : Tok) : (mixKind prog w).is (.inl i) (.int i t) = true := keyIs_int i t
theorem mixKind_str (prog : Program) (w : World) (x : Str) (t : Tok) : (mixKind prog w).is (.inr x) (.str x t) = true := keyIs_str x t
end L2
namespace L2
open PySem PySem.Spec PyProof.Rows
inductive V where
  | non | bl (b : Bool) | int (i : Int) | str (x : Str) | byt (b : Array UInt8) | flt (b : UInt64) | ref (a : Addr) | ty (n : String)
  deriving DecidableEq
def RelV : V → Value → Prop
  | .non, u => u = Value.none
  | .bl b, u => u = Value.bool b
  | .int i, u => ∃ t, u = Value.int i t
  | .str x, u => ∃ t, u = Value.str x t
  | .byt b, u => ∃ t, u = Value.bytes b t
  | .flt b, u => ∃ t, u = Value.float b t
  | .ref a, u => u = Value.ref a
  | .ty n, u => u = Value.type n
abbrev Vals : List V → List Value → Prop := Paired RelV
theorem Vals.length {xs : List V} {us : List Value} (r : Vals xs us) : xs.length = us.length := Paired.length r
theorem Vals.get : ∀ {xs : List V} {us : List Value} {i : Nat} {x : V}, Vals xs us → xs[i]? = some x → ∃ u, us[i]? = some u ∧ RelV x u
  | _, _, _, _, .nil, e => by simp at e
  | _, _, 0, _, .cons r _, e => by simp at e; subst e; exact ⟨_, rfl, r⟩
  | _, _, i + 1, x, .cons _ t, e => by
    obtain ⟨u, h1, h2⟩ := Vals.get (i := i) (x := x) t (by simpa using e)
    exact ⟨u, by simpa using h1, h2⟩
theorem Vals.set {x : V} {u : Value} (r : RelV x u) : ∀ {xs : List V} {us : List Value} (i : Nat), Vals xs us → Vals (xs.set i x) (us.set i u)
  | _, _, _, .nil => .nil
  | _, _, 0, .cons _ t => .cons r t
  | _, _, i + 1, .cons q t => .cons q (Vals.set r i t)
theorem Vals.append : ∀ {xs ys : List V} {us ws : List Value}, Vals xs us → Vals ys ws → Vals (xs ++ ys) (us ++ ws)
  | _, _, _, _, .nil, s => s
  | _, _, _, _, .cons r t, s => .cons r (Vals.append t s)
theorem Vals.take : ∀ {xs : List V} {us : List Value} (n : Nat), Vals xs us → Vals (xs.take n) (us.take n)
  | _, _, 0, _ => .nil
  | _, _, _ + 1, .nil => .nil
  | _, _, n + 1, .cons r t => .cons r (Vals.take n t)
theorem Vals.drop : ∀ {xs : List V} {us : List Value} (n : Nat), Vals xs us → Vals (xs.drop n) (us.drop n)
  | _, _, 0, r => r
  | _, _, _ + 1, .nil => .nil
  | _, _, n + 1, .cons _ t => Vals.drop n t
def RelO : Option V → Option Value → Prop
  | some v, some u => RelV v u
  | none, none => True
  | _, _ => False
def KV {κ : Type} : List (κ × V) → List (κ × Value) → Prop := Paired fun (p : κ × V) (q : κ × Value) => p.1 = q.1 ∧ RelV p.2 q.2
def kV : Key → V
  | .inl i => .int i
  | .inr x => .str x
inductive HO where
  | lst (xs : List V)
  | tup (xs : List V)
  | dK (kvs : List (Key × V)) | dT (kvs : List (List Key × V))
  | set (S : Int → Bool) (n : Nat)
  | ins (C dx : Addr) (fs : List (Str × V))
  | own (x : Addr)
  | xd (fs : List (Str × V))
  | met (f x : Addr)
  | rng (lo hi : Int)
  | frz (o : Obj) (u : HO)
  | tbl (ps : Array Value)
  | ext (φ : Heap → Prop)
abbrev Hp := Addr → Option HO
def upd (H : Hp) (a : Addr) (o : HO) : Hp := fun b => if b = a then some o else H b
theorem upd_same {H : Hp} {a : Addr} {o : HO} : upd H a o a = some o := by unfold upd; rw [if_pos rfl]
theorem upd_ne {H : Hp} {a b : Addr} {o : HO} (h : b ≠ a) : upd H a o b = H b := by unfold upd; rw [if_neg h]
theorem ne_of {H : Hp} {a b : Addr} {o u : HO} (h : H a = some o) (h' : H b = some u) (d : o ≠ u) : a ≠ b := by
  intro e; subst e; rw [h] at h'; exact d (Option.some.inj h')
theorem ne_of_none {H : Hp} {a b : Addr} {o : HO} (h : H a = some o) (h' : H b = none) : a ≠ b := by
  intro e; subst e; rw [h] at h'; cases h'
def IsTuN (h : Heap) (a : Addr) (items : Array Value) : Prop := ∃ o, h.get? a = some o ∧ o.cls = .type "tuple" ∧ (∃ n, o.data = .seq items n) ∧ o.dict = none
theorem IsTuN.tup {h : Heap} {a : Addr} {items : Array Value} (x : IsTuN h a items) : IsTup h a items := let ⟨o, p, q, ⟨n, r⟩, _⟩ := x; ⟨o, p, q, n, r⟩
theorem IsTuN.new (h : Heap) (items : Array Value) : IsTuN (h.push { cls := .type "tuple", data := .seq items }) h.objs.size items := ⟨_, Heap.get?_push_size _ rfl, rfl, ⟨0, rfl⟩, rfl⟩
section
variable (P : Program) (w : World)
def ObjOk (H : Hp) (h : Heap) (a : Addr) : HO → Prop
  | .lst xs => xs.length ≤ sizeLine ∧ ∃ (its : List Value) (n : Nat), Vals xs its ∧ h.get? a = some { cls := .type "list", data := .seq its.toArray n }
  | .tup xs => xs.length ≤ sizeLine ∧ ∃ its : List Value, Vals xs its ∧ IsTuN h a its.toArray
  | .dK kvs => kvs.length ≤ sizeLine ∧ (a == sysModules) = false ∧ ∃ vs, KV kvs vs ∧ h.DictOf (mixKind P w) a vs
  | .dT kvs => kvs.length ≤ sizeLine ∧ (a == sysModules) = false ∧ ∃ xs : List (List Key × Addr × Value),
      Paired (fun (p : List Key × V) (q : List Key × Addr × Value) => p.1 = q.1 ∧ H q.2.1 = some (.tup (p.1.map kV)) ∧ RelV p.2 q.2.2) kvs xs ∧
      ∃ o es ep, h.get? a = some o ∧ o.ExactDict ∧ o.data = .dict es ep ∧ es.toList = xs.map (entryOfKey (tupleKind (mixKind P w))) ∧ (xs.map (·.1)).Nodup
  | .set S n => h.SetOf (intKind P w) a S n
  | .ins C dx fs => H dx = some (.own a) ∧ fs.length ≤ 1000 ∧ dx ≠ a ∧ h.get? a = some (PySem.W.instObj C dx) ∧
      ∃ mA, h.Ns1 dx mA ∧ (∀ f, RelO (fs.lookup f) (mA f)) ∧ PySem.Within mA (fs.map (·.1))
  | .own _ => ∃ o, h.get? a = some o
  | .xd fs => ∃ mA, h.Ns1 a mA ∧ ∀ f, RelO (fs.lookup f) (mA f)
  | .rng lo hi => ∃ t u v, h.get? a = some { cls := .type "range", data := .fields #[.int lo t, .int hi u, .int 1 v] }
  | .frz o u => h.get? a = some o ∧ ObjOk H h a u
  | .tbl ps => h.get? a = some { cls := .none, data := .fields ps }
  | .met f x => h.get? a = some (PySem.W.methodObj (.ref f) (.ref x))
  | .ext φ => φ h ∧ (∃ o, h.get? a = some o) ∧ ∀ h1 h2 : Heap, φ h1 → (∀ o, h1.get? a = some o → h2.get? a = some o) → φ h2
def HOk (H : Hp) (h : Heap) : Prop := ∀ a o, H a = some o → ObjOk P w H h a o
end
section
variable {P : Program} {w : World} {H H' : Hp} {h h' : Heap} {a : Addr} {o : HO}
theorem ObjOk.lt (x : ObjOk P w H h a o) : a < h.objs.size := by
  cases o with
  | lst xs => obtain ⟨_, _, _, _, e⟩ := x; exact Heap.lt_size e
  | tup xs => obtain ⟨_, _, _, p⟩ := x; exact p.tup.lt
  | dK kvs => obtain ⟨_, _, _, _, o, _, _, e, _⟩ := x; exact Heap.lt_size e
  | dT kvs => obtain ⟨_, _, _, _, o, _, _, e, _⟩ := x; exact Heap.lt_size e
  | set S n => obtain ⟨o, _, _, _, e, _⟩ := x; exact Heap.lt_size e
  | ins C dx fs => obtain ⟨_, _, _, e, _⟩ := x; exact Heap.lt_size e
  | own y => obtain ⟨_, e⟩ := x; exact Heap.lt_size e
  | xd fs => obtain ⟨_, ⟨_, _, _, e, _⟩, _⟩ := x; exact Heap.lt_size e
  | rng lo hi => obtain ⟨_, _, _, e⟩ := x; exact Heap.lt_size e
  | frz ob u => obtain ⟨e, _⟩ := x; exact Heap.lt_size e
  | tbl ps => exact Heap.lt_size (show h.get? a = some _ from x)
  | met f y => exact Heap.lt_size (show h.get? a = some _ from x)
  | ext φ => obtain ⟨_, ⟨_, e⟩, _⟩ := x; exact Heap.lt_size e
theorem Paired.mapP {α β : Type} {F G : α → β → Prop} : ∀ {l₁ : List α} {l₂ : List β}, Paired F l₁ l₂ → (∀ a b, F a b → G a b) → Paired G l₁ l₂
  | _, _, .nil, _ => .nil
  | _, _, .cons r t, f => .cons (f _ _ r) (Paired.mapP t f)
theorem ObjOk.stay (x : ObjOk P w H h a o) (k : ∀ b u, (b = a ∨ H b = some (.own a)) → h.get? b = some u → h'.get? b = some u)
    (ho : ∀ b, H b = some (.own a) → H' b = some (.own a)) (ht : ∀ b xs, H b = some (.tup xs) → H' b = some (.tup xs)) : ObjOk P w H' h' a o := by
  induction o with
  | lst xs => obtain ⟨z, its, n, r, e⟩ := x; exact ⟨z, its, n, r, k _ _ (.inl rfl) e⟩
  | tup xs => obtain ⟨z, its, r, ob, e, c⟩ := x; exact ⟨z, its, r, ob, k _ _ (.inl rfl) e, c⟩
  | dK kvs => obtain ⟨z, y, vs, r, ob, es, ep, e, c⟩ := x; exact ⟨z, y, vs, r, ob, es, ep, k _ _ (.inl rfl) e, c⟩
  | dT kvs =>
    obtain ⟨z, y, xs, r, ob, es, ep, e, c⟩ := x
    exact ⟨z, y, xs, Paired.mapP r fun p q z => ⟨z.1, ht _ _ z.2.1, z.2.2⟩, ob, es, ep, k _ _ (.inl rfl) e, c⟩
  | set S n => obtain ⟨ob, es, ep, t, e, c⟩ := x; exact ⟨ob, es, ep, t, k _ _ (.inl rfl) e, c⟩
  | ins C dx fs =>
    obtain ⟨d, z, ne, e, mA, ⟨od, es, ep, e2, c⟩, r⟩ := x
    exact ⟨ho _ d, z, ne, k _ _ (.inl rfl) e, mA, ⟨od, es, ep, k _ _ (.inr d) e2, c⟩, r⟩
  | own y => obtain ⟨ob, e⟩ := x; exact ⟨ob, k _ _ (.inl rfl) e⟩
  | xd fs => obtain ⟨mA, ⟨od, es, ep, e, c⟩, r⟩ := x; exact ⟨mA, ⟨od, es, ep, k _ _ (.inl rfl) e, c⟩, r⟩
  | rng lo hi => obtain ⟨t, u, v, e⟩ := x; exact ⟨t, u, v, k _ _ (.inl rfl) e⟩
  | frz ob u ih => obtain ⟨e, q⟩ := x; exact ⟨k _ _ (.inl rfl) e, ih q⟩
  | tbl ps =>
    have e : h.get? a = some { cls := .none, data := .fields ps } := x
    show h'.get? a = some { cls := .none, data := .fields ps }
    exact k a _ (.inl rfl) e
  | met f y =>
    have e : h.get? a = some (PySem.W.methodObj (.ref f) (.ref y)) := x
    show h'.get? a = some (PySem.W.methodObj (.ref f) (.ref y))
    exact k a _ (.inl rfl) e
  | ext φ => obtain ⟨p, ⟨o, e⟩, st⟩ := x; exact ⟨st _ _ p fun o q => k _ _ (.inl rfl) q, ⟨o, k _ _ (.inl rfl) e⟩, st⟩
theorem HOk.lt (x : HOk P w H h) (e : H a = some o) : a < h.objs.size := (x a o e).lt
theorem HOk.fresh (x : HOk P w H h) (e : h.objs.size ≤ a) : H a = none := by
  cases q : H a with
  | none => rfl
  | some u => exact absurd (Nat.lt_of_lt_of_le (x.lt q) e) (Nat.lt_irrefl _)
theorem HOk.kept (x : HOk P w H h) (k : ∀ b u, h.get? b = some u → h'.get? b = some u) : HOk P w H h' := fun a o e =>
  (x a o e).stay (fun b u _ q => k b u q) (fun _ q => q) fun _ _ q => q
theorem HOk.laid (x : HOk P w H h) (k : ∀ b u, h.get? b = some u → h'.get? b = some u) (hp : h.objs.size ≤ a) (new : ObjOk P w (upd H a o) h' a o) : HOk P w (upd H a o) h' := fun b u e => by
  have hn := x.fresh hp
  by_cases hb : b = a
  · subst hb; rw [upd_same] at e; cases e; exact new
  · rw [upd_ne hb] at e
    exact (x b u e).stay (fun c v _ q => k c v q) (fun c q => by rw [upd_ne (ne_of_none q hn)]; exact q) fun c xs q => by rw [upd_ne (ne_of_none q hn)]; exact q
end
def Rd (H : Hp) (a : Addr) (u : HO) : Prop := H a = some u ∨ ∃ o, H a = some (.frz o u)
theorem Rd.of {H : Hp} {a : Addr} {u : HO} (h : H a = some u) : Rd H a u := .inl h
theorem Rd.ok {P : Program} {w : World} {H : Hp} {h : Heap} {a : Addr} {u : HO} (r : Rd H a u) (x : HOk P w H h) : ObjOk P w H h a u := by
  rcases r with r | ⟨o, r⟩
  · exact x a u r
  · obtain ⟨_, q⟩ := x a _ r
    exact q
def Mut : Option HO → Prop
  | some (.lst _) => True
  | some (.dK _) => True
  | some (.dT _) => True
  | some (.set _ _) => True
  | some (.ins _ _ _) => True
  | some (.ext _) => True
  | _ => False
section
variable {P : Program} {w : World} {H : Hp} {h h' : Heap} {x e : Addr} {o' : HO}
theorem HOk.write (ok : HOk P w H h) (mu : Mut (H x)) (he : e = x ∨ H e = some (.own x)) (k : ∀ b u, b ≠ e → h.get? b = some u → h'.get? b = some u) (heo : ∃ u, h'.get? e = some u)
    (new : ObjOk P w (upd H x o') h' x o') : HOk P w (upd H x o') h' := fun b u q => by
  have nown : ∀ c y, H c = some (.own y) → c ≠ x := fun c y r z => by subst z; rw [r] at mu; exact mu
  have ntup : ∀ c xs, H c = some (.tup xs) → c ≠ x := fun c xs r z => by subst z; rw [r] at mu; exact mu
  by_cases hb : b = x
  · subst hb; rw [upd_same] at q; cases q; exact new
  · rw [upd_ne hb] at q
    by_cases hbe : b = e
    · have q' : H b = some (.own x) := by
        rcases he with z | z
        · exact absurd (hbe.trans z) hb
        · rw [hbe]; exact z
      rw [q] at q'; cases q'
      obtain ⟨v, hv⟩ := heo
      exact ⟨v, by rw [hbe]; exact hv⟩
    · refine (ok b u q).stay (fun c v hc r => k c v ?_ r) (fun c r => by rw [upd_ne (nown c b r)]; exact r) fun c xs r => by rw [upd_ne (ntup c xs r)]; exact r
      rcases hc with rfl | hc
      · exact hbe
      · rintro rfl
        rcases he with z | z
        · exact nown c b hc z
        · rw [hc] at z; cases z; exact hb rfl
end
structure Un (fs ex : List Addr) (H H' : Hp) (h h' : Heap) : Prop where
  keep : ∀ b o, h.get? b = some o → H b = none → b ∉ fs → b ∉ ex → h'.get? b = some o
  slot : ∀ b o, h.get? b = some o → H b = none → b ∈ fs → b ∉ ex → ∃ sl, h'.get? b = some { o with slots := sl }
  free : ∀ b o, h.get? b = some o → H b = none → b ∉ ex → H' b = none
  there : ∀ b o, h.get? b = some o → b ∉ ex → ∃ o', h'.get? b = some o'
  tups : ∀ b xs, H b = some (.tup xs) → H' b = some (.tup xs)
  frzs : ∀ b o u, H b = some (.frz o u) → H' b = some (.frz o u)
  tbls : ∀ b ps, H b = some (.tbl ps) → ∃ more, H' b = some (.tbl (ps ++ more))
section
variable {fs fs' ex ex' : List Addr} {H H1 H2 : Hp} {h h1 h2 h' : Heap} {a x e : Addr} {o : HO}
theorem Un.any (u : Un fs ex H H1 h h1) {b : Addr} {ob : Obj} (q : h.get? b = some ob) (n : H b = none) (hx : b ∉ ex) : ∃ sl, h1.get? b = some { ob with slots := sl } := by
  by_cases hb : b ∈ fs
  · exact u.slot b ob q n hb hx
  · exact ⟨ob.slots, u.keep b ob q n hb hx⟩
theorem Un.trans (a : Un fs ex H H1 h h1) (b : Un fs ex H1 H2 h1 h2) : Un fs ex H H2 h h2 where
  keep := fun c ob q n hc hx => b.keep c ob (a.keep c ob q n hc hx) (a.free c ob q n hx) hc hx
  slot := fun c ob q n hc hx => by
    obtain ⟨sl, e1⟩ := a.slot c ob q n hc hx
    obtain ⟨sl', e2⟩ := b.slot c _ e1 (a.free c ob q n hx) hc hx
    exact ⟨sl', e2⟩
  free := fun c ob q n hx => by
    obtain ⟨o', e1⟩ := a.there c ob q hx
    exact b.free c o' e1 (a.free c ob q n hx) hx
  there := fun c ob q hx => by
    obtain ⟨o', e1⟩ := a.there c ob q hx
    exact b.there c o' e1 hx
  tups := fun c xs q => b.tups c xs (a.tups c xs q)
  frzs := fun c ob xs q => b.frzs c ob xs (a.frzs c ob xs q)
  tbls := fun c ps q => by
    obtain ⟨m1, e1⟩ := a.tbls c ps q
    obtain ⟨m2, e2⟩ := b.tbls c _ e1
    exact ⟨m1 ++ m2, by rw [e2, Array.append_assoc]⟩
theorem Un.kept (k : ∀ b u, h.get? b = some u → h'.get? b = some u) : Un fs ex H H h h' :=
  ⟨fun b ob q _ _ _ => k b ob q, fun b ob q _ _ _ => ⟨ob.slots, k b ob q⟩, fun _ _ _ n _ => n, fun b ob q _ => ⟨ob, k b ob q⟩, fun _ _ q => q, fun _ _ _ q => q, fun _ ps q => ⟨#[], by rw [q]; simp⟩⟩
theorem Un.refl : Un fs ex H H h h := Un.kept fun _ _ q => q
theorem Un.laid (k : ∀ b u, h.get? b = some u → h'.get? b = some u) (hp : h.objs.size ≤ a) (hn : H a = none) : Un fs ex H (upd H a o) h h' where
  keep := fun b u q _ _ _ => k b u q
  slot := fun b u q _ _ _ => ⟨u.slots, k b u q⟩
  free := fun b u q n _ => by rw [upd_ne (Nat.ne_of_lt (Nat.lt_of_lt_of_le (Heap.lt_size q) hp))]; exact n
  there := fun b u q _ => ⟨u, k b u q⟩
  tups := fun b xs q => by rw [upd_ne (ne_of_none q hn)]; exact q
  frzs := fun b u xs q => by rw [upd_ne (ne_of_none q hn)]; exact q
  tbls := fun b ps q => ⟨#[], by rw [upd_ne (ne_of_none q hn), q]; simp⟩
theorem Un.write (mu : Mut (H x)) (he : e = x ∨ H e = some (.own x)) (k : ∀ b u, b ≠ e → h.get? b = some u → h'.get? b = some u) (heo : ∃ u, h'.get? e = some u) : Un fs ex H (upd H x o) h h' := by
  have hx : ∀ b, H b = none → b ≠ x := fun b n z => by subst z; rw [n] at mu; exact mu
  have hb : ∀ b, H b = none → b ≠ e := fun b n z => by
    subst z
    rcases he with r | r
    · exact hx b n r
    · rw [n] at r; cases r
  have hm : ∀ b u, H b = some u → ¬ Mut (some u) → b ≠ x := fun b u q nm z => by subst z; rw [q] at mu; exact nm mu
  refine ⟨fun b u q n _ _ => k b u (hb b n) q, fun b u q n _ _ => ⟨u.slots, k b u (hb b n) q⟩, fun b u q n _ => by rw [upd_ne (hx b n)]; exact n, fun b u q _ => ?_,
    fun b xs q => by rw [upd_ne (hm b _ q fun z => z)]; exact q, fun b u xs q => by rw [upd_ne (hm b _ q fun z => z)]; exact q, fun b ps q => ⟨#[], by rw [upd_ne (hm b _ q fun z => z), q]; simp⟩⟩
  by_cases hbe : b = e
  · subst hbe; exact heo
  · exact ⟨u, k b u hbe q⟩
theorem Un.mono (u : Un fs ex H H1 h h1) (hs : ∀ b ∈ fs, b ∈ fs') (hx : ∀ b ∈ ex, b ∈ ex') : Un fs' ex' H H1 h h1 :=
  ⟨fun b ob q n hb he => u.keep b ob q n (fun z => hb (hs b z)) fun z => he (hx b z), fun _ _ q n _ he => u.any q n fun z => he (hx _ z), fun b ob q n he => u.free b ob q n fun z => he (hx b z), fun b ob q he => u.there b ob q fun z => he (hx b z), u.tups, u.frzs, u.tbls⟩
end
def trk (h : Heap) (H : Hp) : List Addr := (List.range h.objs.size).filter fun a => (H a).isSome
def hidT (h : Heap) (H : Hp) : Heap := PySem.W.hideAll h (trk h H)
theorem hidT_size (h : Heap) (H : Hp) : (hidT h H).objs.size = h.objs.size := PySem.W.hideAll_size _ _
theorem hidT_get {h : Heap} {H : Hp} {b : Addr} {o : Obj} (e : h.get? b = some o) (n : H b = none) : (hidT h H).get? b = some o :=
  PySem.W.hideAll_get _ e fun hm => by
    have q : (H b).isSome = true := (List.mem_filter.mp hm).2
    rw [n] at q; simp at q
theorem of_hidT {h : Heap} {H : Hp} {b : Addr} {o : Obj} (e : (hidT h H).get? b = some o) : h.get? b = some o ∧ H b = none := by
  have e' : h.get? b = some o := PySem.W.of_hideAll (trk h H) e
  refine ⟨e', ?_⟩
  cases q : H b with
  | none => rfl
  | some x =>
    have hm : b ∈ trk h H := List.mem_filter.mpr ⟨List.mem_range.mpr (Heap.lt_size e'), by simp [q]⟩
    have z : (hidT h H).get? b = none := PySem.W.hideAll_none (trk h H) hm
    rw [z] at e; cases e
def allNews (g h : Heap) (L : Addr) : List (Addr × Obj) := (List.range h.objs.size).filterMap fun a => if a = L ∨ (g.get? a).isSome = true then none else (h.get? a).map fun o => (a, o)
def rest (g h : Heap) (L d : Addr) : List (Addr × Obj) := (allNews g h L).filter fun p => decide (p.1 ≠ d)
end L2
namespace L2
open PySem PySem.Spec PyProof.Rows
structure Mod (K : PySem.W.Frag) (mg : Str → Option Value) (base : Heap) : Prop where
  kin : K.In base
  glob : base.Ns mainGlobals mg
  blt : ∃ mb, base.Ns builtinsNs mb ∧ ∀ x : Str, x ≠ "__name__" → mb x = bootBuiltins x
  nolimit : base.NoLimit
structure Cx where
  prog : Program
  w : World
  K : PySem.W.Frag
  mg : Str → Option Value
  base : Heap
  A : Around
  N : List Str
  s₀ : Shared
  H₀ : Hp
  env : Env
  outer : List Env
  stack : List Env
  ex : List Addr
  fn : Str → Bool
  calm : Bool
  pn : List (Addr × Obj)
  xe : Value → Shared → Prop
def frs (l : List Env) : List Addr := l.filterMap (·.frame)
abbrev Cx.fs (X : Cx) : List Addr := frs X.outer
def Vis (sc : Scope) (x : Str) : Prop := sc.names.lookup x = some .local ∨ sc.names.lookup x = some .cell ∨ sc.names.lookup x = some .free
def Loc (sc : Scope) (x : Str) : Prop := sc.names.lookup x = some .local ∨ sc.names.lookup x = some .cell
def Look (env : Env) (h : Heap) (m : Str → Option Value) (x : Str) (u : Value) : Prop :=
  (env.kindOf x = some .local ∧ m x = some u) ∨ ((env.kindOf x = some .cell ∨ env.kindOf x = some .free) ∧ ∃ c, env.cells.lookup x = some c ∧ h.IsCell c (some u))
structure Cx.Ok (X : Cx) : Prop where
  mod : Mod X.K X.mg X.base
  kind : X.env.scope.kind = .function
  glob : X.env.globals = mainGlobals
  blt : X.env.builtins = builtinsNs
  above : X.s₀.heap.objs.size ≤ X.env.locals
  inj : ∀ x y c, X.env.cells.lookup x = some c → X.env.cells.lookup y = some c → x = y
  has : ∀ x, (X.env.kindOf x = some .cell ∨ X.env.kindOf x = some .free) → ∃ c, X.env.cells.lookup x = some c
  cab : ∀ x c, X.fn x = true → X.env.cells.lookup x = some c → X.s₀.heap.objs.size ≤ c
  hd : X.calm = true → X.A.handled = none
  frames : X.A.frames = some X.stack
  stk : X.stack = X.outer ∨ (X.stack = X.env :: X.outer ∧ X.env.frame = some X.env.locals)
  exf : ∀ b ∈ X.ex, b ≠ X.env.locals ∧ ∀ x c, X.env.cells.lookup x = some c → c ≠ b
  bs : ∀ b o, X.base.get? b = some o → X.s₀.heap.get? b = some o ∧ X.H₀ b = none
  bsz : X.base.objs.size ≤ X.s₀.heap.objs.size
  noex : ∀ b o, X.base.get? b = some o → b ∉ X.ex
  exfs : ∀ b ∈ X.ex, b ∉ X.fs
  funs : X.s₀.heap.FunFrames X.base X.outer
  frf : ∀ b ∈ X.fs, X.H₀ b = none
structure Inv (X : Cx) (pins : List (Addr × Obj)) (σ : List (Option V)) (H : Hp) (s : Shared) : Prop where
  ok : X.Ok
  os : s.os = X.s₀.os
  bare : AllBare s.gens
  base : Un X.fs X.ex X.H₀ H X.s₀.heap s.heap
  loc : ∃ m, s.heap.Ns X.env.locals m ∧ ∀ (i : Nat) (x : Str) (v : V), X.N[i]? = some x → σ[i]? = some (some v) → Vis X.env.scope x → ∃ u, RelV v u ∧ Look X.env s.heap m x u
  cell : ∀ x c, X.env.cells.lookup x = some c → ∃ v, s.heap.IsCell c v
  free : H X.env.locals = none
  freeC : ∀ x c, X.env.cells.lookup x = some c → H c = none
  pin : ∀ p ∈ X.pn ++ pins, s.heap.get? p.1 = some p.2 ∧ H p.1 = none ∧ p.1 ≠ X.env.locals ∧ p.1 ∉ X.fs ∧ ∀ v, p.2.data ≠ .cell v
  hok : HOk X.prog X.w H s.heap
  len : σ.length = X.N.length
section
variable {X : Cx} {pins : List (Addr × Obj)} {σ : List (Option V)} {H H' : Hp} {s : Shared} {h' : Heap}
theorem Cx.Ok.nofr (ok : X.Ok) {b : Addr} {o : Obj} (e : X.base.get? b = some o) : b ∉ X.fs := fun hb => by
  have := (ok.funs.mem hb).1
  rw [e] at this; cases this
theorem Inv.bs (I : Inv X pins σ H s) : ∀ b o, X.base.get? b = some o → s.heap.get? b = some o ∧ H b = none := fun b o e =>
  ⟨I.base.keep b o (I.ok.bs b o e).1 (I.ok.bs b o e).2 (I.ok.nofr e) (I.ok.noex b o e), I.base.free b o (I.ok.bs b o e).1 (I.ok.bs b o e).2 (I.ok.noex b o e)⟩
theorem Inv.bk (I : Inv X pins σ H s) : ∀ b o, X.base.get? b = some o → s.heap.get? b = some o := fun b o e => (I.bs b o e).1
theorem Inv.mod (I : Inv X pins σ H s) : Mod X.K X.mg X.base := I.ok.mod
theorem Inv.kIn (I : Inv X pins σ H s) : X.K.In s.heap := I.ok.mod.kin.keeps I.bk
theorem Inv.nolimit (I : Inv X pins σ H s) : s.heap.NoLimit := I.ok.mod.nolimit.keeps I.bk
theorem Inv.fr (I : Inv X pins σ H s) : ∃ m, Fr X.base X.env.locals s.heap m :=
  let ⟨m, hn, _⟩ := I.loc
  ⟨m, hn, I.bk, Nat.le_trans I.ok.bsz I.ok.above⟩
theorem Inv.lt (I : Inv X pins σ H s) : X.env.locals < s.heap.objs.size := let ⟨_, hn, _⟩ := I.loc; hn.lt
theorem Inv.sz (I : Inv X pins σ H s) : X.s₀.heap.objs.size ≤ s.heap.objs.size := Nat.le_trans I.ok.above (Nat.le_of_lt I.lt)
theorem Inv.nofs (I : Inv X pins σ H s) {a : Addr} (h : s.heap.objs.size ≤ a) : a ∉ X.fs := fun hb => by
  obtain ⟨_, o, ho, _⟩ := I.ok.funs.mem hb
  exact absurd (Nat.lt_of_lt_of_le (Heap.lt_size ho) (Nat.le_trans I.sz h)) (Nat.lt_irrefl _)
theorem Inv.cne (I : Inv X pins σ H s) : ∀ x c, X.env.cells.lookup x = some c → c ≠ X.env.locals := fun x c e z => by
  obtain ⟨v, o, ho, hd⟩ := I.cell x c e
  obtain ⟨m, ⟨o', es, ep, ho', hd', _⟩, _⟩ := I.loc
  rw [z, ho'] at ho; cases ho; rw [hd'] at hd; cases hd
theorem Inv.funs (I : Inv X pins σ H s) : s.heap.FunFrames X.base X.outer := by
  have all : ∀ (l : List Env), (∀ b ∈ frs l, b ∈ X.fs) → X.s₀.heap.FunFrames X.base l → s.heap.FunFrames X.base l := by
    intro l
    induction l with
    | nil => intro _ _; trivial
    | cons env r ih =>
      intro hs hl
      obtain ⟨hk, ⟨L, o, hf, hn, ho, hd⟩, hr⟩ := hl
      have hL : L ∈ X.fs := hs L (by unfold frs; rw [List.filterMap_cons, hf]; exact List.mem_cons_self)
      obtain ⟨sl, e⟩ := I.base.slot L o ho (I.ok.frf L hL) hL fun z => I.ok.exfs L z hL
      exact ⟨hk, ⟨L, _, hf, hn, e, hd⟩, ih (fun b hb => hs b (by unfold frs; rw [List.filterMap_cons, hf]; exact List.mem_cons_of_mem _ hb)) hr⟩
  exact all X.outer (fun _ hb => hb) I.ok.funs
theorem Inv.stack (I : Inv X pins σ H s) : s.heap.FunFrames X.base X.stack := by
  rcases I.ok.stk with e | ⟨e, hf⟩
  · rw [e]; exact I.funs
  · rw [e]
    obtain ⟨m, hn, _⟩ := I.loc
    refine .cons (by rw [I.ok.kind]; decide) hf hn ?_ I.funs
    exact Heap.get?_none_of_le (Nat.le_trans I.ok.bsz I.ok.above)
theorem Inv.stkSub (I : Inv X pins σ H s) : ∀ b ∈ frs X.stack, b ∈ X.env.locals :: X.fs := fun b hb => by
  rcases I.ok.stk with e | ⟨e, hf⟩
  · rw [e] at hb; exact List.mem_cons_of_mem _ hb
  · rw [e] at hb
    unfold frs at hb
    rw [List.filterMap_cons, hf] at hb
    exact hb
theorem Inv.stkFree (I : Inv X pins σ H s) : ∀ b ∈ frs X.stack, H b = none := fun b hb => by
  rcases List.mem_cons.mp (I.stkSub b hb) with e | hb
  · rw [e]; exact I.free
  · obtain ⟨_, o, ho, _⟩ := I.ok.funs.mem hb
    exact I.base.free b o ho (I.ok.frf b hb) fun z => I.ok.exfs b z hb
theorem Inv.step {g' : Array GenState} {t' : Nat} {d' : Drawn} {ch : List Addr} (I : Inv X pins σ H s)
    (hch : ∀ b ∈ ch, (b ∈ X.ex ∨ X.s₀.heap.objs.size ≤ b) ∧ b ≠ X.env.locals ∧ (∀ x c, X.env.cells.lookup x = some c → c ≠ b) ∧ ∀ p ∈ X.pn ++ pins, p.1 ≠ b)
    (keep : ∀ b o, b ≠ X.env.locals → b ∉ X.fs → b ∉ ch → s.heap.get? b = some o → H b = none → h'.get? b = some o)
    (slot : ∀ b o, b ≠ X.env.locals → b ∈ X.fs → b ∉ ch → s.heap.get? b = some o → H b = none → ∃ sl, h'.get? b = some { o with slots := sl }) (free : ∀ b o, b ∉ ch → s.heap.get? b = some o → H b = none → H' b = none)
    (there : ∀ b o, b ∉ ch → s.heap.get? b = some o → ∃ o', h'.get? b = some o')
    (tups : ∀ b xs, H b = some (.tup xs) → H' b = some (.tup xs)) (frzs : ∀ b o u, H b = some (.frz o u) → H' b = some (.frz o u)) (tbls : ∀ b ps, H b = some (.tbl ps) → ∃ more, H' b = some (.tbl (ps ++ more)))
    (ns : ∀ m, s.heap.Ns X.env.locals m → h'.Ns X.env.locals m) (hok : HOk X.prog X.w H' h') (hg : AllBare g') :
    Inv X pins σ H' { s with heap := h', gens := g', drawn := d', toks := t' } := by
  have neL : ∀ b o, X.s₀.heap.get? b = some o → b ≠ X.env.locals := fun b o e => Nat.ne_of_lt (Nat.lt_of_lt_of_le (Heap.lt_size e) I.ok.above)
  have neC : ∀ b o, X.s₀.heap.get? b = some o → b ∉ X.ex → b ∉ ch := fun b o e hx hb => by
    rcases (hch b hb).1 with z | z
    · exact hx z
    · exact absurd (Nat.lt_of_lt_of_le (Heap.lt_size e) z) (Nat.lt_irrefl _)
  have cellK : ∀ x c, X.env.cells.lookup x = some c → ∀ v, s.heap.IsCell c v → h'.IsCell c v := fun x c e v ⟨o, ho, hd⟩ => by
    have nch : c ∉ ch := fun z => (hch c z).2.2.1 x c e rfl
    by_cases hc : c ∈ X.fs
    · obtain ⟨sl, q⟩ := slot c o (I.cne x c e) hc nch ho (I.freeC x c e)
      exact ⟨_, q, hd⟩
    · exact ⟨o, keep c o (I.cne x c e) hc nch ho (I.freeC x c e), hd⟩
  refine ⟨I.ok, I.os, hg, ⟨fun b o e n hb hx => ?_, fun b o e n hb hx => ?_, fun b o e n hx => ?_, fun b o e hx => ?_, fun b xs e => tups b xs (I.base.tups b xs e), fun b o xs e => frzs b o xs (I.base.frzs b o xs e), fun b ps e => ?_⟩, ?_, fun x c e => ?_, ?_, fun x c e => ?_, fun p hp => ?_, hok, I.len⟩
  · exact keep b o (neL b o e) hb (neC b o e hx) (I.base.keep b o e n hb hx) (I.base.free b o e n hx)
  · obtain ⟨sl, e1⟩ := I.base.slot b o e n hb hx
    obtain ⟨sl', e2⟩ := slot b _ (neL b o e) hb (neC b o e hx) e1 (I.base.free b o e n hx)
    exact ⟨sl', e2⟩
  · obtain ⟨o', e1⟩ := I.base.there b o e hx
    exact free b o' (neC b o e hx) e1 (I.base.free b o e n hx)
  · obtain ⟨o', e1⟩ := I.base.there b o e hx
    exact there b o' (neC b o e hx) e1
  · obtain ⟨m1, e1⟩ := I.base.tbls b ps e
    obtain ⟨m2, e2⟩ := tbls b _ e1
    exact ⟨m1 ++ m2, by rw [e2, Array.append_assoc]⟩
  · obtain ⟨m, hn, hl⟩ := I.loc
    refine ⟨m, ns m hn, fun i x v e1 e2 e3 => ?_⟩
    obtain ⟨u, r, l⟩ := hl i x v e1 e2 e3
    refine ⟨u, r, ?_⟩
    rcases l with l | ⟨k, c, e, z⟩
    · exact .inl l
    · exact .inr ⟨k, c, e, cellK x c e _ z⟩
  · obtain ⟨v, z⟩ := I.cell x c e
    exact ⟨v, cellK x c e v z⟩
  · obtain ⟨m, ⟨o, _, _, ho, _⟩, _⟩ := I.loc
    exact free _ o (fun z => (hch _ z).2.1 rfl) ho I.free
  · obtain ⟨v, o, ho, hd⟩ := I.cell x c e
    exact free c o (fun z => (hch c z).2.2.1 x c e rfl) ho (I.freeC x c e)
  · obtain ⟨e, n, ne, nf, d⟩ := I.pin p hp
    have nch : p.1 ∉ ch := fun z => (hch p.1 z).2.2.2 p hp rfl
    exact ⟨keep p.1 p.2 ne nf nch e n, free p.1 p.2 nch e n, ne, nf, d⟩
theorem Inv.un {t' : Nat} (I : Inv X pins σ H s) (u : Un X.fs [] H H' s.heap h') (hok : HOk X.prog X.w H' h') : Inv X pins σ H' { s with heap := h', toks := t' } := by
  obtain ⟨m, ⟨o, es, ep, ho, r⟩, _⟩ := id I.loc
  obtain ⟨sl, hL⟩ := u.any ho I.free (by simp)
  exact I.step (g' := s.gens) (d' := s.drawn) (ch := []) (fun _ z => nomatch z) (fun b o _ hb _ e n => u.keep b o e n hb (by simp)) (fun b o _ hb _ e n => u.slot b o e n hb (by simp)) (fun b o _ e n => u.free b o e n (by simp)) (fun b o _ e => u.there b o e (by simp)) u.tups u.frzs u.tbls (fun m' hm => by
    obtain ⟨o', es', ep', ho', r'⟩ := hm
    rw [ho] at ho'; cases ho'
    exact ⟨_, es', ep', hL, r'⟩) hok I.bare
theorem Inv.call {g' : Array GenState} {t' : Nat} {d' : Drawn} {ch : List Addr} (I : Inv X pins σ H s) (u : Un (frs X.stack) ch H H' s.heap h') (hok : HOk X.prog X.w H' h') (hg : AllBare g')
    (hch : ∀ b ∈ ch, (b ∈ X.ex ∨ X.s₀.heap.objs.size ≤ b) ∧ b ≠ X.env.locals ∧ (∀ x c, X.env.cells.lookup x = some c → c ≠ b) ∧ ∀ p ∈ X.pn ++ pins, p.1 ≠ b) :
    Inv X pins σ H' { s with heap := h', gens := g', drawn := d', toks := t' } := by
  obtain ⟨m, ⟨o, es, ep, ho, r⟩, _⟩ := id I.loc
  obtain ⟨sl, hL⟩ := u.any ho I.free fun z => (hch _ z).2.1 rfl
  exact I.step (ch := ch) hch (fun b o hL hb hc e n => u.keep b o e n (fun z => (List.mem_cons.mp (I.stkSub b z)).elim hL hb) hc) (fun b o _ _ hc e n => u.any e n hc) (fun b o hc e n => u.free b o e n hc) (fun b o hc e => u.there b o e hc) u.tups u.frzs u.tbls (fun m' hm => by
    obtain ⟨o', es', ep', ho', r'⟩ := hm
    rw [ho] at ho'; cases ho'
    exact ⟨_, es', ep', hL, r'⟩) hok hg
theorem Inv.turned {t' : Nat} {it : Addr} (I : Inv X pins σ H s) (k : ∀ b o, b ≠ it → s.heap.get? b = some o → h'.get? b = some o) (hn : H it = none) (hL : it ≠ X.env.locals)
    (h1 : it ∈ X.ex ∨ X.s₀.heap.objs.size ≤ it) (h2 : ∀ x c, X.env.cells.lookup x = some c → c ≠ it) (h3 : ∀ p ∈ X.pn ++ pins, p.1 ≠ it) : Inv X pins σ H { s with heap := h', toks := t' } := by
  have nit : ∀ b u, H b = some u → b ≠ it := fun b u e z => by rw [z, hn] at e; cases e
  refine I.step (g' := s.gens) (d' := s.drawn) (ch := [it]) (fun b hb => ?_) (fun b o _ _ hc e _ => k b o (fun z => hc (by simp [z])) e) (fun b o _ _ hc e _ => ⟨o.slots, k b o (fun z => hc (by simp [z])) e⟩) (fun _ _ _ _ n => n)
    (fun b o hc e => ⟨o, k b o (fun z => hc (by simp [z])) e⟩) (fun _ _ e => e) (fun _ _ _ e => e) (fun b ps e => ⟨#[], by rw [e]; simp⟩) (fun m hm => ?_) (fun b u e => ?_) I.bare
  · have e : b = it := by simpa using hb
    subst e
    exact ⟨h1, hL, h2, h3⟩
  · obtain ⟨o, es, ep, ho, r⟩ := hm
    exact ⟨o, es, ep, k _ o (Ne.symm hL) ho, r⟩
  · refine (I.hok b u e).stay (fun c v hc q => k c v ?_ q) (fun _ q => q) fun _ _ q => q
    rcases hc with z | z
    · rw [z]; exact nit b u e
    · exact nit c _ z
theorem Inv.tok (I : Inv X pins σ H s) (t : Nat) : Inv X pins σ H { s with toks := t } := I.un (h' := s.heap) (t' := t) Un.refl I.hok
theorem Inv.kept {t' : Nat} (I : Inv X pins σ H s) (k : ∀ b u, s.heap.get? b = some u → h'.get? b = some u) : Inv X pins σ H { s with heap := h', toks := t' } := I.un (Un.kept k) (I.hok.kept k)
theorem Inv.laid {a : Addr} {o : HO} {t' : Nat} (I : Inv X pins σ H s) (k : ∀ b u, s.heap.get? b = some u → h'.get? b = some u) (hp : s.heap.objs.size ≤ a) (new : ObjOk X.prog X.w (upd H a o) h' a o) :
    Inv X pins σ (upd H a o) { s with heap := h', toks := t' } := I.un (Un.laid k hp (I.hok.fresh hp)) (I.hok.laid k hp new)
theorem Inv.write {x e : Addr} {o : HO} {t' : Nat} (I : Inv X pins σ H s) (mu : Mut (H x)) (he : e = x ∨ H e = some (.own x)) (k : ∀ b u, b ≠ e → s.heap.get? b = some u → h'.get? b = some u) (heo : ∃ u, h'.get? e = some u)
    (new : ObjOk X.prog X.w (upd H x o) h' x o) : Inv X pins σ (upd H x o) { s with heap := h', toks := t' } := I.un (Un.write mu he k heo) (I.hok.write mu he k heo new)
theorem Inv.weak {σ' : List (Option V)} (I : Inv X pins σ H s) (hl : σ'.length = σ.length) (w : ∀ (i : Nat) v, σ'[i]? = some (some v) → σ[i]? = some (some v)) : Inv X pins σ' H s :=
  ⟨I.ok, I.os, I.bare, I.base, let ⟨m, hn, hl'⟩ := I.loc; ⟨m, hn, fun i x v e1 e2 e3 => hl' i x v e1 (w i v e2) e3⟩, I.cell, I.free, I.freeC, I.pin, I.hok, hl.trans I.len⟩
theorem Inv.pins_of {pins' : List (Addr × Obj)} (I : Inv X pins σ H s) (h : ∀ p ∈ pins', s.heap.get? p.1 = some p.2 ∧ H p.1 = none ∧ p.1 ≠ X.env.locals ∧ p.1 ∉ X.fs ∧ ∀ v, p.2.data ≠ .cell v) : Inv X pins' σ H s :=
  ⟨I.ok, I.os, I.bare, I.base, I.loc, I.cell, I.free, I.freeC, fun p hp => (List.mem_append.mp hp).elim (fun z => I.pin p (List.mem_append_left _ z)) (h p), I.hok, I.len⟩
theorem nodup_ix {N : List Str} (hN : N.Nodup) {i j : Nat} {x : Str} (a : N[i]? = some x) (b : N[j]? = some x) : i = j := by
  obtain ⟨h1, e1⟩ := List.getElem?_eq_some_iff.mp a
  obtain ⟨h2, e2⟩ := List.getElem?_eq_some_iff.mp b
  exact (List.getElem_inj hN).mp (e1.trans e2.symm)
theorem store_ok2 {M : Model} {A : Around} {E : Value → Shared → Prop} {i : Nat} {x : Str} {v : V} {u : Value} {Q : Unit → Shared → Prop} (I : Inv X pins σ H s) (hN : X.N.Nodup) (hi : X.N[i]? = some x) (hx : Loc X.env.scope x) (r : RelV v u)
    (h : ∀ s', Inv X pins (σ.set i (some v)) H s' → (∃ a, Heap.SameBut a s.heap s'.heap ∧ (a = X.env.locals ∨ X.env.cells.lookup x = some a)) → Q () s') (hf : X.fn x = true ∨ X.env.scope.names.lookup x = some .local := by first | exact .inl rfl | exact .inr rfl | assumption) : wpAny M A (storeName X.env x u) Q E s := by
  obtain ⟨m, hn, hl⟩ := id I.loc
  have hcls : (X.env.scope.kind == .class || (X.env.scope.kind == .module && X.env.locals != X.env.globals)) = false := by rw [I.ok.kind]; rfl
  have hiσ : i < σ.length := by rw [I.len]; exact (List.getElem?_eq_some_iff.mp hi).1
  have cne := I.cne
  have tracked : ∀ {a : Addr} {h' : Heap}, (∃ o, s.heap.get? a = some o ∧ H a = none) → Heap.SameBut a s.heap h' → HOk X.prog X.w H h' := fun {a h'} ha hs b ob e => by
    obtain ⟨_, _, hfree⟩ := ha
    refine (I.hok b ob e).stay (fun c w' hc q => (hs.2 c ?_).trans q) (fun _ q => q) fun _ _ q => q
    rintro rfl
    rcases hc with rfl | hc
    · rw [hfree] at e; cases e
    · rw [hfree] at hc; cases hc
  rcases hx with hk | hk
  · refine wpAny_storeName_local hk hn (fun h' hn' hs => ?_) hcls
    obtain ⟨oL, _, _, hoL, _⟩ := id hn
    refine h _ ⟨I.ok, I.os, I.bare, ⟨fun b o e n hb hx => ?_, fun b o e n hb hx => ?_, I.base.free, fun b o e hx => ?_, I.base.tups, I.base.frzs, I.base.tbls⟩, ⟨_, hn', fun j y v' e1 e2 e3 => ?_⟩, fun y c e => ?_, I.free, I.freeC, fun p hp => ?_, tracked ⟨oL, hoL, I.free⟩ hs, by simpa using I.len⟩ ⟨_, hs, .inl rfl⟩
    · exact (hs.2 b (Nat.ne_of_lt (Nat.lt_of_lt_of_le (Heap.lt_size e) I.ok.above))).trans (I.base.keep b o e n hb hx)
    · obtain ⟨sl, e1⟩ := I.base.slot b o e n hb hx
      exact ⟨sl, (hs.2 b (Nat.ne_of_lt (Nat.lt_of_lt_of_le (Heap.lt_size e) I.ok.above))).trans e1⟩
    · obtain ⟨o', e1⟩ := I.base.there b o e hx
      exact ⟨o', (hs.2 b (Nat.ne_of_lt (Nat.lt_of_lt_of_le (Heap.lt_size e) I.ok.above))).trans e1⟩
    · by_cases hj : j = i
      · subst hj
        rw [hi] at e1; cases e1
        rw [List.getElem?_set_self hiσ] at e2
        cases e2
        exact ⟨u, r, .inl ⟨hk, by simp⟩⟩
      · rw [List.getElem?_set_ne (Ne.symm hj)] at e2
        obtain ⟨u', r', q⟩ := hl j y v' e1 e2 e3
        refine ⟨u', r', ?_⟩
        rcases q with ⟨k, e⟩ | ⟨k, c, e, z⟩
        · refine .inl ⟨k, ?_⟩
          have : y ≠ x := fun e => hj (nodup_ix hN e1 (e ▸ hi))
          simp [this, e]
        · exact .inr ⟨k, c, e, z.sameBut hs (cne y c e)⟩
    · obtain ⟨w', z⟩ := I.cell y c e
      exact ⟨w', z.sameBut hs (cne y c e)⟩
    · obtain ⟨e, n, ne, nf, d⟩ := I.pin p hp
      exact ⟨(hs.2 p.1 ne).trans e, n, ne, nf, d⟩
  · have hfn : X.fn x = true := by
      rcases hf with z | z
      · exact z
      · rw [z] at hk; cases hk
    obtain ⟨c, hc⟩ := I.ok.has x (.inl hk)
    obtain ⟨w', z⟩ := I.cell x c hc
    refine wpAny_storeName_cell I.ok.kind hk hc z (fun h' hc' hs => ?_)
    obtain ⟨oc, hoc, hocd⟩ := id z
    refine h { s with heap := h' } ⟨I.ok, I.os, I.bare, ⟨fun b o e n hb hx => ?_, fun b o e n hb hx => ?_, I.base.free, fun b o e hx => ?_, I.base.tups, I.base.frzs, I.base.tbls⟩, ⟨m, hn.sameBut hs (Ne.symm (cne x c hc)), fun j y v' e1 e2 e3 => ?_⟩, fun y c' e => ?_, I.free, I.freeC, fun p hp => ?_, tracked ⟨oc, hoc, I.freeC x c hc⟩ hs, by simpa using I.len⟩ ⟨c, hs, .inr hc⟩
    · exact (hs.2 b (Nat.ne_of_lt (Nat.lt_of_lt_of_le (Heap.lt_size e) (I.ok.cab x c hfn hc)))).trans (I.base.keep b o e n hb hx)
    · obtain ⟨sl, e1⟩ := I.base.slot b o e n hb hx
      exact ⟨sl, (hs.2 b (Nat.ne_of_lt (Nat.lt_of_lt_of_le (Heap.lt_size e) (I.ok.cab x c hfn hc)))).trans e1⟩
    · obtain ⟨o', e1⟩ := I.base.there b o e hx
      exact ⟨o', (hs.2 b (Nat.ne_of_lt (Nat.lt_of_lt_of_le (Heap.lt_size e) (I.ok.cab x c hfn hc)))).trans e1⟩
    · by_cases hj : j = i
      · subst hj
        rw [hi] at e1; cases e1
        rw [List.getElem?_set_self hiσ] at e2
        cases e2
        exact ⟨u, r, .inr ⟨.inl hk, c, hc, hc'⟩⟩
      · rw [List.getElem?_set_ne (Ne.symm hj)] at e2
        obtain ⟨u', r', q⟩ := hl j y v' e1 e2 e3
        refine ⟨u', r', ?_⟩
        rcases q with q | ⟨k, c', e, z'⟩
        · exact .inl q
        · refine .inr ⟨k, c', e, z'.sameBut hs ?_⟩
          rintro rfl
          exact hj (nodup_ix hN e1 (I.ok.inj _ _ _ e hc ▸ hi))
    · by_cases hcc : c' = c
      · subst hcc; exact ⟨_, hc'⟩
      · obtain ⟨w2, z2⟩ := I.cell y c' e
        exact ⟨w2, z2.sameBut hs hcc⟩
    · obtain ⟨e, n, ne, nf, d⟩ := I.pin p hp
      refine ⟨(hs.2 p.1 ?_).trans e, n, ne, nf, d⟩
      intro q
      rw [q, hoc] at e
      have q' : oc = p.2 := Option.some.inj e
      exact d w' (by rw [← q']; exact hocd)
theorem store_ok {M : Model} {A : Around} {E : Value → Shared → Prop} {i : Nat} {x : Str} {v : V} {u : Value} {Q : Unit → Shared → Prop} (I : Inv X pins σ H s) (hN : X.N.Nodup) (hi : X.N[i]? = some x) (hx : Loc X.env.scope x) (r : RelV v u)
    (h : ∀ s', Inv X pins (σ.set i (some v)) H s' → Q () s') (hf : X.fn x = true ∨ X.env.scope.names.lookup x = some .local := by first | exact .inl rfl | exact .inr rfl | assumption) : wpAny M A (storeName X.env x u) Q E s :=
  store_ok2 I hN hi hx r (fun s' I' _ => h s' I') hf
theorem Inv.call' {s' : Shared} {ch : List Addr} (I : Inv X pins σ H s) (ho : s'.os = s.os) (u : Un (frs X.stack) ch H H' s.heap s'.heap) (hok : HOk X.prog X.w H' s'.heap) (hg : AllBare s'.gens)
    (hch : ∀ b ∈ ch, (b ∈ X.ex ∨ X.s₀.heap.objs.size ≤ b) ∧ b ≠ X.env.locals ∧ (∀ x c, X.env.cells.lookup x = some c → c ≠ b) ∧ ∀ p ∈ X.pn ++ pins, p.1 ≠ b) : Inv X pins σ H' s' := by
  obtain ⟨h', g', d', t', o'⟩ := s'
  have e : o' = s.os := ho
  subst e
  exact I.call (g' := g') (t' := t') (d' := d') u hok hg hch
end
abbrev XK := Value → Option Addr → Hp → Prop
abbrev St := List (Option V)
abbrev VK := V → Hp → Prop
abbrev TE := St → Hp → VK → Prop
abbrev TT := St → Hp → (Bool → Hp → Prop) → Prop
abbrev TA := St → Hp → (List V → Hp → Prop) → Prop
structure Ends where
  nx : St → Hp → Prop
  rt : VK
  bk : St → Hp → Prop := fun _ _ => False
  ct : St → Hp → Prop := fun _ _ => False
abbrev TS := Ends → St → Hp → Prop
def EP (X : Cx) (pins : List (Addr × Obj)) (σ : St) (Q : VK) (u : Value) (s' : Shared) : Prop := ∃ v H', Inv X pins σ H' s' ∧ RelV v u ∧ Q v H'
def TP (X : Cx) (pins : List (Addr × Obj)) (σ : St) (Q : Bool → Hp → Prop) (b : Bool) (s' : Shared) : Prop := ∃ H', Inv X pins σ H' s' ∧ Q b H'
def AP (X : Cx) (pins : List (Addr × Obj)) (σ : St) (Q : List V → Hp → Prop) (us : List Value) (s' : Shared) : Prop := ∃ vs H', Inv X pins σ H' s' ∧ Vals vs us ∧ Q vs H'
def SP (X : Cx) (pins : List (Addr × Obj)) (D : Ends) (f : Flow) (s' : Shared) : Prop :=
  match f with
  | .next => ∃ σ' H', Inv X pins σ' H' s' ∧ D.nx σ' H'
  | .brk => ∃ σ' H', Inv X pins σ' H' s' ∧ D.bk σ' H'
  | .cont => ∃ σ' H', Inv X pins σ' H' s' ∧ D.ct σ' H'
  | .ret u => ∃ v σ' H', Inv X pins σ' H' s' ∧ RelV v u ∧ D.rt v H'
def PE (X : Cx) (e : Expr) (t : TE) : Prop :=
  ∀ (pins : List (Addr × Obj)) (s : Shared) (σ : St) (H : Hp) (Q : VK), Inv X pins σ H s → t σ H Q → wpAny (model X.prog X.w) X.A (eval e X.env) (EP X pins σ Q) X.xe s
def PT (X : Cx) (e : Expr) (t : TT) : Prop :=
  ∀ (pins : List (Addr × Obj)) (s : Shared) (σ : St) (H : Hp) (Q : Bool → Hp → Prop), Inv X pins σ H s → t σ H Q → wpAny (model X.prog X.w) X.A (isTrue e X.env (eval e X.env)) (TP X pins σ Q) X.xe s
def PW (X : Cx) (e : Expr) (t : TT) : Prop :=
  ∀ (whole : Sem Value) (pins : List (Addr × Obj)) (s : Shared) (σ : St) (H : Hp) (Q : Bool → Hp → Prop), Inv X pins σ H s → t σ H Q → wpAny (model X.prog X.w) X.A (isTrue e X.env whole) (TP X pins σ Q) X.xe s
theorem PW.pt {X : Cx} {e : Expr} {t : TT} (h : PW X e t) : PT X e t := h _
def PA (X : Cx) (es : List Expr) (t : TA) : Prop :=
  ∀ (pos : Pos) (pins : List (Addr × Obj)) (s : Shared) (σ : St) (H : Hp) (Q : List V → Hp → Prop), Inv X pins σ H s → t σ H Q → wpAny (model X.prog X.w) X.A (spliced (backTo pos (starEach es X.env))) (AP X pins σ Q) X.xe s
def PS (X : Cx) (st : Stmt) (t : TS) : Prop :=
  ∀ (pins : List (Addr × Obj)) (s : Shared) (σ : St) (H : Hp) (D : Ends), Inv X pins σ H s → t D σ H → wpAny (model X.prog X.w) X.A (exec st X.env) (SP X pins D) X.xe s
def PSs (X : Cx) (st : List Stmt) (t : TS) : Prop :=
  ∀ (pins : List (Addr × Obj)) (s : Shared) (σ : St) (H : Hp) (D : Ends), Inv X pins σ H s → t D σ H → wpAny (model X.prog X.w) X.A (execs st X.env) (SP X pins D) X.xe s
theorem thn {α : Type} {t : Sem α} {Q Q' : α → Shared → Prop} {M : Model} {A : Around} {E : Value → Shared → Prop} {s : Shared} (h : wpAny M A t Q E s) (hQ : ∀ a s, Q a s → Q' a s) : wpAny M A t Q' E s := wpAny_mono h hQ fun _ _ x => x
end L2
namespace L2
open PySem PySem.Spec PyProof.Rows
section
variable {X : Cx}
def tVar (i : Nat) : TE := fun σ H Q => ∃ v, σ[i]? = some (some v) ∧ Q v H
def tC (v : V) : TE := fun _ H Q => Q v H
theorem pe_var {i : Nat} {x : Str} {pos : Pos} (hN : X.N[i]? = some x) (hv : Vis X.env.scope x) (hd : (x == ("__debug__" : Str)) = false := by decide) (hcd : (x == ("__classdict__" : Str)) = false := by decide) : PE X (.Name x pos) (tVar i) := by
  intro pins s σ H Q I h
  obtain ⟨v, e, h⟩ := h
  obtain ⟨m, hn, hl⟩ := I.loc
  obtain ⟨u, r, l⟩ := hl i x v hN e hv
  have fin : EP X pins σ Q u s := ⟨v, H, I, r, h⟩
  rcases l with ⟨hk, hm⟩ | ⟨hk, c, hc, hcell⟩
  · exact wpAny_Name (wpAny_loadName_local I.ok.kind hk hn hm fin) hd
  · rcases hk with hk | hk
    · exact wpAny_Name (wpAny_loadName_cell I.ok.kind hk hc hcell fin) hd
    · exact wpAny_Name (wpAny_loadName_free I.ok.kind hk hc hcell fin hcd) hd
theorem pe_int {i j pos} : PE X (.Constant (.int i) j pos) (tC (.int i)) := fun _ _ _ H _ I h => wpAny_Constant_int ⟨.int i, H, I.tok _, ⟨_, rfl⟩, h⟩
theorem pe_bl {b j pos} : PE X (.Constant (.bool b) j pos) (tC (.bl b)) := fun _ _ _ H _ I h => Constant_bool ⟨.bl b, H, I, rfl, h⟩
theorem pe_non {j pos} : PE X (.Constant .none j pos) (tC .non) := fun _ _ _ H _ I h => Constant_none ⟨.non, H, I, rfl, h⟩
theorem pe_str {x j pos} : PE X (.Constant (.str x) j pos) (tC (.str x)) := fun _ _ _ H _ I h => Calls.Constant_str ⟨.str x, H, I.tok _, ⟨_, rfl⟩, h⟩
def Gl (X : Cx) (x : Str) : Prop := X.env.kindOf x = some .globalImplicit
theorem ld_glob {E : Value → Shared → Prop} {pins : List (Addr × Obj)} {s : Shared} {σ : St} {H : Hp} {x : Str} {u : Value} {pos : Pos} {Q : Value → Shared → Prop} (I : Inv X pins σ H s) (hg : Gl X x) (hm : X.mg x = some u) (h : Q u s)
    (hd : (x == ("__debug__" : Str)) = false := by decide) : wpAny (model X.prog X.w) X.A (eval (.Name x pos) X.env) Q E s :=
  Calls.Name_function_global I.ok.kind hg (Calls.loadGlobal_global (by rw [I.ok.glob]; exact I.mod.glob.keeps I.bk) hm h) hd
theorem ld_blt {E : Value → Shared → Prop} {pins : List (Addr × Obj)} {s : Shared} {σ : St} {H : Hp} {x : Str} {u : Value} {pos : Pos} {Q : Value → Shared → Prop} (I : Inv X pins σ H s) (hg : Gl X x) (hm : X.mg x = none) (hv : bootBuiltins x = some u) (h : Q u s)
    (hn : x ≠ "__name__" := by decide) (hd : (x == ("__debug__" : Str)) = false := by decide) : wpAny (model X.prog X.w) X.A (eval (.Name x pos) X.env) Q E s := by
  obtain ⟨mb, h1, h2⟩ := I.mod.blt
  exact Calls.Name_function_global I.ok.kind hg (Calls.loadGlobal_builtin (by rw [I.ok.glob]; exact I.mod.glob.keeps I.bk) hm (by rw [I.ok.blt]; exact h1.keeps I.bk) ((h2 x hn).trans hv) h) hd
theorem pe_bltn {x : Str} {v : V} {u : Value} {pos : Pos} (hg : Gl X x) (hm : X.mg x = none) (hv : bootBuiltins x = some u) (r : RelV v u) (hn : x ≠ "__name__" := by decide) (hd : (x == ("__debug__" : Str)) = false := by decide) : PE X (.Name x pos) (tC v) :=
  fun _ _ _ H _ I h => ld_blt I hg hm hv ⟨v, H, I, r, h⟩ hn hd
variable {a b : Expr} {ta tb : TE} {pos : Pos}
def tB (t : TE) : TT := fun σ H Q => t σ H fun x H1 => ∃ c, x = .bl c ∧ Q c H1
variable {tA tB' : TT} {rest : List Expr}
def tAnd (t u : TT) : TT := fun σ H Q => t σ H fun c H1 => if c = true then u σ H1 Q else Q false H1
def tOr (t u : TT) : TT := fun σ H Q => t σ H fun c H1 => if c = true then Q true H1 else u σ H1 Q
def tNot (t : TT) : TT := fun σ H Q => t σ H fun c H1 => Q (!c) H1
theorem pw_and1 (ha : PT X a tA) : PW X (.BoolOp .And [a] pos) tA := by
  intro wh pins s σ H Q I h
  refine isTrue_and (thn (ha pins s σ H Q I h) fun c s1 e => ?_)
  cases c with
  | true => exact isTrue_and_nil e
  | false => exact e
theorem pw_or1 (ha : PT X a tA) : PW X (.BoolOp .Or [a] pos) tA := by
  intro wh pins s σ H Q I h
  refine isTrue_or (thn (ha pins s σ H Q I h) fun c s1 e => ?_)
  cases c with
  | false => exact isTrue_or_nil e
  | true => exact e
theorem pw_and (ha : PT X a tA) (hb : PW X (.BoolOp .And (b :: rest) pos) tB') : PW X (.BoolOp .And (a :: b :: rest) pos) (tAnd tA tB') := by
  intro wh pins s σ H Q I h
  refine isTrue_and (thn (ha pins s σ H _ I h) fun c s1 ⟨H1, I1, q1⟩ => ?_)
  cases c with
  | true => exact hb wh pins s1 σ H1 Q I1 q1
  | false => exact ⟨H1, I1, q1⟩
theorem pw_or (ha : PT X a tA) (hb : PW X (.BoolOp .Or (b :: rest) pos) tB') : PW X (.BoolOp .Or (a :: b :: rest) pos) (tOr tA tB') := by
  intro wh pins s σ H Q I h
  refine isTrue_or (thn (ha pins s σ H _ I h) fun c s1 ⟨H1, I1, q1⟩ => ?_)
  cases c with
  | true => exact ⟨H1, I1, q1⟩
  | false => exact hb wh pins s1 σ H1 Q I1 q1
theorem pt_not (ha : PT X a tA) : PT X (.UnaryOp .Not a pos) (tNot tA) := by
  intro pins s σ H Q I h
  exact isTrue_not (ha pins s σ H (fun c H1 => Q (!c) H1) I h)
def tAndV (ta tb : TE) : TE := fun σ H Q => ta σ H fun x H1 => ∃ c, x = .bl c ∧ if c = true then tb σ H1 Q else Q (.bl false) H1
def tNotV (ta : TE) : TE := fun σ H Q => ta σ H fun x H1 => ∃ c, x = .bl c ∧ Q (.bl (!c)) H1
theorem pe_one {op} {t : TE} (h : PE X a t) : PE X (.BoolOp op [a] pos) t := fun pins s σ H Q I hw => BoolOp_one (h pins s σ H Q I hw)
theorem pe_and (ha : PE X a ta) (hb : PE X (.BoolOp .And (b :: rest) pos) tb) : PE X (.BoolOp .And (a :: b :: rest) pos) (tAndV ta tb) := by
  intro pins s σ H Q I h
  refine BoolOp_and (thn (ha pins s σ H _ I h) fun v s1 ⟨x, H1, I1, r1, q1⟩ => ?_)
  obtain ⟨c, rfl, q1⟩ := q1
  cases r1
  refine wpAny_truthy_bool ?_
  cases c with
  | true => exact hb pins s1 σ H1 Q I1 q1
  | false => exact ⟨.bl false, H1, I1, rfl, q1⟩
theorem pe_not (ha : PE X a ta) : PE X (.UnaryOp .Not a pos) (tNotV ta) := by
  intro pins s σ H Q I h
  refine UnaryOp_ (thn (ha pins s σ H _ I h) fun v s1 ⟨x, H1, I1, r1, q1⟩ => ?_)
  obtain ⟨c, rfl, q1⟩ := q1
  cases r1
  exact not_of (wpAny_truthy_bool ⟨.bl (!c), H1, I1, rfl, q1⟩)
def tIf (t : TT) (ta tb : TE) : TE := fun σ H Q => t σ H fun c H1 => if c = true then ta σ H1 Q else tb σ H1 Q
theorem pe_ifExp {c : Expr} (hc : PT X c tA) (ha : PE X a ta) (hb : PE X b tb) : PE X (.IfExp c a b pos) (tIf tA ta tb) := by
  intro pins s σ H Q I h
  refine wpAny_IfExp (thn (hc pins s σ H _ I h) fun d s1 ⟨H1, I1, q1⟩ => ?_)
  cases d with
  | true => exact ha pins s1 σ H1 Q I1 q1
  | false => exact hb pins s1 σ H1 Q I1 q1
end
end L2
namespace L2
open PySem PySem.Spec PyProof.Rows
def SqL (K : PySem.W.Frag) (H : Hp) (a : Addr) (xs : List V) : Prop :=
  Rd H a (.lst xs) ∨
    ∃ (o : Obj) (its : Array Value) (n : Nat), K.lookup a = some o ∧ o.cls = .type "list" ∧ o.dict = none ∧ o.data = .seq its n ∧ its.size ≤ sizeLine ∧ Vals xs its.toList
def SqT (K : PySem.W.Frag) (H : Hp) (a : Addr) (xs : List V) : Prop :=
  Rd H a (.tup xs) ∨
    ∃ (o : Obj) (its : Array Value) (n : Nat), K.lookup a = some o ∧ o.cls = .type "tuple" ∧ o.dict = none ∧ o.data = .seq its n ∧ its.size ≤ sizeLine ∧ Vals xs its.toList
def absV : Value → Option V
  | .none => some .non
  | .bool b => some (.bl b)
  | .int i _ => some (.int i)
  | .str x _ => some (.str x)
  | .bytes b _ => some (.byt b)
  | .float b _ => some (.flt b)
  | .ref a => some (.ref a)
  | .type n => some (.ty n)
  | _ => none
theorem RelV.abs {x : V} {u : Value} (r : RelV x u) : absV u = some x := by
  cases x with
  | non => cases r; rfl
  | bl _ => cases r; rfl
  | int _ => obtain ⟨t, rfl⟩ := r; rfl
  | str _ => obtain ⟨t, rfl⟩ := r; rfl
  | byt _ => obtain ⟨t, rfl⟩ := r; rfl
  | flt _ => obtain ⟨t, rfl⟩ := r; rfl
  | ref _ => cases r; rfl
  | ty _ => cases r; rfl
theorem RelV.inj {x y : V} {u : Value} (r : RelV x u) (q : RelV y u) : x = y := Option.some.inj (r.abs.symm.trans q.abs)
theorem Vals.inj : ∀ {xs ys : List V} {us : List Value}, Vals xs us → Vals ys us → xs = ys
  | _, _, _, .nil, .nil => rfl
  | _, _, _, .cons r t, .cons r' t' => by rw [r.inj r', Vals.inj t t']
section
variable {X : Cx} {pins : List (Addr × Obj)} {σ : St} {H : Hp} {s : Shared} {a : Addr} {xs ys : List V}
theorem SqL.of {K : PySem.W.Frag} (h : H a = some (.lst xs)) : SqL K H a xs := .inl (.inl h)
theorem SqT.of {K : PySem.W.Frag} (h : H a = some (.tup xs)) : SqT K H a xs := .inl (.inl h)
theorem Inv.list (I : Inv X pins σ H s) (h : SqL X.K H a xs) : ∃ its : List Value, Vals xs its ∧ PlainL s.heap a its.toArray ∧ xs.length ≤ sizeLine := by
  rcases h with h | ⟨o, its, n, hk, hc, hd, hs, hz, r⟩
  · obtain ⟨z, its, n, r, e⟩ := h.ok I.hok
    exact ⟨its, r, ⟨_, n, e, rfl, rfl, rfl⟩, z⟩
  · refine ⟨its.toList, r, ⟨o, n, I.kIn a o hk, hc, hd, by simpa using hs⟩, ?_⟩
    have e := r.length
    simp only [Array.length_toList] at e
    omega
theorem Inv.tuple (I : Inv X pins σ H s) (h : SqT X.K H a xs) : ∃ its : List Value, Vals xs its ∧ IsTup s.heap a its.toArray ∧ xs.length ≤ sizeLine := by
  rcases h with h | ⟨o, its, n, hk, hc, _, hs, hz, r⟩
  · obtain ⟨z, its, r, p⟩ := h.ok I.hok
    exact ⟨its, r, p.tup, z⟩
  · refine ⟨its.toList, r, ⟨o, I.kIn a o hk, hc, n, by simpa using hs⟩, ?_⟩
    have e := r.length
    simp only [Array.length_toList] at e
    omega
theorem Inv.list_inj (I : Inv X pins σ H s) (h : SqL X.K H a xs) (h' : SqL X.K H a ys) : xs = ys := by
  obtain ⟨its, r, ⟨o, n, e, _, _, d⟩, _⟩ := I.list h
  obtain ⟨its', r', ⟨o', n', e', _, _, d'⟩, _⟩ := I.list h'
  rw [e] at e'; cases e'
  rw [d] at d'
  injection d' with d1 _
  have : its = its' := by simpa using congrArg Array.toList d1
  subst this
  exact r.inj r'
theorem Inv.tuple_inj (I : Inv X pins σ H s) (h : SqT X.K H a xs) (h' : SqT X.K H a ys) : xs = ys := by
  obtain ⟨its, r, ⟨o, e, _, n, d⟩, _⟩ := I.tuple h
  obtain ⟨its', r', ⟨o', e', _, n', d'⟩, _⟩ := I.tuple h'
  rw [e] at e'; cases e'
  rw [d] at d'
  injection d' with d1 _
  have : its = its' := by simpa using congrArg Array.toList d1
  subst this
  exact r.inj r'
end
abbrev Cx.wish (X : Cx) (E : Value → Shared → Prop) : Cx := { X with xe := E }
abbrev Cx.nox (X : Cx) : Cx := X.wish fun _ _ => False
theorem Cx.Ok.wish {X : Cx} (ok : X.Ok) (E : Value → Shared → Prop) : (X.wish E).Ok :=
  ⟨ok.mod, ok.kind, ok.glob, ok.blt, ok.above, ok.inj, ok.has, ok.cab, ok.hd, ok.frames, ok.stk, ok.exf, ok.bs, ok.bsz, ok.noex, ok.exfs, ok.funs, ok.frf⟩
theorem Cx.Ok.unwish {X : Cx} {E : Value → Shared → Prop} (ok : (X.wish E).Ok) : X.Ok :=
  ⟨ok.mod, ok.kind, ok.glob, ok.blt, ok.above, ok.inj, ok.has, ok.cab, ok.hd, ok.frames, ok.stk, ok.exf, ok.bs, ok.bsz, ok.noex, ok.exfs, ok.funs, ok.frf⟩
section
variable {X : Cx} {pins : List (Addr × Obj)} {σ : St} {H : Hp} {s : Shared} {E : Value → Shared → Prop}
theorem Inv.wish (I : Inv X pins σ H s) (E : Value → Shared → Prop) : Inv (X.wish E) pins σ H s := ⟨I.ok.wish E, I.os, I.bare, I.base, I.loc, I.cell, I.free, I.freeC, I.pin, I.hok, I.len⟩
theorem Inv.unwish (I : Inv (X.wish E) pins σ H s) : Inv X pins σ H s := ⟨I.ok.unwish, I.os, I.bare, I.base, I.loc, I.cell, I.free, I.freeC, I.pin, I.hok, I.len⟩
theorem SP.unwish {D : Ends} {f : Flow} {s' : Shared} (h : SP (X.wish E) pins D f s') : SP X pins D f s' := by
  cases f with
  | next => obtain ⟨σ', H', I, q⟩ := h; exact ⟨σ', H', I.unwish, q⟩
  | brk => obtain ⟨σ', H', I, q⟩ := h; exact ⟨σ', H', I.unwish, q⟩
  | cont => obtain ⟨σ', H', I, q⟩ := h; exact ⟨σ', H', I.unwish, q⟩
  | ret u => obtain ⟨v, σ', H', I, r, q⟩ := h; exact ⟨v, σ', H', I.unwish, r, q⟩
theorem PE.nox {e : Expr} {t : TE} (h : PE X.nox e t) : PE X e t := fun pins s σ H Q I hw =>
  wpAny_mono (h pins s σ H Q (I.wish _) hw) (fun _ _ ⟨v, H', I', r, q⟩ => ⟨v, H', I'.unwish, r, q⟩) fun _ _ z => False.elim z
theorem PT.nox {e : Expr} {t : TT} (h : PT X.nox e t) : PT X e t := fun pins s σ H Q I hw =>
  wpAny_mono (h pins s σ H Q (I.wish _) hw) (fun _ _ ⟨H', I', q⟩ => ⟨H', I'.unwish, q⟩) fun _ _ z => False.elim z
theorem PSs.nox {st : List Stmt} {t : TS} (h : PSs X.nox st t) : PSs X st t := fun pins s σ H D I hw =>
  wpAny_mono (h pins s σ H D (I.wish _) hw) (fun _ _ q => q.unwish) fun _ _ z => False.elim z
end
section
variable {X : Cx} {st : Stmt} {rest : List Stmt} {t u : TS} {e : Expr} {te : TE} {pos : Pos}
def tNext : TS := fun D σ H => D.nx σ H
def tSeq (t u : TS) : TS := fun D σ H => t { D with nx := u D } σ H
theorem pss_nil : PSs X [] tNext := fun _ _ σ H _ I h => wpAny_execs_nil ⟨σ, H, I, h⟩
theorem pss_cons (h1 : PS X st t) (h2 : PSs X rest u) : PSs X (st :: rest) (tSeq t u) := by
  intro pins s σ H D I h
  refine wpAny_execs_cons (thn (h1 pins s σ H { D with nx := u D } I h) fun f s1 q => ?_)
  cases f with
  | next =>
    obtain ⟨σ', H', I', q⟩ := q
    exact h2 pins s1 σ' H' D I' q
  | ret v => exact q
  | brk => exact q
  | cont => exact q
theorem pss_one (h1 : PS X st t) : PSs X [st] t := by
  intro pins s σ H D I h
  refine wpAny_execs_cons (thn (h1 pins s σ H D I h) fun f s1 q => ?_)
  cases f with
  | next => exact wpAny_execs_nil q
  | ret v => exact q
  | brk => exact q
  | cont => exact q
theorem Inv.quiet {pins : List (Addr × Obj)} {σ : St} {H : Hp} {s : Shared} (I : Inv X pins σ H s) : interactive X.env = false := by simp [interactive, I.ok.kind]
def tDrop (te : TE) : TS := fun D σ H => te σ H fun _ H1 => D.nx σ H1
theorem ps_expr (he : PE X e te) (hs : swapsWith e none pos.line X.env = pure false := by rfl) : PS X (.Expr e pos) (tDrop te) := by
  intro pins s σ H D I h
  exact wpAny_Expr_any (thn (he pins s σ H _ I h) fun v s1 ⟨x, H1, I1, r1, q1⟩ => ⟨σ, H1, I1, q1⟩) I.quiet hs
def tRet (te : TE) : TS := fun D σ H => te σ H D.rt
theorem ps_ret (he : PE X e te) : PS X (.Return (some e) pos) (tRet te) := by
  intro pins s σ H D I h
  exact wpAny_Return_some (thn (he pins s σ H _ I h) fun v s1 ⟨x, H1, I1, r1, q1⟩ => ⟨x, σ, H1, I1, r1, q1⟩)
def tIfS (c : TT) (t u : TS) : TS := fun D σ H => c σ H fun b H1 => if b = true then t D σ H1 else u D σ H1
theorem ps_if {c : Expr} {a b : List Stmt} {tc : TT} (hc : PT X c tc) (ha : PSs X a t) (hb : PSs X b u) : PS X (.If c a b pos) (tIfS tc t u) := by
  intro pins s σ H D I h
  refine wpAny_If (thn (hc pins s σ H _ I h) fun d s1 ⟨H1, I1, q1⟩ => ?_)
  cases d with
  | true => exact ha pins s1 σ H1 D I1 q1
  | false => exact hb pins s1 σ H1 D I1 q1
end
abbrev TG := V → St → Hp → (St → Hp → Prop) → Prop
abbrev TGs := List V → St → Hp → (St → Hp → Prop) → Prop
def PG (X : Cx) (target : Expr) (t : TG) : Prop :=
  ∀ (pins : List (Addr × Obj)) (s : Shared) (σ : St) (H : Hp) (v : V) (u : Value) (Q : St → Hp → Prop), Inv X pins σ H s → RelV v u → t v σ H Q →
    wpAny (model X.prog X.w) X.A (assign target X.env u) (fun _ s' => ∃ σ' H', Inv X pins σ' H' s' ∧ Q σ' H') X.xe s
def PGs (X : Cx) (ts : List Expr) (t : TGs) : Prop :=
  ∀ (pins : List (Addr × Obj)) (s : Shared) (σ : St) (H : Hp) (vs : List V) (us : List Value) (Q : St → Hp → Prop), Inv X pins σ H s → Vals vs us → t vs σ H Q →
    wpAny (model X.prog X.w) X.A (assignInOrder ((assignEach ts X.env).map (·.2)) us) (fun _ s' => ∃ σ' H', Inv X pins σ' H' s' ∧ Q σ' H') X.xe s
section
variable {X : Cx} {pos : Pos}
def gName (i : Nat) : TG := fun v σ H Q => Q (σ.set i (some v)) H
theorem pg_name {i : Nat} {x : Str} (hN : X.N.Nodup) (hi : X.N[i]? = some x) (hx : Loc X.env.scope x) (hf : X.fn x = true ∨ X.env.scope.names.lookup x = some .local := by first | exact .inl rfl | exact .inr rfl | assumption) : PG X (.Name x pos) (gName i) := by
  intro pins s σ H v u Q I r h
  exact wpAny_assign_Name (store_ok I hN hi hx r (fun s' I' => ⟨_, H, I', h⟩) hf)
def gNil : TGs := fun vs σ H Q => vs = [] ∧ Q σ H
def gCons (t : TG) (u : TGs) : TGs := fun vs σ H Q => ∃ v r, vs = v :: r ∧ t v σ H fun σ' H' => u r σ' H' Q
theorem pgs_nil : PGs X [] gNil := by
  intro pins s σ H vs us Q I r h
  obtain ⟨e, h⟩ := h
  subst e
  cases r
  exact assignInOrder_nil ⟨σ, H, I, h⟩
theorem pgs_cons {e : Expr} {es : List Expr} {t : TG} {u : TGs} (h1 : PG X e t) (h2 : PGs X es u)
    (hs : (assignEach (e :: es) X.env).map (·.2) = assign e X.env :: (assignEach es X.env).map (·.2) := by rfl) : PGs X (e :: es) (gCons t u) := by
  intro pins s σ H vs us Q I r h
  obtain ⟨v, vr, e1, h⟩ := h
  subst e1
  cases r with
  | cons r rr =>
    rw [hs]
    refine assignInOrder_cons (thn (h1 pins s σ H _ _ _ I r h) fun _ s1 ⟨σ1, H1, I1, q1⟩ => ?_)
    exact h2 pins s1 σ1 H1 _ _ Q I1 rr q1
def gTup (K : PySem.W.Frag) (n : Nat) (t : TGs) : TG := fun v σ H Q => ∃ a xs, v = .ref a ∧ SqT K H a xs ∧ xs.length = n ∧ t xs σ H Q
theorem pg_tup {es : List Expr} {k : Nat} {t : TGs} {n : Nat} (hc : X.calm = true) (h : PGs X es t)
    (hn : (assignEach es X.env).length = n := by rfl) (hst : (assignEach es X.env).findIdx? (·.1) = none := by rfl) : PG X (.Tuple es k pos) (gTup X.K n t) := by
  intro pins s σ H v u Q I r hw
  obtain ⟨a, xs, e1, hq, hl, hw⟩ := hw
  subst e1
  cases r
  obtain ⟨its, rv, ht, hz⟩ := I.tuple hq
  refine assign_Tuple_tuple (I.ok.hd hc) ht (by simp [hn, ← hl, rv.length]) hst fun h' hx => ?_
  have I1 : Inv X pins σ H { s with heap := h' } := I.kept (t' := s.toks) fun b o e => hx b o (Nat.ne_of_lt (Heap.lt_size e)) e
  exact h pins _ σ H xs _ Q I1 (by simpa using rv) hw
def tAsg (te : TE) (g : TG) : TS := fun D σ H => te σ H fun x H1 => g x σ H1 D.nx
theorem ps_asg {tg e : Expr} {te : TE} {g : TG} (he : PE X e te) (hg : PG X tg g) (hs : swapsWithSole [tg] e pos.line X.env = pure false := by rfl) (hw : swappedStores [tg] e X.env = pure none := by rfl)
    (h1 : (assignEach [tg] X.env).map (·.2) = [assign tg X.env] := by rfl) : PS X (.Assign [tg] e pos) (tAsg te g) := by
  intro pins s σ H D I h
  refine wpAny_Assign_stores (thn (he pins s σ H _ I h) fun v s1 ⟨x, H1, I1, r1, q1⟩ => ?_) hs hw
  rw [h1]
  exact thn (hg pins s1 σ H1 x v _ I1 r1 q1) fun _ s2 q => q
theorem ps_set {i : Nat} {x : Str} {e : Expr} {te : TE} {pos' : Pos} (hN : X.N.Nodup) (hi : X.N[i]? = some x) (hx : Loc X.env.scope x) (he : PE X e te) (hs : swapsWith e (some (.Name x pos')) pos.line X.env = pure false := by rfl) (hf : X.fn x = true ∨ X.env.scope.names.lookup x = some .local := by first | exact .inl rfl | exact .inr rfl | assumption) :
    PS X (.Assign [.Name x pos'] e pos) (tAsg te (gName i)) := by
  intro pins s σ H D I h
  refine wpAny_Assign_Name (thn (he pins s σ H _ I h) fun v s1 ⟨y, H1, I1, r1, q1⟩ => ?_) hs
  exact store_ok I1 hN hi hx r1 (fun s2 I2 => ⟨_, H1, I2, q1⟩) hf
end
section
variable {X : Cx} {pos : Pos}
end
structure It where
  go : Nat → Hp → Prop
  yld : Nat → Hp → V → Hp → Prop
  stop : Nat → Hp → Prop
def FpOk (X : Cx) (pins : List (Addr × Obj)) (H : Hp) (b : Addr) : Prop :=
  H b = none ∧ b ≠ X.env.locals ∧ b ∉ X.fs ∧ (b ∈ X.ex ∨ X.s₀.heap.objs.size ≤ b) ∧ (∀ x c, X.env.cells.lookup x = some c → c ≠ b) ∧ ∀ p ∈ X.pn ++ pins, p.1 ≠ b
theorem Inv.fpOk {X : Cx} {pins : List (Addr × Obj)} {σ : St} {H H' : Hp} {s : Shared} {b : Addr} (I : Inv X pins σ H s) (hb : s.heap.objs.size ≤ b) (hn : H' b = none) : FpOk X pins H' b := by
  refine ⟨hn, Nat.ne_of_gt (Nat.lt_of_lt_of_le I.lt hb), I.nofs hb, .inr (Nat.le_trans I.sz hb), fun x c e z => ?_, fun p hp z => ?_⟩
  · obtain ⟨v, q⟩ := I.cell x c e
    exact absurd (Nat.lt_of_lt_of_le q.lt (by rw [z]; exact hb)) (Nat.lt_irrefl _)
  · exact absurd (Nat.lt_of_lt_of_le (Heap.lt_size (I.pin p hp).1) (by rw [z]; exact hb)) (Nat.lt_irrefl _)
structure Turn (P : Program) (w : World) (K : PySem.W.Frag) (tg : Expr) (J : It) (fp : List Addr) (it : Addr) (tn : Nat → Heap → Prop) : Prop where
  mem : it ∈ fp
  obj : ∀ i h, tn i h → ∀ b ∈ fp, ∃ o, h.get? b = some o ∧ ∀ v, o.data ≠ .cell v
  keep : ∀ i h h', tn i h → (∀ b ∈ fp, ∀ o, h.get? b = some o → h'.get? b = some o) → tn i h'
  item : ∀ (X : Cx), X.prog = P → X.w = w → X.K = K → X.calm = true → ∀ (i : Nat) (pins : List (Addr × Obj)) (s : Shared) (σ : St) (H : Hp) (E : Value → Shared → Prop), Inv X pins σ H s → (∀ b ∈ fp, FpOk X pins H b) → tn i s.heap → J.go i H →
    wpAny (model P w) X.A (pyNext (.ref it)) (fun r s1 => ∃ u, r = some u ∧
      wpAny (model P w) X.A (letOwnedTupleGo tg (.ref it) u) (fun _ s2 => ∃ x H', Inv X pins σ H' s2 ∧ RelV x u ∧ J.yld i H x H' ∧ tn (i + 1) s2.heap ∧ ∀ b ∈ fp, H' b = none) E s1) E s
  done : ∀ (X : Cx), X.prog = P → X.w = w → X.K = K → X.calm = true → ∀ (i : Nat) (pins : List (Addr × Obj)) (s : Shared) (σ : St) (H : Hp) (E : Value → Shared → Prop), Inv X pins σ H s → (∀ b ∈ fp, FpOk X pins H b) → tn i s.heap → J.stop i H →
    wpAny (model P w) X.A (pyNext (.ref it)) (fun r s1 => r = none ∧ Inv X pins σ H s1) E s
  self : ∀ (A : Around) (i : Nat) (s : Shared) (Q : Value → Shared → Prop) (E : Value → Shared → Prop), tn i s.heap → Q (.ref it) s → wpAny (model P w) A (pyIter (.ref it)) Q E s
abbrev TI := St → Hp → (It → Hp → Prop) → Prop
def PIE (X : Cx) (pins : List (Addr × Obj)) (σ : St) (tg : Expr) (R : It → Hp → Prop) (itv : Value) (s2 : Shared) : Prop :=
  ∃ (it : Addr) (fp : List Addr) (tn : Nat → Heap → Prop) (J : It) (H' : Hp), itv = .ref it ∧ Inv X pins σ H' s2 ∧ Turn X.prog X.w X.K tg J fp it tn ∧ tn 0 s2.heap ∧ (∀ b ∈ fp, FpOk X pins H' b) ∧ R J H'
def PI (X : Cx) (tg iter : Expr) (wi : TI) : Prop :=
  ∀ (pins : List (Addr × Obj)) (s : Shared) (σ : St) (H : Hp) (R : It → Hp → Prop), Inv X pins σ H s → wi σ H R →
    wpAny (model X.prog X.w) X.A (eval iter X.env) (fun v s1 => wpAny (model X.prog X.w) X.A (pyIter v) (PIE X pins σ tg R) X.xe s1) X.xe s
theorem go_of {M : Model} {A : Around} {E : Value → Shared → Prop} {s : Shared} {tg : Expr} {it : Addr} {u : Value} {o : Obj} {n : String} {vs : Array Value} {Q : Unit → Shared → Prop} (ho : s.heap.get? it = some o) (hc : o.cls = .type n) (hd : o.data = .fields vs)
    (hn : ["enumerate", "zip", "dict_itemiterator", "dict_reverseitemiterator", "odict_iterator", "itertools.zip_longest", "itertools.pairwise"].contains n = false) (hQ : Q () s) : wpAny M A (letOwnedTupleGo tg (.ref it) u) Q E s := by
  unfold letOwnedTupleGo
  cases tg <;> first
    | exact wpAny_pure hQ
    | (cases u <;> first
        | exact wpAny_pure hQ
        | (refine wpAny_bind (wpAny_load ho ?_)
           rw [hc, hd]
           show wpAny M A (if (["enumerate", "zip", "dict_itemiterator", "dict_reverseitemiterator", "odict_iterator", "itertools.zip_longest", "itertools.pairwise"].contains n && vs[0]? == some (rawInt _)) = true then _ else _) Q E s
           rw [if_neg (by intro h; rw [hn, Bool.false_and] at h; cases h)]
           exact wpAny_pure hQ))
def Itl (K : PySem.W.Frag) (a : Addr) : It :=
  ⟨fun i H => ∃ xs x, SqL K H a xs ∧ xs[i]? = some x, fun i H x H' => H' = H ∧ ∀ xs, SqL K H a xs → xs[i]? = some x, fun i H => ∃ xs, SqL K H a xs ∧ xs.length ≤ i⟩
def Itt (K : PySem.W.Frag) (a : Addr) : It :=
  ⟨fun i H => ∃ xs x, SqT K H a xs ∧ xs[i]? = some x, fun i H x H' => H' = H ∧ ∀ xs, SqT K H a xs → xs[i]? = some x, fun i H => ∃ xs, SqT K H a xs ∧ xs.length ≤ i⟩
def Itr (lo : Int) (n : Nat) : It := ⟨fun i _ => i < n, fun i H x H' => H' = H ∧ x = .int (lo + i), fun i _ => n ≤ i⟩
theorem turn_list {P : Program} {w : World} {K : PySem.W.Frag} {tg : Expr} (a it : Addr) : Turn P w K tg (Itl K a) [it] it (fun i h => h.IsListIter it a i) where
  mem := by simp
  obj := fun i h st b hb => by
    have e : b = it := by simpa using hb
    subst e
    obtain ⟨o, e, c, d⟩ := st
    exact ⟨o, e, fun v z => by rw [d] at z; cases z⟩
  keep := fun i h h' st k => st.at fun o e => k it (by simp) o e
  item := by
    intro X hP hw hK hc i pins s σ H E I hf st hg
    subst hP hw hK
    obtain ⟨xs, x, hq, hx⟩ := hg
    obtain ⟨its, rv, p, hz⟩ := I.list hq
    obtain ⟨u, hu, ru⟩ := rv.get hx
    obtain ⟨f0, f1, f2, f3, f4, f5⟩ := hf it (by simp)
    refine wpAny_pyNext_list_item st p.isList (x := u) (by simpa using hu) fun h' st' sb => ?_
    have I1 : Inv X pins σ H { s with heap := h' } := I.turned (t' := s.toks) (fun b o hb e => (sb.2 b hb).trans e) f0 f1 f3 f4 f5
    obtain ⟨o, e, c, d⟩ := id st'
    exact ⟨u, rfl, go_of (s := { s with heap := h' }) e c d (by decide) ⟨x, H, I1, ru, ⟨rfl, fun ys hy => by rw [I.list_inj hy hq]; exact hx⟩, st', fun b hb => (hf b hb).1⟩⟩
  done := by
    intro X hP hw hK hc i pins s σ H E I hf st hg
    subst hP hw hK
    obtain ⟨xs, hq, hx⟩ := hg
    obtain ⟨its, rv, p, hz⟩ := I.list hq
    obtain ⟨f0, f1, f2, f3, f4, f5⟩ := hf it (by simp)
    have hl := rv.length
    exact wpAny_pyNext_list_end (I.ok.hd hc) st p.isList (by simp; omega) fun h' eb => ⟨rfl, I.turned (t' := s.toks) (fun b o hb e => eb b o hb e) f0 f1 f3 f4 f5⟩
  self := fun _ _ _ _ _ st h => wpAny_pyIter_listiter st h
theorem turn_tuple {P : Program} {w : World} {K : PySem.W.Frag} {tg : Expr} (a it : Addr) : Turn P w K tg (Itt K a) [it] it (fun i h => h.IsTupleIter it a i) where
  mem := by simp
  obj := fun i h st b hb => by
    have e : b = it := by simpa using hb
    subst e
    obtain ⟨o, e, c, d⟩ := st
    exact ⟨o, e, fun v z => by rw [d] at z; cases z⟩
  keep := fun i h h' st k => st.at fun o e => k it (by simp) o e
  item := by
    intro X hP hw hK hc i pins s σ H E I hf st hg
    subst hP hw hK
    obtain ⟨xs, x, hq, hx⟩ := hg
    obtain ⟨its, rv, p, hz⟩ := I.tuple hq
    obtain ⟨u, hu, ru⟩ := rv.get hx
    obtain ⟨f0, f1, f2, f3, f4, f5⟩ := hf it (by simp)
    refine wpAny_pyNext_tuple_item st (show s.heap.IsTuple a its.toArray from p) (x := u) (by simpa using hu) fun h' st' sb => ?_
    have I1 : Inv X pins σ H { s with heap := h' } := I.turned (t' := s.toks) (fun b o hb e => (sb.2 b hb).trans e) f0 f1 f3 f4 f5
    obtain ⟨o, e, c, d⟩ := id st'
    exact ⟨u, rfl, go_of (s := { s with heap := h' }) e c d (by decide) ⟨x, H, I1, ru, ⟨rfl, fun ys hy => by rw [I.tuple_inj hy hq]; exact hx⟩, st', fun b hb => (hf b hb).1⟩⟩
  done := by
    intro X hP hw hK hc i pins s σ H E I hf st hg
    subst hP hw hK
    obtain ⟨xs, hq, hx⟩ := hg
    obtain ⟨its, rv, p, hz⟩ := I.tuple hq
    obtain ⟨f0, f1, f2, f3, f4, f5⟩ := hf it (by simp)
    have hl := rv.length
    exact wpAny_pyNext_tuple_end (I.ok.hd hc) st (show s.heap.IsTuple a its.toArray from p) (by simp; omega) fun h' eb => ⟨rfl, I.turned (t' := s.toks) (fun b o hb e => eb b o hb e) f0 f1 f3 f4 f5⟩
  self := fun _ _ _ _ _ st h => wpAny_pyIter_tupleiter st h
theorem turn_range {P : Program} {w : World} {K : PySem.W.Frag} {tg : Expr} (it : Addr) (lo : Int) (n : Nat) : Turn P w K tg (Itr lo n) [it] it (fun i h => IsRangeIter h it (lo + (i : Nat) * 1) ((n : Int) - (i : Nat)) 1) where
  mem := by simp
  obj := fun i h st b hb => by
    have e : b = it := by simpa using hb
    subst e
    exact ⟨_, st, fun v z => by
      have z' : Data.fields _ = Data.cell v := z
      cases z'⟩
  keep := fun i h h' st k => k it (by simp) _ st
  item := by
    intro X hP hw hK hc i pins s σ H E I hf st hg
    subst hP hw hK
    obtain ⟨f0, f1, f2, f3, f4, f5⟩ := hf it (by simp)
    have W := Walks.range (prog := X.prog) (w := X.w) (I.ok.hd hc) it lo 1 n
    refine W.item i s _ _ hg st fun v h' tk hv st' kk => ?_
    obtain ⟨t, rfl⟩ := hv
    have I1 : Inv X pins σ H { s with heap := h', toks := tk } := I.turned (fun b o hb e => kk b o (by simpa using hb) e) f0 f1 f3 f4 f5
    refine ⟨_, rfl, go_of (s := { s with heap := h', toks := tk }) (n := "range_iterator") st' rfl rfl (by decide) ⟨.int (lo + i), H, I1, ⟨t, ?_⟩, ⟨rfl, rfl⟩, st', fun b hb => (hf b hb).1⟩⟩
    rw [Int.mul_one]
  done := by
    intro X hP hw hK hc i pins s σ H E I hf st hg
    subst hP hw hK
    obtain ⟨f0, f1, f2, f3, f4, f5⟩ := hf it (by simp)
    exact wpAny_pyNext_range_end (I.ok.hd hc) st (by have : n ≤ i := hg; omega) fun h' eb => ⟨rfl, I.turned (t' := s.toks) (fun b o hb e => eb b o hb e) f0 f1 f3 f4 f5⟩
  self := fun _ _ _ _ _ st h => wpAny_pyIter_rangeiter st h
end L2
namespace L2
open PySem PySem.Spec PyProof.Rows
section
variable {X : Cx} {tg : Expr}
def iList (K : PySem.W.Frag) (tl : TE) : TI := fun σ H R => tl σ H fun x H1 => ∃ a, x = .ref a ∧ (∃ xs, SqL K H1 a xs) ∧ R (Itl K a) H1
def iTup (K : PySem.W.Frag) (tl : TE) : TI := fun σ H R => tl σ H fun x H1 => ∃ a, x = .ref a ∧ (∃ xs, SqT K H1 a xs) ∧ R (Itt K a) H1
theorem pi_list {l : Expr} {tl : TE} (hl : PE X l tl) : PI X tg l (iList X.K tl) := by
  intro pins s σ H R I h
  refine thn (hl pins s σ H _ I h) fun v s1 ⟨x, H1, I1, r1, q1⟩ => ?_
  obtain ⟨a, e, ⟨xs, hq⟩, q⟩ := q1
  subst e
  cases r1
  obtain ⟨its, rv, p, hz⟩ := I1.list hq
  refine wpAny_pyIter_list p.isList ?_
  refine ⟨s1.heap.objs.size, [s1.heap.objs.size], _, _, H1, rfl, I1.kept (t' := s1.toks) fun b o e => Heap.get?_push_of_some _ e, turn_list a _, ⟨_, Heap.get?_push_size _ rfl, rfl, rfl⟩, fun b hb => ?_, q⟩
  have e : b = s1.heap.objs.size := by simpa using hb
  subst e
  exact I1.fpOk (Nat.le_refl _) (I1.hok.fresh (Nat.le_refl _))
theorem pi_tup {l : Expr} {tl : TE} (hl : PE X l tl) : PI X tg l (iTup X.K tl) := by
  intro pins s σ H R I h
  refine thn (hl pins s σ H _ I h) fun v s1 ⟨x, H1, I1, r1, q1⟩ => ?_
  obtain ⟨a, e, ⟨xs, hq⟩, q⟩ := q1
  subst e
  cases r1
  obtain ⟨its, rv, p, hz⟩ := I1.tuple hq
  refine wpAny_pyIter_tuple (show s1.heap.IsTuple a its.toArray from p) ?_
  refine ⟨s1.heap.objs.size, [s1.heap.objs.size], _, _, H1, rfl, I1.kept (t' := s1.toks) fun b o e => Heap.get?_push_of_some _ e, turn_tuple a _, ⟨_, Heap.get?_push_size _ rfl, rfl, rfl⟩, fun b hb => ?_, q⟩
  have e : b = s1.heap.objs.size := by simpa using hb
  subst e
  exact I1.fpOk (Nat.le_refl _) (I1.hok.fresh (Nat.le_refl _))
theorem range_it {pins : List (Addr × Obj)} {σ : St} {H : Hp} {s : Shared} {R : It → Hp → Prop} {E : Value → Shared → Prop} {lo hi : Int} {t u v : Tok} {tk : Nat} (I : Inv X pins σ H s) (h1 : -(2 ^ 62) ≤ lo) (h2 : lo < 2 ^ 62) (h3 : -(2 ^ 62) ≤ hi) (h4 : hi < 2 ^ 62)
    (q : R (Itr lo (hi - lo).toNat) H) : wpAny (model X.prog X.w) X.A (pyIter (.ref s.heap.objs.size)) (PIE X pins σ tg R) E { s with heap := s.heap.push { cls := .type "range", data := .fields #[.int lo t, .int hi u, .int 1 v] }, toks := tk } := by
  refine wpAny_pyIter_range (IsRange.new ..) (small_one h1 h2 h3 h4) ?_
  have I1 : Inv X pins σ H { s with heap := s.heap.push { cls := .type "range", data := .fields #[.int lo t, .int hi u, .int 1 v] }, toks := tk } := I.kept fun b o e => Heap.get?_push_of_some _ e
  refine ⟨(s.heap.push { cls := .type "range", data := .fields #[.int lo t, .int hi u, .int 1 v] }).objs.size, [(s.heap.push { cls := .type "range", data := .fields #[.int lo t, .int hi u, .int 1 v] }).objs.size], _, _, H, rfl,
    I1.kept (t' := tk) fun b o e => Heap.get?_push_of_some _ e, turn_range _ lo (hi - lo).toNat, ?_, fun b hb => ?_, q⟩
  · have e1 : lo + ((0 : Nat) : Int) * 1 = lo := by simp
    have e2 : (((hi - lo).toNat : Nat) : Int) - ((0 : Nat) : Int) = Builtin.Range.rangeSize lo hi 1 := by rw [rangeSize_one]; split <;> omega
    show IsRangeIter _ _ (lo + ((0 : Nat) : Int) * 1) ((((hi - lo).toNat : Nat) : Int) - ((0 : Nat) : Int)) 1
    rw [e1, e2]
    exact Heap.get?_push_size _ rfl
  · have e : b = (s.heap.push { cls := .type "range", data := .fields #[.int lo t, .int hi u, .int 1 v] }).objs.size := by simpa using hb
    subst e
    exact I1.fpOk (Nat.le_refl _) (I1.hok.fresh (Nat.le_refl _))
def iRng1 (ta : TA) : TI := fun σ H R => ta σ H fun vs H1 => ∃ j : Int, vs = [.int j] ∧ -(2 ^ 62) ≤ j ∧ j < 2 ^ 62 ∧ R (Itr 0 j.toNat) H1
def iRng2 (ta : TA) : TI := fun σ H R => ta σ H fun vs H1 => ∃ i j : Int, vs = [.int i, .int j] ∧ (-(2 ^ 62) ≤ i ∧ i < 2 ^ 62 ∧ -(2 ^ 62) ≤ j ∧ j < 2 ^ 62) ∧ R (Itr i (j - i).toNat) H1
theorem pi_range1 {a : Expr} {ta : TA} {p pos : Pos} (hg : Gl X "range") (hm : X.mg "range" = none) (ha : PA X [a] ta) (hs : starEach [a] X.env = [(false, eval a X.env)] := by rfl) : PI X tg (.Call (.Name "range" p) [a] [] pos) (iRng1 ta) := by
  intro pins s σ H R I h
  refine Call_ (ld_blt I hg hm boot_range (PyProof.Rows.callWith_type1 (thn (ha pos pins s σ H _ I h) fun us s1 ⟨vs, H1, I1, r1, q1⟩ => ?_) hs rfl))
  obtain ⟨j, e, q1, q2, q⟩ := q1
  subst e
  cases r1 with
  | cons r rr =>
    cases rr
    obtain ⟨t, rfl⟩ := r
    exact call_range_1 (range_it I1 (by omega) (by omega) q1 q2 (by simpa using q))
theorem pi_range2 {a b : Expr} {ta : TA} {p pos : Pos} (hg : Gl X "range") (hm : X.mg "range" = none) (ha : PA X [a, b] ta) (hs : starEach [a, b] X.env = [(false, eval a X.env), (false, eval b X.env)] := by rfl) (hs2 : starEach [b] X.env = [(false, eval b X.env)] := by rfl) :
    PI X tg (.Call (.Name "range" p) [a, b] [] pos) (iRng2 ta) := by
  intro pins s σ H R I h
  refine Call_ (ld_blt I hg hm boot_range (PyProof.Rows.callWith_type1 (thn (ha pos pins s σ H _ I h) fun us s1 ⟨vs, H1, I1, r1, q1⟩ => ?_) (by rw [hs, hs2]) (by rw [hs2]; rfl)))
  obtain ⟨i, j, e, ⟨q1, q2, q3, q4⟩, q⟩ := q1
  subst e
  cases r1 with
  | cons r rr =>
    cases rr with
    | cons r' rr =>
      cases rr
      obtain ⟨t, rfl⟩ := r
      obtain ⟨t', rfl⟩ := r'
      exact call_range_2 (range_it I1 q1 q2 q3 q4 q)
def tFor (wi : TI) (g : TG) (tb : TS) : TS := fun D σ H => wi σ H fun J H1 => ∃ W : Nat → Nat → St → Hp → Prop, (∃ m, W 0 m σ H1) ∧ ∀ i m σ H, W i m σ H →
  (J.stop i H ∧ D.nx σ H) ∨ (J.go i H ∧ ∃ N : St → Hp → Prop, (∀ σ' H', N σ' H' → ∃ m', m' < m ∧ W (i + 1) m' σ' H') ∧ ∀ x H', J.yld i H x H' → g x σ H' fun σ2 H2 => tb { D with nx := N, ct := N, bk := D.nx } σ2 H2)
def pinsAt (fp : List Addr) (h : Heap) : List (Addr × Obj) := fp.filterMap fun b => (h.get? b).map fun o => (b, o)
theorem mem_pinsAt {fp : List Addr} {h : Heap} {b : Addr} {o : Obj} (hb : b ∈ fp) (e : h.get? b = some o) : (b, o) ∈ pinsAt fp h := List.mem_filterMap.mpr ⟨b, hb, by rw [e]; rfl⟩
theorem of_pinsAt {fp : List Addr} {h : Heap} {p : Addr × Obj} (hp : p ∈ pinsAt fp h) : p.1 ∈ fp ∧ h.get? p.1 = some p.2 := by
  obtain ⟨b, hb, e⟩ := List.mem_filterMap.mp hp
  cases q : h.get? b with
  | none => rw [q] at e; cases e
  | some o =>
    rw [q] at e
    have e' : (b, o) = p := Option.some.inj e
    subst e'
    exact ⟨hb, q⟩
theorem Inv.pinned {pins : List (Addr × Obj)} {σ : St} {H : Hp} {s : Shared} {fp : List Addr} (I : Inv X pins σ H s) (hf : ∀ b ∈ fp, FpOk X pins H b) (ho : ∀ b ∈ fp, ∃ o, s.heap.get? b = some o ∧ ∀ v, o.data ≠ .cell v) : Inv X (pins ++ pinsAt fp s.heap) σ H s :=
  I.pins_of fun p hp => (List.mem_append.mp hp).elim (fun z => I.pin p (List.mem_append_right _ z)) fun z => by
    obtain ⟨hb, e⟩ := of_pinsAt z
    obtain ⟨f0, f1, f2, _⟩ := hf p.1 hb
    obtain ⟨o, e', d⟩ := ho p.1 hb
    rw [e] at e'; cases e'
    exact ⟨e, f0, f1, f2, d⟩
theorem Inv.unpinned {pins pl : List (Addr × Obj)} {σ : St} {H : Hp} {s : Shared} (I : Inv X (pins ++ pl) σ H s) : Inv X pins σ H s := I.pins_of fun p hp => I.pin p (List.mem_append_right _ (List.mem_append_left _ hp))
theorem ps_for {iter : Expr} {body : List Stmt} {wi : TI} {g : TG} {tb : TS} {pos : Pos} (hp : PassesOwn (model X.prog X.w) X.A X.env X.xe) (hc : X.calm = true) (hi : PI X tg iter wi) (hg : PG X tg g) (hb : PSs X body tb)
    (hs : ∀ x, foldedSetIterable iter X.env x = pure x := by intro _; rfl) : PS X (.For tg iter body [] pos) (tFor wi g tb) := by
  intro pins s σ H D I h
  refine wpAny_For (thn (hi pins s σ H _ I h) fun v s1 h1 => thn h1 fun itv s2 h2 => ?_) hs
  obtain ⟨it, fp, tn, J, H2, e, I2, T, st2, f2, W, ⟨m0, w0⟩, turn⟩ := h2
  subst e
  have stat : ∀ {H' : Hp}, (∀ b ∈ fp, H' b = none) → ∀ b ∈ fp, FpOk X pins H' b := fun hn b hb => ⟨hn b hb, (f2 b hb).2⟩
  refine codeAny_forLoop_any (fun n s' => ∃ i σ' H', Inv X pins σ' H' s' ∧ tn i s'.heap ∧ (∀ b ∈ fp, H' b = none) ∧ W i n σ' H') ?_ m0 ⟨0, σ, H2, I2, st2, fun b hb => (f2 b hb).1, w0⟩
  rintro n s3 ⟨i, σ3, H3, I3, st3, fr3, w3⟩
  rcases turn i n σ3 H3 w3 with ⟨stop, qn⟩ | ⟨go, N, hN, step⟩
  · refine wpAny_passesOwn hp (thn (T.done X rfl rfl rfl hc i pins s3 σ3 H3 X.xe I3 (stat fr3) st3 stop) fun r s4 ⟨hr, I4⟩ => ?_)
    subst hr
    exact wpAny_execs_nil ⟨σ3, H3, I4, qn⟩
  · refine wpAny_passesOwn hp (thn (T.item X rfl rfl rfl hc i pins s3 σ3 H3 X.xe I3 (stat fr3) st3 go) fun r s4 ⟨u, hr, h4⟩ => ?_)
    subst hr
    refine wpAny_passesOwn hp (thn h4 fun _ s5 ⟨x, H5, I5, r5, y5, st5, fr5⟩ => ?_)
    have I5' := I5.pinned (stat fr5) (T.obj _ _ st5)
    refine wpAny_passesOwn hp (thn (hg _ s5 σ3 H5 x u _ I5' r5 (step x H5 y5)) fun _ s6 ⟨σ6, H6, I6, q6⟩ => ?_)
    refine wpAny_passesOwn hp (thn (hb _ s6 σ6 H6 _ I6 q6) fun f s7 q7 => ?_)
    have again : ∀ {σ7 : St} {H7 : Hp}, Inv X (pins ++ pinsAt fp s5.heap) σ7 H7 s7 → N σ7 H7 → ∃ m, m < n ∧ ∃ i σ' H', Inv X pins σ' H' s7 ∧ tn i s7.heap ∧ (∀ b ∈ fp, H' b = none) ∧ W i m σ' H' := fun {σ7 H7} I7 n7 => by
      obtain ⟨m', hm, w7⟩ := hN σ7 H7 n7
      refine ⟨m', hm, i + 1, σ7, H7, I7.unpinned, T.keep _ _ _ st5 fun b hb o e => (I7.pin (b, o) (List.mem_append_right _ (List.mem_append_right _ (mem_pinsAt hb e)))).1, fun b hb => ?_, w7⟩
      obtain ⟨o, e, d⟩ := T.obj _ _ st5 b hb
      exact (I7.pin (b, o) (List.mem_append_right _ (List.mem_append_right _ (mem_pinsAt hb e)))).2.1
    cases f with
    | next => obtain ⟨σ7, H7, I7, n7⟩ := q7; exact again I7 n7
    | cont => obtain ⟨σ7, H7, I7, n7⟩ := q7; exact again I7 n7
    | brk => obtain ⟨σ7, H7, I7, q7⟩ := q7; exact ⟨σ7, H7, I7.unpinned, q7⟩
    | ret v => obtain ⟨x7, σ7, H7, I7, r7, q7⟩ := q7; exact ⟨x7, σ7, H7, I7.unpinned, r7, q7⟩
end
end L2
namespace L2
open PySem PySem.Spec PyProof.Rows
abbrev R2 := V → V → Hp → VK → Prop
def OpR (X : Cx) (f : Value → Value → Sem Value) (r : R2) : Prop :=
  ∀ (pins : List (Addr × Obj)) (s : Shared) (σ : St) (H : Hp) (x y : V) (v u : Value) (Q : VK), Inv X pins σ H s → RelV x v → RelV y u → r x y H Q →
    wpAny (model X.prog X.w) X.A (f v u) (EP X pins σ Q) X.xe s
def UnR (X : Cx) (f : Value → Sem Value) (r : V → Hp → VK → Prop) : Prop :=
  ∀ (pins : List (Addr × Obj)) (s : Shared) (σ : St) (H : Hp) (x : V) (v : Value) (Q : VK), Inv X pins σ H s → RelV x v → r x H Q →
    wpAny (model X.prog X.w) X.A (f v) (EP X pins σ Q) X.xe s
def CallR (X : Cx) (f : Value) (r : List V → Hp → VK → Prop) : Prop :=
  ∀ (pins : List (Addr × Obj)) (s : Shared) (σ : St) (H : Hp) (xs : List V) (us : List Value) (Q : VK), Inv X pins σ H s → Vals xs us → r xs H Q →
    wpAny (model X.prog X.w) X.A (call f us) (EP X pins σ Q) X.xe s
def TruR (X : Cx) (r : V → Hp → (Bool → Hp → Prop) → Prop) : Prop :=
  ∀ (pins : List (Addr × Obj)) (s : Shared) (σ : St) (H : Hp) (x : V) (v : Value) (Q : Bool → Hp → Prop), Inv X pins σ H s → RelV x v → r x H Q →
    wpAny (model X.prog X.w) X.A (truthy v) (TP X pins σ Q) X.xe s
def tOp (r : R2) (ta tb : TE) : TE := fun σ H Q => ta σ H fun x H1 => tb σ H1 fun y H2 => r x y H2 Q
def tUn (r : V → Hp → VK → Prop) (ta : TE) : TE := fun σ H Q => ta σ H fun x H1 => r x H1 Q
def rI (C : Int → Int → Prop) (g : Int → Int → V) : R2 := fun x y H Q => ∃ i j, x = .int i ∧ y = .int j ∧ C i j ∧ Q (g i j) H
def rI0 (g : Int → Int → V) : R2 := fun x y H Q => ∃ i j, x = .int i ∧ y = .int j ∧ Q (g i j) H
def rU (g : Int → V) : V → Hp → VK → Prop := fun x H Q => ∃ i, x = .int i ∧ Q (g i) H
section
variable {X : Cx} {a b c : Expr} {ta tb tc : TE} {pos : Pos}
theorem binT (ha : PE X a ta) (hb : PE X b tb) {pins : List (Addr × Obj)} {s : Shared} {σ : St} {H : Hp} {R : V → V → Hp → Prop} (I : Inv X pins σ H s)
    (h : ta σ H fun x H1 => tb σ H1 fun y H2 => R x y H2) {Q : Value → Shared → Prop} {f : Value → Value → Sem Value}
    (hf : ∀ v u s2 x y H2, Inv X pins σ H2 s2 → RelV x v → RelV y u → R x y H2 → wpAny (model X.prog X.w) X.A (f v u) Q X.xe s2) :
    wpAny (model X.prog X.w) X.A (eval a X.env) (fun v s₁ => wpAny (model X.prog X.w) X.A (eval b X.env) (fun u s₂ => wpAny (model X.prog X.w) X.A (f v u) Q X.xe s₂) X.xe s₁) X.xe s := by
  refine thn (ha pins s σ H _ I h) fun v s1 ⟨x, H1, I1, r1, q1⟩ => ?_
  refine thn (hb pins s1 σ H1 _ I1 q1) fun u s2 ⟨y, H2, I2, r2, q2⟩ => ?_
  exact hf v u s2 x y H2 I2 r1 r2 q2
theorem pe_op {op : Operator} {r : R2} (ho : OpR X (binaryOp op) r) (ha : PE X a ta) (hb : PE X b tb) : PE X (.BinOp a op b pos) (tOp r ta tb) := by
  intro pins s σ H Q I h
  exact wpAny_BinOp (binT ha hb I h fun v u s2 x y H2 I2 rx ry q => ho pins s2 σ H2 x y v u Q I2 rx ry q)
theorem pe_un {op : UnaryOp} {r : V → Hp → VK → Prop} (ho : UnR X (unaryOp op) r) (ha : PE X a ta) : PE X (.UnaryOp op a pos) (tUn r ta) := by
  intro pins s σ H Q I h
  exact UnaryOp_ (thn (ha pins s σ H _ I h) fun v s1 ⟨x, H1, I1, r1, q1⟩ => ho pins s1 σ H1 x v Q I1 r1 q1)
theorem opI {f : Value → Value → Sem Value} {C : Int → Int → Prop} {g : Int → Int → Int}
    (rule : ∀ (i j : Int) (t u : Tok) (s : Shared) (Q : Value → Shared → Prop) (E : Value → Shared → Prop), C i j → Q (.int (g i j) s.toks) { s with toks := s.toks + 1 } → wpAny (model X.prog X.w) X.A (f (.int i t) (.int j u)) Q E s) :
    OpR X f (rI C fun i j => .int (g i j)) := by
  intro pins s σ H x y v u Q I rx ry h
  obtain ⟨i, j, rfl, rfl, hc, q⟩ := h
  obtain ⟨t, rfl⟩ := rx
  obtain ⟨t', rfl⟩ := ry
  exact rule i j t t' s _ _ hc ⟨.int (g i j), H, I.tok _, ⟨_, rfl⟩, q⟩
theorem opI0 {f : Value → Value → Sem Value} {g : Int → Int → Int}
    (rule : ∀ (i j : Int) (t u : Tok) (s : Shared) (Q : Value → Shared → Prop) (E : Value → Shared → Prop), Q (.int (g i j) s.toks) { s with toks := s.toks + 1 } → wpAny (model X.prog X.w) X.A (f (.int i t) (.int j u)) Q E s) :
    OpR X f (rI0 fun i j => .int (g i j)) := by
  intro pins s σ H x y v u Q I rx ry h
  obtain ⟨i, j, rfl, rfl, q⟩ := h
  obtain ⟨t, rfl⟩ := rx
  obtain ⟨t', rfl⟩ := ry
  exact rule i j t t' s _ _ ⟨.int (g i j), H, I.tok _, ⟨_, rfl⟩, q⟩
theorem opB0 {f : Value → Value → Sem Value} {g : Int → Int → Bool}
    (rule : ∀ (i j : Int) (t u : Tok) (s : Shared) (Q : Value → Shared → Prop) (E : Value → Shared → Prop), Q (.bool (g i j)) s → wpAny (model X.prog X.w) X.A (f (.int i t) (.int j u)) Q E s) :
    OpR X f (rI0 fun i j => .bl (g i j)) := by
  intro pins s σ H x y v u Q I rx ry h
  obtain ⟨i, j, rfl, rfl, q⟩ := h
  obtain ⟨t, rfl⟩ := rx
  obtain ⟨t', rfl⟩ := ry
  exact rule i j t t' s _ _ ⟨.bl (g i j), H, I, rfl, q⟩
def CPow (i j : Int) : Prop := 0 ≤ j ∧ j ≤ 1000000 ∧ i.natAbs < 2 ^ 64
def CMul (i j : Int) : Prop := (-(2 ^ 64) < i ∧ i < 2 ^ 64) ∨ (-(2 ^ 64) < j ∧ j < 2 ^ 64)
theorem CMul.ok {i j : Int} (h : CMul i j) : IntMulOk i j := by
  rcases h with ⟨h1, h2⟩ | ⟨h1, h2⟩
  · exact .of_left (intBits_le_64 h1 h2)
  · exact .of_right (intBits_le_64 h1 h2)
theorem two_pow_nn (k : Nat) : (0 : Int) ≤ 2 ^ k := by
  rw [two_pow_cast]
  exact Int.natCast_nonneg _
theorem op_add : OpR X (binaryOp .Add) (rI0 fun i j => .int (i + j)) := opI0 fun _ _ _ _ _ _ _ q => add_int q
theorem op_sub : OpR X (binaryOp .Sub) (rI0 fun i j => .int (i - j)) := opI0 fun _ _ _ _ _ _ _ q => sub_int q
theorem op_modN : OpR X (binaryOp .Mod) (rI (fun _ j => j ≠ 0) fun i j => .int (i.fmod j)) := opI fun _ _ _ _ _ _ _ hc q => mod_int' hc q
theorem op_pow : OpR X (binaryOp .Pow) (rI CPow fun i j => .int (i ^ j.toNat)) := opI fun _ _ _ _ _ _ _ hc q => pow_int_small hc.1 hc.2.1 hc.2.2 q
theorem op_shr : OpR X (binaryOp .RShift) (rI (fun _ j => 0 ≤ j) fun i j => .int (i / 2 ^ j.toNat)) := opI fun i j _ _ _ _ _ hc q =>
  rshift_int hc (by rw [Int.fdiv_eq_ediv_of_nonneg i (two_pow_nn _)]; exact q)
theorem op_and : OpR X (binaryOp .BitAnd) (rI0 fun i j => .int (Builtin.bitAnd i j)) := opI0 fun _ _ _ _ _ _ _ q => and_int q
theorem op_xor : OpR X (binaryOp .BitXor) (rI0 fun i j => .int (Builtin.bitXor i j)) := opI0 fun _ _ _ _ _ _ _ q => xor_int q
theorem unI {f : Value → Sem Value} {g : Int → Int}
    (rule : ∀ (i : Int) (t : Tok) (s : Shared) (Q : Value → Shared → Prop) (E : Value → Shared → Prop), Q (.int (g i) s.toks) { s with toks := s.toks + 1 } → wpAny (model X.prog X.w) X.A (f (.int i t)) Q E s) :
    UnR X f (rU fun i => .int (g i)) := by
  intro pins s σ H x v Q I rx h
  obtain ⟨i, rfl, q⟩ := h
  obtain ⟨t, rfl⟩ := rx
  exact rule i t s _ _ ⟨.int (g i), H, I.tok _, ⟨_, rfl⟩, q⟩
theorem un_neg : UnR X (unaryOp .USub) (rU fun i => .int (-i)) := unI fun _ _ _ _ _ q => neg_int q
end
section
variable {X : Cx} {a b c : Expr} {ta tb tc : TE} {pos : Pos}
theorem fin_bl {pins : List (Addr × Obj)} {σ : St} {H : Hp} {s : Shared} {Q : VK} {k k' : Bool} (I : Inv X pins σ H s) (q : Q (.bl k) H) (e : k = k') : EP X pins σ Q (.bool k') s := by
  subst e
  exact ⟨.bl k, H, I, rfl, q⟩
theorem op_lt : OpR X (compareOp .Lt) (rI0 fun i j => .bl (decide (i < j))) := opB0 fun _ _ _ _ _ _ _ q => lt_int q
theorem op_le : OpR X (compareOp .LtE) (rI0 fun i j => .bl (decide (i ≤ j))) := opB0 fun _ _ _ _ _ _ _ q => le_int q
theorem op_gt : OpR X (compareOp .Gt) (rI0 fun i j => .bl (decide (j < i))) := opB0 fun _ _ _ _ _ _ _ q => gt_int q
theorem op_ge : OpR X (compareOp .GtE) (rI0 fun i j => .bl (decide (j ≤ i))) := opB0 fun _ _ _ _ _ _ _ q => ge_int q
theorem op_isN : OpR X (compareOp .Is) (fun x y H Q => y = .non ∧ Q (.bl (decide (x = .non))) H) := by
  intro pins s σ H x y v u Q I rx ry h
  obtain ⟨rfl, q⟩ := h
  cases ry
  refine is_none_gen (fin_bl I q ?_)
  cases x <;> first
    | (cases rx; rfl)
    | (obtain ⟨t, rfl⟩ := rx; rfl)
theorem OpR.or {f : Value → Value → Sem Value} {r r' : R2} (h : OpR X f r) (h' : OpR X f r') : OpR X f (fun x y H Q => r x y H Q ∨ r' x y H Q) := by
  intro pins s σ H x y v u Q I rx ry q
  rcases q with q | q
  · exact h pins s σ H x y v u Q I rx ry q
  · exact h' pins s σ H x y v u Q I rx ry q
theorem nomark (b : Expr) {op : CmpOp} (h : op ≠ .In := by decide) (h2 : op ≠ .NotIn := by decide) : behindInMarks op b = false := by
  have e1 : (op == CmpOp.In) = false := by cases op <;> first | rfl | exact absurd rfl h
  have e2 : (op == CmpOp.NotIn) = false := by cases op <;> first | rfl | exact absurd rfl h2
  cases b <;> simp [behindInMarks, e1, e2]
theorem pe_cmpR {op : CmpOp} {r : R2} (ho : OpR X (compareOp op) r) (ha : PE X a ta) (hb : PE X b tb) (hm : behindInMarks op b = false) : PE X (.Compare a [op] [b] pos) (tOp r ta tb) := by
  intro pins s σ H Q I h
  exact wpAny_Compare1 (binT ha hb I h fun v u s2 x y H2 I2 rx ry q => ho pins s2 σ H2 x y v u Q I2 rx ry q) hm
def tTest (t : TE) : TT := fun σ H Q => t σ H fun x H' => ∃ k, x = .bl k ∧ Q k H'
theorem pt_cmpR {op : CmpOp} {r : R2} (ho : OpR X (compareOp op) r) (ha : PE X a ta) (hb : PE X b tb) (hm : behindInMarks op b = false) : PT X (.Compare a [op] [b] pos) (tTest (tOp r ta tb)) := by
  intro pins s σ H Q I h
  refine wpAny_isTrue_Compare1 (thn (ha pins s σ H _ I h) fun v s1 ⟨x, H1, I1, r1, q1⟩ => thn (hb pins s1 σ H1 _ I1 q1) fun u s2 ⟨y, H2, I2, r2, q2⟩ =>
    thn (ho pins s2 σ H2 x y v u _ I2 r1 r2 q2) fun c s3 ⟨z, H3, I3, r3, k, e, q3⟩ => ?_) hm
  subst e
  cases r3
  exact wpAny_truthy_bool ⟨H3, I3, q3⟩
def tChain (r r' : R2) (ta tb tc : TE) : TE := fun σ H Q => ta σ H fun x H1 => tb σ H1 fun y H2 => r x y H2 fun z H3 => ∃ k, z = .bl k ∧
  (if k = true then tc σ H3 fun w' H4 => r' y w' H4 Q else Q (.bl false) H3)
theorem pt_chain {op op' : CmpOp} {r r' : R2} (ho : OpR X (compareOp op) r) (ho' : OpR X (compareOp op') r') (ha : PE X a ta) (hb : PE X b tb) (hc : PE X c tc)
    (hm : lastMarks [op, op'] [b, c] = false := by with_unfolding_all rfl) : PT X (.Compare a [op, op'] [b, c] pos) (tTest (tChain r r' ta tb tc)) := by
  intro pins s σ H Q I h
  refine isTrue_chain (thn (ha pins s σ H _ I h) fun v s1 ⟨x, H1, I1, r1, q1⟩ => test_link (thn (hb pins s1 σ H1 _ I1 q1) fun u s2 ⟨y, H2, I2, r2, q2⟩ =>
    thn (ho pins s2 σ H2 x y v u _ I2 r1 r2 q2) fun d s3 ⟨z, H3, I3, r3, k, e, q3⟩ => ?_)) hm
  subst e
  cases r3
  refine wpAny_truthy_bool ?_
  cases k with
  | false =>
    obtain ⟨k', e', q'⟩ := q3
    cases e'
    exact ite_ff ⟨H3, I3, q'⟩
  | true =>
    refine ite_tt (test_last (thn (hc pins s3 σ H3 _ I3 q3) fun w' s4 ⟨z', H4, I4, r4, q4⟩ => thn (ho' pins s4 σ H4 y z' u w' _ I4 r2 r4 q4) fun d' s5 ⟨z2, H5, I5, r5, k2, e2, q5⟩ => ?_))
    subst e2
    cases r5
    exact wpAny_truthy_bool ⟨H5, I5, q5⟩
def TruV (K : PySem.W.Frag) (x : V) (H : Hp) (k : Bool) : Prop :=
  match x with
  | .non => k = false
  | .bl b => k = b
  | .int i => k = (i != 0)
  | .str y => y.length ≤ sizeLine ∧ k = ((y.length : Int) != 0)
  | .byt y => y.size ≤ sizeLine ∧ k = ((y.size : Int) != 0)
  | .ref p => (∃ xs, SqL K H p xs ∧ k = !xs.isEmpty) ∨ (∃ xs, SqT K H p xs ∧ k = !xs.isEmpty) ∨ ∃ kvs, H p = some (.dK kvs) ∧ k = !kvs.isEmpty
  | _ => False
theorem isEmpty_kv {κ : Type} {kvs : List (κ × V)} {vs : List (κ × Value)} (r : KV kvs vs) : (!vs.isEmpty) = !kvs.isEmpty := by
  cases r <;> rfl
theorem isEmpty_of {xs : List V} {its : List Value} (r : Vals xs its) : (!its.toArray.isEmpty) = !xs.isEmpty := by
  cases r <;> simp
theorem line63 : (sizeLine : Nat) < 2 ^ 63 := by rw [sizeLine_eq]; decide
theorem tru_ok : TruR X (fun x H Q => ∃ k, TruV X.K x H k ∧ Q k H) := by
  intro pins s σ H x v Q I rx h
  obtain ⟨k, e, q⟩ := h
  have hl := line63
  have hs : sizeLine = 16777216 := sizeLine_eq
  cases x with
  | non =>
    cases rx
    have e' : k = false := e
    subst e'
    exact truthy_none ⟨H, I, q⟩
  | bl b =>
    cases rx
    have e' : k = b := e
    subst e'
    exact wpAny_truthy_bool ⟨H, I, q⟩
  | int i =>
    obtain ⟨t, rfl⟩ := rx
    have e' : k = (i != 0) := e
    subst e'
    exact PySem.P.truthy_int ⟨H, I, q⟩
  | str y =>
    obtain ⟨t, rfl⟩ := rx
    obtain ⟨hy, e'⟩ : y.length ≤ sizeLine ∧ k = ((y.length : Int) != 0) := e
    subst e'
    exact PySem.P.truthy_str (by omega) ⟨H, I.tok _, q⟩
  | byt y =>
    obtain ⟨t, rfl⟩ := rx
    obtain ⟨hy, e'⟩ : y.size ≤ sizeLine ∧ k = ((y.size : Int) != 0) := e
    subst e'
    exact PySem.W.truthy_bytes (by omega) ⟨H, I.tok _, q⟩
  | ref p =>
    cases rx
    have e' : (∃ xs, SqL X.K H p xs ∧ k = !xs.isEmpty) ∨ (∃ xs, SqT X.K H p xs ∧ k = !xs.isEmpty) ∨ ∃ kvs, H p = some (.dK kvs) ∧ k = !kvs.isEmpty := e
    rcases e' with ⟨xs, hx, e'⟩ | ⟨xs, hx, e'⟩ | ⟨kvs, hx, e'⟩
    · subst e'
      obtain ⟨its, r, pl, hz⟩ := I.list hx
      have hlen := r.length
      exact wpAny_truthy_list pl.isList (by simp only [List.size_toArray]; omega) ⟨H, I.tok _, by rw [isEmpty_of r]; exact q⟩
    · subst e'
      obtain ⟨its, r, pl, hz⟩ := I.tuple hx
      have hlen := r.length
      exact truthy_tuple pl (by simp only [List.size_toArray]; omega) ⟨H, I.tok _, by rw [isEmpty_of r]; exact q⟩
    · subst e'
      obtain ⟨hz, hS, vs, r, m⟩ : kvs.length ≤ sizeLine ∧ (p == sysModules) = false ∧ ∃ vs, KV kvs vs ∧ s.heap.DictOf (mixKind X.prog X.w) p vs := I.hok p _ hx
      have hlen : kvs.length = vs.length := Paired.length r
      exact wpAny_truthy_dict hS m (by omega) ⟨H, I.tok _, by rw [isEmpty_kv r]; exact q⟩
  | _ => exact (show False from e).elim
theorem pt_truth (ha : PE X a ta) (he : ∀ whole, isTrue a X.env whole = (do let v ← whole; standAt a.pos; holding [v] (truthy v))) :
    PT X a (fun σ H Q => ta σ H fun x H' => ∃ k, TruV X.K x H' k ∧ Q k H') := by
  intro pins s σ H Q I h
  exact isTrue_plain (thn (ha pins s σ H _ I h) fun v s1 ⟨x, H1, I1, r1, q1⟩ => tru_ok pins s1 σ H1 x v Q I1 r1 q1) (he _)
theorem op_add_str : OpR X (binaryOp .Add) (fun x y H Q => ∃ i j, x = .str i ∧ y = .str j ∧ i.length + j.length ≤ sizeLine ∧ Q (.str (i ++ j)) H) := by
  intro pins s σ H x y v u Q I rx ry h
  obtain ⟨i, j, rfl, rfl, hz, q⟩ := h
  obtain ⟨t, rfl⟩ := rx
  obtain ⟨t', rfl⟩ := ry
  exact add_str (fun t' tk => ⟨.str (i ++ j), H, I.tok _, ⟨_, rfl⟩, q⟩) hz
theorem vals1 {x : V} {us : List Value} (r : Vals [x] us) : ∃ u, us = [u] ∧ RelV x u := by
  cases r with
  | cons r1 r2 => cases r2; exact ⟨_, rfl, r1⟩
theorem vals2 {x y : V} {us : List Value} (r : Vals [x, y] us) : ∃ u w', us = [u, w'] ∧ RelV x u ∧ RelV y w' := by
  cases r with
  | cons r1 r2 =>
    cases r2 with
    | cons r3 r4 => cases r4; exact ⟨_, _, rfl, r1, r3⟩
theorem call_abs : CallR X (.builtin "abs") (fun xs H Q => ∃ i, xs = [.int i] ∧ Q (.int (if i < 0 then -i else i)) H) := by
  intro pins s σ H xs us Q I r h
  obtain ⟨i, rfl, q⟩ := h
  obtain ⟨u, rfl, t, rfl⟩ := vals1 r
  exact call_abs_int fun u tk => ⟨.int (if i < 0 then -i else i), H, I.tok _, ⟨_, rfl⟩, q⟩
theorem call_max2 (hc : X.calm = true) : CallR X (.builtin "max") (fun xs H Q => ∃ i j, xs = [.int i, .int j] ∧ Q (.int (if j > i then j else i)) H) := by
  intro pins s σ H xs us Q I r h
  obtain ⟨i, j, rfl, q⟩ := h
  obtain ⟨u, w', rfl, ⟨t, rfl⟩, ⟨t', rfl⟩⟩ := vals2 r
  refine max_two_ints (I.ok.hd hc) fun h' tk k => ⟨_, H, I.kept k, ?_, q⟩
  by_cases hj : j > i
  · rw [if_pos hj, if_pos hj]; exact ⟨_, rfl⟩
  · rw [if_neg hj, if_neg hj]; exact ⟨_, rfl⟩
theorem call_min2 (hc : X.calm = true) : CallR X (.builtin "min") (fun xs H Q => ∃ i j, xs = [.int i, .int j] ∧ Q (.int (if j < i then j else i)) H) := by
  intro pins s σ H xs us Q I r h
  obtain ⟨i, j, rfl, q⟩ := h
  obtain ⟨u, w', rfl, ⟨t, rfl⟩, ⟨t', rfl⟩⟩ := vals2 r
  refine min_two_ints (I.ok.hd hc) fun h' tk k => ⟨_, H, I.kept k, ?_, q⟩
  by_cases hj : j < i
  · rw [if_pos hj, if_pos hj]; exact ⟨_, rfl⟩
  · rw [if_neg hj, if_neg hj]; exact ⟨_, rfl⟩
theorem call_int1 : CallR X (.type "int") (fun xs H Q => (∃ i, xs = [.int i] ∧ Q (.int i) H) ∨ ∃ k, xs = [.bl k] ∧ Q (.int (if k then 1 else 0)) H) := by
  intro pins s σ H xs us Q I r h
  rcases h with ⟨i, rfl, q⟩ | ⟨k, rfl, q⟩
  · obtain ⟨u, rfl, t, rfl⟩ := vals1 r
    exact call_int_int ⟨.int i, H, I, ⟨_, rfl⟩, q⟩
  · obtain ⟨u, rfl, r1⟩ := vals1 r
    cases r1
    exact call_int_bool ⟨.int (if k then 1 else 0), H, I.tok _, ⟨_, rfl⟩, q⟩
end
end L2
namespace L2
open PySem PySem.Spec PyProof.Rows
structure ObjM (h : Heap) (x dx C : Addr) (mA : Str → Option Value) : Prop where
  obj : h.get? x = some (PySem.W.instObj C dx)
  ns : h.Ns1 dx mA
  ne : dx ≠ x
section
variable {prog : Program} {w : World} {A : Around} {E : Value → Shared → Prop} {s : Shared} {K : PySem.W.Frag} {x dx C f : Addr} {mA : Str → Option Value} {name : Str} {v : Value}
end
section
variable {P : Program} {w : World} {H H' : Hp} {h h' : Heap} {a C dx : Addr} {fs fs' : List (Str × V)}
end
structure Cls (K : PySem.W.Frag) (C : Addr) : Prop where
  pg : PySem.W.plainGet K C Str.empty = true
  hd : PySem.W.hasDictIn K C = true
  po : PySem.W.plainOver K C = true
  sa : PySem.W.findIn K (.ref C) "__setattr__" = some (some (.builtin "object.__setattr__"))
theorem Cls.get {K : PySem.W.Frag} {C : Addr} (c : Cls K C) (f : Str) : PySem.W.plainGet K C f = true := c.pg
structure Con (K : PySem.W.Frag) (C : Addr) (f : Str) (v : V) (u : Value) : Prop where
  at_ : PySem.W.findIn K (.ref C) f = some (some u)
  rel : RelV v u
  get : PySem.W.specialIn K u "__get__" = some none
  cp : PySem.W.copiedNames.contains f = false
structure Meth (K : PySem.W.Frag) (C : Addr) (m : Str) (f : Addr) : Prop where
  at_ : PySem.W.findIn K (.ref C) m = some (some (.ref f))
  fn : PySem.W.isFn K (.ref f) = true
  kp : PySem.W.keepIn K (.ref f) = true
section
variable {X : Cx} {pins : List (Addr × Obj)} {σ : St} {H : Hp} {s : Shared} {a C dx : Addr} {fs : List (Str × V)} {f : Str} {v : V} {A : Around} {E : Value → Shared → Prop}
end
section
variable {X : Cx} {o e value : Expr} {f : Str} {pos pos' tpos : Pos} {ta tv : TE}
end
section
variable {X : Cx} {pins : List (Addr × Obj)} {σ : St} {H : Hp} {s : Shared} {A : Around} {E : Value → Shared → Prop} {Q : Value → Shared → Prop} {c : Value} {b : Bool}
inductive TyOf (K : PySem.W.Frag) (H : Hp) : V → Value → Prop where
  | non : TyOf K H .non (.type "NoneType")
  | bl (x : Bool) : TyOf K H (.bl x) (.type "bool")
  | int (i : Int) : TyOf K H (.int i) (.type "int")
  | str (x : Str) : TyOf K H (.str x) (.type "str")
  | flt (x : UInt64) : TyOf K H (.flt x) (.type "float")
  | lst {a : Addr} {xs : List V} (e : H a = some (.lst xs)) : TyOf K H (.ref a) (.type "list")
  | frz {a : Addr} {o : Obj} {xs : List V} (e : H a = some (.frz o (.lst xs))) : TyOf K H (.ref a) (.type "list")
  | tup {a : Addr} {xs : List V} (e : H a = some (.tup xs)) : TyOf K H (.ref a) (.type "tuple")
  | dK {a : Addr} {kvs : List (Key × V)} (e : H a = some (.dK kvs)) : TyOf K H (.ref a) (.type "dict")
  | dT {a : Addr} {kvs : List (List Key × V)} (e : H a = some (.dT kvs)) : TyOf K H (.ref a) (.type "dict")
  | ins {a C dx : Addr} {fs : List (Str × V)} (e : H a = some (.ins C dx fs)) (cl : Cls K C) (ha : PySem.W.findIn K (.ref C) "__class__" = some (some (.builtin "object.__class__")))
      (hn : PySem.W.specialIn K (.builtin "object.__class__") "__get__" = some (some (.builtin "getset_descriptor.__get__"))) (htk : PySem.W.takesIn K (.builtin "object.__class__") = some true)
      (hm : PySem.W.mroIn K C (.type "object") = some true) : TyOf K H (.ref a) (.ref C)
end
end L2
namespace L2
open PySem PySem.Spec PyProof.Rows
structure Room (k : Nat) (A : Around) : Prop where
  hd : A.handled = none
  dp : A.depth + 3 * k + 5 < recursionLimit
  un : A.units + 16 * k + 200 < cLine
theorem Room.mono {j k : Nat} {A : Around} (r : Room k A) (h : j ≤ k) : Room j A := ⟨r.hd, by have := r.dp; omega, by have := r.un; omega⟩
theorem Room.deeper {k : Nat} {A : Around} (r : Room (k + 1) A) (env : Env) : Room k (A.deeper env) :=
  ⟨r.hd, by have := r.dp; show A.depth + 1 + 3 * k + 5 < _; omega, by have := r.un; show A.units + 3 + 16 * k + 200 < _; omega⟩
theorem Room.in1 {k : Nat} {A : Around} (r : Room (k + 1) A) : Room k A.in1 :=
  ⟨r.hd, by have := r.dp; show A.depth + 3 * k + 5 < _; omega, by have := r.un; show A.units + 1 + 16 * k + 200 < _; omega⟩
theorem Room.depth {k : Nat} {A : Around} (r : Room k A) : A.depth < recursionLimit := by have := r.dp; omega
theorem Room.units {k : Nat} {A : Around} (r : Room k A) : A.units + 64 < cLine := by have := r.un; omega
def tNil : TA := fun _ H Q => Q [] H
def tCons (ta : TE) (tr : TA) : TA := fun σ H Q => ta σ H fun x H1 => tr σ H1 fun xs H2 => Q (x :: xs) H2
section
variable {X : Cx} {e : Expr} {es : List Expr} {te : TE} {t : TA} {pos : Pos}
theorem pa_nil : PA X [] tNil := fun _ _ _ _ H Q I h => Calls.spliced_nil ⟨[], H, I, .nil, h⟩
theorem pa_cons (ha : PE X e te) (hr : PA X es t) (hs : starEach (e :: es) X.env = (false, eval e X.env) :: starEach es X.env := by rfl) : PA X (e :: es) (tCons te t) := by
  intro pos pins s σ H Q I h
  rw [hs]
  show wpAny _ _ (spliced ((false, eval e X.env) :: backTo pos (starEach es X.env))) _ _ s
  refine Calls.spliced_cons (thn (ha pins s σ H _ I h) fun u s1 ⟨x, H1, I1, r1, q1⟩ => ?_)
  exact thn (hr pos pins s1 σ H1 _ I1 q1) fun us s2 ⟨xs, H2, I2, r2, q2⟩ => ⟨x :: xs, H2, I2, .cons r1 r2, q2⟩
def tTup (t : TA) : TE := fun σ H Q => t σ H fun xs H1 => xs.length ≤ sizeLine ∧ ∀ p, H1 p = none → Q (.ref p) (upd H1 p (.tup xs))
def tLst (t : TA) : TE := fun σ H Q => t σ H fun xs H1 => xs.length ≤ sizeLine ∧ ∀ p, H1 p = none → Q (.ref p) (upd H1 p (.lst xs))
theorem pe_tup {x1} (h : PA X es t) : PE X (.Tuple es x1 pos) (tTup t) := by
  intro pins s σ H Q I hq
  refine wpAny_Tuple_spliced (thn (h pos pins s σ H _ I hq) fun us s1 ⟨xs, H1, I1, r, z, q⟩ => ⟨by rw [← r.length]; exact z, ?_⟩)
  have hf : H1 s1.heap.objs.size = none := I1.hok.fresh (Nat.le_refl _)
  refine ⟨.ref s1.heap.objs.size, upd H1 s1.heap.objs.size (.tup xs), I1.laid (t' := s1.toks) (fun b u e => Heap.get?_push_of_some _ e) (Nat.le_refl _) ?_, rfl, q _ hf⟩
  exact ⟨z, us, r, ⟨_, Heap.get?_push_size _ rfl, rfl, ⟨_, rfl⟩, rfl⟩⟩
theorem pe_lst (h : PA X es t) : PE X (.List es pos) (tLst t) := by
  intro pins s σ H Q I hq
  refine wpAny_List_spliced (thn (h pos pins s σ H _ I hq) fun us s1 ⟨xs, H1, I1, r, z, q⟩ => ⟨by rw [← r.length]; exact z, ?_⟩)
  have hf : H1 s1.heap.objs.size = none := I1.hok.fresh (Nat.le_refl _)
  refine ⟨.ref s1.heap.objs.size, upd H1 s1.heap.objs.size (.lst xs), I1.laid (t' := s1.toks) (fun b u e => Heap.get?_push_of_some _ e) (Nat.le_refl _) ?_, rfl, q _ hf⟩
  exact ⟨z, us, 0, r, Heap.get?_push_size _ rfl⟩
end
abbrev Sp := List V → Hp → VK → XK → Prop
abbrev CXT := List Env → Hp → Shared → XK → Value → Shared → Prop
structure Env0 (P : Program) (w : World) (K : PySem.W.Frag) (mg : Str → Option Value) (base : Heap) (A : Around) (outer : List Env) (s : Shared) (H : Hp) : Prop where
  frames : A.frames = some outer
  mod : Mod K mg base
  bs : ∀ b o, base.get? b = some o → s.heap.get? b = some o ∧ H b = none
  bsz : base.objs.size ≤ s.heap.objs.size
  funs : s.heap.FunFrames base outer
  frf : ∀ b ∈ frs outer, H b = none
  hok : HOk P w H s.heap
  bare : AllBare s.gens
def CE (outer : List Env) (P : Program) (w : World) (H : Hp) (s : Shared) (Q : VK) (u : Value) (s' : Shared) : Prop :=
  ∃ v H', s'.os = s.os ∧ AllBare s'.gens ∧ Un (frs outer) [] H H' s.heap s'.heap ∧ HOk P w H' s'.heap ∧ RelV v u ∧ Q v H'
def CR (CX : CXT) (outer : List Env) (P : Program) (w : World) (H : Hp) (s : Shared) (Q : VK) (E : XK) (r : Result) (s' : Shared) : Prop :=
  match r with
  | .ok (.ret u) => CE outer P w H s Q u s'
  | .ok _ => False
  | .error e => CX outer H s E e s'
structure FnOk (P : Program) (w : World) (K : PySem.W.Frag) (mg : Str → Option Value) (base : Heap) (CX : CXT) (k : Nat) (f : Addr) (fd : FuncData) (ps : List Str) (sp : Sp) : Prop where
  len : ∀ vs H Q E, sp vs H Q E → vs.length = ps.length
  run : ∀ (A : Around) (outer : List Env) (s : Shared) (H : Hp) (args : Args) (us : List Value) (vs : List V) (Q : VK) (E : XK), Room k A → Env0 P w K mg base A outer s H → BindsTo s fd args (ps.zip us) → Vals vs us → sp vs H Q E →
    codeAny (model P w) A (.call (.ref f) args) (CR CX outer P w H s Q E) s
theorem FnOk.mono {P : Program} {w : World} {K : PySem.W.Frag} {mg : Str → Option Value} {base : Heap} {CX : CXT} {j k : Nat} {f : Addr} {fd : FuncData} {ps : List Str} {sp : Sp} (F : FnOk P w K mg base CX j f fd ps sp) (h : j ≤ k) :
    FnOk P w K mg base CX k f fd ps sp := ⟨F.len, fun A outer s H args us vs Q E hr => F.run A outer s H args us vs Q E (hr.mono h)⟩
theorem FnOk.imp {P : Program} {w : World} {K : PySem.W.Frag} {mg : Str → Option Value} {base : Heap} {CX : CXT} {k : Nat} {f : Addr} {fd : FuncData} {ps : List Str} {sp sp' : Sp} (F : FnOk P w K mg base CX k f fd ps sp)
    (h : ∀ vs H Q E, sp' vs H Q E → sp vs H Q E) : FnOk P w K mg base CX k f fd ps sp' :=
  ⟨fun vs H Q E q => F.len vs H Q E (h _ _ _ _ q), fun A outer s H args us vs Q E hr he hb hv hs => F.run A outer s H args us vs Q E hr he hb hv (h _ _ _ _ hs)⟩
theorem Env0.in1 {P : Program} {w : World} {K : PySem.W.Frag} {mg : Str → Option Value} {base : Heap} {A : Around} {outer : List Env} {s : Shared} {H : Hp} (e : Env0 P w K mg base A outer s H) :
    Env0 P w K mg base A.in1 outer s H := ⟨e.frames, e.mod, e.bs, e.bsz, e.funs, e.frf, e.hok, e.bare⟩
section
variable {X : Cx} {pins : List (Addr × Obj)} {σ : St} {H : Hp} {s s' : Shared}
theorem Inv.env0 (I : Inv X pins σ H s) : Env0 X.prog X.w X.K X.mg X.base X.A X.stack s H :=
  ⟨I.ok.frames, I.ok.mod, I.bs, Nat.le_trans I.ok.bsz I.sz, I.stack, I.stkFree, I.hok, I.bare⟩
theorem Inv.after {Q : VK} {u : Value} (I : Inv X pins σ H s) (h : CE X.stack X.prog X.w H s Q u s') : EP X pins σ Q u s' := by
  obtain ⟨v, H', os, bare, un, hok, r, q⟩ := h
  obtain ⟨hh, g, d, t, os'⟩ := s'
  obtain rfl : os' = s.os := os
  exact ⟨v, H', I.call (h' := hh) (g' := g) (d' := d) (t' := t) (ch := []) un hok bare (fun b z => absurd z (by simp)), r, q⟩
end
def tCall (sp : Sp) (dvs : List V) (E : XK) (t : TA) : TE := fun σ H Q => t σ H fun vs H1 => sp (vs ++ dvs) H1 Q E
def Binds (K : PySem.W.Frag) (fd : FuncData) (ps : List Str) (ds : List Value) : Prop :=
  ∀ (s : Shared) (us : List Value), K.In s.heap → (us ++ ds).length = ps.length → BindsTo s fd ⟨us, []⟩ (ps.zip (us ++ ds))
theorem Binds.all {K : PySem.W.Frag} {fd : FuncData} {ps : List Str} (h : ∀ us : List Value, us.length = ps.length → bindArgs fd ⟨us, []⟩ = pure (ps.zip us)) : Binds K fd ps [] := fun s us _ hl => by
  rw [List.append_nil] at hl ⊢
  exact .of_eq (h us hl)
def Passes (CX : CXT) (X : Cx) (E : XK) : Prop := ∀ (pins : List (Addr × Obj)) (σ : St) (H : Hp) (s : Shared) (e : Value) (s' : Shared), Inv X pins σ H s → CX X.stack H s E e s' → X.xe e s'
section
variable {X : Cx} {CX : CXT} {k : Nat} {f C : Addr} {fd : FuncData} {ps : List Str} {sp : Sp} {dvs : List V} {ds : List Value} {E : XK} {x m : Str} {p pos apos : Pos} {e o : Expr} {es : List Expr} {ta : TE} {t : TA}
theorem run_fn {pins : List (Addr × Obj)} {σ : St} {H : Hp} {s : Shared} {Q : VK} {us : List Value} {vs : List V} (F : FnOk X.prog X.w X.K X.mg X.base CX k f fd ps sp) (hr : Room k X.A) (hb : Binds X.K fd ps ds) (hd : Vals dvs ds) (hx : Passes CX X E)
    (I : Inv X pins σ H s) (r : Vals vs us) (h : sp (vs ++ dvs) H Q E) : wpAny (model X.prog X.w) X.A (call (.ref f) us) (EP X pins σ Q) X.xe s := by
  have r2 : Vals (vs ++ dvs) (us ++ ds) := r.append hd
  have hl : (us ++ ds).length = ps.length := by rw [← r2.length]; exact F.len _ _ _ _ h
  refine wpAny_call (codeAny_mono (F.run X.A X.stack s H ⟨us, []⟩ (us ++ ds) (vs ++ dvs) Q E hr I.env0 (hb s us I.kIn hl) r2 h) fun r s' hq => ?_)
  cases r with
  | error e => exact hx pins σ H s e s' I hq
  | ok fl =>
    cases fl with
    | ret u => exact I.after hq
    | next => exact False.elim hq
    | brk => exact False.elim hq
    | cont => exact False.elim hq
theorem pe_call (F : FnOk X.prog X.w X.K X.mg X.base CX k f fd ps sp) (hr : Room k X.A) (hg : Gl X x) (hm : X.mg x = some (.ref f)) (hk : PySem.W.keepIn X.K (.ref f) = true) (hb : Binds X.K fd ps ds) (hd : Vals dvs ds) (hx : Passes CX X E)
    (ha : PA X (e :: es) t) (hdb : (x == ("__debug__" : Str)) = false := by decide) (he : starEach (e :: es) X.env = (false, eval e X.env) :: starEach es X.env := by rfl) (hpl : (backTo pos (starEach es X.env)).any (·.1) = false := by rfl) :
    PE X (.Call (.Name x p) (e :: es) [] pos) (tCall sp dvs E t) := by
  intro pins s σ H Q I h
  refine wpAny_Call_Name_kw (ld_glob I hg hm ?_ hdb)
  refine PySem.W.callWith_K (h₀ := X.base) I.ok.mod.kin hk (thn (ha pos pins s σ H _ I h) fun us s1 ⟨vs, H1, I1, r, q⟩ => ⟨I1.kIn, ?_⟩) he hpl
  exact run_fn F hr hb hd hx I1 r q
structure Mk (K : PySem.W.Frag) (C f : Addr) : Prop where
  makes : PySem.W.makesIn K C = true
  init : PySem.W.findIn K (.ref C) "__init__" = some (some (.ref f))
  fn : PySem.W.isFn K (.ref f) = true
  kp : PySem.W.keepIn K (.ref C) = true
end
section
variable {X : Cx} {CX : CXT} {k : Nat} {f C : Addr} {fd : FuncData} {ps ks : List Str} {sp : Sp} {E : XK} {x m : Str} {p pos apos kpos : Pos} {e o : Expr} {es : List Expr} {kws : List Keyword} {te ta : TE} {t tk : TA} {nm : Option Str}
structure KBinds (K : PySem.W.Frag) (fd : FuncData) (ps ks : List Str) (g : List Value → List Value → List Value) (gV : List V → List V → List V) : Prop where
  to : ∀ (s : Shared) (us ws : List Value), K.In s.heap → (g us ws).length = ps.length → BindsTo s fd ⟨us, ks.zip ws⟩ (ps.zip (g us ws))
  rel : ∀ {vs : List V} {us : List Value} {zs : List V} {ws : List Value}, Vals vs us → Vals zs ws → Vals (gV vs zs) (g us ws)
variable {g : List Value → List Value → List Value} {gV : List V → List V → List V}
end
structure FnScope (N P : List Str) (sc : Scope) : Prop where
  kind : sc.kind = .function
  co : sc.isCoroutine = false
  gen : sc.isGenerator = false
  nd : N.Nodup
  pre : N.take P.length = P
  par : ∀ x ∈ P, sc.names.lookup x = some .local ∨ sc.names.lookup x = some .cell
  nofree : ∀ y ∈ sc.names, y.2 ≠ .free
theorem bindL_out {kindOf : Str → Option NameKind} {x : Str} : ∀ {binds : List (Str × Value)} {m : Str → Option Value}, (∀ v, (x, v) ∉ binds) → bindL kindOf binds m x = m x
  | [], _, _ => rfl
  | (n, v) :: r, m, h => by
    unfold bindL
    rw [bindL_out fun w hw => h w (List.mem_cons_of_mem _ hw)]
    split
    · have : x ≠ n := by rintro rfl; exact h v List.mem_cons_self
      simp [this]
    · rfl
theorem bindC_out {kindOf : Str → Option NameKind} {x : Str} : ∀ {binds : List (Str × Value)} {m : Str → Option Value}, (∀ v, (x, v) ∉ binds) → bindC kindOf binds m x = m x
  | [], _, _ => rfl
  | (n, v) :: r, m, h => by
    unfold bindC
    rw [bindC_out fun w hw => h w (List.mem_cons_of_mem _ hw)]
    split
    · rfl
    · have : x ≠ n := by rintro rfl; exact h v List.mem_cons_self
      simp [this]
theorem bindL_get {kindOf : Str → Option NameKind} {x : Str} {v : Value} : ∀ {P : List Str} {vs : List Value} {i : Nat} {m : Str → Option Value}, P.Nodup → P[i]? = some x → vs[i]? = some v → kindOf x = some .local →
    bindL kindOf (P.zip vs) m x = some v
  | [], _, _, _, _, h, _, _ => by simp at h
  | _ :: _, [], _, _, _, _, h, _ => by simp at h
  | p :: P, w :: vs, 0, m, nd, h1, h2, hk => by
    simp at h1 h2; subst h1; subst h2
    show bindL kindOf ((p, w) :: P.zip vs) m p = _
    unfold bindL
    rw [bindL_out fun v hv => (List.nodup_cons.mp nd).1 (List.of_mem_zip hv).1, if_pos hk]
    simp
  | p :: P, w :: vs, i + 1, m, nd, h1, h2, hk => by
    show bindL kindOf ((p, w) :: P.zip vs) m x = _
    unfold bindL
    exact bindL_get (i := i) (List.nodup_cons.mp nd).2 (by simpa using h1) (by simpa using h2) hk
theorem bindC_get {kindOf : Str → Option NameKind} {x : Str} {v : Value} : ∀ {P : List Str} {vs : List Value} {i : Nat} {m : Str → Option Value}, P.Nodup → P[i]? = some x → vs[i]? = some v → kindOf x ≠ some .local →
    bindC kindOf (P.zip vs) m x = some v
  | [], _, _, _, _, h, _, _ => by simp at h
  | _ :: _, [], _, _, _, _, h, _ => by simp at h
  | p :: P, w :: vs, 0, m, nd, h1, h2, hk => by
    simp at h1 h2; subst h1; subst h2
    show bindC kindOf ((p, w) :: P.zip vs) m p = _
    unfold bindC
    rw [bindC_out fun v hv => (List.nodup_cons.mp nd).1 (List.of_mem_zip hv).1, if_neg hk]
    simp
  | p :: P, w :: vs, i + 1, m, nd, h1, h2, hk => by
    show bindC kindOf ((p, w) :: P.zip vs) m x = _
    unfold bindC
    exact bindC_get (i := i) (List.nodup_cons.mp nd).2 (by simpa using h1) (by simpa using h2) hk
def start (N : List Str) (vs : List V) : St := vs.map some ++ List.replicate (N.length - vs.length) none
def cxOf (CX : CXT) (P : Program) (w : World) (K : PySem.W.Frag) (mg : Str → Option Value) (base : Heap) (N : List Str) (qual : Str) (scope : Scope) (f : Addr) (cd : Value) (A : Around) (outer : List Env) (s : Shared) (H : Hp) (E : XK) : Cx where
  prog := P
  w := w
  K := K
  mg := mg
  base := base
  A := A.deeper (envOfC qual scope s.heap.objs.size f cd)
  N := N
  s₀ := s
  H₀ := H
  env := envOfC qual scope s.heap.objs.size f cd
  outer := outer
  stack := envOfC qual scope s.heap.objs.size f cd :: outer
  ex := []
  calm := true
  fn := fun _ => true
  pn := []
  xe := fun e s' => wpAny (model P w) (A.deeper (envOfC qual scope s.heap.objs.size f cd)) (leaving (envOfC qual scope s.heap.objs.size f cd) e) (fun _ s'' => CX outer H s E e s'') (fun e' s'' => CX outer H s E e' s'') s'
theorem cell_has {sc : Scope} {n : Nat} {x : Str} (h : sc.names.lookup x = some .cell) : ∃ c, (cellsFrom n sc.names []).lookup x = some c := by
  have q := PySem.W.cellsFrom_some sc.names n [] (.inl h)
  exact Option.isSome_iff_exists.mp q
theorem inv_start {CX : CXT} {P : Program} {w : World} {K : PySem.W.Frag} {mg : Str → Option Value} {base : Heap} {N ps : List Str} {qual : Str} {scope : Scope} {f : Addr} {cd : Value} {A : Around} {outer : List Env} {s s1 : Shared} {H : Hp} {E : XK} {us : List Value} {vs : List V}
    (S : FnScope N ps scope) (hd : A.handled = none) (e0 : Env0 P w K mg base A outer s H) (hl : vs.length = ps.length) (r : Vals vs us)
    (x : InCallC s s.heap.objs.size (bindL (envOfC qual scope s.heap.objs.size f cd).kindOf (ps.zip us) fun _ => none) (cellsFrom (s.heap.objs.size + 1) scope.names []) (bindC (envOfC qual scope s.heap.objs.size f cd).kindOf (ps.zip us) fun _ => none) s1) :
    Inv (cxOf CX P w K mg base N qual scope f cd A outer s H E) [] (start N vs) H s1 := by
  have hpl : ps.length ≤ N.length := by have := congrArg List.length S.pre; rw [List.length_take] at this; omega
  obtain ⟨h1, tk, rfl, hk⟩ := x.done
  have noA : ∀ b : Addr, b ∉ (cxOf CX P w K mg base N qual scope f cd A outer s H E).ex := fun b z => absurd (show b ∈ ([] : List Addr) from z) (by simp)
  refine ⟨⟨e0.mod, S.kind, rfl, rfl, Nat.le_refl _, fun y z c h1 h2 => ?_, fun y hy => ?_, fun y c _ h => ?_, fun _ => hd, Around.frames_deeper e0.frames, .inr ⟨rfl, rfl⟩, fun b z => absurd z (noA b), e0.bs, e0.bsz, fun b _ _ => noA b, fun b z => absurd z (noA b), e0.funs, e0.frf⟩,
    rfl, e0.bare, Un.kept hk, ⟨_, x.toInCall.ns, fun i y v h1 h2 h3 => ?_⟩, fun y c h => ⟨_, x.cell y c h⟩, e0.hok.fresh (Nat.le_refl _), fun y c h => ?_, fun p hp => absurd (show p ∈ ([] : List (Addr × Obj)) from hp) (by simp), e0.hok.kept hk, ?_⟩
  · exact name_of_addr x.apart (PySem.mem_of_lookup h1) (PySem.mem_of_lookup h2)
  · have hy : scope.names.lookup y = some .cell ∨ scope.names.lookup y = some .free := hy
    rcases hy with hy | hy
    · exact cell_has hy
    · exact absurd rfl (S.nofree _ (PySem.mem_of_lookup hy))
  · exact Nat.le_of_lt (x.above y c (PySem.mem_of_lookup h))
  · have hi : i < vs.length := by
      unfold start at h2
      by_cases hi : i < vs.length
      · exact hi
      · rw [List.getElem?_append_right (by simpa using hi)] at h2
        rw [List.getElem?_replicate] at h2
        split at h2 <;> cases h2
    have ha : vs[i]? = some v := by
      unfold start at h2
      rw [List.getElem?_append_left (by simpa using hi), List.getElem?_map] at h2
      cases e : vs[i]? with
      | none => rw [e] at h2; cases h2
      | some a => rw [e] at h2; cases h2; rfl
    obtain ⟨u, hu, rv⟩ := r.get ha
    have hp : ps[i]? = some y := by
      rw [← S.pre, List.getElem?_take_of_lt (by omega)]; exact h1
    have ndP : ps.Nodup := by rw [← S.pre]; exact S.nd.sublist (List.take_sublist _ _)
    refine ⟨u, rv, ?_⟩
    rcases S.par y (List.mem_of_getElem? hp) with k | k
    · exact .inl ⟨k, bindL_get ndP hp hu k⟩
    · obtain ⟨c, e⟩ := cell_has (n := s.heap.objs.size + 1) k
      refine .inr ⟨.inl k, c, e, ?_⟩
      have q := x.cell y c e
      rw [bindC_get ndP hp hu (by show scope.names.lookup y ≠ _; rw [k]; decide)] at q
      exact q
  · exact e0.hok.fresh (Nat.le_of_lt (x.above y c (PySem.mem_of_lookup h)))
  · unfold start
    show _ = N.length
    rw [List.length_append, List.length_map, List.length_replicate]
    omega
theorem fn_of {CX : CXT} {P : Program} {w : World} {K : PySem.W.Frag} {mg : Str → Option Value} {base : Heap} {k : Nat} {f : Addr} {name qual : Str} {params : Arguments} {body : List Stmt} {scope : Scope} {dV kV doc pm cdv ct oc : Value} {an od : Option Addr}
    {osl : Array (Option Value)} {N ps : List Str} {sp : Sp} (lk : K.lookup f = some ⟨oc, od, .func (PySem.W.fnOf name qual params body scope dV kV doc pm an cdv ct), osl⟩) (hcd : PySem.W.codeIn K cdv qual = true) (S : FnScope N ps scope)
    (len : ∀ vs H Q E, sp vs H Q E → vs.length = ps.length)
    (hbody : ∀ (A : Around) (outer : List Env) (s : Shared) (H : Hp) (vs : List V) (Q : VK) (E : XK), Room k (A.deeper (envOfC qual scope s.heap.objs.size f cdv)) → sp vs H Q E →
      ∃ t, PSs (cxOf CX P w K mg base N qual scope f cdv A outer s H E) body t ∧ t { nx := fun _ H' => Q .non H', rt := Q } (start N vs) H) :
    FnOk P w K mg base CX (k + 1) f (PySem.W.fnOf name qual params body scope dV kV doc pm an cdv ct) ps sp := by
  refine ⟨len, fun A outer s H args us vs Q E hr e0 hb r hsp => ?_⟩
  have hl := len _ _ _ _ hsp
  have KX : K.In s.heap := e0.mod.kin.keeps fun b o e => (e0.bs b o e).1
  have lim : s.heap.NoLimit := e0.mod.nolimit.keeps fun b o e => (e0.bs b o e).1
  have hkind : ∀ y ∈ ps.zip us, scope.names.lookup y.1 = some .local ∨ (scope.names.lookup y.1 = some .cell ∧ ((cellsFrom (s.heap.objs.size + 1) scope.names []).lookup y.1).isSome = true) := fun ⟨n, v⟩ hy => by
    rcases S.par n (List.of_mem_zip hy).1 with q | q
    · exact .inl q
    · exact .inr ⟨q, PySem.W.cellsFrom_some _ _ _ (.inl q)⟩
  refine codeAny_call_function hr.depth (KX _ _ lk) rfl S.co S.gen rfl (PySem.W.codeRec_of KX hcd) (hb _ _ _ _ ?_)
  refine wpAny_newFunctionEnv_cells S.kind hkind fun env he s1 x => ?_
  subst he
  refine ⟨lim.keeps x.toInCall.keep, codeAny_func ?_⟩
  obtain ⟨t, ht, hq⟩ := hbody A outer s H vs Q E (hr.deeper _) hsp
  have I : Inv (cxOf CX P w K mg base N qual scope f cdv A outer s H E) [] (start N vs) H s1 := inv_start S hr.hd e0 hl r x
  refine wpAny_mono (ht [] s1 (start N vs) H _ I hq) (fun fl s' hs => ?_) fun e s' hs => hs
  have fin : ∀ {σ' : St} {H' : Hp} {v : V} {u : Value}, Inv (cxOf CX P w K mg base N qual scope f cdv A outer s H E) [] σ' H' s' → RelV v u → Q v H' → CE outer P w H s Q u s' :=
    fun {σ' H' v u} J rv q => ⟨v, H', J.os, J.bare, J.base, J.hok, rv, q⟩
  cases fl with
  | ret u =>
    obtain ⟨v, σ', H', J, rv, q⟩ := hs
    exact fin J rv q
  | next =>
    obtain ⟨σ', H', J, q⟩ := hs
    exact fin (v := V.non) (u := Value.none) J rfl q
  | brk =>
    obtain ⟨_, _, _, q⟩ := hs
    exact False.elim q
  | cont =>
    obtain ⟨_, _, _, q⟩ := hs
    exact False.elim q
end L2
namespace L2
open PySem PySem.Spec PyProof.Rows
section
variable {X : Cx} {x : Str} {p pos : Pos} {e : Expr} {es : List Expr} {t : TA} {id T : String} {r : List V → Hp → VK → Prop}
def tCB (r : List V → Hp → VK → Prop) (t : TA) : TE := fun σ H Q => t σ H fun vs H1 => r vs H1 Q
theorem pe_callB (hc : CallR X (.builtin id) r) (hg : Gl X x) (hm : X.mg x = none) (hv : bootBuiltins x = some (.builtin id)) (ha : PA X (e :: es) t) (hn : x ≠ "__name__" := by decide) (hdb : (x == ("__debug__" : Str)) = false := by decide)
    (he : starEach (e :: es) X.env = (false, eval e X.env) :: starEach es X.env := by rfl) (hpl : (backTo pos (starEach es X.env)).any (·.1) = false := by rfl) : PE X (.Call (.Name x p) (e :: es) [] pos) (tCB r t) := by
  intro pins s σ H Q I h
  refine wpAny_Call_Name_kw (ld_blt I hg hm hv ?_ hn hdb)
  exact PyProof.Rows.callWith_builtin1 (thn (ha pos pins s σ H _ I h) fun us s1 ⟨vs, H1, I1, r1, q1⟩ => hc pins s1 σ H1 vs us Q I1 r1 q1) he hpl
theorem pe_callTy (hc : CallR X (.type T) r) (hg : Gl X x) (hm : X.mg x = none) (hv : bootBuiltins x = some (.type T)) (ha : PA X (e :: es) t) (hn : x ≠ "__name__" := by decide) (hdb : (x == ("__debug__" : Str)) = false := by decide)
    (he : starEach (e :: es) X.env = (false, eval e X.env) :: starEach es X.env := by rfl) (hpl : (backTo pos (starEach es X.env)).any (·.1) = false := by rfl) : PE X (.Call (.Name x p) (e :: es) [] pos) (tCB r t) := by
  intro pins s σ H Q I h
  refine wpAny_Call_Name_kw (ld_blt I hg hm hv ?_ hn hdb)
  exact PyProof.Rows.callWith_type1 (thn (ha pos pins s σ H _ I h) fun us s1 ⟨vs, H1, I1, r1, q1⟩ => hc pins s1 σ H1 vs us Q I1 r1 q1) he hpl
end
end L2
namespace HT
open PySem PyProof.Rows
section
open PySem.SeqAt
open PySem.AutoSeq1 (wpAny_loadPart')
open PySem.MeetsSeq PySem.MeetsSeq2 PySem.MeetsSeq3
end
section
variable {prog : Program} {w : World} {A : Around} {E : Value → Shared → Prop} {s : Shared}
def sIx (n d : Nat) : Option Int → Nat
  | none => d
  | some v => if v < 0 then (v + (n : Int)).toNat else min v.toNat n
theorem sIx_le (n d : Nat) (hd : d ≤ n) (o : Option Int) : sIx n d o ≤ n := by
  cases o with
  | none => exact hd
  | some v =>
    show (if v < 0 then (v + (n : Int)).toNat else min v.toNat n) ≤ n
    by_cases hv : v < 0
    · rw [if_pos hv]; omega
    · rw [if_neg hv]; exact Nat.min_le_right _ _
theorem clip_eq (v : Int) (n d : Nat) : (if v < 0 then max (v + (n : Int)) 0 else min v (n : Int)) = ((sIx n d (some v) : Nat) : Int) := by
  show (if v < 0 then max (v + (n : Int)) 0 else min v (n : Int)) = (((if v < 0 then (v + (n : Int)).toNat else min v.toNat n) : Nat) : Int)
  by_cases hv : v < 0
  · simp only [if_pos hv]; omega
  · simp only [if_neg hv]; omega
theorem adjust_gen (lo hi : Option Int) (n : Nat) : Builtin.Slice.sliceAdjust lo hi 1 (n : Int) = (((sIx n 0 lo : Nat) : Int), ((sIx n n hi : Nat) : Int)) := by
  have h1 : ¬ ((1 : Int) < 0) := by omega
  unfold Builtin.Slice.sliceAdjust
  simp only [h1, if_false]
  refine Prod.ext ?_ ?_
  · cases lo with
    | none => rfl
    | some v => exact clip_eq v n 0
  · cases hi with
    | none => rfl
    | some v => exact clip_eq v n n
theorem places_gen (i j : Nat) : Builtin.Slice.slicePlaces (i : Int) (j : Int) 1 = j - i := by
  unfold Builtin.Slice.slicePlaces
  have h1 : (1 : Int) > 0 := by omega
  simp only [h1, if_true, Int.ediv_one]
  split <;> omega
theorem slicePart_ {v : Value} {o : Option Int} {Q : Option Int → Shared → Prop} (p : IsPart v o) (h : Q o s) : wpAny (model prog w) A (Builtin.Slice.slicePartIndex v) Q E s := by
  cases p with
  | none => exact slicePart_none h
  | int i t => exact slicePart_int h
theorem sliceApplied_gen {sl : Addr} {vl vu : Value} {lo hi : Option Int} {n : Nat} {Q : Int × Int × Nat → Shared → Prop} (hs : s.heap.IsSliceOf sl vl vu .none) (pl : IsPart vl lo) (pu : IsPart vu hi)
    (h : Q (((sIx n 0 lo : Nat) : Int), 1, sIx n n hi - sIx n 0 lo) s) : wpAny (model prog w) A (Builtin.Slice.sliceApplied (.ref sl) (pure (n : Int))) Q E s := by
  obtain ⟨os, hos, hcs, hds⟩ := id hs
  unfold Builtin.Slice.sliceApplied Builtin.Slice.sliceFields
  refine wpAny_bind (wpAny_bind (wpAny_field hos hds (x := vl) rfl (wpAny_bind (wpAny_field hos hds (x := vu) rfl (wpAny_bind (wpAny_field hos hds (x := .none) rfl (wpAny_pure ?_)))))))
  refine wpAny_bind (slicePart_none ?_)
  show wpAny _ _ (if ((1 : Int) == 0) = true then _ else _) _ _ s
  rw [if_neg (by decide)]
  refine wpAny_bind (slicePart_ pl (wpAny_bind (slicePart_ pu (wpAny_bind (wpAny_pure ?_)))))
  show wpAny _ _ (match Builtin.Slice.sliceAdjust lo hi 1 (n : Int) with | (lo, hi) => pure (lo, (1 : Int), Builtin.Slice.slicePlaces lo hi 1)) _ _ s
  rw [adjust_gen lo hi n]
  show wpAny _ _ (pure (((sIx n 0 lo : Nat) : Int), (1 : Int), Builtin.Slice.slicePlaces ((sIx n 0 lo : Nat) : Int) ((sIx n n hi : Nat) : Int) 1)) _ _ s
  rw [places_gen]
  exact wpAny_pure h
theorem pick_gen (xs : Array Value) (i k : Nat) : ((List.range k).filterMap fun (m : Nat) => xs[((i : Int) + (m : Int) * 1).toNat]?).toArray = ((xs.toList.drop i).take k).toArray := by
  have e : (fun (m : Nat) => xs[((i : Int) + (m : Int) * 1).toNat]?) = fun m => xs[i + m]? := by
    funext m
    have : ((i : Int) + (m : Int) * 1).toNat = i + m := by omega
    rw [this]
  rw [e]
  have := pick_run xs i k
  rw [List.filterMap_map] at this
  have e2 : ((fun x => xs[x]?) ∘ fun x => i + x) = fun m => xs[i + m]? := rfl
  rw [e2] at this
  rw [this]
theorem getItem_tuple_cut {t sl : Addr} {items : Array Value} {vl vu : Value} {lo hi : Option Int} {Q : Value → Shared → Prop} (ht : IsTup s.heap t items) (hs : s.heap.IsSliceOf sl vl vu .none) (pl : IsPart vl lo) (pu : IsPart vu hi)
    (hw : ¬ (sIx items.size 0 lo = 0 ∧ sIx items.size items.size hi = items.size))
    (h : Q (.ref s.heap.objs.size) { s with heap := s.heap.push { cls := .type "tuple", data := .seq ((items.toList.drop (sIx items.size 0 lo)).take (sIx items.size items.size hi - sIx items.size 0 lo)).toArray } })
    (hsz : items.size ≤ sizeLine) : wpAny (model prog w) A (getItem (.ref t) (.ref sl)) Q E s := by
  have htake : sizeOk (.seq ((items.toList.drop (sIx items.size 0 lo)).take (sIx items.size items.size hi - sIx items.size 0 lo)).toArray) := by
    show ((items.toList.drop (sIx items.size 0 lo)).take (sIx items.size items.size hi - sIx items.size 0 lo)).toArray.size ≤ sizeLine
    rw [List.size_toArray, List.length_take, List.length_drop, Array.length_toList]
    omega
  have hj : sIx items.size items.size hi ≤ items.size := sIx_le _ _ (Nat.le_refl _) hi
  obtain ⟨os, hos, hcs, hds⟩ := id hs
  have hTs : s.TypeIs (.ref sl) "slice" := ⟨os, hos, hcs⟩
  unfold getItem
  try with_reducible refine wpAny_holding ?_
  first | refine wpAny_bind (wpAny_pure ?_) | skip
  refine wpAny_bind (wpAny_sequenceKey ht.typeIs (by decide) ?_)
  refine wpAny_bind (wpAny_callSpecial?_slot (name := Str.ofString "__getitem__") ht.typeIs PyProof.Rows.slot_tuple_getitem
    (wpAny_call_entry PyProof.Rows.slot_tuple_getitem ht.typeIs entry_tuple_getitem ?_ (args_tuple_getitem _ _)))
  show wpAny _ _ (Builtin.Tuple.tupleItemsOf (.ref t) >>= _) _ _ s
  refine wpAny_bind (tupleItemsOf_ ht ?_)
  refine wpAny_bind (wpAny_typeOf hTs ?_)
  rw [if_pos (by decide)]
  refine wpAny_bind (sliceApplied_gen hs pl pu ?_)
  have hno : ¬ ((((sIx items.size 0 lo : Nat) : Int) == 0 && (1 : Int) == 1 && (sIx items.size items.size hi - sIx items.size 0 lo) == items.size) = true) := by
    intro q
    rw [Bool.and_eq_true, Bool.and_eq_true] at q
    have q1 : ((sIx items.size 0 lo : Nat) : Int) = 0 := eq_of_beq q.1.1
    have q2 : sIx items.size items.size hi - sIx items.size 0 lo = items.size := eq_of_beq q.2
    exact hw ⟨by omega, by omega⟩
  show wpAny _ _ (if (((sIx items.size 0 lo : Nat) : Int) == 0 && (1 : Int) == 1 && (sIx items.size items.size hi - sIx items.size 0 lo) == items.size) = true then _ else _) _ _ s
  rw [if_neg hno, pick_gen]
  first
    | exact wpAny_bind (m := Builtin.Tuple.tupleExact _) (wpAny_newObj_type (wpAny_pure ⟨_, rfl, wpAny_pure h⟩) htake)
    | exact wpAny_bind (m := Builtin.Tuple.tupleExact _) (wpAny_newObj_type (wpAny_bind (wpAny_pure (wpAny_pure ⟨_, rfl, wpAny_pure h⟩))) htake)
    | exact wpAny_bind (wpAny_bind (m := Builtin.Tuple.tupleExact _) (wpAny_newObj_type (wpAny_pure (wpAny_pure ⟨_, rfl, wpAny_pure h⟩)) htake))
    | exact wpAny_bind (wpAny_bind (m := Builtin.Tuple.tupleExact _) (wpAny_newObj_type (wpAny_pure ⟨_, rfl, wpAny_pure h⟩) htake))
end
end HT
namespace L2
open PySem PySem.Spec PyProof.Rows
abbrev TO := St → Hp → (Option Int → Hp → Prop) → Prop
def PO (X : Cx) (e : Option Expr) (t : TO) : Prop :=
  ∀ (pins : List (Addr × Obj)) (s : Shared) (σ : St) (H : Hp) (Q : Option Int → Hp → Prop), Inv X pins σ H s → t σ H Q →
    wpAny (model X.prog X.w) X.A (evalPart e X.env) (fun u s' => ∃ o H', Inv X pins σ H' s' ∧ IsPart u o ∧ Q o H') X.xe s
def tNoPart : TO := fun _ H Q => Q none H
def tPart (t : TE) : TO := fun σ H Q => t σ H fun x H1 => ∃ i, x = .int i ∧ Q (some i) H1
theorem intsAre_of {ns : List Int} : ∀ {us : List Value}, Vals (ns.map V.int) us → IntsAre us ns := by
  induction ns with
  | nil => intro us r; rw [List.map_nil] at r; cases r; exact .nil
  | cons n ns ih =>
    intro us r
    rw [List.map_cons] at r
    cases r with
    | cons r1 r2 =>
      obtain ⟨t, e⟩ := r1
      subst e
      exact .cons n t (ih r2)
section
variable {X : Cx} {e : Expr} {te : TE} {lo hi : Option Expr} {tl th : TO} {pos p2 : Pos}
theorem po_none : PO X none tNoPart := by
  intro pins s σ H Q I h
  rw [evalPart_none]
  exact wpAny_pure ⟨none, H, I, .none, h⟩
theorem po_some (h : PE X e te) : PO X (some e) (tPart te) := by
  intro pins s σ H Q I hw
  rw [evalPart_some]
  refine thn (h pins s σ H _ I hw) fun u s1 ⟨x, H1, I1, r1, q1⟩ => ?_
  obtain ⟨i, rfl, q⟩ := q1
  obtain ⟨t, rfl⟩ := r1
  exact ⟨some i, H1, I1, .int i t, q⟩
def SlR (X : Cx) (r : V → Option Int → Option Int → Hp → VK → Prop) : Prop :=
  ∀ (pins : List (Addr × Obj)) (s : Shared) (σ : St) (H : Hp) (x : V) (v vl vu : Value) (lo hi : Option Int) (sl : Addr) (Q : VK), Inv X pins σ H s → RelV x v → s.heap.IsSliceOf sl vl vu .none → IsPart vl lo → IsPart vu hi → r x lo hi H Q →
    ∃ T id, typeLookup (.type T) "__getitem__" = pure (some (.builtin id)) ∧ s.TypeIs v T ∧ wpAny (model X.prog X.w) X.A (getItem v (.ref sl)) (EP X pins σ Q) X.xe s
theorem SlR.or {r r' : V → Option Int → Option Int → Hp → VK → Prop} (h : SlR X r) (h' : SlR X r') : SlR X (fun x lo hi H Q => r x lo hi H Q ∨ r' x lo hi H Q) := by
  intro pins s σ H x v vl vu lo hi sl Q I rx hs pl pu q
  rcases q with q | q
  · exact h pins s σ H x v vl vu lo hi sl Q I rx hs pl pu q
  · exact h' pins s σ H x v vl vu lo hi sl Q I rx hs pl pu q
def tSl (r : V → Option Int → Option Int → Hp → VK → Prop) (te : TE) (tl th : TO) : TE := fun σ H Q => te σ H fun x H1 => tl σ H1 fun l H2 => th σ H2 fun u H3 => r x l u H3 Q
theorem pe_slice {r : V → Option Int → Option Int → Hp → VK → Prop} (hr : SlR X r) (he : PE X e te) (hl : PO X lo tl) (hu : PO X hi th) : PE X (.Subscript e (.Slice lo hi none p2) pos) (tSl r te tl th) := by
  intro pins s σ H Q I h
  refine Subscript_ (thn (he pins s σ H _ I h) fun v s1 ⟨x, H1, I1, r1, q1⟩ => ?_)
  refine wpAny_Slice (thn (hl pins s1 σ H1 _ I1 q1) fun vl s2 ⟨l, H2, I2, pl, q2⟩ => thn (hu pins s2 σ H2 _ I2 q2) fun vu s3 ⟨u, H3, I3, pu, q3⟩ => ?_)
  rw [evalPart_none]
  refine wpAny_pure ?_
  have I4 : Inv X pins σ H3 { s3 with heap := s3.heap.push { cls := .type "slice", data := .fields #[vl, vu, .none] } } := I3.kept (t' := s3.toks) fun b ob q => Heap.get?_push_of_some _ q
  obtain ⟨T, id, hT, ht, hg⟩ := hr pins { s3 with heap := s3.heap.push { cls := .type "slice", data := .fields #[vl, vu, .none] } } σ H3 x v vl vu l u s3.heap.objs.size Q I4 r1 (Heap.IsSliceOf.new ..) pl pu q3
  show wpAny (model X.prog X.w) X.A (subscriptTail e (.Slice lo hi none p2) v (.ref s3.heap.objs.size)) (EP X pins σ Q) X.xe { s3 with heap := s3.heap.push { cls := .type "slice", data := .fields #[vl, vu, .none] } }
  exact tail_any (ops := [.ref s3.heap.objs.size, v]) ht hT hg (by with_unfolding_all rfl)
def cutV (xs : List V) (lo hi : Option Int) : List V := (xs.drop (HT.sIx xs.length 0 lo)).take (HT.sIx xs.length xs.length hi - HT.sIx xs.length 0 lo)
theorem cutV_length (xs : List V) (lo hi : Option Int) : (cutV xs lo hi).length ≤ xs.length := by
  unfold cutV
  rw [List.length_take, List.length_drop]
  omega
def rSlT (K : PySem.W.Frag) : V → Option Int → Option Int → Hp → VK → Prop := fun x lo hi H Q => ∃ a xs, x = .ref a ∧ SqT K H a xs ∧
  ¬ (HT.sIx xs.length 0 lo = 0 ∧ HT.sIx xs.length xs.length hi = xs.length) ∧ ∀ p, H p = none → Q (.ref p) (upd H p (.tup (cutV xs lo hi)))
theorem sl_tup : SlR X (rSlT X.K) := by
  intro pins s σ H x v vl vu lo hi sl Q I rx hs pl pu h
  obtain ⟨a, xs, rfl, hx, hw, q⟩ := h
  cases rx
  obtain ⟨its, r, ht, hz⟩ := I.tuple hx
  have hlen : its.toArray.size = xs.length := by rw [List.size_toArray]; exact r.length.symm
  refine ⟨"tuple", _, PyProof.Rows.slot_tuple_getitem.lookup, ht.typeIs, ?_⟩
  refine HT.getItem_tuple_cut ht hs pl pu (by rw [hlen]; exact hw) ?_ (by rw [hlen]; exact hz)
  rw [hlen]
  refine ⟨.ref s.heap.objs.size, _, I.laid (t' := s.toks) (o := .tup (cutV xs lo hi)) (fun b ob q => Heap.get?_push_of_some _ q) (Nat.le_refl _) ?_, rfl, q _ (I.hok.fresh (Nat.le_refl _))⟩
  exact ⟨Nat.le_trans (cutV_length xs lo hi) hz, _, (r.drop (HT.sIx xs.length 0 lo)).take (HT.sIx xs.length xs.length hi - HT.sIx xs.length 0 lo), IsTuN.new _ _⟩
end
end L2
namespace L2
open PySem PySem.Spec PyProof.Rows
def ixN (n : Nat) (i : Int) : Option Nat := if 0 ≤ i then (if i < n then some i.toNat else none) else if -(n : Int) ≤ i then some (i + n).toNat else none
def atI {α : Type} (xs : List α) (i : Int) : Option α := (ixN xs.length i).bind fun j => xs[j]?
theorem ixN_seq {n : Nat} {i : Int} {j : Nat} (h : ixN n i = some j) : seqIndex? i n = some j ∧ j < n ∧ -(n : Int) ≤ i ∧ i < n := by
  unfold ixN at h
  by_cases h0 : 0 ≤ i
  · rw [if_pos h0] at h
    by_cases h1 : i < n
    · rw [if_pos h1] at h
      have e : i.toNat = j := Option.some.inj h
      exact ⟨by rw [seqIndex_of h0 h1, e], by omega, by omega, h1⟩
    · rw [if_neg h1] at h; cases h
  · rw [if_neg h0] at h
    by_cases h1 : -(n : Int) ≤ i
    · rw [if_pos h1] at h
      have e : (i + n).toNat = j := Option.some.inj h
      exact ⟨by rw [seqIndex_neg (by omega) h1, e], by omega, h1, by omega⟩
    · rw [if_neg h1] at h; cases h
theorem atI_get {α : Type} {xs : List α} {i : Int} {v : α} (h : atI xs i = some v) : ∃ j, seqIndex? i xs.length = some j ∧ xs[j]? = some v ∧ j < xs.length ∧ -(xs.length : Int) ≤ i ∧ i < xs.length := by
  unfold atI at h
  cases e : ixN xs.length i with
  | none => rw [e] at h; cases h
  | some j =>
    rw [e] at h
    obtain ⟨h1, h2, h3, h4⟩ := ixN_seq e
    exact ⟨j, h1, h, h2, h3, h4⟩
theorem atI_last {α : Type} (xs : List α) (v : α) : atI (xs ++ [v]) (-1) = some v := by
  have hl : (xs ++ [v]).length = xs.length + 1 := by simp
  have e : ixN (xs ++ [v]).length (-1) = some xs.length := by
    unfold ixN
    rw [hl, if_neg (by decide), if_pos (by omega)]
    congr 1
    omega
  unfold atI
  rw [e]
  show (xs ++ [v])[xs.length]? = some v
  simp
def PlainIx (b : Expr) : Prop := ∀ o i, subscripted b false o i = operate [o, i] (getItem o i)
def IxR (X : Cx) (r : R2) : Prop :=
  ∀ (value slice : Expr) (pins : List (Addr × Obj)) (s : Shared) (σ : St) (H : Hp) (x y : V) (v u : Value) (Q : VK), Inv X pins σ H s → RelV x v → RelV y u → r x y H Q →
    subscripted slice false v u = operate [v, u] (getItem v u) → wpAny (model X.prog X.w) X.A (subscriptTail value slice v u) (EP X pins σ Q) X.xe s
def MtR (X : Cx) (id : String) (r : V → List V → Hp → VK → Prop) : Prop :=
  ∀ (pins : List (Addr × Obj)) (s : Shared) (σ : St) (H : Hp) (x : V) (xs : List V) (v : Value) (us : List Value) (Q : VK), Inv X pins σ H s → RelV x v → Vals xs us → r x xs H Q →
    wpAny (model X.prog X.w) X.A (call (.builtin id) (v :: us)) (EP X pins σ Q) X.xe s
section
variable {X : Cx} {a b : Expr} {ta tb : TE} {pos : Pos}
theorem IxR.or {r r' : R2} (h : IxR X r) (h' : IxR X r') : IxR X (fun x y H Q => r x y H Q ∨ r' x y H Q) := by
  intro value slice pins s σ H x y v u Q I rx ry q hs
  rcases q with q | q
  · exact h value slice pins s σ H x y v u Q I rx ry q hs
  · exact h' value slice pins s σ H x y v u Q I rx ry q hs
theorem MtR.or {id : String} {r r' : V → List V → Hp → VK → Prop} (h : MtR X id r) (h' : MtR X id r') : MtR X id (fun x xs H Q => r x xs H Q ∨ r' x xs H Q) := by
  intro pins s σ H x xs v us Q I rx rs q
  rcases q with q | q
  · exact h pins s σ H x xs v us Q I rx rs q
  · exact h' pins s σ H x xs v us Q I rx rs q
theorem pe_ix {r : R2} (hr : IxR X r) (ha : PE X a ta) (hb : PE X b tb) (hs : PlainIx b) : PE X (.Subscript a b pos) (tOp r ta tb) := by
  intro pins s σ H Q I h
  exact Subscript_ (binT ha hb I h fun v u s2 x y H2 I2 rx ry q => hr a b pins s2 σ H2 x y v u Q I2 rx ry q (hs _ _))
def rIxL (K : PySem.W.Frag) : R2 := fun x y H Q => ∃ p xs i v, x = .ref p ∧ y = .int i ∧ SqL K H p xs ∧ atI xs i = some v ∧ Q v H
def rIxT (K : PySem.W.Frag) : R2 := fun x y H Q => ∃ p xs i v, x = .ref p ∧ y = .int i ∧ SqT K H p xs ∧ atI xs i = some v ∧ Q v H
def rIxS : R2 := fun x y H Q => ∃ z i c, x = .str z ∧ y = .int i ∧ z.length ≤ sizeLine ∧ atI z.cps.toList i = some c ∧ Q (.str ⟨#[c]⟩) H
theorem ix_list : IxR X (rIxL X.K) := by
  intro value slice pins s σ H x y v u Q I rx ry h hs
  obtain ⟨p, xs, i, z, rfl, rfl, hq, he, q⟩ := h
  cases rx
  obtain ⟨t, rfl⟩ := ry
  obtain ⟨its, r, pl, hz⟩ := I.list hq
  obtain ⟨j, h1, h2, h3, h4, h5⟩ := atI_get he
  obtain ⟨w, ew, rw'⟩ := r.get h2
  have hl := r.length
  have hn := line63
  have fin : EP X pins σ Q w s := ⟨z, H, I, rw', q⟩
  by_cases h0 : 0 ≤ i
  · have hj : i.toNat = j := by
      rw [seqIndex_of h0 h5] at h1
      exact Option.some.inj h1
    exact item_listR pl.isList h0 (by omega) (by rw [hj]; simpa using ew) fin hs
  · have hj : (i + (its.toArray.size : Int)).toNat = j := by
      rw [seqIndex_neg (by omega) h4] at h1
      rw [List.size_toArray, ← hl]
      exact Option.some.inj h1
    exact subscriptTail_builtinR (x := w) pl.isList.typeIs slot_list_getitem.lookup
      (wpAny_getItem_list_neg (Q := fun r s' => r = w ∧ EP X pins σ Q r s') pl.isList (by omega) (by rw [List.size_toArray] <;> omega) (by omega) (by rw [hj]; simpa using ew) ⟨rfl, fin⟩) hs
theorem ix_tup : IxR X (rIxT X.K) := by
  intro value slice pins s σ H x y v u Q I rx ry h hs
  obtain ⟨p, xs, i, z, rfl, rfl, hq, he, q⟩ := h
  cases rx
  obtain ⟨t, rfl⟩ := ry
  obtain ⟨its, r, pl, hz⟩ := I.tuple hq
  obtain ⟨j, h1, h2, h3, h4, h5⟩ := atI_get he
  obtain ⟨w, ew, rw'⟩ := r.get h2
  have hl := r.length
  have hn := line63
  have fin : EP X pins σ Q w s := ⟨z, H, I, rw', q⟩
  exact subscriptTail_builtinR (x := w) pl.typeIs slot_tuple_getitem.lookup
    (getItem_tuple (j := j) (Q := fun r s' => r = w ∧ EP X pins σ Q r s') pl (by omega) (by omega) (by rw [List.size_toArray, ← hl]; exact h1) (by simpa using ew) ⟨rfl, fin⟩) hs
theorem ix_str : IxR X rIxS := by
  intro value slice pins s σ H x y v u Q I rx ry h hs
  obtain ⟨z, i, c, rfl, rfl, hz, he, q⟩ := h
  obtain ⟨t, rfl⟩ := rx
  obtain ⟨t', rfl⟩ := ry
  obtain ⟨j, h1, h2, h3, h4, h5⟩ := atI_get he
  have hl : z.cps.toList.length = z.length := by simp [Str.length]
  rw [hl] at h1 h4 h5
  have hn := line63
  exact tail_any (typeIs_str s z t) slot_str_getitem.lookup (getItem_str (c := c) (by
    have e1 : decide (i < -(2 ^ 63 : Int)) = false := decide_eq_false (by omega)
    have e2 : decide (i ≥ 2 ^ 63) = false := decide_eq_false (by omega)
    rw [e1, e2, Bool.or_false]) (by rw [h1]; simpa using h2) ⟨.str ⟨#[c]⟩, H, I.tok _, ⟨_, rfl⟩, q⟩) hs
def rIx (K : PySem.W.Frag) : R2 := fun x y H Q => rIxL K x y H Q ∨ rIxT K x y H Q ∨ rIxS x y H Q
theorem ix_seq : IxR X (rIx X.K) := ix_list.or (ix_tup.or ix_str)
theorem Inv.lst {pins : List (Addr × Obj)} {σ : St} {H : Hp} {s : Shared} {p : Addr} {xs : List V} (I : Inv X pins σ H s) (h : H p = some (.lst xs)) :
    ∃ (its : List Value) (n : Nat), Vals xs its ∧ s.heap.get? p = some { cls := .type "list", data := .seq its.toArray n } ∧ xs.length ≤ sizeLine := by
  obtain ⟨z, its, n, r, e⟩ := I.hok p _ h
  exact ⟨its, n, r, e, z⟩
theorem slice_bounds (lo hi : Option Int) (n : Nat) : (sliceBounds lo hi none n).1 = ((HT.sIx n 0 lo : Nat) : Int) ∧ (sliceBounds lo hi none n).2.1 = ((HT.sIx n n hi : Nat) : Int) ∧ (sliceBounds lo hi none n).2.2 = 1 := by
  refine ⟨?_, ?_, rfl⟩
  · cases lo with
    | none => simp [sliceBounds, HT.sIx]
    | some i =>
      simp only [sliceBounds, HT.sIx, Option.getD_none, show (1 : Int) > 0 by decide, if_true]
      by_cases h : i < 0
      · simp only [h, if_true] <;> omega
      · simp only [h, if_false] <;> omega
  · cases hi with
    | none => simp [sliceBounds, HT.sIx]
    | some i =>
      simp only [sliceBounds, HT.sIx, Option.getD_none, show (1 : Int) > 0 by decide, if_true]
      by_cases h : i < 0
      · simp only [h, if_true] <;> omega
      · simp only [h, if_false] <;> omega
theorem slicePick_cut (its : List Value) (lo hi : Option Int) : slicePick its.toArray lo hi none = ((its.drop (HT.sIx its.length 0 lo)).take (HT.sIx its.length its.length hi - HT.sIx its.length 0 lo)).toArray := by
  obtain ⟨h1, h2, h3⟩ := slice_bounds lo hi its.toArray.size
  unfold slicePick
  rw [h1, h2, h3]
  simp only [sliceRange_one, pick_run, List.size_toArray] <;> rfl
def rSlL (K : PySem.W.Frag) : V → Option Int → Option Int → Hp → VK → Prop := fun x lo hi H Q => ∃ a xs, x = .ref a ∧ SqL K H a xs ∧ ∀ p, H p = none → Q (.ref p) (upd H p (.lst (cutV xs lo hi)))
theorem sl_list : SlR X (rSlL X.K) := by
  intro pins s σ H x v vl vu lo hi sl Q I rx hs pl pu h
  obtain ⟨a, xs, rfl, hx, q⟩ := h
  cases rx
  obtain ⟨its, r, ht, hz⟩ := I.list hx
  have hlen := r.length
  refine ⟨"list", _, slot_list_getitem.lookup, ht.isList.typeIs, ?_⟩
  refine wpAny_getItem_list_slice ht.isList hs pl pu .none (by simp) ?_ (by rw [List.size_toArray] <;> omega)
  rw [slicePick_cut, ← hlen]
  refine ⟨.ref s.heap.objs.size, _, I.laid (t' := s.toks) (o := .lst (cutV xs lo hi)) (fun b ob q => Heap.get?_push_of_some _ q) (Nat.le_refl _) ?_, rfl, q _ (I.hok.fresh (Nat.le_refl _))⟩
  exact ⟨Nat.le_trans (cutV_length xs lo hi) hz, _, 0, (r.drop (HT.sIx xs.length 0 lo)).take (HT.sIx xs.length xs.length hi - HT.sIx xs.length 0 lo), Heap.get?_push_size _ rfl⟩
theorem call_len_seq : CallR X (.builtin "len") (fun xs H Q => ∃ p ys, xs = [.ref p] ∧ (SqL X.K H p ys ∨ SqT X.K H p ys) ∧ Q (.int ys.length) H) := by
  intro pins s σ H xs us Q I r h
  obtain ⟨p, ys, rfl, hq, q⟩ := h
  obtain ⟨u, rfl, rx⟩ := vals1 r
  cases rx
  have hn := line63
  rcases hq with hq | hq
  · obtain ⟨its, r', pl, hz⟩ := I.list hq
    have hlen := r'.length
    exact Calls.call_len_list pl.isList (by simp only [List.size_toArray] <;> omega) ⟨.int ys.length, H, I.tok _, ⟨s.toks + 1, by rw [List.size_toArray, hlen]⟩, q⟩
  · obtain ⟨its, r', pl, hz⟩ := I.tuple hq
    have hlen := r'.length
    exact len_tuple pl (by simp only [List.size_toArray] <;> omega) ⟨.int ys.length, H, I.tok _, ⟨s.toks + 1, by rw [List.size_toArray, hlen]⟩, q⟩
theorem call_len_str : CallR X (.builtin "len") (fun xs H Q => ∃ z, xs = [.str z] ∧ z.length ≤ sizeLine ∧ Q (.int z.length) H) := by
  intro pins s σ H xs us Q I r h
  obtain ⟨z, rfl, hz, q⟩ := h
  obtain ⟨u, rfl, t, rfl⟩ := vals1 r
  have hn := line63
  exact len_str (by omega) ⟨.int z.length, H, I.tok _, ⟨_, rfl⟩, q⟩
theorem CallR.or {f : Value} {r r' : List V → Hp → VK → Prop} (h : CallR X f r) (h' : CallR X f r') : CallR X f (fun xs H Q => r xs H Q ∨ r' xs H Q) := by
  intro pins s σ H xs us Q I rs q
  rcases q with q | q
  · exact h pins s σ H xs us Q I rs q
  · exact h' pins s σ H xs us Q I rs q
theorem call_list_of : CallR X (.type "list") (fun xs H Q => ∃ p ys, xs = [.ref p] ∧ (SqL X.K H p ys ∨ SqT X.K H p ys) ∧ ∀ l, H l = none → Q (.ref l) (upd H l (.lst ys))) := by
  intro pins s σ H xs us Q I r h
  obtain ⟨p, ys, rfl, hq, q⟩ := h
  obtain ⟨u, rfl, rx⟩ := vals1 r
  cases rx
  have fin : ∀ (its : List Value), Vals ys its → ys.length ≤ sizeLine → ∀ (h' : Heap) (c' : Nat), (∀ b o', s.heap.get? b = some o' → h'.get? b = some o') →
      h'.get? s.heap.objs.size = some { cls := .type "list", dict := none, data := .seq its.toArray c', slots := #[] } → EP X pins σ Q (.ref s.heap.objs.size) { s with heap := h' } := fun its r' hz h' c' kp e =>
    ⟨.ref s.heap.objs.size, _, I.laid (t' := s.toks) kp (Nat.le_refl _) (show ObjOk X.prog X.w _ h' _ (.lst ys) from ⟨hz, its, c', r', e⟩), rfl, q _ (I.hok.fresh (Nat.le_refl _))⟩
  rcases hq with hq | hq
  · obtain ⟨its, r', pl, hz⟩ := I.list hq
    have hlen := r'.length
    obtain ⟨o, ho, hc, n, hd⟩ := pl.isList
    exact call_list_seq p (.inl rfl) ho hc hd (fun h' c' kp e => fin its r' hz h' c' kp e) (by simp only [List.size_toArray] <;> omega)
  · obtain ⟨its, r', pl, hz⟩ := I.tuple hq
    have hlen := r'.length
    obtain ⟨o, ho, hc, n, hd⟩ := pl
    exact call_list_seq p (.inr rfl) ho hc hd (fun h' c' kp e => fin its r' hz h' c' kp e) (by simp only [List.size_toArray] <;> omega)
def tyV (K : PySem.W.Frag) (T : String) (x : V) (H : Hp) : Prop := match x with
  | .str _ => T = "str"
  | .int _ => T = "int"
  | .ref p => (T = "list" ∧ ∃ xs, SqL K H p xs) ∨ (T = "tuple" ∧ ∃ o, K.lookup p = some o ∧ o.cls = .type "tuple" ∧ o.dict = none) ∨
      (T = "dict" ∧ ((∃ kvs, H p = some (.dK kvs)) ∨ ∃ kvs, H p = some (.dT kvs))) ∨ (T = "set" ∧ ∃ S n, H p = some (.set S n))
  | _ => False
theorem tyV_is {pins : List (Addr × Obj)} {σ : St} {H : Hp} {s : Shared} {T : String} {x : V} {v : Value} (I : Inv X pins σ H s) (r : RelV x v) (ty : tyV X.K T x H) :
    s.TypeIs v T ∧ ∀ a, v = .ref a → ∃ ob, s.heap.get? a = some ob ∧ ob.dict = none := by
  cases x with
  | str z =>
    obtain ⟨t, rfl⟩ := r
    cases (show T = "str" from ty)
    exact ⟨typeIs_str s z t, fun _ e => nomatch e⟩
  | int i =>
    obtain ⟨t, rfl⟩ := r
    cases (show T = "int" from ty)
    exact ⟨typeIs_int s i t, fun _ e => nomatch e⟩
  | ref p =>
    cases r
    rcases ty with ⟨rfl, xs, hq⟩ | ⟨rfl, o, hk, hc, hd⟩ | ⟨rfl, hk⟩ | ⟨rfl, S, n, hk⟩
    · obtain ⟨its, _, pl, _⟩ := I.list hq
      refine ⟨pl.isList.typeIs, fun a e => ?_⟩
      cases e
      obtain ⟨o, n, e, c, hd, _⟩ := pl
      exact ⟨o, e, hd⟩
    · refine ⟨⟨o, I.kIn p o hk, hc⟩, fun a e => ?_⟩
      cases e
      exact ⟨o, I.kIn _ o hk, hd⟩
    · have z : ∃ o, s.heap.get? p = some o ∧ o.ExactDict := by
        rcases hk with ⟨kvs, hk⟩ | ⟨kvs, hk⟩
        · obtain ⟨_, _, _, _, o, _, _, e, ex, _⟩ := I.hok p _ hk
          exact ⟨o, e, ex⟩
        · obtain ⟨_, _, _, _, o, _, _, e, ex, _⟩ := I.hok p _ hk
          exact ⟨o, e, ex⟩
      obtain ⟨o, e, ex⟩ := z
      refine ⟨⟨o, e, ex.1⟩, fun a e2 => ?_⟩
      cases e2
      exact ⟨o, e, ex.2.1⟩
    · obtain ⟨o, _, _, _, e, ex, _⟩ := I.hok p _ hk
      refine ⟨⟨o, e, ex.1⟩, fun a e2 => ?_⟩
      cases e2
      exact ⟨o, e, ex.2.1⟩
  | _ => exact False.elim ty
def tBM (K : PySem.W.Frag) (T : String) (r : V → List V → Hp → VK → Prop) (to : TE) (t : TA) : TE := fun σ H Q => to σ H fun x H1 => tyV K T x H1 ∧ t σ H1 fun xs H2 => r x xs H2 Q
variable {o e : Expr} {es : List Expr} {to : TE} {t : TA} {name : Str} {apos cpos : Pos} {T id : String} {r : V → List V → Hp → VK → Prop}
theorem pe_bm (pa : PlainAttrs T) (slot : Slot T name id) (hty : typeOf (.builtin id) = pure (.type "method_descriptor")) (hm : MtR X id r) (ho : PE X o to) (ha : PA X (e :: es) t)
    (hbase : attributeBase o name X.env (eval o X.env) = eval o X.env := by rfl)
    (hfew : ((backTo cpos (starEach (e :: es) X.env)).all (fun x => !x.1) && (backToKw cpos (keywordEach [] X.env)).all (fun x => x.1.isSome)
      && decide ((e :: es).length + ([] : List Keyword).length + (if ([] : List Keyword).isEmpty then 0 else 1) < 30)) = true := by rfl)
    (hline : (apos.endLine == cpos.line) = true := by rfl) (hs : starEach (e :: es) X.env = (false, eval e X.env) :: starEach es X.env := by rfl) (hplain : (backTo cpos (starEach es X.env)).any (·.1) = false := by rfl) :
    PE X (.Call (.Attribute o name apos) (e :: es) [] cpos) (tBM X.K T r to t) := by
  intro pins s σ H Q I h
  refine wpAny_Call_method_late hbase hfew hline rfl (thn (ho pins s σ H _ I h) fun v s1 ⟨x, H1, I1, r1, ty, q1⟩ => ?_)
  obtain ⟨h1, h2⟩ := tyV_is I1 r1 ty
  refine ⟨T, id, pa, slot, hty, h1, h2, ?_⟩
  have hA := ha cpos pins s1 σ H1 _ I1 q1
  rw [hs] at hA ⊢
  refine Calls.callWith_builtin (by show (false || (backTo cpos (starEach es X.env)).any (·.1)) = false; rw [hplain] <;> rfl) (Calls.evalArgs_plain ?_)
  exact thn hA fun us s2 ⟨vs, H2, I2, r2, q2⟩ => hm pins s2 σ H2 x vs v us Q I2 r1 r2 q2
end
end L2
namespace L2
open PySem PySem.Spec PyProof.Rows
def MtM (X : Cx) (id : String) (r : V → List V → Hp → VK → Prop) : Prop :=
  ∀ (pins : List (Addr × Obj)) (s : Shared) (σ : St) (H : Hp) (x : V) (xs : List V) (v : Value) (us : List Value) (Q : VK), Inv X pins σ H s → RelV x v → Vals xs us → r x xs H Q →
    wpAny (model X.prog X.w) X.A (call (.builtin id) (v :: us)) (EP X pins σ Q) X.xe s
theorem Vals.one : ∀ {x : V} {us : List Value}, Vals [x] us → ∃ u, us = [u] ∧ RelV x u
  | _, _, .cons r .nil => ⟨_, rfl, r⟩
theorem Vals.two : ∀ {x y : V} {us : List Value}, Vals [x, y] us → ∃ u v, us = [u, v] ∧ RelV x u ∧ RelV y v
  | _, _, _, .cons r (.cons q .nil) => ⟨_, _, rfl, r, q⟩
theorem Vals.zero : ∀ {us : List Value}, Vals [] us → us = []
  | _, .nil => rfl
theorem Vals.reverse {xs : List V} {us : List Value} (h : Vals xs us) : Vals xs.reverse us.reverse := by
  induction h with
  | nil => exact .nil
  | cons r t ih => rw [List.reverse_cons, List.reverse_cons]; exact Vals.append ih (.cons r .nil)
section
variable {X : Cx} {pins : List (Addr × Obj)} {σ : St} {H : Hp} {s : Shared} {l b : Addr} {xs ys zs : List V}
theorem Inv.lset {its its' : List Value} {n : Nat} {f : Array Value → Array Value} {t' : Nat} (I : Inv X pins σ H s) (hH : H l = some (.lst xs))
    (e : s.heap.get? l = some { cls := .type "list", data := .seq its.toArray n }) (hf : f its.toArray = its'.toArray) (hv : Vals ys its') (hz : ys.length ≤ sizeLine) :
    Inv X pins σ (upd H l (.lst ys)) { s with heap := s.heap.update l (Obj.mapSeq f), toks := t' } := by
  have q := PySem.IsL.update e f
  rw [hf] at q
  refine I.write (x := l) (e := l) (by rw [hH]; exact trivial) (.inl rfl) (fun b' u hb hu => (Heap.get?_update_other s.heap (Obj.mapSeq f) (Ne.symm hb)).trans hu) ⟨_, q⟩ ?_
  exact ⟨hz, its', _, hv, q⟩
theorem Inv.lnew {its : List Value} {t' : Nat} (I : Inv X pins σ H s) (hv : Vals ys its) (hz : ys.length ≤ sizeLine) :
    Inv X pins σ (upd H s.heap.objs.size (.lst ys)) { s with heap := s.heap.push { cls := .type "list", data := .seq its.toArray }, toks := t' } :=
  I.laid (fun _ _ q => Heap.get?_push_of_some _ q) (Nat.le_refl _) ⟨hz, its, 0, hv, Heap.get?_push_size _ rfl⟩
theorem Inv.fresh (I : Inv X pins σ H s) : H s.heap.objs.size = none := I.hok.fresh (Nat.le_refl _)
theorem Inv.lstM (I : Inv X pins σ H s) (hH : H l = some (.lst xs)) : xs.length ≤ sizeLine ∧ ∃ (its : List Value) (n : Nat), Vals xs its ∧ xs.length = its.length ∧ s.heap.get? l = some { cls := .type "list", data := .seq its.toArray n } := by
  obtain ⟨z, its, n, r, e⟩ := I.hok l _ hH
  exact ⟨z, its, n, r, r.length, e⟩
end
section
variable {X : Cx}
def rAppend : V → List V → Hp → VK → Prop := fun x vs H Q => ∃ l xs y, x = .ref l ∧ vs = [y] ∧ H l = some (.lst xs) ∧ xs.length < sizeLine ∧ Q .non (upd H l (.lst (xs ++ [y])))
theorem mt_append : MtM X "list.append" rAppend := by
  intro pins s σ H x vs v us Q I rx rv h
  obtain ⟨l, xs, y, rfl, rfl, hH, hz, q⟩ := h
  cases rx
  obtain ⟨u, rfl, ru⟩ := rv.one
  obtain ⟨z, its, n, r, hl, e⟩ := I.lstM hH
  refine call_meets F.slot_list_append ⟨_, e, rfl⟩ F.entry_list_append (F.args_list_append_2 _ _) (PySem.list_append l its.toArray n u (by rw [List.size_toArray]; omega)) ⟨e, ?_⟩
  refine ⟨.non, _, I.lset (its' := its ++ [u]) hH e (by simp) (r.append (.cons ru .nil)) ?_, rfl, q⟩
  rw [List.length_append, List.length_singleton]
  omega
end
section
variable {prog : Program} {w : World} {A : Around} {E : Value → Shared → Prop} {s : Shared}
end
section
variable {X : Cx}
end
end L2
namespace Att
open PySem PySem.W PySem.Calls PyProof.Rows
theorem ints_of_wellAll {P : Params} {h : Heap} : ∀ (ns : List Int) (vs : List Value), WellAll P h vs (ns.map WData.int) → IntsAre vs ns := by
  intro ns
  induction ns with
  | nil =>
    intro vs w
    rw [List.map_nil] at w
    cases w
    exact .nil
  | cons n ns ih =>
    intro vs w
    rw [List.map_cons] at w
    cases w with
    | cons a b =>
      cases a
      exact .cons _ _ (ih _ b)
theorem script_of {l : OpenLaw} {n : Nat} (hn : l.most = some n) {P : Params} {h : Heap} {args : List WData} {vals : List Value}
    (hpre : l.row.toRowW.claim.pre args = true) (hwl : WellAll P h vals args) :
    ∃ a vs ns, vals = [Value.ref a] ∧ args = [WData.list (ns.map WData.int)] ∧ h.get? a = some { cls := .type "list", data := .seq vs.toArray } ∧ IntsAre vs ns ∧ ns.length ≤ n := by
  have hsh : WShape.hasAll [] args [.list .int] = true := (pre_splitW hpre).1
  have hc : l.pre.holds [] { args := args } = true := (pre_splitW hpre).2
  obtain ⟨d, r, rfl, h1, h2⟩ := hasAllW_cons hsh
  obtain rfl := hasAllW_nil h2
  obtain ⟨xs, rfl, h3⟩ := hasW_list h1
  obtain ⟨ns, rfl⟩ := items_int h3
  have hlen : ns.length ≤ n := by
    unfold OpenLaw.pre at hc
    have h4 : (WTm.not (.lt (.lit (.int (n : Int))) (.len (.arg 0)))).holds [] { args := [.list (ns.map .int)] } = true := by
      have h4 := (holds_andW hc).1
      rw [hn] at h4
      exact h4
    have h5 := condW_of h4 (w_not (w_lt w_lit (w_len_list (w_arg rfl))))
    rw [List.length_map] at h5
    refine Nat.le_of_not_lt fun q => ?_
    have q' : (n : Int) < ((ns.length : Nat) : Int) := by omega
    first
      | (rw [decide_eq_true q'] at h5; exact absurd h5 (by decide))
      | (simp at h5; omega)
  cases hwl with
  | cons w1 w2 =>
    cases w2
    cases w1 with
    | list ho hall => exact ⟨_, _, ns, rfl, rfl, ho, ints_of_wellAll ns _ hall, hlen⟩
theorem post_true (l : OpenLaw) (args : List WData) : l.row.toRowW.claim.post args (.bool true) args = true :=
  postW_of (r := l.row.toRowW) (X := (true == true))
    (show WShape.has [] (.bool true) .bool = true by first | rfl | decide | simp [WShape.has, WShape.arms, WShape.armsAll])
    (show (WTm.eq .res (.lit (.bool true))).value [] { args := args, res := some (.bool true), after := args } = some (.bool (true == true)) from w_eq_bool (w_res rfl) w_lit) rfl
theorem attach_call {l : OpenLaw} {n : Nat} {q : Program} {loose : List Str} {XP : (Str → Option Value) → Heap → Prop} {YP : World → Heap → Prop} {d : DefRec}
    (hn : l.most = some n) (hdf : d.params.defaults = [])
    (call : ∀ (w : World) (s₀ s₁ : Shared) (mg mb : Str → Option Value) (fa : Addr) (o : Obj) (pm cd doc : Value) (a : Addr) (vs : List Value) (ns : List Int),
      Ground q loose [] XP w s₀ mg mb s₁.heap → YP w s₁.heap →
      s₁.heap.get? fa = some o → o.data = .func (docDef d.name d.params d.body d.scope pm cd doc) → s₁.heap.CodeRec cd d.name → mg d.name = some (.ref fa) →
      s₁.heap.get? a = some { cls := .type "list", data := .seq vs.toArray } → IntsAre vs ns → ns.length ≤ n → s₁.gens = #[] →
      codeAny (model l.prog w) callerA (.call (.ref fa) ⟨[.ref a], []⟩) (fun r s' => r = .ok (.ret (.bool true)) ∧ OldK s₁.heap s'.heap ∧ s'.os = s₁.os ∧ AllBare s'.gens) s₁) :
    WalkO q loose XP YP l.row.toRowW d [] (fun f vs => PySem.call f vs) := by
  intro w s₀ s₁ mg mb G Y fa o pm cd doc dV kV ho hd hcd hD hmg hg args vals as hpre hlay hrd hwl hlo
  obtain rfl : dV = .none := Dflts.none hD hdf
  obtain rfl : kV = .none := Dflts.noKw hD
  obtain ⟨a, vs, ns, rfl, rfl, hobj, hints, hlen⟩ := script_of hn hpre hwl
  refine enter_call (codeAny_mono (call w s₀ s₁ mg mb fa o pm cd doc a vs ns G Y ho (fd_plain hd) hcd hmg hobj hints hlen hg) fun r s' hq => ?_)
  obtain ⟨rfl, h2, h3, h4⟩ := hq
  exact ⟨.inl ⟨.bool true, .bool true, [], rfl, fun _ => rfl, .bool true, post_true l _, fun _ => ⟨List.Pairwise.nil, fun _ hm => (nomatch hm)⟩⟩, h2, h3, h4⟩
section
variable {prog : Program} {w : World} {A : Around} {E : Value → Shared → Prop} {s : Shared} {K : Frag}
end
end Att
namespace L2
open PySem PySem.Spec PyProof.Rows
theorem vals_ints : ∀ {vs : List Value} {ns : List Int}, IntsAre vs ns → Vals (ns.map V.int) vs
  | _, _, .nil => .nil
  | _, _, .cons n t h => .cons ⟨t, rfl⟩ (vals_ints h)
def Only (H : Hp) : Prop := ∀ b, H b = none ∨ ∃ o xs, H b = some (.frz o (.lst xs))
theorem law_call {P : Program} {w : World} {K : PySem.W.Frag} {mg mb : Str → Option Value} {CX : CXT} {k : Nat} {fa a : Addr} {fd : FuncData} {x : Str} {sp : Sp} {s₁ : Shared} {vs : List Value} {ns : List Int}
    (KX : K.In s₁.heap) (hns : s₁.heap.Ns mainGlobals mg) (hb : s₁.heap.Ns builtinsNs mb) (hbb : ∀ x : Str, x ≠ "__name__" → mb x = bootBuiltins x) (hlim : s₁.heap.NoLimit) (hg : s₁.gens = #[])
    (ha : s₁.heap.get? a = some { cls := .type "list", data := .seq vs.toArray }) (hi : IntsAre vs ns) (hl : ns.length ≤ sizeLine) (hr : Room k callerA)
    (F : ∀ base : Heap, K.In base → base.Ns mainGlobals mg → FnOk P w K mg base CX k fa fd [x] sp) (hbind : ∀ (s : Shared) (u : Value), BindsTo s fd ⟨[u], []⟩ [(x, u)])
    (hsp : ∀ H : Hp, Only H → SqL K H a (ns.map V.int) → sp [.ref a] H (fun v _ => v = .bl true) fun _ _ _ => False)
    (hCX : ∀ H e s', CX [] H s₁ (fun _ _ _ => False) e s' → False) :
    codeAny (model P w) callerA (.call (.ref fa) ⟨[.ref a], []⟩) (fun r s' => r = .ok (.ret (.bool true)) ∧ OldK s₁.heap s'.heap ∧ s'.os = s₁.os ∧ AllBare s'.gens) s₁ := by
  have rv := vals_ints hi
  have lenV := hi.length
  have core : ∀ H : Hp, Only H → SqL K H a (ns.map V.int) → HOk P w H s₁.heap → (∀ b, H b ≠ none → b = a) → (H a ≠ none → K.lookup a = none) →
      codeAny (model P w) callerA (.call (.ref fa) ⟨[.ref a], []⟩) (fun r s' => r = .ok (.ret (.bool true)) ∧ OldK s₁.heap s'.heap ∧ s'.os = s₁.os ∧ AllBare s'.gens) s₁ := by
    intro H hO hS hok hA hK
    have base_of : ∀ {b : Addr} {o : Obj}, s₁.heap.get? b = some o → H b = none → (hidT s₁.heap H).get? b = some o := fun e n => hidT_get e n
    have noA : ∀ {b : Addr} {o : Obj} {es : Array DictEntry} {ep : Nat}, s₁.heap.get? b = some o → o.data = .dict es ep → H b = none := fun {b o es ep} e d => by
      cases q : H b with
      | none => rfl
      | some u =>
        have e' : b = a := hA b (by rw [q]; simp)
        subst e'
        rw [ha] at e; cases e
        have d' : Data.seq vs.toArray _ = Data.dict es ep := d
        cases d'
    have nsK : ∀ {b : Addr} {m : Str → Option Value}, s₁.heap.Ns b m → (hidT s₁.heap H).Ns b m := fun {b m} ⟨o, es, ep, e, d, r⟩ => ⟨o, es, ep, base_of e (noA e d), d, r⟩
    have hKb : K.In (hidT s₁.heap H) := fun b o e => base_of (KX b o e) (by
      cases q : H b with
      | none => rfl
      | some u =>
        have e' : b = a := hA b (by rw [q]; simp)
        subst e'
        rw [hK (by rw [q]; simp)] at e; cases e)
    have hM : Mod K mg (hidT s₁.heap H) := ⟨hKb, nsK hns, ⟨mb, nsK hb, hbb⟩, let ⟨mc, h1, h2⟩ := hlim; ⟨mc, nsK h1, h2⟩⟩
    have e0 : Env0 P w K mg (hidT s₁.heap H) callerA [] s₁ H := ⟨rfl, hM, fun b o e => of_hidT e, Nat.le_of_eq (hidT_size _ _), trivial, fun b hb => absurd (show b ∈ ([] : List Addr) from hb) (by simp), hok, .of_eq hg⟩
    refine codeAny_mono ((F _ hKb (nsK hns)).run callerA [] s₁ H ⟨[.ref a], []⟩ [.ref a] [.ref a] _ _ hr e0 (hbind s₁ (.ref a)) (.cons rfl .nil) (hsp H hO hS)) fun r s' h => ?_
    cases r with
    | error e => exact (hCX H e s' h).elim
    | ok fl =>
      cases fl with
      | next => exact False.elim h
      | brk => exact False.elim h
      | cont => exact False.elim h
      | ret u =>
        obtain ⟨v, H', os, bare, un, hok', r', q⟩ := h
        have q' : v = .bl true := q
        subst q'
        obtain rfl : u = Value.bool true := r'
        refine ⟨rfl, OldK.of_keep fun b o e => ?_, os, bare⟩
        cases q : H b with
        | none => exact un.keep b o e q (by intro z; exact absurd (show b ∈ ([] : List Addr) from z) (by simp)) (by simp)
        | some u =>
          rcases hO b with z | ⟨ob, xs, z⟩
          · rw [q] at z; cases z
          · have z2 := un.frzs b ob _ z
            obtain ⟨e1, _⟩ := hok b _ z
            obtain ⟨e2, _⟩ := hok' b _ z2
            rw [e] at e1; cases e1
            exact e2
  cases hk : K.lookup a with
  | some o =>
    have e := KX a o hk
    rw [ha] at e
    cases e
    refine core (fun _ => none) (fun _ => .inl rfl) (.inr ⟨_, vs.toArray, _, hk, rfl, rfl, rfl, by rw [List.size_toArray, lenV]; exact hl, by simpa using rv⟩) (fun b u z => by have z' : (none : Option HO) = some u := z; cases z') (fun b z => absurd rfl z) fun z => absurd rfl z
  | none =>
    refine core (fun b => if b = a then some (.frz { cls := .type "list", data := .seq vs.toArray } (.lst (ns.map V.int))) else none) (fun b => ?_) (.inl (.inr ⟨{ cls := .type "list", data := .seq vs.toArray }, if_pos rfl⟩)) (fun b u z => ?_) (fun b z => ?_) fun _ => hk
    · by_cases hb : b = a
      · exact .inr ⟨_, _, if_pos hb⟩
      · exact .inl (if_neg hb)
    · by_cases hb : b = a
      · have z' := (if_pos hb).symm.trans z
        cases z'
        subst hb
        exact ⟨ha, by rw [List.length_map]; exact hl, vs, _, rv, ha⟩
      · have z' := (if_neg hb).symm.trans z
        cases z'
    · by_cases hb : b = a
      · exact hb
      · exact absurd (if_neg hb) z
end L2
namespace L2
open PySem PySem.Spec PyProof.Rows
theorem walk_of {l : PySem.W.OpenLaw} {n k : Nat} {q : Program} {loose : List Str} {XP : (Str → Option Value) → Heap → Prop} {YP : World → Heap → Prop} {d : DefRec} {K : Params → PySem.W.Frag} {CX : World → CXT} {sp : World → Sp} {x : Str}
    (hn : l.most = some n) (hn2 : n ≤ sizeLine) (hdf : d.params.defaults = []) (hr : Room k callerA)
    (hY : ∀ (w : World) (h : Heap), YP w h → (K w.params).In h)
    (F : ∀ (w : World) (mg : Str → Option Value) (fa : Addr) (h : Heap), (K w.params).In h → h.Ns mainGlobals mg → mg d.name = some (.ref fa) →
      ∃ fd : FuncData, (∀ (s : Shared) (u : Value), BindsTo s fd ⟨[u], []⟩ [(x, u)]) ∧
        ∀ base : Heap, (K w.params).In base → base.Ns mainGlobals mg → FnOk l.prog w (K w.params) mg base (CX w) k fa fd [x] (sp w))
    (hsp : ∀ (w : World) (H : Hp) (a : Addr) (ns : List Int), ns.length ≤ n → Only H → SqL (K w.params) H a (ns.map V.int) → sp w [.ref a] H (fun v _ => v = .bl true) fun _ _ _ => False)
    (hCX : ∀ (w : World) (H : Hp) (s : Shared) (e : Value) (s' : Shared), CX w [] H s (fun _ _ _ => False) e s' → False) :
    PySem.W.WalkO q loose XP YP l.row.toRowW d [] (fun f vs => PySem.call f vs) := by
  refine Att.attach_call hn hdf fun w s₀ s₁ mg mb fa o pm cd doc a vs ns G Y ho hd hcd hmg hobj hints hlen hg => ?_
  have KX := hY w _ Y
  obtain ⟨fd, hb, hF⟩ := F w mg fa _ KX G.T.g hmg
  exact law_call KX G.T.g G.T.b G.T.builtins G.T.nolimit hg hobj hints (Nat.le_trans hlen hn2) hr hF hb (fun H hO hS => hsp w H a ns hlen hO hS) fun H e s' => hCX w H s₁ e s'
end L2
namespace L2
open PySem PySem.Spec PyProof.Rows
def defArgs (s : Stmt) : Arguments := match s with
  | .FunctionDef _ a _ _ _ _ _ _ _ _ => a
  | _ => { posonlyargs := [], args := [], vararg := none, kwonlyargs := [], kw_defaults := [], kwarg := none, defaults := [] }
def defBody (s : Stmt) : List Stmt := match s with
  | .FunctionDef _ _ b _ _ _ _ _ _ _ => b
  | _ => []
def defScope (s : Stmt) : Scope := match s with
  | .FunctionDef _ _ _ _ _ _ sc _ _ _ => sc
  | _ => { kind := .function, names := [], isGenerator := false, isCoroutine := false }
abbrev CX0 : CXT := fun _ _ _ _ _ _ => False
abbrev E0 : XK := fun _ _ _ => False
theorem pass0 {X : Cx} : Passes CX0 X E0 := fun _ _ _ _ _ _ _ h => h.elim
structure Fun (K : PySem.W.Frag) (x qual : Str) (st : Stmt) (f : Addr) (fd : FuncData) : Prop where
  ex : ∃ (oc : Value) (od : Option Addr) (kV doc pm : Value) (an : Option Addr) (cdv ct : Value) (osl : Array (Option Value)),
    fd = PySem.W.fnOf x qual (defArgs st) (defBody st) (defScope st) .none kV doc pm an cdv ct ∧ K.lookup f = some ⟨oc, od, .func fd, osl⟩ ∧ PySem.W.codeIn K cdv qual = true
  kp : PySem.W.keepIn K (.ref f) = true
section
variable {P : Program} {w : World} {K : PySem.W.Frag} {mg : Str → Option Value} {base : Heap}
theorem Fun.ok {x qual : Str} {st : Stmt} {f : Addr} {fd : FuncData} {N ps : List Str} {k : Nat} {sp : Sp} (F : Fun K x qual st f fd) (S : FnScope N ps (defScope st)) (len : ∀ vs H Q E, sp vs H Q E → vs.length = ps.length)
    (hbody : ∀ (cdv : Value) (A : Around) (outer : List Env) (s : Shared) (H : Hp) (vs : List V) (Q : VK) (E : XK), Room k (A.deeper (envOfC qual (defScope st) s.heap.objs.size f cdv)) → sp vs H Q E →
      ∃ t, PSs (cxOf CX0 P w K mg base N qual (defScope st) f cdv A outer s H E).nox (defBody st) t ∧ t { nx := fun _ H' => Q .non H', rt := Q } (start N vs) H) : FnOk P w K mg base CX0 (k + 1) f fd ps sp := by
  obtain ⟨oc, od, kV, doc, pm, an, cdv, ct, osl, rfl, lk, hcd⟩ := F.ex
  refine fn_of lk hcd S len fun A outer s H vs Q E hr hsp => ?_
  obtain ⟨t, h, q⟩ := hbody cdv A outer s H vs Q E hr hsp
  exact ⟨t, h.nox, q⟩
theorem Fun.binds {x qual : Str} {st : Stmt} {f : Addr} {fd : FuncData} {ps : List Str} (F : Fun K x qual st f fd)
    (h : ∀ (kV doc pm : Value) (an : Option Addr) (cdv ct : Value) (us : List Value), us.length = ps.length → bindArgs (PySem.W.fnOf x qual (defArgs st) (defBody st) (defScope st) .none kV doc pm an cdv ct) ⟨us, []⟩ = pure (ps.zip us)) : Binds K fd ps [] := by
  obtain ⟨oc, od, kV, doc, pm, an, cdv, ct, osl, rfl, lk, hcd⟩ := F.ex
  exact .all (h kV doc pm an cdv ct)
theorem fun_mk {x qual : Str} {st : Stmt} {f : Addr} {oc : Value} {od an : Option Addr} {osl : Array (Option Value)} {kV doc pm cdv ct : Value} (l : K.lookup f = some ⟨oc, od, .func (PySem.W.fnOf x qual (defArgs st) (defBody st) (defScope st) .none kV doc pm an cdv ct), osl⟩)
    (c : PySem.W.codeIn K cdv qual = true) (k : PySem.W.keepIn K (.ref f) = true) : Fun K x qual st f (PySem.W.fnOf x qual (defArgs st) (defBody st) (defScope st) .none kV doc pm an cdv ct) := ⟨⟨oc, od, kV, doc, pm, an, cdv, ct, osl, rfl, l, c⟩, k⟩
end
theorem small1000 {n : Nat} (h : n ≤ 1000) : n < sizeLine := Nat.lt_of_le_of_lt h (by decide)
section
variable {X : Cx}
end
theorem iteF {A B : Prop} (h : B) : if false = true then A else B := by
  rw [if_neg Bool.false_ne_true]
  exact h
theorem iteT {A B : Prop} (h : A) : if true = true then A else B := by
  rw [if_pos rfl]
  exact h
def Same (H H' : Hp) : Prop := ∀ b o, H b = some o → H' b = some o
theorem Same.refl (H : Hp) : Same H H := fun _ _ h => h
theorem Same.trans {H H1 H2 : Hp} (a : Same H H1) (b : Same H1 H2) : Same H H2 := fun c o h => b c o (a c o h)
theorem Same.free {H H' : Hp} (e : Same H H') {l : Addr} (h : H' l = Option.none) : H l = Option.none := by
  cases q : H l with
  | none => rfl
  | some o =>
    rw [e l o q] at h
    cases h
theorem Same.seq {K : PySem.W.Frag} {H H' : Hp} {a : Addr} {xs : List V} (e : Same H H') (h : SqL K H a xs) : SqL K H' a xs := by
  rcases h with (h | ⟨o, h⟩) | h
  · exact .inl (.inl (e _ _ h))
  · exact .inl (.inr ⟨o, e _ _ h⟩)
  · exact .inr h
end L2
set_option maxRecDepth 100000
set_option maxRecDepth 100000
namespace L2
open PySem PySem.Spec PyProof.Rows
end L2
namespace L2
open PySem PySem.Spec PyProof.Rows
section
variable (P : Program) (w : World)
end
section
variable {P : Program} {w : World} {H H' : Hp} {h h' : Heap} {a : Addr} {o : HO}
end
section
variable {P : Program} {w : World} {H : Hp} {h h' : Heap} {x e : Addr} {o' : HO}
end
section
variable {fs fs' ex ex' : List Addr} {H H1 H2 : Hp} {h h1 h2 h' : Heap} {a x e : Addr} {o : HO}
end
end L2
namespace L2
open PySem PySem.Spec PyProof.Rows
section
variable {X : Cx} {pins : List (Addr × Obj)} {σ : List (Option V)} {H H' : Hp} {s : Shared} {h' : Heap}
end
end L2
namespace L2
open PySem PySem.Spec PyProof.Rows
section
variable {X : Cx}
variable {a b : Expr} {ta tb : TE} {pos : Pos}
variable {tA tB' : TT} {rest : List Expr}
end
end L2
namespace L2
open PySem PySem.Spec PyProof.Rows
section
variable {X : Cx} {pins : List (Addr × Obj)} {σ : St} {H : Hp} {s : Shared} {a : Addr} {xs ys : List V}
end
section
variable {X : Cx} {pins : List (Addr × Obj)} {σ : St} {H : Hp} {s : Shared} {E : Value → Shared → Prop}
end
section
variable {X : Cx} {st : Stmt} {rest : List Stmt} {t u : TS} {e : Expr} {te : TE} {pos : Pos}
end
section
variable {X : Cx} {pos : Pos}
end
section
variable {X : Cx} {pos : Pos}
end
end L2
namespace L2
open PySem PySem.Spec PyProof.Rows
section
variable {X : Cx} {tg : Expr}
end
end L2
namespace L2
open PySem PySem.Spec PyProof.Rows
section
variable {X : Cx} {a b c : Expr} {ta tb tc : TE} {pos : Pos}
end
section
variable {X : Cx} {a b c : Expr} {ta tb tc : TE} {pos : Pos}
end
end L2
namespace L2
open PySem PySem.Spec PyProof.Rows
section
variable {prog : Program} {w : World} {A : Around} {E : Value → Shared → Prop} {s : Shared} {K : PySem.W.Frag} {x dx C f : Addr} {mA : Str → Option Value} {name : Str} {v : Value}
end
section
variable {P : Program} {w : World} {H H' : Hp} {h h' : Heap} {a C dx : Addr} {fs fs' : List (Str × V)}
end
section
variable {X : Cx} {pins : List (Addr × Obj)} {σ : St} {H : Hp} {s : Shared} {a C dx : Addr} {fs : List (Str × V)} {f : Str} {v : V} {A : Around} {E : Value → Shared → Prop}
end
section
variable {X : Cx} {o e value : Expr} {f : Str} {pos pos' tpos : Pos} {ta tv : TE}
end
section
variable {X : Cx} {pins : List (Addr × Obj)} {σ : St} {H : Hp} {s : Shared} {A : Around} {E : Value → Shared → Prop} {Q : Value → Shared → Prop} {c : Value} {b : Bool}
end
end L2
namespace L2
open PySem PySem.Spec PyProof.Rows
section
variable {X : Cx} {e : Expr} {es : List Expr} {te : TE} {t : TA} {pos : Pos}
end
section
variable {X : Cx} {pins : List (Addr × Obj)} {σ : St} {H : Hp} {s s' : Shared}
end
section
variable {X : Cx} {CX : CXT} {k : Nat} {f C : Addr} {fd : FuncData} {ps : List Str} {sp : Sp} {dvs : List V} {ds : List Value} {E : XK} {x m : Str} {p pos apos : Pos} {e o : Expr} {es : List Expr} {ta : TE} {t : TA}
end
section
variable {X : Cx} {CX : CXT} {k : Nat} {f C : Addr} {fd : FuncData} {ps ks : List Str} {sp : Sp} {E : XK} {x m : Str} {p pos apos kpos : Pos} {e o : Expr} {es : List Expr} {kws : List Keyword} {te ta : TE} {t tk : TA} {nm : Option Str}
variable {g : List Value → List Value → List Value} {gV : List V → List V → List V}
end
end L2
namespace L2
open PySem PySem.Spec PyProof.Rows
section
variable {X : Cx} {x : Str} {p pos : Pos} {e : Expr} {es : List Expr} {t : TA} {id T : String} {r : List V → Hp → VK → Prop}
end
end L2
namespace L2
open PySem PySem.Spec PyProof.Rows
section
variable {κ : Type} [DecidableEq κ]
def valV (kvs : List (κ × V)) (k : κ) : Option V := (kvs.find? fun kv => decide (kv.1 = k)).map (·.2)
def putK (kvs : List (κ × V)) (k : κ) (v : V) : List (κ × V) :=
  if (kvs.any fun kv => decide (kv.1 = k)) = true then kvs.map (fun kv => if kv.1 = k then (kv.1, v) else kv) else kvs ++ [(k, v)]
def dropK (kvs : List (κ × V)) (k : κ) : List (κ × V) := kvs.filter fun kv => decide (kv.1 ≠ k)
theorem valV_pos {p : κ × V} {r : List (κ × V)} {k : κ} (e : p.1 = k) : valV (p :: r) k = some p.2 := by simp [valV, List.find?_cons, e]
theorem valV_neg {p : κ × V} {r : List (κ × V)} {k : κ} (e : ¬ p.1 = k) : valV (p :: r) k = valV r k := by simp [valV, List.find?_cons, e]
theorem valV_any (k : κ) : ∀ kvs : List (κ × V), (kvs.any fun kv => decide (kv.1 = k)) = (valV kvs k).isSome
  | [] => rfl
  | p :: r => by
    rw [List.any_cons]
    by_cases e : p.1 = k
    · simp only [valV_pos e, decide_eq_true e, Bool.true_or, Option.isSome_some]
    · rw [valV_neg e, decide_eq_false e, Bool.false_or]; exact valV_any k r
theorem valV_map (k j : κ) (y : V) : ∀ kvs : List (κ × V), valV (kvs.map fun kv => if kv.1 = k then (kv.1, y) else kv) j = (valV kvs j).map fun x => if j = k then y else x
  | [] => rfl
  | p :: r => by
    have ih := valV_map k j y r
    rw [List.map_cons]
    by_cases h : p.1 = k
    · rw [if_pos h]
      by_cases e : p.1 = j
      · rw [valV_pos (p := (p.1, y)) e, valV_pos e, Option.map_some, if_pos (e.symm.trans h)]
      · rw [valV_neg (p := (p.1, y)) e, valV_neg e, ih]
    · rw [if_neg h]
      by_cases e : p.1 = j
      · rw [valV_pos (p := p) e, valV_pos e, Option.map_some, if_neg (fun z => h (e.trans z))]
      · rw [valV_neg (p := p) e, valV_neg e, ih]
theorem valV_snoc (k j : κ) (y : V) : ∀ kvs : List (κ × V), valV kvs k = none → valV (kvs ++ [(k, y)]) j = if j = k then some y else valV kvs j
  | [], _ => by
    by_cases e : k = j
    · rw [if_pos e.symm]; exact valV_pos (p := (k, y)) e
    · rw [if_neg (fun z => e z.symm)]; exact valV_neg (p := (k, y)) e
  | p :: r, hn => by
    rw [List.cons_append]
    have hk : ¬ p.1 = k := fun z => by rw [valV_pos z] at hn; cases hn
    rw [valV_neg hk] at hn
    have ih := valV_snoc k j y r hn
    by_cases e : p.1 = j
    · rw [valV_pos e, valV_pos e, if_neg (fun z => hk (e.trans z))]
    · rw [valV_neg e, valV_neg e, ih]
theorem valV_put (kvs : List (κ × V)) (k j : κ) (y : V) : valV (putK kvs k y) j = if j = k then some y else valV kvs j := by
  unfold putK
  by_cases a : (kvs.any fun kv => decide (kv.1 = k)) = true
  · rw [if_pos a, valV_map]
    rw [valV_any] at a
    by_cases e : j = k
    · obtain ⟨x, hx⟩ := Option.isSome_iff_exists.mp a
      rw [if_pos e, e, hx, Option.map_some, if_pos rfl]
    · rw [if_neg e]
      cases valV kvs j with
      | none => rfl
      | some x => rw [Option.map_some, if_neg e]
  · rw [if_neg a]
    refine valV_snoc k j y kvs ?_
    rw [valV_any] at a
    cases q : valV kvs k with
    | none => rfl
    | some x => rw [q] at a; exact (a rfl).elim
theorem length_putK (kvs : List (κ × V)) (k : κ) (v : V) : (putK kvs k v).length ≤ kvs.length + 1 := by
  unfold putK
  split
  · rw [List.length_map]; omega
  · rw [List.length_append, List.length_cons, List.length_nil]; omega
theorem RelO.isSome_eq {o : Option V} {u : Option Value} (r : RelO o u) : o.isSome = u.isSome := by
  cases o with
  | none => cases u with
    | none => rfl
    | some _ => exact (show False from r).elim
  | some _ => cases u with
    | none => exact (show False from r).elim
    | some _ => rfl
theorem RelO.getD {o : Option V} {u : Option Value} {d : V} {d' : Value} (r : RelO o u) (rd : RelV d d') : RelV (o.getD d) (u.getD d') := by
  cases o with
  | none => cases u with
    | none => exact rd
    | some _ => exact (show False from r).elim
  | some _ => cases u with
    | none => exact (show False from r).elim
    | some _ => exact r
theorem KV.val {kvs : List (κ × V)} {vs : List (κ × Value)} (r : KV kvs vs) (k : κ) : RelO (valV kvs k) (valueAt vs k) := by
  unfold KV at r
  induction r with
  | nil => exact True.intro
  | @cons p q ps qs h t ih =>
    obtain ⟨h1, h2⟩ := h
    by_cases e : p.1 = k
    · have e' : q.1 = k := h1.symm.trans e
      have b : valueAt (q :: qs) k = some q.2 := by simp [valueAt, List.find?_cons, e']
      rw [valV_pos e, b]; exact h2
    · have e' : ¬ q.1 = k := fun z => e (h1.trans z)
      have b : valueAt (q :: qs) k = valueAt qs k := by simp [valueAt, List.find?_cons, e']
      rw [valV_neg e, b]; exact ih
theorem KV.any {kvs : List (κ × V)} {vs : List (κ × Value)} (r : KV kvs vs) (k : κ) : (kvs.any fun kv => decide (kv.1 = k)) = vs.any fun kv => decide (kv.1 = k) := by
  unfold KV at r
  induction r with
  | nil => rfl
  | cons h t ih => rw [List.any_cons, List.any_cons, ih, h.1]
theorem KV.repl {kvs : List (κ × V)} {vs : List (κ × Value)} (r : KV kvs vs) (k : κ) {y : V} {u : Value} (ry : RelV y u) :
    KV (kvs.map fun kv => if kv.1 = k then (kv.1, y) else kv) (vs.map fun kv => if kv.1 = k then (kv.1, u) else kv) := by
  unfold KV at r ⊢
  induction r with
  | nil => exact .nil
  | @cons p q ps qs h t ih =>
    rw [List.map_cons, List.map_cons]
    refine .cons ?_ ih
    obtain ⟨h1, h2⟩ := h
    by_cases e : p.1 = k
    · rw [if_pos e, if_pos (h1.symm.trans e)]; exact ⟨h1, ry⟩
    · rw [if_neg e, if_neg (fun z => e (h1.trans z))]; exact ⟨h1, h2⟩
theorem KV.put {kvs : List (κ × V)} {vs : List (κ × Value)} (r : KV kvs vs) (k : κ) {y : V} {u : Value} (ry : RelV y u) : KV (putK kvs k y) (stored vs k u) := by
  unfold putK stored
  rw [r.any k]
  by_cases e : (vs.any fun kv => decide (kv.1 = k)) = true
  · rw [if_pos e, if_pos e]; exact r.repl k ry
  · rw [if_neg e, if_neg e]; exact Paired.snoc r ⟨rfl, ry⟩
theorem KV.drop {kvs : List (κ × V)} {vs : List (κ × Value)} (r : KV kvs vs) (k : κ) : KV (dropK kvs k) (without vs k) := by
  unfold KV at r ⊢
  unfold dropK without
  induction r with
  | nil => exact .nil
  | @cons p q ps qs h t ih =>
    obtain ⟨h1, h2⟩ := h
    rw [List.filter_cons, List.filter_cons]
    by_cases e : p.1 = k
    · have a : ¬ decide (p.1 ≠ k) = true := by simp [e]
      have b : ¬ decide (q.1 ≠ k) = true := by simp [h1.symm.trans e]
      rw [if_neg a, if_neg b]; exact ih
    · have e' : ¬ q.1 = k := fun z => e (h1.trans z)
      have a : decide (p.1 ≠ k) = true := by simp [e]
      have b : decide (q.1 ≠ k) = true := by simp [e']
      rw [if_pos a, if_pos b]; exact .cons ⟨h1, h2⟩ ih
theorem KV.length {kvs : List (κ × V)} {vs : List (κ × Value)} (r : KV kvs vs) : kvs.length = vs.length := Paired.length r
end
theorem kV_is {P : Program} {w : World} {k : Key} {u : Value} (r : RelV (kV k) u) : (mixKind P w).is k u = true := by
  cases k with
  | inl i => obtain ⟨t, e⟩ := (show ∃ t, u = Value.int i t from r); subst e; exact mixKind_int P w i t
  | inr x => obtain ⟨t, e⟩ := (show ∃ t, u = Value.str x t from r); subst e; exact mixKind_str P w x t
theorem items_are {P : Program} {w : World} : ∀ {ks : List Key} {us : List Value}, Vals (ks.map kV) us → ItemsAre (mixKind P w) ks us
  | [], _, r => by rw [List.map_nil] at r; cases r; exact .nil
  | k :: ks, _, r => by
    rw [List.map_cons] at r
    cases r with
    | cons h t => exact .cons (kV_is h) (items_are t)
abbrev KT (H : Hp) : List (List Key × V) → List (List Key × Addr × Value) → Prop := Paired fun p q => p.1 = q.1 ∧ H q.2.1 = some (.tup (p.1.map kV)) ∧ RelV p.2 q.2.2
theorem KT.val {H : Hp} {kvs : List (List Key × V)} {xs : List (List Key × Addr × Value)} (r : KT H kvs xs) (k : List Key) : RelO (valV kvs k) ((atKey xs k).map (·.2)) := by
  induction r with
  | nil => exact True.intro
  | @cons p q ps qs h t ih =>
    obtain ⟨h1, _, h2⟩ := h
    by_cases e : p.1 = k
    · have e' : q.1 = k := h1.symm.trans e
      have b : atKey (q :: qs) k = some q.2 := by simp [atKey, List.find?_cons, e']
      rw [valV_pos e, b]; exact h2
    · have e' : ¬ q.1 = k := fun z => e (h1.trans z)
      have b : atKey (q :: qs) k = atKey qs k := by simp [atKey, List.find?_cons, e']
      rw [valV_neg e, b]; exact ih
theorem KT.repl {H : Hp} {kvs : List (List Key × V)} {xs : List (List Key × Addr × Value)} (r : KT H kvs xs) (k : List Key) {y : V} {u : Value} (ry : RelV y u) :
    KT H (kvs.map fun kv => if kv.1 = k then (kv.1, y) else kv) (xs.map (putAt k u)) := by
  induction r with
  | nil => exact .nil
  | @cons p q ps qs h t ih =>
    rw [List.map_cons, List.map_cons]
    refine .cons ?_ ih
    obtain ⟨h1, h2, h3⟩ := h
    unfold putAt
    by_cases e : p.1 = k
    · rw [if_pos e, if_pos (h1.symm.trans e)]; exact ⟨h1, h2, ry⟩
    · rw [if_neg e, if_neg (fun z => e (h1.trans z))]; exact ⟨h1, h2, h3⟩
theorem KT.put {H : Hp} {kvs : List (List Key × V)} {xs : List (List Key × Addr × Value)} (r : KT H kvs xs) (k : List Key) {b : Addr} {y : V} {u : Value} (hb : H b = some (.tup (k.map kV))) (ry : RelV y u) :
    KT H (putK kvs k y) (storedH xs k b u) := by
  have e : (kvs.any fun kv => decide (kv.1 = k)) = (atKey xs k).isSome := by
    rw [valV_any, (r.val k).isSome_eq, Option.isSome_map]
  unfold putK storedH
  rw [e]
  by_cases q : (atKey xs k).isSome = true
  · rw [if_pos q, if_pos q]; exact r.repl k ry
  · rw [if_neg q, if_neg q]; exact Paired.snoc r ⟨rfl, hb, ry⟩
theorem KT.keeps {H H' : Hp} {kvs : List (List Key × V)} {xs : List (List Key × Addr × Value)} (r : KT H kvs xs) (ht : ∀ b ys, H b = some (.tup ys) → H' b = some (.tup ys)) : KT H' kvs xs :=
  Paired.mapP r fun _ _ z => ⟨z.1, ht _ _ z.2.1, z.2.2⟩
section
variable {P : Program} {w : World} {H : Hp} {h : Heap} {a : Addr}
theorem rd_of {u : HO} (ok : HOk P w H h) (e : Rd H a u) : ObjOk P w H h a u := e.ok ok
theorem dk_rd {kvs : List (Key × V)} (ok : HOk P w H h) (e : Rd H a (.dK kvs)) : kvs.length ≤ sizeLine ∧ (a == sysModules) = false ∧ ∃ vs, KV kvs vs ∧ h.DictOf (mixKind P w) a vs :=
  show ObjOk P w H h a (.dK kvs) from rd_of ok e
theorem dk_of {kvs : List (Key × V)} (ok : HOk P w H h) (e : H a = some (.dK kvs)) : kvs.length ≤ sizeLine ∧ (a == sysModules) = false ∧ ∃ vs, KV kvs vs ∧ h.DictOf (mixKind P w) a vs := dk_rd ok (.inl e)
theorem key_of {ks : List Key} (ok : HOk P w H h) (e : H a = some (.tup (ks.map kV))) : (tupleKind (mixKind P w)).is h ks a := by
  obtain ⟨_, its, r, o, h1, h2, ⟨n, h3⟩, _⟩ := (show ObjOk P w H h a (.tup (ks.map kV)) from ok a _ e)
  exact ⟨o, its.toArray, n, h1, h2, h3, by simpa using items_are r⟩
theorem dt_rd {kvs : List (List Key × V)} (ok : HOk P w H h) (e : Rd H a (.dT kvs)) : kvs.length ≤ sizeLine ∧ (a == sysModules) = false ∧
    ∃ xs, KT H kvs xs ∧ h.DictOfH (tupleKind (mixKind P w)) a xs := by
  obtain ⟨z, y, xs, r, o, es, ep, h1, h2, h3, h4, h5⟩ := (show ObjOk P w H h a (.dT kvs) from rd_of ok e)
  refine ⟨z, y, xs, r, o, es, ep, h1, h2, h3, h4, fun x hx => ?_, h5⟩
  have all : ∀ {l : List (List Key × V)} {m : List (List Key × Addr × Value)}, KT H l m → ∀ x ∈ m, (tupleKind (mixKind P w)).is h x.1 x.2.1 := by
    intro l m q
    induction q with
    | nil => intro x hx; exact nomatch hx
    | @cons p q ps qs hq t ih =>
      intro x hx
      rcases List.mem_cons.mp hx with e | hx
      · subst e
        exact key_of ok (by rw [← hq.1]; exact hq.2.1)
      · exact ih x hx
  exact all r x hx
theorem dt_of {kvs : List (List Key × V)} (ok : HOk P w H h) (e : H a = some (.dT kvs)) : kvs.length ≤ sizeLine ∧ (a == sysModules) = false ∧
    ∃ xs, KT H kvs xs ∧ h.DictOfH (tupleKind (mixKind P w)) a xs := dt_rd ok (.inl e)
end
def DGet (H : Hp) (a : Addr) (y : V) (r : Option V) : Prop :=
  (∃ kvs k, Rd H a (.dK kvs) ∧ y = kV k ∧ r = valV kvs k) ∨ ∃ kvs k b, Rd H a (.dT kvs) ∧ y = .ref b ∧ H b = some (.tup (k.map kV)) ∧ r = valV kvs k
def DPut (H : Hp) (a : Addr) (y v : V) (H' : Hp) : Prop :=
  (∃ kvs k, H a = some (.dK kvs) ∧ y = kV k ∧ kvs.length < sizeLine ∧ H' = upd H a (.dK (putK kvs k v))) ∨
  ∃ kvs k b, H a = some (.dT kvs) ∧ y = .ref b ∧ H b = some (.tup (k.map kV)) ∧ kvs.length < sizeLine ∧ H' = upd H a (.dT (putK kvs k v))
theorem DGet.k {H : Hp} {a : Addr} {kvs : List (Key × V)} {k : Key} (e : H a = some (.dK kvs)) : DGet H a (kV k) (valV kvs k) := .inl ⟨kvs, k, .inl e, rfl, rfl⟩
theorem DGet.t {H : Hp} {a b : Addr} {kvs : List (List Key × V)} {k : List Key} (e : H a = some (.dT kvs)) (eb : H b = some (.tup (k.map kV))) : DGet H a (.ref b) (valV kvs k) := .inr ⟨kvs, k, b, .inl e, rfl, eb, rfl⟩
theorem DPut.k {H : Hp} {a : Addr} {kvs : List (Key × V)} {k : Key} {v : V} (e : H a = some (.dK kvs)) (hl : kvs.length < sizeLine) : DPut H a (kV k) v (upd H a (.dK (putK kvs k v))) := .inl ⟨kvs, k, e, rfl, hl, rfl⟩
theorem DPut.t {H : Hp} {a b : Addr} {kvs : List (List Key × V)} {k : List Key} {v : V} (e : H a = some (.dT kvs)) (eb : H b = some (.tup (k.map kV))) (hl : kvs.length < sizeLine) :
    DPut H a (.ref b) v (upd H a (.dT (putK kvs k v))) := .inr ⟨kvs, k, b, e, rfl, eb, hl, rfl⟩
section
variable {X : Cx} {pins : List (Addr × Obj)} {σ : St} {H : Hp} {s : Shared} {a : Addr} {y v : V} {u r : Value} {o : Option V} {A : Around} {E : Value → Shared → Prop}
theorem Inv.big (I : Inv X pins σ H s) : sysModules < s.heap.objs.size := by
  have h : mainGlobals < s.heap.objs.size := (I.mod.glob.keeps I.bk).lt
  exact Nat.lt_trans (by decide) h
theorem d_write {h' : Heap} {t' : Nat} {ob : HO} (I : Inv X pins σ H s) (mu : Mut (H a)) (hs : Heap.SameBut a s.heap h') (he : ∃ q, h'.get? a = some q) (new : ObjOk X.prog X.w (upd H a ob) h' a ob) :
    Inv X pins σ (upd H a ob) { s with heap := h', toks := t' } :=
  I.write (x := a) (e := a) mu (.inl rfl) (fun b q hb z => (hs.2 b hb).trans z) he new
theorem dk_new {P : Program} {w : World} {H' : Hp} {h' : Heap} {kvs : List (Key × V)} {vs : List (Key × Value)} (z : kvs.length ≤ sizeLine) (hd : (a == sysModules) = false) (rel : KV kvs vs) (dd : h'.DictOf (mixKind P w) a vs) :
    ObjOk P w H' h' a (.dK kvs) := ⟨z, hd, vs, rel, dd⟩
theorem d_setItem {H' : Hp} {Q : Unit → Shared → Prop} (hu : A.units + 1 < cLine) (I : Inv X pins σ H s) (g : DPut H a y v H') (ry : RelV y u) (rv : RelV v r) (h : ∀ s', Inv X pins σ H' s' → Q () s') :
    wpAny (model X.prog X.w) A (setItem (.ref a) u r) Q E s := by
  rcases g with ⟨kvs, k, e, ey, l, eH⟩ | ⟨kvs, k, b, e, ey, eb, l, eH⟩
  · subst ey eH
    obtain ⟨z, hd, vs, rel, dd⟩ := dk_of I.hok e
    have hz : vs.length ≤ sizeLine := by rw [← rel.length]; exact z
    have hl : (putK kvs k v).length ≤ sizeLine := by have := length_putK kvs k v; omega
    refine wpAny_setItem_pairs (hsz := hz) (kV_is ry) dd fun h' dd' hs => h _ ?_
    have he : ∃ q, h'.get? a = some q := let ⟨q, _, _, hq, _⟩ := dd'; ⟨q, hq⟩
    exact d_write I (by rw [e]; exact True.intro) hs he (dk_new hl hd (rel.put k rv) dd')
  · subst ey eH
    cases (show u = Value.ref b from ry)
    obtain ⟨z, hd, xs, rel, dd⟩ := dt_of I.hok e
    have hz : xs.length ≤ sizeLine := by rw [← Paired.length rel]; exact z
    have hl : (putK kvs k v).length ≤ sizeLine := by have := length_putK kvs k v; omega
    refine wpAny_setItem_heap (hsz := hz) (tupleKind_room_in1 hu) (key_of I.hok eb) dd fun h' dd' hs => h _ ?_
    obtain ⟨q, es, ep, hq, h2, h3, h4, _, h5⟩ := dd'
    refine d_write I (by rw [e]; exact True.intro) hs ⟨q, hq⟩ ⟨hl, hd, _, (rel.put k eb rv).keeps fun c ys ec => ?_, q, es, ep, hq, h2, h3, h4, h5⟩
    rw [upd_ne (ne_of ec e (fun z => nomatch z))]
    exact ec
end
section
variable {X : Cx} {pins : List (Addr × Obj)} {σ : St} {H : Hp} {s : Shared} {a : Addr} {kvs : List (Key × V)} {k : Key} {u : Value} {A : Around} {E : Value → Shared → Prop}
end
def sDPut (td ty tv : TE) : TS := fun D σ H => tv σ H fun v H1 => td σ H1 fun x H2 => ty σ H2 fun y H3 => ∃ a H4, x = .ref a ∧ DPut H3 a y v H4 ∧ D.nx σ H4
section
variable {X : Cx} {o i e value : Expr} {pos pos' tpos : Pos} {td ty tv : TE}
theorem ps_dput (hu : X.A.units + 1 < cLine) (ho : PE X o td) (hi : PE X i ty) (hv : PE X value tv) (hs : swapsWith value (some (.Subscript o i pos')) pos.line X.env = pure false) :
    PS X (.Assign [.Subscript o i pos'] value pos) (sDPut td ty tv) := by
  intro pins s σ H D I h
  refine wpAny_Assign_Subscript (thn (hv pins s σ H _ I h) fun r s1 ⟨v, H1, I1, rv, q1⟩ => thn (ho pins s1 σ H1 _ I1 q1) fun u s2 ⟨x, H2, I2, rx, q2⟩ => thn (hi pins s2 σ H2 _ I2 q2) fun iv s3 ⟨y, H3, I3, ry, a, H4, ex, g, q3⟩ => ?_) hs
  subst ex
  obtain rfl : u = Value.ref a := rx
  exact d_setItem hu I3 g ry rv fun s4 I4 => ⟨σ, H4, I4, q3⟩
end
theorem dk_empty {P : Program} {w : World} {H : Hp} (h : Heap) (hb : sysModules < h.objs.size) : ObjOk P w H (h.push { cls := .type "dict", data := .dict #[] }) h.objs.size (.dK []) :=
  ⟨Nat.zero_le _, beq_eq_false_iff_ne.mpr (Ne.symm (Nat.ne_of_lt hb)), [], .nil, Heap.DictOf.new h⟩
def tDNewK : TE := fun _ H Q => ∀ p, H p = none → Q (.ref p) (upd H p (.dK []))
section
variable {X : Cx} {pos : Pos}
theorem pe_dnewK : PE X (.Dict [] [] pos) tDNewK := fun pins s σ H Q I h =>
  wpAny_Dict_empty ⟨.ref s.heap.objs.size, _, I.laid (a := s.heap.objs.size) (o := .dK []) (t' := s.toks) (fun _ _ q => Heap.get?_push_of_some _ q) (Nat.le_refl _) (dk_empty s.heap I.big), rfl, h _ (I.hok.fresh (Nat.le_refl _))⟩
end
structure M1 (X : Cx) (o : Expr) (m : Str) (apos : Pos) (e : Expr) (cpos : Pos) : Prop where
  base : attributeBase o m X.env (eval o X.env) = eval o X.env
  few : ((backTo cpos (starEach [e] X.env)).all (fun x => !x.1) && (backToKw cpos (keywordEach [] X.env)).all (fun x => x.1.isSome)
    && decide (([e] : List Expr).length + ([] : List Keyword).length + (if ([] : List Keyword).isEmpty then 0 else 1) < 30)) = true
  line : (apos.endLine == cpos.line) = true
  trees : backTo cpos (starEach [e] X.env) = [(false, eval e X.env)]
structure M2 (X : Cx) (o : Expr) (m : Str) (apos : Pos) (e f : Expr) (cpos : Pos) : Prop where
  base : attributeBase o m X.env (eval o X.env) = eval o X.env
  few : ((backTo cpos (starEach [e, f] X.env)).all (fun x => !x.1) && (backToKw cpos (keywordEach [] X.env)).all (fun x => x.1.isSome)
    && decide (([e, f] : List Expr).length + ([] : List Keyword).length + (if ([] : List Keyword).isEmpty then 0 else 1) < 30)) = true
  line : (apos.endLine == cpos.line) = true
  trees : backTo cpos (starEach [e, f] X.env) = [(false, eval e X.env), (false, eval f X.env)]
def IsD (H : Hp) (a : Addr) : Prop := (∃ kvs, Rd H a (.dK kvs)) ∨ ∃ kvs, Rd H a (.dT kvs)
theorem isD_at {X : Cx} {pins : List (Addr × Obj)} {σ : St} {H : Hp} {s : Shared} {a : Addr} (I : Inv X pins σ H s) (d : IsD H a) :
    s.TypeIs (.ref a) "dict" ∧ (∀ b, Value.ref a = .ref b → ∃ ob, s.heap.get? b = some ob ∧ ob.dict = none) ∧ (a == sysModules) = false := by
  rcases d with ⟨kvs, e⟩ | ⟨kvs, e⟩
  · obtain ⟨_, hd, vs, _, dd⟩ := dk_rd I.hok e
    refine ⟨dd.typeIs, fun b q => ?_, hd⟩
    cases q
    obtain ⟨ob, _, _, h1, h2, _⟩ := dd
    exact ⟨ob, h1, h2.2.1⟩
  · obtain ⟨_, hd, xs, _, dd⟩ := dt_rd I.hok e
    refine ⟨dd.typeIs, fun b q => ?_, hd⟩
    cases q
    obtain ⟨ob, _, _, h1, h2, _⟩ := dd
    exact ⟨ob, h1, h2.2.1⟩
section
variable {X : Cx} {pins : List (Addr × Obj)} {σ : St} {H : Hp} {s : Shared} {a : Addr} {y d : V} {u r : Value} {o : Option V} {A : Around} {E : Value → Shared → Prop}
theorem d_get1 {Q : Value → Shared → Prop} (hu : A.units + 1 < cLine) (I : Inv X pins σ H s) (g : DGet H a y o) (ry : RelV y u) (h : ∀ w' s', Inv X pins σ H s' → RelV (o.getD .non) w' → Q w' s') :
    wpAny (model X.prog X.w) A (call (.builtin "dict.get") [.ref a, u]) Q E s := by
  rcases g with ⟨kvs, k, e, ey, l⟩ | ⟨kvs, k, b, e, ey, eb, l⟩
  · subst ey
    obtain ⟨z, hd, vs, rel, dd⟩ := dk_rd I.hok e
    refine call_meetsIn PySem.F.slot_dict_get dd.typeIs PySem.F.entry_dict_get (PySem.F.args_dict_get_2 _ _) (meets_dict_get (mixKind X.prog X.w) a (kV_is ry) hd) ⟨_, dd.mapOf, h _ _ (I.tok _) ?_⟩
    rw [l]
    exact (rel.val k).getD rfl
  · subst ey
    cases (show u = Value.ref b from ry)
    obtain ⟨z, hd, xs, rel, dd⟩ := dt_rd I.hok e
    refine call_meetsIn PySem.F.slot_dict_get dd.typeIs PySem.F.entry_dict_get (PySem.F.args_dict_get_2 _ _) (meetsH_dict_get (tupleKind (mixKind X.prog X.w)) a b hd) ⟨tupleKind_room_in1 hu, k, xs, key_of I.hok eb, dd, h _ _ (I.tok _) ?_⟩
    rw [l]
    exact (rel.val k).getD rfl
end
def tDGet1 (td ty : TE) : TE := fun σ H Q => td σ H fun x H1 => ∃ a, x = .ref a ∧ IsD H1 a ∧ ty σ H1 fun y H2 => ∃ o, DGet H2 a y o ∧ Q (o.getD .non) H2
section
variable {X : Cx} {o e f : Expr} {apos cpos : Pos} {td ty tx : TE}
theorem pe_dget1 (hu : X.A.units + 1 < cLine) (ho : PE X o td) (he : PE X e ty) (m : M1 X o "get" apos e cpos) : PE X (.Call (.Attribute o "get" apos) [e] [] cpos) (tDGet1 td ty) := by
  intro pins s σ H Q I h
  refine wpAny_Call_method m.base m.few m.line PySem.F.plainAttrs_dict PySem.F.slot_dict_get PySem.F.type_dict_get (thn (ho pins s σ H _ I h) fun u s1 ⟨x, H1, I1, rx, a, ex, d, q1⟩ => ?_)
  subst ex
  obtain rfl : u = Value.ref a := rx
  obtain ⟨t1, t2, _⟩ := isD_at I1 d
  refine ⟨t1, t2, ?_⟩
  rw [m.trees]
  refine Calls.callWith_builtin rfl (Calls.evalArgs_plain (Calls.spliced_cons (thn (he pins s1 σ H1 _ I1 q1) fun iv s2 ⟨y, H2, I2, ry, ov, g, q2⟩ => Calls.spliced_nil ?_)))
  exact d_get1 hu I2 g ry fun w' s3 I3 rw' => ⟨_, H2, I3, rw', q2⟩
end
section
variable {X : Cx} {pins : List (Addr × Obj)} {σ : St} {H : Hp} {s : Shared} {a : Addr} {kvs : List (Key × V)} {A : Around} {E : Value → Shared → Prop}
end
section
variable {X : Cx} {pins : List (Addr × Obj)} {σ : St} {H : Hp} {s : Shared} {a : Addr} {y : V} {u : Value} {A : Around} {E : Value → Shared → Prop}
end
end L2
namespace Att
open PySem PySem.W PySem.Calls PyProof.Rows
section
variable {prog : Program} {w : World} {A : Around} {E : Value → Shared → Prop} {s : Shared} {K : Frag}
end
end Att
namespace L2
open PySem PySem.Spec PyProof.Rows
end L2
namespace L2
open PySem PySem.Spec PyProof.Rows
end L2
namespace L2
open PySem PySem.Spec PyProof.Rows
section
variable {P : Program} {w : World} {K : PySem.W.Frag} {mg : Str → Option Value} {base : Heap}
end
section
variable {X : Cx}
end
section
variable {κ : Type} [DecidableEq κ]
end
end L2
set_option maxRecDepth 100000
namespace L2
open PySem PySem.Spec PyProof.Rows
theorem ne_lt {a b : Addr} {n : Nat} (h : a < n) (h' : n ≤ b) : a ≠ b := Nat.ne_of_lt (Nat.lt_of_lt_of_le h h')
theorem ne_lt' {a b : Addr} {n : Nat} (h : a < n) (h' : n ≤ b) : b ≠ a := (ne_lt h h').symm
def clOf (cells : List (Str × Addr)) : List (Str × NameKind) → List (Str × Addr) → List (Str × Addr)
  | [], acc => acc
  | (n, k) :: r, acc => clOf cells r (if (k == NameKind.free) = true then (n, (cells.lookup n).getD 0) :: acc else acc)
theorem closure_go {env : Env} : ∀ (l : List (Str × NameKind)) (acc : List (Str × Addr)), (∀ y ∈ l, y.2 = .free → ∃ c, env.cells.lookup y.1 = some c) →
    (forIn l acc fun (y : Str × NameKind) (cs : List (Str × Addr)) => (match y with
      | (name, kind) => if (kind == NameKind.free) = true then do let c ← cellOf env name; pure (ForInStep.yield ((name, c) :: cs)) else pure (ForInStep.yield cs) : Sem _)) = pure (clOf env.cells l acc)
  | [], acc, _ => rfl
  | (n, k) :: r, acc, h => by
    rw [List.forIn_cons]
    unfold clOf
    by_cases e : (k == NameKind.free) = true
    · have e' : k = NameKind.free := by simpa using e
      obtain ⟨c, hc⟩ := h (n, k) List.mem_cons_self e'
      simp only [e, if_true, cellOf, hc, pure_bind, Option.getD_some]
      exact closure_go r _ fun y hy => h y (List.mem_cons_of_mem _ hy)
    · simp only [e, if_false, pure_bind]
      exact closure_go r _ fun y hy => h y (List.mem_cons_of_mem _ hy)
theorem closure_eq {sc : Scope} {env : Env} (h : ∀ y ∈ sc.names, y.2 = .free → ∃ c, env.cells.lookup y.1 = some c) : closureFor sc env = pure (clOf env.cells sc.names []) := by
  have e := closure_go (env := env) sc.names [] h
  simp only [closureFor]
  exact (bind_pure _).trans e
theorem clOf_sub {cells : List (Str × Addr)} {y : Str} {c : Addr} : ∀ (l : List (Str × NameKind)) (acc : List (Str × Addr)), (∀ y ∈ l, y.2 = .free → ∃ c, cells.lookup y.1 = some c) →
    (clOf cells l acc).lookup y = some c → cells.lookup y = some c ∨ acc.lookup y = some c
  | [], acc, _, e => .inr e
  | (n, k) :: r, acc, h, e => by
    unfold clOf at e
    have hr : ∀ y ∈ r, y.2 = .free → ∃ c, cells.lookup y.1 = some c := fun y hy => h y (List.mem_cons_of_mem _ hy)
    rcases clOf_sub r _ hr e with q | q
    · exact .inl q
    · by_cases z : (k == NameKind.free) = true
      · rw [if_pos z] at q
        rw [List.lookup_cons] at q
        cases hb : y == n with
        | true =>
          rw [hb] at q
          obtain ⟨c', hc'⟩ := h (n, k) List.mem_cons_self (by simpa using z)
          have hc'' : cells.lookup n = some c' := hc'
          rw [hc''] at q
          have e1 : y = n := by simpa using hb
          have q' : c' = c := Option.some.inj q
          exact .inl (by rw [e1, hc'', q'])
        | false =>
          rw [hb] at q
          exact .inr q
      · rw [if_neg z] at q
        exact .inr q
theorem clOf_has {cells : List (Str × Addr)} {y : Str} : ∀ (l : List (Str × NameKind)) (acc : List (Str × Addr)), ((y, NameKind.free) ∈ l ∨ ∃ c, acc.lookup y = some c) → ∃ c, (clOf cells l acc).lookup y = some c
  | [], acc, h => by
    rcases h with h | h
    · cases h
    · exact h
  | (n, k) :: r, acc, h => by
    unfold clOf
    have grow : ∀ v : Addr, (∃ c, acc.lookup y = some c) → ∃ c, ((n, v) :: acc).lookup y = some c := fun v ⟨c, hc⟩ => by
      rw [List.lookup_cons]
      cases y == n with
      | true => exact ⟨v, rfl⟩
      | false => exact ⟨c, hc⟩
    rcases h with h | h
    · rcases List.mem_cons.mp h with e | h
      · have e1 : y = n := congrArg Prod.fst e
        have e2 : NameKind.free = k := congrArg Prod.snd e
        subst e1 e2
        refine clOf_has r _ (.inr ?_)
        rw [if_pos (by rfl)]
        refine ⟨(cells.lookup y).getD 0, ?_⟩
        rw [List.lookup_cons]; simp
      · exact clOf_has r _ (.inl h)
    · refine clOf_has r _ (.inr ?_)
      split
      · exact grow _ h
      · exact h
theorem relab_mem {scope : Scope} {env : Env} {y : Str} {k : NameKind} (hc : ∀ z ∈ scope.names, z.2 ≠ .cell) (h : (relabel scope env).names.lookup y = some k) (hk : k = .cell ∨ k = .free) : (y, NameKind.free) ∈ scope.names := by
  have m := PySem.mem_of_lookup h
  unfold relabel at m
  obtain ⟨⟨n, k'⟩, hm, e⟩ := List.mem_map.mp m
  dsimp only at e
  split at e
  · rename_i z
    have e1 : n = y := congrArg Prod.fst e
    have z1 : k' = NameKind.free := by
      simp only [Bool.and_eq_true] at z
      simpa using z.1.1
    subst e1 z1
    exact hm
  · have e1 : n = y := congrArg Prod.fst e
    have e2 : k' = k := congrArg Prod.snd e
    subst e1 e2
    rcases hk with z | z
    · exact absurd z (hc _ hm)
    · rw [z] at hm; exact hm
theorem relab_free {env : Env} (hf : env.scope.kind = .function) : ∀ {names : List (Str × NameKind)} {y : Str}, names.lookup y = some .free → env.kindOf y = some .cell →
    (names.map fun (n, k) => if (k == NameKind.free && env.scope.kind == .function && env.kindOf n == some .cell) then (n, NameKind.cell) else (n, k)).lookup y = some .cell
  | [], _, h, _ => by simp at h
  | (n, k) :: r, y, h, hk => by
    have ih := @relab_free env hf r y
    rw [List.map_cons]
    cases hy : y == n with
    | true =>
      have e : y = n := by simpa using hy
      subst e
      rw [List.lookup_cons, hy] at h
      have h' : k = NameKind.free := Option.some.inj h
      subst h'
      simp [hf, hk, List.lookup_cons]
    | false =>
      rw [List.lookup_cons, hy] at h
      show List.lookup y ((if (k == NameKind.free && env.scope.kind == .function && env.kindOf n == some .cell) = true then (n, NameKind.cell) else (n, k)) :: _) = _
      by_cases z : (k == NameKind.free && env.scope.kind == .function && env.kindOf n == some .cell) = true
      · rw [if_pos z, List.lookup_cons, hy]; exact ih h hk
      · rw [if_neg z, List.lookup_cons, hy]; exact ih h hk
structure ScB (N : List Str) (sc scope : Scope) (x : Str) (frees : List Str) (js : List Nat) : Prop where
  kind : scope.kind = .function
  fk : sc.kind = .function
  cells : ∀ y ∈ scope.names, y.2 ≠ .cell
  locs : ∀ y ∈ scope.names, y.2 = .local → scope.names.lookup y.1 = some .local
  own : scope.names.lookup x = some .local
  fr : ∀ y ∈ scope.names, y.2 = .free → sc.names.lookup y.1 = some .cell
  nd : (x :: frees).Nodup
  ln : frees.length = js.length
  zp : ∀ p ∈ frees.zip js, N[p.2]? = some p.1 ∧ sc.names.lookup p.1 = some .cell ∧ scope.names.lookup p.1 = some .free
def cxB (X : Cx) (N : List Str) (scope : Scope) (s : Shared) (H : Hp) (C : Addr) (fp : List Addr) : Cx where
  prog := X.prog
  w := X.w
  K := X.K
  mg := X.mg
  base := X.base
  A := X.A
  N := N
  s₀ := s
  H₀ := H
  env := compEnvC scope (clOf X.env.cells scope.names []) C X.env
  outer := X.stack
  stack := X.stack
  ex := fp
  fn := fun _ => false
  calm := X.calm
  pn := []
  xe := fun _ _ => False
def frv (σ : St) (js : List Nat) : St := js.map fun j => (σ[j]?).join
def PTs (X : Cx) (ifs : List Expr) (t : TT) : Prop :=
  ∀ (pins : List (Addr × Obj)) (s : Shared) (σ : St) (H : Hp) (Q : Bool → Hp → Prop), Inv X pins σ H s → t σ H Q →
    wpAny (model X.prog X.w) X.A (forIn ifs true fun c r => if r = true then do let ok ← isTrue c X.env (eval c X.env); pure (ForInStep.yield ok) else pure (ForInStep.yield r)) (TP X pins σ Q) X.xe s
def tYes : TT := fun _ H Q => Q true H
theorem pts_nil {X : Cx} : PTs X [] tYes := fun _ _ _ H _ I h => wpAny_tests_nil ⟨H, I, h⟩
theorem pts_one {X : Cx} {c : Expr} {t : TT} (h : PT X c t) : PTs X [c] t := fun pins s σ H Q I q => wpAny_tests_one (h pins s σ H Q I q)
def LcW (js : List Nat) (tt : TT) (te : TE) (σ : St) (Q : List V → Hp → Prop) (J : It) (H1 : Hp) : Prop :=
  ∃ W : Nat → Nat → List V → Hp → Prop, (∃ m, W 0 m [] H1) ∧ ∀ i m ys H, W i m ys H →
    (J.stop i H ∧ ys.length ≤ sizeLine ∧ Q ys H) ∨
    (J.go i H ∧ ys.length < sizeLine ∧ ∀ x H', J.yld i H x H' → tt (some x :: frv σ js) H' fun b H2 =>
      if b = true then te (some x :: frv σ js) H2 fun v H3 => ∃ m', m' < m ∧ W (i + 1) m' (ys ++ [v]) H3 else ∃ m', m' < m ∧ W (i + 1) m' ys H2)
section
variable {X : Cx} {pins : List (Addr × Obj)} {σ : St} {H : Hp} {s : Shared} {x : Str} {scope sc : Scope} {frees : List Str} {js : List Nat}
theorem lcells (I : Inv X pins σ H s) (hsc : X.env.scope = sc) (B : ScB X.N sc scope x frees js) : ∀ y ∈ scope.names, y.2 = .free → ∃ c, X.env.cells.lookup y.1 = some c := fun y hy hf =>
  I.ok.has y.1 (.inl (show X.env.scope.names.lookup y.1 = some .cell by rw [hsc]; exact B.fr y hy hf))
theorem zip_get {α β : Type} : ∀ {l : List α} {r : List β} {k : Nat} {a : α}, l.length = r.length → l[k]? = some a → ∃ b, r[k]? = some b ∧ (a, b) ∈ l.zip r
  | [], _, _, _, _, h => by simp at h
  | _ :: _, [], _, _, hl, _ => by simp at hl
  | a' :: l, b' :: r, 0, a, _, h => by
    simp at h; subst h
    exact ⟨b', rfl, by simp⟩
  | a' :: l, b' :: r, k + 1, a, hl, h => by
    obtain ⟨b, h1, h2⟩ := zip_get (l := l) (r := r) (k := k) (a := a) (by simpa using hl) (by simpa using h)
    exact ⟨b, by simpa using h1, by rw [List.zip_cons_cons]; exact List.mem_cons_of_mem _ h2⟩
theorem blk_start {fp : List Addr} {h₁ : Heap} {C D : Addr} {tk : Nat} {mC : Str → Option Value} {oD : Obj} (I : Inv X pins σ H s) (hsc : X.env.scope = sc) (B : ScB X.N sc scope x frees js) (hf : ∀ b ∈ fp, FpOk X pins H b) (hfo : ∀ b ∈ fp, b < s.heap.objs.size)
    (hC : s.heap.objs.size ≤ C) (hD : s.heap.objs.size ≤ D) (hDC : D ≠ C) (old : ∀ b o, s.heap.get? b = some o → h₁.get? b = some o) (ns : h₁.Ns C mC) (gD : h₁.get? D = some oD) (nD : ∀ v, oD.data ≠ .cell v) :
    Inv (cxB X (x :: frees) scope s H C fp) (pins ++ [(D, oD)]) (none :: frv σ js) H { s with heap := h₁, toks := tk } := by
  have lc := lcells I hsc B
  have sub : ∀ y c, (clOf X.env.cells scope.names []).lookup y = some c → X.env.cells.lookup y = some c := fun y c e => by
    rcases clOf_sub scope.names [] lc e with q | q
    · exact q
    · cases q
  have cold : ∀ y c, X.env.cells.lookup y = some c → c < s.heap.objs.size := fun y c e => by
    obtain ⟨v, q⟩ := I.cell y c e
    exact q.lt
  have fpC : ∀ b ∈ fp, (b ∈ X.ex ∨ X.s₀.heap.objs.size ≤ b) := fun b hb => (hf b hb).2.2.2.1
  obtain ⟨m, hn, hl⟩ := I.loc
  refine ⟨⟨I.ok.mod, B.kind, I.ok.glob, I.ok.blt, hC, ?_, ?_, ?_, I.ok.hd, I.ok.frames, .inl rfl, ?_, ?_, Nat.le_trans I.ok.bsz I.sz, ?_, ?_, I.stack, I.stkFree⟩, rfl, I.bare, Un.kept old, ⟨mC, ns, ?_⟩, ?_, I.hok.fresh hC, ?_, ?_, I.hok.kept old, ?_⟩
  · exact fun y z c e1 e2 => I.ok.inj y z c (sub y c e1) (sub z c e2)
  · intro y hy
    have hm : (y, NameKind.free) ∈ scope.names := by
      rcases hy with q | q
      · exact relab_mem (env := X.env) B.cells q (.inl rfl)
      · exact relab_mem (env := X.env) B.cells q (.inr rfl)
    exact clOf_has scope.names [] (.inl hm)
  · exact fun y c z _ => absurd z Bool.false_ne_true
  · intro b hb
    refine ⟨fun z => ?_, fun y c e z => (hf b hb).2.2.2.2.1 y c (sub y c e) z⟩
    have z' : b = C := z
    exact absurd (Nat.lt_of_lt_of_le (hfo b hb) hC) (by rw [z']; exact Nat.lt_irrefl _)
  · exact fun b o e => I.bs b o e
  · intro b o e hb
    rcases fpC b hb with z | z
    · exact I.ok.noex b o e z
    · exact absurd (Nat.lt_of_lt_of_le (Heap.lt_size (I.ok.bs b o e).1) z) (Nat.lt_irrefl _)
  · intro b hb z
    rcases List.mem_cons.mp (I.stkSub b z) with e | e
    · exact (hf b hb).2.1 e
    · exact (hf b hb).2.2.1 e
  · intro i y v e1 e2 e3
    cases i with
    | zero => simp at e2
    | succ k =>
      have e1' : frees[k]? = some y := by
        have e0 : (x :: frees)[k + 1]? = some y := e1
        simpa using e0
      obtain ⟨j, hj, hz⟩ := zip_get B.ln e1'
      obtain ⟨z1, z2, z3⟩ := B.zp _ hz
      have e2' : (frv σ js)[k]? = some (some v) := by simpa using e2
      have e4 : σ[j]? = some (some v) := by
        unfold frv at e2'
        rw [List.getElem?_map, hj] at e2'
        have e5 : (σ[j]?).join = some v := Option.some.inj e2'
        cases q : σ[j]? with
        | none => rw [q] at e5; cases e5
        | some w' => rw [q] at e5; cases w' with
          | none => cases e5
          | some w2 => cases e5; rfl
      have kX : X.env.kindOf y = some .cell := by show X.env.scope.names.lookup y = _; rw [hsc]; exact z2
      obtain ⟨u, r, q⟩ := hl j y v z1 e4 (.inr (.inl kX))
      refine ⟨u, r, ?_⟩
      rcases q with ⟨q, _⟩ | ⟨_, c, ec, ic⟩
      · rw [kX] at q; cases q
      · have kY : (compEnvC scope (clOf X.env.cells scope.names []) C X.env).kindOf y = some .cell := relab_free (env := X.env) (by rw [hsc]; exact B.fk) z3 kX
        refine .inr ⟨.inl kY, c, ?_, ?_⟩
        · obtain ⟨c', ec'⟩ := clOf_has (cells := X.env.cells) scope.names [] (.inl (PySem.mem_of_lookup z3))
          have := sub y c' ec'
          rw [ec] at this
          cases this
          exact ec'
        · obtain ⟨o, ho, hd⟩ := ic
          exact ⟨o, old c o ho, hd⟩
  · intro y c e
    obtain ⟨v, o, ho, hd⟩ := I.cell y c (sub y c e)
    exact ⟨v, o, old c o ho, hd⟩
  · exact fun y c e => I.freeC y c (sub y c e)
  · intro p hp
    have hp' : p ∈ pins ++ [(D, oD)] := by simpa [cxB] using hp
    rcases List.mem_append.mp hp' with z | z
    · obtain ⟨a1, a2, a3, a4, a5⟩ := I.pin p (List.mem_append_right _ z)
      refine ⟨old _ _ a1, a2, fun e => ?_, fun e => ?_, a5⟩
      · exact absurd (Nat.lt_of_lt_of_le (Heap.lt_size a1) hC) (by rw [show p.1 = C from e]; exact Nat.lt_irrefl _)
      · rcases List.mem_cons.mp (I.stkSub p.1 e) with e | e
        · exact a3 e
        · exact a4 e
    · have z' : p = (D, oD) := by simpa using z
      subst z'
      refine ⟨gD, I.hok.fresh hD, hDC, fun e => ?_, nD⟩
      rcases List.mem_cons.mp (I.stkSub D e) with e | e
      · exact absurd (Nat.lt_of_lt_of_le I.lt hD) (by rw [show D = X.env.locals from e]; exact Nat.lt_irrefl _)
      · exact I.nofs hD e
  · show (none :: frv σ js).length = (x :: frees).length
    rw [List.length_cons, List.length_cons, B.ln, frv, List.length_map]
end
theorem comp_turns {prog : Program} {w : World} {A : Around} {R : Result → Shared → Prop} {s : Shared} {elt target iter : Expr} {ifs : List Expr} {scope : Scope} {pos : Pos} {it acc : Value} {env : Env} (I : Nat → Shared → Prop)
    (turn : ∀ n s, I n s → wpAny (model prog w) A (pyNext it) (fun r s1 => match r with
      | none => R (.ok .next) s1
      | some v => wpAny (model prog w) A (letOwnedTupleGo target it v) (fun _ s2 => wpAny (model prog w) A (assign target env v) (fun _ s3 =>
          wpAny (model prog w) A (forIn ifs true fun c r => if r = true then do let ok ← isTrue c env (eval c env); pure (ForInStep.yield ok) else pure (ForInStep.yield r)) (fun ok s4 =>
            if ok = true then wpAny (model prog w) A (eval elt env) (fun y s5 => wpAny (model prog w) A (call (.builtin "list.append") [acc, y]) (fun _ s6 => ∃ m, m < n ∧ I m s6) (fun _ _ => False) s5) (fun _ _ => False) s4
            else ∃ m, m < n ∧ I m s4) (fun _ _ => False) s3) (fun _ _ => False) s2) (fun _ _ => False) s1) (fun _ _ => False) s)
    (n : Nat) (h : I n s) : codeAny (model prog w) A (.compLoop (.ListComp elt [⟨target, iter, ifs, 0⟩] scope pos) 0 it acc env) R s := by
  refine codeAny_loop rfl I (fun n s hI => ?_) n h
  show wpAny _ A ((compTurn (.ListComp elt [⟨target, iter, ifs, 0⟩] scope pos) 0 it acc env).onRaise (fun x => do noteFrame x env; theTreesLotGoes x)) _ _ s
  refine wpAny_noted ?_
  rw [compTurn_list]
  refine wpAny_bind (wpAny_standAt (wpAny_bind (wpAny_mono (turn n s hI) (fun r s1 h1 => ?_) fun _ _ z => z.elim)))
  cases r with
  | none => exact wpAny_pure h1
  | some v =>
    refine wpAny_bind (wpAny_mono h1 (fun _ s2 h2 => ?_) fun _ _ z => z.elim)
    refine wpAny_bind (wpAny_mono h2 (fun _ s3 h3 => ?_) fun _ _ z => z.elim)
    refine wpAny_bind (wpAny_mono h3 (fun ok s4 h4 => ?_) fun _ _ z => z.elim)
    cases ok with
    | false => exact wpAny_pure ⟨rfl, h4⟩
    | true =>
      refine wpAny_bind (wpAny_bind (wpAny_mono h4 (fun y s5 h5 => ?_) fun _ _ z => z.elim))
      exact wpAny_bind (wpAny_mono h5 (fun _ s6 h6 => wpAny_pure (wpAny_pure ⟨rfl, h6⟩)) fun _ _ z => z.elim)
section
variable {X : Cx} {pins : List (Addr × Obj)} {σ : St} {H : Hp} {s : Shared} {x : Str} {scope sc : Scope} {frees : List Str} {js : List Nat} {elt iter : Expr} {ifs : List Expr} {px pos : Pos} {tt : TT} {te : TE} {E : Value → Shared → Prop}
abbrev lobj (its : List Value) (n : Nat) : Obj := { cls := .type "list", data := .seq its.toArray n }
theorem lc_run {it : Addr} {fp : List Addr} {tn : Nat → Heap → Prop} {J : It} {Qe : List V → Hp → Prop} {RR : Value → Addr → Result → Shared → Prop} (I : Inv X pins σ H s) (hc : X.calm = true) (hsc : X.env.scope = sc) (B : ScB X.N sc scope x frees js)
    (T : Turn X.prog X.w X.K (.Name x px) J fp it tn) (st : tn 0 s.heap) (f : ∀ b ∈ fp, FpOk X pins H b) (hW : LcW js tt te σ Qe J H)
    (ht : ∀ s H C fp, PTs (cxB X (x :: frees) scope s H C fp) ifs tt) (he : ∀ s H C fp, PE (cxB X (x :: frees) scope s H C fp) elt te)
    (hR : ∀ (D C : Addr) (s' : Shared) (H' : Hp) (ys : List V) (its : List Value) (n : Nat), s.heap.objs.size ≤ D → s.heap.objs.size ≤ C → D ≠ C → Inv (cxB X (x :: frees) scope s H C fp) pins (none :: frv σ js) H' s' → H' D = none →
      Vals ys its → s'.heap.get? D = some (lobj its n) → ys.length ≤ sizeLine → Qe ys H' → RR (.ref D) C (.ok .next) s') :
    wpAny (model X.prog X.w) X.A (newList []) (fun acc s3 => wpAny (model X.prog X.w) X.A (newFunctionEnv scope X.env.globals (clOf X.env.cells scope.names []) [] X.env.qual none .none (some X.env)) (fun cenv s4 =>
      codeAny (model X.prog X.w) X.A (.compStart (.ListComp elt [⟨.Name x px, iter, ifs, 0⟩] scope pos) 0 (.ref it) acc { cenv with scope := relabel scope X.env }) (RR acc cenv.locals) s4) E s3) E s := by
  obtain ⟨W, ⟨m0, w0⟩, turn⟩ := hW
  refine wpAny_newObj_type (wpAny_newFunctionEnv B.cells (by intro y hy; simp at hy) (fun h₁ hns₁ hsb₁ => ?_) B.kind)
  dsimp only at hns₁ hsb₁ ⊢
  generalize hG : s.heap.push { cls := .type "list", dict := none, data := .seq ([] : List Value).toArray } = G at hns₁ hsb₁ ⊢
  have hC0 : G.objs.size = s.heap.objs.size + 1 := by rw [← hG, Heap.size_push]
  have hCs0 : s.heap.objs.size ≤ G.objs.size := by rw [hC0]; exact Nat.le_succ _
  have hDC0 : s.heap.objs.size ≠ G.objs.size := by rw [hC0]; exact Nat.ne_of_lt (Nat.lt_succ_self _)
  obtain ⟨C, hCe⟩ : ∃ C : Addr, C = G.objs.size := ⟨_, rfl⟩
  obtain ⟨D, hDe⟩ : ∃ D : Addr, D = s.heap.objs.size := ⟨_, rfl⟩
  rw [← hCe] at hns₁ hsb₁ hDC0 hCs0 ⊢
  have hDs : s.heap.objs.size ≤ D := by rw [hDe]; exact Nat.le_refl _
  have hCs : s.heap.objs.size ≤ C := hCs0
  have hDC : D ≠ C := by rw [hDe]; exact hDC0
  have old : ∀ b o, s.heap.get? b = some o → h₁.get? b = some o := fun b o e => by
    refine hsb₁.extBut b o (ne_lt (Heap.lt_size e) hCs) (Heap.get?_push_of_some _ ?_)
    rw [← hG]
    exact Heap.get?_push_of_some _ e
  have gD : h₁.get? D = some (lobj [] 0) := by
    refine hsb₁.extBut D _ hDC (Heap.get?_push_of_some _ ?_)
    rw [← hG, hDe]
    exact Heap.get?_push_size _ rfl
  have hfo : ∀ b ∈ fp, b < s.heap.objs.size := fun b hb => by
    obtain ⟨o, e, _⟩ := T.obj 0 _ st b hb
    exact Heap.lt_size e
  show codeAny (model X.prog X.w) X.A (.compStart (.ListComp elt [⟨.Name x px, iter, ifs, 0⟩] scope pos) 0 (.ref it) (.ref s.heap.objs.size) (compEnvC scope (clOf X.env.cells scope.names []) C X.env)) (RR (.ref s.heap.objs.size) C) _
  rw [← hDe]
  have nDf : D ∉ fp := fun z => ne_lt (hfo D z) hDs rfl
  have Y0 := blk_start (tk := s.toks + ([] : List (Str × Value)).length) (x := x) I hsc B f hfo hCs hDs hDC old hns₁ gD (fun v z => nomatch z)
  have tn0 : tn 0 h₁ := T.keep 0 _ _ st fun b _ o e => old b o e
  have sub : ∀ y c, (clOf X.env.cells scope.names []).lookup y = some c → X.env.cells.lookup y = some c := fun y c e => by
    rcases clOf_sub scope.names [] (lcells I hsc B) e with q | q
    · exact q
    · cases q
  have pOld : ∀ p ∈ pins, p.1 < s.heap.objs.size := fun p hp => Heap.lt_size (I.pin p (List.mem_append_right _ hp)).1
  have stat : ∀ {H' : Hp} {o : Obj}, (∀ b ∈ fp, H' b = none) → ∀ b ∈ fp, FpOk (cxB X (x :: frees) scope s H C fp) (pins ++ [(D, o)]) H' b := fun {H' o} hn b hb => by
    obtain ⟨_, a2, a3, a4, a5, a6⟩ := f b hb
    have lt := hfo b hb
    refine ⟨hn b hb, ?_, fun z => ?_, .inl hb, fun y c e => a5 y c (sub y c e), fun p hp => ?_⟩
    · exact ne_lt lt hCs
    · rcases List.mem_cons.mp (I.stkSub b z) with e | e
      · exact a2 e
      · exact a3 e
    · have hp' : p ∈ pins ++ [(D, o)] := by simpa [cxB] using hp
      rcases List.mem_append.mp hp' with z | z
      · exact a6 p (List.mem_append_right _ z)
      · have z' : p = (D, o) := by simpa using z
        subst z'
        exact ne_lt' lt hDs
  have loop : ∀ s3 : Shared, s3 = { s with heap := h₁, toks := s.toks + ([] : List (Str × Value)).length } →
      codeAny (model X.prog X.w) X.A (.compLoop (.ListComp elt [⟨.Name x px, iter, ifs, 0⟩] scope pos) 0 (.ref it) (.ref D) (compEnvC scope (clOf X.env.cells scope.names []) C X.env)) (RR (.ref D) C) s3 := by
    rintro s3 rfl
    refine comp_turns (fun n s' => ∃ i ys its k H', Inv (cxB X (x :: frees) scope s H C fp) (pins ++ [(D, lobj its k)]) (none :: frv σ js) H' s' ∧ tn i s'.heap ∧ (∀ b ∈ fp, H' b = none) ∧ Vals ys its ∧ W i n ys H') ?_ m0
      ⟨0, [], [], 0, H, Y0, tn0, fun b hb => (f b hb).1, .nil, w0⟩
    rintro n s4 ⟨i, ys, its, k, H4, I4, tn4, fr4, rv, w4⟩
    have pD : ∀ {pl : List (Addr × Obj)} {σ' : St} {H' : Hp} {s' : Shared}, Inv (cxB X (x :: frees) scope s H C fp) (pins ++ [(D, lobj its k)] ++ pl) σ' H' s' → s'.heap.get? D = some (lobj its k) ∧ H' D = none := fun I' => by
      have q := I'.pin (D, lobj its k) (List.mem_append_right _ (List.mem_append_left _ (List.mem_append_right _ List.mem_cons_self)))
      exact ⟨q.1, q.2.1⟩
    have pins_only : ∀ {pl : List (Addr × Obj)} {σ' : St} {H' : Hp} {s' : Shared}, Inv (cxB X (x :: frees) scope s H C fp) (pins ++ pl) σ' H' s' → Inv (cxB X (x :: frees) scope s H C fp) pins σ' H' s' := fun I' => I'.unpinned
    rcases turn i n ys H4 w4 with ⟨stop, lz, qe⟩ | ⟨go, lz, step⟩
    · refine thn (T.done (cxB X (x :: frees) scope s H C fp) rfl rfl rfl hc i _ s4 _ H4 (fun _ _ => False) I4 (stat fr4) tn4 stop) fun r s5 ⟨hr, I5⟩ => ?_
      subst hr
      have I5' : Inv (cxB X (x :: frees) scope s H C fp) (pins ++ [(D, lobj its k)] ++ []) (none :: frv σ js) H4 s5 := by simpa using I5
      exact hR D C s5 H4 ys its k hDs hCs hDC (pins_only I5) (pD I5').2 rv (pD I5').1 lz qe
    · refine thn (T.item (cxB X (x :: frees) scope s H C fp) rfl rfl rfl hc i _ s4 _ H4 (fun _ _ => False) I4 (stat fr4) tn4 go) fun r s5 ⟨u, hr, h5⟩ => ?_
      subst hr
      refine thn h5 fun _ s6 ⟨y, H6, I6, r6, y6, tn6, fr6⟩ => ?_
      have I6' := I6.pinned (stat fr6) (T.obj _ _ tn6)
      have hx : Loc (cxB X (x :: frees) scope s H C fp).env.scope x := .inl (lookup_relabel_local B.own)
      have dfs : D ∉ (cxB X (x :: frees) scope s H C fp).fs := fun z => by
        rcases List.mem_cons.mp (I.stkSub D z) with e | e
        · exact ne_lt I.lt hDs e.symm
        · exact I.nofs hDs e
      refine thn (pg_name (X := cxB X (x :: frees) scope s H C fp) (i := 0) B.nd rfl hx (.inr (lookup_relabel_local B.own)) _ s6 _ H6 y u (fun σ' H' => σ' = some y :: frv σ js ∧ tt σ' H' fun b H2 =>
        if b = true then te (some y :: frv σ js) H2 fun v H3 => ∃ m', m' < n ∧ W (i + 1) m' (ys ++ [v]) H3 else ∃ m', m' < n ∧ W (i + 1) m' ys H2) I6' r6 ⟨rfl, step y H6 y6⟩) fun _ s7 ⟨σ7, H7, I7, e7, q7⟩ => ?_
      subst e7
      have back : ∀ {σ' : St} {H' : Hp} {s' : Shared}, Inv (cxB X (x :: frees) scope s H C fp) (pins ++ [(D, lobj its k)] ++ pinsAt fp s6.heap) σ' H' s' → (∀ b ∈ fp, ∀ o, s6.heap.get? b = some o → s'.heap.get? b = some o) ∧ ∀ b ∈ fp, H' b = none := fun {σ' H' s'} I' =>
        ⟨fun b hb o e => (I'.pin (b, o) (List.mem_append_right _ (List.mem_append_right _ (mem_pinsAt hb e)))).1, fun b hb => by
          obtain ⟨o, e, _⟩ := T.obj _ _ tn6 b hb
          exact (I'.pin (b, o) (List.mem_append_right _ (List.mem_append_right _ (mem_pinsAt hb e)))).2.1⟩
      have forget : ∀ {pl : List (Addr × Obj)} {H' : Hp} {s' : Shared}, Inv (cxB X (x :: frees) scope s H C fp) pl (some y :: frv σ js) H' s' → Inv (cxB X (x :: frees) scope s H C fp) pl (none :: frv σ js) H' s' := fun I' =>
        I'.weak rfl fun j v e => by
          cases j with
          | zero => simp at e
          | succ j => simpa using e
      refine thn (ht s H C fp _ s7 _ H7 _ I7 q7) fun ok s8 ⟨H8, I8, q8⟩ => ?_
      cases ok with
      | false =>
        rw [if_neg Bool.false_ne_true] at q8 ⊢
        obtain ⟨m', hm, w8⟩ := q8
        obtain ⟨b1, b2⟩ := back I8
        exact ⟨m', hm, i + 1, ys, its, k, H8, forget I8.unpinned, T.keep _ _ _ tn6 b1, b2, rv, w8⟩
      | true =>
        rw [if_pos rfl] at q8 ⊢
        refine thn (he s H C fp _ s8 _ H8 _ I8 q8) fun v s9 ⟨vv, H9, I9, r9, m', hm, w9⟩ => ?_
        obtain ⟨gD9, nD9⟩ := pD I9
        obtain ⟨b1, b2⟩ := back I9
        have hlen := rv.length
        refine call_meets F.slot_list_append ⟨_, gD9, rfl⟩ F.entry_list_append (F.args_list_append_2 _ _) (PySem.list_append D its.toArray k v (by rw [List.size_toArray]; omega)) ⟨gD9, ?_⟩
        have ea : its.toArray.push v = (its ++ [v]).toArray := by simp
        obtain ⟨k', q⟩ : ∃ k', (s9.heap.update D (Obj.mapSeq (·.push v))).get? D = some (lobj (its ++ [v]) k') := by
          have q0 := PySem.IsL.update gD9 (·.push v)
          rw [ea] at q0
          exact ⟨_, q0⟩
        have oth : ∀ b o, b ≠ D → s9.heap.get? b = some o → (s9.heap.update D (Obj.mapSeq (·.push v))).get? b = some o := fun b o hb e => (Heap.get?_update_other s9.heap (Obj.mapSeq (·.push v)) (Ne.symm hb)).trans e
        have I10 : Inv (cxB X (x :: frees) scope s H C fp) pins (some y :: frv σ js) H9 { s9 with heap := s9.heap.update D (Obj.mapSeq (·.push v)) } :=
          (pins_only I9.unpinned).turned (t' := s9.toks) (it := D) oth nD9 hDC (.inr hDs) (fun y' c e z => by
            obtain ⟨w', q'⟩ := I.cell y' c (sub y' c e)
            exact ne_lt q'.lt hDs z) (fun p hp z => by
            have hp' : p ∈ pins := by simpa [cxB] using hp
            exact ne_lt (pOld p hp') hDs z)
        refine ⟨m', hm, i + 1, ys ++ [vv], its ++ [v], k', H9, forget (I10.pins_of fun p hp => ?_), T.keep _ _ _ tn6 fun b hb o e => oth b o (fun z => nDf (z ▸ hb)) (b1 b hb o e), b2, rv.append (.cons r9 .nil), w9⟩
        rcases List.mem_append.mp hp with z | z
        · exact I10.pin p (List.mem_append_right _ z)
        · have z' : p = (D, lobj (its ++ [v]) k') := List.mem_singleton.mp z
          subst z'
          exact ⟨q, nD9, hDC, dfs, fun w' z2 => nomatch z2⟩
  exact codeAny_compStart_list (loop _ rfl) (T.self _ 0 _ _ _ tn0 (loop _ rfl))
theorem lc_after {fp : List Addr} {D C : Addr} {s' : Shared} {H' : Hp} {ys : List V} {its : List Value} {n : Nat} (I : Inv X pins σ H s) (f : ∀ b ∈ fp, FpOk X pins H b) (hD : s.heap.objs.size ≤ D) (J : Inv (cxB X (x :: frees) scope s H C fp) pins (none :: frv σ js) H' s') (nD : H' D = none) (rv : Vals ys its)
    (gD : s'.heap.get? D = some (lobj its n)) (hz : ys.length ≤ sizeLine) : Inv X pins σ (upd H' D (.lst ys)) s' := by
  have u : Un (frs X.stack) fp H H' s.heap s'.heap := J.base
  have hk : HOk X.prog X.w H' s'.heap := J.hok
  refine I.call' (ch := fp) J.os ⟨u.keep, u.slot, fun b o e n' hx => ?_, u.there, fun b xs e => ?_, fun b o v e => ?_, fun b ps e => ?_⟩ (fun b o e => ?_) J.bare fun b hb => ?_
  · rw [upd_ne (ne_lt (Heap.lt_size e) hD)]
    exact u.free b o e n' hx
  · have q := u.tups b xs e
    rw [upd_ne (ne_of_none q nD)]
    exact q
  · have q := u.frzs b o v e
    rw [upd_ne (ne_of_none q nD)]
    exact q
  · obtain ⟨more, q⟩ := u.tbls b ps e
    exact ⟨more, by rw [upd_ne (ne_of_none q nD)]; exact q⟩
  · by_cases hb : b = D
    · subst hb
      rw [upd_same] at e
      cases e
      exact ⟨hz, its, n, rv, gD⟩
    · rw [upd_ne hb] at e
      exact (hk b o e).stay (fun c v _ q => q) (fun c q => by rw [upd_ne (ne_of_none q nD)]; exact q) fun c xs q => by rw [upd_ne (ne_of_none q nD)]; exact q
  · obtain ⟨_, a2, a3, a4, a5, a6⟩ := f b hb
    exact ⟨a4, a2, a5, a6⟩
theorem lc_go {C : Addr} {s' : Shared} {H' : Hp} {σ' : St} {h' : Heap} (I : Inv X pins σ H s) (J : Inv X pins σ' H' s') (hC : s.heap.objs.size ≤ C) (nC : H' C = none) (hs : Heap.SameBut C s'.heap h') : Inv X pins σ' H' { s' with heap := h' } := by
  refine J.turned (t' := s'.toks) (it := C) (fun b o hb e => (hs.2 b hb).trans e) nC (fun z => ?_) (.inr (Nat.le_trans I.sz hC)) (fun y c e z => ?_) fun p hp z => ?_
  · exact ne_lt I.lt hC z.symm
  · obtain ⟨v, q⟩ := I.cell y c e
    exact ne_lt q.lt hC z
  · exact ne_lt (Heap.lt_size (I.pin p hp).1) hC z
def tLC (wi : TI) (js : List Nat) (tt : TT) (te : TE) : TE := fun σ H Q => wi σ H (LcW js tt te σ fun ys H' => ∀ D, H' D = none → Q (.ref D) (upd H' D (.lst ys)))
theorem pe_lc {wi : TI} (hc : X.calm = true) (hsc : X.env.scope = sc) (B : ScB X.N sc scope x frees js) (hi : PI X (.Name x px) iter wi) (ht : ∀ s H C fp, PTs (cxB X (x :: frees) scope s H C fp) ifs tt) (he : ∀ s H C fp, PE (cxB X (x :: frees) scope s H C fp) elt te)
    (hs : ∀ v, foldedSetIterable iter X.env v = pure v := by intro _; rfl) : PE X (.ListComp elt [⟨.Name x px, iter, ifs, 0⟩] scope pos) (tLC wi js tt te) := by
  intro pins s σ H Q I h
  rw [eval_ListComp]
  refine wpAny_comprehension_free (use := none) rfl hs (closure_eq (lcells I hsc B)) B.kind B.locs (thn (hi pins s σ H _ I h) fun v s1 h1 => thn h1 fun itv s2 h2 => ?_)
  obtain ⟨it, fp, tn, J, H2, e, I2, T, st2, f2, hW⟩ := h2
  subst e
  refine lc_run (RR := fun acc C => compPost (model X.prog X.w) X.A X.xe none (EP X pins σ Q) acc C) I2 hc hsc B T st2 f2 hW ht he ?_
  intro D C s' H' ys its n hD hC hDC J' nD rv gD hz q
  obtain ⟨m, hn, _⟩ := J'.loc
  refine ⟨m, hn, fun h' hs' => ?_⟩
  have A1 := lc_after I2 f2 hD J' nD rv gD hz
  have nC : (upd H' D (.lst ys)) C = none := by rw [upd_ne (Ne.symm hDC)]; exact J'.free
  exact ⟨.ref D, _, lc_go I2 A1 hC nC hs', rfl, q D nD⟩
end
end L2
namespace Fx
open PySem
inductive D where
  | non | bl (b : Bool) | int (i : Int) | str (x : Str) | tup (xs : List D) | lst (xs : List D)
  | opq
  | dct (ks : List Str) (vs : List D)
inductive MO where
  | lst (xs : List D) | dic (kvs : List (Str × D))
inductive Sl where
  | no | im (d : D) | ow (b : Bool) (o : MO)
abbrev En := List Sl
inductive Res where
  | nx (ρ : En) | rt (d : D) (ρ : En) | bk (ρ : En) | ct (ρ : En)
abbrev FE := En → Option (D × En)
abbrev FT := En → Option (Bool × En)
abbrev FA := En → Option (List D × En)
abbrev FS := En → Option Res
def bnd {α β : Type} (x : Option α) (f : α → Option β) : Option β := x.bind f
theorem bnd_some {α β : Type} (a : α) (f : α → Option β) : bnd (some a) f = f a := rfl
mutual
def eqD : D → D → Bool
  | .non, .non => true
  | .bl a, .bl b => a == b
  | .bl a, .int b => (if a then 1 else 0) == b
  | .int a, .bl b => a == (if b then 1 else 0)
  | .int a, .int b => a == b
  | .str a, .str b => a == b
  | .tup a, .tup b => eqDs a b
  | .lst a, .lst b => eqDs a b
  | _, _ => false
def eqDs : List D → List D → Bool
  | [], [] => true
  | a :: r, b :: t => eqD a b && eqDs r t
  | _, _ => false
end
@[simp] theorem eqD_non_non  : eqD .non .non = true := by rw [eqD]
@[simp] theorem eqD_non_bl (y : Bool) : eqD .non (.bl y) = false := by simp [eqD]
@[simp] theorem eqD_non_int (y : Int) : eqD .non (.int y) = false := by simp [eqD]
@[simp] theorem eqD_non_str (y : Str) : eqD .non (.str y) = false := by simp [eqD]
@[simp] theorem eqD_non_tup (y : List D) : eqD .non (.tup y) = false := by simp [eqD]
@[simp] theorem eqD_non_lst (y : List D) : eqD .non (.lst y) = false := by simp [eqD]
@[simp] theorem eqD_bl_non (x : Bool) : eqD (.bl x) .non = false := by simp [eqD]
@[simp] theorem eqD_bl_bl (x : Bool) (y : Bool) : eqD (.bl x) (.bl y) = decide (x = y) := by rw [eqD]; exact Bool.beq_eq_decide_eq _ _
@[simp] theorem eqD_bl_int (x : Bool) (y : Int) : eqD (.bl x) (.int y) = ((if x then 1 else 0) == y) := by rw [eqD]
@[simp] theorem eqD_bl_str (x : Bool) (y : Str) : eqD (.bl x) (.str y) = false := by simp [eqD]
@[simp] theorem eqD_bl_tup (x : Bool) (y : List D) : eqD (.bl x) (.tup y) = false := by simp [eqD]
@[simp] theorem eqD_bl_lst (x : Bool) (y : List D) : eqD (.bl x) (.lst y) = false := by simp [eqD]
@[simp] theorem eqD_int_non (x : Int) : eqD (.int x) .non = false := by simp [eqD]
@[simp] theorem eqD_int_bl (x : Int) (y : Bool) : eqD (.int x) (.bl y) = (x == (if y then 1 else 0)) := by rw [eqD]
@[simp] theorem eqD_int_int (x : Int) (y : Int) : eqD (.int x) (.int y) = decide (x = y) := by rw [eqD]; exact Bool.beq_eq_decide_eq _ _
@[simp] theorem eqD_int_str (x : Int) (y : Str) : eqD (.int x) (.str y) = false := by simp [eqD]
@[simp] theorem eqD_int_tup (x : Int) (y : List D) : eqD (.int x) (.tup y) = false := by simp [eqD]
@[simp] theorem eqD_int_lst (x : Int) (y : List D) : eqD (.int x) (.lst y) = false := by simp [eqD]
@[simp] theorem eqD_str_non (x : Str) : eqD (.str x) .non = false := by simp [eqD]
@[simp] theorem eqD_str_bl (x : Str) (y : Bool) : eqD (.str x) (.bl y) = false := by simp [eqD]
@[simp] theorem eqD_str_int (x : Str) (y : Int) : eqD (.str x) (.int y) = false := by simp [eqD]
@[simp] theorem eqD_str_str (x : Str) (y : Str) : eqD (.str x) (.str y) = decide (x = y) := by rw [eqD]; exact Bool.beq_eq_decide_eq _ _
@[simp] theorem eqD_str_tup (x : Str) (y : List D) : eqD (.str x) (.tup y) = false := by simp [eqD]
@[simp] theorem eqD_str_lst (x : Str) (y : List D) : eqD (.str x) (.lst y) = false := by simp [eqD]
@[simp] theorem eqD_tup_non (x : List D) : eqD (.tup x) .non = false := by simp [eqD]
@[simp] theorem eqD_tup_bl (x : List D) (y : Bool) : eqD (.tup x) (.bl y) = false := by simp [eqD]
@[simp] theorem eqD_tup_int (x : List D) (y : Int) : eqD (.tup x) (.int y) = false := by simp [eqD]
@[simp] theorem eqD_tup_str (x : List D) (y : Str) : eqD (.tup x) (.str y) = false := by simp [eqD]
@[simp] theorem eqD_tup_tup (x : List D) (y : List D) : eqD (.tup x) (.tup y) = eqDs x y := by rw [eqD]
@[simp] theorem eqD_tup_lst (x : List D) (y : List D) : eqD (.tup x) (.lst y) = false := by simp [eqD]
@[simp] theorem eqD_lst_non (x : List D) : eqD (.lst x) .non = false := by simp [eqD]
@[simp] theorem eqD_lst_bl (x : List D) (y : Bool) : eqD (.lst x) (.bl y) = false := by simp [eqD]
@[simp] theorem eqD_lst_int (x : List D) (y : Int) : eqD (.lst x) (.int y) = false := by simp [eqD]
@[simp] theorem eqD_lst_str (x : List D) (y : Str) : eqD (.lst x) (.str y) = false := by simp [eqD]
@[simp] theorem eqD_lst_tup (x : List D) (y : List D) : eqD (.lst x) (.tup y) = false := by simp [eqD]
@[simp] theorem eqD_lst_lst (x : List D) (y : List D) : eqD (.lst x) (.lst y) = eqDs x y := by rw [eqD]
@[simp] theorem eqDs_nn : eqDs [] [] = true := by rw [eqDs]
@[simp] theorem eqDs_cc (a b : D) (r t : List D) : eqDs (a :: r) (b :: t) = (eqD a b && eqDs r t) := by rw [eqDs]
@[simp] theorem eqDs_nc (b : D) (t : List D) : eqDs [] (b :: t) = false := by simp [eqDs]
@[simp] theorem eqDs_cn (b : D) (t : List D) : eqDs (b :: t) [] = false := by simp [eqDs]
mutual
def dpD : D → Nat
  | .tup xs => dpDs xs + 1
  | .lst xs => dpDs xs + 1
  | .opq => 1000
  | .dct _ _ => 1000
  | _ => 0
def dpDs : List D → Nat
  | [] => 0
  | d :: r => max (dpD d) (dpDs r)
end
@[simp] theorem dpD_opq : dpD .opq = 1000 := rfl
@[simp] theorem dpD_dct (ks : List Str) (vs : List D) : dpD (.dct ks vs) = 1000 := rfl
@[simp] theorem dpD_non : dpD .non = 0 := rfl
@[simp] theorem dpD_bl (b : Bool) : dpD (.bl b) = 0 := rfl
@[simp] theorem dpD_int (i : Int) : dpD (.int i) = 0 := rfl
@[simp] theorem dpD_str (x : Str) : dpD (.str x) = 0 := rfl
@[simp] theorem dpD_tup (xs : List D) : dpD (.tup xs) = dpDs xs + 1 := rfl
@[simp] theorem dpD_lst (xs : List D) : dpD (.lst xs) = dpDs xs + 1 := rfl
@[simp] theorem dpDs_nil : dpDs [] = 0 := rfl
@[simp] theorem dpDs_cons (d : D) (r : List D) : dpDs (d :: r) = max (dpD d) (dpDs r) := rfl
def bigM (i : Int) : Bool := decide (i.natAbs < 2 ^ 1000)
def okMul (i j : Int) : Bool := decide (i.natAbs < 2 ^ 64) || decide (j.natAbs < 2 ^ 64) || (bigM i && bigM j)
def okDiv (j : Int) : Bool := decide (j ≠ 0) && decide (j.natAbs < 2 ^ 1000)
def dAdd : D → D → Option D
  | .int i, .int j => some (.int (i + j))
  | .str a, .str b => if a.length + b.length ≤ sizeLine then some (.str (a ++ b)) else none
  | .lst a, .lst b => if a.length + b.length ≤ sizeLine then some (.lst (a ++ b)) else none
  | _, _ => none
def dSub : D → D → Option D
  | .int i, .int j => some (.int (i - j))
  | _, _ => none
def dMul : D → D → Option D
  | .int i, .int j => if okMul i j = true then some (.int (i * j)) else none
  | _, _ => none
def dDiv : D → D → Option D
  | .int i, .int j => if okDiv j = true then some (.int (i.fdiv j)) else none
  | _, _ => none
def dMod : D → D → Option D
  | .int i, .int j => if j ≠ 0 then some (.int (i.fmod j)) else none
  | _, _ => none
def dPow : D → D → Option D
  | .int i, .int j => if 0 ≤ j ∧ j ≤ 64 ∧ i.natAbs < 2 ^ 64 then some (.int (i ^ j.toNat)) else none
  | _, _ => none
def dNeg : D → Option D
  | .int i => some (.int (-i))
  | _ => none
def dCmp (p : Int → Int → Bool) : D → D → Option D
  | .int i, .int j => some (.bl (p i j))
  | _, _ => none
def dLt : D → D → Option D := dCmp fun i j => decide (i < j)
def dLe : D → D → Option D := dCmp fun i j => decide (i ≤ j)
def dGt : D → D → Option D := dCmp fun i j => decide (j < i)
def dGe : D → D → Option D := dCmp fun i j => decide (j ≤ i)
def dEq (x y : D) : Option D := if dpD x ≤ 30 ∧ dpD y ≤ 30 then some (.bl (eqD x y)) else none
def dNe (x y : D) : Option D := if dpD x ≤ 30 ∧ dpD y ≤ 30 then some (.bl (!eqD x y)) else none
def isN : D → Bool
  | .non => true
  | _ => false
@[simp] theorem isN_opq : isN .opq = false := rfl
@[simp] theorem isN_dct (ks : List Str) (vs : List D) : isN (.dct ks vs) = false := rfl
@[simp] theorem isN_non : isN .non = true := rfl
@[simp] theorem isN_bl (b : Bool) : isN (.bl b) = false := rfl
@[simp] theorem isN_int (b : Int) : isN (.int b) = false := rfl
@[simp] theorem isN_str (b : Str) : isN (.str b) = false := rfl
@[simp] theorem isN_tup (b : List D) : isN (.tup b) = false := rfl
@[simp] theorem isN_lst (b : List D) : isN (.lst b) = false := rfl
def dIs (x y : D) : Option D := match y with
  | .non => some (.bl (isN x))
  | _ => none
def dIsNot (x y : D) : Option D := match y with
  | .non => some (.bl (!isN x))
  | _ => none
def dTru : D → Option Bool
  | .non => some false
  | .bl b => some b
  | .int i => some (i != 0)
  | .lst xs => some (!xs.isEmpty)
  | .tup xs => some (!xs.isEmpty)
  | _ => none
def dPl (n : Nat) (i : Int) : Option Nat := if 0 ≤ i then (if i < n then some i.toNat else none) else if -(n : Int) ≤ i then some (i + n).toNat else none
def atD (xs : List D) (i : Int) : Option D := (dPl xs.length i).bind fun j => xs[j]?
def dIx : D → D → Option D
  | .tup xs, .int i => atD xs i
  | .lst xs, .int i => atD xs i
  | _, _ => none
def dEnd (n d : Nat) : Option Int → Nat
  | none => d
  | some v => (if v < 0 then max (v + (n : Int)) 0 else min v (n : Int)).toNat
def dCut (xs : List D) (lo hi : Option Int) : List D := (xs.drop (dEnd xs.length 0 lo)).take (dEnd xs.length xs.length hi - dEnd xs.length 0 lo)
def dSl : D → Option Int → Option Int → Option D
  | .lst xs, lo, hi => some (.lst (dCut xs lo hi))
  | .tup xs, lo, hi => if dEnd xs.length 0 lo = 0 ∧ dEnd xs.length xs.length hi = xs.length then none else some (.tup (dCut xs lo hi))
  | _, _, _ => none
def bAbs : List D → Option D
  | [.int i] => some (.int (if i < 0 then -i else i))
  | _ => none
def bLen : List D → Option D
  | [.lst xs] => some (.int xs.length)
  | [.tup xs] => some (.int xs.length)
  | _ => none
def intsOf : List D → Option (List Int)
  | [] => some []
  | .int i :: r => bnd (intsOf r) fun is => some (i :: is)
  | _ => none
theorem intsOf_cons (i : Int) (r : List D) : intsOf (.int i :: r) = bnd (intsOf r) fun is => some (i :: is) := rfl
def minI : Int → List Int → Int
  | m, [] => m
  | m, x :: r => minI (if x < m then x else m) r
def maxI : Int → List Int → Int
  | m, [] => m
  | m, x :: r => maxI (if m < x then x else m) r
def bestI (f : Int → List Int → Int) : List Int → Option D
  | [] => none
  | i :: r => some (.int (f i r))
def bMax : List D → Option D
  | [.int i, .int j] => some (.int (if j > i then j else i))
  | [.lst xs] => bnd (intsOf xs) fun is => bestI maxI is
  | _ => none
def bMin : List D → Option D
  | [.int i, .int j] => some (.int (if j < i then j else i))
  | [.lst xs] => bnd (intsOf xs) fun is => bestI minI is
  | _ => none
def bools : List D → Option (List Bool)
  | [] => some []
  | .bl b :: r => bnd (bools r) fun bs => some (b :: bs)
  | _ => none
theorem bools_cons (b : Bool) (r : List D) : bools (.bl b :: r) = bnd (bools r) fun bs => some (b :: bs) := rfl
def bAny : List D → Option D
  | [.lst xs] => bnd (bools xs) fun bs => some (.bl (bs.any id))
  | _ => none
def bAll : List D → Option D
  | [.lst xs] => bnd (bools xs) fun bs => some (.bl (bs.all id))
  | _ => none
inductive Ty where
  | int | bool | str | tuple | list
def isTy : Ty → D → Bool
  | .int, .int _ => true
  | .int, .bl _ => true
  | .bool, .bl _ => true
  | .str, .str _ => true
  | .tuple, .tup _ => true
  | .list, .lst _ => true
  | _, _ => false
def slV (ρ : En) : Option Sl → Option (D × En)
  | some (.im d) => some (d, ρ)
  | _ => none
def eV (i : Nat) (ρ : En) : Option (D × En) := slV ρ ρ[i]?
def eNever : FE := fun _ => none
def eC (d : D) (ρ : En) : Option (D × En) := some (d, ρ)
def e1 (op : D → Option D) (F : FE) (ρ : En) : Option (D × En) := bnd (F ρ) fun p => bnd (op p.1) fun d => some (d, p.2)
def e2 (op : D → D → Option D) (F G : FE) (ρ : En) : Option (D × En) := bnd (F ρ) fun p => bnd (G p.2) fun q => bnd (op p.1 q.1) fun d => some (d, q.2)
def blB : D → Option Bool
  | .bl b => some b
  | _ => none
def e3 (op op' : D → D → Option D) (F G L : FE) (ρ : En) : Option (D × En) := bnd (F ρ) fun p => bnd (G p.2) fun q => bnd (op p.1 q.1) fun z => bnd (blB z) fun b =>
  if b = true then bnd (L q.2) fun r => bnd (op' q.1 r.1) fun d => some (d, r.2) else some (.bl false, q.2)
def aN (ρ : En) : Option (List D × En) := some ([], ρ)
def aC (F : FE) (A : FA) (ρ : En) : Option (List D × En) := bnd (F ρ) fun p => bnd (A p.2) fun q => some (p.1 :: q.1, q.2)
def eTup (A : FA) (ρ : En) : Option (D × En) := bnd (A ρ) fun p => if p.1.length ≤ 1000 then some (.tup p.1, p.2) else none
def eLst (A : FA) (ρ : En) : Option (D × En) := bnd (A ρ) fun p => if p.1.length ≤ 1000 then some (.lst p.1, p.2) else none
def eF (g : List D → Option D) (A : FA) (ρ : En) : Option (D × En) := bnd (A ρ) fun p => bnd (g p.1) fun d => some (d, p.2)
def eTy (t : Ty) (F : FE) (ρ : En) : Option (D × En) := bnd (F ρ) fun p => some (.bl (isTy t p.1), p.2)
abbrev FO := En → Option (Option Int × En)
def intI : D → Option Int
  | .int i => some i
  | _ => none
def oN (ρ : En) : Option (Option Int × En) := some (none, ρ)
def oS (F : FE) (ρ : En) : Option (Option Int × En) := bnd (F ρ) fun p => bnd (intI p.1) fun i => some (some i, p.2)
def eSl (F : FE) (lo hi : FO) (ρ : En) : Option (D × En) := bnd (F ρ) fun p => bnd (lo p.2) fun l => bnd (hi l.2) fun h => bnd (dSl p.1 l.1 h.1) fun d => some (d, h.2)
def tB (F : FE) (ρ : En) : Option (Bool × En) := bnd (F ρ) fun p => bnd (blB p.1) fun b => some (b, p.2)
def tV (F : FE) (ρ : En) : Option (Bool × En) := bnd (F ρ) fun p => bnd (dTru p.1) fun b => some (b, p.2)
def tAnd (T U : FT) (ρ : En) : Option (Bool × En) := bnd (T ρ) fun p => if p.1 = true then U p.2 else some (false, p.2)
def tOr (T U : FT) (ρ : En) : Option (Bool × En) := bnd (T ρ) fun p => if p.1 = true then some (true, p.2) else U p.2
def tNot (T : FT) (ρ : En) : Option (Bool × En) := bnd (T ρ) fun p => some (!p.1, p.2)
def tYes (ρ : En) : Option (Bool × En) := some (true, ρ)
def eIf (T : FT) (F G : FE) (ρ : En) : Option (D × En) := bnd (T ρ) fun p => if p.1 = true then F p.2 else G p.2
def eAnd (F G : FE) (ρ : En) : Option (D × En) := bnd (F ρ) fun p => bnd (blB p.1) fun b => if b = true then G p.2 else some (.bl false, p.2)
def eOr (F G : FE) (ρ : En) : Option (D × En) := bnd (F ρ) fun p => bnd (blB p.1) fun b => if b = true then some (.bl true, p.2) else G p.2
def eNot (F : FE) (ρ : En) : Option (D × En) := bnd (F ρ) fun p => bnd (blB p.1) fun b => some (.bl (!b), p.2)
def slI : Option Sl → Option Sl
  | some (.im d) => some (.im d)
  | _ => none
def imAt (ρ : En) : List Nat → Option En
  | [] => some []
  | j :: js => bnd (slI ρ[j]?) fun s => bnd (imAt ρ js) fun r => some (s :: r)
theorem imAt_cons (ρ : En) (j : Nat) (js : List Nat) : imAt ρ (j :: js) = bnd (slI ρ[j]?) fun s => bnd (imAt ρ js) fun r => some (s :: r) := rfl
def cGo (T : FT) (F : FE) (fr : En) : List D → Option (List D)
  | [] => some []
  | d :: r => bnd (T (.im d :: fr)) fun p => if p.1 = true then bnd (F p.2) fun q => bnd (cGo T F fr r) fun t => some (q.1 :: t) else cGo T F fr r
theorem cGo_nil (T : FT) (F : FE) (fr : En) : cGo T F fr [] = some [] := rfl
theorem cGo_cons (T : FT) (F : FE) (fr : En) (d : D) (r : List D) : cGo T F fr (d :: r) = bnd (T (.im d :: fr)) fun p => if p.1 = true then bnd (F p.2) fun q => bnd (cGo T F fr r) fun t => some (q.1 :: t) else cGo T F fr r := rfl
def chS (c : Nat) : Str := ⟨#[c]⟩
def chs (z : Str) : List D := z.cps.toList.map fun c => .str (chS c)
def items : D → Option (List D)
  | .lst xs => some xs
  | .tup xs => some xs
  | .str z => some (chs z)
  | _ => none
def eLC (js : List Nat) (I : FE) (T : FT) (F : FE) (ρ : En) : Option (D × En) := bnd (I ρ) fun p => bnd (items p.1) fun xs => bnd (imAt p.2 js) fun fr => bnd (cGo T F fr xs) fun ys => if xs.length ≤ sizeLine then some (.lst ys, p.2) else none
def sN (ρ : En) : Option Res := some (.nx ρ)
def nxR (G : FS) : Res → Option Res
  | .nx ρ' => G ρ'
  | .rt d ρ => some (.rt d ρ)
  | .bk ρ => some (.bk ρ)
  | .ct ρ => some (.ct ρ)
def sSeq (F G : FS) (ρ : En) : Option Res := bnd (F ρ) fun r => nxR G r
def sSet (i : Nat) (F : FE) (ρ : En) : Option Res := bnd (F ρ) fun p => some (.nx (p.2.set i (.im p.1)))
def setAll : List Nat → List D → En → En
  | i :: is, d :: ds, ρ => setAll is ds (ρ.set i (.im d))
  | _, _, ρ => ρ
theorem setAll_cons (i : Nat) (is : List Nat) (d : D) (ds : List D) (ρ : En) : setAll (i :: is) (d :: ds) ρ = setAll is ds (ρ.set i (.im d)) := rfl
theorem setAll_nil (ds : List D) (ρ : En) : setAll [] ds ρ = ρ := by cases ds <;> rfl
def tupX : D → Option (List D)
  | .tup xs => some xs
  | .lst xs => some xs
  | _ => none
def gN (i : Nat) (d : D) (ρ : En) : Option En := some (ρ.set i (.im d))
def gT (is : List Nat) (d : D) (ρ : En) : Option En := bnd (tupX d) fun xs => if xs.length = is.length then some (setAll is xs ρ) else none
def sTup (is : List Nat) (F : FE) (ρ : En) : Option Res := bnd (F ρ) fun p => bnd (gT is p.1 p.2) fun ρ' => some (.nx ρ')
def sIf (T : FT) (F G : FS) (ρ : En) : Option Res := bnd (T ρ) fun p => if p.1 = true then F p.2 else G p.2
def sRet (F : FE) (ρ : En) : Option Res := bnd (F ρ) fun p => some (.rt p.1 p.2)
def sRetN (ρ : En) : Option Res := some (.rt .non ρ)
def sBk (ρ : En) : Option Res := some (.bk ρ)
def sCt (ρ : En) : Option Res := some (.ct ρ)
def goR (G : FS) : Res → Option Res
  | .nx ρ => G ρ
  | .ct ρ => G ρ
  | .bk ρ => some (.nx ρ)
  | .rt d ρ => some (.rt d ρ)
def fGo (g : D → En → Option En) (B : FS) : List D → FS
  | [], ρ => some (.nx ρ)
  | d :: r, ρ => bnd (g d ρ) fun ρ1 => bnd (B ρ1) fun z => goR (fGo g B r) z
theorem fGo_nil (g : D → En → Option En) (B : FS) (ρ : En) : fGo g B [] ρ = some (.nx ρ) := rfl
theorem fGo_cons (g : D → En → Option En) (B : FS) (d : D) (r : List D) (ρ : En) : fGo g B (d :: r) ρ = bnd (g d ρ) fun ρ1 => bnd (B ρ1) fun z => goR (fGo g B r) z := rfl
def sFor (g : D → En → Option En) (F : FE) (B : FS) (ρ : En) : Option Res := bnd (F ρ) fun p => bnd (items p.1) fun xs => fGo g B xs p.2
def rngD (lo : Int) : Nat → List D
  | 0 => []
  | n + 1 => .int lo :: rngD (lo + 1) n
def rng1 (F : FE) (ρ : En) : Option (List D × En) := bnd (F ρ) fun p => bnd (intI p.1) fun j => if -(2 ^ 62) ≤ j ∧ j < 2 ^ 62 then some (rngD 0 j.toNat, p.2) else none
def rng2 (F G : FE) (ρ : En) : Option (List D × En) := bnd (F ρ) fun p => bnd (G p.2) fun q => bnd (intI p.1) fun i => bnd (intI q.1) fun j =>
  if -(2 ^ 62) ≤ i ∧ i < 2 ^ 62 ∧ -(2 ^ 62) ≤ j ∧ j < 2 ^ 62 then some (rngD i (j - i).toNat, q.2) else none
def sForR (g : D → En → Option En) (R : FA) (B : FS) (ρ : En) : Option Res := bnd (R ρ) fun p => fGo g B p.1 p.2
def wGo (T : FT) (B : FS) : Nat → FS
  | 0, _ => none
  | n + 1, ρ => bnd (T ρ) fun p => if p.1 = true then bnd (B p.2) fun z => goR (wGo T B n) z else some (.nx p.2)
def sWhile (fuel : En → Nat) (T : FT) (B : FS) (ρ : En) : Option Res := wGo T B (fuel ρ) ρ
def oLst (A : FA) (ρ : En) : Option (List D × En) := bnd (A ρ) fun p => if p.1.length ≤ 1000 then some p else none
def oIf (T : FT) (A B : FA) (ρ : En) : Option (List D × En) := bnd (T ρ) fun p => if p.1 = true then A p.2 else B p.2
def sOwn (i : Nat) (A : FA) (ρ : En) : Option Res := bnd (A ρ) fun p => some (.nx (p.2.set i (.ow false (.lst p.1))))
def owL : Option Sl → Option (List D)
  | some (.ow false (.lst ds)) => some ds
  | _ => none
def sApp (i : Nat) (F : FE) (ρ : En) : Option Res := bnd (owL ρ[i]?) fun _ => bnd (F ρ) fun p => bnd (owL p.2[i]?) fun ds => if ds.length < 1000000 then some (.nx (p.2.set i (.ow false (.lst (ds ++ [p.1]))))) else none
def frz (i : Nat) (ρ : En) : En := match ρ[i]? with
  | some (.ow false (.lst ds)) => ρ.set i (.im (.lst ds))
  | _ => ρ
def sFrz (i : Nat) (F : FS) (ρ : En) : Option Res := F (frz i ρ)
def eLR (js : List Nat) (R : FA) (T : FT) (F : FE) (ρ : En) : Option (D × En) := bnd (R ρ) fun p => bnd (imAt p.2 js) fun fr => bnd (cGo T F fr p.1) fun ys => if p.1.length ≤ sizeLine then some (.lst ys, p.2) else none
def isB (b : Bool) : D → Bool
  | .bl c => decide (c = b)
  | _ => false
def e1B (b n : Bool) (F : FE) (ρ : En) : Option (D × En) := bnd (F ρ) fun p => some (.bl (if n then !isB b p.1 else isB b p.1), p.2)
def retR : Res → Option D
  | .rt d _ => some d
  | .nx _ => some .non
  | _ => none
def fnD (n k : Nat) (B : FS) (ds : List D) : Option D := if ds.length = n then bnd (B (ds.map .im ++ List.replicate k .no)) fun r => retR r else none
end Fx
set_option maxRecDepth 100000
namespace Fx
open PySem PySem.Spec PyProof.Rows L2
mutual
def Rep (K : PySem.W.Frag) (H : Hp) : D → V → Prop
  | .non, v => v = .non
  | .bl b, v => v = .bl b
  | .int i, v => v = .int i
  | .str x, v => v = .str x
  | .tup ds, v => ∃ a vs, v = .ref a ∧ SqT K H a vs ∧ Reps K H ds vs
  | .lst ds, v => ∃ a vs, v = .ref a ∧ SqL K H a vs ∧ Reps K H ds vs
  | .opq, v => ∃ a kvs, v = .ref a ∧ H a = some (.dK kvs)
  | .dct ks ds, v => ∃ a o vs, v = .ref a ∧ H a = some (.frz o (.dK ((ks.map Sum.inr).zip vs))) ∧ Reps K H ds vs ∧ ks.length = ds.length
def Reps (K : PySem.W.Frag) (H : Hp) : List D → List V → Prop
  | [], vs => vs = []
  | d :: ds, vs => ∃ v r, vs = v :: r ∧ Rep K H d v ∧ Reps K H ds r
end
theorem Same.rd {H H' : Hp} {a : Addr} {u : HO} (e : Same H H') (h : Rd H a u) : Rd H' a u := by
  rcases h with h | ⟨o, h⟩
  · exact .inl (e _ _ h)
  · exact .inr ⟨o, e _ _ h⟩
theorem Same.seqT {K : PySem.W.Frag} {H H' : Hp} {a : Addr} {xs : List V} (e : Same H H') (h : SqT K H a xs) : SqT K H' a xs := by
  rcases h with h | h
  · exact .inl (Same.rd e h)
  · exact .inr h
section
variable {K : PySem.W.Frag} {H H' : Hp}
mutual
theorem Rep.mono (e : Same H H') : ∀ (d : D) {v : V}, Rep K H d v → Rep K H' d v
  | .non, _, h => h
  | .bl _, _, h => h
  | .int _, _, h => h
  | .str _, _, h => h
  | .tup ds, _, h => by
    unfold Rep at h ⊢
    obtain ⟨a, vs, q, s, r⟩ := h
    exact ⟨a, vs, q, Same.seqT e s, Reps.mono e ds r⟩
  | .lst ds, _, h => by
    unfold Rep at h ⊢
    obtain ⟨a, vs, q, s, r⟩ := h
    exact ⟨a, vs, q, Same.seq e s, Reps.mono e ds r⟩
  | .opq, _, h => by
    unfold Rep at h ⊢
    obtain ⟨a, kvs, q, s⟩ := h
    exact ⟨a, kvs, q, e _ _ s⟩
  | .dct ks ds, _, h => by
    unfold Rep at h ⊢
    obtain ⟨a, o, vs, q, s, r, l⟩ := h
    exact ⟨a, o, vs, q, e _ _ s, Reps.mono e ds r, l⟩
theorem Reps.mono (e : Same H H') : ∀ (ds : List D) {vs : List V}, Reps K H ds vs → Reps K H' ds vs
  | [], _, h => h
  | d :: ds, _, h => by
    unfold Reps at h ⊢
    obtain ⟨v, r, q, s, t⟩ := h
    exact ⟨v, r, q, Rep.mono e d s, Reps.mono e ds t⟩
end
theorem Reps.length : ∀ {ds : List D} {vs : List V}, Reps K H ds vs → ds.length = vs.length
  | [], _, h => by unfold Reps at h; rw [h]; rfl
  | d :: ds, _, h => by
    unfold Reps at h
    obtain ⟨v, r, q, _, t⟩ := h
    rw [q, List.length_cons, List.length_cons, Reps.length t]
theorem Reps.get : ∀ {ds : List D} {vs : List V} {i : Nat} {d : D}, Reps K H ds vs → ds[i]? = some d → ∃ v, vs[i]? = some v ∧ Rep K H d v
  | [], _, _, _, _, e => by simp at e
  | d :: ds, _, 0, _, h, e => by
    unfold Reps at h
    obtain ⟨v, r, rfl, s, _⟩ := h
    simp at e; subst e
    exact ⟨v, rfl, s⟩
  | d :: ds, _, i + 1, d', h, e => by
    unfold Reps at h
    obtain ⟨v, r, rfl, _, t⟩ := h
    obtain ⟨w, a, b⟩ := Reps.get (i := i) (d := d') t (by simpa using e)
    exact ⟨w, by simpa using a, b⟩
theorem Reps.app : ∀ {ds es : List D} {vs ws : List V}, Reps K H ds vs → Reps K H es ws → Reps K H (ds ++ es) (vs ++ ws)
  | [], _, _, _, h, h' => by unfold Reps at h; rw [h]; exact h'
  | d :: ds, es, _, ws, h, h' => by
    unfold Reps at h
    obtain ⟨v, r, rfl, s, t⟩ := h
    show Reps K H (d :: (ds ++ es)) (v :: (r ++ ws))
    unfold Reps
    exact ⟨v, r ++ ws, rfl, s, Reps.app t h'⟩
theorem Reps.take : ∀ {ds : List D} {vs : List V} (n : Nat), Reps K H ds vs → Reps K H (ds.take n) (vs.take n)
  | [], _, n, h => by unfold Reps at h; rw [h]; simp [Reps]
  | d :: ds, vs, 0, h => by simp [Reps]
  | d :: ds, _, n + 1, h => by
    unfold Reps at h
    obtain ⟨v, r, rfl, s, t⟩ := h
    show Reps K H (d :: ds.take n) (v :: r.take n)
    unfold Reps
    exact ⟨v, r.take n, rfl, s, Reps.take n t⟩
theorem Reps.drop : ∀ {ds : List D} {vs : List V} (n : Nat), Reps K H ds vs → Reps K H (ds.drop n) (vs.drop n)
  | [], _, n, h => by unfold Reps at h; rw [h]; simp [Reps]
  | d :: ds, vs, 0, h => by simpa using h
  | d :: ds, _, n + 1, h => by
    unfold Reps at h
    obtain ⟨v, r, rfl, s, t⟩ := h
    simpa using Reps.drop n t
theorem Reps.one {d : D} {v : V} (h : Rep K H d v) : Reps K H [d] [v] := by
  unfold Reps Reps
  exact ⟨v, [], rfl, h, rfl⟩
theorem Reps.cons {d : D} {ds : List D} {v : V} {vs : List V} (h : Rep K H d v) (t : Reps K H ds vs) : Reps K H (d :: ds) (v :: vs) := by
  unfold Reps
  exact ⟨v, vs, rfl, h, t⟩
theorem Reps.nil_ : Reps K H [] [] := by unfold Reps; rfl
end
structure FC where
  Hi : Hp
  He : Hp
  Ap : List Addr
def OwOk (K : PySem.W.Frag) (H0 H : Hp) (a : Addr) : MO → Prop
  | .lst ds => ∃ vs, H a = some (.lst vs) ∧ Reps K H0 ds vs
  | .dic kds => ∃ ks vs, H a = some (.dK ((ks.map Sum.inr).zip vs)) ∧ ks = kds.map (·.1) ∧ Reps K H0 (kds.map (·.2)) vs
structure RS (K : PySem.W.Frag) (c : FC) (H0 H : Hp) (ρ : En) (σ : L2.St) : Prop where
  same : Same H0 H
  init : Same c.Hi H0
  fresh : ∀ b o, H0 b = some o → c.Hi b = some o ∨ c.He b = none
  keep : ∀ b o, c.He b = some o → b ∉ c.Ap → H b = some o
  apt : ∀ a ∈ c.Ap, H a ≠ none
  len : ρ.length = σ.length
  im : ∀ (i : Nat) (d : D), ρ[i]? = some (.im d) → ∃ v, σ[i]? = some (some v) ∧ Rep K H0 d v
  ow : ∀ (i : Nat) (b : Bool) (o : MO), ρ[i]? = some (.ow b o) → ∃ a, σ[i]? = some (some (.ref a)) ∧ H0 a = none ∧ (if b = true then a ∈ c.Ap else c.He a = none) ∧ OwOk K H0 H a o
  ne : ∀ (i j : Nat) (b b' : Bool) (o o' : MO) (a : Addr), ρ[i]? = some (.ow b o) → ρ[j]? = some (.ow b' o') → σ[i]? = some (some (.ref a)) → σ[j]? = some (some (.ref a)) → i = j
section
variable {K : PySem.W.Frag} {c : FC} {H0 H H0' H' : Hp} {ρ : En} {σ : L2.St}
theorem OwOk.some {a : Addr} {o : MO} (h : OwOk K H0 H a o) : ∃ u, H a = Option.some u := by
  cases o with
  | lst ds => obtain ⟨vs, e, _⟩ := h; exact ⟨_, e⟩
  | dic ds => obtain ⟨ks, vs, e, _⟩ := h; exact ⟨_, e⟩
theorem OwOk.step {a : Addr} {o : MO} (h : OwOk K H0 H a o) (s0 : Same H0 H0') (s : ∀ u, H a = Option.some u → H' a = Option.some u) : OwOk K H0' H' a o := by
  cases o with
  | lst ds => obtain ⟨vs, e, r⟩ := h; exact ⟨vs, s _ e, Reps.mono s0 ds r⟩
  | dic ds => obtain ⟨ks, vs, e, q, r⟩ := h; exact ⟨ks, vs, s _ e, q, Reps.mono s0 _ r⟩
structure Step (H0 H H0' H' : Hp) : Prop where
  s0 : Same H0 H0'
  s : Same H H'
  s' : Same H0' H'
  fr : ∀ b o, H0' b = some o → H0 b = some o ∨ H b = none
theorem RS.after (R : RS K c H0 H ρ σ) (S : Step H0 H H0' H') : RS K c H0' H' ρ σ := by
  refine ⟨S.s', R.init.trans S.s0, fun b o e => ?_, fun b o e n => S.s _ _ (R.keep b o e n), fun a ha e => ?_, R.len, fun i d e => ?_, fun i b o e => ?_, R.ne⟩
  · rcases S.fr b o e with h | h
    · exact R.fresh b o h
    · refine .inr ?_
      cases q : c.He b with
      | none => rfl
      | some u =>
        by_cases hb : b ∈ c.Ap
        · exact absurd h (R.apt b hb)
        · rw [R.keep b u q hb] at h; cases h
  · cases q : H a with
    | none => exact R.apt a ha q
    | some u => rw [S.s _ _ q] at e; cases e
  · obtain ⟨v, a, b⟩ := R.im i d e
    exact ⟨v, a, Rep.mono S.s0 d b⟩
  · obtain ⟨a, x, y, z, w⟩ := R.ow i b o e
    refine ⟨a, x, ?_, z, w.step S.s0 fun u q => S.s _ _ q⟩
    obtain ⟨u, q⟩ := w.some
    cases t : H0' a with
    | none => rfl
    | some o' =>
      rcases S.fr a o' t with h | h
      · rw [y] at h; cases h
      · rw [q] at h; cases h
theorem Step.refl (s : Same H0 H) : Step H0 H H0 H := ⟨Same.refl _, Same.refl _, s, fun _ _ e => .inl e⟩
theorem Step.trans {A B : Hp} (x : Step H0 H H0' H') (y : Step H0' H' A B) : Step H0 H A B := by
  refine ⟨x.s0.trans y.s0, x.s.trans y.s, y.s', fun b o e => ?_⟩
  rcases y.fr b o e with h | h
  · exact x.fr b o h
  · exact .inr (x.s.free h)
theorem Step.alloc {p : Addr} {o : HO} (s : Same H0 H) (hp : H p = none) : Step H0 H (upd H0 p o) (upd H p o) := by
  have h0 : H0 p = none := s.free hp
  refine ⟨fun b u e => by rw [upd_ne (ne_of_none e h0)]; exact e, fun b u e => by rw [upd_ne (ne_of_none e hp)]; exact e, fun b u e => ?_, fun b u e => ?_⟩
  · by_cases hb : b = p
    · subst hb; rw [upd_same] at e ⊢; exact e
    · rw [upd_ne hb] at e ⊢; exact s _ _ e
  · by_cases hb : b = p
    · subst hb; exact .inr hp
    · rw [upd_ne hb] at e; exact .inl e
end
def tE (K : PySem.W.Frag) (F : FE) : TE := fun σ H Q => ∃ c H0 ρ d ρ', RS K c H0 H ρ σ ∧ F ρ = some (d, ρ') ∧ ∀ v H0' H', Same H0 H0' → RS K c H0' H' ρ' σ → Rep K H0' d v → Q v H'
def tTt (K : PySem.W.Frag) (F : FT) : TT := fun σ H Q => ∃ c H0 ρ b ρ', RS K c H0 H ρ σ ∧ F ρ = some (b, ρ') ∧ ∀ H0' H', Same H0 H0' → RS K c H0' H' ρ' σ → Q b H'
def tAa (K : PySem.W.Frag) (F : FA) : TA := fun σ H Q => ∃ c H0 ρ ds ρ', RS K c H0 H ρ σ ∧ F ρ = some (ds, ρ') ∧ ∀ vs H0' H', Same H0 H0' → RS K c H0' H' ρ' σ → Reps K H0' ds vs → Q vs H'
def tOo (K : PySem.W.Frag) (F : FO) : TO := fun σ H Q => ∃ c H0 ρ o ρ', RS K c H0 H ρ σ ∧ F ρ = some (o, ρ') ∧ ∀ H0' H', Same H0 H0' → RS K c H0' H' ρ' σ → Q o H'
def XE (X : Cx) (e : Expr) (F : FE) : Prop := PE X e (tE X.K F)
def XT (X : Cx) (e : Expr) (F : FT) : Prop := PT X e (tTt X.K F)
def XW (X : Cx) (e : Expr) (F : FT) : Prop := PW X e (tTt X.K F)
def XA (X : Cx) (es : List Expr) (F : FA) : Prop := PA X es (tAa X.K F)
def XO (X : Cx) (e : Option Expr) (F : FO) : Prop := PO X e (tOo X.K F)
theorem bnd_eq {α β : Type} {x : Option α} {f : α → Option β} {b : β} (h : bnd x f = some b) : ∃ a, x = some a ∧ f a = some b := by
  cases x with
  | none => cases h
  | some a => exact ⟨a, rfl, h⟩
theorem PE.wk {X : Cx} {e : Expr} {t t' : TE} (h : PE X e t) (w : ∀ σ H Q, t' σ H Q → t σ H Q) : PE X e t' := fun pins s σ H Q I q => h pins s σ H Q I (w σ H Q q)
theorem PT.wk {X : Cx} {e : Expr} {t t' : TT} (h : PT X e t) (w : ∀ σ H Q, t' σ H Q → t σ H Q) : PT X e t' := fun pins s σ H Q I q => h pins s σ H Q I (w σ H Q q)
theorem PW.wk {X : Cx} {e : Expr} {t t' : TT} (h : PW X e t) (w : ∀ σ H Q, t' σ H Q → t σ H Q) : PW X e t' := fun wh pins s σ H Q I q => h wh pins s σ H Q I (w σ H Q q)
theorem PA.wk {X : Cx} {e : List Expr} {t t' : TA} (h : PA X e t) (w : ∀ σ H Q, t' σ H Q → t σ H Q) : PA X e t' := fun pos pins s σ H Q I q => h pos pins s σ H Q I (w σ H Q q)
theorem PS.wk {X : Cx} {e : Stmt} {t t' : TS} (h : PS X e t) (w : ∀ D σ H, t' D σ H → t D σ H) : PS X e t' := fun pins s σ H D I q => h pins s σ H D I (w D σ H q)
theorem PSs.wk {X : Cx} {e : List Stmt} {t t' : TS} (h : PSs X e t) (w : ∀ D σ H, t' D σ H → t D σ H) : PSs X e t' := fun pins s σ H D I q => h pins s σ H D I (w D σ H q)
section
variable {X : Cx} {pos : Pos} {a b e : Expr} {F G L : FE} {T U : FT}
theorem xv (i : Nat) {x : Str} (hN : X.N[i]? = some x := by rfl) (hv : Vis X.env.scope x := by first | exact Or.inl rfl | exact Or.inr (Or.inl rfl) | exact Or.inr (Or.inr rfl)) (hd : (x == ("__debug__" : Str)) = false := by decide)
    (hcd : (x == ("__classdict__" : Str)) = false := by decide) : XE X (.Name x pos) (eV i) :=
  PE.wk (pe_var hN hv hd hcd) fun σ H Q ⟨c, H0, ρ, d, ρ', R, f, q⟩ => by
    unfold eV at f
    cases z : ρ[i]? with
    | none => rw [z] at f; cases f
    | some sl =>
      rw [z] at f
      cases sl with
      | no => cases f
      | ow b o => cases f
      | im d' =>
        have f' : some (d', ρ) = some (d, ρ') := f
        cases f'
        obtain ⟨v, e1, e2⟩ := R.im i _ z
        exact ⟨v, e1, q v H0 H (Same.refl _) R e2⟩
theorem xnever : XE X e eNever := fun pins s σ H Q I ⟨c, H0, ρ, d, ρ', R, f, q⟩ => by cases f
theorem eC_inv {d d' : D} {ρ ρ' : En} (h : eC d ρ = some (d', ρ')) : d' = d ∧ ρ' = ρ := by
  have h' : some (d, ρ) = some (d', ρ') := h
  cases h'; exact ⟨rfl, rfl⟩
theorem xint {i : Int} {j} : XE X (.Constant (.int i) j pos) (eC (.int i)) := PE.wk pe_int fun σ H Q ⟨c, H0, ρ, d, ρ', R, f, q⟩ => by
  obtain ⟨rfl, rfl⟩ := eC_inv f
  exact q _ H0 H (Same.refl _) R (by unfold Rep; rfl)
theorem xbl {i : Bool} {j} : XE X (.Constant (.bool i) j pos) (eC (.bl i)) := PE.wk pe_bl fun σ H Q ⟨c, H0, ρ, d, ρ', R, f, q⟩ => by
  obtain ⟨rfl, rfl⟩ := eC_inv f
  exact q _ H0 H (Same.refl _) R (by unfold Rep; rfl)
theorem xstr {x : Str} {j} : XE X (.Constant (.str x) j pos) (eC (.str x)) := PE.wk pe_str fun σ H Q ⟨c, H0, ρ, d, ρ', R, f, q⟩ => by
  obtain ⟨rfl, rfl⟩ := eC_inv f
  exact q _ H0 H (Same.refl _) R (by unfold Rep; rfl)
abbrev Aft (K : PySem.W.Frag) (c : FC) (H0 : Hp) (ρ : En) (σ : L2.St) (d : D) (Q : VK) : Prop := ∀ v H0' H', Same H0 H0' → RS K c H0' H' ρ σ → Rep K H0' d v → Q v H'
def OpD (K : PySem.W.Frag) (r : R2) (op : D → D → Option D) : Prop := ∀ (c : FC) (H0 H : Hp) (ρ : En) (σ : L2.St) (x y d : D) (vx vy : V) (Q : VK), RS K c H0 H ρ σ → Rep K H0 x vx → Rep K H0 y vy → op x y = some d → Aft K c H0 ρ σ d Q → r vx vy H Q
def BinOk (X : Cx) (op : Operator) (f : D → D → Option D) : Prop := ∃ r, OpR X (binaryOp op) r ∧ OpD X.K r f
def CmpOk (X : Cx) (op : CmpOp) (f : D → D → Option D) : Prop := ∃ r, OpR X (compareOp op) r ∧ OpD X.K r f
theorem e2_inv {op : D → D → Option D} {ρ ρ' : En} {d : D} (h : e2 op F G ρ = some (d, ρ')) : ∃ x ρ1 y, F ρ = some (x, ρ1) ∧ G ρ1 = some (y, ρ') ∧ op x y = some d := by
  unfold e2 at h
  obtain ⟨⟨x, ρ1⟩, h1, h⟩ := bnd_eq h
  obtain ⟨⟨y, ρ2⟩, h2, h⟩ := bnd_eq h
  obtain ⟨z, h3, h⟩ := bnd_eq h
  have h' : some (z, ρ2) = some (d, ρ') := h
  cases h'
  exact ⟨x, ρ1, y, h1, h2, h3⟩
theorem two_of {K : PySem.W.Frag} {op : D → D → Option D} {r : R2} (o : OpD K r op) {σ : L2.St} {H : Hp} {Q : VK} (h : tE K (e2 op F G) σ H Q) : tOp r (tE K F) (tE K G) σ H Q := by
  obtain ⟨c, H0, ρ, d, ρ', R, f, q⟩ := h
  obtain ⟨x, ρ1, y, h1, h2, h3⟩ := e2_inv f
  refine ⟨c, H0, ρ, x, ρ1, R, h1, fun vx H1 Hh s1 R1 r1 => ?_⟩
  refine ⟨c, H1, ρ1, y, ρ', R1, h2, fun vy H2 Hh2 s2 R2 r2 => ?_⟩
  exact o c H2 Hh2 ρ' σ x y d vx vy Q R2 (Rep.mono s2 x r1) r2 h3 fun v H3 Hh3 s3 R3 r3 => q v H3 Hh3 (s1.trans (s2.trans s3)) R3 r3
theorem xb {op : Operator} {f : D → D → Option D} (o : BinOk X op f) (ha : XE X a F) (hb : XE X b G) : XE X (.BinOp a op b pos) (e2 f F G) := by
  obtain ⟨r, h1, h2⟩ := o
  exact PE.wk (pe_op h1 ha hb) fun σ H Q h => two_of h2 h
theorem xcmp {op : CmpOp} {f : D → D → Option D} (o : CmpOk X op f) (ha : XE X a F) (hb : XE X b G) (hm : behindInMarks op b = false := by first | exact nomark _ | with_unfolding_all rfl) : XE X (.Compare a [op] [b] pos) (e2 f F G) := by
  obtain ⟨r, h1, h2⟩ := o
  exact PE.wk (pe_cmpR h1 ha hb hm) fun σ H Q h => two_of h2 h
theorem tB_of {K : PySem.W.Frag} {t : TE} {σ : L2.St} {H : Hp} {Q : Bool → Hp → Prop} (w : ∀ Q, tE K F σ H Q → t σ H Q) (h : tTt K (tB F) σ H Q) : tTest t σ H Q := by
  obtain ⟨c, H0, ρ, b, ρ', R, f, q⟩ := h
  unfold tB at f
  obtain ⟨⟨d, ρ1⟩, h1, f⟩ := bnd_eq f
  obtain ⟨b', h2, f⟩ := bnd_eq f
  have f' : some (b', ρ1) = some (b, ρ') := f
  cases f'
  refine w _ ⟨c, H0, ρ, d, _, R, h1, fun v H1 Hh s1 R1 r1 => ?_⟩
  cases d with
  | bl k =>
    have e : k = b := Option.some.inj h2
    unfold Rep at r1
    exact ⟨k, r1, by rw [e]; exact q H1 Hh s1 R1⟩
  | _ => cases h2
theorem xt {op : CmpOp} {f : D → D → Option D} (o : CmpOk X op f) (ha : XE X a F) (hb : XE X b G) (hm : behindInMarks op b = false := by first | exact nomark _ | with_unfolding_all rfl) : XT X (.Compare a [op] [b] pos) (tB (e2 f F G)) := by
  obtain ⟨r, h1, h2⟩ := o
  exact PT.wk (pt_cmpR h1 ha hb hm) fun σ H Q h => tB_of (fun Q h => two_of h2 h) h
theorem three_of {K : PySem.W.Frag} {op op' : D → D → Option D} {r r' : R2} (o : OpD K r op) (o' : OpD K r' op') {σ : L2.St} {H : Hp} {Q : VK} (h : tE K (e3 op op' F G L) σ H Q) : tChain r r' (tE K F) (tE K G) (tE K L) σ H Q := by
  obtain ⟨c, H0, ρ, d, ρ', R, f, q⟩ := h
  unfold e3 at f
  obtain ⟨⟨x, ρ1⟩, h1, f⟩ := bnd_eq f
  obtain ⟨⟨y, ρ2⟩, h2, f⟩ := bnd_eq f
  obtain ⟨z, h3, f⟩ := bnd_eq f
  obtain ⟨k, h4, f⟩ := bnd_eq f
  dsimp only at h2 h3 h4 f
  refine ⟨c, H0, ρ, x, ρ1, R, h1, fun vx H1 Hh s1 R1 r1 => ?_⟩
  refine ⟨c, H1, ρ1, y, ρ2, R1, h2, fun vy H2 Hh2 s2 R2 r2 => ?_⟩
  refine o c H2 Hh2 ρ2 σ x y z vx vy _ R2 (Rep.mono s2 x r1) r2 h3 fun v H3 Hh3 s3 R3 r3 => ?_
  cases z with
  | bl k' =>
    have e : k' = k := Option.some.inj h4
    subst e
    unfold Rep at r3
    refine ⟨k', r3, ?_⟩
    cases k' with
    | false =>
      rw [if_neg Bool.false_ne_true] at f ⊢
      have f' : some (D.bl false, ρ2) = some (d, ρ') := f
      cases f'
      exact q _ H3 Hh3 (s1.trans (s2.trans s3)) R3 (by unfold Rep; rfl)
    | true =>
      rw [if_pos rfl] at f ⊢
      obtain ⟨⟨w, ρ3⟩, h5, f⟩ := bnd_eq f
      obtain ⟨d', h6, f⟩ := bnd_eq f
      dsimp only at h6 f
      have f' : some (d', ρ3) = some (d, ρ') := f
      cases f'
      refine ⟨c, H3, ρ2, w, _, R3, h5, fun vw H4 Hh4 s4 R4 r4 => ?_⟩
      exact o' c H4 Hh4 _ σ y w d vy vw Q R4 (Rep.mono s4 y (Rep.mono s3 y r2)) r4 h6 fun v H5 Hh5 s5 R5 r5 => q v H5 Hh5 (s1.trans (s2.trans (s3.trans (s4.trans s5)))) R5 r5
  | _ => cases h4
theorem xt3 {op op' : CmpOp} {f f' : D → D → Option D} {m : Expr} (o : CmpOk X op f) (o' : CmpOk X op' f') (ha : XE X a F) (hb : XE X b G) (hc : XE X m L) (hm : lastMarks [op, op'] [b, m] = false := by with_unfolding_all rfl) : XT X (.Compare a [op, op'] [b, m] pos) (tB (e3 f f' F G L)) := by
  obtain ⟨r, h1, h2⟩ := o
  obtain ⟨r', h1', h2'⟩ := o'
  exact PT.wk (pt_chain h1 h1' ha hb hc hm) fun σ H Q h => tB_of (fun Q h => three_of h2 h2' h) h
theorem xif {c : Expr} (hc : XT X c T) (ha : XE X a F) (hb : XE X b G) : XE X (.IfExp c a b pos) (eIf T F G) := PE.wk (pe_ifExp hc ha hb) fun σ H Q ⟨c, H0, ρ, d, ρ', R, f, q⟩ => by
  unfold eIf at f
  obtain ⟨⟨k, ρ1⟩, h1, f⟩ := bnd_eq f
  dsimp only at f
  refine ⟨c, H0, ρ, k, ρ1, R, h1, fun H1 Hh s1 R1 => ?_⟩
  cases k with
  | true =>
    rw [if_pos rfl] at f ⊢
    exact ⟨c, H1, ρ1, d, ρ', R1, f, fun v H2 Hh2 s2 R2 r2 => q v H2 Hh2 (s1.trans s2) R2 r2⟩
  | false =>
    rw [if_neg Bool.false_ne_true] at f ⊢
    exact ⟨c, H1, ρ1, d, ρ', R1, f, fun v H2 Hh2 s2 R2 r2 => q v H2 Hh2 (s1.trans s2) R2 r2⟩
theorem xone {op} (h : XE X a F) : XE X (.BoolOp op [a] pos) F := pe_one h
variable {rest : List Expr}
theorem xand (ha : XE X a F) (hb : XE X (.BoolOp .And (b :: rest) pos) G) : XE X (.BoolOp .And (a :: b :: rest) pos) (eAnd F G) := PE.wk (pe_and ha hb) fun σ H Q ⟨c, H0, ρ, d, ρ', R, f, q⟩ => by
  unfold eAnd at f
  obtain ⟨⟨z, ρ1⟩, h1, f⟩ := bnd_eq f
  obtain ⟨k, h2, f⟩ := bnd_eq f
  dsimp only at h2 f
  refine ⟨c, H0, ρ, z, ρ1, R, h1, fun v H1 Hh s1 R1 r1 => ?_⟩
  cases z with
  | bl k' =>
    have e : k' = k := Option.some.inj h2
    subst e
    unfold Rep at r1
    refine ⟨k', r1, ?_⟩
    cases k' with
    | true =>
      rw [if_pos rfl] at f ⊢
      exact ⟨c, H1, ρ1, d, ρ', R1, f, fun v H2 Hh2 s2 R2 r2 => q v H2 Hh2 (s1.trans s2) R2 r2⟩
    | false =>
      rw [if_neg Bool.false_ne_true] at f ⊢
      have f' : some (D.bl false, ρ1) = some (d, ρ') := f
      cases f'
      exact q _ H1 Hh s1 R1 (by unfold Rep; rfl)
  | _ => cases h2
theorem xnot (ha : XE X a F) : XE X (.UnaryOp .Not a pos) (eNot F) := PE.wk (pe_not ha) fun σ H Q ⟨c, H0, ρ, d, ρ', R, f, q⟩ => by
  unfold eNot at f
  obtain ⟨⟨z, ρ1⟩, h1, f⟩ := bnd_eq f
  obtain ⟨k, h2, f⟩ := bnd_eq f
  dsimp only at h2 f
  have f' : some (D.bl (!k), ρ1) = some (d, ρ') := f
  cases f'
  refine ⟨c, H0, ρ, z, _, R, h1, fun v H1 Hh s1 R1 r1 => ?_⟩
  cases z with
  | bl k' =>
    have e : k' = k := Option.some.inj h2
    subst e
    unfold Rep at r1
    exact ⟨k', r1, q _ H1 Hh s1 R1 (by unfold Rep; rfl)⟩
  | _ => cases h2
theorem xw (h : XW X a T) : XT X a T := PW.pt h
theorem xwand1 (ha : XT X a T) : XW X (.BoolOp .And [a] pos) T := pw_and1 ha
theorem xwor1 (ha : XT X a T) : XW X (.BoolOp .Or [a] pos) T := pw_or1 ha
theorem xwand (ha : XT X a T) (hb : XW X (.BoolOp .And (b :: rest) pos) U) : XW X (.BoolOp .And (a :: b :: rest) pos) (tAnd T U) := PW.wk (pw_and ha hb) fun σ H Q ⟨c, H0, ρ, k, ρ', R, f, q⟩ => by
  unfold tAnd at f
  obtain ⟨⟨k', ρ1⟩, h1, f⟩ := bnd_eq f
  dsimp only at f
  refine ⟨c, H0, ρ, k', ρ1, R, h1, fun H1 Hh s1 R1 => ?_⟩
  cases k' with
  | true =>
    rw [if_pos rfl] at f ⊢
    exact ⟨c, H1, ρ1, k, ρ', R1, f, fun H2 Hh2 s2 R2 => q H2 Hh2 (s1.trans s2) R2⟩
  | false =>
    rw [if_neg Bool.false_ne_true] at f ⊢
    have f' : some (false, ρ1) = some (k, ρ') := f
    cases f'
    exact q H1 Hh s1 R1
theorem xwor (ha : XT X a T) (hb : XW X (.BoolOp .Or (b :: rest) pos) U) : XW X (.BoolOp .Or (a :: b :: rest) pos) (tOr T U) := PW.wk (pw_or ha hb) fun σ H Q ⟨c, H0, ρ, k, ρ', R, f, q⟩ => by
  unfold tOr at f
  obtain ⟨⟨k', ρ1⟩, h1, f⟩ := bnd_eq f
  dsimp only at f
  refine ⟨c, H0, ρ, k', ρ1, R, h1, fun H1 Hh s1 R1 => ?_⟩
  cases k' with
  | true =>
    rw [if_pos rfl] at f ⊢
    have f' : some (true, ρ1) = some (k, ρ') := f
    cases f'
    exact q H1 Hh s1 R1
  | false =>
    rw [if_neg Bool.false_ne_true] at f ⊢
    exact ⟨c, H1, ρ1, k, ρ', R1, f, fun H2 Hh2 s2 R2 => q H2 Hh2 (s1.trans s2) R2⟩
theorem xtnot (ha : XT X a T) : XT X (.UnaryOp .Not a pos) (tNot T) := PT.wk (pt_not ha) fun σ H Q ⟨c, H0, ρ, k, ρ', R, f, q⟩ => by
  unfold tNot at f
  obtain ⟨⟨k', ρ1⟩, h1, f⟩ := bnd_eq f
  have f' : some (!k', ρ1) = some (k, ρ') := f
  cases f'
  exact ⟨c, H0, ρ, k', _, R, h1, fun H1 Hh s1 R1 => q H1 Hh s1 R1⟩
theorem tru_of {K : PySem.W.Frag} {H0 H : Hp} {d : D} {v : V} {k : Bool} (s : Same H0 H) (r : Rep K H0 d v) (h : dTru d = some k) : TruV K v H k := by
  cases d with
  | non => unfold Rep at r; subst r; cases h; rfl
  | bl b => unfold Rep at r; subst r; cases h; rfl
  | int i => unfold Rep at r; subst r; cases h; rfl
  | str x => cases h
  | opq => cases h
  | dct ks vs => cases h
  | tup ds =>
    unfold Rep at r
    obtain ⟨p, vs, rfl, q, t⟩ := r
    have e : (!ds.isEmpty) = k := Option.some.inj h
    have e2 : ds.isEmpty = vs.isEmpty := by rw [Bool.eq_iff_iff, List.isEmpty_iff_length_eq_zero, List.isEmpty_iff_length_eq_zero, t.length]
    exact .inr (.inl ⟨vs, Same.seqT s q, by rw [← e2]; exact e.symm⟩)
  | lst ds =>
    unfold Rep at r
    obtain ⟨p, vs, rfl, q, t⟩ := r
    have e : (!ds.isEmpty) = k := Option.some.inj h
    have e2 : ds.isEmpty = vs.isEmpty := by rw [Bool.eq_iff_iff, List.isEmpty_iff_length_eq_zero, List.isEmpty_iff_length_eq_zero, t.length]
    exact .inl ⟨vs, Same.seq s q, by rw [← e2]; exact e.symm⟩
theorem xtv (ha : XE X a F) (he : ∀ whole, isTrue a X.env whole = (do let v ← whole; standAt a.pos; holding [v] (truthy v))) : XT X a (tV F) := PT.wk (pt_truth ha he) fun σ H Q ⟨c, H0, ρ, k, ρ', R, f, q⟩ => by
  unfold tV at f
  obtain ⟨⟨d, ρ1⟩, h1, f⟩ := bnd_eq f
  obtain ⟨k', h2, f⟩ := bnd_eq f
  have f' : some (k', ρ1) = some (k, ρ') := f
  cases f'
  exact ⟨c, H0, ρ, d, _, R, h1, fun v H1 Hh s1 R1 r1 => ⟨k, tru_of R1.same r1 h2, q H1 Hh s1 R1⟩⟩
theorem xaN : XA X [] aN := PA.wk pa_nil fun σ H Q ⟨c, H0, ρ, ds, ρ', R, f, q⟩ => by
  have f' : some (([] : List D), ρ) = some (ds, ρ') := f
  cases f'
  exact q [] H0 H (Same.refl _) R Reps.nil_
theorem xaC {es : List Expr} {A : FA} (ha : XE X e F) (hr : XA X es A) (hs : starEach (e :: es) X.env = (false, eval e X.env) :: starEach es X.env := by rfl) : XA X (e :: es) (aC F A) := PA.wk (pa_cons ha hr hs) fun σ H Q ⟨c, H0, ρ, ds, ρ', R, f, q⟩ => by
  unfold aC at f
  obtain ⟨⟨d, ρ1⟩, h1, f⟩ := bnd_eq f
  obtain ⟨⟨r, ρ2⟩, h2, f⟩ := bnd_eq f
  have f' : some (d :: r, ρ2) = some (ds, ρ') := f
  cases f'
  refine ⟨c, H0, ρ, d, ρ1, R, h1, fun v H1 Hh s1 R1 r1 => ?_⟩
  refine ⟨c, H1, ρ1, r, _, R1, h2, fun vs H2 Hh2 s2 R2 r2 => ?_⟩
  exact q _ H2 Hh2 (s1.trans s2) R2 (Reps.cons (Rep.mono s2 d r1) r2)
theorem t1000 {n : Nat} (h : n ≤ 1000) : n ≤ sizeLine := Nat.le_of_lt (small1000 h)
theorem xtup {es : List Expr} {A : FA} {x1} (h : XA X es A) : XE X (.Tuple es x1 pos) (eTup A) := PE.wk (pe_tup h) fun σ H Q ⟨c, H0, ρ, d, ρ', R, f, q⟩ => by
  unfold eTup at f
  obtain ⟨⟨ds, ρ1⟩, h1, f⟩ := bnd_eq f
  dsimp only at f
  split at f
  · rename_i hl
    cases f
    refine ⟨c, H0, ρ, ds, _, R, h1, fun vs H1 Hh s1 R1 r1 => ⟨by rw [← r1.length]; exact t1000 hl, fun p hp => ?_⟩⟩
    have S := Step.alloc (o := .tup vs) R1.same hp
    refine q _ _ _ (s1.trans S.s0) (R1.after S) ?_
    unfold Rep
    exact ⟨p, vs, rfl, .inl (.inl upd_same), Reps.mono S.s0 ds r1⟩
  · cases f
theorem xlst {es : List Expr} {A : FA} (h : XA X es A) : XE X (.List es pos) (eLst A) := PE.wk (pe_lst h) fun σ H Q ⟨c, H0, ρ, d, ρ', R, f, q⟩ => by
  unfold eLst at f
  obtain ⟨⟨ds, ρ1⟩, h1, f⟩ := bnd_eq f
  dsimp only at f
  split at f
  · rename_i hl
    cases f
    refine ⟨c, H0, ρ, ds, _, R, h1, fun vs H1 Hh s1 R1 r1 => ⟨by rw [← r1.length]; exact t1000 hl, fun p hp => ?_⟩⟩
    have S := Step.alloc (o := .lst vs) R1.same hp
    refine q _ _ _ (s1.trans S.s0) (R1.after S) ?_
    unfold Rep
    exact ⟨p, vs, rfl, .inl (.inl upd_same), Reps.mono S.s0 ds r1⟩
  · cases f
theorem dPl_eq : @dPl = @ixN := rfl
theorem at_of {K : PySem.W.Frag} {H : Hp} {ds : List D} {vs : List V} {i : Int} {d : D} (r : Reps K H ds vs) (h : atD ds i = some d) : ∃ v, atI vs i = some v ∧ Rep K H d v := by
  unfold atD at h
  obtain ⟨j, h1, h2⟩ := bnd_eq (x := dPl ds.length i) (f := fun j => ds[j]?) h
  obtain ⟨v, e1, e2⟩ := r.get h2
  refine ⟨v, ?_, e2⟩
  unfold atI
  rw [← r.length, ← dPl_eq, h1]
  exact e1
theorem PO.wk {X : Cx} {e : Option Expr} {t t' : TO} (h : PO X e t) (w : ∀ σ H Q, t' σ H Q → t σ H Q) : PO X e t' := fun pins s σ H Q I q => h pins s σ H Q I (w σ H Q q)
theorem xoN : XO X none oN := PO.wk po_none fun σ H Q ⟨c, H0, ρ, o, ρ', R, f, q⟩ => by
  have f' : some ((none : Option Int), ρ) = some (o, ρ') := f
  cases f'
  exact q H0 H (Same.refl _) R
theorem xoS (h : XE X e F) : XO X (some e) (oS F) := PO.wk (po_some h) fun σ H Q ⟨c, H0, ρ, o, ρ', R, f, q⟩ => by
  unfold oS at f
  obtain ⟨⟨d, ρ1⟩, h1, f⟩ := bnd_eq f
  obtain ⟨i, h2, f⟩ := bnd_eq f
  dsimp only at h2 f
  have f' : some (some i, ρ1) = some (o, ρ') := f
  cases f'
  refine ⟨c, H0, ρ, d, _, R, h1, fun v H1 Hh s1 R1 r1 => ?_⟩
  cases d with
  | int j =>
    have e : j = i := Option.some.inj h2
    subst e
    unfold Rep at r1
    exact ⟨j, r1, q H1 Hh s1 R1⟩
  | _ => cases h2
theorem dEnd_eq (n d : Nat) (o : Option Int) : dEnd n d o = HT.sIx n d o := by
  cases o with
  | none => rfl
  | some v =>
    show (if v < 0 then max (v + (n : Int)) 0 else min v (n : Int)).toNat = if v < 0 then (v + (n : Int)).toNat else min v.toNat n
    split <;> omega
theorem cut_of {K : PySem.W.Frag} {H : Hp} {ds : List D} {vs : List V} (r : Reps K H ds vs) (lo hi : Option Int) : Reps K H (dCut ds lo hi) (cutV vs lo hi) := by
  unfold dCut cutV
  rw [dEnd_eq, dEnd_eq, r.length]
  exact (r.drop _).take _
end
end Fx
set_option maxRecDepth 100000
namespace Fx
open PySem PySem.Spec PyProof.Rows L2
section
variable {X : Cx} {K : PySem.W.Frag}
theorem opD_int {C : Int → Int → Prop} {g : Int → Int → V} {f : D → D → Option D} (h : ∀ x y d, f x y = some d → ∃ i j, x = .int i ∧ y = .int j ∧ C i j ∧ ∀ H, Rep K H d (g i j)) : OpD K (rI C g) f := fun c H0 H ρ σ x y d vx vy Q R r1 r2 e q => by
  obtain ⟨i, j, rfl, rfl, hc, hr⟩ := h x y d e
  unfold Rep at r1 r2
  exact ⟨i, j, r1, r2, hc, q _ H0 H (Same.refl _) R (hr H0)⟩
theorem opD_int0 {g : Int → Int → V} {f : D → D → Option D} (h : ∀ x y d, f x y = some d → ∃ i j, x = .int i ∧ y = .int j ∧ ∀ H, Rep K H d (g i j)) : OpD K (rI0 g) f := fun c H0 H ρ σ x y d vx vy Q R r1 r2 e q => by
  obtain ⟨i, j, rfl, rfl, hr⟩ := h x y d e
  unfold Rep at r1 r2
  exact ⟨i, j, r1, r2, q _ H0 H (Same.refl _) R (hr H0)⟩
theorem rep_int (H : Hp) (i : Int) : Rep K H (.int i) (.int i) := by unfold Rep; rfl
theorem rep_bl (H : Hp) (i : Bool) : Rep K H (.bl i) (.bl i) := by unfold Rep; rfl
theorem ifs {c : Prop} [Decidable c] {α : Type} {a d : α} (h : (if c then some a else none) = some d) : c ∧ a = d := by
  by_cases hc : c
  · rw [if_pos hc] at h; exact ⟨hc, Option.some.inj h⟩
  · rw [if_neg hc] at h; cases h
theorem oSub : BinOk X .Sub dSub := ⟨_, op_sub, opD_int0 fun x y d e => by
  cases x <;> cases y <;> cases e
  exact ⟨_, _, rfl, rfl, fun H => rep_int H _⟩⟩
def CMulD (i j : Int) : Prop := okMul i j = true
theorem intBits_1000 {i : Int} (h : bigM i = true) : Builtin.Int.intBits i ≤ 1000 := by
  have h : i.natAbs < 2 ^ 1000 := of_decide_eq_true h
  unfold Builtin.Int.intBits
  split
  · exact Nat.zero_le _
  · rename_i hz
    have hz : i ≠ 0 := by simpa using hz
    have h0 : i.natAbs ≠ 0 := by omega
    have := (Nat.log2_lt h0).mpr h
    omega
theorem CMulD.ok {i j : Int} (h : CMulD i j) : IntMulOk i j := by
  unfold CMulD okMul at h
  simp only [Bool.or_eq_true, Bool.and_eq_true, decide_eq_true_eq] at h
  rcases h with (h | h) | ⟨h1, h2⟩
  · exact IntMulOk.of_left (intBits_le_64 (by omega) (by omega))
  · exact IntMulOk.of_right (intBits_le_64 (by omega) (by omega))
  · unfold IntMulOk
    have b1 := intBits_1000 h1
    have b2 := intBits_1000 h2
    have : Builtin.Int.intTooBig ((Builtin.Int.intBits i : Int) + (Builtin.Int.intBits j : Int)) = false := by
      unfold Builtin.Int.intTooBig
      refine decide_eq_false ?_
      have : (2000 : Int) ≤ bitsLine := by decide
      omega
    simp [this]
theorem oMul : BinOk X .Mult dMul := ⟨rI CMulD fun i j => .int (i * j), opI fun _ _ _ _ _ _ _ hc q => mul_int q hc.ok, opD_int fun x y d e => by
  cases x with
  | int i =>
    cases y with
    | int j =>
      obtain ⟨h, rfl⟩ := ifs (c := okMul i j = true) e
      exact ⟨_, _, rfl, rfl, h, fun H => rep_int H _⟩
    | _ => cases e
  | _ => cases y <;> cases e⟩
def CDivD (i j : Int) : Prop := okDiv j = true
theorem oDiv : BinOk X .FloorDiv dDiv := ⟨rI CDivD fun i j => .int (i.fdiv j), opI fun i j _ _ _ _ _ hc q => by
    unfold CDivD okDiv at hc
    simp only [Bool.and_eq_true, decide_eq_true_eq] at hc
    refine floordiv_int hc.1 q (.inl (PyProof.noPylong_of_log2 ?_))
    have h0 : j.natAbs ≠ 0 := by have := hc.1; omega
    have := (Nat.log2_lt h0).mpr hc.2
    omega, opD_int fun x y d e => by
  cases x with
  | int i =>
    cases y with
    | int j =>
      obtain ⟨h, rfl⟩ := ifs (c := okDiv j = true) e
      exact ⟨_, _, rfl, rfl, h, fun H => rep_int H _⟩
    | _ => cases e
  | _ => cases y <;> cases e⟩
theorem oMod : BinOk X .Mod dMod := ⟨_, op_modN, opD_int fun x y d e => by
  cases x with
  | int i =>
    cases y with
    | int j =>
      obtain ⟨h, rfl⟩ := ifs (c := j ≠ 0) e
      exact ⟨_, _, rfl, rfl, h, fun H => rep_int H _⟩
    | _ => cases e
  | _ => cases y <;> cases e⟩
theorem oPow : BinOk X .Pow dPow := ⟨_, op_pow, opD_int fun x y d e => by
  cases x with
  | int i =>
    cases y with
    | int j =>
      obtain ⟨h, rfl⟩ := ifs (c := 0 ≤ j ∧ j ≤ 64 ∧ i.natAbs < 2 ^ 64) e
      exact ⟨_, _, rfl, rfl, ⟨h.1, by omega, h.2.2⟩, fun H => rep_int H _⟩
    | _ => cases e
  | _ => cases y <;> cases e⟩
def rCatR (K : PySem.W.Frag) : R2 := fun x y H Q => ∃ l b xs zs, x = .ref l ∧ y = .ref b ∧ SqL K H l xs ∧ SqL K H b zs ∧ xs.length + zs.length ≤ sizeLine ∧ ∀ p, H p = none → Q (.ref p) (upd H p (.lst (xs ++ zs)))
theorem op_catR : OpR X (binaryOp .Add) (rCatR X.K) := by
  intro pins s σ H x y v u Q I rx ry h
  obtain ⟨l, b, xs, zs, rfl, rfl, hH, hB, hz, q⟩ := h
  cases rx
  cases ry
  obtain ⟨its, r, pl, _⟩ := I.list hH
  obtain ⟨its2, r2, pl2, _⟩ := I.list hB
  have hl := r.length
  have hl2 := r2.length
  obtain ⟨⟨cls, dd, data, sl⟩, ho, hc, n, hd⟩ := pl.isList
  obtain ⟨⟨cls2, dd2, data2, sl2⟩, ho2, hc2, n2, hd2⟩ := pl2.isList
  simp only at hc hd hc2 hd2
  subst hc hd hc2 hd2
  have e : its.toArray ++ its2.toArray = (its ++ its2).toArray := by simp
  refine concat_meets ⟨_, ho, rfl⟩ ⟨_, ho2, rfl⟩ noFill_list_add seq_list_add PySem.F.slot_list_add PySem.F.entry_list_add (PySem.F.args_list_add_2 _ _) (list_addW l b its.toArray its2.toArray n n2 dd dd2 sl sl2 (by rw [List.size_toArray, List.size_toArray]; omega)) ⟨ho, ho2, ?_⟩
  rw [e]
  exact ⟨.ref _, _, I.lnew (t' := s.toks) (r.append r2) (by rw [List.length_append]; omega), rfl, q _ I.fresh⟩
def rAddD (K : PySem.W.Frag) : R2 := fun x y H Q => rI0 (fun i j => .int (i + j)) x y H Q ∨ ((∃ i j, x = .str i ∧ y = .str j ∧ i.length + j.length ≤ sizeLine ∧ Q (.str (i ++ j)) H) ∨ rCatR K x y H Q)
theorem oAdd : BinOk X .Add dAdd := ⟨rAddD X.K, op_add.or (op_add_str.or op_catR), fun c H0 H ρ σ x y d vx vy Q R r1 r2 e q => by
  cases x with
  | int i =>
    cases y with
    | int j =>
      cases e
      unfold Rep at r1 r2
      exact .inl ⟨_, _, r1, r2, q _ H0 H (Same.refl _) R (rep_int H0 _)⟩
    | _ => cases e
  | str i =>
    cases y with
    | str j =>
      obtain ⟨h, rfl⟩ := ifs (c := i.length + j.length ≤ sizeLine) e
      unfold Rep at r1 r2
      exact .inr (.inl ⟨_, _, r1, r2, h, q _ H0 H (Same.refl _) R (by unfold Rep; rfl)⟩)
    | _ => cases e
  | lst ds =>
    cases y with
    | lst es =>
      obtain ⟨h, rfl⟩ := ifs (c := ds.length + es.length ≤ sizeLine) e
      unfold Rep at r1 r2
      obtain ⟨p, vs, rfl, s, t⟩ := r1
      obtain ⟨p2, vs2, rfl, s2, t2⟩ := r2
      refine .inr (.inr ⟨p, p2, vs, vs2, rfl, rfl, Same.seq R.same s, Same.seq R.same s2, by rw [← t.length, ← t2.length]; exact h, fun p' hp => ?_⟩)
      have S := Step.alloc (o := .lst (vs ++ vs2)) R.same hp
      refine q _ _ _ S.s0 (R.after S) ?_
      unfold Rep
      exact ⟨p', _, rfl, .inl (.inl upd_same), Reps.mono S.s0 _ (t.app t2)⟩
    | _ => cases e
  | _ => cases y <;> cases e⟩
theorem xneg {a : Expr} {F : FE} {pos : Pos} (ha : XE X a F) : XE X (.UnaryOp .USub a pos) (e1 dNeg F) := PE.wk (pe_un un_neg ha) fun σ H Q ⟨c, H0, ρ, d, ρ', R, f, q⟩ => by
  unfold e1 at f
  obtain ⟨⟨x, ρ1⟩, h1, f⟩ := bnd_eq f
  obtain ⟨d', h2, f⟩ := bnd_eq f
  dsimp only at h2 f
  have f' : some (d', ρ1) = some (d, ρ') := f
  cases f'
  refine ⟨c, H0, ρ, x, _, R, h1, fun v H1 Hh s1 R1 r1 => ?_⟩
  cases x with
  | int i =>
    have e : D.int (-i) = d := Option.some.inj h2
    subst e
    unfold Rep at r1
    exact ⟨i, r1, q _ H1 Hh s1 R1 (rep_int _ _)⟩
  | _ => cases h2
theorem cmpD {p : Int → Int → Bool} : OpD K (rI0 fun i j => .bl (p i j)) (dCmp p) := opD_int0 fun x y d e => by
  cases x <;> cases y <;> cases e
  exact ⟨_, _, rfl, rfl, fun H => rep_bl H _⟩
theorem cLt : CmpOk X .Lt dLt := ⟨_, op_lt, cmpD⟩
theorem cLe : CmpOk X .LtE dLe := ⟨_, op_le, cmpD⟩
theorem cGt : CmpOk X .Gt dGt := ⟨_, op_gt, cmpD⟩
theorem cGe : CmpOk X .GtE dGe := ⟨_, op_ge, cmpD⟩
end
end Fx
set_option maxRecDepth 100000
namespace Fx
open PySem PySem.Spec PyProof.Rows L2
theorem eqDs_all : ∀ (ds es : List D), eqDs ds es = ((List.range (min ds.length es.length)).all (fun j => eqD (ds.getD j .non) (es.getD j .non)) && ds.length == es.length)
  | [], [] => by simp [eqDs]
  | [], e :: es => by simp [eqDs]
  | d :: ds, [] => by simp [eqDs]
  | d :: ds, e :: es => by
    rw [eqDs, eqDs_all ds es]
    have h : min (d :: ds).length (e :: es).length = min ds.length es.length + 1 := by simp only [List.length_cons]; omega
    rw [h, List.range_succ_eq_map, List.all_cons, List.all_map]
    have h2 : ((d :: ds).length == (e :: es).length) = (ds.length == es.length) := by simp
    rw [h2, Bool.and_assoc]
    rfl
theorem dpDs_le : ∀ {ds : List D} {n : Nat} {j : Nat} {d : D}, dpDs ds ≤ n → ds[j]? = some d → dpD d ≤ n
  | [], _, _, _, _, e => by simp at e
  | d :: ds, n, 0, _, h, e => by
    rw [dpDs_cons] at h
    simp at e; subst e; omega
  | d :: ds, n, j + 1, d', h, e => by
    rw [dpDs_cons] at h
    exact dpDs_le (ds := ds) (n := n) (j := j) (by omega) (by simpa using e)
section
variable {X : Cx} {pins : List (Addr × Obj)} {σ : L2.St} {H : Hp} {s : Shared}
theorem eqDs_of {ds es : List D} {vs : List V} (hd : Reps X.K H ds vs) (he : Reps X.K H es vs) (h : ∀ (j : Nat) (d e : D) (v : V), ds[j]? = some d → es[j]? = some e → Rep X.K H d v → Rep X.K H e v → eqD d e = true) : eqDs ds es = true := by
  rw [eqDs_all]
  have l1 := hd.length
  have l2 := he.length
  rw [Bool.and_eq_true, List.all_eq_true]
  refine ⟨fun j hj => ?_, by simp; omega⟩
  have hj' : j < ds.length := by have := List.mem_range.mp hj; omega
  have hk' : j < es.length := by omega
  obtain ⟨v, a1, a2⟩ := hd.get (i := j) (d := ds[j]) (by simp [hj'])
  obtain ⟨v', b1, b2⟩ := he.get (i := j) (d := es[j]) (by simp [hk'])
  rw [a1] at b1; cases b1
  have := h j ds[j] es[j] v (by simp [hj']) (by simp [hk']) a2 b2
  simpa [List.getD, hj', hk'] using this
theorem no_tl (I : Inv X pins σ H s) {a : Addr} {xs ys : List V} (h : SqT X.K H a xs) (h' : SqL X.K H a ys) : False := by
  obtain ⟨_, _, ⟨o, e, c, _⟩, _⟩ := I.tuple h
  obtain ⟨_, _, ⟨o', n, e', c', _⟩, _⟩ := I.list h'
  rw [e] at e'; cases e'
  have z := c.symm.trans c'
  injection z with z
  exact absurd z (by decide)
theorem rep_one (I : Inv X pins σ H s) : ∀ (n : Nat) (d e : D) (v : V), dpD d ≤ n → dpD d < 1000 → dpD e < 1000 → Rep X.K H d v → Rep X.K H e v → eqD d e = true
  | n, d, e, v, hn, hz1, hz2, r1, r2 => by
    cases d with
    | opq => exact absurd hz1 (by rw [dpD_opq]; omega)
    | dct ks0 vs0 => exact absurd hz1 (by rw [dpD_dct]; omega)
    | non =>
      cases e with
      | opq => exact absurd hz2 (by rw [dpD_opq]; omega)
      | dct ks0 vs0 => exact absurd hz2 (by rw [dpD_dct]; omega)
      | non => unfold Rep at r1 r2; rw [r1] at r2; first | (cases r2; simp [eqD]) | cases r2
      | bl b2 => unfold Rep at r1 r2; rw [r1] at r2; first | (cases r2; simp [eqD]) | cases r2
      | int b2 => unfold Rep at r1 r2; rw [r1] at r2; first | (cases r2; simp [eqD]) | cases r2
      | str b2 => unfold Rep at r1 r2; rw [r1] at r2; first | (cases r2; simp [eqD]) | cases r2
      | tup es => unfold Rep at r1 r2; obtain ⟨p, vs, z, _⟩ := r2; rw [r1] at z; cases z
      | lst es => unfold Rep at r1 r2; obtain ⟨p, vs, z, _⟩ := r2; rw [r1] at z; cases z
    | bl b1 =>
      cases e with
      | opq => exact absurd hz2 (by rw [dpD_opq]; omega)
      | dct ks0 vs0 => exact absurd hz2 (by rw [dpD_dct]; omega)
      | non => unfold Rep at r1 r2; rw [r1] at r2; first | (cases r2; simp [eqD]) | cases r2
      | bl b2 => unfold Rep at r1 r2; rw [r1] at r2; first | (cases r2; simp [eqD]) | cases r2
      | int b2 => unfold Rep at r1 r2; rw [r1] at r2; first | (cases r2; simp [eqD]) | cases r2
      | str b2 => unfold Rep at r1 r2; rw [r1] at r2; first | (cases r2; simp [eqD]) | cases r2
      | tup es => unfold Rep at r1 r2; obtain ⟨p, vs, z, _⟩ := r2; rw [r1] at z; cases z
      | lst es => unfold Rep at r1 r2; obtain ⟨p, vs, z, _⟩ := r2; rw [r1] at z; cases z
    | int b1 =>
      cases e with
      | opq => exact absurd hz2 (by rw [dpD_opq]; omega)
      | dct ks0 vs0 => exact absurd hz2 (by rw [dpD_dct]; omega)
      | non => unfold Rep at r1 r2; rw [r1] at r2; first | (cases r2; simp [eqD]) | cases r2
      | bl b2 => unfold Rep at r1 r2; rw [r1] at r2; first | (cases r2; simp [eqD]) | cases r2
      | int b2 => unfold Rep at r1 r2; rw [r1] at r2; first | (cases r2; simp [eqD]) | cases r2
      | str b2 => unfold Rep at r1 r2; rw [r1] at r2; first | (cases r2; simp [eqD]) | cases r2
      | tup es => unfold Rep at r1 r2; obtain ⟨p, vs, z, _⟩ := r2; rw [r1] at z; cases z
      | lst es => unfold Rep at r1 r2; obtain ⟨p, vs, z, _⟩ := r2; rw [r1] at z; cases z
    | str b1 =>
      cases e with
      | opq => exact absurd hz2 (by rw [dpD_opq]; omega)
      | dct ks0 vs0 => exact absurd hz2 (by rw [dpD_dct]; omega)
      | non => unfold Rep at r1 r2; rw [r1] at r2; first | (cases r2; simp [eqD]) | cases r2
      | bl b2 => unfold Rep at r1 r2; rw [r1] at r2; first | (cases r2; simp [eqD]) | cases r2
      | int b2 => unfold Rep at r1 r2; rw [r1] at r2; first | (cases r2; simp [eqD]) | cases r2
      | str b2 => unfold Rep at r1 r2; rw [r1] at r2; first | (cases r2; simp [eqD]) | cases r2
      | tup es => unfold Rep at r1 r2; obtain ⟨p, vs, z, _⟩ := r2; rw [r1] at z; cases z
      | lst es => unfold Rep at r1 r2; obtain ⟨p, vs, z, _⟩ := r2; rw [r1] at z; cases z
    | tup ds =>
      cases e with
      | opq => exact absurd hz2 (by rw [dpD_opq]; omega)
      | dct ks0 vs0 => exact absurd hz2 (by rw [dpD_dct]; omega)
      | non => unfold Rep at r1 r2; obtain ⟨p, vs, z, _⟩ := r1; rw [r2] at z; cases z
      | bl b2 => unfold Rep at r1 r2; obtain ⟨p, vs, z, _⟩ := r1; rw [r2] at z; cases z
      | int b2 => unfold Rep at r1 r2; obtain ⟨p, vs, z, _⟩ := r1; rw [r2] at z; cases z
      | str b2 => unfold Rep at r1 r2; obtain ⟨p, vs, z, _⟩ := r1; rw [r2] at z; cases z
      | tup es =>
        unfold Rep at r1 r2
        obtain ⟨p, vs, z, s1, q1⟩ := r1
        obtain ⟨p', vs', z', s2, q2⟩ := r2
        rw [z] at z'; cases z'
        have e := I.tuple_inj s1 s2
        subst e
        cases n with
        | zero => rw [dpD_tup] at hn; omega
        | succ n =>
          rw [dpD_tup] at hn
          rw [eqD]
          exact eqDs_of q1 q2 fun j d e v h1 h2 => rep_one I n d e v (dpDs_le (by omega) h1) (by have z := dpDs_le (n := 998) (by first | (rw [dpD_tup] at hz1; omega) | (rw [dpD_lst] at hz1; omega)) h1; omega) (by have z := dpDs_le (n := 998) (by first | (rw [dpD_tup] at hz2; omega) | (rw [dpD_lst] at hz2; omega)) h2; omega)
      | lst es => unfold Rep at r1 r2; obtain ⟨p, vs, z, s1, _⟩ := r1; obtain ⟨p', vs', z', s2, _⟩ := r2; rw [z] at z'; cases z'; exact (no_tl I s1 s2).elim
    | lst ds =>
      cases e with
      | opq => exact absurd hz2 (by rw [dpD_opq]; omega)
      | dct ks0 vs0 => exact absurd hz2 (by rw [dpD_dct]; omega)
      | non => unfold Rep at r1 r2; obtain ⟨p, vs, z, _⟩ := r1; rw [r2] at z; cases z
      | bl b2 => unfold Rep at r1 r2; obtain ⟨p, vs, z, _⟩ := r1; rw [r2] at z; cases z
      | int b2 => unfold Rep at r1 r2; obtain ⟨p, vs, z, _⟩ := r1; rw [r2] at z; cases z
      | str b2 => unfold Rep at r1 r2; obtain ⟨p, vs, z, _⟩ := r1; rw [r2] at z; cases z
      | tup es => unfold Rep at r1 r2; obtain ⟨p, vs, z, s1, _⟩ := r1; obtain ⟨p', vs', z', s2, _⟩ := r2; rw [z] at z'; cases z'; exact (no_tl I s2 s1).elim
      | lst es =>
        unfold Rep at r1 r2
        obtain ⟨p, vs, z, s1, q1⟩ := r1
        obtain ⟨p', vs', z', s2, q2⟩ := r2
        rw [z] at z'; cases z'
        have e := I.list_inj s1 s2
        subst e
        cases n with
        | zero => rw [dpD_lst] at hn; omega
        | succ n =>
          rw [dpD_lst] at hn
          rw [eqD]
          exact eqDs_of q1 q2 fun j d e v h1 h2 => rep_one I n d e v (dpDs_le (by omega) h1) (by have z := dpDs_le (n := 998) (by first | (rw [dpD_tup] at hz1; omega) | (rw [dpD_lst] at hz1; omega)) h1; omega) (by have z := dpDs_le (n := 998) (by first | (rw [dpD_tup] at hz2; omega) | (rw [dpD_lst] at hz2; omega)) h2; omega)
def RcN (X : Cx) (H : Hp) (s : Shared) (n : Nat) : Prop := ∀ (A : Around) (d e : D) (x y : V) (u v : Value), dpD d ≤ n → dpD d < 1000 → dpD e < 1000 → A.units + n < cLine → Rep X.K H d x → RelV x u → Rep X.K H e y → RelV y v → SeqAt.RcAt A s u v (eqD d e)
def EqN (X : Cx) (H : Hp) (s : Shared) (n : Nat) : Prop := ∀ (A : Around) (d e : D) (x y : V) (u v : Value), dpD d ≤ n → dpD d < 1000 → dpD e < 1000 → A.units + n < cLine → Rep X.K H d x → RelV x u → Rep X.K H e y → RelV y v → SeqAt.EqAt A s u v (eqD d e)
theorem eqN_of (I : Inv X pins σ H s) {n : Nat} (rc : RcN X H s n) : EqN X H s n := by
  intro A d e x y u v hn hz1 hz2 hA r1 w1 r2 w2
  have hu : A.units < cLine := by omega
  have key := rc A d e x y u v hn hz1 hz2 hA r1 w1 r2 w2
  have one : x = y → eqD d e = true := fun z => rep_one I _ d e x (Nat.le_refl _) hz1 hz2 r1 (z ▸ r2)
  cases d with
  | opq => exact absurd hz1 (by rw [dpD_opq]; omega)
  | dct ks0 vs0 => exact absurd hz1 (by rw [dpD_dct]; omega)
  | non =>
    cases e with
    | opq => exact absurd hz2 (by rw [dpD_opq]; omega)
    | dct ks0 vs0 => exact absurd hz2 (by rw [dpD_dct]; omega)
    | non => unfold Rep at r1; subst r1; cases (show u = Value.none from w1); unfold Rep at r2; subst r2; cases (show v = Value.none from w2); exact SeqAt.EqAt.same _
    | bl b2 => unfold Rep at r1; subst r1; cases (show u = Value.none from w1); unfold Rep at r2; subst r2; cases (show v = Value.bool _ from w2); exact SeqAt.EqAt.none_bool _
    | int b2 => unfold Rep at r1; subst r1; cases (show u = Value.none from w1); unfold Rep at r2; subst r2; obtain ⟨t2, z2⟩ := w2; subst z2; exact SeqAt.EqAt.none_int _ _
    | str b2 => unfold Rep at r1; subst r1; cases (show u = Value.none from w1); unfold Rep at r2; subst r2; obtain ⟨t2, z2⟩ := w2; subst z2; exact SeqAt.EqAt.none_str _ _
    | tup es => unfold Rep at r1; subst r1; cases (show u = Value.none from w1); unfold Rep at r2; obtain ⟨p2, vs2, y2, s2, q2⟩ := r2; subst y2; cases (show v = Value.ref _ from w2); obtain ⟨its2, rv2, tp2, _⟩ := I.tuple s2; exact SeqAt.EqAt.none_tuple tp2 hu
    | lst es => unfold Rep at r1; subst r1; cases (show u = Value.none from w1); unfold Rep at r2; obtain ⟨p2, vs2, y2, s2, q2⟩ := r2; subst y2; cases (show v = Value.ref _ from w2); obtain ⟨its2, rv2, tp2, _⟩ := I.list s2; have tp2 := tp2.isList; exact SeqAt.EqAt.none_list tp2 hu
  | bl b1 =>
    cases e with
    | opq => exact absurd hz2 (by rw [dpD_opq]; omega)
    | dct ks0 vs0 => exact absurd hz2 (by rw [dpD_dct]; omega)
    | non => unfold Rep at r1; subst r1; cases (show u = Value.bool _ from w1); unfold Rep at r2; subst r2; cases (show v = Value.none from w2); exact SeqAt.EqAt.bool_none _
    | bl b2 => unfold Rep at r1; subst r1; cases (show u = Value.bool _ from w1); unfold Rep at r2; subst r2; cases (show v = Value.bool _ from w2); exact SeqAt.EqAt.bool_bool _ _
    | int b2 => unfold Rep at r1; subst r1; cases (show u = Value.bool _ from w1); unfold Rep at r2; subst r2; obtain ⟨t2, z2⟩ := w2; subst z2; exact SeqAt.EqAt.bool_int _ _ _
    | str b2 => unfold Rep at r1; subst r1; cases (show u = Value.bool _ from w1); unfold Rep at r2; subst r2; obtain ⟨t2, z2⟩ := w2; subst z2; exact SeqAt.EqAt.bool_str _ _ _
    | tup es => unfold Rep at r1; subst r1; cases (show u = Value.bool _ from w1); unfold Rep at r2; obtain ⟨p2, vs2, y2, s2, q2⟩ := r2; subst y2; cases (show v = Value.ref _ from w2); obtain ⟨its2, rv2, tp2, _⟩ := I.tuple s2; exact SeqAt.EqAt.bool_tuple _ tp2 hu
    | lst es => unfold Rep at r1; subst r1; cases (show u = Value.bool _ from w1); unfold Rep at r2; obtain ⟨p2, vs2, y2, s2, q2⟩ := r2; subst y2; cases (show v = Value.ref _ from w2); obtain ⟨its2, rv2, tp2, _⟩ := I.list s2; have tp2 := tp2.isList; exact SeqAt.EqAt.bool_list _ tp2 hu
  | int b1 =>
    cases e with
    | opq => exact absurd hz2 (by rw [dpD_opq]; omega)
    | dct ks0 vs0 => exact absurd hz2 (by rw [dpD_dct]; omega)
    | non => unfold Rep at r1; subst r1; obtain ⟨t1, z1⟩ := w1; subst z1; unfold Rep at r2; subst r2; cases (show v = Value.none from w2); exact SeqAt.EqAt.int_none _ _
    | bl b2 => unfold Rep at r1; subst r1; obtain ⟨t1, z1⟩ := w1; subst z1; unfold Rep at r2; subst r2; cases (show v = Value.bool _ from w2); exact SeqAt.EqAt.int_bool _ _ _
    | int b2 => unfold Rep at r1; subst r1; obtain ⟨t1, z1⟩ := w1; subst z1; unfold Rep at r2; subst r2; obtain ⟨t2, z2⟩ := w2; subst z2; exact SeqAt.EqAt.int_int _ _ _ _
    | str b2 => unfold Rep at r1; subst r1; obtain ⟨t1, z1⟩ := w1; subst z1; unfold Rep at r2; subst r2; obtain ⟨t2, z2⟩ := w2; subst z2; exact SeqAt.EqAt.int_str _ _ _ _
    | tup es => unfold Rep at r1; subst r1; obtain ⟨t1, z1⟩ := w1; subst z1; unfold Rep at r2; obtain ⟨p2, vs2, y2, s2, q2⟩ := r2; subst y2; cases (show v = Value.ref _ from w2); obtain ⟨its2, rv2, tp2, _⟩ := I.tuple s2; exact SeqAt.EqAt.int_tuple _ _ tp2 hu
    | lst es => unfold Rep at r1; subst r1; obtain ⟨t1, z1⟩ := w1; subst z1; unfold Rep at r2; obtain ⟨p2, vs2, y2, s2, q2⟩ := r2; subst y2; cases (show v = Value.ref _ from w2); obtain ⟨its2, rv2, tp2, _⟩ := I.list s2; have tp2 := tp2.isList; exact SeqAt.EqAt.int_list _ _ tp2 hu
  | str b1 =>
    cases e with
    | opq => exact absurd hz2 (by rw [dpD_opq]; omega)
    | dct ks0 vs0 => exact absurd hz2 (by rw [dpD_dct]; omega)
    | non => unfold Rep at r1; subst r1; obtain ⟨t1, z1⟩ := w1; subst z1; unfold Rep at r2; subst r2; cases (show v = Value.none from w2); exact SeqAt.EqAt.str_none _ _
    | bl b2 => unfold Rep at r1; subst r1; obtain ⟨t1, z1⟩ := w1; subst z1; unfold Rep at r2; subst r2; cases (show v = Value.bool _ from w2); exact SeqAt.EqAt.str_bool _ _ _
    | int b2 => unfold Rep at r1; subst r1; obtain ⟨t1, z1⟩ := w1; subst z1; unfold Rep at r2; subst r2; obtain ⟨t2, z2⟩ := w2; subst z2; exact SeqAt.EqAt.str_int _ _ _ _
    | str b2 => unfold Rep at r1; subst r1; obtain ⟨t1, z1⟩ := w1; subst z1; unfold Rep at r2; subst r2; obtain ⟨t2, z2⟩ := w2; subst z2; exact SeqAt.EqAt.str_str _ _ _ _
    | tup es => unfold Rep at r1; subst r1; obtain ⟨t1, z1⟩ := w1; subst z1; unfold Rep at r2; obtain ⟨p2, vs2, y2, s2, q2⟩ := r2; subst y2; cases (show v = Value.ref _ from w2); obtain ⟨its2, rv2, tp2, _⟩ := I.tuple s2; exact SeqAt.EqAt.str_tuple _ _ tp2 hu
    | lst es => unfold Rep at r1; subst r1; obtain ⟨t1, z1⟩ := w1; subst z1; unfold Rep at r2; obtain ⟨p2, vs2, y2, s2, q2⟩ := r2; subst y2; cases (show v = Value.ref _ from w2); obtain ⟨its2, rv2, tp2, _⟩ := I.list s2; have tp2 := tp2.isList; exact SeqAt.EqAt.str_list _ _ tp2 hu
  | tup ds =>
    cases e with
    | opq => exact absurd hz2 (by rw [dpD_opq]; omega)
    | dct ks0 vs0 => exact absurd hz2 (by rw [dpD_dct]; omega)
    | non => unfold Rep at r1; obtain ⟨p1, vs1, y1, s1, q1⟩ := r1; subst y1; cases (show u = Value.ref _ from w1); obtain ⟨its1, rv1, tp1, _⟩ := I.tuple s1; unfold Rep at r2; subst r2; cases (show v = Value.none from w2); exact SeqAt.EqAt.tuple_none tp1 hu
    | bl b2 => unfold Rep at r1; obtain ⟨p1, vs1, y1, s1, q1⟩ := r1; subst y1; cases (show u = Value.ref _ from w1); obtain ⟨its1, rv1, tp1, _⟩ := I.tuple s1; unfold Rep at r2; subst r2; cases (show v = Value.bool _ from w2); exact SeqAt.EqAt.tuple_bool _ tp1 hu
    | int b2 => unfold Rep at r1; obtain ⟨p1, vs1, y1, s1, q1⟩ := r1; subst y1; cases (show u = Value.ref _ from w1); obtain ⟨its1, rv1, tp1, _⟩ := I.tuple s1; unfold Rep at r2; subst r2; obtain ⟨t2, z2⟩ := w2; subst z2; exact SeqAt.EqAt.tuple_int _ _ tp1 hu
    | str b2 => unfold Rep at r1; obtain ⟨p1, vs1, y1, s1, q1⟩ := r1; subst y1; cases (show u = Value.ref _ from w1); obtain ⟨its1, rv1, tp1, _⟩ := I.tuple s1; unfold Rep at r2; subst r2; obtain ⟨t2, z2⟩ := w2; subst z2; exact SeqAt.EqAt.tuple_str _ _ tp1 hu
    | tup es =>
      unfold Rep at r1 r2
      obtain ⟨p1, vs1, y1, _⟩ := r1
      obtain ⟨p2, vs2, y2, _⟩ := r2
      subst y1 y2
      cases (show u = Value.ref _ from w1)
      cases (show v = Value.ref _ from w2)
      by_cases h : p1 = p2
      · rw [one (by rw [h]), h]; exact SeqAt.EqAt.same _
      · exact SeqAt.EqAt.of_refs h key
    | lst es => unfold Rep at r1; obtain ⟨p1, vs1, y1, s1, q1⟩ := r1; subst y1; cases (show u = Value.ref _ from w1); obtain ⟨its1, rv1, tp1, _⟩ := I.tuple s1; unfold Rep at r2; obtain ⟨p2, vs2, y2, s2, q2⟩ := r2; subst y2; cases (show v = Value.ref _ from w2); obtain ⟨its2, rv2, tp2, _⟩ := I.list s2; have tp2 := tp2.isList; exact SeqAt.EqAt.tuple_list tp1 tp2 hu
  | lst ds =>
    cases e with
    | opq => exact absurd hz2 (by rw [dpD_opq]; omega)
    | dct ks0 vs0 => exact absurd hz2 (by rw [dpD_dct]; omega)
    | non => unfold Rep at r1; obtain ⟨p1, vs1, y1, s1, q1⟩ := r1; subst y1; cases (show u = Value.ref _ from w1); obtain ⟨its1, rv1, tp1, _⟩ := I.list s1; have tp1 := tp1.isList; unfold Rep at r2; subst r2; cases (show v = Value.none from w2); exact SeqAt.EqAt.list_none tp1 hu
    | bl b2 => unfold Rep at r1; obtain ⟨p1, vs1, y1, s1, q1⟩ := r1; subst y1; cases (show u = Value.ref _ from w1); obtain ⟨its1, rv1, tp1, _⟩ := I.list s1; have tp1 := tp1.isList; unfold Rep at r2; subst r2; cases (show v = Value.bool _ from w2); exact SeqAt.EqAt.list_bool _ tp1 hu
    | int b2 => unfold Rep at r1; obtain ⟨p1, vs1, y1, s1, q1⟩ := r1; subst y1; cases (show u = Value.ref _ from w1); obtain ⟨its1, rv1, tp1, _⟩ := I.list s1; have tp1 := tp1.isList; unfold Rep at r2; subst r2; obtain ⟨t2, z2⟩ := w2; subst z2; exact SeqAt.EqAt.list_int _ _ tp1 hu
    | str b2 => unfold Rep at r1; obtain ⟨p1, vs1, y1, s1, q1⟩ := r1; subst y1; cases (show u = Value.ref _ from w1); obtain ⟨its1, rv1, tp1, _⟩ := I.list s1; have tp1 := tp1.isList; unfold Rep at r2; subst r2; obtain ⟨t2, z2⟩ := w2; subst z2; exact SeqAt.EqAt.list_str _ _ tp1 hu
    | tup es => unfold Rep at r1; obtain ⟨p1, vs1, y1, s1, q1⟩ := r1; subst y1; cases (show u = Value.ref _ from w1); obtain ⟨its1, rv1, tp1, _⟩ := I.list s1; have tp1 := tp1.isList; unfold Rep at r2; obtain ⟨p2, vs2, y2, s2, q2⟩ := r2; subst y2; cases (show v = Value.ref _ from w2); obtain ⟨its2, rv2, tp2, _⟩ := I.tuple s2; exact SeqAt.EqAt.list_tuple tp1 tp2 hu
    | lst es =>
      unfold Rep at r1 r2
      obtain ⟨p1, vs1, y1, _⟩ := r1
      obtain ⟨p2, vs2, y2, _⟩ := r2
      subst y1 y2
      cases (show u = Value.ref _ from w1)
      cases (show v = Value.ref _ from w2)
      by_cases h : p1 = p2
      · rw [one (by rw [h]), h]; exact SeqAt.EqAt.same _
      · exact SeqAt.EqAt.of_refs h key
theorem arr_get {its : List Value} {j : Nat} (h : j < its.toArray.size) : its[j]? = some its.toArray[j] := by
  have h' : j < its.length := by simpa using h
  simp [h']
theorem item_eq {A : Around} {n : Nat} (eqn : EqN X H s n) {ds es : List D} {vs vs' : List V} {its its' : List Value} (hn : dpDs ds ≤ n) (hz1 : dpDs ds < 1000) (hz2 : dpDs es < 1000) (hA : A.in1.units + n < cLine) (q1 : Reps X.K H ds vs) (q2 : Reps X.K H es vs') (rv : Vals vs its) (rv' : Vals vs' its')
    (j : Nat) (h1 : j < its.toArray.size) (h2 : j < its'.toArray.size) : SeqAt.EqAt A.in1 s its.toArray[j] its'.toArray[j] (eqD (ds.getD j .non) (es.getD j .non)) := by
  have l1 := q1.length
  have l2 := q2.length
  have m1 := rv.length
  have m2 := rv'.length
  have k1 : j < ds.length := by rw [List.size_toArray] at h1; omega
  have k2 : j < es.length := by rw [List.size_toArray] at h2; omega
  have e1 : ds[j]? = some ds[j] := by simp [k1]
  have e2 : es[j]? = some es[j] := by simp [k2]
  obtain ⟨v, a1, a2⟩ := q1.get e1
  obtain ⟨v', b1, b2⟩ := q2.get e2
  obtain ⟨u, c1, c2⟩ := rv.get a1
  obtain ⟨u', d1, d2⟩ := rv'.get b1
  rw [arr_get h1] at c1
  rw [arr_get h2] at d1
  have g1 : ds.getD j .non = ds[j] := by simp [List.getD, k1]
  have g2 : es.getD j .non = es[j] := by simp [List.getD, k2]
  rw [g1, g2, Option.some.inj c1, Option.some.inj d1]
  exact eqn A.in1 ds[j] es[j] v v' u u' (dpDs_le hn e1) (by have z := dpDs_le (n := 999) (by omega) e1; omega) (by have z := dpDs_le (n := 999) (by omega) e2; omega) hA a2 c2 b2 d2
theorem rcS (I : Inv X pins σ H s) (n : Nat) (ih : ∀ m, m < n → EqN X H s m) : RcN X H s n := by
    intro A d e x y u v hn hz1 hz2 hA r1 w1 r2 w2
    have hu : A.units < cLine := by omega
    cases d with
    | opq => exact absurd hz1 (by rw [dpD_opq]; omega)
    | dct ks0 vs0 => exact absurd hz1 (by rw [dpD_dct]; omega)
    | non =>
      cases e with
      | opq => exact absurd hz2 (by rw [dpD_opq]; omega)
      | dct ks0 vs0 => exact absurd hz2 (by rw [dpD_dct]; omega)
      | non => unfold Rep at r1; subst r1; cases (show u = Value.none from w1); unfold Rep at r2; subst r2; cases (show v = Value.none from w2); exact SeqAt.RcAt.none_none
      | bl b2 => unfold Rep at r1; subst r1; cases (show u = Value.none from w1); unfold Rep at r2; subst r2; cases (show v = Value.bool _ from w2); exact SeqAt.RcAt.none_bool _
      | int b2 => unfold Rep at r1; subst r1; cases (show u = Value.none from w1); unfold Rep at r2; subst r2; obtain ⟨t2, z2⟩ := w2; subst z2; exact SeqAt.RcAt.none_int _ _
      | str b2 => unfold Rep at r1; subst r1; cases (show u = Value.none from w1); unfold Rep at r2; subst r2; obtain ⟨t2, z2⟩ := w2; subst z2; exact SeqAt.RcAt.none_str _ _
      | tup es => unfold Rep at r1; subst r1; cases (show u = Value.none from w1); unfold Rep at r2; obtain ⟨p2, vs2, y2, s2, q2⟩ := r2; subst y2; cases (show v = Value.ref _ from w2); obtain ⟨its2, rv2, tp2, _⟩ := I.tuple s2; exact SeqAt.RcAt.none_tuple tp2 hu
      | lst es => unfold Rep at r1; subst r1; cases (show u = Value.none from w1); unfold Rep at r2; obtain ⟨p2, vs2, y2, s2, q2⟩ := r2; subst y2; cases (show v = Value.ref _ from w2); obtain ⟨its2, rv2, tp2, _⟩ := I.list s2; have tp2 := tp2.isList; exact SeqAt.RcAt.none_list tp2 hu
    | bl b1 =>
      cases e with
      | opq => exact absurd hz2 (by rw [dpD_opq]; omega)
      | dct ks0 vs0 => exact absurd hz2 (by rw [dpD_dct]; omega)
      | non => unfold Rep at r1; subst r1; cases (show u = Value.bool _ from w1); unfold Rep at r2; subst r2; cases (show v = Value.none from w2); exact SeqAt.RcAt.bool_none _
      | bl b2 => unfold Rep at r1; subst r1; cases (show u = Value.bool _ from w1); unfold Rep at r2; subst r2; cases (show v = Value.bool _ from w2); exact SeqAt.RcAt.bool_bool _ _
      | int b2 => unfold Rep at r1; subst r1; cases (show u = Value.bool _ from w1); unfold Rep at r2; subst r2; obtain ⟨t2, z2⟩ := w2; subst z2; exact SeqAt.RcAt.bool_int _ _ _
      | str b2 => unfold Rep at r1; subst r1; cases (show u = Value.bool _ from w1); unfold Rep at r2; subst r2; obtain ⟨t2, z2⟩ := w2; subst z2; exact SeqAt.RcAt.bool_str _ _ _
      | tup es => unfold Rep at r1; subst r1; cases (show u = Value.bool _ from w1); unfold Rep at r2; obtain ⟨p2, vs2, y2, s2, q2⟩ := r2; subst y2; cases (show v = Value.ref _ from w2); obtain ⟨its2, rv2, tp2, _⟩ := I.tuple s2; exact SeqAt.RcAt.bool_tuple _ tp2 hu
      | lst es => unfold Rep at r1; subst r1; cases (show u = Value.bool _ from w1); unfold Rep at r2; obtain ⟨p2, vs2, y2, s2, q2⟩ := r2; subst y2; cases (show v = Value.ref _ from w2); obtain ⟨its2, rv2, tp2, _⟩ := I.list s2; have tp2 := tp2.isList; exact SeqAt.RcAt.bool_list _ tp2 hu
    | int b1 =>
      cases e with
      | opq => exact absurd hz2 (by rw [dpD_opq]; omega)
      | dct ks0 vs0 => exact absurd hz2 (by rw [dpD_dct]; omega)
      | non => unfold Rep at r1; subst r1; obtain ⟨t1, z1⟩ := w1; subst z1; unfold Rep at r2; subst r2; cases (show v = Value.none from w2); exact SeqAt.RcAt.int_none _ _
      | bl b2 => unfold Rep at r1; subst r1; obtain ⟨t1, z1⟩ := w1; subst z1; unfold Rep at r2; subst r2; cases (show v = Value.bool _ from w2); exact SeqAt.RcAt.int_bool _ _ _
      | int b2 => unfold Rep at r1; subst r1; obtain ⟨t1, z1⟩ := w1; subst z1; unfold Rep at r2; subst r2; obtain ⟨t2, z2⟩ := w2; subst z2; exact SeqAt.RcAt.int_int _ _ _ _
      | str b2 => unfold Rep at r1; subst r1; obtain ⟨t1, z1⟩ := w1; subst z1; unfold Rep at r2; subst r2; obtain ⟨t2, z2⟩ := w2; subst z2; exact SeqAt.RcAt.int_str _ _ _ _
      | tup es => unfold Rep at r1; subst r1; obtain ⟨t1, z1⟩ := w1; subst z1; unfold Rep at r2; obtain ⟨p2, vs2, y2, s2, q2⟩ := r2; subst y2; cases (show v = Value.ref _ from w2); obtain ⟨its2, rv2, tp2, _⟩ := I.tuple s2; exact SeqAt.RcAt.int_tuple _ _ tp2 hu
      | lst es => unfold Rep at r1; subst r1; obtain ⟨t1, z1⟩ := w1; subst z1; unfold Rep at r2; obtain ⟨p2, vs2, y2, s2, q2⟩ := r2; subst y2; cases (show v = Value.ref _ from w2); obtain ⟨its2, rv2, tp2, _⟩ := I.list s2; have tp2 := tp2.isList; exact SeqAt.RcAt.int_list _ _ tp2 hu
    | str b1 =>
      cases e with
      | opq => exact absurd hz2 (by rw [dpD_opq]; omega)
      | dct ks0 vs0 => exact absurd hz2 (by rw [dpD_dct]; omega)
      | non => unfold Rep at r1; subst r1; obtain ⟨t1, z1⟩ := w1; subst z1; unfold Rep at r2; subst r2; cases (show v = Value.none from w2); exact SeqAt.RcAt.str_none _ _
      | bl b2 => unfold Rep at r1; subst r1; obtain ⟨t1, z1⟩ := w1; subst z1; unfold Rep at r2; subst r2; cases (show v = Value.bool _ from w2); exact SeqAt.RcAt.str_bool _ _ _
      | int b2 => unfold Rep at r1; subst r1; obtain ⟨t1, z1⟩ := w1; subst z1; unfold Rep at r2; subst r2; obtain ⟨t2, z2⟩ := w2; subst z2; exact SeqAt.RcAt.str_int _ _ _ _
      | str b2 => unfold Rep at r1; subst r1; obtain ⟨t1, z1⟩ := w1; subst z1; unfold Rep at r2; subst r2; obtain ⟨t2, z2⟩ := w2; subst z2; exact SeqAt.RcAt.str_str _ _ _ _
      | tup es => unfold Rep at r1; subst r1; obtain ⟨t1, z1⟩ := w1; subst z1; unfold Rep at r2; obtain ⟨p2, vs2, y2, s2, q2⟩ := r2; subst y2; cases (show v = Value.ref _ from w2); obtain ⟨its2, rv2, tp2, _⟩ := I.tuple s2; exact SeqAt.RcAt.str_tuple _ _ tp2 hu
      | lst es => unfold Rep at r1; subst r1; obtain ⟨t1, z1⟩ := w1; subst z1; unfold Rep at r2; obtain ⟨p2, vs2, y2, s2, q2⟩ := r2; subst y2; cases (show v = Value.ref _ from w2); obtain ⟨its2, rv2, tp2, _⟩ := I.list s2; have tp2 := tp2.isList; exact SeqAt.RcAt.str_list _ _ tp2 hu
    | tup ds =>
      cases e with
      | opq => exact absurd hz2 (by rw [dpD_opq]; omega)
      | dct ks0 vs0 => exact absurd hz2 (by rw [dpD_dct]; omega)
      | non => unfold Rep at r1; obtain ⟨p1, vs1, y1, s1, q1⟩ := r1; subst y1; cases (show u = Value.ref _ from w1); obtain ⟨its1, rv1, tp1, _⟩ := I.tuple s1; unfold Rep at r2; subst r2; cases (show v = Value.none from w2); exact SeqAt.RcAt.tuple_none tp1 hu
      | bl b2 => unfold Rep at r1; obtain ⟨p1, vs1, y1, s1, q1⟩ := r1; subst y1; cases (show u = Value.ref _ from w1); obtain ⟨its1, rv1, tp1, _⟩ := I.tuple s1; unfold Rep at r2; subst r2; cases (show v = Value.bool _ from w2); exact SeqAt.RcAt.tuple_bool _ tp1 hu
      | int b2 => unfold Rep at r1; obtain ⟨p1, vs1, y1, s1, q1⟩ := r1; subst y1; cases (show u = Value.ref _ from w1); obtain ⟨its1, rv1, tp1, _⟩ := I.tuple s1; unfold Rep at r2; subst r2; obtain ⟨t2, z2⟩ := w2; subst z2; exact SeqAt.RcAt.tuple_int _ _ tp1 hu
      | str b2 => unfold Rep at r1; obtain ⟨p1, vs1, y1, s1, q1⟩ := r1; subst y1; cases (show u = Value.ref _ from w1); obtain ⟨its1, rv1, tp1, _⟩ := I.tuple s1; unfold Rep at r2; subst r2; obtain ⟨t2, z2⟩ := w2; subst z2; exact SeqAt.RcAt.tuple_str _ _ tp1 hu
      | tup es =>
          rw [dpD_tup] at hn
          unfold Rep at r1; obtain ⟨p1, vs1, y1, s1, q1⟩ := r1; subst y1; cases (show u = Value.ref _ from w1); obtain ⟨its1, rv1, tp1, _⟩ := I.tuple s1
          unfold Rep at r2; obtain ⟨p2, vs2, y2, s2, q2⟩ := r2; subst y2; cases (show v = Value.ref _ from w2); obtain ⟨its2, rv2, tp2, _⟩ := I.tuple s2
          have hi : A.in1.units + (n - 1) < cLine := by show A.units + 1 + (n - 1) < cLine; omega
          have z := SeqAt.RcAt.tuples (e := fun j => eqD (ds.getD j .non) (es.getD j .non)) tp1 tp2 hu (item_eq (A := A) (ih (n - 1) (by omega)) (by omega) (by first | (rw [dpD_tup] at hz1; omega) | (rw [dpD_lst] at hz1; omega)) (by first | (rw [dpD_tup] at hz2; omega) | (rw [dpD_lst] at hz2; omega)) hi q1 q2 rv1 rv2)
          rw [List.size_toArray, List.size_toArray, ← rv1.length, ← rv2.length, ← q1.length, ← q2.length] at z
          rw [eqD, eqDs_all]
          exact z
      | lst es => unfold Rep at r1; obtain ⟨p1, vs1, y1, s1, q1⟩ := r1; subst y1; cases (show u = Value.ref _ from w1); obtain ⟨its1, rv1, tp1, _⟩ := I.tuple s1; unfold Rep at r2; obtain ⟨p2, vs2, y2, s2, q2⟩ := r2; subst y2; cases (show v = Value.ref _ from w2); obtain ⟨its2, rv2, tp2, _⟩ := I.list s2; have tp2 := tp2.isList; exact SeqAt.RcAt.tuple_list tp1 tp2 hu
    | lst ds =>
      cases e with
      | opq => exact absurd hz2 (by rw [dpD_opq]; omega)
      | dct ks0 vs0 => exact absurd hz2 (by rw [dpD_dct]; omega)
      | non => unfold Rep at r1; obtain ⟨p1, vs1, y1, s1, q1⟩ := r1; subst y1; cases (show u = Value.ref _ from w1); obtain ⟨its1, rv1, tp1, _⟩ := I.list s1; have tp1 := tp1.isList; unfold Rep at r2; subst r2; cases (show v = Value.none from w2); exact SeqAt.RcAt.list_none tp1 hu
      | bl b2 => unfold Rep at r1; obtain ⟨p1, vs1, y1, s1, q1⟩ := r1; subst y1; cases (show u = Value.ref _ from w1); obtain ⟨its1, rv1, tp1, _⟩ := I.list s1; have tp1 := tp1.isList; unfold Rep at r2; subst r2; cases (show v = Value.bool _ from w2); exact SeqAt.RcAt.list_bool _ tp1 hu
      | int b2 => unfold Rep at r1; obtain ⟨p1, vs1, y1, s1, q1⟩ := r1; subst y1; cases (show u = Value.ref _ from w1); obtain ⟨its1, rv1, tp1, _⟩ := I.list s1; have tp1 := tp1.isList; unfold Rep at r2; subst r2; obtain ⟨t2, z2⟩ := w2; subst z2; exact SeqAt.RcAt.list_int _ _ tp1 hu
      | str b2 => unfold Rep at r1; obtain ⟨p1, vs1, y1, s1, q1⟩ := r1; subst y1; cases (show u = Value.ref _ from w1); obtain ⟨its1, rv1, tp1, _⟩ := I.list s1; have tp1 := tp1.isList; unfold Rep at r2; subst r2; obtain ⟨t2, z2⟩ := w2; subst z2; exact SeqAt.RcAt.list_str _ _ tp1 hu
      | tup es => unfold Rep at r1; obtain ⟨p1, vs1, y1, s1, q1⟩ := r1; subst y1; cases (show u = Value.ref _ from w1); obtain ⟨its1, rv1, tp1, _⟩ := I.list s1; have tp1 := tp1.isList; unfold Rep at r2; obtain ⟨p2, vs2, y2, s2, q2⟩ := r2; subst y2; cases (show v = Value.ref _ from w2); obtain ⟨its2, rv2, tp2, _⟩ := I.tuple s2; exact SeqAt.RcAt.list_tuple tp1 tp2 hu
      | lst es =>
          rw [dpD_lst] at hn
          unfold Rep at r1; obtain ⟨p1, vs1, y1, s1, q1⟩ := r1; subst y1; cases (show u = Value.ref _ from w1); obtain ⟨its1, rv1, tp1, _⟩ := I.list s1; have tp1 := tp1.isList
          unfold Rep at r2; obtain ⟨p2, vs2, y2, s2, q2⟩ := r2; subst y2; cases (show v = Value.ref _ from w2); obtain ⟨its2, rv2, tp2, _⟩ := I.list s2; have tp2 := tp2.isList
          have hi : A.in1.units + (n - 1) < cLine := by show A.units + 1 + (n - 1) < cLine; omega
          have l1 : its1.toArray.size = ds.length := by rw [List.size_toArray, ← rv1.length, ← q1.length]
          have l2 : its2.toArray.size = es.length := by rw [List.size_toArray, ← rv2.length, ← q2.length]
          rw [eqD, eqDs_all]
          by_cases hl : ds.length = es.length
          · have z := SeqAt.RcAt.lists (e := fun j => eqD (ds.getD j .non) (es.getD j .non)) tp1 tp2 (by rw [l1, l2]; exact hl) hu (item_eq (A := A) (ih (n - 1) (by omega)) (by omega) (by first | (rw [dpD_tup] at hz1; omega) | (rw [dpD_lst] at hz1; omega)) (by first | (rw [dpD_tup] at hz2; omega) | (rw [dpD_lst] at hz2; omega)) hi q1 q2 rv1 rv2)
            rw [l1] at z
            rw [show min ds.length es.length = ds.length by omega, show (ds.length == es.length) = true by simp [hl], Bool.and_true]
            exact z
          · rw [show (ds.length == es.length) = false by simp [hl], Bool.and_false]
            exact SeqAt.RcAt.lists_lengths tp1 tp2 (by rw [l1, l2]; simp [hl]) hu
theorem eqNall (I : Inv X pins σ H s) (n : Nat) : EqN X H s n := by
  induction n using Nat.strongRecOn with
  | ind n ih => exact eqN_of I (rcS I n ih)
theorem rcN (I : Inv X pins σ H s) (n : Nat) : RcN X H s n := rcS I n fun m _ => eqNall I m
def rEqD (K : PySem.W.Frag) : R2 := fun x y H Q => ∃ d e, Rep K H d x ∧ Rep K H e y ∧ dpD d ≤ 30 ∧ dpD e ≤ 30 ∧ Q (.bl (eqD d e)) H
theorem op_eqD (hu : X.A.units + 64 < cLine) : OpR X (compareOp .Eq) (rEqD X.K) := by
  intro pins s σ H x y v u Q I rx ry h
  obtain ⟨d, e, r1, r2, hd, hd2, q⟩ := h
  exact rcN I 30 X.A d e x y v u hd (by omega) (by omega) (by omega) r1 rx r2 ry X.prog X.w X.xe _ ⟨.bl _, H, I, rfl, q⟩
theorem eqOpD {K : PySem.W.Frag} : OpD K (rEqD K) dEq := fun c H0 H ρ σ x y d vx vy Q R r1 r2 e q => by
  unfold dEq at e
  split at e
  · rename_i hd
    cases e
    exact ⟨x, y, Rep.mono R.same x r1, Rep.mono R.same y r2, hd.1, hd.2, q _ H0 H (Same.refl _) R (rep_bl _ _)⟩
  · cases e
theorem cEq (hu : X.A.units + 64 < cLine) : CmpOk X .Eq dEq := ⟨_, op_eqD hu, eqOpD⟩
theorem neN (I : Inv X pins σ H s) (n : Nat) (A : Around) (d e : D) (x y : V) (u v : Value) (hn : dpD d ≤ n) (hz1 : dpD d < 1000) (hz2 : dpD e < 1000) (hA : A.units + n < cLine) (r1 : Rep X.K H d x) (w1 : RelV x u) (r2 : Rep X.K H e y) (w2 : RelV y v) : SeqAt.RcNeAt A s u v (!eqD d e) := by
    have hu : A.units < cLine := by omega
    cases d with
    | opq => exact absurd hz1 (by rw [dpD_opq]; omega)
    | dct ks0 vs0 => exact absurd hz1 (by rw [dpD_dct]; omega)
    | non =>
      cases e with
      | opq => exact absurd hz2 (by rw [dpD_opq]; omega)
      | dct ks0 vs0 => exact absurd hz2 (by rw [dpD_dct]; omega)
      | non => unfold Rep at r1; subst r1; cases (show u = Value.none from w1); unfold Rep at r2; subst r2; cases (show v = Value.none from w2); exact SeqAt.RcNeAt.none_none
      | bl b2 => unfold Rep at r1; subst r1; cases (show u = Value.none from w1); unfold Rep at r2; subst r2; cases (show v = Value.bool _ from w2); exact SeqAt.RcNeAt.none_bool _
      | int b2 => unfold Rep at r1; subst r1; cases (show u = Value.none from w1); unfold Rep at r2; subst r2; obtain ⟨t2, z2⟩ := w2; subst z2; exact SeqAt.RcNeAt.none_int _ _
      | str b2 => unfold Rep at r1; subst r1; cases (show u = Value.none from w1); unfold Rep at r2; subst r2; obtain ⟨t2, z2⟩ := w2; subst z2; exact SeqAt.RcNeAt.none_str _ _
      | tup es => unfold Rep at r1; subst r1; cases (show u = Value.none from w1); unfold Rep at r2; obtain ⟨p2, vs2, y2, s2, q2⟩ := r2; subst y2; cases (show v = Value.ref _ from w2); obtain ⟨its2, rv2, tp2, _⟩ := I.tuple s2; exact SeqAt.RcNeAt.none_tuple tp2 hu
      | lst es => unfold Rep at r1; subst r1; cases (show u = Value.none from w1); unfold Rep at r2; obtain ⟨p2, vs2, y2, s2, q2⟩ := r2; subst y2; cases (show v = Value.ref _ from w2); obtain ⟨its2, rv2, tp2, _⟩ := I.list s2; have tp2 := tp2.isList; exact SeqAt.RcNeAt.none_list tp2 hu
    | bl b1 =>
      cases e with
      | opq => exact absurd hz2 (by rw [dpD_opq]; omega)
      | dct ks0 vs0 => exact absurd hz2 (by rw [dpD_dct]; omega)
      | non => unfold Rep at r1; subst r1; cases (show u = Value.bool _ from w1); unfold Rep at r2; subst r2; cases (show v = Value.none from w2); exact SeqAt.RcNeAt.bool_none _
      | bl b2 => unfold Rep at r1; subst r1; cases (show u = Value.bool _ from w1); unfold Rep at r2; subst r2; cases (show v = Value.bool _ from w2); exact SeqAt.RcNeAt.bool_bool _ _
      | int b2 => unfold Rep at r1; subst r1; cases (show u = Value.bool _ from w1); unfold Rep at r2; subst r2; obtain ⟨t2, z2⟩ := w2; subst z2; exact SeqAt.RcNeAt.bool_int _ _ _
      | str b2 => unfold Rep at r1; subst r1; cases (show u = Value.bool _ from w1); unfold Rep at r2; subst r2; obtain ⟨t2, z2⟩ := w2; subst z2; exact SeqAt.RcNeAt.bool_str _ _ _
      | tup es => unfold Rep at r1; subst r1; cases (show u = Value.bool _ from w1); unfold Rep at r2; obtain ⟨p2, vs2, y2, s2, q2⟩ := r2; subst y2; cases (show v = Value.ref _ from w2); obtain ⟨its2, rv2, tp2, _⟩ := I.tuple s2; exact SeqAt.RcNeAt.bool_tuple _ tp2 hu
      | lst es => unfold Rep at r1; subst r1; cases (show u = Value.bool _ from w1); unfold Rep at r2; obtain ⟨p2, vs2, y2, s2, q2⟩ := r2; subst y2; cases (show v = Value.ref _ from w2); obtain ⟨its2, rv2, tp2, _⟩ := I.list s2; have tp2 := tp2.isList; exact SeqAt.RcNeAt.bool_list _ tp2 hu
    | int b1 =>
      cases e with
      | opq => exact absurd hz2 (by rw [dpD_opq]; omega)
      | dct ks0 vs0 => exact absurd hz2 (by rw [dpD_dct]; omega)
      | non => unfold Rep at r1; subst r1; obtain ⟨t1, z1⟩ := w1; subst z1; unfold Rep at r2; subst r2; cases (show v = Value.none from w2); exact SeqAt.RcNeAt.int_none _ _
      | bl b2 => unfold Rep at r1; subst r1; obtain ⟨t1, z1⟩ := w1; subst z1; unfold Rep at r2; subst r2; cases (show v = Value.bool _ from w2); exact SeqAt.RcNeAt.int_bool _ _ _
      | int b2 => unfold Rep at r1; subst r1; obtain ⟨t1, z1⟩ := w1; subst z1; unfold Rep at r2; subst r2; obtain ⟨t2, z2⟩ := w2; subst z2; exact SeqAt.RcNeAt.int_int _ _ _ _
      | str b2 => unfold Rep at r1; subst r1; obtain ⟨t1, z1⟩ := w1; subst z1; unfold Rep at r2; subst r2; obtain ⟨t2, z2⟩ := w2; subst z2; exact SeqAt.RcNeAt.int_str _ _ _ _
      | tup es => unfold Rep at r1; subst r1; obtain ⟨t1, z1⟩ := w1; subst z1; unfold Rep at r2; obtain ⟨p2, vs2, y2, s2, q2⟩ := r2; subst y2; cases (show v = Value.ref _ from w2); obtain ⟨its2, rv2, tp2, _⟩ := I.tuple s2; exact SeqAt.RcNeAt.int_tuple _ _ tp2 hu
      | lst es => unfold Rep at r1; subst r1; obtain ⟨t1, z1⟩ := w1; subst z1; unfold Rep at r2; obtain ⟨p2, vs2, y2, s2, q2⟩ := r2; subst y2; cases (show v = Value.ref _ from w2); obtain ⟨its2, rv2, tp2, _⟩ := I.list s2; have tp2 := tp2.isList; exact SeqAt.RcNeAt.int_list _ _ tp2 hu
    | str b1 =>
      cases e with
      | opq => exact absurd hz2 (by rw [dpD_opq]; omega)
      | dct ks0 vs0 => exact absurd hz2 (by rw [dpD_dct]; omega)
      | non => unfold Rep at r1; subst r1; obtain ⟨t1, z1⟩ := w1; subst z1; unfold Rep at r2; subst r2; cases (show v = Value.none from w2); exact SeqAt.RcNeAt.str_none _ _
      | bl b2 => unfold Rep at r1; subst r1; obtain ⟨t1, z1⟩ := w1; subst z1; unfold Rep at r2; subst r2; cases (show v = Value.bool _ from w2); exact SeqAt.RcNeAt.str_bool _ _ _
      | int b2 => unfold Rep at r1; subst r1; obtain ⟨t1, z1⟩ := w1; subst z1; unfold Rep at r2; subst r2; obtain ⟨t2, z2⟩ := w2; subst z2; exact SeqAt.RcNeAt.str_int _ _ _ _
      | str b2 => unfold Rep at r1; subst r1; obtain ⟨t1, z1⟩ := w1; subst z1; unfold Rep at r2; subst r2; obtain ⟨t2, z2⟩ := w2; subst z2; exact SeqAt.RcNeAt.str_str _ _ _ _
      | tup es => unfold Rep at r1; subst r1; obtain ⟨t1, z1⟩ := w1; subst z1; unfold Rep at r2; obtain ⟨p2, vs2, y2, s2, q2⟩ := r2; subst y2; cases (show v = Value.ref _ from w2); obtain ⟨its2, rv2, tp2, _⟩ := I.tuple s2; exact SeqAt.RcNeAt.str_tuple _ _ tp2 hu
      | lst es => unfold Rep at r1; subst r1; obtain ⟨t1, z1⟩ := w1; subst z1; unfold Rep at r2; obtain ⟨p2, vs2, y2, s2, q2⟩ := r2; subst y2; cases (show v = Value.ref _ from w2); obtain ⟨its2, rv2, tp2, _⟩ := I.list s2; have tp2 := tp2.isList; exact SeqAt.RcNeAt.str_list _ _ tp2 hu
    | tup ds =>
      cases e with
      | opq => exact absurd hz2 (by rw [dpD_opq]; omega)
      | dct ks0 vs0 => exact absurd hz2 (by rw [dpD_dct]; omega)
      | non => unfold Rep at r1; obtain ⟨p1, vs1, y1, s1, q1⟩ := r1; subst y1; cases (show u = Value.ref _ from w1); obtain ⟨its1, rv1, tp1, _⟩ := I.tuple s1; unfold Rep at r2; subst r2; cases (show v = Value.none from w2); exact SeqAt.RcNeAt.tuple_none tp1 hu
      | bl b2 => unfold Rep at r1; obtain ⟨p1, vs1, y1, s1, q1⟩ := r1; subst y1; cases (show u = Value.ref _ from w1); obtain ⟨its1, rv1, tp1, _⟩ := I.tuple s1; unfold Rep at r2; subst r2; cases (show v = Value.bool _ from w2); exact SeqAt.RcNeAt.tuple_bool _ tp1 hu
      | int b2 => unfold Rep at r1; obtain ⟨p1, vs1, y1, s1, q1⟩ := r1; subst y1; cases (show u = Value.ref _ from w1); obtain ⟨its1, rv1, tp1, _⟩ := I.tuple s1; unfold Rep at r2; subst r2; obtain ⟨t2, z2⟩ := w2; subst z2; exact SeqAt.RcNeAt.tuple_int _ _ tp1 hu
      | str b2 => unfold Rep at r1; obtain ⟨p1, vs1, y1, s1, q1⟩ := r1; subst y1; cases (show u = Value.ref _ from w1); obtain ⟨its1, rv1, tp1, _⟩ := I.tuple s1; unfold Rep at r2; subst r2; obtain ⟨t2, z2⟩ := w2; subst z2; exact SeqAt.RcNeAt.tuple_str _ _ tp1 hu
      | tup es =>
          rw [dpD_tup] at hn
          unfold Rep at r1; obtain ⟨p1, vs1, y1, s1, q1⟩ := r1; subst y1; cases (show u = Value.ref _ from w1); obtain ⟨its1, rv1, tp1, _⟩ := I.tuple s1
          unfold Rep at r2; obtain ⟨p2, vs2, y2, s2, q2⟩ := r2; subst y2; cases (show v = Value.ref _ from w2); obtain ⟨its2, rv2, tp2, _⟩ := I.tuple s2
          have hi : A.in1.units + (n - 1) < cLine := by show A.units + 1 + (n - 1) < cLine; omega
          have z := SeqAt.RcNeAt.tuples (e := fun j => eqD (ds.getD j .non) (es.getD j .non)) tp1 tp2 hu (item_eq (A := A) (eqNall I (n - 1)) (by omega) (by first | (rw [dpD_tup] at hz1; omega) | (rw [dpD_lst] at hz1; omega)) (by first | (rw [dpD_tup] at hz2; omega) | (rw [dpD_lst] at hz2; omega)) hi q1 q2 rv1 rv2)
          rw [List.size_toArray, List.size_toArray, ← rv1.length, ← rv2.length, ← q1.length, ← q2.length] at z
          rw [eqD, eqDs_all]
          exact z
      | lst es => unfold Rep at r1; obtain ⟨p1, vs1, y1, s1, q1⟩ := r1; subst y1; cases (show u = Value.ref _ from w1); obtain ⟨its1, rv1, tp1, _⟩ := I.tuple s1; unfold Rep at r2; obtain ⟨p2, vs2, y2, s2, q2⟩ := r2; subst y2; cases (show v = Value.ref _ from w2); obtain ⟨its2, rv2, tp2, _⟩ := I.list s2; have tp2 := tp2.isList; exact SeqAt.RcNeAt.tuple_list tp1 tp2 hu
    | lst ds =>
      cases e with
      | opq => exact absurd hz2 (by rw [dpD_opq]; omega)
      | dct ks0 vs0 => exact absurd hz2 (by rw [dpD_dct]; omega)
      | non => unfold Rep at r1; obtain ⟨p1, vs1, y1, s1, q1⟩ := r1; subst y1; cases (show u = Value.ref _ from w1); obtain ⟨its1, rv1, tp1, _⟩ := I.list s1; have tp1 := tp1.isList; unfold Rep at r2; subst r2; cases (show v = Value.none from w2); exact SeqAt.RcNeAt.list_none tp1 hu
      | bl b2 => unfold Rep at r1; obtain ⟨p1, vs1, y1, s1, q1⟩ := r1; subst y1; cases (show u = Value.ref _ from w1); obtain ⟨its1, rv1, tp1, _⟩ := I.list s1; have tp1 := tp1.isList; unfold Rep at r2; subst r2; cases (show v = Value.bool _ from w2); exact SeqAt.RcNeAt.list_bool _ tp1 hu
      | int b2 => unfold Rep at r1; obtain ⟨p1, vs1, y1, s1, q1⟩ := r1; subst y1; cases (show u = Value.ref _ from w1); obtain ⟨its1, rv1, tp1, _⟩ := I.list s1; have tp1 := tp1.isList; unfold Rep at r2; subst r2; obtain ⟨t2, z2⟩ := w2; subst z2; exact SeqAt.RcNeAt.list_int _ _ tp1 hu
      | str b2 => unfold Rep at r1; obtain ⟨p1, vs1, y1, s1, q1⟩ := r1; subst y1; cases (show u = Value.ref _ from w1); obtain ⟨its1, rv1, tp1, _⟩ := I.list s1; have tp1 := tp1.isList; unfold Rep at r2; subst r2; obtain ⟨t2, z2⟩ := w2; subst z2; exact SeqAt.RcNeAt.list_str _ _ tp1 hu
      | tup es => unfold Rep at r1; obtain ⟨p1, vs1, y1, s1, q1⟩ := r1; subst y1; cases (show u = Value.ref _ from w1); obtain ⟨its1, rv1, tp1, _⟩ := I.list s1; have tp1 := tp1.isList; unfold Rep at r2; obtain ⟨p2, vs2, y2, s2, q2⟩ := r2; subst y2; cases (show v = Value.ref _ from w2); obtain ⟨its2, rv2, tp2, _⟩ := I.tuple s2; exact SeqAt.RcNeAt.list_tuple tp1 tp2 hu
      | lst es =>
          rw [dpD_lst] at hn
          unfold Rep at r1; obtain ⟨p1, vs1, y1, s1, q1⟩ := r1; subst y1; cases (show u = Value.ref _ from w1); obtain ⟨its1, rv1, tp1, _⟩ := I.list s1; have tp1 := tp1.isList
          unfold Rep at r2; obtain ⟨p2, vs2, y2, s2, q2⟩ := r2; subst y2; cases (show v = Value.ref _ from w2); obtain ⟨its2, rv2, tp2, _⟩ := I.list s2; have tp2 := tp2.isList
          have hi : A.in1.units + (n - 1) < cLine := by show A.units + 1 + (n - 1) < cLine; omega
          have l1 : its1.toArray.size = ds.length := by rw [List.size_toArray, ← rv1.length, ← q1.length]
          have l2 : its2.toArray.size = es.length := by rw [List.size_toArray, ← rv2.length, ← q2.length]
          rw [eqD, eqDs_all]
          by_cases hl : ds.length = es.length
          · have z := SeqAt.RcNeAt.lists (e := fun j => eqD (ds.getD j .non) (es.getD j .non)) tp1 tp2 (by rw [l1, l2]; exact hl) hu (item_eq (A := A) (eqNall I (n - 1)) (by omega) (by first | (rw [dpD_tup] at hz1; omega) | (rw [dpD_lst] at hz1; omega)) (by first | (rw [dpD_tup] at hz2; omega) | (rw [dpD_lst] at hz2; omega)) hi q1 q2 rv1 rv2)
            rw [l1] at z
            rw [show min ds.length es.length = ds.length by omega, show (ds.length == es.length) = true by simp [hl], Bool.and_true]
            exact z
          · rw [show (ds.length == es.length) = false by simp [hl], Bool.and_false]
            exact SeqAt.RcNeAt.lists_lengths tp1 tp2 (by rw [l1, l2]; simp [hl]) hu
def rNeD (K : PySem.W.Frag) : R2 := fun x y H Q => ∃ d e, Rep K H d x ∧ Rep K H e y ∧ dpD d ≤ 30 ∧ dpD e ≤ 30 ∧ Q (.bl (!eqD d e)) H
theorem op_neD (hu : X.A.units + 64 < cLine) : OpR X (compareOp .NotEq) (rNeD X.K) := by
  intro pins s σ H x y v u Q I rx ry h
  obtain ⟨d, e, r1, r2, hd, hd2, q⟩ := h
  exact neN I 30 X.A d e x y v u hd (by omega) (by omega) (by omega) r1 rx r2 ry X.prog X.w X.xe _ ⟨.bl _, H, I, rfl, q⟩
theorem neOpD {K : PySem.W.Frag} : OpD K (rNeD K) dNe := fun c H0 H ρ σ x y d vx vy Q R r1 r2 e q => by
  unfold dNe at e
  split at e
  · rename_i hd
    cases e
    exact ⟨x, y, Rep.mono R.same x r1, Rep.mono R.same y r2, hd.1, hd.2, q _ H0 H (Same.refl _) R (rep_bl _ _)⟩
  · cases e
theorem cNe (hu : X.A.units + 64 < cLine) : CmpOk X .NotEq dNe := ⟨_, op_neD hu, neOpD⟩
end
end Fx
set_option maxRecDepth 100000
namespace Fx
open PySem PySem.Spec PyProof.Rows L2
section
variable {X : Cx}
def BOk (X : Cx) (f : Value) (g : List D → Option D) : Prop := ∃ r, CallR X f r ∧ ∀ (c : FC) (H0 H : Hp) (ρ : En) (σ : L2.St) (ds : List D) (d : D) (vs : List V) (Q : VK), RS X.K c H0 H ρ σ → Reps X.K H0 ds vs → g ds = some d → Aft X.K c H0 ρ σ d Q → r vs H Q
theorem eF_of {g : List D → Option D} {A : FA} {r : List V → Hp → VK → Prop} (o : ∀ (c : FC) (H0 H : Hp) (ρ : En) (σ : L2.St) (ds : List D) (d : D) (vs : List V) (Q : VK), RS X.K c H0 H ρ σ → Reps X.K H0 ds vs → g ds = some d → Aft X.K c H0 ρ σ d Q → r vs H Q)
    {σ : L2.St} {H : Hp} {Q : VK} (h : tE X.K (eF g A) σ H Q) : tCB r (tAa X.K A) σ H Q := by
  obtain ⟨c, H0, ρ, d, ρ', R, f, q⟩ := h
  unfold eF at f
  obtain ⟨⟨ds, ρ1⟩, h1, f⟩ := bnd_eq f
  obtain ⟨d', h2, f⟩ := bnd_eq f
  have f' : some (d', ρ1) = some (d, ρ') := f
  cases f'
  exact ⟨c, H0, ρ, ds, _, R, h1, fun vs H1 Hh s1 R1 r1 => o c H1 Hh _ σ ds d vs Q R1 r1 h2 fun v H2 Hh2 s2 R2 r2 => q v H2 Hh2 (s1.trans s2) R2 r2⟩
theorem xB {id : String} {g : List D → Option D} {A : FA} {x : Str} {p pos : Pos} {e : Expr} {es : List Expr} (o : BOk X (.builtin id) g) (hg : Gl X x) (hm : X.mg x = none) (hv : bootBuiltins x = some (.builtin id)) (ha : XA X (e :: es) A) (hn : x ≠ "__name__" := by decide) (hdb : (x == ("__debug__" : Str)) = false := by decide)
    (he : starEach (e :: es) X.env = (false, eval e X.env) :: starEach es X.env := by rfl) (hpl : (backTo pos (starEach es X.env)).any (·.1) = false := by rfl) : XE X (.Call (.Name x p) (e :: es) [] pos) (eF g A) := by
  obtain ⟨r, h1, h2⟩ := o
  exact PE.wk (pe_callB h1 hg hm hv ha hn hdb he hpl) fun σ H Q h => eF_of h2 h
theorem Reps.v1 {K : PySem.W.Frag} {H : Hp} {d : D} {vs : List V} (h : Reps K H [d] vs) : ∃ v, vs = [v] ∧ Rep K H d v := by
  unfold Reps at h
  obtain ⟨v, r, e, a, b⟩ := h
  unfold Reps at b
  exact ⟨v, by rw [e, b], a⟩
theorem Reps.v2 {K : PySem.W.Frag} {H : Hp} {d d' : D} {vs : List V} (h : Reps K H [d, d'] vs) : ∃ v v', vs = [v, v'] ∧ Rep K H d v ∧ Rep K H d' v' := by
  unfold Reps at h
  obtain ⟨v, r, e, a, b⟩ := h
  obtain ⟨v', e', b'⟩ := Reps.v1 b
  exact ⟨v, v', by rw [e, e'], a, b'⟩
theorem bAbs_inv {ds : List D} {d : D} (h : bAbs ds = some d) : ∃ i, ds = [.int i] ∧ d = .int (if i < 0 then -i else i) := by
  unfold bAbs at h
  split at h
  · cases h; exact ⟨_, rfl, rfl⟩
  · cases h
theorem callAbs : BOk X (.builtin "abs") bAbs := ⟨_, call_abs, fun c H0 H ρ σ ds d vs Q R r e q => by
  obtain ⟨i, rfl, rfl⟩ := bAbs_inv e
  obtain ⟨v, rfl, rv⟩ := Reps.v1 r
  unfold Rep at rv; subst rv
  exact ⟨i, rfl, q _ H0 H (Same.refl _) R (rep_int _ _)⟩⟩
theorem ints_rep {K : PySem.W.Frag} {H : Hp} : ∀ {ds : List D} {is : List Int} {vs : List V}, intsOf ds = some is → Reps K H ds vs → vs = is.map V.int
  | [], _, _, e, r => by
    have e' : ([] : List Int) = _ := Option.some.inj e
    unfold Reps at r; rw [r, ← e']; rfl
  | d :: ds, _, _, e, r => by
    cases d with
    | int i =>
      rw [intsOf_cons] at e
      obtain ⟨is, e1, e2⟩ := bnd_eq e
      cases e2
      unfold Reps at r
      obtain ⟨v, r', rfl, a, t⟩ := r
      unfold Rep at a
      rw [a, ints_rep e1 t]; rfl
    | _ => cases e
theorem intsAre_of : ∀ {is : List Int} {us : List Value}, Vals (is.map V.int) us → IntsAre us is := by
  intro is
  induction is with
  | nil => intro us h; cases h; exact .nil
  | cons b r ih =>
    intro us h
    cases h with
    | cons a t => obtain ⟨tk, rfl⟩ := (show ∃ t, _ = Value.int b t from a); exact .cons b tk (ih t)
theorem minI_spec : ∀ (r : List Int) (m : Int), (minI m r = m ∨ minI m r ∈ r) ∧ minI m r ≤ m ∧ ∀ a ∈ r, minI m r ≤ a
  | [], m => ⟨.inl rfl, Int.le_refl _, fun a h => by cases h⟩
  | x :: r, m => by
    obtain ⟨h1, h2, h3⟩ := minI_spec r (if x < m then x else m)
    rw [show minI m (x :: r) = minI (if x < m then x else m) r from rfl]
    by_cases h : x < m
    · rw [if_pos h] at h1 h2 h3 ⊢
      refine ⟨.inr ?_, by omega, fun a ha => ?_⟩
      · rcases h1 with e | e
        · rw [e]; exact List.mem_cons_self
        · exact List.mem_cons_of_mem _ e
      · rcases List.mem_cons.mp ha with rfl | ha
        · exact h2
        · exact h3 a ha
    · rw [if_neg h] at h1 h2 h3 ⊢
      refine ⟨?_, h2, fun a ha => ?_⟩
      · rcases h1 with e | e
        · exact .inl e
        · exact .inr (List.mem_cons_of_mem _ e)
      · rcases List.mem_cons.mp ha with rfl | ha
        · omega
        · exact h3 a ha
theorem maxI_spec : ∀ (r : List Int) (m : Int), (maxI m r = m ∨ maxI m r ∈ r) ∧ m ≤ maxI m r ∧ ∀ a ∈ r, a ≤ maxI m r
  | [], m => ⟨.inl rfl, Int.le_refl _, fun a h => by cases h⟩
  | x :: r, m => by
    obtain ⟨h1, h2, h3⟩ := maxI_spec r (if m < x then x else m)
    rw [show maxI m (x :: r) = maxI (if m < x then x else m) r from rfl]
    by_cases h : m < x
    · rw [if_pos h] at h1 h2 h3 ⊢
      refine ⟨.inr ?_, by omega, fun a ha => ?_⟩
      · rcases h1 with e | e
        · rw [e]; exact List.mem_cons_self
        · exact List.mem_cons_of_mem _ e
      · rcases List.mem_cons.mp ha with rfl | ha
        · exact h2
        · exact h3 a ha
    · rw [if_neg h] at h1 h2 h3 ⊢
      refine ⟨?_, h2, fun a ha => ?_⟩
      · rcases h1 with e | e
        · exact .inl e
        · exact .inr (List.mem_cons_of_mem _ e)
      · rcases List.mem_cons.mp ha with rfl | ha
        · omega
        · exact h3 a ha
theorem minI_uniq {i M : Int} {r : List Int} (h : M ∈ i :: r) (h' : ∀ a ∈ i :: r, M ≤ a) : M = minI i r := by
  obtain ⟨h1, h2, h3⟩ := minI_spec r i
  have a1 : minI i r ≤ M := by
    rcases List.mem_cons.mp h with rfl | h
    · exact h2
    · exact h3 _ h
  have a2 : M ≤ minI i r := by
    rcases h1 with e | e
    · rw [e]; exact h' _ List.mem_cons_self
    · exact h' _ (List.mem_cons_of_mem _ e)
  omega
theorem maxI_uniq {i M : Int} {r : List Int} (h : M ∈ i :: r) (h' : ∀ a ∈ i :: r, a ≤ M) : M = maxI i r := by
  obtain ⟨h1, h2, h3⟩ := maxI_spec r i
  have a1 : M ≤ maxI i r := by
    rcases List.mem_cons.mp h with rfl | h
    · exact h2
    · exact h3 _ h
  have a2 : maxI i r ≤ M := by
    rcases h1 with e | e
    · rw [e]; exact h' _ List.mem_cons_self
    · exact h' _ (List.mem_cons_of_mem _ e)
  omega
theorem call_minL (hc : X.calm = true) : CallR X (.builtin "min") (fun xs H Q => ∃ (p : Addr) (i : Int) (r : List Int), xs = [.ref p] ∧ SqL X.K H p ((i :: r).map V.int) ∧ Q (.int (minI i r)) H) := by
  intro pins s σ H xs us Q I r h
  obtain ⟨l, i, is, rfl, hl, q⟩ := h
  obtain ⟨u, rfl, ru⟩ := vals1 r
  cases ru
  obtain ⟨its, rv, pl, hz⟩ := I.list hl
  have hi := intsAre_of rv
  have hL := pl.isList
  obtain ⟨ys, e⟩ := hi.allInts.items
  have hns : i :: is = ys.toList.map (·.1) := by rw [← hi.numsOf, ← nums_intItems, ← e]
  have hsz : 0 < ys.size := by
    have h3 : 0 < (i :: is).length := Nat.succ_pos _
    rw [hns, List.length_map, Array.length_toList] at h3; exact h3
  rw [e] at hL
  refine min_intList (I.ok.hd hc) hL hsz fun v h' tk hv hk => ?_
  obtain ⟨t, rfl⟩ := intItems_at hv
  obtain ⟨h1, h2⟩ := argBest_lt (numAt ys) (ys.size - 1)
  refine ⟨_, H, I.kept hk, ?_, q⟩
  have : numAt ys (argBest (fun i j => decide (numAt ys i < numAt ys j)) (ys.size - 1)) = minI i is := minI_uniq (by rw [hns, numAt_eq]; exact getD_mem (by rw [List.length_map, Array.length_toList]; omega)) fun a ha => by
    rw [hns] at ha
    obtain ⟨j, hj, rfl⟩ := mem_getD ha
    rw [List.length_map, Array.length_toList] at hj
    rw [← numAt_eq]; exact h2 j (by omega)
  rw [this]
  exact ⟨_, rfl⟩
theorem call_maxL (hc : X.calm = true) : CallR X (.builtin "max") (fun xs H Q => ∃ (p : Addr) (i : Int) (r : List Int), xs = [.ref p] ∧ SqL X.K H p ((i :: r).map V.int) ∧ Q (.int (maxI i r)) H) := by
  intro pins s σ H xs us Q I r h
  obtain ⟨l, i, is, rfl, hl, q⟩ := h
  obtain ⟨u, rfl, ru⟩ := vals1 r
  cases ru
  obtain ⟨its, rv, pl, hz⟩ := I.list hl
  have hi := intsAre_of rv
  have hL := pl.isList
  obtain ⟨ys, e⟩ := hi.allInts.items
  have hns : i :: is = ys.toList.map (·.1) := by rw [← hi.numsOf, ← nums_intItems, ← e]
  have hsz : 0 < ys.size := by
    have h3 : 0 < (i :: is).length := Nat.succ_pos _
    rw [hns, List.length_map, Array.length_toList] at h3; exact h3
  rw [e] at hL
  refine max_intList (I.ok.hd hc) hL hsz fun v h' tk hv hk => ?_
  obtain ⟨t, rfl⟩ := intItems_at hv
  obtain ⟨h1, h2⟩ := argBest_gt (numAt ys) (ys.size - 1)
  refine ⟨_, H, I.kept hk, ?_, q⟩
  have : numAt ys (argBest (fun i j => decide (numAt ys i > numAt ys j)) (ys.size - 1)) = maxI i is := maxI_uniq (by rw [hns, numAt_eq]; exact getD_mem (by rw [List.length_map, Array.length_toList]; omega)) fun a ha => by
    rw [hns] at ha
    obtain ⟨j, hj, rfl⟩ := mem_getD ha
    rw [List.length_map, Array.length_toList] at hj
    rw [← numAt_eq]; exact h2 j (by omega)
  rw [this]
  exact ⟨_, rfl⟩
theorem CallR.or {X : Cx} {f : Value} {r r' : List V → Hp → VK → Prop} (h : CallR X f r) (h' : CallR X f r') : CallR X f (fun xs H Q => r xs H Q ∨ r' xs H Q) :=
  fun pins s σ H xs us Q I v z => z.elim (fun a => h pins s σ H xs us Q I v a) (fun a => h' pins s σ H xs us Q I v a)
theorem bestI_inv {f : Int → List Int → Int} {is : List Int} {d : D} (h : bestI f is = some d) : ∃ i r, is = i :: r ∧ d = .int (f i r) := by
  cases is with
  | nil => cases h
  | cons i r => cases h; exact ⟨i, r, rfl, rfl⟩
theorem callMax (hc : X.calm = true) : BOk X (.builtin "max") bMax := ⟨_, (call_max2 hc).or (call_maxL hc), fun c H0 H ρ σ ds d vs Q R r e q => by
  unfold bMax at e
  split at e
  · cases e
    obtain ⟨v, v', rfl, r1, r2⟩ := Reps.v2 r
    unfold Rep at r1 r2; subst r1 r2
    exact .inl ⟨_, _, rfl, q _ H0 H (Same.refl _) R (rep_int _ _)⟩
  · obtain ⟨is, e1, e2⟩ := bnd_eq e
    obtain ⟨i, is, rfl, rfl⟩ := bestI_inv e2
    obtain ⟨v, rfl, rv⟩ := Reps.v1 r
    unfold Rep at rv
    obtain ⟨p, ws, rfl, s, t⟩ := rv
    have := ints_rep e1 t
    subst this
    exact .inr ⟨p, i, is, rfl, Same.seq R.same s, q _ H0 H (Same.refl _) R (rep_int _ _)⟩
  · cases e⟩
theorem callMin (hc : X.calm = true) : BOk X (.builtin "min") bMin := ⟨_, (call_min2 hc).or (call_minL hc), fun c H0 H ρ σ ds d vs Q R r e q => by
  unfold bMin at e
  split at e
  · cases e
    obtain ⟨v, v', rfl, r1, r2⟩ := Reps.v2 r
    unfold Rep at r1 r2; subst r1 r2
    exact .inl ⟨_, _, rfl, q _ H0 H (Same.refl _) R (rep_int _ _)⟩
  · obtain ⟨is, e1, e2⟩ := bnd_eq e
    obtain ⟨i, is, rfl, rfl⟩ := bestI_inv e2
    obtain ⟨v, rfl, rv⟩ := Reps.v1 r
    unfold Rep at rv
    obtain ⟨p, ws, rfl, s, t⟩ := rv
    have := ints_rep e1 t
    subst this
    exact .inr ⟨p, i, is, rfl, Same.seq R.same s, q _ H0 H (Same.refl _) R (rep_int _ _)⟩
  · cases e⟩
theorem bools_rep {K : PySem.W.Frag} {H : Hp} : ∀ {ds : List D} {bs : List Bool} {vs : List V}, bools ds = some bs → Reps K H ds vs → vs = bs.map V.bl
  | [], _, _, e, r => by
    have e' : ([] : List Bool) = _ := Option.some.inj e
    unfold Reps at r; rw [r, ← e']; rfl
  | d :: ds, _, _, e, r => by
    cases d with
    | bl b =>
      rw [bools_cons] at e
      obtain ⟨bs, e1, e2⟩ := bnd_eq e
      cases e2
      unfold Reps at r
      obtain ⟨v, r', rfl, a, t⟩ := r
      unfold Rep at a
      rw [a, bools_rep e1 t]; rfl
    | _ => cases e
theorem boolsAre_of : ∀ {bs : List Bool} {us : List Value}, Vals (bs.map V.bl) us → LSm.BoolsAre us bs := by
  intro bs
  induction bs with
  | nil => intro us h; cases h; exact .nil
  | cons b r ih =>
    intro us h
    cases h with
    | cons a t => cases (show _ = Value.bool b from a); exact .cons b (ih t)
theorem call_allD (hc : X.calm = true) : CallR X (.builtin "all") (fun xs H Q => ∃ (p : Addr) (bs : List Bool), xs = [.ref p] ∧ SqL X.K H p (bs.map V.bl) ∧ Q (.bl (bs.all id)) H) := by
  intro pins s σ H xs us Q I r h
  obtain ⟨l, bs, rfl, hl, q⟩ := h
  obtain ⟨u, rfl, ru⟩ := vals1 r
  cases ru
  obtain ⟨its, rv, pl, hz⟩ := I.list hl
  have hb := boolsAre_of rv
  have hl := pl.isList
  have hlt : l < s.heap.objs.size := by obtain ⟨_, e, _⟩ := hl; exact Heap.lt_size e
  refine call_all_walk (wpAny_pyIter_list hl ?_)
  refine ⟨s.heap.objs.size, [s.heap.objs.size, l], [s.heap.objs.size], its.toArray.size, _, _, fun i => (bs[i]?).getD true, rfl, Walks.list (A := X.A.in1) (I.ok.hd hc) _ l (Nat.ne_of_lt hlt) its.toArray,
    ⟨⟨_, Heap.get?_push_size _ rfl, rfl, rfl⟩, hl.push _⟩, fun i v s' Q' E' hP hQ => ?_, fun h' tk hk => ?_⟩
  · obtain ⟨b, e, rfl⟩ := hb.get i v (by simpa using hP)
    simp only [e, Option.getD_some] at hQ
    exact wpAny_truthy_bool hQ
  · have e : ((List.range its.toArray.size).all fun i => (bs[i]?).getD true) = bs.all id := by
      rw [List.size_toArray, hb.length]; exact LSm.range_all bs
    rw [e]
    exact ⟨.bl _, H, I.kept (t' := tk) (LSm.kept_iter hk), rfl, q⟩
theorem callAll (hc : X.calm = true) : BOk X (.builtin "all") bAll := ⟨_, call_allD hc, fun c H0 H ρ σ ds d vs Q R r e q => by
  unfold bAll at e
  split at e
  · obtain ⟨bs, e1, e2⟩ := bnd_eq e
    cases e2
    obtain ⟨v, rfl, rv⟩ := Reps.v1 r
    unfold Rep at rv
    obtain ⟨p, ws, rfl, s, t⟩ := rv
    have := bools_rep e1 t
    subst this
    exact ⟨p, bs, rfl, Same.seq R.same s, q _ H0 H (Same.refl _) R (rep_bl _ _)⟩
  · cases e⟩
def tyN : Ty → String
  | .int => "int" | .bool => "bool" | .str => "str" | .tuple => "tuple" | .list => "list"
def tyV (d : D) : Value := match d with
  | .non => .type "NoneType" | .bl _ => .type "bool" | .int _ => .type "int" | .str _ => .type "str" | .tup _ => .type "tuple" | .lst _ => .type "list" | .opq => .type "dict" | .dct _ _ => .type "dict"
theorem kit_eq (K : PySem.W.Frag) (t : Ty) (d : D) : PySem.W.kitOne K (tyV d) (.type (tyN t)) = some (isTy t d) := by
  cases t <;> cases d <;> rfl
theorem call_isi (t : Ty) : CallR X (.builtin "isinstance") (fun xs H Q => ∃ d x, xs = [x, .ty (tyN t)] ∧ Rep X.K H d x ∧ Q (.bl (isTy t d)) H) := by
  intro pins s σ H xs us Q I r h
  obtain ⟨d, x, rfl, rx, q⟩ := h
  obtain ⟨u, w, rfl, ru, rw'⟩ := vals2 r
  cases (show w = Value.type _ from rw')
  have k := kit_eq X.K t d
  have fin : ∀ tk, EP X pins σ Q (.bool (isTy t d)) { s with toks := tk } := fun tk => ⟨.bl _, H, I.tok tk, rfl, q⟩
  cases d with
  | non => unfold Rep at rx; subst rx; cases (show u = Value.none from ru); exact PySem.W.kia_one PySem.W.kitx_none I.kIn True.intro k (fun z => nomatch z) fin
  | bl y => unfold Rep at rx; subst rx; cases (show u = Value.bool y from ru); exact PySem.W.kia_one PySem.W.kitx_bool I.kIn True.intro k (fun z => nomatch z) fin
  | int i => unfold Rep at rx; subst rx; obtain ⟨t, z⟩ := (show ∃ t, u = Value.int i t from ru); cases z; exact PySem.W.kia_one PySem.W.kitx_int I.kIn True.intro k (fun z => nomatch z) fin
  | str y => unfold Rep at rx; subst rx; obtain ⟨t, z⟩ := (show ∃ t, u = Value.str y t from ru); cases z; exact PySem.W.kia_one PySem.W.kitx_str I.kIn True.intro k (fun z => nomatch z) fin
  | tup ds =>
    unfold Rep at rx
    obtain ⟨a, vs, rfl, s1, _⟩ := rx
    cases (show u = Value.ref a from ru)
    obtain ⟨_, _, ⟨o, h1, h2, _⟩, _⟩ := I.tuple s1
    exact PySem.W.kia_one PySem.W.kitx_tuple I.kIn ⟨o, h1, h2⟩ k (fun z => nomatch z) fin
  | dct ks ds =>
    unfold Rep at rx
    obtain ⟨a, ob, us, rfl, ea, _⟩ := rx
    cases (show u = Value.ref a from ru)
    obtain ⟨_, _, _, vs, _, pp⟩ := (show ObjOk X.prog X.w H s.heap a (.frz ob (.dK _)) from I.hok a _ ea)
    obtain ⟨o, es, ep, h1, h2, _⟩ := pp
    exact PySem.W.kia_one PySem.W.kitx_dict I.kIn ⟨o, h1, h2.1⟩ k (fun z => nomatch z) fin
  | opq =>
    unfold Rep at rx
    obtain ⟨a, kvs, rfl, ea⟩ := rx
    cases (show u = Value.ref a from ru)
    obtain ⟨_, _, vs, _, pp⟩ := (show ObjOk X.prog X.w H s.heap a (.dK kvs) from I.hok a _ ea)
    obtain ⟨o, es, ep, h1, h2, _⟩ := pp
    exact PySem.W.kia_one PySem.W.kitx_dict I.kIn ⟨o, h1, h2.1⟩ k (fun z => nomatch z) fin
  | lst ds =>
    unfold Rep at rx
    obtain ⟨a, vs, rfl, s1, _⟩ := rx
    cases (show u = Value.ref a from ru)
    obtain ⟨_, _, ⟨o, n, h1, h2, _⟩, _⟩ := I.list s1
    exact PySem.W.kia_one PySem.W.kitx_list I.kIn ⟨o, h1, h2⟩ k (fun z => nomatch z) fin
theorem xty {t : Ty} {T : Str} {p p' pos : Pos} {e : Expr} {F : FE} (hi : X.mg "isinstance" = none) (hm : X.mg T = none) (hT : bootBuiltins T = some (.type (tyN t))) (ha : XE X e F) (hg : Gl X "isinstance" := by rfl) (hg' : Gl X T := by rfl)
    (hn : T ≠ "__name__" := by decide) (hd : (T == ("__debug__" : Str)) = false := by decide) (hs : starEach [e, .Name T p'] X.env = (false, eval e X.env) :: starEach [.Name T p'] X.env := by rfl) (hs' : starEach [.Name T p'] X.env = [(false, eval (.Name T p') X.env)] := by rfl)
    (hpl : (backTo pos (starEach [.Name T p'] X.env)).any (·.1) = false := by rfl) : XE X (.Call (.Name "isinstance" p) [e, .Name T p'] [] pos) (eTy t F) :=
  PE.wk (pe_callB (call_isi t) hg hi PyProof.Rows.boot_isinstance (pa_cons ha (pa_cons (pe_bltn (v := .ty (tyN t)) hg' hm hT rfl hn hd) pa_nil hs') hs) (by decide) (by decide) hs hpl) fun σ H Q ⟨c, H0, ρ, d, ρ', R, f, q⟩ => by
    unfold eTy at f
    obtain ⟨⟨x, ρ1⟩, h1, f⟩ := bnd_eq f
    have f' : some (D.bl (isTy t x), ρ1) = some (d, ρ') := f
    cases f'
    exact ⟨c, H0, ρ, x, _, R, h1, fun v H1 Hh s1 R1 r1 => ⟨x, v, rfl, Rep.mono R1.same x r1, q _ H1 Hh s1 R1 (rep_bl _ _)⟩⟩
def spP (K : PySem.W.Frag) (g : List D → Option D) : Sp := fun vs H Q _ => ∃ Hi ds d, Same Hi H ∧ Reps K Hi ds vs ∧ g ds = some d ∧ ∀ v Hi' H', Step Hi H Hi' H' → Rep K Hi' d v → Q v H'
structure DefOk (P : Program) (w : World) (K : PySem.W.Frag) (mg : Str → Option Value) (base : Heap) (k : Nat) (x : Str) (g : List D → Option D) : Prop where
  ex : ∃ f fd ps, FnOk P w K mg base CX0 k f fd ps (spP K g) ∧ Binds K fd ps [] ∧ PySem.W.keepIn K (.ref f) = true ∧ mg x = some (.ref f)
theorem xF {k : Nat} {x : Str} {g : List D → Option D} {A : FA} {p pos : Pos} {e : Expr} {es : List Expr} (G : DefOk X.prog X.w X.K X.mg X.base k x g) (hr : Room k X.A) (ha : XA X (e :: es) A) (hg : Gl X x := by rfl) (hdb : (x == ("__debug__" : Str)) = false := by decide)
    (he : starEach (e :: es) X.env = (false, eval e X.env) :: starEach es X.env := by rfl) (hpl : (backTo pos (starEach es X.env)).any (·.1) = false := by rfl) : XE X (.Call (.Name x p) (e :: es) [] pos) (eF g A) := by
  obtain ⟨f, fd, ps, F, hb, hk, hm⟩ := G.ex
  refine PE.wk (pe_call F hr hg hm hk hb .nil pass0 ha hdb he hpl) fun σ H Q ⟨c, H0, ρ, d, ρ', R, z, q⟩ => ?_
  unfold eF at z
  obtain ⟨⟨ds, ρ1⟩, h1, z⟩ := bnd_eq z
  obtain ⟨d', h2, z⟩ := bnd_eq z
  have z' : some (d', ρ1) = some (d, ρ') := z
  cases z'
  exact ⟨c, H0, ρ, ds, _, R, h1, fun vs H1 Hh s1 R1 r1 => ⟨H1, ds, d, R1.same, by rw [List.append_nil]; exact r1, h2, fun v Hi' H' S rv => q v Hi' H' (s1.trans S.s0) (R1.after S) rv⟩⟩
end
end Fx
set_option maxRecDepth 100000
namespace Fx
open PySem PySem.Spec PyProof.Rows L2
def Yields (K : PySem.W.Frag) (J : It) (H1 : Hp) (xs : List D) : Prop := ∀ (H0 H : Hp) (i : Nat), Same H1 H0 → Same H0 H →
  (∀ d, xs[i]? = some d → J.go i H ∧ ∀ x H', J.yld i H x H' → H' = H ∧ Rep K H0 d x) ∧ (xs.length ≤ i → J.stop i H)
theorem yields_list {K : PySem.W.Frag} {H1 : Hp} {a : Addr} {vs : List V} {xs : List D} (rd : SqL K H1 a vs) (r : Reps K H1 xs vs) : Yields K (Itl K a) H1 xs := fun H0 H i s s' => by
  have sq : SqL K H a vs := Same.seq (s.trans s') rd
  refine ⟨fun d e => ?_, fun h => ⟨vs, sq, by rw [← r.length]; exact h⟩⟩
  obtain ⟨v, e1, e2⟩ := r.get e
  refine ⟨⟨vs, v, sq, e1⟩, fun x H' ⟨h1, h2⟩ => ⟨h1, ?_⟩⟩
  have := h2 vs sq
  rw [e1] at this; cases this
  exact Rep.mono s d e2
theorem yields_tup {K : PySem.W.Frag} {H1 : Hp} {a : Addr} {vs : List V} {xs : List D} (rd : SqT K H1 a vs) (r : Reps K H1 xs vs) : Yields K (Itt K a) H1 xs := fun H0 H i s s' => by
  have sq : SqT K H a vs := Same.seqT (s.trans s') rd
  refine ⟨fun d e => ?_, fun h => ⟨vs, sq, by rw [← r.length]; exact h⟩⟩
  obtain ⟨v, e1, e2⟩ := r.get e
  refine ⟨⟨vs, v, sq, e1⟩, fun x H' ⟨h1, h2⟩ => ⟨h1, ?_⟩⟩
  have := h2 vs sq
  rw [e1] at this; cases this
  exact Rep.mono s d e2
theorem rngD_length : ∀ (n : Nat) (lo : Int), (rngD lo n).length = n
  | 0, _ => rfl
  | n + 1, lo => by show (rngD (lo + 1) n).length + 1 = n + 1; rw [rngD_length n]
theorem rngD_get : ∀ (n : Nat) (lo : Int) (i : Nat) (d : D), (rngD lo n)[i]? = some d → d = .int (lo + i) ∧ i < n
  | 0, lo, i, d, h => by simp [rngD] at h
  | n + 1, lo, 0, d, h => by
    simp [rngD] at h
    exact ⟨by rw [← h]; simp, by omega⟩
  | n + 1, lo, i + 1, d, h => by
    have h' : (rngD (lo + 1) n)[i]? = some d := by simpa [rngD] using h
    obtain ⟨a, b⟩ := rngD_get n (lo + 1) i d h'
    refine ⟨by rw [a]; congr 1; push_cast; omega, by omega⟩
theorem yields_rng {K : PySem.W.Frag} {H1 : Hp} (lo : Int) (n : Nat) : Yields K (Itr lo n) H1 (rngD lo n) := fun H0 H i s s' => by
  refine ⟨fun d e => ?_, fun h => by rw [rngD_length] at h; exact h⟩
  obtain ⟨rfl, hi⟩ := rngD_get n lo i d e
  refine ⟨hi, fun x H' ⟨h1, h2⟩ => ⟨h1, ?_⟩⟩
  unfold Rep; exact h2
def Its (z : Str) : It := ⟨fun i _ => i < z.cps.size, fun i H x H' => H' = H ∧ ∃ c, z.cps[i]? = some c ∧ x = .str (chS c), fun i _ => z.cps.size ≤ i⟩
theorem turn_str {P : Program} {w : World} {K : PySem.W.Frag} {tg : Expr} {n : String} (z : Str) (t : Tok) (it : Addr) (hn : ["enumerate", "zip", "dict_itemiterator", "dict_reverseitemiterator", "odict_iterator", "itertools.zip_longest", "itertools.pairwise"].contains n = false)
    (W : ∀ A : Around, A.handled = none → Walks P w A it [it] [it] z.cps.size (SignAt z) (fun i h => h.IsStrIter it n z t i)) (fin : ∀ (A : Around) (s : Shared) (i : Nat) (Q : Option Value → Shared → Prop) (E : Value → Shared → Prop), A.handled = none → s.heap.IsStrIter it n z t i → z.cps[i]? = none → (∀ h', Heap.ExtBut it s.heap h' → Q none { s with heap := h' }) → wpAny (model P w) A (pyNext (.ref it)) Q E s)
    (slf : ∀ (A : Around) (i : Nat) (s : Shared) (Q : Value → Shared → Prop) (E : Value → Shared → Prop), s.heap.IsStrIter it n z t i → Q (.ref it) s → wpAny (model P w) A (pyIter (.ref it)) Q E s) :
    Turn P w K tg (Its z) [it] it (fun i h => h.IsStrIter it n z t i) where
  mem := by simp
  obj := fun i h st b hb => by
    have e : b = it := by simpa using hb
    subst e
    obtain ⟨o, e, c, d⟩ := st
    exact ⟨o, e, fun v z => by rw [d] at z; cases z⟩
  keep := fun i h h' st k => let ⟨o, e, r⟩ := st; ⟨o, k it (by simp) o e, r⟩
  item := by
    intro X hP hw hK hc i pins s σ H E I hf st hg
    subst hP hw hK
    obtain ⟨f0, f1, f2, f3, f4, f5⟩ := hf it (by simp)
    refine (W X.A (I.ok.hd hc)).item i s _ _ hg st fun v h' tk hv st' kk => ?_
    obtain ⟨ch, u, e1, rfl⟩ := hv
    have I1 : Inv X pins σ H { s with heap := h', toks := tk } := I.turned (fun b o hb e => kk b o (by simpa using hb) e) f0 f1 f3 f4 f5
    obtain ⟨o, e, c, d⟩ := id st'
    exact ⟨_, rfl, go_of (s := { s with heap := h', toks := tk }) e c d hn ⟨.str (chS ch), H, I1, ⟨u, rfl⟩, ⟨rfl, ch, e1, rfl⟩, st', fun b hb => (hf b hb).1⟩⟩
  done := by
    intro X hP hw hK hc i pins s σ H E I hf st hg
    subst hP hw hK
    obtain ⟨f0, f1, f2, f3, f4, f5⟩ := hf it (by simp)
    have hg : z.cps.size ≤ i := hg
    exact fin X.A s i _ _ (I.ok.hd hc) st (by simp [hg]) fun h' eb => ⟨rfl, I.turned (t' := s.toks) (fun b o hb e => eb b o hb e) f0 f1 f3 f4 f5⟩
  self := fun A i s Q E st h => slf A i s Q E st h
def iStr (t : TE) : TI := fun σ H R => t σ H fun x H1 => ∃ z, x = .str z ∧ R (Its z) H1
def iSq (K : PySem.W.Frag) (t : TE) : TI := fun σ H R => iList K t σ H R ∨ iTup K t σ H R ∨ iStr t σ H R
theorem pi_str {X : Cx} {tg l : Expr} {tl : TE} (hl : PE X l tl) : PI X tg l (iStr tl) := by
  intro pins s σ H R I h
  refine thn (hl pins s σ H _ I h) fun v s1 ⟨x, H1, I1, r1, q1⟩ => ?_
  obtain ⟨z, e, q⟩ := q1
  subst e
  obtain ⟨t, rfl⟩ := r1
  have fp : ∀ (o : Obj), ∀ b ∈ [s1.heap.objs.size], FpOk X pins H1 b := fun o b hb => by
    have e : b = s1.heap.objs.size := by simpa using hb
    subst e
    exact I1.fpOk (Nat.le_refl _) (I1.hok.fresh (Nat.le_refl _))
  cases ha : z.cps.all (· < 128)
  · refine wpAny_pyIter_wide ha ?_
    exact ⟨s1.heap.objs.size, [s1.heap.objs.size], _, _, H1, rfl, I1.kept (t' := s1.toks) fun b o e => Heap.get?_push_of_some _ e, turn_str (n := "str_iterator") z t _ (by decide) (fun A hA => Walks.strWide hA _ z t) (fun A s i Q E hA st hx hQ => wpAny_pyNext_wide_end hA st hx hQ) (fun _ _ _ _ _ st h => wpAny_pyIter_striter_wide st h), ⟨_, Heap.get?_push_size _ rfl, rfl, rfl⟩, fp { cls := .none, data := .fields #[] }, q⟩
  · refine wpAny_pyIter_ascii ha ?_
    exact ⟨s1.heap.objs.size, [s1.heap.objs.size], _, _, H1, rfl, I1.kept (t' := s1.toks) fun b o e => Heap.get?_push_of_some _ e, turn_str (n := "str_ascii_iterator") z t _ (by decide) (fun A hA => Walks.strAscii hA _ z t) (fun A s i Q E hA st hx hQ => wpAny_pyNext_ascii_end hA st hx hQ) (fun _ _ _ _ _ st h => wpAny_pyIter_striter_ascii st h), ⟨_, Heap.get?_push_size _ rfl, rfl, rfl⟩, fp { cls := .none, data := .fields #[] }, q⟩
theorem yields_str {K : PySem.W.Frag} {H1 : Hp} (z : Str) : Yields K (Its z) H1 (chs z) := fun H0 H i s s' => by
  have hl : (chs z).length = z.cps.size := by unfold chs; rw [List.length_map, Array.length_toList]
  refine ⟨fun d e => ?_, fun h => by rw [hl] at h; exact h⟩
  have hi : i < z.cps.size := by rw [← hl]; exact (List.getElem?_eq_some_iff.mp e).1
  refine ⟨hi, fun x H' ⟨h1, ch, h2, h3⟩ => ⟨h1, ?_⟩⟩
  unfold chs at e
  rw [List.getElem?_map, Array.getElem?_toList, h2] at e
  have e' : D.str (chS ch) = d := Option.some.inj e
  subst e'
  unfold Rep; exact h3
theorem pi_sq {X : Cx} {tg l : Expr} {tl : TE} (hl : PE X l tl) : PI X tg l (iSq X.K tl) := fun pins s σ H R I h => by
  rcases h with h | h | h
  · exact pi_list hl pins s σ H R I h
  · exact pi_tup hl pins s σ H R I h
  · exact pi_str hl pins s σ H R I h
theorem walk_of_data {K : PySem.W.Frag} {F : FE} {σ : L2.St} {H : Hp} {R : It → Hp → Prop} {c : FC} {H0 : Hp} {ρ ρ' : En} {d : D} {xs : List D} (rs : RS K c H0 H ρ σ) (f : F ρ = some (d, ρ')) (hx : items d = some xs)
    (h : ∀ J H1 Hh, Same H0 H1 → RS K c H1 Hh ρ' σ → Yields K J H1 xs → R J Hh) : iSq K (tE K F) σ H R := by
  cases d with
  | lst ds =>
    have e : ds = xs := Option.some.inj hx
    subst e
    refine .inl ⟨c, H0, ρ, _, ρ', rs, f, fun v H1 Hh s1 R1 r1 => ?_⟩
    unfold Rep at r1
    obtain ⟨a, vs, rfl, rd, r⟩ := r1
    exact ⟨a, rfl, ⟨vs, Same.seq R1.same rd⟩, h _ H1 Hh s1 R1 (yields_list rd r)⟩
  | tup ds =>
    have e : ds = xs := Option.some.inj hx
    subst e
    refine .inr (.inl ⟨c, H0, ρ, _, ρ', rs, f, fun v H1 Hh s1 R1 r1 => ?_⟩)
    unfold Rep at r1
    obtain ⟨a, vs, rfl, rd, r⟩ := r1
    exact ⟨a, rfl, ⟨vs, Same.seqT R1.same rd⟩, h _ H1 Hh s1 R1 (yields_tup rd r)⟩
  | str z =>
    have e : chs z = xs := Option.some.inj hx
    subst e
    refine .inr (.inr ⟨c, H0, ρ, _, ρ', rs, f, fun v H1 Hh s1 R1 r1 => ?_⟩)
    unfold Rep at r1
    exact ⟨z, r1, h _ H1 Hh s1 R1 (yields_str z)⟩
  | _ => cases hx
theorem imAt_get {ρ : En} : ∀ {js : List Nat} {fr : En}, imAt ρ js = some fr → fr.length = js.length ∧ ∀ (k : Nat) (s : Sl), fr[k]? = some s → ∃ j d, js[k]? = some j ∧ ρ[j]? = some (.im d) ∧ s = .im d
  | [], _, h => by
    have h' : ([] : En) = _ := Option.some.inj h
    subst h'
    exact ⟨rfl, fun k s e => by simp at e⟩
  | j :: js, _, h => by
    rw [imAt_cons] at h
    obtain ⟨s, h1, h⟩ := bnd_eq h
    obtain ⟨r, h2, h⟩ := bnd_eq h
    cases h
    obtain ⟨a, b⟩ := imAt_get h2
    refine ⟨by rw [List.length_cons, List.length_cons, a], fun k s' e => ?_⟩
    cases k with
    | zero =>
      simp at e; subst e
      cases z : ρ[j]? with
      | none => rw [z] at h1; cases h1
      | some sl =>
        rw [z] at h1
        cases sl with
        | im d => exact ⟨j, d, rfl, z, (Option.some.inj h1).symm⟩
        | _ => cases h1
    | succ k =>
      obtain ⟨j', d, x1, x2, x3⟩ := b k s' (by simpa using e)
      exact ⟨j', d, by simpa using x1, x2, x3⟩
theorem RS.block {K : PySem.W.Frag} {c : FC} {H0 H : Hp} {ρ : En} {σ : L2.St} {js : List Nat} {fr : En} {d : D} {x : V} (R : RS K c H0 H ρ σ) (hf : imAt ρ js = some fr) (rx : Rep K H0 d x) : RS K ⟨H0, H, []⟩ H0 H (.im d :: fr) (some x :: frv σ js) := by
  obtain ⟨l, g⟩ := imAt_get hf
  refine ⟨R.same, Same.refl _, fun b o e => .inl e, fun b o e _ => e, fun a h => (by cases h), ?_, fun i d' e => ?_, fun i b o e => ?_, fun i j b b' o o' a e => ?_⟩
  · rw [List.length_cons, List.length_cons, l, frv, List.length_map]
  · cases i with
    | zero => simp at e; subst e; exact ⟨x, rfl, rx⟩
    | succ k =>
      obtain ⟨j, d2, x1, x2, x3⟩ := g k _ (by simpa using e)
      cases x3
      obtain ⟨v, y1, y2⟩ := R.im j d' x2
      refine ⟨v, ?_, y2⟩
      show (frv σ js)[k]? = some (some v)
      unfold frv
      rw [List.getElem?_map, x1]
      show some (σ[j]?).join = some (some v)
      rw [y1]; rfl
  · cases i with
    | zero => simp at e
    | succ k =>
      obtain ⟨j, d2, _, _, x3⟩ := g k _ (by simpa using e)
      cases x3
  · cases i with
    | zero => simp at e
    | succ k =>
      obtain ⟨j, d2, _, _, x3⟩ := g k _ (by simpa using e)
      cases x3
theorem RS.step {K : PySem.W.Frag} {Hi He H0 H : Hp} {ρ : En} {σ : L2.St} (R : RS K ⟨Hi, He, []⟩ H0 H ρ σ) : Step Hi He H0 H :=
  ⟨R.init, fun b o e => R.keep b o e (by simp), R.same, R.fresh⟩
theorem drop_of {α : Type} {xs : List α} {i : Nat} {d : α} (h : xs[i]? = some d) : xs.drop i = d :: xs.drop (i + 1) := by
  obtain ⟨hi, e⟩ := List.getElem?_eq_some_iff.mp h
  rw [← e]; exact List.drop_eq_getElem_cons hi
theorem lc_of {K : PySem.W.Frag} {c : FC} {H1 Hh : Hp} {ρ : En} {σ : L2.St} {js : List Nat} {fr : En} {T : FT} {F : FE} {xs out : List D} {J : It} {Qf : List V → Hp → Prop} (R : RS K c H1 Hh ρ σ) (hf : imAt ρ js = some fr) (hc : cGo T F fr xs = some out) (hz : xs.length ≤ sizeLine) (hy : Yields K J H1 xs)
    (q : ∀ ys H0 H, Same H1 H0 → RS K c H0 H ρ σ → Reps K H0 out ys → Qf ys H) : LcW js (tTt K T) (tE K F) σ Qf J Hh := by
  refine ⟨fun i m ys H => m = xs.length - i ∧ i ≤ xs.length ∧ ∃ H0, Same H1 H0 ∧ RS K c H0 H ρ σ ∧ ∃ pre rest, Reps K H0 pre ys ∧ pre.length ≤ i ∧ cGo T F fr (xs.drop i) = some rest ∧ pre ++ rest = out, ⟨xs.length, by simp, Nat.zero_le _, H1, Same.refl _, R, [], out, Reps.nil_, Nat.zero_le _, by simpa using hc, rfl⟩, ?_⟩
  rintro i m ys H ⟨rfl, hi, H0, s0, R0, pre, rest, rp, lp, hg, e⟩
  obtain ⟨y1, y2⟩ := hy H0 H i s0 R0.same
  by_cases hlt : i < xs.length
  · have hd : xs[i]? = some xs[i] := by simp [hlt]
    obtain ⟨go, yl⟩ := y1 _ hd
    refine .inr ⟨go, by rw [← rp.length]; omega, fun x H' hx => ?_⟩
    obtain ⟨rfl, rx⟩ := yl x H' hx
    rw [drop_of hd, cGo_cons] at hg
    obtain ⟨⟨b, ρb⟩, g1, hg⟩ := bnd_eq hg
    dsimp only at hg
    refine ⟨⟨H0, H', []⟩, H0, _, b, ρb, R0.block hf rx, g1, fun H2 Hh2 s2 R2 => ?_⟩
    cases b with
    | false =>
      rw [if_neg Bool.false_ne_true] at hg ⊢
      have S := R2.step
      exact ⟨xs.length - (i + 1), by omega, rfl, hlt, H2, s0.trans S.s0, R0.after S, pre, rest, Reps.mono S.s0 _ rp, by omega, hg, e⟩
    | true =>
      rw [if_pos rfl] at hg ⊢
      obtain ⟨⟨z, ρz⟩, g2, hg⟩ := bnd_eq hg
      obtain ⟨t, g3, hg⟩ := bnd_eq hg
      dsimp only at hg
      have hg' : some (z :: t) = some rest := hg
      cases hg'
      refine ⟨⟨H0, H', []⟩, H2, ρb, z, ρz, R2, g2, fun v H3 Hh3 s3 R3 r3 => ?_⟩
      have S := R3.step
      refine ⟨xs.length - (i + 1), by omega, rfl, hlt, H3, s0.trans S.s0, R0.after S, pre ++ [z], t, (Reps.mono S.s0 _ rp).app (Reps.one r3), ?_, g3, ?_⟩
      · rw [List.length_append, List.length_singleton]; omega
      · rw [List.append_assoc]; exact e
  · have ei : i = xs.length := by omega
    have hn : xs.drop i = [] := List.drop_eq_nil_of_le (by omega)
    rw [hn, cGo_nil] at hg
    have hg' : ([] : List D) = rest := Option.some.inj hg
    subst hg'
    rw [List.append_nil] at e
    subst e
    exact .inl ⟨y2 (by omega), by rw [← rp.length]; omega, q ys H0 H s0 R0 rp⟩
def XTs (X : Cx) (ifs : List Expr) (T : FT) : Prop := PTs X ifs (tTt X.K T)
theorem PTs.wk {X : Cx} {e : List Expr} {t t' : TT} (h : PTs X e t) (w : ∀ σ H Q, t' σ H Q → t σ H Q) : PTs X e t' := fun pins s σ H Q I q => h pins s σ H Q I (w σ H Q q)
theorem xts_nil {X : Cx} : XTs X [] Fx.tYes := PTs.wk pts_nil fun σ H Q ⟨c, H0, ρ, b, ρ', R, f, q⟩ => by
  have f' : some (true, ρ) = some (b, ρ') := f
  cases f'
  exact q H0 H (Same.refl _) R
theorem xts_one {X : Cx} {c : Expr} {T : FT} (h : XT X c T) : XTs X [c] T := pts_one h
section
variable {X : Cx} {scope sc : Scope} {x : Str} {frees : List Str} {js : List Nat} {px pos : Pos} {elt iter : Expr} {ifs : List Expr} {I F : FE} {T : FT}
theorem eLC_inv {ρ ρ' : En} {d : D} (h : eLC js I T F ρ = some (d, ρ')) : ∃ z xs fr ys, I ρ = some (z, ρ') ∧ items z = some xs ∧ imAt ρ' js = some fr ∧ cGo T F fr xs = some ys ∧ xs.length ≤ sizeLine ∧ d = .lst ys := by
  unfold eLC at h
  obtain ⟨⟨z, ρ1⟩, h1, h⟩ := bnd_eq h
  obtain ⟨xs, h2, h⟩ := bnd_eq h
  obtain ⟨fr, h3, h⟩ := bnd_eq h
  obtain ⟨ys, h4, h⟩ := bnd_eq h
  dsimp only at h2 h3 h4 h
  split at h
  · rename_i hz
    cases h
    exact ⟨z, xs, fr, ys, h1, h2, h3, h4, hz, rfl⟩
  · cases h
theorem xlc (hc : X.calm = true) (hsc : X.env.scope = sc) (B : ScB X.N sc scope x frees js) (hi : XE X iter I) (ht : ∀ s H C fp, XTs (cxB X (x :: frees) scope s H C fp) ifs T) (he : ∀ s H C fp, XE (cxB X (x :: frees) scope s H C fp) elt F)
    (hs : ∀ v, foldedSetIterable iter X.env v = pure v := by intro _; rfl) : XE X (.ListComp elt [⟨.Name x px, iter, ifs, 0⟩] scope pos) (eLC js I T F) :=
  PE.wk (pe_lc (tt := tTt X.K T) (te := tE X.K F) hc hsc B (pi_sq hi) ht he hs) fun σ H Q ⟨c, H0, ρ, d, ρ', R, f, q⟩ => by
    obtain ⟨z, xs, fr, ys, h1, h2, h3, h4, hz, rfl⟩ := eLC_inv f
    refine walk_of_data R h1 h2 fun J H1 Hh s1 R1 hy => ?_
    refine lc_of R1 h3 h4 hz hy fun vs H2 Hh2 s2 R2 r2 => fun p hp => ?_
    have S := Step.alloc (o := .lst vs) R2.same hp
    refine q _ _ _ (s1.trans (s2.trans S.s0)) (R2.after S) ?_
    unfold Rep
    exact ⟨p, vs, rfl, .inl (.inl upd_same), Reps.mono S.s0 _ r2⟩
end
def Post (K : PySem.W.Frag) (c : FC) (Dn : Ends) (H0 : Hp) : Res → Prop
  | .nx ρ' => ∀ σ' H0' H', Same H0 H0' → RS K c H0' H' ρ' σ' → Dn.nx σ' H'
  | .rt d ρ' => ∀ v σ' H0' H', Same H0 H0' → RS K c H0' H' ρ' σ' → Rep K H0' d v → Dn.rt v H'
  | .bk ρ' => ∀ σ' H0' H', Same H0 H0' → RS K c H0' H' ρ' σ' → Dn.bk σ' H'
  | .ct ρ' => ∀ σ' H0' H', Same H0 H0' → RS K c H0' H' ρ' σ' → Dn.ct σ' H'
def tS (K : PySem.W.Frag) (F : FS) : TS := fun Dn σ H => ∃ c H0 ρ r, RS K c H0 H ρ σ ∧ F ρ = some r ∧ Post K c Dn H0 r
def XS (X : Cx) (st : Stmt) (F : FS) : Prop := PS X st (tS X.K F)
def XSs (X : Cx) (sts : List Stmt) (F : FS) : Prop := PSs X sts (tS X.K F)
theorem Post.mono {K : PySem.W.Frag} {c : FC} {Dn : Ends} {H0 H1 : Hp} (s : Same H0 H1) : ∀ {r : Res}, Post K c Dn H0 r → Post K c Dn H1 r
  | .nx _, h => fun σ' H0' H' z => h σ' H0' H' (s.trans z)
  | .rt _ _, h => fun v σ' H0' H' z => h v σ' H0' H' (s.trans z)
  | .bk _, h => fun σ' H0' H' z => h σ' H0' H' (s.trans z)
  | .ct _, h => fun σ' H0' H' z => h σ' H0' H' (s.trans z)
theorem RS.set {K : PySem.W.Frag} {c : FC} {H0 H : Hp} {ρ : En} {σ : L2.St} {d : D} {v : V} (R : RS K c H0 H ρ σ) (i : Nat) (r : Rep K H0 d v) : RS K c H0 H (ρ.set i (.im d)) (σ.set i (some v)) := by
  have hl := R.len
  have other : ∀ (j : Nat) (sl : Sl), j ≠ i → (ρ.set i (.im d))[j]? = some sl → ρ[j]? = some sl := fun j sl hj e => by rwa [List.getElem?_set_ne (Ne.symm hj)] at e
  have otherS : ∀ (j : Nat), j ≠ i → (σ.set i (some v))[j]? = σ[j]? := fun j hj => List.getElem?_set_ne (Ne.symm hj)
  have same : ∀ (sl : Sl), (ρ.set i (.im d))[i]? = some sl → sl = .im d ∧ i < ρ.length := fun sl e => by
    by_cases hi : i < ρ.length
    · rw [List.getElem?_set_self hi] at e; exact ⟨(Option.some.inj e).symm, hi⟩
    · rw [List.getElem?_eq_none (by rw [List.length_set]; omega)] at e; cases e
  refine ⟨R.same, R.init, R.fresh, R.keep, R.apt, by rw [List.length_set, List.length_set, hl], fun j d' e => ?_, fun j bb o e => ?_, fun j k b1 b2 o o' a e1 e2 e3 e4 => ?_⟩
  · by_cases hj : j = i
    · subst hj
      obtain ⟨e', hi⟩ := same _ e
      cases e'
      exact ⟨v, by rw [List.getElem?_set_self (by omega)], r⟩
    · rw [otherS j hj]; exact R.im j d' (other j _ hj e)
  · by_cases hj : j = i
    · subst hj; obtain ⟨e', _⟩ := same _ e; cases e'
    · rw [otherS j hj]; exact R.ow j bb o (other j _ hj e)
  · by_cases hj : j = i
    · subst hj; obtain ⟨e', _⟩ := same _ e1; cases e'
    · by_cases hk : k = i
      · subst hk; obtain ⟨e', _⟩ := same _ e2; cases e'
      · rw [otherS j hj] at e3; rw [otherS k hk] at e4
        exact R.ne j k b1 b2 o o' a (other j _ hj e1) (other k _ hk e2) e3 e4
section
variable {X : Cx} {pos : Pos} {e : Expr} {F : FE} {T : FT} {A B : FS}
theorem xsN : XSs X [] sN := PSs.wk pss_nil fun Dn σ H ⟨c, H0, ρ, r, R, f, q⟩ => by
  have f' : some (Res.nx ρ) = some r := f
  cases f'
  exact q σ H0 H (Same.refl _) R
theorem xs1 {st : Stmt} (h : XS X st A) : XSs X [st] A := pss_one h
theorem xsC {st : Stmt} {rest : List Stmt} (h1 : XS X st A) (h2 : XSs X rest B) : XSs X (st :: rest) (sSeq A B) := PSs.wk (pss_cons h1 h2) fun Dn σ H ⟨c, H0, ρ, r, R, f, q⟩ => by
  unfold sSeq at f
  obtain ⟨z, h, f⟩ := bnd_eq f
  refine ⟨c, H0, ρ, z, R, h, ?_⟩
  cases z with
  | nx ρ1 => exact fun σ' H0' H' s R' => ⟨c, H0', ρ1, r, R', f, q.mono s⟩
  | rt d ρ1 => have f' : some (Res.rt d ρ1) = some r := f; cases f'; exact q
  | bk ρ1 => have f' : some (Res.bk ρ1) = some r := f; cases f'; exact q
  | ct ρ1 => have f' : some (Res.ct ρ1) = some r := f; cases f'; exact q
theorem xset (i : Nat) {x : Str} {pos' : Pos} (hN : X.N.Nodup) (he : XE X e F) (hi : X.N[i]? = some x := by rfl) (hx : Loc X.env.scope x := by first | exact Or.inl rfl | exact Or.inr rfl) (hs : swapsWith e (some (.Name x pos')) pos.line X.env = pure false := by rfl)
    (hf : X.fn x = true ∨ X.env.scope.names.lookup x = some .local := by first | exact .inl rfl | exact .inr rfl) : XS X (.Assign [.Name x pos'] e pos) (sSet i F) := PS.wk (ps_set hN hi hx he hs hf) fun Dn σ H ⟨c, H0, ρ, r, R, f, q⟩ => by
  unfold sSet at f
  obtain ⟨⟨d, ρ1⟩, h1, f⟩ := bnd_eq f
  have f' : some (Res.nx (ρ1.set i (.im d))) = some r := f
  cases f'
  exact ⟨c, H0, ρ, d, ρ1, R, h1, fun v H1 Hh s1 R1 r1 => q _ H1 Hh s1 (R1.set i r1)⟩
theorem xsif {c : Expr} {a b : List Stmt} (hc : XT X c T) (ha : XSs X a A) (hb : XSs X b B) : XS X (.If c a b pos) (sIf T A B) := PS.wk (ps_if hc ha hb) fun Dn σ H ⟨c, H0, ρ, r, R, f, q⟩ => by
  unfold sIf at f
  obtain ⟨⟨k, ρ1⟩, h1, f⟩ := bnd_eq f
  dsimp only at f
  refine ⟨c, H0, ρ, k, ρ1, R, h1, fun H1 Hh s1 R1 => ?_⟩
  cases k with
  | true =>
    rw [if_pos rfl] at f ⊢
    exact ⟨c, H1, ρ1, r, R1, f, q.mono s1⟩
  | false =>
    rw [if_neg Bool.false_ne_true] at f ⊢
    exact ⟨c, H1, ρ1, r, R1, f, q.mono s1⟩
theorem xret (he : XE X e F) : XS X (.Return (some e) pos) (sRet F) := PS.wk (ps_ret he) fun Dn σ H ⟨c, H0, ρ, r, R, f, q⟩ => by
  unfold sRet at f
  obtain ⟨⟨d, ρ1⟩, h1, f⟩ := bnd_eq f
  have f' : some (Res.rt d ρ1) = some r := f
  cases f'
  exact ⟨c, H0, ρ, d, ρ1, R, h1, fun v H1 Hh s1 R1 r1 => q v σ H1 Hh s1 R1 r1⟩
abbrev GD := D → En → Option En
def tG (K : PySem.W.Frag) (g : GD) : TG := fun v σ H Q => ∃ c H0 ρ d ρ', RS K c H0 H ρ σ ∧ Rep K H0 d v ∧ g d ρ = some ρ' ∧ ∀ σ' H0' H', Same H0 H0' → RS K c H0' H' ρ' σ' → Q σ' H'
def tGs (K : PySem.W.Frag) (is : List Nat) : TGs := fun vs σ H Q => ∃ c H0 ρ ds, RS K c H0 H ρ σ ∧ Reps K H0 ds vs ∧ ds.length = is.length ∧ ∀ σ' H0' H', Same H0 H0' → RS K c H0' H' (setAll is ds ρ) σ' → Q σ' H'
def XG (X : Cx) (tg : Expr) (g : GD) : Prop := PG X tg (tG X.K g)
def XGs (X : Cx) (tgs : List Expr) (is : List Nat) : Prop := PGs X tgs (tGs X.K is)
theorem xgN (i : Nat) {x : Str} (hN : X.N.Nodup) (hi : X.N[i]? = some x := by rfl) (hx : Loc X.env.scope x := by first | exact Or.inl rfl | exact Or.inr rfl) (hf : X.fn x = true ∨ X.env.scope.names.lookup x = some .local := by first | exact .inl rfl | exact .inr rfl) : XG X (.Name x pos) (gN i) :=
  fun pins s σ H v u Q I rv ⟨c, H0, ρ, d, ρ', R, r, f, q⟩ => pg_name hN hi hx hf pins s σ H v u Q I rv (by
    have f' : some (ρ.set i (.im d)) = some ρ' := f
    cases f'
    exact q _ H0 H (Same.refl _) (R.set i r))
theorem xgs0 : XGs X [] [] := fun pins s σ H vs us Q I rv ⟨c, H0, ρ, ds, R, r, l, q⟩ => pgs_nil pins s σ H vs us Q I rv (by
  have e : ds = [] := List.length_eq_zero_iff.mp l
  subst e
  unfold Reps at r
  exact ⟨r, q σ H0 H (Same.refl _) (by simpa [setAll_nil] using R)⟩)
theorem xgsC {e : Expr} {es : List Expr} {i : Nat} {is : List Nat} (h1 : XG X e (gN i)) (h2 : XGs X es is) (hs : (assignEach (e :: es) X.env).map (·.2) = assign e X.env :: (assignEach es X.env).map (·.2) := by rfl) : XGs X (e :: es) (i :: is) :=
  fun pins s σ H vs us Q I rv ⟨c, H0, ρ, ds, R, r, l, q⟩ => pgs_cons h1 h2 hs pins s σ H vs us Q I rv (by
    cases ds with
    | nil => simp at l
    | cons d ds =>
      unfold Reps at r
      obtain ⟨v, vr, rfl, r1, r2⟩ := r
      refine ⟨v, vr, rfl, c, H0, ρ, d, _, R, r1, rfl, fun σ1 H1 Hh s1 R1 => ?_⟩
      exact ⟨c, H1, _, ds, R1, Reps.mono s1 _ r2, by simpa using l, fun σ2 H2 Hh2 s2 R2 => q σ2 H2 Hh2 (s1.trans s2) (by simpa [setAll_cons] using R2)⟩)
theorem assign_Tuple_list {X : Cx} {s : Shared} {E : Value → Shared → Prop} {elts : List Expr} {k : Nat} {l : Addr} {items : Array Value} {Q : Unit → Shared → Prop} (hh : X.A.handled = none) (hl : s.heap.IsList l items)
    (hn : (assignEach elts X.env).length = items.size) (hstar : (assignEach elts X.env).findIdx? (·.1) = none)
    (h : ∀ h', Heap.ExtBut s.heap.objs.size s.heap h' → wpAny (model X.prog X.w) X.A (assignInOrder ((assignEach elts X.env).map (·.2)) items.toList) Q E { s with heap := h' }) :
    wpAny (model X.prog X.w) X.A (assign (.Tuple elts k pos) X.env (.ref l)) Q E s := by
  rw [assign_Tuple]
  refine wpAny_bind (wpAny_standAt ?_)
  unfold unpack
  rw [hn, hstar]
  exact wpAny_bind (wpAny_holding (PySem.W.kun_itemsOf hh hl h))
def gLst (K : PySem.W.Frag) (n : Nat) (t : TGs) : TG := fun v σ H Q => ∃ a xs, v = .ref a ∧ SqL K H a xs ∧ xs.length = n ∧ t xs σ H Q
theorem pg_lst {es : List Expr} {k : Nat} {t : TGs} {n : Nat} (hc : X.calm = true) (h : PGs X es t)
    (hn : (assignEach es X.env).length = n := by rfl) (hst : (assignEach es X.env).findIdx? (·.1) = none := by rfl) : PG X (.Tuple es k pos) (gLst X.K n t) := by
  intro pins s σ H v u Q I r hw
  obtain ⟨a, xs, e1, hq, hl, hw⟩ := hw
  subst e1
  cases r
  obtain ⟨its, rv, pl, hz⟩ := I.list hq
  refine assign_Tuple_list (I.ok.hd hc) pl.isList (by simp [hn, ← hl, rv.length]) hst fun h' hx => ?_
  have I1 : Inv X pins σ H { s with heap := h' } := I.kept (t' := s.toks) fun b o e => hx b o (Nat.ne_of_lt (Heap.lt_size e)) e
  exact h pins _ σ H xs _ Q I1 (by simpa using rv) hw
theorem xgT {es : List Expr} {k : Nat} {is : List Nat} (h : XGs X es is) (hc : X.calm = true := by rfl) (hn : (assignEach es X.env).length = is.length := by rfl) (hst : (assignEach es X.env).findIdx? (·.1) = none := by rfl) : XG X (.Tuple es k pos) (gT is) :=
  fun pins s σ H v u Q I rv ⟨c, H0, ρ, d, ρ', R, r, f, q⟩ => by
    unfold gT at f
    obtain ⟨xs, h1, f⟩ := bnd_eq f
    split at f
    · rename_i hl
      cases f
      cases d with
      | tup ds =>
        refine pg_tup hc h hn hst pins s σ H v u Q I rv ?_
        have e : ds = xs := Option.some.inj h1
        subst e
        unfold Rep at r
        obtain ⟨a, vs, rfl, sq, r⟩ := r
        exact ⟨a, vs, rfl, Same.seqT R.same sq, by rw [← r.length]; exact hl, c, H0, ρ, ds, R, r, hl, q⟩
      | lst ds =>
        refine pg_lst hc h hn hst pins s σ H v u Q I rv ?_
        have e : ds = xs := Option.some.inj h1
        subst e
        unfold Rep at r
        obtain ⟨a, vs, rfl, sq, r⟩ := r
        exact ⟨a, vs, rfl, Same.seq R.same sq, by rw [← r.length]; exact hl, c, H0, ρ, ds, R, r, hl, q⟩
      | _ => cases h1
    · cases f
theorem xtupset {tg : Expr} {is : List Nat} (hg : XG X tg (gT is)) (he : XE X e F) (hs : swapsWithSole [tg] e pos.line X.env = pure false := by rfl) (hw : swappedStores [tg] e X.env = pure none := by rfl)
    (h1 : (assignEach [tg] X.env).map (·.2) = [assign tg X.env] := by rfl) : XS X (.Assign [tg] e pos) (sTup is F) := PS.wk (ps_asg he hg hs hw h1) fun Dn σ H ⟨c, H0, ρ, r, R, f, q⟩ => by
  unfold sTup at f
  obtain ⟨⟨d, ρ1⟩, h1, f⟩ := bnd_eq f
  obtain ⟨ρ2, h2, f⟩ := bnd_eq f
  have f' : some (Res.nx ρ2) = some r := f
  cases f'
  exact ⟨c, H0, ρ, d, ρ1, R, h1, fun v H1 Hh s1 R1 r1 => ⟨c, H1, ρ1, d, ρ2, R1, r1, h2, fun σ' H2 Hh2 s2 R2 => q σ' H2 Hh2 (s1.trans s2) R2⟩⟩
theorem for_of {K : PySem.W.Frag} {c : FC} {H1 Hh : Hp} {ρ : En} {σ : L2.St} {g : GD} {B : FS} {xs : List D} {J : It} {Dn : Ends} {r : Res} (R : RS K c H1 Hh ρ σ) (hf : fGo g B xs ρ = some r) (hy : Yields K J H1 xs) (q : Post K c Dn H1 r) :
    ∃ W : Nat → Nat → L2.St → Hp → Prop, (∃ m, W 0 m σ Hh) ∧ ∀ i m σ H, W i m σ H →
      (J.stop i H ∧ Dn.nx σ H) ∨ (J.go i H ∧ ∃ N : L2.St → Hp → Prop, (∀ σ' H', N σ' H' → ∃ m', m' < m ∧ W (i + 1) m' σ' H') ∧ ∀ x H', J.yld i H x H' → tG K g x σ H' fun σ2 H2 => tS K B { Dn with nx := N, ct := N, bk := Dn.nx } σ2 H2) := by
  refine ⟨fun i m σ H => m = xs.length - i ∧ i ≤ xs.length ∧ ∃ H0 ρ, Same H1 H0 ∧ RS K c H0 H ρ σ ∧ fGo g B (xs.drop i) ρ = some r, ⟨xs.length, by simp, Nat.zero_le _, H1, ρ, Same.refl _, R, by simpa using hf⟩, ?_⟩
  rintro i m σ H ⟨rfl, hi, H0, ρ, s0, R0, hg⟩
  obtain ⟨y1, y2⟩ := hy H0 H i s0 R0.same
  by_cases hlt : i < xs.length
  · have hd : xs[i]? = some xs[i] := by simp [hlt]
    obtain ⟨go, yl⟩ := y1 _ hd
    refine .inr ⟨go, fun σ' H' => ∃ m', m' < xs.length - i ∧ m' = xs.length - (i + 1) ∧ i + 1 ≤ xs.length ∧ ∃ H0 ρ, Same H1 H0 ∧ RS K c H0 H' ρ σ' ∧ fGo g B (xs.drop (i + 1)) ρ = some r, fun σ' H' ⟨m', a, b⟩ => ⟨m', a, b⟩, fun x H' hx => ?_⟩
    obtain ⟨rfl, rx⟩ := yl x H' hx
    rw [drop_of hd, fGo_cons] at hg
    obtain ⟨ρ1, g1, hg⟩ := bnd_eq hg
    obtain ⟨z, g2, hg⟩ := bnd_eq hg
    refine ⟨c, H0, ρ, _, ρ1, R0, rx, g1, fun σ1 H2 Hh2 s2 R2 => ⟨c, H2, ρ1, z, R2, g2, ?_⟩⟩
    cases z with
    | nx ρ2 => exact fun σ' H3 Hh3 s3 R3 => ⟨_, by omega, rfl, hlt, H3, ρ2, s0.trans (s2.trans s3), R3, hg⟩
    | ct ρ2 => exact fun σ' H3 Hh3 s3 R3 => ⟨_, by omega, rfl, hlt, H3, ρ2, s0.trans (s2.trans s3), R3, hg⟩
    | bk ρ2 =>
      have hg' : some (Res.nx ρ2) = some r := hg
      cases hg'
      exact fun σ' H3 Hh3 s3 R3 => q σ' H3 Hh3 (s0.trans (s2.trans s3)) R3
    | rt d ρ2 =>
      have hg' : some (Res.rt d ρ2) = some r := hg
      cases hg'
      exact fun v σ' H3 Hh3 s3 R3 r3 => q v σ' H3 Hh3 (s0.trans (s2.trans s3)) R3 r3
  · have hn : xs.drop i = [] := List.drop_eq_nil_of_le (by omega)
    rw [hn, fGo_nil] at hg
    have hg' : some (Res.nx ρ) = some r := hg
    cases hg'
    exact .inl ⟨y2 (by omega), q σ H0 H s0 R0⟩
theorem xfor {tg iter : Expr} {body : List Stmt} {g : GD} (hg : XG X tg g) (hi : XE X iter F) (hb : XSs X body B) (hp : PassesOwn (model X.prog X.w) X.A X.env X.xe := by exact PassesOwn.never) (hc : X.calm = true := by rfl) (hs : ∀ x, foldedSetIterable iter X.env x = pure x := by intro _; rfl) :
    XS X (.For tg iter body [] pos) (sFor g F B) := PS.wk (ps_for hp hc (pi_sq hi) hg hb hs) fun Dn σ H ⟨c, H0, ρ, r, R, f, q⟩ => by
  unfold sFor at f
  obtain ⟨⟨d, ρ1⟩, h1, f⟩ := bnd_eq f
  obtain ⟨xs, h2, f⟩ := bnd_eq f
  exact walk_of_data R h1 h2 fun J H1 Hh s1 R1 hy => for_of R1 f hy (q.mono s1)
theorem xforR1 {tg a : Expr} {body : List Stmt} {g : GD} {p pos' : Pos} (hm : X.mg "range" = none) (hg : XG X tg g) (ha : XE X a F) (hb : XSs X body B) (hgl : Gl X "range" := by rfl) (hp : PassesOwn (model X.prog X.w) X.A X.env X.xe := by exact PassesOwn.never) (hc : X.calm = true := by rfl)
    (hst : starEach [a] X.env = [(false, eval a X.env)] := by rfl) (hs : ∀ x, foldedSetIterable (.Call (.Name "range" p) [a] [] pos') X.env x = pure x := by intro _; rfl) :
    XS X (.For tg (.Call (.Name "range" p) [a] [] pos') body [] pos) (sForR g (rng1 F) B) := PS.wk (ps_for hp hc (pi_range1 hgl hm (pa_cons ha pa_nil hst) hst) hg hb hs) fun Dn σ H ⟨c, H0, ρ, r, R, f, q⟩ => by
  unfold sForR rng1 at f
  obtain ⟨⟨xs, ρ1⟩, h1, f⟩ := bnd_eq f
  obtain ⟨⟨d, ρ2⟩, h2, h1⟩ := bnd_eq h1
  obtain ⟨j, h3, h1⟩ := bnd_eq h1
  dsimp only at h1 h3 f
  split at h1
  · rename_i hj
    cases h1
    refine ⟨c, H0, ρ, d, _, R, h2, fun v H1 Hh s1 R1 r1 => ?_⟩
    cases d with
    | int k =>
      have e : k = j := Option.some.inj h3
      subst e
      unfold Rep at r1; subst r1
      exact ⟨k, rfl, hj.1, hj.2, for_of R1 f (yields_rng 0 k.toNat) (q.mono s1)⟩
    | _ => cases h3
  · cases h1
theorem xforR2 {tg a b : Expr} {body : List Stmt} {g : GD} {G : FE} {p pos' : Pos} (hm : X.mg "range" = none) (hg : XG X tg g) (ha : XE X a F) (hb' : XE X b G) (hb : XSs X body B) (hgl : Gl X "range" := by rfl) (hp : PassesOwn (model X.prog X.w) X.A X.env X.xe := by exact PassesOwn.never) (hc : X.calm = true := by rfl)
    (hst : starEach [a, b] X.env = [(false, eval a X.env), (false, eval b X.env)] := by rfl) (hst' : starEach [b] X.env = [(false, eval b X.env)] := by rfl) (hs : ∀ x, foldedSetIterable (.Call (.Name "range" p) [a, b] [] pos') X.env x = pure x := by intro _; rfl) :
    XS X (.For tg (.Call (.Name "range" p) [a, b] [] pos') body [] pos) (sForR g (rng2 F G) B) := PS.wk (ps_for hp hc (pi_range2 hgl hm (pa_cons ha (pa_cons hb' pa_nil hst') (by rw [hst, hst'])) hst hst') hg hb hs) fun Dn σ H ⟨c, H0, ρ, r, R, f, q⟩ => by
  unfold sForR rng2 at f
  obtain ⟨⟨xs, ρ1⟩, h1, f⟩ := bnd_eq f
  obtain ⟨⟨d, ρ2⟩, h2, h1⟩ := bnd_eq h1
  obtain ⟨⟨d', ρ3⟩, h3, h1⟩ := bnd_eq h1
  obtain ⟨i, h4, h1⟩ := bnd_eq h1
  obtain ⟨j, h5, h1⟩ := bnd_eq h1
  dsimp only at h1 h3 h4 h5 f
  split at h1
  · rename_i hj
    cases h1
    refine ⟨c, H0, ρ, d, ρ2, R, h2, fun v H1 Hh s1 R1 r1 => ?_⟩
    refine ⟨c, H1, ρ2, d', _, R1, h3, fun v' H2 Hh2 s2 R2 r2 => ?_⟩
    cases d with
    | int k =>
      cases d' with
      | int k' =>
        have e : k = i := Option.some.inj h4
        have e' : k' = j := Option.some.inj h5
        subst e e'
        unfold Rep at r1 r2; subst r1 r2
        exact ⟨k, k', rfl, hj, for_of R2 f (yields_rng k (k' - k).toNat) (q.mono (s1.trans s2))⟩
      | _ => cases h5
    | _ => cases h4
  · cases h1
end
theorem RS.start {K : PySem.W.Frag} {Hi H : Hp} {ds : List D} {vs : List V} {m n : Nat} (s : Same Hi H) (r : Reps K Hi ds vs) (hn : n - vs.length = m) : RS K ⟨Hi, H, []⟩ Hi H (ds.map .im ++ List.replicate m .no) (vs.map some ++ List.replicate (n - vs.length) none) := by
  have hl := r.length
  refine ⟨s, Same.refl _, fun b o e => .inl e, fun b o e _ => e, fun a h => (by cases h), ?_, fun i d e => ?_, fun i b o e => ?_, fun i j b b' o o' a e => ?_⟩
  · rw [List.length_append, List.length_append, List.length_map, List.length_map, List.length_replicate, List.length_replicate, hl, hn]
  · by_cases hi : i < ds.length
    · rw [List.getElem?_append_left (by simpa using hi), List.getElem?_map] at e
      cases z : ds[i]? with
      | none => rw [z] at e; cases e
      | some d' =>
        rw [z] at e
        have e' : d' = d := by have := Option.some.inj e; injection this
        subst e'
        obtain ⟨v, a, b⟩ := r.get z
        exact ⟨v, by rw [List.getElem?_append_left (by simp; omega), List.getElem?_map, a]; rfl, b⟩
    · rw [List.getElem?_append_right (by simpa using Nat.le_of_not_lt hi), List.getElem?_replicate] at e
      split at e <;> cases e
  · by_cases hi : i < ds.length
    · rw [List.getElem?_append_left (by simpa using hi), List.getElem?_map] at e
      cases z : ds[i]? with
      | none => rw [z] at e; cases e
      | some d' => rw [z] at e; cases e
    · rw [List.getElem?_append_right (by simpa using Nat.le_of_not_lt hi), List.getElem?_replicate] at e
      split at e <;> cases e
  · by_cases hi : i < ds.length
    · rw [List.getElem?_append_left (by simpa using hi), List.getElem?_map] at e
      cases z : ds[i]? with
      | none => rw [z] at e; cases e
      | some d' => rw [z] at e; cases e
    · rw [List.getElem?_append_right (by simpa using Nat.le_of_not_lt hi), List.getElem?_replicate] at e
      split at e <;> cases e
theorem fn_ok {P : Program} {w : World} {K : PySem.W.Frag} {mg : Str → Option Value} {base : Heap} {x qual : Str} {st : Stmt} {f : Addr} {fd : FuncData} {N ps : List Str} {k n m : Nat} {B : FS} (F : Fun K x qual st f fd) (S : FnScope N ps (defScope st)) (hn : ps.length = n) (hN : N.length = n + m)
    (hb : ∀ (cdv : Value) (A : Around) (outer : List Env) (s : Shared) (H : Hp) (E : XK), Room k (A.deeper (envOfC qual (defScope st) s.heap.objs.size f cdv)) → XSs (cxOf CX0 P w K mg base N qual (defScope st) f cdv A outer s H E).nox (defBody st) B) :
    FnOk P w K mg base CX0 (k + 1) f fd ps (spP K (fnD n m B)) := by
  have inv : ∀ {ds : List D} {d : D}, fnD n m B ds = some d → ds.length = n ∧ ∃ r, B (ds.map .im ++ List.replicate m .no) = some r ∧ retR r = some d := fun {ds d} h => by
    unfold fnD at h
    split at h
    · rename_i hl
      obtain ⟨r, h1, h2⟩ := bnd_eq h
      exact ⟨hl, r, h1, h2⟩
    · cases h
  refine F.ok S (fun vs H Q E h => ?_) (fun cdv A outer s H vs Q E hr h => ?_)
  · obtain ⟨Hi, ds, d, _, r, e, _⟩ := h
    rw [hn, ← r.length]; exact (inv e).1
  · obtain ⟨Hi, ds, d, hs, r, e, q⟩ := h
    obtain ⟨hl, res, h1, h2⟩ := inv e
    refine ⟨_, hb cdv A outer s H E hr, ⟨Hi, H, []⟩, Hi, _, res, RS.start (n := N.length) (m := m) hs r (by rw [← r.length]; omega), h1, ?_⟩
    cases res with
    | nx ρ' =>
      have e' : D.non = d := Option.some.inj h2
      subst e'
      exact fun σ' H0' H' s0 R => q .non H0' H' R.step (by unfold Rep; rfl)
    | rt d' ρ' =>
      have e' : d' = d := Option.some.inj h2
      subst e'
      exact fun v σ' H0' H' s0 R rv => q v H0' H' R.step rv
    | bk ρ' => cases h2
    | ct ρ' => cases h2
end Fx
namespace Fx
open PySem
@[simp] theorem dAdd_i (i j : Int) : dAdd (.int i) (.int j) = some (.int (i + j)) := Eq.trans rfl rfl
@[simp] theorem dAdd_l (a b : List D) : dAdd (.lst a) (.lst b) = if a.length + b.length ≤ sizeLine then some (.lst (a ++ b)) else none := Eq.trans rfl rfl
@[simp] theorem dAdd_s (a b : Str) : dAdd (.str a) (.str b) = if a.length + b.length ≤ sizeLine then some (.str (a ++ b)) else none := Eq.trans rfl rfl
@[simp] theorem dSub_i (i j : Int) : dSub (.int i) (.int j) = some (.int (i - j)) := Eq.trans rfl rfl
@[simp] theorem dMul_i (i j : Int) : dMul (.int i) (.int j) = if okMul i j = true then some (.int (i * j)) else none := Eq.trans rfl rfl
@[simp] theorem dDiv_i (i j : Int) : dDiv (.int i) (.int j) = if okDiv j = true then some (.int (i.fdiv j)) else none := Eq.trans rfl rfl
@[simp] theorem dMod_i (i j : Int) : dMod (.int i) (.int j) = if j ≠ 0 then some (.int (i.fmod j)) else none := Eq.trans rfl rfl
@[simp] theorem dPow_i (i j : Int) : dPow (.int i) (.int j) = if 0 ≤ j ∧ j ≤ 64 ∧ i.natAbs < 2 ^ 64 then some (.int (i ^ j.toNat)) else none := Eq.trans rfl rfl
@[simp] theorem dNeg_i (i : Int) : dNeg (.int i) = some (.int (-i)) := Eq.trans rfl rfl
@[simp] theorem dLt_i (i j : Int) : dLt (.int i) (.int j) = some (.bl (decide (i < j))) := Eq.trans rfl rfl
@[simp] theorem dLe_i (i j : Int) : dLe (.int i) (.int j) = some (.bl (decide (i ≤ j))) := Eq.trans rfl rfl
@[simp] theorem dGt_i (i j : Int) : dGt (.int i) (.int j) = some (.bl (decide (j < i))) := Eq.trans rfl rfl
@[simp] theorem dGe_i (i j : Int) : dGe (.int i) (.int j) = some (.bl (decide (j ≤ i))) := Eq.trans rfl rfl
@[simp] theorem dEq_ (x y : D) : dEq x y = if dpD x ≤ 30 ∧ dpD y ≤ 30 then some (.bl (eqD x y)) else none := Eq.trans rfl rfl
@[simp] theorem dNe_ (x y : D) : dNe x y = if dpD x ≤ 30 ∧ dpD y ≤ 30 then some (.bl (!eqD x y)) else none := Eq.trans rfl rfl
@[simp] theorem dIs_ (x : D) : dIs x .non = some (.bl (isN x)) := Eq.trans rfl rfl
@[simp] theorem dIsNot_ (x : D) : dIsNot x .non = some (.bl (!isN x)) := Eq.trans rfl rfl
@[simp] theorem dTru_n  : dTru .non = some false := Eq.trans rfl rfl
@[simp] theorem dTru_b (b : Bool) : dTru (.bl b) = some b := Eq.trans rfl rfl
@[simp] theorem dTru_i (i : Int) : dTru (.int i) = some (i != 0) := Eq.trans rfl rfl
@[simp] theorem dTru_l (xs : List D) : dTru (.lst xs) = some (!xs.isEmpty) := Eq.trans rfl rfl
@[simp] theorem dTru_t (xs : List D) : dTru (.tup xs) = some (!xs.isEmpty) := Eq.trans rfl rfl
@[simp] theorem dIx_t (xs : List D) (i : Int) : dIx (.tup xs) (.int i) = atD xs i := Eq.trans rfl rfl
@[simp] theorem dIx_l (xs : List D) (i : Int) : dIx (.lst xs) (.int i) = atD xs i := Eq.trans rfl rfl
@[simp] theorem dSl_l (xs : List D) (lo hi : Option Int) : dSl (.lst xs) lo hi = some (.lst (dCut xs lo hi)) := Eq.trans rfl rfl
@[simp] theorem dSl_t (xs : List D) (lo hi : Option Int) : dSl (.tup xs) lo hi = if dEnd xs.length 0 lo = 0 ∧ dEnd xs.length xs.length hi = xs.length then none else some (.tup (dCut xs lo hi)) := Eq.trans rfl rfl
@[simp] theorem bAbs_ (i : Int) : bAbs [.int i] = some (.int (i.natAbs : Int)) := congrArg (fun z => some (D.int z)) (show (if i < 0 then -i else i) = (i.natAbs : Int) by split <;> omega)
@[simp] theorem bLen_l (xs : List D) : bLen [.lst xs] = some (.int xs.length) := Eq.trans rfl rfl
@[simp] theorem bLen_t (xs : List D) : bLen [.tup xs] = some (.int xs.length) := Eq.trans rfl rfl
theorem bMax_l (xs : List D) : bMax [.lst xs] = bnd (intsOf xs) fun is => bestI maxI is := rfl
theorem bMin_l (xs : List D) : bMin [.lst xs] = bnd (intsOf xs) fun is => bestI minI is := rfl
@[simp] theorem bMax_ (i j : Int) : bMax [.int i, .int j] = some (.int (if j > i then j else i)) := Eq.trans rfl rfl
@[simp] theorem bMin_ (i j : Int) : bMin [.int i, .int j] = some (.int (if j < i then j else i)) := Eq.trans rfl rfl
def cnsO {α : Type} (x : α) (o : Option (List α)) : Option (List α) := bnd o fun t => some (x :: t)
@[simp] theorem cnsO_s {α : Type} (x : α) (t : List α) : cnsO x (some t) = some (x :: t) := Eq.trans rfl rfl
@[simp] theorem bools_n  : bools [] = some [] := Eq.trans rfl rfl
@[simp] theorem bools_c (b : Bool) (r : List D) : bools (.bl b :: r) = cnsO b (bools r) := Eq.trans rfl rfl
def anyA (o : Option (List Bool)) : Option D := bnd o fun bs => some (.bl (bs.any id))
def allA (o : Option (List Bool)) : Option D := bnd o fun bs => some (.bl (bs.all id))
@[simp] theorem anyA_s (bs : List Bool) : anyA (some bs) = some (.bl (bs.any id)) := Eq.trans rfl rfl
@[simp] theorem allA_s (bs : List Bool) : allA (some bs) = some (.bl (bs.all id)) := Eq.trans rfl rfl
@[simp] theorem bAny_ (xs : List D) : bAny [.lst xs] = anyA (bools xs) := Eq.trans rfl rfl
@[simp] theorem bAll_ (xs : List D) : bAll [.lst xs] = allA (bools xs) := Eq.trans rfl rfl
@[simp] theorem isTy_int_dct (ks : List Str) (vs : List D) : isTy .int (.dct ks vs) = false := Eq.trans rfl rfl
@[simp] theorem isTy_bool_dct (ks : List Str) (vs : List D) : isTy .bool (.dct ks vs) = false := Eq.trans rfl rfl
@[simp] theorem isTy_str_dct (ks : List Str) (vs : List D) : isTy .str (.dct ks vs) = false := Eq.trans rfl rfl
@[simp] theorem isTy_tuple_dct (ks : List Str) (vs : List D) : isTy .tuple (.dct ks vs) = false := Eq.trans rfl rfl
@[simp] theorem isTy_list_dct (ks : List Str) (vs : List D) : isTy .list (.dct ks vs) = false := Eq.trans rfl rfl
@[simp] theorem isB_dct (b : Bool) (ks : List Str) (vs : List D) : isB b (.dct ks vs) = false := Eq.trans rfl rfl
@[simp] theorem isTy_int_opq : isTy .int .opq = false := Eq.trans rfl rfl
@[simp] theorem isTy_bool_opq : isTy .bool .opq = false := Eq.trans rfl rfl
@[simp] theorem isTy_str_opq : isTy .str .opq = false := Eq.trans rfl rfl
@[simp] theorem isTy_tuple_opq : isTy .tuple .opq = false := Eq.trans rfl rfl
@[simp] theorem isTy_list_opq : isTy .list .opq = false := Eq.trans rfl rfl
@[simp] theorem isB_opq (b : Bool) : isB b .opq = false := Eq.trans rfl rfl
@[simp] theorem isTy_int_non  : isTy .int .non = false := Eq.trans rfl rfl
@[simp] theorem isTy_int_bl (b : Bool) : isTy .int (.bl b) = true := Eq.trans rfl rfl
@[simp] theorem isTy_int_int (b : Int) : isTy .int (.int b) = true := Eq.trans rfl rfl
@[simp] theorem isTy_int_str (b : Str) : isTy .int (.str b) = false := Eq.trans rfl rfl
@[simp] theorem isTy_int_tup (b : List D) : isTy .int (.tup b) = false := Eq.trans rfl rfl
@[simp] theorem isTy_int_lst (b : List D) : isTy .int (.lst b) = false := Eq.trans rfl rfl
@[simp] theorem isTy_bool_non  : isTy .bool .non = false := Eq.trans rfl rfl
@[simp] theorem isTy_bool_bl (b : Bool) : isTy .bool (.bl b) = true := Eq.trans rfl rfl
@[simp] theorem isTy_bool_int (b : Int) : isTy .bool (.int b) = false := Eq.trans rfl rfl
@[simp] theorem isTy_bool_str (b : Str) : isTy .bool (.str b) = false := Eq.trans rfl rfl
@[simp] theorem isTy_bool_tup (b : List D) : isTy .bool (.tup b) = false := Eq.trans rfl rfl
@[simp] theorem isTy_bool_lst (b : List D) : isTy .bool (.lst b) = false := Eq.trans rfl rfl
@[simp] theorem isTy_str_non  : isTy .str .non = false := Eq.trans rfl rfl
@[simp] theorem isTy_str_bl (b : Bool) : isTy .str (.bl b) = false := Eq.trans rfl rfl
@[simp] theorem isTy_str_int (b : Int) : isTy .str (.int b) = false := Eq.trans rfl rfl
@[simp] theorem isTy_str_str (b : Str) : isTy .str (.str b) = true := Eq.trans rfl rfl
@[simp] theorem isTy_str_tup (b : List D) : isTy .str (.tup b) = false := Eq.trans rfl rfl
@[simp] theorem isTy_str_lst (b : List D) : isTy .str (.lst b) = false := Eq.trans rfl rfl
@[simp] theorem isTy_tuple_non  : isTy .tuple .non = false := Eq.trans rfl rfl
@[simp] theorem isTy_tuple_bl (b : Bool) : isTy .tuple (.bl b) = false := Eq.trans rfl rfl
@[simp] theorem isTy_tuple_int (b : Int) : isTy .tuple (.int b) = false := Eq.trans rfl rfl
@[simp] theorem isTy_tuple_str (b : Str) : isTy .tuple (.str b) = false := Eq.trans rfl rfl
@[simp] theorem isTy_tuple_tup (b : List D) : isTy .tuple (.tup b) = true := Eq.trans rfl rfl
@[simp] theorem isTy_tuple_lst (b : List D) : isTy .tuple (.lst b) = false := Eq.trans rfl rfl
@[simp] theorem isTy_list_non  : isTy .list .non = false := Eq.trans rfl rfl
@[simp] theorem isTy_list_bl (b : Bool) : isTy .list (.bl b) = false := Eq.trans rfl rfl
@[simp] theorem isTy_list_int (b : Int) : isTy .list (.int b) = false := Eq.trans rfl rfl
@[simp] theorem isTy_list_str (b : Str) : isTy .list (.str b) = false := Eq.trans rfl rfl
@[simp] theorem isTy_list_tup (b : List D) : isTy .list (.tup b) = false := Eq.trans rfl rfl
@[simp] theorem isTy_list_lst (b : List D) : isTy .list (.lst b) = true := Eq.trans rfl rfl
def mkP (o : Option D) (ρ : En) : Option (D × En) := bnd o fun d => some (d, ρ)
@[simp] theorem mkP_s (d : D) (ρ : En) : mkP (some d) ρ = some (d, ρ) := Eq.trans rfl rfl
@[simp] theorem slV_i (ρ : En) (d : D) : slV ρ (some (.im d)) = some (d, ρ) := Eq.trans rfl rfl
@[simp] theorem eV_ (i : Nat) (ρ : En) : eV i ρ = slV ρ ρ[i]? := Eq.trans rfl rfl
@[simp] theorem eC_ (d : D) (ρ : En) : eC d ρ = some (d, ρ) := Eq.trans rfl rfl
def e1a (op : D → Option D) (o : Option (D × En)) : Option (D × En) := bnd o fun p => bnd (op p.1) fun d => some (d, p.2)
@[simp] theorem e1_ (op : D → Option D) (F : FE) (ρ : En) : e1 op F ρ = e1a op (F ρ) := Eq.trans rfl rfl
@[simp] theorem e1a_s (op : D → Option D) (x : D) (ρ : En) : e1a op (some (x, ρ)) = mkP (op x) ρ := Eq.trans rfl rfl
def e2b (op : D → D → Option D) (x : D) (o : Option (D × En)) : Option (D × En) := bnd o fun q => bnd (op x q.1) fun d => some (d, q.2)
def e2a (op : D → D → Option D) (G : FE) (o : Option (D × En)) : Option (D × En) := bnd o fun p => bnd (G p.2) fun q => bnd (op p.1 q.1) fun d => some (d, q.2)
@[simp] theorem e2_ (op : D → D → Option D) (F G : FE) (ρ : En) : e2 op F G ρ = e2a op G (F ρ) := Eq.trans rfl rfl
@[simp] theorem e2a_s (op : D → D → Option D) (G : FE) (x : D) (ρ : En) : e2a op G (some (x, ρ)) = e2b op x (G ρ) := Eq.trans rfl rfl
@[simp] theorem e2b_s (op : D → D → Option D) (x y : D) (ρ : En) : e2b op x (some (y, ρ)) = mkP (op x y) ρ := Eq.trans rfl rfl
def e3c (op' : D → D → Option D) (L : FE) (y : D) (ρ : En) (o : Option D) : Option (D × En) := bnd o fun z => bnd (blB z) fun b => if b = true then bnd (L ρ) fun r => bnd (op' y r.1) fun d => some (d, r.2) else some (.bl false, ρ)
def e3b (op op' : D → D → Option D) (L : FE) (x : D) (o : Option (D × En)) : Option (D × En) := bnd o fun q => bnd (op x q.1) fun z => bnd (blB z) fun b => if b = true then bnd (L q.2) fun r => bnd (op' q.1 r.1) fun d => some (d, r.2) else some (.bl false, q.2)
def e3a (op op' : D → D → Option D) (G L : FE) (o : Option (D × En)) : Option (D × En) := bnd o fun p => bnd (G p.2) fun q => bnd (op p.1 q.1) fun z => bnd (blB z) fun b => if b = true then bnd (L q.2) fun r => bnd (op' q.1 r.1) fun d => some (d, r.2) else some (.bl false, q.2)
@[simp] theorem e3_ (op op' : D → D → Option D) (F G L : FE) (ρ : En) : e3 op op' F G L ρ = e3a op op' G L (F ρ) := Eq.trans rfl rfl
@[simp] theorem e3a_s (op op' : D → D → Option D) (G L : FE) (x : D) (ρ : En) : e3a op op' G L (some (x, ρ)) = e3b op op' L x (G ρ) := Eq.trans rfl rfl
@[simp] theorem e3b_s (op op' : D → D → Option D) (L : FE) (x y : D) (ρ : En) : e3b op op' L x (some (y, ρ)) = e3c op' L y ρ (op x y) := Eq.trans rfl rfl
@[simp] theorem e3c_t (op' : D → D → Option D) (L : FE) (y : D) (ρ : En) : e3c op' L y ρ (some (.bl true)) = e2b op' y (L ρ) := Eq.trans rfl rfl
@[simp] theorem e3c_f (op' : D → D → Option D) (L : FE) (y : D) (ρ : En) : e3c op' L y ρ (some (.bl false)) = some (.bl false, ρ) := Eq.trans rfl rfl
@[simp] theorem aN_ (ρ : En) : aN ρ = some ([], ρ) := Eq.trans rfl rfl
def aCb (x : D) (o : Option (List D × En)) : Option (List D × En) := bnd o fun q => some (x :: q.1, q.2)
def aCa (A : FA) (o : Option (D × En)) : Option (List D × En) := bnd o fun p => bnd (A p.2) fun q => some (p.1 :: q.1, q.2)
@[simp] theorem aC_ (F : FE) (A : FA) (ρ : En) : aC F A ρ = aCa A (F ρ) := Eq.trans rfl rfl
@[simp] theorem aCa_s (A : FA) (x : D) (ρ : En) : aCa A (some (x, ρ)) = aCb x (A ρ) := Eq.trans rfl rfl
@[simp] theorem aCb_s (x : D) (xs : List D) (ρ : En) : aCb x (some (xs, ρ)) = some (x :: xs, ρ) := Eq.trans rfl rfl
def tupA (o : Option (List D × En)) : Option (D × En) := bnd o fun p => if p.1.length ≤ 1000 then some (.tup p.1, p.2) else none
@[simp] theorem eTup_ (A : FA) (ρ : En) : eTup A ρ = tupA (A ρ) := Eq.trans rfl rfl
@[simp] theorem tupA_s (xs : List D) (ρ : En) : tupA (some (xs, ρ)) = if xs.length ≤ 1000 then some (.tup xs, ρ) else none := Eq.trans rfl rfl
def lstA (o : Option (List D × En)) : Option (D × En) := bnd o fun p => if p.1.length ≤ 1000 then some (.lst p.1, p.2) else none
@[simp] theorem eLst_ (A : FA) (ρ : En) : eLst A ρ = lstA (A ρ) := Eq.trans rfl rfl
@[simp] theorem lstA_s (xs : List D) (ρ : En) : lstA (some (xs, ρ)) = if xs.length ≤ 1000 then some (.lst xs, ρ) else none := Eq.trans rfl rfl
def eFa (g : List D → Option D) (o : Option (List D × En)) : Option (D × En) := bnd o fun p => bnd (g p.1) fun d => some (d, p.2)
@[simp] theorem eF_ (g : List D → Option D) (A : FA) (ρ : En) : eF g A ρ = eFa g (A ρ) := Eq.trans rfl rfl
@[simp] theorem eFa_s (g : List D → Option D) (xs : List D) (ρ : En) : eFa g (some (xs, ρ)) = mkP (g xs) ρ := Eq.trans rfl rfl
def eTya (t : Ty) (o : Option (D × En)) : Option (D × En) := bnd o fun p => some (.bl (isTy t p.1), p.2)
@[simp] theorem eTy_ (t : Ty) (F : FE) (ρ : En) : eTy t F ρ = eTya t (F ρ) := Eq.trans rfl rfl
@[simp] theorem eTya_s (t : Ty) (x : D) (ρ : En) : eTya t (some (x, ρ)) = some (.bl (isTy t x), ρ) := Eq.trans rfl rfl
@[simp] theorem oN_ (ρ : En) : oN ρ = some (none, ρ) := Eq.trans rfl rfl
def oSa (o : Option (D × En)) : Option (Option Int × En) := bnd o fun p => bnd (intI p.1) fun i => some (some i, p.2)
@[simp] theorem oS_ (F : FE) (ρ : En) : oS F ρ = oSa (F ρ) := Eq.trans rfl rfl
@[simp] theorem oSa_s (i : Int) (ρ : En) : oSa (some (.int i, ρ)) = some (some i, ρ) := Eq.trans rfl rfl
def eSlc (x : D) (l : Option Int) (o : Option (Option Int × En)) : Option (D × En) := bnd o fun h => bnd (dSl x l h.1) fun d => some (d, h.2)
def eSlb (hi : FO) (x : D) (o : Option (Option Int × En)) : Option (D × En) := bnd o fun l => bnd (hi l.2) fun h => bnd (dSl x l.1 h.1) fun d => some (d, h.2)
def eSla (lo hi : FO) (o : Option (D × En)) : Option (D × En) := bnd o fun p => bnd (lo p.2) fun l => bnd (hi l.2) fun h => bnd (dSl p.1 l.1 h.1) fun d => some (d, h.2)
@[simp] theorem eSl_ (F : FE) (lo hi : FO) (ρ : En) : eSl F lo hi ρ = eSla lo hi (F ρ) := Eq.trans rfl rfl
@[simp] theorem eSla_s (lo hi : FO) (x : D) (ρ : En) : eSla lo hi (some (x, ρ)) = eSlb hi x (lo ρ) := Eq.trans rfl rfl
@[simp] theorem eSlb_s (hi : FO) (x : D) (l : Option Int) (ρ : En) : eSlb hi x (some (l, ρ)) = eSlc x l (hi ρ) := Eq.trans rfl rfl
@[simp] theorem eSlc_s (x : D) (l h : Option Int) (ρ : En) : eSlc x l (some (h, ρ)) = mkP (dSl x l h) ρ := Eq.trans rfl rfl
def mkB (o : Option Bool) (ρ : En) : Option (Bool × En) := bnd o fun b => some (b, ρ)
@[simp] theorem mkB_s (b : Bool) (ρ : En) : mkB (some b) ρ = some (b, ρ) := Eq.trans rfl rfl
def tBa (o : Option (D × En)) : Option (Bool × En) := bnd o fun p => bnd (blB p.1) fun b => some (b, p.2)
@[simp] theorem tB_ (F : FE) (ρ : En) : tB F ρ = tBa (F ρ) := Eq.trans rfl rfl
@[simp] theorem tBa_s (b : Bool) (ρ : En) : tBa (some (.bl b, ρ)) = some (b, ρ) := Eq.trans rfl rfl
def tVa (o : Option (D × En)) : Option (Bool × En) := bnd o fun p => bnd (dTru p.1) fun b => some (b, p.2)
@[simp] theorem tV_ (F : FE) (ρ : En) : tV F ρ = tVa (F ρ) := Eq.trans rfl rfl
@[simp] theorem tVa_s (x : D) (ρ : En) : tVa (some (x, ρ)) = mkB (dTru x) ρ := Eq.trans rfl rfl
def tAnda (U : FT) (o : Option (Bool × En)) : Option (Bool × En) := bnd o fun p => if p.1 = true then U p.2 else some (false, p.2)
def tOra (U : FT) (o : Option (Bool × En)) : Option (Bool × En) := bnd o fun p => if p.1 = true then some (true, p.2) else U p.2
def tNota (o : Option (Bool × En)) : Option (Bool × En) := bnd o fun p => some (!p.1, p.2)
@[simp] theorem tAnd_ (T U : FT) (ρ : En) : tAnd T U ρ = tAnda U (T ρ) := Eq.trans rfl rfl
@[simp] theorem tAnda_t (U : FT) (ρ : En) : tAnda U (some (true, ρ)) = U ρ := Eq.trans rfl rfl
@[simp] theorem tAnda_f (U : FT) (ρ : En) : tAnda U (some (false, ρ)) = some (false, ρ) := Eq.trans rfl rfl
@[simp] theorem tOr_ (T U : FT) (ρ : En) : tOr T U ρ = tOra U (T ρ) := Eq.trans rfl rfl
@[simp] theorem tOra_t (U : FT) (ρ : En) : tOra U (some (true, ρ)) = some (true, ρ) := Eq.trans rfl rfl
@[simp] theorem tOra_f (U : FT) (ρ : En) : tOra U (some (false, ρ)) = U ρ := Eq.trans rfl rfl
@[simp] theorem tNot_ (T : FT) (ρ : En) : tNot T ρ = tNota (T ρ) := Eq.trans rfl rfl
@[simp] theorem tNota_s (b : Bool) (ρ : En) : tNota (some (b, ρ)) = some (!b, ρ) := Eq.trans rfl rfl
@[simp] theorem tYes_ (ρ : En) : tYes ρ = some (true, ρ) := Eq.trans rfl rfl
def eIfa (F G : FE) (o : Option (Bool × En)) : Option (D × En) := bnd o fun p => if p.1 = true then F p.2 else G p.2
@[simp] theorem eIf_ (T : FT) (F G : FE) (ρ : En) : eIf T F G ρ = eIfa F G (T ρ) := Eq.trans rfl rfl
@[simp] theorem eIfa_t (F G : FE) (ρ : En) : eIfa F G (some (true, ρ)) = F ρ := Eq.trans rfl rfl
@[simp] theorem eIfa_f (F G : FE) (ρ : En) : eIfa F G (some (false, ρ)) = G ρ := Eq.trans rfl rfl
def eAnda (G : FE) (o : Option (D × En)) : Option (D × En) := bnd o fun p => bnd (blB p.1) fun b => if b = true then G p.2 else some (.bl false, p.2)
def eOra (G : FE) (o : Option (D × En)) : Option (D × En) := bnd o fun p => bnd (blB p.1) fun b => if b = true then some (.bl true, p.2) else G p.2
def eNota (o : Option (D × En)) : Option (D × En) := bnd o fun p => bnd (blB p.1) fun b => some (.bl (!b), p.2)
@[simp] theorem eAnd_ (F G : FE) (ρ : En) : eAnd F G ρ = eAnda G (F ρ) := Eq.trans rfl rfl
@[simp] theorem eAnda_t (G : FE) (ρ : En) : eAnda G (some (.bl true, ρ)) = G ρ := Eq.trans rfl rfl
@[simp] theorem eAnda_f (G : FE) (ρ : En) : eAnda G (some (.bl false, ρ)) = some (.bl false, ρ) := Eq.trans rfl rfl
@[simp] theorem eOr_ (F G : FE) (ρ : En) : eOr F G ρ = eOra G (F ρ) := Eq.trans rfl rfl
@[simp] theorem eOra_t (G : FE) (ρ : En) : eOra G (some (.bl true, ρ)) = some (.bl true, ρ) := Eq.trans rfl rfl
@[simp] theorem eOra_f (G : FE) (ρ : En) : eOra G (some (.bl false, ρ)) = G ρ := Eq.trans rfl rfl
@[simp] theorem eNot_ (F : FE) (ρ : En) : eNot F ρ = eNota (F ρ) := Eq.trans rfl rfl
@[simp] theorem eNota_s (b : Bool) (ρ : En) : eNota (some (.bl b, ρ)) = some (.bl (!b), ρ) := Eq.trans rfl rfl
def imA (o : Option Sl) (q : Option En) : Option En := bnd o fun s => bnd q fun r => some (s :: r)
@[simp] theorem imA_s (s : Sl) (r : En) : imA (some s) (some r) = some (s :: r) := Eq.trans rfl rfl
@[simp] theorem slI_i (d : D) : slI (some (.im d)) = some (.im d) := Eq.trans rfl rfl
@[simp] theorem imAt_n (ρ : En) : imAt ρ [] = some [] := Eq.trans rfl rfl
@[simp] theorem imAt_c (ρ : En) (j : Nat) (js : List Nat) : imAt ρ (j :: js) = imA (slI ρ[j]?) (imAt ρ js) := Eq.trans rfl rfl
def cGb (T : FT) (F : FE) (fr : En) (r : List D) (o : Option (D × En)) : Option (List D) := bnd o fun q => bnd (cGo T F fr r) fun t => some (q.1 :: t)
def cGa (T : FT) (F : FE) (fr : En) (r : List D) (o : Option (Bool × En)) : Option (List D) := bnd o fun p => if p.1 = true then bnd (F p.2) fun q => bnd (cGo T F fr r) fun t => some (q.1 :: t) else cGo T F fr r
@[simp] theorem cGo_n (T : FT) (F : FE) (fr : En) : cGo T F fr [] = some [] := Eq.trans rfl rfl
@[simp] theorem cGo_c (T : FT) (F : FE) (fr : En) (d : D) (r : List D) : cGo T F fr (d :: r) = cGa T F fr r (T (.im d :: fr)) := Eq.trans rfl rfl
@[simp] theorem cGa_t (T : FT) (F : FE) (fr : En) (r : List D) (ρ : En) : cGa T F fr r (some (true, ρ)) = cGb T F fr r (F ρ) := Eq.trans rfl rfl
@[simp] theorem cGa_f (T : FT) (F : FE) (fr : En) (r : List D) (ρ : En) : cGa T F fr r (some (false, ρ)) = cGo T F fr r := Eq.trans rfl rfl
@[simp] theorem cGb_s (T : FT) (F : FE) (fr : En) (r : List D) (x : D) (ρ : En) : cGb T F fr r (some (x, ρ)) = cnsO x (cGo T F fr r) := Eq.trans rfl rfl
@[simp] theorem items_l (xs : List D) : items (.lst xs) = some xs := Eq.trans rfl rfl
@[simp] theorem items_s (z : Str) : items (.str z) = some (chs z) := Eq.trans rfl rfl
@[simp] theorem items_t (xs : List D) : items (.tup xs) = some xs := Eq.trans rfl rfl
def eLCd (ρ : En) (xs : List D) (o : Option (List D)) : Option (D × En) := bnd o fun ys => if xs.length ≤ sizeLine then some (.lst ys, ρ) else none
def eLCc (T : FT) (F : FE) (ρ : En) (xs : List D) (o : Option En) : Option (D × En) := bnd o fun fr => eLCd ρ xs (cGo T F fr xs)
def eLCb (js : List Nat) (T : FT) (F : FE) (ρ : En) (o : Option (List D)) : Option (D × En) := bnd o fun xs => eLCc T F ρ xs (imAt ρ js)
def eLCa (js : List Nat) (T : FT) (F : FE) (o : Option (D × En)) : Option (D × En) := bnd o fun p => eLCb js T F p.2 (items p.1)
@[simp] theorem eLC_ (js : List Nat) (I : FE) (T : FT) (F : FE) (ρ : En) : eLC js I T F ρ = eLCa js T F (I ρ) := Eq.trans rfl rfl
@[simp] theorem eLCa_s (js : List Nat) (T : FT) (F : FE) (x : D) (ρ : En) : eLCa js T F (some (x, ρ)) = eLCb js T F ρ (items x) := Eq.trans rfl rfl
@[simp] theorem eLCb_s (js : List Nat) (T : FT) (F : FE) (ρ : En) (xs : List D) : eLCb js T F ρ (some xs) = eLCc T F ρ xs (imAt ρ js) := Eq.trans rfl rfl
@[simp] theorem eLCc_s (T : FT) (F : FE) (ρ : En) (xs : List D) (fr : En) : eLCc T F ρ xs (some fr) = eLCd ρ xs (cGo T F fr xs) := Eq.trans rfl rfl
@[simp] theorem eLCd_s (ρ : En) (xs ys : List D) : eLCd ρ xs (some ys) = if xs.length ≤ sizeLine then some (.lst ys, ρ) else none := Eq.trans rfl rfl
@[simp] theorem sN_ (ρ : En) : sN ρ = some (.nx ρ) := Eq.trans rfl rfl
def sSeqa (G : FS) (o : Option Res) : Option Res := bnd o fun r => nxR G r
@[simp] theorem sSeq_ (F G : FS) (ρ : En) : sSeq F G ρ = sSeqa G (F ρ) := Eq.trans rfl rfl
@[simp] theorem sSeqa_n (G : FS) (ρ : En) : sSeqa G (some (.nx ρ)) = G ρ := Eq.trans rfl rfl
@[simp] theorem sSeqa_r (G : FS) (d : D) (ρ : En) : sSeqa G (some (.rt d ρ)) = some (.rt d ρ) := Eq.trans rfl rfl
@[simp] theorem sSeqa_b (G : FS) (ρ : En) : sSeqa G (some (.bk ρ)) = some (.bk ρ) := Eq.trans rfl rfl
@[simp] theorem sSeqa_c (G : FS) (ρ : En) : sSeqa G (some (.ct ρ)) = some (.ct ρ) := Eq.trans rfl rfl
def sSeta (i : Nat) (o : Option (D × En)) : Option Res := bnd o fun p => some (.nx (p.2.set i (.im p.1)))
@[simp] theorem sSet_ (i : Nat) (F : FE) (ρ : En) : sSet i F ρ = sSeta i (F ρ) := Eq.trans rfl rfl
@[simp] theorem sSeta_s (i : Nat) (x : D) (ρ : En) : sSeta i (some (x, ρ)) = some (.nx (ρ.set i (.im x))) := Eq.trans rfl rfl
@[simp] theorem setAll_c (i : Nat) (is : List Nat) (d : D) (ds : List D) (ρ : En) : setAll (i :: is) (d :: ds) ρ = setAll is ds (ρ.set i (.im d)) := Eq.trans rfl rfl
@[simp] theorem setAll_n (ds : List D) (ρ : En) : setAll [] ds ρ = ρ := by cases ds <;> exact Eq.trans rfl rfl
@[simp] theorem tupX_l (xs : List D) : tupX (.lst xs) = some xs := Eq.trans rfl rfl
@[simp] theorem tupX_t (xs : List D) : tupX (.tup xs) = some xs := Eq.trans rfl rfl
@[simp] theorem gN_ (i : Nat) (d : D) (ρ : En) : gN i d ρ = some (ρ.set i (.im d)) := Eq.trans rfl rfl
def gTa (is : List Nat) (ρ : En) (o : Option (List D)) : Option En := bnd o fun xs => if xs.length = is.length then some (setAll is xs ρ) else none
@[simp] theorem gT_ (is : List Nat) (d : D) (ρ : En) : gT is d ρ = gTa is ρ (tupX d) := Eq.trans rfl rfl
@[simp] theorem gTa_s (is : List Nat) (ρ : En) (xs : List D) : gTa is ρ (some xs) = if xs.length = is.length then some (setAll is xs ρ) else none := Eq.trans rfl rfl
def sTupb (o : Option En) : Option Res := bnd o fun ρ => some (.nx ρ)
def sTupa (is : List Nat) (o : Option (D × En)) : Option Res := bnd o fun p => sTupb (gT is p.1 p.2)
@[simp] theorem sTup_ (is : List Nat) (F : FE) (ρ : En) : sTup is F ρ = sTupa is (F ρ) := Eq.trans rfl rfl
@[simp] theorem sTupa_s (is : List Nat) (x : D) (ρ : En) : sTupa is (some (x, ρ)) = sTupb (gT is x ρ) := Eq.trans rfl rfl
@[simp] theorem sTupb_s (ρ : En) : sTupb (some ρ) = some (.nx ρ) := Eq.trans rfl rfl
def sIfa (F G : FS) (o : Option (Bool × En)) : Option Res := bnd o fun p => if p.1 = true then F p.2 else G p.2
@[simp] theorem sIf_ (T : FT) (F G : FS) (ρ : En) : sIf T F G ρ = sIfa F G (T ρ) := Eq.trans rfl rfl
@[simp] theorem sIfa_t (F G : FS) (ρ : En) : sIfa F G (some (true, ρ)) = F ρ := Eq.trans rfl rfl
@[simp] theorem sIfa_f (F G : FS) (ρ : En) : sIfa F G (some (false, ρ)) = G ρ := Eq.trans rfl rfl
def sReta (o : Option (D × En)) : Option Res := bnd o fun p => some (.rt p.1 p.2)
@[simp] theorem sRet_ (F : FE) (ρ : En) : sRet F ρ = sReta (F ρ) := Eq.trans rfl rfl
@[simp] theorem sReta_s (x : D) (ρ : En) : sReta (some (x, ρ)) = some (.rt x ρ) := Eq.trans rfl rfl
@[simp] theorem sRetN_ (ρ : En) : sRetN ρ = some (.rt .non ρ) := Eq.trans rfl rfl
@[simp] theorem sBk_ (ρ : En) : sBk ρ = some (.bk ρ) := Eq.trans rfl rfl
@[simp] theorem sCt_ (ρ : En) : sCt ρ = some (.ct ρ) := Eq.trans rfl rfl
def fGb (g : D → En → Option En) (B : FS) (r : List D) (o : Option Res) : Option Res := bnd o fun z => goR (fGo g B r) z
def fGa (g : D → En → Option En) (B : FS) (r : List D) (o : Option En) : Option Res := bnd o fun ρ1 => fGb g B r (B ρ1)
theorem fGo_c (g : D → En → Option En) (B : FS) (d : D) (r : List D) (ρ : En) : fGo g B (d :: r) ρ = fGa g B r (g d ρ) := Eq.trans rfl rfl
@[simp] theorem fGa_s (g : D → En → Option En) (B : FS) (r : List D) (ρ : En) : fGa g B r (some ρ) = fGb g B r (B ρ) := Eq.trans rfl rfl
@[simp] theorem fGb_n (g : D → En → Option En) (B : FS) (r : List D) (ρ : En) : fGb g B r (some (.nx ρ)) = fGo g B r ρ := Eq.trans rfl rfl
@[simp] theorem fGb_c (g : D → En → Option En) (B : FS) (r : List D) (ρ : En) : fGb g B r (some (.ct ρ)) = fGo g B r ρ := Eq.trans rfl rfl
@[simp] theorem fGb_b (g : D → En → Option En) (B : FS) (r : List D) (ρ : En) : fGb g B r (some (.bk ρ)) = some (.nx ρ) := Eq.trans rfl rfl
@[simp] theorem fGb_r (g : D → En → Option En) (B : FS) (r : List D) (d : D) (ρ : En) : fGb g B r (some (.rt d ρ)) = some (.rt d ρ) := Eq.trans rfl rfl
def sForb (g : D → En → Option En) (B : FS) (ρ : En) (o : Option (List D)) : Option Res := bnd o fun xs => fGo g B xs ρ
def sFora (g : D → En → Option En) (B : FS) (o : Option (D × En)) : Option Res := bnd o fun p => sForb g B p.2 (items p.1)
@[simp] theorem sFor_ (g : D → En → Option En) (F : FE) (B : FS) (ρ : En) : sFor g F B ρ = sFora g B (F ρ) := Eq.trans rfl rfl
@[simp] theorem sFora_s (g : D → En → Option En) (B : FS) (x : D) (ρ : En) : sFora g B (some (x, ρ)) = sForb g B ρ (items x) := Eq.trans rfl rfl
@[simp] theorem sForb_s (g : D → En → Option En) (B : FS) (ρ : En) (xs : List D) : sForb g B ρ (some xs) = fGo g B xs ρ := Eq.trans rfl rfl
def rng1a (o : Option (D × En)) : Option (List D × En) := bnd o fun p => bnd (intI p.1) fun j => if -(2 ^ 62) ≤ j ∧ j < 2 ^ 62 then some (rngD 0 j.toNat, p.2) else none
@[simp] theorem rng1_ (F : FE) (ρ : En) : rng1 F ρ = rng1a (F ρ) := Eq.trans rfl rfl
@[simp] theorem rng1a_s (j : Int) (ρ : En) : rng1a (some (.int j, ρ)) = if -(2 ^ 62) ≤ j ∧ j < 2 ^ 62 then some (rngD 0 j.toNat, ρ) else none := Eq.trans rfl rfl
def rng2b (x : D) (o : Option (D × En)) : Option (List D × En) := bnd o fun q => bnd (intI x) fun i => bnd (intI q.1) fun j => if -(2 ^ 62) ≤ i ∧ i < 2 ^ 62 ∧ -(2 ^ 62) ≤ j ∧ j < 2 ^ 62 then some (rngD i (j - i).toNat, q.2) else none
def rng2a (G : FE) (o : Option (D × En)) : Option (List D × En) := bnd o fun p => rng2b p.1 (G p.2)
@[simp] theorem rng2_ (F G : FE) (ρ : En) : rng2 F G ρ = rng2a G (F ρ) := Eq.trans rfl rfl
@[simp] theorem rng2a_s (G : FE) (x : D) (ρ : En) : rng2a G (some (x, ρ)) = rng2b x (G ρ) := Eq.trans rfl rfl
@[simp] theorem rng2b_s (i j : Int) (ρ : En) : rng2b (.int i) (some (.int j, ρ)) = if -(2 ^ 62) ≤ i ∧ i < 2 ^ 62 ∧ -(2 ^ 62) ≤ j ∧ j < 2 ^ 62 then some (rngD i (j - i).toNat, ρ) else none := Eq.trans rfl rfl
def sForRa (g : D → En → Option En) (B : FS) (o : Option (List D × En)) : Option Res := bnd o fun p => fGo g B p.1 p.2
@[simp] theorem sForR_ (g : D → En → Option En) (X : FA) (B : FS) (ρ : En) : sForR g X B ρ = sForRa g B (X ρ) := Eq.trans rfl rfl
@[simp] theorem sForRa_s (g : D → En → Option En) (B : FS) (xs : List D) (ρ : En) : sForRa g B (some (xs, ρ)) = fGo g B xs ρ := Eq.trans rfl rfl
def wGb (T : FT) (B : FS) (n : Nat) (o : Option Res) : Option Res := bnd o fun z => goR (wGo T B n) z
def wGa (T : FT) (B : FS) (n : Nat) (o : Option (Bool × En)) : Option Res := bnd o fun p => if p.1 = true then wGb T B n (B p.2) else some (.nx p.2)
@[simp] theorem wGa_t (T : FT) (B : FS) (n : Nat) (ρ : En) : wGa T B n (some (true, ρ)) = wGb T B n (B ρ) := Eq.trans rfl rfl
@[simp] theorem wGa_f (T : FT) (B : FS) (n : Nat) (ρ : En) : wGa T B n (some (false, ρ)) = some (.nx ρ) := Eq.trans rfl rfl
@[simp] theorem wGb_n (T : FT) (B : FS) (n : Nat) (ρ : En) : wGb T B n (some (.nx ρ)) = wGo T B n ρ := Eq.trans rfl rfl
@[simp] theorem wGb_c (T : FT) (B : FS) (n : Nat) (ρ : En) : wGb T B n (some (.ct ρ)) = wGo T B n ρ := Eq.trans rfl rfl
@[simp] theorem wGb_b (T : FT) (B : FS) (n : Nat) (ρ : En) : wGb T B n (some (.bk ρ)) = some (.nx ρ) := Eq.trans rfl rfl
@[simp] theorem wGb_r (T : FT) (B : FS) (n : Nat) (d : D) (ρ : En) : wGb T B n (some (.rt d ρ)) = some (.rt d ρ) := Eq.trans rfl rfl
@[simp] theorem sWhile_ (fuel : En → Nat) (T : FT) (B : FS) (ρ : En) : sWhile fuel T B ρ = wGo T B (fuel ρ) ρ := Eq.trans rfl rfl
def fnA (o : Option Res) : Option D := bnd o fun r => retR r
@[simp] theorem fnA_r (d : D) (ρ : En) : fnA (some (.rt d ρ)) = some d := Eq.trans rfl rfl
@[simp] theorem fnA_n (ρ : En) : fnA (some (.nx ρ)) = some .non := Eq.trans rfl rfl
@[simp] theorem fnD_ (n k : Nat) (B : FS) (ds : List D) : fnD n k B ds = if ds.length = n then fnA (B (ds.map .im ++ List.replicate k .no)) else none := Eq.trans rfl rfl
def oLsta (o : Option (List D × En)) : Option (List D × En) := bnd o fun p => if p.1.length ≤ 1000 then some p else none
@[simp] theorem oLst_ (A : FA) (ρ : En) : oLst A ρ = oLsta (A ρ) := Eq.trans rfl rfl
@[simp] theorem oLsta_s (xs : List D) (ρ : En) : oLsta (some (xs, ρ)) = if xs.length ≤ 1000 then some (xs, ρ) else none := Eq.trans rfl rfl
def oIfa (A B : FA) (o : Option (Bool × En)) : Option (List D × En) := bnd o fun p => if p.1 = true then A p.2 else B p.2
@[simp] theorem oIf_ (T : FT) (A B : FA) (ρ : En) : oIf T A B ρ = oIfa A B (T ρ) := Eq.trans rfl rfl
@[simp] theorem oIfa_t (A B : FA) (ρ : En) : oIfa A B (some (true, ρ)) = A ρ := Eq.trans rfl rfl
@[simp] theorem oIfa_f (A B : FA) (ρ : En) : oIfa A B (some (false, ρ)) = B ρ := Eq.trans rfl rfl
def sOwna (i : Nat) (o : Option (List D × En)) : Option Res := bnd o fun p => some (.nx (p.2.set i (.ow false (.lst p.1))))
@[simp] theorem sOwn_ (i : Nat) (A : FA) (ρ : En) : sOwn i A ρ = sOwna i (A ρ) := Eq.trans rfl rfl
@[simp] theorem sOwna_s (i : Nat) (xs : List D) (ρ : En) : sOwna i (some (xs, ρ)) = some (.nx (ρ.set i (.ow false (.lst xs)))) := Eq.trans rfl rfl
@[simp] theorem owL_s (ds : List D) : owL (some (.ow false (.lst ds))) = some ds := Eq.trans rfl rfl
def sAppc (i : Nat) (x : D) (ρ : En) (o : Option (List D)) : Option Res := bnd o fun ds => if ds.length < 1000000 then some (.nx (ρ.set i (.ow false (.lst (ds ++ [x]))))) else none
def sAppb (i : Nat) (o : Option (D × En)) : Option Res := bnd o fun p => sAppc i p.1 p.2 (owL p.2[i]?)
def sAppa (i : Nat) (F : FE) (ρ : En) (o : Option (List D)) : Option Res := bnd o fun _ => sAppb i (F ρ)
@[simp] theorem sApp_ (i : Nat) (F : FE) (ρ : En) : sApp i F ρ = sAppa i F ρ (owL ρ[i]?) := Eq.trans rfl rfl
@[simp] theorem sAppa_s (i : Nat) (F : FE) (ρ : En) (ds : List D) : sAppa i F ρ (some ds) = sAppb i (F ρ) := Eq.trans rfl rfl
@[simp] theorem sAppb_s (i : Nat) (x : D) (ρ : En) : sAppb i (some (x, ρ)) = sAppc i x ρ (owL ρ[i]?) := Eq.trans rfl rfl
@[simp] theorem sAppc_s (i : Nat) (x : D) (ρ : En) (ds : List D) : sAppc i x ρ (some ds) = if ds.length < 1000000 then some (.nx (ρ.set i (.ow false (.lst (ds ++ [x]))))) else none := Eq.trans rfl rfl
def frza (i : Nat) (ρ : En) : Option Sl → En
  | some (.ow false (.lst ds)) => ρ.set i (.im (.lst ds))
  | _ => ρ
@[simp] theorem frz_ (i : Nat) (ρ : En) : frz i ρ = frza i ρ ρ[i]? := by unfold frz frza; split <;> simp_all
@[simp] theorem frza_o (i : Nat) (ρ : En) (ds : List D) : frza i ρ (some (.ow false (.lst ds))) = ρ.set i (.im (.lst ds)) := Eq.trans rfl rfl
@[simp] theorem frza_i (i : Nat) (ρ : En) (d : D) : frza i ρ (some (.im d)) = ρ := Eq.trans rfl rfl
@[simp] theorem sFrz_ (i : Nat) (F : FS) (ρ : En) : sFrz i F ρ = F (frz i ρ) := Eq.trans rfl rfl
def eLRb (T : FT) (F : FE) (ρ : En) (xs : List D) (o : Option En) : Option (D × En) := bnd o fun fr => eLCd ρ xs (cGo T F fr xs)
def eLRa (js : List Nat) (T : FT) (F : FE) (o : Option (List D × En)) : Option (D × En) := bnd o fun p => eLRb T F p.2 p.1 (imAt p.2 js)
@[simp] theorem eLR_ (js : List Nat) (R : FA) (T : FT) (F : FE) (ρ : En) : eLR js R T F ρ = eLRa js T F (R ρ) := Eq.trans rfl rfl
@[simp] theorem eLRa_s (js : List Nat) (T : FT) (F : FE) (xs : List D) (ρ : En) : eLRa js T F (some (xs, ρ)) = eLRb T F ρ xs (imAt ρ js) := Eq.trans rfl rfl
@[simp] theorem eLRb_s (T : FT) (F : FE) (ρ : En) (xs : List D) (fr : En) : eLRb T F ρ xs (some fr) = eLCd ρ xs (cGo T F fr xs) := Eq.trans rfl rfl
@[simp] theorem isB_non (b : Bool)  : isB b .non = false := Eq.trans rfl rfl
@[simp] theorem isB_int (b : Bool) (c : Int) : isB b (.int c) = false := Eq.trans rfl rfl
@[simp] theorem isB_str (b : Bool) (c : Str) : isB b (.str c) = false := Eq.trans rfl rfl
@[simp] theorem isB_tup (b : Bool) (c : List D) : isB b (.tup c) = false := Eq.trans rfl rfl
@[simp] theorem isB_lst (b : Bool) (c : List D) : isB b (.lst c) = false := Eq.trans rfl rfl
@[simp] theorem isB_bl (b c : Bool) : isB b (.bl c) = decide (c = b) := Eq.trans rfl rfl
def e1Ba (b n : Bool) (o : Option (D × En)) : Option (D × En) := bnd o fun p => some (.bl (if n then !isB b p.1 else isB b p.1), p.2)
@[simp] theorem e1B_ (b n : Bool) (F : FE) (ρ : En) : e1B b n F ρ = e1Ba b n (F ρ) := Eq.trans rfl rfl
@[simp] theorem e1Ba_s (b n : Bool) (x : D) (ρ : En) : e1Ba b n (some (x, ρ)) = some (.bl (if n then !isB b x else isB b x), ρ) := Eq.trans rfl rfl
end Fx
set_option maxRecDepth 100000
namespace Fx
open PySem PySem.Spec PyProof.Rows L2
theorem RS.heNone {K : PySem.W.Frag} {c : FC} {H0 H : Hp} {ρ : En} {σ : L2.St} (R : RS K c H0 H ρ σ) {p : Addr} (hp : H p = none) : c.He p = none := by
  cases q : c.He p with
  | none => rfl
  | some u =>
    by_cases hb : p ∈ c.Ap
    · exact absurd hp (R.apt p hb)
    · rw [R.keep p u q hb] at hp; cases hp
theorem RS.setOwn {K : PySem.W.Frag} {c : FC} {H0 H : Hp} {ρ : En} {σ : L2.St} {p : Addr} {u : HO} {o : MO} (R : RS K c H0 H ρ σ) (i : Nat) (hp : H p = none) (r : OwOk K H0 (upd H p u) p o) :
    RS K c H0 (upd H p u) (ρ.set i (.ow false o)) (σ.set i (some (.ref p))) := by
  have hl := R.len
  have h0 : H0 p = none := R.same.free hp
  have he := R.heNone hp
  have up : ∀ b v, H b = some v → (upd H p u) b = some v := fun b v e => by rw [upd_ne (ne_of_none e hp)]; exact e
  have other : ∀ (j : Nat) (sl : Sl), j ≠ i → (ρ.set i (.ow false o))[j]? = some sl → ρ[j]? = some sl := fun j sl hj e => by rwa [List.getElem?_set_ne (Ne.symm hj)] at e
  have otherS : ∀ (j : Nat), j ≠ i → (σ.set i (some (V.ref p)))[j]? = σ[j]? := fun j hj => List.getElem?_set_ne (Ne.symm hj)
  have same : ∀ (sl : Sl), (ρ.set i (.ow false o))[i]? = some sl → sl = .ow false o ∧ i < ρ.length := fun sl e => by
    by_cases hi : i < ρ.length
    · rw [List.getElem?_set_self hi] at e; exact ⟨(Option.some.inj e).symm, hi⟩
    · rw [List.getElem?_eq_none (by rw [List.length_set]; omega)] at e; cases e
  have ownNe : ∀ (j : Nat) (b : Bool) (o : MO) (a : Addr), ρ[j]? = some (.ow b o) → σ[j]? = some (some (.ref a)) → a ≠ p := fun j b o a e1 e2 => by
    obtain ⟨a', x, _, _, w⟩ := R.ow j b o e1
    rw [x] at e2; cases e2
    obtain ⟨u, q⟩ := w.some
    exact ne_of_none q hp
  refine ⟨fun b u e => up b u (R.same b u e), R.init, R.fresh, fun b o e n => up b o (R.keep b o e n), fun a ha e => ?_, by rw [List.length_set, List.length_set, hl], fun j d' e => ?_, fun j bb o' e => ?_, fun j k b1 b2 o1 o2 a e1 e2 e3 e4 => ?_⟩
  · cases q : H a with
    | none => exact R.apt a ha q
    | some v => rw [up a v q] at e; cases e
  · by_cases hj : j = i
    · subst hj; obtain ⟨e', _⟩ := same _ e; cases e'
    · rw [otherS j hj]; exact R.im j d' (other j _ hj e)
  · by_cases hj : j = i
    · subst hj
      obtain ⟨e', hi⟩ := same _ e
      cases e'
      exact ⟨p, by rw [List.getElem?_set_self (by omega)], h0, he, r⟩
    · rw [otherS j hj]
      obtain ⟨a, x, y, z, w⟩ := R.ow j bb o' (other j _ hj e)
      exact ⟨a, x, y, z, w.step (Same.refl _) fun v q => up a v q⟩
  · by_cases hj : j = i
    · by_cases hk : k = i
      · omega
      · subst hj
        obtain ⟨_, hi⟩ := same _ e1
        rw [List.getElem?_set_self (by omega)] at e3
        cases e3
        rw [otherS k hk] at e4
        exact absurd rfl (ownNe k b2 o2 _ (other k _ hk e2) e4)
    · by_cases hk : k = i
      · subst hk
        obtain ⟨_, hi⟩ := same _ e2
        rw [List.getElem?_set_self (by omega)] at e4
        cases e4
        rw [otherS j hj] at e3
        exact absurd rfl (ownNe j b1 o1 _ (other j _ hj e1) e3)
      · rw [otherS j hj] at e3; rw [otherS k hk] at e4
        exact R.ne j k b1 b2 o1 o2 a (other j _ hj e1) (other k _ hk e2) e3 e4
theorem RS.lent {K : PySem.W.Frag} {c : FC} {H0 H H0' H' : Hp} {ρ : En} {σ : L2.St} {a : Addr} {b : Bool} {o o' : MO} (R : RS K c H0 H ρ σ) {i : Nat} (hi : ρ[i]? = some (.ow b o)) (ha : σ[i]? = some (some (.ref a)))
    (s0 : Same H0 H0') (s' : Same H0' H') (kp : ∀ x u, H x = some u → x ≠ a → H' x = some u) (fr : ∀ x u, H0' x = some u → H0 x = some u ∨ H x = none) (r : OwOk K H0' H' a o') :
    RS K c H0' H' (ρ.set i (.ow b o')) σ := by
  obtain ⟨a', x, y, z, w⟩ := R.ow i b o hi
  rw [ha] at x; cases x
  obtain ⟨ua, qa⟩ := w.some
  have il : i < ρ.length := (List.getElem?_eq_some_iff.mp hi).1
  have n0 : ∀ x, H0 x = none → H x ≠ none → H0' x = none := fun x h1 h2 => by
    cases q : H0' x with
    | none => rfl
    | some u =>
      rcases fr x u q with h | h
      · rw [h1] at h; cases h
      · exact absurd h h2
  have other : ∀ (j : Nat) (sl : Sl), j ≠ i → (ρ.set i (.ow b o'))[j]? = some sl → ρ[j]? = some sl := fun j sl hj e => by rwa [List.getElem?_set_ne (Ne.symm hj)] at e
  have same : ∀ (sl : Sl), (ρ.set i (.ow b o'))[i]? = some sl → sl = .ow b o' := fun sl e => by
    rw [List.getElem?_set_self il] at e; exact (Option.some.inj e).symm
  have was : ∀ (j : Nat) (bb : Bool) (oo : MO), (ρ.set i (.ow b o'))[j]? = some (.ow bb oo) → ∃ bb o'', ρ[j]? = some (.ow bb o'') := fun j bb oo e => by
    by_cases hj : j = i
    · exact ⟨b, o, by rw [hj]; exact hi⟩
    · exact ⟨bb, oo, other j _ hj e⟩
  refine ⟨s', R.init.trans s0, fun x u e => ?_, fun x u e n => ?_, fun x hx e => ?_, by rw [List.length_set]; exact R.len, fun j d' e => ?_, fun j bb oo e => ?_, fun j k b1 b2 o1 o2 x e1 e2 e3 e4 => ?_⟩
  · rcases fr x u e with h | h
    · exact R.fresh x u h
    · exact .inr (R.heNone h)
  · have : x ≠ a := fun h => by
      cases b with
      | true => exact n (h ▸ z)
      | false =>
        have z' : c.He a = none := z
        rw [h, z'] at e; cases e
    exact kp x u (R.keep x u e n) this
  · by_cases h : x = a
    · obtain ⟨u, q⟩ := r.some
      rw [h, q] at e; cases e
    · cases q : H x with
      | none => exact R.apt x hx q
      | some u => rw [kp x u q h] at e; cases e
  · by_cases hj : j = i
    · subst hj; cases same _ e
    · obtain ⟨v, a1, a2⟩ := R.im j d' (other j _ hj e)
      exact ⟨v, a1, Rep.mono s0 _ a2⟩
  · by_cases hj : j = i
    · subst hj
      cases same _ e
      exact ⟨a, ha, n0 a y (by rw [qa]; intro h; cases h), z, r⟩
    · have q' := other j _ hj e
      obtain ⟨x, x1, y1, z1, w1⟩ := R.ow j bb oo q'
      have nx : x ≠ a := fun h => hj (R.ne j i bb b oo o x q' hi x1 (by rw [h]; exact ha))
      obtain ⟨u, qu⟩ := w1.some
      exact ⟨x, x1, n0 x y1 (by rw [qu]; intro h; cases h), z1, w1.step s0 fun v q => kp x v q nx⟩
  · obtain ⟨_, p, e1⟩ := was j b1 o1 e1
    obtain ⟨_, q, e2⟩ := was k b2 o2 e2
    exact R.ne j k _ _ p q x e1 e2 e3 e4
theorem RS.mutOwn {K : PySem.W.Frag} {c : FC} {H0 H : Hp} {ρ : En} {σ : L2.St} {a : Addr} {b : Bool} {o o' : MO} {u : HO} (R : RS K c H0 H ρ σ) {i : Nat} (hi : ρ[i]? = some (.ow b o)) (ha : σ[i]? = some (some (.ref a))) (r : OwOk K H0 (upd H a u) a o') :
    RS K c H0 (upd H a u) (ρ.set i (.ow b o')) σ := by
  obtain ⟨a', x, y, z, w⟩ := R.ow i b o hi
  rw [ha] at x; cases x
  refine R.lent hi ha (Same.refl _) (fun x v e => ?_) (fun x v e n => by rw [upd_ne n]; exact e) (fun x v e => .inl e) r
  have : x ≠ a := fun h => by rw [h, y] at e; cases e
  rw [upd_ne this]; exact R.same x v e
theorem RS.freeze {K : PySem.W.Frag} {c : FC} {H0 H : Hp} {ρ : En} {σ : L2.St} {ds : List D} (R : RS K c H0 H ρ σ) {i : Nat} (hi : ρ[i]? = some (.ow false (.lst ds))) :
    ∃ H0', Same H0 H0' ∧ RS K c H0' H (ρ.set i (.im (.lst ds))) σ := by
  obtain ⟨a, x, y, z, vs, e, r⟩ := R.ow i _ _ hi
  have he : c.He a = none := z
  have il : i < ρ.length := (List.getElem?_eq_some_iff.mp hi).1
  have s0 : Same H0 (upd H0 a (.lst vs)) := fun b u q => by rw [upd_ne (ne_of_none q y)]; exact q
  have other : ∀ (j : Nat) (sl : Sl), j ≠ i → (ρ.set i (.im (.lst ds)))[j]? = some sl → ρ[j]? = some sl := fun j sl hj e => by rwa [List.getElem?_set_ne (Ne.symm hj)] at e
  have same : ∀ (sl : Sl), (ρ.set i (.im (.lst ds)))[i]? = some sl → sl = .im (.lst ds) := fun sl e => by
    rw [List.getElem?_set_self il] at e; exact (Option.some.inj e).symm
  refine ⟨upd H0 a (.lst vs), s0, fun b u q => ?_, R.init.trans s0, fun b u q => ?_, R.keep, R.apt, by rw [List.length_set]; exact R.len, fun j d' q => ?_, fun j bb o' q => ?_, fun j k b1 b2 o' o'' b e1 e2 e3 e4 => ?_⟩
  · by_cases h : b = a
    · subst h; rw [upd_same] at q; cases q; exact e
    · rw [upd_ne h] at q; exact R.same b u q
  · by_cases h : b = a
    · subst h; exact .inr he
    · rw [upd_ne h] at q; exact R.fresh b u q
  · by_cases hj : j = i
    · subst hj
      cases same _ q
      refine ⟨.ref a, x, ?_⟩
      unfold Rep
      exact ⟨a, vs, rfl, .inl (.inl upd_same), Reps.mono s0 _ r⟩
    · obtain ⟨v, a1, a2⟩ := R.im j d' (other j _ hj q)
      exact ⟨v, a1, Rep.mono s0 _ a2⟩
  · by_cases hj : j = i
    · subst hj; cases same _ q
    · have q' := other j _ hj q
      obtain ⟨b, x1, y1, z1, w1⟩ := R.ow j bb o' q'
      have nb : b ≠ a := fun h => hj (R.ne j i bb false o' _ b q' hi x1 (by rw [h]; exact x))
      exact ⟨b, x1, by rw [upd_ne nb]; exact y1, z1, w1.step s0 fun u q => q⟩
  · by_cases hj : j = i
    · subst hj; cases same _ e1
    · by_cases hk : k = i
      · subst hk; cases same _ e2
      · exact R.ne j k b1 b2 o' o'' b (other j _ hj e1) (other k _ hk e2) e3 e4
def tEo (K : PySem.W.Frag) (A : FA) : TE := fun σ H Q => ∃ c H0 ρ ds ρ', RS K c H0 H ρ σ ∧ A ρ = some (ds, ρ') ∧ ∀ p vs H0' H', Same H0 H0' → RS K c H0' H' ρ' σ → H' p = none → Reps K H0' ds vs → Q (.ref p) (upd H' p (.lst vs))
def XO' (X : Cx) (e : Expr) (A : FA) : Prop := PE X e (tEo X.K A)
theorem owL_eq {o : Option Sl} {ds : List D} (h : owL o = some ds) : o = some (.ow false (.lst ds)) := by
  unfold owL at h
  split at h
  · cases h; rfl
  · cases h
section
variable {X : Cx} {pos : Pos} {e : Expr} {F : FE} {T : FT} {A B : FA}
theorem xoLst {es : List Expr} (h : XA X es A) : XO' X (.List es pos) (oLst A) := PE.wk (pe_lst h) fun σ H Q ⟨c, H0, ρ, ds, ρ', R, f, q⟩ => by
  unfold oLst at f
  obtain ⟨⟨ds', ρ1⟩, h1, f⟩ := bnd_eq f
  obtain ⟨hl, f'⟩ := ifs f
  cases f'
  exact ⟨c, H0, ρ, ds, _, R, h1, fun vs H1 Hh s1 R1 r1 => ⟨by rw [← r1.length]; exact t1000 hl, fun p hp => q p vs H1 Hh s1 R1 hp r1⟩⟩
theorem xown (i : Nat) {x : Str} {pos' : Pos} (hN : X.N.Nodup) (he : XO' X e A) (hi : X.N[i]? = some x := by rfl) (hx : Loc X.env.scope x := by first | exact Or.inl rfl | exact Or.inr rfl) (hs : swapsWith e (some (.Name x pos')) pos.line X.env = pure false := by rfl)
    (hf : X.fn x = true ∨ X.env.scope.names.lookup x = some .local := by first | exact .inl rfl | exact .inr rfl) : XS X (.Assign [.Name x pos'] e pos) (sOwn i A) := PS.wk (ps_set hN hi hx he hs hf) fun Dn σ H ⟨c, H0, ρ, r, R, f, q⟩ => by
  unfold sOwn at f
  obtain ⟨⟨ds, ρ1⟩, h1, f⟩ := bnd_eq f
  have f' : some (Res.nx (ρ1.set i (.ow false (.lst ds)))) = some r := f
  cases f'
  exact ⟨c, H0, ρ, ds, ρ1, R, h1, fun p vs H1 Hh s1 R1 hp r1 => q _ H1 _ s1 (R1.setOwn (o := .lst ds) (u := .lst vs) i hp ⟨vs, upd_same, r1⟩)⟩
theorem xapp (i : Nat) {x : Str} {p1 p2 p3 : Pos} (ha : XA X [e] (aC F aN)) (hN : X.N[i]? = some x := by rfl) (hv : Vis X.env.scope x := by first | exact Or.inl rfl | exact Or.inr (Or.inl rfl) | exact Or.inr (Or.inr rfl)) (hd : (x == ("__debug__" : Str)) = false := by decide)
    (hcd : (x == ("__classdict__" : Str)) = false := by decide) (hbase : attributeBase (.Name x p1) "append" X.env (eval (.Name x p1) X.env) = eval (.Name x p1) X.env := by rfl)
    (hfew : ((backTo p3 (starEach [e] X.env)).all (fun x => !x.1) && (backToKw p3 (keywordEach [] X.env)).all (fun x => x.1.isSome) && decide ([e].length + ([] : List Keyword).length + (if ([] : List Keyword).isEmpty then 0 else 1) < 30)) = true := by rfl)
    (hline : (p2.endLine == p3.line) = true := by rfl) (hst : starEach [e] X.env = (false, eval e X.env) :: starEach [] X.env := by rfl) (hpl : (backTo p3 (starEach [] X.env)).any (·.1) = false := by rfl)
    (hs : swapsWith (.Call (.Attribute (.Name x p1) "append" p2) [e] [] p3) none pos.line X.env = pure false := by rfl) :
    XS X (.Expr (.Call (.Attribute (.Name x p1) "append" p2) [e] [] p3) pos) (sApp i F) :=
  PS.wk (ps_expr (pe_bm PySem.F.plainAttrs_list PySem.F.slot_list_append PySem.F.type_list_append mt_append (pe_var hN hv hd hcd) ha hbase hfew hline hst hpl) hs) fun Dn σ H ⟨c, H0, ρ, r, R, f, q⟩ => by
    unfold sApp at f
    obtain ⟨ds0, h0, f⟩ := bnd_eq f
    obtain ⟨⟨d, ρ1⟩, h1, f⟩ := bnd_eq f
    obtain ⟨ds, h2, f⟩ := bnd_eq f
    dsimp only at h2 f
    obtain ⟨hl, f'⟩ := ifs f
    cases f'
    obtain ⟨a, x1, _, _, vs0, y1, _⟩ := R.ow i _ _ (owL_eq h0)
    refine ⟨.ref a, x1, .inl ⟨rfl, vs0, SqL.of y1⟩, c, H0, ρ, [d], ρ1, R, by unfold aC aN; rw [h1]; rfl, fun vs H1 Hh s1 R1 r1 => ?_⟩
    obtain ⟨v, rfl, rv⟩ := Reps.v1 r1
    obtain ⟨a', x2, _, _, ws, y2, z2⟩ := R1.ow i _ _ (owL_eq h2)
    rw [x1] at x2; cases x2
    refine ⟨a, ws, v, rfl, rfl, y2, ?_, ?_⟩
    · rw [← z2.length]
      exact Nat.lt_of_lt_of_le hl (by rw [sizeLine_eq]; decide)
    · exact q σ H1 _ s1 (R1.mutOwn (o' := .lst (ds ++ [d])) (u := .lst (ws ++ [v])) (owL_eq h2) x1 ⟨_, upd_same, z2.app (Reps.one rv)⟩)
theorem xfrz (i : Nat) {st : Stmt} {G : FS} (h : XS X st G) : XS X st (sFrz i G) := PS.wk h fun Dn σ H ⟨c, H0, ρ, r, R, f, q⟩ => by
  unfold sFrz frz at f
  cases z : ρ[i]? with
  | none => rw [z] at f; exact ⟨c, H0, ρ, r, R, f, q⟩
  | some sl =>
    rw [z] at f
    cases sl with
    | no => exact ⟨c, H0, ρ, r, R, f, q⟩
    | im d => exact ⟨c, H0, ρ, r, R, f, q⟩
    | ow b o =>
      cases b with
      | true => exact ⟨c, H0, ρ, r, R, f, q⟩
      | false =>
      cases o with
      | dic kds => exact ⟨c, H0, ρ, r, R, f, q⟩
      | lst ds =>
        obtain ⟨H0', s0, R'⟩ := R.freeze z
        exact ⟨c, H0', _, r, R', f, q.mono s0⟩
end
section
variable {X : Cx} {scope sc : Scope} {x : Str} {frees : List Str} {js : List Nat} {px pos p pos' : Pos} {elt a b : Expr} {ifs : List Expr} {F G I : FE} {T : FT}
theorem eLR_inv {R : FA} {ρ ρ' : En} {d : D} (h : eLR js R T F ρ = some (d, ρ')) : ∃ xs fr ys, R ρ = some (xs, ρ') ∧ imAt ρ' js = some fr ∧ cGo T F fr xs = some ys ∧ xs.length ≤ sizeLine ∧ d = .lst ys := by
  unfold eLR at h
  obtain ⟨⟨xs, ρ1⟩, h1, h⟩ := bnd_eq h
  obtain ⟨fr, h3, h⟩ := bnd_eq h
  obtain ⟨ys, h4, h⟩ := bnd_eq h
  dsimp only at h3 h4 h
  obtain ⟨hz, h⟩ := Fx.ifs h
  cases h
  exact ⟨xs, fr, ys, h1, h3, h4, hz, rfl⟩
theorem xlr1 (hm : X.mg "range" = none) (hc : X.calm = true) (hsc : X.env.scope = sc) (B : ScB X.N sc scope x frees js) (ha : XE X a F) (ht : ∀ s H C fp, XTs (cxB X (x :: frees) scope s H C fp) ifs T) (he : ∀ s H C fp, XE (cxB X (x :: frees) scope s H C fp) elt I)
    (hgl : Gl X "range" := by rfl) (hst : starEach [a] X.env = [(false, eval a X.env)] := by rfl)
    (hs : ∀ v, foldedSetIterable (.Call (.Name "range" p) [a] [] pos') X.env v = pure v := by intro _; rfl) : XE X (.ListComp elt [⟨.Name x px, .Call (.Name "range" p) [a] [] pos', ifs, 0⟩] scope pos) (eLR js (rng1 F) T I) :=
  PE.wk (pe_lc (tt := tTt X.K T) (te := tE X.K I) hc hsc B (pi_range1 hgl hm (pa_cons ha pa_nil hst) hst) ht he hs) fun σ H Q ⟨c, H0, ρ, d, ρ', R, f, q⟩ => by
    obtain ⟨xs, fr, ys, h1, h3, h4, hz, rfl⟩ := eLR_inv f
    unfold rng1 at h1
    obtain ⟨⟨d1, ρ1⟩, g1, h1⟩ := bnd_eq h1
    obtain ⟨i, g3, h1⟩ := bnd_eq h1
    dsimp only at g3 h1
    obtain ⟨hj, h1⟩ := Fx.ifs h1
    cases h1
    refine ⟨c, H0, ρ, d1, _, R, g1, fun v H1 Hh s1 R1 r1 => ?_⟩
    cases d1 with
    | int k =>
      have e : k = i := Option.some.inj g3
      subst e
      unfold Rep at r1; subst r1
      refine ⟨k, rfl, hj.1, hj.2, lc_of R1 h3 h4 hz (yields_rng 0 k.toNat) fun vs H3 Hh3 s3 R3 r3 => fun p hp => ?_⟩
      have S := Step.alloc (o := .lst vs) R3.same hp
      refine q _ _ _ (s1.trans (s3.trans S.s0)) (R3.after S) ?_
      unfold Rep
      exact ⟨p, vs, rfl, .inl (.inl upd_same), Reps.mono S.s0 _ r3⟩
    | _ => cases g3
end
end Fx
namespace Fx
open PySem
def dBand : D → D → Option D
  | .int i, .int j => some (.int (Builtin.bitAnd i j))
  | _, _ => none
def dBor : D → D → Option D
  | .int i, .int j => some (.int (Builtin.bitOr i j))
  | _, _ => none
def dBxor : D → D → Option D
  | .int i, .int j => some (.int (Builtin.bitXor i j))
  | _, _ => none
def dShr : D → D → Option D
  | .int i, .int j => if 0 ≤ j then some (.int (i / 2 ^ j.toNat)) else none
  | _, _ => none
def atS (z : Str) (i : Int) : Option D := if z.length ≤ sizeLine then bnd (bnd (dPl z.cps.toList.length i) fun j => z.cps.toList[j]?) fun c => some (.str (chS c)) else none
def dIx2 : D → D → Option D
  | .tup xs, .int i => atD xs i
  | .lst xs, .int i => atD xs i
  | .str z, .int i => atS z i
  | _, _ => none
def bLen2 : List D → Option D
  | [.lst xs] => some (.int xs.length)
  | [.tup xs] => some (.int xs.length)
  | [.str z] => if z.length ≤ sizeLine then some (.int z.length) else none
  | _ => none
def flatD : D → Bool
  | .opq => false
  | .dct _ _ => false
  | .tup _ => false
  | .lst _ => false
  | _ => true
def inD (x : D) (xs : List D) : Bool := xs.any fun y => eqD y x
def okIn (x : D) (xs : List D) : Bool := flatD x && xs.all flatD
def dIn : D → D → Option D
  | x, .tup xs => if okIn x xs = true then some (.bl (inD x xs)) else none
  | x, .lst xs => if okIn x xs = true then some (.bl (inD x xs)) else none
  | _, _ => none
def dNotIn : D → D → Option D
  | x, .tup xs => if okIn x xs = true then some (.bl (!inD x xs)) else none
  | x, .lst xs => if okIn x xs = true then some (.bl (!inD x xs)) else none
  | _, _ => none
def bInt : List D → Option D
  | [.int i] => some (.int i)
  | [.bl b] => some (.int (if b then 1 else 0))
  | _ => none
def bTuple : List D → Option D
  | [.lst xs] => some (.tup xs)
  | [.tup xs] => some (.tup xs)
  | _ => none
def bList : List D → Option D
  | [.lst xs] => some (.lst xs)
  | [.tup xs] => some (.lst xs)
  | _ => none
@[simp] theorem dBand_i (i j : Int) : dBand (.int i) (.int j) = some (.int (Builtin.bitAnd i j)) := Eq.trans rfl rfl
@[simp] theorem dBor_i (i j : Int) : dBor (.int i) (.int j) = some (.int (Builtin.bitOr i j)) := Eq.trans rfl rfl
@[simp] theorem dBxor_i (i j : Int) : dBxor (.int i) (.int j) = some (.int (Builtin.bitXor i j)) := Eq.trans rfl rfl
@[simp] theorem dShr_i (i j : Int) : dShr (.int i) (.int j) = if 0 ≤ j then some (.int (i / 2 ^ j.toNat)) else none := Eq.trans rfl rfl
@[simp] theorem dIx2_t (xs : List D) (i : Int) : dIx2 (.tup xs) (.int i) = atD xs i := Eq.trans rfl rfl
@[simp] theorem dIx2_l (xs : List D) (i : Int) : dIx2 (.lst xs) (.int i) = atD xs i := Eq.trans rfl rfl
@[simp] theorem dIx2_s (z : Str) (i : Int) : dIx2 (.str z) (.int i) = atS z i := Eq.trans rfl rfl
@[simp] theorem bLen2_l (xs : List D) : bLen2 [.lst xs] = some (.int xs.length) := Eq.trans rfl rfl
@[simp] theorem bLen2_t (xs : List D) : bLen2 [.tup xs] = some (.int xs.length) := Eq.trans rfl rfl
@[simp] theorem bLen2_s (z : Str) : bLen2 [.str z] = if z.length ≤ sizeLine then some (.int z.length) else none := Eq.trans rfl rfl
@[simp] theorem dIn_t (x : D) (xs : List D) : dIn x (.tup xs) = if okIn x xs = true then some (.bl (inD x xs)) else none := Eq.trans rfl rfl
@[simp] theorem dIn_l (x : D) (xs : List D) : dIn x (.lst xs) = if okIn x xs = true then some (.bl (inD x xs)) else none := Eq.trans rfl rfl
@[simp] theorem dNotIn_t (x : D) (xs : List D) : dNotIn x (.tup xs) = if okIn x xs = true then some (.bl (!inD x xs)) else none := Eq.trans rfl rfl
@[simp] theorem dNotIn_l (x : D) (xs : List D) : dNotIn x (.lst xs) = if okIn x xs = true then some (.bl (!inD x xs)) else none := Eq.trans rfl rfl
@[simp] theorem bInt_i (i : Int) : bInt [.int i] = some (.int i) := Eq.trans rfl rfl
@[simp] theorem bInt_b (b : Bool) : bInt [.bl b] = some (.int (if b then 1 else 0)) := Eq.trans rfl rfl
@[simp] theorem bTuple_l (xs : List D) : bTuple [.lst xs] = some (.tup xs) := Eq.trans rfl rfl
@[simp] theorem bTuple_t (xs : List D) : bTuple [.tup xs] = some (.tup xs) := Eq.trans rfl rfl
@[simp] theorem bList_l (xs : List D) : bList [.lst xs] = some (.lst xs) := Eq.trans rfl rfl
@[simp] theorem bList_t (xs : List D) : bList [.tup xs] = some (.lst xs) := Eq.trans rfl rfl
end Fx
set_option maxRecDepth 100000
namespace Fx
open PySem PySem.Spec PyProof.Rows L2
section
variable {X : Cx} {K : PySem.W.Frag}
theorem oBand : BinOk X .BitAnd dBand := ⟨_, op_and, opD_int0 fun x y d e => by
  cases x <;> cases y <;> cases e
  exact ⟨_, _, rfl, rfl, fun H => rep_int H _⟩⟩
theorem oBxor : BinOk X .BitXor dBxor := ⟨_, op_xor, opD_int0 fun x y d e => by
  cases x <;> cases y <;> cases e
  exact ⟨_, _, rfl, rfl, fun H => rep_int H _⟩⟩
theorem oShr : BinOk X .RShift dShr := ⟨_, op_shr, opD_int fun x y d e => by
  cases x with
  | int i =>
    cases y with
    | int j =>
      obtain ⟨h, rfl⟩ := ifs (c := 0 ≤ j) e
      exact ⟨_, _, rfl, rfl, h, fun H => rep_int H _⟩
    | _ => cases e
  | _ => cases y <;> cases e⟩
theorem rep_str (H : Hp) (x : Str) : Rep K H (.str x) (.str x) := by unfold Rep; rfl
theorem ixD2 : OpD K (rIx K) dIx2 := fun c H0 H ρ σ x y d vx vy Q R r1 r2 e q => by
  cases y with
  | int i =>
    unfold Rep at r2; subst r2
    cases x with
    | tup ds =>
      unfold Rep at r1
      obtain ⟨p, vs, rfl, s, t⟩ := r1
      obtain ⟨v, e1, e2⟩ := at_of t e
      exact .inr (.inl ⟨p, vs, i, v, rfl, rfl, Same.seqT R.same s, e1, q v H0 H (Same.refl _) R e2⟩)
    | lst ds =>
      unfold Rep at r1
      obtain ⟨p, vs, rfl, s, t⟩ := r1
      obtain ⟨v, e1, e2⟩ := at_of t e
      exact .inl ⟨p, vs, i, v, rfl, rfl, Same.seq R.same s, e1, q v H0 H (Same.refl _) R e2⟩
    | str z =>
      unfold Rep at r1; subst r1
      have e : atS z i = some d := e
      unfold atS at e
      by_cases hz : z.length ≤ sizeLine
      · rw [if_pos hz] at e
        obtain ⟨ch, e1, e2⟩ := bnd_eq e
        have e2 : some (D.str (chS ch)) = some d := e2
        cases e2
        exact .inr (.inr ⟨z, i, ch, rfl, rfl, hz, e1, q _ H0 H (Same.refl _) R (rep_str H0 (chS ch))⟩)
      · rw [if_neg hz] at e; cases e
    | _ => cases e
  | _ => cases x <;> cases e
variable {a b : Expr} {F G : FE} {pos : Pos}
theorem xix2 (ha : XE X a F) (hb : XE X b G) (hs : PlainIx b := by intro _ _; rfl) : XE X (.Subscript a b pos) (e2 dIx2 F G) := PE.wk (pe_ix ix_seq ha hb hs) fun σ H Q h => two_of ixD2 h
theorem callLen2 : BOk X (.builtin "len") bLen2 := ⟨_, call_len_seq.or call_len_str, fun c H0 H ρ σ ds d vs Q R r e q => by
  unfold bLen2 at e
  split at e
  · cases e
    obtain ⟨v, rfl, rv⟩ := Reps.v1 r
    unfold Rep at rv
    obtain ⟨p, ws, rfl, s, t⟩ := rv
    exact .inl ⟨p, ws, rfl, .inl (Same.seq R.same s), by rw [← t.length]; exact q _ H0 H (Same.refl _) R (rep_int _ _)⟩
  · cases e
    obtain ⟨v, rfl, rv⟩ := Reps.v1 r
    unfold Rep at rv
    obtain ⟨p, ws, rfl, s, t⟩ := rv
    exact .inl ⟨p, ws, rfl, .inr (Same.seqT R.same s), by rw [← t.length]; exact q _ H0 H (Same.refl _) R (rep_int _ _)⟩
  · rename_i z
    obtain ⟨hz, rfl⟩ := ifs e
    obtain ⟨v, rfl, rv⟩ := Reps.v1 r
    unfold Rep at rv; subst rv
    exact .inr ⟨z, rfl, hz, q _ H0 H (Same.refl _) R (rep_int _ _)⟩
  · cases e⟩
theorem xTy {T : String} {g : List D → Option D} {A : FA} {x : Str} {p : Pos} {e : Expr} {es : List Expr} (o : BOk X (.type T) g) (hg : Gl X x) (hm : X.mg x = none) (hv : bootBuiltins x = some (.type T)) (ha : XA X (e :: es) A) (hn : x ≠ "__name__" := by decide) (hdb : (x == ("__debug__" : Str)) = false := by decide)
    (he : starEach (e :: es) X.env = (false, eval e X.env) :: starEach es X.env := by rfl) (hpl : (backTo pos (starEach es X.env)).any (·.1) = false := by rfl) : XE X (.Call (.Name x p) (e :: es) [] pos) (eF g A) := by
  obtain ⟨r, h1, h2⟩ := o
  exact PE.wk (pe_callTy h1 hg hm hv ha hn hdb he hpl) fun σ H Q h => eF_of h2 h
theorem callInt : BOk X (.type "int") bInt := ⟨_, call_int1, fun c H0 H ρ σ ds d vs Q R r e q => by
  unfold bInt at e
  split at e
  · cases e
    obtain ⟨v, rfl, rv⟩ := Reps.v1 r
    unfold Rep at rv; subst rv
    exact .inl ⟨_, rfl, q _ H0 H (Same.refl _) R (rep_int _ _)⟩
  · cases e
    obtain ⟨v, rfl, rv⟩ := Reps.v1 r
    unfold Rep at rv; subst rv
    exact .inr ⟨_, rfl, q _ H0 H (Same.refl _) R (rep_int _ _)⟩
  · cases e⟩
theorem callList : BOk X (.type "list") bList := ⟨_, call_list_of, fun c H0 H ρ σ ds d vs Q R r e q => by
  unfold bList at e
  split at e
  · cases e
    obtain ⟨v, rfl, rv⟩ := Reps.v1 r
    unfold Rep at rv
    obtain ⟨p, ws, rfl, s, t⟩ := rv
    refine ⟨p, ws, rfl, .inl (Same.seq R.same s), fun l hl => ?_⟩
    have S := Step.alloc (o := .lst ws) R.same hl
    refine q _ _ _ S.s0 (R.after S) ?_
    unfold Rep
    exact ⟨l, _, rfl, .inl (.inl upd_same), Reps.mono S.s0 _ t⟩
  · cases e
    obtain ⟨v, rfl, rv⟩ := Reps.v1 r
    unfold Rep at rv
    obtain ⟨p, ws, rfl, s, t⟩ := rv
    refine ⟨p, ws, rfl, .inr (Same.seqT R.same s), fun l hl => ?_⟩
    have S := Step.alloc (o := .lst ws) R.same hl
    refine q _ _ _ S.s0 (R.after S) ?_
    unfold Rep
    exact ⟨l, _, rfl, .inl (.inl upd_same), Reps.mono S.s0 _ t⟩
  · cases e⟩
end
end Fx
namespace Fx
open PySem
def getK (k : Str) : List (Str × D) → Option D
  | [] => none
  | q :: r => if q.1 = k then some q.2 else getK k r
def setK (k : Str) (d : D) : List (Str × D) → List (Str × D)
  | [] => []
  | q :: r => (if q.1 = k then (q.1, d) else q) :: setK k d r
def owO : Option Sl → Option (Bool × MO)
  | some (.ow b o) => some (b, o)
  | _ => none
def owD : Option Sl → Option (Bool × List (Str × D))
  | some (.ow b (.dic kds)) => some (b, kds)
  | _ => none
def eDG (i : Nat) (k : Str) (ρ : En) : Option (D × En) := bnd (owD ρ[i]?) fun p => bnd (getK k p.2) fun d => some (d, ρ)
def sDP (i : Nat) (k : Str) (F : FE) (ρ : En) : Option Res := bnd (F ρ) fun p => bnd (owD p.2[i]?) fun q => bnd (getK k q.2) fun _ => if q.2.length < 100 then some (.nx (p.2.set i (.ow q.1 (.dic (setK k p.1 q.2))))) else none
def eFb (i : Nat) (g : MO → List D → Option (D × MO)) (A : FA) (ρ : En) : Option (D × En) := bnd (owO ρ[i]?) fun _ => bnd (A ρ) fun p => bnd (owO p.2[i]?) fun q => bnd (g q.2 p.1) fun z => some (z.1, p.2.set i (.ow q.1 z.2))
def noOw : Sl → Bool
  | .ow _ _ => false
  | _ => true
def sNew (i : Nat) (g : List D → Option MO) (A : FA) (ρ : En) : Option Res := bnd (A ρ) fun p => bnd (g p.1) fun o => some (.nx (p.2.set i (.ow false o)))
@[simp] theorem owO_s (b : Bool) (o : MO) : owO (some (.ow b o)) = some (b, o) := Eq.trans rfl rfl
@[simp] theorem owD_s (b : Bool) (o : List (Str × D)) : owD (some (.ow b (.dic o))) = some (b, o) := Eq.trans rfl rfl
def eDGa (k : Str) (ρ : En) (o : Option (Bool × List (Str × D))) : Option (D × En) := bnd o fun p => bnd (getK k p.2) fun d => some (d, ρ)
@[simp] theorem eDG_ (i : Nat) (k : Str) (ρ : En) : eDG i k ρ = eDGa k ρ (owD ρ[i]?) := Eq.trans rfl rfl
@[simp] theorem eDGa_s (k : Str) (ρ : En) (b : Bool) (kds : List (Str × D)) : eDGa k ρ (some (b, kds)) = mkP (getK k kds) ρ := Eq.trans rfl rfl
def sDPc (i : Nat) (k : Str) (d : D) (ρ : En) (b : Bool) (kds : List (Str × D)) (o : Option D) : Option Res := bnd o fun _ => if kds.length < 100 then some (.nx (ρ.set i (.ow b (.dic (setK k d kds))))) else none
def sDPb (i : Nat) (k : Str) (d : D) (ρ : En) (o : Option (Bool × List (Str × D))) : Option Res := bnd o fun q => sDPc i k d ρ q.1 q.2 (getK k q.2)
def sDPa (i : Nat) (k : Str) (o : Option (D × En)) : Option Res := bnd o fun p => sDPb i k p.1 p.2 (owD p.2[i]?)
@[simp] theorem sDP_ (i : Nat) (k : Str) (F : FE) (ρ : En) : sDP i k F ρ = sDPa i k (F ρ) := Eq.trans rfl rfl
@[simp] theorem sDPa_s (i : Nat) (k : Str) (d : D) (ρ : En) : sDPa i k (some (d, ρ)) = sDPb i k d ρ (owD ρ[i]?) := Eq.trans rfl rfl
@[simp] theorem sDPb_s (i : Nat) (k : Str) (d : D) (ρ : En) (b : Bool) (kds : List (Str × D)) : sDPb i k d ρ (some (b, kds)) = sDPc i k d ρ b kds (getK k kds) := Eq.trans rfl rfl
@[simp] theorem sDPc_s (i : Nat) (k : Str) (d : D) (ρ : En) (b : Bool) (kds : List (Str × D)) (z : D) : sDPc i k d ρ b kds (some z) = if kds.length < 100 then some (.nx (ρ.set i (.ow b (.dic (setK k d kds))))) else none := Eq.trans rfl rfl
def eFbd (i : Nat) (ρ : En) (b : Bool) (o : Option (D × MO)) : Option (D × En) := bnd o fun z => some (z.1, ρ.set i (.ow b z.2))
def eFbc (i : Nat) (g : MO → List D → Option (D × MO)) (ds : List D) (ρ : En) (o : Option (Bool × MO)) : Option (D × En) := bnd o fun q => eFbd i ρ q.1 (g q.2 ds)
def eFbb (i : Nat) (g : MO → List D → Option (D × MO)) (o : Option (List D × En)) : Option (D × En) := bnd o fun p => eFbc i g p.1 p.2 (owO p.2[i]?)
def eFba (i : Nat) (g : MO → List D → Option (D × MO)) (A : FA) (ρ : En) (o : Option (Bool × MO)) : Option (D × En) := bnd o fun _ => eFbb i g (A ρ)
@[simp] theorem eFb_ (i : Nat) (g : MO → List D → Option (D × MO)) (A : FA) (ρ : En) : eFb i g A ρ = eFba i g A ρ (owO ρ[i]?) := Eq.trans rfl rfl
@[simp] theorem eFba_s (i : Nat) (g : MO → List D → Option (D × MO)) (A : FA) (ρ : En) (q : Bool × MO) : eFba i g A ρ (some q) = eFbb i g (A ρ) := Eq.trans rfl rfl
@[simp] theorem eFbb_s (i : Nat) (g : MO → List D → Option (D × MO)) (ds : List D) (ρ : En) : eFbb i g (some (ds, ρ)) = eFbc i g ds ρ (owO ρ[i]?) := Eq.trans rfl rfl
@[simp] theorem eFbc_s (i : Nat) (g : MO → List D → Option (D × MO)) (ds : List D) (ρ : En) (b : Bool) (o : MO) : eFbc i g ds ρ (some (b, o)) = eFbd i ρ b (g o ds) := Eq.trans rfl rfl
@[simp] theorem eFbd_s (i : Nat) (ρ : En) (b : Bool) (d : D) (o : MO) : eFbd i ρ b (some (d, o)) = some (d, ρ.set i (.ow b o)) := Eq.trans rfl rfl
def sNewb (i : Nat) (ρ : En) (o : Option MO) : Option Res := bnd o fun o => some (.nx (ρ.set i (.ow false o)))
def sNewa (i : Nat) (g : List D → Option MO) (o : Option (List D × En)) : Option Res := bnd o fun p => sNewb i p.2 (g p.1)
@[simp] theorem sNew_ (i : Nat) (g : List D → Option MO) (A : FA) (ρ : En) : sNew i g A ρ = sNewa i g (A ρ) := Eq.trans rfl rfl
@[simp] theorem sNewa_s (i : Nat) (g : List D → Option MO) (ds : List D) (ρ : En) : sNewa i g (some (ds, ρ)) = sNewb i ρ (g ds) := Eq.trans rfl rfl
@[simp] theorem sNewb_s (i : Nat) (ρ : En) (o : MO) : sNewb i ρ (some o) = some (.nx (ρ.set i (.ow false o))) := Eq.trans rfl rfl
end Fx
set_option maxRecDepth 100000
namespace Fx
open PySem PySem.Spec PyProof.Rows L2
section
variable {K : PySem.W.Frag} {H : Hp}
end
section
variable {X : Cx} {pos : Pos} {e : Expr} {F : FE} {A : FA}
def spB (K : PySem.W.Frag) (g : MO → List D → Option (D × MO)) : Sp := fun vs H Q _ => ∃ Hi a o vr ds d o', vs = .ref a :: vr ∧ Same Hi H ∧ Hi a = none ∧ OwOk K Hi H a o ∧ Reps K Hi ds vr ∧ g o ds = some (d, o') ∧
  ∀ v Hi' H', Same Hi Hi' → Same Hi' H' → (∀ b u, H b = some u → b ≠ a → H' b = some u) → (∀ b u, Hi' b = some u → Hi b = some u ∨ H b = none) → OwOk K Hi' H' a o' → Rep K Hi' d v → Q v H'
structure DefB (P : Program) (w : World) (K : PySem.W.Frag) (mg : Str → Option Value) (base : Heap) (k : Nat) (x : Str) (g : MO → List D → Option (D × MO)) : Prop where
  ex : ∃ f fd ps, FnOk P w K mg base CX0 k f fd ps (spB K g) ∧ Binds K fd ps [] ∧ PySem.W.keepIn K (.ref f) = true ∧ mg x = some (.ref f)
end
end Fx
set_option maxRecDepth 100000
namespace Fx
open PySem PySem.Spec PyProof.Rows L2
def NewAt (K : PySem.W.Frag) (Hi H : Hp) (o : MO) (a : Addr) (Hi' H' : Hp) : Prop :=
  Same Hi Hi' ∧ Same Hi' H' ∧ Same H H' ∧ (∀ b u, Hi' b = some u → Hi b = some u ∨ H b = none) ∧ Hi' a = none ∧ H a = none ∧ OwOk K Hi' H' a o
def spN (K : PySem.W.Frag) (g : List D → Option MO) : Sp := fun vs H Q _ => ∃ Hi ds o, Same Hi H ∧ Reps K Hi ds vs ∧ g ds = some o ∧ ∀ a Hi' H', NewAt K Hi H o a Hi' H' → Q (.ref a) H'
structure DefN (P : Program) (w : World) (K : PySem.W.Frag) (mg : Str → Option Value) (base : Heap) (k : Nat) (x : Str) (g : List D → Option MO) : Prop where
  ex : ∃ f fd ps, FnOk P w K mg base CX0 k f fd ps (spN K g) ∧ Binds K fd ps [] ∧ PySem.W.keepIn K (.ref f) = true ∧ mg x = some (.ref f)
section
variable {X : Cx} {pos : Pos} {e : Expr} {F : FE} {A : FA}
end
end Fx
namespace Fx
open PySem
def dSl2 : D → Option Int → Option Int → Option D
  | .lst xs, lo, hi => some (.lst (dCut xs lo hi))
  | .tup xs, lo, hi => if dEnd xs.length 0 lo = 0 ∧ dEnd xs.length xs.length hi = xs.length then none else some (.tup (dCut xs lo hi))
  | .str z, lo, hi => if z.length ≤ sizeLine then some (.str (Txt.slice z lo hi)) else none
  | _, _, _ => none
def eSl2 (F : FE) (lo hi : FO) (ρ : En) : Option (D × En) := bnd (F ρ) fun p => bnd (lo p.2) fun l => bnd (hi l.2) fun h => bnd (dSl2 p.1 l.1 h.1) fun d => some (d, h.2)
def inS (x z : Str) : Bool := !(Builtin.Str.occurrences z x 0 z.length 1).isEmpty
def dIn2 : D → D → Option D
  | x, .tup xs => if okIn x xs = true then some (.bl (inD x xs)) else none
  | x, .lst xs => if okIn x xs = true then some (.bl (inD x xs)) else none
  | .str x, .str z => some (.bl (inS x z))
  | _, _ => none
def dNotIn2 : D → D → Option D
  | x, .tup xs => if okIn x xs = true then some (.bl (!inD x xs)) else none
  | x, .lst xs => if okIn x xs = true then some (.bl (!inD x xs)) else none
  | .str x, .str z => some (.bl (!inS x z))
  | _, _ => none
def eSl2c (x : D) (l : Option Int) (o : Option (Option Int × En)) : Option (D × En) := bnd o fun h => bnd (dSl2 x l h.1) fun d => some (d, h.2)
def eSl2b (hi : FO) (x : D) (o : Option (Option Int × En)) : Option (D × En) := bnd o fun l => bnd (hi l.2) fun h => bnd (dSl2 x l.1 h.1) fun d => some (d, h.2)
def eSl2a (lo hi : FO) (o : Option (D × En)) : Option (D × En) := bnd o fun p => bnd (lo p.2) fun l => bnd (hi l.2) fun h => bnd (dSl2 p.1 l.1 h.1) fun d => some (d, h.2)
@[simp] theorem eSl2_ (F : FE) (lo hi : FO) (ρ : En) : eSl2 F lo hi ρ = eSl2a lo hi (F ρ) := Eq.trans rfl rfl
@[simp] theorem eSl2a_s (lo hi : FO) (x : D) (ρ : En) : eSl2a lo hi (some (x, ρ)) = eSl2b hi x (lo ρ) := Eq.trans rfl rfl
@[simp] theorem eSl2b_s (hi : FO) (x : D) (l : Option Int) (ρ : En) : eSl2b hi x (some (l, ρ)) = eSl2c x l (hi ρ) := Eq.trans rfl rfl
@[simp] theorem eSl2c_s (x : D) (l h : Option Int) (ρ : En) : eSl2c x l (some (h, ρ)) = mkP (dSl2 x l h) ρ := Eq.trans rfl rfl
@[simp] theorem dSl2_l (xs : List D) (lo hi : Option Int) : dSl2 (.lst xs) lo hi = some (.lst (dCut xs lo hi)) := Eq.trans rfl rfl
@[simp] theorem dSl2_t (xs : List D) (lo hi : Option Int) : dSl2 (.tup xs) lo hi = if dEnd xs.length 0 lo = 0 ∧ dEnd xs.length xs.length hi = xs.length then none else some (.tup (dCut xs lo hi)) := Eq.trans rfl rfl
@[simp] theorem dSl2_s (z : Str) (lo hi : Option Int) : dSl2 (.str z) lo hi = if z.length ≤ sizeLine then some (.str (Txt.slice z lo hi)) else none := Eq.trans rfl rfl
@[simp] theorem dIn2_t (x : D) (xs : List D) : dIn2 x (.tup xs) = if okIn x xs = true then some (.bl (inD x xs)) else none := by cases x <;> rfl
@[simp] theorem dIn2_l (x : D) (xs : List D) : dIn2 x (.lst xs) = if okIn x xs = true then some (.bl (inD x xs)) else none := by cases x <;> rfl
@[simp] theorem dIn2_s (x z : Str) : dIn2 (.str x) (.str z) = some (.bl (inS x z)) := Eq.trans rfl rfl
@[simp] theorem dNotIn2_t (x : D) (xs : List D) : dNotIn2 x (.tup xs) = if okIn x xs = true then some (.bl (!inD x xs)) else none := by cases x <;> rfl
@[simp] theorem dNotIn2_l (x : D) (xs : List D) : dNotIn2 x (.lst xs) = if okIn x xs = true then some (.bl (!inD x xs)) else none := by cases x <;> rfl
@[simp] theorem dNotIn2_s (x z : Str) : dNotIn2 (.str x) (.str z) = some (.bl (!inS x z)) := Eq.trans rfl rfl
end Fx
set_option maxRecDepth 100000
namespace Fx
open PySem PySem.Spec PyProof.Rows L2
section
variable {X : Cx} {K : PySem.W.Frag} {pos : Pos} {e : Expr} {F : FE}
def rSlS : V → Option Int → Option Int → Hp → VK → Prop := fun x lo hi H Q => ∃ z, x = .str z ∧ z.length ≤ sizeLine ∧ Q (.str (Txt.slice z lo hi)) H
theorem part_ {v : Value} {o : Option Int} (p : IsPart v o) : ∃ l : Option (Int × Tok), v = partValue l ∧ l.map (·.1) = o := by
  cases p with
  | none => exact ⟨none, rfl, rfl⟩
  | int i t => exact ⟨some (i, t), rfl, rfl⟩
theorem sl_str : SlR X rSlS := by
  intro pins s σ H x v vl vu lo hi sl Q I rx hs pl pu h
  obtain ⟨z, rfl, hz, q⟩ := h
  obtain ⟨t, rfl⟩ := rx
  obtain ⟨l, rfl, rfl⟩ := part_ pl
  obtain ⟨u, rfl, rfl⟩ := part_ pu
  refine ⟨"str", _, slot_str_getitem.lookup, typeIs_str _ _ _, wpAny_getItem_str_slice (l := l) (u := u) (st := none) hs rfl ?_⟩
  exact post_val_or_str ⟨Nat.le_trans (Txt.slice_le z _ _) hz, fun t' k => ⟨.str (Txt.slice z (l.map (·.1)) (u.map (·.1))), H, I.tok _, ⟨_, rfl⟩, q⟩⟩
theorem xsl2 {lo hi : Option Expr} {A B : FO} {p2 : Pos} (he : XE X e F) (hl : XO X lo A) (hh : XO X hi B) : XE X (.Subscript e (.Slice lo hi none p2) pos) (eSl2 F A B) := PE.wk (pe_slice ((sl_list.or sl_tup).or sl_str) he hl hh) fun σ H Q ⟨c, H0, ρ, d, ρ', R, f, q⟩ => by
  unfold eSl2 at f
  obtain ⟨⟨x, ρ1⟩, h1, f⟩ := bnd_eq f
  obtain ⟨⟨l, ρ2⟩, h2, f⟩ := bnd_eq f
  obtain ⟨⟨u, ρ3⟩, h3, f⟩ := bnd_eq f
  obtain ⟨d', h4, f⟩ := bnd_eq f
  dsimp only at h2 h3 h4 f
  have f' : some (d', ρ3) = some (d, ρ') := f
  cases f'
  refine ⟨c, H0, ρ, x, ρ1, R, h1, fun v H1 Hh s1 R1 r1 => ?_⟩
  refine ⟨c, H1, ρ1, l, ρ2, R1, h2, fun H2 Hh2 s2 R2 => ?_⟩
  refine ⟨c, H2, ρ2, u, _, R2, h3, fun H3 Hh3 s3 R3 => ?_⟩
  have r3 := Rep.mono s3 x (Rep.mono s2 x r1)
  cases x with
  | lst ds =>
    have e : D.lst (dCut ds l u) = d := Option.some.inj h4
    subst e
    unfold Rep at r3
    obtain ⟨p, vs, rfl, s, t⟩ := r3
    refine .inl (.inl ⟨p, vs, rfl, Same.seq R3.same s, fun p' hp => ?_⟩)
    have S := Step.alloc (o := .lst (cutV vs l u)) R3.same hp
    refine q _ _ _ (s1.trans (s2.trans (s3.trans S.s0))) (R3.after S) ?_
    unfold Rep
    exact ⟨p', _, rfl, .inl (.inl upd_same), Reps.mono S.s0 _ (cut_of t l u)⟩
  | tup ds =>
    have h5 : (if dEnd ds.length 0 l = 0 ∧ dEnd ds.length ds.length u = ds.length then none else some (D.tup (dCut ds l u))) = some d := h4
    by_cases hn : dEnd ds.length 0 l = 0 ∧ dEnd ds.length ds.length u = ds.length
    · rw [if_pos hn] at h5; cases h5
    · rw [if_neg hn] at h5
      cases h5
      unfold Rep at r3
      obtain ⟨p, vs, rfl, s, t⟩ := r3
      refine .inl (.inr ⟨p, vs, rfl, Same.seqT R3.same s, ?_, fun p' hp => ?_⟩)
      · rw [← dEnd_eq, ← dEnd_eq, ← t.length]; exact hn
      have S := Step.alloc (o := .tup (cutV vs l u)) R3.same hp
      refine q _ _ _ (s1.trans (s2.trans (s3.trans S.s0))) (R3.after S) ?_
      unfold Rep
      exact ⟨p', _, rfl, .inl (.inl upd_same), Reps.mono S.s0 _ (cut_of t l u)⟩
  | str z =>
    obtain ⟨hz, rfl⟩ := ifs (c := z.length ≤ sizeLine) h4
    unfold Rep at r3
    exact .inr ⟨z, r3, hz, q _ H3 Hh3 (s1.trans (s2.trans s3)) R3 (rep_str H3 _)⟩
  | _ => cases h4
theorem OpR.or {f : Value → Value → Sem Value} {r r' : R2} (h : OpR X f r) (h' : OpR X f r') : OpR X f (fun x y H Q => r x y H Q ∨ r' x y H Q) := by
  intro pins s σ H x y v u Q I rx ry q
  rcases q with q | q
  · exact h pins s σ H x y v u Q I rx ry q
  · exact h' pins s σ H x y v u Q I rx ry q
end
end Fx
namespace Fx
open PySem
end Fx
set_option maxRecDepth 100000
namespace Fx
open PySem PySem.Spec PyProof.Rows L2
section
variable {X : Cx} {scope sc : Scope} {x : Str} {frees : List Str} {js : List Nat} {px pos p pos' : Pos} {elt iter a : Expr} {ifs : List Expr} {I F : FE} {T : FT}
end
end Fx
set_option maxRecDepth 100000
namespace Fx
open PySem PySem.Spec PyProof.Rows L2
section
variable {X : Cx} {pos : Pos}
end
section
variable {X : Cx} {scope sc : Scope} {x y : Str} {frees : List Str} {js : List Nat} {px py pos spos p pos' : Pos} {elt iter a : Expr} {ifs : List Expr} {I F : FE} {T : FT}
end
end Fx
namespace Fx
open PySem
def ltS (a b : Str) : Bool := decide (a.cps.toList < b.cps.toList)
def insS (x : Str) : List Str → List Str
  | [] => [x]
  | y :: r => if ltS y x = true then y :: insS x r else x :: y :: r
def sortS : List Str → List Str
  | [] => []
  | x :: r => insS x (sortS r)
def txts : List D → Option (List Str)
  | [] => some []
  | .str x :: r => bnd (txts r) fun t => some (x :: t)
  | _ => none
theorem strs_cons (x : Str) (r : List D) : txts (.str x :: r) = bnd (txts r) fun t => some (x :: t) := rfl
def sortL (xs : List D) : Option D := bnd (txts xs) fun ss => if ss.length < 64 then some (.lst ((sortS ss).map .str)) else none
def bSorted : List D → Option D
  | [.tup xs] => sortL xs
  | [.lst xs] => sortL xs
  | _ => none
def lstX : D → Option (List D)
  | .lst xs => some xs
  | _ => none
def strX : D → Option Str
  | .str x => some x
  | _ => none
def joinL (sep : Str) (xs : List D) : Option D := bnd (txts xs) fun ss => if (ss.map (·.length)).sum + ss.length * sep.length ≤ 1000000 then some (.str (Str.join sep ss)) else none
def eJoin (sep : Str) (F : FE) (ρ : En) : Option (D × En) := bnd (F ρ) fun p => bnd (lstX p.1) fun xs => bnd (joinL sep xs) fun d => some (d, p.2)
def pairsD : List D → Option (List (Str × D))
  | [] => some []
  | .tup [.str k, v] :: r => bnd (pairsD r) fun t => some ((k, v) :: t)
  | _ => none
def getL (xs : List D) (k : D) (d : D) : Option D := bnd (pairsD xs) fun kvs => bnd (strX k) fun k => if kvs.length ≤ 1000 ∧ (kvs.map (·.1)).Nodup then some ((getK k kvs).getD d) else none
def tupY : D → Option (List D)
  | .tup xs => some xs
  | _ => none
@[simp] theorem tupY_t (xs : List D) : tupY (.tup xs) = some xs := Eq.trans rfl rfl
def eDGet (E Kf Df : FE) (ρ : En) : Option (D × En) := bnd (E ρ) fun p => bnd (tupY p.1) fun xs => if p.2.all noOw = true then bnd (Kf p.2) fun q => bnd (Df q.2) fun r => bnd (getL xs q.1 r.1) fun d => some (d, r.2) else none
@[simp] theorem noOw_i (d : D) : noOw (.im d) = true := Eq.trans rfl rfl
@[simp] theorem noOw_n : noOw .no = true := Eq.trans rfl rfl
@[simp] theorem bSorted_t (xs : List D) : bSorted [.tup xs] = sortL xs := Eq.trans rfl rfl
@[simp] theorem bSorted_l (xs : List D) : bSorted [.lst xs] = sortL xs := Eq.trans rfl rfl
@[simp] theorem lstX_l (xs : List D) : lstX (.lst xs) = some xs := Eq.trans rfl rfl
def eJoinb (sep : Str) (ρ : En) (o : Option (List D)) : Option (D × En) := bnd o fun xs => bnd (joinL sep xs) fun d => some (d, ρ)
def eJoina (sep : Str) (o : Option (D × En)) : Option (D × En) := bnd o fun p => eJoinb sep p.2 (lstX p.1)
@[simp] theorem eJoin_ (sep : Str) (F : FE) (ρ : En) : eJoin sep F ρ = eJoina sep (F ρ) := Eq.trans rfl rfl
@[simp] theorem eJoina_s (sep : Str) (x : D) (ρ : En) : eJoina sep (some (x, ρ)) = eJoinb sep ρ (lstX x) := Eq.trans rfl rfl
@[simp] theorem eJoinb_s (sep : Str) (ρ : En) (xs : List D) : eJoinb sep ρ (some xs) = mkP (joinL sep xs) ρ := Eq.trans rfl rfl
def eDGetd (xs : List D) (k : D) (o : Option (D × En)) : Option (D × En) := bnd o fun r => bnd (getL xs k r.1) fun d => some (d, r.2)
def eDGetc (Df : FE) (xs : List D) (o : Option (D × En)) : Option (D × En) := bnd o fun q => eDGetd xs q.1 (Df q.2)
def eDGetb (Kf Df : FE) (ρ : En) (o : Option (List D)) : Option (D × En) := bnd o fun xs => if ρ.all noOw = true then eDGetc Df xs (Kf ρ) else none
def eDGeta (Kf Df : FE) (o : Option (D × En)) : Option (D × En) := bnd o fun p => eDGetb Kf Df p.2 (tupY p.1)
@[simp] theorem eDGet_ (E Kf Df : FE) (ρ : En) : eDGet E Kf Df ρ = eDGeta Kf Df (E ρ) := Eq.trans rfl rfl
@[simp] theorem eDGeta_s (Kf Df : FE) (x : D) (ρ : En) : eDGeta Kf Df (some (x, ρ)) = eDGetb Kf Df ρ (tupY x) := Eq.trans rfl rfl
@[simp] theorem eDGetb_s (Kf Df : FE) (ρ : En) (xs : List D) : eDGetb Kf Df ρ (some xs) = if ρ.all noOw = true then eDGetc Df xs (Kf ρ) else none := Eq.trans rfl rfl
@[simp] theorem eDGetc_s (Df : FE) (xs : List D) (k : D) (ρ : En) : eDGetc Df xs (some (k, ρ)) = eDGetd xs k (Df ρ) := Eq.trans rfl rfl
@[simp] theorem eDGetd_s (xs : List D) (k d : D) (ρ : En) : eDGetd xs k (some (d, ρ)) = mkP (getL xs k d) ρ := Eq.trans rfl rfl
theorem strs_map : ∀ (ss : List Str), txts (ss.map .str) = some ss
  | [] => rfl
  | x :: r => by rw [List.map_cons, strs_cons, strs_map r]; rfl
end Fx
namespace Fx
open PySem
def addS (acc : List Str) (x : Str) : List Str := if x ∈ acc then acc else acc ++ [x]
def addAll (acc : List Str) (xs : List Str) : List Str := xs.foldl addS acc
def sortSetL (xs : List D) : Option D := bnd (txts xs) fun ss => if ss.length < 64 then some (.lst ((sortS (addAll [] ss)).map .str)) else none
def bSortSet : List D → Option D
  | [.tup xs] => sortSetL xs
  | [.lst xs] => sortSetL xs
  | _ => none
@[simp] theorem bSortSet_t (xs : List D) : bSortSet [.tup xs] = sortSetL xs := Eq.trans rfl rfl
@[simp] theorem bSortSet_l (xs : List D) : bSortSet [.lst xs] = sortSetL xs := Eq.trans rfl rfl
end Fx
namespace Fx
open PySem
def sqA : D → Option (List D)
  | .tup xs => some xs
  | .lst xs => some xs
  | _ => none
@[simp] theorem sqA_t (xs : List D) : sqA (.tup xs) = some xs := Eq.trans rfl rfl
@[simp] theorem sqA_l (xs : List D) : sqA (.lst xs) = some xs := Eq.trans rfl rfl
end Fx
namespace Fx
open PySem
end Fx
namespace Fx
open PySem
def dctX : D → Option (List Str × List D)
  | .dct ks vs => some (ks, vs)
  | _ => none
@[simp] theorem dctX_d (ks : List Str) (vs : List D) : dctX (.dct ks vs) = some (ks, vs) := Eq.trans rfl rfl
def dDix (d k : D) : Option D := bnd (dctX d) fun q => bnd (strX k) fun s => getK s (q.1.zip q.2)
def dDin (k d : D) : Option D := bnd (dctX d) fun q => bnd (strX k) fun s => some (.bl (getK s (q.1.zip q.2)).isSome)
def dDnin (k d : D) : Option D := bnd (dctX d) fun q => bnd (strX k) fun s => some (.bl (!(getK s (q.1.zip q.2)).isSome))
@[simp] theorem dDix_ (ks : List Str) (vs : List D) (k : Str) : dDix (.dct ks vs) (.str k) = getK k (ks.zip vs) := Eq.trans rfl rfl
@[simp] theorem dDin_ (ks : List Str) (vs : List D) (k : Str) : dDin (.str k) (.dct ks vs) = some (.bl (getK k (ks.zip vs)).isSome) := Eq.trans rfl rfl
@[simp] theorem dDnin_ (ks : List Str) (vs : List D) (k : Str) : dDnin (.str k) (.dct ks vs) = some (.bl (!(getK k (ks.zip vs)).isSome)) := Eq.trans rfl rfl
def eDGt (E Kf Df : FE) (ρ : En) : Option (D × En) := bnd (E ρ) fun p => bnd (dctX p.1) fun q => bnd (Kf p.2) fun k => bnd (Df k.2) fun e => bnd (strX k.1) fun s => some ((getK s (q.1.zip q.2)).getD e.1, e.2)
def eDGtc (q : List Str × List D) (k : D) (o : Option (D × En)) : Option (D × En) := bnd o fun e => bnd (strX k) fun s => some ((getK s (q.1.zip q.2)).getD e.1, e.2)
def eDGtb (q : List Str × List D) (Df : FE) (o : Option (D × En)) : Option (D × En) := bnd o fun k => eDGtc q k.1 (Df k.2)
def eDGta (Kf Df : FE) (o : Option (D × En)) : Option (D × En) := bnd o fun p => bnd (dctX p.1) fun q => eDGtb q Df (Kf p.2)
@[simp] theorem eDGt_ (E Kf Df : FE) (ρ : En) : eDGt E Kf Df ρ = eDGta Kf Df (E ρ) := Eq.trans rfl rfl
@[simp] theorem eDGta_s (Kf Df : FE) (ks : List Str) (vs : List D) (ρ : En) : eDGta Kf Df (some (.dct ks vs, ρ)) = eDGtb (ks, vs) Df (Kf ρ) := Eq.trans rfl rfl
@[simp] theorem eDGtb_s (q : List Str × List D) (Df : FE) (k : D) (ρ : En) : eDGtb q Df (some (k, ρ)) = eDGtc q k (Df ρ) := Eq.trans rfl rfl
@[simp] theorem eDGtc_s (ks : List Str) (vs : List D) (k : Str) (e : D) (ρ : En) : eDGtc (ks, vs) (.str k) (some (e, ρ)) = some ((getK k (ks.zip vs)).getD e, ρ) := Eq.trans rfl rfl
def bListD : List D → Option D
  | [.dct ks vs] => some (.lst (ks.map .str))
  | _ => none
@[simp] theorem bListD_ (ks : List Str) (vs : List D) : bListD [.dct ks vs] = some (.lst (ks.map .str)) := Eq.trans rfl rfl
def eLCD (js : List Nat) (I : FE) (T : FT) (F : FE) (ρ : En) : Option (D × En) := bnd (I ρ) fun p => bnd (dctX p.1) fun q => bnd (imAt p.2 js) fun fr => bnd (cGo T F fr (q.1.map .str)) fun ys => if q.1.length ≤ sizeLine then some (.lst ys, p.2) else none
def eLCDc (n : Nat) (ρ : En) (o : Option (List D)) : Option (D × En) := bnd o fun ys => if n ≤ sizeLine then some (.lst ys, ρ) else none
def eLCDb (q : List Str) (T : FT) (F : FE) (ρ : En) (o : Option En) : Option (D × En) := bnd o fun fr => eLCDc q.length ρ (cGo T F fr (q.map .str))
def eLCDa (js : List Nat) (T : FT) (F : FE) (o : Option (D × En)) : Option (D × En) := bnd o fun p => bnd (dctX p.1) fun q => eLCDb q.1 T F p.2 (imAt p.2 js)
@[simp] theorem eLCD_ (js : List Nat) (I : FE) (T : FT) (F : FE) (ρ : En) : eLCD js I T F ρ = eLCDa js T F (I ρ) := Eq.trans rfl rfl
@[simp] theorem eLCDa_s (js : List Nat) (T : FT) (F : FE) (ks : List Str) (vs : List D) (ρ : En) : eLCDa js T F (some (.dct ks vs, ρ)) = eLCDb ks T F ρ (imAt ρ js) := Eq.trans rfl rfl
@[simp] theorem eLCDb_s (q : List Str) (T : FT) (F : FE) (ρ fr : En) : eLCDb q T F ρ (some fr) = eLCDc q.length ρ (cGo T F fr (q.map .str)) := Eq.trans rfl rfl
@[simp] theorem eLCDc_s (n : Nat) (ρ : En) (ys : List D) : eLCDc n ρ (some ys) = if n ≤ sizeLine then some (.lst ys, ρ) else none := Eq.trans rfl rfl
def owLs : Option Sl → Option (List D)
  | some (.ow _ (.lst ds)) => some ds
  | _ => none
@[simp] theorem owLs_s (b : Bool) (ds : List D) : owLs (some (.ow b (.lst ds))) = some ds := Eq.trans rfl rfl
def eLCO (js : List Nat) (i : Nat) (T : FT) (F : FE) (ρ : En) : Option (D × En) := bnd (owLs ρ[i]?) fun ds => bnd (imAt ρ js) fun fr => bnd (cGo T F fr ds) fun ys => if ds.length ≤ sizeLine then some (.lst ys, ρ) else none
def eLCOb (ds : List D) (T : FT) (F : FE) (ρ : En) (o : Option En) : Option (D × En) := bnd o fun fr => eLCDc ds.length ρ (cGo T F fr ds)
def eLCOa (js : List Nat) (T : FT) (F : FE) (ρ : En) (o : Option (List D)) : Option (D × En) := bnd o fun ds => eLCOb ds T F ρ (imAt ρ js)
@[simp] theorem eLCO_ (js : List Nat) (i : Nat) (T : FT) (F : FE) (ρ : En) : eLCO js i T F ρ = eLCOa js T F ρ (owLs ρ[i]?) := Eq.trans rfl rfl
@[simp] theorem eLCOa_s (js : List Nat) (T : FT) (F : FE) (ρ : En) (ds : List D) : eLCOa js T F ρ (some ds) = eLCOb ds T F ρ (imAt ρ js) := Eq.trans rfl rfl
@[simp] theorem eLCOb_s (ds : List D) (T : FT) (F : FE) (ρ fr : En) : eLCOb ds T F ρ (some fr) = eLCDc ds.length ρ (cGo T F fr ds) := Eq.trans rfl rfl
def eInO (neg : Bool) (F : FE) (i : Nat) (ρ : En) : Option (D × En) := bnd (F ρ) fun p => bnd (owLs p.2[i]?) fun ds => if okIn p.1 ds = true then some (.bl (if neg then !inD p.1 ds else inD p.1 ds), p.2) else none
def eInOb (neg : Bool) (x : D) (ρ : En) (o : Option (List D)) : Option (D × En) := bnd o fun ds => if okIn x ds = true then some (.bl (if neg then !inD x ds else inD x ds), ρ) else none
def eInOa (neg : Bool) (i : Nat) (o : Option (D × En)) : Option (D × En) := bnd o fun p => eInOb neg p.1 p.2 (owLs p.2[i]?)
@[simp] theorem eInO_ (neg : Bool) (F : FE) (i : Nat) (ρ : En) : eInO neg F i ρ = eInOa neg i (F ρ) := Eq.trans rfl rfl
@[simp] theorem eInOa_s (neg : Bool) (i : Nat) (x : D) (ρ : En) : eInOa neg i (some (x, ρ)) = eInOb neg x ρ (owLs ρ[i]?) := Eq.trans rfl rfl
@[simp] theorem eInOb_s (neg : Bool) (x : D) (ρ : En) (ds : List D) : eInOb neg x ρ (some ds) = if okIn x ds = true then some (.bl (if neg then !inD x ds else inD x ds), ρ) else none := Eq.trans rfl rfl
def eOrV (F G : FE) (ρ : En) : Option (D × En) := bnd (F ρ) fun p => bnd (dTru p.1) fun b => if b = true then some p else G p.2
def eOrVb (x : D) (ρ : En) (G : FE) (o : Option Bool) : Option (D × En) := bnd o fun b => if b = true then some (x, ρ) else G ρ
def eOrVa (G : FE) (o : Option (D × En)) : Option (D × En) := bnd o fun p => eOrVb p.1 p.2 G (dTru p.1)
@[simp] theorem eOrV_ (F G : FE) (ρ : En) : eOrV F G ρ = eOrVa G (F ρ) := Eq.trans rfl rfl
@[simp] theorem eOrVa_s (G : FE) (x : D) (ρ : En) : eOrVa G (some (x, ρ)) = eOrVb x ρ G (dTru x) := Eq.trans rfl rfl
@[simp] theorem eOrVb_s (x : D) (ρ : En) (G : FE) (b : Bool) : eOrVb x ρ G (some b) = if b = true then some (x, ρ) else G ρ := Eq.trans rfl rfl
end Fx
set_option maxRecDepth 100000
namespace Fx
open PySem PySem.Spec PyProof.Rows
section
variable {prog : Program} {w : World} {A : Around} {E : Value → Shared → Prop} {s : Shared}
end
end Fx
set_option maxRecDepth 100000
namespace Fx
open PySem
end Fx
set_option maxRecDepth 100000
namespace Fx
open PySem
section
variable {prog : Program} {w : World} {K : Type} [DecidableEq K] {knd : KeyKind prog w K} {A : Around} {E : Value → Shared → Prop} {s : Shared}
inductive PairsAt (knd : KeyKind prog w K) (h : Heap) : List Value → List (K × Value) → Prop
  | nil : PairsAt knd h [] []
  | cons {p : Addr} {u v : Value} {k : K} {us : List Value} {kvs : List (K × Value)} (a : h.IsTuple p #[u, v]) (b : knd.is k u = true) (r : PairsAt knd h us kvs) : PairsAt knd h (.ref p :: us) ((k, v) :: kvs)
end
end Fx
set_option maxRecDepth 100000
namespace Fx
open PySem PySem.Spec PyProof.Rows L2
section
variable {K : PySem.W.Frag}
end
theorem strs_inv : ∀ {xs : List D} {ss : List Str}, txts xs = some ss → xs = ss.map .str
  | [], ss, h => by cases h; rfl
  | .str x :: r, ss, h => by
    rw [strs_cons] at h
    obtain ⟨t, e, f⟩ := bnd_eq h
    cases f
    rw [strs_inv e]; rfl
  | .non :: _, _, h => by cases h
  | .bl _ :: _, _, h => by cases h
  | .int _ :: _, _, h => by cases h
  | .tup _ :: _, _, h => by cases h
  | .lst _ :: _, _, h => by cases h
theorem reps_strs_inv {K : PySem.W.Frag} {H : Hp} : ∀ {ss : List Str} {vs : List V}, Reps K H (ss.map D.str) vs → vs = ss.map V.str
  | [], vs, h => by rw [List.map_nil] at h; unfold Reps at h; exact h
  | x :: r, vs, h => by
    rw [List.map_cons] at h
    unfold Reps at h
    obtain ⟨v, t, rfl, a, b⟩ := h
    unfold Rep at a
    rw [a, reps_strs_inv b]; rfl
section
variable {X : Cx}
theorem strVals_of : ∀ {ss : List Str} {us : List Value}, Vals (ss.map V.str) us → ∃ l : List (Str × Tok), us = strValues l ∧ l.map (·.1) = ss
  | [], us, h => by rw [List.map_nil] at h; cases h; exact ⟨[], rfl, rfl⟩
  | x :: r, us, h => by
    rw [List.map_cons] at h
    cases h with
    | cons a b =>
      obtain ⟨t, rfl⟩ := a
      obtain ⟨l, rfl, e⟩ := strVals_of b
      exact ⟨(x, t) :: l, rfl, by rw [List.map_cons, e]⟩
theorem join_len (sep : Str) : ∀ ss : List Str, (Str.join sep ss).length ≤ (ss.map (·.length)).sum + ss.length * sep.length
  | [] => by show (Str.empty).length ≤ _; exact Nat.zero_le _
  | [x] => by simp [Str.join]
  | x :: y :: r => by
    have ih := join_len sep (y :: r)
    have ap : ∀ a b : Str, (a ++ b).length = a.length + b.length := fun a b => by
      show (a.cps ++ b.cps).size = _
      rw [Array.size_append]; rfl
    show (x ++ sep ++ Str.join sep (y :: r)).length ≤ _
    rw [ap, ap, List.map_cons, List.sum_cons, List.length_cons, Nat.succ_mul]
    omega
theorem mt_join : MtR X "str.join" (fun x xs H Q => ∃ sep p ss, x = .str sep ∧ xs = [.ref p] ∧ SqL X.K H p (ss.map V.str) ∧ (ss.map (·.length)).sum + ss.length * sep.length ≤ 1000000 ∧ Q (.str (Str.join sep ss)) H) := by
  intro pins s σ H x xs v us Q I rx rs h
  obtain ⟨sep, p, ss, rfl, rfl, hq, hz, q⟩ := h
  obtain ⟨t, rfl⟩ := rx
  obtain ⟨u, rfl, ru⟩ := vals1 rs
  cases ru
  obtain ⟨its, rv, pl, _⟩ := I.list hq
  obtain ⟨l, rfl, el⟩ := strVals_of rv
  have jl := join_len sep ss
  have hs : (Str.join sep ss).length ≤ sizeLine := Nat.le_trans (Nat.le_trans jl hz) (by decide)
  have hok : Builtin.Str.tooLong ((l.map (·.1)).toArray.foldl (fun a p => a + p.length + sep.length) 0) = false := by
    rw [StrLaws.joinTotal, el]
    unfold Builtin.Str.tooLong
    exact decide_eq_false (by have : (1000000 : Nat) ≤ sizeLine := by decide
                              omega)
  refine call_meets PySem.F.slot_str_join (typeIs_str _ _ _) PySem.F.entry_str_join (PySem.F.args_str_join_2 _ _) (meets_str_join_list sep t p l hok) ⟨pl.isList, ?_⟩
  have eg : Builtin.Str.glued sep (l.map (·.1)) = Str.join sep ss := by rw [StrLaws.glued_eq_join, el]
  match l, el, eg with
  | [a], el, _ =>
    have e1 : Str.join sep ss = a.1 := by rw [← el]; rfl
    exact ⟨.str (Str.join sep ss), H, I, ⟨a.2, by rw [e1]⟩, q⟩
  | [], _, eg => exact ⟨by rw [eg]; exact hs, .str (Str.join sep ss), H, I.tok _, ⟨s.toks, by rw [eg]⟩, q⟩
  | a :: b :: r, _, eg => exact ⟨by rw [eg]; exact hs, .str (Str.join sep ss), H, I.tok _, ⟨s.toks, by rw [eg]⟩, q⟩
theorem xjoin {e : Expr} {F : FE} {sep : Str} {j : Nat} {p apos cpos : Pos} (h : XE X e F)
    (hbase : attributeBase (.Constant (.str sep) j p) "join" X.env (eval (.Constant (.str sep) j p) X.env) = eval (.Constant (.str sep) j p) X.env := by rfl)
    (hfew : ((backTo cpos (starEach [e] X.env)).all (fun x => !x.1) && (backToKw cpos (keywordEach [] X.env)).all (fun x => x.1.isSome)
      && decide (([e] : List Expr).length + ([] : List Keyword).length + (if ([] : List Keyword).isEmpty then 0 else 1) < 30)) = true := by rfl)
    (hline : (apos.endLine == cpos.line) = true := by rfl) (hs : starEach [e] X.env = [(false, eval e X.env)] := by rfl) : XE X (.Call (.Attribute (.Constant (.str sep) j p) "join" apos) [e] [] cpos) (eJoin sep F) :=
  PE.wk (pe_bm PySem.F.plainAttrs_str PySem.F.slot_str_join PySem.F.type_str_join mt_join pe_str (xaC h xaN hs) hbase hfew hline hs rfl) fun σ H Q ⟨c, H0, ρ, d, ρ', R, f, q⟩ => by
    unfold eJoin at f
    obtain ⟨⟨d1, ρ1⟩, h1, f⟩ := bnd_eq f
    obtain ⟨xs, h2, f⟩ := bnd_eq f
    obtain ⟨d', h3, f⟩ := bnd_eq f
    have f' : some (d', ρ1) = some (d, ρ') := f
    cases f'
    have e1 : d1 = .lst xs := by
      cases d1 with
      | lst ys => cases h2; rfl
      | _ => cases h2
    subst e1
    unfold joinL at h3
    obtain ⟨ss, h4, h3⟩ := bnd_eq h3
    obtain ⟨hz, rfl⟩ := ifs h3
    cases strs_inv h4
    refine ⟨rfl, c, H0, ρ, [.lst (ss.map .str)], ρ', R, ?_, fun vs H1 Hh s1 R1 r1 => ?_⟩
    · unfold aC
      rw [h1]; rfl
    · obtain ⟨v, rfl, rv⟩ := Reps.v1 r1
      unfold Rep at rv
      obtain ⟨p, ws, rfl, sq, t⟩ := rv
      rw [reps_strs_inv t] at sq
      exact ⟨sep, p, ss, rfl, rfl, Same.seq R1.same sq, hz, q _ H1 Hh s1 R1 (rep_str _ _)⟩
end
inductive PV (K : PySem.W.Frag) (H : Hp) : List V → List (Key × V) → Prop
  | nil : PV K H [] []
  | cons {a : Addr} {k : Str} {v : V} {vs : List V} {kvs : List (Key × V)} (p : SqT K H a [.str k, v]) (r : PV K H vs kvs) : PV K H (.ref a :: vs) ((.inr k, v) :: kvs)
section
variable {X : Cx}
end
section
variable {X : Cx}
end
section
variable {X : Cx} {scope sc : Scope} {x y : Str} {frees : List Str} {js : List Nat} {px py spos pos p pos' : Pos} {elt a : Expr} {ifs : List Expr} {F I : FE} {T : FT}
end
end Fx
set_option maxRecDepth 100000
namespace Fx
open PySem
abbrev Ky := List (List Int)
mutual
def fK : D → Ky
  | .int i => [[i]]
  | .str s => [s.cps.toList.map Int.ofNat]
  | .tup xs => fKs xs
  | _ => []
def fKs : List D → Ky
  | [] => []
  | d :: r => fK d ++ fKs r
end
def ltK (a b : D) : Bool := decide (fK a < fK b)
def insT (x : D) : List D → List D
  | [] => [x]
  | y :: r => if ltK y x = true then y :: insT x r else x :: y :: r
def sortT : List D → List D
  | [] => []
  | x :: r => insT x (sortT r)
theorem mem_insT {x y : D} : ∀ {l : List D}, y ∈ insT x l ↔ y = x ∨ y ∈ l
  | [] => by simp [insT]
  | z :: r => by
    unfold insT
    split
    · rw [List.mem_cons, mem_insT, List.mem_cons]
      exact ⟨fun h => by rcases h with h | h | h; exact .inr (.inl h); exact .inl h; exact .inr (.inr h), fun h => by rcases h with h | h | h; exact .inr (.inl h); exact .inl h; exact .inr (.inr h)⟩
    · rw [List.mem_cons]
theorem insT_perm {x : D} : ∀ {l : List D}, (insT x l).Perm (x :: l)
  | [] => List.Perm.refl _
  | y :: r => by
    unfold insT
    split
    · exact ((insT_perm (l := r)).cons y).trans (List.Perm.swap x y r)
    · exact List.Perm.refl _
theorem sortT_perm : ∀ l : List D, (sortT l).Perm l
  | [] => List.Perm.refl _
  | x :: r => by unfold sortT; exact insT_perm.trans ((sortT_perm r).cons x)
theorem ltK_trans {a b c : Ky} (h1 : ¬ b < a) (h2 : ¬ c < b) : ¬ c < a := List.not_lt.mpr (List.le_trans (List.not_lt.mp h1) (List.not_lt.mp h2))
theorem insT_pw {x : D} : ∀ {l : List D}, (l.Pairwise fun a b => ltK b a = false) → (insT x l).Pairwise fun a b => ltK b a = false
  | [], _ => List.pairwise_singleton _ _
  | y :: r, h => by
    unfold insT
    obtain ⟨h1, h2⟩ := List.pairwise_cons.mp h
    by_cases q : ltK y x = true
    · rw [if_pos q]
      refine List.pairwise_cons.mpr ⟨fun z hz => ?_, insT_pw h2⟩
      rcases mem_insT.mp hz with rfl | hz
      · unfold ltK at q ⊢
        rw [decide_eq_true_eq] at q
        rw [decide_eq_false_iff_not]
        exact List.not_lt.mpr (List.le_of_lt q)
      · exact h1 z hz
    · rw [if_neg q]
      have q : ltK y x = false := by simpa using q
      refine List.pairwise_cons.mpr ⟨fun z hz => ?_, h⟩
      rcases List.mem_cons.mp hz with rfl | hz
      · exact q
      · have a2 := h1 z hz
        unfold ltK at q a2 ⊢
        rw [decide_eq_false_iff_not] at q a2 ⊢
        exact ltK_trans q a2
theorem sortT_pw : ∀ l : List D, (sortT l).Pairwise fun a b => ltK b a = false
  | [] => List.Pairwise.nil
  | x :: r => by unfold sortT; exact insT_pw (sortT_pw r)
theorem sortT_uniq {l t : List D} (inj : ∀ a b, a ∈ l → b ∈ l → fK a = fK b → a = b) (hp : t.Perm l) (hs : t.Pairwise fun a b => ltK b a = false) : t = sortT l := by
  refine List.Perm.eq_of_pairwise (le := fun a b => ltK b a = false) (fun a b ha hb p q => ?_) hs (sortT_pw l) (hp.trans (sortT_perm l).symm)
  unfold ltK at p q
  rw [decide_eq_false_iff_not] at p q
  exact inj a b (hp.mem_iff.mp ha) ((sortT_perm l).mem_iff.mp hb) (List.le_antisymm (List.not_lt.mp p) (List.not_lt.mp q))
theorem count_lt {p q : Nat → Bool} : ∀ {l : List Nat}, (∀ x, p x = true → q x = true) → (∃ x ∈ l, q x = true ∧ p x = false) → l.countP p < l.countP q
  | [], _, h => by obtain ⟨x, h, _⟩ := h; cases h
  | y :: r, hi, h => by
    have le : r.countP p ≤ r.countP q := List.countP_mono_left fun x _ => hi x
    obtain ⟨x, hx, h1, h2⟩ := h
    rcases List.mem_cons.mp hx with rfl | hx
    · rw [List.countP_cons_of_neg (by rw [h2]; exact Bool.false_ne_true), List.countP_cons_of_pos h1]; omega
    · have ih := count_lt hi ⟨x, hx, h1, h2⟩
      cases hp : p y with
      | true => rw [List.countP_cons_of_pos hp, List.countP_cons_of_pos (hi y hp)]; omega
      | false =>
        rw [List.countP_cons_of_neg (by rw [hp]; exact Bool.false_ne_true)]
        exact Nat.lt_of_lt_of_le ih (by rw [List.countP_cons]; omega)
def rankK (n : Nat) (key : Nat → Ky) (i : Nat) : Nat := (List.range n).countP fun k => decide (key k < key i)
theorem rank_iff {n : Nat} {key : Nat → Ky} {i j : Nat} (hi : i < n) : rankK n key i < rankK n key j ↔ key i < key j := by
  constructor
  · intro h
    by_cases c : key i < key j
    · exact c
    · have le : rankK n key j ≤ rankK n key i := List.countP_mono_left fun x _ hx => by
        rw [decide_eq_true_eq] at hx ⊢
        refine Decidable.byContradiction fun z => c (List.lt_of_le_of_lt (List.not_lt.mp z) hx)
      omega
  · intro c
    refine count_lt (fun x hx => ?_) ⟨i, List.mem_range.mpr hi, decide_eq_true c, decide_eq_false (List.lt_irrefl _)⟩
    rw [decide_eq_true_eq] at hx ⊢
    exact List.lt_trans hx c
end Fx
namespace Fx
open PySem
def r3 : D → Bool
  | .tup [.int _, .str _, .int _] => true
  | _ => false
def r22 : D → Bool
  | .tup [.tup [.str _, .int _], .tup [.int _, .int _]] => true
  | _ => false
def bSortT : List D → Option D
  | [.lst xs] => if xs.length < 64 ∧ (xs.all r3 = true ∨ xs.all r22 = true) then some (.lst (sortT xs)) else none
  | _ => none
@[simp] theorem bSortT_l (xs : List D) : bSortT [.lst xs] = if xs.length < 64 ∧ (xs.all r3 = true ∨ xs.all r22 = true) then some (.lst (sortT xs)) else none := Eq.trans rfl rfl
end Fx
set_option maxRecDepth 100000
namespace Fx
open PySem PySem.W PyProof.Rows
def WpT {α : Type} (lt : Nat → Nat → Bool) (n : Nat) (P : α → Prop) : KasT α → Prop
  | .ret a => P a
  | .ask i j k => i < n ∧ j < n ∧ WpT lt n P (k (lt i j))
theorem WpT.bind {α β : Type} {lt : Nat → Nat → Bool} {n : Nat} {P : α → Prop} {P' : β → Prop} {f : α → KasT β} (h : ∀ a, P a → WpT lt n P' (f a)) : ∀ t : KasT α, WpT lt n P t → WpT lt n P' (t.bind f)
  | .ret a, q => h a q
  | .ask i j k, q => ⟨q.1, q.2.1, WpT.bind h (k (lt i j)) q.2.2⟩
theorem WpT.run {α : Type} {lt : Nat → Nat → Bool} {n : Nat} {P : α → Prop} {J : Shared → Prop} {cmp : Nat → Nat → (Bool → Shared → Prop) → Shared → Prop} {Q : α → Shared → Prop}
    (hc : ∀ i j C s, i < n → j < n → J s → (∀ s', J s' → C (lt i j) s') → cmp i j C s) (hq : ∀ a s, P a → J s → Q a s) : ∀ (t : KasT α) (s : Shared), WpT lt n P t → J s → t.kasWp cmp Q s
  | .ret a, s, h, j => hq a s h j
  | .ask i j k, s, h, js => hc i j _ s h.1 h.2.1 js fun s' js' => WpT.run hc hq (k (lt i j)) s' h.2.2 js'
section
variable {n : Nat} {r : Nat → Nat}
abbrev ltR (r : Nat → Nat) (i j : Nat) : Bool := decide (r i < r j)
structure OkP (n : Nat) (p : Array Nat) : Prop where
  size : p.size = n
  perm : p.toList.Perm (List.range n)
def KP (r : Nat → Nat) (p : Array Nat) (k : Nat) : Nat := r (p.getD k 0)
theorem OkP.lt {p : Array Nat} (h : OkP n p) (hn : 0 < n) (k : Nat) : p.getD k 0 < n := by
  by_cases hk : k < p.size
  · rw [Array.getD_eq_getD_getElem?, getElem?_pos p k hk]
    have : p[k] ∈ p.toList := by simp
    exact List.mem_range.mp (h.perm.mem_iff.mp this)
  · rw [Array.getD_eq_getD_getElem?, getElem?_neg p k hk]; exact hn
theorem KP_congr {p q : Array Nat} {i j : Nat} (h : p[i]? = q[j]?) : KP r p i = KP r q j := by unfold KP; rw [Array.getD_eq_getD_getElem?, Array.getD_eq_getD_getElem?, h]
theorem OkP.rev {p : Array Nat} (h : OkP n p) (i j : Nat) : OkP n (kas_rev p i j) := ⟨(mirror_size _ _ _ _).trans h.size, (Array.perm_iff_toList_perm.mp (mirror_perm _ _ _ _)).trans h.perm⟩
theorem OkP.bub {p : Array Nat} (h : OkP n p) (k d : Nat) : OkP n (bubble p k d) := ⟨(bubble_size _ _ _).trans h.size, (Array.perm_iff_toList_perm.mp (bubble_perm _ _ _)).trans h.perm⟩
theorem KP_rev {p : Array Nat} {i j : Nat} (hj : j ≤ p.size) (k : Nat) : KP r (kas_rev p i j) k = if i ≤ k ∧ k < j then KP r p (i + j - 1 - k) else KP r p k := by
  have e := getElem?_mirror_all (xs := p) (i := i) hj k
  by_cases h1 : i ≤ k ∧ k < j
  · rw [if_pos h1] at e ⊢; exact KP_congr e
  · rw [if_neg h1] at e ⊢; exact KP_congr e
theorem KP_bub {p : Array Nat} {k d : Nat} (hs : k < p.size) (hd : d ≤ k) (i : Nat) : KP r (bubble p k d) i = if i = k - d then KP r p k else if k - d < i ∧ i ≤ k then KP r p (i - 1) else KP r p i := by
  have e := getElem?_bubble hs d hd i
  by_cases h1 : i = k - d
  · rw [if_pos h1] at e ⊢; exact KP_congr e
  · rw [if_neg h1] at e ⊢
    by_cases h2 : k - d < i ∧ i ≤ k
    · rw [if_pos h2] at e ⊢; exact KP_congr e
    · rw [if_neg h2] at e ⊢; exact KP_congr e
def Mono (r : Nat → Nat) (p : Array Nat) (m : Nat) : Prop := ∀ i j, i ≤ j → j < m → KP r p i ≤ KP r p j
def Anti (r : Nat → Nat) (p : Array Nat) (m : Nat) : Prop := ∀ i j, i ≤ j → j < m → KP r p j ≤ KP r p i
def Eqs (r : Nat → Nat) (p : Array Nat) (a b : Nat) : Prop := ∀ i, a ≤ i → i < b → KP r p i = KP r p (b - 1)
theorem KP_rev_eq {p : Array Nat} {i j : Nat} (hj : j ≤ p.size) (e : Eqs r p i j) (k : Nat) : KP r (kas_rev p i j) k = KP r p k := by
  rw [KP_rev hj]
  split
  · rw [e _ (by omega) (by omega), e k (by omega) (by omega)]
  · rfl
theorem asc_ok {p : Array Nat} (hp : OkP n p) : ∀ f m, 1 ≤ m → m + f ≤ n → Mono r p m → WpT (ltR r) n (fun m' => m ≤ m' ∧ m' ≤ m + f ∧ Mono r p m' ∧ (m' < m + f → KP r p m' < KP r p (m' - 1))) (kas_asc p f m)
  | 0, m, h1, h2, h3 => ⟨Nat.le_refl _, Nat.le_refl _, h3, fun z => absurd z (Nat.lt_irrefl _)⟩
  | f + 1, m, h1, h2, h3 => by
    refine ⟨hp.lt (by omega) _, hp.lt (by omega) _, ?_⟩
    by_cases c : KP r p m < KP r p (m - 1)
    · rw [show ltR r (p.getD m 0) (p.getD (m - 1) 0) = true from decide_eq_true c]; dsimp only; rw [if_pos rfl]
      exact ⟨Nat.le_refl _, by omega, h3, fun _ => c⟩
    · rw [show ltR r (p.getD m 0) (p.getD (m - 1) 0) = false from decide_eq_false c]; dsimp only; rw [if_neg Bool.false_ne_true]
      have h4 : Mono r p (m + 1) := fun i j hij hj => by
        by_cases z : j < m
        · exact h3 i j hij z
        · have : j = m := by omega
          subst this
          by_cases w : i = j
          · subst w; exact Nat.le_refl _
          · exact Nat.le_trans (h3 i (j - 1) (by omega) (by omega)) (Nat.le_of_not_lt c)
      have ih := asc_ok hp f (m + 1) (by omega) (by omega) h4
      rw [show m + 1 + f = m + (f + 1) by omega] at ih
      have mono : ∀ (t : KasT Nat), WpT (ltR r) n (fun m' => m + 1 ≤ m' ∧ m' ≤ m + (f + 1) ∧ Mono r p m' ∧ (m' < m + (f + 1) → KP r p m' < KP r p (m' - 1))) t → WpT (ltR r) n (fun m' => m ≤ m' ∧ m' ≤ m + (f + 1) ∧ Mono r p m' ∧ (m' < m + (f + 1) → KP r p m' < KP r p (m' - 1))) t := by
        intro t
        induction t with
        | ret a => exact fun h => ⟨by have := h.1; omega, h.2⟩
        | ask i j k ih => exact fun h => ⟨h.1, h.2.1, ih _ h.2.2⟩
      exact mono _ ih
def DescOk (n : Nat) (r : Nat → Nat) (z : Array Nat × Nat × Nat) : Prop := OkP n z.1 ∧ 1 ≤ z.2.1 ∧ z.2.1 ≤ n ∧ z.2.2 + 1 ≤ z.2.1 ∧ Anti r z.1 z.2.1 ∧ Eqs r z.1 (z.2.1 - (z.2.2 + 1)) z.2.1
theorem desc_ok : ∀ f (p : Array Nat) m q, OkP n p → q + 1 ≤ m → m + f ≤ n → Anti r p m → Eqs r p (m - (q + 1)) m → WpT (ltR r) n (DescOk n r) (kas_desc f p m q)
  | 0, p, m, q, hp, h1, h2, h3, h4 => ⟨hp, (show 1 ≤ m by omega), (show m ≤ n by omega), h1, h3, h4⟩
  | f + 1, p, m, q, hp, h1, h2, h3, h4 => by
    have sz := hp.size
    have one : ∀ p' : Array Nat, Eqs r p' (m + 1 - (0 + 1)) (m + 1) := fun p' i a b => by rw [show i = m + 1 - 1 by omega]
    have more : ∀ p' : Array Nat, (∀ k, KP r p' k = KP r p k) → KP r p m ≤ KP r p (m - 1) → Anti r p' (m + 1) := fun p' e c i j hij hj => by
      rw [e, e]
      by_cases z : j < m
      · exact h3 i j hij z
      · have : j = m := by omega
        subst this
        by_cases w : i = j
        · subst w; exact Nat.le_refl _
        · exact Nat.le_trans c (h3 i (j - 1) (by omega) (by omega))
    refine ⟨hp.lt (by omega) _, hp.lt (by omega) _, ?_⟩
    by_cases c : KP r p m < KP r p (m - 1)
    · rw [show ltR r (p.getD m 0) (p.getD (m - 1) 0) = true from decide_eq_true c]; dsimp only; rw [if_pos rfl]
      split
      · have e := KP_rev_eq (r := r) (p := p) (i := m - (q + 1)) (j := m) (by omega) h4
        exact desc_ok f _ (m + 1) 0 (hp.rev _ _) (by omega) (by omega) (more _ e (Nat.le_of_lt c)) (one _)
      · exact desc_ok f p (m + 1) 0 hp (by omega) (by omega) (more p (fun _ => rfl) (Nat.le_of_lt c)) (one _)
    · rw [show ltR r (p.getD m 0) (p.getD (m - 1) 0) = false from decide_eq_false c]; dsimp only; rw [if_neg Bool.false_ne_true]
      refine ⟨hp.lt (by omega) _, hp.lt (by omega) _, ?_⟩
      by_cases d : KP r p (m - 1) < KP r p m
      · rw [show ltR r (p.getD (m - 1) 0) (p.getD m 0) = true from decide_eq_true d]; dsimp only; rw [if_pos rfl]
        exact ⟨hp, (show 1 ≤ m by omega), (show m ≤ n by omega), h1, h3, h4⟩
      · rw [show ltR r (p.getD (m - 1) 0) (p.getD m 0) = false from decide_eq_false d]; dsimp only; rw [if_neg Bool.false_ne_true]
        have eq : KP r p m = KP r p (m - 1) := by omega
        refine desc_ok f p (m + 1) (q + 1) hp (by omega) (by omega) (more p (fun _ => rfl) (by omega)) fun i a b => ?_
        rw [show m + 1 - 1 = m by omega]
        by_cases z : i < m
        · rw [h4 i (by omega) z, eq]
        · rw [show i = m by omega]
def CntOk (n : Nat) (r : Nat → Nat) (z : Nat × Array Nat) : Prop := OkP n z.2 ∧ 1 ≤ z.1 ∧ z.1 ≤ n ∧ Mono r z.2 z.1
theorem tail3_ok {p : Array Nat} {m : Nat} (hp : OkP n p) (h1 : 1 ≤ m) (h2 : m ≤ n) (h3 : Anti r p m) : WpT (ltR r) n (CntOk n r) (kas_tail3 m n p) := by
  have sz := hp.size
  have mo : Mono r (kas_rev p 0 m) m := fun i j hij hj => by
    rw [KP_rev (by omega), KP_rev (by omega), if_pos ⟨by omega, by omega⟩, if_pos ⟨by omega, by omega⟩]
    exact h3 _ _ (by omega) (by omega)
  refine WpT.bind (fun a h => ?_) _ (asc_ok (hp.rev 0 m) (n - m) m h1 (by omega) mo)
  obtain ⟨g1, g2, g3, _⟩ := h
  exact ⟨hp.rev _ _, (show 1 ≤ a by omega), (show a ≤ n by omega), g3⟩
theorem descPart_ok {p : Array Nat} {m : Nat} (hp : OkP n p) (h2 : m + 1 ≤ n) (h3 : Anti r p (m + 1)) : WpT (ltR r) n (CntOk n r) (kas_descPart m n p) := by
  refine WpT.bind (fun z h => ?_) _ (desc_ok (n - (m + 1)) p (m + 1) 0 hp (by omega) (by omega) h3 fun i a b => by rw [show i = m + 1 - 1 by omega])
  obtain ⟨g1, g2, g3, g4, g5, g6⟩ := h
  have sz := g1.size
  split
  · have e := KP_rev_eq (r := r) (p := z.1) (i := z.2.1 - (z.2.2 + 1)) (j := z.2.1) (by omega) g6
    exact tail3_ok (g1.rev _ _) g2 g3 fun i j hij hj => by rw [e, e]; exact g5 i j hij hj
  · exact tail3_ok g1 g2 g3 g5
theorem count_ok {p : Array Nat} (hn : 1 ≤ n) (hp : OkP n p) : WpT (ltR r) n (CntOk n r) (kas_count n p) := by
  have sz := hp.size
  refine WpT.bind (fun m h => ?_) _ (asc_ok (r := r) hp (n - 1) 1 (Nat.le_refl _) (by omega) fun i j hij hj => by rw [show i = j by omega]; exact Nat.le_refl _)
  obtain ⟨g1, g2, g3, g4⟩ := h
  by_cases e : m = n
  · rw [if_pos (by rw [e]; exact beq_self_eq_true _)]
    exact ⟨hp, g1, by omega, g3⟩
  · rw [if_neg (by simpa using e)]
    have c := g4 (by omega)
    split
    · refine ⟨hp.lt (by omega) _, hp.lt (by omega) _, ?_⟩
      by_cases d : KP r p 0 < KP r p (m - 1)
      · rw [show ltR r (p.getD 0 0) (p.getD (m - 1) 0) = true from decide_eq_true d]; dsimp only; rw [if_pos rfl]
        exact ⟨hp, g1, by omega, g3⟩
      · rw [show ltR r (p.getD 0 0) (p.getD (m - 1) 0) = false from decide_eq_false d]; dsimp only; rw [if_neg Bool.false_ne_true]
        have all : Eqs r p 0 m := fun i _ b => by
          have a1 := g3 0 i (Nat.zero_le _) b
          have a2 := g3 i (m - 1) (by omega) (by omega)
          omega
        have ek := KP_rev_eq (r := r) (p := p) (i := 0) (j := m) (by omega) all
        refine descPart_ok (hp.rev _ _) (by omega) fun i j hij hj => ?_
        rw [ek, ek]
        by_cases z : j < m
        · rw [all i (Nat.zero_le _) (by omega), all j (Nat.zero_le _) z]; exact Nat.le_refl _
        · have : j = m := by omega
          subst this
          by_cases w : i < j
          · rw [all i (Nat.zero_le _) w]; exact Nat.le_of_lt c
          · rw [show i = j by omega]; exact Nat.le_refl _
    · have : m = 1 := by omega
      subst this
      refine descPart_ok hp (by omega) fun i j hij hj => ?_
      by_cases z : i = j
      · rw [z]; exact Nat.le_refl _
      · rw [show i = 0 by omega, show j = 1 by omega]; exact Nat.le_of_lt c
theorem place_ok {p : Array Nat} {k : Nat} (hp : OkP n p) (hk : k < n) (h : Mono r p k) : ∀ f l q, l ≤ q → q ≤ k → q ≤ l + f → (∀ i, i < l → KP r p i ≤ KP r p k) → (∀ i, q ≤ i → i < k → KP r p k < KP r p i) →
    WpT (ltR r) n (fun l => l ≤ k ∧ (∀ i, i < l → KP r p i ≤ KP r p k) ∧ ∀ i, l ≤ i → i < k → KP r p k < KP r p i) (kas_place p k f l q)
  | 0, l, q, h1, h2, h3, h4, h5 => ⟨by omega, h4, fun i a b => h5 i (by omega) b⟩
  | f + 1, l, q, h1, h2, h3, h4, h5 => by
    unfold kas_place
    split
    · exact ⟨by omega, h4, fun i a b => h5 i (by omega) b⟩
    · refine ⟨hp.lt (by omega) _, hp.lt (by omega) _, ?_⟩
      by_cases c : KP r p k < KP r p ((l + q) / 2)
      · rw [show ltR r (p.getD k 0) (p.getD ((l + q) / 2) 0) = true from decide_eq_true c]; dsimp only; rw [if_pos rfl]
        exact place_ok hp hk h f l ((l + q) / 2) (by omega) (by omega) (by omega) h4 fun i a b => Nat.lt_of_lt_of_le c (h _ i a b)
      · rw [show ltR r (p.getD k 0) (p.getD ((l + q) / 2) 0) = false from decide_eq_false c]; dsimp only; rw [if_neg Bool.false_ne_true]
        exact place_ok hp hk h f ((l + q) / 2 + 1) q (by omega) h2 (by omega) (fun i a => Nat.le_trans (h i ((l + q) / 2) (by omega) (by omega)) (Nat.le_of_not_lt c)) h5
theorem bin_ok : ∀ f (p : Array Nat) k, OkP n p → k + f = n → Mono r p k → WpT (ltR r) n (fun p => OkP n p ∧ Mono r p n) (kas_bin f p k)
  | 0, p, k, hp, h1, h2 => ⟨hp, by rw [show n = k by omega]; exact h2⟩
  | f + 1, p, k, hp, h1, h2 => by
    have sz := hp.size
    refine WpT.bind (fun l h => ?_) _ (place_ok hp (by omega) h2 k 0 k (Nat.zero_le _) (Nat.le_refl _) (by omega) (fun i z => absurd z (Nat.not_lt_zero _)) fun i a b => absurd b (by omega))
    obtain ⟨g1, g2, g3⟩ := h
    refine bin_ok f _ (k + 1) (hp.bub _ _) (by omega) fun i j hij hj => ?_
    have bi := KP_bub (r := r) (p := p) (k := k) (d := k - l) (by omega) (by omega) i
    have bj := KP_bub (r := r) (p := p) (k := k) (d := k - l) (by omega) (by omega) j
    rw [show k - (k - l) = l by omega] at bi bj
    rw [bi, bj]
    by_cases i1 : i = l
    · rw [if_pos i1]
      by_cases j1 : j = l
      · rw [if_pos j1]; exact Nat.le_refl _
      · rw [if_neg j1, if_pos ⟨by omega, by omega⟩]
        exact Nat.le_of_lt (g3 (j - 1) (by omega) (by omega))
    · rw [if_neg i1]
      by_cases i2 : l < i ∧ i ≤ k
      · rw [if_pos i2, if_neg (by omega), if_pos ⟨by omega, by omega⟩]
        exact h2 _ _ (by omega) (by omega)
      · rw [if_neg i2]
        by_cases j1 : j = l
        · rw [if_pos j1]; exact g2 i (by omega)
        · rw [if_neg j1]
          by_cases j2 : l < j ∧ j ≤ k
          · rw [if_pos j2]; exact h2 _ _ (by omega) (by omega)
          · rw [if_neg j2]; exact h2 _ _ hij (by omega)
theorem okP_range : OkP n (List.toArray (List.range n)) := ⟨by simp, by simp⟩
theorem sort_ok (h2 : 1 ≤ n) : WpT (ltR r) n (fun p => OkP n p ∧ Mono r p n) (kas_sort n) := by
  refine WpT.bind (fun z h => ?_) _ (count_ok h2 okP_range)
  obtain ⟨g1, g2, g3, g4⟩ := h
  split
  · rw [show max z.1 1 = z.1 by omega]
    exact bin_ok _ _ _ g1 (by omega) g4
  · exact ⟨g1, by rw [show n = z.1 by omega]; exact g4⟩
end
end Fx
set_option maxRecDepth 100000
namespace Fx
open PySem PySem.Spec PyProof.Rows L2
def sameF : D → D → Bool
  | .int _, .int _ => true
  | .str _, .str _ => true
  | _, _ => false
def sameFs : List D → List D → Bool
  | [], [] => true
  | d :: r, e :: t => sameF d e && sameFs r t
  | _, _ => false
def ltF : D → D → Bool
  | .int i, .int j => decide (i < j)
  | .str a, .str b => decide (a.cps.toList < b.cps.toList)
  | _, _ => false
def lexF : List D → List D → Bool
  | d :: r, e :: t => if eqD d e = true then lexF r t else ltF d e
  | _, _ => false
theorem map_lt : ∀ (l m : List Nat), (l.map Int.ofNat < m.map Int.ofNat) ↔ l < m
  | [], [] => by simp
  | [], _ :: _ => by simp
  | _ :: _, [] => by simp
  | a :: l, b :: m => by
    rw [List.map_cons, List.map_cons, List.cons_lt_cons_iff, List.cons_lt_cons_iff, map_lt l m]
    have h1 : (Int.ofNat a < Int.ofNat b) ↔ a < b := Int.ofNat_lt
    have h2 : (Int.ofNat a = Int.ofNat b) ↔ a = b := Int.ofNat_inj
    rw [h1, h2]
theorem one_lt (a b : List Int) : ([a] : Ky) < [b] ↔ a < b := by
  rw [List.cons_lt_cons_iff]
  exact ⟨fun h => h.elim id fun z => absurd z.2 (List.lt_irrefl _), .inl⟩
theorem sameF_eq {d e : D} (h : sameF d e = true) : (eqD d e = true ↔ d = e) ∧ (fK d = fK e ↔ d = e) ∧ (ltF d e = true ↔ fK d < fK e) ∧ (∃ k, fK d = [k]) ∧ ∃ k, fK e = [k] := by
  cases d with
  | int i =>
    cases e with
    | int j =>
      have e1 : fK (.int i) = [[i]] := by unfold fK; rfl
      have e2 : fK (.int j) = [[j]] := by unfold fK; rfl
      rw [e1, e2]
      refine ⟨by simp, by simp, ?_, ⟨_, rfl⟩, _, rfl⟩
      rw [one_lt, List.cons_lt_cons_iff]
      show decide (i < j) = true ↔ _
      rw [decide_eq_true_eq]
      exact ⟨.inl, fun z => z.elim id fun y => absurd y.2 (List.lt_irrefl _)⟩
    | _ => cases h
  | str a =>
    cases e with
    | str b =>
      have e1 : fK (.str a) = [a.cps.toList.map Int.ofNat] := by unfold fK; rfl
      have e2 : fK (.str b) = [b.cps.toList.map Int.ofNat] := by unfold fK; rfl
      rw [e1, e2]
      refine ⟨by simp, ?_, ?_, ⟨_, rfl⟩, _, rfl⟩
      · constructor
        · intro z
          have z1 : a.cps.toList.map Int.ofNat = b.cps.toList.map Int.ofNat := (List.cons.inj z).1
          have z2 : a.cps.toList = b.cps.toList := List.map_inj_right (fun x y q => Int.ofNat.inj q) |>.mp z1
          obtain ⟨⟨la⟩⟩ := a
          obtain ⟨⟨lb⟩⟩ := b
          cases z2
          rfl
        · intro z; cases z; rfl
      · rw [one_lt, map_lt]
        show decide (a.cps.toList < b.cps.toList) = true ↔ _
        rw [decide_eq_true_eq]
    | _ => cases h
  | _ => cases h
theorem fKs_cons (d : D) (r : List D) : fKs (d :: r) = fK d ++ fKs r := by rw [fKs]
theorem sameFs_len : ∀ {ds es : List D}, sameFs ds es = true → ds.length = es.length ∧ (fKs ds).length = (fKs es).length
  | [], [], _ => ⟨rfl, rfl⟩
  | [], _ :: _, h => by cases h
  | _ :: _, [], h => by cases h
  | d :: r, e :: t, h => by
    unfold sameFs at h
    rw [Bool.and_eq_true] at h
    obtain ⟨_, _, _, ⟨k, e1⟩, k', e2⟩ := sameF_eq h.1
    obtain ⟨h1, h2⟩ := sameFs_len h.2
    exact ⟨by simp [h1], by rw [fKs_cons, fKs_cons, e1, e2]; simp [h2]⟩
theorem sameFs_inj : ∀ {ds es : List D}, sameFs ds es = true → (fKs ds = fKs es ↔ ds = es)
  | [], [], _ => by simp
  | [], _ :: _, h => by cases h
  | _ :: _, [], h => by cases h
  | d :: r, e :: t, h => by
    unfold sameFs at h
    rw [Bool.and_eq_true] at h
    obtain ⟨_, q, _, ⟨k, e1⟩, k', e2⟩ := sameF_eq h.1
    have ih := sameFs_inj h.2
    rw [fKs_cons, fKs_cons]
    constructor
    · intro z
      rw [e1, e2] at z
      have z' : k :: fKs r = k' :: fKs t := z
      injection z' with z1 z2
      rw [q.mp (by rw [e1, e2, z1]), ih.mp z2]
    · intro z; cases z; rfl
theorem lexF_lt : ∀ {ds es : List D}, sameFs ds es = true → lexF ds es = decide (fKs ds < fKs es)
  | [], [], _ => by
    have : fKs [] = [] := by rw [fKs]
    rw [this]
    exact (decide_eq_false (List.lt_irrefl _)).symm
  | [], _ :: _, h => by cases h
  | _ :: _, [], h => by cases h
  | d :: r, e :: t, h => by
    unfold sameFs at h
    rw [Bool.and_eq_true] at h
    obtain ⟨q1, q2, q3, ⟨k, e1⟩, k', e2⟩ := sameF_eq h.1
    have ih := lexF_lt h.2
    unfold lexF
    rw [fKs_cons, fKs_cons, e1, e2]
    show _ = decide (k :: fKs r < k' :: fKs t)
    by_cases z : eqD d e = true
    · have : k = k' := by
        have := q1.mp z
        subst this
        rw [e1] at e2
        exact (List.cons.inj e2).1
      subst this
      rw [if_pos z, ih]
      refine decide_eq_decide.mpr ?_
      rw [List.cons_lt_cons_iff]
      exact ⟨fun y => .inr ⟨rfl, y⟩, fun y => y.elim (fun y => absurd y (List.lt_irrefl _)) (·.2)⟩
    · rw [if_neg z]
      have ne : k ≠ k' := fun y => z (q1.mpr (q2.mp (by rw [e1, e2, y])))
      have e3 : ltF d e = decide (k < k') := by
        have q4 : ltF d e = true ↔ k < k' := by rw [q3, e1, e2, one_lt]
        cases hh : ltF d e with
        | true => exact (decide_eq_true (q4.mp hh)).symm
        | false => exact (decide_eq_false fun y => by rw [q4.mpr y] at hh; cases hh).symm
      rw [e3]
      refine decide_eq_decide.mpr ?_
      rw [List.cons_lt_cons_iff]
      exact ⟨.inl, fun y => y.elim id fun y => absurd y.1 ne⟩
end Fx
set_option maxRecDepth 100000
namespace Fx
open PySem PySem.Spec PyProof.Rows L2
def RelF : D → Value → Prop
  | .int i, v => ∃ t, v = .int i t
  | .str a, v => ∃ t, v = .str a t
  | _, _ => False
inductive Flats : List D → List Value → Prop
  | nil : Flats [] []
  | cons {d : D} {u : Value} {ds : List D} {us : List Value} (h : RelF d u) (r : Flats ds us) : Flats (d :: ds) (u :: us)
theorem Flats.length {ds : List D} {us : List Value} (h : Flats ds us) : ds.length = us.length := by
  induction h with
  | nil => rfl
  | cons _ _ ih => simp [ih]
theorem eqAt_flat (A : Around) (s : Shared) {d e : D} {u v : Value} (h : sameF d e = true) (r1 : RelF d u) (r2 : RelF e v) : SeqAt.EqAt A s u v (eqD d e) := by
  cases d with
  | int i =>
    cases e with
    | int j =>
      obtain ⟨t, rfl⟩ := r1
      obtain ⟨w, rfl⟩ := r2
      rw [show eqD (.int i) (.int j) = (i == j) by rw [eqD]]
      exact SeqAt.EqAt.int_int i t j w
    | _ => cases h
  | str a =>
    cases e with
    | str b =>
      obtain ⟨t, rfl⟩ := r1
      obtain ⟨w, rfl⟩ := r2
      rw [show eqD (.str a) (.str b) = (a == b) by rw [eqD]]
      exact SeqAt.EqAt.str_str a t b w
    | _ => cases h
  | _ => cases h
theorem rcLt_flat (A : Around) (s : Shared) {d e : D} {u v : Value} (h : sameF d e = true) (r1 : RelF d u) (r2 : RelF e v) (prog : Program) (w : World) (E : Value → Shared → Prop) (Q : Value → Shared → Prop) (q : Q (.bool (ltF d e)) s) :
    wpAny (model prog w) A (richCompare .Lt u v) Q E s := by
  cases d with
  | int i =>
    cases e with
    | int j =>
      obtain ⟨t, rfl⟩ := r1
      obtain ⟨w', rfl⟩ := r2
      exact (PyProof.Rows.lt_int q : wpAny (model prog w) A (compareOp .Lt (.int i t) (.int j w')) Q E s)
    | _ => cases h
  | str a =>
    cases e with
    | str b =>
      obtain ⟨t, rfl⟩ := r1
      obtain ⟨w', rfl⟩ := r2
      exact (PyProof.Rows.lt_str (by simpa [ltF] using q) : wpAny (model prog w) A (compareOp .Lt (.str a t) (.str b w')) Q E s)
    | _ => cases h
  | _ => cases h
section
open PySem.SeqAt
open PySem.AutoSeq1 (wpAny_loadPart')
open PySem.MeetsSeq PySem.MeetsSeq2 PySem.MeetsSeq3
theorem tuple_lt_flat (l b : Addr) (items items2 : Array Value) (n n2 : Nat) (dd dd2 : Option Addr) (sl sl2 : Array (Option Value)) (ds es : List D) (hi : Flats ds items.toList) (hj : Flats es items2.toList) (hs : sameFs ds es = true) :
    Meets (Builtin.«tuple.__lt__» ⟨[.ref l, .ref b], []⟩)
      (fun _ R s => s.heap.get? l = some { cls := .type "tuple", dict := dd, data := .seq items n, slots := sl } ∧ s.heap.get? b = some { cls := .type "tuple", dict := dd2, data := .seq items2 n2, slots := sl2 } ∧
        R (.ok (.ret (.bool (lexF ds es)))) s) :=
  .of_wp fun prog w A R s h => by
    obtain ⟨hp, g, d, tk, os⟩ := s; obtain ⟨hl, hb, h⟩ := h
    have f2 := AutoSeq1.sub_tuple_tuple
    have z1 : items.size = ds.length := by rw [hi.length]; simp
    have z2 : items2.size = es.length := by rw [hj.length]; simp
    have z3 := (sameFs_len hs).1
    wp_walk using wpAny_loadPart' hl, wpAny_loadPart' hb, wpAny_forIn_list _ (fun rest b s' => b.1 = none ∧ s' = ⟨hp, g, d, tk, os⟩ ∧ ∃ (vs ws : List Value) (ds' es' : List D), rest = vs.zip ws ∧
      Flats ds' vs ∧ Flats es' ws ∧ sameFs ds' es' = true ∧ R (.ok (.ret (.bool (lexF ds' es')))) ⟨hp, g, d, tk, os⟩) _
    case turn =>
      rintro ⟨y, x⟩ rest b s' ⟨hb', rfl, vs, ws, ds', es', hz, hvi, hwi, hsm, hR⟩
      cases hvi with
      | nil => rw [List.zip_nil_left] at hz; cases hz
      | @cons dx ux dsx usx hd hvi' =>
        cases hwi with
        | nil => rw [List.zip_nil_right] at hz; cases hz
        | @cons ex vx esx wsx he' hwi' =>
          rw [List.zip_cons_cons] at hz
          injection hz with hyx hrest
          injection hyx with hy hx
          subst hy hx
          unfold sameFs at hsm
          rw [Bool.and_eq_true] at hsm
          unfold lexF at hR
          refine wpAny_bind (eqAt_flat A.in1 ⟨hp, g, d, tk, os⟩ hsm.1 hd he' prog w _ _ ?_)
          cases hq : eqD dx ex with
          | true =>
            rw [hq, if_pos rfl] at hR
            wp_walk
            exact ⟨rfl, rfl, _, _, _, _, hrest, hvi', hwi', hsm.2, hR⟩
          | false =>
            rw [hq, if_neg Bool.false_ne_true] at hR
            have hri := rcLt_flat A.in1 ⟨hp, g, d, tk, os⟩ hsm.1 hd he' prog w
            wp_walk using hri
            exact ⟨_, rfl, by simpa using hR⟩
    case fin =>
      rintro ⟨b1, b2⟩ s' ⟨hb', rfl, vs, ws, ds', es', hz, hvi, hwi, hsm, hR⟩
      simp only at hb'
      subst hb'
      have hv : lexF ds' es' = decide (items.size < items2.size) := by
        rw [decide_eq_false (by omega)]
        cases hvi with
        | nil => unfold lexF; rfl
        | cons a hv =>
          cases hwi with
          | nil => unfold lexF; rfl
          | cons c hw => rw [List.zip_cons_cons] at hz; cases hz
      rw [hv] at hR
      wp_walk
      exact ⟨_, rfl, by simpa [Builtin.Tuple.tupleCompareSizes] using hR⟩
    case h =>
      exact ⟨rfl, rfl, items.toList, items2.toList, ds, es, rfl, hi, hj, hs, h⟩
end
theorem lt_tupFlat {prog : Program} {w : World} {A : Around} {E : Value → Shared → Prop} {s : Shared} {l b : Addr} {items items2 : Array Value} {ds es : List D} {Q : Value → Shared → Prop} (hl : IsTup s.heap l items) (hb : IsTup s.heap b items2) (hi : Flats ds items.toList) (hj : Flats es items2.toList) (hs : sameFs ds es = true)
    (hu : A.units < cLine) (h : Q (.bool (lexF ds es)) s) : wpAny (model prog w) A (compareOp .Lt (.ref l) (.ref b)) Q E s := by
  obtain ⟨⟨cls, dd, data, sl⟩, ho, hc, n, hd⟩ := id hl
  obtain ⟨⟨cls2, dd2, data2, sl2⟩, ho2, hc2, n2, hd2⟩ := id hb
  simp only at hc hd hc2 hd2
  subst hc hd hc2 hd2
  exact richCompare_meets_room (op := .Lt) ⟨_, ho, rfl⟩ ⟨_, ho2, rfl⟩ PySem.F.slot_tuple_lt PySem.F.entry_tuple_lt (PySem.F.args_tuple_lt_2 _ _) (tuple_lt_flat l b items items2 n n2 dd dd2 sl sl2 ds es hi hj hs)
    ⟨ho, ho2, show Value.bool (lexF ds es) ≠ Value.notImplemented ∧ Q (.bool (lexF ds es)) s from ⟨(fun x => nomatch x), h⟩⟩ hu
end Fx
set_option maxRecDepth 100000
namespace Fx
open PySem PySem.W PySem.Spec PyProof.Rows
section
variable {prog : Program} {w : World} {A : Around} {E : Value → Shared → Prop} {s : Shared}
structure Asks (prog : Program) (w : World) (A : Around) (s : Shared) (a : Addr) (vs : List Value) (κ : SortKind) (r : Nat → Nat) : Prop where
  kind : 2 ≤ vs.length → ∀ h', (∀ b o, b ≠ a → s.heap.get? b = some o → h'.get? b = some o) → ∀ Q : SortKind → Shared → Prop, Q κ { s with heap := h' } → wpAny (model prog w) A (keyKind' vs.toArray) Q (fun _ _ => False) { s with heap := h' }
  ask : ∀ h', (∀ b o, b ≠ a → s.heap.get? b = some o → h'.get? b = some o) → ∀ i j, i < vs.length → j < vs.length → ∀ C : Bool → Shared → Prop, C (ltR r i j) { s with heap := h' } → kas_ask prog w A κ vs i j C { s with heap := h' }
theorem getD_range (vs : List Value) : (List.range vs.length).map (fun i => vs.getD i Value.none) = vs := by
  refine List.ext_getElem (by simp) fun i h1 h2 => ?_
  simp [h2]
theorem list_sort_asks {a : Addr} {vs : List Value} {n : Nat} {κ : SortKind} {r : Nat → Nat} {P : PySem.Fin → Shared → Prop} (ho : s.heap.get? a = some (seqObj "list" vs.toArray n)) (h64 : vs.length < 64) (k : Asks prog w A s a vs κ r)
    (fin : ∀ p : Array Nat, OkP vs.length p → Mono r p vs.length → P (.done (.ret .none)) { s with heap := sortedHeap s.heap a vs (p.toList.map fun i => vs.getD i Value.none).toArray }) :
    wpAny (model prog w) A (Builtin.«list.sort» ⟨[.ref a], []⟩) P E s := by
  rw [list_sort_plain]
  have ha : a < s.heap.objs.size := Heap.lt_size ho
  have big : (64 : Nat) ≤ sizeLine := by decide
  have hsz : vs.toArray.size = vs.length := by simp
  refine wpAny_bind (listItems_at ho rfl ?_)
  refine wpAny_bind (listUpdate_at ho rfl ?_ (by omega) (Nat.zero_le _))
  obtain ⟨e1, ho1⟩ : ∃ e1, (s.heap.update a (Obj.mapSeq fun _ => #[])).get? a = some (seqObj "list" #[] e1) := ⟨_, get?_update_seq ho (fun _ => #[])⟩
  refine wpAny_bind (seqEpoch_at ho1 rfl ?_)
  refine wpAny_bind (wpAny_newTuple ?_ (show vs.length ≤ _ by omega))
  refine wpAny_bind (wpAny_newList ?_ (Nat.zero_le _))
  refine wpAny_holding ?_
  have up : ∀ b o, b < s.heap.objs.size → (s.heap.update a (Obj.mapSeq fun _ => #[])).get? b = some o → (((s.heap.update a (Obj.mapSeq fun _ => #[])).push (seqObj "tuple" vs.toArray 0)).push (seqObj "list" #[] 0)).get? b = some o := fun b o hb q => Heap.get?_push_of_some _ (Heap.get?_push_of_some _ q)
  have ho6 := up a _ ha ho1
  have keep : ∀ b o, b ≠ a → s.heap.get? b = some o → (((s.heap.update a (Obj.mapSeq fun _ => #[])).push (seqObj "tuple" vs.toArray 0)).push (seqObj "list" #[] 0)).get? b = some o := fun b o hb q =>
    up b o (Heap.lt_size q) (by rw [Heap.get?_update_ne _ _ _ _ hb]; exact q)
  show wpAny (model prog w) A _ P E { s with heap := ((s.heap.update a (Obj.mapSeq fun _ => #[])).push (seqObj "tuple" vs.toArray 0)).push (seqObj "list" #[] 0) }
  dsimp only
  have last : ∀ (p : Array Nat) (st : SortSt), OkP vs.length p → Mono r p vs.length → (arrOf st).map (·.2) = (p.toList.map fun i => vs.getD i Value.none).toArray → failedOf st = none → wpAny (model prog w) A (do
      let touched := (← seqEpoch a) != e1
      Builtin.List.listUpdate (.ref a) fun _ => (arrOf st).map (·.2)
      if let some e := failedOf st then rule "list.sort.comparison-raised"; throw e
      if touched then rule "list.sort.modified"; raiseError "ValueError" "list modified during sort"
      ret .none) P E { s with heap := ((s.heap.update a (Obj.mapSeq fun _ => #[])).push (seqObj "tuple" vs.toArray 0)).push (seqObj "list" #[] 0) } := fun p st op mo ar fa => by
    refine wpAny_bind (seqEpoch_at ho6 rfl ?_)
    rw [ar]
    have z : (p.toList.map fun i => vs.getD i Value.none).toArray.size = vs.length := by rw [List.size_toArray, List.length_map, Array.length_toList, op.size]
    refine wpAny_bind (listUpdate_at ho6 rfl ?_ (Nat.zero_le _) (by rw [z]; omega))
    rw [fa]
    simp only [bne_self_eq_false, Bool.false_eq_true, if_false]
    exact wpAny_pure (fin p op mo)
  by_cases h2 : vs.toArray.size < 2
  · rw [if_pos h2, if_pos h2]
    refine wpAny_bind (wpAny_pure ?_)
    rw [StateT.run_pure]
    refine wpAny_bind (wpAny_pure ?_)
    refine last (List.toArray (List.range vs.length)) _ okP_range (fun i j hij hj => by rw [show i = j by omega]; exact Nat.le_refl _) ?_ rfl
    show ((vs.toArray.zip vs.toArray).map (·.2)) = _
    rw [show (List.toArray (List.range vs.length)).toList = List.range vs.length from rfl, getD_range]
    apply Array.toList_inj.mp
    rw [Array.toList_map]
    simp [List.map_snd_zip]
  · rw [if_neg h2, if_neg h2]
    refine wpAny_bind (wpAny_mono (k.kind (by omega) _ keep (fun κ' s' => κ' = κ ∧ s' = { s with heap := ((s.heap.update a (Obj.mapSeq fun _ => #[])).push (seqObj "tuple" vs.toArray 0)).push (seqObj "list" #[] 0) }) ⟨rfl, rfl⟩) (fun κ' s' hk => ?_) fun _ _ x => x.elim)
    obtain ⟨rfl, rfl⟩ := hk
    refine wpAny_bind (wpAny_mono (kat_run (Q := fun st' s' => s' = { s with heap := ((s.heap.update a (Obj.mapSeq fun _ => #[])).push (seqObj "tuple" vs.toArray 0)).push (seqObj "list" #[] 0) } ∧ ∃ p : Array Nat, OkP vs.length p ∧ Mono r p vs.length ∧ arrOf st' = p.map (kas_item (vs.toArray.zip vs.toArray)) ∧ failedOf st' = none)
      (G := fun p s' => s' = { s with heap := ((s.heap.update a (Obj.mapSeq fun _ => #[])).push (seqObj "tuple" vs.toArray 0)).push (seqObj "list" #[] 0) } ∧ OkP vs.length p ∧ Mono r p vs.length) rfl (by omega) h64 (fun p st' s' _ a2 a3 a4 => ⟨a4.1, p, a4.2.1, a4.2.2, a2, a3⟩)
      (WpT.run (lt := ltR r) (n := vs.length) (J := fun s' => s' = { s with heap := ((s.heap.update a (Obj.mapSeq fun _ => #[])).push (seqObj "tuple" vs.toArray 0)).push (seqObj "list" #[] 0) }) (fun i j C s' hi hj hs' hC => ?_) (fun p s' hp hs' => ⟨hs', hp.1, hp.2⟩) _ _ (sort_ok (by omega)) rfl)) ?_ fun _ _ e => e)
    · subst hs'
      exact k.ask _ keep i j hi hj C (hC _ rfl)
    · rintro ⟨⟨⟩, st'⟩ s' ⟨hs', p, h1, h3, h4, h5⟩
      dsimp only at hs' h4 h5
      subst hs'
      exact last p st' h1 h3 (kat_snds rfl h4) h5
theorem sorted_asks {it : Addr} {ob : Obj} {n : Nat} {us : List Value} {κ : SortKind} {Q : Value → Shared → Prop} {r : Nat → Nat} (ho : s.heap.get? it = some ob) (hc : ob.cls = .type "list") (hd : ob.data = .seq us.toArray n) (h64 : us.length < 64)
    (k : ∀ (h1 : Heap) (a : Addr), (∀ b o, s.heap.get? b = some o → h1.get? b = some o) → s.heap.get? a = none → Asks prog w A.in1.in1 { s with heap := h1 } a us κ r)
    (fin : ∀ (h1 h2 : Heap) (p : Array Nat) (e : Nat), OkP us.length p → Mono r p us.length → (∀ b o', s.heap.get? b = some o' → h1.get? b = some o') → (∀ b o', h1.get? b = some o' → h2.get? b = some o') → h2.get? h1.objs.size = some (seqObj "list" (p.toList.map fun i => us.getD i Value.none).toArray e) → Q (.ref h1.objs.size) { s with heap := h2 }) :
    wpAny (model prog w) A (call (.builtin "sorted") [.ref it]) Q E s := by
  refine Calls.call_function_entry kind_sorted plain_sorted entry_sorted (args_sorted1 _) ?_
  unfold Builtin.«sorted»
  refine wpAny_bind (m := checkCount "sorted" 1 1 _) (wpAny_pure ?_)
  have hz : us.toArray.size ≤ sizeLine := by rw [List.size_toArray, sizeLine_eq]; omega
  refine wpAny_bind (wpAny_collect_seq it (.inl rfl) ho hc hd (fun h1 kp => ?_) hz)
  refine wpAny_bind (wpAny_newList ?_)
  have at1 : (h1.push (seqObj "list" us.toArray 0)).get? h1.objs.size = some (seqObj "list" us.toArray 0) := Heap.get?_push_size _ rfl
  have old : ∀ b o, s.heap.get? b = some o → (h1.push (seqObj "list" us.toArray 0)).get? b = some o := fun b o q => Heap.get?_push_of_some _ (kp b o q)
  have new : s.heap.get? h1.objs.size = none := by
    cases q : s.heap.get? h1.objs.size with
    | none => rfl
    | some o => exact absurd (Heap.lt_size (kp _ o q)) (Nat.lt_irrefl _)
  refine wpAny_bind (wpAny_holding (wpAny_call_entry slot_list_sort ⟨_, at1, rfl⟩ entry_list_sort (list_sort_asks (s := { s with heap := h1.push (seqObj "list" us.toArray 0) }) at1 h64 (k _ _ old new) fun p op mo => ⟨_, rfl, ?_⟩) (args_list_sort _)))
  obtain ⟨e, he⟩ := sortedHeap_at (out := (p.toList.map fun i => us.getD i Value.none).toArray) at1
  refine wpAny_pure ⟨_, rfl, fin h1 _ p e op mo kp (fun b o' hb => ?_) he⟩
  have lt : b < h1.objs.size := Heap.lt_size hb
  show (sortedHeap (h1.push (seqObj "list" us.toArray 0)) h1.objs.size us (p.toList.map fun i => us.getD i Value.none).toArray).get? b = some o'
  rw [sortedHeap_old (Nat.ne_of_lt lt) (by rw [size_push']; exact Nat.lt_succ_of_lt lt)]
  exact Heap.get?_push_of_some _ hb
end
end Fx
set_option maxRecDepth 100000
namespace Fx
open PySem PySem.W PySem.Spec PyProof.Rows L2
section
variable {prog : Program} {w : World} {A : Around} {E : Value → Shared → Prop} {s : Shared} {b : Bool} {Q : Bool → Shared → Prop}
theorem lex_step {p q : Value} {r : List (Value × Value)} {i : Nat} {e l : Bool} {fin : Bool} (hE : SeqAt.EqAt A s p q e) (hL : ∀ Q' : Bool → Shared → Prop, Q' l s → wpAny (model prog w) A (oneLt' (b && i == 0) p q) Q' (fun _ _ => False) s)
    (h1 : e = true → KatLex prog w A b fin Q r (i + 1) s) (h2 : e = false → Q l s) : KatLex prog w A b fin Q ((p, q) :: r) i s :=
  kat_cons (hE prog w _ _ (kat_go (fun z => kat_yes (h1 z)) fun z => kat_no (hL Q (h2 z))))
theorem oneLt_flat (c : Bool) {d e : D} {u v : Value} (h : sameF d e = true) (r1 : RelF d u) (r2 : RelF e v) (Q' : Bool → Shared → Prop) (q : Q' (ltF d e) s) : wpAny (model prog w) A (oneLt' c u v) Q' E s := by
  cases c with
  | false => exact kat_one u v (rcLt_flat A s h r1 r2 prog w E _ q)
  | true =>
    cases d with
    | int i =>
      cases e with
      | int j => obtain ⟨t, rfl⟩ := r1; obtain ⟨w', rfl⟩ := r2; exact oneLt_int q
      | _ => cases h
    | str a =>
      cases e with
      | str b => obtain ⟨t, rfl⟩ := r1; obtain ⟨w', rfl⟩ := r2; exact oneLt_str q
      | _ => cases h
    | _ => cases h
theorem katlex_flat : ∀ (ds es : List D) {us vs : List Value} {i : Nat}, sameFs ds es = true → Flats ds us → Flats es vs → Q (lexF ds es) s → KatLex prog w A b false Q (us.zip vs) i s
  | [], [], _, _, i, h, f1, f2, q => by
    cases f1
    cases f2
    unfold lexF at q
    exact kat_nil q
  | [], _ :: _, _, _, i, h, _, _, q => by cases h
  | _ :: _, [], _, _, i, h, _, _, q => by cases h
  | d :: ds, e :: es, _, _, i, h, f1, f2, q => by
    cases f1 with
    | cons a r =>
      cases f2 with
      | cons a' r' =>
        unfold sameFs at h
        rw [Bool.and_eq_true] at h
        unfold lexF at q
        rw [List.zip_cons_cons]
        refine lex_step (eqAt_flat A s h.1 a a') (fun Q' => oneLt_flat _ h.1 a a' Q') (fun z => ?_) fun z => ?_
        · rw [if_pos z] at q; exact katlex_flat ds es h.2 r r' q
        · rw [if_neg (by rw [z]; exact Bool.false_ne_true)] at q; exact q
end
theorem app_lt : ∀ {a c : Ky} {x y : Ky}, a.length = c.length → (a ++ x < c ++ y ↔ a < c ∨ (a = c ∧ x < y))
  | [], [], x, y, _ => by simp
  | [], _ :: _, _, _, h => by cases h
  | _ :: _, [], _, _, h => by cases h
  | k :: a, l :: c, x, y, h => by
    rw [List.cons_append, List.cons_append, List.cons_lt_cons_iff, List.cons_lt_cons_iff, app_lt (by simpa using h)]
    constructor
    · rintro (z | ⟨rfl, z | ⟨rfl, z⟩⟩)
      · exact .inl (.inl z)
      · exact .inl (.inr ⟨rfl, z⟩)
      · exact .inr ⟨rfl, z⟩
    · rintro ((z | ⟨rfl, z⟩) | ⟨z, z2⟩)
      · exact .inl z
      · exact .inr ⟨rfl, .inl z⟩
      · injection z with z3 z4; subst z3 z4; exact .inr ⟨rfl, .inr ⟨rfl, z2⟩⟩
theorem fK_tup (xs : List D) : fK (.tup xs) = fKs xs := by rw [fK]
theorem fKs_nil : fKs [] = [] := by rw [fKs]
theorem eqDs_iff : ∀ {ds es : List D}, sameFs ds es = true → (eqDs ds es = true ↔ ds = es)
  | [], [], _ => by simp
  | [], _ :: _, h => by cases h
  | _ :: _, [], h => by cases h
  | d :: r, e :: t, h => by
    unfold sameFs at h
    rw [Bool.and_eq_true] at h
    have q := (sameF_eq h.1).1
    have ih := eqDs_iff h.2
    rw [show eqDs (d :: r) (e :: t) = (eqD d e && eqDs r t) by simp [eqDs], Bool.and_eq_true, q, ih]
    simp
theorem two_lt {a1 a2 b1 b2 : List D} (h1 : sameFs a1 b1 = true) (h2 : sameFs a2 b2 = true) : (if eqD (.tup a1) (.tup b1) = true then (if eqD (.tup a2) (.tup b2) = true then false else lexF a2 b2) else lexF a1 b1) = decide (fK (.tup [.tup a1, .tup a2]) < fK (.tup [.tup b1, .tup b2])) := by
  have e : ∀ x y : List D, fK (.tup [.tup x, .tup y]) = fKs x ++ fKs y := fun x y => by rw [fK_tup, fKs_cons, fKs_cons, fK_tup, fK_tup, fKs_nil, List.append_nil]
  rw [e, e, lexF_lt h1, lexF_lt h2, eqD_tup_tup, eqD_tup_tup]
  have l := app_lt (a := fKs a1) (c := fKs b1) (x := fKs a2) (y := fKs b2) (sameFs_len h1).2
  by_cases z : eqDs a1 b1 = true
  · rw [if_pos z]
    have z' := (eqDs_iff h1).mp z
    subst z'
    have l2 : (fKs a1 ++ fKs a2 < fKs a1 ++ fKs b2) ↔ fKs a2 < fKs b2 := by
      rw [l]; exact ⟨fun y => y.elim (fun y => absurd y (List.lt_irrefl _)) (·.2), fun y => .inr ⟨rfl, y⟩⟩
    by_cases z2 : eqDs a2 b2 = true
    · rw [if_pos z2]
      have z2' := (eqDs_iff h2).mp z2
      subst z2'
      exact (decide_eq_false (List.lt_irrefl _)).symm
    · rw [if_neg z2]
      exact decide_eq_decide.mpr l2.symm
  · rw [if_neg z]
    refine decide_eq_decide.mpr ?_
    rw [l]
    exact ⟨.inl, fun y => y.elim id fun y => absurd ((eqDs_iff h1).mpr ((sameFs_inj h1).mp y.1)) z⟩
theorem r3_eq {d : D} (h : r3 d = true) : ∃ i a j, d = .tup [.int i, .str a, .int j] := by
  unfold r3 at h
  split at h
  · exact ⟨_, _, _, rfl⟩
  · cases h
theorem r22_eq {d : D} (h : r22 d = true) : ∃ a i j k, d = .tup [.tup [.str a, .int i], .tup [.int j, .int k]] := by
  unfold r22 at h
  split at h
  · exact ⟨_, _, _, _, rfl⟩
  · cases h
section
variable {X : Cx} {pins : List (Addr × Obj)} {σ : L2.St} {H : Hp} {s : Shared}
theorem flats_of {K : Frag} : ∀ {ds : List D} {vs : List V} {us : List Value}, (∀ d ∈ ds, ∃ e, sameF d e = true) → Reps K H ds vs → Vals vs us → Flats ds us
  | [], vs, us, _, r, v => by unfold Reps at r; subst r; cases v; exact .nil
  | d :: ds, vs, us, h, r, v => by
    unfold Reps at r
    obtain ⟨x, vr, rfl, r1, r2⟩ := r
    cases v with
    | cons rx vx =>
      refine .cons ?_ (flats_of (fun e he => h e (List.mem_cons_of_mem _ he)) r2 vx)
      obtain ⟨e, he⟩ := h d List.mem_cons_self
      cases d with
      | int i => unfold Rep at r1; subst r1; exact rx
      | str a => unfold Rep at r1; subst r1; exact rx
      | _ => cases e <;> cases he
theorem tup_at (I : Inv X pins σ H s) {ds : List D} {v : V} {u : Value} (r : Rep X.K H (.tup ds) v) (ru : RelV v u) : ∃ a ws its, u = .ref a ∧ IsTup s.heap a (List.toArray its) ∧ Reps X.K H ds ws ∧ Vals ws its := by
  unfold Rep at r
  obtain ⟨a, ws, rfl, sq, rr⟩ := r
  obtain ⟨its, rv, tp, _⟩ := I.tuple sq
  exact ⟨a, ws, its, ru, tp, rr, rv⟩
theorem reps_get {K : Frag} : ∀ {ds : List D} {vs : List V} {us : List Value} {i : Nat}, Reps K H ds vs → Vals vs us → i < ds.length → ∃ v, Rep K H (ds.getD i .non) v ∧ RelV v (us.getD i Value.none)
  | [], _, _, _, _, _, h => by cases h
  | d :: ds, vs, us, i, r, v, h => by
    unfold Reps at r
    obtain ⟨x, vr, rfl, r1, r2⟩ := r
    cases v with
    | cons rx vx =>
      cases i with
      | zero => exact ⟨x, r1, rx⟩
      | succ i => exact reps_get (i := i) r2 vx (by simpa using h)
theorem reps_perm {K : Frag} {ds : List D} {vs : List V} {us : List Value} (r : Reps K H ds vs) (v : Vals vs us) : ∀ {is : List Nat}, (∀ i ∈ is, i < ds.length) → ∃ ws, Reps K H (is.map fun i => ds.getD i .non) ws ∧ Vals ws (is.map fun i => us.getD i Value.none)
  | [], _ => ⟨[], by unfold Reps; rfl, .nil⟩
  | i :: is, h => by
    obtain ⟨x, r1, r2⟩ := reps_get r v (h i List.mem_cons_self)
    obtain ⟨ws, r3, r4⟩ := reps_perm r v (is := is) fun j hj => h j (List.mem_cons_of_mem _ hj)
    exact ⟨x :: ws, Reps.cons r1 r3, .cons r2 r4⟩
end
end Fx
set_option maxRecDepth 100000
namespace Fx
open PySem PySem.W PySem.Spec PyProof.Rows L2
section
variable {X : Cx} {pins : List (Addr × Obj)} {σ : L2.St} {H : Hp} {s : Shared}
theorem ask3 {A : Around} {b : Bool} {Q : Bool → Shared → Prop} {E : Value → Shared → Prop} (I : Inv X pins σ H s) {d e : D} (hd : r3 d = true) (he : r3 e = true) {x y : V} {u v : Value} (r1 : Rep X.K H d x) (v1 : RelV x u) (r2 : Rep X.K H e y) (v2 : RelV y v)
    (q : Q (decide (fK d < fK e)) s) : wpAny (model X.prog X.w) A (keyLt' (tuples' b) u v) Q E s := by
  obtain ⟨i, a, j, rfl⟩ := r3_eq hd
  obtain ⟨i', a', j', rfl⟩ := r3_eq he
  obtain ⟨p1, ws, its, rfl, ⟨o, ho, hc, n, hdt⟩, rr, rv⟩ := tup_at I r1 v1
  obtain ⟨p2, ws', its', rfl, ⟨o', ho', hc', n', hdt'⟩, rr', rv'⟩ := tup_at I r2 v2
  have sm : sameFs [.int i, .str a, .int j] [.int i', .str a', .int j'] = true := rfl
  have fl : ∀ (i : Int) (a : Str) (j : Int), ∀ d ∈ [D.int i, .str a, .int j], ∃ e, sameF d e = true := fun i a j d hd => by
    simp only [List.mem_cons, List.not_mem_nil, or_false] at hd
    rcases hd with rfl | rfl | rfl
    · exact ⟨.int 0, rfl⟩
    · exact ⟨.str a, rfl⟩
    · exact ⟨.int 0, rfl⟩
  have f1 := flats_of (fl i a j) rr rv
  have f2 := flats_of (fl i' a' j') rr' rv'
  have l1 := f1.length
  have l2 := f2.length
  rw [fK_tup, fK_tup, ← lexF_lt sm] at q
  refine kat_lt ho hdt ho' hdt' ?_
  rw [show decide ((List.toArray its).size < (List.toArray its').size) = false from decide_eq_false (by rw [List.size_toArray, List.size_toArray, ← l1, ← l2]; exact Nat.lt_irrefl _)]
  exact katlex_flat _ _ sm f1 f2 q
theorem ask22 {A : Around} {Q : Bool → Shared → Prop} {E : Value → Shared → Prop} (hA : A.units + 8 < cLine) (I : Inv X pins σ H s) {d e : D} (hd : r22 d = true) (he : r22 e = true) {x y : V} {u v : Value} (r1 : Rep X.K H d x) (v1 : RelV x u) (r2 : Rep X.K H e y) (v2 : RelV y v)
    (q : Q (decide (fK d < fK e)) s) : wpAny (model X.prog X.w) A (keyLt' (tuples' false) u v) Q E s := by
  obtain ⟨a, i, j, k, rfl⟩ := r22_eq hd
  obtain ⟨a', i', j', k', rfl⟩ := r22_eq he
  obtain ⟨p1, ws, its, rfl, ⟨o, ho, hc, n, hdt⟩, rr, rv⟩ := tup_at I r1 v1
  obtain ⟨p2, ws', its', rfl, ⟨o', ho', hc', n', hdt'⟩, rr', rv'⟩ := tup_at I r2 v2
  have s1 : sameFs [.str a, .int i] [.str a', .int i'] = true := rfl
  have s2 : sameFs [.int j, .int k] [.int j', .int k'] = true := rfl
  have fl : ∀ (a : Str) (i : Int), ∀ d ∈ [D.str a, .int i], ∃ e, sameF d e = true := fun a i d hd => by
    simp only [List.mem_cons, List.not_mem_nil, or_false] at hd
    rcases hd with rfl | rfl
    · exact ⟨.str a, rfl⟩
    · exact ⟨.int 0, rfl⟩
  have fm : ∀ (j k : Int), ∀ d ∈ [D.int j, .int k], ∃ e, sameF d e = true := fun j k d hd => by
    simp only [List.mem_cons, List.not_mem_nil, or_false] at hd
    rcases hd with rfl | rfl
    · exact ⟨.int 0, rfl⟩
    · exact ⟨.int 0, rfl⟩
  rw [← two_lt s1 s2] at q
  unfold Reps at rr rr'
  obtain ⟨x1, t1, rfl, q1, rr⟩ := rr
  obtain ⟨y1, t2, rfl, q2, rr'⟩ := rr'
  unfold Reps at rr rr'
  obtain ⟨x2, t3, rfl, q3, rr⟩ := rr
  obtain ⟨y2, t4, rfl, q4, rr'⟩ := rr'
  unfold Reps at rr rr'
  subst rr rr'
  cases rv with
  | cons c1 rv =>
    cases rv with
    | cons c2 rv =>
      cases rv
      cases rv' with
      | cons c3 rv' =>
        cases rv' with
        | cons c4 rv' =>
          cases rv'
          rename_i u1 u2 w1 w2
          have eqn := eqNall I 3
          have E1 : SeqAt.EqAt A s u1 w1 (eqD (.tup [.str a, .int i]) (.tup [.str a', .int i'])) := eqn A _ _ x1 y1 u1 w1 (by simp) (by simp) (by simp) (by omega) q1 c1 q2 c3
          have E2 : SeqAt.EqAt A s u2 w2 (eqD (.tup [.int j, .int k]) (.tup [.int j', .int k'])) := eqn A _ _ x2 y2 u2 w2 (by simp) (by simp) (by simp) (by omega) q3 c2 q4 c4
          have T : ∀ {ds es : List D} {x y : V} {u v : Value}, sameFs ds es = true → (∀ d ∈ ds, ∃ e, sameF d e = true) → (∀ d ∈ es, ∃ e, sameF d e = true) → Rep X.K H (.tup ds) x → RelV x u → Rep X.K H (.tup es) y → RelV y v → ∀ Q' : Bool → Shared → Prop, Q' (lexF ds es) s → wpAny (model X.prog X.w) A (oneLt' false u v) Q' (fun _ _ => False) s := fun {ds es x y u v} sm g1 g2 ra rb rc rd Q' q' => by
            obtain ⟨a1, _, i1, rfl, tp1, m1, m2⟩ := tup_at I ra rb
            obtain ⟨a2, _, i2, rfl, tp2, m3, m4⟩ := tup_at I rc rd
            exact kat_one _ _ (lt_tupFlat tp1 tp2 (flats_of g1 m1 m2) (flats_of g2 m3 m4) sm (by omega) q')
          refine kat_lt ho hdt ho' hdt' (lex_step E1 (fun Q' => T s1 (fl a i) (fl a' i') q1 c1 q2 c3 Q') (fun z => lex_step E2 (fun Q' => T s2 (fm j k) (fm j' k') q3 c2 q4 c4 Q') (fun z2 => kat_nil ?_) fun z2 => ?_) fun z => ?_)
          · rw [if_pos z, if_pos z2] at q; exact q
          · rw [if_pos z, if_neg (by rw [z2]; exact Bool.false_ne_true)] at q; exact q
          · rw [if_neg (by rw [z]; exact Bool.false_ne_true)] at q; exact q
theorem firsts {T : Value} (I : Inv X pins σ H s) : ∀ {ds : List D} {vs : List V} {us : List Value}, (∀ d ∈ ds, ∃ e r, d = .tup (e :: r) ∧ ∀ (x : V) (u : Value), Rep X.K H e x → RelV x u → Looks (model X.prog X.w) s.heap (typeOf u) T) → Reps X.K H ds vs → Vals vs us →
    ∃ fs : List Value, KatTups s.heap us fs ∧ fs.length = ds.length ∧ ∀ v ∈ fs, Looks (model X.prog X.w) s.heap (typeOf v) T
  | [], vs, us, _, r, v => by unfold Reps at r; subst r; cases v; exact ⟨[], .nil, rfl, fun _ h => by cases h⟩
  | d :: ds, vs, us, h, r, v => by
    unfold Reps at r
    obtain ⟨x, vr, rfl, r1, r2⟩ := r
    cases v with
    | cons rx vx =>
      obtain ⟨fs, k1, k2, k3⟩ := firsts I (fun e he => h e (List.mem_cons_of_mem _ he)) r2 vx
      obtain ⟨e, rr, rfl, hT⟩ := h d List.mem_cons_self
      obtain ⟨a, ws, its, rfl, ⟨o, ho, hc, n, hd⟩, r3, v3⟩ := tup_at I r1 rx
      unfold Reps at r3
      obtain ⟨x1, wr, rfl, r4, _⟩ := r3
      cases v3 with
      | @cons _ u1 _ l1 rx1 vx1 =>
        refine ⟨u1 :: fs, .cons ho hc hd (by simp) k1, by simp [k2], fun z hz => ?_⟩
        rcases List.mem_cons.mp hz with rfl | hz
        · exact hT _ _ r4 rx1
        · exact k3 z hz
theorem looks_int {M : Model} {h : Heap} {i : Int} {t : Tok} : Looks M h (typeOf (.int i t)) (.type "int") := .now
theorem looks_tup {M : Model} {h : Heap} {a : Addr} {its : Array Value} (x : IsTup h a its) : Looks M h (typeOf (.ref a)) (.type "tuple") := by
  obtain ⟨o, ho, hc, _⟩ := x
  rw [← hc]
  exact (Looks.ld ho).andThen .now
def rSortT (K : Frag) : List V → Hp → VK → Prop := fun xs H Q => ∃ p ds vs H0, xs = [.ref p] ∧ SqL K H p vs ∧ Same H0 H ∧ Reps K H0 ds vs ∧ ds.length < 64 ∧ (ds.all r3 = true ∨ ds.all r22 = true) ∧ ∀ l vs', H l = none → Reps K H0 (sortT ds) vs' → Q (.ref l) (upd H l (.lst vs'))
theorem r3_inj {a b : D} (ha : r3 a = true) (hb : r3 b = true) (h : fK a = fK b) : a = b := by
  obtain ⟨i, x, j, rfl⟩ := r3_eq ha
  obtain ⟨i', x', j', rfl⟩ := r3_eq hb
  rw [fK_tup, fK_tup] at h
  rw [(sameFs_inj (ds := [.int i, .str x, .int j]) (es := [.int i', .str x', .int j']) rfl).mp h]
theorem r22_inj {a b : D} (ha : r22 a = true) (hb : r22 b = true) (h : fK a = fK b) : a = b := by
  obtain ⟨x, i, j, k, rfl⟩ := r22_eq ha
  obtain ⟨x', i', j', k', rfl⟩ := r22_eq hb
  have e : ∀ x y : List D, fK (.tup [.tup x, .tup y]) = fKs x ++ fKs y := fun x y => by rw [fK_tup, fKs_cons, fKs_cons, fK_tup, fK_tup, fKs_nil, List.append_nil]
  rw [e, e] at h
  obtain ⟨h1, h2⟩ := List.append_inj h (sameFs_len (ds := [.str x, .int i]) (es := [.str x', .int i']) rfl).2
  rw [(sameFs_inj (ds := [.str x, .int i]) (es := [.str x', .int i']) rfl).mp h1, (sameFs_inj (ds := [.int j, .int k]) (es := [.int j', .int k']) rfl).mp h2]
theorem call_sortT (hu : X.A.units + 64 < cLine) : CallR X (.builtin "sorted") (rSortT X.K) := by
  intro pins s σ H xs us Q I r h
  obtain ⟨p, ds, vs, H0, rfl, sq, sm, rp0, h64, sh, q⟩ := h
  have rp : Reps X.K H ds vs := Reps.mono sm _ rp0
  obtain ⟨u, rfl, ru⟩ := vals1 r
  cases ru
  obtain ⟨its, rv, ⟨ob, n, h1, h2, h3, h4⟩, _⟩ := I.list sq
  have len : its.length = ds.length := by rw [← rv.length, ← rp.length]
  have inn : X.A.in1.in1.units + 8 < cLine := by
    have e : X.A.in1.in1.units ≤ X.A.units + 2 := by simp [Around.in1, Around.units]
    omega
  have inj : ∀ a b, a ∈ ds → b ∈ ds → fK a = fK b → a = b := fun a b ha hb e => by
    rcases sh with sh | sh
    · exact r3_inj (List.all_eq_true.mp sh a ha) (List.all_eq_true.mp sh b hb) e
    · exact r22_inj (List.all_eq_true.mp sh a ha) (List.all_eq_true.mp sh b hb) e
  have mem : ∀ i, i < ds.length → ds.getD i .non ∈ ds := fun i hi => by
    rw [List.getD_eq_getElem?_getD, List.getElem?_eq_getElem hi]; exact List.getElem_mem hi
  obtain ⟨κ, kd, ak⟩ : ∃ κ : SortKind, (∀ (pins : List (Addr × Obj)) (s : Shared), Inv X pins σ H s → 2 ≤ its.length → ∀ Q : SortKind → Shared → Prop, Q κ s → wpAny (model X.prog X.w) X.A.in1.in1 (keyKind' its.toArray) Q (fun _ _ => False) s) ∧
      ∀ (pins : List (Addr × Obj)) (s : Shared), Inv X pins σ H s → ∀ i j, i < ds.length → j < ds.length → ∀ Q : Bool → Shared → Prop, Q (decide (fK (ds.getD i .non) < fK (ds.getD j .non))) s → kas_ask X.prog X.w X.A.in1.in1 κ its i j Q s := by
    rcases sh with sh | sh
    · refine ⟨tuples' (Value.type "int" != Value.type "tuple"), fun pins s I' l2 Q q => ?_, fun pins s I' i j hi hj Q q => ?_⟩
      · obtain ⟨fs, k1, k2, k3⟩ := firsts (T := .type "int") I' (fun d hd => by
          obtain ⟨i, a, j, rfl⟩ := r3_eq (List.all_eq_true.mp sh d hd)
          refine ⟨_, _, rfl, fun x u rx ru => ?_⟩
          unfold Rep at rx
          subst rx
          obtain ⟨t, rfl⟩ := ru
          exact looks_int) rp rv
        exact kat_kind k1 (by omega) k3 rfl q
      · obtain ⟨x, rx, ux⟩ := reps_get rp rv hi
        obtain ⟨y, ry, uy⟩ := reps_get rp rv hj
        exact ask3 I' (List.all_eq_true.mp sh _ (mem i hi)) (List.all_eq_true.mp sh _ (mem j hj)) rx ux ry uy q
    · refine ⟨tuples' (Value.type "tuple" != Value.type "tuple"), fun pins s I' l2 Q q => ?_, fun pins s I' i j hi hj Q q => ?_⟩
      · obtain ⟨fs, k1, k2, k3⟩ := firsts (T := .type "tuple") I' (fun d hd => by
          obtain ⟨a, i, j, k, rfl⟩ := r22_eq (List.all_eq_true.mp sh d hd)
          refine ⟨_, _, rfl, fun x u rx ru => ?_⟩
          obtain ⟨_, _, _, rfl, tp, _⟩ := tup_at I' rx ru
          exact looks_tup tp) rp rv
        exact kat_kind k1 (by omega) k3 rfl q
      · obtain ⟨x, rx, ux⟩ := reps_get rp rv hi
        obtain ⟨y, ry, uy⟩ := reps_get rp rv hj
        exact ask22 inn I' (List.all_eq_true.mp sh _ (mem i hi)) (List.all_eq_true.mp sh _ (mem j hj)) rx ux ry uy q
  refine sorted_asks (κ := κ) (r := rankK ds.length fun i => fK (ds.getD i .non)) h1 h2 h4 (by omega) (fun g a kp na => ?_) fun g1 g2 pm e op mo k1 k2 at2 => ?_
  · have up : ∀ g' : Heap, (∀ b o, b ≠ a → g.get? b = some o → g'.get? b = some o) → ∀ b o, s.heap.get? b = some o → g'.get? b = some o := fun g' k b o z => k b o (fun y => by rw [y, na] at z; cases z) (kp b o z)
    refine ⟨fun l2 g' k Q q => kd pins _ (I.kept (t' := s.toks) (up g' k)) l2 Q q, fun g' k i j hi hj C q => ak pins _ (I.kept (t' := s.toks) (up g' k)) i j (by omega) (by omega) C ?_⟩
    have ri := rank_iff (n := ds.length) (key := fun i => fK (ds.getD i .non)) (i := i) (j := j) (by omega)
    rw [← decide_eq_decide.mpr ri]
    exact q
  · have I1 : Inv X pins σ H { s with heap := g1 } := I.kept (t' := s.toks) k1
    rw [len] at op mo
    have below : ∀ i ∈ pm.toList, i < ds.length := fun i hi => List.mem_range.mp (op.perm.mem_iff.mp hi)
    obtain ⟨ws, w1, w2⟩ := reps_perm rp0 rv below
    have srt : (pm.toList.map fun i => ds.getD i .non) = sortT ds := by
      refine sortT_uniq inj ?_ ?_
      · have e1 := op.perm.map fun i => ds.getD i .non
        have e2 : (List.range ds.length).map (fun i => ds.getD i .non) = ds := by
          refine List.ext_getElem (by simp) fun i h1 h2 => ?_
          simp [h2]
        rw [e2] at e1
        exact e1
      · rw [List.pairwise_map, List.pairwise_iff_getElem]
        intro i j hi hj hij
        have szp : pm.toList.length = ds.length := by rw [Array.length_toList, op.size]
        have m1 := mo i j (Nat.le_of_lt hij) (by omega)
        have gi : pm.getD i 0 = pm.toList[i] := by
          rw [Array.getD_eq_getD_getElem?, ← Array.getElem?_toList, List.getElem?_eq_getElem hi]; rfl
        have gj : pm.getD j 0 = pm.toList[j] := by
          rw [Array.getD_eq_getD_getElem?, ← Array.getElem?_toList, List.getElem?_eq_getElem hj]; rfl
        unfold KP at m1
        rw [gi, gj] at m1
        refine decide_eq_false fun z => ?_
        have := (rank_iff (n := ds.length) (key := fun i => fK (ds.getD i .non)) (i := pm.toList[j]) (j := pm.toList[i]) (below _ (List.getElem_mem hj))).mpr z
        omega
    rw [srt] at w1
    have hz : ws.length ≤ sizeLine := by
      have := w1.length
      rw [(sortT_perm ds).length_eq] at this
      have big : (64 : Nat) ≤ sizeLine := by decide
      omega
    exact ⟨.ref g1.objs.size, _, I1.laid (t' := s.toks) (o := .lst ws) k2 (Nat.le_refl _) ⟨hz, _, e, w2, at2⟩, rfl, q _ _ (I1.hok.fresh (Nat.le_refl _)) w1⟩
theorem callSortT (hu : X.A.units + 64 < cLine) : BOk X (.builtin "sorted") bSortT := ⟨_, call_sortT hu, fun c H0 H ρ σ ds d vs Q R r e q => by
  unfold bSortT at e
  split at e
  · rename_i xs
    obtain ⟨⟨h64, sh⟩, rfl⟩ := ifs e
    obtain ⟨v, rfl, rv⟩ := Reps.v1 r
    unfold Rep at rv
    obtain ⟨p, ws, rfl, sq, t⟩ := rv
    refine ⟨p, xs, ws, H0, rfl, Same.seq R.same sq, R.same, t, h64, sh, fun l ws' hl r' => ?_⟩
    have S := Step.alloc (o := .lst ws') R.same hl
    refine q _ _ _ S.s0 (R.after S) ?_
    unfold Rep
    exact ⟨l, ws', rfl, .inl (.inl upd_same), Reps.mono S.s0 _ r'⟩
  · cases e⟩
end
end Fx
namespace Fx
open PySem
def bSum : List D → Option D
  | [.lst xs] => bnd (intsOf xs) fun is => some (.int is.sum)
  | _ => none
theorem bSum_l (xs : List D) : bSum [.lst xs] = bnd (intsOf xs) fun is => some (.int is.sum) := rfl
def dRev : D → Option D
  | .lst xs => some (.lst xs.reverse)
  | _ => none
@[simp] theorem dRev_l (xs : List D) : dRev (.lst xs) = some (.lst xs.reverse) := Eq.trans rfl rfl
def two : D → Option (D × D)
  | .tup [a, b] => some (a, b)
  | _ => none
def cGo2 (T : FT) (F : FE) (fr : En) : List D → Option (List D)
  | [] => some []
  | d :: r => bnd (two d) fun q => bnd (T (.im q.1 :: .im q.2 :: fr)) fun p => if p.1 = true then bnd (F p.2) fun z => bnd (cGo2 T F fr r) fun t => some (z.1 :: t) else cGo2 T F fr r
theorem cGo2_nil (T : FT) (F : FE) (fr : En) : cGo2 T F fr [] = some [] := rfl
theorem cGo2_cons (T : FT) (F : FE) (fr : En) (d : D) (r : List D) : cGo2 T F fr (d :: r) = bnd (two d) fun q => bnd (T (.im q.1 :: .im q.2 :: fr)) fun p => if p.1 = true then bnd (F p.2) fun z => bnd (cGo2 T F fr r) fun t => some (z.1 :: t) else cGo2 T F fr r := rfl
def eLC2 (js : List Nat) (I : FE) (T : FT) (F : FE) (ρ : En) : Option (D × En) := bnd (I ρ) fun p => bnd (items p.1) fun xs => bnd (imAt p.2 js) fun fr => bnd (cGo2 T F fr xs) fun ys => if xs.length ≤ sizeLine then some (.lst ys, p.2) else none
def keyT : D → Option Str
  | .tup [.int _, .str k, .int _] => some k
  | _ => none
def timT : D → Option Int
  | .tup [.int t, .str _, .int _] => some t
  | _ => none
def lastAt (k : Str) : List (List D) → Option Nat
  | [] => none
  | x :: r => match lastAt k r with
    | some i => some (i + 1)
    | none => if (x.head?.bind keyT) = some k then some 0 else none
def joins (gap t : Int) (x : List D) : Bool := match x.getLast?.bind timT with
  | some u => decide (t - u < gap)
  | none => false
def sesStep (gap : Int) (st : List (List D)) (k : Str) (t : Int) (d : D) : List (List D) := match lastAt k st with
  | some i => if joins gap t (st.getD i []) = true then st.set i (st.getD i [] ++ [d]) else st ++ [[d]]
  | none => st ++ [[d]]
def sesGo (gap : Int) : List D → List (List D) → Option (List (List D))
  | [], st => some st
  | .tup [.int t, .str k, .int v] :: r, st => sesGo gap r (sesStep gap st k t (.tup [.int t, .str k, .int v]))
  | _, _ => none
def sessM : List D → Option D
  | [.int gap, .lst xs] => if xs.length < 64 ∧ xs.all r3 = true then bnd (sesGo gap (sortT xs) []) fun st => some (.lst (st.map .lst)) else none
  | _ => none
end Fx
set_option maxRecDepth 100000
namespace Fx
open PySem PySem.Spec PyProof.Rows L2
section
variable {X : Cx} {pos : Pos} {e : Expr} {F : FE}
theorem call_sumL (hc : X.calm = true) : CallR X (.builtin "sum") (fun xs H Q => ∃ (p : Addr) (is : List Int), xs = [.ref p] ∧ SqL X.K H p (is.map V.int) ∧ Q (.int is.sum) H) := by
  intro pins s σ H xs us Q I r h
  obtain ⟨l, is, rfl, hl, q⟩ := h
  obtain ⟨u, rfl, ru⟩ := vals1 r
  cases ru
  obtain ⟨its, rv, pl, hz⟩ := I.list hl
  have hi := intsAre_of rv
  have hL := pl.isList
  obtain ⟨ys, e⟩ := hi.allInts.items
  have hns : is = ys.toList.map (·.1) := by rw [← hi.numsOf, ← nums_intItems, ← e]
  rw [e] at hL
  refine PySem.sum_intListG (I.ok.hd hc) hL fun h' tk t' hk => ⟨.int is.sum, H, I.kept (t' := tk) hk, ?_, q⟩
  rw [preSum_eq, List.take_of_length_le (by simp), ← hns]
  exact ⟨t', rfl⟩
theorem callSum (hc : X.calm = true) : BOk X (.builtin "sum") bSum := ⟨_, call_sumL hc, fun c H0 H ρ σ ds d vs Q R r e q => by
  unfold bSum at e
  split at e
  · obtain ⟨is, e1, e2⟩ := bnd_eq e
    cases e2
    obtain ⟨v, rfl, rv⟩ := Reps.v1 r
    unfold Rep at rv
    obtain ⟨p, ws, rfl, s, t⟩ := rv
    have := ints_rep e1 t
    subst this
    exact ⟨p, is, rfl, Same.seq R.same s, q _ H0 H (Same.refl _) R (rep_int _ _)⟩
  · cases e⟩
theorem fm_map {α β : Type} {f : α → Option β} {g : α → β} : ∀ l : List α, (∀ k ∈ l, f k = some (g k)) → l.filterMap f = l.map g
  | [], _ => rfl
  | k :: r, h => by rw [List.filterMap_cons, h k List.mem_cons_self, List.map_cons, fm_map r fun x hx => h x (List.mem_cons_of_mem _ hx)]
theorem pick_rev (its : List Value) : slicePick its.toArray none none (some (-1)) = its.reverse.toArray := by
  unfold slicePick
  have b : sliceBounds none none (some (-1)) its.toArray.size = ((its.length : Int) - 1, -1, -1) := by
    unfold sliceBounds
    simp
  rw [b]
  have r : sliceRange ((its.length : Int) - 1) (-1) (-1) = (List.range its.length).map fun k => its.length - 1 - k := by
    unfold sliceRange
    have c : (if (-1 : Int) > 0 then (if (its.length : Int) - 1 < -1 then (-1 - ((its.length : Int) - 1) + -1 - 1) / -1 else 0) else (if (its.length : Int) - 1 > -1 then ((its.length : Int) - 1 - -1 - -1 - 1) / (- -1) else 0)).toNat = its.length := by
      rw [if_neg (by decide)]
      by_cases h : (its.length : Int) - 1 > -1
      · rw [if_pos h, show (- -1 : Int) = 1 by decide, Int.ediv_one]; omega
      · rw [if_neg h]; omega
    simp only [c]
    refine List.map_congr_left fun k hk => ?_
    have := List.mem_range.mp hk
    omega
  show ((sliceRange ((its.length : Int) - 1) (-1) (-1)).filterMap (its.toArray[·]?)).toArray = _
  rw [r, List.filterMap_map]
  congr 1
  have e : ((List.range its.length).filterMap fun k => its.toArray[its.length - 1 - k]?) = (List.range its.length).map fun k => its.getD (its.length - 1 - k) Value.none := by
    refine fm_map _ fun k hk => ?_
    have := List.mem_range.mp hk
    rw [List.getElem?_toArray, List.getElem?_eq_getElem (by omega)]
    simp [show its.length - 1 - k < its.length by omega]
  refine Eq.trans ?_ (e.trans ?_)
  · rfl
  · refine List.ext_getElem (by simp) fun i h1 h2 => ?_
    have hi : i < its.length := by simpa using h1
    rw [List.getElem_map, List.getElem_range, List.getElem_reverse]
    simp [show its.length - 1 - i < its.length by omega]
theorem pe_rev {te : TE} {p2 p3 p4 : Pos} {k : Nat} (he : PE X e te) : PE X (.Subscript e (.Slice none none (some (.UnaryOp .USub (.Constant (.int 1) k p3) p4)) p2) pos) (fun σ H Q => te σ H fun x H1 => ∃ a xs, x = .ref a ∧ SqL X.K H1 a xs ∧ ∀ p, H1 p = none → Q (.ref p) (upd H1 p (.lst xs.reverse))) := by
  intro pins s σ H Q I h
  refine Subscript_ (thn (he pins s σ H _ I h) fun v s1 ⟨x, H1, I1, r1, a, xs, ex, sq, q⟩ => ?_)
  subst ex
  cases r1
  refine wpAny_Slice ?_
  rw [evalPart_none]
  refine wpAny_pure (wpAny_pure ?_)
  rw [evalPart_some]
  refine thn (pe_un (X := X) un_neg (pe_int (i := 1) (j := k) (pos := p3)) (pos := p4) pins s1 σ H1 (fun y H' => y = .int (-1) ∧ H' = H1) I1 ⟨1, rfl, rfl, rfl⟩) fun st s2 ⟨y, H2, I2, ry, ey, eH⟩ => ?_
  subst ey eH
  obtain ⟨t, rfl⟩ := ry
  have I4 : Inv X pins σ H2 { s2 with heap := s2.heap.push { cls := .type "slice", data := .fields #[.none, .none, .int (-1) t] } } := I2.kept (t' := s2.toks) fun b ob q => Heap.get?_push_of_some _ q
  obtain ⟨its, rv, ht, hz⟩ := I4.list sq
  have hlen := rv.length
  show wpAny (model X.prog X.w) X.A (subscriptTail e (.Slice none none (some (.UnaryOp .USub (.Constant (.int 1) k p3) p4)) p2) (.ref a) (.ref s2.heap.objs.size)) (EP X pins σ Q) X.xe { s2 with heap := s2.heap.push { cls := .type "slice", data := .fields #[.none, .none, .int (-1) t] } }
  refine tail_any (ops := [.ref a, .ref s2.heap.objs.size]) ht.isList.typeIs slot_list_getitem.lookup ?_ (by with_unfolding_all rfl)
  refine wpAny_getItem_list_slice ht.isList (Heap.IsSliceOf.new ..) .none .none (.int (-1) t) (by simp) ?_ (by rw [List.size_toArray] <;> omega)
  rw [pick_rev]
  refine ⟨.ref _, _, I4.laid (t' := s2.toks) (o := .lst xs.reverse) (fun b ob q => Heap.get?_push_of_some _ q) (Nat.le_refl _) ?_, rfl, q _ (I4.hok.fresh (Nat.le_refl _))⟩
  exact ⟨by rw [List.length_reverse]; exact hz, _, 0, Vals.reverse rv, Heap.get?_push_size _ rfl⟩
theorem reps_rev {K : PySem.W.Frag} {H : Hp} : ∀ {ds : List D} {vs : List V}, Reps K H ds vs → Reps K H ds.reverse vs.reverse
  | [], vs, r => by unfold Reps at r; subst r; exact Reps.nil_
  | d :: ds, vs, r => by
    unfold Reps at r
    obtain ⟨v, vr, rfl, r1, r2⟩ := r
    rw [List.reverse_cons, List.reverse_cons]
    exact (reps_rev r2).app (Reps.one r1)
theorem xrev {p2 p3 p4 : Pos} {k : Nat} (he : XE X e F) : XE X (.Subscript e (.Slice none none (some (.UnaryOp .USub (.Constant (.int 1) k p3) p4)) p2) pos) (e1 dRev F) := PE.wk (pe_rev he) fun σ H Q ⟨c, H0, ρ, d, ρ', R, f, q⟩ => by
  unfold e1 at f
  obtain ⟨⟨x, ρ1⟩, h1, f⟩ := bnd_eq f
  obtain ⟨d', h2, f⟩ := bnd_eq f
  have f' : some (d', ρ1) = some (d, ρ') := f
  cases f'
  cases x with
  | lst xs =>
    cases h2
    refine ⟨c, H0, ρ, _, _, R, h1, fun v H1 Hh s1 R1 r1 => ?_⟩
    unfold Rep at r1
    obtain ⟨a, ws, rfl, sq, t⟩ := r1
    refine ⟨a, ws, rfl, Same.seq R1.same sq, fun p hp => ?_⟩
    have S := Step.alloc (o := .lst ws.reverse) R1.same hp
    refine q _ _ _ (s1.trans S.s0) (R1.after S) ?_
    unfold Rep
    exact ⟨p, _, rfl, .inl (.inl upd_same), Reps.mono S.s0 _ (reps_rev t)⟩
  | _ => cases h2
end
end Fx
set_option maxRecDepth 100000
namespace L2
open PySem PySem.Spec PyProof.Rows
def LcW2 (K : PySem.W.Frag) (js : List Nat) (tt : TT) (te : TE) (σ : St) (Q : List V → Hp → Prop) (J : It) (H1 : Hp) : Prop :=
  ∃ W : Nat → Nat → List V → Hp → Prop, (∃ m, W 0 m [] H1) ∧ ∀ i m ys H, W i m ys H →
    (J.stop i H ∧ ys.length ≤ sizeLine ∧ Q ys H) ∨
    (J.go i H ∧ ys.length < sizeLine ∧ ∀ x H', J.yld i H x H' → ∃ ta v1 v2, x = .ref ta ∧ SqT K H' ta [v1, v2] ∧ tt (some v1 :: some v2 :: frv σ js) H' fun b H2 =>
      if b = true then te (some v1 :: some v2 :: frv σ js) H2 fun v H3 => ∃ m', m' < m ∧ W (i + 1) m' (ys ++ [v]) H3 else ∃ m', m' < m ∧ W (i + 1) m' ys H2)
section
variable {X : Cx} {scope : Scope} {s : Shared} {H : Hp} {C : Addr} {fp : List Addr} {pins : List (Addr × Obj)} {H' : Hp} {s' : Shared}
theorem inv_names {N N' : List Str} {σ σ' : St} (I : Inv (cxB X N scope s H C fp) pins σ H' s') (hl : σ'.length = N'.length) (h : ∀ (i : Nat) (x : Str) (v : V), N'[i]? = some x → σ'[i]? = some (some v) → ∃ j : Nat, N[j]? = some x ∧ σ[j]? = some (some v)) : Inv (cxB X N' scope s H C fp) pins σ' H' s' :=
  let k := I.ok
  ⟨⟨k.mod, k.kind, k.glob, k.blt, k.above, k.inj, k.has, k.cab, k.hd, k.frames, k.stk, k.exf, k.bs, k.bsz, k.noex, k.exfs, k.funs, k.frf⟩, I.os, I.bare, I.base, by
    obtain ⟨m, hn, hv⟩ := I.loc
    refine ⟨m, hn, fun i x v e1 e2 e3 => ?_⟩
    obtain ⟨j, a1, a2⟩ := h i x v e1 e2
    exact hv j x v a1 a2 e3, I.cell, I.free, I.freeC, I.pin, I.hok, hl⟩
theorem inv_two {x x2 : Str} {frees : List Str} {τ : St} (I : Inv (cxB X (x :: frees) scope s H C fp) pins (none :: τ) H' s') : Inv (cxB X (x :: x2 :: frees) scope s H C fp) pins (none :: none :: τ) H' s' :=
  inv_names I (by have : (none :: τ).length = (x :: frees).length := I.len; simp at this; simp [this]) fun i y v e1 e2 => by
    match i, e1, e2 with
    | 0, _, e2 => simp at e2
    | 1, _, e2 => simp at e2
    | i + 2, e1, e2 => exact ⟨i + 1, by simpa using e1, by simpa using e2⟩
theorem inv_one {x x2 : Str} {frees : List Str} {τ : St} (I : Inv (cxB X (x :: x2 :: frees) scope s H C fp) pins (none :: none :: τ) H' s') : Inv (cxB X (x :: frees) scope s H C fp) pins (none :: τ) H' s' :=
  inv_names I (by have : (none :: none :: τ).length = (x :: x2 :: frees).length := I.len; simp at this; simp [this]) fun i y v e1 e2 => by
    match i, e1, e2 with
    | 0, _, e2 => simp at e2
    | i + 1, e1, e2 => exact ⟨i + 2, by simpa using e1, by simpa using e2⟩
end
section
variable {X : Cx} {pins : List (Addr × Obj)} {σ : St} {H : Hp} {s : Shared} {x x2 : Str} {scope sc : Scope} {frees : List Str} {js : List Nat} {elt iter : Expr} {ifs : List Expr} {px py pt pos : Pos} {kt : Nat} {tt : TT} {te : TE} {E : Value → Shared → Prop}
theorem lc_run2 {it : Addr} {fp : List Addr} {tn : Nat → Heap → Prop} {J : It} {Qe : List V → Hp → Prop} {RR : Value → Addr → Result → Shared → Prop} (I : Inv X pins σ H s) (hc : X.calm = true) (hsc : X.env.scope = sc) (B : ScB X.N sc scope x frees js) (own2 : scope.names.lookup x2 = some .local) (nd2 : (x :: x2 :: frees).Nodup)
    (T : Turn X.prog X.w X.K (.Tuple [.Name x px, .Name x2 py] kt pt) J fp it tn) (st : tn 0 s.heap) (f : ∀ b ∈ fp, FpOk X pins H b) (hW : LcW2 X.K js tt te σ Qe J H)
    (ht : ∀ s H C fp, PTs (cxB X (x :: x2 :: frees) scope s H C fp) ifs tt) (he : ∀ s H C fp, PE (cxB X (x :: x2 :: frees) scope s H C fp) elt te)
    (hR : ∀ (D C : Addr) (s' : Shared) (H' : Hp) (ys : List V) (its : List Value) (n : Nat), s.heap.objs.size ≤ D → s.heap.objs.size ≤ C → D ≠ C → Inv (cxB X (x :: x2 :: frees) scope s H C fp) pins (none :: none :: frv σ js) H' s' → H' D = none →
      Vals ys its → s'.heap.get? D = some (lobj its n) → ys.length ≤ sizeLine → Qe ys H' → RR (.ref D) C (.ok .next) s') :
    wpAny (model X.prog X.w) X.A (newList []) (fun acc s3 => wpAny (model X.prog X.w) X.A (newFunctionEnv scope X.env.globals (clOf X.env.cells scope.names []) [] X.env.qual none .none (some X.env)) (fun cenv s4 =>
      codeAny (model X.prog X.w) X.A (.compStart (.ListComp elt [⟨.Tuple [.Name x px, .Name x2 py] kt pt, iter, ifs, 0⟩] scope pos) 0 (.ref it) acc { cenv with scope := relabel scope X.env }) (RR acc cenv.locals) s4) E s3) E s := by
  obtain ⟨W, ⟨m0, w0⟩, turn⟩ := hW
  refine wpAny_newObj_type (wpAny_newFunctionEnv B.cells (by intro y hy; simp at hy) (fun h₁ hns₁ hsb₁ => ?_) B.kind)
  dsimp only at hns₁ hsb₁ ⊢
  generalize hG : s.heap.push { cls := .type "list", dict := none, data := .seq ([] : List Value).toArray } = G at hns₁ hsb₁ ⊢
  have hC0 : G.objs.size = s.heap.objs.size + 1 := by rw [← hG, Heap.size_push]
  have hCs0 : s.heap.objs.size ≤ G.objs.size := by rw [hC0]; exact Nat.le_succ _
  have hDC0 : s.heap.objs.size ≠ G.objs.size := by rw [hC0]; exact Nat.ne_of_lt (Nat.lt_succ_self _)
  obtain ⟨C, hCe⟩ : ∃ C : Addr, C = G.objs.size := ⟨_, rfl⟩
  obtain ⟨D, hDe⟩ : ∃ D : Addr, D = s.heap.objs.size := ⟨_, rfl⟩
  rw [← hCe] at hns₁ hsb₁ hDC0 hCs0 ⊢
  have hDs : s.heap.objs.size ≤ D := by rw [hDe]; exact Nat.le_refl _
  have hCs : s.heap.objs.size ≤ C := hCs0
  have hDC : D ≠ C := by rw [hDe]; exact hDC0
  have old : ∀ b o, s.heap.get? b = some o → h₁.get? b = some o := fun b o e => by
    refine hsb₁.extBut b o (ne_lt (Heap.lt_size e) hCs) (Heap.get?_push_of_some _ ?_)
    rw [← hG]
    exact Heap.get?_push_of_some _ e
  have gD : h₁.get? D = some (lobj [] 0) := by
    refine hsb₁.extBut D _ hDC (Heap.get?_push_of_some _ ?_)
    rw [← hG, hDe]
    exact Heap.get?_push_size _ rfl
  have hfo : ∀ b ∈ fp, b < s.heap.objs.size := fun b hb => by
    obtain ⟨o, e, _⟩ := T.obj 0 _ st b hb
    exact Heap.lt_size e
  show codeAny (model X.prog X.w) X.A (.compStart (.ListComp elt [⟨.Tuple [.Name x px, .Name x2 py] kt pt, iter, ifs, 0⟩] scope pos) 0 (.ref it) (.ref s.heap.objs.size) (compEnvC scope (clOf X.env.cells scope.names []) C X.env)) (RR (.ref s.heap.objs.size) C) _
  rw [← hDe]
  have nDf : D ∉ fp := fun z => ne_lt (hfo D z) hDs rfl
  have Y0 := inv_two (x2 := x2) (blk_start (tk := s.toks + ([] : List (Str × Value)).length) (x := x) I hsc B f hfo hCs hDs hDC old hns₁ gD (fun v z => nomatch z))
  have tn0 : tn 0 h₁ := T.keep 0 _ _ st fun b _ o e => old b o e
  have sub : ∀ y c, (clOf X.env.cells scope.names []).lookup y = some c → X.env.cells.lookup y = some c := fun y c e => by
    rcases clOf_sub scope.names [] (lcells I hsc B) e with q | q
    · exact q
    · cases q
  have pOld : ∀ p ∈ pins, p.1 < s.heap.objs.size := fun p hp => Heap.lt_size (I.pin p (List.mem_append_right _ hp)).1
  have stat : ∀ {H' : Hp} {o : Obj}, (∀ b ∈ fp, H' b = none) → ∀ b ∈ fp, FpOk (cxB X (x :: x2 :: frees) scope s H C fp) (pins ++ [(D, o)]) H' b := fun {H' o} hn b hb => by
    obtain ⟨_, a2, a3, a4, a5, a6⟩ := f b hb
    have lt := hfo b hb
    refine ⟨hn b hb, ?_, fun z => ?_, .inl hb, fun y c e => a5 y c (sub y c e), fun p hp => ?_⟩
    · exact ne_lt lt hCs
    · rcases List.mem_cons.mp (I.stkSub b z) with e | e
      · exact a2 e
      · exact a3 e
    · have hp' : p ∈ pins ++ [(D, o)] := by simpa [cxB] using hp
      rcases List.mem_append.mp hp' with z | z
      · exact a6 p (List.mem_append_right _ z)
      · have z' : p = (D, o) := by simpa using z
        subst z'
        exact ne_lt' lt hDs
  have loop : ∀ s3 : Shared, s3 = { s with heap := h₁, toks := s.toks + ([] : List (Str × Value)).length } →
      codeAny (model X.prog X.w) X.A (.compLoop (.ListComp elt [⟨.Tuple [.Name x px, .Name x2 py] kt pt, iter, ifs, 0⟩] scope pos) 0 (.ref it) (.ref D) (compEnvC scope (clOf X.env.cells scope.names []) C X.env)) (RR (.ref D) C) s3 := by
    rintro s3 rfl
    refine comp_turns (fun n s' => ∃ i ys its k H', Inv (cxB X (x :: x2 :: frees) scope s H C fp) (pins ++ [(D, lobj its k)]) (none :: none :: frv σ js) H' s' ∧ tn i s'.heap ∧ (∀ b ∈ fp, H' b = none) ∧ Vals ys its ∧ W i n ys H') ?_ m0
      ⟨0, [], [], 0, H, Y0, tn0, fun b hb => (f b hb).1, .nil, w0⟩
    rintro n s4 ⟨i, ys, its, k, H4, I4, tn4, fr4, rv, w4⟩
    have pD : ∀ {pl : List (Addr × Obj)} {σ' : St} {H' : Hp} {s' : Shared}, Inv (cxB X (x :: x2 :: frees) scope s H C fp) (pins ++ [(D, lobj its k)] ++ pl) σ' H' s' → s'.heap.get? D = some (lobj its k) ∧ H' D = none := fun I' => by
      have q := I'.pin (D, lobj its k) (List.mem_append_right _ (List.mem_append_left _ (List.mem_append_right _ List.mem_cons_self)))
      exact ⟨q.1, q.2.1⟩
    have pins_only : ∀ {pl : List (Addr × Obj)} {σ' : St} {H' : Hp} {s' : Shared}, Inv (cxB X (x :: x2 :: frees) scope s H C fp) (pins ++ pl) σ' H' s' → Inv (cxB X (x :: x2 :: frees) scope s H C fp) pins σ' H' s' := fun I' => I'.unpinned
    rcases turn i n ys H4 w4 with ⟨stop, lz, qe⟩ | ⟨go, lz, step⟩
    · refine thn (T.done (cxB X (x :: x2 :: frees) scope s H C fp) rfl rfl rfl hc i _ s4 _ H4 (fun _ _ => False) I4 (stat fr4) tn4 stop) fun r s5 ⟨hr, I5⟩ => ?_
      subst hr
      have I5' : Inv (cxB X (x :: x2 :: frees) scope s H C fp) (pins ++ [(D, lobj its k)] ++ []) (none :: none :: frv σ js) H4 s5 := by simpa using I5
      exact hR D C s5 H4 ys its k hDs hCs hDC (pins_only I5) (pD I5').2 rv (pD I5').1 lz qe
    · refine thn (T.item (cxB X (x :: x2 :: frees) scope s H C fp) rfl rfl rfl hc i _ s4 _ H4 (fun _ _ => False) I4 (stat fr4) tn4 go) fun r s5 ⟨u, hr, h5⟩ => ?_
      subst hr
      refine thn h5 fun _ s6 ⟨y, H6, I6, r6, y6, tn6, fr6⟩ => ?_
      have I6' := I6.pinned (stat fr6) (T.obj _ _ tn6)
      have hx : Loc (cxB X (x :: x2 :: frees) scope s H C fp).env.scope x := .inl (lookup_relabel_local B.own)
      have hx2 : Loc (cxB X (x :: x2 :: frees) scope s H C fp).env.scope x2 := .inl (lookup_relabel_local own2)
      have dfs : D ∉ (cxB X (x :: x2 :: frees) scope s H C fp).fs := fun z => by
        rcases List.mem_cons.mp (I.stkSub D z) with e | e
        · exact ne_lt I.lt hDs e.symm
        · exact I.nofs hDs e
      obtain ⟨ta, v1, v2, ey, sq, stp⟩ := step y H6 y6
      subst ey
      refine thn (pg_tup (X := cxB X (x :: x2 :: frees) scope s H C fp) (pos := pt) (k := kt) hc (pgs_cons (pg_name (i := 0) nd2 rfl hx (.inr (lookup_relabel_local B.own))) (pgs_cons (pg_name (i := 1) nd2 rfl hx2 (.inr (lookup_relabel_local own2))) pgs_nil)) rfl rfl _ s6 _ H6 (.ref ta) u (fun σ' H' => σ' = some v1 :: some v2 :: frv σ js ∧ tt σ' H' fun b H2 =>
        if b = true then te (some v1 :: some v2 :: frv σ js) H2 fun v H3 => ∃ m', m' < n ∧ W (i + 1) m' (ys ++ [v]) H3 else ∃ m', m' < n ∧ W (i + 1) m' ys H2) I6' r6 ⟨ta, [v1, v2], rfl, sq, rfl, v1, [v2], rfl, v2, [], rfl, rfl, rfl, stp⟩) fun _ s7 ⟨σ7, H7, I7, e7, q7⟩ => ?_
      subst e7
      have back : ∀ {σ' : St} {H' : Hp} {s' : Shared}, Inv (cxB X (x :: x2 :: frees) scope s H C fp) (pins ++ [(D, lobj its k)] ++ pinsAt fp s6.heap) σ' H' s' → (∀ b ∈ fp, ∀ o, s6.heap.get? b = some o → s'.heap.get? b = some o) ∧ ∀ b ∈ fp, H' b = none := fun {σ' H' s'} I' =>
        ⟨fun b hb o e => (I'.pin (b, o) (List.mem_append_right _ (List.mem_append_right _ (mem_pinsAt hb e)))).1, fun b hb => by
          obtain ⟨o, e, _⟩ := T.obj _ _ tn6 b hb
          exact (I'.pin (b, o) (List.mem_append_right _ (List.mem_append_right _ (mem_pinsAt hb e)))).2.1⟩
      have forget : ∀ {pl : List (Addr × Obj)} {H' : Hp} {s' : Shared}, Inv (cxB X (x :: x2 :: frees) scope s H C fp) pl (some v1 :: some v2 :: frv σ js) H' s' → Inv (cxB X (x :: x2 :: frees) scope s H C fp) pl (none :: none :: frv σ js) H' s' := fun I' =>
        I'.weak rfl fun j v e => by
          match j, e with
          | 0, e => simp at e
          | 1, e => simp at e
          | j + 2, e => simpa using e
      refine thn (ht s H C fp _ s7 _ H7 _ I7 q7) fun ok s8 ⟨H8, I8, q8⟩ => ?_
      cases ok with
      | false =>
        rw [if_neg Bool.false_ne_true] at q8 ⊢
        obtain ⟨m', hm, w8⟩ := q8
        obtain ⟨b1, b2⟩ := back I8
        exact ⟨m', hm, i + 1, ys, its, k, H8, forget I8.unpinned, T.keep _ _ _ tn6 b1, b2, rv, w8⟩
      | true =>
        rw [if_pos rfl] at q8 ⊢
        refine thn (he s H C fp _ s8 _ H8 _ I8 q8) fun v s9 ⟨vv, H9, I9, r9, m', hm, w9⟩ => ?_
        obtain ⟨gD9, nD9⟩ := pD I9
        obtain ⟨b1, b2⟩ := back I9
        have hlen := rv.length
        refine call_meets F.slot_list_append ⟨_, gD9, rfl⟩ F.entry_list_append (F.args_list_append_2 _ _) (PySem.list_append D its.toArray k v (by rw [List.size_toArray]; omega)) ⟨gD9, ?_⟩
        have ea : its.toArray.push v = (its ++ [v]).toArray := by simp
        obtain ⟨k', q⟩ : ∃ k', (s9.heap.update D (Obj.mapSeq (·.push v))).get? D = some (lobj (its ++ [v]) k') := by
          have q0 := PySem.IsL.update gD9 (·.push v)
          rw [ea] at q0
          exact ⟨_, q0⟩
        have oth : ∀ b o, b ≠ D → s9.heap.get? b = some o → (s9.heap.update D (Obj.mapSeq (·.push v))).get? b = some o := fun b o hb e => (Heap.get?_update_other s9.heap (Obj.mapSeq (·.push v)) (Ne.symm hb)).trans e
        have I10 : Inv (cxB X (x :: x2 :: frees) scope s H C fp) pins (some v1 :: some v2 :: frv σ js) H9 { s9 with heap := s9.heap.update D (Obj.mapSeq (·.push v)) } :=
          (pins_only I9.unpinned).turned (t' := s9.toks) (it := D) oth nD9 hDC (.inr hDs) (fun y' c e z => by
            obtain ⟨w', q'⟩ := I.cell y' c (sub y' c e)
            exact ne_lt q'.lt hDs z) (fun p hp z => by
            have hp' : p ∈ pins := by simpa [cxB] using hp
            exact ne_lt (pOld p hp') hDs z)
        refine ⟨m', hm, i + 1, ys ++ [vv], its ++ [v], k', H9, forget (I10.pins_of fun p hp => ?_), T.keep _ _ _ tn6 fun b hb o e => oth b o (fun z => nDf (z ▸ hb)) (b1 b hb o e), b2, rv.append (.cons r9 .nil), w9⟩
        rcases List.mem_append.mp hp with z | z
        · exact I10.pin p (List.mem_append_right _ z)
        · have z' : p = (D, lobj (its ++ [v]) k') := List.mem_singleton.mp z
          subst z'
          exact ⟨q, nD9, hDC, dfs, fun w' z2 => nomatch z2⟩
  exact codeAny_compStart_list (loop _ rfl) (T.self _ 0 _ _ _ tn0 (loop _ rfl))
def tLC2 (K : PySem.W.Frag) (wi : TI) (js : List Nat) (tt : TT) (te : TE) : TE := fun σ H Q => wi σ H (LcW2 K js tt te σ fun ys H' => ∀ D, H' D = none → Q (.ref D) (upd H' D (.lst ys)))
theorem pe_lc2 {wi : TI} (hc : X.calm = true) (hsc : X.env.scope = sc) (B : ScB X.N sc scope x frees js) (own2 : scope.names.lookup x2 = some .local) (nd2 : (x :: x2 :: frees).Nodup) (hi : PI X (.Tuple [.Name x px, .Name x2 py] kt pt) iter wi) (ht : ∀ s H C fp, PTs (cxB X (x :: x2 :: frees) scope s H C fp) ifs tt) (he : ∀ s H C fp, PE (cxB X (x :: x2 :: frees) scope s H C fp) elt te)
    (hs : ∀ v, foldedSetIterable iter X.env v = pure v := by intro _; rfl) : PE X (.ListComp elt [⟨.Tuple [.Name x px, .Name x2 py] kt pt, iter, ifs, 0⟩] scope pos) (tLC2 X.K wi js tt te) := by
  intro pins s σ H Q I h
  rw [eval_ListComp]
  refine wpAny_comprehension_free (use := none) rfl hs (closure_eq (lcells I hsc B)) B.kind B.locs (thn (hi pins s σ H _ I h) fun v s1 h1 => thn h1 fun itv s2 h2 => ?_)
  obtain ⟨it, fp, tn, J, H2, e, I2, T, st2, f2, hW⟩ := h2
  subst e
  refine lc_run2 (RR := fun acc C => compPost (model X.prog X.w) X.A X.xe none (EP X pins σ Q) acc C) I2 hc hsc B own2 nd2 T st2 f2 hW ht he ?_
  intro D C s' H' ys its n hD hC hDC J' nD rv gD hz q
  obtain ⟨m, hn, _⟩ := J'.loc
  refine ⟨m, hn, fun h' hs' => ?_⟩
  have A1 := lc_after I2 f2 hD (inv_one J') nD rv gD hz
  have nC : (upd H' D (.lst ys)) C = none := by rw [upd_ne (Ne.symm hDC)]; exact J'.free
  exact ⟨.ref D, _, lc_go I2 A1 hC nC hs', rfl, q D nD⟩
end
end L2
set_option maxRecDepth 100000
namespace Fx
open PySem PySem.Spec PyProof.Rows L2
theorem RS.block2 {K : PySem.W.Frag} {c : FC} {H0 H : Hp} {ρ : En} {σ : L2.St} {js : List Nat} {fr : En} {d e : D} {x y : V} (R : RS K c H0 H ρ σ) (hf : imAt ρ js = some fr) (rx : Rep K H0 d x) (ry : Rep K H0 e y) : RS K ⟨H0, H, []⟩ H0 H (.im d :: .im e :: fr) (some x :: some y :: frv σ js) := by
  have B := R.block hf ry
  have noO : ∀ (i : Nat) (b : Bool) (o : MO), (Sl.im e :: fr)[i]? ≠ some (.ow b o) := fun i b o z => by
    obtain ⟨a, _, y1, z1, w1⟩ := B.ow i b o z
    cases b with
    | true => exact absurd z1 (by simp)
    | false =>
      have z2 : H a = none := z1
      obtain ⟨u, hu⟩ := w1.some
      rw [z2] at hu; cases hu
  refine ⟨B.same, B.init, B.fresh, B.keep, B.apt, by have := B.len; simp at this; simp [this], fun i d' q => ?_, fun i b o q => ?_, fun i j b b' o o' a q => ?_⟩
  · match i, q with
    | 0, q => cases q; exact ⟨x, rfl, rx⟩
    | i + 1, q => exact B.im i d' (by simpa using q)
  · match i, q with
    | 0, q => cases q
    | i + 1, q => exact absurd (by simpa using q) (noO i b o)
  · match i, q with
    | 0, q => cases q
    | i + 1, q => exact absurd (by simpa using q) (noO i b o)
theorem two_inv {d : D} {q : D × D} (h : two d = some q) : d = .tup [q.1, q.2] := by
  unfold two at h
  split at h
  · cases h; rfl
  · cases h
theorem lc_of2p {K : PySem.W.Frag} {c : FC} {H1 Hh : Hp} {ρ : En} {σ : L2.St} {js : List Nat} {fr : En} {T : FT} {F : FE} {xs out : List D} {J : It} {Qf : List V → Hp → Prop} (R : RS K c H1 Hh ρ σ) (hf : imAt ρ js = some fr) (hc : cGo2 T F fr xs = some out) (hz : xs.length ≤ sizeLine) (hy : Yields K J H1 xs)
    (q : ∀ ys H0 H, Same H1 H0 → RS K c H0 H ρ σ → Reps K H0 out ys → Qf ys H) : LcW2 K js (tTt K T) (tE K F) σ Qf J Hh := by
  refine ⟨fun i m ys H => m = xs.length - i ∧ i ≤ xs.length ∧ ∃ H0, Same H1 H0 ∧ RS K c H0 H ρ σ ∧ ∃ pre rest, Reps K H0 pre ys ∧ pre.length ≤ i ∧ cGo2 T F fr (xs.drop i) = some rest ∧ pre ++ rest = out, ⟨xs.length, by simp, Nat.zero_le _, H1, Same.refl _, R, [], out, Reps.nil_, Nat.zero_le _, by simpa using hc, rfl⟩, ?_⟩
  rintro i m ys H ⟨rfl, hi, H0, s0, R0, pre, rest, rp, lp, hg, e⟩
  obtain ⟨y1, y2⟩ := hy H0 H i s0 R0.same
  by_cases hlt : i < xs.length
  · have hd : xs[i]? = some xs[i] := by simp [hlt]
    obtain ⟨go, yl⟩ := y1 _ hd
    refine .inr ⟨go, by rw [← rp.length]; omega, fun x H' hx => ?_⟩
    obtain ⟨rfl, rx⟩ := yl x H' hx
    rw [drop_of hd, cGo2_cons] at hg
    obtain ⟨⟨d1, d2⟩, g0, hg⟩ := bnd_eq hg
    rw [two_inv g0] at rx
    unfold Rep at rx
    obtain ⟨ta, ws, rfl, sq, rr⟩ := rx
    unfold Reps at rr
    obtain ⟨v1, w1, rfl, q1, rr⟩ := rr
    unfold Reps at rr
    obtain ⟨v2, w2, rfl, q2, rr⟩ := rr
    unfold Reps at rr
    subst rr
    refine ⟨ta, v1, v2, rfl, Same.seqT R0.same sq, ?_⟩
    obtain ⟨⟨b, ρb⟩, g1, hg⟩ := bnd_eq hg
    dsimp only at hg
    refine ⟨⟨H0, H', []⟩, H0, _, b, ρb, R0.block2 hf q1 q2, g1, fun H2 Hh2 s2 R2 => ?_⟩
    cases b with
    | false =>
      rw [if_neg Bool.false_ne_true] at hg ⊢
      have S := R2.step
      exact ⟨xs.length - (i + 1), by omega, rfl, hlt, H2, s0.trans S.s0, R0.after S, pre, rest, Reps.mono S.s0 _ rp, by omega, hg, e⟩
    | true =>
      rw [if_pos rfl] at hg ⊢
      obtain ⟨⟨z, ρz⟩, g2, hg⟩ := bnd_eq hg
      obtain ⟨t, g3, hg⟩ := bnd_eq hg
      dsimp only at hg
      have hg' : some (z :: t) = some rest := hg
      cases hg'
      refine ⟨⟨H0, H', []⟩, H2, ρb, z, ρz, R2, g2, fun v H3 Hh3 s3 R3 r3 => ?_⟩
      have S := R3.step
      refine ⟨xs.length - (i + 1), by omega, rfl, hlt, H3, s0.trans S.s0, R0.after S, pre ++ [z], t, (Reps.mono S.s0 _ rp).app (Reps.one r3), ?_, g3, ?_⟩
      · rw [List.length_append, List.length_singleton]; omega
      · rw [List.append_assoc]; exact e
  · have hn : xs.drop i = [] := List.drop_eq_nil_of_le (by omega)
    rw [hn, cGo2_nil] at hg
    cases hg
    rw [List.append_nil] at e
    subst e
    exact .inl ⟨y2 (by omega), by rw [← rp.length]; omega, q ys H0 H s0 R0 rp⟩
structure ScB2 (N : List Str) (sc scope : Scope) (x x2 : Str) (frees : List Str) (js : List Nat) : Prop where
  B : ScB N sc scope x frees js
  own2 : scope.names.lookup x2 = some .local
  nd2 : (x :: x2 :: frees).Nodup
section
variable {X : Cx} {x x2 : Str} {scope sc : Scope} {frees : List Str} {js : List Nat} {elt iter : Expr} {ifs : List Expr} {px py pt pos : Pos} {kt : Nat} {I F : FE} {T : FT}
theorem xlc2 (hc : X.calm = true) (hsc : X.env.scope = sc) (B : ScB2 X.N sc scope x x2 frees js) (hi : XE X iter I) (ht : ∀ s H C fp, XTs (cxB X (x :: x2 :: frees) scope s H C fp) ifs T) (he : ∀ s H C fp, XE (cxB X (x :: x2 :: frees) scope s H C fp) elt F)
    (hs : ∀ v, foldedSetIterable iter X.env v = pure v := by intro _; rfl) : XE X (.ListComp elt [⟨.Tuple [.Name x px, .Name x2 py] kt pt, iter, ifs, 0⟩] scope pos) (eLC2 js I T F) :=
  PE.wk (pe_lc2 (tt := tTt X.K T) (te := tE X.K F) hc hsc B.B B.own2 B.nd2 (pi_sq hi) ht he hs) fun σ H Q ⟨c, H0, ρ, d, ρ', R, f, q⟩ => by
    unfold eLC2 at f
    obtain ⟨⟨z, ρ1⟩, h1, f⟩ := bnd_eq f
    obtain ⟨xs, h2, f⟩ := bnd_eq f
    obtain ⟨fr, h3, f⟩ := bnd_eq f
    obtain ⟨ys, h4, f⟩ := bnd_eq f
    obtain ⟨hz, f⟩ := Fx.ifs f
    cases f
    refine walk_of_data R h1 h2 fun J H1 Hh s1 R1 hy => ?_
    refine lc_of2p R1 h3 h4 hz hy fun vs H2 Hh2 s2 R2 r2 => fun p hp => ?_
    have S := Step.alloc (o := .lst vs) R2.same hp
    refine q _ _ _ (s1.trans (s2.trans S.s0)) (R2.after S) ?_
    unfold Rep
    exact ⟨p, vs, rfl, .inl (.inl upd_same), Reps.mono S.s0 _ r2⟩
end
end Fx
set_option maxRecDepth 100000
namespace Fx
open PySem PySem.Spec PyProof.Rows L2
theorem lastAt_lt {k : Str} : ∀ {st : List (List D)} {i : Nat}, lastAt k st = some i → i < st.length
  | [], i, h => by cases h
  | x :: r, i, h => by
    unfold lastAt at h
    split at h
    · rename_i j hj
      have := lastAt_lt hj
      cases h
      rw [List.length_cons]; omega
    · split at h
      · cases h; rw [List.length_cons]; omega
      · cases h
theorem lastAt_snoc (k : Str) (d : D) : ∀ st : List (List D), lastAt k (st ++ [[d]]) = if keyT d = some k then some st.length else lastAt k st
  | [] => by
    show (if ([d].head?.bind keyT) = some k then some 0 else none) = _
    rfl
  | x :: r => by
    have ih := lastAt_snoc k d r
    rw [List.cons_append]
    unfold lastAt
    rw [ih]
    by_cases h : keyT d = some k
    · rw [if_pos h, if_pos h]; rfl
    · rw [if_neg h, if_neg h]
theorem lastAt_set (k : Str) (d : D) : ∀ (st : List (List D)) (i : Nat) (x : List D), st[i]? = some x → x ≠ [] → lastAt k (st.set i (x ++ [d])) = lastAt k st
  | [], i, x, h, _ => by cases h
  | y :: r, 0, x, h, hx => by
    obtain rfl : y = x := Option.some.inj h
    rw [List.set_cons_zero]
    unfold lastAt
    have : (y ++ [d]).head? = y.head? := by
      cases y with
      | nil => exact absurd rfl hx
      | cons a b => rfl
    rw [this]
  | y :: r, i + 1, x, h, hx => by
    rw [List.set_cons_succ]
    unfold lastAt
    rw [lastAt_set k d r i x h hx]
structure SS (K : PySem.W.Frag) (Hi Hin H : Hp) (l S T : Addr) (vs : List V) (st : List (List D)) (refs : List Addr) (kvs : List (Key × V)) : Prop where
  old : Same Hin H
  hl : H l = some (.lst vs)
  hS : H S = some (.lst (refs.map .ref))
  hT : H T = some (.dK kvs)
  nS : Hin S = none
  nT : Hin T = none
  lS : l ≠ S
  len : refs.length = st.length
  ats : ∀ (i : Nat) (a : Addr) (x : List D), refs[i]? = some a → st[i]? = some x → Hin a = none ∧ a ≠ l ∧ a ≠ S ∧ ∃ ws, H a = some (.lst ws) ∧ Reps K Hi x ws
  nd : refs.Nodup
  ne : ∀ x ∈ st, x ≠ [] ∧ ∀ d ∈ x, r3 d = true
  key : ∀ k, valV kvs (.inr k) = (lastAt k st).bind fun i => (refs[i]?).map V.ref
  kl : kvs.length ≤ st.length
section
variable {K : PySem.W.Frag} {Hi Hin H H' : Hp} {l S T p : Addr} {vs : List V} {st : List (List D)} {refs : List Addr} {kvs : List (Key × V)} {d : D} {v : V} {k : Str}
theorem SS.refAt (h : SS K Hi Hin H l S T vs st refs kvs) {a : Addr} (ha : a ∈ refs) : ∃ (i : Nat) (x : List D), refs[i]? = some a ∧ st[i]? = some x := by
  obtain ⟨i, hi⟩ := List.mem_iff_getElem?.mp ha
  have := (List.getElem?_eq_some_iff.mp hi).1
  have hl := h.len
  exact ⟨i, st[i], hi, List.getElem?_eq_getElem (by omega)⟩
theorem SS.new (h : SS K Hi Hin H l S T vs st refs kvs) (hp : H p = none) (e1 : H' p = some (.lst [v])) (e2 : H' S = some (.lst (refs.map .ref ++ [.ref p]))) (e3 : H' T = some (.dK (putK kvs (.inr k) (.ref p))))
    (e4 : ∀ x, x ≠ p → x ≠ S → x ≠ T → H' x = H x) (rv : Rep K Hi d v) (hk : keyT d = some k) (h3 : r3 d = true) : SS K Hi Hin H' l S T vs (st ++ [[d]]) (refs ++ [p]) (putK kvs (.inr k) (.ref p)) := by
  have pin : Hin p = none := h.old.free hp
  have lp : l ≠ p := ne_of_none h.hl hp
  have lT : l ≠ T := ne_of h.hl h.hT (fun z => nomatch z)
  have ST : S ≠ T := ne_of h.hS h.hT (fun z => nomatch z)
  have Sp : S ≠ p := ne_of_none h.hS hp
  have hl := h.len
  refine ⟨fun b o e => ?_, by rw [e4 l lp h.lS lT]; exact h.hl, by rw [List.map_append]; exact e2, e3, h.nS, h.nT, h.lS, by simp [hl], fun i a x ha hx => ?_, ?_, fun x hx => ?_, fun j => ?_, ?_⟩
  · rw [e4 b (ne_of_none e pin) (ne_of_none e h.nS) (ne_of_none e h.nT)]; exact h.old b o e
  · by_cases hi : i < refs.length
    · rw [List.getElem?_append_left hi] at ha
      rw [List.getElem?_append_left (by omega)] at hx
      obtain ⟨a1, a2, a3, ws, a4, a5⟩ := h.ats i a x ha hx
      refine ⟨a1, a2, a3, ws, ?_, a5⟩
      rw [e4 a (ne_of_none a4 hp) a3 (ne_of a4 h.hT (fun z => nomatch z))]; exact a4
    · rw [List.getElem?_append_right (by omega)] at ha hx
      have i0 : i - refs.length = 0 := by
        have := (List.getElem?_eq_some_iff.mp ha).1
        simp at this; omega
      rw [i0] at ha
      rw [show i - st.length = 0 by omega] at hx
      cases ha; cases hx
      exact ⟨pin, lp.symm, Sp.symm, [v], e1, Reps.one rv⟩
  · rw [List.nodup_append]
    refine ⟨h.nd, by simp, fun a ha b hb => ?_⟩
    rw [List.mem_singleton.mp hb]
    obtain ⟨i, x, hi, hx⟩ := h.refAt ha
    obtain ⟨_, _, _, ws, a4, _⟩ := h.ats i a x hi hx
    exact ne_of_none a4 hp
  · rcases List.mem_append.mp hx with hx | hx
    · exact h.ne x hx
    · rw [List.mem_singleton.mp hx]
      refine ⟨by simp, fun e he => ?_⟩
      rw [List.mem_singleton.mp he]; exact h3
  · rw [valV_put, lastAt_snoc, hk]
    by_cases e : (Sum.inr j : Key) = Sum.inr k
    · have e' : j = k := Sum.inr.inj e
      subst e'
      rw [if_pos rfl, if_pos rfl]
      show _ = ((refs ++ [p])[st.length]?).map V.ref
      rw [← hl, List.getElem?_append_right (Nat.le_refl _), Nat.sub_self]; rfl
    · have e' : ¬ some k = some j := fun z => e (by rw [Option.some.inj z])
      rw [if_neg e, if_neg e', h.key j]
      cases q : lastAt j st with
      | none => rfl
      | some i =>
        have := lastAt_lt q
        show (refs[i]?).map V.ref = ((refs ++ [p])[i]?).map V.ref
        rw [List.getElem?_append_left (by omega)]
  · have := length_putK kvs (Sum.inr k) (V.ref p)
    have := h.kl
    rw [List.length_append, List.length_singleton]; omega
theorem SS.app (h : SS K Hi Hin H l S T vs st refs kvs) {i : Nat} {a : Addr} {x : List D} {ws : List V} (hx : st[i]? = some x) (ha : refs[i]? = some a) (hw : H a = some (.lst ws)) (rv : Rep K Hi d v) (h3 : r3 d = true) :
    SS K Hi Hin (upd H a (.lst (ws ++ [v]))) l S T vs (st.set i (x ++ [d])) refs kvs := by
  obtain ⟨a1, a2, a3, ws', a4, a5⟩ := h.ats i a x ha hx
  rw [hw] at a4; cases a4
  have aT : T ≠ a := ne_of h.hT hw (fun z => nomatch z)
  have xm : x ∈ st := List.mem_of_getElem? hx
  refine ⟨fun b o e => by rw [upd_ne (ne_of_none e a1)]; exact h.old b o e, by rw [upd_ne (Ne.symm a2)]; exact h.hl, by rw [upd_ne (Ne.symm a3)]; exact h.hS, by rw [upd_ne aT]; exact h.hT, h.nS, h.nT, h.lS, by rw [List.length_set]; exact h.len, fun j b y hb hy => ?_, h.nd, fun y hy => ?_, fun j => ?_, by rw [List.length_set]; exact h.kl⟩
  · by_cases e : j = i
    · subst e
      rw [ha] at hb; cases hb
      rw [List.getElem?_set_self (List.getElem?_eq_some_iff.mp hx).1] at hy
      cases hy
      exact ⟨a1, a2, a3, _, upd_same, a5.app (Reps.one rv)⟩
    · rw [List.getElem?_set_ne (Ne.symm e)] at hy
      obtain ⟨b1, b2, b3, us, b4, b5⟩ := h.ats j b y hb hy
      have nb : b ≠ a := fun z => by
        subst z
        obtain ⟨p1, q1⟩ := List.getElem?_eq_some_iff.mp hb
        obtain ⟨p2, q2⟩ := List.getElem?_eq_some_iff.mp ha
        exact e ((List.getElem_inj h.nd).mp (q1.trans q2.symm))
      exact ⟨b1, b2, b3, us, by rw [upd_ne nb]; exact b4, b5⟩
  · rcases List.mem_or_eq_of_mem_set hy with hy | rfl
    · exact h.ne y hy
    · refine ⟨fun z => by simp at z, fun e he => ?_⟩
      rcases List.mem_append.mp he with he | he
      · exact (h.ne x xm).2 e he
      · rw [List.mem_singleton.mp he]; exact h3
  · rw [lastAt_set j d st i x hx (h.ne x xm).1]; exact h.key j
theorem reps_of {H : Hp} : ∀ (st : List (List D)) (refs : List Addr), refs.length = st.length → (∀ (i : Nat) (a : Addr) (x : List D), refs[i]? = some a → st[i]? = some x → Rep K H (.lst x) (.ref a)) → Reps K H (st.map D.lst) (refs.map V.ref)
  | [], [], _, _ => Reps.nil_
  | [], _ :: _, e, _ => by cases e
  | _ :: _, [], e, _ => by cases e
  | x :: st, a :: refs, e, h => by
    rw [List.map_cons, List.map_cons]
    refine Reps.cons (h 0 a x rfl rfl) (reps_of st refs (by simpa using e) fun i b y hb hy => h (i + 1) b y ?_ ?_)
    · simpa using hb
    · simpa using hy
theorem SS.fin (h : SS K Hi Hin H l S T vs st refs kvs) (hs : Same Hi Hin) : ∃ Hi', Step Hi Hin Hi' H ∧ Rep K Hi' (.lst (st.map D.lst)) (.ref S) := by
  have fr : ∀ b, (b = S ∨ b ∈ refs) → Hin b = none := fun b hb => by
    rcases hb with rfl | hb
    · exact h.nS
    · obtain ⟨i, x, hi, hx⟩ := h.refAt hb
      exact (h.ats i b x hi hx).1
  have s0 : Same Hi (fun b => if b = S ∨ b ∈ refs then H b else Hi b) := fun b o e => by
    have : ¬ (b = S ∨ b ∈ refs) := fun z => by
      have := fr b z
      rw [hs b o e] at this; cases this
    show (if b = S ∨ b ∈ refs then H b else Hi b) = some o
    rw [if_neg this]; exact e
  refine ⟨fun b => if b = S ∨ b ∈ refs then H b else Hi b, ⟨s0, h.old, fun b o e => ?_, fun b o e => ?_⟩, ?_⟩
  · have e' : (if b = S ∨ b ∈ refs then H b else Hi b) = some o := e
    by_cases z : b = S ∨ b ∈ refs
    · rw [if_pos z] at e'; exact e'
    · rw [if_neg z] at e'; exact h.old b o (hs b o e')
  · have e' : (if b = S ∨ b ∈ refs then H b else Hi b) = some o := e
    by_cases z : b = S ∨ b ∈ refs
    · exact .inr (fr b z)
    · rw [if_neg z] at e'; exact .inl e'
  · unfold Rep
    refine ⟨S, refs.map V.ref, rfl, .inl (.inl ?_), reps_of st refs h.len fun i a x ha hx => ?_⟩
    · show (if S = S ∨ S ∈ refs then H S else Hi S) = _
      rw [if_pos (.inl rfl)]; exact h.hS
    · obtain ⟨_, _, _, ws, a4, a5⟩ := h.ats i a x ha hx
      unfold Rep
      refine ⟨a, ws, rfl, .inl (.inl ?_), Reps.mono s0 _ a5⟩
      show (if a = S ∨ a ∈ refs then H a else Hi a) = _
      rw [if_pos (.inr (List.mem_of_getElem? ha))]; exact a4
end
theorem sessM_inv {ds : List D} {d : D} (h : sessM ds = some d) : ∃ gap xs st, ds = [.int gap, .lst xs] ∧ xs.length < 64 ∧ xs.all r3 = true ∧ sesGo gap (sortT xs) [] = some st ∧ d = .lst (st.map .lst) := by
  unfold sessM at h
  split at h
  · rename_i gap xs
    split at h
    · rename_i hh
      obtain ⟨st, h3, h4⟩ := bnd_eq h
      exact ⟨gap, xs, st, rfl, hh.1, hh.2, h3, (Option.some.inj h4).symm⟩
    · cases h
  · cases h
end Fx
set_option maxRecDepth 100000
namespace Fx
open PySem PySem.Spec PyProof.Rows L2
def Few (n : Nat) (st : List (List D)) : Prop := st.length ≤ n ∧ ∀ x ∈ st, x.length ≤ n
theorem few_step {n : Nat} {st : List (List D)} (h : Few n st) (gap : Int) (k : Str) (t : Int) (d : D) : Few (n + 1) (sesStep gap st k t d) := by
  have new : Few (n + 1) (st ++ [[d]]) := ⟨by rw [List.length_append, List.length_singleton]; have := h.1; omega, fun x hx => by
    rcases List.mem_append.mp hx with hx | hx
    · have := h.2 x hx; omega
    · rw [List.mem_singleton.mp hx]; simp⟩
  unfold sesStep
  split
  · rename_i i hi
    split
    · refine ⟨by rw [List.length_set]; have := h.1; omega, fun x hx => ?_⟩
      rcases List.mem_or_eq_of_mem_set hx with hx | rfl
      · have := h.2 x hx; omega
      · have hl := lastAt_lt hi
        rw [List.getD_eq_getElem?_getD, List.getElem?_eq_getElem hl]
        have := h.2 _ (List.getElem_mem hl)
        simp; omega
    · exact new
  · exact new
abbrev tAppS (K : PySem.W.Frag) (i j : Nat) : TS := tDrop (tBM K "list" rAppend (tVar i) (tCons (tVar j) tNil))
abbrev tKey (K : PySem.W.Frag) (i : Int) : TE := tOp (rIxT K) (tVar 4) (tC (.int i))
abbrev tbS (K : PySem.W.Frag) : TS :=
  tSeq (tAsg (tDGet1 (tVar 3) (tKey K 1)) (gName 5))
  (tSeq (tIfS (L2.tOr (tTest (tOp (fun x y H Q => y = .non ∧ Q (.bl (decide (x = .non))) H) (tVar 5) (tC .non)))
      (tTest (tOp (rI0 fun i j => .bl (decide (j ≤ i))) (tOp (rI0 fun i j => .int (i - j)) (tKey K 0) (tOp (rIxT K) (tOp (rIxL K) (tVar 5) (tUn (rU fun i => .int (-i)) (tC (.int 1)))) (tC (.int 0)))) (tVar 0))))
    (tSeq (tAsg (tLst tNil) (gName 5)) (tSeq (sDPut (tVar 3) (tKey K 1) (tVar 5)) (tAppS K 2 5))) tNext)
  (tAppS K 5 4))
theorem key_at {K : PySem.W.Frag} {Hi H : Hp} {t u : Int} {k : Str} {v : V} (rv : Rep K Hi (.tup [.int t, .str k, .int u]) v) (s : Same Hi H) : ∃ a, v = .ref a ∧ SqT K H a [.int t, .str k, .int u] := by
  unfold Rep at rv
  obtain ⟨a, ws, rfl, sq, r⟩ := rv
  unfold Reps at r
  obtain ⟨x, r1, rfl, e1, r⟩ := r
  unfold Reps at r
  obtain ⟨y, r2, rfl, e2, r⟩ := r
  unfold Reps at r
  obtain ⟨z, r3, rfl, e3, r⟩ := r
  unfold Reps at r
  subst r
  unfold Rep at e1 e2 e3
  subst e1 e2 e3
  exact ⟨a, rfl, Same.seqT s sq⟩
theorem ses_body {K : PySem.W.Frag} {Hi Hin H : Hp} {l S T : Addr} {vs : List V} {st : List (List D)} {refs : List Addr} {kvs : List (Key × V)} {n : Nat} (h : SS K Hi Hin H l S T vs st refs kvs) (hs : Same Hi Hin) (few : Few n st) (hn : n < 64) {gap t u : Int} {k : Str} {v : V} (rv : Rep K Hi (.tup [.int t, .str k, .int u]) v)
    (x1 w : Option V) (Dn : Ends) (q : ∀ H' w' refs' kvs', SS K Hi Hin H' l S T vs (sesStep gap st k t (.tup [.int t, .str k, .int u])) refs' kvs' → Dn.nx [some (.int gap), x1, some (.ref S), some (.ref T), some v, w'] H') :
    tbS K Dn [some (.int gap), x1, some (.ref S), some (.ref T), some v, w] H := by
  have big : (64 : Nat) ≤ sizeLine := by decide
  obtain ⟨a, rfl, sq⟩ := key_at rv (hs.trans h.old)
  have hlen := h.len
  refine ⟨.ref T, rfl, T, rfl, .inl ⟨kvs, .inl h.hT⟩, .ref a, rfl, a, _, 1, .str k, rfl, rfl, sq, rfl, valV kvs (.inr k), DGet.k (k := .inr k) h.hT, ?_⟩
  have new : sesStep gap st k t (.tup [.int t, .str k, .int u]) = st ++ [[.tup [.int t, .str k, .int u]]] → ∀ w', tSeq (tSeq (tAsg (tLst tNil) (gName 5)) (tSeq (sDPut (tVar 3) (tKey K 1) (tVar 5)) (tAppS K 2 5))) (tAppS K 5 4) Dn [some (.int gap), x1, some (.ref S), some (.ref T), some (.ref a), w'] H := fun es w' => by
    refine ⟨by decide, fun p hp => ?_⟩
    have Tp : T ≠ p := ne_of_none h.hT hp
    have Sp : S ≠ p := ne_of_none h.hS hp
    have ST : S ≠ T := ne_of h.hS h.hT (fun z => nomatch z)
    have kl : kvs.length < sizeLine := by have := h.kl; have := few.1; omega
    have s1 : Same H (upd H p (.lst [])) := fun b o e => by rw [upd_ne (ne_of_none e hp)]; exact e
    refine ⟨.ref p, rfl, .ref T, rfl, .ref a, rfl, a, _, 1, .str k, rfl, rfl, Same.seqT s1 sq, rfl, T, _, rfl, DPut.k (k := .inr k) (by rw [upd_ne Tp]; exact h.hT) kl, ?_⟩
    have eS : (upd (upd H p (.lst [])) T (.dK (putK kvs (Sum.inr k) (.ref p)))) S = some (.lst (refs.map .ref)) := by
      rw [upd_ne ST, upd_ne Sp]; exact h.hS
    refine ⟨.ref S, rfl, .inl ⟨rfl, _, SqL.of eS⟩, .ref p, rfl, S, _, .ref p, rfl, rfl, eS, ?_, ?_⟩
    · rw [List.length_map]; have := few.1; omega
    · have ep : (upd (upd (upd H p (.lst [])) T (.dK (putK kvs (Sum.inr k) (.ref p)))) S (.lst (refs.map .ref ++ [.ref p]))) p = some (.lst []) := by
        rw [upd_ne (Ne.symm Sp), upd_ne (Ne.symm Tp), upd_same]
      refine ⟨.ref p, rfl, .inl ⟨rfl, _, SqL.of ep⟩, .ref a, rfl, p, [], .ref a, rfl, rfl, ep, by show 0 < sizeLine; omega, ?_⟩
      refine q _ _ (refs ++ [p]) (putK kvs (.inr k) (.ref p)) ?_
      rw [es]
      refine h.new hp upd_same ?_ ?_ (fun x n1 n2 n3 => ?_) rv rfl rfl
      · rw [upd_ne Sp, upd_same]
      · rw [upd_ne Tp, upd_ne (Ne.symm ST), upd_same]
      · rw [upd_ne n1, upd_ne n2, upd_ne n3, upd_ne n1]
  cases e : lastAt k st with
  | none =>
    have hv : valV kvs (.inr k) = none := by rw [h.key k, e]; rfl
    rw [hv]
    exact ⟨.non, rfl, rfl, true, rfl, iteT (iteT (new (by unfold sesStep; rw [e]) _))⟩
  | some i =>
    have il := lastAt_lt e
    have gi : st[i]? = some st[i] := List.getElem?_eq_getElem il
    have ga : refs[i]? = some refs[i] := List.getElem?_eq_getElem (by omega)
    have hv : valV kvs (.inr k) = some (.ref refs[i]) := by rw [h.key k, e]; show (refs[i]?).map V.ref = _; rw [ga]; rfl
    rw [hv]
    obtain ⟨b1, b2, b3, ws, b4, b5⟩ := h.ats i _ _ ga gi
    obtain ⟨ne, all3⟩ := h.ne _ (List.getElem_mem il)
    obtain ⟨pre, dl, hx⟩ : ∃ pre dl, st[i] = pre ++ [dl] := by
      rcases List.eq_nil_or_concat st[i] with z | ⟨pre, dl, z⟩
      · exact absurd z ne
      · exact ⟨pre, dl, by rw [z, List.concat_eq_append]⟩
    have dl3 : r3 dl = true := all3 dl (by rw [hx]; simp)
    obtain ⟨t', k', u', rfl⟩ := r3_eq dl3
    rw [hx] at b5
    obtain ⟨wp, wl, rfl, r1, r2⟩ : ∃ wp wl, ws = wp ++ [wl] ∧ Reps K Hi pre wp ∧ Rep K Hi (.tup [.int t', .str k', .int u']) wl := by
      have hl := b5.length
      rw [List.length_append, List.length_singleton] at hl
      have h1 := b5.take pre.length
      have h2 := b5.drop pre.length
      rw [List.take_left'] at h1
      rw [List.drop_left'] at h2
      · obtain ⟨wl, hw, rl⟩ := Reps.v1 h2
        exact ⟨ws.take pre.length, wl, by rw [← hw, List.take_append_drop], h1, rl⟩
      · rfl
      · rfl
    obtain ⟨al, rfl, sql⟩ := key_at r2 (hs.trans h.old)
    have jn : joins gap t (st.getD i []) = decide (t - t' < gap) := by
      unfold joins
      rw [List.getD_eq_getElem?_getD, gi, Option.getD_some, hx, List.getLast?_append]
      rfl
    have gd : st.getD i [] = st[i] := by rw [List.getD_eq_getElem?_getD, gi]; rfl
    refine ⟨.ref refs[i], rfl, rfl, false, rfl, iteF ⟨.ref a, rfl, a, _, 0, .int t, rfl, rfl, sq, rfl, .ref refs[i], rfl, 1, rfl, refs[i], _, -1, .ref al, rfl, rfl, SqL.of b4, atI_last _ _, al, _, 0, .int t', rfl, rfl, sql, rfl, t, t', rfl, rfl, .int gap, rfl, t - t', gap, rfl, rfl, decide (gap ≤ t - t'), rfl, ?_⟩⟩
    by_cases c : gap ≤ t - t'
    · rw [decide_eq_true c]
      exact iteT <| new (by unfold sesStep; rw [e]; show (if joins gap t (st.getD i []) = true then _ else _) = _; rw [jn, if_neg (by simp; omega)]) _
    · rw [decide_eq_false c]
      refine iteF ⟨.ref refs[i], rfl, .inl ⟨rfl, _, SqL.of b4⟩, .ref a, rfl, refs[i], _, .ref a, rfl, rfl, b4, ?_, ?_⟩
      · have := few.2 _ (List.getElem_mem il)
        have hl := b5.length
        rw [← hx] at hl
        omega
      · refine q _ _ refs kvs ?_
        have es : sesStep gap st k t (.tup [.int t, .str k, .int u]) = st.set i (st[i] ++ [.tup [.int t, .str k, .int u]]) := by
          unfold sesStep
          rw [e]
          show (if joins gap t (st.getD i []) = true then _ else _) = _
          rw [jn, if_pos (by simp; omega), gd]
        rw [es]
        exact h.app gi ga b4 rv rfl
end Fx
set_option maxRecDepth 100000
namespace Fx
open PySem PySem.Spec PyProof.Rows L2
theorem sesGo_cons {gap : Int} {d : D} {r : List D} {st fin : List (List D)} (h : sesGo gap (d :: r) st = some fin) : ∃ t k u, d = .tup [.int t, .str k, .int u] ∧ sesGo gap r (sesStep gap st k t d) = some fin := by
  unfold sesGo at h
  split at h
  · rename_i z; cases z
  · rename_i z
    cases z
    exact ⟨_, _, _, rfl, h⟩
  · cases h
theorem ses_loop {K : PySem.W.Frag} {Hi Hin H : Hp} {l S T : Addr} {vs : List V} {ds : List D} {gap : Int} {fin : List (List D)} (h0 : SS K Hi Hin H l S T vs [] [] []) (hs : Same Hi Hin) (rs : Reps K Hi ds vs) (n64 : ds.length < 64) (go : sesGo gap ds [] = some fin) (x1 t0 w0 : Option V) (Dn : Ends)
    (q : ∀ H' t' w' refs kvs, SS K Hi Hin H' l S T vs fin refs kvs → Dn.nx [some (.int gap), x1, some (.ref S), some (.ref T), t', w'] H') :
    ∃ W : Nat → Nat → L2.St → Hp → Prop, (∃ m, W 0 m [some (.int gap), x1, some (.ref S), some (.ref T), t0, w0] H) ∧ ∀ i m σ H, W i m σ H →
      ((Itl K l).stop i H ∧ Dn.nx σ H) ∨ ((Itl K l).go i H ∧ ∃ N : L2.St → Hp → Prop, (∀ σ' H', N σ' H' → ∃ m', m' < m ∧ W (i + 1) m' σ' H') ∧ ∀ x H', (Itl K l).yld i H x H' → gName 4 x σ H' fun σ2 H2 => tbS K { Dn with nx := N, ct := N, bk := Dn.nx } σ2 H2) := by
  refine ⟨fun i m σ H => m = ds.length - i ∧ i ≤ ds.length ∧ ∃ st refs kvs t' w', σ = [some (.int gap), x1, some (.ref S), some (.ref T), t', w'] ∧ SS K Hi Hin H l S T vs st refs kvs ∧ Few i st ∧ sesGo gap (ds.drop i) st = some fin,
    ⟨ds.length, by simp, Nat.zero_le _, [], [], [], t0, w0, rfl, h0, ⟨Nat.le_refl _, fun x hx => by cases hx⟩, by simpa using go⟩, ?_⟩
  rintro i m σ H1 ⟨rfl, hi, st, refs, kvs, t', w', rfl, h1, few, hg⟩
  by_cases hlt : i < ds.length
  · have hd : ds[i]? = some ds[i] := by simp [hlt]
    obtain ⟨v, hv, rv⟩ := rs.get hd
    rw [drop_of hd] at hg
    obtain ⟨t, k, u, ed, hg⟩ := sesGo_cons hg
    rw [ed] at rv hg
    refine .inr ⟨⟨vs, v, SqL.of h1.hl, hv⟩, fun σ' H' => ∃ m', m' < ds.length - i ∧ m' = ds.length - (i + 1) ∧ i + 1 ≤ ds.length ∧ ∃ st refs kvs t' w', σ' = [some (.int gap), x1, some (.ref S), some (.ref T), t', w'] ∧ SS K Hi Hin H' l S T vs st refs kvs ∧ Few (i + 1) st ∧ sesGo gap (ds.drop (i + 1)) st = some fin, fun σ' H' ⟨m', a, b⟩ => ⟨m', a, b⟩, fun x H' ⟨e1, e2⟩ => ?_⟩
    have := e2 vs (SqL.of h1.hl)
    rw [hv] at this
    cases this
    subst e1
    exact ses_body h1 hs few (by omega) rv x1 w' _ fun H' w'' refs' kvs' hh => ⟨_, by omega, rfl, hlt, _, refs', kvs', _, w'', rfl, hh, few_step few gap k t _, hg⟩
  · have hn : ds.drop i = [] := List.drop_eq_nil_of_le (by omega)
    rw [hn] at hg
    have hg' : some st = some fin := hg
    cases hg'
    exact .inl ⟨⟨vs, SqL.of h1.hl, by rw [← rs.length]; omega⟩, q H1 t' w' refs kvs h1⟩
section
variable {X : Cx} {pos : Pos} {e : Expr} {te : TE}
theorem pvr (i : Nat) {x : Str} (hN : X.N[i]? = some x := by rfl) (hv : Vis X.env.scope x := by first | exact Or.inl rfl | exact Or.inr (Or.inl rfl) | exact Or.inr (Or.inr rfl)) (hd : (x == ("__debug__" : Str)) = false := by decide)
    (hcd : (x == ("__classdict__" : Str)) = false := by decide) : PE X (.Name x pos) (tVar i) := pe_var hN hv hd hcd
theorem ps_app (i : Nat) {x : Str} {p1 p2 p3 : Pos} (he : PE X e te) (hN : X.N[i]? = some x := by rfl) (hv : Vis X.env.scope x := by first | exact Or.inl rfl | exact Or.inr (Or.inl rfl) | exact Or.inr (Or.inr rfl)) (hd : (x == ("__debug__" : Str)) = false := by decide)
    (hcd : (x == ("__classdict__" : Str)) = false := by decide) (hbase : attributeBase (.Name x p1) "append" X.env (eval (.Name x p1) X.env) = eval (.Name x p1) X.env := by rfl)
    (hfew : ((backTo p3 (starEach [e] X.env)).all (fun x => !x.1) && (backToKw p3 (keywordEach [] X.env)).all (fun x => x.1.isSome) && decide ([e].length + ([] : List Keyword).length + (if ([] : List Keyword).isEmpty then 0 else 1) < 30)) = true := by rfl)
    (hline : (p2.endLine == p3.line) = true := by rfl) (hst : starEach [e] X.env = (false, eval e X.env) :: starEach [] X.env := by rfl) (hpl : (backTo p3 (starEach [] X.env)).any (·.1) = false := by rfl)
    (hs : swapsWith (.Call (.Attribute (.Name x p1) "append" p2) [e] [] p3) none pos.line X.env = pure false := by rfl) :
    PS X (.Expr (.Call (.Attribute (.Name x p1) "append" p2) [e] [] p3) pos) (tDrop (tBM X.K "list" rAppend (tVar i) (tCons te tNil))) :=
  ps_expr (pe_bm PySem.F.plainAttrs_list PySem.F.slot_list_append PySem.F.type_list_append mt_append (pe_var hN hv hd hcd) (pa_cons he pa_nil hst) hbase hfew hline hst hpl) hs
end
end Fx
namespace Fx
open PySem
def b_amount_of : FS :=
  (sSeq (sIf (tB (e2 dEq (eV 0) (eC (.str (Str.ofString "count")))))
  (sRet (eF bLen2 (aC (eV 1) aN)))
  sN)
  (sSeq (sIf (tB (e2 dEq (eV 0) (eC (.str (Str.ofString "sum")))))
  (sRet (eF bSum (aC (eV 1) aN)))
  sN)
  (sRet (eIf (tB (e2 dEq (eV 0) (eC (.str (Str.ofString "most"))))) (eF bMax (aC (eV 1) aN)) (eF bMin (aC (eV 1) aN))))))
def m_amount_of : List D → Option D := fnD 2 0 b_amount_of
def m_sessions_of : List D → Option D := sessM
abbrev l_session_cells_1 : FS :=
  (sSeq (sSet 4 (eF m_amount_of (aC (e2 dIx2 (e2 dIx2 (eV 0) (eC (.int 3))) (e1 dNeg (eC (.int 1)))) (aC (eLC [] (eV 3) tYes (e2 dIx2 (eV 0) (eC (.int 2)))) aN))))
  (sApp 2 (eTup (aC (eTup (aC (e2 dIx2 (e2 dIx2 (eV 3) (eC (.int 0))) (eC (.int 1))) (aC (e2 dIx2 (e2 dIx2 (eV 3) (eC (.int 0))) (eC (.int 0))) aN))) (aC (eTup (aC (e2 dIx2 (e2 dIx2 (eV 3) (e1 dNeg (eC (.int 1)))) (eC (.int 0))) (aC (eV 4) aN))) aN)))))
def b_session_cells : FS :=
  (sSeq (sOwn 2 (oLst aN))
  (sSeq (sFor (gN 3) (eF m_sessions_of (aC (e2 dIx2 (e2 dIx2 (eV 0) (eC (.int 3))) (eC (.int 0))) (aC (eV 1) aN)))
  l_session_cells_1)
  (sFrz 2 (sRet (eV 2)))))
def m_session_cells : List D → Option D := fnD 2 3 b_session_cells
def b_fold_cells : FS :=
  (sRet (eF bSortT (aC (eIf (tB (e2 dEq (e2 dIx2 (eV 0) (eC (.int 0))) (eC (.str (Str.ofString "gaps"))))) (eF m_session_cells (aC (eV 0) (aC (eV 1) aN))) eNever) aN)))
def m_fold_cells : List D → Option D := fnD 2 0 b_fold_cells
def b_law_cell_at : FS :=
  (sSeq (sIf (tB (e2 dLt (eV 1) (eF bLen2 (aC (eV 0) aN))))
  (sRet (e2 dIx2 (eV 0) (eV 1)))
  sN)
  (sRet (eC (.int 0))))
def m_law_cell_at : List D → Option D := fnD 2 0 b_law_cell_at
def b_law_mixed : FS :=
  (sSeq (sSet 2 (e2 dMod (e2 dMul (e2 dAdd (e2 dAdd (e2 dBand (eV 0) (eC (.int 2147483647))) (e2 dMul (eC (.int 7919)) (eV 1))) (eC (.int 1))) (eC (.int 48271))) (eC (.int 2147483647))))
  (sSeq (sSet 2 (e2 dMod (e2 dMul (eV 2) (e2 dAdd (e2 dDiv (eV 2) (eC (.int 1009))) (eC (.int 69621)))) (eC (.int 2147483647))))
  (sSeq (sSet 2 (e2 dMod (e2 dMul (eV 2) (e2 dAdd (e2 dDiv (eV 2) (eC (.int 1013))) (eC (.int 40692)))) (eC (.int 2147483647))))
  (sRet (e2 dBxor (eV 2) (e2 dBand (e2 dShr (eV 0) (e2 dAdd (e2 dMul (eC (.int 31)) (eV 1)) (eC (.int 31)))) (eC (.int 2147483647))))))))
def m_law_mixed : List D → Option D := fnD 2 1 b_law_mixed
def b_law_keys : FS :=
  (sSeq (sSet 1 (eC (.str (Str.ofString "abcdefghijklmnopqrstuvwxyz"))))
  (sSeq (sSet 2 (eF m_law_mixed (aC (eV 0) (aC (eC (.int 900)) aN))))
  (sSeq (sSet 3 (eJoin (Str.ofString "") (eLR [1, 2] (rng1 (e2 dBand (e2 dShr (eV 2) (eC (.int 20))) (eC (.int 3)))) tYes (e2 dIx2 (eV 1) (e2 dMod (e2 dBand (e2 dShr (eV 2) (e2 dMul (eC (.int 5)) (eV 0))) (eC (.int 31))) (eC (.int 26)))))))
  (sRet (eLR [1, 3, 2] (rng1 (eC (.int 5))) tYes (e2 dAdd (e2 dIx2 (eV 1) (e2 dMod (e2 dAdd (e2 dShr (eV 3) (eC (.int 22))) (e2 dMul (eC (.int 7)) (eV 0))) (eC (.int 26)))) (eSl2 (eV 2) oN (oS (e2 dMod (eV 0) (eC (.int 4)))))))))))
def m_law_keys : List D → Option D := fnD 1 3 b_law_keys
def b_law_number : FS :=
  (sSeq (sSet 2 (eF m_law_mixed (aC (eV 0) (aC (eV 1) aN))))
  (sSeq (sIf (tB (e2 dGt (e2 dBand (eV 2) (eC (.int 3))) (eC (.int 0))))
  (sRet (e2 dSub (e2 dMod (e2 dShr (eV 2) (eC (.int 2))) (eC (.int 13))) (eC (.int 6))))
  sN)
  (sRet (e2 dAdd (e2 dMul (e2 dSub (eV 2) (eC (.int 1073741824))) (eC (.int 400))) (e2 dBand (eV 2) (eC (.int 255)))))))
def m_law_number : List D → Option D := fnD 2 1 b_law_number
abbrev l_law_things_1 : FS :=
  (sSeq (sSet 5 (eF m_law_mixed (aC (eV 0) (aC (e2 dMul (eC (.int 3)) (eV 4)) aN))))
  (sSeq (sSet 6 (e2 dIx2 (eLst (aC (e2 dMod (e2 dShr (eV 5) (eC (.int 2))) (eC (.int 30))) (aC (eF bAbs (aC (eF m_law_number (aC (eV 0) (aC (e2 dAdd (e2 dMul (eC (.int 3)) (eV 4)) (eC (.int 1))) aN))) aN)) aN))) (e2 dDiv (e2 dBand (e2 dShr (eV 5) (eC (.int 20))) (eC (.int 3))) (eC (.int 3)))))
  (sApp 3 (eTup (aC (eV 6) (aC (e2 dIx2 (eV 1) (e2 dMod (e2 dBand (eV 5) (eC (.int 3))) (eC (.int 3)))) (aC (eF m_law_number (aC (eV 0) (aC (e2 dAdd (e2 dMul (eC (.int 3)) (eV 4)) (eC (.int 2))) aN))) aN)))))))
def b_law_things : FS :=
  (sSeq (sOwn 3 (oLst aN))
  (sSeq (sForR (gN 4) (rng1 (eV 2)) l_law_things_1)
  (sFrz 3 (sRet (eV 3)))))
def m_law_things : List D → Option D := fnD 3 4 b_law_things
def b_law_amount : FS :=
  (sSeq (sIf (tB (e2 dEq (eV 0) (eC (.str (Str.ofString "count")))))
  (sRet (eF bLen2 (aC (eV 1) aN)))
  sN)
  (sSeq (sIf (tB (e2 dEq (eV 0) (eC (.str (Str.ofString "sum")))))
  (sRet (eF bSum (aC (eV 1) aN)))
  sN)
  (sRet (e2 dIx2 (eLst (aC (eF bMax (aC (eV 1) aN)) (aC (eF bMin (aC (eV 1) aN)) aN))) (eF bInt (aC (e2 dEq (eV 0) (eC (.str (Str.ofString "least")))) aN))))))
def m_law_amount : List D → Option D := fnD 2 0 b_law_amount
abbrev l_law_session_right_1 : FS :=
  (sIf (tB (e2 dGe (e2 dSub (e2 dIx2 (e2 dIx2 (eV 5) (eV 6)) (eC (.int 0))) (e2 dIx2 (e2 dIx2 (eV 5) (e2 dSub (eV 6) (eC (.int 1)))) (eC (.int 0)))) (eV 3)))
  (sRet (eC (.bl false)))
  sN)
def b_law_session_right : FS :=
  (sSeq (sTup [7, 8] (eV 0))
  (sSeq (sTup [9, 10] (eV 1))
  (sSeq (sSet 5 (eF bSortT (aC (eLC [7, 8, 9] (eV 4) (tAnd (tB (e2 dEq (e2 dIx2 (eV 0) (eC (.int 1))) (eV 1))) (tB (e3 dLe dLe (eV 2) (e2 dIx2 (eV 0) (eC (.int 0))) (eV 3)))) (eV 0)) aN)))
  (sSeq (sIf (tOr (tB (e2 dEq (eV 5) (eLst aN))) (tOr (tB (e2 dNe (e2 dIx2 (e2 dIx2 (eV 5) (eC (.int 0))) (eC (.int 0))) (eV 8))) (tB (e2 dNe (e2 dIx2 (e2 dIx2 (eV 5) (e1 dNeg (eC (.int 1)))) (eC (.int 0))) (eV 9)))))
  (sRet (eC (.bl false)))
  sN)
  (sSeq (sForR (gN 6) (rng2 (eC (.int 1)) (eF bLen2 (aC (eV 5) aN))) l_law_session_right_1)
  (sRet (e2 dEq (eV 10) (eF m_law_amount (aC (eV 2) (aC (eLC [] (eV 5) tYes (e2 dIx2 (eV 0) (eC (.int 2)))) aN))))))))))
def m_law_session_right : List D → Option D := fnD 5 6 b_law_session_right
abbrev l_law_apart_1 : FS :=
  (sIf (tAnd (tB (e2 dEq (e2 dIx2 (e2 dIx2 (e2 dIx2 (eV 0) (e2 dSub (eV 2) (eC (.int 1)))) (eC (.int 0))) (eC (.int 0))) (e2 dIx2 (e2 dIx2 (e2 dIx2 (eV 0) (eV 2)) (eC (.int 0))) (eC (.int 0))))) (tB (e2 dLt (e2 dSub (e2 dIx2 (e2 dIx2 (e2 dIx2 (eV 0) (eV 2)) (eC (.int 0))) (eC (.int 1))) (e2 dIx2 (e2 dIx2 (e2 dIx2 (eV 0) (e2 dSub (eV 2) (eC (.int 1)))) (eC (.int 1))) (eC (.int 0)))) (eV 1))))
  (sRet (eC (.bl false)))
  sN)
def b_law_apart : FS :=
  (sSeq (sForR (gN 2) (rng2 (eC (.int 1)) (eF bLen2 (aC (eV 0) aN))) l_law_apart_1)
  (sRet (eC (.bl true))))
def m_law_apart : List D → Option D := fnD 2 1 b_law_apart
def b_law_shape : FS :=
  (sSeq (sIf (tOr (tNot (tV (eTy .tuple (eV 0)))) (tOr (tNot (tV (eTy .tuple (e2 dIx2 (eV 0) (eC (.int 1)))))) (tB (e2 dNe (eF bLen2 (aC (e2 dIx2 (eV 0) (eC (.int 1))) aN)) (eC (.int 2))))))
  (sRet (eC (.bl false)))
  sN)
  (sRet (eAnd (eNot (eTy .bool (e2 dIx2 (e2 dIx2 (eV 0) (eC (.int 1))) (eC (.int 0))))) (eNot (eTy .bool (e2 dIx2 (e2 dIx2 (eV 0) (eC (.int 1))) (eC (.int 1))))))))
def m_law_shape : List D → Option D := fnD 1 0 b_law_shape
abbrev l_law_1 : FS :=
  (sIf (tNot (tV (eF m_law_session_right (aC (eV 9) (aC (eV 10) (aC (eV 4) (aC (eV 3) (aC (eV 6) aN))))))))
  (sRet (eC (.bl false)))
  sN)
abbrev l_law_2 : FS :=
  (sIf (tB (e2 dNe (eF bLen2 (aC (eLC2 [12, 11] (eV 8) (tAnd (tB (e2 dEq (e2 dIx2 (eV 0) (eC (.int 0))) (eV 2))) (tB (e3 dLe dLe (e2 dIx2 (eV 0) (eC (.int 1))) (eV 3) (e2 dIx2 (eV 1) (eC (.int 0)))))) (eC (.int 1))) aN)) (eC (.int 1))))
  (sRet (eC (.bl false)))
  sN)
def b_law : FS :=
  (sSeq (sSet 1 (eF m_law_keys (aC (eF m_law_cell_at (aC (eV 0) (aC (eC (.int 0)) aN))) aN)))
  (sSeq (sSet 2 (eF m_law_mixed (aC (eF m_law_cell_at (aC (eV 0) (aC (eC (.int 0)) aN))) (aC (eC (.int 1)) aN))))
  (sSeq (sSet 3 (e2 dAdd (eC (.int 1)) (e2 dIx2 (eLst (aC (e2 dMod (e2 dShr (eV 2) (eC (.int 2))) (eC (.int 7))) (aC (e2 dMod (eF bAbs (aC (eF m_law_number (aC (eF m_law_cell_at (aC (eV 0) (aC (eC (.int 0)) aN))) (aC (eC (.int 2)) aN))) aN)) (e2 dPow (eC (.int 10)) (eC (.int 11)))) aN))) (e2 dDiv (e2 dBand (e2 dShr (eV 2) (eC (.int 20))) (eC (.int 3))) (eC (.int 3))))))
  (sSeq (sSet 4 (e2 dIx2 (eLst (aC (eC (.str (Str.ofString "count"))) (aC (eC (.str (Str.ofString "sum"))) (aC (eC (.str (Str.ofString "most"))) (aC (eC (.str (Str.ofString "least"))) aN))))) (e2 dBand (eV 2) (eC (.int 3)))))
  (sSeq (sSet 5 (eTup (aC (eC (.str (Str.ofString "gaps"))) (aC (eC (.str (Str.ofString "all"))) (aC (eTup (aC (eC (.str (Str.ofString "there"))) aN)) (aC (eTup (aC (eV 3) (aC (eV 4) aN))) aN))))))
  (sSeq (sSet 6 (eF m_law_things (aC (eF m_law_cell_at (aC (eV 0) (aC (eC (.int 1)) aN))) (aC (eV 1) (aC (e2 dMod (eF m_law_mixed (aC (eF m_law_cell_at (aC (eV 0) (aC (eC (.int 0)) aN))) (aC (eC (.int 3)) aN))) (eC (.int 17))) aN)))))
  (sSeq (sSet 7 (eF bList (aC (eV 6) aN)))
  (sSeq (sSet 8 (eF m_fold_cells (aC (eV 5) (aC (eV 7) aN))))
  (sSeq (sIf (tOr (tNot (tV (eTy .list (eV 8)))) (tOr (tB (e2 dNe (eV 8) (eF bSortT (aC (eV 8) aN)))) (tB (e2 dNe (eV 7) (eV 6)))))
  (sRet (eC (.bl false)))
  sN)
  (sSeq (sIf (tNot (tV (eF bAll (aC (eLC [] (eV 8) tYes (eF m_law_shape (aC (eV 0) aN))) aN))))
  (sRet (eC (.bl false)))
  sN)
  (sSeq (sFor (gT [9, 10]) (eV 8)
  l_law_1)
  (sSeq (sFor (gT [11, 12, 13]) (eV 6)
  l_law_2)
  (sRet (eAnd (eF m_law_apart (aC (eV 8) (aC (eV 3) aN))) (e2 dEq (eF m_fold_cells (aC (eV 5) (aC (e1 dRev (eV 6)) aN))) (eV 8))))))))))))))))
def m_law : List D → Option D := fnD 1 13 b_law
end Fx
set_option maxRecDepth 100000
set_option maxHeartbeats 4000000
namespace Fx
open PySem PySem.Spec PyProof.Rows L2
def top (i : Nat) : Stmt := PySem.Challenge.pw_latewell_k35_sessions.main.body.getD i (.Pass ⟨0, 0, 0, 0⟩)
structure Blt (K : PySem.W.Frag) (mg : Str → Option Value) : Prop where
  z_abs : mg "abs" = none
  z_len : mg "len" = none
  z_max : mg "max" = none
  z_min : mg "min" = none
  z_any : mg "any" = none
  z_all : mg "all" = none
  z_range : mg "range" = none
  z_isinstance : mg "isinstance" = none
  z_int : mg "int" = none
  z_bool : mg "bool" = none
  z_str : mg "str" = none
  z_tuple : mg "tuple" = none
  z_list : mg "list" = none
  z_sorted : mg "sorted" = none
  z_dict : mg "dict" = none
  z_set : mg "set" = none
  z_sum : mg "sum" = none
section
variable {P : Program} {w : World} {K : PySem.W.Frag} {mg : Str → Option Value} {base : Heap}
abbrev s_amount_of : Stmt := top 2
theorem sc_amount_of : FnScope ["fold_word", "values"] ["fold_word", "values"] (defScope s_amount_of) := ⟨rfl, rfl, rfl, by decide +kernel, rfl, by decide +kernel, by decide +kernel⟩
theorem ok_amount_of {f : Addr} {fd : FuncData} (F : Fun K "amount_of" "amount_of" s_amount_of f fd) (bF : Binds K fd ["fold_word", "values"] []) (mF : mg "amount_of" = some (.ref f)) (T : Blt K mg)  : DefOk P w K mg base 1 "amount_of" m_amount_of :=
  ⟨f, fd, ["fold_word", "values"], fn_ok F sc_amount_of rfl rfl (fun cdv A outer s H E hr =>
  (xsC (xsif (xt (cEq hr.units) (xv 0) xstr)
  (xs1 (xret (xB callLen2 rfl T.z_len PySem.boot_len (xaC (xv 1) xaN))))
  xsN)
  (xsC (xsif (xt (cEq hr.units) (xv 0) xstr)
  (xs1 (xret (xB (callSum rfl) rfl T.z_sum PyProof.Rows.boot_sum (xaC (xv 1) xaN))))
  xsN)
  (xs1 (xret (xif (xt (cEq hr.units) (xv 0) xstr) (xB (callMax rfl) rfl T.z_max PyProof.Rows.boot_max (xaC (xv 1) xaN)) (xB (callMin rfl) rfl T.z_min PyProof.Rows.boot_min (xaC (xv 1) xaN)))))))), bF, F.kp, mF⟩
abbrev s_sessions_of : Stmt := top 4
theorem sc_sessions_of : FnScope ["gap", "things", "sessions", "last", "thing", "session"] ["gap", "things"] (defScope s_sessions_of) := ⟨rfl, rfl, rfl, by decide +kernel, rfl, by decide +kernel, by decide +kernel⟩
theorem ok_sessions_of {f : Addr} {fd : FuncData} (F : Fun K "sessions_of" "sessions_of" s_sessions_of f fd) (bF : Binds K fd ["gap", "things"] []) (mF : mg "sessions_of" = some (.ref f)) (T : Blt K mg)  : DefOk P w K mg base 1 "sessions_of" m_sessions_of := by
  refine ⟨f, fd, ["gap", "things"], F.ok sc_sessions_of (fun vs H Q E h => ?_) (fun cdv A outer s H vs Q E hr h => ?_), bF, F.kp, mF⟩
  · obtain ⟨Hi, ds, d, _, r, e, _⟩ := h
    obtain ⟨gap, xs, st, rfl, _⟩ := sessM_inv e
    rw [← r.length]; rfl
  · obtain ⟨Hi, ds, d, hs, r, e, q⟩ := h
    obtain ⟨gap, xs, st, rfl, h64, h3, hst, rfl⟩ := sessM_inv e
    obtain ⟨v1, v2, rfl, q1, q2⟩ := Reps.v2 r
    unfold Rep at q1 q2
    subst q1
    obtain ⟨pt, ws, rfl, sq, rw⟩ := q2
    have hu : (cxOf CX0 P w K mg base ["gap", "things", "sessions", "last", "thing", "session"] "sessions_of" (defScope s_sessions_of) f cdv A outer s H E).nox.A.units + 1 < cLine := (by omega : ∀ a b : Nat, a + 64 < b → a + 1 < b) _ _ hr.units
    refine ⟨_, pss_cons (ps_set sc_sessions_of.nd (i := 2) rfl (.inl rfl) (pe_lst pa_nil)) (pss_cons (ps_set sc_sessions_of.nd (i := 3) rfl (.inl rfl) pe_dnewK)
      (pss_cons (ps_for PassesOwn.never rfl (pi_list (pe_callB (call_sortT hr.units) rfl T.z_sorted PyProof.Rows.boot_sorted (pa_cons (pvr 1) pa_nil))) (pg_name sc_sessions_of.nd (i := 4) rfl (.inl rfl))
        (pss_cons (ps_set sc_sessions_of.nd (i := 5) rfl (.inl rfl) (pe_dget1 hu (pvr 3) (pe_ix ix_tup (pvr 4) pe_int (fun _ _ => rfl)) ⟨rfl, rfl, rfl, rfl⟩))
        (pss_cons (ps_if (PW.pt (pw_or (pt_cmpR op_isN (pvr 5) pe_non rfl) (pw_or1 (pt_cmpR op_ge (pe_op op_sub (pe_ix ix_tup (pvr 4) pe_int (fun _ _ => rfl)) (pe_ix ix_tup (pe_ix ix_list (pvr 5) (pe_un un_neg pe_int) (fun _ _ => rfl)) pe_int (fun _ _ => rfl))) (pvr 0) rfl))))
          (pss_cons (ps_set sc_sessions_of.nd (i := 5) rfl (.inl rfl) (pe_lst pa_nil)) (pss_cons (ps_dput hu (pvr 3) (pe_ix ix_tup (pvr 4) pe_int (fun _ _ => rfl)) (pvr 5) rfl) (pss_one (ps_app 2 (pvr 5))))) pss_nil)
        (pss_one (ps_app 5 (pvr 4))))))
      (pss_one (ps_ret (pvr 2))))), ?_⟩
    refine ⟨by decide, fun S hS T hT => ?_⟩
    have ST : S ≠ T := ne_of_none upd_same hT
    have T0 : H T = none := by rw [upd_ne (Ne.symm ST)] at hT; exact hT
    have sm : Same H (upd (upd H S (.lst [])) T (.dK [])) := fun b o z => by rw [upd_ne (ne_of_none z T0), upd_ne (ne_of_none z hS)]; exact z
    refine ⟨.ref pt, rfl, pt, xs, ws, Hi, rfl, Same.seq (hs.trans sm) sq, hs.trans sm, rw, h64, .inl h3, fun l vs' hl rs => ⟨l, rfl, ⟨vs', SqL.of upd_same⟩, ?_⟩⟩
    have l0 : H l = none := sm.free hl
    have Sl : S ≠ l := fun z => by subst z; rw [upd_ne ST, upd_same] at hl; cases hl
    have Tl : T ≠ l := fun z => by subst z; rw [upd_same] at hl; cases hl
    refine ses_loop (gap := gap) (fin := st) (Hin := H) (S := S) (T := T) (ds := sortT xs) ⟨fun b o z => by rw [upd_ne (ne_of_none z l0)]; exact sm b o z, upd_same, by rw [upd_ne Sl, upd_ne ST, upd_same]; rfl, by rw [upd_ne Tl, upd_same], hS, T0, Ne.symm Sl, rfl, fun i a x z => (by cases z), List.nodup_nil, fun x z => (by cases z), fun k => rfl, Nat.le_refl _⟩
      hs rs (by rw [(sortT_perm xs).length_eq]; exact h64) hst _ _ _ _ fun H' t' w' refs kvs hh => ?_
    obtain ⟨Hi', stp, rp⟩ := hh.fin hs
    exact ⟨.ref S, rfl, q _ Hi' H' stp rp⟩
abbrev s_session_cells : Stmt := top 5
theorem sc_session_cells : FnScope ["row", "things", "cells", "session", "amount"] ["row", "things"] (defScope s_session_cells) := ⟨rfl, rfl, rfl, by decide +kernel, rfl, by decide +kernel, by decide +kernel⟩
theorem ok_session_cells {f : Addr} {fd : FuncData} (F : Fun K "session_cells" "session_cells" s_session_cells f fd) (bF : Binds K fd ["row", "things"] []) (mF : mg "session_cells" = some (.ref f)) (T : Blt K mg) (G_amount_of : DefOk P w K mg base 1 "amount_of" m_amount_of) (G_sessions_of : DefOk P w K mg base 1 "sessions_of" m_sessions_of) : DefOk P w K mg base 2 "session_cells" m_session_cells :=
  ⟨f, fd, ["row", "things"], fn_ok F sc_session_cells rfl rfl (fun cdv A outer s H E hr =>
  (xsC (xown 2 sc_session_cells.nd (xoLst xaN))
  (xsC (xfor (xgN 3 sc_session_cells.nd) (xF G_sessions_of (hr.mono (by decide)) (xaC (xix2 (xix2 (xv 0) xint) xint) (xaC (xv 1) xaN)))
  (xsC (xset 4 sc_session_cells.nd (xF G_amount_of (hr.mono (by decide)) (xaC (xix2 (xix2 (xv 0) xint) (xneg xint)) (xaC (xlc (sc := defScope s_session_cells) rfl rfl (by show ScB ["row", "things", "cells", "session", "amount"] (defScope s_session_cells) _ "thing" [] []; exact ⟨rfl, rfl, by decide +kernel, by decide +kernel, rfl, by decide +kernel, by decide +kernel, rfl, by decide +kernel⟩) (xv 3) (fun _ _ _ _ => xts_nil) (fun _ _ _ _ => (xix2 (xv 0) xint))) xaN))))
  (xs1 (xapp 2 (xaC (xtup (xaC (xtup (xaC (xix2 (xix2 (xv 3) xint) xint) (xaC (xix2 (xix2 (xv 3) xint) xint) xaN))) (xaC (xtup (xaC (xix2 (xix2 (xv 3) (xneg xint)) xint) (xaC (xv 4) xaN))) xaN))) xaN)))))
  (xs1 (xfrz 2 (xret (xv 2))))))), bF, F.kp, mF⟩
abbrev s_fold_cells : Stmt := top 6
theorem sc_fold_cells : FnScope ["row", "things"] ["row", "things"] (defScope s_fold_cells) := ⟨rfl, rfl, rfl, by decide +kernel, rfl, by decide +kernel, by decide +kernel⟩
theorem ok_fold_cells {f : Addr} {fd : FuncData} (F : Fun K "fold_cells" "fold_cells" s_fold_cells f fd) (bF : Binds K fd ["row", "things"] []) (mF : mg "fold_cells" = some (.ref f)) (T : Blt K mg) (G_session_cells : DefOk P w K mg base 2 "session_cells" m_session_cells) : DefOk P w K mg base 3 "fold_cells" m_fold_cells :=
  ⟨f, fd, ["row", "things"], fn_ok F sc_fold_cells rfl rfl (fun cdv A outer s H E hr =>
  (xs1 (xret (xB (callSortT hr.units) rfl T.z_sorted PyProof.Rows.boot_sorted (xaC (xif (xt (cEq hr.units) (xix2 (xv 0) xint) xstr) (xF G_session_cells (hr.mono (by decide)) (xaC (xv 0) (xaC (xv 1) xaN))) xnever) xaN))))), bF, F.kp, mF⟩
abbrev s_law_cell_at : Stmt := top 8
theorem sc_law_cell_at : FnScope ["_law_script", "_law_k"] ["_law_script", "_law_k"] (defScope s_law_cell_at) := ⟨rfl, rfl, rfl, by decide +kernel, rfl, by decide +kernel, by decide +kernel⟩
theorem ok_law_cell_at {f : Addr} {fd : FuncData} (F : Fun K "_law_cell_at" "_law_cell_at" s_law_cell_at f fd) (bF : Binds K fd ["_law_script", "_law_k"] []) (mF : mg "_law_cell_at" = some (.ref f)) (T : Blt K mg)  : DefOk P w K mg base 1 "_law_cell_at" m_law_cell_at :=
  ⟨f, fd, ["_law_script", "_law_k"], fn_ok F sc_law_cell_at rfl rfl (fun cdv A outer s H E hr =>
  (xsC (xsif (xt cLt (xv 1) (xB callLen2 rfl T.z_len PySem.boot_len (xaC (xv 0) xaN)))
  (xs1 (xret (xix2 (xv 0) (xv 1))))
  xsN)
  (xs1 (xret xint)))), bF, F.kp, mF⟩
abbrev s_law_mixed : Stmt := top 9
theorem sc_law_mixed : FnScope ["_law_cell", "_law_k", "_law_number_here"] ["_law_cell", "_law_k"] (defScope s_law_mixed) := ⟨rfl, rfl, rfl, by decide +kernel, rfl, by decide +kernel, by decide +kernel⟩
theorem ok_law_mixed {f : Addr} {fd : FuncData} (F : Fun K "_law_mixed" "_law_mixed" s_law_mixed f fd) (bF : Binds K fd ["_law_cell", "_law_k"] []) (mF : mg "_law_mixed" = some (.ref f)) (T : Blt K mg)  : DefOk P w K mg base 1 "_law_mixed" m_law_mixed :=
  ⟨f, fd, ["_law_cell", "_law_k"], fn_ok F sc_law_mixed rfl rfl (fun cdv A outer s H E hr =>
  (xsC (xset 2 sc_law_mixed.nd (xb oMod (xb oMul (xb oAdd (xb oAdd (xb oBand (xv 0) xint) (xb oMul xint (xv 1))) xint) xint) xint))
  (xsC (xset 2 sc_law_mixed.nd (xb oMod (xb oMul (xv 2) (xb oAdd (xb oDiv (xv 2) xint) xint)) xint))
  (xsC (xset 2 sc_law_mixed.nd (xb oMod (xb oMul (xv 2) (xb oAdd (xb oDiv (xv 2) xint) xint)) xint))
  (xs1 (xret (xb oBxor (xv 2) (xb oBand (xb oShr (xv 0) (xb oAdd (xb oMul xint (xv 1)) xint)) xint)))))))), bF, F.kp, mF⟩
abbrev s_law_keys : Stmt := top 10
theorem sc_law_keys : FnScope ["_law_cell", "_law_some", "_law_number_here", "_law_stem"] ["_law_cell"] (defScope s_law_keys) := ⟨rfl, rfl, rfl, by decide +kernel, rfl, by decide +kernel, by decide +kernel⟩
theorem ok_law_keys {f : Addr} {fd : FuncData} (F : Fun K "_law_keys" "_law_keys" s_law_keys f fd) (bF : Binds K fd ["_law_cell"] []) (mF : mg "_law_keys" = some (.ref f)) (T : Blt K mg) (G_law_mixed : DefOk P w K mg base 1 "_law_mixed" m_law_mixed) : DefOk P w K mg base 2 "_law_keys" m_law_keys :=
  ⟨f, fd, ["_law_cell"], fn_ok F sc_law_keys rfl rfl (fun cdv A outer s H E hr =>
  (xsC (xset 1 sc_law_keys.nd xstr)
  (xsC (xset 2 sc_law_keys.nd (xF G_law_mixed (hr.mono (by decide)) (xaC (xv 0) (xaC xint xaN))))
  (xsC (xset 3 sc_law_keys.nd (xjoin (xlr1 T.z_range (sc := defScope s_law_keys) rfl rfl (by show ScB ["_law_cell", "_law_some", "_law_number_here", "_law_stem"] (defScope s_law_keys) _ "_law_k" ["_law_some", "_law_number_here"] [1, 2]; exact ⟨rfl, rfl, by decide +kernel, by decide +kernel, rfl, by decide +kernel, by decide +kernel, rfl, by decide +kernel⟩) (xb oBand (xb oShr (xv 2) xint) xint) (fun _ _ _ _ => xts_nil) (fun _ _ _ _ => (xix2 (xv 1) (xb oMod (xb oBand (xb oShr (xv 2) (xb oMul xint (xv 0))) xint) xint))))))
  (xs1 (xret (xlr1 T.z_range (sc := defScope s_law_keys) rfl rfl (by show ScB ["_law_cell", "_law_some", "_law_number_here", "_law_stem"] (defScope s_law_keys) _ "_law_k" ["_law_some", "_law_stem", "_law_number_here"] [1, 3, 2]; exact ⟨rfl, rfl, by decide +kernel, by decide +kernel, rfl, by decide +kernel, by decide +kernel, rfl, by decide +kernel⟩) xint (fun _ _ _ _ => xts_nil) (fun _ _ _ _ => (xb oAdd (xix2 (xv 1) (xb oMod (xb oAdd (xb oShr (xv 3) xint) (xb oMul xint (xv 0))) xint)) (xsl2 (xv 2) xoN (xoS (xb oMod (xv 0) xint)))))))))))), bF, F.kp, mF⟩
abbrev s_law_number : Stmt := top 11
theorem sc_law_number : FnScope ["_law_cell", "_law_j", "_law_number_here"] ["_law_cell", "_law_j"] (defScope s_law_number) := ⟨rfl, rfl, rfl, by decide +kernel, rfl, by decide +kernel, by decide +kernel⟩
theorem ok_law_number {f : Addr} {fd : FuncData} (F : Fun K "_law_number" "_law_number" s_law_number f fd) (bF : Binds K fd ["_law_cell", "_law_j"] []) (mF : mg "_law_number" = some (.ref f)) (T : Blt K mg) (G_law_mixed : DefOk P w K mg base 1 "_law_mixed" m_law_mixed) : DefOk P w K mg base 2 "_law_number" m_law_number :=
  ⟨f, fd, ["_law_cell", "_law_j"], fn_ok F sc_law_number rfl rfl (fun cdv A outer s H E hr =>
  (xsC (xset 2 sc_law_number.nd (xF G_law_mixed (hr.mono (by decide)) (xaC (xv 0) (xaC (xv 1) xaN))))
  (xsC (xsif (xt cGt (xb oBand (xv 2) xint) xint)
  (xs1 (xret (xb oSub (xb oMod (xb oShr (xv 2) xint) xint) xint)))
  xsN)
  (xs1 (xret (xb oAdd (xb oMul (xb oSub (xv 2) xint) xint) (xb oBand (xv 2) xint))))))), bF, F.kp, mF⟩
abbrev s_law_things : Stmt := top 16
theorem sc_law_things : FnScope ["_law_cell", "_law_keys_here", "_law_many", "_law_found", "_law_k", "_law_number_here", "_law_time"] ["_law_cell", "_law_keys_here", "_law_many"] (defScope s_law_things) := ⟨rfl, rfl, rfl, by decide +kernel, rfl, by decide +kernel, by decide +kernel⟩
theorem ok_law_things {f : Addr} {fd : FuncData} (F : Fun K "_law_things" "_law_things" s_law_things f fd) (bF : Binds K fd ["_law_cell", "_law_keys_here", "_law_many"] []) (mF : mg "_law_things" = some (.ref f)) (T : Blt K mg) (G_law_mixed : DefOk P w K mg base 1 "_law_mixed" m_law_mixed) (G_law_number : DefOk P w K mg base 2 "_law_number" m_law_number) : DefOk P w K mg base 3 "_law_things" m_law_things :=
  ⟨f, fd, ["_law_cell", "_law_keys_here", "_law_many"], fn_ok F sc_law_things rfl rfl (fun cdv A outer s H E hr =>
  (xsC (xown 3 sc_law_things.nd (xoLst xaN))
  (xsC (xforR1 T.z_range (xgN 4 sc_law_things.nd) (xv 2) (xsC (xset 5 sc_law_things.nd (xF G_law_mixed (hr.mono (by decide)) (xaC (xv 0) (xaC (xb oMul xint (xv 4)) xaN))))
  (xsC (xset 6 sc_law_things.nd (xix2 (xlst (xaC (xb oMod (xb oShr (xv 5) xint) xint) (xaC (xB callAbs rfl T.z_abs PyProof.Rows.boot_abs (xaC (xF G_law_number (hr.mono (by decide)) (xaC (xv 0) (xaC (xb oAdd (xb oMul xint (xv 4)) xint) xaN))) xaN)) xaN))) (xb oDiv (xb oBand (xb oShr (xv 5) xint) xint) xint)))
  (xs1 (xapp 3 (xaC (xtup (xaC (xv 6) (xaC (xix2 (xv 1) (xb oMod (xb oBand (xv 5) xint) xint)) (xaC (xF G_law_number (hr.mono (by decide)) (xaC (xv 0) (xaC (xb oAdd (xb oMul xint (xv 4)) xint) xaN))) xaN)))) xaN))))))
  (xs1 (xfrz 3 (xret (xv 3))))))), bF, F.kp, mF⟩
abbrev s_law_amount : Stmt := top 17
theorem sc_law_amount : FnScope ["_law_word", "_law_values"] ["_law_word", "_law_values"] (defScope s_law_amount) := ⟨rfl, rfl, rfl, by decide +kernel, rfl, by decide +kernel, by decide +kernel⟩
theorem ok_law_amount {f : Addr} {fd : FuncData} (F : Fun K "_law_amount" "_law_amount" s_law_amount f fd) (bF : Binds K fd ["_law_word", "_law_values"] []) (mF : mg "_law_amount" = some (.ref f)) (T : Blt K mg)  : DefOk P w K mg base 1 "_law_amount" m_law_amount :=
  ⟨f, fd, ["_law_word", "_law_values"], fn_ok F sc_law_amount rfl rfl (fun cdv A outer s H E hr =>
  (xsC (xsif (xt (cEq hr.units) (xv 0) xstr)
  (xs1 (xret (xB callLen2 rfl T.z_len PySem.boot_len (xaC (xv 1) xaN))))
  xsN)
  (xsC (xsif (xt (cEq hr.units) (xv 0) xstr)
  (xs1 (xret (xB (callSum rfl) rfl T.z_sum PyProof.Rows.boot_sum (xaC (xv 1) xaN))))
  xsN)
  (xs1 (xret (xix2 (xlst (xaC (xB (callMax rfl) rfl T.z_max PyProof.Rows.boot_max (xaC (xv 1) xaN)) (xaC (xB (callMin rfl) rfl T.z_min PyProof.Rows.boot_min (xaC (xv 1) xaN)) xaN))) (xTy callInt rfl T.z_int PyProof.Rows.boot_int (xaC (xcmp (cEq hr.units) (xv 0) xstr) xaN)))))))), bF, F.kp, mF⟩
abbrev s_law_session_right : Stmt := top 18
theorem sc_law_session_right : FnScope ["_law_cell", "_law_amount_here", "_law_word", "_law_gap", "_law_things_here", "_law_some", "_law_k", "_law_key", "_law_first", "_law_last", "_law_number_here"] ["_law_cell", "_law_amount_here", "_law_word", "_law_gap", "_law_things_here"] (defScope s_law_session_right) := ⟨rfl, rfl, rfl, by decide +kernel, rfl, by decide +kernel, by decide +kernel⟩
theorem ok_law_session_right {f : Addr} {fd : FuncData} (F : Fun K "_law_session_right" "_law_session_right" s_law_session_right f fd) (bF : Binds K fd ["_law_cell", "_law_amount_here", "_law_word", "_law_gap", "_law_things_here"] []) (mF : mg "_law_session_right" = some (.ref f)) (T : Blt K mg) (G_law_amount : DefOk P w K mg base 1 "_law_amount" m_law_amount) : DefOk P w K mg base 2 "_law_session_right" m_law_session_right :=
  ⟨f, fd, ["_law_cell", "_law_amount_here", "_law_word", "_law_gap", "_law_things_here"], fn_ok F sc_law_session_right rfl rfl (fun cdv A outer s H E hr =>
  (xsC (xtupset (xgT (xgsC (xgN 7 sc_law_session_right.nd) (xgsC (xgN 8 sc_law_session_right.nd) xgs0))) (xv 0))
  (xsC (xtupset (xgT (xgsC (xgN 9 sc_law_session_right.nd) (xgsC (xgN 10 sc_law_session_right.nd) xgs0))) (xv 1))
  (xsC (xset 5 sc_law_session_right.nd (xB (callSortT hr.units) rfl T.z_sorted PyProof.Rows.boot_sorted (xaC (xlc (sc := defScope s_law_session_right) rfl rfl (by show ScB ["_law_cell", "_law_amount_here", "_law_word", "_law_gap", "_law_things_here", "_law_some", "_law_k", "_law_key", "_law_first", "_law_last", "_law_number_here"] (defScope s_law_session_right) _ "_law_thing" ["_law_key", "_law_first", "_law_last"] [7, 8, 9]; exact ⟨rfl, rfl, by decide +kernel, by decide +kernel, rfl, by decide +kernel, by decide +kernel, rfl, by decide +kernel⟩) (xv 4) (fun _ _ _ _ => (xts_one (xw (xwand (xt (cEq hr.units) (xix2 (xv 0) xint) (xv 1)) (xwand1 (xt3 cLe cLe (xv 2) (xix2 (xv 0) xint) (xv 3))))))) (fun _ _ _ _ => (xv 0))) xaN)))
  (xsC (xsif (xw (xwor (xt (cEq hr.units) (xv 5) (xlst xaN)) (xwor (xt (cNe hr.units) (xix2 (xix2 (xv 5) xint) xint) (xv 8)) (xwor1 (xt (cNe hr.units) (xix2 (xix2 (xv 5) (xneg xint)) xint) (xv 9))))))
  (xs1 (xret xbl))
  xsN)
  (xsC (xforR2 T.z_range (xgN 6 sc_law_session_right.nd) xint (xB callLen2 rfl T.z_len PySem.boot_len (xaC (xv 5) xaN)) (xs1 (xsif (xt cGe (xb oSub (xix2 (xix2 (xv 5) (xv 6)) xint) (xix2 (xix2 (xv 5) (xb oSub (xv 6) xint)) xint)) (xv 3))
  (xs1 (xret xbl))
  xsN)))
  (xs1 (xret (xcmp (cEq hr.units) (xv 10) (xF G_law_amount (hr.mono (by decide)) (xaC (xv 2) (xaC (xlc (sc := defScope s_law_session_right) rfl rfl (by show ScB ["_law_cell", "_law_amount_here", "_law_word", "_law_gap", "_law_things_here", "_law_some", "_law_k", "_law_key", "_law_first", "_law_last", "_law_number_here"] (defScope s_law_session_right) _ "_law_thing" [] []; exact ⟨rfl, rfl, by decide +kernel, by decide +kernel, rfl, by decide +kernel, by decide +kernel, rfl, by decide +kernel⟩) (xv 5) (fun _ _ _ _ => xts_nil) (fun _ _ _ _ => (xix2 (xv 0) xint))) xaN)))))))))))), bF, F.kp, mF⟩
abbrev s_law_apart : Stmt := top 19
theorem sc_law_apart : FnScope ["_law_cells", "_law_gap", "_law_k"] ["_law_cells", "_law_gap"] (defScope s_law_apart) := ⟨rfl, rfl, rfl, by decide +kernel, rfl, by decide +kernel, by decide +kernel⟩
theorem ok_law_apart {f : Addr} {fd : FuncData} (F : Fun K "_law_apart" "_law_apart" s_law_apart f fd) (bF : Binds K fd ["_law_cells", "_law_gap"] []) (mF : mg "_law_apart" = some (.ref f)) (T : Blt K mg)  : DefOk P w K mg base 1 "_law_apart" m_law_apart :=
  ⟨f, fd, ["_law_cells", "_law_gap"], fn_ok F sc_law_apart rfl rfl (fun cdv A outer s H E hr =>
  (xsC (xforR2 T.z_range (xgN 2 sc_law_apart.nd) xint (xB callLen2 rfl T.z_len PySem.boot_len (xaC (xv 0) xaN)) (xs1 (xsif (xw (xwand (xt (cEq hr.units) (xix2 (xix2 (xix2 (xv 0) (xb oSub (xv 2) xint)) xint) xint) (xix2 (xix2 (xix2 (xv 0) (xv 2)) xint) xint)) (xwand1 (xt cLt (xb oSub (xix2 (xix2 (xix2 (xv 0) (xv 2)) xint) xint) (xix2 (xix2 (xix2 (xv 0) (xb oSub (xv 2) xint)) xint) xint)) (xv 1)))))
  (xs1 (xret xbl))
  xsN)))
  (xs1 (xret xbl)))), bF, F.kp, mF⟩
abbrev s_law_shape : Stmt := top 20
theorem sc_law_shape : FnScope ["_law_one"] ["_law_one"] (defScope s_law_shape) := ⟨rfl, rfl, rfl, by decide +kernel, rfl, by decide +kernel, by decide +kernel⟩
theorem ok_law_shape {f : Addr} {fd : FuncData} (F : Fun K "_law_shape" "_law_shape" s_law_shape f fd) (bF : Binds K fd ["_law_one"] []) (mF : mg "_law_shape" = some (.ref f)) (T : Blt K mg)  : DefOk P w K mg base 1 "_law_shape" m_law_shape :=
  ⟨f, fd, ["_law_one"], fn_ok F sc_law_shape rfl rfl (fun cdv A outer s H E hr =>
  (xsC (xsif (xw (xwor (xtnot (xtv (xty (t := .tuple) T.z_isinstance T.z_tuple PyProof.Rows.boot_tuple (xv 0)) (fun _ => rfl))) (xwor (xtnot (xtv (xty (t := .tuple) T.z_isinstance T.z_tuple PyProof.Rows.boot_tuple (xix2 (xv 0) xint)) (fun _ => rfl))) (xwor1 (xt (cNe hr.units) (xB callLen2 rfl T.z_len PySem.boot_len (xaC (xix2 (xv 0) xint) xaN)) xint)))))
  (xs1 (xret xbl))
  xsN)
  (xs1 (xret (xand (xnot (xty (t := .bool) T.z_isinstance T.z_bool PyProof.Rows.boot_bool (xix2 (xix2 (xv 0) xint) xint))) (xone (xnot (xty (t := .bool) T.z_isinstance T.z_bool PyProof.Rows.boot_bool (xix2 (xix2 (xv 0) xint) xint))))))))), bF, F.kp, mF⟩
abbrev s_law : Stmt := top 21
theorem sc_law : FnScope ["_law_script", "_law_keys_here", "_law_number_here", "_law_gap", "_law_word", "_law_row", "_law_things_here", "_law_handed", "_law_found", "_law_cell", "_law_amount_here", "_law_time", "_law_key", "_law_value"] ["_law_script"] (defScope s_law) := ⟨rfl, rfl, rfl, by decide +kernel, rfl, by decide +kernel, by decide +kernel⟩
theorem fn_law {f : Addr} {fd : FuncData} (F : Fun K "law" "law" s_law f fd) (T : Blt K mg) (G_law_apart : DefOk P w K mg base 1 "_law_apart" m_law_apart) (G_law_cell_at : DefOk P w K mg base 1 "_law_cell_at" m_law_cell_at) (G_law_keys : DefOk P w K mg base 2 "_law_keys" m_law_keys) (G_law_mixed : DefOk P w K mg base 1 "_law_mixed" m_law_mixed) (G_law_number : DefOk P w K mg base 2 "_law_number" m_law_number) (G_law_session_right : DefOk P w K mg base 2 "_law_session_right" m_law_session_right) (G_law_shape : DefOk P w K mg base 1 "_law_shape" m_law_shape) (G_law_things : DefOk P w K mg base 3 "_law_things" m_law_things) (G_fold_cells : DefOk P w K mg base 3 "fold_cells" m_fold_cells) : FnOk P w K mg base CX0 4 f fd ["_law_script"] (spP K m_law) :=
  fn_ok F sc_law rfl rfl (fun cdv A outer s H E hr =>
  (xsC (xset 1 sc_law.nd (xF G_law_keys (hr.mono (by decide)) (xaC (xF G_law_cell_at (hr.mono (by decide)) (xaC (xv 0) (xaC xint xaN))) xaN)))
  (xsC (xset 2 sc_law.nd (xF G_law_mixed (hr.mono (by decide)) (xaC (xF G_law_cell_at (hr.mono (by decide)) (xaC (xv 0) (xaC xint xaN))) (xaC xint xaN))))
  (xsC (xset 3 sc_law.nd (xb oAdd xint (xix2 (xlst (xaC (xb oMod (xb oShr (xv 2) xint) xint) (xaC (xb oMod (xB callAbs rfl T.z_abs PyProof.Rows.boot_abs (xaC (xF G_law_number (hr.mono (by decide)) (xaC (xF G_law_cell_at (hr.mono (by decide)) (xaC (xv 0) (xaC xint xaN))) (xaC xint xaN))) xaN)) (xb oPow xint xint)) xaN))) (xb oDiv (xb oBand (xb oShr (xv 2) xint) xint) xint))))
  (xsC (xset 4 sc_law.nd (xix2 (xlst (xaC xstr (xaC xstr (xaC xstr (xaC xstr xaN))))) (xb oBand (xv 2) xint)))
  (xsC (xset 5 sc_law.nd (xtup (xaC xstr (xaC xstr (xaC (xtup (xaC xstr xaN)) (xaC (xtup (xaC (xv 3) (xaC (xv 4) xaN))) xaN))))))
  (xsC (xset 6 sc_law.nd (xF G_law_things (hr.mono (by decide)) (xaC (xF G_law_cell_at (hr.mono (by decide)) (xaC (xv 0) (xaC xint xaN))) (xaC (xv 1) (xaC (xb oMod (xF G_law_mixed (hr.mono (by decide)) (xaC (xF G_law_cell_at (hr.mono (by decide)) (xaC (xv 0) (xaC xint xaN))) (xaC xint xaN))) xint) xaN)))))
  (xsC (xset 7 sc_law.nd (xTy callList rfl T.z_list PyProof.Rows.boot_list (xaC (xv 6) xaN)))
  (xsC (xset 8 sc_law.nd (xF G_fold_cells (hr.mono (by decide)) (xaC (xv 5) (xaC (xv 7) xaN))))
  (xsC (xsif (xw (xwor (xtnot (xtv (xty (t := .list) T.z_isinstance T.z_list PyProof.Rows.boot_list (xv 8)) (fun _ => rfl))) (xwor (xt (cNe hr.units) (xv 8) (xB (callSortT hr.units) rfl T.z_sorted PyProof.Rows.boot_sorted (xaC (xv 8) xaN))) (xwor1 (xt (cNe hr.units) (xv 7) (xv 6))))))
  (xs1 (xret xbl))
  xsN)
  (xsC (xsif (xtnot (xtv (xB (callAll rfl) rfl T.z_all PyProof.Rows.boot_all (xaC (xlc (sc := defScope s_law) rfl rfl (by show ScB ["_law_script", "_law_keys_here", "_law_number_here", "_law_gap", "_law_word", "_law_row", "_law_things_here", "_law_handed", "_law_found", "_law_cell", "_law_amount_here", "_law_time", "_law_key", "_law_value"] (defScope s_law) _ "_law_one" [] []; exact ⟨rfl, rfl, by decide +kernel, by decide +kernel, rfl, by decide +kernel, by decide +kernel, rfl, by decide +kernel⟩) (xv 8) (fun _ _ _ _ => xts_nil) (fun _ _ _ _ => (xF G_law_shape (hr.mono (by decide)) (xaC (xv 0) xaN)))) xaN)) (fun _ => rfl)))
  (xs1 (xret xbl))
  xsN)
  (xsC (xfor (xgT (xgsC (xgN 9 sc_law.nd) (xgsC (xgN 10 sc_law.nd) xgs0))) (xv 8)
  (xs1 (xsif (xtnot (xtv (xF G_law_session_right (hr.mono (by decide)) (xaC (xv 9) (xaC (xv 10) (xaC (xv 4) (xaC (xv 3) (xaC (xv 6) xaN)))))) (fun _ => rfl)))
  (xs1 (xret xbl))
  xsN)))
  (xsC (xfor (xgT (xgsC (xgN 11 sc_law.nd) (xgsC (xgN 12 sc_law.nd) (xgsC (xgN 13 sc_law.nd) xgs0)))) (xv 6)
  (xs1 (xsif (xt (cNe hr.units) (xB callLen2 rfl T.z_len PySem.boot_len (xaC (xlc2 (sc := defScope s_law) rfl rfl (by show ScB2 ["_law_script", "_law_keys_here", "_law_number_here", "_law_gap", "_law_word", "_law_row", "_law_things_here", "_law_handed", "_law_found", "_law_cell", "_law_amount_here", "_law_time", "_law_key", "_law_value"] (defScope s_law) _ "_law_cell" "_law_amount_here" ["_law_key", "_law_time"] [12, 11]; exact ⟨⟨rfl, rfl, by decide +kernel, by decide +kernel, rfl, by decide +kernel, by decide +kernel, rfl, by decide +kernel⟩, rfl, by decide +kernel⟩) (xv 8) (fun _ _ _ _ => (xts_one (xw (xwand (xt (cEq hr.units) (xix2 (xv 0) xint) (xv 2)) (xwand1 (xt3 cLe cLe (xix2 (xv 0) xint) (xv 3) (xix2 (xv 1) xint))))))) (fun _ _ _ _ => xint)) xaN)) xint)
  (xs1 (xret xbl))
  xsN)))
  (xs1 (xret (xand (xF G_law_apart (hr.mono (by decide)) (xaC (xv 8) (xaC (xv 3) xaN))) (xone (xcmp (cEq hr.units) (xF G_fold_cells (hr.mono (by decide)) (xaC (xv 5) (xaC (xrev (xv 6)) xaN))) (xv 8)))))))))))))))))))
end
end Fx
namespace Fx
open PySem
theorem fGo_rng {g : D → En → Option En} {B : FS} (P : En → Prop) : ∀ (n : Nat) (lo : Int) (ρ : En), (∀ (i : Nat) ρ, i < n → P ρ → ∃ ρ1 ρ2, g (.int (lo + i)) ρ = some ρ1 ∧ B ρ1 = some (.nx ρ2) ∧ P ρ2) → P ρ → ∃ ρ', fGo g B (rngD lo n) ρ = some (.nx ρ') ∧ P ρ'
  | 0, lo, ρ, _, p => ⟨ρ, rfl, p⟩
  | n + 1, lo, ρ, h, p => by
    obtain ⟨ρ1, ρ2, h1, h2, p2⟩ := h 0 ρ (by omega) p
    have h1' : g (.int lo) ρ = some ρ1 := by simpa using h1
    obtain ⟨ρ', e, p'⟩ := fGo_rng P n (lo + 1) ρ2 (fun i ρ hi q => by
      obtain ⟨a, b, c, d, e⟩ := h (i + 1) ρ (by omega) q
      refine ⟨a, b, ?_, d, e⟩
      rw [show lo + 1 + (i : Int) = lo + ((i + 1 : Nat) : Int) by push_cast; omega]; exact c) p2
    refine ⟨ρ', ?_, p'⟩
    rw [show rngD lo (n + 1) = .int lo :: rngD (lo + 1) n from rfl, fGo_c, h1', fGa_s, h2, fGb_n]
    exact e
theorem fGo_all {g : D → En → Option En} {B : FS} (P : En → Prop) : ∀ (vs : List D) (ρ : En), (∀ v ρ, v ∈ vs → P ρ → ∃ ρ1 ρ2, g v ρ = some ρ1 ∧ B ρ1 = some (.nx ρ2) ∧ P ρ2) → P ρ → ∃ ρ', fGo g B vs ρ = some (.nx ρ') ∧ P ρ'
  | [], ρ, _, p => ⟨ρ, rfl, p⟩
  | v :: vs, ρ, h, p => by
    obtain ⟨ρ1, ρ2, h1, h2, p2⟩ := h v ρ (List.mem_cons_self ..) p
    obtain ⟨ρ', e, p'⟩ := fGo_all P vs ρ2 (fun u ρ hu q => h u ρ (List.mem_cons_of_mem _ hu) q) p2
    refine ⟨ρ', ?_, p'⟩
    rw [fGo_c, h1, fGa_s, h2, fGb_n]
    exact e
theorem okMul_r {i j : Int} (h : j.natAbs < 2 ^ 64) : okMul i j = true := by
  unfold okMul
  rw [decide_eq_true h]; simp
theorem okMul_l {i j : Int} (h : i.natAbs < 2 ^ 64) : okMul i j = true := by
  unfold okMul
  rw [decide_eq_true h]; simp
theorem okDiv_s {j : Int} (h0 : j ≠ 0) (h : j.natAbs < 2 ^ 64) : okDiv j = true := by
  unfold okDiv
  rw [decide_eq_true h0, decide_eq_true (Nat.lt_trans h (Nat.pow_lt_pow_right (by decide) (by decide)))]; rfl
end Fx
namespace Fx
open PySem
theorem bitAnd_bounds (x m : Int) (hm : 0 ≤ m) : 0 ≤ Builtin.bitAnd x m ∧ Builtin.bitAnd x m ≤ m := by
  unfold Builtin.bitAnd
  split
  · have h : x.toNat &&& m.toNat ≤ m.toNat := Nat.and_le_right
    omega
  · rename_i h; simp at h; omega
  · have h : m.toNat &&& (Builtin.bitNot x).toNat ≤ m.toNat := Nat.and_le_left
    omega
  · rename_i h; simp at h; omega
theorem bitXor_nn {x y : Int} (hx : 0 ≤ x) (hy : 0 ≤ y) : Builtin.bitXor x y = ((x.toNat ||| y.toNat : Nat) : Int) - ((x.toNat &&& y.toNat : Nat) : Int) := by
  have e1 : Builtin.bitAnd x y = ((x.toNat &&& y.toNat : Nat) : Int) := by
    unfold Builtin.bitAnd
    rw [decide_eq_true hx, decide_eq_true hy]
  have e2 : Builtin.bitOr x y = ((x.toNat ||| y.toNat : Nat) : Int) := by
    have a : decide (0 ≤ Builtin.bitNot x) = false := decide_eq_false (by unfold Builtin.bitNot; omega)
    have b : decide (0 ≤ Builtin.bitNot y) = false := decide_eq_false (by unfold Builtin.bitNot; omega)
    have n1 : Builtin.bitNot (Builtin.bitNot x) = x := by unfold Builtin.bitNot; omega
    have n2 : Builtin.bitNot (Builtin.bitNot y) = y := by unfold Builtin.bitNot; omega
    unfold Builtin.bitOr Builtin.bitAnd
    rw [a, b]
    simp only [n1, n2]
    unfold Builtin.bitNot; omega
  unfold Builtin.bitXor
  rw [e1, e2]
theorem bitXor_bounds {x y : Int} {k : Nat} (hx : 0 ≤ x) (hy : 0 ≤ y) (bx : x < 2 ^ k) (by' : y < 2 ^ k) : 0 ≤ Builtin.bitXor x y ∧ Builtin.bitXor x y < 2 ^ k := by
  rw [bitXor_nn hx hy]
  have p : ((2 ^ k : Nat) : Int) = (2 : Int) ^ k := by push_cast; rfl
  have h1 : x.toNat < 2 ^ k := by omega
  have h2 : y.toNat < 2 ^ k := by omega
  have h3 := Nat.or_lt_two_pow h1 h2
  have h4 : x.toNat &&& y.toNat ≤ x.toNat := Nat.and_le_left
  have h5 : x.toNat ≤ x.toNat ||| y.toNat := Nat.left_le_or
  omega
end Fx
namespace Fx
open PySem
structure Th where
  t : Int
  k : Str
  v : Int
  deriving DecidableEq
def tD (x : Th) : D := .tup [.int x.t, .str x.k, .int x.v]
def keyH (x : List Th) : Option Str := x.head?.map (·.k)
def Stp (gap : Int) (st : List (List Th)) (th : Th) (st' : List (List Th)) : Prop :=
  ((∀ y ∈ st, keyH y ≠ some th.k) ∧ st' = st ++ [[th]]) ∨
  ∃ a x b z, st = a ++ x :: b ∧ keyH x = some th.k ∧ (∀ y ∈ b, keyH y ≠ some th.k) ∧ x.getLast? = some z ∧ ((gap ≤ th.t - z.t ∧ st' = st ++ [[th]]) ∨ (th.t - z.t < gap ∧ st' = a ++ (x ++ [th]) :: b))
def mm (st : List (List Th)) : List (List D) := st.map (List.map tD)
theorem key_mm (x : List Th) : (x.map tD).head?.bind keyT = keyH x := by
  cases x with
  | nil => rfl
  | cons a r => rfl
theorem lastAt_some {k : Str} : ∀ {st : List (List Th)} {i : Nat}, lastAt k (mm st) = some i → ∃ a x b, st = a ++ x :: b ∧ a.length = i ∧ keyH x = some k ∧ ∀ y ∈ b, keyH y ≠ some k
  | [], i, h => by cases h
  | x :: r, i, h => by
    have h' : (match lastAt k (mm r) with | some i => some (i + 1) | none => if ((x.map tD).head?.bind keyT) = some k then some 0 else none) = some i := h
    cases q : lastAt k (mm r) with
    | some j =>
      rw [q] at h'
      obtain ⟨a, y, b, e1, e2, e3, e4⟩ := lastAt_some q
      have : j + 1 = i := Option.some.inj h'
      exact ⟨x :: a, y, b, by rw [e1]; rfl, by rw [List.length_cons, e2]; exact this, e3, e4⟩
    | none =>
      rw [q] at h'
      by_cases c : keyH x = some k
      · have hh : (if ((x.map tD).head?.bind keyT) = some k then some 0 else none) = some i := h'
        rw [key_mm, if_pos c] at hh
        cases hh
        refine ⟨[], x, r, rfl, rfl, c, fun y hy => ?_⟩
        intro z
        have : ∀ (st : List (List Th)), lastAt k (mm st) = none → ∀ y ∈ st, keyH y ≠ some k := by
          intro st
          induction st with
          | nil => intro _ y hy; cases hy
          | cons w st ih =>
            intro hn y hy
            have hn' : (match lastAt k (mm st) with | some i => some (i + 1) | none => if ((w.map tD).head?.bind keyT) = some k then some 0 else none) = none := hn
            cases q' : lastAt k (mm st) with
            | some j => rw [q'] at hn'; cases hn'
            | none =>
              rw [q'] at hn'
              have hh : (if ((w.map tD).head?.bind keyT) = some k then some 0 else none) = (none : Option Nat) := hn'
              rw [key_mm] at hh
              rcases List.mem_cons.mp hy with rfl | hy
              · intro z; rw [if_pos z] at hh; cases hh
              · exact ih q' y hy
        exact this r q y hy z
      · have hh : (if ((x.map tD).head?.bind keyT) = some k then some 0 else none) = some i := h'
        rw [key_mm, if_neg c] at hh
        cases hh
theorem lastAt_none {k : Str} : ∀ {st : List (List Th)}, lastAt k (mm st) = none → ∀ y ∈ st, keyH y ≠ some k
  | [], _, y, hy => by cases hy
  | w :: st, hn, y, hy => by
    have hn' : (match lastAt k (mm st) with | some i => some (i + 1) | none => if ((w.map tD).head?.bind keyT) = some k then some 0 else none) = none := hn
    cases q' : lastAt k (mm st) with
    | some j => rw [q'] at hn'; cases hn'
    | none =>
      rw [q'] at hn'
      have hh : (if ((w.map tD).head?.bind keyT) = some k then some 0 else none) = (none : Option Nat) := hn'
      rw [key_mm] at hh
      rcases List.mem_cons.mp hy with rfl | hy
      · intro z; rw [if_pos z] at hh; cases hh
      · exact lastAt_none q' y hy
theorem step_mm (gap : Int) (st : List (List Th)) (th : Th) : ∃ st', sesStep gap (mm st) th.k th.t (tD th) = mm st' ∧ Stp gap st th st' := by
  have new : mm st ++ [[tD th]] = mm (st ++ [[th]]) := by unfold mm; rw [List.map_append]; rfl
  unfold sesStep
  cases q : lastAt th.k (mm st) with
  | none => exact ⟨st ++ [[th]], new, .inl ⟨lastAt_none q, rfl⟩⟩
  | some i =>
    obtain ⟨a, x, b, rfl, rfl, e3, e4⟩ := lastAt_some q
    have gd : (mm (a ++ x :: b)).getD a.length [] = x.map tD := by
      unfold mm
      rw [List.getD_eq_getElem?_getD, List.map_append, List.getElem?_append_right (by simp)]
      simp
    obtain ⟨z, hz⟩ : ∃ z, x.getLast? = some z := by
      cases hx : x.getLast? with
      | some z => exact ⟨z, rfl⟩
      | none => rw [List.getLast?_eq_none_iff] at hx; rw [hx] at e3; cases e3
    have jn : joins gap th.t (x.map tD) = decide (th.t - z.t < gap) := by
      unfold joins
      rw [List.getLast?_map, hz]; rfl
    show ∃ st', (if joins gap th.t ((mm (a ++ x :: b)).getD a.length []) = true then (mm (a ++ x :: b)).set a.length ((mm (a ++ x :: b)).getD a.length [] ++ [tD th]) else mm (a ++ x :: b) ++ [[tD th]]) = mm st' ∧ _
    rw [gd, jn]
    by_cases c : th.t - z.t < gap
    · refine ⟨a ++ (x ++ [th]) :: b, ?_, .inr ⟨a, x, b, z, rfl, e3, e4, hz, .inr ⟨c, rfl⟩⟩⟩
      rw [if_pos (decide_eq_true c)]
      unfold mm
      rw [List.map_append, List.map_append, List.set_append_right _ _ (by simp)]
      simp
    · refine ⟨_, by rw [if_neg (by simpa using c)]; exact new, .inr ⟨a, x, b, z, rfl, e3, e4, hz, .inl ⟨by omega, rfl⟩⟩⟩
structure Iv (gap : Int) (pre : List Th) (st : List (List Th)) : Prop where
  ne : ∀ x ∈ st, x ≠ []
  sub : ∀ x ∈ st, x = pre.filter fun u => decide (u ∈ x)
  cov : ∀ u ∈ pre, ∃ x ∈ st, u ∈ x
  apart : st.Pairwise fun x y => ∀ u ∈ x, ∀ w ∈ y, u.k = w.k → u.t + gap ≤ w.t
  key : ∀ x ∈ st, ∀ u ∈ x, ∀ w ∈ x, u.k = w.k
  chain : ∀ x ∈ st, ∀ (i : Nat) (u w : Th), x[i]? = some u → x[i + 1]? = some w → w.t - u.t < gap
abbrev leT (l : List Th) : Prop := l.Pairwise fun u w => u.t ≤ w.t
theorem Iv.mem {gap : Int} {pre : List Th} {st : List (List Th)} (h : Iv gap pre st) {x : List Th} (hx : x ∈ st) {u : Th} (hu : u ∈ x) : u ∈ pre := by
  rw [h.sub x hx] at hu
  exact (List.mem_filter.mp hu).1
theorem Iv.srt {gap : Int} {pre : List Th} {st : List (List Th)} (h : Iv gap pre st) (s : leT pre) {x : List Th} (hx : x ∈ st) : leT x := by
  rw [h.sub x hx]
  exact s.filter _
theorem Iv.keyAt {gap : Int} {pre : List Th} {st : List (List Th)} (h : Iv gap pre st) {x : List Th} (hx : x ∈ st) {u : Th} (hu : u ∈ x) : keyH x = some u.k := by
  cases x with
  | nil => cases hu
  | cons f r => exact congrArg some (h.key _ hx f List.mem_cons_self u hu)
theorem le_last {x : List Th} (s : leT x) {z u : Th} (hz : x.getLast? = some z) (hu : u ∈ x) : u.t ≤ z.t := by
  obtain ⟨pre, e⟩ := List.getLast?_eq_some_iff.mp hz
  rw [e] at s hu
  rcases List.mem_append.mp hu with hu | hu
  · exact (List.pairwise_append.mp s).2.2 u hu z List.mem_cons_self
  · rw [List.mem_singleton.mp hu]; omega
theorem first_le {x : List Th} (s : leT x) {f u : Th} (hf : x.head? = some f) (hu : u ∈ x) : f.t ≤ u.t := by
  cases x with
  | nil => cases hu
  | cons g r =>
    cases hf
    rcases List.mem_cons.mp hu with rfl | hu
    · omega
    · exact (List.pairwise_cons.mp s).1 u hu
theorem last_mem {x : List Th} {z : Th} (hz : x.getLast? = some z) : z ∈ x := List.mem_of_getLast? hz
theorem Iv.step {gap : Int} {pre : List Th} {st st' : List (List Th)} {th : Th} (h : Iv gap pre st) (g1 : 1 ≤ gap) (s : leT (pre ++ [th])) (hs : Stp gap st th st') : Iv gap (pre ++ [th]) st' := by
  obtain ⟨sp, _, le⟩ := List.pairwise_append.mp s
  have le : ∀ u ∈ pre, u.t ≤ th.t := fun u hu => le u hu th List.mem_cons_self
  have new : (∀ y ∈ st, ∀ u ∈ y, u.k = th.k → u.t + gap ≤ th.t) → Iv gap (pre ++ [th]) (st ++ [[th]]) := fun far => by
    have notin : th ∉ pre := fun z => by
      obtain ⟨y, hy, hu⟩ := h.cov th z
      have := far y hy th hu rfl
      omega
    have nofil : pre.filter (fun u => decide (u ∈ [th])) = [] := by
      rw [List.filter_eq_nil_iff]
      intro u hu z
      have : u = th := by simpa using z
      exact notin (this ▸ hu)
    refine ⟨fun x hx => ?_, fun x hx => ?_, fun u hu => ?_, ?_, fun x hx => ?_, fun x hx => ?_⟩
    · rcases List.mem_append.mp hx with hx | hx
      · exact h.ne x hx
      · rw [List.mem_singleton.mp hx]; simp
    · rcases List.mem_append.mp hx with hx | hx
      · have : ¬ decide (th ∈ x) = true := fun z => notin (h.mem hx (by simpa using z))
        rw [List.filter_append, List.filter_cons_of_neg (p := fun u => decide (u ∈ x)) this, List.filter_nil, List.append_nil]
        exact h.sub x hx
      · rw [List.mem_singleton.mp hx, List.filter_append, nofil, List.filter_cons_of_pos (by simp), List.filter_nil]; rfl
    · rcases List.mem_append.mp hu with hu | hu
      · obtain ⟨x, hx, q⟩ := h.cov u hu
        exact ⟨x, List.mem_append_left _ hx, q⟩
      · exact ⟨[th], List.mem_append_right _ List.mem_cons_self, hu⟩
    · refine List.pairwise_append.mpr ⟨h.apart, List.pairwise_singleton _ _, fun x hx y hy u hu w hw e => ?_⟩
      rw [List.mem_singleton.mp hy] at hw
      obtain rfl := List.mem_singleton.mp hw
      exact far x hx u hu e
    · rcases List.mem_append.mp hx with hx | hx
      · exact h.key x hx
      · rw [List.mem_singleton.mp hx]
        intro u hu w hw
        rw [List.mem_singleton.mp hu, List.mem_singleton.mp hw]
    · rcases List.mem_append.mp hx with hx | hx
      · exact h.chain x hx
      · rw [List.mem_singleton.mp hx]
        intro i u w _ hw
        simp at hw
  rcases hs with ⟨hn, rfl⟩ | ⟨a, x, b, z, rfl, hk, hb, hz, hs⟩
  · exact new fun y hy u hu e => absurd (by rw [h.keyAt hy hu, e]) (hn y hy)
  · have xm : x ∈ a ++ x :: b := List.mem_append_right _ List.mem_cons_self
    have zm := last_mem hz
    have zk : z.k = th.k := by
      have := h.keyAt xm zm
      rw [hk] at this
      exact (Option.some.inj this).symm
    obtain ⟨pa, pxb, pab⟩ := List.pairwise_append.mp h.apart
    have upto : ∀ y ∈ a ++ x :: b, ∀ u ∈ y, u.k = th.k → (y ∈ a ∧ u.t + gap ≤ z.t) ∨ (u ∈ x ∧ u.t ≤ z.t) := fun y hy u hu e => by
      rcases List.mem_append.mp hy with hy' | hy'
      · exact .inl ⟨hy', pab y hy' x List.mem_cons_self u hu z zm (e.trans zk.symm)⟩
      · rcases List.mem_cons.mp hy' with rfl | hy'
        · exact .inr ⟨hu, le_last (h.srt sp xm) hz hu⟩
        · exact absurd (by rw [h.keyAt hy hu, e]) (hb y hy')
    rcases hs with ⟨far, rfl⟩ | ⟨near, rfl⟩
    · refine new fun y hy u hu e => ?_
      rcases upto y hy u hu e with ⟨_, q⟩ | ⟨_, q⟩ <;> omega
    · have zt := le z (h.mem xm zm)
      have inx : ∀ y ∈ a ++ x :: b, th ∈ y → th ∈ x := fun y hy hu => by
        rcases upto y hy th hu rfl with ⟨_, q⟩ | ⟨q, _⟩
        · omega
        · exact q
      have nota : ∀ y ∈ a, th ∉ y := fun y hy hu => by
        have := pab y hy x List.mem_cons_self th hu z zm zk.symm
        omega
      have notb : ∀ y ∈ b, th ∉ y := fun y hy hu => hb y hy (h.keyAt (List.mem_append_right _ (List.mem_cons_of_mem _ hy)) hu)
      have old : ∀ y, y ∈ a ∨ y ∈ b → y ∈ a ++ x :: b := fun y hy => by
        rcases hy with hy | hy
        · exact List.mem_append_left _ hy
        · exact List.mem_append_right _ (List.mem_cons_of_mem _ hy)
      have mem' : ∀ {y : List Th}, y ∈ a ++ (x ++ [th]) :: b → (y ∈ a ∨ y ∈ b) ∨ y = x ++ [th] := fun {y} hy => by
        rcases List.mem_append.mp hy with hy | hy
        · exact .inl (.inl hy)
        · rcases List.mem_cons.mp hy with hy | hy
          · exact .inr hy
          · exact .inl (.inr hy)
      refine ⟨fun y hy => ?_, fun y hy => ?_, fun u hu => ?_, ?_, fun y hy => ?_, fun y hy => ?_⟩
      · rcases mem' hy with hy | rfl
        · exact h.ne y (old y hy)
        · simp
      · rcases mem' hy with hy | rfl
        · have : ¬ decide (th ∈ y) = true := fun q => by
            have q : th ∈ y := by simpa using q
            rcases hy with hy | hy
            · exact nota y hy q
            · exact notb y hy q
          rw [List.filter_append, List.filter_cons_of_neg (p := fun u => decide (u ∈ y)) this, List.filter_nil, List.append_nil]
          exact h.sub y (old y hy)
        · have e : pre.filter (fun u => decide (u ∈ x ++ [th])) = pre.filter fun u => decide (u ∈ x) := by
            refine List.filter_congr fun u hu => decide_eq_decide.mpr ⟨fun q => ?_, fun q => List.mem_append_left _ q⟩
            rcases List.mem_append.mp q with q | q
            · exact q
            · have : u = th := List.mem_singleton.mp q
              subst this
              obtain ⟨y, hy, hv⟩ := h.cov u hu
              exact inx y hy hv
          rw [List.filter_append, e, ← h.sub x xm, List.filter_cons_of_pos (by simp), List.filter_nil]
      · rcases List.mem_append.mp hu with hu | hu
        · obtain ⟨y, hy, q⟩ := h.cov u hu
          rcases List.mem_append.mp hy with hy | hy
          · exact ⟨y, List.mem_append_left _ hy, q⟩
          · rcases List.mem_cons.mp hy with rfl | hy
            · exact ⟨y ++ [th], List.mem_append_right _ List.mem_cons_self, List.mem_append_left _ q⟩
            · exact ⟨y, List.mem_append_right _ (List.mem_cons_of_mem _ hy), q⟩
        · exact ⟨x ++ [th], List.mem_append_right _ List.mem_cons_self, List.mem_append_right _ hu⟩
      · obtain ⟨px, pb⟩ := List.pairwise_cons.mp pxb
        refine List.pairwise_append.mpr ⟨pa, List.pairwise_cons.mpr ⟨fun y hy u hu w hw e => ?_, pb⟩, fun y hy y' hy' u hu w hw e => ?_⟩
        · rcases List.mem_append.mp hu with hu | hu
          · exact px y hy u hu w hw e
          · obtain rfl := List.mem_singleton.mp hu
            exact absurd (by rw [h.keyAt (old y (.inr hy)) hw, e]) (hb y hy)
        · rcases List.mem_cons.mp hy' with rfl | hy'
          · rcases List.mem_append.mp hw with hw | hw
            · exact pab y hy x List.mem_cons_self u hu w hw e
            · obtain rfl := List.mem_singleton.mp hw
              have := pab y hy x List.mem_cons_self u hu z zm (e.trans zk.symm)
              omega
          · exact pab y hy y' (List.mem_cons_of_mem _ hy') u hu w hw e
      · rcases mem' hy with hy | rfl
        · exact h.key y (old y hy)
        · have kx : ∀ u ∈ x ++ [th], u.k = th.k := fun u hu => by
            rcases List.mem_append.mp hu with hu | hu
            · exact (h.key x xm u hu z zm).trans zk
            · rw [List.mem_singleton.mp hu]
          exact fun u hu w hw => (kx u hu).trans (kx w hw).symm
      · rcases mem' hy with hy | rfl
        · exact h.chain y (old y hy)
        · intro i u w hu hw
          by_cases c : i + 1 < x.length
          · rw [List.getElem?_append_left (by omega)] at hu hw
            exact h.chain x xm i u w hu hw
          · have il := (List.getElem?_eq_some_iff.mp hw).1
            rw [List.length_append, List.length_singleton] at il
            have e1 : i + 1 = x.length := by omega
            rw [e1, List.getElem?_append_right (Nat.le_refl _), Nat.sub_self] at hw
            cases hw
            rw [List.getElem?_append_left (by omega)] at hu
            rw [List.getLast?_eq_getElem?, show x.length - 1 = i by omega, hu] at hz
            cases hz
            exact near
theorem Stp.len {gap : Int} {st st' : List (List Th)} {th : Th} (h : Stp gap st th st') : st'.length ≤ st.length + 1 := by
  rcases h with ⟨_, rfl⟩ | ⟨a, x, b, z, rfl, _, _, _, ⟨_, rfl⟩ | ⟨_, rfl⟩⟩
  · rw [List.length_append, List.length_singleton]; omega
  · rw [List.length_append, List.length_singleton]; omega
  · rw [List.length_append, List.length_append, List.length_cons, List.length_cons]; omega
theorem ses_all (gap : Int) (g1 : 1 ≤ gap) : ∀ (rest pre : List Th) (st : List (List Th)), Iv gap pre st → leT (pre ++ rest) → ∃ fin, sesGo gap (rest.map tD) (mm st) = some (mm fin) ∧ Iv gap (pre ++ rest) fin ∧ fin.length ≤ st.length + rest.length
  | [], pre, st, h, _ => ⟨st, rfl, by rw [List.append_nil]; exact h, Nat.le_refl _⟩
  | th :: rest, pre, st, h, s => by
    obtain ⟨st', e, hs⟩ := step_mm gap st th
    have s1 : leT (pre ++ [th] ++ rest) := by rw [List.append_assoc]; exact s
    have h' := h.step g1 (List.pairwise_append.mp s1).1 hs
    obtain ⟨fin, e2, h2, h3⟩ := ses_all gap g1 rest (pre ++ [th]) st' h' s1
    have := hs.len
    refine ⟨fin, ?_, by rw [List.append_assoc] at h2; exact h2, by rw [List.length_cons]; omega⟩
    show sesGo gap (rest.map tD) (sesStep gap (mm st) th.k th.t (tD th)) = _
    rw [e]; exact e2
theorem iv_nil (gap : Int) : Iv gap [] [] := ⟨fun x hx => (by cases hx), fun x hx => (by cases hx), fun x hx => (by cases hx), List.Pairwise.nil, fun x hx => (by cases hx), fun x hx => (by cases hx)⟩
theorem Iv.eqf {gap : Int} {L : List Th} {st : List (List Th)} (h : Iv gap L st) (g1 : 1 ≤ gap) (s : leT L) {x : List Th} (hx : x ∈ st) {f l : Th} (hf : x.head? = some f) (hl : x.getLast? = some l) : (L.filter fun u => decide (u.k = f.k) && (decide (f.t ≤ u.t) && decide (u.t ≤ l.t))) = x := by
  refine Eq.trans (List.filter_congr fun u hu => ?_) (h.sub x hx).symm
  have fm : f ∈ x := List.mem_of_mem_head? hf
  have lm := last_mem hl
  rw [Bool.eq_iff_iff, Bool.and_eq_true, Bool.and_eq_true, decide_eq_true_iff, decide_eq_true_iff, decide_eq_true_iff, decide_eq_true_iff]
  constructor
  · rintro ⟨e, c1, c2⟩
    obtain ⟨y, hy, hu⟩ := h.cov u hu
    obtain ⟨i, hi, ei⟩ := List.getElem_of_mem hx
    obtain ⟨j, hj, ej⟩ := List.getElem_of_mem hy
    have pw := List.pairwise_iff_getElem.mp h.apart
    rcases Nat.lt_trichotomy i j with q | q | q
    · have := pw i j hi hj q l (by rw [ei]; exact lm) u (by rw [ej]; exact hu) ((h.key x hx l lm f fm).trans e.symm)
      omega
    · subst q; rw [ei] at ej; exact ej ▸ hu
    · have := pw j i hj hi q u (by rw [ej]; exact hu) f (by rw [ei]; exact fm) e
      omega
  · intro hu
    exact ⟨h.key x hx u hu f fm, first_le (h.srt s hx) hf hu, le_last (h.srt s hx) hl hu⟩
end Fx
namespace Fx
open PySem
theorem mixed_eq (c k : Int) (hk : 0 ≤ k) : ∃ r : Int, m_law_mixed [.int c, .int k] = some (.int r) ∧ 0 ≤ r ∧ r < 2147483648 := by
  have a : ∀ x : Int, 0 ≤ Int.fmod x 2147483647 ∧ Int.fmod x 2147483647 < 2147483647 := fun x => ⟨Int.fmod_nonneg_of_pos _ (by decide), Int.fmod_lt_of_pos _ (by decide)⟩
  have e : 0 ≤ 31 * k + 31 := by omega
  have m1 : ∀ x : Int, okMul x 48271 = true := fun x => okMul_r (by decide)
  have m2 : okMul 7919 k = true := okMul_l (by decide)
  have m3 : okMul 31 k = true := okMul_l (by decide)
  have m4 : ∀ x y : Int, okMul (Int.fmod x 2147483647) y = true := fun x y => okMul_l (by have := a x; omega)
  have d1 : okDiv 1009 = true := okDiv_s (by decide) (by decide)
  have d2 : okDiv 1013 = true := okDiv_s (by decide) (by decide)
  have b := bitAnd_bounds (c / 2 ^ (31 * k + 31).toNat) 2147483647 (by decide)
  refine ⟨_, by simp [m_law_mixed, b_law_mixed, e, m1, m2, m3, m4, d1, d2]; rfl, ?_⟩
  exact bitXor_bounds (k := 31) (a _).1 b.1 (Int.lt_trans (a _).2 (by decide)) (Int.lt_of_le_of_lt b.2 (by decide))
theorem number_eq (c k : Int) (hk : 0 ≤ k) : ∃ r : Int, m_law_number [.int c, .int k] = some (.int r) ∧ -429496730000 ≤ r ∧ r < 429496730000 := by
  obtain ⟨n, e, n0, n1⟩ := mixed_eq c k hk
  have m : okMul (n - 1073741824) 400 = true := okMul_r (by decide)
  have b := bitAnd_bounds n 255 (by decide)
  have f0 := Int.fmod_nonneg_of_pos (n / 4) (b := 13) (by decide)
  have f1 := Int.fmod_lt_of_pos (n / 4) (b := 13) (by decide)
  by_cases h : 0 < Builtin.bitAnd n 3
  · refine ⟨Int.fmod (n / 4) 13 - 6, by simp [m_law_number, b_law_number, e, h], by omega, by omega⟩
  · refine ⟨(n - 1073741824) * 400 + Builtin.bitAnd n 255, by simp [m_law_number, b_law_number, e, h, m], by omega, by omega⟩
end Fx
namespace Fx
open PySem
abbrev alpha : Str := Str.ofString "abcdefghijklmnopqrstuvwxyz"
theorem alpha_len : alpha.length = 26 := by decide +kernel
theorem alpha_at : ∀ j : Nat, j < 26 → alpha.cps.toList[j]? = some (97 + j) := by
  have e : alpha.cps.toList = List.range' 97 26 := by decide +kernel
  intro j hj
  rw [e, List.getElem?_range' hj]
  simp
theorem small_line {n : Nat} (h : n ≤ 1000) : n ≤ sizeLine := Nat.le_trans h (by decide)
theorem letter_ix {i : Int} (h0 : 0 ≤ i) (h1 : i < 26) : atS alpha i = some (.str (chS (97 + i.toNat))) := by
  unfold atS
  rw [if_pos (by rw [alpha_len]; exact small_line (by decide))]
  have l : alpha.cps.toList.length = 26 := by decide +kernel
  unfold dPl
  rw [l, if_pos h0, if_pos (by exact_mod_cast h1), bnd_some, alpha_at _ (by omega), bnd_some]
theorem fm26 (x : Int) : 0 ≤ x.fmod 26 ∧ x.fmod 26 < 26 := ⟨Int.fmod_nonneg_of_pos _ (by decide), Int.fmod_lt_of_pos _ (by decide)⟩
def ltr (x : Int) : Str := chS (97 + (x.fmod 26).toNat)
theorem ltr_ix (x : Int) : atS alpha (x.fmod 26) = some (.str (ltr x)) := letter_ix (fm26 x).1 (fm26 x).2
theorem ltr_ne {x y : Int} {s u : Str} (h : ¬ x.fmod 26 = y.fmod 26) : ¬ (ltr x ++ s = ltr y ++ u) := by
  intro e
  have e1 : (ltr x ++ s).cps.toList = (ltr y ++ u).cps.toList := by rw [e]
  have e2 : (97 + (x.fmod 26).toNat) :: s.cps.toList = (97 + (y.fmod 26).toNat) :: u.cps.toList := by
    have a : ∀ (c : Nat) (z : Str), (chS c ++ z).cps.toList = c :: z.cps.toList := fun c z => by
      show ((chS c).cps ++ z.cps).toList = _
      rw [Array.toList_append]; rfl
    have b := e1
    unfold ltr at b
    rw [a, a] at b
    exact b
  injection e2 with e3 _
  have := fm26 x
  have := fm26 y
  omega
theorem stem_eq (ss : List Str) (hn : ss.length ≤ 3) (h : ∀ s ∈ ss, s.length = 1) : ∃ z : Str, joinL (Str.ofString "") (ss.map .str) = some (.str z) ∧ z.length ≤ 900 := by
  have le : (Str.ofString "").length = 0 := by decide +kernel
  have q : ∀ n : Nat, n ≤ 3 → n + 0 ≤ 1000000 := fun n h => by omega
  unfold joinL
  rw [strs_map, bnd_some, le, Nat.mul_zero, Nat.add_zero]
  have ap : ∀ a b : Str, (a ++ b).length = a.length + b.length := fun a b => by
    show (a.cps ++ b.cps).size = _
    rw [Array.size_append]; rfl
  match ss, hn, h with
  | [], _, _ => exact ⟨_, if_pos (by simp), by show (Str.empty).length ≤ _; decide⟩
  | [a], _, h => exact ⟨_, if_pos (by simp [h a (by simp)]), by show a.length ≤ _; rw [h a (by simp)]; decide⟩
  | [a, b], _, h =>
    refine ⟨_, if_pos (by simp [h a (by simp), h b (by simp)]), ?_⟩
    show (a ++ Str.ofString "" ++ b).length ≤ _
    rw [ap, ap, le, h a (by simp), h b (by simp)]; decide
  | [a, b, c], _, h =>
    refine ⟨_, if_pos (by simp [h a (by simp), h b (by simp), h c (by simp)]), ?_⟩
    show (a ++ Str.ofString "" ++ (b ++ Str.ofString "" ++ c)).length ≤ _
    rw [ap, ap, ap, ap, le, h a (by simp), h b (by simp), h c (by simp)]; decide
theorem fmod26 (x : Int) : x.fmod 26 = x % 26 := by rw [Int.fmod_eq_emod_of_nonneg _ (by decide)]
theorem keys_eq (c : Int) : ∃ k0 k1 k2 k3 k4 : Str, m_law_keys [.int c] = some (.lst [.str k0, .str k1, .str k2, .str k3, .str k4]) ∧ [k0, k1, k2, k3, k4].Nodup := by
  obtain ⟨n, en, n0, n1⟩ := mixed_eq c 900 (by decide)
  have bj := bitAnd_bounds (n / 1048576) 3 (by decide)
  have st : ∀ (k : Int), 0 ≤ k → e2 dIx2 (eV 1) (e2 dMod (e2 dBand (e2 dShr (eV 2) (e2 dMul (eC (.int 5)) (eV 0))) (eC (.int 31))) (eC (.int 26))) [.im (.int k), .im (.str alpha), .im (.int n)]
      = some (.str (ltr (Builtin.bitAnd (n / 2 ^ (5 * k).toNat) 31)), [.im (.int k), .im (.str alpha), .im (.int n)]) := fun k hk => by
    have h1 : okMul 5 k = true := okMul_l (by decide)
    have h2 : 0 ≤ 5 * k := by omega
    simp [h1, h2, ltr_ix]
  have go : ∀ (m : Nat), m ≤ 3 → ∃ ss : List Str, cGo tYes (e2 dIx2 (eV 1) (e2 dMod (e2 dBand (e2 dShr (eV 2) (e2 dMul (eC (.int 5)) (eV 0))) (eC (.int 31))) (eC (.int 26)))) [.im (.str alpha), .im (.int n)] (rngD 0 m) = some (ss.map .str) ∧ ss.length = m ∧ ∀ s ∈ ss, s.length = 1 := fun m hm => by
    have : ∀ (m : Nat) (lo : Int), 0 ≤ lo → ∃ ss : List Str, cGo tYes (e2 dIx2 (eV 1) (e2 dMod (e2 dBand (e2 dShr (eV 2) (e2 dMul (eC (.int 5)) (eV 0))) (eC (.int 31))) (eC (.int 26)))) [.im (.str alpha), .im (.int n)] (rngD lo m) = some (ss.map .str) ∧ ss.length = m ∧ ∀ s ∈ ss, s.length = 1 := by
      intro m
      induction m with
      | zero => intro lo _; exact ⟨[], rfl, rfl, fun s h => by cases h⟩
      | succ m ih =>
        intro lo hlo
        obtain ⟨ss, e, l, h⟩ := ih (lo + 1) (by omega)
        refine ⟨ltr (Builtin.bitAnd (n / 2 ^ (5 * lo).toNat) 31) :: ss, ?_, by rw [List.length_cons, l], fun s hs => ?_⟩
        · show cGo _ _ _ (.int lo :: rngD (lo + 1) m) = _
          rw [cGo_c]
          show cGa _ _ _ _ (some (true, _)) = _
          rw [cGa_t, st lo hlo, cGb_s, e, cnsO_s]; rfl
        · rcases List.mem_cons.mp hs with rfl | q
          · rfl
          · exact h s q
    exact this m 0 (by decide)
  obtain ⟨ss, ess, ls, hs⟩ := go (Builtin.bitAnd (n / 1048576) 3).toNat (by omega)
  obtain ⟨z, ez, lz⟩ := stem_eq ss (by omega) hs
  have sl : ∀ i : Option Int, 1 + (Txt.slice z none i).length ≤ sizeLine := fun i => small_line (by have := Txt.slice_le z none i; omega)
  have zl : z.length ≤ sizeLine := small_line (by omega)
  have r1 : Builtin.bitAnd (n / 1048576) 3 < 4611686018427387904 := by omega
  have r2 : -4611686018427387904 ≤ Builtin.bitAnd (n / 1048576) 3 := by omega
  have r3 : (rngD 0 (Builtin.bitAnd (n / 1048576) 3).toNat).length ≤ sizeLine := by
    have : ∀ (m : Nat) (lo : Int), (rngD lo m).length = m := by
      intro m; induction m with
      | zero => intro _; rfl
      | succ m ih => intro lo; show (rngD (lo + 1) m).length + 1 = _; rw [ih]
    rw [this]; exact small_line (by omega)
  obtain ⟨K, hK⟩ : ∃ K : Int → Str, ∀ k : Int, K k = ltr (n / 4194304 + 7 * k) ++ Txt.slice z none (some (k.fmod 4)) := ⟨_, fun _ => rfl⟩
  have el : ∀ k : Int, e2 dAdd (e2 dIx2 (eV 1) (e2 dMod (e2 dAdd (e2 dShr (eV 3) (eC (.int 22))) (e2 dMul (eC (.int 7)) (eV 0))) (eC (.int 26)))) (eSl2 (eV 2) oN (oS (e2 dMod (eV 0) (eC (.int 4))))) [.im (.int k), .im (.str alpha), .im (.str z), .im (.int n)]
      = some (.str (K k), [.im (.int k), .im (.str alpha), .im (.str z), .im (.int n)]) := fun k => by
    have h1 : okMul 7 k = true := okMul_l (by decide)
    have h3 : (ltr (n / 4194304 + 7 * k)).length + (Txt.slice z none (some (k.fmod 4))).length ≤ sizeLine := sl _
    rw [hK]
    simp [h1, ltr_ix, zl, h3]
  have lp : cGo tYes (e2 dAdd (e2 dIx2 (eV 1) (e2 dMod (e2 dAdd (e2 dShr (eV 3) (eC (.int 22))) (e2 dMul (eC (.int 7)) (eV 0))) (eC (.int 26)))) (eSl2 (eV 2) oN (oS (e2 dMod (eV 0) (eC (.int 4)))))) [.im (.str alpha), .im (.str z), .im (.int n)] (rngD 0 5)
      = some [.str (K 0), .str (K 1), .str (K 2), .str (K 3), .str (K 4)] := by
    have t : ∀ ρ : En, tYes ρ = some (true, ρ) := fun _ => rfl
    show cGo _ _ _ [.int 0, .int 1, .int 2, .int 3, .int 4] = _
    rw [cGo_c, t, cGa_t, el 0, cGb_s, cGo_c, t, cGa_t, el 1, cGb_s, cGo_c, t, cGa_t, el 2, cGb_s, cGo_c, t, cGa_t, el 3, cGb_s, cGo_c, t, cGa_t, el 4, cGb_s, cGo_n]
    rfl
  have l5 : (rngD 0 5).length ≤ sizeLine := small_line (by decide)
  have ne : ∀ i j : Int, ¬ (n / 4194304 + 7 * i) % 26 = (n / 4194304 + 7 * j) % 26 → ¬ K i = K j := fun i j h => by
    rw [hK, hK]
    exact ltr_ne (by rw [fmod26, fmod26]; exact h)
  refine ⟨K 0, K 1, K 2, K 3, K 4, ?_, ?_⟩
  · simp [m_law_keys, b_law_keys, en, List.replicate, ess, r1, r2, r3, ez, lp, l5]
  · have := ne 0 1 (by omega); have := ne 0 2 (by omega); have := ne 0 3 (by omega); have := ne 0 4 (by omega)
    have := ne 1 2 (by omega); have := ne 1 3 (by omega); have := ne 1 4 (by omega)
    have := ne 2 3 (by omega); have := ne 2 4 (by omega); have := ne 3 4 (by omega)
    simp_all
end Fx
namespace Fx
open PySem
theorem at_map {α : Type} (f : α → D) (xs : List α) {i : Int} (h0 : 0 ≤ i) (h1 : i < xs.length) : ∃ x, x ∈ xs ∧ atD (xs.map f) i = some (f x) := by
  have hi : i.toNat < xs.length := by omega
  refine ⟨xs[i.toNat], List.getElem_mem hi, ?_⟩
  unfold atD dPl
  rw [List.length_map, if_pos h0, if_pos h1]
  show (xs.map f)[i.toNat]? = _
  rw [List.getElem?_map, List.getElem?_eq_getElem hi]; rfl
theorem ix2_any (a b : Int) {i : Int} (h0 : 0 ≤ i) (h1 : i ≤ 1) : atD [.int a, .int b] i = some (.int (if i = 0 then a else b)) := by
  have : i = 0 ∨ i = 1 := by omega
  rcases this with rfl | rfl <;> rfl
theorem ix5 (k0 k1 k2 k3 k4 : Str) {i : Int} (h0 : 0 ≤ i) (h1 : i < 5) : ∃ x : Str, atD [.str k0, .str k1, .str k2, .str k3, .str k4] i = some (.str x) := by
  obtain ⟨x, _, e⟩ := at_map D.str [k0, k1, k2, k3, k4] h0 (by simpa using h1)
  exact ⟨x, e⟩
theorem third (n : Int) : 0 ≤ Int.fdiv (Builtin.bitAnd (n / 1048576) 3) 3 ∧ Int.fdiv (Builtin.bitAnd (n / 1048576) 3) 3 ≤ 1 := by
  have b := bitAnd_bounds (n / 1048576) 3 (by decide)
  rw [Int.fdiv_eq_ediv_of_nonneg _ (by decide)]
  omega
theorem d3 : okDiv 3 = true := okDiv_s (by decide) (by decide)
def P3 (c : Int) (k0 k1 k2 k3 k4 : Str) (m : Int) (n : Nat) (ρ : En) : Prop := ∃ (L : List Th) (s4 s5 s6 : Sl), L.length ≤ n ∧ ρ = [.im (.int c), .im (.lst [.str k0, .str k1, .str k2, .str k3, .str k4]), .im (.int m), .ow false (.lst (L.map tD)), s4, s5, s6]
theorem things_step (c : Int) (k0 k1 k2 k3 k4 : Str) (m : Int) (j : Nat) (hj : j < 100) (i : Int) (hi : 0 ≤ i) (L : List Th) (hL : L.length ≤ j) (s5 s6 : Sl) : ∃ ρ', l_law_things_1 [.im (.int c), .im (.lst [.str k0, .str k1, .str k2, .str k3, .str k4]), .im (.int m), .ow false (.lst (L.map tD)), .im (.int i), s5, s6] = some (.nx ρ') ∧ P3 c k0 k1 k2 k3 k4 m (j + 1) ρ' := by
  have a1 : okMul 3 i = true := okMul_l (by decide)
  obtain ⟨n, en, n0, n1⟩ := mixed_eq c (3 * i) (by omega)
  obtain ⟨x, ex, _, _⟩ := number_eq c (3 * i + 1) (by omega)
  obtain ⟨v, ev, _, _⟩ := number_eq c (3 * i + 2) (by omega)
  have ei := ix2_any ((n / 4).fmod 30) (x.natAbs : Int) (third n).1 (third n).2
  generalize (if (Builtin.bitAnd (n / 1048576) 3).fdiv 3 = 0 then (n / 4).fmod 30 else (x.natAbs : Int)) = t at ei
  have f0 := Int.fmod_nonneg_of_pos (Builtin.bitAnd n 3) (b := 3) (by decide)
  have f1 := Int.fmod_lt_of_pos (Builtin.bitAnd n 3) (b := 3) (by decide)
  obtain ⟨k, ek⟩ := ix5 k0 k1 k2 k3 k4 f0 (by omega)
  have hl : L.length < 1000000 := by omega
  refine ⟨_, by simp [l_law_things_1, a1, en, ex, ev, ei, ek, d3, hl]; rfl, L ++ [⟨t, k, v⟩], .im (.int i), .im (.int n), .im (.int t), by rw [List.length_append, List.length_singleton]; omega, ?_⟩
  rw [List.map_append]; rfl
theorem fGo_cnt {g : D → En → Option En} {B : FS} (P : Nat → En → Prop) : ∀ (n : Nat) (lo : Int) (j : Nat) (ρ : En), (∀ (i : Nat) ρ, i < n → P (j + i) ρ → ∃ ρ1 ρ2, g (.int (lo + i)) ρ = some ρ1 ∧ B ρ1 = some (.nx ρ2) ∧ P (j + i + 1) ρ2) → P j ρ → ∃ ρ', fGo g B (rngD lo n) ρ = some (.nx ρ') ∧ P (j + n) ρ'
  | 0, lo, j, ρ, _, p => ⟨ρ, rfl, p⟩
  | n + 1, lo, j, ρ, h, p => by
    obtain ⟨ρ1, ρ2, h1, h2, p2⟩ := h 0 ρ (by omega) p
    have h1' : g (.int lo) ρ = some ρ1 := by simpa using h1
    obtain ⟨ρ', e, p'⟩ := fGo_cnt P n (lo + 1) (j + 1) ρ2 (fun i ρ hi q => by
      obtain ⟨a, b, c, d, e⟩ := h (i + 1) ρ (by omega) (by rw [show j + (i + 1) = j + 1 + i by omega]; exact q)
      refine ⟨a, b, ?_, d, by rw [show j + 1 + i + 1 = j + (i + 1) + 1 by omega]; exact e⟩
      rw [show lo + 1 + (i : Int) = lo + ((i + 1 : Nat) : Int) by push_cast; omega]; exact c) p2
    refine ⟨ρ', ?_, by rw [show j + (n + 1) = j + 1 + n by omega]; exact p'⟩
    rw [show rngD lo (n + 1) = .int lo :: rngD (lo + 1) n from rfl, fGo_c, h1', fGa_s, h2, fGb_n]
    exact e
theorem things_eq (c : Int) (k0 k1 k2 k3 k4 : Str) (m : Int) (h0 : 0 ≤ m) (h1 : m < 17) : ∃ L : List Th, m_law_things [.int c, .lst [.str k0, .str k1, .str k2, .str k3, .str k4], .int m] = some (.lst (L.map tD)) ∧ L.length < 64 := by
  obtain ⟨ρ', e, L, s4, s5, s6, hl, rfl⟩ := fGo_cnt (g := gN 4) (B := l_law_things_1) (P3 c k0 k1 k2 k3 k4 m) m.toNat 0 0 [.im (.int c), .im (.lst [.str k0, .str k1, .str k2, .str k3, .str k4]), .im (.int m), .ow false (.lst []), .no, .no, .no]
    (fun i ρ hi p => by
      obtain ⟨L, a4, a5, a6, hl, rfl⟩ := p
      obtain ⟨ρ', e, p'⟩ := things_step c k0 k1 k2 k3 k4 m (0 + i) (by omega) (0 + i) (by omega) L hl a5 a6
      exact ⟨_, ρ', rfl, e, p'⟩) ⟨[], _, _, _, Nat.le_refl _, rfl⟩
  refine ⟨L, ?_, by omega⟩
  have r1 : -4611686018427387904 ≤ m := by omega
  have r2 : m < 4611686018427387904 := by omega
  simp [m_law_things, b_law_things, List.replicate, r1, r2, e]
end Fx
namespace Fx
open PySem
def unT : D → Th
  | .tup [.int t, .str k, .int v] => ⟨t, k, v⟩
  | _ => ⟨0, Str.empty, 0⟩
theorem unT_tD (x : Th) : unT (tD x) = x := rfl
theorem map_un (L : List Th) : (L.map tD).map unT = L := by
  rw [List.map_map]
  exact (List.map_congr_left fun x _ => unT_tD x).trans (List.map_id L)
theorem fK_tD (x : Th) : fK (tD x) = [[x.t], x.k.cps.toList.map Int.ofNat, [x.v]] := rfl
theorem le_of_ltK {u w : Th} (h : ltK (tD w) (tD u) = false) : u.t ≤ w.t := by
  refine Int.not_lt.mp fun c => ?_
  unfold ltK at h
  rw [decide_eq_false_iff_not, fK_tD, fK_tD] at h
  refine h (List.cons_lt_cons_iff.mpr (.inl (List.cons_lt_cons_iff.mpr (.inl c))))
theorem ofNat_inj : ∀ {a b : List Nat}, a.map Int.ofNat = b.map Int.ofNat → a = b
  | [], [], _ => rfl
  | [], _ :: _, h => by cases h
  | _ :: _, [], h => by cases h
  | x :: a, y :: b, h => by
    rw [List.map_cons, List.map_cons] at h
    injection h with h1 h2
    rw [Int.ofNat.inj h1, ofNat_inj h2]
theorem str_of {x y : Str} (h : x.cps.toList.map Int.ofNat = y.cps.toList.map Int.ofNat) : x = y := by
  have := ofNat_inj h
  obtain ⟨⟨x⟩⟩ := x
  obtain ⟨⟨y⟩⟩ := y
  simp at this
  rw [this]
theorem fK_inj {u w : Th} (h : fK (tD u) = fK (tD w)) : tD u = tD w := by
  rw [fK_tD, fK_tD] at h
  injection h with h1 h
  injection h with h2 h
  injection h with h3 _
  injection h1 with h1 _
  injection h3 with h3 _
  show D.tup [.int u.t, .str u.k, .int u.v] = D.tup [.int w.t, .str w.k, .int w.v]
  rw [h1, str_of h2, h3]
theorem sort_th (L : List Th) : ∃ S : List Th, sortT (L.map tD) = S.map tD ∧ S.Perm L ∧ leT S := by
  have pm := sortT_perm (L.map tD)
  have e : sortT (L.map tD) = ((sortT (L.map tD)).map unT).map tD := by
    rw [List.map_map]
    refine ((List.map_congr_left (g := id) fun d hd => ?_).trans (List.map_id _)).symm
    obtain ⟨x, _, rfl⟩ := List.mem_map.mp (pm.mem_iff.mp hd)
    rfl
  refine ⟨(sortT (L.map tD)).map unT, e, ?_, ?_⟩
  · have := pm.map unT
    rw [map_un] at this
    exact this
  · have pw := sortT_pw (L.map tD)
    rw [e, List.pairwise_map] at pw
    exact pw.imp fun h => le_of_ltK h
theorem sort_uniq {L : List Th} {t : List D} (hp : t.Perm (L.map tD)) (hs : t.Pairwise fun a b => ltK b a = false) : t = sortT (L.map tD) := by
  refine sortT_uniq (fun a b ha hb e => ?_) hp hs
  obtain ⟨x, _, rfl⟩ := List.mem_map.mp ha
  obtain ⟨y, _, rfl⟩ := List.mem_map.mp hb
  exact fK_inj e
theorem sort_rev (L : List Th) : sortT (L.reverse.map tD) = sortT (L.map tD) :=
  sort_uniq ((sortT_perm _).trans ((List.reverse_perm L).map tD)) (sortT_pw _)
theorem sort_filter {L S : List Th} (p : Th → Bool) (e : sortT (L.map tD) = S.map tD) (pm : S.Perm L) : sortT ((L.filter p).map tD) = (S.filter p).map tD := by
  refine (sort_uniq ((pm.filter p).map tD) ?_).symm
  have pw := sortT_pw (L.map tD)
  rw [e, List.pairwise_map] at pw
  rw [List.pairwise_map]
  exact pw.filter _
theorem ints_map : ∀ vs : List Int, intsOf (vs.map D.int) = some vs
  | [] => rfl
  | v :: r => by rw [List.map_cons, intsOf_cons, ints_map r]; rfl
abbrev wC : Str := Str.ofString "count"
abbrev wS : Str := Str.ofString "sum"
abbrev wM : Str := Str.ofString "most"
abbrev wL : Str := Str.ofString "least"
theorem n1 : (wC = wS) = False := eq_false (by decide +kernel)
theorem n2 : (wC = wM) = False := eq_false (by decide +kernel)
theorem n3 : (wS = wC) = False := eq_false (by decide +kernel)
theorem n4 : (wM = wC) = False := eq_false (by decide +kernel)
theorem n5 : (wM = wS) = False := eq_false (by decide +kernel)
theorem n6 : (wM = wL) = False := eq_false (by decide +kernel)
theorem n7 : (wL = wC) = False := eq_false (by decide +kernel)
theorem n8 : (wL = wS) = False := eq_false (by decide +kernel)
theorem n9 : (wL = wM) = False := eq_false (by decide +kernel)
abbrev IsW (w : Str) : Prop := w = wC ∨ w = wS ∨ w = wM ∨ w = wL
theorem amount_ex {w : Str} (hw : IsW w) {vs : List Int} (hv : vs ≠ []) : ∃ m : Int, m_amount_of [.str w, .lst (vs.map .int)] = some (.int m) ∧ m_law_amount [.str w, .lst (vs.map .int)] = some (.int m) := by
  obtain ⟨a, r, rfl⟩ := List.exists_cons_of_ne_nil hv
  have es : bSum [.lst ((a :: r).map .int)] = some (.int (a :: r).sum) := by rw [bSum_l, ints_map]; rfl
  have ex : bMax [.lst ((a :: r).map .int)] = some (.int (maxI a r)) := by rw [bMax_l, ints_map]; rfl
  have ei : bMin [.lst ((a :: r).map .int)] = some (.int (minI a r)) := by rw [bMin_l, ints_map]; rfl
  have el : bLen2 [.lst ((a :: r).map .int)] = some (.int (a :: r).length) := by rw [bLen2_l, List.length_map]
  generalize D.lst ((a :: r).map .int) = x at *
  rcases hw with rfl | rfl | rfl | rfl
  · exact ⟨_, by simp [m_amount_of, b_amount_of, el]; rfl, by simp [m_law_amount, b_law_amount, el]⟩
  · exact ⟨_, by simp [m_amount_of, b_amount_of, es, n3]; rfl, by simp [m_law_amount, b_law_amount, es, n3]⟩
  · refine ⟨maxI a r, by simp [m_amount_of, b_amount_of, ex, n4, n5], ?_⟩
    simp [m_law_amount, b_law_amount, ex, ei, n4, n5, n6]; rfl
  · refine ⟨minI a r, by simp [m_amount_of, b_amount_of, ei, n7, n8, n9], ?_⟩
    simp [m_law_amount, b_law_amount, ex, ei, n7, n8, n9]; rfl
structure Cl where
  k : Str
  a : Int
  b : Int
  m : Int
def cD (c : Cl) : D := .tup [.tup [.str c.k, .int c.a], .tup [.int c.b, .int c.m]]
def intD : Option D → Int
  | some (.int m) => m
  | _ => 0
def th0 : Th := ⟨0, Str.empty, 0⟩
def hdT (x : List Th) : Th := x.head?.getD th0
def laT (x : List Th) : Th := x.getLast?.getD th0
def vls (x : List Th) : List D := (x.map (·.v)).map .int
def vsD (x : List Th) : D := .lst (vls x)
def cellOf (w : Str) (x : List Th) : Cl := ⟨(hdT x).k, (hdT x).t, (laT x).t, intD (m_amount_of [.str w, vsD x])⟩
theorem amount_eq {w : Str} (hw : IsW w) {x : List Th} (hx : x ≠ []) : m_amount_of [.str w, vsD x] = some (.int (cellOf w x).m) ∧ m_law_amount [.str w, vsD x] = some (.int (cellOf w x).m) := by
  obtain ⟨m, e1, e2⟩ := amount_ex hw (vs := x.map (·.v)) (by simpa using hx)
  have e : (cellOf w x).m = m := by show intD (m_amount_of [.str w, vsD x]) = m; unfold vsD vls; rw [e1]; rfl
  rw [e]
  exact ⟨e1, e2⟩
theorem hd_some {x : List Th} (hx : x ≠ []) : x.head? = some (hdT x) := by
  cases x with
  | nil => exact absurd rfl hx
  | cons a r => rfl
theorem la_some {x : List Th} (hx : x ≠ []) : x.getLast? = some (laT x) := by
  unfold laT
  cases h : x.getLast? with
  | none => exact absurd (List.getLast?_eq_none_iff.mp h) hx
  | some z => rfl
theorem at_0 {x : List Th} (hx : x ≠ []) : atD (x.map tD) 0 = some (tD (hdT x)) := by
  cases x with
  | nil => exact absurd rfl hx
  | cons a r =>
    unfold atD dPl
    rw [if_pos (by decide), if_pos (by simp)]
    rfl
theorem at_l {x : List Th} (hx : x ≠ []) : atD (x.map tD) (-1) = some (tD (laT x)) := by
  have h := la_some hx
  rw [List.getLast?_eq_getElem?] at h
  have hl : 0 < x.length := List.length_pos_iff.mpr hx
  unfold atD dPl
  rw [List.length_map, if_neg (by decide), if_pos (by omega)]
  show (x.map tD)[(-1 + (x.length : Int)).toNat]? = _
  rw [show (-1 + (x.length : Int)).toNat = x.length - 1 by omega, List.getElem?_map, h]; rfl
theorem cGo_v : ∀ x : List Th, cGo tYes (e2 dIx2 (eV 0) (eC (.int 2))) [] (x.map tD) = some (vls x)
  | [] => rfl
  | a :: r => by
    rw [List.map_cons, cGo_c]
    have t : tYes [.im (tD a)] = some (true, [.im (tD a)]) := rfl
    have e : e2 dIx2 (eV 0) (eC (.int 2)) [.im (tD a)] = some (.int a.v, [.im (tD a)]) := rfl
    rw [t, cGa_t, e, cGb_s, cGo_v r, cnsO_s]; rfl
theorem ix3_0 (a b c : D) : atD [a, b, c] 0 = some a := rfl
theorem ix3_1 (a b c : D) : atD [a, b, c] 1 = some b := rfl
theorem ix4_0 (a b c d : D) : atD [a, b, c, d] 0 = some a := rfl
theorem ix4_3 (a b c d : D) : atD [a, b, c, d] 3 = some d := rfl
theorem ix2_0 (a b : D) : atD [a, b] 0 = some a := rfl
theorem ix2_1 (a b : D) : atD [a, b] 1 = some b := rfl
theorem ix2_l (a b : D) : atD [a, b] (-1) = some b := rfl
abbrev rowD (gap : Int) (w : Str) : D := .tup [.str (Str.ofString "gaps"), .str (Str.ofString "all"), .tup [.str (Str.ofString "there")], .tup [.int gap, .str w]]
theorem cell_step {gap : Int} {w : Str} (hw : IsW w) (th : D) {x : List Th} (hx : x ≠ []) (hl : x.length < 64) (acc : List D) (ha : acc.length < 1000) (s4 : Sl) : ∃ s4', l_session_cells_1 [.im (rowD gap w), .im th, .ow false (.lst acc), .im (.lst (x.map tD)), s4]
    = some (.nx [.im (rowD gap w), .im th, .ow false (.lst (acc ++ [cD (cellOf w x)])), .im (.lst (x.map tD)), s4']) := by
  have sl : x.length ≤ sizeLine := small_line (by omega)
  have e1 := (amount_eq hw hx).1
  have e0 : atD (x.map tD) 0 = some (D.tup [.int (hdT x).t, .str (hdT x).k, .int (hdT x).v]) := at_0 hx
  have el : atD (x.map tD) (-1) = some (D.tup [.int (laT x).t, .str (laT x).k, .int (laT x).v]) := at_l hx
  have ev := cGo_v x
  have a1 : acc.length < 1000000 := by omega
  refine ⟨.im (.int (cellOf w x).m), ?_⟩
  have ec : cD (cellOf w x) = .tup [.tup [.str (hdT x).k, .int (hdT x).t], .tup [.int (laT x).t, .int (cellOf w x).m]] := rfl
  rw [ec]
  generalize (cellOf w x).m = m at *
  unfold vsD at e1
  simp [l_session_cells_1, ix4_3, ix2_l, ix3_0, ix3_1, e0, el, ev, e1, sl, a1]
theorem cells_loop {gap : Int} {w : Str} (hw : IsW w) (th : D) : ∀ (st : List (List Th)), (∀ x ∈ st, x ≠ [] ∧ x.length < 64) → ∀ (acc : List D), acc.length + st.length < 1000 → ∀ s3 s4 : Sl, ∃ s3' s4', fGo (gN 3) l_session_cells_1 ((mm st).map .lst) [.im (rowD gap w), .im th, .ow false (.lst acc), s3, s4]
    = some (.nx [.im (rowD gap w), .im th, .ow false (.lst (acc ++ st.map fun x => cD (cellOf w x))), s3', s4'])
  | [], _, acc, _, s3, s4 => ⟨s3, s4, by show some _ = _; rw [List.map_nil, List.append_nil]⟩
  | x :: st, h, acc, ha, s3, s4 => by
    rw [List.length_cons] at ha
    obtain ⟨h1, h2⟩ := h x List.mem_cons_self
    obtain ⟨a4, e⟩ := cell_step (gap := gap) hw th h1 h2 acc (by omega) s4
    obtain ⟨b3, b4, e2⟩ := cells_loop (gap := gap) hw th st (fun y hy => h y (List.mem_cons_of_mem _ hy)) (acc ++ [cD (cellOf w x)]) (by rw [List.length_append, List.length_singleton]; omega) (.im (.lst (x.map tD))) a4
    refine ⟨b3, b4, ?_⟩
    have g : gN 3 (.lst (x.map tD)) [.im (rowD gap w), .im th, .ow false (.lst acc), s3, s4] = some [.im (rowD gap w), .im th, .ow false (.lst acc), .im (.lst (x.map tD)), s4] := rfl
    show fGo _ _ (.lst (x.map tD) :: (mm st).map .lst) _ = _
    rw [fGo_c, g, fGa_s, e, fGb_n, e2, List.append_assoc]; rfl
theorem Iv.len {gap : Int} {L : List Th} {st : List (List Th)} (h : Iv gap L st) {x : List Th} (hx : x ∈ st) : x.length ≤ L.length := by
  rw [h.sub x hx]
  exact List.length_filter_le _ _
end Fx
namespace Fx
open PySem
theorem all_r3 (L : List Th) : (L.map tD).all r3 = true := by
  rw [List.all_eq_true]
  intro d hd
  obtain ⟨x, _, rfl⟩ := List.mem_map.mp hd
  rfl
theorem sess_eq {gap : Int} {L S : List Th} {st : List (List Th)} (hl : L.length < 64) (hS : sortT (L.map tD) = S.map tD) (hst : sesGo gap (S.map tD) [] = some (mm st)) : m_sessions_of [.int gap, .lst (L.map tD)] = some (.lst ((mm st).map .lst)) := by
  show (if (L.map tD).length < 64 ∧ (L.map tD).all r3 = true then bnd (sesGo gap (sortT (L.map tD)) []) fun st => some (D.lst (st.map .lst)) else none) = _
  rw [if_pos ⟨by rw [List.length_map]; exact hl, all_r3 L⟩, hS, hst]; rfl
def unC : D → Cl
  | .tup [.tup [.str k, .int a], .tup [.int b, .int m]] => ⟨k, a, b, m⟩
  | _ => ⟨Str.empty, 0, 0, 0⟩
theorem unC_cD (x : Cl) : unC (cD x) = x := rfl
theorem map_unC (L : List Cl) : (L.map cD).map unC = L := by
  rw [List.map_map]
  exact (List.map_congr_left fun x _ => unC_cD x).trans (List.map_id L)
theorem fK_cD (c : Cl) : fK (cD c) = [c.k.cps.toList.map Int.ofNat, [c.a], [c.b], [c.m]] := rfl
theorem fKc_inj {u w : Cl} (h : fK (cD u) = fK (cD w)) : cD u = cD w := by
  rw [fK_cD, fK_cD] at h
  injection h with h1 h
  injection h with h2 h
  injection h with h3 h
  injection h with h4 _
  injection h2 with h2 _
  injection h3 with h3 _
  injection h4 with h4 _
  show D.tup [.tup [.str u.k, .int u.a], .tup [.int u.b, .int u.m]] = D.tup [.tup [.str w.k, .int w.a], .tup [.int w.b, .int w.m]]
  rw [str_of h1, h2, h3, h4]
theorem lec_of_ltK {u w : Cl} (h : ltK (cD w) (cD u) = false) (e : u.k = w.k) : u.a ≤ w.a := by
  refine Int.not_lt.mp fun c => ?_
  unfold ltK at h
  rw [decide_eq_false_iff_not, fK_cD, fK_cD, e] at h
  exact h (List.cons_lt_cons_iff.mpr (.inr ⟨rfl, List.cons_lt_cons_iff.mpr (.inl (List.cons_lt_cons_iff.mpr (.inl c)))⟩))
theorem sort_cl (L : List Cl) : ∃ S : List Cl, sortT (L.map cD) = S.map cD ∧ S.Perm L ∧ S.Pairwise (fun u w => ltK (cD w) (cD u) = false) ∧ sortT (S.map cD) = S.map cD := by
  have pm := sortT_perm (L.map cD)
  have e : sortT (L.map cD) = ((sortT (L.map cD)).map unC).map cD := by
    rw [List.map_map]
    refine ((List.map_congr_left (g := id) fun d hd => ?_).trans (List.map_id _)).symm
    obtain ⟨x, _, rfl⟩ := List.mem_map.mp (pm.mem_iff.mp hd)
    rfl
  have pw := sortT_pw (L.map cD)
  have sr : sortT (sortT (L.map cD)) = sortT (L.map cD) := (sortT_uniq (fun a b ha hb q => by
    obtain ⟨x, _, rfl⟩ := List.mem_map.mp (pm.mem_iff.mp ha)
    obtain ⟨y, _, rfl⟩ := List.mem_map.mp (pm.mem_iff.mp hb)
    exact fKc_inj q) (List.Perm.refl _) pw).symm
  refine ⟨(sortT (L.map cD)).map unC, e, ?_, ?_, by rw [← e]; exact sr⟩
  · have := pm.map unC
    rw [map_unC] at this
    exact this
  · rw [e, List.pairwise_map] at pw
    exact pw
theorem all_r22 (L : List Cl) : (L.map cD).all r22 = true := by
  rw [List.all_eq_true]
  intro d hd
  obtain ⟨x, _, rfl⟩ := List.mem_map.mp hd
  rfl
theorem bSort_cl (L : List Cl) (hl : L.length < 64) : bSortT [.lst (L.map cD)] = some (.lst (sortT (L.map cD))) := by
  rw [bSortT_l, if_pos ⟨by rw [List.length_map]; exact hl, .inr (all_r22 L)⟩]
theorem bSort_th (L : List Th) (hl : L.length < 64) : bSortT [.lst (L.map tD)] = some (.lst (sortT (L.map tD))) := by
  rw [bSortT_l, if_pos ⟨by rw [List.length_map]; exact hl, .inl (all_r3 L)⟩]
def cells (w : Str) (st : List (List Th)) : List Cl := st.map (cellOf w)
theorem fold_of {gap : Int} {w : Str} (hw : IsW w) {L S : List Th} {st : List (List Th)} (hl : L.length < 64) (hS : sortT (L.map tD) = S.map tD) (hst : sesGo gap (S.map tD) [] = some (mm st)) (ne : ∀ x ∈ st, x ≠ [] ∧ x.length < 64) (hc : st.length < 64) :
    m_fold_cells [rowD gap w, .lst (L.map tD)] = some (.lst (sortT ((cells w st).map cD))) := by
  have e1 := sess_eq (gap := gap) hl hS hst
  obtain ⟨s3, s4, e2⟩ := cells_loop (gap := gap) hw (.lst (L.map tD)) st ne [] (by simp; omega) .no .no
  have e3 : m_session_cells [rowD gap w, .lst (L.map tD)] = some (.lst ((cells w st).map cD)) := by
    have q : st.map (fun x => cD (cellOf w x)) = (cells w st).map cD := by unfold cells; rw [List.map_map]; rfl
    rw [List.nil_append, q] at e2
    generalize (mm st).map D.lst = xs at e1 e2
    simp [m_session_cells, b_session_cells, List.replicate, ix4_3, ix2_0, e1, e2]
  have e4 := bSort_cl (cells w st) (by unfold cells; rw [List.length_map]; exact hc)
  simp [m_fold_cells, b_fold_cells, ix4_0, e3, e4]
end Fx
namespace Fx
open PySem
theorem dp_th : ∀ x : List Th, dpDs (x.map tD) ≤ 1
  | [] => by decide
  | a :: r => by
    have := dp_th r
    rw [List.map_cons, dpDs_cons]
    have : dpD (tD a) = 1 := rfl
    omega
theorem dp_cl : ∀ x : List Cl, dpDs (x.map cD) ≤ 2
  | [] => by decide
  | a :: r => by
    have := dp_cl r
    rw [List.map_cons, dpDs_cons]
    have : dpD (cD a) = 2 := rfl
    omega
theorem eq_self_th : ∀ x : List Th, eqDs (x.map tD) (x.map tD) = true
  | [] => by simp
  | a :: r => by rw [List.map_cons, eqDs_cc, eq_self_th r]; simp [tD]
theorem eq_self_cl : ∀ x : List Cl, eqDs (x.map cD) (x.map cD) = true
  | [] => by simp
  | a :: r => by rw [List.map_cons, eqDs_cc, eq_self_cl r]; simp [cD]
theorem at_i {α : Type} (f : α → D) {xs : List α} {j : Nat} {u : α} (h : xs[j]? = some u) : atD (xs.map f) (j : Int) = some (f u) := by
  have hj := (List.getElem?_eq_some_iff.mp h).1
  unfold atD dPl
  rw [List.length_map, if_pos (by omega), if_pos (by omega)]
  show (xs.map f)[((j : Nat) : Int).toNat]? = _
  rw [Int.toNat_natCast, List.getElem?_map, h]; rfl
def pIn (k : Str) (a b : Int) (u : Th) : Bool := decide (u.k = k) && (decide (a ≤ u.t) && decide (u.t ≤ b))
theorem pick_eq (k : Str) (a b : Int) : ∀ L : List Th, cGo (tAnd (tB (e2 dEq (e2 dIx2 (eV 0) (eC (.int 1))) (eV 1))) (tB (e3 dLe dLe (eV 2) (e2 dIx2 (eV 0) (eC (.int 0))) (eV 3)))) (eV 0) [.im (.str k), .im (.int a), .im (.int b)] (L.map tD) = some ((L.filter (pIn k a b)).map tD)
  | [] => rfl
  | u :: r => by
    rw [List.map_cons, cGo_c]
    have t : tAnd (tB (e2 dEq (e2 dIx2 (eV 0) (eC (.int 1))) (eV 1))) (tB (e3 dLe dLe (eV 2) (e2 dIx2 (eV 0) (eC (.int 0))) (eV 3))) [.im (tD u), .im (.str k), .im (.int a), .im (.int b)] = some (pIn k a b u, [.im (tD u), .im (.str k), .im (.int a), .im (.int b)]) := by
      by_cases c1 : u.k = k
      · by_cases c2 : a ≤ u.t
        · simp [tD, ix3_1, ix3_0, c1, c2, pIn]
        · simp [tD, ix3_1, ix3_0, c1, c2, pIn]
      · simp [tD, ix3_1, ix3_0, c1, pIn]
    rw [t]
    cases h : pIn k a b u with
    | false => rw [cGa_f, pick_eq k a b r, List.filter_cons_of_neg (by rw [h]; exact Bool.false_ne_true)]
    | true =>
      have e' : eV 0 [.im (tD u), .im (.str k), .im (.int a), .im (.int b)] = some (tD u, [.im (tD u), .im (.str k), .im (.int a), .im (.int b)]) := rfl
      rw [cGa_t, e', cGb_s, pick_eq k a b r, cnsO_s, List.filter_cons_of_pos h, List.map_cons]
theorem right_eq {gap : Int} (g1 : 1 ≤ gap) {w : Str} (hw : IsW w) {L S : List Th} {st : List (List Th)} (hl : L.length < 64) (hS : sortT (L.map tD) = S.map tD) (pm : S.Perm L) (sr : leT S) (iv : Iv gap S st) {x : List Th} (hx : x ∈ st) :
    m_law_session_right [.tup [.str (cellOf w x).k, .int (cellOf w x).a], .tup [.int (cellOf w x).b, .int (cellOf w x).m], .str w, .int gap, .lst (L.map tD)] = some (.bl true) := by
  have ne := iv.ne x hx
  have sl : L.length ≤ sizeLine := small_line (by omega)
  have e1 := (amount_eq hw ne).2
  have e0 : atD (x.map tD) 0 = some (D.tup [.int (hdT x).t, .str (hdT x).k, .int (hdT x).v]) := at_0 ne
  have el : atD (x.map tD) (-1) = some (D.tup [.int (laT x).t, .str (laT x).k, .int (laT x).v]) := at_l ne
  have ev := cGo_v x
  have pk := pick_eq (hdT x).k (hdT x).t (laT x).t L
  have xe : S.filter (pIn (hdT x).k (hdT x).t (laT x).t) = x := iv.eqf g1 sr hx (hd_some ne) (la_some ne)
  have es : bSortT [.lst ((L.filter (pIn (hdT x).k (hdT x).t (laT x).t)).map tD)] = some (.lst (x.map tD)) := by
    rw [bSort_th _ (Nat.lt_of_le_of_lt (List.length_filter_le _ _) hl), sort_filter _ hS pm, xe]
  have xl : x.length < 64 := by
    have := iv.len hx
    have := pm.length_eq
    omega
  have sx : x.length ≤ sizeLine := small_line (by omega)
  have dp := dp_th x
  have emp : eqDs (x.map tD) [] = false := by
    cases x with
    | nil => exact absurd rfl ne
    | cons a r => simp
  show m_law_session_right [.tup [.str (hdT x).k, .int (hdT x).t], .tup [.int (laT x).t, .int (cellOf w x).m], .str w, .int gap, .lst (L.map tD)] = some (.bl true)
  generalize (cellOf w x).m = m at *
  obtain ⟨ρ', ef, s6, rfl⟩ := fGo_rng (g := gN 6) (B := l_law_session_right_1) (fun ρ => ∃ s6, ρ = [.im (.tup [.str (hdT x).k, .int (hdT x).t]), .im (.tup [.int (laT x).t, .int m]), .im (.str w), .im (.int gap), .im (.lst (L.map tD)), .im (.lst (x.map tD)), s6, .im (.str (hdT x).k), .im (.int (hdT x).t), .im (.int (laT x).t), .im (.int m)]) (x.length - 1) 1
    [.im (.tup [.str (hdT x).k, .int (hdT x).t]), .im (.tup [.int (laT x).t, .int m]), .im (.str w), .im (.int gap), .im (.lst (L.map tD)), .im (.lst (x.map tD)), .no, .im (.str (hdT x).k), .im (.int (hdT x).t), .im (.int (laT x).t), .im (.int m)] (fun i ρ hi p => by
      obtain ⟨s6, rfl⟩ := p
      refine ⟨_, [.im (.tup [.str (hdT x).k, .int (hdT x).t]), .im (.tup [.int (laT x).t, .int m]), .im (.str w), .im (.int gap), .im (.lst (L.map tD)), .im (.lst (x.map tD)), .im (.int (1 + i)), .im (.str (hdT x).k), .im (.int (hdT x).t), .im (.int (laT x).t), .im (.int m)], rfl, ?_, _, rfl⟩
      have i1 : x[i]? = some x[i] := List.getElem?_eq_getElem (by omega)
      have i2 : x[i + 1]? = some x[i + 1] := List.getElem?_eq_getElem (by omega)
      have a1 : atD (x.map tD) (i : Int) = some (D.tup [.int (x[i]).t, .str (x[i]).k, .int (x[i]).v]) := at_i tD i1
      have a2 : atD (x.map tD) (1 + (i : Int)) = some (D.tup [.int (x[i + 1]).t, .str (x[i + 1]).k, .int (x[i + 1]).v]) := by rw [show (1 + (i : Int)) = ((i + 1 : Nat) : Int) by push_cast; omega]; exact at_i tD i2
      have a3 : (1 + (i : Int)) - 1 = (i : Int) := by omega
      have ch := iv.chain x hx i _ _ i1 i2
      have c : ¬ gap ≤ (x[i + 1]).t - (x[i]).t := by omega
      simp [l_law_session_right_1, a2, a3, a1, ix3_0, c]) ⟨_, rfl⟩
  unfold vsD at e1
  have r1 : (x.length : Int) < 4611686018427387904 := by omega
  have r2 : -4611686018427387904 ≤ (x.length : Int) := by omega
  have dq : dpDs (x.map tD) + 1 ≤ 30 := by omega
  simp [m_law_session_right, b_law_session_right, List.replicate, pk, sl, es, emp, e0, el, ix3_0, ev, e1, sx, r1, r2, ef, dq]
end Fx
namespace Fx
open PySem
theorem apart_eq {gap : Int} {cs : List Cl} (hl : cs.length < 64) (h : ∀ (i : Nat) (c d : Cl), cs[i]? = some c → cs[i + 1]? = some d → c.k = d.k → gap ≤ d.a - c.b) : m_law_apart [.lst (cs.map cD), .int gap] = some (.bl true) := by
  obtain ⟨ρ', ef, s2, rfl⟩ := fGo_rng (g := gN 2) (B := l_law_apart_1) (fun ρ => ∃ s2, ρ = [.im (.lst (cs.map cD)), .im (.int gap), s2]) (cs.length - 1) 1 [.im (.lst (cs.map cD)), .im (.int gap), .no] (fun i ρ hi p => by
      obtain ⟨s2, rfl⟩ := p
      refine ⟨_, [.im (.lst (cs.map cD)), .im (.int gap), .im (.int (1 + i))], rfl, ?_, _, rfl⟩
      have i1 : cs[i]? = some cs[i] := List.getElem?_eq_getElem (by omega)
      have i2 : cs[i + 1]? = some cs[i + 1] := List.getElem?_eq_getElem (by omega)
      have hh := h i _ _ i1 i2
      generalize cs[i] = c at *
      generalize cs[i + 1] = d at *
      have a1 : atD (cs.map cD) (i : Int) = some (D.tup [.tup [.str c.k, .int c.a], .tup [.int c.b, .int c.m]]) := at_i cD i1
      have a2 : atD (cs.map cD) (1 + (i : Int)) = some (D.tup [.tup [.str d.k, .int d.a], .tup [.int d.b, .int d.m]]) := by rw [show (1 + (i : Int)) = ((i + 1 : Nat) : Int) by push_cast; omega]; exact at_i cD i2
      have a3 : (1 + (i : Int)) - 1 = (i : Int) := by omega
      by_cases k : c.k = d.k
      · have q := hh k
        have c' : ¬ d.a - c.b < gap := by omega
        simp [l_law_apart_1, a2, a3, a1, ix2_0, ix2_1, k, c']
      · simp [l_law_apart_1, a2, a3, a1, ix2_0, ix2_1, k]) ⟨_, rfl⟩
  have r1 : (cs.length : Int) < 4611686018427387904 := by omega
  have r2 : -4611686018427387904 ≤ (cs.length : Int) := by omega
  simp [m_law_apart, b_law_apart, List.replicate, r1, r2, ef]
theorem shape_eq (c : Cl) : m_law_shape [cD c] = some (.bl true) := by
  simp [m_law_shape, b_law_shape, cD, ix2_0, ix2_1]
theorem shapes_eq : ∀ cs : List Cl, cGo tYes (eF m_law_shape (aC (eV 0) aN)) [] (cs.map cD) = some (cs.map fun _ => .bl true)
  | [] => rfl
  | c :: r => by
    rw [List.map_cons, cGo_c]
    have t : tYes [.im (cD c)] = some (true, [.im (cD c)]) := rfl
    have e : eF m_law_shape (aC (eV 0) aN) [.im (cD c)] = some (.bl true, [.im (cD c)]) := by simp [shape_eq]
    rw [t, cGa_t, e, cGb_s, shapes_eq r, cnsO_s]; rfl
theorem bools_t : ∀ cs : List Cl, bools (cs.map fun _ => .bl true) = some (cs.map fun _ => true)
  | [] => rfl
  | c :: r => by
    rw [List.map_cons, bools_cons, bools_t r]; rfl
theorem all_t (cs : List Cl) : bAll [.lst (cs.map fun _ => .bl true)] = some (.bl true) := by
  rw [bAll_, bools_t, allA_s]
  congr 2
  rw [List.all_eq_true]
  intro b hb
  obtain ⟨_, _, rfl⟩ := List.mem_map.mp hb
  rfl
def qIn (u : Th) (c : Cl) : Bool := decide (c.k = u.k) && (decide (c.a ≤ u.t) && decide (u.t ≤ c.b))
abbrev tIn : FT := tAnd (tB (e2 dEq (e2 dIx2 (eV 0) (eC (.int 0))) (eV 2))) (tB (e3 dLe dLe (e2 dIx2 (eV 0) (eC (.int 1))) (eV 3) (e2 dIx2 (eV 1) (eC (.int 0)))))
theorem ones_eq (u : Th) : ∀ cs : List Cl, cGo2 tIn (eC (.int 1)) [.im (.str u.k), .im (.int u.t)] (cs.map cD) = some ((cs.filter (qIn u)).map fun _ => .int 1)
  | [] => rfl
  | c :: r => by
    have t : tIn [.im (.tup [.str c.k, .int c.a]), .im (.tup [.int c.b, .int c.m]), .im (.str u.k), .im (.int u.t)] = some (qIn u c, [.im (.tup [.str c.k, .int c.a]), .im (.tup [.int c.b, .int c.m]), .im (.str u.k), .im (.int u.t)]) := by
      by_cases c1 : c.k = u.k
      · by_cases c2 : c.a ≤ u.t
        · simp [ix2_0, ix2_1, c1, c2, qIn]
        · simp [ix2_0, ix2_1, c1, c2, qIn]
      · simp [ix2_0, ix2_1, c1, qIn]
    have tw : two (cD c) = some (.tup [.str c.k, .int c.a], .tup [.int c.b, .int c.m]) := rfl
    rw [List.map_cons, cGo2_cons, tw, bnd_some, t, bnd_some]
    cases h : qIn u c with
    | false => rw [if_neg Bool.false_ne_true, ones_eq u r, List.filter_cons_of_neg (by rw [h]; exact Bool.false_ne_true)]
    | true =>
      rw [if_pos rfl, eC_, bnd_some, ones_eq u r, bnd_some, List.filter_cons_of_pos h]; rfl
theorem one_of {α : Type} {q : α → Bool} : ∀ {l : List α}, l.Pairwise (fun a b => ¬ (q a = true ∧ q b = true)) → (∃ a ∈ l, q a = true) → (l.filter q).length = 1
  | [], _, h => by obtain ⟨a, ha, _⟩ := h; cases ha
  | a :: l, pw, h => by
    obtain ⟨h1, h2⟩ := List.pairwise_cons.mp pw
    cases qa : q a with
    | true =>
      have : l.filter q = [] := List.filter_eq_nil_iff.mpr fun b hb z => h1 b hb ⟨qa, z⟩
      rw [List.filter_cons_of_pos qa, this]; rfl
    | false =>
      rw [List.filter_cons_of_neg (by rw [qa]; exact Bool.false_ne_true)]
      obtain ⟨b, hb, qb⟩ := h
      rcases List.mem_cons.mp hb with rfl | hb
      · rw [qa] at qb; cases qb
      · exact one_of h2 ⟨b, hb, qb⟩
theorem hd_mem {x : List Th} (hx : x ≠ []) : hdT x ∈ x := List.mem_of_mem_head? (hd_some hx)
theorem la_mem {x : List Th} (hx : x ≠ []) : laT x ∈ x := List.mem_of_getLast? (la_some hx)
section
variable {gap : Int} {w : Str} {S : List Th} {st : List (List Th)} {cs : List Cl}
theorem Iv.pw (iv : Iv gap S st) (g1 : 1 ≤ gap) (sr : leT S) : (cells w st).Pairwise fun c d => c.k = d.k → c.b + gap ≤ d.a := by
  unfold cells
  rw [List.pairwise_map, List.pairwise_iff_getElem]
  intro i j hi hj hij e
  have mi := List.getElem_mem hi
  have mj := List.getElem_mem hj
  have ni := iv.ne _ mi
  have nj := iv.ne _ mj
  have pw := List.pairwise_iff_getElem.mp iv.apart i j hi hj hij
  refine pw _ (la_mem ni) _ (hd_mem nj) ?_
  have : (hdT st[i]).k = (hdT st[j]).k := e
  exact (iv.key _ mi _ (la_mem ni) _ (hd_mem ni)).trans this
theorem Iv.le (iv : Iv gap S st) (sr : leT S) : ∀ c ∈ cells w st, c.a ≤ c.b := fun c hc => by
  obtain ⟨x, hx, rfl⟩ := List.mem_map.mp hc
  have ne := iv.ne x hx
  exact first_le (iv.srt sr hx) (hd_some ne) (la_mem ne)
theorem Iv.one (iv : Iv gap S st) (g1 : 1 ≤ gap) (sr : leT S) (pc : cs.Perm (cells w st)) {u : Th} (hu : u ∈ S) : (cs.filter (qIn u)).length = 1 := by
  rw [(pc.filter (qIn u)).length_eq]
  refine one_of ((iv.pw (w := w) g1 sr).imp fun {c d} h z => ?_) ?_
  · obtain ⟨z1, z2⟩ := z
    unfold qIn at z1 z2
    rw [Bool.and_eq_true, Bool.and_eq_true, decide_eq_true_iff, decide_eq_true_iff, decide_eq_true_iff] at z1 z2
    have := h (z1.1.trans z2.1.symm)
    omega
  · obtain ⟨x, hx, ux⟩ := iv.cov u hu
    have ne := iv.ne x hx
    refine ⟨cellOf w x, List.mem_map_of_mem hx, ?_⟩
    unfold qIn
    rw [Bool.and_eq_true, Bool.and_eq_true, decide_eq_true_iff, decide_eq_true_iff, decide_eq_true_iff]
    exact ⟨iv.key x hx _ (hd_mem ne) u ux, first_le (iv.srt sr hx) (hd_some ne) ux, le_last (iv.srt sr hx) (la_some ne) ux⟩
theorem Iv.aps (iv : Iv gap S st) (g1 : 1 ≤ gap) (sr : leT S) (pc : cs.Perm (cells w st)) (so : cs.Pairwise fun u w => ltK (cD w) (cD u) = false) (i : Nat) (c d : Cl) (hc : cs[i]? = some c) (hd : cs[i + 1]? = some d) (e : c.k = d.k) : gap ≤ d.a - c.b := by
  have sy : (cells w st).Pairwise fun c d => c.k = d.k → c.b + gap ≤ d.a ∨ d.b + gap ≤ c.a := (iv.pw g1 sr).imp fun h e => .inl (h e)
  have sy2 : cs.Pairwise fun c d => c.k = d.k → c.b + gap ≤ d.a ∨ d.b + gap ≤ c.a := (List.Perm.pairwise_iff (fun {x y} h e => (h e.symm).symm) pc).mpr sy
  obtain ⟨h1, rfl⟩ := List.getElem?_eq_some_iff.mp hc
  obtain ⟨h2, rfl⟩ := List.getElem?_eq_some_iff.mp hd
  have a1 := List.pairwise_iff_getElem.mp sy2 i (i + 1) h1 h2 (Nat.lt_succ_self _) e
  have a2 := lec_of_ltK (List.pairwise_iff_getElem.mp so i (i + 1) h1 h2 (Nat.lt_succ_self _)) e
  have a3 := iv.le (w := w) sr _ (pc.mem_iff.mp (List.getElem_mem h2))
  omega
end
end Fx
namespace Fx
open PySem
theorem cell_at_eq (ns : List Int) (hl : ns.length ≤ 63) (j : Nat) : ∃ c : Int, m_law_cell_at [.lst (ns.map .int), .int (j : Int)] = some (.int c) := by
  by_cases h : (j : Int) < (ns.length : Int)
  · have hj : ns[j]? = some ns[j] := List.getElem?_eq_getElem (by omega)
    have a := at_i D.int hj
    exact ⟨ns[j], by simp [m_law_cell_at, b_law_cell_at, h, a]⟩
  · exact ⟨0, by simp [m_law_cell_at, b_law_cell_at, h]⟩
abbrev E35 (sc ks : D) (n gap : Int) (w : Str) (Ld Cd : List D) (a b c d e : Sl) : En := [.im sc, .im ks, .im (.int n), .im (.int gap), .im (.str w), .im (rowD gap w), .im (.lst Ld), .im (.lst Ld), .im (.lst Cd), a, b, c, d, e]
theorem loop1 {sc ks : D} {n gap : Int} {w : Str} {L : List Th} {cs : List Cl} (h : ∀ c ∈ cs, m_law_session_right [.tup [.str c.k, .int c.a], .tup [.int c.b, .int c.m], .str w, .int gap, .lst (L.map tD)] = some (.bl true)) (a b c d e : Sl) :
    ∃ a' b', fGo (gT [9, 10]) l_law_1 (cs.map cD) (E35 sc ks n gap w (L.map tD) (cs.map cD) a b c d e) = some (.nx (E35 sc ks n gap w (L.map tD) (cs.map cD) a' b' c d e)) := by
  obtain ⟨ρ', e1, a', b', rfl⟩ := fGo_all (g := gT [9, 10]) (B := l_law_1) (fun ρ => ∃ a b, ρ = E35 sc ks n gap w (L.map tD) (cs.map cD) a b c d e) (cs.map cD) (E35 sc ks n gap w (L.map tD) (cs.map cD) a b c d e) (fun v ρ hv p => by
    obtain ⟨a, b, rfl⟩ := p
    obtain ⟨q, hq, rfl⟩ := List.mem_map.mp hv
    have hh := h q hq
    refine ⟨E35 sc ks n gap w (L.map tD) (cs.map cD) (.im (.tup [.str q.k, .int q.a])) (.im (.tup [.int q.b, .int q.m])) c d e, E35 sc ks n gap w (L.map tD) (cs.map cD) (.im (.tup [.str q.k, .int q.a])) (.im (.tup [.int q.b, .int q.m])) c d e, rfl, ?_, _, _, rfl⟩
    simp [l_law_1, hh]) ⟨a, b, rfl⟩
  exact ⟨a', b', e1⟩
theorem loop2 {sc ks : D} {n gap : Int} {w : Str} {L : List Th} {cs : List Cl} (hl : cs.length < 64) (h : ∀ u ∈ L, (cs.filter (qIn u)).length = 1) (a b c d e : Sl) :
    ∃ c' d' e', fGo (gT [11, 12, 13]) l_law_2 (L.map tD) (E35 sc ks n gap w (L.map tD) (cs.map cD) a b c d e) = some (.nx (E35 sc ks n gap w (L.map tD) (cs.map cD) a b c' d' e')) := by
  have sl : (cs.map cD).length ≤ sizeLine := small_line (by rw [List.length_map]; omega)
  obtain ⟨ρ', e1, c', d', e', rfl⟩ := fGo_all (g := gT [11, 12, 13]) (B := l_law_2) (fun ρ => ∃ c d e, ρ = E35 sc ks n gap w (L.map tD) (cs.map cD) a b c d e) (L.map tD) (E35 sc ks n gap w (L.map tD) (cs.map cD) a b c d e) (fun v ρ hv p => by
    obtain ⟨c, d, e, rfl⟩ := p
    obtain ⟨u, hu, rfl⟩ := List.mem_map.mp hv
    have hh := h u hu
    have go := ones_eq u cs
    refine ⟨E35 sc ks n gap w (L.map tD) (cs.map cD) a b (.im (.int u.t)) (.im (.str u.k)) (.im (.int u.v)), E35 sc ks n gap w (L.map tD) (cs.map cD) a b (.im (.int u.t)) (.im (.str u.k)) (.im (.int u.v)), rfl, ?_, _, _, _, rfl⟩
    have el : eLC2 [12, 11] (eV 8) tIn (eC (.int 1)) (E35 sc ks n gap w (L.map tD) (cs.map cD) a b (.im (.int u.t)) (.im (.str u.k)) (.im (.int u.v))) = some (.lst ((cs.filter (qIn u)).map fun _ => .int 1), E35 sc ks n gap w (L.map tD) (cs.map cD) a b (.im (.int u.t)) (.im (.str u.k)) (.im (.int u.v))) := by
      have z1 : eV 8 (E35 sc ks n gap w (L.map tD) (cs.map cD) a b (.im (.int u.t)) (.im (.str u.k)) (.im (.int u.v))) = some (.lst (cs.map cD), E35 sc ks n gap w (L.map tD) (cs.map cD) a b (.im (.int u.t)) (.im (.str u.k)) (.im (.int u.v))) := rfl
      have z2 : items (.lst (cs.map cD)) = some (cs.map cD) := rfl
      have z3 : imAt (E35 sc ks n gap w (L.map tD) (cs.map cD) a b (.im (.int u.t)) (.im (.str u.k)) (.im (.int u.v))) [12, 11] = some [.im (.str u.k), .im (.int u.t)] := rfl
      unfold eLC2
      rw [z1, bnd_some, z2, bnd_some, z3, bnd_some, go, bnd_some, if_pos sl]
    simp [l_law_2, el, hh]) ⟨c, d, e, rfl⟩
  exact ⟨c', d', e', e1⟩
theorem law_true (ns : List Int) (hl : ns.length ≤ 63) : m_law [.lst (ns.map .int)] = some (.bl true) := by
  obtain ⟨c0, e0⟩ := cell_at_eq ns hl 0
  obtain ⟨c1, e1⟩ := cell_at_eq ns hl 1
  have e0 : m_law_cell_at [.lst (ns.map .int), .int 0] = some (.int c0) := e0
  have e1 : m_law_cell_at [.lst (ns.map .int), .int 1] = some (.int c1) := e1
  generalize D.lst (ns.map .int) = sc at *
  obtain ⟨k0, k1, k2, k3, k4, ek, _⟩ := keys_eq c0
  obtain ⟨n, en, _, _⟩ := mixed_eq c0 1 (by decide)
  obtain ⟨x, ex, _, _⟩ := number_eq c0 2 (by decide)
  obtain ⟨q, eq, _, _⟩ := mixed_eq c0 3 (by decide)
  have ei := ix2_any ((n / 4).fmod 7) ((x.natAbs : Int).fmod 100000000000) (third n).1 (third n).2
  have z0 : 0 ≤ (if (Builtin.bitAnd (n / 1048576) 3).fdiv 3 = 0 then (n / 4).fmod 7 else (x.natAbs : Int).fmod 100000000000) := by
    split
    · exact Int.fmod_nonneg_of_pos _ (by decide)
    · exact Int.fmod_nonneg_of_pos _ (by decide)
  generalize (if (Builtin.bitAnd (n / 1048576) 3).fdiv 3 = 0 then (n / 4).fmod 7 else (x.natAbs : Int).fmod 100000000000) = z at *
  have b3 := bitAnd_bounds n 3 (by decide)
  obtain ⟨w, hw', ew⟩ := at_map D.str [wC, wS, wM, wL] (i := Builtin.bitAnd n 3) b3.1 (by simp; omega)
  have hw : IsW w := by
    simp only [List.mem_cons, List.not_mem_nil, or_false] at hw'
    exact hw'
  simp only [List.map_cons, List.map_nil] at ew
  obtain ⟨L, eL, hL⟩ := things_eq c1 k0 k1 k2 k3 k4 (q.fmod 17) (Int.fmod_nonneg_of_pos _ (by decide)) (Int.fmod_lt_of_pos _ (by decide))
  obtain ⟨S, hS, pm, sr⟩ := sort_th L
  have g1 : 1 ≤ 1 + z := by omega
  generalize hg : 1 + z = gap at *
  obtain ⟨st, hst, iv, hc⟩ := ses_all gap g1 S [] [] (iv_nil gap) sr
  rw [List.nil_append] at iv
  have hst : sesGo gap (S.map tD) [] = some (mm st) := hst
  have pl := pm.length_eq
  have hc : st.length < 64 := by
    have : st.length ≤ 0 + S.length := hc
    omega
  have ne : ∀ x ∈ st, x ≠ [] ∧ x.length < 64 := fun x hx => ⟨iv.ne x hx, by have := iv.len hx; omega⟩
  have f1 := fold_of hw hL hS hst ne hc
  have f2 := fold_of (L := L.reverse) hw (by rw [List.length_reverse]; exact hL) ((sort_rev L).trans hS) hst ne hc
  obtain ⟨cs, ecs, pc, so, ss⟩ := sort_cl (cells w st)
  rw [ecs] at f1 f2
  have cl : cs.length < 64 := by
    rw [pc.length_eq]; unfold cells; rw [List.length_map]; exact hc
  have bs := bSort_cl cs cl
  rw [ss] at bs
  have d1 := dp_th L
  have d2 := dp_cl cs
  have t1 := eq_self_th L
  have t2 := eq_self_cl cs
  have sh := shapes_eq cs
  have at' := all_t cs
  have csl : cs.length ≤ sizeLine := small_line (by omega)
  obtain ⟨a', b', l1⟩ := loop1 (sc := sc) (ks := .lst [.str k0, .str k1, .str k2, .str k3, .str k4]) (n := n) (gap := gap) (w := w) (L := L) (cs := cs) (fun c hcc => by
    obtain ⟨y, hy, rfl⟩ := List.mem_map.mp (pc.mem_iff.mp hcc)
    exact right_eq g1 hw hL hS pm sr iv hy) .no .no .no .no .no
  obtain ⟨c', d', e', l2⟩ := loop2 (sc := sc) (ks := .lst [.str k0, .str k1, .str k2, .str k3, .str k4]) (n := n) (gap := gap) (w := w) (L := L) cl (fun u hu => iv.one (w := w) g1 sr pc (pm.mem_iff.mpr hu)) a' b' .no .no .no
  have ap := apart_eq cl (iv.aps (w := w) g1 sr pc so)
  rw [List.map_reverse] at f2
  have dq1 : dpDs (L.map tD) + 1 ≤ 30 := by omega
  have dq2 : dpDs (cs.map cD) + 1 ≤ 30 := by omega
  simp [m_law, b_law, List.replicate, e0, e1, ek, en, ex, eq, d3, ei, ew, hg, eL, f1, bs, dq1, dq2, t1, t2, sh, at', csl, l1, l2, ap, f2]
end Fx
set_option maxRecDepth 100000
set_option maxHeartbeats 4000000
namespace Fx
open PySem PySem.Spec PyProof.Rows L2
theorem reps_ints {K : PySem.W.Frag} {H : Hp} : ∀ ns : List Int, Reps K H (ns.map D.int) (ns.map V.int)
  | [] => Reps.nil_
  | n :: r => Reps.cons (rep_int H n) (reps_ints r)
theorem all_mk {l : PySem.W.OpenLaw} {w : World} {K : PySem.W.Frag} {h : Heap} {mg : Str → Option Value} {fa f1 f2 f3 f4 f5 f6 f7 f8 f9 f10 f11 f12 f13 f14 : Addr} (X : K.In h) (G : h.Ns mainGlobals mg) (hfa : mg "law" = some (.ref fa))
    {od1 an1 : Option Addr} {sl1 : Array (Option Value)} {oc1 kV1 dc1 pm1 cd1 ct1 : Value}
    (a1 : PySem.W.nsIn K mainGlobals "amount_of" = some (some (.ref f1))) (l1 : K.lookup f1 = some ⟨oc1, od1, .func (PySem.W.fnOf "amount_of" "amount_of" (defArgs s_amount_of) (defBody s_amount_of) (defScope s_amount_of) .none kV1 dc1 pm1 an1 cd1 ct1), sl1⟩) (c1 : PySem.W.codeIn K cd1 "amount_of" = true) (k1 : PySem.W.keepIn K (.ref f1) = true)
    {od2 an2 : Option Addr} {sl2 : Array (Option Value)} {oc2 kV2 dc2 pm2 cd2 ct2 : Value}
    (a2 : PySem.W.nsIn K mainGlobals "sessions_of" = some (some (.ref f2))) (l2 : K.lookup f2 = some ⟨oc2, od2, .func (PySem.W.fnOf "sessions_of" "sessions_of" (defArgs s_sessions_of) (defBody s_sessions_of) (defScope s_sessions_of) .none kV2 dc2 pm2 an2 cd2 ct2), sl2⟩) (c2 : PySem.W.codeIn K cd2 "sessions_of" = true) (k2 : PySem.W.keepIn K (.ref f2) = true)
    {od3 an3 : Option Addr} {sl3 : Array (Option Value)} {oc3 kV3 dc3 pm3 cd3 ct3 : Value}
    (a3 : PySem.W.nsIn K mainGlobals "session_cells" = some (some (.ref f3))) (l3 : K.lookup f3 = some ⟨oc3, od3, .func (PySem.W.fnOf "session_cells" "session_cells" (defArgs s_session_cells) (defBody s_session_cells) (defScope s_session_cells) .none kV3 dc3 pm3 an3 cd3 ct3), sl3⟩) (c3 : PySem.W.codeIn K cd3 "session_cells" = true) (k3 : PySem.W.keepIn K (.ref f3) = true)
    {od4 an4 : Option Addr} {sl4 : Array (Option Value)} {oc4 kV4 dc4 pm4 cd4 ct4 : Value}
    (a4 : PySem.W.nsIn K mainGlobals "fold_cells" = some (some (.ref f4))) (l4 : K.lookup f4 = some ⟨oc4, od4, .func (PySem.W.fnOf "fold_cells" "fold_cells" (defArgs s_fold_cells) (defBody s_fold_cells) (defScope s_fold_cells) .none kV4 dc4 pm4 an4 cd4 ct4), sl4⟩) (c4 : PySem.W.codeIn K cd4 "fold_cells" = true) (k4 : PySem.W.keepIn K (.ref f4) = true)
    {od5 an5 : Option Addr} {sl5 : Array (Option Value)} {oc5 kV5 dc5 pm5 cd5 ct5 : Value}
    (a5 : PySem.W.nsIn K mainGlobals "_law_cell_at" = some (some (.ref f5))) (l5 : K.lookup f5 = some ⟨oc5, od5, .func (PySem.W.fnOf "_law_cell_at" "_law_cell_at" (defArgs s_law_cell_at) (defBody s_law_cell_at) (defScope s_law_cell_at) .none kV5 dc5 pm5 an5 cd5 ct5), sl5⟩) (c5 : PySem.W.codeIn K cd5 "_law_cell_at" = true) (k5 : PySem.W.keepIn K (.ref f5) = true)
    {od6 an6 : Option Addr} {sl6 : Array (Option Value)} {oc6 kV6 dc6 pm6 cd6 ct6 : Value}
    (a6 : PySem.W.nsIn K mainGlobals "_law_mixed" = some (some (.ref f6))) (l6 : K.lookup f6 = some ⟨oc6, od6, .func (PySem.W.fnOf "_law_mixed" "_law_mixed" (defArgs s_law_mixed) (defBody s_law_mixed) (defScope s_law_mixed) .none kV6 dc6 pm6 an6 cd6 ct6), sl6⟩) (c6 : PySem.W.codeIn K cd6 "_law_mixed" = true) (k6 : PySem.W.keepIn K (.ref f6) = true)
    {od7 an7 : Option Addr} {sl7 : Array (Option Value)} {oc7 kV7 dc7 pm7 cd7 ct7 : Value}
    (a7 : PySem.W.nsIn K mainGlobals "_law_keys" = some (some (.ref f7))) (l7 : K.lookup f7 = some ⟨oc7, od7, .func (PySem.W.fnOf "_law_keys" "_law_keys" (defArgs s_law_keys) (defBody s_law_keys) (defScope s_law_keys) .none kV7 dc7 pm7 an7 cd7 ct7), sl7⟩) (c7 : PySem.W.codeIn K cd7 "_law_keys" = true) (k7 : PySem.W.keepIn K (.ref f7) = true)
    {od8 an8 : Option Addr} {sl8 : Array (Option Value)} {oc8 kV8 dc8 pm8 cd8 ct8 : Value}
    (a8 : PySem.W.nsIn K mainGlobals "_law_number" = some (some (.ref f8))) (l8 : K.lookup f8 = some ⟨oc8, od8, .func (PySem.W.fnOf "_law_number" "_law_number" (defArgs s_law_number) (defBody s_law_number) (defScope s_law_number) .none kV8 dc8 pm8 an8 cd8 ct8), sl8⟩) (c8 : PySem.W.codeIn K cd8 "_law_number" = true) (k8 : PySem.W.keepIn K (.ref f8) = true)
    {od9 an9 : Option Addr} {sl9 : Array (Option Value)} {oc9 kV9 dc9 pm9 cd9 ct9 : Value}
    (a9 : PySem.W.nsIn K mainGlobals "_law_things" = some (some (.ref f9))) (l9 : K.lookup f9 = some ⟨oc9, od9, .func (PySem.W.fnOf "_law_things" "_law_things" (defArgs s_law_things) (defBody s_law_things) (defScope s_law_things) .none kV9 dc9 pm9 an9 cd9 ct9), sl9⟩) (c9 : PySem.W.codeIn K cd9 "_law_things" = true) (k9 : PySem.W.keepIn K (.ref f9) = true)
    {od10 an10 : Option Addr} {sl10 : Array (Option Value)} {oc10 kV10 dc10 pm10 cd10 ct10 : Value}
    (a10 : PySem.W.nsIn K mainGlobals "_law_amount" = some (some (.ref f10))) (l10 : K.lookup f10 = some ⟨oc10, od10, .func (PySem.W.fnOf "_law_amount" "_law_amount" (defArgs s_law_amount) (defBody s_law_amount) (defScope s_law_amount) .none kV10 dc10 pm10 an10 cd10 ct10), sl10⟩) (c10 : PySem.W.codeIn K cd10 "_law_amount" = true) (k10 : PySem.W.keepIn K (.ref f10) = true)
    {od11 an11 : Option Addr} {sl11 : Array (Option Value)} {oc11 kV11 dc11 pm11 cd11 ct11 : Value}
    (a11 : PySem.W.nsIn K mainGlobals "_law_session_right" = some (some (.ref f11))) (l11 : K.lookup f11 = some ⟨oc11, od11, .func (PySem.W.fnOf "_law_session_right" "_law_session_right" (defArgs s_law_session_right) (defBody s_law_session_right) (defScope s_law_session_right) .none kV11 dc11 pm11 an11 cd11 ct11), sl11⟩) (c11 : PySem.W.codeIn K cd11 "_law_session_right" = true) (k11 : PySem.W.keepIn K (.ref f11) = true)
    {od12 an12 : Option Addr} {sl12 : Array (Option Value)} {oc12 kV12 dc12 pm12 cd12 ct12 : Value}
    (a12 : PySem.W.nsIn K mainGlobals "_law_apart" = some (some (.ref f12))) (l12 : K.lookup f12 = some ⟨oc12, od12, .func (PySem.W.fnOf "_law_apart" "_law_apart" (defArgs s_law_apart) (defBody s_law_apart) (defScope s_law_apart) .none kV12 dc12 pm12 an12 cd12 ct12), sl12⟩) (c12 : PySem.W.codeIn K cd12 "_law_apart" = true) (k12 : PySem.W.keepIn K (.ref f12) = true)
    {od13 an13 : Option Addr} {sl13 : Array (Option Value)} {oc13 kV13 dc13 pm13 cd13 ct13 : Value}
    (a13 : PySem.W.nsIn K mainGlobals "_law_shape" = some (some (.ref f13))) (l13 : K.lookup f13 = some ⟨oc13, od13, .func (PySem.W.fnOf "_law_shape" "_law_shape" (defArgs s_law_shape) (defBody s_law_shape) (defScope s_law_shape) .none kV13 dc13 pm13 an13 cd13 ct13), sl13⟩) (c13 : PySem.W.codeIn K cd13 "_law_shape" = true) (k13 : PySem.W.keepIn K (.ref f13) = true)
    {od14 an14 : Option Addr} {sl14 : Array (Option Value)} {oc14 kV14 dc14 pm14 cd14 ct14 : Value}
    (a14 : PySem.W.nsIn K mainGlobals "law" = some (some (.ref f14))) (l14 : K.lookup f14 = some ⟨oc14, od14, .func (PySem.W.fnOf "law" "law" (defArgs s_law) (defBody s_law) (defScope s_law) .none kV14 dc14 pm14 an14 cd14 ct14), sl14⟩) (c14 : PySem.W.codeIn K cd14 "law" = true) (k14 : PySem.W.keepIn K (.ref f14) = true)
    (z1 : PySem.W.nsIn K mainGlobals "abs" = some none) (z2 : PySem.W.nsIn K mainGlobals "len" = some none) (z3 : PySem.W.nsIn K mainGlobals "max" = some none) (z4 : PySem.W.nsIn K mainGlobals "min" = some none) (z5 : PySem.W.nsIn K mainGlobals "any" = some none) (z6 : PySem.W.nsIn K mainGlobals "all" = some none) (z7 : PySem.W.nsIn K mainGlobals "range" = some none) (z8 : PySem.W.nsIn K mainGlobals "isinstance" = some none) (z9 : PySem.W.nsIn K mainGlobals "int" = some none) (z10 : PySem.W.nsIn K mainGlobals "bool" = some none) (z11 : PySem.W.nsIn K mainGlobals "str" = some none) (z12 : PySem.W.nsIn K mainGlobals "tuple" = some none) (z13 : PySem.W.nsIn K mainGlobals "list" = some none) (z14 : PySem.W.nsIn K mainGlobals "sorted" = some none) (z15 : PySem.W.nsIn K mainGlobals "dict" = some none) (z16 : PySem.W.nsIn K mainGlobals "set" = some none) (z17 : PySem.W.nsIn K mainGlobals "sum" = some none) :
    ∃ fd : FuncData, (∀ (s : Shared) (v : Value), BindsTo s fd ⟨[v], []⟩ [("_law_script", v)]) ∧ ∀ base : Heap, K.In base → base.Ns mainGlobals mg → FnOk l.prog w K mg base CX0 4 fa fd ["_law_script"] (spP K m_law) := by
  have e := hfa.symm.trans (PySem.W.mg_of X G a14)
  cases e
  have T : Blt K mg := ⟨PySem.W.mg_none_of X G z1, PySem.W.mg_none_of X G z2, PySem.W.mg_none_of X G z3, PySem.W.mg_none_of X G z4, PySem.W.mg_none_of X G z5, PySem.W.mg_none_of X G z6, PySem.W.mg_none_of X G z7, PySem.W.mg_none_of X G z8, PySem.W.mg_none_of X G z9, PySem.W.mg_none_of X G z10, PySem.W.mg_none_of X G z11, PySem.W.mg_none_of X G z12, PySem.W.mg_none_of X G z13, PySem.W.mg_none_of X G z14, PySem.W.mg_none_of X G z15, PySem.W.mg_none_of X G z16, PySem.W.mg_none_of X G z17⟩
  have F1 := fun_mk (st := s_amount_of) l1 c1 k1
  have b1 := F1.binds (ps := ["fold_word", "values"]) fun _ _ _ _ _ _ us hl => match us, hl with | [_, _], _ => rfl
  have F2 := fun_mk (st := s_sessions_of) l2 c2 k2
  have b2 := F2.binds (ps := ["gap", "things"]) fun _ _ _ _ _ _ us hl => match us, hl with | [_, _], _ => rfl
  have F3 := fun_mk (st := s_session_cells) l3 c3 k3
  have b3 := F3.binds (ps := ["row", "things"]) fun _ _ _ _ _ _ us hl => match us, hl with | [_, _], _ => rfl
  have F4 := fun_mk (st := s_fold_cells) l4 c4 k4
  have b4 := F4.binds (ps := ["row", "things"]) fun _ _ _ _ _ _ us hl => match us, hl with | [_, _], _ => rfl
  have F5 := fun_mk (st := s_law_cell_at) l5 c5 k5
  have b5 := F5.binds (ps := ["_law_script", "_law_k"]) fun _ _ _ _ _ _ us hl => match us, hl with | [_, _], _ => rfl
  have F6 := fun_mk (st := s_law_mixed) l6 c6 k6
  have b6 := F6.binds (ps := ["_law_cell", "_law_k"]) fun _ _ _ _ _ _ us hl => match us, hl with | [_, _], _ => rfl
  have F7 := fun_mk (st := s_law_keys) l7 c7 k7
  have b7 := F7.binds (ps := ["_law_cell"]) fun _ _ _ _ _ _ us hl => match us, hl with | [_], _ => rfl
  have F8 := fun_mk (st := s_law_number) l8 c8 k8
  have b8 := F8.binds (ps := ["_law_cell", "_law_j"]) fun _ _ _ _ _ _ us hl => match us, hl with | [_, _], _ => rfl
  have F9 := fun_mk (st := s_law_things) l9 c9 k9
  have b9 := F9.binds (ps := ["_law_cell", "_law_keys_here", "_law_many"]) fun _ _ _ _ _ _ us hl => match us, hl with | [_, _, _], _ => rfl
  have F10 := fun_mk (st := s_law_amount) l10 c10 k10
  have b10 := F10.binds (ps := ["_law_word", "_law_values"]) fun _ _ _ _ _ _ us hl => match us, hl with | [_, _], _ => rfl
  have F11 := fun_mk (st := s_law_session_right) l11 c11 k11
  have b11 := F11.binds (ps := ["_law_cell", "_law_amount_here", "_law_word", "_law_gap", "_law_things_here"]) fun _ _ _ _ _ _ us hl => match us, hl with | [_, _, _, _, _], _ => rfl
  have F12 := fun_mk (st := s_law_apart) l12 c12 k12
  have b12 := F12.binds (ps := ["_law_cells", "_law_gap"]) fun _ _ _ _ _ _ us hl => match us, hl with | [_, _], _ => rfl
  have F13 := fun_mk (st := s_law_shape) l13 c13 k13
  have b13 := F13.binds (ps := ["_law_one"]) fun _ _ _ _ _ _ us hl => match us, hl with | [_], _ => rfl
  have F14 := fun_mk (st := s_law) l14 c14 k14
  have b14 := F14.binds (ps := ["_law_script"]) fun _ _ _ _ _ _ us hl => match us, hl with | [_], _ => rfl
  refine ⟨PySem.W.fnOf "law" "law" (defArgs s_law) (defBody s_law) (defScope s_law) .none kV14 dc14 pm14 an14 cd14 ct14, fun s v => .of_eq rfl, fun base _ _ => ?_⟩
  have G1 : DefOk l.prog w K mg base 1 "amount_of" m_amount_of := ok_amount_of F1 b1 (PySem.W.mg_of X G a1) T
  have G2 : DefOk l.prog w K mg base 1 "sessions_of" m_sessions_of := ok_sessions_of F2 b2 (PySem.W.mg_of X G a2) T
  have G5 : DefOk l.prog w K mg base 1 "_law_cell_at" m_law_cell_at := ok_law_cell_at F5 b5 (PySem.W.mg_of X G a5) T
  have G6 : DefOk l.prog w K mg base 1 "_law_mixed" m_law_mixed := ok_law_mixed F6 b6 (PySem.W.mg_of X G a6) T
  have G10 : DefOk l.prog w K mg base 1 "_law_amount" m_law_amount := ok_law_amount F10 b10 (PySem.W.mg_of X G a10) T
  have G12 : DefOk l.prog w K mg base 1 "_law_apart" m_law_apart := ok_law_apart F12 b12 (PySem.W.mg_of X G a12) T
  have G13 : DefOk l.prog w K mg base 1 "_law_shape" m_law_shape := ok_law_shape F13 b13 (PySem.W.mg_of X G a13) T
  have G3 : DefOk l.prog w K mg base 2 "session_cells" m_session_cells := ok_session_cells F3 b3 (PySem.W.mg_of X G a3) T G1 G2
  have G7 : DefOk l.prog w K mg base 2 "_law_keys" m_law_keys := ok_law_keys F7 b7 (PySem.W.mg_of X G a7) T G6
  have G8 : DefOk l.prog w K mg base 2 "_law_number" m_law_number := ok_law_number F8 b8 (PySem.W.mg_of X G a8) T G6
  have G11 : DefOk l.prog w K mg base 2 "_law_session_right" m_law_session_right := ok_law_session_right F11 b11 (PySem.W.mg_of X G a11) T G10
  have G4 : DefOk l.prog w K mg base 3 "fold_cells" m_fold_cells := ok_fold_cells F4 b4 (PySem.W.mg_of X G a4) T G3
  have G9 : DefOk l.prog w K mg base 3 "_law_things" m_law_things := ok_law_things F9 b9 (PySem.W.mg_of X G a9) T G6 G8
  exact fn_law F14 T G12 G5 G7 G6 G8 G11 G13 G9 G4
theorem walk {l : PySem.W.OpenLaw} {q : Program} {loose : List Str} {XP : (Str → Option Value) → Heap → Prop} {YP : World → Heap → Prop} {d : DefRec} {K : Params → PySem.W.Frag} (hn : l.most = some 63) (hdf : d.params.defaults = [])
    (hY : ∀ (w : World) (h : Heap), YP w h → (K w.params).In h)
    (F : ∀ (w : World) (mg : Str → Option Value) (fa : Addr) (h : Heap), (K w.params).In h → h.Ns mainGlobals mg → mg d.name = some (.ref fa) →
      ∃ fd : FuncData, (∀ (s : Shared) (u : Value), BindsTo s fd ⟨[u], []⟩ [("_law_script", u)]) ∧ ∀ base : Heap, (K w.params).In base → base.Ns mainGlobals mg → FnOk l.prog w (K w.params) mg base CX0 4 fa fd ["_law_script"] (spP (K w.params) m_law)) :
    PySem.W.WalkO q loose XP YP l.row.toRowW d [] (fun f vs => PySem.call f vs) :=
  L2.walk_of (n := 63) (k := 4) (x := "_law_script") (CX := fun _ => CX0) (sp := fun w => spP (K w.params) m_law) hn (by decide) hdf ⟨rfl, by decide, by decide⟩ hY F
    (fun w H a ns hl _ hS => ⟨H, [.lst (ns.map .int)], .bl true, Same.refl _, Reps.one (by unfold Rep; exact ⟨a, _, rfl, hS, reps_ints ns⟩), law_true ns hl, fun v Hi' H' S r => by unfold Rep at r; exact r⟩) fun _ _ _ _ _ z => z
end Fx
open PySem PySem.W PyProof.Rows
set_option maxRecDepth 100000 in
set_option maxHeartbeats 0 in
theorem PySem.Challenge.cw_latewell_k35_sessions_holds : PySem.Challenge.rw_latewell_k35_sessions.Holds := by
  w_on; o_law; k_head; (case hw => w_witness2)
  k_fill
  refine Fx.walk (l := PySem.Challenge.rw_latewell_k35_sessions) rfl rfl (fun w h Y => PySem.W.kIn_of Y) ?F
  case F =>
    intro w mg fa h KX G hmg
    refine' Fx.all_mk KX G hmg ?a1 ?l1 ?c1 ?k1 ?a2 ?l2 ?c2 ?k2 ?a3 ?l3 ?c3 ?k3 ?a4 ?l4 ?c4 ?k4 ?a5 ?l5 ?c5 ?k5 ?a6 ?l6 ?c6 ?k6 ?a7 ?l7 ?c7 ?k7 ?a8 ?l8 ?c8 ?k8 ?a9 ?l9 ?c9 ?k9 ?a10 ?l10 ?c10 ?k10 ?a11 ?l11 ?c11 ?k11 ?a12 ?l12 ?c12 ?k12 ?a13 ?l13 ?c13 ?k13 ?a14 ?l14 ?c14 ?k14 ?z1 ?z2 ?z3 ?z4 ?z5 ?z6 ?z7 ?z8 ?z9 ?z10 ?z11 ?z12 ?z13 ?z14 ?z15 ?z16 ?z17
    (case a1 => k_is)
    (case l1 => k_is)
    (case c1 => k_is)
    (case k1 => k_is)
    (case a2 => k_is)
    (case l2 => k_is)
    (case c2 => k_is)
    (case k2 => k_is)
    (case a3 => k_is)
    (case l3 => k_is)
    (case c3 => k_is)
    (case k3 => k_is)
    (case a4 => k_is)
    (case l4 => k_is)
    (case c4 => k_is)
    (case k4 => k_is)
    (case a5 => k_is)
    (case l5 => k_is)
    (case c5 => k_is)
    (case k5 => k_is)
    (case a6 => k_is)
    (case l6 => k_is)
    (case c6 => k_is)
    (case k6 => k_is)
    (case a7 => k_is)
    (case l7 => k_is)
    (case c7 => k_is)
    (case k7 => k_is)
    (case a8 => k_is)
    (case l8 => k_is)
    (case c8 => k_is)
    (case k8 => k_is)
    (case a9 => k_is)
    (case l9 => k_is)
    (case c9 => k_is)
    (case k9 => k_is)
    (case a10 => k_is)
    (case l10 => k_is)
    (case c10 => k_is)
    (case k10 => k_is)
    (case a11 => k_is)
    (case l11 => k_is)
    (case c11 => k_is)
    (case k11 => k_is)
    (case a12 => k_is)
    (case l12 => k_is)
    (case c12 => k_is)
    (case k12 => k_is)
    (case a13 => k_is)
    (case l13 => k_is)
    (case c13 => k_is)
    (case k13 => k_is)
    (case a14 => k_is)
    (case l14 => k_is)
    (case c14 => k_is)
    (case k14 => k_is)
    (case z1 => k_is)
    (case z2 => k_is)
    (case z3 => k_is)
    (case z4 => k_is)
    (case z5 => k_is)
    (case z6 => k_is)
    (case z7 => k_is)
    (case z8 => k_is)
    (case z9 => k_is)
    (case z10 => k_is)
    (case z11 => k_is)
    (case z12 => k_is)
    (case z13 => k_is)
    (case z14 => k_is)
    (case z15 => k_is)
    (case z16 => k_is)
    (case z17 => k_is)
