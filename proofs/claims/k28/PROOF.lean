import PyProof.Rows.All
import Wide.All
import OpenK.AllK
import Wide.FinOn
import Lean
import PyProof.EqAt
import PyProof.EqKinds
import PyProof.TupleCall
import PySem.Sem
import PySem.Builtin.Int.W1All
import PyProof.StrBlockI
import PyProof.StrBlock2
import KE.KEqDict
import KE.KDictOf
import PySem.Challenge.RW_latewell_k28_what_may_not_come
set_option Elab.async false
set_option linter.all false
set_option maxRecDepth 100000
namespace L2
open PySem PySem.Spec PyProof.Rows
noncomputable abbrev Key := Sum Int Str
noncomputable def keyIs : Key → Value → Bool
  | .inl k, v => Value.isInt k v
  | .inr x, v => Value.isStrOf x v
noncomputable def keyH (w : World) : Key → Int
  | .inl k => hashInt k
  | .inr x => hashStr w x
theorem keyIs_shape : ∀ {k : Key} {v : Value}, keyIs k v = true → (∃ i t, k = Sum.inl i ∧ v = Value.int i t) ∨ (∃ x t, k = Sum.inr x ∧ v = Value.str x t)
  | .inl i, v, h => by
    obtain ⟨t, e⟩ := Value.isInt_shape (k := i) (v := v) h
    exact .inl ⟨i, t, rfl, e⟩
  | .inr x, v, h => by
    obtain ⟨t, e⟩ := Value.isStrOf_shape (x := x) (v := v) h
    exact .inr ⟨x, t, rfl, e⟩
theorem keyIs_int (i : Int) (t : Tok) : keyIs (.inl i) (.int i t) = true := by simp [keyIs, Value.isInt]
theorem keyIs_str (x : Str) (t : Tok) : keyIs (.inr x) (.str x t) = true := by simp [keyIs, Value.isStrOf]
theorem key_ll (a b : Int) : decide ((Sum.inl a : Key) = Sum.inl b) = (a == b) := by
  by_cases e : a = b
  · subst e; simp
  · have h : ¬ (Sum.inl a : Key) = Sum.inl b := fun q => e (Sum.inl.inj q)
    rw [decide_eq_false h]
    exact (beq_eq_false_iff_ne.mpr e).symm
theorem key_rr (a b : Str) : decide ((Sum.inr a : Key) = Sum.inr b) = decide (a = b) := by
  by_cases e : a = b
  · subst e; simp
  · have h : ¬ (Sum.inr a : Key) = Sum.inr b := fun q => e (Sum.inr.inj q)
    rw [decide_eq_false h, decide_eq_false e]
theorem key_lr (a : Int) (b : Str) : decide ((Sum.inl a : Key) = Sum.inr b) = false := decide_eq_false (fun q => nomatch q)
theorem key_rl (a : Str) (b : Int) : decide ((Sum.inr a : Key) = Sum.inl b) = false := decide_eq_false (fun q => nomatch q)
noncomputable def mixKind (prog : Program) (w : World) : PySem.KeyKind prog w Key where
  is := keyIs
  hash := keyH w
  inj := fun v a b ha hb => by
    rcases keyIs_shape ha with ⟨i, t, rfl, rfl⟩ | ⟨x, t, rfl, rfl⟩
    · rcases keyIs_shape hb with ⟨j, u, rfl, e⟩ | ⟨y, u, rfl, e⟩
      · injection e with e1 _; rw [e1]
      · exact nomatch e
    · rcases keyIs_shape hb with ⟨j, u, rfl, e⟩ | ⟨y, u, rfl, e⟩
      · exact nomatch e
      · injection e with e1 _; rw [e1]
  byValue := fun k v h => by
    rcases keyIs_shape h with ⟨i, t, rfl, rfl⟩ | ⟨x, t, rfl, rfl⟩ <;> rfl
  pyHash := fun hv h => by
    rcases keyIs_shape hv with ⟨i, t, rfl, rfl⟩ | ⟨x, t, rfl, rfl⟩
    · exact wpAny_pyHash_int h
    · exact wpAny_pyHash_str h
  eqBool := fun hu hv h => by
    rcases keyIs_shape hu with ⟨i, t, rfl, rfl⟩ | ⟨x, t, rfl, rfl⟩
    · rcases keyIs_shape hv with ⟨j, u, rfl, rfl⟩ | ⟨y, u, rfl, rfl⟩
      · rw [key_ll] at h; exact wpAny_eqBool_int h
      · rw [key_lr] at h; exact SeqAt.EqAt.int_str i t y u _ _ _ _ h
    · rcases keyIs_shape hv with ⟨j, u, rfl, rfl⟩ | ⟨y, u, rfl, rfl⟩
      · rw [key_rl] at h; exact SeqAt.EqAt.str_int x t j u _ _ _ _ h
      · rw [key_rr] at h; exact wpAny_eqBool_str h
  «strs» := fun k x t v h => by
    rcases keyIs_shape h with ⟨i, u, rfl, e⟩ | ⟨y, u, rfl, e⟩
    · exact nomatch e
    · injection e with e1 _
      subst e1
      cases v <;> rfl
theorem mixKind_int (prog : Program) (w : World) (i : Int) (t : Tok) : (mixKind prog w).is (.inl i) (.int i t) = true := keyIs_int i t
theorem mixKind_str (prog : Program) (w : World) (x : Str) (t : Tok) : (mixKind prog w).is (.inr x) (.str x t) = true := keyIs_str x t
end L2
namespace L2
open PySem PySem.Spec PyProof.Rows
inductive V where
  | non | bl (b : Bool) | int (i : Int) | str (x : Str) | byt (b : Array UInt8) | flt (b : UInt64) | ref (a : Addr) | ty (n : String)
  deriving DecidableEq
noncomputable def RelV : V → Value → Prop
  | .non, u => u = Value.none
  | .bl b, u => u = Value.bool b
  | .int i, u => ∃ t, u = Value.int i t
  | .str x, u => ∃ t, u = Value.str x t
  | .byt b, u => ∃ t, u = Value.bytes b t
  | .flt b, u => ∃ t, u = Value.float b t
  | .ref a, u => u = Value.ref a
  | .ty n, u => u = Value.type n
noncomputable abbrev Vals : List V → List Value → Prop := Paired RelV
theorem Vals.length {xs : List V} {us : List Value} (r : Vals xs us) : xs.length = us.length := Paired.length r
theorem Vals.get : ∀ {xs : List V} {us : List Value} {i : Nat} {x : V}, Vals xs us → xs[i]? = some x → ∃ u, us[i]? = some u ∧ RelV x u
  | _, _, _, _, .nil, e => by simp at e
  | _, _, 0, _, .cons r _, e => by simp at e; subst e; exact ⟨_, rfl, r⟩
  | _, _, i + 1, x, .cons _ t, e => by
    obtain ⟨u, h1, h2⟩ := Vals.get (i := i) (x := x) t (by simpa using e)
    exact ⟨u, by simpa using h1, h2⟩
theorem Vals.set {x : V} {u : Value} (r : RelV x u) : ∀ {xs : List V} {us : List Value} (i : Nat), Vals xs us → Vals (xs.set i x) (us.set i u)
  | _, _, _, .nil => .nil
  | _, _, 0, .cons _ t => .cons r t
  | _, _, i + 1, .cons q t => .cons q (Vals.set r i t)
theorem Vals.append : ∀ {xs ys : List V} {us ws : List Value}, Vals xs us → Vals ys ws → Vals (xs ++ ys) (us ++ ws)
  | _, _, _, _, .nil, s => s
  | _, _, _, _, .cons r t, s => .cons r (Vals.append t s)
theorem Vals.take : ∀ {xs : List V} {us : List Value} (n : Nat), Vals xs us → Vals (xs.take n) (us.take n)
  | _, _, 0, _ => .nil
  | _, _, _ + 1, .nil => .nil
  | _, _, n + 1, .cons r t => .cons r (Vals.take n t)
theorem Vals.drop : ∀ {xs : List V} {us : List Value} (n : Nat), Vals xs us → Vals (xs.drop n) (us.drop n)
  | _, _, 0, r => r
  | _, _, _ + 1, .nil => .nil
  | _, _, n + 1, .cons _ t => Vals.drop n t
noncomputable def RelO : Option V → Option Value → Prop
  | some v, some u => RelV v u
  | none, none => True
  | _, _ => False
noncomputable def KV {κ : Type} : List (κ × V) → List (κ × Value) → Prop := Paired fun (p : κ × V) (q : κ × Value) => p.1 = q.1 ∧ RelV p.2 q.2
noncomputable def kV : Key → V
  | .inl i => .int i
  | .inr x => .str x
inductive HO where
  | lst (xs : List V)
  | tup (xs : List V)
  | dK (kvs : List (Key × V)) | dT (kvs : List (List Key × V))
  | set (S : Int → Bool) (n : Nat)
  | ins (C dx : Addr) (fs : List (Str × V))
  | own (x : Addr)
  | xd (fs : List (Str × V))
  | met (f x : Addr)
  | rng (lo hi : Int)
  | frz (o : Obj) (u : HO)
  | tbl (ps : Array Value)
  | ext (φ : Heap → Prop)
noncomputable abbrev Hp := Addr → Option HO
noncomputable def upd (H : Hp) (a : Addr) (o : HO) : Hp := fun b => if b = a then some o else H b
theorem upd_same {H : Hp} {a : Addr} {o : HO} : upd H a o a = some o := by unfold upd; rw [if_pos rfl]
theorem upd_ne {H : Hp} {a b : Addr} {o : HO} (h : b ≠ a) : upd H a o b = H b := by unfold upd; rw [if_neg h]
theorem ne_of {H : Hp} {a b : Addr} {o u : HO} (h : H a = some o) (h' : H b = some u) (d : o ≠ u) : a ≠ b := by
  intro e; subst e; rw [h] at h'; exact d (Option.some.inj h')
theorem ne_of_none {H : Hp} {a b : Addr} {o : HO} (h : H a = some o) (h' : H b = none) : a ≠ b := by
  intro e; subst e; rw [h] at h'; cases h'
noncomputable def IsTuN (h : Heap) (a : Addr) (items : Array Value) : Prop := ∃ o, h.get? a = some o ∧ o.cls = .type "tuple" ∧ (∃ n, o.data = .seq items n) ∧ o.dict = none
theorem IsTuN.tup {h : Heap} {a : Addr} {items : Array Value} (x : IsTuN h a items) : IsTup h a items := let ⟨o, p, q, ⟨n, r⟩, _⟩ := x; ⟨o, p, q, n, r⟩
theorem IsTuN.new (h : Heap) (items : Array Value) : IsTuN (h.push { cls := .type "tuple", data := .seq items }) h.objs.size items := ⟨_, Heap.get?_push_size _ rfl, rfl, ⟨0, rfl⟩, rfl⟩
section
variable (P : Program) (w : World)
noncomputable def ObjOk (H : Hp) (h : Heap) (a : Addr) : HO → Prop
  | .lst xs => xs.length ≤ sizeLine ∧ ∃ (its : List Value) (n : Nat), Vals xs its ∧ h.get? a = some { cls := .type "list", data := .seq its.toArray n }
  | .tup xs => xs.length ≤ sizeLine ∧ ∃ its : List Value, Vals xs its ∧ IsTuN h a its.toArray
  | .dK kvs => kvs.length ≤ sizeLine ∧ (a == sysModules) = false ∧ ∃ vs, KV kvs vs ∧ h.DictOf (mixKind P w) a vs
  | .dT kvs => kvs.length ≤ sizeLine ∧ (a == sysModules) = false ∧ ∃ xs : List (List Key × Addr × Value),
      Paired (fun (p : List Key × V) (q : List Key × Addr × Value) => p.1 = q.1 ∧ H q.2.1 = some (.tup (p.1.map kV)) ∧ RelV p.2 q.2.2) kvs xs ∧
      ∃ o es ep, h.get? a = some o ∧ o.ExactDict ∧ o.data = .dict es ep ∧ es.toList = xs.map (entryOfKey (tupleKind (mixKind P w))) ∧ (xs.map (·.1)).Nodup
  | .set S n => h.SetOf (intKind P w) a S n
  | .ins C dx fs => H dx = some (.own a) ∧ fs.length ≤ 1000 ∧ dx ≠ a ∧ h.get? a = some (PySem.W.instObj C dx) ∧
      ∃ mA, h.Ns1 dx mA ∧ (∀ f, RelO (fs.lookup f) (mA f)) ∧ PySem.Within mA (fs.map (·.1))
  | .own _ => ∃ o, h.get? a = some o
  | .xd fs => ∃ mA, h.Ns1 a mA ∧ ∀ f, RelO (fs.lookup f) (mA f)
  | .rng lo hi => ∃ t u v, h.get? a = some { cls := .type "range", data := .fields #[.int lo t, .int hi u, .int 1 v] }
  | .frz o u => h.get? a = some o ∧ ObjOk H h a u
  | .tbl ps => h.get? a = some { cls := .none, data := .fields ps }
  | .met f x => h.get? a = some (PySem.W.methodObj (.ref f) (.ref x))
  | .ext φ => φ h ∧ (∃ o, h.get? a = some o) ∧ ∀ h1 h2 : Heap, φ h1 → (∀ o, h1.get? a = some o → h2.get? a = some o) → φ h2
noncomputable def HOk (H : Hp) (h : Heap) : Prop := ∀ a o, H a = some o → ObjOk P w H h a o
end
section
variable {P : Program} {w : World} {H H' : Hp} {h h' : Heap} {a : Addr} {o : HO}
theorem ObjOk.lt (x : ObjOk P w H h a o) : a < h.objs.size := by
  cases o with
  | lst xs => obtain ⟨_, _, _, _, e⟩ := x; exact Heap.lt_size e
  | tup xs => obtain ⟨_, _, _, p⟩ := x; exact p.tup.lt
  | dK kvs => obtain ⟨_, _, _, _, o, _, _, e, _⟩ := x; exact Heap.lt_size e
  | dT kvs => obtain ⟨_, _, _, _, o, _, _, e, _⟩ := x; exact Heap.lt_size e
  | set S n => obtain ⟨o, _, _, _, e, _⟩ := x; exact Heap.lt_size e
  | ins C dx fs => obtain ⟨_, _, _, e, _⟩ := x; exact Heap.lt_size e
  | own y => obtain ⟨_, e⟩ := x; exact Heap.lt_size e
  | xd fs => obtain ⟨_, ⟨_, _, _, e, _⟩, _⟩ := x; exact Heap.lt_size e
  | rng lo hi => obtain ⟨_, _, _, e⟩ := x; exact Heap.lt_size e
  | frz ob u => obtain ⟨e, _⟩ := x; exact Heap.lt_size e
  | tbl ps => exact Heap.lt_size (show h.get? a = some _ from x)
  | met f y => exact Heap.lt_size (show h.get? a = some _ from x)
  | ext φ => obtain ⟨_, ⟨_, e⟩, _⟩ := x; exact Heap.lt_size e
theorem Paired.mapP {α β : Type} {F G : α → β → Prop} : ∀ {l₁ : List α} {l₂ : List β}, Paired F l₁ l₂ → (∀ a b, F a b → G a b) → Paired G l₁ l₂
  | _, _, .nil, _ => .nil
  | _, _, .cons r t, f => .cons (f _ _ r) (Paired.mapP t f)
theorem ObjOk.stay (x : ObjOk P w H h a o) (k : ∀ b u, (b = a ∨ H b = some (.own a)) → h.get? b = some u → h'.get? b = some u)
    (ho : ∀ b, H b = some (.own a) → H' b = some (.own a)) (ht : ∀ b xs, H b = some (.tup xs) → H' b = some (.tup xs)) : ObjOk P w H' h' a o := by
  induction o with
  | lst xs => obtain ⟨z, its, n, r, e⟩ := x; exact ⟨z, its, n, r, k _ _ (.inl rfl) e⟩
  | tup xs => obtain ⟨z, its, r, ob, e, c⟩ := x; exact ⟨z, its, r, ob, k _ _ (.inl rfl) e, c⟩
  | dK kvs => obtain ⟨z, y, vs, r, ob, es, ep, e, c⟩ := x; exact ⟨z, y, vs, r, ob, es, ep, k _ _ (.inl rfl) e, c⟩
  | dT kvs =>
    obtain ⟨z, y, xs, r, ob, es, ep, e, c⟩ := x
    exact ⟨z, y, xs, Paired.mapP r fun p q z => ⟨z.1, ht _ _ z.2.1, z.2.2⟩, ob, es, ep, k _ _ (.inl rfl) e, c⟩
  | set S n => obtain ⟨ob, es, ep, t, e, c⟩ := x; exact ⟨ob, es, ep, t, k _ _ (.inl rfl) e, c⟩
  | ins C dx fs =>
    obtain ⟨d, z, ne, e, mA, ⟨od, es, ep, e2, c⟩, r⟩ := x
    exact ⟨ho _ d, z, ne, k _ _ (.inl rfl) e, mA, ⟨od, es, ep, k _ _ (.inr d) e2, c⟩, r⟩
  | own y => obtain ⟨ob, e⟩ := x; exact ⟨ob, k _ _ (.inl rfl) e⟩
  | xd fs => obtain ⟨mA, ⟨od, es, ep, e, c⟩, r⟩ := x; exact ⟨mA, ⟨od, es, ep, k _ _ (.inl rfl) e, c⟩, r⟩
  | rng lo hi => obtain ⟨t, u, v, e⟩ := x; exact ⟨t, u, v, k _ _ (.inl rfl) e⟩
  | frz ob u ih => obtain ⟨e, q⟩ := x; exact ⟨k _ _ (.inl rfl) e, ih q⟩
  | tbl ps =>
    have e : h.get? a = some { cls := .none, data := .fields ps } := x
    show h'.get? a = some { cls := .none, data := .fields ps }
    exact k a _ (.inl rfl) e
  | met f y =>
    have e : h.get? a = some (PySem.W.methodObj (.ref f) (.ref y)) := x
    show h'.get? a = some (PySem.W.methodObj (.ref f) (.ref y))
    exact k a _ (.inl rfl) e
  | ext φ => obtain ⟨p, ⟨o, e⟩, st⟩ := x; exact ⟨st _ _ p fun o q => k _ _ (.inl rfl) q, ⟨o, k _ _ (.inl rfl) e⟩, st⟩
theorem HOk.lt (x : HOk P w H h) (e : H a = some o) : a < h.objs.size := (x a o e).lt
theorem HOk.fresh (x : HOk P w H h) (e : h.objs.size ≤ a) : H a = none := by
  cases q : H a with
  | none => rfl
  | some u => exact absurd (Nat.lt_of_lt_of_le (x.lt q) e) (Nat.lt_irrefl _)
theorem HOk.kept (x : HOk P w H h) (k : ∀ b u, h.get? b = some u → h'.get? b = some u) : HOk P w H h' := fun a o e =>
  (x a o e).stay (fun b u _ q => k b u q) (fun _ q => q) fun _ _ q => q
theorem HOk.laid (x : HOk P w H h) (k : ∀ b u, h.get? b = some u → h'.get? b = some u) (hp : h.objs.size ≤ a) (new : ObjOk P w (upd H a o) h' a o) : HOk P w (upd H a o) h' := fun b u e => by
  have hn := x.fresh hp
  by_cases hb : b = a
  · subst hb; rw [upd_same] at e; cases e; exact new
  · rw [upd_ne hb] at e
    exact (x b u e).stay (fun c v _ q => k c v q) (fun c q => by rw [upd_ne (ne_of_none q hn)]; exact q) fun c xs q => by rw [upd_ne (ne_of_none q hn)]; exact q
end
noncomputable def Rd (H : Hp) (a : Addr) (u : HO) : Prop := H a = some u ∨ ∃ o, H a = some (.frz o u)
theorem Rd.of {H : Hp} {a : Addr} {u : HO} (h : H a = some u) : Rd H a u := .inl h
theorem Rd.ok {P : Program} {w : World} {H : Hp} {h : Heap} {a : Addr} {u : HO} (r : Rd H a u) (x : HOk P w H h) : ObjOk P w H h a u := by
  rcases r with r | ⟨o, r⟩
  · exact x a u r
  · obtain ⟨_, q⟩ := x a _ r
    exact q
noncomputable def Mut : Option HO → Prop
  | some (.lst _) => True
  | some (.dK _) => True
  | some (.dT _) => True
  | some (.set _ _) => True
  | some (.ins _ _ _) => True
  | some (.ext _) => True
  | _ => False
section
variable {P : Program} {w : World} {H : Hp} {h h' : Heap} {x e : Addr} {o' : HO}
theorem HOk.write (ok : HOk P w H h) (mu : Mut (H x)) (he : e = x ∨ H e = some (.own x)) (k : ∀ b u, b ≠ e → h.get? b = some u → h'.get? b = some u) (heo : ∃ u, h'.get? e = some u)
    (new : ObjOk P w (upd H x o') h' x o') : HOk P w (upd H x o') h' := fun b u q => by
  have nown : ∀ c y, H c = some (.own y) → c ≠ x := fun c y r z => by subst z; rw [r] at mu; exact mu
  have ntup : ∀ c xs, H c = some (.tup xs) → c ≠ x := fun c xs r z => by subst z; rw [r] at mu; exact mu
  by_cases hb : b = x
  · subst hb; rw [upd_same] at q; cases q; exact new
  · rw [upd_ne hb] at q
    by_cases hbe : b = e
    · have q' : H b = some (.own x) := by
        rcases he with z | z
        · exact absurd (hbe.trans z) hb
        · rw [hbe]; exact z
      rw [q] at q'; cases q'
      obtain ⟨v, hv⟩ := heo
      exact ⟨v, by rw [hbe]; exact hv⟩
    · refine (ok b u q).stay (fun c v hc r => k c v ?_ r) (fun c r => by rw [upd_ne (nown c b r)]; exact r) fun c xs r => by rw [upd_ne (ntup c xs r)]; exact r
      rcases hc with rfl | hc
      · exact hbe
      · rintro rfl
        rcases he with z | z
        · exact nown c b hc z
        · rw [hc] at z; cases z; exact hb rfl
end
structure Un (fs ex : List Addr) (H H' : Hp) (h h' : Heap) : Prop where
  keep : ∀ b o, h.get? b = some o → H b = none → b ∉ fs → b ∉ ex → h'.get? b = some o
  slot : ∀ b o, h.get? b = some o → H b = none → b ∈ fs → b ∉ ex → ∃ sl, h'.get? b = some { o with slots := sl }
  free : ∀ b o, h.get? b = some o → H b = none → b ∉ ex → H' b = none
  there : ∀ b o, h.get? b = some o → b ∉ ex → ∃ o', h'.get? b = some o'
  tups : ∀ b xs, H b = some (.tup xs) → H' b = some (.tup xs)
  frzs : ∀ b o u, H b = some (.frz o u) → H' b = some (.frz o u)
  tbls : ∀ b ps, H b = some (.tbl ps) → ∃ more, H' b = some (.tbl (ps ++ more))
section
variable {fs fs' ex ex' : List Addr} {H H1 H2 : Hp} {h h1 h2 h' : Heap} {a x e : Addr} {o : HO}
theorem Un.any (u : Un fs ex H H1 h h1) {b : Addr} {ob : Obj} (q : h.get? b = some ob) (n : H b = none) (hx : b ∉ ex) : ∃ sl, h1.get? b = some { ob with slots := sl } := by
  by_cases hb : b ∈ fs
  · exact u.slot b ob q n hb hx
  · exact ⟨ob.slots, u.keep b ob q n hb hx⟩
theorem Un.trans (a : Un fs ex H H1 h h1) (b : Un fs ex H1 H2 h1 h2) : Un fs ex H H2 h h2 where
  keep := fun c ob q n hc hx => b.keep c ob (a.keep c ob q n hc hx) (a.free c ob q n hx) hc hx
  slot := fun c ob q n hc hx => by
    obtain ⟨sl, e1⟩ := a.slot c ob q n hc hx
    obtain ⟨sl', e2⟩ := b.slot c _ e1 (a.free c ob q n hx) hc hx
    exact ⟨sl', e2⟩
  free := fun c ob q n hx => by
    obtain ⟨o', e1⟩ := a.there c ob q hx
    exact b.free c o' e1 (a.free c ob q n hx) hx
  there := fun c ob q hx => by
    obtain ⟨o', e1⟩ := a.there c ob q hx
    exact b.there c o' e1 hx
  tups := fun c xs q => b.tups c xs (a.tups c xs q)
  frzs := fun c ob xs q => b.frzs c ob xs (a.frzs c ob xs q)
  tbls := fun c ps q => by
    obtain ⟨m1, e1⟩ := a.tbls c ps q
    obtain ⟨m2, e2⟩ := b.tbls c _ e1
    exact ⟨m1 ++ m2, by rw [e2, Array.append_assoc]⟩
theorem Un.kept (k : ∀ b u, h.get? b = some u → h'.get? b = some u) : Un fs ex H H h h' :=
  ⟨fun b ob q _ _ _ => k b ob q, fun b ob q _ _ _ => ⟨ob.slots, k b ob q⟩, fun _ _ _ n _ => n, fun b ob q _ => ⟨ob, k b ob q⟩, fun _ _ q => q, fun _ _ _ q => q, fun _ ps q => ⟨#[], by rw [q]; simp⟩⟩
theorem Un.refl : Un fs ex H H h h := Un.kept fun _ _ q => q
theorem Un.laid (k : ∀ b u, h.get? b = some u → h'.get? b = some u) (hp : h.objs.size ≤ a) (hn : H a = none) : Un fs ex H (upd H a o) h h' where
  keep := fun b u q _ _ _ => k b u q
  slot := fun b u q _ _ _ => ⟨u.slots, k b u q⟩
  free := fun b u q n _ => by rw [upd_ne (Nat.ne_of_lt (Nat.lt_of_lt_of_le (Heap.lt_size q) hp))]; exact n
  there := fun b u q _ => ⟨u, k b u q⟩
  tups := fun b xs q => by rw [upd_ne (ne_of_none q hn)]; exact q
  frzs := fun b u xs q => by rw [upd_ne (ne_of_none q hn)]; exact q
  tbls := fun b ps q => ⟨#[], by rw [upd_ne (ne_of_none q hn), q]; simp⟩
theorem Un.write (mu : Mut (H x)) (he : e = x ∨ H e = some (.own x)) (k : ∀ b u, b ≠ e → h.get? b = some u → h'.get? b = some u) (heo : ∃ u, h'.get? e = some u) : Un fs ex H (upd H x o) h h' := by
  have hx : ∀ b, H b = none → b ≠ x := fun b n z => by subst z; rw [n] at mu; exact mu
  have hb : ∀ b, H b = none → b ≠ e := fun b n z => by
    subst z
    rcases he with r | r
    · exact hx b n r
    · rw [n] at r; cases r
  have hm : ∀ b u, H b = some u → ¬ Mut (some u) → b ≠ x := fun b u q nm z => by subst z; rw [q] at mu; exact nm mu
  refine ⟨fun b u q n _ _ => k b u (hb b n) q, fun b u q n _ _ => ⟨u.slots, k b u (hb b n) q⟩, fun b u q n _ => by rw [upd_ne (hx b n)]; exact n, fun b u q _ => ?_,
    fun b xs q => by rw [upd_ne (hm b _ q fun z => z)]; exact q, fun b u xs q => by rw [upd_ne (hm b _ q fun z => z)]; exact q, fun b ps q => ⟨#[], by rw [upd_ne (hm b _ q fun z => z), q]; simp⟩⟩
  by_cases hbe : b = e
  · subst hbe; exact heo
  · exact ⟨u, k b u hbe q⟩
theorem Un.mono (u : Un fs ex H H1 h h1) (hs : ∀ b ∈ fs, b ∈ fs') (hx : ∀ b ∈ ex, b ∈ ex') : Un fs' ex' H H1 h h1 :=
  ⟨fun b ob q n hb he => u.keep b ob q n (fun z => hb (hs b z)) fun z => he (hx b z), fun _ _ q n _ he => u.any q n fun z => he (hx _ z), fun b ob q n he => u.free b ob q n fun z => he (hx b z), fun b ob q he => u.there b ob q fun z => he (hx b z), u.tups, u.frzs, u.tbls⟩
end
noncomputable def trk (h : Heap) (H : Hp) : List Addr := (List.range h.objs.size).filter fun a => (H a).isSome
noncomputable def hidT (h : Heap) (H : Hp) : Heap := PySem.W.hideAll h (trk h H)
theorem hidT_size (h : Heap) (H : Hp) : (hidT h H).objs.size = h.objs.size := PySem.W.hideAll_size _ _
theorem hidT_get {h : Heap} {H : Hp} {b : Addr} {o : Obj} (e : h.get? b = some o) (n : H b = none) : (hidT h H).get? b = some o :=
  PySem.W.hideAll_get _ e fun hm => by
    have q : (H b).isSome = true := (List.mem_filter.mp hm).2
    rw [n] at q; simp at q
theorem of_hidT {h : Heap} {H : Hp} {b : Addr} {o : Obj} (e : (hidT h H).get? b = some o) : h.get? b = some o ∧ H b = none := by
  have e' : h.get? b = some o := PySem.W.of_hideAll (trk h H) e
  refine ⟨e', ?_⟩
  cases q : H b with
  | none => rfl
  | some x =>
    have hm : b ∈ trk h H := List.mem_filter.mpr ⟨List.mem_range.mpr (Heap.lt_size e'), by simp [q]⟩
    have z : (hidT h H).get? b = none := PySem.W.hideAll_none (trk h H) hm
    rw [z] at e; cases e
noncomputable def allNews (g h : Heap) (L : Addr) : List (Addr × Obj) := (List.range h.objs.size).filterMap fun a => if a = L ∨ (g.get? a).isSome = true then none else (h.get? a).map fun o => (a, o)
noncomputable def rest (g h : Heap) (L d : Addr) : List (Addr × Obj) := (allNews g h L).filter fun p => decide (p.1 ≠ d)
end L2
namespace L2
open PySem PySem.Spec PyProof.Rows
structure Mod (K : PySem.W.Frag) (mg : Str → Option Value) (base : Heap) : Prop where
  kin : K.In base
  glob : base.Ns mainGlobals mg
  blt : ∃ mb, base.Ns builtinsNs mb ∧ ∀ x : Str, x ≠ "__name__" → mb x = bootBuiltins x
  nolimit : base.NoLimit
structure Cx where
  prog : Program
  w : World
  K : PySem.W.Frag
  mg : Str → Option Value
  base : Heap
  A : Around
  N : List Str
  s₀ : Shared
  H₀ : Hp
  env : Env
  outer : List Env
  stack : List Env
  ex : List Addr
  fn : Str → Bool
  calm : Bool
  pn : List (Addr × Obj)
  xe : Value → Shared → Prop
noncomputable def frs (l : List Env) : List Addr := l.filterMap (·.frame)
noncomputable abbrev Cx.fs (X : Cx) : List Addr := frs X.outer
noncomputable def Vis (sc : Scope) (x : Str) : Prop := sc.names.lookup x = some .local ∨ sc.names.lookup x = some .cell ∨ sc.names.lookup x = some .free
noncomputable def Loc (sc : Scope) (x : Str) : Prop := sc.names.lookup x = some .local ∨ sc.names.lookup x = some .cell
noncomputable def Look (env : Env) (h : Heap) (m : Str → Option Value) (x : Str) (u : Value) : Prop :=
  (env.kindOf x = some .local ∧ m x = some u) ∨ ((env.kindOf x = some .cell ∨ env.kindOf x = some .free) ∧ ∃ c, env.cells.lookup x = some c ∧ h.IsCell c (some u))
structure Cx.Ok (X : Cx) : Prop where
  mod : Mod X.K X.mg X.base
  kind : X.env.scope.kind = .function
  glob : X.env.globals = mainGlobals
  blt : X.env.builtins = builtinsNs
  above : X.s₀.heap.objs.size ≤ X.env.locals
  inj : ∀ x y c, X.env.cells.lookup x = some c → X.env.cells.lookup y = some c → x = y
  has : ∀ x, (X.env.kindOf x = some .cell ∨ X.env.kindOf x = some .free) → ∃ c, X.env.cells.lookup x = some c
  cab : ∀ x c, X.fn x = true → X.env.cells.lookup x = some c → X.s₀.heap.objs.size ≤ c
  hd : X.calm = true → X.A.handled = none
  frames : X.A.frames = some X.stack
  stk : X.stack = X.outer ∨ (X.stack = X.env :: X.outer ∧ X.env.frame = some X.env.locals)
  exf : ∀ b ∈ X.ex, b ≠ X.env.locals ∧ ∀ x c, X.env.cells.lookup x = some c → c ≠ b
  bs : ∀ b o, X.base.get? b = some o → X.s₀.heap.get? b = some o ∧ X.H₀ b = none
  bsz : X.base.objs.size ≤ X.s₀.heap.objs.size
  noex : ∀ b o, X.base.get? b = some o → b ∉ X.ex
  exfs : ∀ b ∈ X.ex, b ∉ X.fs
  funs : X.s₀.heap.FunFrames X.base X.outer
  frf : ∀ b ∈ X.fs, X.H₀ b = none
structure Inv (X : Cx) (pins : List (Addr × Obj)) (σ : List (Option V)) (H : Hp) (s : Shared) : Prop where
  ok : X.Ok
  os : s.os = X.s₀.os
  bare : AllBare s.gens
  base : Un X.fs X.ex X.H₀ H X.s₀.heap s.heap
  loc : ∃ m, s.heap.Ns X.env.locals m ∧ ∀ (i : Nat) (x : Str) (v : V), X.N[i]? = some x → σ[i]? = some (some v) → Vis X.env.scope x → ∃ u, RelV v u ∧ Look X.env s.heap m x u
  cell : ∀ x c, X.env.cells.lookup x = some c → ∃ v, s.heap.IsCell c v
  free : H X.env.locals = none
  freeC : ∀ x c, X.env.cells.lookup x = some c → H c = none
  pin : ∀ p ∈ X.pn ++ pins, s.heap.get? p.1 = some p.2 ∧ H p.1 = none ∧ p.1 ≠ X.env.locals ∧ p.1 ∉ X.fs ∧ ∀ v, p.2.data ≠ .cell v
  hok : HOk X.prog X.w H s.heap
  len : σ.length = X.N.length
section
variable {X : Cx} {pins : List (Addr × Obj)} {σ : List (Option V)} {H H' : Hp} {s : Shared} {h' : Heap}
theorem Cx.Ok.nofr (ok : X.Ok) {b : Addr} {o : Obj} (e : X.base.get? b = some o) : b ∉ X.fs := fun hb => by
  have := (ok.funs.mem hb).1
  rw [e] at this; cases this
theorem Inv.bs (I : Inv X pins σ H s) : ∀ b o, X.base.get? b = some o → s.heap.get? b = some o ∧ H b = none := fun b o e =>
  ⟨I.base.keep b o (I.ok.bs b o e).1 (I.ok.bs b o e).2 (I.ok.nofr e) (I.ok.noex b o e), I.base.free b o (I.ok.bs b o e).1 (I.ok.bs b o e).2 (I.ok.noex b o e)⟩
theorem Inv.bk (I : Inv X pins σ H s) : ∀ b o, X.base.get? b = some o → s.heap.get? b = some o := fun b o e => (I.bs b o e).1
theorem Inv.mod (I : Inv X pins σ H s) : Mod X.K X.mg X.base := I.ok.mod
theorem Inv.kIn (I : Inv X pins σ H s) : X.K.In s.heap := I.ok.mod.kin.keeps I.bk
theorem Inv.nolimit (I : Inv X pins σ H s) : s.heap.NoLimit := I.ok.mod.nolimit.keeps I.bk
theorem Inv.fr (I : Inv X pins σ H s) : ∃ m, Fr X.base X.env.locals s.heap m :=
  let ⟨m, hn, _⟩ := I.loc
  ⟨m, hn, I.bk, Nat.le_trans I.ok.bsz I.ok.above⟩
theorem Inv.lt (I : Inv X pins σ H s) : X.env.locals < s.heap.objs.size := let ⟨_, hn, _⟩ := I.loc; hn.lt
theorem Inv.sz (I : Inv X pins σ H s) : X.s₀.heap.objs.size ≤ s.heap.objs.size := Nat.le_trans I.ok.above (Nat.le_of_lt I.lt)
theorem Inv.nofs (I : Inv X pins σ H s) {a : Addr} (h : s.heap.objs.size ≤ a) : a ∉ X.fs := fun hb => by
  obtain ⟨_, o, ho, _⟩ := I.ok.funs.mem hb
  exact absurd (Nat.lt_of_lt_of_le (Heap.lt_size ho) (Nat.le_trans I.sz h)) (Nat.lt_irrefl _)
theorem Inv.cne (I : Inv X pins σ H s) : ∀ x c, X.env.cells.lookup x = some c → c ≠ X.env.locals := fun x c e z => by
  obtain ⟨v, o, ho, hd⟩ := I.cell x c e
  obtain ⟨m, ⟨o', es, ep, ho', hd', _⟩, _⟩ := I.loc
  rw [z, ho'] at ho; cases ho; rw [hd'] at hd; cases hd
theorem Inv.funs (I : Inv X pins σ H s) : s.heap.FunFrames X.base X.outer := by
  have all : ∀ (l : List Env), (∀ b ∈ frs l, b ∈ X.fs) → X.s₀.heap.FunFrames X.base l → s.heap.FunFrames X.base l := by
    intro l
    induction l with
    | nil => intro _ _; trivial
    | cons env r ih =>
      intro hs hl
      obtain ⟨hk, ⟨L, o, hf, hn, ho, hd⟩, hr⟩ := hl
      have hL : L ∈ X.fs := hs L (by unfold frs; rw [List.filterMap_cons, hf]; exact List.mem_cons_self)
      obtain ⟨sl, e⟩ := I.base.slot L o ho (I.ok.frf L hL) hL fun z => I.ok.exfs L z hL
      exact ⟨hk, ⟨L, _, hf, hn, e, hd⟩, ih (fun b hb => hs b (by unfold frs; rw [List.filterMap_cons, hf]; exact List.mem_cons_of_mem _ hb)) hr⟩
  exact all X.outer (fun _ hb => hb) I.ok.funs
theorem Inv.stack (I : Inv X pins σ H s) : s.heap.FunFrames X.base X.stack := by
  rcases I.ok.stk with e | ⟨e, hf⟩
  · rw [e]; exact I.funs
  · rw [e]
    obtain ⟨m, hn, _⟩ := I.loc
    refine .cons (by rw [I.ok.kind]; decide) hf hn ?_ I.funs
    exact Heap.get?_none_of_le (Nat.le_trans I.ok.bsz I.ok.above)
theorem Inv.stkSub (I : Inv X pins σ H s) : ∀ b ∈ frs X.stack, b ∈ X.env.locals :: X.fs := fun b hb => by
  rcases I.ok.stk with e | ⟨e, hf⟩
  · rw [e] at hb; exact List.mem_cons_of_mem _ hb
  · rw [e] at hb
    unfold frs at hb
    rw [List.filterMap_cons, hf] at hb
    exact hb
theorem Inv.stkFree (I : Inv X pins σ H s) : ∀ b ∈ frs X.stack, H b = none := fun b hb => by
  rcases List.mem_cons.mp (I.stkSub b hb) with e | hb
  · rw [e]; exact I.free
  · obtain ⟨_, o, ho, _⟩ := I.ok.funs.mem hb
    exact I.base.free b o ho (I.ok.frf b hb) fun z => I.ok.exfs b z hb
theorem Inv.step {g' : Array GenState} {t' : Nat} {d' : Drawn} {ch : List Addr} (I : Inv X pins σ H s)
    (hch : ∀ b ∈ ch, (b ∈ X.ex ∨ X.s₀.heap.objs.size ≤ b) ∧ b ≠ X.env.locals ∧ (∀ x c, X.env.cells.lookup x = some c → c ≠ b) ∧ ∀ p ∈ X.pn ++ pins, p.1 ≠ b)
    (keep : ∀ b o, b ≠ X.env.locals → b ∉ X.fs → b ∉ ch → s.heap.get? b = some o → H b = none → h'.get? b = some o)
    (slot : ∀ b o, b ≠ X.env.locals → b ∈ X.fs → b ∉ ch → s.heap.get? b = some o → H b = none → ∃ sl, h'.get? b = some { o with slots := sl }) (free : ∀ b o, b ∉ ch → s.heap.get? b = some o → H b = none → H' b = none)
    (there : ∀ b o, b ∉ ch → s.heap.get? b = some o → ∃ o', h'.get? b = some o')
    (tups : ∀ b xs, H b = some (.tup xs) → H' b = some (.tup xs)) (frzs : ∀ b o u, H b = some (.frz o u) → H' b = some (.frz o u)) (tbls : ∀ b ps, H b = some (.tbl ps) → ∃ more, H' b = some (.tbl (ps ++ more)))
    (ns : ∀ m, s.heap.Ns X.env.locals m → h'.Ns X.env.locals m) (hok : HOk X.prog X.w H' h') (hg : AllBare g') :
    Inv X pins σ H' { s with heap := h', gens := g', drawn := d', toks := t' } := by
  have neL : ∀ b o, X.s₀.heap.get? b = some o → b ≠ X.env.locals := fun b o e => Nat.ne_of_lt (Nat.lt_of_lt_of_le (Heap.lt_size e) I.ok.above)
  have neC : ∀ b o, X.s₀.heap.get? b = some o → b ∉ X.ex → b ∉ ch := fun b o e hx hb => by
    rcases (hch b hb).1 with z | z
    · exact hx z
    · exact absurd (Nat.lt_of_lt_of_le (Heap.lt_size e) z) (Nat.lt_irrefl _)
  have cellK : ∀ x c, X.env.cells.lookup x = some c → ∀ v, s.heap.IsCell c v → h'.IsCell c v := fun x c e v hh0_ => by
    obtain ⟨o, ho, hd⟩ := hh0_
    have nch : c ∉ ch := fun z => (hch c z).2.2.1 x c e rfl
    by_cases hc : c ∈ X.fs
    · obtain ⟨sl, q⟩ := slot c o (I.cne x c e) hc nch ho (I.freeC x c e)
      exact ⟨_, q, hd⟩
    · exact ⟨o, keep c o (I.cne x c e) hc nch ho (I.freeC x c e), hd⟩
  refine ⟨I.ok, I.os, hg, ⟨fun b o e n hb hx => ?_, fun b o e n hb hx => ?_, fun b o e n hx => ?_, fun b o e hx => ?_, fun b xs e => tups b xs (I.base.tups b xs e), fun b o xs e => frzs b o xs (I.base.frzs b o xs e), fun b ps e => ?_⟩, ?_, fun x c e => ?_, ?_, fun x c e => ?_, fun p hp => ?_, hok, I.len⟩
  · exact keep b o (neL b o e) hb (neC b o e hx) (I.base.keep b o e n hb hx) (I.base.free b o e n hx)
  · obtain ⟨sl, e1⟩ := I.base.slot b o e n hb hx
    obtain ⟨sl', e2⟩ := slot b _ (neL b o e) hb (neC b o e hx) e1 (I.base.free b o e n hx)
    exact ⟨sl', e2⟩
  · obtain ⟨o', e1⟩ := I.base.there b o e hx
    exact free b o' (neC b o e hx) e1 (I.base.free b o e n hx)
  · obtain ⟨o', e1⟩ := I.base.there b o e hx
    exact there b o' (neC b o e hx) e1
  · obtain ⟨m1, e1⟩ := I.base.tbls b ps e
    obtain ⟨m2, e2⟩ := tbls b _ e1
    exact ⟨m1 ++ m2, by rw [e2, Array.append_assoc]⟩
  · obtain ⟨m, hn, hl⟩ := I.loc
    refine ⟨m, ns m hn, fun i x v e1 e2 e3 => ?_⟩
    obtain ⟨u, r, l⟩ := hl i x v e1 e2 e3
    refine ⟨u, r, ?_⟩
    rcases l with l | ⟨k, c, e, z⟩
    · exact .inl l
    · exact .inr ⟨k, c, e, cellK x c e _ z⟩
  · obtain ⟨v, z⟩ := I.cell x c e
    exact ⟨v, cellK x c e v z⟩
  · obtain ⟨m, ⟨o, _, _, ho, _⟩, _⟩ := I.loc
    exact free _ o (fun z => (hch _ z).2.1 rfl) ho I.free
  · obtain ⟨v, o, ho, hd⟩ := I.cell x c e
    exact free c o (fun z => (hch c z).2.2.1 x c e rfl) ho (I.freeC x c e)
  · obtain ⟨e, n, ne, nf, d⟩ := I.pin p hp
    have nch : p.1 ∉ ch := fun z => (hch p.1 z).2.2.2 p hp rfl
    exact ⟨keep p.1 p.2 ne nf nch e n, free p.1 p.2 nch e n, ne, nf, d⟩
theorem Inv.un {t' : Nat} (I : Inv X pins σ H s) (u : Un X.fs [] H H' s.heap h') (hok : HOk X.prog X.w H' h') : Inv X pins σ H' { s with heap := h', toks := t' } := by
  obtain ⟨m, ⟨o, es, ep, ho, r⟩, _⟩ := id I.loc
  obtain ⟨sl, hL⟩ := u.any ho I.free (by simp)
  exact I.step (g' := s.gens) (d' := s.drawn) (ch := []) (fun _ z => nomatch z) (fun b o _ hb _ e n => u.keep b o e n hb (by simp)) (fun b o _ hb _ e n => u.slot b o e n hb (by simp)) (fun b o _ e n => u.free b o e n (by simp)) (fun b o _ e => u.there b o e (by simp)) u.tups u.frzs u.tbls (fun m' hm => by
    obtain ⟨o', es', ep', ho', r'⟩ := hm
    rw [ho] at ho'; cases ho'
    exact ⟨_, es', ep', hL, r'⟩) hok I.bare
theorem Inv.call {g' : Array GenState} {t' : Nat} {d' : Drawn} {ch : List Addr} (I : Inv X pins σ H s) (u : Un (frs X.stack) ch H H' s.heap h') (hok : HOk X.prog X.w H' h') (hg : AllBare g')
    (hch : ∀ b ∈ ch, (b ∈ X.ex ∨ X.s₀.heap.objs.size ≤ b) ∧ b ≠ X.env.locals ∧ (∀ x c, X.env.cells.lookup x = some c → c ≠ b) ∧ ∀ p ∈ X.pn ++ pins, p.1 ≠ b) :
    Inv X pins σ H' { s with heap := h', gens := g', drawn := d', toks := t' } := by
  obtain ⟨m, ⟨o, es, ep, ho, r⟩, _⟩ := id I.loc
  obtain ⟨sl, hL⟩ := u.any ho I.free fun z => (hch _ z).2.1 rfl
  exact I.step (ch := ch) hch (fun b o hL hb hc e n => u.keep b o e n (fun z => (List.mem_cons.mp (I.stkSub b z)).elim hL hb) hc) (fun b o _ _ hc e n => u.any e n hc) (fun b o hc e n => u.free b o e n hc) (fun b o hc e => u.there b o e hc) u.tups u.frzs u.tbls (fun m' hm => by
    obtain ⟨o', es', ep', ho', r'⟩ := hm
    rw [ho] at ho'; cases ho'
    exact ⟨_, es', ep', hL, r'⟩) hok hg
theorem Inv.turned {t' : Nat} {it : Addr} (I : Inv X pins σ H s) (k : ∀ b o, b ≠ it → s.heap.get? b = some o → h'.get? b = some o) (hn : H it = none) (hL : it ≠ X.env.locals)
    (h1 : it ∈ X.ex ∨ X.s₀.heap.objs.size ≤ it) (h2 : ∀ x c, X.env.cells.lookup x = some c → c ≠ it) (h3 : ∀ p ∈ X.pn ++ pins, p.1 ≠ it) : Inv X pins σ H { s with heap := h', toks := t' } := by
  have nit : ∀ b u, H b = some u → b ≠ it := fun b u e z => by rw [z, hn] at e; cases e
  refine I.step (g' := s.gens) (d' := s.drawn) (ch := [it]) (fun b hb => ?_) (fun b o _ _ hc e _ => k b o (fun z => hc (by simp [z])) e) (fun b o _ _ hc e _ => ⟨o.slots, k b o (fun z => hc (by simp [z])) e⟩) (fun _ _ _ _ n => n)
    (fun b o hc e => ⟨o, k b o (fun z => hc (by simp [z])) e⟩) (fun _ _ e => e) (fun _ _ _ e => e) (fun b ps e => ⟨#[], by rw [e]; simp⟩) (fun m hm => ?_) (fun b u e => ?_) I.bare
  · have e : b = it := by simpa using hb
    subst e
    exact ⟨h1, hL, h2, h3⟩
  · obtain ⟨o, es, ep, ho, r⟩ := hm
    exact ⟨o, es, ep, k _ o (Ne.symm hL) ho, r⟩
  · refine (I.hok b u e).stay (fun c v hc q => k c v ?_ q) (fun _ q => q) fun _ _ q => q
    rcases hc with z | z
    · rw [z]; exact nit b u e
    · exact nit c _ z
theorem Inv.tok (I : Inv X pins σ H s) (t : Nat) : Inv X pins σ H { s with toks := t } := I.un (h' := s.heap) (t' := t) Un.refl I.hok
theorem Inv.kept {t' : Nat} (I : Inv X pins σ H s) (k : ∀ b u, s.heap.get? b = some u → h'.get? b = some u) : Inv X pins σ H { s with heap := h', toks := t' } := I.un (Un.kept k) (I.hok.kept k)
theorem Inv.laid {a : Addr} {o : HO} {t' : Nat} (I : Inv X pins σ H s) (k : ∀ b u, s.heap.get? b = some u → h'.get? b = some u) (hp : s.heap.objs.size ≤ a) (new : ObjOk X.prog X.w (upd H a o) h' a o) :
    Inv X pins σ (upd H a o) { s with heap := h', toks := t' } := I.un (Un.laid k hp (I.hok.fresh hp)) (I.hok.laid k hp new)
theorem Inv.write {x e : Addr} {o : HO} {t' : Nat} (I : Inv X pins σ H s) (mu : Mut (H x)) (he : e = x ∨ H e = some (.own x)) (k : ∀ b u, b ≠ e → s.heap.get? b = some u → h'.get? b = some u) (heo : ∃ u, h'.get? e = some u)
    (new : ObjOk X.prog X.w (upd H x o) h' x o) : Inv X pins σ (upd H x o) { s with heap := h', toks := t' } := I.un (Un.write mu he k heo) (I.hok.write mu he k heo new)
theorem Inv.weak {σ' : List (Option V)} (I : Inv X pins σ H s) (hl : σ'.length = σ.length) (w : ∀ (i : Nat) v, σ'[i]? = some (some v) → σ[i]? = some (some v)) : Inv X pins σ' H s :=
  ⟨I.ok, I.os, I.bare, I.base, let ⟨m, hn, hl'⟩ := I.loc; ⟨m, hn, fun i x v e1 e2 e3 => hl' i x v e1 (w i v e2) e3⟩, I.cell, I.free, I.freeC, I.pin, I.hok, hl.trans I.len⟩
theorem Inv.pins_of {pins' : List (Addr × Obj)} (I : Inv X pins σ H s) (h : ∀ p ∈ pins', s.heap.get? p.1 = some p.2 ∧ H p.1 = none ∧ p.1 ≠ X.env.locals ∧ p.1 ∉ X.fs ∧ ∀ v, p.2.data ≠ .cell v) : Inv X pins' σ H s :=
  ⟨I.ok, I.os, I.bare, I.base, I.loc, I.cell, I.free, I.freeC, fun p hp => (List.mem_append.mp hp).elim (fun z => I.pin p (List.mem_append_left _ z)) (h p), I.hok, I.len⟩
theorem nodup_ix {N : List Str} (hN : N.Nodup) {i j : Nat} {x : Str} (a : N[i]? = some x) (b : N[j]? = some x) : i = j := by
  obtain ⟨h1, e1⟩ := List.getElem?_eq_some_iff.mp a
  obtain ⟨h2, e2⟩ := List.getElem?_eq_some_iff.mp b
  exact (List.getElem_inj hN).mp (e1.trans e2.symm)
theorem store_ok2 {M : Model} {A : Around} {E : Value → Shared → Prop} {i : Nat} {x : Str} {v : V} {u : Value} {Q : Unit → Shared → Prop} (I : Inv X pins σ H s) (hN : X.N.Nodup) (hi : X.N[i]? = some x) (hx : Loc X.env.scope x) (r : RelV v u)
    (h : ∀ s', Inv X pins (σ.set i (some v)) H s' → (∃ a, Heap.SameBut a s.heap s'.heap ∧ (a = X.env.locals ∨ X.env.cells.lookup x = some a)) → Q () s') (hf : X.fn x = true ∨ X.env.scope.names.lookup x = some .local := by first | exact .inl rfl | exact .inr rfl | assumption) : wpAny M A (storeName X.env x u) Q E s := by
  obtain ⟨m, hn, hl⟩ := id I.loc
  have hcls : (X.env.scope.kind == .class || (X.env.scope.kind == .module && X.env.locals != X.env.globals)) = false := by rw [I.ok.kind]; rfl
  have hiσ : i < σ.length := by rw [I.len]; exact (List.getElem?_eq_some_iff.mp hi).1
  have cne := I.cne
  have tracked : ∀ {a : Addr} {h' : Heap}, (∃ o, s.heap.get? a = some o ∧ H a = none) → Heap.SameBut a s.heap h' → HOk X.prog X.w H h' := fun {a h'} ha hs b ob e => by
    obtain ⟨_, _, hfree⟩ := ha
    refine (I.hok b ob e).stay (fun c w' hc q => (hs.2 c ?_).trans q) (fun _ q => q) fun _ _ q => q
    rintro rfl
    rcases hc with rfl | hc
    · rw [hfree] at e; cases e
    · rw [hfree] at hc; cases hc
  rcases hx with hk | hk
  · refine wpAny_storeName_local hk hn (fun h' hn' hs => ?_) hcls
    obtain ⟨oL, _, _, hoL, _⟩ := id hn
    refine h _ ⟨I.ok, I.os, I.bare, ⟨fun b o e n hb hx => ?_, fun b o e n hb hx => ?_, I.base.free, fun b o e hx => ?_, I.base.tups, I.base.frzs, I.base.tbls⟩, ⟨_, hn', fun j y v' e1 e2 e3 => ?_⟩, fun y c e => ?_, I.free, I.freeC, fun p hp => ?_, tracked ⟨oL, hoL, I.free⟩ hs, by simpa using I.len⟩ ⟨_, hs, .inl rfl⟩
    · exact (hs.2 b (Nat.ne_of_lt (Nat.lt_of_lt_of_le (Heap.lt_size e) I.ok.above))).trans (I.base.keep b o e n hb hx)
    · obtain ⟨sl, e1⟩ := I.base.slot b o e n hb hx
      exact ⟨sl, (hs.2 b (Nat.ne_of_lt (Nat.lt_of_lt_of_le (Heap.lt_size e) I.ok.above))).trans e1⟩
    · obtain ⟨o', e1⟩ := I.base.there b o e hx
      exact ⟨o', (hs.2 b (Nat.ne_of_lt (Nat.lt_of_lt_of_le (Heap.lt_size e) I.ok.above))).trans e1⟩
    · by_cases hj : j = i
      · subst hj
        rw [hi] at e1; cases e1
        rw [List.getElem?_set_self hiσ] at e2
        cases e2
        exact ⟨u, r, .inl ⟨hk, by simp⟩⟩
      · rw [List.getElem?_set_ne (Ne.symm hj)] at e2
        obtain ⟨u', r', q⟩ := hl j y v' e1 e2 e3
        refine ⟨u', r', ?_⟩
        rcases q with ⟨k, e⟩ | ⟨k, c, e, z⟩
        · refine .inl ⟨k, ?_⟩
          have : y ≠ x := fun e => hj (nodup_ix hN e1 (e ▸ hi))
          simp [this, e]
        · exact .inr ⟨k, c, e, z.sameBut hs (cne y c e)⟩
    · obtain ⟨w', z⟩ := I.cell y c e
      exact ⟨w', z.sameBut hs (cne y c e)⟩
    · obtain ⟨e, n, ne, nf, d⟩ := I.pin p hp
      exact ⟨(hs.2 p.1 ne).trans e, n, ne, nf, d⟩
  · have hfn : X.fn x = true := by
      rcases hf with z | z
      · exact z
      · rw [z] at hk; cases hk
    obtain ⟨c, hc⟩ := I.ok.has x (.inl hk)
    obtain ⟨w', z⟩ := I.cell x c hc
    refine wpAny_storeName_cell I.ok.kind hk hc z (fun h' hc' hs => ?_)
    obtain ⟨oc, hoc, hocd⟩ := id z
    refine h { s with heap := h' } ⟨I.ok, I.os, I.bare, ⟨fun b o e n hb hx => ?_, fun b o e n hb hx => ?_, I.base.free, fun b o e hx => ?_, I.base.tups, I.base.frzs, I.base.tbls⟩, ⟨m, hn.sameBut hs (Ne.symm (cne x c hc)), fun j y v' e1 e2 e3 => ?_⟩, fun y c' e => ?_, I.free, I.freeC, fun p hp => ?_, tracked ⟨oc, hoc, I.freeC x c hc⟩ hs, by simpa using I.len⟩ ⟨c, hs, .inr hc⟩
    · exact (hs.2 b (Nat.ne_of_lt (Nat.lt_of_lt_of_le (Heap.lt_size e) (I.ok.cab x c hfn hc)))).trans (I.base.keep b o e n hb hx)
    · obtain ⟨sl, e1⟩ := I.base.slot b o e n hb hx
      exact ⟨sl, (hs.2 b (Nat.ne_of_lt (Nat.lt_of_lt_of_le (Heap.lt_size e) (I.ok.cab x c hfn hc)))).trans e1⟩
    · obtain ⟨o', e1⟩ := I.base.there b o e hx
      exact ⟨o', (hs.2 b (Nat.ne_of_lt (Nat.lt_of_lt_of_le (Heap.lt_size e) (I.ok.cab x c hfn hc)))).trans e1⟩
    · by_cases hj : j = i
      · subst hj
        rw [hi] at e1; cases e1
        rw [List.getElem?_set_self hiσ] at e2
        cases e2
        exact ⟨u, r, .inr ⟨.inl hk, c, hc, hc'⟩⟩
      · rw [List.getElem?_set_ne (Ne.symm hj)] at e2
        obtain ⟨u', r', q⟩ := hl j y v' e1 e2 e3
        refine ⟨u', r', ?_⟩
        rcases q with q | ⟨k, c', e, z'⟩
        · exact .inl q
        · refine .inr ⟨k, c', e, z'.sameBut hs ?_⟩
          rintro rfl
          exact hj (nodup_ix hN e1 (I.ok.inj _ _ _ e hc ▸ hi))
    · by_cases hcc : c' = c
      · subst hcc; exact ⟨_, hc'⟩
      · obtain ⟨w2, z2⟩ := I.cell y c' e
        exact ⟨w2, z2.sameBut hs hcc⟩
    · obtain ⟨e, n, ne, nf, d⟩ := I.pin p hp
      refine ⟨(hs.2 p.1 ?_).trans e, n, ne, nf, d⟩
      intro q
      rw [q, hoc] at e
      have q' : oc = p.2 := Option.some.inj e
      exact d w' (by rw [← q']; exact hocd)
theorem store_ok {M : Model} {A : Around} {E : Value → Shared → Prop} {i : Nat} {x : Str} {v : V} {u : Value} {Q : Unit → Shared → Prop} (I : Inv X pins σ H s) (hN : X.N.Nodup) (hi : X.N[i]? = some x) (hx : Loc X.env.scope x) (r : RelV v u)
    (h : ∀ s', Inv X pins (σ.set i (some v)) H s' → Q () s') (hf : X.fn x = true ∨ X.env.scope.names.lookup x = some .local := by first | exact .inl rfl | exact .inr rfl | assumption) : wpAny M A (storeName X.env x u) Q E s :=
  store_ok2 I hN hi hx r (fun s' I' _ => h s' I') hf
theorem Inv.call' {s' : Shared} {ch : List Addr} (I : Inv X pins σ H s) (ho : s'.os = s.os) (u : Un (frs X.stack) ch H H' s.heap s'.heap) (hok : HOk X.prog X.w H' s'.heap) (hg : AllBare s'.gens)
    (hch : ∀ b ∈ ch, (b ∈ X.ex ∨ X.s₀.heap.objs.size ≤ b) ∧ b ≠ X.env.locals ∧ (∀ x c, X.env.cells.lookup x = some c → c ≠ b) ∧ ∀ p ∈ X.pn ++ pins, p.1 ≠ b) : Inv X pins σ H' s' := by
  obtain ⟨h', g', d', t', o'⟩ := s'
  have e : o' = s.os := ho
  subst e
  exact I.call (g' := g') (t' := t') (d' := d') u hok hg hch
end
noncomputable abbrev XK := Value → Option Addr → Hp → Prop
noncomputable abbrev St := List (Option V)
noncomputable abbrev VK := V → Hp → Prop
noncomputable abbrev TE := St → Hp → VK → Prop
noncomputable abbrev TT := St → Hp → (Bool → Hp → Prop) → Prop
noncomputable abbrev TA := St → Hp → (List V → Hp → Prop) → Prop
structure Ends where
  nx : St → Hp → Prop
  rt : VK
  bk : St → Hp → Prop := fun _ _ => False
  ct : St → Hp → Prop := fun _ _ => False
noncomputable abbrev TS := Ends → St → Hp → Prop
noncomputable def EP (X : Cx) (pins : List (Addr × Obj)) (σ : St) (Q : VK) (u : Value) (s' : Shared) : Prop := ∃ v H', Inv X pins σ H' s' ∧ RelV v u ∧ Q v H'
noncomputable def TP (X : Cx) (pins : List (Addr × Obj)) (σ : St) (Q : Bool → Hp → Prop) (b : Bool) (s' : Shared) : Prop := ∃ H', Inv X pins σ H' s' ∧ Q b H'
noncomputable def AP (X : Cx) (pins : List (Addr × Obj)) (σ : St) (Q : List V → Hp → Prop) (us : List Value) (s' : Shared) : Prop := ∃ vs H', Inv X pins σ H' s' ∧ Vals vs us ∧ Q vs H'
noncomputable def SP (X : Cx) (pins : List (Addr × Obj)) (D : Ends) (f : Flow) (s' : Shared) : Prop :=
  match f with
  | .next => ∃ σ' H', Inv X pins σ' H' s' ∧ D.nx σ' H'
  | .brk => ∃ σ' H', Inv X pins σ' H' s' ∧ D.bk σ' H'
  | .cont => ∃ σ' H', Inv X pins σ' H' s' ∧ D.ct σ' H'
  | .ret u => ∃ v σ' H', Inv X pins σ' H' s' ∧ RelV v u ∧ D.rt v H'
noncomputable def PE (X : Cx) (e : Expr) (t : TE) : Prop :=
  ∀ (pins : List (Addr × Obj)) (s : Shared) (σ : St) (H : Hp) (Q : VK), Inv X pins σ H s → t σ H Q → wpAny (model X.prog X.w) X.A (eval e X.env) (EP X pins σ Q) X.xe s
noncomputable def PT (X : Cx) (e : Expr) (t : TT) : Prop :=
  ∀ (pins : List (Addr × Obj)) (s : Shared) (σ : St) (H : Hp) (Q : Bool → Hp → Prop), Inv X pins σ H s → t σ H Q → wpAny (model X.prog X.w) X.A (isTrue e X.env (eval e X.env)) (TP X pins σ Q) X.xe s
noncomputable def PW (X : Cx) (e : Expr) (t : TT) : Prop :=
  ∀ (whole : Sem Value) (pins : List (Addr × Obj)) (s : Shared) (σ : St) (H : Hp) (Q : Bool → Hp → Prop), Inv X pins σ H s → t σ H Q → wpAny (model X.prog X.w) X.A (isTrue e X.env whole) (TP X pins σ Q) X.xe s
theorem PW.pt {X : Cx} {e : Expr} {t : TT} (h : PW X e t) : PT X e t := h _
noncomputable def PA (X : Cx) (es : List Expr) (t : TA) : Prop :=
  ∀ (pos : Pos) (pins : List (Addr × Obj)) (s : Shared) (σ : St) (H : Hp) (Q : List V → Hp → Prop), Inv X pins σ H s → t σ H Q → wpAny (model X.prog X.w) X.A (spliced (backTo pos (starEach es X.env))) (AP X pins σ Q) X.xe s
noncomputable def PS (X : Cx) (st : Stmt) (t : TS) : Prop :=
  ∀ (pins : List (Addr × Obj)) (s : Shared) (σ : St) (H : Hp) (D : Ends), Inv X pins σ H s → t D σ H → wpAny (model X.prog X.w) X.A (exec st X.env) (SP X pins D) X.xe s
noncomputable def PSs (X : Cx) (st : List Stmt) (t : TS) : Prop :=
  ∀ (pins : List (Addr × Obj)) (s : Shared) (σ : St) (H : Hp) (D : Ends), Inv X pins σ H s → t D σ H → wpAny (model X.prog X.w) X.A (execs st X.env) (SP X pins D) X.xe s
theorem thn {α : Type} {t : Sem α} {Q Q' : α → Shared → Prop} {M : Model} {A : Around} {E : Value → Shared → Prop} {s : Shared} (h : wpAny M A t Q E s) (hQ : ∀ a s, Q a s → Q' a s) : wpAny M A t Q' E s := wpAny_mono h hQ fun _ _ x => x
end L2
namespace L2
open PySem PySem.Spec PyProof.Rows
section
variable {X : Cx}
noncomputable def tVar (i : Nat) : TE := fun σ H Q => ∃ v, σ[i]? = some (some v) ∧ Q v H
noncomputable def tC (v : V) : TE := fun _ H Q => Q v H
theorem pe_var {i : Nat} {x : Str} {pos : Pos} (hN : X.N[i]? = some x) (hv : Vis X.env.scope x) (hd : (x == ("__debug__" : Str)) = false := by decide) (hcd : (x == ("__classdict__" : Str)) = false := by decide) : PE X (.Name x pos) (tVar i) := by
  intro pins s σ H Q I h
  obtain ⟨v, e, h⟩ := h
  obtain ⟨m, hn, hl⟩ := I.loc
  obtain ⟨u, r, l⟩ := hl i x v hN e hv
  have fin : EP X pins σ Q u s := ⟨v, H, I, r, h⟩
  rcases l with ⟨hk, hm⟩ | ⟨hk, c, hc, hcell⟩
  · exact wpAny_Name (wpAny_loadName_local I.ok.kind hk hn hm fin) hd
  · rcases hk with hk | hk
    · exact wpAny_Name (wpAny_loadName_cell I.ok.kind hk hc hcell fin) hd
    · exact wpAny_Name (wpAny_loadName_free I.ok.kind hk hc hcell fin hcd) hd
theorem pe_int {i j pos} : PE X (.Constant (.int i) j pos) (tC (.int i)) := fun _ _ _ H _ I h => wpAny_Constant_int ⟨.int i, H, I.tok _, ⟨_, rfl⟩, h⟩
theorem pe_bl {b j pos} : PE X (.Constant (.bool b) j pos) (tC (.bl b)) := fun _ _ _ H _ I h => Constant_bool ⟨.bl b, H, I, rfl, h⟩
theorem pe_non {j pos} : PE X (.Constant .none j pos) (tC .non) := fun _ _ _ H _ I h => Constant_none ⟨.non, H, I, rfl, h⟩
theorem pe_str {x j pos} : PE X (.Constant (.str x) j pos) (tC (.str x)) := fun _ _ _ H _ I h => Calls.Constant_str ⟨.str x, H, I.tok _, ⟨_, rfl⟩, h⟩
noncomputable def Gl (X : Cx) (x : Str) : Prop := X.env.kindOf x = some .globalImplicit
theorem ld_glob {E : Value → Shared → Prop} {pins : List (Addr × Obj)} {s : Shared} {σ : St} {H : Hp} {x : Str} {u : Value} {pos : Pos} {Q : Value → Shared → Prop} (I : Inv X pins σ H s) (hg : Gl X x) (hm : X.mg x = some u) (h : Q u s)
    (hd : (x == ("__debug__" : Str)) = false := by decide) : wpAny (model X.prog X.w) X.A (eval (.Name x pos) X.env) Q E s :=
  Calls.Name_function_global I.ok.kind hg (Calls.loadGlobal_global (by rw [I.ok.glob]; exact I.mod.glob.keeps I.bk) hm h) hd
theorem ld_blt {E : Value → Shared → Prop} {pins : List (Addr × Obj)} {s : Shared} {σ : St} {H : Hp} {x : Str} {u : Value} {pos : Pos} {Q : Value → Shared → Prop} (I : Inv X pins σ H s) (hg : Gl X x) (hm : X.mg x = none) (hv : bootBuiltins x = some u) (h : Q u s)
    (hn : x ≠ "__name__" := by decide) (hd : (x == ("__debug__" : Str)) = false := by decide) : wpAny (model X.prog X.w) X.A (eval (.Name x pos) X.env) Q E s := by
  obtain ⟨mb, h1, h2⟩ := I.mod.blt
  exact Calls.Name_function_global I.ok.kind hg (Calls.loadGlobal_builtin (by rw [I.ok.glob]; exact I.mod.glob.keeps I.bk) hm (by rw [I.ok.blt]; exact h1.keeps I.bk) ((h2 x hn).trans hv) h) hd
theorem pe_glob {x : Str} {v : V} {u : Value} {pos : Pos} (hg : Gl X x) (hm : X.mg x = some u) (r : RelV v u) (hd : (x == ("__debug__" : Str)) = false := by decide) : PE X (.Name x pos) (tC v) :=
  fun _ _ _ H _ I h => ld_glob I hg hm ⟨v, H, I, r, h⟩ hd
theorem pe_bltn {x : Str} {v : V} {u : Value} {pos : Pos} (hg : Gl X x) (hm : X.mg x = none) (hv : bootBuiltins x = some u) (r : RelV v u) (hn : x ≠ "__name__" := by decide) (hd : (x == ("__debug__" : Str)) = false := by decide) : PE X (.Name x pos) (tC v) :=
  fun _ _ _ H _ I h => ld_blt I hg hm hv ⟨v, H, I, r, h⟩ hn hd
variable {a b : Expr} {ta tb : TE} {pos : Pos}
noncomputable def tB (t : TE) : TT := fun σ H Q => t σ H fun x H1 => ∃ c, x = .bl c ∧ Q c H1
theorem pt_val {e : Expr} {t : TE} (h : PE X e t) (he : ∀ whole, isTrue e X.env whole = (do let v ← whole; standAt e.pos; holding [v] (truthy v)) := by intro _; rfl) : PT X e (tB t) := by
  intro pins s σ H Q I hw
  refine isTrue_plain (thn (h pins s σ H _ I hw) fun v s1 hh0_ => ?_) (he _)
  obtain ⟨x, H1, I1, r1, q1⟩ := hh0_
  obtain ⟨d, rfl, q⟩ := q1
  cases r1
  exact wpAny_truthy_bool ⟨H1, I1, q⟩
variable {tA tB' : TT} {rest : List Expr}
noncomputable def tAnd (t u : TT) : TT := fun σ H Q => t σ H fun c H1 => if c = true then u σ H1 Q else Q false H1
noncomputable def tOr (t u : TT) : TT := fun σ H Q => t σ H fun c H1 => if c = true then Q true H1 else u σ H1 Q
noncomputable def tNot (t : TT) : TT := fun σ H Q => t σ H fun c H1 => Q (!c) H1
theorem pw_and1 (ha : PT X a tA) : PW X (.BoolOp .And [a] pos) tA := by
  intro wh pins s σ H Q I h
  refine isTrue_and (thn (ha pins s σ H Q I h) fun c s1 e => ?_)
  cases c with
  | true => exact isTrue_and_nil e
  | false => exact e
theorem pw_or1 (ha : PT X a tA) : PW X (.BoolOp .Or [a] pos) tA := by
  intro wh pins s σ H Q I h
  refine isTrue_or (thn (ha pins s σ H Q I h) fun c s1 e => ?_)
  cases c with
  | false => exact isTrue_or_nil e
  | true => exact e
theorem pw_and (ha : PT X a tA) (hb : PW X (.BoolOp .And (b :: rest) pos) tB') : PW X (.BoolOp .And (a :: b :: rest) pos) (tAnd tA tB') := by
  intro wh pins s σ H Q I h
  refine isTrue_and (thn (ha pins s σ H _ I h) fun c s1 hh0_ => ?_)
  obtain ⟨H1, I1, q1⟩ := hh0_
  cases c with
  | true => exact hb wh pins s1 σ H1 Q I1 q1
  | false => exact ⟨H1, I1, q1⟩
theorem pw_or (ha : PT X a tA) (hb : PW X (.BoolOp .Or (b :: rest) pos) tB') : PW X (.BoolOp .Or (a :: b :: rest) pos) (tOr tA tB') := by
  intro wh pins s σ H Q I h
  refine isTrue_or (thn (ha pins s σ H _ I h) fun c s1 hh0_ => ?_)
  obtain ⟨H1, I1, q1⟩ := hh0_
  cases c with
  | true => exact ⟨H1, I1, q1⟩
  | false => exact hb wh pins s1 σ H1 Q I1 q1
theorem pt_not (ha : PT X a tA) : PT X (.UnaryOp .Not a pos) (tNot tA) := by
  intro pins s σ H Q I h
  exact isTrue_not (ha pins s σ H (fun c H1 => Q (!c) H1) I h)
noncomputable def tAndV (ta tb : TE) : TE := fun σ H Q => ta σ H fun x H1 => ∃ c, x = .bl c ∧ if c = true then tb σ H1 Q else Q (.bl false) H1
noncomputable def tOrV (ta tb : TE) : TE := fun σ H Q => ta σ H fun x H1 => ∃ c, x = .bl c ∧ if c = true then Q (.bl true) H1 else tb σ H1 Q
noncomputable def tNotV (ta : TE) : TE := fun σ H Q => ta σ H fun x H1 => ∃ c, x = .bl c ∧ Q (.bl (!c)) H1
theorem pe_one {op} {t : TE} (h : PE X a t) : PE X (.BoolOp op [a] pos) t := fun pins s σ H Q I hw => BoolOp_one (h pins s σ H Q I hw)
theorem pe_and (ha : PE X a ta) (hb : PE X (.BoolOp .And (b :: rest) pos) tb) : PE X (.BoolOp .And (a :: b :: rest) pos) (tAndV ta tb) := by
  intro pins s σ H Q I h
  refine BoolOp_and (thn (ha pins s σ H _ I h) fun v s1 hh0_ => ?_)
  obtain ⟨x, H1, I1, r1, q1⟩ := hh0_
  obtain ⟨c, rfl, q1⟩ := q1
  cases r1
  refine wpAny_truthy_bool ?_
  cases c with
  | true => exact hb pins s1 σ H1 Q I1 q1
  | false => exact ⟨.bl false, H1, I1, rfl, q1⟩
theorem pe_or (ha : PE X a ta) (hb : PE X (.BoolOp .Or (b :: rest) pos) tb) : PE X (.BoolOp .Or (a :: b :: rest) pos) (tOrV ta tb) := by
  intro pins s σ H Q I h
  refine BoolOp_or (thn (ha pins s σ H _ I h) fun v s1 hh0_ => ?_)
  obtain ⟨x, H1, I1, r1, q1⟩ := hh0_
  obtain ⟨c, rfl, q1⟩ := q1
  cases r1
  refine wpAny_truthy_bool ?_
  cases c with
  | false => exact hb pins s1 σ H1 Q I1 q1
  | true => exact ⟨.bl true, H1, I1, rfl, q1⟩
theorem pe_not (ha : PE X a ta) : PE X (.UnaryOp .Not a pos) (tNotV ta) := by
  intro pins s σ H Q I h
  refine UnaryOp_ (thn (ha pins s σ H _ I h) fun v s1 hh0_ => ?_)
  obtain ⟨x, H1, I1, r1, q1⟩ := hh0_
  obtain ⟨c, rfl, q1⟩ := q1
  cases r1
  exact not_of (wpAny_truthy_bool ⟨.bl (!c), H1, I1, rfl, q1⟩)
end
end L2
namespace L2
open PySem PySem.Spec PyProof.Rows
noncomputable def SqL (K : PySem.W.Frag) (H : Hp) (a : Addr) (xs : List V) : Prop :=
  Rd H a (.lst xs) ∨
    ∃ (o : Obj) (its : Array Value) (n : Nat), K.lookup a = some o ∧ o.cls = .type "list" ∧ o.dict = none ∧ o.data = .seq its n ∧ its.size ≤ sizeLine ∧ Vals xs its.toList
noncomputable def SqT (K : PySem.W.Frag) (H : Hp) (a : Addr) (xs : List V) : Prop :=
  Rd H a (.tup xs) ∨
    ∃ (o : Obj) (its : Array Value) (n : Nat), K.lookup a = some o ∧ o.cls = .type "tuple" ∧ o.dict = none ∧ o.data = .seq its n ∧ its.size ≤ sizeLine ∧ Vals xs its.toList
noncomputable def absV : Value → Option V
  | .none => some .non
  | .bool b => some (.bl b)
  | .int i _ => some (.int i)
  | .str x _ => some (.str x)
  | .bytes b _ => some (.byt b)
  | .float b _ => some (.flt b)
  | .ref a => some (.ref a)
  | .type n => some (.ty n)
  | _ => none
theorem RelV.abs {x : V} {u : Value} (r : RelV x u) : absV u = some x := by
  cases x with
  | non => cases r; rfl
  | bl _ => cases r; rfl
  | int _ => obtain ⟨t, rfl⟩ := r; rfl
  | str _ => obtain ⟨t, rfl⟩ := r; rfl
  | byt _ => obtain ⟨t, rfl⟩ := r; rfl
  | flt _ => obtain ⟨t, rfl⟩ := r; rfl
  | ref _ => cases r; rfl
  | ty _ => cases r; rfl
theorem RelV.inj {x y : V} {u : Value} (r : RelV x u) (q : RelV y u) : x = y := Option.some.inj (r.abs.symm.trans q.abs)
theorem Vals.inj : ∀ {xs ys : List V} {us : List Value}, Vals xs us → Vals ys us → xs = ys
  | _, _, _, .nil, .nil => rfl
  | _, _, _, .cons r t, .cons r' t' => by rw [r.inj r', Vals.inj t t']
section
variable {X : Cx} {pins : List (Addr × Obj)} {σ : St} {H : Hp} {s : Shared} {a : Addr} {xs ys : List V}
theorem SqL.of {K : PySem.W.Frag} (h : H a = some (.lst xs)) : SqL K H a xs := .inl (.inl h)
theorem SqT.of {K : PySem.W.Frag} (h : H a = some (.tup xs)) : SqT K H a xs := .inl (.inl h)
theorem Inv.list (I : Inv X pins σ H s) (h : SqL X.K H a xs) : ∃ its : List Value, Vals xs its ∧ PlainL s.heap a its.toArray ∧ xs.length ≤ sizeLine := by
  rcases h with h | ⟨o, its, n, hk, hc, hd, hs, hz, r⟩
  · obtain ⟨z, its, n, r, e⟩ := h.ok I.hok
    exact ⟨its, r, ⟨_, n, e, rfl, rfl, rfl⟩, z⟩
  · refine ⟨its.toList, r, ⟨o, n, I.kIn a o hk, hc, hd, by simpa using hs⟩, ?_⟩
    have e := r.length
    simp only [Array.length_toList] at e
    omega
theorem Inv.tuple (I : Inv X pins σ H s) (h : SqT X.K H a xs) : ∃ its : List Value, Vals xs its ∧ IsTup s.heap a its.toArray ∧ xs.length ≤ sizeLine := by
  rcases h with h | ⟨o, its, n, hk, hc, _, hs, hz, r⟩
  · obtain ⟨z, its, r, p⟩ := h.ok I.hok
    exact ⟨its, r, p.tup, z⟩
  · refine ⟨its.toList, r, ⟨o, I.kIn a o hk, hc, n, by simpa using hs⟩, ?_⟩
    have e := r.length
    simp only [Array.length_toList] at e
    omega
theorem Inv.list_inj (I : Inv X pins σ H s) (h : SqL X.K H a xs) (h' : SqL X.K H a ys) : xs = ys := by
  obtain ⟨its, r, ⟨o, n, e, _, _, d⟩, _⟩ := I.list h
  obtain ⟨its', r', ⟨o', n', e', _, _, d'⟩, _⟩ := I.list h'
  rw [e] at e'; cases e'
  rw [d] at d'
  injection d' with d1 _
  have : its = its' := by simpa using congrArg Array.toList d1
  subst this
  exact r.inj r'
theorem Inv.tuple_inj (I : Inv X pins σ H s) (h : SqT X.K H a xs) (h' : SqT X.K H a ys) : xs = ys := by
  obtain ⟨its, r, ⟨o, e, _, n, d⟩, _⟩ := I.tuple h
  obtain ⟨its', r', ⟨o', e', _, n', d'⟩, _⟩ := I.tuple h'
  rw [e] at e'; cases e'
  rw [d] at d'
  injection d' with d1 _
  have : its = its' := by simpa using congrArg Array.toList d1
  subst this
  exact r.inj r'
end
noncomputable abbrev Cx.wish (X : Cx) (E : Value → Shared → Prop) : Cx := { X with xe := E }
noncomputable abbrev Cx.nox (X : Cx) : Cx := X.wish fun _ _ => False
theorem Cx.Ok.wish {X : Cx} (ok : X.Ok) (E : Value → Shared → Prop) : (X.wish E).Ok :=
  ⟨ok.mod, ok.kind, ok.glob, ok.blt, ok.above, ok.inj, ok.has, ok.cab, ok.hd, ok.frames, ok.stk, ok.exf, ok.bs, ok.bsz, ok.noex, ok.exfs, ok.funs, ok.frf⟩
theorem Cx.Ok.unwish {X : Cx} {E : Value → Shared → Prop} (ok : (X.wish E).Ok) : X.Ok :=
  ⟨ok.mod, ok.kind, ok.glob, ok.blt, ok.above, ok.inj, ok.has, ok.cab, ok.hd, ok.frames, ok.stk, ok.exf, ok.bs, ok.bsz, ok.noex, ok.exfs, ok.funs, ok.frf⟩
section
variable {X : Cx} {pins : List (Addr × Obj)} {σ : St} {H : Hp} {s : Shared} {E : Value → Shared → Prop}
theorem Inv.wish (I : Inv X pins σ H s) (E : Value → Shared → Prop) : Inv (X.wish E) pins σ H s := ⟨I.ok.wish E, I.os, I.bare, I.base, I.loc, I.cell, I.free, I.freeC, I.pin, I.hok, I.len⟩
theorem Inv.unwish (I : Inv (X.wish E) pins σ H s) : Inv X pins σ H s := ⟨I.ok.unwish, I.os, I.bare, I.base, I.loc, I.cell, I.free, I.freeC, I.pin, I.hok, I.len⟩
theorem SP.unwish {D : Ends} {f : Flow} {s' : Shared} (h : SP (X.wish E) pins D f s') : SP X pins D f s' := by
  cases f with
  | next => obtain ⟨σ', H', I, q⟩ := h; exact ⟨σ', H', I.unwish, q⟩
  | brk => obtain ⟨σ', H', I, q⟩ := h; exact ⟨σ', H', I.unwish, q⟩
  | cont => obtain ⟨σ', H', I, q⟩ := h; exact ⟨σ', H', I.unwish, q⟩
  | ret u => obtain ⟨v, σ', H', I, r, q⟩ := h; exact ⟨v, σ', H', I.unwish, r, q⟩
theorem PE.nox {e : Expr} {t : TE} (h : PE X.nox e t) : PE X e t := fun pins s σ H Q I hw =>
  wpAny_mono (h pins s σ H Q (I.wish _) hw) (fun _ _ ⟨v, H', I', r, q⟩ => ⟨v, H', I'.unwish, r, q⟩) fun _ _ z => False.elim z
theorem PT.nox {e : Expr} {t : TT} (h : PT X.nox e t) : PT X e t := fun pins s σ H Q I hw =>
  wpAny_mono (h pins s σ H Q (I.wish _) hw) (fun _ _ ⟨H', I', q⟩ => ⟨H', I'.unwish, q⟩) fun _ _ z => False.elim z
theorem PSs.nox {st : List Stmt} {t : TS} (h : PSs X.nox st t) : PSs X st t := fun pins s σ H D I hw =>
  wpAny_mono (h pins s σ H D (I.wish _) hw) (fun _ _ q => q.unwish) fun _ _ z => False.elim z
end
section
variable {X : Cx} {st : Stmt} {rest : List Stmt} {t u : TS} {e : Expr} {te : TE} {pos : Pos}
noncomputable def tNext : TS := fun D σ H => D.nx σ H
noncomputable def tSeq (t u : TS) : TS := fun D σ H => t { D with nx := u D } σ H
theorem pss_nil : PSs X [] tNext := fun _ _ σ H _ I h => wpAny_execs_nil ⟨σ, H, I, h⟩
theorem pss_cons (h1 : PS X st t) (h2 : PSs X rest u) : PSs X (st :: rest) (tSeq t u) := by
  intro pins s σ H D I h
  refine wpAny_execs_cons (thn (h1 pins s σ H { D with nx := u D } I h) fun f s1 q => ?_)
  cases f with
  | next =>
    obtain ⟨σ', H', I', q⟩ := q
    exact h2 pins s1 σ' H' D I' q
  | ret v => exact q
  | brk => exact q
  | cont => exact q
theorem pss_one (h1 : PS X st t) : PSs X [st] t := by
  intro pins s σ H D I h
  refine wpAny_execs_cons (thn (h1 pins s σ H D I h) fun f s1 q => ?_)
  cases f with
  | next => exact wpAny_execs_nil q
  | ret v => exact q
  | brk => exact q
  | cont => exact q
theorem Inv.quiet {pins : List (Addr × Obj)} {σ : St} {H : Hp} {s : Shared} (I : Inv X pins σ H s) : interactive X.env = false := by simp [interactive, I.ok.kind]
noncomputable def tDrop (te : TE) : TS := fun D σ H => te σ H fun _ H1 => D.nx σ H1
theorem ps_expr (he : PE X e te) (hs : swapsWith e none pos.line X.env = pure false := by rfl) : PS X (.Expr e pos) (tDrop te) := by
  intro pins s σ H D I h
  exact wpAny_Expr_any (thn (he pins s σ H _ I h) fun v s1 ⟨x, H1, I1, r1, q1⟩ => ⟨σ, H1, I1, q1⟩) I.quiet hs
noncomputable def tRet (te : TE) : TS := fun D σ H => te σ H D.rt
theorem ps_ret (he : PE X e te) : PS X (.Return (some e) pos) (tRet te) := by
  intro pins s σ H D I h
  exact wpAny_Return_some (thn (he pins s σ H _ I h) fun v s1 ⟨x, H1, I1, r1, q1⟩ => ⟨x, σ, H1, I1, r1, q1⟩)
noncomputable def tIfS (c : TT) (t u : TS) : TS := fun D σ H => c σ H fun b H1 => if b = true then t D σ H1 else u D σ H1
theorem ps_if {c : Expr} {a b : List Stmt} {tc : TT} (hc : PT X c tc) (ha : PSs X a t) (hb : PSs X b u) : PS X (.If c a b pos) (tIfS tc t u) := by
  intro pins s σ H D I h
  refine wpAny_If (thn (hc pins s σ H _ I h) fun d s1 hh0_ => ?_)
  obtain ⟨H1, I1, q1⟩ := hh0_
  cases d with
  | true => exact ha pins s1 σ H1 D I1 q1
  | false => exact hb pins s1 σ H1 D I1 q1
noncomputable def tNever : TS := fun _ _ _ => False
theorem pss_never {sts : List Stmt} : PSs X sts tNever := fun _ _ _ _ _ _ h => h.elim
end
noncomputable abbrev TG := V → St → Hp → (St → Hp → Prop) → Prop
noncomputable abbrev TGs := List V → St → Hp → (St → Hp → Prop) → Prop
noncomputable def PG (X : Cx) (target : Expr) (t : TG) : Prop :=
  ∀ (pins : List (Addr × Obj)) (s : Shared) (σ : St) (H : Hp) (v : V) (u : Value) (Q : St → Hp → Prop), Inv X pins σ H s → RelV v u → t v σ H Q →
    wpAny (model X.prog X.w) X.A (assign target X.env u) (fun _ s' => ∃ σ' H', Inv X pins σ' H' s' ∧ Q σ' H') X.xe s
noncomputable def PGs (X : Cx) (ts : List Expr) (t : TGs) : Prop :=
  ∀ (pins : List (Addr × Obj)) (s : Shared) (σ : St) (H : Hp) (vs : List V) (us : List Value) (Q : St → Hp → Prop), Inv X pins σ H s → Vals vs us → t vs σ H Q →
    wpAny (model X.prog X.w) X.A (assignInOrder ((assignEach ts X.env).map (·.2)) us) (fun _ s' => ∃ σ' H', Inv X pins σ' H' s' ∧ Q σ' H') X.xe s
section
variable {X : Cx} {pos : Pos}
noncomputable def gName (i : Nat) : TG := fun v σ H Q => Q (σ.set i (some v)) H
theorem pg_name {i : Nat} {x : Str} (hN : X.N.Nodup) (hi : X.N[i]? = some x) (hx : Loc X.env.scope x) (hf : X.fn x = true ∨ X.env.scope.names.lookup x = some .local := by first | exact .inl rfl | exact .inr rfl | assumption) : PG X (.Name x pos) (gName i) := by
  intro pins s σ H v u Q I r h
  exact wpAny_assign_Name (store_ok I hN hi hx r (fun s' I' => ⟨_, H, I', h⟩) hf)
noncomputable def gNil : TGs := fun vs σ H Q => vs = [] ∧ Q σ H
noncomputable def gCons (t : TG) (u : TGs) : TGs := fun vs σ H Q => ∃ v r, vs = v :: r ∧ t v σ H fun σ' H' => u r σ' H' Q
theorem pgs_nil : PGs X [] gNil := by
  intro pins s σ H vs us Q I r h
  obtain ⟨e, h⟩ := h
  subst e
  cases r
  exact assignInOrder_nil ⟨σ, H, I, h⟩
theorem pgs_cons {e : Expr} {es : List Expr} {t : TG} {u : TGs} (h1 : PG X e t) (h2 : PGs X es u)
    (hs : (assignEach (e :: es) X.env).map (·.2) = assign e X.env :: (assignEach es X.env).map (·.2) := by rfl) : PGs X (e :: es) (gCons t u) := by
  intro pins s σ H vs us Q I r h
  obtain ⟨v, vr, e1, h⟩ := h
  subst e1
  cases r with
  | cons r rr =>
    rw [hs]
    refine assignInOrder_cons (thn (h1 pins s σ H _ _ _ I r h) fun _ s1 hh0_ => ?_)
    obtain ⟨σ1, H1, I1, q1⟩ := hh0_
    exact h2 pins s1 σ1 H1 _ _ Q I1 rr q1
noncomputable def gTup (K : PySem.W.Frag) (n : Nat) (t : TGs) : TG := fun v σ H Q => ∃ a xs, v = .ref a ∧ SqT K H a xs ∧ xs.length = n ∧ t xs σ H Q
theorem pg_tup {es : List Expr} {k : Nat} {t : TGs} {n : Nat} (hc : X.calm = true) (h : PGs X es t)
    (hn : (assignEach es X.env).length = n := by rfl) (hst : (assignEach es X.env).findIdx? (·.1) = none := by rfl) : PG X (.Tuple es k pos) (gTup X.K n t) := by
  intro pins s σ H v u Q I r hw
  obtain ⟨a, xs, e1, hq, hl, hw⟩ := hw
  subst e1
  cases r
  obtain ⟨its, rv, ht, hz⟩ := I.tuple hq
  refine assign_Tuple_tuple (I.ok.hd hc) ht (by simp [hn, ← hl, rv.length]) hst fun h' hx => ?_
  have I1 : Inv X pins σ H { s with heap := h' } := I.kept (t' := s.toks) fun b o e => hx b o (Nat.ne_of_lt (Heap.lt_size e)) e
  exact h pins _ σ H xs _ Q I1 (by simpa using rv) hw
noncomputable def tAsg (te : TE) (g : TG) : TS := fun D σ H => te σ H fun x H1 => g x σ H1 D.nx
theorem ps_asg {tg e : Expr} {te : TE} {g : TG} (he : PE X e te) (hg : PG X tg g) (hs : swapsWithSole [tg] e pos.line X.env = pure false := by rfl) (hw : swappedStores [tg] e X.env = pure none := by rfl)
    (h1 : (assignEach [tg] X.env).map (·.2) = [assign tg X.env] := by rfl) : PS X (.Assign [tg] e pos) (tAsg te g) := by
  intro pins s σ H D I h
  refine wpAny_Assign_stores (thn (he pins s σ H _ I h) fun v s1 hh0_ => ?_) hs hw
  obtain ⟨x, H1, I1, r1, q1⟩ := hh0_
  rw [h1]
  exact thn (hg pins s1 σ H1 x v _ I1 r1 q1) fun _ s2 q => q
theorem ps_set {i : Nat} {x : Str} {e : Expr} {te : TE} {pos' : Pos} (hN : X.N.Nodup) (hi : X.N[i]? = some x) (hx : Loc X.env.scope x) (he : PE X e te) (hs : swapsWith e (some (.Name x pos')) pos.line X.env = pure false := by rfl) (hf : X.fn x = true ∨ X.env.scope.names.lookup x = some .local := by first | exact .inl rfl | exact .inr rfl | assumption) :
    PS X (.Assign [.Name x pos'] e pos) (tAsg te (gName i)) := by
  intro pins s σ H D I h
  refine wpAny_Assign_Name (thn (he pins s σ H _ I h) fun v s1 hh0_ => ?_) hs
  obtain ⟨y, H1, I1, r1, q1⟩ := hh0_
  exact store_ok I1 hN hi hx r1 (fun s2 I2 => ⟨_, H1, I2, q1⟩) hf
end
section
variable {X : Cx} {pos : Pos}
end
structure It where
  go : Nat → Hp → Prop
  yld : Nat → Hp → V → Hp → Prop
  stop : Nat → Hp → Prop
noncomputable def FpOk (X : Cx) (pins : List (Addr × Obj)) (H : Hp) (b : Addr) : Prop :=
  H b = none ∧ b ≠ X.env.locals ∧ b ∉ X.fs ∧ (b ∈ X.ex ∨ X.s₀.heap.objs.size ≤ b) ∧ (∀ x c, X.env.cells.lookup x = some c → c ≠ b) ∧ ∀ p ∈ X.pn ++ pins, p.1 ≠ b
theorem Inv.fpOk {X : Cx} {pins : List (Addr × Obj)} {σ : St} {H H' : Hp} {s : Shared} {b : Addr} (I : Inv X pins σ H s) (hb : s.heap.objs.size ≤ b) (hn : H' b = none) : FpOk X pins H' b := by
  refine ⟨hn, Nat.ne_of_gt (Nat.lt_of_lt_of_le I.lt hb), I.nofs hb, .inr (Nat.le_trans I.sz hb), fun x c e z => ?_, fun p hp z => ?_⟩
  · obtain ⟨v, q⟩ := I.cell x c e
    exact absurd (Nat.lt_of_lt_of_le q.lt (by rw [z]; exact hb)) (Nat.lt_irrefl _)
  · exact absurd (Nat.lt_of_lt_of_le (Heap.lt_size (I.pin p hp).1) (by rw [z]; exact hb)) (Nat.lt_irrefl _)
structure Turn (P : Program) (w : World) (K : PySem.W.Frag) (tg : Expr) (J : It) (fp : List Addr) (it : Addr) (tn : Nat → Heap → Prop) : Prop where
  mem : it ∈ fp
  obj : ∀ i h, tn i h → ∀ b ∈ fp, ∃ o, h.get? b = some o ∧ ∀ v, o.data ≠ .cell v
  keep : ∀ i h h', tn i h → (∀ b ∈ fp, ∀ o, h.get? b = some o → h'.get? b = some o) → tn i h'
  item : ∀ (X : Cx), X.prog = P → X.w = w → X.K = K → X.calm = true → ∀ (i : Nat) (pins : List (Addr × Obj)) (s : Shared) (σ : St) (H : Hp) (E : Value → Shared → Prop), Inv X pins σ H s → (∀ b ∈ fp, FpOk X pins H b) → tn i s.heap → J.go i H →
    wpAny (model P w) X.A (pyNext (.ref it)) (fun r s1 => ∃ u, r = some u ∧
      wpAny (model P w) X.A (letOwnedTupleGo tg (.ref it) u) (fun _ s2 => ∃ x H', Inv X pins σ H' s2 ∧ RelV x u ∧ J.yld i H x H' ∧ tn (i + 1) s2.heap ∧ ∀ b ∈ fp, H' b = none) E s1) E s
  done : ∀ (X : Cx), X.prog = P → X.w = w → X.K = K → X.calm = true → ∀ (i : Nat) (pins : List (Addr × Obj)) (s : Shared) (σ : St) (H : Hp) (E : Value → Shared → Prop), Inv X pins σ H s → (∀ b ∈ fp, FpOk X pins H b) → tn i s.heap → J.stop i H →
    wpAny (model P w) X.A (pyNext (.ref it)) (fun r s1 => r = none ∧ Inv X pins σ H s1) E s
  self : ∀ (A : Around) (i : Nat) (s : Shared) (Q : Value → Shared → Prop) (E : Value → Shared → Prop), tn i s.heap → Q (.ref it) s → wpAny (model P w) A (pyIter (.ref it)) Q E s
noncomputable abbrev TI := St → Hp → (It → Hp → Prop) → Prop
noncomputable def PIE (X : Cx) (pins : List (Addr × Obj)) (σ : St) (tg : Expr) (R : It → Hp → Prop) (itv : Value) (s2 : Shared) : Prop :=
  ∃ (it : Addr) (fp : List Addr) (tn : Nat → Heap → Prop) (J : It) (H' : Hp), itv = .ref it ∧ Inv X pins σ H' s2 ∧ Turn X.prog X.w X.K tg J fp it tn ∧ tn 0 s2.heap ∧ (∀ b ∈ fp, FpOk X pins H' b) ∧ R J H'
noncomputable def PI (X : Cx) (tg iter : Expr) (wi : TI) : Prop :=
  ∀ (pins : List (Addr × Obj)) (s : Shared) (σ : St) (H : Hp) (R : It → Hp → Prop), Inv X pins σ H s → wi σ H R →
    wpAny (model X.prog X.w) X.A (eval iter X.env) (fun v s1 => wpAny (model X.prog X.w) X.A (pyIter v) (PIE X pins σ tg R) X.xe s1) X.xe s
theorem go_of {M : Model} {A : Around} {E : Value → Shared → Prop} {s : Shared} {tg : Expr} {it : Addr} {u : Value} {o : Obj} {n : String} {vs : Array Value} {Q : Unit → Shared → Prop} (ho : s.heap.get? it = some o) (hc : o.cls = .type n) (hd : o.data = .fields vs)
    (hn : ["enumerate", "zip", "dict_itemiterator", "dict_reverseitemiterator", "odict_iterator", "itertools.zip_longest", "itertools.pairwise"].contains n = false) (hQ : Q () s) : wpAny M A (letOwnedTupleGo tg (.ref it) u) Q E s := by
  unfold letOwnedTupleGo
  cases tg <;> first
    | exact wpAny_pure hQ
    | (cases u <;> first
        | exact wpAny_pure hQ
        | (refine wpAny_bind (wpAny_load ho ?_)
           rw [hc, hd]
           show wpAny M A (if (["enumerate", "zip", "dict_itemiterator", "dict_reverseitemiterator", "odict_iterator", "itertools.zip_longest", "itertools.pairwise"].contains n && vs[0]? == some (rawInt _)) = true then _ else _) Q E s
           rw [if_neg (by intro h; rw [hn, Bool.false_and] at h; cases h)]
           exact wpAny_pure hQ))
noncomputable def Itl (K : PySem.W.Frag) (a : Addr) : It :=
  ⟨fun i H => ∃ xs x, SqL K H a xs ∧ xs[i]? = some x, fun i H x H' => H' = H ∧ ∀ xs, SqL K H a xs → xs[i]? = some x, fun i H => ∃ xs, SqL K H a xs ∧ xs.length ≤ i⟩
noncomputable def Itt (K : PySem.W.Frag) (a : Addr) : It :=
  ⟨fun i H => ∃ xs x, SqT K H a xs ∧ xs[i]? = some x, fun i H x H' => H' = H ∧ ∀ xs, SqT K H a xs → xs[i]? = some x, fun i H => ∃ xs, SqT K H a xs ∧ xs.length ≤ i⟩
noncomputable def Itr (lo : Int) (n : Nat) : It := ⟨fun i _ => i < n, fun i H x H' => H' = H ∧ x = .int (lo + i), fun i _ => n ≤ i⟩
theorem turn_list {P : Program} {w : World} {K : PySem.W.Frag} {tg : Expr} (a it : Addr) : Turn P w K tg (Itl K a) [it] it (fun i h => h.IsListIter it a i) where
  mem := by simp
  obj := fun i h st b hb => by
    have e : b = it := by simpa using hb
    subst e
    obtain ⟨o, e, c, d⟩ := st
    exact ⟨o, e, fun v z => by rw [d] at z; cases z⟩
  keep := fun i h h' st k => st.at fun o e => k it (by simp) o e
  item := by
    intro X hP hw hK hc i pins s σ H E I hf st hg
    subst hP hw hK
    obtain ⟨xs, x, hq, hx⟩ := hg
    obtain ⟨its, rv, p, hz⟩ := I.list hq
    obtain ⟨u, hu, ru⟩ := rv.get hx
    obtain ⟨f0, f1, f2, f3, f4, f5⟩ := hf it (by simp)
    refine wpAny_pyNext_list_item st p.isList (x := u) (by simpa using hu) fun h' st' sb => ?_
    have I1 : Inv X pins σ H { s with heap := h' } := I.turned (t' := s.toks) (fun b o hb e => (sb.2 b hb).trans e) f0 f1 f3 f4 f5
    obtain ⟨o, e, c, d⟩ := id st'
    exact ⟨u, rfl, go_of (s := { s with heap := h' }) e c d (by decide) ⟨x, H, I1, ru, ⟨rfl, fun ys hy => by rw [I.list_inj hy hq]; exact hx⟩, st', fun b hb => (hf b hb).1⟩⟩
  done := by
    intro X hP hw hK hc i pins s σ H E I hf st hg
    subst hP hw hK
    obtain ⟨xs, hq, hx⟩ := hg
    obtain ⟨its, rv, p, hz⟩ := I.list hq
    obtain ⟨f0, f1, f2, f3, f4, f5⟩ := hf it (by simp)
    have hl := rv.length
    exact wpAny_pyNext_list_end (I.ok.hd hc) st p.isList (by simp; omega) fun h' eb => ⟨rfl, I.turned (t' := s.toks) (fun b o hb e => eb b o hb e) f0 f1 f3 f4 f5⟩
  self := fun _ _ _ _ _ st h => wpAny_pyIter_listiter st h
theorem turn_tuple {P : Program} {w : World} {K : PySem.W.Frag} {tg : Expr} (a it : Addr) : Turn P w K tg (Itt K a) [it] it (fun i h => h.IsTupleIter it a i) where
  mem := by simp
  obj := fun i h st b hb => by
    have e : b = it := by simpa using hb
    subst e
    obtain ⟨o, e, c, d⟩ := st
    exact ⟨o, e, fun v z => by rw [d] at z; cases z⟩
  keep := fun i h h' st k => st.at fun o e => k it (by simp) o e
  item := by
    intro X hP hw hK hc i pins s σ H E I hf st hg
    subst hP hw hK
    obtain ⟨xs, x, hq, hx⟩ := hg
    obtain ⟨its, rv, p, hz⟩ := I.tuple hq
    obtain ⟨u, hu, ru⟩ := rv.get hx
    obtain ⟨f0, f1, f2, f3, f4, f5⟩ := hf it (by simp)
    refine wpAny_pyNext_tuple_item st (show s.heap.IsTuple a its.toArray from p) (x := u) (by simpa using hu) fun h' st' sb => ?_
    have I1 : Inv X pins σ H { s with heap := h' } := I.turned (t' := s.toks) (fun b o hb e => (sb.2 b hb).trans e) f0 f1 f3 f4 f5
    obtain ⟨o, e, c, d⟩ := id st'
    exact ⟨u, rfl, go_of (s := { s with heap := h' }) e c d (by decide) ⟨x, H, I1, ru, ⟨rfl, fun ys hy => by rw [I.tuple_inj hy hq]; exact hx⟩, st', fun b hb => (hf b hb).1⟩⟩
  done := by
    intro X hP hw hK hc i pins s σ H E I hf st hg
    subst hP hw hK
    obtain ⟨xs, hq, hx⟩ := hg
    obtain ⟨its, rv, p, hz⟩ := I.tuple hq
    obtain ⟨f0, f1, f2, f3, f4, f5⟩ := hf it (by simp)
    have hl := rv.length
    exact wpAny_pyNext_tuple_end (I.ok.hd hc) st (show s.heap.IsTuple a its.toArray from p) (by simp; omega) fun h' eb => ⟨rfl, I.turned (t' := s.toks) (fun b o hb e => eb b o hb e) f0 f1 f3 f4 f5⟩
  self := fun _ _ _ _ _ st h => wpAny_pyIter_tupleiter st h
theorem turn_range {P : Program} {w : World} {K : PySem.W.Frag} {tg : Expr} (it : Addr) (lo : Int) (n : Nat) : Turn P w K tg (Itr lo n) [it] it (fun i h => IsRangeIter h it (lo + (i : Nat) * 1) ((n : Int) - (i : Nat)) 1) where
  mem := by simp
  obj := fun i h st b hb => by
    have e : b = it := by simpa using hb
    subst e
    exact ⟨_, st, fun v z => by
      have z' : Data.fields _ = Data.cell v := z
      cases z'⟩
  keep := fun i h h' st k => k it (by simp) _ st
  item := by
    intro X hP hw hK hc i pins s σ H E I hf st hg
    subst hP hw hK
    obtain ⟨f0, f1, f2, f3, f4, f5⟩ := hf it (by simp)
    have W := Walks.range (prog := X.prog) (w := X.w) (I.ok.hd hc) it lo 1 n
    refine W.item i s _ _ hg st fun v h' tk hv st' kk => ?_
    obtain ⟨t, rfl⟩ := hv
    have I1 : Inv X pins σ H { s with heap := h', toks := tk } := I.turned (fun b o hb e => kk b o (by simpa using hb) e) f0 f1 f3 f4 f5
    refine ⟨_, rfl, go_of (s := { s with heap := h', toks := tk }) (n := "range_iterator") st' rfl rfl (by decide) ⟨.int (lo + i), H, I1, ⟨t, ?_⟩, ⟨rfl, rfl⟩, st', fun b hb => (hf b hb).1⟩⟩
    rw [Int.mul_one]
  done := by
    intro X hP hw hK hc i pins s σ H E I hf st hg
    subst hP hw hK
    obtain ⟨f0, f1, f2, f3, f4, f5⟩ := hf it (by simp)
    exact wpAny_pyNext_range_end (I.ok.hd hc) st (by have : n ≤ i := hg; omega) fun h' eb => ⟨rfl, I.turned (t' := s.toks) (fun b o hb e => eb b o hb e) f0 f1 f3 f4 f5⟩
  self := fun _ _ _ _ _ st h => wpAny_pyIter_rangeiter st h
end L2
namespace L2
open PySem PySem.Spec PyProof.Rows
section
variable {X : Cx} {tg : Expr}
noncomputable def iList (K : PySem.W.Frag) (tl : TE) : TI := fun σ H R => tl σ H fun x H1 => ∃ a, x = .ref a ∧ (∃ xs, SqL K H1 a xs) ∧ R (Itl K a) H1
noncomputable def iTup (K : PySem.W.Frag) (tl : TE) : TI := fun σ H R => tl σ H fun x H1 => ∃ a, x = .ref a ∧ (∃ xs, SqT K H1 a xs) ∧ R (Itt K a) H1
theorem pi_list {l : Expr} {tl : TE} (hl : PE X l tl) : PI X tg l (iList X.K tl) := by
  intro pins s σ H R I h
  refine thn (hl pins s σ H _ I h) fun v s1 hh0_ => ?_
  obtain ⟨x, H1, I1, r1, q1⟩ := hh0_
  obtain ⟨a, e, ⟨xs, hq⟩, q⟩ := q1
  subst e
  cases r1
  obtain ⟨its, rv, p, hz⟩ := I1.list hq
  refine wpAny_pyIter_list p.isList ?_
  refine ⟨s1.heap.objs.size, [s1.heap.objs.size], _, _, H1, rfl, I1.kept (t' := s1.toks) fun b o e => Heap.get?_push_of_some _ e, turn_list a _, ⟨_, Heap.get?_push_size _ rfl, rfl, rfl⟩, fun b hb => ?_, q⟩
  have e : b = s1.heap.objs.size := by simpa using hb
  subst e
  exact I1.fpOk (Nat.le_refl _) (I1.hok.fresh (Nat.le_refl _))
theorem pi_tup {l : Expr} {tl : TE} (hl : PE X l tl) : PI X tg l (iTup X.K tl) := by
  intro pins s σ H R I h
  refine thn (hl pins s σ H _ I h) fun v s1 hh0_ => ?_
  obtain ⟨x, H1, I1, r1, q1⟩ := hh0_
  obtain ⟨a, e, ⟨xs, hq⟩, q⟩ := q1
  subst e
  cases r1
  obtain ⟨its, rv, p, hz⟩ := I1.tuple hq
  refine wpAny_pyIter_tuple (show s1.heap.IsTuple a its.toArray from p) ?_
  refine ⟨s1.heap.objs.size, [s1.heap.objs.size], _, _, H1, rfl, I1.kept (t' := s1.toks) fun b o e => Heap.get?_push_of_some _ e, turn_tuple a _, ⟨_, Heap.get?_push_size _ rfl, rfl, rfl⟩, fun b hb => ?_, q⟩
  have e : b = s1.heap.objs.size := by simpa using hb
  subst e
  exact I1.fpOk (Nat.le_refl _) (I1.hok.fresh (Nat.le_refl _))
theorem range_it {pins : List (Addr × Obj)} {σ : St} {H : Hp} {s : Shared} {R : It → Hp → Prop} {E : Value → Shared → Prop} {lo hi : Int} {t u v : Tok} {tk : Nat} (I : Inv X pins σ H s) (h1 : -(2 ^ 62) ≤ lo) (h2 : lo < 2 ^ 62) (h3 : -(2 ^ 62) ≤ hi) (h4 : hi < 2 ^ 62)
    (q : R (Itr lo (hi - lo).toNat) H) : wpAny (model X.prog X.w) X.A (pyIter (.ref s.heap.objs.size)) (PIE X pins σ tg R) E { s with heap := s.heap.push { cls := .type "range", data := .fields #[.int lo t, .int hi u, .int 1 v] }, toks := tk } := by
  refine wpAny_pyIter_range (IsRange.new ..) (small_one h1 h2 h3 h4) ?_
  have I1 : Inv X pins σ H { s with heap := s.heap.push { cls := .type "range", data := .fields #[.int lo t, .int hi u, .int 1 v] }, toks := tk } := I.kept fun b o e => Heap.get?_push_of_some _ e
  refine ⟨(s.heap.push { cls := .type "range", data := .fields #[.int lo t, .int hi u, .int 1 v] }).objs.size, [(s.heap.push { cls := .type "range", data := .fields #[.int lo t, .int hi u, .int 1 v] }).objs.size], _, _, H, rfl,
    I1.kept (t' := tk) fun b o e => Heap.get?_push_of_some _ e, turn_range _ lo (hi - lo).toNat, ?_, fun b hb => ?_, q⟩
  · have e1 : lo + ((0 : Nat) : Int) * 1 = lo := by simp
    have e2 : (((hi - lo).toNat : Nat) : Int) - ((0 : Nat) : Int) = Builtin.Range.rangeSize lo hi 1 := by rw [rangeSize_one]; split <;> omega
    show IsRangeIter _ _ (lo + ((0 : Nat) : Int) * 1) ((((hi - lo).toNat : Nat) : Int) - ((0 : Nat) : Int)) 1
    rw [e1, e2]
    exact Heap.get?_push_size _ rfl
  · have e : b = (s.heap.push { cls := .type "range", data := .fields #[.int lo t, .int hi u, .int 1 v] }).objs.size := by simpa using hb
    subst e
    exact I1.fpOk (Nat.le_refl _) (I1.hok.fresh (Nat.le_refl _))
noncomputable def iRng1 (ta : TA) : TI := fun σ H R => ta σ H fun vs H1 => ∃ j : Int, vs = [.int j] ∧ -(2 ^ 62) ≤ j ∧ j < 2 ^ 62 ∧ R (Itr 0 j.toNat) H1
theorem pi_range1 {a : Expr} {ta : TA} {p pos : Pos} (hg : Gl X "range") (hm : X.mg "range" = none) (ha : PA X [a] ta) (hs : starEach [a] X.env = [(false, eval a X.env)] := by rfl) : PI X tg (.Call (.Name "range" p) [a] [] pos) (iRng1 ta) := by
  intro pins s σ H R I h
  refine Call_ (ld_blt I hg hm boot_range (PyProof.Rows.callWith_type1 (thn (ha pos pins s σ H _ I h) fun us s1 hh0_ => ?_) hs rfl))
  obtain ⟨vs, H1, I1, r1, q1⟩ := hh0_
  obtain ⟨j, e, q1, q2, q⟩ := q1
  subst e
  cases r1 with
  | cons r rr =>
    cases rr
    obtain ⟨t, rfl⟩ := r
    exact call_range_1 (range_it I1 (by omega) (by omega) q1 q2 (by simpa using q))
noncomputable def tFor (wi : TI) (g : TG) (tb : TS) : TS := fun D σ H => wi σ H fun J H1 => ∃ W : Nat → Nat → St → Hp → Prop, (∃ m, W 0 m σ H1) ∧ ∀ i m σ H, W i m σ H →
  (J.stop i H ∧ D.nx σ H) ∨ (J.go i H ∧ ∃ N : St → Hp → Prop, (∀ σ' H', N σ' H' → ∃ m', m' < m ∧ W (i + 1) m' σ' H') ∧ ∀ x H', J.yld i H x H' → g x σ H' fun σ2 H2 => tb { D with nx := N, ct := N, bk := D.nx } σ2 H2)
noncomputable def pinsAt (fp : List Addr) (h : Heap) : List (Addr × Obj) := fp.filterMap fun b => (h.get? b).map fun o => (b, o)
theorem mem_pinsAt {fp : List Addr} {h : Heap} {b : Addr} {o : Obj} (hb : b ∈ fp) (e : h.get? b = some o) : (b, o) ∈ pinsAt fp h := List.mem_filterMap.mpr ⟨b, hb, by rw [e]; rfl⟩
theorem of_pinsAt {fp : List Addr} {h : Heap} {p : Addr × Obj} (hp : p ∈ pinsAt fp h) : p.1 ∈ fp ∧ h.get? p.1 = some p.2 := by
  obtain ⟨b, hb, e⟩ := List.mem_filterMap.mp hp
  cases q : h.get? b with
  | none => rw [q] at e; cases e
  | some o =>
    rw [q] at e
    have e' : (b, o) = p := Option.some.inj e
    subst e'
    exact ⟨hb, q⟩
theorem Inv.pinned {pins : List (Addr × Obj)} {σ : St} {H : Hp} {s : Shared} {fp : List Addr} (I : Inv X pins σ H s) (hf : ∀ b ∈ fp, FpOk X pins H b) (ho : ∀ b ∈ fp, ∃ o, s.heap.get? b = some o ∧ ∀ v, o.data ≠ .cell v) : Inv X (pins ++ pinsAt fp s.heap) σ H s :=
  I.pins_of fun p hp => (List.mem_append.mp hp).elim (fun z => I.pin p (List.mem_append_right _ z)) fun z => by
    obtain ⟨hb, e⟩ := of_pinsAt z
    obtain ⟨f0, f1, f2, _⟩ := hf p.1 hb
    obtain ⟨o, e', d⟩ := ho p.1 hb
    rw [e] at e'; cases e'
    exact ⟨e, f0, f1, f2, d⟩
theorem Inv.unpinned {pins pl : List (Addr × Obj)} {σ : St} {H : Hp} {s : Shared} (I : Inv X (pins ++ pl) σ H s) : Inv X pins σ H s := I.pins_of fun p hp => I.pin p (List.mem_append_right _ (List.mem_append_left _ hp))
theorem ps_for {iter : Expr} {body : List Stmt} {wi : TI} {g : TG} {tb : TS} {pos : Pos} (hp : PassesOwn (model X.prog X.w) X.A X.env X.xe) (hc : X.calm = true) (hi : PI X tg iter wi) (hg : PG X tg g) (hb : PSs X body tb)
    (hs : ∀ x, foldedSetIterable iter X.env x = pure x := by intro _; rfl) : PS X (.For tg iter body [] pos) (tFor wi g tb) := by
  intro pins s σ H D I h
  refine wpAny_For (thn (hi pins s σ H _ I h) fun v s1 h1 => thn h1 fun itv s2 h2 => ?_) hs
  obtain ⟨it, fp, tn, J, H2, e, I2, T, st2, f2, W, ⟨m0, w0⟩, turn⟩ := h2
  subst e
  have stat : ∀ {H' : Hp}, (∀ b ∈ fp, H' b = none) → ∀ b ∈ fp, FpOk X pins H' b := fun hn b hb => ⟨hn b hb, (f2 b hb).2⟩
  refine codeAny_forLoop_any (fun n s' => ∃ i σ' H', Inv X pins σ' H' s' ∧ tn i s'.heap ∧ (∀ b ∈ fp, H' b = none) ∧ W i n σ' H') ?_ m0 ⟨0, σ, H2, I2, st2, fun b hb => (f2 b hb).1, w0⟩
  rintro n s3 ⟨i, σ3, H3, I3, st3, fr3, w3⟩
  rcases turn i n σ3 H3 w3 with ⟨stop, qn⟩ | ⟨go, N, hN, step⟩
  · refine wpAny_passesOwn hp (thn (T.done X rfl rfl rfl hc i pins s3 σ3 H3 X.xe I3 (stat fr3) st3 stop) fun r s4 hh0_ => ?_)
    obtain ⟨hr, I4⟩ := hh0_
    subst hr
    exact wpAny_execs_nil ⟨σ3, H3, I4, qn⟩
  · refine wpAny_passesOwn hp (thn (T.item X rfl rfl rfl hc i pins s3 σ3 H3 X.xe I3 (stat fr3) st3 go) fun r s4 hh0_ => ?_)
    obtain ⟨u, hr, h4⟩ := hh0_
    subst hr
    refine wpAny_passesOwn hp (thn h4 fun _ s5 hh0_ => ?_)
    obtain ⟨x, H5, I5, r5, y5, st5, fr5⟩ := hh0_
    have I5' := I5.pinned (stat fr5) (T.obj _ _ st5)
    refine wpAny_passesOwn hp (thn (hg _ s5 σ3 H5 x u _ I5' r5 (step x H5 y5)) fun _ s6 hh0_ => ?_)
    obtain ⟨σ6, H6, I6, q6⟩ := hh0_
    refine wpAny_passesOwn hp (thn (hb _ s6 σ6 H6 _ I6 q6) fun f s7 q7 => ?_)
    have again : ∀ {σ7 : St} {H7 : Hp}, Inv X (pins ++ pinsAt fp s5.heap) σ7 H7 s7 → N σ7 H7 → ∃ m, m < n ∧ ∃ i σ' H', Inv X pins σ' H' s7 ∧ tn i s7.heap ∧ (∀ b ∈ fp, H' b = none) ∧ W i m σ' H' := fun {σ7 H7} I7 n7 => by
      obtain ⟨m', hm, w7⟩ := hN σ7 H7 n7
      refine ⟨m', hm, i + 1, σ7, H7, I7.unpinned, T.keep _ _ _ st5 fun b hb o e => (I7.pin (b, o) (List.mem_append_right _ (List.mem_append_right _ (mem_pinsAt hb e)))).1, fun b hb => ?_, w7⟩
      obtain ⟨o, e, d⟩ := T.obj _ _ st5 b hb
      exact (I7.pin (b, o) (List.mem_append_right _ (List.mem_append_right _ (mem_pinsAt hb e)))).2.1
    cases f with
    | next => obtain ⟨σ7, H7, I7, n7⟩ := q7; exact again I7 n7
    | cont => obtain ⟨σ7, H7, I7, n7⟩ := q7; exact again I7 n7
    | brk => obtain ⟨σ7, H7, I7, q7⟩ := q7; exact ⟨σ7, H7, I7.unpinned, q7⟩
    | ret v => obtain ⟨x7, σ7, H7, I7, r7, q7⟩ := q7; exact ⟨x7, σ7, H7, I7.unpinned, r7, q7⟩
end
end L2
namespace L2
open PySem PySem.Spec PyProof.Rows
noncomputable abbrev R2 := V → V → Hp → VK → Prop
noncomputable def OpR (X : Cx) (f : Value → Value → Sem Value) (r : R2) : Prop :=
  ∀ (pins : List (Addr × Obj)) (s : Shared) (σ : St) (H : Hp) (x y : V) (v u : Value) (Q : VK), Inv X pins σ H s → RelV x v → RelV y u → r x y H Q →
    wpAny (model X.prog X.w) X.A (f v u) (EP X pins σ Q) X.xe s
noncomputable def UnR (X : Cx) (f : Value → Sem Value) (r : V → Hp → VK → Prop) : Prop :=
  ∀ (pins : List (Addr × Obj)) (s : Shared) (σ : St) (H : Hp) (x : V) (v : Value) (Q : VK), Inv X pins σ H s → RelV x v → r x H Q →
    wpAny (model X.prog X.w) X.A (f v) (EP X pins σ Q) X.xe s
noncomputable def CallR (X : Cx) (f : Value) (r : List V → Hp → VK → Prop) : Prop :=
  ∀ (pins : List (Addr × Obj)) (s : Shared) (σ : St) (H : Hp) (xs : List V) (us : List Value) (Q : VK), Inv X pins σ H s → Vals xs us → r xs H Q →
    wpAny (model X.prog X.w) X.A (call f us) (EP X pins σ Q) X.xe s
noncomputable def TruR (X : Cx) (r : V → Hp → (Bool → Hp → Prop) → Prop) : Prop :=
  ∀ (pins : List (Addr × Obj)) (s : Shared) (σ : St) (H : Hp) (x : V) (v : Value) (Q : Bool → Hp → Prop), Inv X pins σ H s → RelV x v → r x H Q →
    wpAny (model X.prog X.w) X.A (truthy v) (TP X pins σ Q) X.xe s
noncomputable def tOp (r : R2) (ta tb : TE) : TE := fun σ H Q => ta σ H fun x H1 => tb σ H1 fun y H2 => r x y H2 Q
noncomputable def tUn (r : V → Hp → VK → Prop) (ta : TE) : TE := fun σ H Q => ta σ H fun x H1 => r x H1 Q
noncomputable def rI (C : Int → Int → Prop) (g : Int → Int → V) : R2 := fun x y H Q => ∃ i j, x = .int i ∧ y = .int j ∧ C i j ∧ Q (g i j) H
noncomputable def rI0 (g : Int → Int → V) : R2 := fun x y H Q => ∃ i j, x = .int i ∧ y = .int j ∧ Q (g i j) H
noncomputable def rU (g : Int → V) : V → Hp → VK → Prop := fun x H Q => ∃ i, x = .int i ∧ Q (g i) H
section
variable {X : Cx} {a b c : Expr} {ta tb tc : TE} {pos : Pos}
theorem binT (ha : PE X a ta) (hb : PE X b tb) {pins : List (Addr × Obj)} {s : Shared} {σ : St} {H : Hp} {R : V → V → Hp → Prop} (I : Inv X pins σ H s)
    (h : ta σ H fun x H1 => tb σ H1 fun y H2 => R x y H2) {Q : Value → Shared → Prop} {f : Value → Value → Sem Value}
    (hf : ∀ v u s2 x y H2, Inv X pins σ H2 s2 → RelV x v → RelV y u → R x y H2 → wpAny (model X.prog X.w) X.A (f v u) Q X.xe s2) :
    wpAny (model X.prog X.w) X.A (eval a X.env) (fun v s₁ => wpAny (model X.prog X.w) X.A (eval b X.env) (fun u s₂ => wpAny (model X.prog X.w) X.A (f v u) Q X.xe s₂) X.xe s₁) X.xe s := by
  refine thn (ha pins s σ H _ I h) fun v s1 hh0_ => ?_
  obtain ⟨x, H1, I1, r1, q1⟩ := hh0_
  refine thn (hb pins s1 σ H1 _ I1 q1) fun u s2 hh0_ => ?_
  obtain ⟨y, H2, I2, r2, q2⟩ := hh0_
  exact hf v u s2 x y H2 I2 r1 r2 q2
theorem pe_op {op : Operator} {r : R2} (ho : OpR X (binaryOp op) r) (ha : PE X a ta) (hb : PE X b tb) : PE X (.BinOp a op b pos) (tOp r ta tb) := by
  intro pins s σ H Q I h
  exact wpAny_BinOp (binT ha hb I h fun v u s2 x y H2 I2 rx ry q => ho pins s2 σ H2 x y v u Q I2 rx ry q)
theorem pe_un {op : UnaryOp} {r : V → Hp → VK → Prop} (ho : UnR X (unaryOp op) r) (ha : PE X a ta) : PE X (.UnaryOp op a pos) (tUn r ta) := by
  intro pins s σ H Q I h
  exact UnaryOp_ (thn (ha pins s σ H _ I h) fun v s1 ⟨x, H1, I1, r1, q1⟩ => ho pins s1 σ H1 x v Q I1 r1 q1)
theorem opI {f : Value → Value → Sem Value} {C : Int → Int → Prop} {g : Int → Int → Int}
    (rule : ∀ (i j : Int) (t u : Tok) (s : Shared) (Q : Value → Shared → Prop) (E : Value → Shared → Prop), C i j → Q (.int (g i j) s.toks) { s with toks := s.toks + 1 } → wpAny (model X.prog X.w) X.A (f (.int i t) (.int j u)) Q E s) :
    OpR X f (rI C fun i j => .int (g i j)) := by
  intro pins s σ H x y v u Q I rx ry h
  obtain ⟨i, j, rfl, rfl, hc, q⟩ := h
  obtain ⟨t, rfl⟩ := rx
  obtain ⟨t', rfl⟩ := ry
  exact rule i j t t' s _ _ hc ⟨.int (g i j), H, I.tok _, ⟨_, rfl⟩, q⟩
theorem opI0 {f : Value → Value → Sem Value} {g : Int → Int → Int}
    (rule : ∀ (i j : Int) (t u : Tok) (s : Shared) (Q : Value → Shared → Prop) (E : Value → Shared → Prop), Q (.int (g i j) s.toks) { s with toks := s.toks + 1 } → wpAny (model X.prog X.w) X.A (f (.int i t) (.int j u)) Q E s) :
    OpR X f (rI0 fun i j => .int (g i j)) := by
  intro pins s σ H x y v u Q I rx ry h
  obtain ⟨i, j, rfl, rfl, q⟩ := h
  obtain ⟨t, rfl⟩ := rx
  obtain ⟨t', rfl⟩ := ry
  exact rule i j t t' s _ _ ⟨.int (g i j), H, I.tok _, ⟨_, rfl⟩, q⟩
theorem opB0 {f : Value → Value → Sem Value} {g : Int → Int → Bool}
    (rule : ∀ (i j : Int) (t u : Tok) (s : Shared) (Q : Value → Shared → Prop) (E : Value → Shared → Prop), Q (.bool (g i j)) s → wpAny (model X.prog X.w) X.A (f (.int i t) (.int j u)) Q E s) :
    OpR X f (rI0 fun i j => .bl (g i j)) := by
  intro pins s σ H x y v u Q I rx ry h
  obtain ⟨i, j, rfl, rfl, q⟩ := h
  obtain ⟨t, rfl⟩ := rx
  obtain ⟨t', rfl⟩ := ry
  exact rule i j t t' s _ _ ⟨.bl (g i j), H, I, rfl, q⟩
noncomputable def CPow (i j : Int) : Prop := 0 ≤ j ∧ j ≤ 1000000 ∧ i.natAbs < 2 ^ 64
noncomputable def CMul (i j : Int) : Prop := (-(2 ^ 64) < i ∧ i < 2 ^ 64) ∨ (-(2 ^ 64) < j ∧ j < 2 ^ 64)
theorem CMul.ok {i j : Int} (h : CMul i j) : IntMulOk i j := by
  rcases h with ⟨h1, h2⟩ | ⟨h1, h2⟩
  · exact .of_left (intBits_le_64 h1 h2)
  · exact .of_right (intBits_le_64 h1 h2)
theorem op_add : OpR X (binaryOp .Add) (rI0 fun i j => .int (i + j)) := opI0 fun _ _ _ _ _ _ _ q => add_int q
theorem op_sub : OpR X (binaryOp .Sub) (rI0 fun i j => .int (i - j)) := opI0 fun _ _ _ _ _ _ _ q => sub_int q
theorem op_modN : OpR X (binaryOp .Mod) (rI (fun _ j => j ≠ 0) fun i j => .int (i.fmod j)) := opI fun _ _ _ _ _ _ _ hc q => mod_int' hc q
theorem op_pow : OpR X (binaryOp .Pow) (rI CPow fun i j => .int (i ^ j.toNat)) := opI fun _ _ _ _ _ _ _ hc q => pow_int_small hc.1 hc.2.1 hc.2.2 q
theorem unI {f : Value → Sem Value} {g : Int → Int}
    (rule : ∀ (i : Int) (t : Tok) (s : Shared) (Q : Value → Shared → Prop) (E : Value → Shared → Prop), Q (.int (g i) s.toks) { s with toks := s.toks + 1 } → wpAny (model X.prog X.w) X.A (f (.int i t)) Q E s) :
    UnR X f (rU fun i => .int (g i)) := by
  intro pins s σ H x v Q I rx h
  obtain ⟨i, rfl, q⟩ := h
  obtain ⟨t, rfl⟩ := rx
  exact rule i t s _ _ ⟨.int (g i), H, I.tok _, ⟨_, rfl⟩, q⟩
theorem un_neg : UnR X (unaryOp .USub) (rU fun i => .int (-i)) := unI fun _ _ _ _ _ q => neg_int q
end
section
variable {X : Cx} {a b c : Expr} {ta tb tc : TE} {pos : Pos}
theorem fin_bl {pins : List (Addr × Obj)} {σ : St} {H : Hp} {s : Shared} {Q : VK} {k k' : Bool} (I : Inv X pins σ H s) (q : Q (.bl k) H) (e : k = k') : EP X pins σ Q (.bool k') s := by
  subst e
  exact ⟨.bl k, H, I, rfl, q⟩
theorem op_lt : OpR X (compareOp .Lt) (rI0 fun i j => .bl (decide (i < j))) := opB0 fun _ _ _ _ _ _ _ q => lt_int q
theorem op_le : OpR X (compareOp .LtE) (rI0 fun i j => .bl (decide (i ≤ j))) := opB0 fun _ _ _ _ _ _ _ q => le_int q
theorem op_ge : OpR X (compareOp .GtE) (rI0 fun i j => .bl (decide (j ≤ i))) := opB0 fun _ _ _ _ _ _ _ q => ge_int q
theorem op_in_str : OpR X (compareOp .In) (fun x y H Q => ∃ i j, x = .str i ∧ y = .str j ∧ Q (.bl (!(Builtin.Str.occurrences j i 0 j.length 1).isEmpty)) H) := by
  intro pins s σ H x y v u Q I rx ry h
  obtain ⟨i, j, rfl, rfl, q⟩ := h
  obtain ⟨t, rfl⟩ := rx
  obtain ⟨t', rfl⟩ := ry
  exact in_str (fin_bl I q rfl)
theorem op_isN : OpR X (compareOp .Is) (fun x y H Q => y = .non ∧ Q (.bl (decide (x = .non))) H) := by
  intro pins s σ H x y v u Q I rx ry h
  obtain ⟨rfl, q⟩ := h
  cases ry
  refine is_none_gen (fin_bl I q ?_)
  cases x <;> first
    | (cases rx; rfl)
    | (obtain ⟨t, rfl⟩ := rx; rfl)
theorem op_notN : OpR X (compareOp .IsNot) (fun x y H Q => y = .non ∧ Q (.bl (!decide (x = .non))) H) := by
  intro pins s σ H x y v u Q I rx ry h
  obtain ⟨rfl, q⟩ := h
  cases ry
  refine isnot_none_gen (fin_bl I q ?_)
  cases x <;> first
    | (cases rx; rfl)
    | (obtain ⟨t, rfl⟩ := rx; rfl)
theorem OpR.or {f : Value → Value → Sem Value} {r r' : R2} (h : OpR X f r) (h' : OpR X f r') : OpR X f (fun x y H Q => r x y H Q ∨ r' x y H Q) := by
  intro pins s σ H x y v u Q I rx ry q
  rcases q with q | q
  · exact h pins s σ H x y v u Q I rx ry q
  · exact h' pins s σ H x y v u Q I rx ry q
theorem nomark (b : Expr) {op : CmpOp} (h : op ≠ .In := by decide) (h2 : op ≠ .NotIn := by decide) : behindInMarks op b = false := by
  have e1 : (op == CmpOp.In) = false := by cases op <;> first | rfl | exact absurd rfl h
  have e2 : (op == CmpOp.NotIn) = false := by cases op <;> first | rfl | exact absurd rfl h2
  cases b <;> simp [behindInMarks, e1, e2]
theorem pe_cmpR {op : CmpOp} {r : R2} (ho : OpR X (compareOp op) r) (ha : PE X a ta) (hb : PE X b tb) (hm : behindInMarks op b = false) : PE X (.Compare a [op] [b] pos) (tOp r ta tb) := by
  intro pins s σ H Q I h
  exact wpAny_Compare1 (binT ha hb I h fun v u s2 x y H2 I2 rx ry q => ho pins s2 σ H2 x y v u Q I2 rx ry q) hm
noncomputable def tTest (t : TE) : TT := fun σ H Q => t σ H fun x H' => ∃ k, x = .bl k ∧ Q k H'
theorem pt_cmpR {op : CmpOp} {r : R2} (ho : OpR X (compareOp op) r) (ha : PE X a ta) (hb : PE X b tb) (hm : behindInMarks op b = false) : PT X (.Compare a [op] [b] pos) (tTest (tOp r ta tb)) := by
  intro pins s σ H Q I h
  refine wpAny_isTrue_Compare1 (thn (ha pins s σ H _ I h) fun v s1 ⟨x, H1, I1, r1, q1⟩ => thn (hb pins s1 σ H1 _ I1 q1) fun u s2 ⟨y, H2, I2, r2, q2⟩ =>
    thn (ho pins s2 σ H2 x y v u _ I2 r1 r2 q2) fun c s3 ⟨z, H3, I3, r3, k, e, q3⟩ => ?_) hm
  subst e
  cases r3
  exact wpAny_truthy_bool ⟨H3, I3, q3⟩
noncomputable def tChain (r r' : R2) (ta tb tc : TE) : TE := fun σ H Q => ta σ H fun x H1 => tb σ H1 fun y H2 => r x y H2 fun z H3 => ∃ k, z = .bl k ∧
  (if k = true then tc σ H3 fun w' H4 => r' y w' H4 Q else Q (.bl false) H3)
theorem pt_chain {op op' : CmpOp} {r r' : R2} (ho : OpR X (compareOp op) r) (ho' : OpR X (compareOp op') r') (ha : PE X a ta) (hb : PE X b tb) (hc : PE X c tc)
    (hm : lastMarks [op, op'] [b, c] = false := by with_unfolding_all rfl) : PT X (.Compare a [op, op'] [b, c] pos) (tTest (tChain r r' ta tb tc)) := by
  intro pins s σ H Q I h
  refine isTrue_chain (thn (ha pins s σ H _ I h) fun v s1 ⟨x, H1, I1, r1, q1⟩ => test_link (thn (hb pins s1 σ H1 _ I1 q1) fun u s2 ⟨y, H2, I2, r2, q2⟩ =>
    thn (ho pins s2 σ H2 x y v u _ I2 r1 r2 q2) fun d s3 ⟨z, H3, I3, r3, k, e, q3⟩ => ?_)) hm
  subst e
  cases r3
  refine wpAny_truthy_bool ?_
  cases k with
  | false =>
    obtain ⟨k', e', q'⟩ := q3
    cases e'
    exact ite_ff ⟨H3, I3, q'⟩
  | true =>
    refine ite_tt (test_last (thn (hc pins s3 σ H3 _ I3 q3) fun w' s4 ⟨z', H4, I4, r4, q4⟩ => thn (ho' pins s4 σ H4 y z' u w' _ I4 r2 r4 q4) fun d' s5 hh0_ => ?_))
    obtain ⟨z2, H5, I5, r5, k2, e2, q5⟩ := hh0_
    subst e2
    cases r5
    exact wpAny_truthy_bool ⟨H5, I5, q5⟩
noncomputable def TruV (K : PySem.W.Frag) (x : V) (H : Hp) (k : Bool) : Prop :=
  match x with
  | .non => k = false
  | .bl b => k = b
  | .int i => k = (i != 0)
  | .str y => y.length ≤ sizeLine ∧ k = ((y.length : Int) != 0)
  | .byt y => y.size ≤ sizeLine ∧ k = ((y.size : Int) != 0)
  | .ref p => (∃ xs, SqL K H p xs ∧ k = !xs.isEmpty) ∨ (∃ xs, SqT K H p xs ∧ k = !xs.isEmpty) ∨ ∃ kvs, H p = some (.dK kvs) ∧ k = !kvs.isEmpty
  | _ => False
theorem isEmpty_kv {κ : Type} {kvs : List (κ × V)} {vs : List (κ × Value)} (r : KV kvs vs) : (!vs.isEmpty) = !kvs.isEmpty := by
  cases r <;> rfl
theorem isEmpty_of {xs : List V} {its : List Value} (r : Vals xs its) : (!its.toArray.isEmpty) = !xs.isEmpty := by
  cases r <;> simp
theorem line63 : (sizeLine : Nat) < 2 ^ 63 := by rw [sizeLine_eq]; decide
theorem tru_ok : TruR X (fun x H Q => ∃ k, TruV X.K x H k ∧ Q k H) := by
  intro pins s σ H x v Q I rx h
  obtain ⟨k, e, q⟩ := h
  have hl := line63
  have hs : sizeLine = 16777216 := sizeLine_eq
  cases x with
  | non =>
    cases rx
    have e' : k = false := e
    subst e'
    exact truthy_none ⟨H, I, q⟩
  | bl b =>
    cases rx
    have e' : k = b := e
    subst e'
    exact wpAny_truthy_bool ⟨H, I, q⟩
  | int i =>
    obtain ⟨t, rfl⟩ := rx
    have e' : k = (i != 0) := e
    subst e'
    exact PySem.P.truthy_int ⟨H, I, q⟩
  | str y =>
    obtain ⟨t, rfl⟩ := rx
    obtain ⟨hy, e'⟩ : y.length ≤ sizeLine ∧ k = ((y.length : Int) != 0) := e
    subst e'
    exact PySem.P.truthy_str (by omega) ⟨H, I.tok _, q⟩
  | byt y =>
    obtain ⟨t, rfl⟩ := rx
    obtain ⟨hy, e'⟩ : y.size ≤ sizeLine ∧ k = ((y.size : Int) != 0) := e
    subst e'
    exact PySem.W.truthy_bytes (by omega) ⟨H, I.tok _, q⟩
  | ref p =>
    cases rx
    have e' : (∃ xs, SqL X.K H p xs ∧ k = !xs.isEmpty) ∨ (∃ xs, SqT X.K H p xs ∧ k = !xs.isEmpty) ∨ ∃ kvs, H p = some (.dK kvs) ∧ k = !kvs.isEmpty := e
    rcases e' with ⟨xs, hx, e'⟩ | ⟨xs, hx, e'⟩ | ⟨kvs, hx, e'⟩
    · subst e'
      obtain ⟨its, r, pl, hz⟩ := I.list hx
      have hlen := r.length
      exact wpAny_truthy_list pl.isList (by simp only [List.size_toArray]; omega) ⟨H, I.tok _, by rw [isEmpty_of r]; exact q⟩
    · subst e'
      obtain ⟨its, r, pl, hz⟩ := I.tuple hx
      have hlen := r.length
      exact truthy_tuple pl (by simp only [List.size_toArray]; omega) ⟨H, I.tok _, by rw [isEmpty_of r]; exact q⟩
    · subst e'
      obtain ⟨hz, hS, vs, r, m⟩ : kvs.length ≤ sizeLine ∧ (p == sysModules) = false ∧ ∃ vs, KV kvs vs ∧ s.heap.DictOf (mixKind X.prog X.w) p vs := I.hok p _ hx
      have hlen : kvs.length = vs.length := Paired.length r
      exact wpAny_truthy_dict hS m (by omega) ⟨H, I.tok _, by rw [isEmpty_kv r]; exact q⟩
  | _ => exact (show False from e).elim
theorem pt_truth (ha : PE X a ta) (he : ∀ whole, isTrue a X.env whole = (do let v ← whole; standAt a.pos; holding [v] (truthy v))) :
    PT X a (fun σ H Q => ta σ H fun x H' => ∃ k, TruV X.K x H' k ∧ Q k H') := by
  intro pins s σ H Q I h
  exact isTrue_plain (thn (ha pins s σ H _ I h) fun v s1 ⟨x, H1, I1, r1, q1⟩ => tru_ok pins s1 σ H1 x v Q I1 r1 q1) (he _)
theorem op_add_str : OpR X (binaryOp .Add) (fun x y H Q => ∃ i j, x = .str i ∧ y = .str j ∧ i.length + j.length ≤ sizeLine ∧ Q (.str (i ++ j)) H) := by
  intro pins s σ H x y v u Q I rx ry h
  obtain ⟨i, j, rfl, rfl, hz, q⟩ := h
  obtain ⟨t, rfl⟩ := rx
  obtain ⟨t', rfl⟩ := ry
  exact add_str (fun t' tk => ⟨.str (i ++ j), H, I.tok _, ⟨_, rfl⟩, q⟩) hz
theorem vals1 {x : V} {us : List Value} (r : Vals [x] us) : ∃ u, us = [u] ∧ RelV x u := by
  cases r with
  | cons r1 r2 => cases r2; exact ⟨_, rfl, r1⟩
theorem vals2 {x y : V} {us : List Value} (r : Vals [x, y] us) : ∃ u w', us = [u, w'] ∧ RelV x u ∧ RelV y w' := by
  cases r with
  | cons r1 r2 =>
    cases r2 with
    | cons r3 r4 => cases r4; exact ⟨_, _, rfl, r1, r3⟩
theorem call_max2 (hc : X.calm = true) : CallR X (.builtin "max") (fun xs H Q => ∃ i j, xs = [.int i, .int j] ∧ Q (.int (if j > i then j else i)) H) := by
  intro pins s σ H xs us Q I r h
  obtain ⟨i, j, rfl, q⟩ := h
  obtain ⟨u, w', rfl, ⟨t, rfl⟩, ⟨t', rfl⟩⟩ := vals2 r
  refine max_two_ints (I.ok.hd hc) fun h' tk k => ⟨_, H, I.kept k, ?_, q⟩
  by_cases hj : j > i
  · rw [if_pos hj, if_pos hj]; exact ⟨_, rfl⟩
  · rw [if_neg hj, if_neg hj]; exact ⟨_, rfl⟩
theorem call_int1 : CallR X (.type "int") (fun xs H Q => (∃ i, xs = [.int i] ∧ Q (.int i) H) ∨ ∃ k, xs = [.bl k] ∧ Q (.int (if k then 1 else 0)) H) := by
  intro pins s σ H xs us Q I r h
  rcases h with ⟨i, rfl, q⟩ | ⟨k, rfl, q⟩
  · obtain ⟨u, rfl, t, rfl⟩ := vals1 r
    exact call_int_int ⟨.int i, H, I, ⟨_, rfl⟩, q⟩
  · obtain ⟨u, rfl, r1⟩ := vals1 r
    cases r1
    exact call_int_bool ⟨.int (if k then 1 else 0), H, I.tok _, ⟨_, rfl⟩, q⟩
end
end L2
namespace L2
open PySem PySem.Spec PyProof.Rows
structure ObjM (h : Heap) (x dx C : Addr) (mA : Str → Option Value) : Prop where
  obj : h.get? x = some (PySem.W.instObj C dx)
  ns : h.Ns1 dx mA
  ne : dx ≠ x
section
variable {prog : Program} {w : World} {A : Around} {E : Value → Shared → Prop} {s : Shared} {K : PySem.W.Frag} {x dx C f : Addr} {mA : Str → Option Value} {name : Str} {v : Value}
end
theorem RelO.some_of {v : V} {o : Option Value} (r : RelO (some v) o) : ∃ u, o = some u ∧ RelV v u := by
  cases o with
  | none => exact (show False from r).elim
  | some u => exact ⟨u, rfl, r⟩
section
variable {P : Program} {w : World} {H H' : Hp} {h h' : Heap} {a C dx : Addr} {fs fs' : List (Str × V)}
end
structure Cls (K : PySem.W.Frag) (C : Addr) : Prop where
  pg : PySem.W.plainGet K C Str.empty = true
  hd : PySem.W.hasDictIn K C = true
  po : PySem.W.plainOver K C = true
  sa : PySem.W.findIn K (.ref C) "__setattr__" = some (some (.builtin "object.__setattr__"))
theorem Cls.get {K : PySem.W.Frag} {C : Addr} (c : Cls K C) (f : Str) : PySem.W.plainGet K C f = true := c.pg
structure Con (K : PySem.W.Frag) (C : Addr) (f : Str) (v : V) (u : Value) : Prop where
  at_ : PySem.W.findIn K (.ref C) f = some (some u)
  rel : RelV v u
  get : PySem.W.specialIn K u "__get__" = some none
  cp : PySem.W.copiedNames.contains f = false
structure Meth (K : PySem.W.Frag) (C : Addr) (m : Str) (f : Addr) : Prop where
  at_ : PySem.W.findIn K (.ref C) m = some (some (.ref f))
  fn : PySem.W.isFn K (.ref f) = true
  kp : PySem.W.keepIn K (.ref f) = true
section
variable {X : Cx} {pins : List (Addr × Obj)} {σ : St} {H : Hp} {s : Shared} {a C dx : Addr} {fs : List (Str × V)} {f : Str} {v : V} {A : Around} {E : Value → Shared → Prop}
end
section
variable {X : Cx} {o e value : Expr} {f : Str} {pos pos' tpos : Pos} {ta tv : TE}
end
section
variable {X : Cx} {pins : List (Addr × Obj)} {σ : St} {H : Hp} {s : Shared} {A : Around} {E : Value → Shared → Prop} {Q : Value → Shared → Prop} {c : Value} {b : Bool}
inductive TyOf (K : PySem.W.Frag) (H : Hp) : V → Value → Prop where
  | non : TyOf K H .non (.type "NoneType")
  | bl (x : Bool) : TyOf K H (.bl x) (.type "bool")
  | int (i : Int) : TyOf K H (.int i) (.type "int")
  | str (x : Str) : TyOf K H (.str x) (.type "str")
  | flt (x : UInt64) : TyOf K H (.flt x) (.type "float")
  | lst {a : Addr} {xs : List V} (e : H a = some (.lst xs)) : TyOf K H (.ref a) (.type "list")
  | frz {a : Addr} {o : Obj} {xs : List V} (e : H a = some (.frz o (.lst xs))) : TyOf K H (.ref a) (.type "list")
  | tup {a : Addr} {xs : List V} (e : H a = some (.tup xs)) : TyOf K H (.ref a) (.type "tuple")
  | dK {a : Addr} {kvs : List (Key × V)} (e : H a = some (.dK kvs)) : TyOf K H (.ref a) (.type "dict")
  | dT {a : Addr} {kvs : List (List Key × V)} (e : H a = some (.dT kvs)) : TyOf K H (.ref a) (.type "dict")
  | ins {a C dx : Addr} {fs : List (Str × V)} (e : H a = some (.ins C dx fs)) (cl : Cls K C) (ha : PySem.W.findIn K (.ref C) "__class__" = some (some (.builtin "object.__class__")))
      (hn : PySem.W.specialIn K (.builtin "object.__class__") "__get__" = some (some (.builtin "getset_descriptor.__get__"))) (htk : PySem.W.takesIn K (.builtin "object.__class__") = some true)
      (hm : PySem.W.mroIn K C (.type "object") = some true) : TyOf K H (.ref a) (.ref C)
end
end L2
namespace L2
open PySem PySem.Spec PyProof.Rows
structure Room (k : Nat) (A : Around) : Prop where
  hd : A.handled = none
  dp : A.depth + 3 * k + 5 < recursionLimit
  un : A.units + 16 * k + 200 < cLine
theorem Room.mono {j k : Nat} {A : Around} (r : Room k A) (h : j ≤ k) : Room j A := ⟨r.hd, by have := r.dp; omega, by have := r.un; omega⟩
theorem Room.deeper {k : Nat} {A : Around} (r : Room (k + 1) A) (env : Env) : Room k (A.deeper env) :=
  ⟨r.hd, by have := r.dp; show A.depth + 1 + 3 * k + 5 < _; omega, by have := r.un; show A.units + 3 + 16 * k + 200 < _; omega⟩
theorem Room.in1 {k : Nat} {A : Around} (r : Room (k + 1) A) : Room k A.in1 :=
  ⟨r.hd, by have := r.dp; show A.depth + 3 * k + 5 < _; omega, by have := r.un; show A.units + 1 + 16 * k + 200 < _; omega⟩
theorem Room.depth {k : Nat} {A : Around} (r : Room k A) : A.depth < recursionLimit := by have := r.dp; omega
theorem Room.units {k : Nat} {A : Around} (r : Room k A) : A.units + 64 < cLine := by have := r.un; omega
noncomputable def tNil : TA := fun _ H Q => Q [] H
noncomputable def tCons (ta : TE) (tr : TA) : TA := fun σ H Q => ta σ H fun x H1 => tr σ H1 fun xs H2 => Q (x :: xs) H2
section
variable {X : Cx} {e : Expr} {es : List Expr} {te : TE} {t : TA} {pos : Pos}
theorem pa_nil : PA X [] tNil := fun _ _ _ _ H Q I h => Calls.spliced_nil ⟨[], H, I, .nil, h⟩
theorem pa_cons (ha : PE X e te) (hr : PA X es t) (hs : starEach (e :: es) X.env = (false, eval e X.env) :: starEach es X.env := by rfl) : PA X (e :: es) (tCons te t) := by
  intro pos pins s σ H Q I h
  rw [hs]
  show wpAny _ _ (spliced ((false, eval e X.env) :: backTo pos (starEach es X.env))) _ _ s
  refine Calls.spliced_cons (thn (ha pins s σ H _ I h) fun u s1 hh0_ => ?_)
  obtain ⟨x, H1, I1, r1, q1⟩ := hh0_
  exact thn (hr pos pins s1 σ H1 _ I1 q1) fun us s2 ⟨xs, H2, I2, r2, q2⟩ => ⟨x :: xs, H2, I2, .cons r1 r2, q2⟩
noncomputable def tTup (t : TA) : TE := fun σ H Q => t σ H fun xs H1 => xs.length ≤ sizeLine ∧ ∀ p, H1 p = none → Q (.ref p) (upd H1 p (.tup xs))
noncomputable def tLst (t : TA) : TE := fun σ H Q => t σ H fun xs H1 => xs.length ≤ sizeLine ∧ ∀ p, H1 p = none → Q (.ref p) (upd H1 p (.lst xs))
theorem pe_tup {x1} (h : PA X es t) : PE X (.Tuple es x1 pos) (tTup t) := by
  intro pins s σ H Q I hq
  refine wpAny_Tuple_spliced (thn (h pos pins s σ H _ I hq) fun us s1 ⟨xs, H1, I1, r, z, q⟩ => ⟨by rw [← r.length]; exact z, ?_⟩)
  have hf : H1 s1.heap.objs.size = none := I1.hok.fresh (Nat.le_refl _)
  refine ⟨.ref s1.heap.objs.size, upd H1 s1.heap.objs.size (.tup xs), I1.laid (t' := s1.toks) (fun b u e => Heap.get?_push_of_some _ e) (Nat.le_refl _) ?_, rfl, q _ hf⟩
  exact ⟨z, us, r, ⟨_, Heap.get?_push_size _ rfl, rfl, ⟨_, rfl⟩, rfl⟩⟩
theorem pe_lst (h : PA X es t) : PE X (.List es pos) (tLst t) := by
  intro pins s σ H Q I hq
  refine wpAny_List_spliced (thn (h pos pins s σ H _ I hq) fun us s1 ⟨xs, H1, I1, r, z, q⟩ => ⟨by rw [← r.length]; exact z, ?_⟩)
  have hf : H1 s1.heap.objs.size = none := I1.hok.fresh (Nat.le_refl _)
  refine ⟨.ref s1.heap.objs.size, upd H1 s1.heap.objs.size (.lst xs), I1.laid (t' := s1.toks) (fun b u e => Heap.get?_push_of_some _ e) (Nat.le_refl _) ?_, rfl, q _ hf⟩
  exact ⟨z, us, 0, r, Heap.get?_push_size _ rfl⟩
end
noncomputable abbrev Sp := List V → Hp → VK → XK → Prop
noncomputable abbrev CXT := List Env → Hp → Shared → XK → Value → Shared → Prop
structure Env0 (P : Program) (w : World) (K : PySem.W.Frag) (mg : Str → Option Value) (base : Heap) (A : Around) (outer : List Env) (s : Shared) (H : Hp) : Prop where
  frames : A.frames = some outer
  mod : Mod K mg base
  bs : ∀ b o, base.get? b = some o → s.heap.get? b = some o ∧ H b = none
  bsz : base.objs.size ≤ s.heap.objs.size
  funs : s.heap.FunFrames base outer
  frf : ∀ b ∈ frs outer, H b = none
  hok : HOk P w H s.heap
  bare : AllBare s.gens
noncomputable def CE (outer : List Env) (P : Program) (w : World) (H : Hp) (s : Shared) (Q : VK) (u : Value) (s' : Shared) : Prop :=
  ∃ v H', s'.os = s.os ∧ AllBare s'.gens ∧ Un (frs outer) [] H H' s.heap s'.heap ∧ HOk P w H' s'.heap ∧ RelV v u ∧ Q v H'
noncomputable def CR (CX : CXT) (outer : List Env) (P : Program) (w : World) (H : Hp) (s : Shared) (Q : VK) (E : XK) (r : Result) (s' : Shared) : Prop :=
  match r with
  | .ok (.ret u) => CE outer P w H s Q u s'
  | .ok _ => False
  | .error e => CX outer H s E e s'
structure FnOk (P : Program) (w : World) (K : PySem.W.Frag) (mg : Str → Option Value) (base : Heap) (CX : CXT) (k : Nat) (f : Addr) (fd : FuncData) (ps : List Str) (sp : Sp) : Prop where
  len : ∀ vs H Q E, sp vs H Q E → vs.length = ps.length
  run : ∀ (A : Around) (outer : List Env) (s : Shared) (H : Hp) (args : Args) (us : List Value) (vs : List V) (Q : VK) (E : XK), Room k A → Env0 P w K mg base A outer s H → BindsTo s fd args (ps.zip us) → Vals vs us → sp vs H Q E →
    codeAny (model P w) A (.call (.ref f) args) (CR CX outer P w H s Q E) s
theorem FnOk.mono {P : Program} {w : World} {K : PySem.W.Frag} {mg : Str → Option Value} {base : Heap} {CX : CXT} {j k : Nat} {f : Addr} {fd : FuncData} {ps : List Str} {sp : Sp} (F : FnOk P w K mg base CX j f fd ps sp) (h : j ≤ k) :
    FnOk P w K mg base CX k f fd ps sp := ⟨F.len, fun A outer s H args us vs Q E hr => F.run A outer s H args us vs Q E (hr.mono h)⟩
theorem FnOk.imp {P : Program} {w : World} {K : PySem.W.Frag} {mg : Str → Option Value} {base : Heap} {CX : CXT} {k : Nat} {f : Addr} {fd : FuncData} {ps : List Str} {sp sp' : Sp} (F : FnOk P w K mg base CX k f fd ps sp)
    (h : ∀ vs H Q E, sp' vs H Q E → sp vs H Q E) : FnOk P w K mg base CX k f fd ps sp' :=
  ⟨fun vs H Q E q => F.len vs H Q E (h _ _ _ _ q), fun A outer s H args us vs Q E hr he hb hv hs => F.run A outer s H args us vs Q E hr he hb hv (h _ _ _ _ hs)⟩
theorem Env0.in1 {P : Program} {w : World} {K : PySem.W.Frag} {mg : Str → Option Value} {base : Heap} {A : Around} {outer : List Env} {s : Shared} {H : Hp} (e : Env0 P w K mg base A outer s H) :
    Env0 P w K mg base A.in1 outer s H := ⟨e.frames, e.mod, e.bs, e.bsz, e.funs, e.frf, e.hok, e.bare⟩
section
variable {X : Cx} {pins : List (Addr × Obj)} {σ : St} {H : Hp} {s s' : Shared}
theorem Inv.env0 (I : Inv X pins σ H s) : Env0 X.prog X.w X.K X.mg X.base X.A X.stack s H :=
  ⟨I.ok.frames, I.ok.mod, I.bs, Nat.le_trans I.ok.bsz I.sz, I.stack, I.stkFree, I.hok, I.bare⟩
theorem Inv.after {Q : VK} {u : Value} (I : Inv X pins σ H s) (h : CE X.stack X.prog X.w H s Q u s') : EP X pins σ Q u s' := by
  obtain ⟨v, H', os, bare, un, hok, r, q⟩ := h
  obtain ⟨hh, g, d, t, os'⟩ := s'
  obtain rfl : os' = s.os := os
  exact ⟨v, H', I.call (h' := hh) (g' := g) (d' := d) (t' := t) (ch := []) un hok bare (fun b z => absurd z (by simp)), r, q⟩
end
noncomputable def tCall (sp : Sp) (dvs : List V) (E : XK) (t : TA) : TE := fun σ H Q => t σ H fun vs H1 => sp (vs ++ dvs) H1 Q E
noncomputable def Binds (K : PySem.W.Frag) (fd : FuncData) (ps : List Str) (ds : List Value) : Prop :=
  ∀ (s : Shared) (us : List Value), K.In s.heap → (us ++ ds).length = ps.length → BindsTo s fd ⟨us, []⟩ (ps.zip (us ++ ds))
theorem Binds.all {K : PySem.W.Frag} {fd : FuncData} {ps : List Str} (h : ∀ us : List Value, us.length = ps.length → bindArgs fd ⟨us, []⟩ = pure (ps.zip us)) : Binds K fd ps [] := fun s us _ hl => by
  rw [List.append_nil] at hl ⊢
  exact .of_eq (h us hl)
noncomputable def Passes (CX : CXT) (X : Cx) (E : XK) : Prop := ∀ (pins : List (Addr × Obj)) (σ : St) (H : Hp) (s : Shared) (e : Value) (s' : Shared), Inv X pins σ H s → CX X.stack H s E e s' → X.xe e s'
section
variable {X : Cx} {CX : CXT} {k : Nat} {f C : Addr} {fd : FuncData} {ps : List Str} {sp : Sp} {dvs : List V} {ds : List Value} {E : XK} {x m : Str} {p pos apos : Pos} {e o : Expr} {es : List Expr} {ta : TE} {t : TA}
theorem run_fn {pins : List (Addr × Obj)} {σ : St} {H : Hp} {s : Shared} {Q : VK} {us : List Value} {vs : List V} (F : FnOk X.prog X.w X.K X.mg X.base CX k f fd ps sp) (hr : Room k X.A) (hb : Binds X.K fd ps ds) (hd : Vals dvs ds) (hx : Passes CX X E)
    (I : Inv X pins σ H s) (r : Vals vs us) (h : sp (vs ++ dvs) H Q E) : wpAny (model X.prog X.w) X.A (call (.ref f) us) (EP X pins σ Q) X.xe s := by
  have r2 : Vals (vs ++ dvs) (us ++ ds) := r.append hd
  have hl : (us ++ ds).length = ps.length := by rw [← r2.length]; exact F.len _ _ _ _ h
  refine wpAny_call (codeAny_mono (F.run X.A X.stack s H ⟨us, []⟩ (us ++ ds) (vs ++ dvs) Q E hr I.env0 (hb s us I.kIn hl) r2 h) fun r s' hq => ?_)
  cases r with
  | error e => exact hx pins σ H s e s' I hq
  | ok fl =>
    cases fl with
    | ret u => exact I.after hq
    | next => exact False.elim hq
    | brk => exact False.elim hq
    | cont => exact False.elim hq
theorem pe_call (F : FnOk X.prog X.w X.K X.mg X.base CX k f fd ps sp) (hr : Room k X.A) (hg : Gl X x) (hm : X.mg x = some (.ref f)) (hk : PySem.W.keepIn X.K (.ref f) = true) (hb : Binds X.K fd ps ds) (hd : Vals dvs ds) (hx : Passes CX X E)
    (ha : PA X (e :: es) t) (hdb : (x == ("__debug__" : Str)) = false := by decide) (he : starEach (e :: es) X.env = (false, eval e X.env) :: starEach es X.env := by rfl) (hpl : (backTo pos (starEach es X.env)).any (·.1) = false := by rfl) :
    PE X (.Call (.Name x p) (e :: es) [] pos) (tCall sp dvs E t) := by
  intro pins s σ H Q I h
  refine wpAny_Call_Name_kw (ld_glob I hg hm ?_ hdb)
  refine PySem.W.callWith_K (h₀ := X.base) I.ok.mod.kin hk (thn (ha pos pins s σ H _ I h) fun us s1 ⟨vs, H1, I1, r, q⟩ => ⟨I1.kIn, ?_⟩) he hpl
  exact run_fn F hr hb hd hx I1 r q
structure Mk (K : PySem.W.Frag) (C f : Addr) : Prop where
  makes : PySem.W.makesIn K C = true
  init : PySem.W.findIn K (.ref C) "__init__" = some (some (.ref f))
  fn : PySem.W.isFn K (.ref f) = true
  kp : PySem.W.keepIn K (.ref C) = true
end
section
variable {X : Cx} {CX : CXT} {k : Nat} {f C : Addr} {fd : FuncData} {ps ks : List Str} {sp : Sp} {E : XK} {x m : Str} {p pos apos kpos : Pos} {e o : Expr} {es : List Expr} {kws : List Keyword} {te ta : TE} {t tk : TA} {nm : Option Str}
structure KBinds (K : PySem.W.Frag) (fd : FuncData) (ps ks : List Str) (g : List Value → List Value → List Value) (gV : List V → List V → List V) : Prop where
  to : ∀ (s : Shared) (us ws : List Value), K.In s.heap → (g us ws).length = ps.length → BindsTo s fd ⟨us, ks.zip ws⟩ (ps.zip (g us ws))
  rel : ∀ {vs : List V} {us : List Value} {zs : List V} {ws : List Value}, Vals vs us → Vals zs ws → Vals (gV vs zs) (g us ws)
variable {g : List Value → List Value → List Value} {gV : List V → List V → List V}
end
structure FnScope (N P : List Str) (sc : Scope) : Prop where
  kind : sc.kind = .function
  co : sc.isCoroutine = false
  gen : sc.isGenerator = false
  nd : N.Nodup
  pre : N.take P.length = P
  par : ∀ x ∈ P, sc.names.lookup x = some .local ∨ sc.names.lookup x = some .cell
  nofree : ∀ y ∈ sc.names, y.2 ≠ .free
theorem bindL_out {kindOf : Str → Option NameKind} {x : Str} : ∀ {binds : List (Str × Value)} {m : Str → Option Value}, (∀ v, (x, v) ∉ binds) → bindL kindOf binds m x = m x
  | [], _, _ => rfl
  | (n, v) :: r, m, h => by
    unfold bindL
    rw [bindL_out fun w hw => h w (List.mem_cons_of_mem _ hw)]
    split
    · have : x ≠ n := by rintro rfl; exact h v List.mem_cons_self
      simp [this]
    · rfl
theorem bindC_out {kindOf : Str → Option NameKind} {x : Str} : ∀ {binds : List (Str × Value)} {m : Str → Option Value}, (∀ v, (x, v) ∉ binds) → bindC kindOf binds m x = m x
  | [], _, _ => rfl
  | (n, v) :: r, m, h => by
    unfold bindC
    rw [bindC_out fun w hw => h w (List.mem_cons_of_mem _ hw)]
    split
    · rfl
    · have : x ≠ n := by rintro rfl; exact h v List.mem_cons_self
      simp [this]
theorem bindL_get {kindOf : Str → Option NameKind} {x : Str} {v : Value} : ∀ {P : List Str} {vs : List Value} {i : Nat} {m : Str → Option Value}, P.Nodup → P[i]? = some x → vs[i]? = some v → kindOf x = some .local →
    bindL kindOf (P.zip vs) m x = some v
  | [], _, _, _, _, h, _, _ => by simp at h
  | _ :: _, [], _, _, _, _, h, _ => by simp at h
  | p :: P, w :: vs, 0, m, nd, h1, h2, hk => by
    simp at h1 h2; subst h1; subst h2
    show bindL kindOf ((p, w) :: P.zip vs) m p = _
    unfold bindL
    rw [bindL_out fun v hv => (List.nodup_cons.mp nd).1 (List.of_mem_zip hv).1, if_pos hk]
    simp
  | p :: P, w :: vs, i + 1, m, nd, h1, h2, hk => by
    show bindL kindOf ((p, w) :: P.zip vs) m x = _
    unfold bindL
    exact bindL_get (i := i) (List.nodup_cons.mp nd).2 (by simpa using h1) (by simpa using h2) hk
theorem bindC_get {kindOf : Str → Option NameKind} {x : Str} {v : Value} : ∀ {P : List Str} {vs : List Value} {i : Nat} {m : Str → Option Value}, P.Nodup → P[i]? = some x → vs[i]? = some v → kindOf x ≠ some .local →
    bindC kindOf (P.zip vs) m x = some v
  | [], _, _, _, _, h, _, _ => by simp at h
  | _ :: _, [], _, _, _, _, h, _ => by simp at h
  | p :: P, w :: vs, 0, m, nd, h1, h2, hk => by
    simp at h1 h2; subst h1; subst h2
    show bindC kindOf ((p, w) :: P.zip vs) m p = _
    unfold bindC
    rw [bindC_out fun v hv => (List.nodup_cons.mp nd).1 (List.of_mem_zip hv).1, if_neg hk]
    simp
  | p :: P, w :: vs, i + 1, m, nd, h1, h2, hk => by
    show bindC kindOf ((p, w) :: P.zip vs) m x = _
    unfold bindC
    exact bindC_get (i := i) (List.nodup_cons.mp nd).2 (by simpa using h1) (by simpa using h2) hk
noncomputable def start (N : List Str) (vs : List V) : St := vs.map some ++ List.replicate (N.length - vs.length) none
noncomputable def cxOf (CX : CXT) (P : Program) (w : World) (K : PySem.W.Frag) (mg : Str → Option Value) (base : Heap) (N : List Str) (qual : Str) (scope : Scope) (f : Addr) (cd : Value) (A : Around) (outer : List Env) (s : Shared) (H : Hp) (E : XK) : Cx where
  prog := P
  w := w
  K := K
  mg := mg
  base := base
  A := A.deeper (envOfC qual scope s.heap.objs.size f cd)
  N := N
  s₀ := s
  H₀ := H
  env := envOfC qual scope s.heap.objs.size f cd
  outer := outer
  stack := envOfC qual scope s.heap.objs.size f cd :: outer
  ex := []
  calm := true
  fn := fun _ => true
  pn := []
  xe := fun e s' => wpAny (model P w) (A.deeper (envOfC qual scope s.heap.objs.size f cd)) (leaving (envOfC qual scope s.heap.objs.size f cd) e) (fun _ s'' => CX outer H s E e s'') (fun e' s'' => CX outer H s E e' s'') s'
theorem cell_has {sc : Scope} {n : Nat} {x : Str} (h : sc.names.lookup x = some .cell) : ∃ c, (cellsFrom n sc.names []).lookup x = some c := by
  have q := PySem.W.cellsFrom_some sc.names n [] (.inl h)
  exact Option.isSome_iff_exists.mp q
theorem inv_start {CX : CXT} {P : Program} {w : World} {K : PySem.W.Frag} {mg : Str → Option Value} {base : Heap} {N ps : List Str} {qual : Str} {scope : Scope} {f : Addr} {cd : Value} {A : Around} {outer : List Env} {s s1 : Shared} {H : Hp} {E : XK} {us : List Value} {vs : List V}
    (S : FnScope N ps scope) (hd : A.handled = none) (e0 : Env0 P w K mg base A outer s H) (hl : vs.length = ps.length) (r : Vals vs us)
    (x : InCallC s s.heap.objs.size (bindL (envOfC qual scope s.heap.objs.size f cd).kindOf (ps.zip us) fun _ => none) (cellsFrom (s.heap.objs.size + 1) scope.names []) (bindC (envOfC qual scope s.heap.objs.size f cd).kindOf (ps.zip us) fun _ => none) s1) :
    Inv (cxOf CX P w K mg base N qual scope f cd A outer s H E) [] (start N vs) H s1 := by
  have hpl : ps.length ≤ N.length := by have := congrArg List.length S.pre; rw [List.length_take] at this; omega
  obtain ⟨h1, tk, rfl, hk⟩ := x.done
  have noA : ∀ b : Addr, b ∉ (cxOf CX P w K mg base N qual scope f cd A outer s H E).ex := fun b z => absurd (show b ∈ ([] : List Addr) from z) (by simp)
  refine ⟨⟨e0.mod, S.kind, rfl, rfl, Nat.le_refl _, fun y z c h1 h2 => ?_, fun y hy => ?_, fun y c _ h => ?_, fun _ => hd, Around.frames_deeper e0.frames, .inr ⟨rfl, rfl⟩, fun b z => absurd z (noA b), e0.bs, e0.bsz, fun b _ _ => noA b, fun b z => absurd z (noA b), e0.funs, e0.frf⟩,
    rfl, e0.bare, Un.kept hk, ⟨_, x.toInCall.ns, fun i y v h1 h2 h3 => ?_⟩, fun y c h => ⟨_, x.cell y c h⟩, e0.hok.fresh (Nat.le_refl _), fun y c h => ?_, fun p hp => absurd (show p ∈ ([] : List (Addr × Obj)) from hp) (by simp), e0.hok.kept hk, ?_⟩
  · exact name_of_addr x.apart (PySem.mem_of_lookup h1) (PySem.mem_of_lookup h2)
  · have hy : scope.names.lookup y = some .cell ∨ scope.names.lookup y = some .free := hy
    rcases hy with hy | hy
    · exact cell_has hy
    · exact absurd rfl (S.nofree _ (PySem.mem_of_lookup hy))
  · exact Nat.le_of_lt (x.above y c (PySem.mem_of_lookup h))
  · have hi : i < vs.length := by
      unfold start at h2
      by_cases hi : i < vs.length
      · exact hi
      · rw [List.getElem?_append_right (by simpa using hi)] at h2
        rw [List.getElem?_replicate] at h2
        split at h2 <;> cases h2
    have ha : vs[i]? = some v := by
      unfold start at h2
      rw [List.getElem?_append_left (by simpa using hi), List.getElem?_map] at h2
      cases e : vs[i]? with
      | none => rw [e] at h2; cases h2
      | some a => rw [e] at h2; cases h2; rfl
    obtain ⟨u, hu, rv⟩ := r.get ha
    have hp : ps[i]? = some y := by
      rw [← S.pre, List.getElem?_take_of_lt (by omega)]; exact h1
    have ndP : ps.Nodup := by rw [← S.pre]; exact S.nd.sublist (List.take_sublist _ _)
    refine ⟨u, rv, ?_⟩
    rcases S.par y (List.mem_of_getElem? hp) with k | k
    · exact .inl ⟨k, bindL_get ndP hp hu k⟩
    · obtain ⟨c, e⟩ := cell_has (n := s.heap.objs.size + 1) k
      refine .inr ⟨.inl k, c, e, ?_⟩
      have q := x.cell y c e
      rw [bindC_get ndP hp hu (by show scope.names.lookup y ≠ _; rw [k]; decide)] at q
      exact q
  · exact e0.hok.fresh (Nat.le_of_lt (x.above y c (PySem.mem_of_lookup h)))
  · unfold start
    show _ = N.length
    rw [List.length_append, List.length_map, List.length_replicate]
    omega
theorem fn_of {CX : CXT} {P : Program} {w : World} {K : PySem.W.Frag} {mg : Str → Option Value} {base : Heap} {k : Nat} {f : Addr} {name qual : Str} {params : Arguments} {body : List Stmt} {scope : Scope} {dV kV doc pm cdv ct oc : Value} {an od : Option Addr}
    {osl : Array (Option Value)} {N ps : List Str} {sp : Sp} (lk : K.lookup f = some ⟨oc, od, .func (PySem.W.fnOf name qual params body scope dV kV doc pm an cdv ct), osl⟩) (hcd : PySem.W.codeIn K cdv qual = true) (S : FnScope N ps scope)
    (len : ∀ vs H Q E, sp vs H Q E → vs.length = ps.length)
    (hbody : ∀ (A : Around) (outer : List Env) (s : Shared) (H : Hp) (vs : List V) (Q : VK) (E : XK), Room k (A.deeper (envOfC qual scope s.heap.objs.size f cdv)) → sp vs H Q E →
      ∃ t, PSs (cxOf CX P w K mg base N qual scope f cdv A outer s H E) body t ∧ t { nx := fun _ H' => Q .non H', rt := Q } (start N vs) H) :
    FnOk P w K mg base CX (k + 1) f (PySem.W.fnOf name qual params body scope dV kV doc pm an cdv ct) ps sp := by
  refine ⟨len, fun A outer s H args us vs Q E hr e0 hb r hsp => ?_⟩
  have hl := len _ _ _ _ hsp
  have KX : K.In s.heap := e0.mod.kin.keeps fun b o e => (e0.bs b o e).1
  have lim : s.heap.NoLimit := e0.mod.nolimit.keeps fun b o e => (e0.bs b o e).1
  have hkind : ∀ y ∈ ps.zip us, scope.names.lookup y.1 = some .local ∨ (scope.names.lookup y.1 = some .cell ∧ ((cellsFrom (s.heap.objs.size + 1) scope.names []).lookup y.1).isSome = true) := fun hh0_ hy => by
    obtain ⟨n, v⟩ := hh0_
    rcases S.par n (List.of_mem_zip hy).1 with q | q
    · exact .inl q
    · exact .inr ⟨q, PySem.W.cellsFrom_some _ _ _ (.inl q)⟩
  refine codeAny_call_function hr.depth (KX _ _ lk) rfl S.co S.gen rfl (PySem.W.codeRec_of KX hcd) (hb _ _ _ _ ?_)
  refine wpAny_newFunctionEnv_cells S.kind hkind fun env he s1 x => ?_
  subst he
  refine ⟨lim.keeps x.toInCall.keep, codeAny_func ?_⟩
  obtain ⟨t, ht, hq⟩ := hbody A outer s H vs Q E (hr.deeper _) hsp
  have I : Inv (cxOf CX P w K mg base N qual scope f cdv A outer s H E) [] (start N vs) H s1 := inv_start S hr.hd e0 hl r x
  refine wpAny_mono (ht [] s1 (start N vs) H _ I hq) (fun fl s' hs => ?_) fun e s' hs => hs
  have fin : ∀ {σ' : St} {H' : Hp} {v : V} {u : Value}, Inv (cxOf CX P w K mg base N qual scope f cdv A outer s H E) [] σ' H' s' → RelV v u → Q v H' → CE outer P w H s Q u s' :=
    fun {σ' H' v u} J rv q => ⟨v, H', J.os, J.bare, J.base, J.hok, rv, q⟩
  cases fl with
  | ret u =>
    obtain ⟨v, σ', H', J, rv, q⟩ := hs
    exact fin J rv q
  | next =>
    obtain ⟨σ', H', J, q⟩ := hs
    exact fin (v := V.non) (u := Value.none) J rfl q
  | brk =>
    obtain ⟨_, _, _, q⟩ := hs
    exact False.elim q
  | cont =>
    obtain ⟨_, _, _, q⟩ := hs
    exact False.elim q
end L2
namespace L2
open PySem PySem.Spec PyProof.Rows
section
variable {X : Cx} {x : Str} {p pos : Pos} {e : Expr} {es : List Expr} {t : TA} {id T : String} {r : List V → Hp → VK → Prop}
noncomputable def tCB (r : List V → Hp → VK → Prop) (t : TA) : TE := fun σ H Q => t σ H fun vs H1 => r vs H1 Q
theorem pe_callB (hc : CallR X (.builtin id) r) (hg : Gl X x) (hm : X.mg x = none) (hv : bootBuiltins x = some (.builtin id)) (ha : PA X (e :: es) t) (hn : x ≠ "__name__" := by decide) (hdb : (x == ("__debug__" : Str)) = false := by decide)
    (he : starEach (e :: es) X.env = (false, eval e X.env) :: starEach es X.env := by rfl) (hpl : (backTo pos (starEach es X.env)).any (·.1) = false := by rfl) : PE X (.Call (.Name x p) (e :: es) [] pos) (tCB r t) := by
  intro pins s σ H Q I h
  refine wpAny_Call_Name_kw (ld_blt I hg hm hv ?_ hn hdb)
  exact PyProof.Rows.callWith_builtin1 (thn (ha pos pins s σ H _ I h) fun us s1 ⟨vs, H1, I1, r1, q1⟩ => hc pins s1 σ H1 vs us Q I1 r1 q1) he hpl
theorem pe_callTy (hc : CallR X (.type T) r) (hg : Gl X x) (hm : X.mg x = none) (hv : bootBuiltins x = some (.type T)) (ha : PA X (e :: es) t) (hn : x ≠ "__name__" := by decide) (hdb : (x == ("__debug__" : Str)) = false := by decide)
    (he : starEach (e :: es) X.env = (false, eval e X.env) :: starEach es X.env := by rfl) (hpl : (backTo pos (starEach es X.env)).any (·.1) = false := by rfl) : PE X (.Call (.Name x p) (e :: es) [] pos) (tCB r t) := by
  intro pins s σ H Q I h
  refine wpAny_Call_Name_kw (ld_blt I hg hm hv ?_ hn hdb)
  exact PyProof.Rows.callWith_type1 (thn (ha pos pins s σ H _ I h) fun us s1 ⟨vs, H1, I1, r1, q1⟩ => hc pins s1 σ H1 vs us Q I1 r1 q1) he hpl
end
end L2
namespace HT
open PySem PyProof.Rows
section
open PySem.SeqAt
open PySem.AutoSeq1 (wpAny_loadPart')
open PySem.MeetsSeq PySem.MeetsSeq2 PySem.MeetsSeq3
end
section
variable {prog : Program} {w : World} {A : Around} {E : Value → Shared → Prop} {s : Shared}
noncomputable def sIx (n d : Nat) : Option Int → Nat
  | none => d
  | some v => if v < 0 then (v + (n : Int)).toNat else min v.toNat n
theorem sIx_le (n d : Nat) (hd : d ≤ n) (o : Option Int) : sIx n d o ≤ n := by
  cases o with
  | none => exact hd
  | some v =>
    show (if v < 0 then (v + (n : Int)).toNat else min v.toNat n) ≤ n
    by_cases hv : v < 0
    · rw [if_pos hv]; omega
    · rw [if_neg hv]; exact Nat.min_le_right _ _
theorem clip_eq (v : Int) (n d : Nat) : (if v < 0 then max (v + (n : Int)) 0 else min v (n : Int)) = ((sIx n d (some v) : Nat) : Int) := by
  show (if v < 0 then max (v + (n : Int)) 0 else min v (n : Int)) = (((if v < 0 then (v + (n : Int)).toNat else min v.toNat n) : Nat) : Int)
  by_cases hv : v < 0
  · simp only [if_pos hv]; omega
  · simp only [if_neg hv]; omega
theorem adjust_gen (lo hi : Option Int) (n : Nat) : Builtin.Slice.sliceAdjust lo hi 1 (n : Int) = (((sIx n 0 lo : Nat) : Int), ((sIx n n hi : Nat) : Int)) := by
  have h1 : ¬ ((1 : Int) < 0) := by omega
  unfold Builtin.Slice.sliceAdjust
  simp only [h1, if_false]
  refine Prod.ext ?_ ?_
  · cases lo with
    | none => rfl
    | some v => exact clip_eq v n 0
  · cases hi with
    | none => rfl
    | some v => exact clip_eq v n n
theorem places_gen (i j : Nat) : Builtin.Slice.slicePlaces (i : Int) (j : Int) 1 = j - i := by
  unfold Builtin.Slice.slicePlaces
  have h1 : (1 : Int) > 0 := by omega
  simp only [h1, if_true, Int.ediv_one]
  split <;> omega
theorem slicePart_ {v : Value} {o : Option Int} {Q : Option Int → Shared → Prop} (p : IsPart v o) (h : Q o s) : wpAny (model prog w) A (Builtin.Slice.slicePartIndex v) Q E s := by
  cases p with
  | none => exact slicePart_none h
  | int i t => exact slicePart_int h
theorem sliceApplied_gen {sl : Addr} {vl vu : Value} {lo hi : Option Int} {n : Nat} {Q : Int × Int × Nat → Shared → Prop} (hs : s.heap.IsSliceOf sl vl vu .none) (pl : IsPart vl lo) (pu : IsPart vu hi)
    (h : Q (((sIx n 0 lo : Nat) : Int), 1, sIx n n hi - sIx n 0 lo) s) : wpAny (model prog w) A (Builtin.Slice.sliceApplied (.ref sl) (pure (n : Int))) Q E s := by
  obtain ⟨os, hos, hcs, hds⟩ := id hs
  unfold Builtin.Slice.sliceApplied Builtin.Slice.sliceFields
  refine wpAny_bind (wpAny_bind (wpAny_field hos hds (x := vl) rfl (wpAny_bind (wpAny_field hos hds (x := vu) rfl (wpAny_bind (wpAny_field hos hds (x := .none) rfl (wpAny_pure ?_)))))))
  refine wpAny_bind (slicePart_none ?_)
  show wpAny _ _ (if ((1 : Int) == 0) = true then _ else _) _ _ s
  rw [if_neg (by decide)]
  refine wpAny_bind (slicePart_ pl (wpAny_bind (slicePart_ pu (wpAny_bind (wpAny_pure ?_)))))
  show wpAny _ _ (match Builtin.Slice.sliceAdjust lo hi 1 (n : Int) with | (lo, hi) => pure (lo, (1 : Int), Builtin.Slice.slicePlaces lo hi 1)) _ _ s
  rw [adjust_gen lo hi n]
  show wpAny _ _ (pure (((sIx n 0 lo : Nat) : Int), (1 : Int), Builtin.Slice.slicePlaces ((sIx n 0 lo : Nat) : Int) ((sIx n n hi : Nat) : Int) 1)) _ _ s
  rw [places_gen]
  exact wpAny_pure h
theorem pick_gen (xs : Array Value) (i k : Nat) : ((List.range k).filterMap fun (m : Nat) => xs[((i : Int) + (m : Int) * 1).toNat]?).toArray = ((xs.toList.drop i).take k).toArray := by
  have e : (fun (m : Nat) => xs[((i : Int) + (m : Int) * 1).toNat]?) = fun m => xs[i + m]? := by
    funext m
    have : ((i : Int) + (m : Int) * 1).toNat = i + m := by omega
    rw [this]
  rw [e]
  have := pick_run xs i k
  rw [List.filterMap_map] at this
  have e2 : ((fun x => xs[x]?) ∘ fun x => i + x) = fun m => xs[i + m]? := rfl
  rw [e2] at this
  rw [this]
theorem getItem_tuple_cut {t sl : Addr} {items : Array Value} {vl vu : Value} {lo hi : Option Int} {Q : Value → Shared → Prop} (ht : IsTup s.heap t items) (hs : s.heap.IsSliceOf sl vl vu .none) (pl : IsPart vl lo) (pu : IsPart vu hi)
    (hw : ¬ (sIx items.size 0 lo = 0 ∧ sIx items.size items.size hi = items.size))
    (h : Q (.ref s.heap.objs.size) { s with heap := s.heap.push { cls := .type "tuple", data := .seq ((items.toList.drop (sIx items.size 0 lo)).take (sIx items.size items.size hi - sIx items.size 0 lo)).toArray } })
    (hsz : items.size ≤ sizeLine) : wpAny (model prog w) A (getItem (.ref t) (.ref sl)) Q E s := by
  have htake : sizeOk (.seq ((items.toList.drop (sIx items.size 0 lo)).take (sIx items.size items.size hi - sIx items.size 0 lo)).toArray) := by
    show ((items.toList.drop (sIx items.size 0 lo)).take (sIx items.size items.size hi - sIx items.size 0 lo)).toArray.size ≤ sizeLine
    rw [List.size_toArray, List.length_take, List.length_drop, Array.length_toList]
    omega
  have hj : sIx items.size items.size hi ≤ items.size := sIx_le _ _ (Nat.le_refl _) hi
  obtain ⟨os, hos, hcs, hds⟩ := id hs
  have hTs : s.TypeIs (.ref sl) "slice" := ⟨os, hos, hcs⟩
  unfold getItem
  try with_reducible refine wpAny_holding ?_
  first | refine wpAny_bind (wpAny_pure ?_) | skip
  refine wpAny_bind (wpAny_sequenceKey ht.typeIs (by decide) ?_)
  refine wpAny_bind (wpAny_callSpecial?_slot (name := Str.ofString "__getitem__") ht.typeIs PyProof.Rows.slot_tuple_getitem
    (wpAny_call_entry PyProof.Rows.slot_tuple_getitem ht.typeIs entry_tuple_getitem ?_ (args_tuple_getitem _ _)))
  show wpAny _ _ (Builtin.Tuple.tupleItemsOf (.ref t) >>= _) _ _ s
  refine wpAny_bind (tupleItemsOf_ ht ?_)
  refine wpAny_bind (wpAny_typeOf hTs ?_)
  rw [if_pos (by decide)]
  refine wpAny_bind (sliceApplied_gen hs pl pu ?_)
  have hno : ¬ ((((sIx items.size 0 lo : Nat) : Int) == 0 && (1 : Int) == 1 && (sIx items.size items.size hi - sIx items.size 0 lo) == items.size) = true) := by
    intro q
    rw [Bool.and_eq_true, Bool.and_eq_true] at q
    have q1 : ((sIx items.size 0 lo : Nat) : Int) = 0 := eq_of_beq q.1.1
    have q2 : sIx items.size items.size hi - sIx items.size 0 lo = items.size := eq_of_beq q.2
    exact hw ⟨by omega, by omega⟩
  show wpAny _ _ (if (((sIx items.size 0 lo : Nat) : Int) == 0 && (1 : Int) == 1 && (sIx items.size items.size hi - sIx items.size 0 lo) == items.size) = true then _ else _) _ _ s
  rw [if_neg hno, pick_gen]
  first
    | exact wpAny_bind (m := Builtin.Tuple.tupleExact _) (wpAny_newObj_type (wpAny_pure ⟨_, rfl, wpAny_pure h⟩) htake)
    | exact wpAny_bind (m := Builtin.Tuple.tupleExact _) (wpAny_newObj_type (wpAny_bind (wpAny_pure (wpAny_pure ⟨_, rfl, wpAny_pure h⟩))) htake)
    | exact wpAny_bind (wpAny_bind (m := Builtin.Tuple.tupleExact _) (wpAny_newObj_type (wpAny_pure (wpAny_pure ⟨_, rfl, wpAny_pure h⟩)) htake))
    | exact wpAny_bind (wpAny_bind (m := Builtin.Tuple.tupleExact _) (wpAny_newObj_type (wpAny_pure ⟨_, rfl, wpAny_pure h⟩) htake))
end
end HT
namespace L2
open PySem PySem.Spec PyProof.Rows
noncomputable abbrev TO := St → Hp → (Option Int → Hp → Prop) → Prop
noncomputable def PO (X : Cx) (e : Option Expr) (t : TO) : Prop :=
  ∀ (pins : List (Addr × Obj)) (s : Shared) (σ : St) (H : Hp) (Q : Option Int → Hp → Prop), Inv X pins σ H s → t σ H Q →
    wpAny (model X.prog X.w) X.A (evalPart e X.env) (fun u s' => ∃ o H', Inv X pins σ H' s' ∧ IsPart u o ∧ Q o H') X.xe s
noncomputable def tNoPart : TO := fun _ H Q => Q none H
noncomputable def tPart (t : TE) : TO := fun σ H Q => t σ H fun x H1 => ∃ i, x = .int i ∧ Q (some i) H1
theorem intsAre_of {ns : List Int} : ∀ {us : List Value}, Vals (ns.map V.int) us → IntsAre us ns := by
  induction ns with
  | nil => intro us r; rw [List.map_nil] at r; cases r; exact .nil
  | cons n ns ih =>
    intro us r
    rw [List.map_cons] at r
    cases r with
    | cons r1 r2 =>
      obtain ⟨t, e⟩ := r1
      subst e
      exact .cons n t (ih r2)
section
variable {X : Cx} {e : Expr} {te : TE} {lo hi : Option Expr} {tl th : TO} {pos p2 : Pos}
theorem po_none : PO X none tNoPart := by
  intro pins s σ H Q I h
  rw [evalPart_none]
  exact wpAny_pure ⟨none, H, I, .none, h⟩
theorem po_some (h : PE X e te) : PO X (some e) (tPart te) := by
  intro pins s σ H Q I hw
  rw [evalPart_some]
  refine thn (h pins s σ H _ I hw) fun u s1 hh0_ => ?_
  obtain ⟨x, H1, I1, r1, q1⟩ := hh0_
  obtain ⟨i, rfl, q⟩ := q1
  obtain ⟨t, rfl⟩ := r1
  exact ⟨some i, H1, I1, .int i t, q⟩
noncomputable def SlR (X : Cx) (r : V → Option Int → Option Int → Hp → VK → Prop) : Prop :=
  ∀ (pins : List (Addr × Obj)) (s : Shared) (σ : St) (H : Hp) (x : V) (v vl vu : Value) (lo hi : Option Int) (sl : Addr) (Q : VK), Inv X pins σ H s → RelV x v → s.heap.IsSliceOf sl vl vu .none → IsPart vl lo → IsPart vu hi → r x lo hi H Q →
    ∃ T id, typeLookup (.type T) "__getitem__" = pure (some (.builtin id)) ∧ s.TypeIs v T ∧ wpAny (model X.prog X.w) X.A (getItem v (.ref sl)) (EP X pins σ Q) X.xe s
theorem SlR.or {r r' : V → Option Int → Option Int → Hp → VK → Prop} (h : SlR X r) (h' : SlR X r') : SlR X (fun x lo hi H Q => r x lo hi H Q ∨ r' x lo hi H Q) := by
  intro pins s σ H x v vl vu lo hi sl Q I rx hs pl pu q
  rcases q with q | q
  · exact h pins s σ H x v vl vu lo hi sl Q I rx hs pl pu q
  · exact h' pins s σ H x v vl vu lo hi sl Q I rx hs pl pu q
noncomputable def tSl (r : V → Option Int → Option Int → Hp → VK → Prop) (te : TE) (tl th : TO) : TE := fun σ H Q => te σ H fun x H1 => tl σ H1 fun l H2 => th σ H2 fun u H3 => r x l u H3 Q
theorem pe_slice {r : V → Option Int → Option Int → Hp → VK → Prop} (hr : SlR X r) (he : PE X e te) (hl : PO X lo tl) (hu : PO X hi th) : PE X (.Subscript e (.Slice lo hi none p2) pos) (tSl r te tl th) := by
  intro pins s σ H Q I h
  refine Subscript_ (thn (he pins s σ H _ I h) fun v s1 hh0_ => ?_)
  obtain ⟨x, H1, I1, r1, q1⟩ := hh0_
  refine wpAny_Slice (thn (hl pins s1 σ H1 _ I1 q1) fun vl s2 ⟨l, H2, I2, pl, q2⟩ => thn (hu pins s2 σ H2 _ I2 q2) fun vu s3 hh0_ => ?_)
  obtain ⟨u, H3, I3, pu, q3⟩ := hh0_
  rw [evalPart_none]
  refine wpAny_pure ?_
  have I4 : Inv X pins σ H3 { s3 with heap := s3.heap.push { cls := .type "slice", data := .fields #[vl, vu, .none] } } := I3.kept (t' := s3.toks) fun b ob q => Heap.get?_push_of_some _ q
  obtain ⟨T, id, hT, ht, hg⟩ := hr pins { s3 with heap := s3.heap.push { cls := .type "slice", data := .fields #[vl, vu, .none] } } σ H3 x v vl vu l u s3.heap.objs.size Q I4 r1 (Heap.IsSliceOf.new ..) pl pu q3
  show wpAny (model X.prog X.w) X.A (subscriptTail e (.Slice lo hi none p2) v (.ref s3.heap.objs.size)) (EP X pins σ Q) X.xe { s3 with heap := s3.heap.push { cls := .type "slice", data := .fields #[vl, vu, .none] } }
  exact tail_any (ops := [.ref s3.heap.objs.size, v]) ht hT hg (by with_unfolding_all rfl)
noncomputable def cutV (xs : List V) (lo hi : Option Int) : List V := (xs.drop (HT.sIx xs.length 0 lo)).take (HT.sIx xs.length xs.length hi - HT.sIx xs.length 0 lo)
theorem cutV_length (xs : List V) (lo hi : Option Int) : (cutV xs lo hi).length ≤ xs.length := by
  unfold cutV
  rw [List.length_take, List.length_drop]
  omega
noncomputable def rSlT (K : PySem.W.Frag) : V → Option Int → Option Int → Hp → VK → Prop := fun x lo hi H Q => ∃ a xs, x = .ref a ∧ SqT K H a xs ∧
  ¬ (HT.sIx xs.length 0 lo = 0 ∧ HT.sIx xs.length xs.length hi = xs.length) ∧ ∀ p, H p = none → Q (.ref p) (upd H p (.tup (cutV xs lo hi)))
theorem sl_tup : SlR X (rSlT X.K) := by
  intro pins s σ H x v vl vu lo hi sl Q I rx hs pl pu h
  obtain ⟨a, xs, rfl, hx, hw, q⟩ := h
  cases rx
  obtain ⟨its, r, ht, hz⟩ := I.tuple hx
  have hlen : its.toArray.size = xs.length := by rw [List.size_toArray]; exact r.length.symm
  refine ⟨"tuple", _, PyProof.Rows.slot_tuple_getitem.lookup, ht.typeIs, ?_⟩
  refine HT.getItem_tuple_cut ht hs pl pu (by rw [hlen]; exact hw) ?_ (by rw [hlen]; exact hz)
  rw [hlen]
  refine ⟨.ref s.heap.objs.size, _, I.laid (t' := s.toks) (o := .tup (cutV xs lo hi)) (fun b ob q => Heap.get?_push_of_some _ q) (Nat.le_refl _) ?_, rfl, q _ (I.hok.fresh (Nat.le_refl _))⟩
  exact ⟨Nat.le_trans (cutV_length xs lo hi) hz, _, (r.drop (HT.sIx xs.length 0 lo)).take (HT.sIx xs.length xs.length hi - HT.sIx xs.length 0 lo), IsTuN.new _ _⟩
end
end L2
namespace L2
open PySem PySem.Spec PyProof.Rows
noncomputable def ixN (n : Nat) (i : Int) : Option Nat := if 0 ≤ i then (if i < n then some i.toNat else none) else if -(n : Int) ≤ i then some (i + n).toNat else none
noncomputable def atI {α : Type} (xs : List α) (i : Int) : Option α := (ixN xs.length i).bind fun j => xs[j]?
theorem ixN_seq {n : Nat} {i : Int} {j : Nat} (h : ixN n i = some j) : seqIndex? i n = some j ∧ j < n ∧ -(n : Int) ≤ i ∧ i < n := by
  unfold ixN at h
  by_cases h0 : 0 ≤ i
  · rw [if_pos h0] at h
    by_cases h1 : i < n
    · rw [if_pos h1] at h
      have e : i.toNat = j := Option.some.inj h
      exact ⟨by rw [seqIndex_of h0 h1, e], by omega, by omega, h1⟩
    · rw [if_neg h1] at h; cases h
  · rw [if_neg h0] at h
    by_cases h1 : -(n : Int) ≤ i
    · rw [if_pos h1] at h
      have e : (i + n).toNat = j := Option.some.inj h
      exact ⟨by rw [seqIndex_neg (by omega) h1, e], by omega, h1, by omega⟩
    · rw [if_neg h1] at h; cases h
theorem atI_get {α : Type} {xs : List α} {i : Int} {v : α} (h : atI xs i = some v) : ∃ j, seqIndex? i xs.length = some j ∧ xs[j]? = some v ∧ j < xs.length ∧ -(xs.length : Int) ≤ i ∧ i < xs.length := by
  unfold atI at h
  cases e : ixN xs.length i with
  | none => rw [e] at h; cases h
  | some j =>
    rw [e] at h
    obtain ⟨h1, h2, h3, h4⟩ := ixN_seq e
    exact ⟨j, h1, h, h2, h3, h4⟩
noncomputable def PlainIx (b : Expr) : Prop := ∀ o i, subscripted b false o i = operate [o, i] (getItem o i)
noncomputable def IxR (X : Cx) (r : R2) : Prop :=
  ∀ (value slice : Expr) (pins : List (Addr × Obj)) (s : Shared) (σ : St) (H : Hp) (x y : V) (v u : Value) (Q : VK), Inv X pins σ H s → RelV x v → RelV y u → r x y H Q →
    subscripted slice false v u = operate [v, u] (getItem v u) → wpAny (model X.prog X.w) X.A (subscriptTail value slice v u) (EP X pins σ Q) X.xe s
noncomputable def MtR (X : Cx) (id : String) (r : V → List V → Hp → VK → Prop) : Prop :=
  ∀ (pins : List (Addr × Obj)) (s : Shared) (σ : St) (H : Hp) (x : V) (xs : List V) (v : Value) (us : List Value) (Q : VK), Inv X pins σ H s → RelV x v → Vals xs us → r x xs H Q →
    wpAny (model X.prog X.w) X.A (call (.builtin id) (v :: us)) (EP X pins σ Q) X.xe s
section
variable {X : Cx} {a b : Expr} {ta tb : TE} {pos : Pos}
theorem IxR.or {r r' : R2} (h : IxR X r) (h' : IxR X r') : IxR X (fun x y H Q => r x y H Q ∨ r' x y H Q) := by
  intro value slice pins s σ H x y v u Q I rx ry q hs
  rcases q with q | q
  · exact h value slice pins s σ H x y v u Q I rx ry q hs
  · exact h' value slice pins s σ H x y v u Q I rx ry q hs
theorem MtR.or {id : String} {r r' : V → List V → Hp → VK → Prop} (h : MtR X id r) (h' : MtR X id r') : MtR X id (fun x xs H Q => r x xs H Q ∨ r' x xs H Q) := by
  intro pins s σ H x xs v us Q I rx rs q
  rcases q with q | q
  · exact h pins s σ H x xs v us Q I rx rs q
  · exact h' pins s σ H x xs v us Q I rx rs q
theorem pe_ix {r : R2} (hr : IxR X r) (ha : PE X a ta) (hb : PE X b tb) (hs : PlainIx b) : PE X (.Subscript a b pos) (tOp r ta tb) := by
  intro pins s σ H Q I h
  exact Subscript_ (binT ha hb I h fun v u s2 x y H2 I2 rx ry q => hr a b pins s2 σ H2 x y v u Q I2 rx ry q (hs _ _))
noncomputable def rIxL (K : PySem.W.Frag) : R2 := fun x y H Q => ∃ p xs i v, x = .ref p ∧ y = .int i ∧ SqL K H p xs ∧ atI xs i = some v ∧ Q v H
noncomputable def rIxT (K : PySem.W.Frag) : R2 := fun x y H Q => ∃ p xs i v, x = .ref p ∧ y = .int i ∧ SqT K H p xs ∧ atI xs i = some v ∧ Q v H
noncomputable def rIxS : R2 := fun x y H Q => ∃ z i c, x = .str z ∧ y = .int i ∧ z.length ≤ sizeLine ∧ atI z.cps.toList i = some c ∧ Q (.str ⟨#[c]⟩) H
theorem ix_list : IxR X (rIxL X.K) := by
  intro value slice pins s σ H x y v u Q I rx ry h hs
  obtain ⟨p, xs, i, z, rfl, rfl, hq, he, q⟩ := h
  cases rx
  obtain ⟨t, rfl⟩ := ry
  obtain ⟨its, r, pl, hz⟩ := I.list hq
  obtain ⟨j, h1, h2, h3, h4, h5⟩ := atI_get he
  obtain ⟨w, ew, rw'⟩ := r.get h2
  have hl := r.length
  have hn := line63
  have fin : EP X pins σ Q w s := ⟨z, H, I, rw', q⟩
  by_cases h0 : 0 ≤ i
  · have hj : i.toNat = j := by
      rw [seqIndex_of h0 h5] at h1
      exact Option.some.inj h1
    exact item_listR pl.isList h0 (by omega) (by rw [hj]; simpa using ew) fin hs
  · have hj : (i + (its.toArray.size : Int)).toNat = j := by
      rw [seqIndex_neg (by omega) h4] at h1
      rw [List.size_toArray, ← hl]
      exact Option.some.inj h1
    exact subscriptTail_builtinR (x := w) pl.isList.typeIs slot_list_getitem.lookup
      (wpAny_getItem_list_neg (Q := fun r s' => r = w ∧ EP X pins σ Q r s') pl.isList (by omega) (by rw [List.size_toArray] <;> omega) (by omega) (by rw [hj]; simpa using ew) ⟨rfl, fin⟩) hs
theorem ix_tup : IxR X (rIxT X.K) := by
  intro value slice pins s σ H x y v u Q I rx ry h hs
  obtain ⟨p, xs, i, z, rfl, rfl, hq, he, q⟩ := h
  cases rx
  obtain ⟨t, rfl⟩ := ry
  obtain ⟨its, r, pl, hz⟩ := I.tuple hq
  obtain ⟨j, h1, h2, h3, h4, h5⟩ := atI_get he
  obtain ⟨w, ew, rw'⟩ := r.get h2
  have hl := r.length
  have hn := line63
  have fin : EP X pins σ Q w s := ⟨z, H, I, rw', q⟩
  exact subscriptTail_builtinR (x := w) pl.typeIs slot_tuple_getitem.lookup
    (getItem_tuple (j := j) (Q := fun r s' => r = w ∧ EP X pins σ Q r s') pl (by omega) (by omega) (by rw [List.size_toArray, ← hl]; exact h1) (by simpa using ew) ⟨rfl, fin⟩) hs
theorem ix_str : IxR X rIxS := by
  intro value slice pins s σ H x y v u Q I rx ry h hs
  obtain ⟨z, i, c, rfl, rfl, hz, he, q⟩ := h
  obtain ⟨t, rfl⟩ := rx
  obtain ⟨t', rfl⟩ := ry
  obtain ⟨j, h1, h2, h3, h4, h5⟩ := atI_get he
  have hl : z.cps.toList.length = z.length := by simp [Str.length]
  rw [hl] at h1 h4 h5
  have hn := line63
  exact tail_any (typeIs_str s z t) slot_str_getitem.lookup (getItem_str (c := c) (by
    have e1 : decide (i < -(2 ^ 63 : Int)) = false := decide_eq_false (by omega)
    have e2 : decide (i ≥ 2 ^ 63) = false := decide_eq_false (by omega)
    rw [e1, e2, Bool.or_false]) (by rw [h1]; simpa using h2) ⟨.str ⟨#[c]⟩, H, I.tok _, ⟨_, rfl⟩, q⟩) hs
noncomputable def rIx (K : PySem.W.Frag) : R2 := fun x y H Q => rIxL K x y H Q ∨ rIxT K x y H Q ∨ rIxS x y H Q
theorem ix_seq : IxR X (rIx X.K) := ix_list.or (ix_tup.or ix_str)
theorem Inv.lst {pins : List (Addr × Obj)} {σ : St} {H : Hp} {s : Shared} {p : Addr} {xs : List V} (I : Inv X pins σ H s) (h : H p = some (.lst xs)) :
    ∃ (its : List Value) (n : Nat), Vals xs its ∧ s.heap.get? p = some { cls := .type "list", data := .seq its.toArray n } ∧ xs.length ≤ sizeLine := by
  obtain ⟨z, its, n, r, e⟩ := I.hok p _ h
  exact ⟨its, n, r, e, z⟩
theorem slice_bounds (lo hi : Option Int) (n : Nat) : (sliceBounds lo hi none n).1 = ((HT.sIx n 0 lo : Nat) : Int) ∧ (sliceBounds lo hi none n).2.1 = ((HT.sIx n n hi : Nat) : Int) ∧ (sliceBounds lo hi none n).2.2 = 1 := by
  refine ⟨?_, ?_, rfl⟩
  · cases lo with
    | none => simp [sliceBounds, HT.sIx]
    | some i =>
      simp only [sliceBounds, HT.sIx, Option.getD_none, show (1 : Int) > 0 by decide, if_true]
      by_cases h : i < 0
      · simp only [h, if_true] <;> omega
      · simp only [h, if_false] <;> omega
  · cases hi with
    | none => simp [sliceBounds, HT.sIx]
    | some i =>
      simp only [sliceBounds, HT.sIx, Option.getD_none, show (1 : Int) > 0 by decide, if_true]
      by_cases h : i < 0
      · simp only [h, if_true] <;> omega
      · simp only [h, if_false] <;> omega
theorem slicePick_cut (its : List Value) (lo hi : Option Int) : slicePick its.toArray lo hi none = ((its.drop (HT.sIx its.length 0 lo)).take (HT.sIx its.length its.length hi - HT.sIx its.length 0 lo)).toArray := by
  obtain ⟨h1, h2, h3⟩ := slice_bounds lo hi its.toArray.size
  unfold slicePick
  rw [h1, h2, h3]
  simp only [sliceRange_one, pick_run, List.size_toArray] <;> rfl
noncomputable def rSlL (K : PySem.W.Frag) : V → Option Int → Option Int → Hp → VK → Prop := fun x lo hi H Q => ∃ a xs, x = .ref a ∧ SqL K H a xs ∧ ∀ p, H p = none → Q (.ref p) (upd H p (.lst (cutV xs lo hi)))
theorem sl_list : SlR X (rSlL X.K) := by
  intro pins s σ H x v vl vu lo hi sl Q I rx hs pl pu h
  obtain ⟨a, xs, rfl, hx, q⟩ := h
  cases rx
  obtain ⟨its, r, ht, hz⟩ := I.list hx
  have hlen := r.length
  refine ⟨"list", _, slot_list_getitem.lookup, ht.isList.typeIs, ?_⟩
  refine wpAny_getItem_list_slice ht.isList hs pl pu .none (by simp) ?_ (by rw [List.size_toArray] <;> omega)
  rw [slicePick_cut, ← hlen]
  refine ⟨.ref s.heap.objs.size, _, I.laid (t' := s.toks) (o := .lst (cutV xs lo hi)) (fun b ob q => Heap.get?_push_of_some _ q) (Nat.le_refl _) ?_, rfl, q _ (I.hok.fresh (Nat.le_refl _))⟩
  exact ⟨Nat.le_trans (cutV_length xs lo hi) hz, _, 0, (r.drop (HT.sIx xs.length 0 lo)).take (HT.sIx xs.length xs.length hi - HT.sIx xs.length 0 lo), Heap.get?_push_size _ rfl⟩
noncomputable def flatV : V → Bool
  | .non => true
  | .bl _ => true
  | .int _ => true
  | .str _ => true
  | _ => false
noncomputable def eqV : V → V → Bool
  | .non, .non => true
  | .bl a, .bl b => a == b
  | .bl a, .int b => (if a then 1 else 0) == b
  | .int a, .bl b => a == (if b then 1 else 0)
  | .int a, .int b => a == b
  | .str a, .str b => a == b
  | _, _ => false
theorem eqAt_V {A : Around} {s : Shared} {y x : V} {u v : Value} (ry : RelV y u) (rx : RelV x v) (fy : flatV y = true) (fx : flatV x = true) : SeqAt.EqAt A s u v (eqV y x) := by
  cases y with
  | non =>
    cases ry
    cases x with
    | non => cases rx; exact SeqAt.EqAt.same _
    | bl b => cases rx; exact SeqAt.EqAt.none_bool b
    | int b => obtain ⟨t, rfl⟩ := rx; exact SeqAt.EqAt.none_int b t
    | str b => obtain ⟨t, rfl⟩ := rx; exact SeqAt.EqAt.none_str b t
    | _ => exact absurd (show false = true from fx) Bool.false_ne_true
  | bl a =>
    cases ry
    cases x with
    | non => cases rx; exact SeqAt.EqAt.bool_none a
    | bl b => cases rx; exact SeqAt.EqAt.bool_bool a b
    | int b => obtain ⟨t, rfl⟩ := rx; exact SeqAt.EqAt.bool_int a b t
    | str b => obtain ⟨t, rfl⟩ := rx; exact SeqAt.EqAt.bool_str a b t
    | _ => exact absurd (show false = true from fx) Bool.false_ne_true
  | int a =>
    obtain ⟨t', rfl⟩ := ry
    cases x with
    | non => cases rx; exact SeqAt.EqAt.int_none a t'
    | bl b => cases rx; exact SeqAt.EqAt.int_bool a t' b
    | int b => obtain ⟨t, rfl⟩ := rx; exact SeqAt.EqAt.int_int a t' b t
    | str b => obtain ⟨t, rfl⟩ := rx; exact SeqAt.EqAt.int_str a t' b t
    | _ => exact absurd (show false = true from fx) Bool.false_ne_true
  | str a =>
    obtain ⟨t', rfl⟩ := ry
    cases x with
    | non => cases rx; exact SeqAt.EqAt.str_none a t'
    | bl b => cases rx; exact SeqAt.EqAt.str_bool a t' b
    | int b => obtain ⟨t, rfl⟩ := rx; exact SeqAt.EqAt.str_int a t' b t
    | str b => obtain ⟨t, rfl⟩ := rx; exact SeqAt.EqAt.str_str a t' b t
    | _ => exact absurd (show false = true from fx) Bool.false_ne_true
  | _ => exact absurd (show false = true from fy) Bool.false_ne_true
noncomputable def eqU (x : V) (u : Value) : Bool := match u with
  | .none => eqV .non x
  | .bool b => eqV (.bl b) x
  | .int i _ => eqV (.int i) x
  | .str z _ => eqV (.str z) x
  | _ => false
theorem eqU_of {x y : V} {u : Value} (r : RelV y u) (f : flatV y = true) : eqU x u = eqV y x := by
  cases y with
  | non => cases r; rfl
  | bl b => cases r; rfl
  | int i => obtain ⟨t, rfl⟩ := r; rfl
  | str z => obtain ⟨t, rfl⟩ := r; rfl
  | _ => exact absurd (show false = true from f) Bool.false_ne_true
theorem any_eqU {x : V} : ∀ {xs : List V} {us : List Value}, Vals xs us → xs.all flatV = true → us.any (eqU x) = xs.any fun y => eqV y x
  | _, _, .nil, _ => rfl
  | y :: xs, u :: us, .cons r t, f => by
    rw [List.all_cons, Bool.and_eq_true] at f
    rw [List.any_cons, List.any_cons, eqU_of r f.1, any_eqU t f.2]
theorem mem_eqAt {A : Around} {s : Shared} {x : V} {v : Value} (rx : RelV x v) (fx : flatV x = true) : ∀ {xs : List V} {us : List Value}, Vals xs us → xs.all flatV = true → ∀ u ∈ us, SeqAt.EqAt A s u v (eqU x u)
  | _, _, .nil, _ => fun u hu => by cases hu
  | y :: xs, u :: us, .cons r t, f => fun u' hu => by
    rw [List.all_cons, Bool.and_eq_true] at f
    rcases List.mem_cons.mp hu with rfl | hu
    · rw [eqU_of r f.1]; exact eqAt_V r rx f.1 fx
    · exact mem_eqAt rx fx t f.2 u' hu
noncomputable def inV (x : V) (xs : List V) : Bool := xs.any fun y => eqV y x
noncomputable def rIn (K : PySem.W.Frag) (neg : Bool) : R2 := fun x y H Q => ∃ p xs, y = .ref p ∧ (SqL K H p xs ∨ SqT K H p xs) ∧ flatV x = true ∧ xs.all flatV = true ∧ Q (.bl (if neg then !inV x xs else inV x xs)) H
theorem op_in_seq : OpR X (compareOp .In) (rIn X.K false) := by
  intro pins s σ H x y v u Q I rx ry h
  obtain ⟨p, xs, rfl, hq, fx, fs, q⟩ := h
  cases ry
  rcases hq with hq | hq
  · obtain ⟨its, r, pl, hz⟩ := I.list hq
    refine SeqAt.in_listAt (eqU x) pl.isList (fun w hw => mem_eqAt rx fx r fs w (by simpa using hw)) ⟨.bl _, H, I, rfl, ?_⟩
    rw [show its.toArray.any (eqU x) = its.any (eqU x) by simp, any_eqU r fs]
    exact q
  · obtain ⟨its, r, pl, hz⟩ := I.tuple hq
    refine SeqAt.in_tupleAt (eqU x) pl (fun w hw => mem_eqAt rx fx r fs w (by simpa using hw)) ⟨.bl _, H, I, rfl, ?_⟩
    rw [show its.toArray.any (eqU x) = its.any (eqU x) by simp, any_eqU r fs]
    exact q
theorem call_len_seq : CallR X (.builtin "len") (fun xs H Q => ∃ p ys, xs = [.ref p] ∧ (SqL X.K H p ys ∨ SqT X.K H p ys) ∧ Q (.int ys.length) H) := by
  intro pins s σ H xs us Q I r h
  obtain ⟨p, ys, rfl, hq, q⟩ := h
  obtain ⟨u, rfl, rx⟩ := vals1 r
  cases rx
  have hn := line63
  rcases hq with hq | hq
  · obtain ⟨its, r', pl, hz⟩ := I.list hq
    have hlen := r'.length
    exact Calls.call_len_list pl.isList (by simp only [List.size_toArray] <;> omega) ⟨.int ys.length, H, I.tok _, ⟨s.toks + 1, by rw [List.size_toArray, hlen]⟩, q⟩
  · obtain ⟨its, r', pl, hz⟩ := I.tuple hq
    have hlen := r'.length
    exact len_tuple pl (by simp only [List.size_toArray] <;> omega) ⟨.int ys.length, H, I.tok _, ⟨s.toks + 1, by rw [List.size_toArray, hlen]⟩, q⟩
theorem call_len_str : CallR X (.builtin "len") (fun xs H Q => ∃ z, xs = [.str z] ∧ z.length ≤ sizeLine ∧ Q (.int z.length) H) := by
  intro pins s σ H xs us Q I r h
  obtain ⟨z, rfl, hz, q⟩ := h
  obtain ⟨u, rfl, t, rfl⟩ := vals1 r
  have hn := line63
  exact len_str (by omega) ⟨.int z.length, H, I.tok _, ⟨_, rfl⟩, q⟩
theorem CallR.or {f : Value} {r r' : List V → Hp → VK → Prop} (h : CallR X f r) (h' : CallR X f r') : CallR X f (fun xs H Q => r xs H Q ∨ r' xs H Q) := by
  intro pins s σ H xs us Q I rs q
  rcases q with q | q
  · exact h pins s σ H xs us Q I rs q
  · exact h' pins s σ H xs us Q I rs q
noncomputable def tyV (K : PySem.W.Frag) (T : String) (x : V) (H : Hp) : Prop := match x with
  | .str _ => T = "str"
  | .int _ => T = "int"
  | .ref p => (T = "list" ∧ ∃ xs, SqL K H p xs) ∨ (T = "tuple" ∧ ∃ o, K.lookup p = some o ∧ o.cls = .type "tuple" ∧ o.dict = none) ∨
      (T = "dict" ∧ ((∃ kvs, H p = some (.dK kvs)) ∨ ∃ kvs, H p = some (.dT kvs))) ∨ (T = "set" ∧ ∃ S n, H p = some (.set S n))
  | _ => False
theorem tyV_is {pins : List (Addr × Obj)} {σ : St} {H : Hp} {s : Shared} {T : String} {x : V} {v : Value} (I : Inv X pins σ H s) (r : RelV x v) (ty : tyV X.K T x H) :
    s.TypeIs v T ∧ ∀ a, v = .ref a → ∃ ob, s.heap.get? a = some ob ∧ ob.dict = none := by
  cases x with
  | str z =>
    obtain ⟨t, rfl⟩ := r
    cases (show T = "str" from ty)
    exact ⟨typeIs_str s z t, fun _ e => nomatch e⟩
  | int i =>
    obtain ⟨t, rfl⟩ := r
    cases (show T = "int" from ty)
    exact ⟨typeIs_int s i t, fun _ e => nomatch e⟩
  | ref p =>
    cases r
    rcases ty with ⟨rfl, xs, hq⟩ | ⟨rfl, o, hk, hc, hd⟩ | ⟨rfl, hk⟩ | ⟨rfl, S, n, hk⟩
    · obtain ⟨its, _, pl, _⟩ := I.list hq
      refine ⟨pl.isList.typeIs, fun a e => ?_⟩
      cases e
      obtain ⟨o, n, e, c, hd, _⟩ := pl
      exact ⟨o, e, hd⟩
    · refine ⟨⟨o, I.kIn p o hk, hc⟩, fun a e => ?_⟩
      cases e
      exact ⟨o, I.kIn _ o hk, hd⟩
    · have z : ∃ o, s.heap.get? p = some o ∧ o.ExactDict := by
        rcases hk with ⟨kvs, hk⟩ | ⟨kvs, hk⟩
        · obtain ⟨_, _, _, _, o, _, _, e, ex, _⟩ := I.hok p _ hk
          exact ⟨o, e, ex⟩
        · obtain ⟨_, _, _, _, o, _, _, e, ex, _⟩ := I.hok p _ hk
          exact ⟨o, e, ex⟩
      obtain ⟨o, e, ex⟩ := z
      refine ⟨⟨o, e, ex.1⟩, fun a e2 => ?_⟩
      cases e2
      exact ⟨o, e, ex.2.1⟩
    · obtain ⟨o, _, _, _, e, ex, _⟩ := I.hok p _ hk
      refine ⟨⟨o, e, ex.1⟩, fun a e2 => ?_⟩
      cases e2
      exact ⟨o, e, ex.2.1⟩
  | _ => exact False.elim ty
noncomputable def tBM (K : PySem.W.Frag) (T : String) (r : V → List V → Hp → VK → Prop) (to : TE) (t : TA) : TE := fun σ H Q => to σ H fun x H1 => tyV K T x H1 ∧ t σ H1 fun xs H2 => r x xs H2 Q
variable {o e : Expr} {es : List Expr} {to : TE} {t : TA} {name : Str} {apos cpos : Pos} {T id : String} {r : V → List V → Hp → VK → Prop}
theorem pe_bm (pa : PlainAttrs T) (slot : Slot T name id) (hty : typeOf (.builtin id) = pure (.type "method_descriptor")) (hm : MtR X id r) (ho : PE X o to) (ha : PA X (e :: es) t)
    (hbase : attributeBase o name X.env (eval o X.env) = eval o X.env := by rfl)
    (hfew : ((backTo cpos (starEach (e :: es) X.env)).all (fun x => !x.1) && (backToKw cpos (keywordEach [] X.env)).all (fun x => x.1.isSome)
      && decide ((e :: es).length + ([] : List Keyword).length + (if ([] : List Keyword).isEmpty then 0 else 1) < 30)) = true := by rfl)
    (hline : (apos.endLine == cpos.line) = true := by rfl) (hs : starEach (e :: es) X.env = (false, eval e X.env) :: starEach es X.env := by rfl) (hplain : (backTo cpos (starEach es X.env)).any (·.1) = false := by rfl) :
    PE X (.Call (.Attribute o name apos) (e :: es) [] cpos) (tBM X.K T r to t) := by
  intro pins s σ H Q I h
  refine wpAny_Call_method_late hbase hfew hline rfl (thn (ho pins s σ H _ I h) fun v s1 hh0_ => ?_)
  obtain ⟨x, H1, I1, r1, ty, q1⟩ := hh0_
  obtain ⟨h1, h2⟩ := tyV_is I1 r1 ty
  refine ⟨T, id, pa, slot, hty, h1, h2, ?_⟩
  have hA := ha cpos pins s1 σ H1 _ I1 q1
  rw [hs] at hA ⊢
  refine Calls.callWith_builtin (by show (false || (backTo cpos (starEach es X.env)).any (·.1)) = false; rw [hplain] <;> rfl) (Calls.evalArgs_plain ?_)
  exact thn hA fun us s2 ⟨vs, H2, I2, r2, q2⟩ => hm pins s2 σ H2 x vs v us Q I2 r1 r2 q2
end
end L2
namespace L2
open PySem PySem.Spec PyProof.Rows
noncomputable def MtM (X : Cx) (id : String) (r : V → List V → Hp → VK → Prop) : Prop :=
  ∀ (pins : List (Addr × Obj)) (s : Shared) (σ : St) (H : Hp) (x : V) (xs : List V) (v : Value) (us : List Value) (Q : VK), Inv X pins σ H s → RelV x v → Vals xs us → r x xs H Q →
    wpAny (model X.prog X.w) X.A (call (.builtin id) (v :: us)) (EP X pins σ Q) X.xe s
theorem Vals.one : ∀ {x : V} {us : List Value}, Vals [x] us → ∃ u, us = [u] ∧ RelV x u
  | _, _, .cons r .nil => ⟨_, rfl, r⟩
theorem Vals.zero : ∀ {us : List Value}, Vals [] us → us = []
  | _, .nil => rfl
section
variable {X : Cx} {pins : List (Addr × Obj)} {σ : St} {H : Hp} {s : Shared} {l b : Addr} {xs ys zs : List V}
theorem Inv.lset {its its' : List Value} {n : Nat} {f : Array Value → Array Value} {t' : Nat} (I : Inv X pins σ H s) (hH : H l = some (.lst xs))
    (e : s.heap.get? l = some { cls := .type "list", data := .seq its.toArray n }) (hf : f its.toArray = its'.toArray) (hv : Vals ys its') (hz : ys.length ≤ sizeLine) :
    Inv X pins σ (upd H l (.lst ys)) { s with heap := s.heap.update l (Obj.mapSeq f), toks := t' } := by
  have q := PySem.IsL.update e f
  rw [hf] at q
  refine I.write (x := l) (e := l) (by rw [hH]; exact trivial) (.inl rfl) (fun b' u hb hu => (Heap.get?_update_other s.heap (Obj.mapSeq f) (Ne.symm hb)).trans hu) ⟨_, q⟩ ?_
  exact ⟨hz, its', _, hv, q⟩
theorem Inv.lnew {its : List Value} {t' : Nat} (I : Inv X pins σ H s) (hv : Vals ys its) (hz : ys.length ≤ sizeLine) :
    Inv X pins σ (upd H s.heap.objs.size (.lst ys)) { s with heap := s.heap.push { cls := .type "list", data := .seq its.toArray }, toks := t' } :=
  I.laid (fun _ _ q => Heap.get?_push_of_some _ q) (Nat.le_refl _) ⟨hz, its, 0, hv, Heap.get?_push_size _ rfl⟩
theorem Inv.fresh (I : Inv X pins σ H s) : H s.heap.objs.size = none := I.hok.fresh (Nat.le_refl _)
theorem Inv.lstM (I : Inv X pins σ H s) (hH : H l = some (.lst xs)) : xs.length ≤ sizeLine ∧ ∃ (its : List Value) (n : Nat), Vals xs its ∧ xs.length = its.length ∧ s.heap.get? l = some { cls := .type "list", data := .seq its.toArray n } := by
  obtain ⟨z, its, n, r, e⟩ := I.hok l _ hH
  exact ⟨z, its, n, r, r.length, e⟩
end
section
variable {X : Cx}
noncomputable def rAppend : V → List V → Hp → VK → Prop := fun x vs H Q => ∃ l xs y, x = .ref l ∧ vs = [y] ∧ H l = some (.lst xs) ∧ xs.length < sizeLine ∧ Q .non (upd H l (.lst (xs ++ [y])))
theorem mt_append : MtM X "list.append" rAppend := by
  intro pins s σ H x vs v us Q I rx rv h
  obtain ⟨l, xs, y, rfl, rfl, hH, hz, q⟩ := h
  cases rx
  obtain ⟨u, rfl, ru⟩ := rv.one
  obtain ⟨z, its, n, r, hl, e⟩ := I.lstM hH
  refine call_meets F.slot_list_append ⟨_, e, rfl⟩ F.entry_list_append (F.args_list_append_2 _ _) (PySem.list_append l its.toArray n u (by rw [List.size_toArray]; omega)) ⟨e, ?_⟩
  refine ⟨.non, _, I.lset (its' := its ++ [u]) hH e (by simp) (r.append (.cons ru .nil)) ?_, rfl, q⟩
  rw [List.length_append, List.length_singleton]
  omega
end
section
variable {prog : Program} {w : World} {A : Around} {E : Value → Shared → Prop} {s : Shared}
end
section
variable {X : Cx}
end
end L2
namespace Att
open PySem PySem.W PySem.Calls PyProof.Rows
theorem ints_of_wellAll {P : Params} {h : Heap} : ∀ (ns : List Int) (vs : List Value), WellAll P h vs (ns.map WData.int) → IntsAre vs ns := by
  intro ns
  induction ns with
  | nil =>
    intro vs w
    rw [List.map_nil] at w
    cases w
    exact .nil
  | cons n ns ih =>
    intro vs w
    rw [List.map_cons] at w
    cases w with
    | cons a b =>
      cases a
      exact .cons _ _ (ih _ b)
theorem script_of {l : OpenLaw} {n : Nat} (hn : l.most = some n) {P : Params} {h : Heap} {args : List WData} {vals : List Value}
    (hpre : l.row.toRowW.claim.pre args = true) (hwl : WellAll P h vals args) :
    ∃ a vs ns, vals = [Value.ref a] ∧ args = [WData.list (ns.map WData.int)] ∧ h.get? a = some { cls := .type "list", data := .seq vs.toArray } ∧ IntsAre vs ns ∧ ns.length ≤ n := by
  have hsh : WShape.hasAll [] args [.list .int] = true := (pre_splitW hpre).1
  have hc : l.pre.holds [] { args := args } = true := (pre_splitW hpre).2
  obtain ⟨d, r, rfl, h1, h2⟩ := hasAllW_cons hsh
  obtain rfl := hasAllW_nil h2
  obtain ⟨xs, rfl, h3⟩ := hasW_list h1
  obtain ⟨ns, rfl⟩ := items_int h3
  have hlen : ns.length ≤ n := by
    unfold OpenLaw.pre at hc
    have h4 : (WTm.not (.lt (.lit (.int (n : Int))) (.len (.arg 0)))).holds [] { args := [.list (ns.map .int)] } = true := by
      have h4 := (holds_andW hc).1
      rw [hn] at h4
      exact h4
    have h5 := condW_of h4 (w_not (w_lt w_lit (w_len_list (w_arg rfl))))
    rw [List.length_map] at h5
    refine Nat.le_of_not_lt fun q => ?_
    have q' : (n : Int) < ((ns.length : Nat) : Int) := by omega
    first
      | (rw [decide_eq_true q'] at h5; exact absurd h5 (by decide))
      | (simp at h5; omega)
  cases hwl with
  | cons w1 w2 =>
    cases w2
    cases w1 with
    | list ho hall => exact ⟨_, _, ns, rfl, rfl, ho, ints_of_wellAll ns _ hall, hlen⟩
theorem post_true (l : OpenLaw) (args : List WData) : l.row.toRowW.claim.post args (.bool true) args = true :=
  postW_of (r := l.row.toRowW) (X := (true == true))
    (show WShape.has [] (.bool true) .bool = true by first | rfl | decide | simp [WShape.has, WShape.arms, WShape.armsAll])
    (show (WTm.eq .res (.lit (.bool true))).value [] { args := args, res := some (.bool true), after := args } = some (.bool (true == true)) from w_eq_bool (w_res rfl) w_lit) rfl
theorem attach_call {l : OpenLaw} {n : Nat} {q : Program} {loose : List Str} {XP : (Str → Option Value) → Heap → Prop} {YP : World → Heap → Prop} {d : DefRec}
    (hn : l.most = some n) (hdf : d.params.defaults = [])
    (call : ∀ (w : World) (s₀ s₁ : Shared) (mg mb : Str → Option Value) (fa : Addr) (o : Obj) (pm cd doc : Value) (a : Addr) (vs : List Value) (ns : List Int),
      Ground q loose [] XP w s₀ mg mb s₁.heap → YP w s₁.heap →
      s₁.heap.get? fa = some o → o.data = .func (docDef d.name d.params d.body d.scope pm cd doc) → s₁.heap.CodeRec cd d.name → mg d.name = some (.ref fa) →
      s₁.heap.get? a = some { cls := .type "list", data := .seq vs.toArray } → IntsAre vs ns → ns.length ≤ n → s₁.gens = #[] →
      codeAny (model l.prog w) callerA (.call (.ref fa) ⟨[.ref a], []⟩) (fun r s' => r = .ok (.ret (.bool true)) ∧ OldK s₁.heap s'.heap ∧ s'.os = s₁.os ∧ AllBare s'.gens) s₁) :
    WalkO q loose XP YP l.row.toRowW d [] (fun f vs => PySem.call f vs) := by
  intro w s₀ s₁ mg mb G Y fa o pm cd doc dV kV ho hd hcd hD hmg hg args vals as hpre hlay hrd hwl hlo
  obtain rfl : dV = .none := Dflts.none hD hdf
  obtain rfl : kV = .none := Dflts.noKw hD
  obtain ⟨a, vs, ns, rfl, rfl, hobj, hints, hlen⟩ := script_of hn hpre hwl
  refine enter_call (codeAny_mono (call w s₀ s₁ mg mb fa o pm cd doc a vs ns G Y ho (fd_plain hd) hcd hmg hobj hints hlen hg) fun r s' hq => ?_)
  obtain ⟨rfl, h2, h3, h4⟩ := hq
  exact ⟨.inl ⟨.bool true, .bool true, [], rfl, fun _ => rfl, .bool true, post_true l _, fun _ => ⟨List.Pairwise.nil, fun _ hm => (nomatch hm)⟩⟩, h2, h3, h4⟩
section
variable {prog : Program} {w : World} {A : Around} {E : Value → Shared → Prop} {s : Shared} {K : Frag}
end
end Att
namespace L2
open PySem PySem.Spec PyProof.Rows
theorem vals_ints : ∀ {vs : List Value} {ns : List Int}, IntsAre vs ns → Vals (ns.map V.int) vs
  | _, _, .nil => .nil
  | _, _, .cons n t h => .cons ⟨t, rfl⟩ (vals_ints h)
noncomputable def Only (H : Hp) : Prop := ∀ b, H b = none ∨ ∃ o xs, H b = some (.frz o (.lst xs))
theorem law_call {P : Program} {w : World} {K : PySem.W.Frag} {mg mb : Str → Option Value} {CX : CXT} {k : Nat} {fa a : Addr} {fd : FuncData} {x : Str} {sp : Sp} {s₁ : Shared} {vs : List Value} {ns : List Int}
    (KX : K.In s₁.heap) (hns : s₁.heap.Ns mainGlobals mg) (hb : s₁.heap.Ns builtinsNs mb) (hbb : ∀ x : Str, x ≠ "__name__" → mb x = bootBuiltins x) (hlim : s₁.heap.NoLimit) (hg : s₁.gens = #[])
    (ha : s₁.heap.get? a = some { cls := .type "list", data := .seq vs.toArray }) (hi : IntsAre vs ns) (hl : ns.length ≤ sizeLine) (hr : Room k callerA)
    (F : ∀ base : Heap, K.In base → base.Ns mainGlobals mg → FnOk P w K mg base CX k fa fd [x] sp) (hbind : ∀ (s : Shared) (u : Value), BindsTo s fd ⟨[u], []⟩ [(x, u)])
    (hsp : ∀ H : Hp, Only H → SqL K H a (ns.map V.int) → sp [.ref a] H (fun v _ => v = .bl true) fun _ _ _ => False)
    (hCX : ∀ H e s', CX [] H s₁ (fun _ _ _ => False) e s' → False) :
    codeAny (model P w) callerA (.call (.ref fa) ⟨[.ref a], []⟩) (fun r s' => r = .ok (.ret (.bool true)) ∧ OldK s₁.heap s'.heap ∧ s'.os = s₁.os ∧ AllBare s'.gens) s₁ := by
  have rv := vals_ints hi
  have lenV := hi.length
  have core : ∀ H : Hp, Only H → SqL K H a (ns.map V.int) → HOk P w H s₁.heap → (∀ b, H b ≠ none → b = a) → (H a ≠ none → K.lookup a = none) →
      codeAny (model P w) callerA (.call (.ref fa) ⟨[.ref a], []⟩) (fun r s' => r = .ok (.ret (.bool true)) ∧ OldK s₁.heap s'.heap ∧ s'.os = s₁.os ∧ AllBare s'.gens) s₁ := by
    intro H hO hS hok hA hK
    have base_of : ∀ {b : Addr} {o : Obj}, s₁.heap.get? b = some o → H b = none → (hidT s₁.heap H).get? b = some o := fun e n => hidT_get e n
    have noA : ∀ {b : Addr} {o : Obj} {es : Array DictEntry} {ep : Nat}, s₁.heap.get? b = some o → o.data = .dict es ep → H b = none := fun {b o es ep} e d => by
      cases q : H b with
      | none => rfl
      | some u =>
        have e' : b = a := hA b (by rw [q]; simp)
        subst e'
        rw [ha] at e; cases e
        have d' : Data.seq vs.toArray _ = Data.dict es ep := d
        cases d'
    have nsK : ∀ {b : Addr} {m : Str → Option Value}, s₁.heap.Ns b m → (hidT s₁.heap H).Ns b m := fun {b m} ⟨o, es, ep, e, d, r⟩ => ⟨o, es, ep, base_of e (noA e d), d, r⟩
    have hKb : K.In (hidT s₁.heap H) := fun b o e => base_of (KX b o e) (by
      cases q : H b with
      | none => rfl
      | some u =>
        have e' : b = a := hA b (by rw [q]; simp)
        subst e'
        rw [hK (by rw [q]; simp)] at e; cases e)
    have hM : Mod K mg (hidT s₁.heap H) := ⟨hKb, nsK hns, ⟨mb, nsK hb, hbb⟩, let ⟨mc, h1, h2⟩ := hlim; ⟨mc, nsK h1, h2⟩⟩
    have e0 : Env0 P w K mg (hidT s₁.heap H) callerA [] s₁ H := ⟨rfl, hM, fun b o e => of_hidT e, Nat.le_of_eq (hidT_size _ _), trivial, fun b hb => absurd (show b ∈ ([] : List Addr) from hb) (by simp), hok, .of_eq hg⟩
    refine codeAny_mono ((F _ hKb (nsK hns)).run callerA [] s₁ H ⟨[.ref a], []⟩ [.ref a] [.ref a] _ _ hr e0 (hbind s₁ (.ref a)) (.cons rfl .nil) (hsp H hO hS)) fun r s' h => ?_
    cases r with
    | error e => exact (hCX H e s' h).elim
    | ok fl =>
      cases fl with
      | next => exact False.elim h
      | brk => exact False.elim h
      | cont => exact False.elim h
      | ret u =>
        obtain ⟨v, H', os, bare, un, hok', r', q⟩ := h
        have q' : v = .bl true := q
        subst q'
        obtain rfl : u = Value.bool true := r'
        refine ⟨rfl, OldK.of_keep fun b o e => ?_, os, bare⟩
        cases q : H b with
        | none => exact un.keep b o e q (by intro z; exact absurd (show b ∈ ([] : List Addr) from z) (by simp)) (by simp)
        | some u =>
          rcases hO b with z | ⟨ob, xs, z⟩
          · rw [q] at z; cases z
          · have z2 := un.frzs b ob _ z
            obtain ⟨e1, _⟩ := hok b _ z
            obtain ⟨e2, _⟩ := hok' b _ z2
            rw [e] at e1; cases e1
            exact e2
  cases hk : K.lookup a with
  | some o =>
    have e := KX a o hk
    rw [ha] at e
    cases e
    refine core (fun _ => none) (fun _ => .inl rfl) (.inr ⟨_, vs.toArray, _, hk, rfl, rfl, rfl, by rw [List.size_toArray, lenV]; exact hl, by simpa using rv⟩) (fun b u z => by have z' : (none : Option HO) = some u := z; cases z') (fun b z => absurd rfl z) fun z => absurd rfl z
  | none =>
    refine core (fun b => if b = a then some (.frz { cls := .type "list", data := .seq vs.toArray } (.lst (ns.map V.int))) else none) (fun b => ?_) (.inl (.inr ⟨{ cls := .type "list", data := .seq vs.toArray }, if_pos rfl⟩)) (fun b u z => ?_) (fun b z => ?_) fun _ => hk
    · by_cases hb : b = a
      · exact .inr ⟨_, _, if_pos hb⟩
      · exact .inl (if_neg hb)
    · by_cases hb : b = a
      · have z' := (if_pos hb).symm.trans z
        cases z'
        subst hb
        exact ⟨ha, by rw [List.length_map]; exact hl, vs, _, rv, ha⟩
      · have z' := (if_neg hb).symm.trans z
        cases z'
    · by_cases hb : b = a
      · exact hb
      · exact absurd (if_neg hb) z
end L2
namespace L2
open PySem PySem.Spec PyProof.Rows
theorem walk_of {l : PySem.W.OpenLaw} {n k : Nat} {q : Program} {loose : List Str} {XP : (Str → Option Value) → Heap → Prop} {YP : World → Heap → Prop} {d : DefRec} {K : Params → PySem.W.Frag} {CX : World → CXT} {sp : World → Sp} {x : Str}
    (hn : l.most = some n) (hn2 : n ≤ sizeLine) (hdf : d.params.defaults = []) (hr : Room k callerA)
    (hY : ∀ (w : World) (h : Heap), YP w h → (K w.params).In h)
    (F : ∀ (w : World) (mg : Str → Option Value) (fa : Addr) (h : Heap), (K w.params).In h → h.Ns mainGlobals mg → mg d.name = some (.ref fa) →
      ∃ fd : FuncData, (∀ (s : Shared) (u : Value), BindsTo s fd ⟨[u], []⟩ [(x, u)]) ∧
        ∀ base : Heap, (K w.params).In base → base.Ns mainGlobals mg → FnOk l.prog w (K w.params) mg base (CX w) k fa fd [x] (sp w))
    (hsp : ∀ (w : World) (H : Hp) (a : Addr) (ns : List Int), ns.length ≤ n → Only H → SqL (K w.params) H a (ns.map V.int) → sp w [.ref a] H (fun v _ => v = .bl true) fun _ _ _ => False)
    (hCX : ∀ (w : World) (H : Hp) (s : Shared) (e : Value) (s' : Shared), CX w [] H s (fun _ _ _ => False) e s' → False) :
    PySem.W.WalkO q loose XP YP l.row.toRowW d [] (fun f vs => PySem.call f vs) := by
  refine Att.attach_call hn hdf fun w s₀ s₁ mg mb fa o pm cd doc a vs ns G Y ho hd hcd hmg hobj hints hlen hg => ?_
  have KX := hY w _ Y
  obtain ⟨fd, hb, hF⟩ := F w mg fa _ KX G.T.g hmg
  exact law_call KX G.T.g G.T.b G.T.builtins G.T.nolimit hg hobj hints (Nat.le_trans hlen hn2) hr hF hb (fun H hO hS => hsp w H a ns hlen hO hS) fun H e s' => hCX w H s₁ e s'
end L2
namespace L2
open PySem PySem.Spec PyProof.Rows
noncomputable def defArgs (s : Stmt) : Arguments := match s with
  | .FunctionDef _ a _ _ _ _ _ _ _ _ => a
  | _ => { posonlyargs := [], args := [], vararg := none, kwonlyargs := [], kw_defaults := [], kwarg := none, defaults := [] }
noncomputable def defBody (s : Stmt) : List Stmt := match s with
  | .FunctionDef _ _ b _ _ _ _ _ _ _ => b
  | _ => []
noncomputable def defScope (s : Stmt) : Scope := match s with
  | .FunctionDef _ _ _ _ _ _ sc _ _ _ => sc
  | _ => { kind := .function, names := [], isGenerator := false, isCoroutine := false }
noncomputable abbrev CX0 : CXT := fun _ _ _ _ _ _ => False
noncomputable abbrev E0 : XK := fun _ _ _ => False
theorem pass0 {X : Cx} : Passes CX0 X E0 := fun _ _ _ _ _ _ _ h => h.elim
structure Fun (K : PySem.W.Frag) (x qual : Str) (st : Stmt) (f : Addr) (fd : FuncData) : Prop where
  ex : ∃ (oc : Value) (od : Option Addr) (kV doc pm : Value) (an : Option Addr) (cdv ct : Value) (osl : Array (Option Value)),
    fd = PySem.W.fnOf x qual (defArgs st) (defBody st) (defScope st) .none kV doc pm an cdv ct ∧ K.lookup f = some ⟨oc, od, .func fd, osl⟩ ∧ PySem.W.codeIn K cdv qual = true
  kp : PySem.W.keepIn K (.ref f) = true
section
variable {P : Program} {w : World} {K : PySem.W.Frag} {mg : Str → Option Value} {base : Heap}
theorem Fun.ok {x qual : Str} {st : Stmt} {f : Addr} {fd : FuncData} {N ps : List Str} {k : Nat} {sp : Sp} (F : Fun K x qual st f fd) (S : FnScope N ps (defScope st)) (len : ∀ vs H Q E, sp vs H Q E → vs.length = ps.length)
    (hbody : ∀ (cdv : Value) (A : Around) (outer : List Env) (s : Shared) (H : Hp) (vs : List V) (Q : VK) (E : XK), Room k (A.deeper (envOfC qual (defScope st) s.heap.objs.size f cdv)) → sp vs H Q E →
      ∃ t, PSs (cxOf CX0 P w K mg base N qual (defScope st) f cdv A outer s H E).nox (defBody st) t ∧ t { nx := fun _ H' => Q .non H', rt := Q } (start N vs) H) : FnOk P w K mg base CX0 (k + 1) f fd ps sp := by
  obtain ⟨oc, od, kV, doc, pm, an, cdv, ct, osl, rfl, lk, hcd⟩ := F.ex
  refine fn_of lk hcd S len fun A outer s H vs Q E hr hsp => ?_
  obtain ⟨t, h, q⟩ := hbody cdv A outer s H vs Q E hr hsp
  exact ⟨t, h.nox, q⟩
theorem Fun.binds {x qual : Str} {st : Stmt} {f : Addr} {fd : FuncData} {ps : List Str} (F : Fun K x qual st f fd)
    (h : ∀ (kV doc pm : Value) (an : Option Addr) (cdv ct : Value) (us : List Value), us.length = ps.length → bindArgs (PySem.W.fnOf x qual (defArgs st) (defBody st) (defScope st) .none kV doc pm an cdv ct) ⟨us, []⟩ = pure (ps.zip us)) : Binds K fd ps [] := by
  obtain ⟨oc, od, kV, doc, pm, an, cdv, ct, osl, rfl, lk, hcd⟩ := F.ex
  exact .all (h kV doc pm an cdv ct)
theorem fun_mk {x qual : Str} {st : Stmt} {f : Addr} {oc : Value} {od an : Option Addr} {osl : Array (Option Value)} {kV doc pm cdv ct : Value} (l : K.lookup f = some ⟨oc, od, .func (PySem.W.fnOf x qual (defArgs st) (defBody st) (defScope st) .none kV doc pm an cdv ct), osl⟩)
    (c : PySem.W.codeIn K cdv qual = true) (k : PySem.W.keepIn K (.ref f) = true) : Fun K x qual st f (PySem.W.fnOf x qual (defArgs st) (defBody st) (defScope st) .none kV doc pm an cdv ct) := ⟨⟨oc, od, kV, doc, pm, an, cdv, ct, osl, rfl, l, c⟩, k⟩
end
theorem hu_of {A : Around} {k : Nat} (hr : Room k A) : A.units + 1 < cLine := Nat.lt_of_le_of_lt (Nat.add_le_add_left (by decide : 1 ≤ 64) _) hr.units
theorem small1000 {n : Nat} (h : n ≤ 1000) : n < sizeLine := Nat.lt_of_le_of_lt h (by decide)
section
variable {X : Cx}
theorem pv (i : Nat) {x : Str} {pos : Pos} (hN : X.N[i]? = some x := by rfl) (hv : Vis X.env.scope x := by first | exact Or.inl rfl | exact Or.inr (Or.inl rfl) | exact Or.inr (Or.inr rfl)) (hd : (x == ("__debug__" : Str)) = false := by decide)
    (hcd : (x == ("__classdict__" : Str)) = false := by decide) : PE X (.Name x pos) (tVar i) := pe_var hN hv hd hcd
end
theorem iteF {A B : Prop} (h : B) : if false = true then A else B := by
  rw [if_neg Bool.false_ne_true]
  exact h
theorem iteT {A B : Prop} (h : A) : if true = true then A else B := by
  rw [if_pos rfl]
  exact h
noncomputable def Same (H H' : Hp) : Prop := ∀ b o, H b = some o → H' b = some o
theorem Same.refl (H : Hp) : Same H H := fun _ _ h => h
theorem Same.trans {H H1 H2 : Hp} (a : Same H H1) (b : Same H1 H2) : Same H H2 := fun c o h => b c o (a c o h)
theorem Same.free {H H' : Hp} (e : Same H H') {l : Addr} (h : H' l = Option.none) : H l = Option.none := by
  cases q : H l with
  | none => rfl
  | some o =>
    rw [e l o q] at h
    cases h
theorem Same.seq {K : PySem.W.Frag} {H H' : Hp} {a : Addr} {xs : List V} (e : Same H H') (h : SqL K H a xs) : SqL K H' a xs := by
  rcases h with (h | ⟨o, h⟩) | h
  · exact .inl (.inl (e _ _ h))
  · exact .inl (.inr ⟨o, e _ _ h⟩)
  · exact .inr h
end L2
set_option maxRecDepth 100000
set_option maxRecDepth 100000
namespace L2
open PySem PySem.Spec PyProof.Rows
end L2
namespace L2
open PySem PySem.Spec PyProof.Rows
section
variable (P : Program) (w : World)
end
section
variable {P : Program} {w : World} {H H' : Hp} {h h' : Heap} {a : Addr} {o : HO}
end
section
variable {P : Program} {w : World} {H : Hp} {h h' : Heap} {x e : Addr} {o' : HO}
end
section
variable {fs fs' ex ex' : List Addr} {H H1 H2 : Hp} {h h1 h2 h' : Heap} {a x e : Addr} {o : HO}
end
end L2
namespace L2
open PySem PySem.Spec PyProof.Rows
section
variable {X : Cx} {pins : List (Addr × Obj)} {σ : List (Option V)} {H H' : Hp} {s : Shared} {h' : Heap}
end
end L2
namespace L2
open PySem PySem.Spec PyProof.Rows
section
variable {X : Cx}
variable {a b : Expr} {ta tb : TE} {pos : Pos}
variable {tA tB' : TT} {rest : List Expr}
end
end L2
namespace L2
open PySem PySem.Spec PyProof.Rows
section
variable {X : Cx} {pins : List (Addr × Obj)} {σ : St} {H : Hp} {s : Shared} {a : Addr} {xs ys : List V}
end
section
variable {X : Cx} {pins : List (Addr × Obj)} {σ : St} {H : Hp} {s : Shared} {E : Value → Shared → Prop}
end
section
variable {X : Cx} {st : Stmt} {rest : List Stmt} {t u : TS} {e : Expr} {te : TE} {pos : Pos}
end
section
variable {X : Cx} {pos : Pos}
end
section
variable {X : Cx} {pos : Pos}
end
end L2
namespace L2
open PySem PySem.Spec PyProof.Rows
section
variable {X : Cx} {tg : Expr}
end
end L2
namespace L2
open PySem PySem.Spec PyProof.Rows
section
variable {X : Cx} {a b c : Expr} {ta tb tc : TE} {pos : Pos}
end
section
variable {X : Cx} {a b c : Expr} {ta tb tc : TE} {pos : Pos}
end
end L2
namespace L2
open PySem PySem.Spec PyProof.Rows
section
variable {prog : Program} {w : World} {A : Around} {E : Value → Shared → Prop} {s : Shared} {K : PySem.W.Frag} {x dx C f : Addr} {mA : Str → Option Value} {name : Str} {v : Value}
end
section
variable {P : Program} {w : World} {H H' : Hp} {h h' : Heap} {a C dx : Addr} {fs fs' : List (Str × V)}
end
section
variable {X : Cx} {pins : List (Addr × Obj)} {σ : St} {H : Hp} {s : Shared} {a C dx : Addr} {fs : List (Str × V)} {f : Str} {v : V} {A : Around} {E : Value → Shared → Prop}
end
section
variable {X : Cx} {o e value : Expr} {f : Str} {pos pos' tpos : Pos} {ta tv : TE}
end
section
variable {X : Cx} {pins : List (Addr × Obj)} {σ : St} {H : Hp} {s : Shared} {A : Around} {E : Value → Shared → Prop} {Q : Value → Shared → Prop} {c : Value} {b : Bool}
end
end L2
namespace L2
open PySem PySem.Spec PyProof.Rows
section
variable {X : Cx} {e : Expr} {es : List Expr} {te : TE} {t : TA} {pos : Pos}
end
section
variable {X : Cx} {pins : List (Addr × Obj)} {σ : St} {H : Hp} {s s' : Shared}
end
section
variable {X : Cx} {CX : CXT} {k : Nat} {f C : Addr} {fd : FuncData} {ps : List Str} {sp : Sp} {dvs : List V} {ds : List Value} {E : XK} {x m : Str} {p pos apos : Pos} {e o : Expr} {es : List Expr} {ta : TE} {t : TA}
end
section
variable {X : Cx} {CX : CXT} {k : Nat} {f C : Addr} {fd : FuncData} {ps ks : List Str} {sp : Sp} {E : XK} {x m : Str} {p pos apos kpos : Pos} {e o : Expr} {es : List Expr} {kws : List Keyword} {te ta : TE} {t tk : TA} {nm : Option Str}
variable {g : List Value → List Value → List Value} {gV : List V → List V → List V}
end
end L2
namespace L2
open PySem PySem.Spec PyProof.Rows
section
variable {X : Cx} {x : Str} {p pos : Pos} {e : Expr} {es : List Expr} {t : TA} {id T : String} {r : List V → Hp → VK → Prop}
end
end L2
namespace L2
open PySem PySem.Spec PyProof.Rows
section
variable {κ : Type} [DecidableEq κ]
noncomputable def valV (kvs : List (κ × V)) (k : κ) : Option V := (kvs.find? fun kv => decide (kv.1 = k)).map (·.2)
noncomputable def putK (kvs : List (κ × V)) (k : κ) (v : V) : List (κ × V) :=
  if (kvs.any fun kv => decide (kv.1 = k)) = true then kvs.map (fun kv => if kv.1 = k then (kv.1, v) else kv) else kvs ++ [(k, v)]
noncomputable def dropK (kvs : List (κ × V)) (k : κ) : List (κ × V) := kvs.filter fun kv => decide (kv.1 ≠ k)
theorem valV_pos {p : κ × V} {r : List (κ × V)} {k : κ} (e : p.1 = k) : valV (p :: r) k = some p.2 := by simp [valV, List.find?_cons, e]
theorem valV_neg {p : κ × V} {r : List (κ × V)} {k : κ} (e : ¬ p.1 = k) : valV (p :: r) k = valV r k := by simp [valV, List.find?_cons, e]
theorem valV_any (k : κ) : ∀ kvs : List (κ × V), (kvs.any fun kv => decide (kv.1 = k)) = (valV kvs k).isSome
  | [] => rfl
  | p :: r => by
    rw [List.any_cons]
    by_cases e : p.1 = k
    · simp only [valV_pos e, decide_eq_true e, Bool.true_or, Option.isSome_some]
    · rw [valV_neg e, decide_eq_false e, Bool.false_or]; exact valV_any k r
theorem length_putK (kvs : List (κ × V)) (k : κ) (v : V) : (putK kvs k v).length ≤ kvs.length + 1 := by
  unfold putK
  split
  · rw [List.length_map]; omega
  · rw [List.length_append, List.length_cons, List.length_nil]; omega
theorem putK_new {kvs : List (κ × V)} {k : κ} (v : V) (h : valV kvs k = none) : putK kvs k v = kvs ++ [(k, v)] := by
  unfold putK
  rw [valV_any, h]
  exact if_neg (by decide)
theorem RelO.isSome_eq {o : Option V} {u : Option Value} (r : RelO o u) : o.isSome = u.isSome := by
  cases o with
  | none => cases u with
    | none => rfl
    | some _ => exact (show False from r).elim
  | some _ => cases u with
    | none => exact (show False from r).elim
    | some _ => rfl
theorem RelO.getD {o : Option V} {u : Option Value} {d : V} {d' : Value} (r : RelO o u) (rd : RelV d d') : RelV (o.getD d) (u.getD d') := by
  cases o with
  | none => cases u with
    | none => exact rd
    | some _ => exact (show False from r).elim
  | some _ => cases u with
    | none => exact (show False from r).elim
    | some _ => exact r
theorem KV.val {kvs : List (κ × V)} {vs : List (κ × Value)} (r : KV kvs vs) (k : κ) : RelO (valV kvs k) (valueAt vs k) := by
  unfold KV at r
  induction r with
  | nil => exact True.intro
  | @cons p q ps qs h t ih =>
    obtain ⟨h1, h2⟩ := h
    by_cases e : p.1 = k
    · have e' : q.1 = k := h1.symm.trans e
      have b : valueAt (q :: qs) k = some q.2 := by simp [valueAt, List.find?_cons, e']
      rw [valV_pos e, b]; exact h2
    · have e' : ¬ q.1 = k := fun z => e (h1.trans z)
      have b : valueAt (q :: qs) k = valueAt qs k := by simp [valueAt, List.find?_cons, e']
      rw [valV_neg e, b]; exact ih
theorem KV.any {kvs : List (κ × V)} {vs : List (κ × Value)} (r : KV kvs vs) (k : κ) : (kvs.any fun kv => decide (kv.1 = k)) = vs.any fun kv => decide (kv.1 = k) := by
  unfold KV at r
  induction r with
  | nil => rfl
  | cons h t ih => rw [List.any_cons, List.any_cons, ih, h.1]
theorem KV.repl {kvs : List (κ × V)} {vs : List (κ × Value)} (r : KV kvs vs) (k : κ) {y : V} {u : Value} (ry : RelV y u) :
    KV (kvs.map fun kv => if kv.1 = k then (kv.1, y) else kv) (vs.map fun kv => if kv.1 = k then (kv.1, u) else kv) := by
  unfold KV at r ⊢
  induction r with
  | nil => exact .nil
  | @cons p q ps qs h t ih =>
    rw [List.map_cons, List.map_cons]
    refine .cons ?_ ih
    obtain ⟨h1, h2⟩ := h
    by_cases e : p.1 = k
    · rw [if_pos e, if_pos (h1.symm.trans e)]; exact ⟨h1, ry⟩
    · rw [if_neg e, if_neg (fun z => e (h1.trans z))]; exact ⟨h1, h2⟩
theorem KV.put {kvs : List (κ × V)} {vs : List (κ × Value)} (r : KV kvs vs) (k : κ) {y : V} {u : Value} (ry : RelV y u) : KV (putK kvs k y) (stored vs k u) := by
  unfold putK stored
  rw [r.any k]
  by_cases e : (vs.any fun kv => decide (kv.1 = k)) = true
  · rw [if_pos e, if_pos e]; exact r.repl k ry
  · rw [if_neg e, if_neg e]; exact Paired.snoc r ⟨rfl, ry⟩
theorem KV.drop {kvs : List (κ × V)} {vs : List (κ × Value)} (r : KV kvs vs) (k : κ) : KV (dropK kvs k) (without vs k) := by
  unfold KV at r ⊢
  unfold dropK without
  induction r with
  | nil => exact .nil
  | @cons p q ps qs h t ih =>
    obtain ⟨h1, h2⟩ := h
    rw [List.filter_cons, List.filter_cons]
    by_cases e : p.1 = k
    · have a : ¬ decide (p.1 ≠ k) = true := by simp [e]
      have b : ¬ decide (q.1 ≠ k) = true := by simp [h1.symm.trans e]
      rw [if_neg a, if_neg b]; exact ih
    · have e' : ¬ q.1 = k := fun z => e (h1.trans z)
      have a : decide (p.1 ≠ k) = true := by simp [e]
      have b : decide (q.1 ≠ k) = true := by simp [e']
      rw [if_pos a, if_pos b]; exact .cons ⟨h1, h2⟩ ih
theorem KV.length {kvs : List (κ × V)} {vs : List (κ × Value)} (r : KV kvs vs) : kvs.length = vs.length := Paired.length r
end
theorem kV_is {P : Program} {w : World} {k : Key} {u : Value} (r : RelV (kV k) u) : (mixKind P w).is k u = true := by
  cases k with
  | inl i => obtain ⟨t, e⟩ := (show ∃ t, u = Value.int i t from r); subst e; exact mixKind_int P w i t
  | inr x => obtain ⟨t, e⟩ := (show ∃ t, u = Value.str x t from r); subst e; exact mixKind_str P w x t
theorem items_are {P : Program} {w : World} : ∀ {ks : List Key} {us : List Value}, Vals (ks.map kV) us → ItemsAre (mixKind P w) ks us
  | [], _, r => by rw [List.map_nil] at r; cases r; exact .nil
  | k :: ks, _, r => by
    rw [List.map_cons] at r
    cases r with
    | cons h t => exact .cons (kV_is h) (items_are t)
noncomputable abbrev KT (H : Hp) : List (List Key × V) → List (List Key × Addr × Value) → Prop := Paired fun p q => p.1 = q.1 ∧ H q.2.1 = some (.tup (p.1.map kV)) ∧ RelV p.2 q.2.2
theorem KT.val {H : Hp} {kvs : List (List Key × V)} {xs : List (List Key × Addr × Value)} (r : KT H kvs xs) (k : List Key) : RelO (valV kvs k) ((atKey xs k).map (·.2)) := by
  induction r with
  | nil => exact True.intro
  | @cons p q ps qs h t ih =>
    obtain ⟨h1, _, h2⟩ := h
    by_cases e : p.1 = k
    · have e' : q.1 = k := h1.symm.trans e
      have b : atKey (q :: qs) k = some q.2 := by simp [atKey, List.find?_cons, e']
      rw [valV_pos e, b]; exact h2
    · have e' : ¬ q.1 = k := fun z => e (h1.trans z)
      have b : atKey (q :: qs) k = atKey qs k := by simp [atKey, List.find?_cons, e']
      rw [valV_neg e, b]; exact ih
theorem KT.repl {H : Hp} {kvs : List (List Key × V)} {xs : List (List Key × Addr × Value)} (r : KT H kvs xs) (k : List Key) {y : V} {u : Value} (ry : RelV y u) :
    KT H (kvs.map fun kv => if kv.1 = k then (kv.1, y) else kv) (xs.map (putAt k u)) := by
  induction r with
  | nil => exact .nil
  | @cons p q ps qs h t ih =>
    rw [List.map_cons, List.map_cons]
    refine .cons ?_ ih
    obtain ⟨h1, h2, h3⟩ := h
    unfold putAt
    by_cases e : p.1 = k
    · rw [if_pos e, if_pos (h1.symm.trans e)]; exact ⟨h1, h2, ry⟩
    · rw [if_neg e, if_neg (fun z => e (h1.trans z))]; exact ⟨h1, h2, h3⟩
theorem KT.put {H : Hp} {kvs : List (List Key × V)} {xs : List (List Key × Addr × Value)} (r : KT H kvs xs) (k : List Key) {b : Addr} {y : V} {u : Value} (hb : H b = some (.tup (k.map kV))) (ry : RelV y u) :
    KT H (putK kvs k y) (storedH xs k b u) := by
  have e : (kvs.any fun kv => decide (kv.1 = k)) = (atKey xs k).isSome := by
    rw [valV_any, (r.val k).isSome_eq, Option.isSome_map]
  unfold putK storedH
  rw [e]
  by_cases q : (atKey xs k).isSome = true
  · rw [if_pos q, if_pos q]; exact r.repl k ry
  · rw [if_neg q, if_neg q]; exact Paired.snoc r ⟨rfl, hb, ry⟩
theorem KT.keeps {H H' : Hp} {kvs : List (List Key × V)} {xs : List (List Key × Addr × Value)} (r : KT H kvs xs) (ht : ∀ b ys, H b = some (.tup ys) → H' b = some (.tup ys)) : KT H' kvs xs :=
  Paired.mapP r fun _ _ z => ⟨z.1, ht _ _ z.2.1, z.2.2⟩
section
variable {P : Program} {w : World} {H : Hp} {h : Heap} {a : Addr}
theorem rd_of {u : HO} (ok : HOk P w H h) (e : Rd H a u) : ObjOk P w H h a u := e.ok ok
theorem dk_rd {kvs : List (Key × V)} (ok : HOk P w H h) (e : Rd H a (.dK kvs)) : kvs.length ≤ sizeLine ∧ (a == sysModules) = false ∧ ∃ vs, KV kvs vs ∧ h.DictOf (mixKind P w) a vs :=
  show ObjOk P w H h a (.dK kvs) from rd_of ok e
theorem dk_of {kvs : List (Key × V)} (ok : HOk P w H h) (e : H a = some (.dK kvs)) : kvs.length ≤ sizeLine ∧ (a == sysModules) = false ∧ ∃ vs, KV kvs vs ∧ h.DictOf (mixKind P w) a vs := dk_rd ok (.inl e)
theorem key_of {ks : List Key} (ok : HOk P w H h) (e : H a = some (.tup (ks.map kV))) : (tupleKind (mixKind P w)).is h ks a := by
  obtain ⟨_, its, r, o, h1, h2, ⟨n, h3⟩, _⟩ := (show ObjOk P w H h a (.tup (ks.map kV)) from ok a _ e)
  exact ⟨o, its.toArray, n, h1, h2, h3, by simpa using items_are r⟩
theorem dt_rd {kvs : List (List Key × V)} (ok : HOk P w H h) (e : Rd H a (.dT kvs)) : kvs.length ≤ sizeLine ∧ (a == sysModules) = false ∧
    ∃ xs, KT H kvs xs ∧ h.DictOfH (tupleKind (mixKind P w)) a xs := by
  obtain ⟨z, y, xs, r, o, es, ep, h1, h2, h3, h4, h5⟩ := (show ObjOk P w H h a (.dT kvs) from rd_of ok e)
  refine ⟨z, y, xs, r, o, es, ep, h1, h2, h3, h4, fun x hx => ?_, h5⟩
  have all : ∀ {l : List (List Key × V)} {m : List (List Key × Addr × Value)}, KT H l m → ∀ x ∈ m, (tupleKind (mixKind P w)).is h x.1 x.2.1 := by
    intro l m q
    induction q with
    | nil => intro x hx; exact nomatch hx
    | @cons p q ps qs hq t ih =>
      intro x hx
      rcases List.mem_cons.mp hx with e | hx
      · subst e
        exact key_of ok (by rw [← hq.1]; exact hq.2.1)
      · exact ih x hx
  exact all r x hx
theorem dt_of {kvs : List (List Key × V)} (ok : HOk P w H h) (e : H a = some (.dT kvs)) : kvs.length ≤ sizeLine ∧ (a == sysModules) = false ∧
    ∃ xs, KT H kvs xs ∧ h.DictOfH (tupleKind (mixKind P w)) a xs := dt_rd ok (.inl e)
end
noncomputable def DGet (H : Hp) (a : Addr) (y : V) (r : Option V) : Prop :=
  (∃ kvs k, Rd H a (.dK kvs) ∧ y = kV k ∧ r = valV kvs k) ∨ ∃ kvs k b, Rd H a (.dT kvs) ∧ y = .ref b ∧ H b = some (.tup (k.map kV)) ∧ r = valV kvs k
noncomputable def DPut (H : Hp) (a : Addr) (y v : V) (H' : Hp) : Prop :=
  (∃ kvs k, H a = some (.dK kvs) ∧ y = kV k ∧ kvs.length < sizeLine ∧ H' = upd H a (.dK (putK kvs k v))) ∨
  ∃ kvs k b, H a = some (.dT kvs) ∧ y = .ref b ∧ H b = some (.tup (k.map kV)) ∧ kvs.length < sizeLine ∧ H' = upd H a (.dT (putK kvs k v))
theorem DGet.k {H : Hp} {a : Addr} {kvs : List (Key × V)} {k : Key} (e : H a = some (.dK kvs)) : DGet H a (kV k) (valV kvs k) := .inl ⟨kvs, k, .inl e, rfl, rfl⟩
theorem DGet.t {H : Hp} {a b : Addr} {kvs : List (List Key × V)} {k : List Key} (e : H a = some (.dT kvs)) (eb : H b = some (.tup (k.map kV))) : DGet H a (.ref b) (valV kvs k) := .inr ⟨kvs, k, b, .inl e, rfl, eb, rfl⟩
theorem DPut.k {H : Hp} {a : Addr} {kvs : List (Key × V)} {k : Key} {v : V} (e : H a = some (.dK kvs)) (hl : kvs.length < sizeLine) : DPut H a (kV k) v (upd H a (.dK (putK kvs k v))) := .inl ⟨kvs, k, e, rfl, hl, rfl⟩
theorem DPut.t {H : Hp} {a b : Addr} {kvs : List (List Key × V)} {k : List Key} {v : V} (e : H a = some (.dT kvs)) (eb : H b = some (.tup (k.map kV))) (hl : kvs.length < sizeLine) :
    DPut H a (.ref b) v (upd H a (.dT (putK kvs k v))) := .inr ⟨kvs, k, b, e, rfl, eb, hl, rfl⟩
section
variable {X : Cx} {pins : List (Addr × Obj)} {σ : St} {H : Hp} {s : Shared} {a : Addr} {y v : V} {u r : Value} {o : Option V} {A : Around} {E : Value → Shared → Prop}
theorem Inv.big (I : Inv X pins σ H s) : sysModules < s.heap.objs.size := by
  have h : mainGlobals < s.heap.objs.size := (I.mod.glob.keeps I.bk).lt
  exact Nat.lt_trans (by decide) h
theorem d_getItem {Q : Value → Shared → Prop} (hu : A.units + 1 < cLine) (I : Inv X pins σ H s) (g : DGet H a y (some v)) (ry : RelV y u) (h : ∀ w' s', Inv X pins σ H s' → RelV v w' → Q w' s') :
    wpAny (model X.prog X.w) A (getItem (.ref a) u) Q E s := by
  rcases g with ⟨kvs, k, e, ey, l⟩ | ⟨kvs, k, b, e, ey, eb, l⟩
  · subst ey
    obtain ⟨z, hd, vs, rel, dd⟩ := dk_rd I.hok e
    obtain ⟨w', hw, rw'⟩ := RelO.some_of (v := v) (o := valueAt vs k) (by rw [l]; exact rel.val k)
    exact wpAny_getItem_of (kV_is ry) dd.mapOf hw (h w' _ (I.tok _) rw')
  · subst ey
    cases (show u = Value.ref b from ry)
    obtain ⟨z, hd, xs, rel, dd⟩ := dt_rd I.hok e
    obtain ⟨w', hw, rw'⟩ := RelO.some_of (v := v) (o := (atKey xs k).map (·.2)) (by rw [l]; exact rel.val k)
    obtain ⟨p, hp, hp2⟩ := Option.map_eq_some_iff.mp hw
    refine wpAny_getItem_heap (tupleKind_room_in1 hu) (key_of I.hok eb) dd hp ?_
    rw [hp2]
    exact h w' _ (I.tok _) rw'
theorem d_write {h' : Heap} {t' : Nat} {ob : HO} (I : Inv X pins σ H s) (mu : Mut (H a)) (hs : Heap.SameBut a s.heap h') (he : ∃ q, h'.get? a = some q) (new : ObjOk X.prog X.w (upd H a ob) h' a ob) :
    Inv X pins σ (upd H a ob) { s with heap := h', toks := t' } :=
  I.write (x := a) (e := a) mu (.inl rfl) (fun b q hb z => (hs.2 b hb).trans z) he new
theorem dk_new {P : Program} {w : World} {H' : Hp} {h' : Heap} {kvs : List (Key × V)} {vs : List (Key × Value)} (z : kvs.length ≤ sizeLine) (hd : (a == sysModules) = false) (rel : KV kvs vs) (dd : h'.DictOf (mixKind P w) a vs) :
    ObjOk P w H' h' a (.dK kvs) := ⟨z, hd, vs, rel, dd⟩
theorem d_setItem {H' : Hp} {Q : Unit → Shared → Prop} (hu : A.units + 1 < cLine) (I : Inv X pins σ H s) (g : DPut H a y v H') (ry : RelV y u) (rv : RelV v r) (h : ∀ s', Inv X pins σ H' s' → Q () s') :
    wpAny (model X.prog X.w) A (setItem (.ref a) u r) Q E s := by
  rcases g with ⟨kvs, k, e, ey, l, eH⟩ | ⟨kvs, k, b, e, ey, eb, l, eH⟩
  · subst ey eH
    obtain ⟨z, hd, vs, rel, dd⟩ := dk_of I.hok e
    have hz : vs.length ≤ sizeLine := by rw [← rel.length]; exact z
    have hl : (putK kvs k v).length ≤ sizeLine := by have := length_putK kvs k v; omega
    refine wpAny_setItem_pairs (hsz := hz) (kV_is ry) dd fun h' dd' hs => h _ ?_
    have he : ∃ q, h'.get? a = some q := let ⟨q, _, _, hq, _⟩ := dd'; ⟨q, hq⟩
    exact d_write I (by rw [e]; exact True.intro) hs he (dk_new hl hd (rel.put k rv) dd')
  · subst ey eH
    cases (show u = Value.ref b from ry)
    obtain ⟨z, hd, xs, rel, dd⟩ := dt_of I.hok e
    have hz : xs.length ≤ sizeLine := by rw [← Paired.length rel]; exact z
    have hl : (putK kvs k v).length ≤ sizeLine := by have := length_putK kvs k v; omega
    refine wpAny_setItem_heap (hsz := hz) (tupleKind_room_in1 hu) (key_of I.hok eb) dd fun h' dd' hs => h _ ?_
    obtain ⟨q, es, ep, hq, h2, h3, h4, _, h5⟩ := dd'
    refine d_write I (by rw [e]; exact True.intro) hs ⟨q, hq⟩ ⟨hl, hd, _, (rel.put k eb rv).keeps fun c ys ec => ?_, q, es, ep, hq, h2, h3, h4, h5⟩
    rw [upd_ne (ne_of ec e (fun z => nomatch z))]
    exact ec
end
section
variable {X : Cx} {pins : List (Addr × Obj)} {σ : St} {H : Hp} {s : Shared} {a : Addr} {kvs : List (Key × V)} {k : Key} {u : Value} {A : Around} {E : Value → Shared → Prop}
end
noncomputable def NoSl (i : Expr) : Prop := ∀ ov iv, subscripted i false ov iv = operate [ov, iv] (getItem ov iv)
theorem subD_of {prog : Program} {w : World} {A : Around} {E : Value → Shared → Prop} {s : Shared} {env : Env} {value slice : Expr} {pos : Pos} {T id : String} {Q : Value → Shared → Prop}
    (hl : typeLookup (.type T) "__getitem__" = pure (some (.builtin id))) (hs : NoSl slice)
    (h : wpAny (model prog w) A (eval value env) (fun o s₁ => wpAny (model prog w) A (eval slice env) (fun i s₂ => s₂.TypeIs o T ∧ wpAny (model prog w) A (getItem o i) Q E s₂) E s₁) E s) :
    wpAny (model prog w) A (eval (.Subscript value slice pos) env) Q E s := by
  refine Subscript_ (wpAny_mono h (fun o s₁ h₁ => wpAny_mono h₁ (fun i s₂ h₂ => ?_) fun _ _ x => x) fun _ _ x => x)
  obtain ⟨hT, h₂⟩ := h₂
  unfold subscriptTail
  refine wpAny_bind ?_
  rw [getitemInPython_of_ne hT.not_modules]
  refine wpAny_bind (wpAny_specialOf hT hl ?_)
  have fin : wpAny (model prog w) A (subscripted slice false o i) (fun r s₃ => wpAny (model prog w) A (letTemporaryGo value o r >>= fun _ => pure r) Q E s₃) E s₂ := by
    rw [hs o i]
    exact wpAny_operating (wpAny_mono h₂ (fun r s₃ h₃ => wpAny_bind (wpAny_letTemporaryGo (wpAny_pure h₃))) fun _ _ x => x)
  first
    | exact wpAny_pure (wpAny_bind fin)
    | exact wpAny_bind (wpAny_pure (wpAny_bind fin))
    | exact wpAny_bind fin
theorem dict_typeIs {X : Cx} {pins : List (Addr × Obj)} {σ : St} {H : Hp} {s : Shared} {a : Addr} {y : V} {o : Option V} (I : Inv X pins σ H s) (g : DGet H a y o) : s.TypeIs (.ref a) "dict" := by
  rcases g with ⟨kvs, k, e, _, _⟩ | ⟨kvs, k, b, e, _, _, _⟩
  · obtain ⟨_, _, vs, _, dd⟩ := dk_rd I.hok e
    exact dd.typeIs
  · obtain ⟨_, _, xs, _, dd⟩ := dt_rd I.hok e
    exact dd.typeIs
noncomputable def tDGet (td ty : TE) : TE := fun σ H Q => td σ H fun x H1 => ty σ H1 fun y H2 => ∃ a v, x = .ref a ∧ DGet H2 a y (some v) ∧ Q v H2
noncomputable def sDPut (td ty tv : TE) : TS := fun D σ H => tv σ H fun v H1 => td σ H1 fun x H2 => ty σ H2 fun y H3 => ∃ a H4, x = .ref a ∧ DPut H3 a y v H4 ∧ D.nx σ H4
section
variable {X : Cx} {o i e value : Expr} {pos pos' tpos : Pos} {td ty tv : TE}
theorem pe_dget (hu : X.A.units + 1 < cLine) (ho : PE X o td) (hi : PE X i ty) (hs : NoSl i) : PE X (.Subscript o i pos) (tDGet td ty) := by
  intro pins s σ H Q I h
  refine subD_of PySem.F.slot_dict_getitem.lookup hs (thn (ho pins s σ H _ I h) fun u s1 ⟨x, H1, I1, rx, q1⟩ => thn (hi pins s1 σ H1 _ I1 q1) fun iv s2 hh0_ => ?_)
  obtain ⟨y, H2, I2, ry, a, v, ex, g, q2⟩ := hh0_
  subst ex
  obtain rfl : u = Value.ref a := rx
  exact ⟨dict_typeIs I2 g, d_getItem hu I2 g ry fun w' s3 I3 rw' => ⟨v, H2, I3, rw', q2⟩⟩
theorem ps_dput (hu : X.A.units + 1 < cLine) (ho : PE X o td) (hi : PE X i ty) (hv : PE X value tv) (hs : swapsWith value (some (.Subscript o i pos')) pos.line X.env = pure false) :
    PS X (.Assign [.Subscript o i pos'] value pos) (sDPut td ty tv) := by
  intro pins s σ H D I h
  refine wpAny_Assign_Subscript (thn (hv pins s σ H _ I h) fun r s1 ⟨v, H1, I1, rv, q1⟩ => thn (ho pins s1 σ H1 _ I1 q1) fun u s2 ⟨x, H2, I2, rx, q2⟩ => thn (hi pins s2 σ H2 _ I2 q2) fun iv s3 hh0_ => ?_) hs
  obtain ⟨y, H3, I3, ry, a, H4, ex, g, q3⟩ := hh0_
  subst ex
  obtain rfl : u = Value.ref a := rx
  exact d_setItem hu I3 g ry rv fun s4 I4 => ⟨σ, H4, I4, q3⟩
end
theorem dk_empty {P : Program} {w : World} {H : Hp} (h : Heap) (hb : sysModules < h.objs.size) : ObjOk P w H (h.push { cls := .type "dict", data := .dict #[] }) h.objs.size (.dK []) :=
  ⟨Nat.zero_le _, beq_eq_false_iff_ne.mpr (Ne.symm (Nat.ne_of_lt hb)), [], .nil, Heap.DictOf.new h⟩
noncomputable def tDNewK : TE := fun _ H Q => ∀ p, H p = none → Q (.ref p) (upd H p (.dK []))
section
variable {X : Cx} {pos : Pos}
theorem pe_dnewK : PE X (.Dict [] [] pos) tDNewK := fun pins s σ H Q I h =>
  wpAny_Dict_empty ⟨.ref s.heap.objs.size, _, I.laid (a := s.heap.objs.size) (o := .dK []) (t' := s.toks) (fun _ _ q => Heap.get?_push_of_some _ q) (Nat.le_refl _) (dk_empty s.heap I.big), rfl, h _ (I.hok.fresh (Nat.le_refl _))⟩
end
structure M1 (X : Cx) (o : Expr) (m : Str) (apos : Pos) (e : Expr) (cpos : Pos) : Prop where
  base : attributeBase o m X.env (eval o X.env) = eval o X.env
  few : ((backTo cpos (starEach [e] X.env)).all (fun x => !x.1) && (backToKw cpos (keywordEach [] X.env)).all (fun x => x.1.isSome)
    && decide (([e] : List Expr).length + ([] : List Keyword).length + (if ([] : List Keyword).isEmpty then 0 else 1) < 30)) = true
  line : (apos.endLine == cpos.line) = true
  trees : backTo cpos (starEach [e] X.env) = [(false, eval e X.env)]
structure M2 (X : Cx) (o : Expr) (m : Str) (apos : Pos) (e f : Expr) (cpos : Pos) : Prop where
  base : attributeBase o m X.env (eval o X.env) = eval o X.env
  few : ((backTo cpos (starEach [e, f] X.env)).all (fun x => !x.1) && (backToKw cpos (keywordEach [] X.env)).all (fun x => x.1.isSome)
    && decide (([e, f] : List Expr).length + ([] : List Keyword).length + (if ([] : List Keyword).isEmpty then 0 else 1) < 30)) = true
  line : (apos.endLine == cpos.line) = true
  trees : backTo cpos (starEach [e, f] X.env) = [(false, eval e X.env), (false, eval f X.env)]
section
variable {X : Cx} {pins : List (Addr × Obj)} {σ : St} {H : Hp} {s : Shared} {a : Addr} {y d : V} {u r : Value} {o : Option V} {A : Around} {E : Value → Shared → Prop}
end
section
variable {X : Cx} {o e f : Expr} {apos cpos : Pos} {td ty tx : TE}
end
section
variable {X : Cx} {pins : List (Addr × Obj)} {σ : St} {H : Hp} {s : Shared} {a : Addr} {kvs : List (Key × V)} {A : Around} {E : Value → Shared → Prop}
end
section
variable {X : Cx} {pins : List (Addr × Obj)} {σ : St} {H : Hp} {s : Shared} {a : Addr} {y : V} {u : Value} {A : Around} {E : Value → Shared → Prop}
end
end L2
namespace Att
open PySem PySem.W PySem.Calls PyProof.Rows
section
variable {prog : Program} {w : World} {A : Around} {E : Value → Shared → Prop} {s : Shared} {K : Frag}
end
end Att
namespace L2
open PySem PySem.Spec PyProof.Rows
end L2
namespace L2
open PySem PySem.Spec PyProof.Rows
end L2
namespace L2
open PySem PySem.Spec PyProof.Rows
section
variable {P : Program} {w : World} {K : PySem.W.Frag} {mg : Str → Option Value} {base : Heap}
end
section
variable {X : Cx}
end
section
variable {κ : Type} [DecidableEq κ]
end
end L2
set_option maxRecDepth 100000
namespace L2
open PySem PySem.Spec PyProof.Rows
theorem ne_lt {a b : Addr} {n : Nat} (h : a < n) (h' : n ≤ b) : a ≠ b := Nat.ne_of_lt (Nat.lt_of_lt_of_le h h')
theorem ne_lt' {a b : Addr} {n : Nat} (h : a < n) (h' : n ≤ b) : b ≠ a := (ne_lt h h').symm
noncomputable def clOf (cells : List (Str × Addr)) : List (Str × NameKind) → List (Str × Addr) → List (Str × Addr)
  | [], acc => acc
  | (n, k) :: r, acc => clOf cells r (if (k == NameKind.free) = true then (n, (cells.lookup n).getD 0) :: acc else acc)
theorem closure_go {env : Env} : ∀ (l : List (Str × NameKind)) (acc : List (Str × Addr)), (∀ y ∈ l, y.2 = .free → ∃ c, env.cells.lookup y.1 = some c) →
    (forIn l acc fun (y : Str × NameKind) (cs : List (Str × Addr)) => (match y with
      | (name, kind) => if (kind == NameKind.free) = true then do let c ← cellOf env name; pure (ForInStep.yield ((name, c) :: cs)) else pure (ForInStep.yield cs) : Sem _)) = pure (clOf env.cells l acc)
  | [], acc, _ => rfl
  | (n, k) :: r, acc, h => by
    rw [List.forIn_cons]
    unfold clOf
    by_cases e : (k == NameKind.free) = true
    · have e' : k = NameKind.free := by simpa using e
      obtain ⟨c, hc⟩ := h (n, k) List.mem_cons_self e'
      simp only [e, if_true, cellOf, hc, pure_bind, Option.getD_some]
      exact closure_go r _ fun y hy => h y (List.mem_cons_of_mem _ hy)
    · simp only [e, if_false, pure_bind]
      exact closure_go r _ fun y hy => h y (List.mem_cons_of_mem _ hy)
theorem closure_eq {sc : Scope} {env : Env} (h : ∀ y ∈ sc.names, y.2 = .free → ∃ c, env.cells.lookup y.1 = some c) : closureFor sc env = pure (clOf env.cells sc.names []) := by
  have e := closure_go (env := env) sc.names [] h
  simp only [closureFor]
  exact (bind_pure _).trans e
theorem clOf_sub {cells : List (Str × Addr)} {y : Str} {c : Addr} : ∀ (l : List (Str × NameKind)) (acc : List (Str × Addr)), (∀ y ∈ l, y.2 = .free → ∃ c, cells.lookup y.1 = some c) →
    (clOf cells l acc).lookup y = some c → cells.lookup y = some c ∨ acc.lookup y = some c
  | [], acc, _, e => .inr e
  | (n, k) :: r, acc, h, e => by
    unfold clOf at e
    have hr : ∀ y ∈ r, y.2 = .free → ∃ c, cells.lookup y.1 = some c := fun y hy => h y (List.mem_cons_of_mem _ hy)
    rcases clOf_sub r _ hr e with q | q
    · exact .inl q
    · by_cases z : (k == NameKind.free) = true
      · rw [if_pos z] at q
        rw [List.lookup_cons] at q
        cases hb : y == n with
        | true =>
          rw [hb] at q
          obtain ⟨c', hc'⟩ := h (n, k) List.mem_cons_self (by simpa using z)
          have hc'' : cells.lookup n = some c' := hc'
          rw [hc''] at q
          have e1 : y = n := by simpa using hb
          have q' : c' = c := Option.some.inj q
          exact .inl (by rw [e1, hc'', q'])
        | false =>
          rw [hb] at q
          exact .inr q
      · rw [if_neg z] at q
        exact .inr q
theorem clOf_has {cells : List (Str × Addr)} {y : Str} : ∀ (l : List (Str × NameKind)) (acc : List (Str × Addr)), ((y, NameKind.free) ∈ l ∨ ∃ c, acc.lookup y = some c) → ∃ c, (clOf cells l acc).lookup y = some c
  | [], acc, h => by
    rcases h with h | h
    · cases h
    · exact h
  | (n, k) :: r, acc, h => by
    unfold clOf
    have grow : ∀ v : Addr, (∃ c, acc.lookup y = some c) → ∃ c, ((n, v) :: acc).lookup y = some c := fun v hh0_ => by
      obtain ⟨c, hc⟩ := hh0_
      rw [List.lookup_cons]
      cases y == n with
      | true => exact ⟨v, rfl⟩
      | false => exact ⟨c, hc⟩
    rcases h with h | h
    · rcases List.mem_cons.mp h with e | h
      · have e1 : y = n := congrArg Prod.fst e
        have e2 : NameKind.free = k := congrArg Prod.snd e
        subst e1 e2
        refine clOf_has r _ (.inr ?_)
        rw [if_pos (by rfl)]
        refine ⟨(cells.lookup y).getD 0, ?_⟩
        rw [List.lookup_cons]; simp
      · exact clOf_has r _ (.inl h)
    · refine clOf_has r _ (.inr ?_)
      split
      · exact grow _ h
      · exact h
theorem relab_mem {scope : Scope} {env : Env} {y : Str} {k : NameKind} (hc : ∀ z ∈ scope.names, z.2 ≠ .cell) (h : (relabel scope env).names.lookup y = some k) (hk : k = .cell ∨ k = .free) : (y, NameKind.free) ∈ scope.names := by
  have m := PySem.mem_of_lookup h
  unfold relabel at m
  obtain ⟨⟨n, k'⟩, hm, e⟩ := List.mem_map.mp m
  dsimp only at e
  split at e
  · rename_i z
    have e1 : n = y := congrArg Prod.fst e
    have z1 : k' = NameKind.free := by
      simp only [Bool.and_eq_true] at z
      simpa using z.1.1
    subst e1 z1
    exact hm
  · have e1 : n = y := congrArg Prod.fst e
    have e2 : k' = k := congrArg Prod.snd e
    subst e1 e2
    rcases hk with z | z
    · exact absurd z (hc _ hm)
    · rw [z] at hm; exact hm
theorem relab_free {env : Env} (hf : env.scope.kind = .function) : ∀ {names : List (Str × NameKind)} {y : Str}, names.lookup y = some .free → env.kindOf y = some .cell →
    (names.map fun (n, k) => if (k == NameKind.free && env.scope.kind == .function && env.kindOf n == some .cell) then (n, NameKind.cell) else (n, k)).lookup y = some .cell
  | [], _, h, _ => by simp at h
  | (n, k) :: r, y, h, hk => by
    have ih := @relab_free env hf r y
    rw [List.map_cons]
    cases hy : y == n with
    | true =>
      have e : y = n := by simpa using hy
      subst e
      rw [List.lookup_cons, hy] at h
      have h' : k = NameKind.free := Option.some.inj h
      subst h'
      simp [hf, hk, List.lookup_cons]
    | false =>
      rw [List.lookup_cons, hy] at h
      show List.lookup y ((if (k == NameKind.free && env.scope.kind == .function && env.kindOf n == some .cell) = true then (n, NameKind.cell) else (n, k)) :: _) = _
      by_cases z : (k == NameKind.free && env.scope.kind == .function && env.kindOf n == some .cell) = true
      · rw [if_pos z, List.lookup_cons, hy]; exact ih h hk
      · rw [if_neg z, List.lookup_cons, hy]; exact ih h hk
structure ScB (N : List Str) (sc scope : Scope) (x : Str) (frees : List Str) (js : List Nat) : Prop where
  kind : scope.kind = .function
  fk : sc.kind = .function
  cells : ∀ y ∈ scope.names, y.2 ≠ .cell
  locs : ∀ y ∈ scope.names, y.2 = .local → scope.names.lookup y.1 = some .local
  own : scope.names.lookup x = some .local
  fr : ∀ y ∈ scope.names, y.2 = .free → sc.names.lookup y.1 = some .cell
  nd : (x :: frees).Nodup
  ln : frees.length = js.length
  zp : ∀ p ∈ frees.zip js, N[p.2]? = some p.1 ∧ sc.names.lookup p.1 = some .cell ∧ scope.names.lookup p.1 = some .free
noncomputable def cxB (X : Cx) (N : List Str) (scope : Scope) (s : Shared) (H : Hp) (C : Addr) (fp : List Addr) : Cx where
  prog := X.prog
  w := X.w
  K := X.K
  mg := X.mg
  base := X.base
  A := X.A
  N := N
  s₀ := s
  H₀ := H
  env := compEnvC scope (clOf X.env.cells scope.names []) C X.env
  outer := X.stack
  stack := X.stack
  ex := fp
  fn := fun _ => false
  calm := X.calm
  pn := []
  xe := fun _ _ => False
noncomputable def frv (σ : St) (js : List Nat) : St := js.map fun j => (σ[j]?).join
noncomputable def PTs (X : Cx) (ifs : List Expr) (t : TT) : Prop :=
  ∀ (pins : List (Addr × Obj)) (s : Shared) (σ : St) (H : Hp) (Q : Bool → Hp → Prop), Inv X pins σ H s → t σ H Q →
    wpAny (model X.prog X.w) X.A (forIn ifs true fun c r => if r = true then do let ok ← isTrue c X.env (eval c X.env); pure (ForInStep.yield ok) else pure (ForInStep.yield r)) (TP X pins σ Q) X.xe s
noncomputable def tYes : TT := fun _ H Q => Q true H
theorem pts_nil {X : Cx} : PTs X [] tYes := fun _ _ _ H _ I h => wpAny_tests_nil ⟨H, I, h⟩
noncomputable def LcW (js : List Nat) (tt : TT) (te : TE) (σ : St) (Q : List V → Hp → Prop) (J : It) (H1 : Hp) : Prop :=
  ∃ W : Nat → Nat → List V → Hp → Prop, (∃ m, W 0 m [] H1) ∧ ∀ i m ys H, W i m ys H →
    (J.stop i H ∧ ys.length ≤ sizeLine ∧ Q ys H) ∨
    (J.go i H ∧ ys.length < sizeLine ∧ ∀ x H', J.yld i H x H' → tt (some x :: frv σ js) H' fun b H2 =>
      if b = true then te (some x :: frv σ js) H2 fun v H3 => ∃ m', m' < m ∧ W (i + 1) m' (ys ++ [v]) H3 else ∃ m', m' < m ∧ W (i + 1) m' ys H2)
section
variable {X : Cx} {pins : List (Addr × Obj)} {σ : St} {H : Hp} {s : Shared} {x : Str} {scope sc : Scope} {frees : List Str} {js : List Nat}
theorem lcells (I : Inv X pins σ H s) (hsc : X.env.scope = sc) (B : ScB X.N sc scope x frees js) : ∀ y ∈ scope.names, y.2 = .free → ∃ c, X.env.cells.lookup y.1 = some c := fun y hy hf =>
  I.ok.has y.1 (.inl (show X.env.scope.names.lookup y.1 = some .cell by rw [hsc]; exact B.fr y hy hf))
theorem zip_get {α β : Type} : ∀ {l : List α} {r : List β} {k : Nat} {a : α}, l.length = r.length → l[k]? = some a → ∃ b, r[k]? = some b ∧ (a, b) ∈ l.zip r
  | [], _, _, _, _, h => by simp at h
  | _ :: _, [], _, _, hl, _ => by simp at hl
  | a' :: l, b' :: r, 0, a, _, h => by
    simp at h; subst h
    exact ⟨b', rfl, by simp⟩
  | a' :: l, b' :: r, k + 1, a, hl, h => by
    obtain ⟨b, h1, h2⟩ := zip_get (l := l) (r := r) (k := k) (a := a) (by simpa using hl) (by simpa using h)
    exact ⟨b, by simpa using h1, by rw [List.zip_cons_cons]; exact List.mem_cons_of_mem _ h2⟩
theorem blk_start {fp : List Addr} {h₁ : Heap} {C D : Addr} {tk : Nat} {mC : Str → Option Value} {oD : Obj} (I : Inv X pins σ H s) (hsc : X.env.scope = sc) (B : ScB X.N sc scope x frees js) (hf : ∀ b ∈ fp, FpOk X pins H b) (hfo : ∀ b ∈ fp, b < s.heap.objs.size)
    (hC : s.heap.objs.size ≤ C) (hD : s.heap.objs.size ≤ D) (hDC : D ≠ C) (old : ∀ b o, s.heap.get? b = some o → h₁.get? b = some o) (ns : h₁.Ns C mC) (gD : h₁.get? D = some oD) (nD : ∀ v, oD.data ≠ .cell v) :
    Inv (cxB X (x :: frees) scope s H C fp) (pins ++ [(D, oD)]) (none :: frv σ js) H { s with heap := h₁, toks := tk } := by
  have lc := lcells I hsc B
  have sub : ∀ y c, (clOf X.env.cells scope.names []).lookup y = some c → X.env.cells.lookup y = some c := fun y c e => by
    rcases clOf_sub scope.names [] lc e with q | q
    · exact q
    · cases q
  have cold : ∀ y c, X.env.cells.lookup y = some c → c < s.heap.objs.size := fun y c e => by
    obtain ⟨v, q⟩ := I.cell y c e
    exact q.lt
  have fpC : ∀ b ∈ fp, (b ∈ X.ex ∨ X.s₀.heap.objs.size ≤ b) := fun b hb => (hf b hb).2.2.2.1
  obtain ⟨m, hn, hl⟩ := I.loc
  refine ⟨⟨I.ok.mod, B.kind, I.ok.glob, I.ok.blt, hC, ?_, ?_, ?_, I.ok.hd, I.ok.frames, .inl rfl, ?_, ?_, Nat.le_trans I.ok.bsz I.sz, ?_, ?_, I.stack, I.stkFree⟩, rfl, I.bare, Un.kept old, ⟨mC, ns, ?_⟩, ?_, I.hok.fresh hC, ?_, ?_, I.hok.kept old, ?_⟩
  · exact fun y z c e1 e2 => I.ok.inj y z c (sub y c e1) (sub z c e2)
  · intro y hy
    have hm : (y, NameKind.free) ∈ scope.names := by
      rcases hy with q | q
      · exact relab_mem (env := X.env) B.cells q (.inl rfl)
      · exact relab_mem (env := X.env) B.cells q (.inr rfl)
    exact clOf_has scope.names [] (.inl hm)
  · exact fun y c z _ => absurd z Bool.false_ne_true
  · intro b hb
    refine ⟨fun z => ?_, fun y c e z => (hf b hb).2.2.2.2.1 y c (sub y c e) z⟩
    have z' : b = C := z
    exact absurd (Nat.lt_of_lt_of_le (hfo b hb) hC) (by rw [z']; exact Nat.lt_irrefl _)
  · exact fun b o e => I.bs b o e
  · intro b o e hb
    rcases fpC b hb with z | z
    · exact I.ok.noex b o e z
    · exact absurd (Nat.lt_of_lt_of_le (Heap.lt_size (I.ok.bs b o e).1) z) (Nat.lt_irrefl _)
  · intro b hb z
    rcases List.mem_cons.mp (I.stkSub b z) with e | e
    · exact (hf b hb).2.1 e
    · exact (hf b hb).2.2.1 e
  · intro i y v e1 e2 e3
    cases i with
    | zero => simp at e2
    | succ k =>
      have e1' : frees[k]? = some y := by
        have e0 : (x :: frees)[k + 1]? = some y := e1
        simpa using e0
      obtain ⟨j, hj, hz⟩ := zip_get B.ln e1'
      obtain ⟨z1, z2, z3⟩ := B.zp _ hz
      have e2' : (frv σ js)[k]? = some (some v) := by simpa using e2
      have e4 : σ[j]? = some (some v) := by
        unfold frv at e2'
        rw [List.getElem?_map, hj] at e2'
        have e5 : (σ[j]?).join = some v := Option.some.inj e2'
        cases q : σ[j]? with
        | none => rw [q] at e5; cases e5
        | some w' => rw [q] at e5; cases w' with
          | none => cases e5
          | some w2 => cases e5; rfl
      have kX : X.env.kindOf y = some .cell := by show X.env.scope.names.lookup y = _; rw [hsc]; exact z2
      obtain ⟨u, r, q⟩ := hl j y v z1 e4 (.inr (.inl kX))
      refine ⟨u, r, ?_⟩
      rcases q with ⟨q, _⟩ | ⟨_, c, ec, ic⟩
      · rw [kX] at q; cases q
      · have kY : (compEnvC scope (clOf X.env.cells scope.names []) C X.env).kindOf y = some .cell := relab_free (env := X.env) (by rw [hsc]; exact B.fk) z3 kX
        refine .inr ⟨.inl kY, c, ?_, ?_⟩
        · obtain ⟨c', ec'⟩ := clOf_has (cells := X.env.cells) scope.names [] (.inl (PySem.mem_of_lookup z3))
          have := sub y c' ec'
          rw [ec] at this
          cases this
          exact ec'
        · obtain ⟨o, ho, hd⟩ := ic
          exact ⟨o, old c o ho, hd⟩
  · intro y c e
    obtain ⟨v, o, ho, hd⟩ := I.cell y c (sub y c e)
    exact ⟨v, o, old c o ho, hd⟩
  · exact fun y c e => I.freeC y c (sub y c e)
  · intro p hp
    have hp' : p ∈ pins ++ [(D, oD)] := by simpa [cxB] using hp
    rcases List.mem_append.mp hp' with z | z
    · obtain ⟨a1, a2, a3, a4, a5⟩ := I.pin p (List.mem_append_right _ z)
      refine ⟨old _ _ a1, a2, fun e => ?_, fun e => ?_, a5⟩
      · exact absurd (Nat.lt_of_lt_of_le (Heap.lt_size a1) hC) (by rw [show p.1 = C from e]; exact Nat.lt_irrefl _)
      · rcases List.mem_cons.mp (I.stkSub p.1 e) with e | e
        · exact a3 e
        · exact a4 e
    · have z' : p = (D, oD) := by simpa using z
      subst z'
      refine ⟨gD, I.hok.fresh hD, hDC, fun e => ?_, nD⟩
      rcases List.mem_cons.mp (I.stkSub D e) with e | e
      · exact absurd (Nat.lt_of_lt_of_le I.lt hD) (by rw [show D = X.env.locals from e]; exact Nat.lt_irrefl _)
      · exact I.nofs hD e
  · show (none :: frv σ js).length = (x :: frees).length
    rw [List.length_cons, List.length_cons, B.ln, frv, List.length_map]
end
theorem comp_turns {prog : Program} {w : World} {A : Around} {R : Result → Shared → Prop} {s : Shared} {elt target iter : Expr} {ifs : List Expr} {scope : Scope} {pos : Pos} {it acc : Value} {env : Env} (I : Nat → Shared → Prop)
    (turn : ∀ n s, I n s → wpAny (model prog w) A (pyNext it) (fun r s1 => match r with
      | none => R (.ok .next) s1
      | some v => wpAny (model prog w) A (letOwnedTupleGo target it v) (fun _ s2 => wpAny (model prog w) A (assign target env v) (fun _ s3 =>
          wpAny (model prog w) A (forIn ifs true fun c r => if r = true then do let ok ← isTrue c env (eval c env); pure (ForInStep.yield ok) else pure (ForInStep.yield r)) (fun ok s4 =>
            if ok = true then wpAny (model prog w) A (eval elt env) (fun y s5 => wpAny (model prog w) A (call (.builtin "list.append") [acc, y]) (fun _ s6 => ∃ m, m < n ∧ I m s6) (fun _ _ => False) s5) (fun _ _ => False) s4
            else ∃ m, m < n ∧ I m s4) (fun _ _ => False) s3) (fun _ _ => False) s2) (fun _ _ => False) s1) (fun _ _ => False) s)
    (n : Nat) (h : I n s) : codeAny (model prog w) A (.compLoop (.ListComp elt [⟨target, iter, ifs, 0⟩] scope pos) 0 it acc env) R s := by
  refine codeAny_loop rfl I (fun n s hI => ?_) n h
  show wpAny _ A ((compTurn (.ListComp elt [⟨target, iter, ifs, 0⟩] scope pos) 0 it acc env).onRaise (fun x => do noteFrame x env; theTreesLotGoes x)) _ _ s
  refine wpAny_noted ?_
  rw [compTurn_list]
  refine wpAny_bind (wpAny_standAt (wpAny_bind (wpAny_mono (turn n s hI) (fun r s1 h1 => ?_) fun _ _ z => z.elim)))
  cases r with
  | none => exact wpAny_pure h1
  | some v =>
    refine wpAny_bind (wpAny_mono h1 (fun _ s2 h2 => ?_) fun _ _ z => z.elim)
    refine wpAny_bind (wpAny_mono h2 (fun _ s3 h3 => ?_) fun _ _ z => z.elim)
    refine wpAny_bind (wpAny_mono h3 (fun ok s4 h4 => ?_) fun _ _ z => z.elim)
    cases ok with
    | false => exact wpAny_pure ⟨rfl, h4⟩
    | true =>
      refine wpAny_bind (wpAny_bind (wpAny_mono h4 (fun y s5 h5 => ?_) fun _ _ z => z.elim))
      exact wpAny_bind (wpAny_mono h5 (fun _ s6 h6 => wpAny_pure (wpAny_pure ⟨rfl, h6⟩)) fun _ _ z => z.elim)
section
variable {X : Cx} {pins : List (Addr × Obj)} {σ : St} {H : Hp} {s : Shared} {x : Str} {scope sc : Scope} {frees : List Str} {js : List Nat} {elt iter : Expr} {ifs : List Expr} {px pos : Pos} {tt : TT} {te : TE} {E : Value → Shared → Prop}
noncomputable abbrev lobj (its : List Value) (n : Nat) : Obj := { cls := .type "list", data := .seq its.toArray n }
theorem lc_run {it : Addr} {fp : List Addr} {tn : Nat → Heap → Prop} {J : It} {Qe : List V → Hp → Prop} {RR : Value → Addr → Result → Shared → Prop} (I : Inv X pins σ H s) (hc : X.calm = true) (hsc : X.env.scope = sc) (B : ScB X.N sc scope x frees js)
    (T : Turn X.prog X.w X.K (.Name x px) J fp it tn) (st : tn 0 s.heap) (f : ∀ b ∈ fp, FpOk X pins H b) (hW : LcW js tt te σ Qe J H)
    (ht : ∀ s H C fp, PTs (cxB X (x :: frees) scope s H C fp) ifs tt) (he : ∀ s H C fp, PE (cxB X (x :: frees) scope s H C fp) elt te)
    (hR : ∀ (D C : Addr) (s' : Shared) (H' : Hp) (ys : List V) (its : List Value) (n : Nat), s.heap.objs.size ≤ D → s.heap.objs.size ≤ C → D ≠ C → Inv (cxB X (x :: frees) scope s H C fp) pins (none :: frv σ js) H' s' → H' D = none →
      Vals ys its → s'.heap.get? D = some (lobj its n) → ys.length ≤ sizeLine → Qe ys H' → RR (.ref D) C (.ok .next) s') :
    wpAny (model X.prog X.w) X.A (newList []) (fun acc s3 => wpAny (model X.prog X.w) X.A (newFunctionEnv scope X.env.globals (clOf X.env.cells scope.names []) [] X.env.qual none .none (some X.env)) (fun cenv s4 =>
      codeAny (model X.prog X.w) X.A (.compStart (.ListComp elt [⟨.Name x px, iter, ifs, 0⟩] scope pos) 0 (.ref it) acc { cenv with scope := relabel scope X.env }) (RR acc cenv.locals) s4) E s3) E s := by
  obtain ⟨W, ⟨m0, w0⟩, turn⟩ := hW
  refine wpAny_newObj_type (wpAny_newFunctionEnv B.cells (by intro y hy; simp at hy) (fun h₁ hns₁ hsb₁ => ?_) B.kind)
  dsimp only at hns₁ hsb₁ ⊢
  generalize hG : s.heap.push { cls := .type "list", dict := none, data := .seq ([] : List Value).toArray } = G at hns₁ hsb₁ ⊢
  have hC0 : G.objs.size = s.heap.objs.size + 1 := by rw [← hG, Heap.size_push]
  have hCs0 : s.heap.objs.size ≤ G.objs.size := by rw [hC0]; exact Nat.le_succ _
  have hDC0 : s.heap.objs.size ≠ G.objs.size := by rw [hC0]; exact Nat.ne_of_lt (Nat.lt_succ_self _)
  obtain ⟨C, hCe⟩ : ∃ C : Addr, C = G.objs.size := ⟨_, rfl⟩
  obtain ⟨D, hDe⟩ : ∃ D : Addr, D = s.heap.objs.size := ⟨_, rfl⟩
  rw [← hCe] at hns₁ hsb₁ hDC0 hCs0 ⊢
  have hDs : s.heap.objs.size ≤ D := by rw [hDe]; exact Nat.le_refl _
  have hCs : s.heap.objs.size ≤ C := hCs0
  have hDC : D ≠ C := by rw [hDe]; exact hDC0
  have old : ∀ b o, s.heap.get? b = some o → h₁.get? b = some o := fun b o e => by
    refine hsb₁.extBut b o (ne_lt (Heap.lt_size e) hCs) (Heap.get?_push_of_some _ ?_)
    rw [← hG]
    exact Heap.get?_push_of_some _ e
  have gD : h₁.get? D = some (lobj [] 0) := by
    refine hsb₁.extBut D _ hDC (Heap.get?_push_of_some _ ?_)
    rw [← hG, hDe]
    exact Heap.get?_push_size _ rfl
  have hfo : ∀ b ∈ fp, b < s.heap.objs.size := fun b hb => by
    obtain ⟨o, e, _⟩ := T.obj 0 _ st b hb
    exact Heap.lt_size e
  show codeAny (model X.prog X.w) X.A (.compStart (.ListComp elt [⟨.Name x px, iter, ifs, 0⟩] scope pos) 0 (.ref it) (.ref s.heap.objs.size) (compEnvC scope (clOf X.env.cells scope.names []) C X.env)) (RR (.ref s.heap.objs.size) C) _
  rw [← hDe]
  have nDf : D ∉ fp := fun z => ne_lt (hfo D z) hDs rfl
  have Y0 := blk_start (tk := s.toks + ([] : List (Str × Value)).length) (x := x) I hsc B f hfo hCs hDs hDC old hns₁ gD (fun v z => nomatch z)
  have tn0 : tn 0 h₁ := T.keep 0 _ _ st fun b _ o e => old b o e
  have sub : ∀ y c, (clOf X.env.cells scope.names []).lookup y = some c → X.env.cells.lookup y = some c := fun y c e => by
    rcases clOf_sub scope.names [] (lcells I hsc B) e with q | q
    · exact q
    · cases q
  have pOld : ∀ p ∈ pins, p.1 < s.heap.objs.size := fun p hp => Heap.lt_size (I.pin p (List.mem_append_right _ hp)).1
  have stat : ∀ {H' : Hp} {o : Obj}, (∀ b ∈ fp, H' b = none) → ∀ b ∈ fp, FpOk (cxB X (x :: frees) scope s H C fp) (pins ++ [(D, o)]) H' b := fun {H' o} hn b hb => by
    obtain ⟨_, a2, a3, a4, a5, a6⟩ := f b hb
    have lt := hfo b hb
    refine ⟨hn b hb, ?_, fun z => ?_, .inl hb, fun y c e => a5 y c (sub y c e), fun p hp => ?_⟩
    · exact ne_lt lt hCs
    · rcases List.mem_cons.mp (I.stkSub b z) with e | e
      · exact a2 e
      · exact a3 e
    · have hp' : p ∈ pins ++ [(D, o)] := by simpa [cxB] using hp
      rcases List.mem_append.mp hp' with z | z
      · exact a6 p (List.mem_append_right _ z)
      · have z' : p = (D, o) := by simpa using z
        subst z'
        exact ne_lt' lt hDs
  have loop : ∀ s3 : Shared, s3 = { s with heap := h₁, toks := s.toks + ([] : List (Str × Value)).length } →
      codeAny (model X.prog X.w) X.A (.compLoop (.ListComp elt [⟨.Name x px, iter, ifs, 0⟩] scope pos) 0 (.ref it) (.ref D) (compEnvC scope (clOf X.env.cells scope.names []) C X.env)) (RR (.ref D) C) s3 := by
    rintro s3 rfl
    refine comp_turns (fun n s' => ∃ i ys its k H', Inv (cxB X (x :: frees) scope s H C fp) (pins ++ [(D, lobj its k)]) (none :: frv σ js) H' s' ∧ tn i s'.heap ∧ (∀ b ∈ fp, H' b = none) ∧ Vals ys its ∧ W i n ys H') ?_ m0
      ⟨0, [], [], 0, H, Y0, tn0, fun b hb => (f b hb).1, .nil, w0⟩
    rintro n s4 ⟨i, ys, its, k, H4, I4, tn4, fr4, rv, w4⟩
    have pD : ∀ {pl : List (Addr × Obj)} {σ' : St} {H' : Hp} {s' : Shared}, Inv (cxB X (x :: frees) scope s H C fp) (pins ++ [(D, lobj its k)] ++ pl) σ' H' s' → s'.heap.get? D = some (lobj its k) ∧ H' D = none := fun I' => by
      have q := I'.pin (D, lobj its k) (List.mem_append_right _ (List.mem_append_left _ (List.mem_append_right _ List.mem_cons_self)))
      exact ⟨q.1, q.2.1⟩
    have pins_only : ∀ {pl : List (Addr × Obj)} {σ' : St} {H' : Hp} {s' : Shared}, Inv (cxB X (x :: frees) scope s H C fp) (pins ++ pl) σ' H' s' → Inv (cxB X (x :: frees) scope s H C fp) pins σ' H' s' := fun I' => I'.unpinned
    rcases turn i n ys H4 w4 with ⟨stop, lz, qe⟩ | ⟨go, lz, step⟩
    · refine thn (T.done (cxB X (x :: frees) scope s H C fp) rfl rfl rfl hc i _ s4 _ H4 (fun _ _ => False) I4 (stat fr4) tn4 stop) fun r s5 hh0_ => ?_
      obtain ⟨hr, I5⟩ := hh0_
      subst hr
      have I5' : Inv (cxB X (x :: frees) scope s H C fp) (pins ++ [(D, lobj its k)] ++ []) (none :: frv σ js) H4 s5 := by simpa using I5
      exact hR D C s5 H4 ys its k hDs hCs hDC (pins_only I5) (pD I5').2 rv (pD I5').1 lz qe
    · refine thn (T.item (cxB X (x :: frees) scope s H C fp) rfl rfl rfl hc i _ s4 _ H4 (fun _ _ => False) I4 (stat fr4) tn4 go) fun r s5 hh0_ => ?_
      obtain ⟨u, hr, h5⟩ := hh0_
      subst hr
      refine thn h5 fun _ s6 hh0_ => ?_
      obtain ⟨y, H6, I6, r6, y6, tn6, fr6⟩ := hh0_
      have I6' := I6.pinned (stat fr6) (T.obj _ _ tn6)
      have hx : Loc (cxB X (x :: frees) scope s H C fp).env.scope x := .inl (lookup_relabel_local B.own)
      have dfs : D ∉ (cxB X (x :: frees) scope s H C fp).fs := fun z => by
        rcases List.mem_cons.mp (I.stkSub D z) with e | e
        · exact ne_lt I.lt hDs e.symm
        · exact I.nofs hDs e
      refine thn (pg_name (X := cxB X (x :: frees) scope s H C fp) (i := 0) B.nd rfl hx (.inr (lookup_relabel_local B.own)) _ s6 _ H6 y u (fun σ' H' => σ' = some y :: frv σ js ∧ tt σ' H' fun b H2 =>
        if b = true then te (some y :: frv σ js) H2 fun v H3 => ∃ m', m' < n ∧ W (i + 1) m' (ys ++ [v]) H3 else ∃ m', m' < n ∧ W (i + 1) m' ys H2) I6' r6 ⟨rfl, step y H6 y6⟩) fun _ s7 ⟨σ7, H7, I7, e7, q7⟩ => ?_
      subst e7
      have back : ∀ {σ' : St} {H' : Hp} {s' : Shared}, Inv (cxB X (x :: frees) scope s H C fp) (pins ++ [(D, lobj its k)] ++ pinsAt fp s6.heap) σ' H' s' → (∀ b ∈ fp, ∀ o, s6.heap.get? b = some o → s'.heap.get? b = some o) ∧ ∀ b ∈ fp, H' b = none := fun {σ' H' s'} I' =>
        ⟨fun b hb o e => (I'.pin (b, o) (List.mem_append_right _ (List.mem_append_right _ (mem_pinsAt hb e)))).1, fun b hb => by
          obtain ⟨o, e, _⟩ := T.obj _ _ tn6 b hb
          exact (I'.pin (b, o) (List.mem_append_right _ (List.mem_append_right _ (mem_pinsAt hb e)))).2.1⟩
      have forget : ∀ {pl : List (Addr × Obj)} {H' : Hp} {s' : Shared}, Inv (cxB X (x :: frees) scope s H C fp) pl (some y :: frv σ js) H' s' → Inv (cxB X (x :: frees) scope s H C fp) pl (none :: frv σ js) H' s' := fun I' =>
        I'.weak rfl fun j v e => by
          cases j with
          | zero => simp at e
          | succ j => simpa using e
      refine thn (ht s H C fp _ s7 _ H7 _ I7 q7) fun ok s8 hh0_ => ?_
      obtain ⟨H8, I8, q8⟩ := hh0_
      cases ok with
      | false =>
        rw [if_neg Bool.false_ne_true] at q8 ⊢
        obtain ⟨m', hm, w8⟩ := q8
        obtain ⟨b1, b2⟩ := back I8
        exact ⟨m', hm, i + 1, ys, its, k, H8, forget I8.unpinned, T.keep _ _ _ tn6 b1, b2, rv, w8⟩
      | true =>
        rw [if_pos rfl] at q8 ⊢
        refine thn (he s H C fp _ s8 _ H8 _ I8 q8) fun v s9 hh0_ => ?_
        obtain ⟨vv, H9, I9, r9, m', hm, w9⟩ := hh0_
        obtain ⟨gD9, nD9⟩ := pD I9
        obtain ⟨b1, b2⟩ := back I9
        have hlen := rv.length
        refine call_meets F.slot_list_append ⟨_, gD9, rfl⟩ F.entry_list_append (F.args_list_append_2 _ _) (PySem.list_append D its.toArray k v (by rw [List.size_toArray]; omega)) ⟨gD9, ?_⟩
        have ea : its.toArray.push v = (its ++ [v]).toArray := by simp
        obtain ⟨k', q⟩ : ∃ k', (s9.heap.update D (Obj.mapSeq (·.push v))).get? D = some (lobj (its ++ [v]) k') := by
          have q0 := PySem.IsL.update gD9 (·.push v)
          rw [ea] at q0
          exact ⟨_, q0⟩
        have oth : ∀ b o, b ≠ D → s9.heap.get? b = some o → (s9.heap.update D (Obj.mapSeq (·.push v))).get? b = some o := fun b o hb e => (Heap.get?_update_other s9.heap (Obj.mapSeq (·.push v)) (Ne.symm hb)).trans e
        have I10 : Inv (cxB X (x :: frees) scope s H C fp) pins (some y :: frv σ js) H9 { s9 with heap := s9.heap.update D (Obj.mapSeq (·.push v)) } :=
          (pins_only I9.unpinned).turned (t' := s9.toks) (it := D) oth nD9 hDC (.inr hDs) (fun y' c e z => by
            obtain ⟨w', q'⟩ := I.cell y' c (sub y' c e)
            exact ne_lt q'.lt hDs z) (fun p hp z => by
            have hp' : p ∈ pins := by simpa [cxB] using hp
            exact ne_lt (pOld p hp') hDs z)
        refine ⟨m', hm, i + 1, ys ++ [vv], its ++ [v], k', H9, forget (I10.pins_of fun p hp => ?_), T.keep _ _ _ tn6 fun b hb o e => oth b o (fun z => nDf (z ▸ hb)) (b1 b hb o e), b2, rv.append (.cons r9 .nil), w9⟩
        rcases List.mem_append.mp hp with z | z
        · exact I10.pin p (List.mem_append_right _ z)
        · have z' : p = (D, lobj (its ++ [v]) k') := List.mem_singleton.mp z
          subst z'
          exact ⟨q, nD9, hDC, dfs, fun w' z2 => nomatch z2⟩
  exact codeAny_compStart_list (loop _ rfl) (T.self _ 0 _ _ _ tn0 (loop _ rfl))
theorem lc_after {fp : List Addr} {D C : Addr} {s' : Shared} {H' : Hp} {ys : List V} {its : List Value} {n : Nat} (I : Inv X pins σ H s) (f : ∀ b ∈ fp, FpOk X pins H b) (hD : s.heap.objs.size ≤ D) (J : Inv (cxB X (x :: frees) scope s H C fp) pins (none :: frv σ js) H' s') (nD : H' D = none) (rv : Vals ys its)
    (gD : s'.heap.get? D = some (lobj its n)) (hz : ys.length ≤ sizeLine) : Inv X pins σ (upd H' D (.lst ys)) s' := by
  have u : Un (frs X.stack) fp H H' s.heap s'.heap := J.base
  have hk : HOk X.prog X.w H' s'.heap := J.hok
  refine I.call' (ch := fp) J.os ⟨u.keep, u.slot, fun b o e n' hx => ?_, u.there, fun b xs e => ?_, fun b o v e => ?_, fun b ps e => ?_⟩ (fun b o e => ?_) J.bare fun b hb => ?_
  · rw [upd_ne (ne_lt (Heap.lt_size e) hD)]
    exact u.free b o e n' hx
  · have q := u.tups b xs e
    rw [upd_ne (ne_of_none q nD)]
    exact q
  · have q := u.frzs b o v e
    rw [upd_ne (ne_of_none q nD)]
    exact q
  · obtain ⟨more, q⟩ := u.tbls b ps e
    exact ⟨more, by rw [upd_ne (ne_of_none q nD)]; exact q⟩
  · by_cases hb : b = D
    · subst hb
      rw [upd_same] at e
      cases e
      exact ⟨hz, its, n, rv, gD⟩
    · rw [upd_ne hb] at e
      exact (hk b o e).stay (fun c v _ q => q) (fun c q => by rw [upd_ne (ne_of_none q nD)]; exact q) fun c xs q => by rw [upd_ne (ne_of_none q nD)]; exact q
  · obtain ⟨_, a2, a3, a4, a5, a6⟩ := f b hb
    exact ⟨a4, a2, a5, a6⟩
theorem lc_go {C : Addr} {s' : Shared} {H' : Hp} {σ' : St} {h' : Heap} (I : Inv X pins σ H s) (J : Inv X pins σ' H' s') (hC : s.heap.objs.size ≤ C) (nC : H' C = none) (hs : Heap.SameBut C s'.heap h') : Inv X pins σ' H' { s' with heap := h' } := by
  refine J.turned (t' := s'.toks) (it := C) (fun b o hb e => (hs.2 b hb).trans e) nC (fun z => ?_) (.inr (Nat.le_trans I.sz hC)) (fun y c e z => ?_) fun p hp z => ?_
  · exact ne_lt I.lt hC z.symm
  · obtain ⟨v, q⟩ := I.cell y c e
    exact ne_lt q.lt hC z
  · exact ne_lt (Heap.lt_size (I.pin p hp).1) hC z
noncomputable def tLC (wi : TI) (js : List Nat) (tt : TT) (te : TE) : TE := fun σ H Q => wi σ H (LcW js tt te σ fun ys H' => ∀ D, H' D = none → Q (.ref D) (upd H' D (.lst ys)))
theorem pe_lc {wi : TI} (hc : X.calm = true) (hsc : X.env.scope = sc) (B : ScB X.N sc scope x frees js) (hi : PI X (.Name x px) iter wi) (ht : ∀ s H C fp, PTs (cxB X (x :: frees) scope s H C fp) ifs tt) (he : ∀ s H C fp, PE (cxB X (x :: frees) scope s H C fp) elt te)
    (hs : ∀ v, foldedSetIterable iter X.env v = pure v := by intro _; rfl) : PE X (.ListComp elt [⟨.Name x px, iter, ifs, 0⟩] scope pos) (tLC wi js tt te) := by
  intro pins s σ H Q I h
  rw [eval_ListComp]
  refine wpAny_comprehension_free (use := none) rfl hs (closure_eq (lcells I hsc B)) B.kind B.locs (thn (hi pins s σ H _ I h) fun v s1 h1 => thn h1 fun itv s2 h2 => ?_)
  obtain ⟨it, fp, tn, J, H2, e, I2, T, st2, f2, hW⟩ := h2
  subst e
  refine lc_run (RR := fun acc C => compPost (model X.prog X.w) X.A X.xe none (EP X pins σ Q) acc C) I2 hc hsc B T st2 f2 hW ht he ?_
  intro D C s' H' ys its n hD hC hDC J' nD rv gD hz q
  obtain ⟨m, hn, _⟩ := J'.loc
  refine ⟨m, hn, fun h' hs' => ?_⟩
  have A1 := lc_after I2 f2 hD J' nD rv gD hz
  have nC : (upd H' D (.lst ys)) C = none := by rw [upd_ne (Ne.symm hDC)]; exact J'.free
  exact ⟨.ref D, _, lc_go I2 A1 hC nC hs', rfl, q D nD⟩
end
end L2
namespace Fx
open PySem
inductive D where
  | non | bl (b : Bool) | int (i : Int) | str (x : Str) | tup (xs : List D) | lst (xs : List D)
  | opq
  | dct (ks : List Str) (vs : List D)
inductive MO where
  | lst (xs : List D) | dic (kvs : List (Str × D))
inductive Sl where
  | no | im (d : D) | ow (b : Bool) (o : MO)
noncomputable abbrev En := List Sl
inductive Res where
  | nx (ρ : En) | rt (d : D) (ρ : En) | bk (ρ : En) | ct (ρ : En)
noncomputable abbrev FE := En → Option (D × En)
noncomputable abbrev FT := En → Option (Bool × En)
noncomputable abbrev FA := En → Option (List D × En)
noncomputable abbrev FS := En → Option Res
noncomputable def bnd {α β : Type} (x : Option α) (f : α → Option β) : Option β := x.bind f
mutual
noncomputable def eqD : D → D → Bool
  | .non, .non => true
  | .bl a, .bl b => a == b
  | .bl a, .int b => (if a then 1 else 0) == b
  | .int a, .bl b => a == (if b then 1 else 0)
  | .int a, .int b => a == b
  | .str a, .str b => a == b
  | .tup a, .tup b => eqDs a b
  | .lst a, .lst b => eqDs a b
  | _, _ => false
noncomputable def eqDs : List D → List D → Bool
  | [], [] => true
  | a :: r, b :: t => eqD a b && eqDs r t
  | _, _ => false
end
@[simp] theorem eqD_non_non  : eqD .non .non = true := by rw [eqD]
@[simp] theorem eqD_non_bl (y : Bool) : eqD .non (.bl y) = false := by simp [eqD]
@[simp] theorem eqD_non_int (y : Int) : eqD .non (.int y) = false := by simp [eqD]
@[simp] theorem eqD_non_str (y : Str) : eqD .non (.str y) = false := by simp [eqD]
@[simp] theorem eqD_non_tup (y : List D) : eqD .non (.tup y) = false := by simp [eqD]
@[simp] theorem eqD_non_lst (y : List D) : eqD .non (.lst y) = false := by simp [eqD]
@[simp] theorem eqD_bl_non (x : Bool) : eqD (.bl x) .non = false := by simp [eqD]
@[simp] theorem eqD_bl_bl (x : Bool) (y : Bool) : eqD (.bl x) (.bl y) = decide (x = y) := by rw [eqD]; exact Bool.beq_eq_decide_eq _ _
@[simp] theorem eqD_bl_int (x : Bool) (y : Int) : eqD (.bl x) (.int y) = ((if x then 1 else 0) == y) := by rw [eqD]
@[simp] theorem eqD_bl_str (x : Bool) (y : Str) : eqD (.bl x) (.str y) = false := by simp [eqD]
@[simp] theorem eqD_bl_tup (x : Bool) (y : List D) : eqD (.bl x) (.tup y) = false := by simp [eqD]
@[simp] theorem eqD_bl_lst (x : Bool) (y : List D) : eqD (.bl x) (.lst y) = false := by simp [eqD]
@[simp] theorem eqD_int_non (x : Int) : eqD (.int x) .non = false := by simp [eqD]
@[simp] theorem eqD_int_bl (x : Int) (y : Bool) : eqD (.int x) (.bl y) = (x == (if y then 1 else 0)) := by rw [eqD]
@[simp] theorem eqD_int_int (x : Int) (y : Int) : eqD (.int x) (.int y) = decide (x = y) := by rw [eqD]; exact Bool.beq_eq_decide_eq _ _
@[simp] theorem eqD_int_str (x : Int) (y : Str) : eqD (.int x) (.str y) = false := by simp [eqD]
@[simp] theorem eqD_int_tup (x : Int) (y : List D) : eqD (.int x) (.tup y) = false := by simp [eqD]
@[simp] theorem eqD_int_lst (x : Int) (y : List D) : eqD (.int x) (.lst y) = false := by simp [eqD]
@[simp] theorem eqD_str_non (x : Str) : eqD (.str x) .non = false := by simp [eqD]
@[simp] theorem eqD_str_bl (x : Str) (y : Bool) : eqD (.str x) (.bl y) = false := by simp [eqD]
@[simp] theorem eqD_str_int (x : Str) (y : Int) : eqD (.str x) (.int y) = false := by simp [eqD]
@[simp] theorem eqD_str_str (x : Str) (y : Str) : eqD (.str x) (.str y) = decide (x = y) := by rw [eqD]; exact Bool.beq_eq_decide_eq _ _
@[simp] theorem eqD_str_tup (x : Str) (y : List D) : eqD (.str x) (.tup y) = false := by simp [eqD]
@[simp] theorem eqD_str_lst (x : Str) (y : List D) : eqD (.str x) (.lst y) = false := by simp [eqD]
@[simp] theorem eqD_tup_non (x : List D) : eqD (.tup x) .non = false := by simp [eqD]
@[simp] theorem eqD_tup_bl (x : List D) (y : Bool) : eqD (.tup x) (.bl y) = false := by simp [eqD]
@[simp] theorem eqD_tup_int (x : List D) (y : Int) : eqD (.tup x) (.int y) = false := by simp [eqD]
@[simp] theorem eqD_tup_str (x : List D) (y : Str) : eqD (.tup x) (.str y) = false := by simp [eqD]
@[simp] theorem eqD_tup_tup (x : List D) (y : List D) : eqD (.tup x) (.tup y) = eqDs x y := by rw [eqD]
@[simp] theorem eqD_tup_lst (x : List D) (y : List D) : eqD (.tup x) (.lst y) = false := by simp [eqD]
@[simp] theorem eqD_lst_non (x : List D) : eqD (.lst x) .non = false := by simp [eqD]
@[simp] theorem eqD_lst_bl (x : List D) (y : Bool) : eqD (.lst x) (.bl y) = false := by simp [eqD]
@[simp] theorem eqD_lst_int (x : List D) (y : Int) : eqD (.lst x) (.int y) = false := by simp [eqD]
@[simp] theorem eqD_lst_str (x : List D) (y : Str) : eqD (.lst x) (.str y) = false := by simp [eqD]
@[simp] theorem eqD_lst_tup (x : List D) (y : List D) : eqD (.lst x) (.tup y) = false := by simp [eqD]
@[simp] theorem eqD_lst_lst (x : List D) (y : List D) : eqD (.lst x) (.lst y) = eqDs x y := by rw [eqD]
@[simp] theorem eqDs_nn : eqDs [] [] = true := by rw [eqDs]
@[simp] theorem eqDs_cc (a b : D) (r t : List D) : eqDs (a :: r) (b :: t) = (eqD a b && eqDs r t) := by rw [eqDs]
@[simp] theorem eqDs_nc (b : D) (t : List D) : eqDs [] (b :: t) = false := by simp [eqDs]
@[simp] theorem eqDs_cn (b : D) (t : List D) : eqDs (b :: t) [] = false := by simp [eqDs]
mutual
noncomputable def dpD : D → Nat
  | .tup xs => dpDs xs + 1
  | .lst xs => dpDs xs + 1
  | .opq => 1000
  | .dct _ _ => 1000
  | _ => 0
noncomputable def dpDs : List D → Nat
  | [] => 0
  | d :: r => max (dpD d) (dpDs r)
end
@[simp] theorem dpD_opq : dpD .opq = 1000 := rfl
@[simp] theorem dpD_dct (ks : List Str) (vs : List D) : dpD (.dct ks vs) = 1000 := rfl
@[simp] theorem dpD_non : dpD .non = 0 := rfl
@[simp] theorem dpD_bl (b : Bool) : dpD (.bl b) = 0 := rfl
@[simp] theorem dpD_int (i : Int) : dpD (.int i) = 0 := rfl
@[simp] theorem dpD_str (x : Str) : dpD (.str x) = 0 := rfl
@[simp] theorem dpD_tup (xs : List D) : dpD (.tup xs) = dpDs xs + 1 := rfl
@[simp] theorem dpD_lst (xs : List D) : dpD (.lst xs) = dpDs xs + 1 := rfl
@[simp] theorem dpDs_nil : dpDs [] = 0 := rfl
@[simp] theorem dpDs_cons (d : D) (r : List D) : dpDs (d :: r) = max (dpD d) (dpDs r) := rfl
noncomputable def bigM (i : Int) : Bool := decide (i.natAbs < 2 ^ 1000)
noncomputable def okMul (i j : Int) : Bool := decide (i.natAbs < 2 ^ 64) || decide (j.natAbs < 2 ^ 64) || (bigM i && bigM j)
noncomputable def okDiv (j : Int) : Bool := decide (j ≠ 0) && decide (j.natAbs < 2 ^ 1000)
noncomputable def dAdd : D → D → Option D
  | .int i, .int j => some (.int (i + j))
  | .str a, .str b => if a.length + b.length ≤ sizeLine then some (.str (a ++ b)) else none
  | .lst a, .lst b => if a.length + b.length ≤ sizeLine then some (.lst (a ++ b)) else none
  | _, _ => none
noncomputable def dSub : D → D → Option D
  | .int i, .int j => some (.int (i - j))
  | _, _ => none
noncomputable def dMul : D → D → Option D
  | .int i, .int j => if okMul i j = true then some (.int (i * j)) else none
  | _, _ => none
noncomputable def dDiv : D → D → Option D
  | .int i, .int j => if okDiv j = true then some (.int (i.fdiv j)) else none
  | _, _ => none
noncomputable def dMod : D → D → Option D
  | .int i, .int j => if j ≠ 0 then some (.int (i.fmod j)) else none
  | _, _ => none
noncomputable def dPow : D → D → Option D
  | .int i, .int j => if 0 ≤ j ∧ j ≤ 64 ∧ i.natAbs < 2 ^ 64 then some (.int (i ^ j.toNat)) else none
  | _, _ => none
noncomputable def dNeg : D → Option D
  | .int i => some (.int (-i))
  | _ => none
noncomputable def dCmp (p : Int → Int → Bool) : D → D → Option D
  | .int i, .int j => some (.bl (p i j))
  | _, _ => none
noncomputable def dLt : D → D → Option D := dCmp fun i j => decide (i < j)
noncomputable def dLe : D → D → Option D := dCmp fun i j => decide (i ≤ j)
noncomputable def dGt : D → D → Option D := dCmp fun i j => decide (j < i)
noncomputable def dGe : D → D → Option D := dCmp fun i j => decide (j ≤ i)
noncomputable def dEq (x y : D) : Option D := if dpD x ≤ 30 ∧ dpD y ≤ 30 then some (.bl (eqD x y)) else none
noncomputable def dNe (x y : D) : Option D := if dpD x ≤ 30 ∧ dpD y ≤ 30 then some (.bl (!eqD x y)) else none
noncomputable def isN : D → Bool
  | .non => true
  | _ => false
@[simp] theorem isN_opq : isN .opq = false := rfl
@[simp] theorem isN_dct (ks : List Str) (vs : List D) : isN (.dct ks vs) = false := rfl
@[simp] theorem isN_non : isN .non = true := rfl
@[simp] theorem isN_bl (b : Bool) : isN (.bl b) = false := rfl
@[simp] theorem isN_int (b : Int) : isN (.int b) = false := rfl
@[simp] theorem isN_str (b : Str) : isN (.str b) = false := rfl
@[simp] theorem isN_tup (b : List D) : isN (.tup b) = false := rfl
@[simp] theorem isN_lst (b : List D) : isN (.lst b) = false := rfl
noncomputable def dIs (x y : D) : Option D := match y with
  | .non => some (.bl (isN x))
  | _ => none
noncomputable def dIsNot (x y : D) : Option D := match y with
  | .non => some (.bl (!isN x))
  | _ => none
noncomputable def dTru : D → Option Bool
  | .non => some false
  | .bl b => some b
  | .int i => some (i != 0)
  | .lst xs => some (!xs.isEmpty)
  | .tup xs => some (!xs.isEmpty)
  | _ => none
noncomputable def dPl (n : Nat) (i : Int) : Option Nat := if 0 ≤ i then (if i < n then some i.toNat else none) else if -(n : Int) ≤ i then some (i + n).toNat else none
noncomputable def atD (xs : List D) (i : Int) : Option D := (dPl xs.length i).bind fun j => xs[j]?
noncomputable def dIx : D → D → Option D
  | .tup xs, .int i => atD xs i
  | .lst xs, .int i => atD xs i
  | _, _ => none
noncomputable def dEnd (n d : Nat) : Option Int → Nat
  | none => d
  | some v => (if v < 0 then max (v + (n : Int)) 0 else min v (n : Int)).toNat
noncomputable def dCut (xs : List D) (lo hi : Option Int) : List D := (xs.drop (dEnd xs.length 0 lo)).take (dEnd xs.length xs.length hi - dEnd xs.length 0 lo)
noncomputable def dSl : D → Option Int → Option Int → Option D
  | .lst xs, lo, hi => some (.lst (dCut xs lo hi))
  | .tup xs, lo, hi => if dEnd xs.length 0 lo = 0 ∧ dEnd xs.length xs.length hi = xs.length then none else some (.tup (dCut xs lo hi))
  | _, _, _ => none
noncomputable def bAbs : List D → Option D
  | [.int i] => some (.int (if i < 0 then -i else i))
  | _ => none
noncomputable def bLen : List D → Option D
  | [.lst xs] => some (.int xs.length)
  | [.tup xs] => some (.int xs.length)
  | _ => none
noncomputable def intsOf : List D → Option (List Int)
  | [] => some []
  | .int i :: r => bnd (intsOf r) fun is => some (i :: is)
  | _ => none
theorem intsOf_cons (i : Int) (r : List D) : intsOf (.int i :: r) = bnd (intsOf r) fun is => some (i :: is) := rfl
noncomputable def minI : Int → List Int → Int
  | m, [] => m
  | m, x :: r => minI (if x < m then x else m) r
noncomputable def maxI : Int → List Int → Int
  | m, [] => m
  | m, x :: r => maxI (if m < x then x else m) r
noncomputable def bestI (f : Int → List Int → Int) : List Int → Option D
  | [] => none
  | i :: r => some (.int (f i r))
noncomputable def bMax : List D → Option D
  | [.int i, .int j] => some (.int (if j > i then j else i))
  | [.lst xs] => bnd (intsOf xs) fun is => bestI maxI is
  | _ => none
noncomputable def bMin : List D → Option D
  | [.int i, .int j] => some (.int (if j < i then j else i))
  | [.lst xs] => bnd (intsOf xs) fun is => bestI minI is
  | _ => none
noncomputable def bools : List D → Option (List Bool)
  | [] => some []
  | .bl b :: r => bnd (bools r) fun bs => some (b :: bs)
  | _ => none
theorem bools_cons (b : Bool) (r : List D) : bools (.bl b :: r) = bnd (bools r) fun bs => some (b :: bs) := rfl
noncomputable def bAny : List D → Option D
  | [.lst xs] => bnd (bools xs) fun bs => some (.bl (bs.any id))
  | _ => none
noncomputable def bAll : List D → Option D
  | [.lst xs] => bnd (bools xs) fun bs => some (.bl (bs.all id))
  | _ => none
inductive Ty where
  | int | bool | str | tuple | list
noncomputable def isTy : Ty → D → Bool
  | .int, .int _ => true
  | .int, .bl _ => true
  | .bool, .bl _ => true
  | .str, .str _ => true
  | .tuple, .tup _ => true
  | .list, .lst _ => true
  | _, _ => false
noncomputable def slV (ρ : En) : Option Sl → Option (D × En)
  | some (.im d) => some (d, ρ)
  | _ => none
noncomputable def eV (i : Nat) (ρ : En) : Option (D × En) := slV ρ ρ[i]?
noncomputable def eC (d : D) (ρ : En) : Option (D × En) := some (d, ρ)
noncomputable def e1 (op : D → Option D) (F : FE) (ρ : En) : Option (D × En) := bnd (F ρ) fun p => bnd (op p.1) fun d => some (d, p.2)
noncomputable def e2 (op : D → D → Option D) (F G : FE) (ρ : En) : Option (D × En) := bnd (F ρ) fun p => bnd (G p.2) fun q => bnd (op p.1 q.1) fun d => some (d, q.2)
noncomputable def blB : D → Option Bool
  | .bl b => some b
  | _ => none
noncomputable def e3 (op op' : D → D → Option D) (F G L : FE) (ρ : En) : Option (D × En) := bnd (F ρ) fun p => bnd (G p.2) fun q => bnd (op p.1 q.1) fun z => bnd (blB z) fun b =>
  if b = true then bnd (L q.2) fun r => bnd (op' q.1 r.1) fun d => some (d, r.2) else some (.bl false, q.2)
noncomputable def aN (ρ : En) : Option (List D × En) := some ([], ρ)
noncomputable def aC (F : FE) (A : FA) (ρ : En) : Option (List D × En) := bnd (F ρ) fun p => bnd (A p.2) fun q => some (p.1 :: q.1, q.2)
noncomputable def eTup (A : FA) (ρ : En) : Option (D × En) := bnd (A ρ) fun p => if p.1.length ≤ 1000 then some (.tup p.1, p.2) else none
noncomputable def eLst (A : FA) (ρ : En) : Option (D × En) := bnd (A ρ) fun p => if p.1.length ≤ 1000 then some (.lst p.1, p.2) else none
noncomputable def eF (g : List D → Option D) (A : FA) (ρ : En) : Option (D × En) := bnd (A ρ) fun p => bnd (g p.1) fun d => some (d, p.2)
noncomputable def eTy (t : Ty) (F : FE) (ρ : En) : Option (D × En) := bnd (F ρ) fun p => some (.bl (isTy t p.1), p.2)
noncomputable abbrev FO := En → Option (Option Int × En)
noncomputable def intI : D → Option Int
  | .int i => some i
  | _ => none
noncomputable def oN (ρ : En) : Option (Option Int × En) := some (none, ρ)
noncomputable def oS (F : FE) (ρ : En) : Option (Option Int × En) := bnd (F ρ) fun p => bnd (intI p.1) fun i => some (some i, p.2)
noncomputable def eSl (F : FE) (lo hi : FO) (ρ : En) : Option (D × En) := bnd (F ρ) fun p => bnd (lo p.2) fun l => bnd (hi l.2) fun h => bnd (dSl p.1 l.1 h.1) fun d => some (d, h.2)
noncomputable def tB (F : FE) (ρ : En) : Option (Bool × En) := bnd (F ρ) fun p => bnd (blB p.1) fun b => some (b, p.2)
noncomputable def tV (F : FE) (ρ : En) : Option (Bool × En) := bnd (F ρ) fun p => bnd (dTru p.1) fun b => some (b, p.2)
noncomputable def tAnd (T U : FT) (ρ : En) : Option (Bool × En) := bnd (T ρ) fun p => if p.1 = true then U p.2 else some (false, p.2)
noncomputable def tOr (T U : FT) (ρ : En) : Option (Bool × En) := bnd (T ρ) fun p => if p.1 = true then some (true, p.2) else U p.2
noncomputable def tNot (T : FT) (ρ : En) : Option (Bool × En) := bnd (T ρ) fun p => some (!p.1, p.2)
noncomputable def tYes (ρ : En) : Option (Bool × En) := some (true, ρ)
noncomputable def eIf (T : FT) (F G : FE) (ρ : En) : Option (D × En) := bnd (T ρ) fun p => if p.1 = true then F p.2 else G p.2
noncomputable def eAnd (F G : FE) (ρ : En) : Option (D × En) := bnd (F ρ) fun p => bnd (blB p.1) fun b => if b = true then G p.2 else some (.bl false, p.2)
noncomputable def eOr (F G : FE) (ρ : En) : Option (D × En) := bnd (F ρ) fun p => bnd (blB p.1) fun b => if b = true then some (.bl true, p.2) else G p.2
noncomputable def eNot (F : FE) (ρ : En) : Option (D × En) := bnd (F ρ) fun p => bnd (blB p.1) fun b => some (.bl (!b), p.2)
noncomputable def slI : Option Sl → Option Sl
  | some (.im d) => some (.im d)
  | _ => none
noncomputable def imAt (ρ : En) : List Nat → Option En
  | [] => some []
  | j :: js => bnd (slI ρ[j]?) fun s => bnd (imAt ρ js) fun r => some (s :: r)
theorem imAt_cons (ρ : En) (j : Nat) (js : List Nat) : imAt ρ (j :: js) = bnd (slI ρ[j]?) fun s => bnd (imAt ρ js) fun r => some (s :: r) := rfl
noncomputable def cGo (T : FT) (F : FE) (fr : En) : List D → Option (List D)
  | [] => some []
  | d :: r => bnd (T (.im d :: fr)) fun p => if p.1 = true then bnd (F p.2) fun q => bnd (cGo T F fr r) fun t => some (q.1 :: t) else cGo T F fr r
theorem cGo_nil (T : FT) (F : FE) (fr : En) : cGo T F fr [] = some [] := rfl
theorem cGo_cons (T : FT) (F : FE) (fr : En) (d : D) (r : List D) : cGo T F fr (d :: r) = bnd (T (.im d :: fr)) fun p => if p.1 = true then bnd (F p.2) fun q => bnd (cGo T F fr r) fun t => some (q.1 :: t) else cGo T F fr r := rfl
noncomputable def chS (c : Nat) : Str := ⟨#[c]⟩
noncomputable def chs (z : Str) : List D := z.cps.toList.map fun c => .str (chS c)
noncomputable def items : D → Option (List D)
  | .lst xs => some xs
  | .tup xs => some xs
  | .str z => some (chs z)
  | _ => none
noncomputable def eLC (js : List Nat) (I : FE) (T : FT) (F : FE) (ρ : En) : Option (D × En) := bnd (I ρ) fun p => bnd (items p.1) fun xs => bnd (imAt p.2 js) fun fr => bnd (cGo T F fr xs) fun ys => if xs.length ≤ sizeLine then some (.lst ys, p.2) else none
noncomputable def sN (ρ : En) : Option Res := some (.nx ρ)
noncomputable def nxR (G : FS) : Res → Option Res
  | .nx ρ' => G ρ'
  | .rt d ρ => some (.rt d ρ)
  | .bk ρ => some (.bk ρ)
  | .ct ρ => some (.ct ρ)
noncomputable def sSeq (F G : FS) (ρ : En) : Option Res := bnd (F ρ) fun r => nxR G r
noncomputable def sSet (i : Nat) (F : FE) (ρ : En) : Option Res := bnd (F ρ) fun p => some (.nx (p.2.set i (.im p.1)))
noncomputable def setAll : List Nat → List D → En → En
  | i :: is, d :: ds, ρ => setAll is ds (ρ.set i (.im d))
  | _, _, ρ => ρ
theorem setAll_cons (i : Nat) (is : List Nat) (d : D) (ds : List D) (ρ : En) : setAll (i :: is) (d :: ds) ρ = setAll is ds (ρ.set i (.im d)) := rfl
theorem setAll_nil (ds : List D) (ρ : En) : setAll [] ds ρ = ρ := by cases ds <;> rfl
noncomputable def tupX : D → Option (List D)
  | .tup xs => some xs
  | .lst xs => some xs
  | _ => none
noncomputable def gN (i : Nat) (d : D) (ρ : En) : Option En := some (ρ.set i (.im d))
noncomputable def gT (is : List Nat) (d : D) (ρ : En) : Option En := bnd (tupX d) fun xs => if xs.length = is.length then some (setAll is xs ρ) else none
noncomputable def sTup (is : List Nat) (F : FE) (ρ : En) : Option Res := bnd (F ρ) fun p => bnd (gT is p.1 p.2) fun ρ' => some (.nx ρ')
noncomputable def sIf (T : FT) (F G : FS) (ρ : En) : Option Res := bnd (T ρ) fun p => if p.1 = true then F p.2 else G p.2
noncomputable def sRet (F : FE) (ρ : En) : Option Res := bnd (F ρ) fun p => some (.rt p.1 p.2)
noncomputable def sRetN (ρ : En) : Option Res := some (.rt .non ρ)
noncomputable def sBk (ρ : En) : Option Res := some (.bk ρ)
noncomputable def sCt (ρ : En) : Option Res := some (.ct ρ)
noncomputable def goR (G : FS) : Res → Option Res
  | .nx ρ => G ρ
  | .ct ρ => G ρ
  | .bk ρ => some (.nx ρ)
  | .rt d ρ => some (.rt d ρ)
noncomputable def fGo (g : D → En → Option En) (B : FS) : List D → FS
  | [], ρ => some (.nx ρ)
  | d :: r, ρ => bnd (g d ρ) fun ρ1 => bnd (B ρ1) fun z => goR (fGo g B r) z
theorem fGo_nil (g : D → En → Option En) (B : FS) (ρ : En) : fGo g B [] ρ = some (.nx ρ) := rfl
theorem fGo_cons (g : D → En → Option En) (B : FS) (d : D) (r : List D) (ρ : En) : fGo g B (d :: r) ρ = bnd (g d ρ) fun ρ1 => bnd (B ρ1) fun z => goR (fGo g B r) z := rfl
noncomputable def sFor (g : D → En → Option En) (F : FE) (B : FS) (ρ : En) : Option Res := bnd (F ρ) fun p => bnd (items p.1) fun xs => fGo g B xs p.2
noncomputable def rngD (lo : Int) : Nat → List D
  | 0 => []
  | n + 1 => .int lo :: rngD (lo + 1) n
noncomputable def rng1 (F : FE) (ρ : En) : Option (List D × En) := bnd (F ρ) fun p => bnd (intI p.1) fun j => if -(2 ^ 62) ≤ j ∧ j < 2 ^ 62 then some (rngD 0 j.toNat, p.2) else none
noncomputable def rng2 (F G : FE) (ρ : En) : Option (List D × En) := bnd (F ρ) fun p => bnd (G p.2) fun q => bnd (intI p.1) fun i => bnd (intI q.1) fun j =>
  if -(2 ^ 62) ≤ i ∧ i < 2 ^ 62 ∧ -(2 ^ 62) ≤ j ∧ j < 2 ^ 62 then some (rngD i (j - i).toNat, q.2) else none
noncomputable def sForR (g : D → En → Option En) (R : FA) (B : FS) (ρ : En) : Option Res := bnd (R ρ) fun p => fGo g B p.1 p.2
noncomputable def wGo (T : FT) (B : FS) : Nat → FS
  | 0, _ => none
  | n + 1, ρ => bnd (T ρ) fun p => if p.1 = true then bnd (B p.2) fun z => goR (wGo T B n) z else some (.nx p.2)
noncomputable def sWhile (fuel : En → Nat) (T : FT) (B : FS) (ρ : En) : Option Res := wGo T B (fuel ρ) ρ
noncomputable def oLst (A : FA) (ρ : En) : Option (List D × En) := bnd (A ρ) fun p => if p.1.length ≤ 1000 then some p else none
noncomputable def oIf (T : FT) (A B : FA) (ρ : En) : Option (List D × En) := bnd (T ρ) fun p => if p.1 = true then A p.2 else B p.2
noncomputable def sOwn (i : Nat) (A : FA) (ρ : En) : Option Res := bnd (A ρ) fun p => some (.nx (p.2.set i (.ow false (.lst p.1))))
noncomputable def owL : Option Sl → Option (List D)
  | some (.ow false (.lst ds)) => some ds
  | _ => none
noncomputable def sApp (i : Nat) (F : FE) (ρ : En) : Option Res := bnd (owL ρ[i]?) fun _ => bnd (F ρ) fun p => bnd (owL p.2[i]?) fun ds => if ds.length < 1000000 then some (.nx (p.2.set i (.ow false (.lst (ds ++ [p.1]))))) else none
noncomputable def frz (i : Nat) (ρ : En) : En := match ρ[i]? with
  | some (.ow false (.lst ds)) => ρ.set i (.im (.lst ds))
  | _ => ρ
noncomputable def sFrz (i : Nat) (F : FS) (ρ : En) : Option Res := F (frz i ρ)
noncomputable def eLR (js : List Nat) (R : FA) (T : FT) (F : FE) (ρ : En) : Option (D × En) := bnd (R ρ) fun p => bnd (imAt p.2 js) fun fr => bnd (cGo T F fr p.1) fun ys => if p.1.length ≤ sizeLine then some (.lst ys, p.2) else none
noncomputable def isB (b : Bool) : D → Bool
  | .bl c => decide (c = b)
  | _ => false
noncomputable def e1B (b n : Bool) (F : FE) (ρ : En) : Option (D × En) := bnd (F ρ) fun p => some (.bl (if n then !isB b p.1 else isB b p.1), p.2)
noncomputable def retR : Res → Option D
  | .rt d _ => some d
  | .nx _ => some .non
  | _ => none
noncomputable def fnD (n k : Nat) (B : FS) (ds : List D) : Option D := if ds.length = n then bnd (B (ds.map .im ++ List.replicate k .no)) fun r => retR r else none
end Fx
set_option maxRecDepth 100000
namespace Fx
open PySem PySem.Spec PyProof.Rows L2
mutual
noncomputable def Rep (K : PySem.W.Frag) (H : Hp) : D → V → Prop
  | .non, v => v = .non
  | .bl b, v => v = .bl b
  | .int i, v => v = .int i
  | .str x, v => v = .str x
  | .tup ds, v => ∃ a vs, v = .ref a ∧ SqT K H a vs ∧ Reps K H ds vs
  | .lst ds, v => ∃ a vs, v = .ref a ∧ SqL K H a vs ∧ Reps K H ds vs
  | .opq, v => ∃ a kvs, v = .ref a ∧ H a = some (.dK kvs)
  | .dct ks ds, v => ∃ a vs, v = .ref a ∧ Rd H a (.dK ((ks.map Sum.inr).zip vs)) ∧ Reps K H ds vs ∧ ks.length = ds.length
noncomputable def Reps (K : PySem.W.Frag) (H : Hp) : List D → List V → Prop
  | [], vs => vs = []
  | d :: ds, vs => ∃ v r, vs = v :: r ∧ Rep K H d v ∧ Reps K H ds r
end
theorem Same.rd {H H' : Hp} {a : Addr} {u : HO} (e : Same H H') (h : Rd H a u) : Rd H' a u := by
  rcases h with h | ⟨o, h⟩
  · exact .inl (e _ _ h)
  · exact .inr ⟨o, e _ _ h⟩
theorem Same.seqT {K : PySem.W.Frag} {H H' : Hp} {a : Addr} {xs : List V} (e : Same H H') (h : SqT K H a xs) : SqT K H' a xs := by
  rcases h with h | h
  · exact .inl (Same.rd e h)
  · exact .inr h
section
variable {K : PySem.W.Frag} {H H' : Hp}
mutual
theorem Rep.mono (e : Same H H') : ∀ (d : D) {v : V}, Rep K H d v → Rep K H' d v
  | .non, _, h => h
  | .bl _, _, h => h
  | .int _, _, h => h
  | .str _, _, h => h
  | .tup ds, _, h => by
    unfold Rep at h ⊢
    obtain ⟨a, vs, q, s, r⟩ := h
    exact ⟨a, vs, q, Same.seqT e s, Reps.mono e ds r⟩
  | .lst ds, _, h => by
    unfold Rep at h ⊢
    obtain ⟨a, vs, q, s, r⟩ := h
    exact ⟨a, vs, q, Same.seq e s, Reps.mono e ds r⟩
  | .opq, _, h => by
    unfold Rep at h ⊢
    obtain ⟨a, kvs, q, s⟩ := h
    exact ⟨a, kvs, q, e _ _ s⟩
  | .dct ks ds, _, h => by
    unfold Rep at h ⊢
    obtain ⟨a, vs, q, s, r, l⟩ := h
    exact ⟨a, vs, q, Same.rd e s, Reps.mono e ds r, l⟩
theorem Reps.mono (e : Same H H') : ∀ (ds : List D) {vs : List V}, Reps K H ds vs → Reps K H' ds vs
  | [], _, h => h
  | d :: ds, _, h => by
    unfold Reps at h ⊢
    obtain ⟨v, r, q, s, t⟩ := h
    exact ⟨v, r, q, Rep.mono e d s, Reps.mono e ds t⟩
end
theorem Reps.length : ∀ {ds : List D} {vs : List V}, Reps K H ds vs → ds.length = vs.length
  | [], _, h => by unfold Reps at h; rw [h]; rfl
  | d :: ds, _, h => by
    unfold Reps at h
    obtain ⟨v, r, q, _, t⟩ := h
    rw [q, List.length_cons, List.length_cons, Reps.length t]
theorem Reps.get : ∀ {ds : List D} {vs : List V} {i : Nat} {d : D}, Reps K H ds vs → ds[i]? = some d → ∃ v, vs[i]? = some v ∧ Rep K H d v
  | [], _, _, _, _, e => by simp at e
  | d :: ds, _, 0, _, h, e => by
    unfold Reps at h
    obtain ⟨v, r, rfl, s, _⟩ := h
    simp at e; subst e
    exact ⟨v, rfl, s⟩
  | d :: ds, _, i + 1, d', h, e => by
    unfold Reps at h
    obtain ⟨v, r, rfl, _, t⟩ := h
    obtain ⟨w, a, b⟩ := Reps.get (i := i) (d := d') t (by simpa using e)
    exact ⟨w, by simpa using a, b⟩
theorem Reps.app : ∀ {ds es : List D} {vs ws : List V}, Reps K H ds vs → Reps K H es ws → Reps K H (ds ++ es) (vs ++ ws)
  | [], _, _, _, h, h' => by unfold Reps at h; rw [h]; exact h'
  | d :: ds, es, _, ws, h, h' => by
    unfold Reps at h
    obtain ⟨v, r, rfl, s, t⟩ := h
    show Reps K H (d :: (ds ++ es)) (v :: (r ++ ws))
    unfold Reps
    exact ⟨v, r ++ ws, rfl, s, Reps.app t h'⟩
theorem Reps.take : ∀ {ds : List D} {vs : List V} (n : Nat), Reps K H ds vs → Reps K H (ds.take n) (vs.take n)
  | [], _, n, h => by unfold Reps at h; rw [h]; simp [Reps]
  | d :: ds, vs, 0, h => by simp [Reps]
  | d :: ds, _, n + 1, h => by
    unfold Reps at h
    obtain ⟨v, r, rfl, s, t⟩ := h
    show Reps K H (d :: ds.take n) (v :: r.take n)
    unfold Reps
    exact ⟨v, r.take n, rfl, s, Reps.take n t⟩
theorem Reps.drop : ∀ {ds : List D} {vs : List V} (n : Nat), Reps K H ds vs → Reps K H (ds.drop n) (vs.drop n)
  | [], _, n, h => by unfold Reps at h; rw [h]; simp [Reps]
  | d :: ds, vs, 0, h => by simpa using h
  | d :: ds, _, n + 1, h => by
    unfold Reps at h
    obtain ⟨v, r, rfl, s, t⟩ := h
    simpa using Reps.drop n t
theorem Reps.one {d : D} {v : V} (h : Rep K H d v) : Reps K H [d] [v] := by
  unfold Reps Reps
  exact ⟨v, [], rfl, h, rfl⟩
theorem Reps.cons {d : D} {ds : List D} {v : V} {vs : List V} (h : Rep K H d v) (t : Reps K H ds vs) : Reps K H (d :: ds) (v :: vs) := by
  unfold Reps
  exact ⟨v, vs, rfl, h, t⟩
theorem Reps.nil_ : Reps K H [] [] := by unfold Reps; rfl
end
structure FC where
  Hi : Hp
  He : Hp
  Ap : List Addr
noncomputable def OwOk (K : PySem.W.Frag) (H0 H : Hp) (a : Addr) : MO → Prop
  | .lst ds => ∃ vs, H a = some (.lst vs) ∧ Reps K H0 ds vs
  | .dic kds => ∃ ks vs, H a = some (.dK ((ks.map Sum.inr).zip vs)) ∧ ks = kds.map (·.1) ∧ Reps K H0 (kds.map (·.2)) vs
structure RS (K : PySem.W.Frag) (c : FC) (H0 H : Hp) (ρ : En) (σ : L2.St) : Prop where
  same : Same H0 H
  init : Same c.Hi H0
  fresh : ∀ b o, H0 b = some o → c.Hi b = some o ∨ c.He b = none
  keep : ∀ b o, c.He b = some o → b ∉ c.Ap → H b = some o
  apt : ∀ a ∈ c.Ap, H a ≠ none
  len : ρ.length = σ.length
  im : ∀ (i : Nat) (d : D), ρ[i]? = some (.im d) → ∃ v, σ[i]? = some (some v) ∧ Rep K H0 d v
  ow : ∀ (i : Nat) (b : Bool) (o : MO), ρ[i]? = some (.ow b o) → ∃ a, σ[i]? = some (some (.ref a)) ∧ H0 a = none ∧ (if b = true then a ∈ c.Ap else c.He a = none) ∧ OwOk K H0 H a o
  ne : ∀ (i j : Nat) (b b' : Bool) (o o' : MO) (a : Addr), ρ[i]? = some (.ow b o) → ρ[j]? = some (.ow b' o') → σ[i]? = some (some (.ref a)) → σ[j]? = some (some (.ref a)) → i = j
section
variable {K : PySem.W.Frag} {c : FC} {H0 H H0' H' : Hp} {ρ : En} {σ : L2.St}
theorem OwOk.some {a : Addr} {o : MO} (h : OwOk K H0 H a o) : ∃ u, H a = Option.some u := by
  cases o with
  | lst ds => obtain ⟨vs, e, _⟩ := h; exact ⟨_, e⟩
  | dic ds => obtain ⟨ks, vs, e, _⟩ := h; exact ⟨_, e⟩
theorem OwOk.step {a : Addr} {o : MO} (h : OwOk K H0 H a o) (s0 : Same H0 H0') (s : ∀ u, H a = Option.some u → H' a = Option.some u) : OwOk K H0' H' a o := by
  cases o with
  | lst ds => obtain ⟨vs, e, r⟩ := h; exact ⟨vs, s _ e, Reps.mono s0 ds r⟩
  | dic ds => obtain ⟨ks, vs, e, q, r⟩ := h; exact ⟨ks, vs, s _ e, q, Reps.mono s0 _ r⟩
structure Step (H0 H H0' H' : Hp) : Prop where
  s0 : Same H0 H0'
  s : Same H H'
  s' : Same H0' H'
  fr : ∀ b o, H0' b = some o → H0 b = some o ∨ H b = none
theorem RS.after (R : RS K c H0 H ρ σ) (S : Step H0 H H0' H') : RS K c H0' H' ρ σ := by
  refine ⟨S.s', R.init.trans S.s0, fun b o e => ?_, fun b o e n => S.s _ _ (R.keep b o e n), fun a ha e => ?_, R.len, fun i d e => ?_, fun i b o e => ?_, R.ne⟩
  · rcases S.fr b o e with h | h
    · exact R.fresh b o h
    · refine .inr ?_
      cases q : c.He b with
      | none => rfl
      | some u =>
        by_cases hb : b ∈ c.Ap
        · exact absurd h (R.apt b hb)
        · rw [R.keep b u q hb] at h; cases h
  · cases q : H a with
    | none => exact R.apt a ha q
    | some u => rw [S.s _ _ q] at e; cases e
  · obtain ⟨v, a, b⟩ := R.im i d e
    exact ⟨v, a, Rep.mono S.s0 d b⟩
  · obtain ⟨a, x, y, z, w⟩ := R.ow i b o e
    refine ⟨a, x, ?_, z, w.step S.s0 fun u q => S.s _ _ q⟩
    obtain ⟨u, q⟩ := w.some
    cases t : H0' a with
    | none => rfl
    | some o' =>
      rcases S.fr a o' t with h | h
      · rw [y] at h; cases h
      · rw [q] at h; cases h
theorem Step.refl (s : Same H0 H) : Step H0 H H0 H := ⟨Same.refl _, Same.refl _, s, fun _ _ e => .inl e⟩
theorem Step.trans {A B : Hp} (x : Step H0 H H0' H') (y : Step H0' H' A B) : Step H0 H A B := by
  refine ⟨x.s0.trans y.s0, x.s.trans y.s, y.s', fun b o e => ?_⟩
  rcases y.fr b o e with h | h
  · exact x.fr b o h
  · exact .inr (x.s.free h)
theorem Step.alloc {p : Addr} {o : HO} (s : Same H0 H) (hp : H p = none) : Step H0 H (upd H0 p o) (upd H p o) := by
  have h0 : H0 p = none := s.free hp
  refine ⟨fun b u e => by rw [upd_ne (ne_of_none e h0)]; exact e, fun b u e => by rw [upd_ne (ne_of_none e hp)]; exact e, fun b u e => ?_, fun b u e => ?_⟩
  · by_cases hb : b = p
    · subst hb; rw [upd_same] at e ⊢; exact e
    · rw [upd_ne hb] at e ⊢; exact s _ _ e
  · by_cases hb : b = p
    · subst hb; exact .inr hp
    · rw [upd_ne hb] at e; exact .inl e
end
noncomputable def tE (K : PySem.W.Frag) (F : FE) : TE := fun σ H Q => ∃ c H0 ρ d ρ', RS K c H0 H ρ σ ∧ F ρ = some (d, ρ') ∧ ∀ v H0' H', Same H0 H0' → RS K c H0' H' ρ' σ → Rep K H0' d v → Q v H'
noncomputable def tTt (K : PySem.W.Frag) (F : FT) : TT := fun σ H Q => ∃ c H0 ρ b ρ', RS K c H0 H ρ σ ∧ F ρ = some (b, ρ') ∧ ∀ H0' H', Same H0 H0' → RS K c H0' H' ρ' σ → Q b H'
noncomputable def tAa (K : PySem.W.Frag) (F : FA) : TA := fun σ H Q => ∃ c H0 ρ ds ρ', RS K c H0 H ρ σ ∧ F ρ = some (ds, ρ') ∧ ∀ vs H0' H', Same H0 H0' → RS K c H0' H' ρ' σ → Reps K H0' ds vs → Q vs H'
noncomputable def tOo (K : PySem.W.Frag) (F : FO) : TO := fun σ H Q => ∃ c H0 ρ o ρ', RS K c H0 H ρ σ ∧ F ρ = some (o, ρ') ∧ ∀ H0' H', Same H0 H0' → RS K c H0' H' ρ' σ → Q o H'
noncomputable def XE (X : Cx) (e : Expr) (F : FE) : Prop := PE X e (tE X.K F)
noncomputable def XT (X : Cx) (e : Expr) (F : FT) : Prop := PT X e (tTt X.K F)
noncomputable def XW (X : Cx) (e : Expr) (F : FT) : Prop := PW X e (tTt X.K F)
noncomputable def XA (X : Cx) (es : List Expr) (F : FA) : Prop := PA X es (tAa X.K F)
noncomputable def XO (X : Cx) (e : Option Expr) (F : FO) : Prop := PO X e (tOo X.K F)
theorem bnd_eq {α β : Type} {x : Option α} {f : α → Option β} {b : β} (h : bnd x f = some b) : ∃ a, x = some a ∧ f a = some b := by
  cases x with
  | none => cases h
  | some a => exact ⟨a, rfl, h⟩
theorem PE.wk {X : Cx} {e : Expr} {t t' : TE} (h : PE X e t) (w : ∀ σ H Q, t' σ H Q → t σ H Q) : PE X e t' := fun pins s σ H Q I q => h pins s σ H Q I (w σ H Q q)
theorem PT.wk {X : Cx} {e : Expr} {t t' : TT} (h : PT X e t) (w : ∀ σ H Q, t' σ H Q → t σ H Q) : PT X e t' := fun pins s σ H Q I q => h pins s σ H Q I (w σ H Q q)
theorem PW.wk {X : Cx} {e : Expr} {t t' : TT} (h : PW X e t) (w : ∀ σ H Q, t' σ H Q → t σ H Q) : PW X e t' := fun wh pins s σ H Q I q => h wh pins s σ H Q I (w σ H Q q)
theorem PA.wk {X : Cx} {e : List Expr} {t t' : TA} (h : PA X e t) (w : ∀ σ H Q, t' σ H Q → t σ H Q) : PA X e t' := fun pos pins s σ H Q I q => h pos pins s σ H Q I (w σ H Q q)
theorem PS.wk {X : Cx} {e : Stmt} {t t' : TS} (h : PS X e t) (w : ∀ D σ H, t' D σ H → t D σ H) : PS X e t' := fun pins s σ H D I q => h pins s σ H D I (w D σ H q)
theorem PSs.wk {X : Cx} {e : List Stmt} {t t' : TS} (h : PSs X e t) (w : ∀ D σ H, t' D σ H → t D σ H) : PSs X e t' := fun pins s σ H D I q => h pins s σ H D I (w D σ H q)
section
variable {X : Cx} {pos : Pos} {a b e : Expr} {F G L : FE} {T U : FT}
theorem xv (i : Nat) {x : Str} (hN : X.N[i]? = some x := by rfl) (hv : Vis X.env.scope x := by first | exact Or.inl rfl | exact Or.inr (Or.inl rfl) | exact Or.inr (Or.inr rfl)) (hd : (x == ("__debug__" : Str)) = false := by decide)
    (hcd : (x == ("__classdict__" : Str)) = false := by decide) : XE X (.Name x pos) (eV i) :=
  PE.wk (pe_var hN hv hd hcd) fun σ H Q hh0_ => by
    obtain ⟨c, H0, ρ, d, ρ', R, f, q⟩ := hh0_
    unfold eV at f
    cases z : ρ[i]? with
    | none => rw [z] at f; cases f
    | some sl =>
      rw [z] at f
      cases sl with
      | no => cases f
      | ow b o => cases f
      | im d' =>
        have f' : some (d', ρ) = some (d, ρ') := f
        cases f'
        obtain ⟨v, e1, e2⟩ := R.im i _ z
        exact ⟨v, e1, q v H0 H (Same.refl _) R e2⟩
theorem eC_inv {d d' : D} {ρ ρ' : En} (h : eC d ρ = some (d', ρ')) : d' = d ∧ ρ' = ρ := by
  have h' : some (d, ρ) = some (d', ρ') := h
  cases h'; exact ⟨rfl, rfl⟩
theorem xint {i : Int} {j} : XE X (.Constant (.int i) j pos) (eC (.int i)) := PE.wk pe_int fun σ H Q hh0_ => by
  obtain ⟨c, H0, ρ, d, ρ', R, f, q⟩ := hh0_
  obtain ⟨rfl, rfl⟩ := eC_inv f
  exact q _ H0 H (Same.refl _) R (by unfold Rep; rfl)
theorem xbl {i : Bool} {j} : XE X (.Constant (.bool i) j pos) (eC (.bl i)) := PE.wk pe_bl fun σ H Q hh0_ => by
  obtain ⟨c, H0, ρ, d, ρ', R, f, q⟩ := hh0_
  obtain ⟨rfl, rfl⟩ := eC_inv f
  exact q _ H0 H (Same.refl _) R (by unfold Rep; rfl)
theorem xnon {j} : XE X (.Constant .none j pos) (eC .non) := PE.wk pe_non fun σ H Q hh0_ => by
  obtain ⟨c, H0, ρ, d, ρ', R, f, q⟩ := hh0_
  obtain ⟨rfl, rfl⟩ := eC_inv f
  exact q _ H0 H (Same.refl _) R (by unfold Rep; rfl)
theorem xstr {x : Str} {j} : XE X (.Constant (.str x) j pos) (eC (.str x)) := PE.wk pe_str fun σ H Q hh0_ => by
  obtain ⟨c, H0, ρ, d, ρ', R, f, q⟩ := hh0_
  obtain ⟨rfl, rfl⟩ := eC_inv f
  exact q _ H0 H (Same.refl _) R (by unfold Rep; rfl)
noncomputable abbrev Aft (K : PySem.W.Frag) (c : FC) (H0 : Hp) (ρ : En) (σ : L2.St) (d : D) (Q : VK) : Prop := ∀ v H0' H', Same H0 H0' → RS K c H0' H' ρ σ → Rep K H0' d v → Q v H'
noncomputable def OpD (K : PySem.W.Frag) (r : R2) (op : D → D → Option D) : Prop := ∀ (c : FC) (H0 H : Hp) (ρ : En) (σ : L2.St) (x y d : D) (vx vy : V) (Q : VK), RS K c H0 H ρ σ → Rep K H0 x vx → Rep K H0 y vy → op x y = some d → Aft K c H0 ρ σ d Q → r vx vy H Q
noncomputable def BinOk (X : Cx) (op : Operator) (f : D → D → Option D) : Prop := ∃ r, OpR X (binaryOp op) r ∧ OpD X.K r f
noncomputable def CmpOk (X : Cx) (op : CmpOp) (f : D → D → Option D) : Prop := ∃ r, OpR X (compareOp op) r ∧ OpD X.K r f
theorem e2_inv {op : D → D → Option D} {ρ ρ' : En} {d : D} (h : e2 op F G ρ = some (d, ρ')) : ∃ x ρ1 y, F ρ = some (x, ρ1) ∧ G ρ1 = some (y, ρ') ∧ op x y = some d := by
  unfold e2 at h
  obtain ⟨⟨x, ρ1⟩, h1, h⟩ := bnd_eq h
  obtain ⟨⟨y, ρ2⟩, h2, h⟩ := bnd_eq h
  obtain ⟨z, h3, h⟩ := bnd_eq h
  have h' : some (z, ρ2) = some (d, ρ') := h
  cases h'
  exact ⟨x, ρ1, y, h1, h2, h3⟩
theorem two_of {K : PySem.W.Frag} {op : D → D → Option D} {r : R2} (o : OpD K r op) {σ : L2.St} {H : Hp} {Q : VK} (h : tE K (e2 op F G) σ H Q) : tOp r (tE K F) (tE K G) σ H Q := by
  obtain ⟨c, H0, ρ, d, ρ', R, f, q⟩ := h
  obtain ⟨x, ρ1, y, h1, h2, h3⟩ := e2_inv f
  refine ⟨c, H0, ρ, x, ρ1, R, h1, fun vx H1 Hh s1 R1 r1 => ?_⟩
  refine ⟨c, H1, ρ1, y, ρ', R1, h2, fun vy H2 Hh2 s2 R2 r2 => ?_⟩
  exact o c H2 Hh2 ρ' σ x y d vx vy Q R2 (Rep.mono s2 x r1) r2 h3 fun v H3 Hh3 s3 R3 r3 => q v H3 Hh3 (s1.trans (s2.trans s3)) R3 r3
theorem xb {op : Operator} {f : D → D → Option D} (o : BinOk X op f) (ha : XE X a F) (hb : XE X b G) : XE X (.BinOp a op b pos) (e2 f F G) := by
  obtain ⟨r, h1, h2⟩ := o
  exact PE.wk (pe_op h1 ha hb) fun σ H Q h => two_of h2 h
theorem xcmp {op : CmpOp} {f : D → D → Option D} (o : CmpOk X op f) (ha : XE X a F) (hb : XE X b G) (hm : behindInMarks op b = false := by first | exact nomark _ | with_unfolding_all rfl) : XE X (.Compare a [op] [b] pos) (e2 f F G) := by
  obtain ⟨r, h1, h2⟩ := o
  exact PE.wk (pe_cmpR h1 ha hb hm) fun σ H Q h => two_of h2 h
theorem tB_of {K : PySem.W.Frag} {t : TE} {σ : L2.St} {H : Hp} {Q : Bool → Hp → Prop} (w : ∀ Q, tE K F σ H Q → t σ H Q) (h : tTt K (tB F) σ H Q) : tTest t σ H Q := by
  obtain ⟨c, H0, ρ, b, ρ', R, f, q⟩ := h
  unfold tB at f
  obtain ⟨⟨d, ρ1⟩, h1, f⟩ := bnd_eq f
  obtain ⟨b', h2, f⟩ := bnd_eq f
  have f' : some (b', ρ1) = some (b, ρ') := f
  cases f'
  refine w _ ⟨c, H0, ρ, d, _, R, h1, fun v H1 Hh s1 R1 r1 => ?_⟩
  cases d with
  | bl k =>
    have e : k = b := Option.some.inj h2
    unfold Rep at r1
    exact ⟨k, r1, by rw [e]; exact q H1 Hh s1 R1⟩
  | _ => cases h2
theorem xt {op : CmpOp} {f : D → D → Option D} (o : CmpOk X op f) (ha : XE X a F) (hb : XE X b G) (hm : behindInMarks op b = false := by first | exact nomark _ | with_unfolding_all rfl) : XT X (.Compare a [op] [b] pos) (tB (e2 f F G)) := by
  obtain ⟨r, h1, h2⟩ := o
  exact PT.wk (pt_cmpR h1 ha hb hm) fun σ H Q h => tB_of (fun Q h => two_of h2 h) h
theorem three_of {K : PySem.W.Frag} {op op' : D → D → Option D} {r r' : R2} (o : OpD K r op) (o' : OpD K r' op') {σ : L2.St} {H : Hp} {Q : VK} (h : tE K (e3 op op' F G L) σ H Q) : tChain r r' (tE K F) (tE K G) (tE K L) σ H Q := by
  obtain ⟨c, H0, ρ, d, ρ', R, f, q⟩ := h
  unfold e3 at f
  obtain ⟨⟨x, ρ1⟩, h1, f⟩ := bnd_eq f
  obtain ⟨⟨y, ρ2⟩, h2, f⟩ := bnd_eq f
  obtain ⟨z, h3, f⟩ := bnd_eq f
  obtain ⟨k, h4, f⟩ := bnd_eq f
  dsimp only at h2 h3 h4 f
  refine ⟨c, H0, ρ, x, ρ1, R, h1, fun vx H1 Hh s1 R1 r1 => ?_⟩
  refine ⟨c, H1, ρ1, y, ρ2, R1, h2, fun vy H2 Hh2 s2 R2 r2 => ?_⟩
  refine o c H2 Hh2 ρ2 σ x y z vx vy _ R2 (Rep.mono s2 x r1) r2 h3 fun v H3 Hh3 s3 R3 r3 => ?_
  cases z with
  | bl k' =>
    have e : k' = k := Option.some.inj h4
    subst e
    unfold Rep at r3
    refine ⟨k', r3, ?_⟩
    cases k' with
    | false =>
      rw [if_neg Bool.false_ne_true] at f ⊢
      have f' : some (D.bl false, ρ2) = some (d, ρ') := f
      cases f'
      exact q _ H3 Hh3 (s1.trans (s2.trans s3)) R3 (by unfold Rep; rfl)
    | true =>
      rw [if_pos rfl] at f ⊢
      obtain ⟨⟨w, ρ3⟩, h5, f⟩ := bnd_eq f
      obtain ⟨d', h6, f⟩ := bnd_eq f
      dsimp only at h6 f
      have f' : some (d', ρ3) = some (d, ρ') := f
      cases f'
      refine ⟨c, H3, ρ2, w, _, R3, h5, fun vw H4 Hh4 s4 R4 r4 => ?_⟩
      exact o' c H4 Hh4 _ σ y w d vy vw Q R4 (Rep.mono s4 y (Rep.mono s3 y r2)) r4 h6 fun v H5 Hh5 s5 R5 r5 => q v H5 Hh5 (s1.trans (s2.trans (s3.trans (s4.trans s5)))) R5 r5
  | _ => cases h4
theorem xt3 {op op' : CmpOp} {f f' : D → D → Option D} {m : Expr} (o : CmpOk X op f) (o' : CmpOk X op' f') (ha : XE X a F) (hb : XE X b G) (hc : XE X m L) (hm : lastMarks [op, op'] [b, m] = false := by with_unfolding_all rfl) : XT X (.Compare a [op, op'] [b, m] pos) (tB (e3 f f' F G L)) := by
  obtain ⟨r, h1, h2⟩ := o
  obtain ⟨r', h1', h2'⟩ := o'
  exact PT.wk (pt_chain h1 h1' ha hb hc hm) fun σ H Q h => tB_of (fun Q h => three_of h2 h2' h) h
theorem xone {op} (h : XE X a F) : XE X (.BoolOp op [a] pos) F := pe_one h
variable {rest : List Expr}
theorem xand (ha : XE X a F) (hb : XE X (.BoolOp .And (b :: rest) pos) G) : XE X (.BoolOp .And (a :: b :: rest) pos) (eAnd F G) := PE.wk (pe_and ha hb) fun σ H Q hh0_ => by
  obtain ⟨c, H0, ρ, d, ρ', R, f, q⟩ := hh0_
  unfold eAnd at f
  obtain ⟨⟨z, ρ1⟩, h1, f⟩ := bnd_eq f
  obtain ⟨k, h2, f⟩ := bnd_eq f
  dsimp only at h2 f
  refine ⟨c, H0, ρ, z, ρ1, R, h1, fun v H1 Hh s1 R1 r1 => ?_⟩
  cases z with
  | bl k' =>
    have e : k' = k := Option.some.inj h2
    subst e
    unfold Rep at r1
    refine ⟨k', r1, ?_⟩
    cases k' with
    | true =>
      rw [if_pos rfl] at f ⊢
      exact ⟨c, H1, ρ1, d, ρ', R1, f, fun v H2 Hh2 s2 R2 r2 => q v H2 Hh2 (s1.trans s2) R2 r2⟩
    | false =>
      rw [if_neg Bool.false_ne_true] at f ⊢
      have f' : some (D.bl false, ρ1) = some (d, ρ') := f
      cases f'
      exact q _ H1 Hh s1 R1 (by unfold Rep; rfl)
  | _ => cases h2
theorem xor (ha : XE X a F) (hb : XE X (.BoolOp .Or (b :: rest) pos) G) : XE X (.BoolOp .Or (a :: b :: rest) pos) (eOr F G) := PE.wk (pe_or ha hb) fun σ H Q hh0_ => by
  obtain ⟨c, H0, ρ, d, ρ', R, f, q⟩ := hh0_
  unfold eOr at f
  obtain ⟨⟨z, ρ1⟩, h1, f⟩ := bnd_eq f
  obtain ⟨k, h2, f⟩ := bnd_eq f
  dsimp only at h2 f
  refine ⟨c, H0, ρ, z, ρ1, R, h1, fun v H1 Hh s1 R1 r1 => ?_⟩
  cases z with
  | bl k' =>
    have e : k' = k := Option.some.inj h2
    subst e
    unfold Rep at r1
    refine ⟨k', r1, ?_⟩
    cases k' with
    | true =>
      rw [if_pos rfl] at f ⊢
      have f' : some (D.bl true, ρ1) = some (d, ρ') := f
      cases f'
      exact q _ H1 Hh s1 R1 (by unfold Rep; rfl)
    | false =>
      rw [if_neg Bool.false_ne_true] at f ⊢
      exact ⟨c, H1, ρ1, d, ρ', R1, f, fun v H2 Hh2 s2 R2 r2 => q v H2 Hh2 (s1.trans s2) R2 r2⟩
  | _ => cases h2
theorem xnot (ha : XE X a F) : XE X (.UnaryOp .Not a pos) (eNot F) := PE.wk (pe_not ha) fun σ H Q hh0_ => by
  obtain ⟨c, H0, ρ, d, ρ', R, f, q⟩ := hh0_
  unfold eNot at f
  obtain ⟨⟨z, ρ1⟩, h1, f⟩ := bnd_eq f
  obtain ⟨k, h2, f⟩ := bnd_eq f
  dsimp only at h2 f
  have f' : some (D.bl (!k), ρ1) = some (d, ρ') := f
  cases f'
  refine ⟨c, H0, ρ, z, _, R, h1, fun v H1 Hh s1 R1 r1 => ?_⟩
  cases z with
  | bl k' =>
    have e : k' = k := Option.some.inj h2
    subst e
    unfold Rep at r1
    exact ⟨k', r1, q _ H1 Hh s1 R1 (by unfold Rep; rfl)⟩
  | _ => cases h2
theorem xw (h : XW X a T) : XT X a T := PW.pt h
theorem xwand1 (ha : XT X a T) : XW X (.BoolOp .And [a] pos) T := pw_and1 ha
theorem xwor1 (ha : XT X a T) : XW X (.BoolOp .Or [a] pos) T := pw_or1 ha
theorem xwand (ha : XT X a T) (hb : XW X (.BoolOp .And (b :: rest) pos) U) : XW X (.BoolOp .And (a :: b :: rest) pos) (tAnd T U) := PW.wk (pw_and ha hb) fun σ H Q hh0_ => by
  obtain ⟨c, H0, ρ, k, ρ', R, f, q⟩ := hh0_
  unfold tAnd at f
  obtain ⟨⟨k', ρ1⟩, h1, f⟩ := bnd_eq f
  dsimp only at f
  refine ⟨c, H0, ρ, k', ρ1, R, h1, fun H1 Hh s1 R1 => ?_⟩
  cases k' with
  | true =>
    rw [if_pos rfl] at f ⊢
    exact ⟨c, H1, ρ1, k, ρ', R1, f, fun H2 Hh2 s2 R2 => q H2 Hh2 (s1.trans s2) R2⟩
  | false =>
    rw [if_neg Bool.false_ne_true] at f ⊢
    have f' : some (false, ρ1) = some (k, ρ') := f
    cases f'
    exact q H1 Hh s1 R1
theorem xwor (ha : XT X a T) (hb : XW X (.BoolOp .Or (b :: rest) pos) U) : XW X (.BoolOp .Or (a :: b :: rest) pos) (tOr T U) := PW.wk (pw_or ha hb) fun σ H Q hh0_ => by
  obtain ⟨c, H0, ρ, k, ρ', R, f, q⟩ := hh0_
  unfold tOr at f
  obtain ⟨⟨k', ρ1⟩, h1, f⟩ := bnd_eq f
  dsimp only at f
  refine ⟨c, H0, ρ, k', ρ1, R, h1, fun H1 Hh s1 R1 => ?_⟩
  cases k' with
  | true =>
    rw [if_pos rfl] at f ⊢
    have f' : some (true, ρ1) = some (k, ρ') := f
    cases f'
    exact q H1 Hh s1 R1
  | false =>
    rw [if_neg Bool.false_ne_true] at f ⊢
    exact ⟨c, H1, ρ1, k, ρ', R1, f, fun H2 Hh2 s2 R2 => q H2 Hh2 (s1.trans s2) R2⟩
theorem xtnot (ha : XT X a T) : XT X (.UnaryOp .Not a pos) (tNot T) := PT.wk (pt_not ha) fun σ H Q hh0_ => by
  obtain ⟨c, H0, ρ, k, ρ', R, f, q⟩ := hh0_
  unfold tNot at f
  obtain ⟨⟨k', ρ1⟩, h1, f⟩ := bnd_eq f
  have f' : some (!k', ρ1) = some (k, ρ') := f
  cases f'
  exact ⟨c, H0, ρ, k', _, R, h1, fun H1 Hh s1 R1 => q H1 Hh s1 R1⟩
theorem tru_of {K : PySem.W.Frag} {H0 H : Hp} {d : D} {v : V} {k : Bool} (s : Same H0 H) (r : Rep K H0 d v) (h : dTru d = some k) : TruV K v H k := by
  cases d with
  | non => unfold Rep at r; subst r; cases h; rfl
  | bl b => unfold Rep at r; subst r; cases h; rfl
  | int i => unfold Rep at r; subst r; cases h; rfl
  | str x => cases h
  | opq => cases h
  | dct ks vs => cases h
  | tup ds =>
    unfold Rep at r
    obtain ⟨p, vs, rfl, q, t⟩ := r
    have e : (!ds.isEmpty) = k := Option.some.inj h
    have e2 : ds.isEmpty = vs.isEmpty := by rw [Bool.eq_iff_iff, List.isEmpty_iff_length_eq_zero, List.isEmpty_iff_length_eq_zero, t.length]
    exact .inr (.inl ⟨vs, Same.seqT s q, by rw [← e2]; exact e.symm⟩)
  | lst ds =>
    unfold Rep at r
    obtain ⟨p, vs, rfl, q, t⟩ := r
    have e : (!ds.isEmpty) = k := Option.some.inj h
    have e2 : ds.isEmpty = vs.isEmpty := by rw [Bool.eq_iff_iff, List.isEmpty_iff_length_eq_zero, List.isEmpty_iff_length_eq_zero, t.length]
    exact .inl ⟨vs, Same.seq s q, by rw [← e2]; exact e.symm⟩
theorem xtv (ha : XE X a F) (he : ∀ whole, isTrue a X.env whole = (do let v ← whole; standAt a.pos; holding [v] (truthy v))) : XT X a (tV F) := PT.wk (pt_truth ha he) fun σ H Q hh0_ => by
  obtain ⟨c, H0, ρ, k, ρ', R, f, q⟩ := hh0_
  unfold tV at f
  obtain ⟨⟨d, ρ1⟩, h1, f⟩ := bnd_eq f
  obtain ⟨k', h2, f⟩ := bnd_eq f
  have f' : some (k', ρ1) = some (k, ρ') := f
  cases f'
  exact ⟨c, H0, ρ, d, _, R, h1, fun v H1 Hh s1 R1 r1 => ⟨k, tru_of R1.same r1 h2, q H1 Hh s1 R1⟩⟩
theorem xaN : XA X [] aN := PA.wk pa_nil fun σ H Q hh0_ => by
  obtain ⟨c, H0, ρ, ds, ρ', R, f, q⟩ := hh0_
  have f' : some (([] : List D), ρ) = some (ds, ρ') := f
  cases f'
  exact q [] H0 H (Same.refl _) R Reps.nil_
theorem xaC {es : List Expr} {A : FA} (ha : XE X e F) (hr : XA X es A) (hs : starEach (e :: es) X.env = (false, eval e X.env) :: starEach es X.env := by rfl) : XA X (e :: es) (aC F A) := PA.wk (pa_cons ha hr hs) fun σ H Q hh0_ => by
  obtain ⟨c, H0, ρ, ds, ρ', R, f, q⟩ := hh0_
  unfold aC at f
  obtain ⟨⟨d, ρ1⟩, h1, f⟩ := bnd_eq f
  obtain ⟨⟨r, ρ2⟩, h2, f⟩ := bnd_eq f
  have f' : some (d :: r, ρ2) = some (ds, ρ') := f
  cases f'
  refine ⟨c, H0, ρ, d, ρ1, R, h1, fun v H1 Hh s1 R1 r1 => ?_⟩
  refine ⟨c, H1, ρ1, r, _, R1, h2, fun vs H2 Hh2 s2 R2 r2 => ?_⟩
  exact q _ H2 Hh2 (s1.trans s2) R2 (Reps.cons (Rep.mono s2 d r1) r2)
theorem t1000 {n : Nat} (h : n ≤ 1000) : n ≤ sizeLine := Nat.le_of_lt (small1000 h)
theorem xtup {es : List Expr} {A : FA} {x1} (h : XA X es A) : XE X (.Tuple es x1 pos) (eTup A) := PE.wk (pe_tup h) fun σ H Q hh0_ => by
  obtain ⟨c, H0, ρ, d, ρ', R, f, q⟩ := hh0_
  unfold eTup at f
  obtain ⟨⟨ds, ρ1⟩, h1, f⟩ := bnd_eq f
  dsimp only at f
  split at f
  · rename_i hl
    cases f
    refine ⟨c, H0, ρ, ds, _, R, h1, fun vs H1 Hh s1 R1 r1 => ⟨by rw [← r1.length]; exact t1000 hl, fun p hp => ?_⟩⟩
    have S := Step.alloc (o := .tup vs) R1.same hp
    refine q _ _ _ (s1.trans S.s0) (R1.after S) ?_
    unfold Rep
    exact ⟨p, vs, rfl, .inl (.inl upd_same), Reps.mono S.s0 ds r1⟩
  · cases f
theorem xlst {es : List Expr} {A : FA} (h : XA X es A) : XE X (.List es pos) (eLst A) := PE.wk (pe_lst h) fun σ H Q hh0_ => by
  obtain ⟨c, H0, ρ, d, ρ', R, f, q⟩ := hh0_
  unfold eLst at f
  obtain ⟨⟨ds, ρ1⟩, h1, f⟩ := bnd_eq f
  dsimp only at f
  split at f
  · rename_i hl
    cases f
    refine ⟨c, H0, ρ, ds, _, R, h1, fun vs H1 Hh s1 R1 r1 => ⟨by rw [← r1.length]; exact t1000 hl, fun p hp => ?_⟩⟩
    have S := Step.alloc (o := .lst vs) R1.same hp
    refine q _ _ _ (s1.trans S.s0) (R1.after S) ?_
    unfold Rep
    exact ⟨p, vs, rfl, .inl (.inl upd_same), Reps.mono S.s0 ds r1⟩
  · cases f
theorem dPl_eq : @dPl = @ixN := rfl
theorem at_of {K : PySem.W.Frag} {H : Hp} {ds : List D} {vs : List V} {i : Int} {d : D} (r : Reps K H ds vs) (h : atD ds i = some d) : ∃ v, atI vs i = some v ∧ Rep K H d v := by
  unfold atD at h
  obtain ⟨j, h1, h2⟩ := bnd_eq (x := dPl ds.length i) (f := fun j => ds[j]?) h
  obtain ⟨v, e1, e2⟩ := r.get h2
  refine ⟨v, ?_, e2⟩
  unfold atI
  rw [← r.length, ← dPl_eq, h1]
  exact e1
theorem PO.wk {X : Cx} {e : Option Expr} {t t' : TO} (h : PO X e t) (w : ∀ σ H Q, t' σ H Q → t σ H Q) : PO X e t' := fun pins s σ H Q I q => h pins s σ H Q I (w σ H Q q)
theorem xoN : XO X none oN := PO.wk po_none fun σ H Q hh0_ => by
  obtain ⟨c, H0, ρ, o, ρ', R, f, q⟩ := hh0_
  have f' : some ((none : Option Int), ρ) = some (o, ρ') := f
  cases f'
  exact q H0 H (Same.refl _) R
theorem xoS (h : XE X e F) : XO X (some e) (oS F) := PO.wk (po_some h) fun σ H Q hh0_ => by
  obtain ⟨c, H0, ρ, o, ρ', R, f, q⟩ := hh0_
  unfold oS at f
  obtain ⟨⟨d, ρ1⟩, h1, f⟩ := bnd_eq f
  obtain ⟨i, h2, f⟩ := bnd_eq f
  dsimp only at h2 f
  have f' : some (some i, ρ1) = some (o, ρ') := f
  cases f'
  refine ⟨c, H0, ρ, d, _, R, h1, fun v H1 Hh s1 R1 r1 => ?_⟩
  cases d with
  | int j =>
    have e : j = i := Option.some.inj h2
    subst e
    unfold Rep at r1
    exact ⟨j, r1, q H1 Hh s1 R1⟩
  | _ => cases h2
theorem dEnd_eq (n d : Nat) (o : Option Int) : dEnd n d o = HT.sIx n d o := by
  cases o with
  | none => rfl
  | some v =>
    show (if v < 0 then max (v + (n : Int)) 0 else min v (n : Int)).toNat = if v < 0 then (v + (n : Int)).toNat else min v.toNat n
    split <;> omega
theorem cut_of {K : PySem.W.Frag} {H : Hp} {ds : List D} {vs : List V} (r : Reps K H ds vs) (lo hi : Option Int) : Reps K H (dCut ds lo hi) (cutV vs lo hi) := by
  unfold dCut cutV
  rw [dEnd_eq, dEnd_eq, r.length]
  exact (r.drop _).take _
end
end Fx
set_option maxRecDepth 100000
namespace Fx
open PySem PySem.Spec PyProof.Rows L2
section
variable {X : Cx} {K : PySem.W.Frag}
theorem opD_int {C : Int → Int → Prop} {g : Int → Int → V} {f : D → D → Option D} (h : ∀ x y d, f x y = some d → ∃ i j, x = .int i ∧ y = .int j ∧ C i j ∧ ∀ H, Rep K H d (g i j)) : OpD K (rI C g) f := fun c H0 H ρ σ x y d vx vy Q R r1 r2 e q => by
  obtain ⟨i, j, rfl, rfl, hc, hr⟩ := h x y d e
  unfold Rep at r1 r2
  exact ⟨i, j, r1, r2, hc, q _ H0 H (Same.refl _) R (hr H0)⟩
theorem opD_int0 {g : Int → Int → V} {f : D → D → Option D} (h : ∀ x y d, f x y = some d → ∃ i j, x = .int i ∧ y = .int j ∧ ∀ H, Rep K H d (g i j)) : OpD K (rI0 g) f := fun c H0 H ρ σ x y d vx vy Q R r1 r2 e q => by
  obtain ⟨i, j, rfl, rfl, hr⟩ := h x y d e
  unfold Rep at r1 r2
  exact ⟨i, j, r1, r2, q _ H0 H (Same.refl _) R (hr H0)⟩
theorem rep_int (H : Hp) (i : Int) : Rep K H (.int i) (.int i) := by unfold Rep; rfl
theorem rep_bl (H : Hp) (i : Bool) : Rep K H (.bl i) (.bl i) := by unfold Rep; rfl
theorem ifs {c : Prop} [Decidable c] {α : Type} {a d : α} (h : (if c then some a else none) = some d) : c ∧ a = d := by
  by_cases hc : c
  · rw [if_pos hc] at h; exact ⟨hc, Option.some.inj h⟩
  · rw [if_neg hc] at h; cases h
theorem oSub : BinOk X .Sub dSub := ⟨_, op_sub, opD_int0 fun x y d e => by
  cases x <;> cases y <;> cases e
  exact ⟨_, _, rfl, rfl, fun H => rep_int H _⟩⟩
noncomputable def CMulD (i j : Int) : Prop := okMul i j = true
theorem intBits_1000 {i : Int} (h : bigM i = true) : Builtin.Int.intBits i ≤ 1000 := by
  have h : i.natAbs < 2 ^ 1000 := of_decide_eq_true h
  unfold Builtin.Int.intBits
  split
  · exact Nat.zero_le _
  · rename_i hz
    have hz : i ≠ 0 := by simpa using hz
    have h0 : i.natAbs ≠ 0 := by omega
    have := (Nat.log2_lt h0).mpr h
    omega
theorem CMulD.ok {i j : Int} (h : CMulD i j) : IntMulOk i j := by
  unfold CMulD okMul at h
  simp only [Bool.or_eq_true, Bool.and_eq_true, decide_eq_true_eq] at h
  rcases h with (h | h) | ⟨h1, h2⟩
  · exact IntMulOk.of_left (intBits_le_64 (by omega) (by omega))
  · exact IntMulOk.of_right (intBits_le_64 (by omega) (by omega))
  · unfold IntMulOk
    have b1 := intBits_1000 h1
    have b2 := intBits_1000 h2
    have : Builtin.Int.intTooBig ((Builtin.Int.intBits i : Int) + (Builtin.Int.intBits j : Int)) = false := by
      unfold Builtin.Int.intTooBig
      refine decide_eq_false ?_
      have : (2000 : Int) ≤ bitsLine := by decide
      omega
    simp [this]
theorem oMul : BinOk X .Mult dMul := ⟨rI CMulD fun i j => .int (i * j), opI fun _ _ _ _ _ _ _ hc q => mul_int q hc.ok, opD_int fun x y d e => by
  cases x with
  | int i =>
    cases y with
    | int j =>
      obtain ⟨h, rfl⟩ := ifs (c := okMul i j = true) e
      exact ⟨_, _, rfl, rfl, h, fun H => rep_int H _⟩
    | _ => cases e
  | _ => cases y <;> cases e⟩
noncomputable def CDivD (i j : Int) : Prop := okDiv j = true
theorem oDiv : BinOk X .FloorDiv dDiv := ⟨rI CDivD fun i j => .int (i.fdiv j), opI fun i j _ _ _ _ _ hc q => by
    unfold CDivD okDiv at hc
    simp only [Bool.and_eq_true, decide_eq_true_eq] at hc
    refine floordiv_int hc.1 q (.inl (PyProof.noPylong_of_log2 ?_))
    have h0 : j.natAbs ≠ 0 := by have := hc.1; omega
    have := (Nat.log2_lt h0).mpr hc.2
    omega, opD_int fun x y d e => by
  cases x with
  | int i =>
    cases y with
    | int j =>
      obtain ⟨h, rfl⟩ := ifs (c := okDiv j = true) e
      exact ⟨_, _, rfl, rfl, h, fun H => rep_int H _⟩
    | _ => cases e
  | _ => cases y <;> cases e⟩
theorem oMod : BinOk X .Mod dMod := ⟨_, op_modN, opD_int fun x y d e => by
  cases x with
  | int i =>
    cases y with
    | int j =>
      obtain ⟨h, rfl⟩ := ifs (c := j ≠ 0) e
      exact ⟨_, _, rfl, rfl, h, fun H => rep_int H _⟩
    | _ => cases e
  | _ => cases y <;> cases e⟩
theorem oPow : BinOk X .Pow dPow := ⟨_, op_pow, opD_int fun x y d e => by
  cases x with
  | int i =>
    cases y with
    | int j =>
      obtain ⟨h, rfl⟩ := ifs (c := 0 ≤ j ∧ j ≤ 64 ∧ i.natAbs < 2 ^ 64) e
      exact ⟨_, _, rfl, rfl, ⟨h.1, by omega, h.2.2⟩, fun H => rep_int H _⟩
    | _ => cases e
  | _ => cases y <;> cases e⟩
noncomputable def rCatR (K : PySem.W.Frag) : R2 := fun x y H Q => ∃ l b xs zs, x = .ref l ∧ y = .ref b ∧ SqL K H l xs ∧ SqL K H b zs ∧ xs.length + zs.length ≤ sizeLine ∧ ∀ p, H p = none → Q (.ref p) (upd H p (.lst (xs ++ zs)))
theorem op_catR : OpR X (binaryOp .Add) (rCatR X.K) := by
  intro pins s σ H x y v u Q I rx ry h
  obtain ⟨l, b, xs, zs, rfl, rfl, hH, hB, hz, q⟩ := h
  cases rx
  cases ry
  obtain ⟨its, r, pl, _⟩ := I.list hH
  obtain ⟨its2, r2, pl2, _⟩ := I.list hB
  have hl := r.length
  have hl2 := r2.length
  obtain ⟨⟨cls, dd, data, sl⟩, ho, hc, n, hd⟩ := pl.isList
  obtain ⟨⟨cls2, dd2, data2, sl2⟩, ho2, hc2, n2, hd2⟩ := pl2.isList
  simp only at hc hd hc2 hd2
  subst hc hd hc2 hd2
  have e : its.toArray ++ its2.toArray = (its ++ its2).toArray := by simp
  refine concat_meets ⟨_, ho, rfl⟩ ⟨_, ho2, rfl⟩ noFill_list_add seq_list_add PySem.F.slot_list_add PySem.F.entry_list_add (PySem.F.args_list_add_2 _ _) (list_addW l b its.toArray its2.toArray n n2 dd dd2 sl sl2 (by rw [List.size_toArray, List.size_toArray]; omega)) ⟨ho, ho2, ?_⟩
  rw [e]
  exact ⟨.ref _, _, I.lnew (t' := s.toks) (r.append r2) (by rw [List.length_append]; omega), rfl, q _ I.fresh⟩
noncomputable def rAddD (K : PySem.W.Frag) : R2 := fun x y H Q => rI0 (fun i j => .int (i + j)) x y H Q ∨ ((∃ i j, x = .str i ∧ y = .str j ∧ i.length + j.length ≤ sizeLine ∧ Q (.str (i ++ j)) H) ∨ rCatR K x y H Q)
theorem oAdd : BinOk X .Add dAdd := ⟨rAddD X.K, op_add.or (op_add_str.or op_catR), fun c H0 H ρ σ x y d vx vy Q R r1 r2 e q => by
  cases x with
  | int i =>
    cases y with
    | int j =>
      cases e
      unfold Rep at r1 r2
      exact .inl ⟨_, _, r1, r2, q _ H0 H (Same.refl _) R (rep_int H0 _)⟩
    | _ => cases e
  | str i =>
    cases y with
    | str j =>
      obtain ⟨h, rfl⟩ := ifs (c := i.length + j.length ≤ sizeLine) e
      unfold Rep at r1 r2
      exact .inr (.inl ⟨_, _, r1, r2, h, q _ H0 H (Same.refl _) R (by unfold Rep; rfl)⟩)
    | _ => cases e
  | lst ds =>
    cases y with
    | lst es =>
      obtain ⟨h, rfl⟩ := ifs (c := ds.length + es.length ≤ sizeLine) e
      unfold Rep at r1 r2
      obtain ⟨p, vs, rfl, s, t⟩ := r1
      obtain ⟨p2, vs2, rfl, s2, t2⟩ := r2
      refine .inr (.inr ⟨p, p2, vs, vs2, rfl, rfl, Same.seq R.same s, Same.seq R.same s2, by rw [← t.length, ← t2.length]; exact h, fun p' hp => ?_⟩)
      have S := Step.alloc (o := .lst (vs ++ vs2)) R.same hp
      refine q _ _ _ S.s0 (R.after S) ?_
      unfold Rep
      exact ⟨p', _, rfl, .inl (.inl upd_same), Reps.mono S.s0 _ (t.app t2)⟩
    | _ => cases e
  | _ => cases y <;> cases e⟩
theorem xneg {a : Expr} {F : FE} {pos : Pos} (ha : XE X a F) : XE X (.UnaryOp .USub a pos) (e1 dNeg F) := PE.wk (pe_un un_neg ha) fun σ H Q hh0_ => by
  obtain ⟨c, H0, ρ, d, ρ', R, f, q⟩ := hh0_
  unfold e1 at f
  obtain ⟨⟨x, ρ1⟩, h1, f⟩ := bnd_eq f
  obtain ⟨d', h2, f⟩ := bnd_eq f
  dsimp only at h2 f
  have f' : some (d', ρ1) = some (d, ρ') := f
  cases f'
  refine ⟨c, H0, ρ, x, _, R, h1, fun v H1 Hh s1 R1 r1 => ?_⟩
  cases x with
  | int i =>
    have e : D.int (-i) = d := Option.some.inj h2
    subst e
    unfold Rep at r1
    exact ⟨i, r1, q _ H1 Hh s1 R1 (rep_int _ _)⟩
  | _ => cases h2
theorem cmpD {p : Int → Int → Bool} : OpD K (rI0 fun i j => .bl (p i j)) (dCmp p) := opD_int0 fun x y d e => by
  cases x <;> cases y <;> cases e
  exact ⟨_, _, rfl, rfl, fun H => rep_bl H _⟩
theorem cLt : CmpOk X .Lt dLt := ⟨_, op_lt, cmpD⟩
theorem cLe : CmpOk X .LtE dLe := ⟨_, op_le, cmpD⟩
theorem cGe : CmpOk X .GtE dGe := ⟨_, op_ge, cmpD⟩
theorem isN_of {H : Hp} {x : D} {v : V} (r : Rep K H x v) : isN x = decide (v = .non) := by
  cases x with
  | non => unfold Rep at r; subst r; rfl
  | bl b => unfold Rep at r; subst r; rfl
  | int b => unfold Rep at r; subst r; rfl
  | str b => unfold Rep at r; subst r; rfl
  | tup ds => unfold Rep at r; obtain ⟨p, vs, rfl, _⟩ := r; rfl
  | opq => unfold Rep at r; obtain ⟨p, kvs, rfl, _⟩ := r; rfl
  | dct ks vs => unfold Rep at r; obtain ⟨p, us, rfl, _⟩ := r; rfl
  | lst ds => unfold Rep at r; obtain ⟨p, vs, rfl, _⟩ := r; rfl
theorem cIs : CmpOk X .Is dIs := ⟨_, op_isN, fun c H0 H ρ σ x y d vx vy Q R r1 r2 e q => by
  cases y with
  | non =>
    have e' : D.bl (isN x) = d := by cases x <;> exact Option.some.inj e
    subst e'
    unfold Rep at r2
    exact ⟨r2, by rw [← isN_of r1]; exact q _ H0 H (Same.refl _) R (rep_bl _ _)⟩
  | _ => cases x <;> cases e⟩
theorem cIsNot : CmpOk X .IsNot dIsNot := ⟨_, op_notN, fun c H0 H ρ σ x y d vx vy Q R r1 r2 e q => by
  cases y with
  | non =>
    have e' : D.bl (!isN x) = d := by cases x <;> exact Option.some.inj e
    subst e'
    unfold Rep at r2
    exact ⟨r2, by rw [← isN_of r1]; exact q _ H0 H (Same.refl _) R (rep_bl _ _)⟩
  | _ => cases x <;> cases e⟩
end
end Fx
set_option maxRecDepth 100000
namespace Fx
open PySem PySem.Spec PyProof.Rows L2
theorem eqDs_all : ∀ (ds es : List D), eqDs ds es = ((List.range (min ds.length es.length)).all (fun j => eqD (ds.getD j .non) (es.getD j .non)) && ds.length == es.length)
  | [], [] => by simp [eqDs]
  | [], e :: es => by simp [eqDs]
  | d :: ds, [] => by simp [eqDs]
  | d :: ds, e :: es => by
    rw [eqDs, eqDs_all ds es]
    have h : min (d :: ds).length (e :: es).length = min ds.length es.length + 1 := by simp only [List.length_cons]; omega
    rw [h, List.range_succ_eq_map, List.all_cons, List.all_map]
    have h2 : ((d :: ds).length == (e :: es).length) = (ds.length == es.length) := by simp
    rw [h2, Bool.and_assoc]
    rfl
theorem dpDs_le : ∀ {ds : List D} {n : Nat} {j : Nat} {d : D}, dpDs ds ≤ n → ds[j]? = some d → dpD d ≤ n
  | [], _, _, _, _, e => by simp at e
  | d :: ds, n, 0, _, h, e => by
    rw [dpDs_cons] at h
    simp at e; subst e; omega
  | d :: ds, n, j + 1, d', h, e => by
    rw [dpDs_cons] at h
    exact dpDs_le (ds := ds) (n := n) (j := j) (by omega) (by simpa using e)
section
variable {X : Cx} {pins : List (Addr × Obj)} {σ : L2.St} {H : Hp} {s : Shared}
theorem eqDs_of {ds es : List D} {vs : List V} (hd : Reps X.K H ds vs) (he : Reps X.K H es vs) (h : ∀ (j : Nat) (d e : D) (v : V), ds[j]? = some d → es[j]? = some e → Rep X.K H d v → Rep X.K H e v → eqD d e = true) : eqDs ds es = true := by
  rw [eqDs_all]
  have l1 := hd.length
  have l2 := he.length
  rw [Bool.and_eq_true, List.all_eq_true]
  refine ⟨fun j hj => ?_, by simp; omega⟩
  have hj' : j < ds.length := by have := List.mem_range.mp hj; omega
  have hk' : j < es.length := by omega
  obtain ⟨v, a1, a2⟩ := hd.get (i := j) (d := ds[j]) (by simp [hj'])
  obtain ⟨v', b1, b2⟩ := he.get (i := j) (d := es[j]) (by simp [hk'])
  rw [a1] at b1; cases b1
  have := h j ds[j] es[j] v (by simp [hj']) (by simp [hk']) a2 b2
  simpa [List.getD, hj', hk'] using this
theorem no_tl (I : Inv X pins σ H s) {a : Addr} {xs ys : List V} (h : SqT X.K H a xs) (h' : SqL X.K H a ys) : False := by
  obtain ⟨_, _, ⟨o, e, c, _⟩, _⟩ := I.tuple h
  obtain ⟨_, _, ⟨o', n, e', c', _⟩, _⟩ := I.list h'
  rw [e] at e'; cases e'
  have z := c.symm.trans c'
  injection z with z
  exact absurd z (by decide)
theorem rep_one (I : Inv X pins σ H s) : ∀ (n : Nat) (d e : D) (v : V), dpD d ≤ n → dpD d < 1000 → dpD e < 1000 → Rep X.K H d v → Rep X.K H e v → eqD d e = true
  | n, d, e, v, hn, hz1, hz2, r1, r2 => by
    cases d with
    | opq => exact absurd hz1 (by rw [dpD_opq]; omega)
    | dct ks0 vs0 => exact absurd hz1 (by rw [dpD_dct]; omega)
    | non =>
      cases e with
      | opq => exact absurd hz2 (by rw [dpD_opq]; omega)
      | dct ks0 vs0 => exact absurd hz2 (by rw [dpD_dct]; omega)
      | non => unfold Rep at r1 r2; rw [r1] at r2; first | (cases r2; simp [eqD]) | cases r2
      | bl b2 => unfold Rep at r1 r2; rw [r1] at r2; first | (cases r2; simp [eqD]) | cases r2
      | int b2 => unfold Rep at r1 r2; rw [r1] at r2; first | (cases r2; simp [eqD]) | cases r2
      | str b2 => unfold Rep at r1 r2; rw [r1] at r2; first | (cases r2; simp [eqD]) | cases r2
      | tup es => unfold Rep at r1 r2; obtain ⟨p, vs, z, _⟩ := r2; rw [r1] at z; cases z
      | lst es => unfold Rep at r1 r2; obtain ⟨p, vs, z, _⟩ := r2; rw [r1] at z; cases z
    | bl b1 =>
      cases e with
      | opq => exact absurd hz2 (by rw [dpD_opq]; omega)
      | dct ks0 vs0 => exact absurd hz2 (by rw [dpD_dct]; omega)
      | non => unfold Rep at r1 r2; rw [r1] at r2; first | (cases r2; simp [eqD]) | cases r2
      | bl b2 => unfold Rep at r1 r2; rw [r1] at r2; first | (cases r2; simp [eqD]) | cases r2
      | int b2 => unfold Rep at r1 r2; rw [r1] at r2; first | (cases r2; simp [eqD]) | cases r2
      | str b2 => unfold Rep at r1 r2; rw [r1] at r2; first | (cases r2; simp [eqD]) | cases r2
      | tup es => unfold Rep at r1 r2; obtain ⟨p, vs, z, _⟩ := r2; rw [r1] at z; cases z
      | lst es => unfold Rep at r1 r2; obtain ⟨p, vs, z, _⟩ := r2; rw [r1] at z; cases z
    | int b1 =>
      cases e with
      | opq => exact absurd hz2 (by rw [dpD_opq]; omega)
      | dct ks0 vs0 => exact absurd hz2 (by rw [dpD_dct]; omega)
      | non => unfold Rep at r1 r2; rw [r1] at r2; first | (cases r2; simp [eqD]) | cases r2
      | bl b2 => unfold Rep at r1 r2; rw [r1] at r2; first | (cases r2; simp [eqD]) | cases r2
      | int b2 => unfold Rep at r1 r2; rw [r1] at r2; first | (cases r2; simp [eqD]) | cases r2
      | str b2 => unfold Rep at r1 r2; rw [r1] at r2; first | (cases r2; simp [eqD]) | cases r2
      | tup es => unfold Rep at r1 r2; obtain ⟨p, vs, z, _⟩ := r2; rw [r1] at z; cases z
      | lst es => unfold Rep at r1 r2; obtain ⟨p, vs, z, _⟩ := r2; rw [r1] at z; cases z
    | str b1 =>
      cases e with
      | opq => exact absurd hz2 (by rw [dpD_opq]; omega)
      | dct ks0 vs0 => exact absurd hz2 (by rw [dpD_dct]; omega)
      | non => unfold Rep at r1 r2; rw [r1] at r2; first | (cases r2; simp [eqD]) | cases r2
      | bl b2 => unfold Rep at r1 r2; rw [r1] at r2; first | (cases r2; simp [eqD]) | cases r2
      | int b2 => unfold Rep at r1 r2; rw [r1] at r2; first | (cases r2; simp [eqD]) | cases r2
      | str b2 => unfold Rep at r1 r2; rw [r1] at r2; first | (cases r2; simp [eqD]) | cases r2
      | tup es => unfold Rep at r1 r2; obtain ⟨p, vs, z, _⟩ := r2; rw [r1] at z; cases z
      | lst es => unfold Rep at r1 r2; obtain ⟨p, vs, z, _⟩ := r2; rw [r1] at z; cases z
    | tup ds =>
      cases e with
      | opq => exact absurd hz2 (by rw [dpD_opq]; omega)
      | dct ks0 vs0 => exact absurd hz2 (by rw [dpD_dct]; omega)
      | non => unfold Rep at r1 r2; obtain ⟨p, vs, z, _⟩ := r1; rw [r2] at z; cases z
      | bl b2 => unfold Rep at r1 r2; obtain ⟨p, vs, z, _⟩ := r1; rw [r2] at z; cases z
      | int b2 => unfold Rep at r1 r2; obtain ⟨p, vs, z, _⟩ := r1; rw [r2] at z; cases z
      | str b2 => unfold Rep at r1 r2; obtain ⟨p, vs, z, _⟩ := r1; rw [r2] at z; cases z
      | tup es =>
        unfold Rep at r1 r2
        obtain ⟨p, vs, z, s1, q1⟩ := r1
        obtain ⟨p', vs', z', s2, q2⟩ := r2
        rw [z] at z'; cases z'
        have e := I.tuple_inj s1 s2
        subst e
        cases n with
        | zero => rw [dpD_tup] at hn; omega
        | succ n =>
          rw [dpD_tup] at hn
          rw [eqD]
          exact eqDs_of q1 q2 fun j d e v h1 h2 => rep_one I n d e v (dpDs_le (by omega) h1) (by have z := dpDs_le (n := 998) (by first | (rw [dpD_tup] at hz1; omega) | (rw [dpD_lst] at hz1; omega)) h1; omega) (by have z := dpDs_le (n := 998) (by first | (rw [dpD_tup] at hz2; omega) | (rw [dpD_lst] at hz2; omega)) h2; omega)
      | lst es => unfold Rep at r1 r2; obtain ⟨p, vs, z, s1, _⟩ := r1; obtain ⟨p', vs', z', s2, _⟩ := r2; rw [z] at z'; cases z'; exact (no_tl I s1 s2).elim
    | lst ds =>
      cases e with
      | opq => exact absurd hz2 (by rw [dpD_opq]; omega)
      | dct ks0 vs0 => exact absurd hz2 (by rw [dpD_dct]; omega)
      | non => unfold Rep at r1 r2; obtain ⟨p, vs, z, _⟩ := r1; rw [r2] at z; cases z
      | bl b2 => unfold Rep at r1 r2; obtain ⟨p, vs, z, _⟩ := r1; rw [r2] at z; cases z
      | int b2 => unfold Rep at r1 r2; obtain ⟨p, vs, z, _⟩ := r1; rw [r2] at z; cases z
      | str b2 => unfold Rep at r1 r2; obtain ⟨p, vs, z, _⟩ := r1; rw [r2] at z; cases z
      | tup es => unfold Rep at r1 r2; obtain ⟨p, vs, z, s1, _⟩ := r1; obtain ⟨p', vs', z', s2, _⟩ := r2; rw [z] at z'; cases z'; exact (no_tl I s2 s1).elim
      | lst es =>
        unfold Rep at r1 r2
        obtain ⟨p, vs, z, s1, q1⟩ := r1
        obtain ⟨p', vs', z', s2, q2⟩ := r2
        rw [z] at z'; cases z'
        have e := I.list_inj s1 s2
        subst e
        cases n with
        | zero => rw [dpD_lst] at hn; omega
        | succ n =>
          rw [dpD_lst] at hn
          rw [eqD]
          exact eqDs_of q1 q2 fun j d e v h1 h2 => rep_one I n d e v (dpDs_le (by omega) h1) (by have z := dpDs_le (n := 998) (by first | (rw [dpD_tup] at hz1; omega) | (rw [dpD_lst] at hz1; omega)) h1; omega) (by have z := dpDs_le (n := 998) (by first | (rw [dpD_tup] at hz2; omega) | (rw [dpD_lst] at hz2; omega)) h2; omega)
noncomputable def RcN (X : Cx) (H : Hp) (s : Shared) (n : Nat) : Prop := ∀ (A : Around) (d e : D) (x y : V) (u v : Value), dpD d ≤ n → dpD d < 1000 → dpD e < 1000 → A.units + n < cLine → Rep X.K H d x → RelV x u → Rep X.K H e y → RelV y v → SeqAt.RcAt A s u v (eqD d e)
noncomputable def EqN (X : Cx) (H : Hp) (s : Shared) (n : Nat) : Prop := ∀ (A : Around) (d e : D) (x y : V) (u v : Value), dpD d ≤ n → dpD d < 1000 → dpD e < 1000 → A.units + n < cLine → Rep X.K H d x → RelV x u → Rep X.K H e y → RelV y v → SeqAt.EqAt A s u v (eqD d e)
theorem eqN_of (I : Inv X pins σ H s) {n : Nat} (rc : RcN X H s n) : EqN X H s n := by
  intro A d e x y u v hn hz1 hz2 hA r1 w1 r2 w2
  have hu : A.units < cLine := by omega
  have key := rc A d e x y u v hn hz1 hz2 hA r1 w1 r2 w2
  have one : x = y → eqD d e = true := fun z => rep_one I _ d e x (Nat.le_refl _) hz1 hz2 r1 (z ▸ r2)
  cases d with
  | opq => exact absurd hz1 (by rw [dpD_opq]; omega)
  | dct ks0 vs0 => exact absurd hz1 (by rw [dpD_dct]; omega)
  | non =>
    cases e with
    | opq => exact absurd hz2 (by rw [dpD_opq]; omega)
    | dct ks0 vs0 => exact absurd hz2 (by rw [dpD_dct]; omega)
    | non => unfold Rep at r1; subst r1; cases (show u = Value.none from w1); unfold Rep at r2; subst r2; cases (show v = Value.none from w2); exact SeqAt.EqAt.same _
    | bl b2 => unfold Rep at r1; subst r1; cases (show u = Value.none from w1); unfold Rep at r2; subst r2; cases (show v = Value.bool _ from w2); exact SeqAt.EqAt.none_bool _
    | int b2 => unfold Rep at r1; subst r1; cases (show u = Value.none from w1); unfold Rep at r2; subst r2; obtain ⟨t2, z2⟩ := w2; subst z2; exact SeqAt.EqAt.none_int _ _
    | str b2 => unfold Rep at r1; subst r1; cases (show u = Value.none from w1); unfold Rep at r2; subst r2; obtain ⟨t2, z2⟩ := w2; subst z2; exact SeqAt.EqAt.none_str _ _
    | tup es => unfold Rep at r1; subst r1; cases (show u = Value.none from w1); unfold Rep at r2; obtain ⟨p2, vs2, y2, s2, q2⟩ := r2; subst y2; cases (show v = Value.ref _ from w2); obtain ⟨its2, rv2, tp2, _⟩ := I.tuple s2; exact SeqAt.EqAt.none_tuple tp2 hu
    | lst es => unfold Rep at r1; subst r1; cases (show u = Value.none from w1); unfold Rep at r2; obtain ⟨p2, vs2, y2, s2, q2⟩ := r2; subst y2; cases (show v = Value.ref _ from w2); obtain ⟨its2, rv2, tp2, _⟩ := I.list s2; have tp2 := tp2.isList; exact SeqAt.EqAt.none_list tp2 hu
  | bl b1 =>
    cases e with
    | opq => exact absurd hz2 (by rw [dpD_opq]; omega)
    | dct ks0 vs0 => exact absurd hz2 (by rw [dpD_dct]; omega)
    | non => unfold Rep at r1; subst r1; cases (show u = Value.bool _ from w1); unfold Rep at r2; subst r2; cases (show v = Value.none from w2); exact SeqAt.EqAt.bool_none _
    | bl b2 => unfold Rep at r1; subst r1; cases (show u = Value.bool _ from w1); unfold Rep at r2; subst r2; cases (show v = Value.bool _ from w2); exact SeqAt.EqAt.bool_bool _ _
    | int b2 => unfold Rep at r1; subst r1; cases (show u = Value.bool _ from w1); unfold Rep at r2; subst r2; obtain ⟨t2, z2⟩ := w2; subst z2; exact SeqAt.EqAt.bool_int _ _ _
    | str b2 => unfold Rep at r1; subst r1; cases (show u = Value.bool _ from w1); unfold Rep at r2; subst r2; obtain ⟨t2, z2⟩ := w2; subst z2; exact SeqAt.EqAt.bool_str _ _ _
    | tup es => unfold Rep at r1; subst r1; cases (show u = Value.bool _ from w1); unfold Rep at r2; obtain ⟨p2, vs2, y2, s2, q2⟩ := r2; subst y2; cases (show v = Value.ref _ from w2); obtain ⟨its2, rv2, tp2, _⟩ := I.tuple s2; exact SeqAt.EqAt.bool_tuple _ tp2 hu
    | lst es => unfold Rep at r1; subst r1; cases (show u = Value.bool _ from w1); unfold Rep at r2; obtain ⟨p2, vs2, y2, s2, q2⟩ := r2; subst y2; cases (show v = Value.ref _ from w2); obtain ⟨its2, rv2, tp2, _⟩ := I.list s2; have tp2 := tp2.isList; exact SeqAt.EqAt.bool_list _ tp2 hu
  | int b1 =>
    cases e with
    | opq => exact absurd hz2 (by rw [dpD_opq]; omega)
    | dct ks0 vs0 => exact absurd hz2 (by rw [dpD_dct]; omega)
    | non => unfold Rep at r1; subst r1; obtain ⟨t1, z1⟩ := w1; subst z1; unfold Rep at r2; subst r2; cases (show v = Value.none from w2); exact SeqAt.EqAt.int_none _ _
    | bl b2 => unfold Rep at r1; subst r1; obtain ⟨t1, z1⟩ := w1; subst z1; unfold Rep at r2; subst r2; cases (show v = Value.bool _ from w2); exact SeqAt.EqAt.int_bool _ _ _
    | int b2 => unfold Rep at r1; subst r1; obtain ⟨t1, z1⟩ := w1; subst z1; unfold Rep at r2; subst r2; obtain ⟨t2, z2⟩ := w2; subst z2; exact SeqAt.EqAt.int_int _ _ _ _
    | str b2 => unfold Rep at r1; subst r1; obtain ⟨t1, z1⟩ := w1; subst z1; unfold Rep at r2; subst r2; obtain ⟨t2, z2⟩ := w2; subst z2; exact SeqAt.EqAt.int_str _ _ _ _
    | tup es => unfold Rep at r1; subst r1; obtain ⟨t1, z1⟩ := w1; subst z1; unfold Rep at r2; obtain ⟨p2, vs2, y2, s2, q2⟩ := r2; subst y2; cases (show v = Value.ref _ from w2); obtain ⟨its2, rv2, tp2, _⟩ := I.tuple s2; exact SeqAt.EqAt.int_tuple _ _ tp2 hu
    | lst es => unfold Rep at r1; subst r1; obtain ⟨t1, z1⟩ := w1; subst z1; unfold Rep at r2; obtain ⟨p2, vs2, y2, s2, q2⟩ := r2; subst y2; cases (show v = Value.ref _ from w2); obtain ⟨its2, rv2, tp2, _⟩ := I.list s2; have tp2 := tp2.isList; exact SeqAt.EqAt.int_list _ _ tp2 hu
  | str b1 =>
    cases e with
    | opq => exact absurd hz2 (by rw [dpD_opq]; omega)
    | dct ks0 vs0 => exact absurd hz2 (by rw [dpD_dct]; omega)
    | non => unfold Rep at r1; subst r1; obtain ⟨t1, z1⟩ := w1; subst z1; unfold Rep at r2; subst r2; cases (show v = Value.none from w2); exact SeqAt.EqAt.str_none _ _
    | bl b2 => unfold Rep at r1; subst r1; obtain ⟨t1, z1⟩ := w1; subst z1; unfold Rep at r2; subst r2; cases (show v = Value.bool _ from w2); exact SeqAt.EqAt.str_bool _ _ _
    | int b2 => unfold Rep at r1; subst r1; obtain ⟨t1, z1⟩ := w1; subst z1; unfold Rep at r2; subst r2; obtain ⟨t2, z2⟩ := w2; subst z2; exact SeqAt.EqAt.str_int _ _ _ _
    | str b2 => unfold Rep at r1; subst r1; obtain ⟨t1, z1⟩ := w1; subst z1; unfold Rep at r2; subst r2; obtain ⟨t2, z2⟩ := w2; subst z2; exact SeqAt.EqAt.str_str _ _ _ _
    | tup es => unfold Rep at r1; subst r1; obtain ⟨t1, z1⟩ := w1; subst z1; unfold Rep at r2; obtain ⟨p2, vs2, y2, s2, q2⟩ := r2; subst y2; cases (show v = Value.ref _ from w2); obtain ⟨its2, rv2, tp2, _⟩ := I.tuple s2; exact SeqAt.EqAt.str_tuple _ _ tp2 hu
    | lst es => unfold Rep at r1; subst r1; obtain ⟨t1, z1⟩ := w1; subst z1; unfold Rep at r2; obtain ⟨p2, vs2, y2, s2, q2⟩ := r2; subst y2; cases (show v = Value.ref _ from w2); obtain ⟨its2, rv2, tp2, _⟩ := I.list s2; have tp2 := tp2.isList; exact SeqAt.EqAt.str_list _ _ tp2 hu
  | tup ds =>
    cases e with
    | opq => exact absurd hz2 (by rw [dpD_opq]; omega)
    | dct ks0 vs0 => exact absurd hz2 (by rw [dpD_dct]; omega)
    | non => unfold Rep at r1; obtain ⟨p1, vs1, y1, s1, q1⟩ := r1; subst y1; cases (show u = Value.ref _ from w1); obtain ⟨its1, rv1, tp1, _⟩ := I.tuple s1; unfold Rep at r2; subst r2; cases (show v = Value.none from w2); exact SeqAt.EqAt.tuple_none tp1 hu
    | bl b2 => unfold Rep at r1; obtain ⟨p1, vs1, y1, s1, q1⟩ := r1; subst y1; cases (show u = Value.ref _ from w1); obtain ⟨its1, rv1, tp1, _⟩ := I.tuple s1; unfold Rep at r2; subst r2; cases (show v = Value.bool _ from w2); exact SeqAt.EqAt.tuple_bool _ tp1 hu
    | int b2 => unfold Rep at r1; obtain ⟨p1, vs1, y1, s1, q1⟩ := r1; subst y1; cases (show u = Value.ref _ from w1); obtain ⟨its1, rv1, tp1, _⟩ := I.tuple s1; unfold Rep at r2; subst r2; obtain ⟨t2, z2⟩ := w2; subst z2; exact SeqAt.EqAt.tuple_int _ _ tp1 hu
    | str b2 => unfold Rep at r1; obtain ⟨p1, vs1, y1, s1, q1⟩ := r1; subst y1; cases (show u = Value.ref _ from w1); obtain ⟨its1, rv1, tp1, _⟩ := I.tuple s1; unfold Rep at r2; subst r2; obtain ⟨t2, z2⟩ := w2; subst z2; exact SeqAt.EqAt.tuple_str _ _ tp1 hu
    | tup es =>
      unfold Rep at r1 r2
      obtain ⟨p1, vs1, y1, _⟩ := r1
      obtain ⟨p2, vs2, y2, _⟩ := r2
      subst y1 y2
      cases (show u = Value.ref _ from w1)
      cases (show v = Value.ref _ from w2)
      by_cases h : p1 = p2
      · rw [one (by rw [h]), h]; exact SeqAt.EqAt.same _
      · exact SeqAt.EqAt.of_refs h key
    | lst es => unfold Rep at r1; obtain ⟨p1, vs1, y1, s1, q1⟩ := r1; subst y1; cases (show u = Value.ref _ from w1); obtain ⟨its1, rv1, tp1, _⟩ := I.tuple s1; unfold Rep at r2; obtain ⟨p2, vs2, y2, s2, q2⟩ := r2; subst y2; cases (show v = Value.ref _ from w2); obtain ⟨its2, rv2, tp2, _⟩ := I.list s2; have tp2 := tp2.isList; exact SeqAt.EqAt.tuple_list tp1 tp2 hu
  | lst ds =>
    cases e with
    | opq => exact absurd hz2 (by rw [dpD_opq]; omega)
    | dct ks0 vs0 => exact absurd hz2 (by rw [dpD_dct]; omega)
    | non => unfold Rep at r1; obtain ⟨p1, vs1, y1, s1, q1⟩ := r1; subst y1; cases (show u = Value.ref _ from w1); obtain ⟨its1, rv1, tp1, _⟩ := I.list s1; have tp1 := tp1.isList; unfold Rep at r2; subst r2; cases (show v = Value.none from w2); exact SeqAt.EqAt.list_none tp1 hu
    | bl b2 => unfold Rep at r1; obtain ⟨p1, vs1, y1, s1, q1⟩ := r1; subst y1; cases (show u = Value.ref _ from w1); obtain ⟨its1, rv1, tp1, _⟩ := I.list s1; have tp1 := tp1.isList; unfold Rep at r2; subst r2; cases (show v = Value.bool _ from w2); exact SeqAt.EqAt.list_bool _ tp1 hu
    | int b2 => unfold Rep at r1; obtain ⟨p1, vs1, y1, s1, q1⟩ := r1; subst y1; cases (show u = Value.ref _ from w1); obtain ⟨its1, rv1, tp1, _⟩ := I.list s1; have tp1 := tp1.isList; unfold Rep at r2; subst r2; obtain ⟨t2, z2⟩ := w2; subst z2; exact SeqAt.EqAt.list_int _ _ tp1 hu
    | str b2 => unfold Rep at r1; obtain ⟨p1, vs1, y1, s1, q1⟩ := r1; subst y1; cases (show u = Value.ref _ from w1); obtain ⟨its1, rv1, tp1, _⟩ := I.list s1; have tp1 := tp1.isList; unfold Rep at r2; subst r2; obtain ⟨t2, z2⟩ := w2; subst z2; exact SeqAt.EqAt.list_str _ _ tp1 hu
    | tup es => unfold Rep at r1; obtain ⟨p1, vs1, y1, s1, q1⟩ := r1; subst y1; cases (show u = Value.ref _ from w1); obtain ⟨its1, rv1, tp1, _⟩ := I.list s1; have tp1 := tp1.isList; unfold Rep at r2; obtain ⟨p2, vs2, y2, s2, q2⟩ := r2; subst y2; cases (show v = Value.ref _ from w2); obtain ⟨its2, rv2, tp2, _⟩ := I.tuple s2; exact SeqAt.EqAt.list_tuple tp1 tp2 hu
    | lst es =>
      unfold Rep at r1 r2
      obtain ⟨p1, vs1, y1, _⟩ := r1
      obtain ⟨p2, vs2, y2, _⟩ := r2
      subst y1 y2
      cases (show u = Value.ref _ from w1)
      cases (show v = Value.ref _ from w2)
      by_cases h : p1 = p2
      · rw [one (by rw [h]), h]; exact SeqAt.EqAt.same _
      · exact SeqAt.EqAt.of_refs h key
theorem arr_get {its : List Value} {j : Nat} (h : j < its.toArray.size) : its[j]? = some its.toArray[j] := by
  have h' : j < its.length := by simpa using h
  simp [h']
theorem item_eq {A : Around} {n : Nat} (eqn : EqN X H s n) {ds es : List D} {vs vs' : List V} {its its' : List Value} (hn : dpDs ds ≤ n) (hz1 : dpDs ds < 1000) (hz2 : dpDs es < 1000) (hA : A.in1.units + n < cLine) (q1 : Reps X.K H ds vs) (q2 : Reps X.K H es vs') (rv : Vals vs its) (rv' : Vals vs' its')
    (j : Nat) (h1 : j < its.toArray.size) (h2 : j < its'.toArray.size) : SeqAt.EqAt A.in1 s its.toArray[j] its'.toArray[j] (eqD (ds.getD j .non) (es.getD j .non)) := by
  have l1 := q1.length
  have l2 := q2.length
  have m1 := rv.length
  have m2 := rv'.length
  have k1 : j < ds.length := by rw [List.size_toArray] at h1; omega
  have k2 : j < es.length := by rw [List.size_toArray] at h2; omega
  have e1 : ds[j]? = some ds[j] := by simp [k1]
  have e2 : es[j]? = some es[j] := by simp [k2]
  obtain ⟨v, a1, a2⟩ := q1.get e1
  obtain ⟨v', b1, b2⟩ := q2.get e2
  obtain ⟨u, c1, c2⟩ := rv.get a1
  obtain ⟨u', d1, d2⟩ := rv'.get b1
  rw [arr_get h1] at c1
  rw [arr_get h2] at d1
  have g1 : ds.getD j .non = ds[j] := by simp [List.getD, k1]
  have g2 : es.getD j .non = es[j] := by simp [List.getD, k2]
  rw [g1, g2, Option.some.inj c1, Option.some.inj d1]
  exact eqn A.in1 ds[j] es[j] v v' u u' (dpDs_le hn e1) (by have z := dpDs_le (n := 999) (by omega) e1; omega) (by have z := dpDs_le (n := 999) (by omega) e2; omega) hA a2 c2 b2 d2
theorem rcS (I : Inv X pins σ H s) (n : Nat) (ih : ∀ m, m < n → EqN X H s m) : RcN X H s n := by
    intro A d e x y u v hn hz1 hz2 hA r1 w1 r2 w2
    have hu : A.units < cLine := by omega
    cases d with
    | opq => exact absurd hz1 (by rw [dpD_opq]; omega)
    | dct ks0 vs0 => exact absurd hz1 (by rw [dpD_dct]; omega)
    | non =>
      cases e with
      | opq => exact absurd hz2 (by rw [dpD_opq]; omega)
      | dct ks0 vs0 => exact absurd hz2 (by rw [dpD_dct]; omega)
      | non => unfold Rep at r1; subst r1; cases (show u = Value.none from w1); unfold Rep at r2; subst r2; cases (show v = Value.none from w2); exact SeqAt.RcAt.none_none
      | bl b2 => unfold Rep at r1; subst r1; cases (show u = Value.none from w1); unfold Rep at r2; subst r2; cases (show v = Value.bool _ from w2); exact SeqAt.RcAt.none_bool _
      | int b2 => unfold Rep at r1; subst r1; cases (show u = Value.none from w1); unfold Rep at r2; subst r2; obtain ⟨t2, z2⟩ := w2; subst z2; exact SeqAt.RcAt.none_int _ _
      | str b2 => unfold Rep at r1; subst r1; cases (show u = Value.none from w1); unfold Rep at r2; subst r2; obtain ⟨t2, z2⟩ := w2; subst z2; exact SeqAt.RcAt.none_str _ _
      | tup es => unfold Rep at r1; subst r1; cases (show u = Value.none from w1); unfold Rep at r2; obtain ⟨p2, vs2, y2, s2, q2⟩ := r2; subst y2; cases (show v = Value.ref _ from w2); obtain ⟨its2, rv2, tp2, _⟩ := I.tuple s2; exact SeqAt.RcAt.none_tuple tp2 hu
      | lst es => unfold Rep at r1; subst r1; cases (show u = Value.none from w1); unfold Rep at r2; obtain ⟨p2, vs2, y2, s2, q2⟩ := r2; subst y2; cases (show v = Value.ref _ from w2); obtain ⟨its2, rv2, tp2, _⟩ := I.list s2; have tp2 := tp2.isList; exact SeqAt.RcAt.none_list tp2 hu
    | bl b1 =>
      cases e with
      | opq => exact absurd hz2 (by rw [dpD_opq]; omega)
      | dct ks0 vs0 => exact absurd hz2 (by rw [dpD_dct]; omega)
      | non => unfold Rep at r1; subst r1; cases (show u = Value.bool _ from w1); unfold Rep at r2; subst r2; cases (show v = Value.none from w2); exact SeqAt.RcAt.bool_none _
      | bl b2 => unfold Rep at r1; subst r1; cases (show u = Value.bool _ from w1); unfold Rep at r2; subst r2; cases (show v = Value.bool _ from w2); exact SeqAt.RcAt.bool_bool _ _
      | int b2 => unfold Rep at r1; subst r1; cases (show u = Value.bool _ from w1); unfold Rep at r2; subst r2; obtain ⟨t2, z2⟩ := w2; subst z2; exact SeqAt.RcAt.bool_int _ _ _
      | str b2 => unfold Rep at r1; subst r1; cases (show u = Value.bool _ from w1); unfold Rep at r2; subst r2; obtain ⟨t2, z2⟩ := w2; subst z2; exact SeqAt.RcAt.bool_str _ _ _
      | tup es => unfold Rep at r1; subst r1; cases (show u = Value.bool _ from w1); unfold Rep at r2; obtain ⟨p2, vs2, y2, s2, q2⟩ := r2; subst y2; cases (show v = Value.ref _ from w2); obtain ⟨its2, rv2, tp2, _⟩ := I.tuple s2; exact SeqAt.RcAt.bool_tuple _ tp2 hu
      | lst es => unfold Rep at r1; subst r1; cases (show u = Value.bool _ from w1); unfold Rep at r2; obtain ⟨p2, vs2, y2, s2, q2⟩ := r2; subst y2; cases (show v = Value.ref _ from w2); obtain ⟨its2, rv2, tp2, _⟩ := I.list s2; have tp2 := tp2.isList; exact SeqAt.RcAt.bool_list _ tp2 hu
    | int b1 =>
      cases e with
      | opq => exact absurd hz2 (by rw [dpD_opq]; omega)
      | dct ks0 vs0 => exact absurd hz2 (by rw [dpD_dct]; omega)
      | non => unfold Rep at r1; subst r1; obtain ⟨t1, z1⟩ := w1; subst z1; unfold Rep at r2; subst r2; cases (show v = Value.none from w2); exact SeqAt.RcAt.int_none _ _
      | bl b2 => unfold Rep at r1; subst r1; obtain ⟨t1, z1⟩ := w1; subst z1; unfold Rep at r2; subst r2; cases (show v = Value.bool _ from w2); exact SeqAt.RcAt.int_bool _ _ _
      | int b2 => unfold Rep at r1; subst r1; obtain ⟨t1, z1⟩ := w1; subst z1; unfold Rep at r2; subst r2; obtain ⟨t2, z2⟩ := w2; subst z2; exact SeqAt.RcAt.int_int _ _ _ _
      | str b2 => unfold Rep at r1; subst r1; obtain ⟨t1, z1⟩ := w1; subst z1; unfold Rep at r2; subst r2; obtain ⟨t2, z2⟩ := w2; subst z2; exact SeqAt.RcAt.int_str _ _ _ _
      | tup es => unfold Rep at r1; subst r1; obtain ⟨t1, z1⟩ := w1; subst z1; unfold Rep at r2; obtain ⟨p2, vs2, y2, s2, q2⟩ := r2; subst y2; cases (show v = Value.ref _ from w2); obtain ⟨its2, rv2, tp2, _⟩ := I.tuple s2; exact SeqAt.RcAt.int_tuple _ _ tp2 hu
      | lst es => unfold Rep at r1; subst r1; obtain ⟨t1, z1⟩ := w1; subst z1; unfold Rep at r2; obtain ⟨p2, vs2, y2, s2, q2⟩ := r2; subst y2; cases (show v = Value.ref _ from w2); obtain ⟨its2, rv2, tp2, _⟩ := I.list s2; have tp2 := tp2.isList; exact SeqAt.RcAt.int_list _ _ tp2 hu
    | str b1 =>
      cases e with
      | opq => exact absurd hz2 (by rw [dpD_opq]; omega)
      | dct ks0 vs0 => exact absurd hz2 (by rw [dpD_dct]; omega)
      | non => unfold Rep at r1; subst r1; obtain ⟨t1, z1⟩ := w1; subst z1; unfold Rep at r2; subst r2; cases (show v = Value.none from w2); exact SeqAt.RcAt.str_none _ _
      | bl b2 => unfold Rep at r1; subst r1; obtain ⟨t1, z1⟩ := w1; subst z1; unfold Rep at r2; subst r2; cases (show v = Value.bool _ from w2); exact SeqAt.RcAt.str_bool _ _ _
      | int b2 => unfold Rep at r1; subst r1; obtain ⟨t1, z1⟩ := w1; subst z1; unfold Rep at r2; subst r2; obtain ⟨t2, z2⟩ := w2; subst z2; exact SeqAt.RcAt.str_int _ _ _ _
      | str b2 => unfold Rep at r1; subst r1; obtain ⟨t1, z1⟩ := w1; subst z1; unfold Rep at r2; subst r2; obtain ⟨t2, z2⟩ := w2; subst z2; exact SeqAt.RcAt.str_str _ _ _ _
      | tup es => unfold Rep at r1; subst r1; obtain ⟨t1, z1⟩ := w1; subst z1; unfold Rep at r2; obtain ⟨p2, vs2, y2, s2, q2⟩ := r2; subst y2; cases (show v = Value.ref _ from w2); obtain ⟨its2, rv2, tp2, _⟩ := I.tuple s2; exact SeqAt.RcAt.str_tuple _ _ tp2 hu
      | lst es => unfold Rep at r1; subst r1; obtain ⟨t1, z1⟩ := w1; subst z1; unfold Rep at r2; obtain ⟨p2, vs2, y2, s2, q2⟩ := r2; subst y2; cases (show v = Value.ref _ from w2); obtain ⟨its2, rv2, tp2, _⟩ := I.list s2; have tp2 := tp2.isList; exact SeqAt.RcAt.str_list _ _ tp2 hu
    | tup ds =>
      cases e with
      | opq => exact absurd hz2 (by rw [dpD_opq]; omega)
      | dct ks0 vs0 => exact absurd hz2 (by rw [dpD_dct]; omega)
      | non => unfold Rep at r1; obtain ⟨p1, vs1, y1, s1, q1⟩ := r1; subst y1; cases (show u = Value.ref _ from w1); obtain ⟨its1, rv1, tp1, _⟩ := I.tuple s1; unfold Rep at r2; subst r2; cases (show v = Value.none from w2); exact SeqAt.RcAt.tuple_none tp1 hu
      | bl b2 => unfold Rep at r1; obtain ⟨p1, vs1, y1, s1, q1⟩ := r1; subst y1; cases (show u = Value.ref _ from w1); obtain ⟨its1, rv1, tp1, _⟩ := I.tuple s1; unfold Rep at r2; subst r2; cases (show v = Value.bool _ from w2); exact SeqAt.RcAt.tuple_bool _ tp1 hu
      | int b2 => unfold Rep at r1; obtain ⟨p1, vs1, y1, s1, q1⟩ := r1; subst y1; cases (show u = Value.ref _ from w1); obtain ⟨its1, rv1, tp1, _⟩ := I.tuple s1; unfold Rep at r2; subst r2; obtain ⟨t2, z2⟩ := w2; subst z2; exact SeqAt.RcAt.tuple_int _ _ tp1 hu
      | str b2 => unfold Rep at r1; obtain ⟨p1, vs1, y1, s1, q1⟩ := r1; subst y1; cases (show u = Value.ref _ from w1); obtain ⟨its1, rv1, tp1, _⟩ := I.tuple s1; unfold Rep at r2; subst r2; obtain ⟨t2, z2⟩ := w2; subst z2; exact SeqAt.RcAt.tuple_str _ _ tp1 hu
      | tup es =>
          rw [dpD_tup] at hn
          unfold Rep at r1; obtain ⟨p1, vs1, y1, s1, q1⟩ := r1; subst y1; cases (show u = Value.ref _ from w1); obtain ⟨its1, rv1, tp1, _⟩ := I.tuple s1
          unfold Rep at r2; obtain ⟨p2, vs2, y2, s2, q2⟩ := r2; subst y2; cases (show v = Value.ref _ from w2); obtain ⟨its2, rv2, tp2, _⟩ := I.tuple s2
          have hi : A.in1.units + (n - 1) < cLine := by show A.units + 1 + (n - 1) < cLine; omega
          have z := SeqAt.RcAt.tuples (e := fun j => eqD (ds.getD j .non) (es.getD j .non)) tp1 tp2 hu (item_eq (A := A) (ih (n - 1) (by omega)) (by omega) (by first | (rw [dpD_tup] at hz1; omega) | (rw [dpD_lst] at hz1; omega)) (by first | (rw [dpD_tup] at hz2; omega) | (rw [dpD_lst] at hz2; omega)) hi q1 q2 rv1 rv2)
          rw [List.size_toArray, List.size_toArray, ← rv1.length, ← rv2.length, ← q1.length, ← q2.length] at z
          rw [eqD, eqDs_all]
          exact z
      | lst es => unfold Rep at r1; obtain ⟨p1, vs1, y1, s1, q1⟩ := r1; subst y1; cases (show u = Value.ref _ from w1); obtain ⟨its1, rv1, tp1, _⟩ := I.tuple s1; unfold Rep at r2; obtain ⟨p2, vs2, y2, s2, q2⟩ := r2; subst y2; cases (show v = Value.ref _ from w2); obtain ⟨its2, rv2, tp2, _⟩ := I.list s2; have tp2 := tp2.isList; exact SeqAt.RcAt.tuple_list tp1 tp2 hu
    | lst ds =>
      cases e with
      | opq => exact absurd hz2 (by rw [dpD_opq]; omega)
      | dct ks0 vs0 => exact absurd hz2 (by rw [dpD_dct]; omega)
      | non => unfold Rep at r1; obtain ⟨p1, vs1, y1, s1, q1⟩ := r1; subst y1; cases (show u = Value.ref _ from w1); obtain ⟨its1, rv1, tp1, _⟩ := I.list s1; have tp1 := tp1.isList; unfold Rep at r2; subst r2; cases (show v = Value.none from w2); exact SeqAt.RcAt.list_none tp1 hu
      | bl b2 => unfold Rep at r1; obtain ⟨p1, vs1, y1, s1, q1⟩ := r1; subst y1; cases (show u = Value.ref _ from w1); obtain ⟨its1, rv1, tp1, _⟩ := I.list s1; have tp1 := tp1.isList; unfold Rep at r2; subst r2; cases (show v = Value.bool _ from w2); exact SeqAt.RcAt.list_bool _ tp1 hu
      | int b2 => unfold Rep at r1; obtain ⟨p1, vs1, y1, s1, q1⟩ := r1; subst y1; cases (show u = Value.ref _ from w1); obtain ⟨its1, rv1, tp1, _⟩ := I.list s1; have tp1 := tp1.isList; unfold Rep at r2; subst r2; obtain ⟨t2, z2⟩ := w2; subst z2; exact SeqAt.RcAt.list_int _ _ tp1 hu
      | str b2 => unfold Rep at r1; obtain ⟨p1, vs1, y1, s1, q1⟩ := r1; subst y1; cases (show u = Value.ref _ from w1); obtain ⟨its1, rv1, tp1, _⟩ := I.list s1; have tp1 := tp1.isList; unfold Rep at r2; subst r2; obtain ⟨t2, z2⟩ := w2; subst z2; exact SeqAt.RcAt.list_str _ _ tp1 hu
      | tup es => unfold Rep at r1; obtain ⟨p1, vs1, y1, s1, q1⟩ := r1; subst y1; cases (show u = Value.ref _ from w1); obtain ⟨its1, rv1, tp1, _⟩ := I.list s1; have tp1 := tp1.isList; unfold Rep at r2; obtain ⟨p2, vs2, y2, s2, q2⟩ := r2; subst y2; cases (show v = Value.ref _ from w2); obtain ⟨its2, rv2, tp2, _⟩ := I.tuple s2; exact SeqAt.RcAt.list_tuple tp1 tp2 hu
      | lst es =>
          rw [dpD_lst] at hn
          unfold Rep at r1; obtain ⟨p1, vs1, y1, s1, q1⟩ := r1; subst y1; cases (show u = Value.ref _ from w1); obtain ⟨its1, rv1, tp1, _⟩ := I.list s1; have tp1 := tp1.isList
          unfold Rep at r2; obtain ⟨p2, vs2, y2, s2, q2⟩ := r2; subst y2; cases (show v = Value.ref _ from w2); obtain ⟨its2, rv2, tp2, _⟩ := I.list s2; have tp2 := tp2.isList
          have hi : A.in1.units + (n - 1) < cLine := by show A.units + 1 + (n - 1) < cLine; omega
          have l1 : its1.toArray.size = ds.length := by rw [List.size_toArray, ← rv1.length, ← q1.length]
          have l2 : its2.toArray.size = es.length := by rw [List.size_toArray, ← rv2.length, ← q2.length]
          rw [eqD, eqDs_all]
          by_cases hl : ds.length = es.length
          · have z := SeqAt.RcAt.lists (e := fun j => eqD (ds.getD j .non) (es.getD j .non)) tp1 tp2 (by rw [l1, l2]; exact hl) hu (item_eq (A := A) (ih (n - 1) (by omega)) (by omega) (by first | (rw [dpD_tup] at hz1; omega) | (rw [dpD_lst] at hz1; omega)) (by first | (rw [dpD_tup] at hz2; omega) | (rw [dpD_lst] at hz2; omega)) hi q1 q2 rv1 rv2)
            rw [l1] at z
            rw [show min ds.length es.length = ds.length by omega, show (ds.length == es.length) = true by simp [hl], Bool.and_true]
            exact z
          · rw [show (ds.length == es.length) = false by simp [hl], Bool.and_false]
            exact SeqAt.RcAt.lists_lengths tp1 tp2 (by rw [l1, l2]; simp [hl]) hu
theorem eqNall (I : Inv X pins σ H s) (n : Nat) : EqN X H s n := by
  induction n using Nat.strongRecOn with
  | ind n ih => exact eqN_of I (rcS I n ih)
theorem rcN (I : Inv X pins σ H s) (n : Nat) : RcN X H s n := rcS I n fun m _ => eqNall I m
noncomputable def rEqD (K : PySem.W.Frag) : R2 := fun x y H Q => ∃ d e, Rep K H d x ∧ Rep K H e y ∧ dpD d ≤ 30 ∧ dpD e ≤ 30 ∧ Q (.bl (eqD d e)) H
theorem op_eqD (hu : X.A.units + 64 < cLine) : OpR X (compareOp .Eq) (rEqD X.K) := by
  intro pins s σ H x y v u Q I rx ry h
  obtain ⟨d, e, r1, r2, hd, hd2, q⟩ := h
  exact rcN I 30 X.A d e x y v u hd (by omega) (by omega) (by omega) r1 rx r2 ry X.prog X.w X.xe _ ⟨.bl _, H, I, rfl, q⟩
theorem eqOpD {K : PySem.W.Frag} : OpD K (rEqD K) dEq := fun c H0 H ρ σ x y d vx vy Q R r1 r2 e q => by
  unfold dEq at e
  split at e
  · rename_i hd
    cases e
    exact ⟨x, y, Rep.mono R.same x r1, Rep.mono R.same y r2, hd.1, hd.2, q _ H0 H (Same.refl _) R (rep_bl _ _)⟩
  · cases e
theorem cEq (hu : X.A.units + 64 < cLine) : CmpOk X .Eq dEq := ⟨_, op_eqD hu, eqOpD⟩
theorem neN (I : Inv X pins σ H s) (n : Nat) (A : Around) (d e : D) (x y : V) (u v : Value) (hn : dpD d ≤ n) (hz1 : dpD d < 1000) (hz2 : dpD e < 1000) (hA : A.units + n < cLine) (r1 : Rep X.K H d x) (w1 : RelV x u) (r2 : Rep X.K H e y) (w2 : RelV y v) : SeqAt.RcNeAt A s u v (!eqD d e) := by
    have hu : A.units < cLine := by omega
    cases d with
    | opq => exact absurd hz1 (by rw [dpD_opq]; omega)
    | dct ks0 vs0 => exact absurd hz1 (by rw [dpD_dct]; omega)
    | non =>
      cases e with
      | opq => exact absurd hz2 (by rw [dpD_opq]; omega)
      | dct ks0 vs0 => exact absurd hz2 (by rw [dpD_dct]; omega)
      | non => unfold Rep at r1; subst r1; cases (show u = Value.none from w1); unfold Rep at r2; subst r2; cases (show v = Value.none from w2); exact SeqAt.RcNeAt.none_none
      | bl b2 => unfold Rep at r1; subst r1; cases (show u = Value.none from w1); unfold Rep at r2; subst r2; cases (show v = Value.bool _ from w2); exact SeqAt.RcNeAt.none_bool _
      | int b2 => unfold Rep at r1; subst r1; cases (show u = Value.none from w1); unfold Rep at r2; subst r2; obtain ⟨t2, z2⟩ := w2; subst z2; exact SeqAt.RcNeAt.none_int _ _
      | str b2 => unfold Rep at r1; subst r1; cases (show u = Value.none from w1); unfold Rep at r2; subst r2; obtain ⟨t2, z2⟩ := w2; subst z2; exact SeqAt.RcNeAt.none_str _ _
      | tup es => unfold Rep at r1; subst r1; cases (show u = Value.none from w1); unfold Rep at r2; obtain ⟨p2, vs2, y2, s2, q2⟩ := r2; subst y2; cases (show v = Value.ref _ from w2); obtain ⟨its2, rv2, tp2, _⟩ := I.tuple s2; exact SeqAt.RcNeAt.none_tuple tp2 hu
      | lst es => unfold Rep at r1; subst r1; cases (show u = Value.none from w1); unfold Rep at r2; obtain ⟨p2, vs2, y2, s2, q2⟩ := r2; subst y2; cases (show v = Value.ref _ from w2); obtain ⟨its2, rv2, tp2, _⟩ := I.list s2; have tp2 := tp2.isList; exact SeqAt.RcNeAt.none_list tp2 hu
    | bl b1 =>
      cases e with
      | opq => exact absurd hz2 (by rw [dpD_opq]; omega)
      | dct ks0 vs0 => exact absurd hz2 (by rw [dpD_dct]; omega)
      | non => unfold Rep at r1; subst r1; cases (show u = Value.bool _ from w1); unfold Rep at r2; subst r2; cases (show v = Value.none from w2); exact SeqAt.RcNeAt.bool_none _
      | bl b2 => unfold Rep at r1; subst r1; cases (show u = Value.bool _ from w1); unfold Rep at r2; subst r2; cases (show v = Value.bool _ from w2); exact SeqAt.RcNeAt.bool_bool _ _
      | int b2 => unfold Rep at r1; subst r1; cases (show u = Value.bool _ from w1); unfold Rep at r2; subst r2; obtain ⟨t2, z2⟩ := w2; subst z2; exact SeqAt.RcNeAt.bool_int _ _ _
      | str b2 => unfold Rep at r1; subst r1; cases (show u = Value.bool _ from w1); unfold Rep at r2; subst r2; obtain ⟨t2, z2⟩ := w2; subst z2; exact SeqAt.RcNeAt.bool_str _ _ _
      | tup es => unfold Rep at r1; subst r1; cases (show u = Value.bool _ from w1); unfold Rep at r2; obtain ⟨p2, vs2, y2, s2, q2⟩ := r2; subst y2; cases (show v = Value.ref _ from w2); obtain ⟨its2, rv2, tp2, _⟩ := I.tuple s2; exact SeqAt.RcNeAt.bool_tuple _ tp2 hu
      | lst es => unfold Rep at r1; subst r1; cases (show u = Value.bool _ from w1); unfold Rep at r2; obtain ⟨p2, vs2, y2, s2, q2⟩ := r2; subst y2; cases (show v = Value.ref _ from w2); obtain ⟨its2, rv2, tp2, _⟩ := I.list s2; have tp2 := tp2.isList; exact SeqAt.RcNeAt.bool_list _ tp2 hu
    | int b1 =>
      cases e with
      | opq => exact absurd hz2 (by rw [dpD_opq]; omega)
      | dct ks0 vs0 => exact absurd hz2 (by rw [dpD_dct]; omega)
      | non => unfold Rep at r1; subst r1; obtain ⟨t1, z1⟩ := w1; subst z1; unfold Rep at r2; subst r2; cases (show v = Value.none from w2); exact SeqAt.RcNeAt.int_none _ _
      | bl b2 => unfold Rep at r1; subst r1; obtain ⟨t1, z1⟩ := w1; subst z1; unfold Rep at r2; subst r2; cases (show v = Value.bool _ from w2); exact SeqAt.RcNeAt.int_bool _ _ _
      | int b2 => unfold Rep at r1; subst r1; obtain ⟨t1, z1⟩ := w1; subst z1; unfold Rep at r2; subst r2; obtain ⟨t2, z2⟩ := w2; subst z2; exact SeqAt.RcNeAt.int_int _ _ _ _
      | str b2 => unfold Rep at r1; subst r1; obtain ⟨t1, z1⟩ := w1; subst z1; unfold Rep at r2; subst r2; obtain ⟨t2, z2⟩ := w2; subst z2; exact SeqAt.RcNeAt.int_str _ _ _ _
      | tup es => unfold Rep at r1; subst r1; obtain ⟨t1, z1⟩ := w1; subst z1; unfold Rep at r2; obtain ⟨p2, vs2, y2, s2, q2⟩ := r2; subst y2; cases (show v = Value.ref _ from w2); obtain ⟨its2, rv2, tp2, _⟩ := I.tuple s2; exact SeqAt.RcNeAt.int_tuple _ _ tp2 hu
      | lst es => unfold Rep at r1; subst r1; obtain ⟨t1, z1⟩ := w1; subst z1; unfold Rep at r2; obtain ⟨p2, vs2, y2, s2, q2⟩ := r2; subst y2; cases (show v = Value.ref _ from w2); obtain ⟨its2, rv2, tp2, _⟩ := I.list s2; have tp2 := tp2.isList; exact SeqAt.RcNeAt.int_list _ _ tp2 hu
    | str b1 =>
      cases e with
      | opq => exact absurd hz2 (by rw [dpD_opq]; omega)
      | dct ks0 vs0 => exact absurd hz2 (by rw [dpD_dct]; omega)
      | non => unfold Rep at r1; subst r1; obtain ⟨t1, z1⟩ := w1; subst z1; unfold Rep at r2; subst r2; cases (show v = Value.none from w2); exact SeqAt.RcNeAt.str_none _ _
      | bl b2 => unfold Rep at r1; subst r1; obtain ⟨t1, z1⟩ := w1; subst z1; unfold Rep at r2; subst r2; cases (show v = Value.bool _ from w2); exact SeqAt.RcNeAt.str_bool _ _ _
      | int b2 => unfold Rep at r1; subst r1; obtain ⟨t1, z1⟩ := w1; subst z1; unfold Rep at r2; subst r2; obtain ⟨t2, z2⟩ := w2; subst z2; exact SeqAt.RcNeAt.str_int _ _ _ _
      | str b2 => unfold Rep at r1; subst r1; obtain ⟨t1, z1⟩ := w1; subst z1; unfold Rep at r2; subst r2; obtain ⟨t2, z2⟩ := w2; subst z2; exact SeqAt.RcNeAt.str_str _ _ _ _
      | tup es => unfold Rep at r1; subst r1; obtain ⟨t1, z1⟩ := w1; subst z1; unfold Rep at r2; obtain ⟨p2, vs2, y2, s2, q2⟩ := r2; subst y2; cases (show v = Value.ref _ from w2); obtain ⟨its2, rv2, tp2, _⟩ := I.tuple s2; exact SeqAt.RcNeAt.str_tuple _ _ tp2 hu
      | lst es => unfold Rep at r1; subst r1; obtain ⟨t1, z1⟩ := w1; subst z1; unfold Rep at r2; obtain ⟨p2, vs2, y2, s2, q2⟩ := r2; subst y2; cases (show v = Value.ref _ from w2); obtain ⟨its2, rv2, tp2, _⟩ := I.list s2; have tp2 := tp2.isList; exact SeqAt.RcNeAt.str_list _ _ tp2 hu
    | tup ds =>
      cases e with
      | opq => exact absurd hz2 (by rw [dpD_opq]; omega)
      | dct ks0 vs0 => exact absurd hz2 (by rw [dpD_dct]; omega)
      | non => unfold Rep at r1; obtain ⟨p1, vs1, y1, s1, q1⟩ := r1; subst y1; cases (show u = Value.ref _ from w1); obtain ⟨its1, rv1, tp1, _⟩ := I.tuple s1; unfold Rep at r2; subst r2; cases (show v = Value.none from w2); exact SeqAt.RcNeAt.tuple_none tp1 hu
      | bl b2 => unfold Rep at r1; obtain ⟨p1, vs1, y1, s1, q1⟩ := r1; subst y1; cases (show u = Value.ref _ from w1); obtain ⟨its1, rv1, tp1, _⟩ := I.tuple s1; unfold Rep at r2; subst r2; cases (show v = Value.bool _ from w2); exact SeqAt.RcNeAt.tuple_bool _ tp1 hu
      | int b2 => unfold Rep at r1; obtain ⟨p1, vs1, y1, s1, q1⟩ := r1; subst y1; cases (show u = Value.ref _ from w1); obtain ⟨its1, rv1, tp1, _⟩ := I.tuple s1; unfold Rep at r2; subst r2; obtain ⟨t2, z2⟩ := w2; subst z2; exact SeqAt.RcNeAt.tuple_int _ _ tp1 hu
      | str b2 => unfold Rep at r1; obtain ⟨p1, vs1, y1, s1, q1⟩ := r1; subst y1; cases (show u = Value.ref _ from w1); obtain ⟨its1, rv1, tp1, _⟩ := I.tuple s1; unfold Rep at r2; subst r2; obtain ⟨t2, z2⟩ := w2; subst z2; exact SeqAt.RcNeAt.tuple_str _ _ tp1 hu
      | tup es =>
          rw [dpD_tup] at hn
          unfold Rep at r1; obtain ⟨p1, vs1, y1, s1, q1⟩ := r1; subst y1; cases (show u = Value.ref _ from w1); obtain ⟨its1, rv1, tp1, _⟩ := I.tuple s1
          unfold Rep at r2; obtain ⟨p2, vs2, y2, s2, q2⟩ := r2; subst y2; cases (show v = Value.ref _ from w2); obtain ⟨its2, rv2, tp2, _⟩ := I.tuple s2
          have hi : A.in1.units + (n - 1) < cLine := by show A.units + 1 + (n - 1) < cLine; omega
          have z := SeqAt.RcNeAt.tuples (e := fun j => eqD (ds.getD j .non) (es.getD j .non)) tp1 tp2 hu (item_eq (A := A) (eqNall I (n - 1)) (by omega) (by first | (rw [dpD_tup] at hz1; omega) | (rw [dpD_lst] at hz1; omega)) (by first | (rw [dpD_tup] at hz2; omega) | (rw [dpD_lst] at hz2; omega)) hi q1 q2 rv1 rv2)
          rw [List.size_toArray, List.size_toArray, ← rv1.length, ← rv2.length, ← q1.length, ← q2.length] at z
          rw [eqD, eqDs_all]
          exact z
      | lst es => unfold Rep at r1; obtain ⟨p1, vs1, y1, s1, q1⟩ := r1; subst y1; cases (show u = Value.ref _ from w1); obtain ⟨its1, rv1, tp1, _⟩ := I.tuple s1; unfold Rep at r2; obtain ⟨p2, vs2, y2, s2, q2⟩ := r2; subst y2; cases (show v = Value.ref _ from w2); obtain ⟨its2, rv2, tp2, _⟩ := I.list s2; have tp2 := tp2.isList; exact SeqAt.RcNeAt.tuple_list tp1 tp2 hu
    | lst ds =>
      cases e with
      | opq => exact absurd hz2 (by rw [dpD_opq]; omega)
      | dct ks0 vs0 => exact absurd hz2 (by rw [dpD_dct]; omega)
      | non => unfold Rep at r1; obtain ⟨p1, vs1, y1, s1, q1⟩ := r1; subst y1; cases (show u = Value.ref _ from w1); obtain ⟨its1, rv1, tp1, _⟩ := I.list s1; have tp1 := tp1.isList; unfold Rep at r2; subst r2; cases (show v = Value.none from w2); exact SeqAt.RcNeAt.list_none tp1 hu
      | bl b2 => unfold Rep at r1; obtain ⟨p1, vs1, y1, s1, q1⟩ := r1; subst y1; cases (show u = Value.ref _ from w1); obtain ⟨its1, rv1, tp1, _⟩ := I.list s1; have tp1 := tp1.isList; unfold Rep at r2; subst r2; cases (show v = Value.bool _ from w2); exact SeqAt.RcNeAt.list_bool _ tp1 hu
      | int b2 => unfold Rep at r1; obtain ⟨p1, vs1, y1, s1, q1⟩ := r1; subst y1; cases (show u = Value.ref _ from w1); obtain ⟨its1, rv1, tp1, _⟩ := I.list s1; have tp1 := tp1.isList; unfold Rep at r2; subst r2; obtain ⟨t2, z2⟩ := w2; subst z2; exact SeqAt.RcNeAt.list_int _ _ tp1 hu
      | str b2 => unfold Rep at r1; obtain ⟨p1, vs1, y1, s1, q1⟩ := r1; subst y1; cases (show u = Value.ref _ from w1); obtain ⟨its1, rv1, tp1, _⟩ := I.list s1; have tp1 := tp1.isList; unfold Rep at r2; subst r2; obtain ⟨t2, z2⟩ := w2; subst z2; exact SeqAt.RcNeAt.list_str _ _ tp1 hu
      | tup es => unfold Rep at r1; obtain ⟨p1, vs1, y1, s1, q1⟩ := r1; subst y1; cases (show u = Value.ref _ from w1); obtain ⟨its1, rv1, tp1, _⟩ := I.list s1; have tp1 := tp1.isList; unfold Rep at r2; obtain ⟨p2, vs2, y2, s2, q2⟩ := r2; subst y2; cases (show v = Value.ref _ from w2); obtain ⟨its2, rv2, tp2, _⟩ := I.tuple s2; exact SeqAt.RcNeAt.list_tuple tp1 tp2 hu
      | lst es =>
          rw [dpD_lst] at hn
          unfold Rep at r1; obtain ⟨p1, vs1, y1, s1, q1⟩ := r1; subst y1; cases (show u = Value.ref _ from w1); obtain ⟨its1, rv1, tp1, _⟩ := I.list s1; have tp1 := tp1.isList
          unfold Rep at r2; obtain ⟨p2, vs2, y2, s2, q2⟩ := r2; subst y2; cases (show v = Value.ref _ from w2); obtain ⟨its2, rv2, tp2, _⟩ := I.list s2; have tp2 := tp2.isList
          have hi : A.in1.units + (n - 1) < cLine := by show A.units + 1 + (n - 1) < cLine; omega
          have l1 : its1.toArray.size = ds.length := by rw [List.size_toArray, ← rv1.length, ← q1.length]
          have l2 : its2.toArray.size = es.length := by rw [List.size_toArray, ← rv2.length, ← q2.length]
          rw [eqD, eqDs_all]
          by_cases hl : ds.length = es.length
          · have z := SeqAt.RcNeAt.lists (e := fun j => eqD (ds.getD j .non) (es.getD j .non)) tp1 tp2 (by rw [l1, l2]; exact hl) hu (item_eq (A := A) (eqNall I (n - 1)) (by omega) (by first | (rw [dpD_tup] at hz1; omega) | (rw [dpD_lst] at hz1; omega)) (by first | (rw [dpD_tup] at hz2; omega) | (rw [dpD_lst] at hz2; omega)) hi q1 q2 rv1 rv2)
            rw [l1] at z
            rw [show min ds.length es.length = ds.length by omega, show (ds.length == es.length) = true by simp [hl], Bool.and_true]
            exact z
          · rw [show (ds.length == es.length) = false by simp [hl], Bool.and_false]
            exact SeqAt.RcNeAt.lists_lengths tp1 tp2 (by rw [l1, l2]; simp [hl]) hu
noncomputable def rNeD (K : PySem.W.Frag) : R2 := fun x y H Q => ∃ d e, Rep K H d x ∧ Rep K H e y ∧ dpD d ≤ 30 ∧ dpD e ≤ 30 ∧ Q (.bl (!eqD d e)) H
theorem op_neD (hu : X.A.units + 64 < cLine) : OpR X (compareOp .NotEq) (rNeD X.K) := by
  intro pins s σ H x y v u Q I rx ry h
  obtain ⟨d, e, r1, r2, hd, hd2, q⟩ := h
  exact neN I 30 X.A d e x y v u hd (by omega) (by omega) (by omega) r1 rx r2 ry X.prog X.w X.xe _ ⟨.bl _, H, I, rfl, q⟩
theorem neOpD {K : PySem.W.Frag} : OpD K (rNeD K) dNe := fun c H0 H ρ σ x y d vx vy Q R r1 r2 e q => by
  unfold dNe at e
  split at e
  · rename_i hd
    cases e
    exact ⟨x, y, Rep.mono R.same x r1, Rep.mono R.same y r2, hd.1, hd.2, q _ H0 H (Same.refl _) R (rep_bl _ _)⟩
  · cases e
theorem cNe (hu : X.A.units + 64 < cLine) : CmpOk X .NotEq dNe := ⟨_, op_neD hu, neOpD⟩
end
end Fx
set_option maxRecDepth 100000
namespace Fx
open PySem PySem.Spec PyProof.Rows L2
section
variable {X : Cx}
noncomputable def BOk (X : Cx) (f : Value) (g : List D → Option D) : Prop := ∃ r, CallR X f r ∧ ∀ (c : FC) (H0 H : Hp) (ρ : En) (σ : L2.St) (ds : List D) (d : D) (vs : List V) (Q : VK), RS X.K c H0 H ρ σ → Reps X.K H0 ds vs → g ds = some d → Aft X.K c H0 ρ σ d Q → r vs H Q
theorem eF_of {g : List D → Option D} {A : FA} {r : List V → Hp → VK → Prop} (o : ∀ (c : FC) (H0 H : Hp) (ρ : En) (σ : L2.St) (ds : List D) (d : D) (vs : List V) (Q : VK), RS X.K c H0 H ρ σ → Reps X.K H0 ds vs → g ds = some d → Aft X.K c H0 ρ σ d Q → r vs H Q)
    {σ : L2.St} {H : Hp} {Q : VK} (h : tE X.K (eF g A) σ H Q) : tCB r (tAa X.K A) σ H Q := by
  obtain ⟨c, H0, ρ, d, ρ', R, f, q⟩ := h
  unfold eF at f
  obtain ⟨⟨ds, ρ1⟩, h1, f⟩ := bnd_eq f
  obtain ⟨d', h2, f⟩ := bnd_eq f
  have f' : some (d', ρ1) = some (d, ρ') := f
  cases f'
  exact ⟨c, H0, ρ, ds, _, R, h1, fun vs H1 Hh s1 R1 r1 => o c H1 Hh _ σ ds d vs Q R1 r1 h2 fun v H2 Hh2 s2 R2 r2 => q v H2 Hh2 (s1.trans s2) R2 r2⟩
theorem xB {id : String} {g : List D → Option D} {A : FA} {x : Str} {p pos : Pos} {e : Expr} {es : List Expr} (o : BOk X (.builtin id) g) (hg : Gl X x) (hm : X.mg x = none) (hv : bootBuiltins x = some (.builtin id)) (ha : XA X (e :: es) A) (hn : x ≠ "__name__" := by decide) (hdb : (x == ("__debug__" : Str)) = false := by decide)
    (he : starEach (e :: es) X.env = (false, eval e X.env) :: starEach es X.env := by rfl) (hpl : (backTo pos (starEach es X.env)).any (·.1) = false := by rfl) : XE X (.Call (.Name x p) (e :: es) [] pos) (eF g A) := by
  obtain ⟨r, h1, h2⟩ := o
  exact PE.wk (pe_callB h1 hg hm hv ha hn hdb he hpl) fun σ H Q h => eF_of h2 h
theorem Reps.v1 {K : PySem.W.Frag} {H : Hp} {d : D} {vs : List V} (h : Reps K H [d] vs) : ∃ v, vs = [v] ∧ Rep K H d v := by
  unfold Reps at h
  obtain ⟨v, r, e, a, b⟩ := h
  unfold Reps at b
  exact ⟨v, by rw [e, b], a⟩
theorem Reps.v2 {K : PySem.W.Frag} {H : Hp} {d d' : D} {vs : List V} (h : Reps K H [d, d'] vs) : ∃ v v', vs = [v, v'] ∧ Rep K H d v ∧ Rep K H d' v' := by
  unfold Reps at h
  obtain ⟨v, r, e, a, b⟩ := h
  obtain ⟨v', e', b'⟩ := Reps.v1 b
  exact ⟨v, v', by rw [e, e'], a, b'⟩
theorem ints_rep {K : PySem.W.Frag} {H : Hp} : ∀ {ds : List D} {is : List Int} {vs : List V}, intsOf ds = some is → Reps K H ds vs → vs = is.map V.int
  | [], _, _, e, r => by
    have e' : ([] : List Int) = _ := Option.some.inj e
    unfold Reps at r; rw [r, ← e']; rfl
  | d :: ds, _, _, e, r => by
    cases d with
    | int i =>
      rw [intsOf_cons] at e
      obtain ⟨is, e1, e2⟩ := bnd_eq e
      cases e2
      unfold Reps at r
      obtain ⟨v, r', rfl, a, t⟩ := r
      unfold Rep at a
      rw [a, ints_rep e1 t]; rfl
    | _ => cases e
theorem intsAre_of : ∀ {is : List Int} {us : List Value}, Vals (is.map V.int) us → IntsAre us is := by
  intro is
  induction is with
  | nil => intro us h; cases h; exact .nil
  | cons b r ih =>
    intro us h
    cases h with
    | cons a t => obtain ⟨tk, rfl⟩ := (show ∃ t, _ = Value.int b t from a); exact .cons b tk (ih t)
theorem maxI_spec : ∀ (r : List Int) (m : Int), (maxI m r = m ∨ maxI m r ∈ r) ∧ m ≤ maxI m r ∧ ∀ a ∈ r, a ≤ maxI m r
  | [], m => ⟨.inl rfl, Int.le_refl _, fun a h => by cases h⟩
  | x :: r, m => by
    obtain ⟨h1, h2, h3⟩ := maxI_spec r (if m < x then x else m)
    rw [show maxI m (x :: r) = maxI (if m < x then x else m) r from rfl]
    by_cases h : m < x
    · rw [if_pos h] at h1 h2 h3 ⊢
      refine ⟨.inr ?_, by omega, fun a ha => ?_⟩
      · rcases h1 with e | e
        · rw [e]; exact List.mem_cons_self
        · exact List.mem_cons_of_mem _ e
      · rcases List.mem_cons.mp ha with rfl | ha
        · exact h2
        · exact h3 a ha
    · rw [if_neg h] at h1 h2 h3 ⊢
      refine ⟨?_, h2, fun a ha => ?_⟩
      · rcases h1 with e | e
        · exact .inl e
        · exact .inr (List.mem_cons_of_mem _ e)
      · rcases List.mem_cons.mp ha with rfl | ha
        · omega
        · exact h3 a ha
theorem maxI_uniq {i M : Int} {r : List Int} (h : M ∈ i :: r) (h' : ∀ a ∈ i :: r, a ≤ M) : M = maxI i r := by
  obtain ⟨h1, h2, h3⟩ := maxI_spec r i
  have a1 : M ≤ maxI i r := by
    rcases List.mem_cons.mp h with rfl | h
    · exact h2
    · exact h3 _ h
  have a2 : maxI i r ≤ M := by
    rcases h1 with e | e
    · rw [e]; exact h' _ List.mem_cons_self
    · exact h' _ (List.mem_cons_of_mem _ e)
  omega
theorem call_maxL (hc : X.calm = true) : CallR X (.builtin "max") (fun xs H Q => ∃ (p : Addr) (i : Int) (r : List Int), xs = [.ref p] ∧ SqL X.K H p ((i :: r).map V.int) ∧ Q (.int (maxI i r)) H) := by
  intro pins s σ H xs us Q I r h
  obtain ⟨l, i, is, rfl, hl, q⟩ := h
  obtain ⟨u, rfl, ru⟩ := vals1 r
  cases ru
  obtain ⟨its, rv, pl, hz⟩ := I.list hl
  have hi := intsAre_of rv
  have hL := pl.isList
  obtain ⟨ys, e⟩ := hi.allInts.items
  have hns : i :: is = ys.toList.map (·.1) := by rw [← hi.numsOf, ← nums_intItems, ← e]
  have hsz : 0 < ys.size := by
    have h3 : 0 < (i :: is).length := Nat.succ_pos _
    rw [hns, List.length_map, Array.length_toList] at h3; exact h3
  rw [e] at hL
  refine max_intList (I.ok.hd hc) hL hsz fun v h' tk hv hk => ?_
  obtain ⟨t, rfl⟩ := intItems_at hv
  obtain ⟨h1, h2⟩ := argBest_gt (numAt ys) (ys.size - 1)
  refine ⟨_, H, I.kept hk, ?_, q⟩
  have : numAt ys (argBest (fun i j => decide (numAt ys i > numAt ys j)) (ys.size - 1)) = maxI i is := maxI_uniq (by rw [hns, numAt_eq]; exact getD_mem (by rw [List.length_map, Array.length_toList]; omega)) fun a ha => by
    rw [hns] at ha
    obtain ⟨j, hj, rfl⟩ := mem_getD ha
    rw [List.length_map, Array.length_toList] at hj
    rw [← numAt_eq]; exact h2 j (by omega)
  rw [this]
  exact ⟨_, rfl⟩
theorem CallR.or {X : Cx} {f : Value} {r r' : List V → Hp → VK → Prop} (h : CallR X f r) (h' : CallR X f r') : CallR X f (fun xs H Q => r xs H Q ∨ r' xs H Q) :=
  fun pins s σ H xs us Q I v z => z.elim (fun a => h pins s σ H xs us Q I v a) (fun a => h' pins s σ H xs us Q I v a)
theorem bestI_inv {f : Int → List Int → Int} {is : List Int} {d : D} (h : bestI f is = some d) : ∃ i r, is = i :: r ∧ d = .int (f i r) := by
  cases is with
  | nil => cases h
  | cons i r => cases h; exact ⟨i, r, rfl, rfl⟩
theorem callMax (hc : X.calm = true) : BOk X (.builtin "max") bMax := ⟨_, (call_max2 hc).or (call_maxL hc), fun c H0 H ρ σ ds d vs Q R r e q => by
  unfold bMax at e
  split at e
  · cases e
    obtain ⟨v, v', rfl, r1, r2⟩ := Reps.v2 r
    unfold Rep at r1 r2; subst r1 r2
    exact .inl ⟨_, _, rfl, q _ H0 H (Same.refl _) R (rep_int _ _)⟩
  · obtain ⟨is, e1, e2⟩ := bnd_eq e
    obtain ⟨i, is, rfl, rfl⟩ := bestI_inv e2
    obtain ⟨v, rfl, rv⟩ := Reps.v1 r
    unfold Rep at rv
    obtain ⟨p, ws, rfl, s, t⟩ := rv
    have := ints_rep e1 t
    subst this
    exact .inr ⟨p, i, is, rfl, Same.seq R.same s, q _ H0 H (Same.refl _) R (rep_int _ _)⟩
  · cases e⟩
theorem bools_rep {K : PySem.W.Frag} {H : Hp} : ∀ {ds : List D} {bs : List Bool} {vs : List V}, bools ds = some bs → Reps K H ds vs → vs = bs.map V.bl
  | [], _, _, e, r => by
    have e' : ([] : List Bool) = _ := Option.some.inj e
    unfold Reps at r; rw [r, ← e']; rfl
  | d :: ds, _, _, e, r => by
    cases d with
    | bl b =>
      rw [bools_cons] at e
      obtain ⟨bs, e1, e2⟩ := bnd_eq e
      cases e2
      unfold Reps at r
      obtain ⟨v, r', rfl, a, t⟩ := r
      unfold Rep at a
      rw [a, bools_rep e1 t]; rfl
    | _ => cases e
theorem boolsAre_of : ∀ {bs : List Bool} {us : List Value}, Vals (bs.map V.bl) us → LSm.BoolsAre us bs := by
  intro bs
  induction bs with
  | nil => intro us h; cases h; exact .nil
  | cons b r ih =>
    intro us h
    cases h with
    | cons a t => cases (show _ = Value.bool b from a); exact .cons b (ih t)
theorem call_allD (hc : X.calm = true) : CallR X (.builtin "all") (fun xs H Q => ∃ (p : Addr) (bs : List Bool), xs = [.ref p] ∧ SqL X.K H p (bs.map V.bl) ∧ Q (.bl (bs.all id)) H) := by
  intro pins s σ H xs us Q I r h
  obtain ⟨l, bs, rfl, hl, q⟩ := h
  obtain ⟨u, rfl, ru⟩ := vals1 r
  cases ru
  obtain ⟨its, rv, pl, hz⟩ := I.list hl
  have hb := boolsAre_of rv
  have hl := pl.isList
  have hlt : l < s.heap.objs.size := by obtain ⟨_, e, _⟩ := hl; exact Heap.lt_size e
  refine call_all_walk (wpAny_pyIter_list hl ?_)
  refine ⟨s.heap.objs.size, [s.heap.objs.size, l], [s.heap.objs.size], its.toArray.size, _, _, fun i => (bs[i]?).getD true, rfl, Walks.list (A := X.A.in1) (I.ok.hd hc) _ l (Nat.ne_of_lt hlt) its.toArray,
    ⟨⟨_, Heap.get?_push_size _ rfl, rfl, rfl⟩, hl.push _⟩, fun i v s' Q' E' hP hQ => ?_, fun h' tk hk => ?_⟩
  · obtain ⟨b, e, rfl⟩ := hb.get i v (by simpa using hP)
    simp only [e, Option.getD_some] at hQ
    exact wpAny_truthy_bool hQ
  · have e : ((List.range its.toArray.size).all fun i => (bs[i]?).getD true) = bs.all id := by
      rw [List.size_toArray, hb.length]; exact LSm.range_all bs
    rw [e]
    exact ⟨.bl _, H, I.kept (t' := tk) (LSm.kept_iter hk), rfl, q⟩
theorem callAll (hc : X.calm = true) : BOk X (.builtin "all") bAll := ⟨_, call_allD hc, fun c H0 H ρ σ ds d vs Q R r e q => by
  unfold bAll at e
  split at e
  · obtain ⟨bs, e1, e2⟩ := bnd_eq e
    cases e2
    obtain ⟨v, rfl, rv⟩ := Reps.v1 r
    unfold Rep at rv
    obtain ⟨p, ws, rfl, s, t⟩ := rv
    have := bools_rep e1 t
    subst this
    exact ⟨p, bs, rfl, Same.seq R.same s, q _ H0 H (Same.refl _) R (rep_bl _ _)⟩
  · cases e⟩
noncomputable def tyN : Ty → String
  | .int => "int" | .bool => "bool" | .str => "str" | .tuple => "tuple" | .list => "list"
noncomputable def tyV (d : D) : Value := match d with
  | .non => .type "NoneType" | .bl _ => .type "bool" | .int _ => .type "int" | .str _ => .type "str" | .tup _ => .type "tuple" | .lst _ => .type "list" | .opq => .type "dict" | .dct _ _ => .type "dict"
theorem kit_eq (K : PySem.W.Frag) (t : Ty) (d : D) : PySem.W.kitOne K (tyV d) (.type (tyN t)) = some (isTy t d) := by
  cases t <;> cases d <;> rfl
theorem call_isi (t : Ty) : CallR X (.builtin "isinstance") (fun xs H Q => ∃ d x, xs = [x, .ty (tyN t)] ∧ Rep X.K H d x ∧ Q (.bl (isTy t d)) H) := by
  intro pins s σ H xs us Q I r h
  obtain ⟨d, x, rfl, rx, q⟩ := h
  obtain ⟨u, w, rfl, ru, rw'⟩ := vals2 r
  cases (show w = Value.type _ from rw')
  have k := kit_eq X.K t d
  have fin : ∀ tk, EP X pins σ Q (.bool (isTy t d)) { s with toks := tk } := fun tk => ⟨.bl _, H, I.tok tk, rfl, q⟩
  cases d with
  | non => unfold Rep at rx; subst rx; cases (show u = Value.none from ru); exact PySem.W.kia_one PySem.W.kitx_none I.kIn True.intro k (fun z => nomatch z) fin
  | bl y => unfold Rep at rx; subst rx; cases (show u = Value.bool y from ru); exact PySem.W.kia_one PySem.W.kitx_bool I.kIn True.intro k (fun z => nomatch z) fin
  | int i => unfold Rep at rx; subst rx; obtain ⟨t, z⟩ := (show ∃ t, u = Value.int i t from ru); cases z; exact PySem.W.kia_one PySem.W.kitx_int I.kIn True.intro k (fun z => nomatch z) fin
  | str y => unfold Rep at rx; subst rx; obtain ⟨t, z⟩ := (show ∃ t, u = Value.str y t from ru); cases z; exact PySem.W.kia_one PySem.W.kitx_str I.kIn True.intro k (fun z => nomatch z) fin
  | tup ds =>
    unfold Rep at rx
    obtain ⟨a, vs, rfl, s1, _⟩ := rx
    cases (show u = Value.ref a from ru)
    obtain ⟨_, _, ⟨o, h1, h2, _⟩, _⟩ := I.tuple s1
    exact PySem.W.kia_one PySem.W.kitx_tuple I.kIn ⟨o, h1, h2⟩ k (fun z => nomatch z) fin
  | dct ks ds =>
    unfold Rep at rx
    obtain ⟨a, us, rfl, ea, _⟩ := rx
    cases (show u = Value.ref a from ru)
    obtain ⟨_, _, vs, _, pp⟩ := (show ObjOk X.prog X.w H s.heap a (.dK _) from ea.ok I.hok)
    obtain ⟨o, es, ep, h1, h2, _⟩ := pp
    exact PySem.W.kia_one PySem.W.kitx_dict I.kIn ⟨o, h1, h2.1⟩ k (fun z => nomatch z) fin
  | opq =>
    unfold Rep at rx
    obtain ⟨a, kvs, rfl, ea⟩ := rx
    cases (show u = Value.ref a from ru)
    obtain ⟨_, _, vs, _, pp⟩ := (show ObjOk X.prog X.w H s.heap a (.dK kvs) from I.hok a _ ea)
    obtain ⟨o, es, ep, h1, h2, _⟩ := pp
    exact PySem.W.kia_one PySem.W.kitx_dict I.kIn ⟨o, h1, h2.1⟩ k (fun z => nomatch z) fin
  | lst ds =>
    unfold Rep at rx
    obtain ⟨a, vs, rfl, s1, _⟩ := rx
    cases (show u = Value.ref a from ru)
    obtain ⟨_, _, ⟨o, n, h1, h2, _⟩, _⟩ := I.list s1
    exact PySem.W.kia_one PySem.W.kitx_list I.kIn ⟨o, h1, h2⟩ k (fun z => nomatch z) fin
theorem xty {t : Ty} {T : Str} {p p' pos : Pos} {e : Expr} {F : FE} (hi : X.mg "isinstance" = none) (hm : X.mg T = none) (hT : bootBuiltins T = some (.type (tyN t))) (ha : XE X e F) (hg : Gl X "isinstance" := by rfl) (hg' : Gl X T := by rfl)
    (hn : T ≠ "__name__" := by decide) (hd : (T == ("__debug__" : Str)) = false := by decide) (hs : starEach [e, .Name T p'] X.env = (false, eval e X.env) :: starEach [.Name T p'] X.env := by rfl) (hs' : starEach [.Name T p'] X.env = [(false, eval (.Name T p') X.env)] := by rfl)
    (hpl : (backTo pos (starEach [.Name T p'] X.env)).any (·.1) = false := by rfl) : XE X (.Call (.Name "isinstance" p) [e, .Name T p'] [] pos) (eTy t F) :=
  PE.wk (pe_callB (call_isi t) hg hi PyProof.Rows.boot_isinstance (pa_cons ha (pa_cons (pe_bltn (v := .ty (tyN t)) hg' hm hT rfl hn hd) pa_nil hs') hs) (by decide) (by decide) hs hpl) fun σ H Q hh0_ => by
    obtain ⟨c, H0, ρ, d, ρ', R, f, q⟩ := hh0_
    unfold eTy at f
    obtain ⟨⟨x, ρ1⟩, h1, f⟩ := bnd_eq f
    have f' : some (D.bl (isTy t x), ρ1) = some (d, ρ') := f
    cases f'
    exact ⟨c, H0, ρ, x, _, R, h1, fun v H1 Hh s1 R1 r1 => ⟨x, v, rfl, Rep.mono R1.same x r1, q _ H1 Hh s1 R1 (rep_bl _ _)⟩⟩
noncomputable def spP (K : PySem.W.Frag) (g : List D → Option D) : Sp := fun vs H Q _ => ∃ Hi ds d, Same Hi H ∧ Reps K Hi ds vs ∧ g ds = some d ∧ ∀ v Hi' H', Step Hi H Hi' H' → Rep K Hi' d v → Q v H'
structure DefOk (P : Program) (w : World) (K : PySem.W.Frag) (mg : Str → Option Value) (base : Heap) (k : Nat) (x : Str) (g : List D → Option D) : Prop where
  ex : ∃ f fd ps, FnOk P w K mg base CX0 k f fd ps (spP K g) ∧ Binds K fd ps [] ∧ PySem.W.keepIn K (.ref f) = true ∧ mg x = some (.ref f)
theorem xF {k : Nat} {x : Str} {g : List D → Option D} {A : FA} {p pos : Pos} {e : Expr} {es : List Expr} (G : DefOk X.prog X.w X.K X.mg X.base k x g) (hr : Room k X.A) (ha : XA X (e :: es) A) (hg : Gl X x := by rfl) (hdb : (x == ("__debug__" : Str)) = false := by decide)
    (he : starEach (e :: es) X.env = (false, eval e X.env) :: starEach es X.env := by rfl) (hpl : (backTo pos (starEach es X.env)).any (·.1) = false := by rfl) : XE X (.Call (.Name x p) (e :: es) [] pos) (eF g A) := by
  obtain ⟨f, fd, ps, F, hb, hk, hm⟩ := G.ex
  refine PE.wk (pe_call F hr hg hm hk hb .nil pass0 ha hdb he hpl) fun σ H Q hh0_ => ?_
  obtain ⟨c, H0, ρ, d, ρ', R, z, q⟩ := hh0_
  unfold eF at z
  obtain ⟨⟨ds, ρ1⟩, h1, z⟩ := bnd_eq z
  obtain ⟨d', h2, z⟩ := bnd_eq z
  have z' : some (d', ρ1) = some (d, ρ') := z
  cases z'
  exact ⟨c, H0, ρ, ds, _, R, h1, fun vs H1 Hh s1 R1 r1 => ⟨H1, ds, d, R1.same, by rw [List.append_nil]; exact r1, h2, fun v Hi' H' S rv => q v Hi' H' (s1.trans S.s0) (R1.after S) rv⟩⟩
end
end Fx
set_option maxRecDepth 100000
namespace Fx
open PySem PySem.Spec PyProof.Rows L2
noncomputable def Yields (K : PySem.W.Frag) (J : It) (H1 : Hp) (xs : List D) : Prop := ∀ (H0 H : Hp) (i : Nat), Same H1 H0 → Same H0 H →
  (∀ d, xs[i]? = some d → J.go i H ∧ ∀ x H', J.yld i H x H' → H' = H ∧ Rep K H0 d x) ∧ (xs.length ≤ i → J.stop i H)
theorem yields_list {K : PySem.W.Frag} {H1 : Hp} {a : Addr} {vs : List V} {xs : List D} (rd : SqL K H1 a vs) (r : Reps K H1 xs vs) : Yields K (Itl K a) H1 xs := fun H0 H i s s' => by
  have sq : SqL K H a vs := Same.seq (s.trans s') rd
  refine ⟨fun d e => ?_, fun h => ⟨vs, sq, by rw [← r.length]; exact h⟩⟩
  obtain ⟨v, e1, e2⟩ := r.get e
  refine ⟨⟨vs, v, sq, e1⟩, fun x H' ⟨h1, h2⟩ => ⟨h1, ?_⟩⟩
  have := h2 vs sq
  rw [e1] at this; cases this
  exact Rep.mono s d e2
theorem yields_tup {K : PySem.W.Frag} {H1 : Hp} {a : Addr} {vs : List V} {xs : List D} (rd : SqT K H1 a vs) (r : Reps K H1 xs vs) : Yields K (Itt K a) H1 xs := fun H0 H i s s' => by
  have sq : SqT K H a vs := Same.seqT (s.trans s') rd
  refine ⟨fun d e => ?_, fun h => ⟨vs, sq, by rw [← r.length]; exact h⟩⟩
  obtain ⟨v, e1, e2⟩ := r.get e
  refine ⟨⟨vs, v, sq, e1⟩, fun x H' ⟨h1, h2⟩ => ⟨h1, ?_⟩⟩
  have := h2 vs sq
  rw [e1] at this; cases this
  exact Rep.mono s d e2
theorem rngD_length : ∀ (n : Nat) (lo : Int), (rngD lo n).length = n
  | 0, _ => rfl
  | n + 1, lo => by show (rngD (lo + 1) n).length + 1 = n + 1; rw [rngD_length n]
theorem rngD_get : ∀ (n : Nat) (lo : Int) (i : Nat) (d : D), (rngD lo n)[i]? = some d → d = .int (lo + i) ∧ i < n
  | 0, lo, i, d, h => by simp [rngD] at h
  | n + 1, lo, 0, d, h => by
    simp [rngD] at h
    exact ⟨by rw [← h]; simp, by omega⟩
  | n + 1, lo, i + 1, d, h => by
    have h' : (rngD (lo + 1) n)[i]? = some d := by simpa [rngD] using h
    obtain ⟨a, b⟩ := rngD_get n (lo + 1) i d h'
    refine ⟨by rw [a]; congr 1; push_cast; omega, by omega⟩
theorem yields_rng {K : PySem.W.Frag} {H1 : Hp} (lo : Int) (n : Nat) : Yields K (Itr lo n) H1 (rngD lo n) := fun H0 H i s s' => by
  refine ⟨fun d e => ?_, fun h => by rw [rngD_length] at h; exact h⟩
  obtain ⟨rfl, hi⟩ := rngD_get n lo i d e
  refine ⟨hi, fun x H' ⟨h1, h2⟩ => ⟨h1, ?_⟩⟩
  unfold Rep; exact h2
noncomputable def Its (z : Str) : It := ⟨fun i _ => i < z.cps.size, fun i H x H' => H' = H ∧ ∃ c, z.cps[i]? = some c ∧ x = .str (chS c), fun i _ => z.cps.size ≤ i⟩
theorem turn_str {P : Program} {w : World} {K : PySem.W.Frag} {tg : Expr} {n : String} (z : Str) (t : Tok) (it : Addr) (hn : ["enumerate", "zip", "dict_itemiterator", "dict_reverseitemiterator", "odict_iterator", "itertools.zip_longest", "itertools.pairwise"].contains n = false)
    (W : ∀ A : Around, A.handled = none → Walks P w A it [it] [it] z.cps.size (SignAt z) (fun i h => h.IsStrIter it n z t i)) (fin : ∀ (A : Around) (s : Shared) (i : Nat) (Q : Option Value → Shared → Prop) (E : Value → Shared → Prop), A.handled = none → s.heap.IsStrIter it n z t i → z.cps[i]? = none → (∀ h', Heap.ExtBut it s.heap h' → Q none { s with heap := h' }) → wpAny (model P w) A (pyNext (.ref it)) Q E s)
    (slf : ∀ (A : Around) (i : Nat) (s : Shared) (Q : Value → Shared → Prop) (E : Value → Shared → Prop), s.heap.IsStrIter it n z t i → Q (.ref it) s → wpAny (model P w) A (pyIter (.ref it)) Q E s) :
    Turn P w K tg (Its z) [it] it (fun i h => h.IsStrIter it n z t i) where
  mem := by simp
  obj := fun i h st b hb => by
    have e : b = it := by simpa using hb
    subst e
    obtain ⟨o, e, c, d⟩ := st
    exact ⟨o, e, fun v z => by rw [d] at z; cases z⟩
  keep := fun i h h' st k => let ⟨o, e, r⟩ := st; ⟨o, k it (by simp) o e, r⟩
  item := by
    intro X hP hw hK hc i pins s σ H E I hf st hg
    subst hP hw hK
    obtain ⟨f0, f1, f2, f3, f4, f5⟩ := hf it (by simp)
    refine (W X.A (I.ok.hd hc)).item i s _ _ hg st fun v h' tk hv st' kk => ?_
    obtain ⟨ch, u, e1, rfl⟩ := hv
    have I1 : Inv X pins σ H { s with heap := h', toks := tk } := I.turned (fun b o hb e => kk b o (by simpa using hb) e) f0 f1 f3 f4 f5
    obtain ⟨o, e, c, d⟩ := id st'
    exact ⟨_, rfl, go_of (s := { s with heap := h', toks := tk }) e c d hn ⟨.str (chS ch), H, I1, ⟨u, rfl⟩, ⟨rfl, ch, e1, rfl⟩, st', fun b hb => (hf b hb).1⟩⟩
  done := by
    intro X hP hw hK hc i pins s σ H E I hf st hg
    subst hP hw hK
    obtain ⟨f0, f1, f2, f3, f4, f5⟩ := hf it (by simp)
    have hg : z.cps.size ≤ i := hg
    exact fin X.A s i _ _ (I.ok.hd hc) st (by simp [hg]) fun h' eb => ⟨rfl, I.turned (t' := s.toks) (fun b o hb e => eb b o hb e) f0 f1 f3 f4 f5⟩
  self := fun A i s Q E st h => slf A i s Q E st h
noncomputable def iStr (t : TE) : TI := fun σ H R => t σ H fun x H1 => ∃ z, x = .str z ∧ R (Its z) H1
noncomputable def iSq (K : PySem.W.Frag) (t : TE) : TI := fun σ H R => iList K t σ H R ∨ iTup K t σ H R ∨ iStr t σ H R
theorem pi_str {X : Cx} {tg l : Expr} {tl : TE} (hl : PE X l tl) : PI X tg l (iStr tl) := by
  intro pins s σ H R I h
  refine thn (hl pins s σ H _ I h) fun v s1 hh0_ => ?_
  obtain ⟨x, H1, I1, r1, q1⟩ := hh0_
  obtain ⟨z, e, q⟩ := q1
  subst e
  obtain ⟨t, rfl⟩ := r1
  have fp : ∀ (o : Obj), ∀ b ∈ [s1.heap.objs.size], FpOk X pins H1 b := fun o b hb => by
    have e : b = s1.heap.objs.size := by simpa using hb
    subst e
    exact I1.fpOk (Nat.le_refl _) (I1.hok.fresh (Nat.le_refl _))
  cases ha : z.cps.all (· < 128)
  · refine wpAny_pyIter_wide ha ?_
    exact ⟨s1.heap.objs.size, [s1.heap.objs.size], _, _, H1, rfl, I1.kept (t' := s1.toks) fun b o e => Heap.get?_push_of_some _ e, turn_str (n := "str_iterator") z t _ (by decide) (fun A hA => Walks.strWide hA _ z t) (fun A s i Q E hA st hx hQ => wpAny_pyNext_wide_end hA st hx hQ) (fun _ _ _ _ _ st h => wpAny_pyIter_striter_wide st h), ⟨_, Heap.get?_push_size _ rfl, rfl, rfl⟩, fp { cls := .none, data := .fields #[] }, q⟩
  · refine wpAny_pyIter_ascii ha ?_
    exact ⟨s1.heap.objs.size, [s1.heap.objs.size], _, _, H1, rfl, I1.kept (t' := s1.toks) fun b o e => Heap.get?_push_of_some _ e, turn_str (n := "str_ascii_iterator") z t _ (by decide) (fun A hA => Walks.strAscii hA _ z t) (fun A s i Q E hA st hx hQ => wpAny_pyNext_ascii_end hA st hx hQ) (fun _ _ _ _ _ st h => wpAny_pyIter_striter_ascii st h), ⟨_, Heap.get?_push_size _ rfl, rfl, rfl⟩, fp { cls := .none, data := .fields #[] }, q⟩
theorem yields_str {K : PySem.W.Frag} {H1 : Hp} (z : Str) : Yields K (Its z) H1 (chs z) := fun H0 H i s s' => by
  have hl : (chs z).length = z.cps.size := by unfold chs; rw [List.length_map, Array.length_toList]
  refine ⟨fun d e => ?_, fun h => by rw [hl] at h; exact h⟩
  have hi : i < z.cps.size := by rw [← hl]; exact (List.getElem?_eq_some_iff.mp e).1
  refine ⟨hi, fun x H' ⟨h1, ch, h2, h3⟩ => ⟨h1, ?_⟩⟩
  unfold chs at e
  rw [List.getElem?_map, Array.getElem?_toList, h2] at e
  have e' : D.str (chS ch) = d := Option.some.inj e
  subst e'
  unfold Rep; exact h3
theorem pi_sq {X : Cx} {tg l : Expr} {tl : TE} (hl : PE X l tl) : PI X tg l (iSq X.K tl) := fun pins s σ H R I h => by
  rcases h with h | h | h
  · exact pi_list hl pins s σ H R I h
  · exact pi_tup hl pins s σ H R I h
  · exact pi_str hl pins s σ H R I h
theorem walk_of_data {K : PySem.W.Frag} {F : FE} {σ : L2.St} {H : Hp} {R : It → Hp → Prop} {c : FC} {H0 : Hp} {ρ ρ' : En} {d : D} {xs : List D} (rs : RS K c H0 H ρ σ) (f : F ρ = some (d, ρ')) (hx : items d = some xs)
    (h : ∀ J H1 Hh, Same H0 H1 → RS K c H1 Hh ρ' σ → Yields K J H1 xs → R J Hh) : iSq K (tE K F) σ H R := by
  cases d with
  | lst ds =>
    have e : ds = xs := Option.some.inj hx
    subst e
    refine .inl ⟨c, H0, ρ, _, ρ', rs, f, fun v H1 Hh s1 R1 r1 => ?_⟩
    unfold Rep at r1
    obtain ⟨a, vs, rfl, rd, r⟩ := r1
    exact ⟨a, rfl, ⟨vs, Same.seq R1.same rd⟩, h _ H1 Hh s1 R1 (yields_list rd r)⟩
  | tup ds =>
    have e : ds = xs := Option.some.inj hx
    subst e
    refine .inr (.inl ⟨c, H0, ρ, _, ρ', rs, f, fun v H1 Hh s1 R1 r1 => ?_⟩)
    unfold Rep at r1
    obtain ⟨a, vs, rfl, rd, r⟩ := r1
    exact ⟨a, rfl, ⟨vs, Same.seqT R1.same rd⟩, h _ H1 Hh s1 R1 (yields_tup rd r)⟩
  | str z =>
    have e : chs z = xs := Option.some.inj hx
    subst e
    refine .inr (.inr ⟨c, H0, ρ, _, ρ', rs, f, fun v H1 Hh s1 R1 r1 => ?_⟩)
    unfold Rep at r1
    exact ⟨z, r1, h _ H1 Hh s1 R1 (yields_str z)⟩
  | _ => cases hx
theorem imAt_get {ρ : En} : ∀ {js : List Nat} {fr : En}, imAt ρ js = some fr → fr.length = js.length ∧ ∀ (k : Nat) (s : Sl), fr[k]? = some s → ∃ j d, js[k]? = some j ∧ ρ[j]? = some (.im d) ∧ s = .im d
  | [], _, h => by
    have h' : ([] : En) = _ := Option.some.inj h
    subst h'
    exact ⟨rfl, fun k s e => by simp at e⟩
  | j :: js, _, h => by
    rw [imAt_cons] at h
    obtain ⟨s, h1, h⟩ := bnd_eq h
    obtain ⟨r, h2, h⟩ := bnd_eq h
    cases h
    obtain ⟨a, b⟩ := imAt_get h2
    refine ⟨by rw [List.length_cons, List.length_cons, a], fun k s' e => ?_⟩
    cases k with
    | zero =>
      simp at e; subst e
      cases z : ρ[j]? with
      | none => rw [z] at h1; cases h1
      | some sl =>
        rw [z] at h1
        cases sl with
        | im d => exact ⟨j, d, rfl, z, (Option.some.inj h1).symm⟩
        | _ => cases h1
    | succ k =>
      obtain ⟨j', d, x1, x2, x3⟩ := b k s' (by simpa using e)
      exact ⟨j', d, by simpa using x1, x2, x3⟩
theorem RS.block {K : PySem.W.Frag} {c : FC} {H0 H : Hp} {ρ : En} {σ : L2.St} {js : List Nat} {fr : En} {d : D} {x : V} (R : RS K c H0 H ρ σ) (hf : imAt ρ js = some fr) (rx : Rep K H0 d x) : RS K ⟨H0, H, []⟩ H0 H (.im d :: fr) (some x :: frv σ js) := by
  obtain ⟨l, g⟩ := imAt_get hf
  refine ⟨R.same, Same.refl _, fun b o e => .inl e, fun b o e _ => e, fun a h => (by cases h), ?_, fun i d' e => ?_, fun i b o e => ?_, fun i j b b' o o' a e => ?_⟩
  · rw [List.length_cons, List.length_cons, l, frv, List.length_map]
  · cases i with
    | zero => simp at e; subst e; exact ⟨x, rfl, rx⟩
    | succ k =>
      obtain ⟨j, d2, x1, x2, x3⟩ := g k _ (by simpa using e)
      cases x3
      obtain ⟨v, y1, y2⟩ := R.im j d' x2
      refine ⟨v, ?_, y2⟩
      show (frv σ js)[k]? = some (some v)
      unfold frv
      rw [List.getElem?_map, x1]
      show some (σ[j]?).join = some (some v)
      rw [y1]; rfl
  · cases i with
    | zero => simp at e
    | succ k =>
      obtain ⟨j, d2, _, _, x3⟩ := g k _ (by simpa using e)
      cases x3
  · cases i with
    | zero => simp at e
    | succ k =>
      obtain ⟨j, d2, _, _, x3⟩ := g k _ (by simpa using e)
      cases x3
theorem RS.step {K : PySem.W.Frag} {Hi He H0 H : Hp} {ρ : En} {σ : L2.St} (R : RS K ⟨Hi, He, []⟩ H0 H ρ σ) : Step Hi He H0 H :=
  ⟨R.init, fun b o e => R.keep b o e (by simp), R.same, R.fresh⟩
theorem drop_of {α : Type} {xs : List α} {i : Nat} {d : α} (h : xs[i]? = some d) : xs.drop i = d :: xs.drop (i + 1) := by
  obtain ⟨hi, e⟩ := List.getElem?_eq_some_iff.mp h
  rw [← e]; exact List.drop_eq_getElem_cons hi
theorem lc_of {K : PySem.W.Frag} {c : FC} {H1 Hh : Hp} {ρ : En} {σ : L2.St} {js : List Nat} {fr : En} {T : FT} {F : FE} {xs out : List D} {J : It} {Qf : List V → Hp → Prop} (R : RS K c H1 Hh ρ σ) (hf : imAt ρ js = some fr) (hc : cGo T F fr xs = some out) (hz : xs.length ≤ sizeLine) (hy : Yields K J H1 xs)
    (q : ∀ ys H0 H, Same H1 H0 → RS K c H0 H ρ σ → Reps K H0 out ys → Qf ys H) : LcW js (tTt K T) (tE K F) σ Qf J Hh := by
  refine ⟨fun i m ys H => m = xs.length - i ∧ i ≤ xs.length ∧ ∃ H0, Same H1 H0 ∧ RS K c H0 H ρ σ ∧ ∃ pre rest, Reps K H0 pre ys ∧ pre.length ≤ i ∧ cGo T F fr (xs.drop i) = some rest ∧ pre ++ rest = out, ⟨xs.length, by simp, Nat.zero_le _, H1, Same.refl _, R, [], out, Reps.nil_, Nat.zero_le _, by simpa using hc, rfl⟩, ?_⟩
  rintro i m ys H ⟨rfl, hi, H0, s0, R0, pre, rest, rp, lp, hg, e⟩
  obtain ⟨y1, y2⟩ := hy H0 H i s0 R0.same
  by_cases hlt : i < xs.length
  · have hd : xs[i]? = some xs[i] := by simp [hlt]
    obtain ⟨go, yl⟩ := y1 _ hd
    refine .inr ⟨go, by rw [← rp.length]; omega, fun x H' hx => ?_⟩
    obtain ⟨rfl, rx⟩ := yl x H' hx
    rw [drop_of hd, cGo_cons] at hg
    obtain ⟨⟨b, ρb⟩, g1, hg⟩ := bnd_eq hg
    dsimp only at hg
    refine ⟨⟨H0, H', []⟩, H0, _, b, ρb, R0.block hf rx, g1, fun H2 Hh2 s2 R2 => ?_⟩
    cases b with
    | false =>
      rw [if_neg Bool.false_ne_true] at hg ⊢
      have S := R2.step
      exact ⟨xs.length - (i + 1), by omega, rfl, hlt, H2, s0.trans S.s0, R0.after S, pre, rest, Reps.mono S.s0 _ rp, by omega, hg, e⟩
    | true =>
      rw [if_pos rfl] at hg ⊢
      obtain ⟨⟨z, ρz⟩, g2, hg⟩ := bnd_eq hg
      obtain ⟨t, g3, hg⟩ := bnd_eq hg
      dsimp only at hg
      have hg' : some (z :: t) = some rest := hg
      cases hg'
      refine ⟨⟨H0, H', []⟩, H2, ρb, z, ρz, R2, g2, fun v H3 Hh3 s3 R3 r3 => ?_⟩
      have S := R3.step
      refine ⟨xs.length - (i + 1), by omega, rfl, hlt, H3, s0.trans S.s0, R0.after S, pre ++ [z], t, (Reps.mono S.s0 _ rp).app (Reps.one r3), ?_, g3, ?_⟩
      · rw [List.length_append, List.length_singleton]; omega
      · rw [List.append_assoc]; exact e
  · have ei : i = xs.length := by omega
    have hn : xs.drop i = [] := List.drop_eq_nil_of_le (by omega)
    rw [hn, cGo_nil] at hg
    have hg' : ([] : List D) = rest := Option.some.inj hg
    subst hg'
    rw [List.append_nil] at e
    subst e
    exact .inl ⟨y2 (by omega), by rw [← rp.length]; omega, q ys H0 H s0 R0 rp⟩
noncomputable def XTs (X : Cx) (ifs : List Expr) (T : FT) : Prop := PTs X ifs (tTt X.K T)
theorem PTs.wk {X : Cx} {e : List Expr} {t t' : TT} (h : PTs X e t) (w : ∀ σ H Q, t' σ H Q → t σ H Q) : PTs X e t' := fun pins s σ H Q I q => h pins s σ H Q I (w σ H Q q)
theorem xts_nil {X : Cx} : XTs X [] Fx.tYes := PTs.wk pts_nil fun σ H Q hh0_ => by
  obtain ⟨c, H0, ρ, b, ρ', R, f, q⟩ := hh0_
  have f' : some (true, ρ) = some (b, ρ') := f
  cases f'
  exact q H0 H (Same.refl _) R
section
variable {X : Cx} {scope sc : Scope} {x : Str} {frees : List Str} {js : List Nat} {px pos : Pos} {elt iter : Expr} {ifs : List Expr} {I F : FE} {T : FT}
theorem eLC_inv {ρ ρ' : En} {d : D} (h : eLC js I T F ρ = some (d, ρ')) : ∃ z xs fr ys, I ρ = some (z, ρ') ∧ items z = some xs ∧ imAt ρ' js = some fr ∧ cGo T F fr xs = some ys ∧ xs.length ≤ sizeLine ∧ d = .lst ys := by
  unfold eLC at h
  obtain ⟨⟨z, ρ1⟩, h1, h⟩ := bnd_eq h
  obtain ⟨xs, h2, h⟩ := bnd_eq h
  obtain ⟨fr, h3, h⟩ := bnd_eq h
  obtain ⟨ys, h4, h⟩ := bnd_eq h
  dsimp only at h2 h3 h4 h
  split at h
  · rename_i hz
    cases h
    exact ⟨z, xs, fr, ys, h1, h2, h3, h4, hz, rfl⟩
  · cases h
theorem xlc (hc : X.calm = true) (hsc : X.env.scope = sc) (B : ScB X.N sc scope x frees js) (hi : XE X iter I) (ht : ∀ s H C fp, XTs (cxB X (x :: frees) scope s H C fp) ifs T) (he : ∀ s H C fp, XE (cxB X (x :: frees) scope s H C fp) elt F)
    (hs : ∀ v, foldedSetIterable iter X.env v = pure v := by intro _; rfl) : XE X (.ListComp elt [⟨.Name x px, iter, ifs, 0⟩] scope pos) (eLC js I T F) :=
  PE.wk (pe_lc (tt := tTt X.K T) (te := tE X.K F) hc hsc B (pi_sq hi) ht he hs) fun σ H Q hh0_ => by
    obtain ⟨c, H0, ρ, d, ρ', R, f, q⟩ := hh0_
    obtain ⟨z, xs, fr, ys, h1, h2, h3, h4, hz, rfl⟩ := eLC_inv f
    refine walk_of_data R h1 h2 fun J H1 Hh s1 R1 hy => ?_
    refine lc_of R1 h3 h4 hz hy fun vs H2 Hh2 s2 R2 r2 => fun p hp => ?_
    have S := Step.alloc (o := .lst vs) R2.same hp
    refine q _ _ _ (s1.trans (s2.trans S.s0)) (R2.after S) ?_
    unfold Rep
    exact ⟨p, vs, rfl, .inl (.inl upd_same), Reps.mono S.s0 _ r2⟩
end
noncomputable def Post (K : PySem.W.Frag) (c : FC) (Dn : Ends) (H0 : Hp) : Res → Prop
  | .nx ρ' => ∀ σ' H0' H', Same H0 H0' → RS K c H0' H' ρ' σ' → Dn.nx σ' H'
  | .rt d ρ' => ∀ v σ' H0' H', Same H0 H0' → RS K c H0' H' ρ' σ' → Rep K H0' d v → Dn.rt v H'
  | .bk ρ' => ∀ σ' H0' H', Same H0 H0' → RS K c H0' H' ρ' σ' → Dn.bk σ' H'
  | .ct ρ' => ∀ σ' H0' H', Same H0 H0' → RS K c H0' H' ρ' σ' → Dn.ct σ' H'
noncomputable def tS (K : PySem.W.Frag) (F : FS) : TS := fun Dn σ H => ∃ c H0 ρ r, RS K c H0 H ρ σ ∧ F ρ = some r ∧ Post K c Dn H0 r
noncomputable def XS (X : Cx) (st : Stmt) (F : FS) : Prop := PS X st (tS X.K F)
noncomputable def XSs (X : Cx) (sts : List Stmt) (F : FS) : Prop := PSs X sts (tS X.K F)
theorem Post.mono {K : PySem.W.Frag} {c : FC} {Dn : Ends} {H0 H1 : Hp} (s : Same H0 H1) : ∀ {r : Res}, Post K c Dn H0 r → Post K c Dn H1 r
  | .nx _, h => fun σ' H0' H' z => h σ' H0' H' (s.trans z)
  | .rt _ _, h => fun v σ' H0' H' z => h v σ' H0' H' (s.trans z)
  | .bk _, h => fun σ' H0' H' z => h σ' H0' H' (s.trans z)
  | .ct _, h => fun σ' H0' H' z => h σ' H0' H' (s.trans z)
theorem RS.set {K : PySem.W.Frag} {c : FC} {H0 H : Hp} {ρ : En} {σ : L2.St} {d : D} {v : V} (R : RS K c H0 H ρ σ) (i : Nat) (r : Rep K H0 d v) : RS K c H0 H (ρ.set i (.im d)) (σ.set i (some v)) := by
  have hl := R.len
  have other : ∀ (j : Nat) (sl : Sl), j ≠ i → (ρ.set i (.im d))[j]? = some sl → ρ[j]? = some sl := fun j sl hj e => by rwa [List.getElem?_set_ne (Ne.symm hj)] at e
  have otherS : ∀ (j : Nat), j ≠ i → (σ.set i (some v))[j]? = σ[j]? := fun j hj => List.getElem?_set_ne (Ne.symm hj)
  have same : ∀ (sl : Sl), (ρ.set i (.im d))[i]? = some sl → sl = .im d ∧ i < ρ.length := fun sl e => by
    by_cases hi : i < ρ.length
    · rw [List.getElem?_set_self hi] at e; exact ⟨(Option.some.inj e).symm, hi⟩
    · rw [List.getElem?_eq_none (by rw [List.length_set]; omega)] at e; cases e
  refine ⟨R.same, R.init, R.fresh, R.keep, R.apt, by rw [List.length_set, List.length_set, hl], fun j d' e => ?_, fun j bb o e => ?_, fun j k b1 b2 o o' a e1 e2 e3 e4 => ?_⟩
  · by_cases hj : j = i
    · subst hj
      obtain ⟨e', hi⟩ := same _ e
      cases e'
      exact ⟨v, by rw [List.getElem?_set_self (by omega)], r⟩
    · rw [otherS j hj]; exact R.im j d' (other j _ hj e)
  · by_cases hj : j = i
    · subst hj; obtain ⟨e', _⟩ := same _ e; cases e'
    · rw [otherS j hj]; exact R.ow j bb o (other j _ hj e)
  · by_cases hj : j = i
    · subst hj; obtain ⟨e', _⟩ := same _ e1; cases e'
    · by_cases hk : k = i
      · subst hk; obtain ⟨e', _⟩ := same _ e2; cases e'
      · rw [otherS j hj] at e3; rw [otherS k hk] at e4
        exact R.ne j k b1 b2 o o' a (other j _ hj e1) (other k _ hk e2) e3 e4
section
variable {X : Cx} {pos : Pos} {e : Expr} {F : FE} {T : FT} {A B : FS}
theorem xsN : XSs X [] sN := PSs.wk pss_nil fun Dn σ H hh0_ => by
  obtain ⟨c, H0, ρ, r, R, f, q⟩ := hh0_
  have f' : some (Res.nx ρ) = some r := f
  cases f'
  exact q σ H0 H (Same.refl _) R
theorem xs1 {st : Stmt} (h : XS X st A) : XSs X [st] A := pss_one h
theorem xsC {st : Stmt} {rest : List Stmt} (h1 : XS X st A) (h2 : XSs X rest B) : XSs X (st :: rest) (sSeq A B) := PSs.wk (pss_cons h1 h2) fun Dn σ H hh0_ => by
  obtain ⟨c, H0, ρ, r, R, f, q⟩ := hh0_
  unfold sSeq at f
  obtain ⟨z, h, f⟩ := bnd_eq f
  refine ⟨c, H0, ρ, z, R, h, ?_⟩
  cases z with
  | nx ρ1 => exact fun σ' H0' H' s R' => ⟨c, H0', ρ1, r, R', f, q.mono s⟩
  | rt d ρ1 => have f' : some (Res.rt d ρ1) = some r := f; cases f'; exact q
  | bk ρ1 => have f' : some (Res.bk ρ1) = some r := f; cases f'; exact q
  | ct ρ1 => have f' : some (Res.ct ρ1) = some r := f; cases f'; exact q
theorem xset (i : Nat) {x : Str} {pos' : Pos} (hN : X.N.Nodup) (he : XE X e F) (hi : X.N[i]? = some x := by rfl) (hx : Loc X.env.scope x := by first | exact Or.inl rfl | exact Or.inr rfl) (hs : swapsWith e (some (.Name x pos')) pos.line X.env = pure false := by rfl)
    (hf : X.fn x = true ∨ X.env.scope.names.lookup x = some .local := by first | exact .inl rfl | exact .inr rfl) : XS X (.Assign [.Name x pos'] e pos) (sSet i F) := PS.wk (ps_set hN hi hx he hs hf) fun Dn σ H hh0_ => by
  obtain ⟨c, H0, ρ, r, R, f, q⟩ := hh0_
  unfold sSet at f
  obtain ⟨⟨d, ρ1⟩, h1, f⟩ := bnd_eq f
  have f' : some (Res.nx (ρ1.set i (.im d))) = some r := f
  cases f'
  exact ⟨c, H0, ρ, d, ρ1, R, h1, fun v H1 Hh s1 R1 r1 => q _ H1 Hh s1 (R1.set i r1)⟩
theorem xsif {c : Expr} {a b : List Stmt} (hc : XT X c T) (ha : XSs X a A) (hb : XSs X b B) : XS X (.If c a b pos) (sIf T A B) := PS.wk (ps_if hc ha hb) fun Dn σ H hh0_ => by
  obtain ⟨c, H0, ρ, r, R, f, q⟩ := hh0_
  unfold sIf at f
  obtain ⟨⟨k, ρ1⟩, h1, f⟩ := bnd_eq f
  dsimp only at f
  refine ⟨c, H0, ρ, k, ρ1, R, h1, fun H1 Hh s1 R1 => ?_⟩
  cases k with
  | true =>
    rw [if_pos rfl] at f ⊢
    exact ⟨c, H1, ρ1, r, R1, f, q.mono s1⟩
  | false =>
    rw [if_neg Bool.false_ne_true] at f ⊢
    exact ⟨c, H1, ρ1, r, R1, f, q.mono s1⟩
theorem xret (he : XE X e F) : XS X (.Return (some e) pos) (sRet F) := PS.wk (ps_ret he) fun Dn σ H hh0_ => by
  obtain ⟨c, H0, ρ, r, R, f, q⟩ := hh0_
  unfold sRet at f
  obtain ⟨⟨d, ρ1⟩, h1, f⟩ := bnd_eq f
  have f' : some (Res.rt d ρ1) = some r := f
  cases f'
  exact ⟨c, H0, ρ, d, ρ1, R, h1, fun v H1 Hh s1 R1 r1 => q v σ H1 Hh s1 R1 r1⟩
noncomputable abbrev GD := D → En → Option En
noncomputable def tG (K : PySem.W.Frag) (g : GD) : TG := fun v σ H Q => ∃ c H0 ρ d ρ', RS K c H0 H ρ σ ∧ Rep K H0 d v ∧ g d ρ = some ρ' ∧ ∀ σ' H0' H', Same H0 H0' → RS K c H0' H' ρ' σ' → Q σ' H'
noncomputable def tGs (K : PySem.W.Frag) (is : List Nat) : TGs := fun vs σ H Q => ∃ c H0 ρ ds, RS K c H0 H ρ σ ∧ Reps K H0 ds vs ∧ ds.length = is.length ∧ ∀ σ' H0' H', Same H0 H0' → RS K c H0' H' (setAll is ds ρ) σ' → Q σ' H'
noncomputable def XG (X : Cx) (tg : Expr) (g : GD) : Prop := PG X tg (tG X.K g)
noncomputable def XGs (X : Cx) (tgs : List Expr) (is : List Nat) : Prop := PGs X tgs (tGs X.K is)
theorem xgN (i : Nat) {x : Str} (hN : X.N.Nodup) (hi : X.N[i]? = some x := by rfl) (hx : Loc X.env.scope x := by first | exact Or.inl rfl | exact Or.inr rfl) (hf : X.fn x = true ∨ X.env.scope.names.lookup x = some .local := by first | exact .inl rfl | exact .inr rfl) : XG X (.Name x pos) (gN i) :=
  fun pins s σ H v u Q I rv hh0_ => by obtain ⟨c, H0, ρ, d, ρ', R, r, f, q⟩ := hh0_; exact pg_name hN hi hx hf pins s σ H v u Q I rv (by
    have f' : some (ρ.set i (.im d)) = some ρ' := f
    cases f'
    exact q _ H0 H (Same.refl _) (R.set i r))
theorem xgs0 : XGs X [] [] := fun pins s σ H vs us Q I rv hh0_ => by obtain ⟨c, H0, ρ, ds, R, r, l, q⟩ := hh0_; exact pgs_nil pins s σ H vs us Q I rv (by
  have e : ds = [] := List.length_eq_zero_iff.mp l
  subst e
  unfold Reps at r
  exact ⟨r, q σ H0 H (Same.refl _) (by simpa [setAll_nil] using R)⟩)
theorem xgsC {e : Expr} {es : List Expr} {i : Nat} {is : List Nat} (h1 : XG X e (gN i)) (h2 : XGs X es is) (hs : (assignEach (e :: es) X.env).map (·.2) = assign e X.env :: (assignEach es X.env).map (·.2) := by rfl) : XGs X (e :: es) (i :: is) :=
  fun pins s σ H vs us Q I rv hh0_ => by obtain ⟨c, H0, ρ, ds, R, r, l, q⟩ := hh0_; exact pgs_cons h1 h2 hs pins s σ H vs us Q I rv (by
    cases ds with
    | nil => simp at l
    | cons d ds =>
      unfold Reps at r
      obtain ⟨v, vr, rfl, r1, r2⟩ := r
      refine ⟨v, vr, rfl, c, H0, ρ, d, _, R, r1, rfl, fun σ1 H1 Hh s1 R1 => ?_⟩
      exact ⟨c, H1, _, ds, R1, Reps.mono s1 _ r2, by simpa using l, fun σ2 H2 Hh2 s2 R2 => q σ2 H2 Hh2 (s1.trans s2) (by simpa [setAll_cons] using R2)⟩)
theorem assign_Tuple_list {X : Cx} {s : Shared} {E : Value → Shared → Prop} {elts : List Expr} {k : Nat} {l : Addr} {items : Array Value} {Q : Unit → Shared → Prop} (hh : X.A.handled = none) (hl : s.heap.IsList l items)
    (hn : (assignEach elts X.env).length = items.size) (hstar : (assignEach elts X.env).findIdx? (·.1) = none)
    (h : ∀ h', Heap.ExtBut s.heap.objs.size s.heap h' → wpAny (model X.prog X.w) X.A (assignInOrder ((assignEach elts X.env).map (·.2)) items.toList) Q E { s with heap := h' }) :
    wpAny (model X.prog X.w) X.A (assign (.Tuple elts k pos) X.env (.ref l)) Q E s := by
  rw [assign_Tuple]
  refine wpAny_bind (wpAny_standAt ?_)
  unfold unpack
  rw [hn, hstar]
  exact wpAny_bind (wpAny_holding (PySem.W.kun_itemsOf hh hl h))
noncomputable def gLst (K : PySem.W.Frag) (n : Nat) (t : TGs) : TG := fun v σ H Q => ∃ a xs, v = .ref a ∧ SqL K H a xs ∧ xs.length = n ∧ t xs σ H Q
theorem pg_lst {es : List Expr} {k : Nat} {t : TGs} {n : Nat} (hc : X.calm = true) (h : PGs X es t)
    (hn : (assignEach es X.env).length = n := by rfl) (hst : (assignEach es X.env).findIdx? (·.1) = none := by rfl) : PG X (.Tuple es k pos) (gLst X.K n t) := by
  intro pins s σ H v u Q I r hw
  obtain ⟨a, xs, e1, hq, hl, hw⟩ := hw
  subst e1
  cases r
  obtain ⟨its, rv, pl, hz⟩ := I.list hq
  refine assign_Tuple_list (I.ok.hd hc) pl.isList (by simp [hn, ← hl, rv.length]) hst fun h' hx => ?_
  have I1 : Inv X pins σ H { s with heap := h' } := I.kept (t' := s.toks) fun b o e => hx b o (Nat.ne_of_lt (Heap.lt_size e)) e
  exact h pins _ σ H xs _ Q I1 (by simpa using rv) hw
theorem xgT {es : List Expr} {k : Nat} {is : List Nat} (h : XGs X es is) (hc : X.calm = true := by rfl) (hn : (assignEach es X.env).length = is.length := by rfl) (hst : (assignEach es X.env).findIdx? (·.1) = none := by rfl) : XG X (.Tuple es k pos) (gT is) :=
  fun pins s σ H v u Q I rv hh0_ => by
    obtain ⟨c, H0, ρ, d, ρ', R, r, f, q⟩ := hh0_
    unfold gT at f
    obtain ⟨xs, h1, f⟩ := bnd_eq f
    split at f
    · rename_i hl
      cases f
      cases d with
      | tup ds =>
        refine pg_tup hc h hn hst pins s σ H v u Q I rv ?_
        have e : ds = xs := Option.some.inj h1
        subst e
        unfold Rep at r
        obtain ⟨a, vs, rfl, sq, r⟩ := r
        exact ⟨a, vs, rfl, Same.seqT R.same sq, by rw [← r.length]; exact hl, c, H0, ρ, ds, R, r, hl, q⟩
      | lst ds =>
        refine pg_lst hc h hn hst pins s σ H v u Q I rv ?_
        have e : ds = xs := Option.some.inj h1
        subst e
        unfold Rep at r
        obtain ⟨a, vs, rfl, sq, r⟩ := r
        exact ⟨a, vs, rfl, Same.seq R.same sq, by rw [← r.length]; exact hl, c, H0, ρ, ds, R, r, hl, q⟩
      | _ => cases h1
    · cases f
theorem xtupset {tg : Expr} {is : List Nat} (hg : XG X tg (gT is)) (he : XE X e F) (hs : swapsWithSole [tg] e pos.line X.env = pure false := by rfl) (hw : swappedStores [tg] e X.env = pure none := by rfl)
    (h1 : (assignEach [tg] X.env).map (·.2) = [assign tg X.env] := by rfl) : XS X (.Assign [tg] e pos) (sTup is F) := PS.wk (ps_asg he hg hs hw h1) fun Dn σ H hh0_ => by
  obtain ⟨c, H0, ρ, r, R, f, q⟩ := hh0_
  unfold sTup at f
  obtain ⟨⟨d, ρ1⟩, h1, f⟩ := bnd_eq f
  obtain ⟨ρ2, h2, f⟩ := bnd_eq f
  have f' : some (Res.nx ρ2) = some r := f
  cases f'
  exact ⟨c, H0, ρ, d, ρ1, R, h1, fun v H1 Hh s1 R1 r1 => ⟨c, H1, ρ1, d, ρ2, R1, r1, h2, fun σ' H2 Hh2 s2 R2 => q σ' H2 Hh2 (s1.trans s2) R2⟩⟩
theorem for_of {K : PySem.W.Frag} {c : FC} {H1 Hh : Hp} {ρ : En} {σ : L2.St} {g : GD} {B : FS} {xs : List D} {J : It} {Dn : Ends} {r : Res} (R : RS K c H1 Hh ρ σ) (hf : fGo g B xs ρ = some r) (hy : Yields K J H1 xs) (q : Post K c Dn H1 r) :
    ∃ W : Nat → Nat → L2.St → Hp → Prop, (∃ m, W 0 m σ Hh) ∧ ∀ i m σ H, W i m σ H →
      (J.stop i H ∧ Dn.nx σ H) ∨ (J.go i H ∧ ∃ N : L2.St → Hp → Prop, (∀ σ' H', N σ' H' → ∃ m', m' < m ∧ W (i + 1) m' σ' H') ∧ ∀ x H', J.yld i H x H' → tG K g x σ H' fun σ2 H2 => tS K B { Dn with nx := N, ct := N, bk := Dn.nx } σ2 H2) := by
  refine ⟨fun i m σ H => m = xs.length - i ∧ i ≤ xs.length ∧ ∃ H0 ρ, Same H1 H0 ∧ RS K c H0 H ρ σ ∧ fGo g B (xs.drop i) ρ = some r, ⟨xs.length, by simp, Nat.zero_le _, H1, ρ, Same.refl _, R, by simpa using hf⟩, ?_⟩
  rintro i m σ H ⟨rfl, hi, H0, ρ, s0, R0, hg⟩
  obtain ⟨y1, y2⟩ := hy H0 H i s0 R0.same
  by_cases hlt : i < xs.length
  · have hd : xs[i]? = some xs[i] := by simp [hlt]
    obtain ⟨go, yl⟩ := y1 _ hd
    refine .inr ⟨go, fun σ' H' => ∃ m', m' < xs.length - i ∧ m' = xs.length - (i + 1) ∧ i + 1 ≤ xs.length ∧ ∃ H0 ρ, Same H1 H0 ∧ RS K c H0 H' ρ σ' ∧ fGo g B (xs.drop (i + 1)) ρ = some r, fun σ' H' ⟨m', a, b⟩ => ⟨m', a, b⟩, fun x H' hx => ?_⟩
    obtain ⟨rfl, rx⟩ := yl x H' hx
    rw [drop_of hd, fGo_cons] at hg
    obtain ⟨ρ1, g1, hg⟩ := bnd_eq hg
    obtain ⟨z, g2, hg⟩ := bnd_eq hg
    refine ⟨c, H0, ρ, _, ρ1, R0, rx, g1, fun σ1 H2 Hh2 s2 R2 => ⟨c, H2, ρ1, z, R2, g2, ?_⟩⟩
    cases z with
    | nx ρ2 => exact fun σ' H3 Hh3 s3 R3 => ⟨_, by omega, rfl, hlt, H3, ρ2, s0.trans (s2.trans s3), R3, hg⟩
    | ct ρ2 => exact fun σ' H3 Hh3 s3 R3 => ⟨_, by omega, rfl, hlt, H3, ρ2, s0.trans (s2.trans s3), R3, hg⟩
    | bk ρ2 =>
      have hg' : some (Res.nx ρ2) = some r := hg
      cases hg'
      exact fun σ' H3 Hh3 s3 R3 => q σ' H3 Hh3 (s0.trans (s2.trans s3)) R3
    | rt d ρ2 =>
      have hg' : some (Res.rt d ρ2) = some r := hg
      cases hg'
      exact fun v σ' H3 Hh3 s3 R3 r3 => q v σ' H3 Hh3 (s0.trans (s2.trans s3)) R3 r3
  · have hn : xs.drop i = [] := List.drop_eq_nil_of_le (by omega)
    rw [hn, fGo_nil] at hg
    have hg' : some (Res.nx ρ) = some r := hg
    cases hg'
    exact .inl ⟨y2 (by omega), q σ H0 H s0 R0⟩
theorem xfor {tg iter : Expr} {body : List Stmt} {g : GD} (hg : XG X tg g) (hi : XE X iter F) (hb : XSs X body B) (hp : PassesOwn (model X.prog X.w) X.A X.env X.xe := by exact PassesOwn.never) (hc : X.calm = true := by rfl) (hs : ∀ x, foldedSetIterable iter X.env x = pure x := by intro _; rfl) :
    XS X (.For tg iter body [] pos) (sFor g F B) := PS.wk (ps_for hp hc (pi_sq hi) hg hb hs) fun Dn σ H hh0_ => by
  obtain ⟨c, H0, ρ, r, R, f, q⟩ := hh0_
  unfold sFor at f
  obtain ⟨⟨d, ρ1⟩, h1, f⟩ := bnd_eq f
  obtain ⟨xs, h2, f⟩ := bnd_eq f
  exact walk_of_data R h1 h2 fun J H1 Hh s1 R1 hy => for_of R1 f hy (q.mono s1)
theorem xforR1 {tg a : Expr} {body : List Stmt} {g : GD} {p pos' : Pos} (hm : X.mg "range" = none) (hg : XG X tg g) (ha : XE X a F) (hb : XSs X body B) (hgl : Gl X "range" := by rfl) (hp : PassesOwn (model X.prog X.w) X.A X.env X.xe := by exact PassesOwn.never) (hc : X.calm = true := by rfl)
    (hst : starEach [a] X.env = [(false, eval a X.env)] := by rfl) (hs : ∀ x, foldedSetIterable (.Call (.Name "range" p) [a] [] pos') X.env x = pure x := by intro _; rfl) :
    XS X (.For tg (.Call (.Name "range" p) [a] [] pos') body [] pos) (sForR g (rng1 F) B) := PS.wk (ps_for hp hc (pi_range1 hgl hm (pa_cons ha pa_nil hst) hst) hg hb hs) fun Dn σ H hh0_ => by
  obtain ⟨c, H0, ρ, r, R, f, q⟩ := hh0_
  unfold sForR rng1 at f
  obtain ⟨⟨xs, ρ1⟩, h1, f⟩ := bnd_eq f
  obtain ⟨⟨d, ρ2⟩, h2, h1⟩ := bnd_eq h1
  obtain ⟨j, h3, h1⟩ := bnd_eq h1
  dsimp only at h1 h3 f
  split at h1
  · rename_i hj
    cases h1
    refine ⟨c, H0, ρ, d, _, R, h2, fun v H1 Hh s1 R1 r1 => ?_⟩
    cases d with
    | int k =>
      have e : k = j := Option.some.inj h3
      subst e
      unfold Rep at r1; subst r1
      exact ⟨k, rfl, hj.1, hj.2, for_of R1 f (yields_rng 0 k.toNat) (q.mono s1)⟩
    | _ => cases h3
  · cases h1
end
theorem RS.start {K : PySem.W.Frag} {Hi H : Hp} {ds : List D} {vs : List V} {m n : Nat} (s : Same Hi H) (r : Reps K Hi ds vs) (hn : n - vs.length = m) : RS K ⟨Hi, H, []⟩ Hi H (ds.map .im ++ List.replicate m .no) (vs.map some ++ List.replicate (n - vs.length) none) := by
  have hl := r.length
  refine ⟨s, Same.refl _, fun b o e => .inl e, fun b o e _ => e, fun a h => (by cases h), ?_, fun i d e => ?_, fun i b o e => ?_, fun i j b b' o o' a e => ?_⟩
  · rw [List.length_append, List.length_append, List.length_map, List.length_map, List.length_replicate, List.length_replicate, hl, hn]
  · by_cases hi : i < ds.length
    · rw [List.getElem?_append_left (by simpa using hi), List.getElem?_map] at e
      cases z : ds[i]? with
      | none => rw [z] at e; cases e
      | some d' =>
        rw [z] at e
        have e' : d' = d := by have := Option.some.inj e; injection this
        subst e'
        obtain ⟨v, a, b⟩ := r.get z
        exact ⟨v, by rw [List.getElem?_append_left (by simp; omega), List.getElem?_map, a]; rfl, b⟩
    · rw [List.getElem?_append_right (by simpa using Nat.le_of_not_lt hi), List.getElem?_replicate] at e
      split at e <;> cases e
  · by_cases hi : i < ds.length
    · rw [List.getElem?_append_left (by simpa using hi), List.getElem?_map] at e
      cases z : ds[i]? with
      | none => rw [z] at e; cases e
      | some d' => rw [z] at e; cases e
    · rw [List.getElem?_append_right (by simpa using Nat.le_of_not_lt hi), List.getElem?_replicate] at e
      split at e <;> cases e
  · by_cases hi : i < ds.length
    · rw [List.getElem?_append_left (by simpa using hi), List.getElem?_map] at e
      cases z : ds[i]? with
      | none => rw [z] at e; cases e
      | some d' => rw [z] at e; cases e
    · rw [List.getElem?_append_right (by simpa using Nat.le_of_not_lt hi), List.getElem?_replicate] at e
      split at e <;> cases e
theorem fn_ok {P : Program} {w : World} {K : PySem.W.Frag} {mg : Str → Option Value} {base : Heap} {x qual : Str} {st : Stmt} {f : Addr} {fd : FuncData} {N ps : List Str} {k n m : Nat} {B : FS} (F : Fun K x qual st f fd) (S : FnScope N ps (defScope st)) (hn : ps.length = n) (hN : N.length = n + m)
    (hb : ∀ (cdv : Value) (A : Around) (outer : List Env) (s : Shared) (H : Hp) (E : XK), Room k (A.deeper (envOfC qual (defScope st) s.heap.objs.size f cdv)) → XSs (cxOf CX0 P w K mg base N qual (defScope st) f cdv A outer s H E).nox (defBody st) B) :
    FnOk P w K mg base CX0 (k + 1) f fd ps (spP K (fnD n m B)) := by
  have inv : ∀ {ds : List D} {d : D}, fnD n m B ds = some d → ds.length = n ∧ ∃ r, B (ds.map .im ++ List.replicate m .no) = some r ∧ retR r = some d := fun {ds d} h => by
    unfold fnD at h
    split at h
    · rename_i hl
      obtain ⟨r, h1, h2⟩ := bnd_eq h
      exact ⟨hl, r, h1, h2⟩
    · cases h
  refine F.ok S (fun vs H Q E h => ?_) (fun cdv A outer s H vs Q E hr h => ?_)
  · obtain ⟨Hi, ds, d, _, r, e, _⟩ := h
    rw [hn, ← r.length]; exact (inv e).1
  · obtain ⟨Hi, ds, d, hs, r, e, q⟩ := h
    obtain ⟨hl, res, h1, h2⟩ := inv e
    refine ⟨_, hb cdv A outer s H E hr, ⟨Hi, H, []⟩, Hi, _, res, RS.start (n := N.length) (m := m) hs r (by rw [← r.length]; omega), h1, ?_⟩
    cases res with
    | nx ρ' =>
      have e' : D.non = d := Option.some.inj h2
      subst e'
      exact fun σ' H0' H' s0 R => q .non H0' H' R.step (by unfold Rep; rfl)
    | rt d' ρ' =>
      have e' : d' = d := Option.some.inj h2
      subst e'
      exact fun v σ' H0' H' s0 R rv => q v H0' H' R.step rv
    | bk ρ' => cases h2
    | ct ρ' => cases h2
end Fx
namespace Fx
open PySem
@[simp] theorem dAdd_i (i j : Int) : dAdd (.int i) (.int j) = some (.int (i + j)) := Eq.trans rfl rfl
@[simp] theorem dAdd_l (a b : List D) : dAdd (.lst a) (.lst b) = if a.length + b.length ≤ sizeLine then some (.lst (a ++ b)) else none := Eq.trans rfl rfl
@[simp] theorem dAdd_s (a b : Str) : dAdd (.str a) (.str b) = if a.length + b.length ≤ sizeLine then some (.str (a ++ b)) else none := Eq.trans rfl rfl
@[simp] theorem dSub_i (i j : Int) : dSub (.int i) (.int j) = some (.int (i - j)) := Eq.trans rfl rfl
@[simp] theorem dMul_i (i j : Int) : dMul (.int i) (.int j) = if okMul i j = true then some (.int (i * j)) else none := Eq.trans rfl rfl
@[simp] theorem dDiv_i (i j : Int) : dDiv (.int i) (.int j) = if okDiv j = true then some (.int (i.fdiv j)) else none := Eq.trans rfl rfl
@[simp] theorem dMod_i (i j : Int) : dMod (.int i) (.int j) = if j ≠ 0 then some (.int (i.fmod j)) else none := Eq.trans rfl rfl
@[simp] theorem dPow_i (i j : Int) : dPow (.int i) (.int j) = if 0 ≤ j ∧ j ≤ 64 ∧ i.natAbs < 2 ^ 64 then some (.int (i ^ j.toNat)) else none := Eq.trans rfl rfl
@[simp] theorem dNeg_i (i : Int) : dNeg (.int i) = some (.int (-i)) := Eq.trans rfl rfl
@[simp] theorem dLt_i (i j : Int) : dLt (.int i) (.int j) = some (.bl (decide (i < j))) := Eq.trans rfl rfl
@[simp] theorem dLe_i (i j : Int) : dLe (.int i) (.int j) = some (.bl (decide (i ≤ j))) := Eq.trans rfl rfl
@[simp] theorem dGt_i (i j : Int) : dGt (.int i) (.int j) = some (.bl (decide (j < i))) := Eq.trans rfl rfl
@[simp] theorem dGe_i (i j : Int) : dGe (.int i) (.int j) = some (.bl (decide (j ≤ i))) := Eq.trans rfl rfl
@[simp] theorem dEq_ (x y : D) : dEq x y = if dpD x ≤ 30 ∧ dpD y ≤ 30 then some (.bl (eqD x y)) else none := Eq.trans rfl rfl
@[simp] theorem dNe_ (x y : D) : dNe x y = if dpD x ≤ 30 ∧ dpD y ≤ 30 then some (.bl (!eqD x y)) else none := Eq.trans rfl rfl
@[simp] theorem dIs_ (x : D) : dIs x .non = some (.bl (isN x)) := Eq.trans rfl rfl
@[simp] theorem dIsNot_ (x : D) : dIsNot x .non = some (.bl (!isN x)) := Eq.trans rfl rfl
@[simp] theorem dTru_n  : dTru .non = some false := Eq.trans rfl rfl
@[simp] theorem dTru_b (b : Bool) : dTru (.bl b) = some b := Eq.trans rfl rfl
@[simp] theorem dTru_i (i : Int) : dTru (.int i) = some (i != 0) := Eq.trans rfl rfl
@[simp] theorem dTru_l (xs : List D) : dTru (.lst xs) = some (!xs.isEmpty) := Eq.trans rfl rfl
@[simp] theorem dTru_t (xs : List D) : dTru (.tup xs) = some (!xs.isEmpty) := Eq.trans rfl rfl
@[simp] theorem dIx_t (xs : List D) (i : Int) : dIx (.tup xs) (.int i) = atD xs i := Eq.trans rfl rfl
@[simp] theorem dIx_l (xs : List D) (i : Int) : dIx (.lst xs) (.int i) = atD xs i := Eq.trans rfl rfl
@[simp] theorem dSl_l (xs : List D) (lo hi : Option Int) : dSl (.lst xs) lo hi = some (.lst (dCut xs lo hi)) := Eq.trans rfl rfl
@[simp] theorem dSl_t (xs : List D) (lo hi : Option Int) : dSl (.tup xs) lo hi = if dEnd xs.length 0 lo = 0 ∧ dEnd xs.length xs.length hi = xs.length then none else some (.tup (dCut xs lo hi)) := Eq.trans rfl rfl
@[simp] theorem bAbs_ (i : Int) : bAbs [.int i] = some (.int (i.natAbs : Int)) := congrArg (fun z => some (D.int z)) (show (if i < 0 then -i else i) = (i.natAbs : Int) by split <;> omega)
@[simp] theorem bLen_l (xs : List D) : bLen [.lst xs] = some (.int xs.length) := Eq.trans rfl rfl
@[simp] theorem bLen_t (xs : List D) : bLen [.tup xs] = some (.int xs.length) := Eq.trans rfl rfl
@[simp] theorem bMax_ (i j : Int) : bMax [.int i, .int j] = some (.int (if j > i then j else i)) := Eq.trans rfl rfl
@[simp] theorem bMin_ (i j : Int) : bMin [.int i, .int j] = some (.int (if j < i then j else i)) := Eq.trans rfl rfl
noncomputable def cnsO {α : Type} (x : α) (o : Option (List α)) : Option (List α) := bnd o fun t => some (x :: t)
@[simp] theorem cnsO_s {α : Type} (x : α) (t : List α) : cnsO x (some t) = some (x :: t) := Eq.trans rfl rfl
@[simp] theorem bools_n  : bools [] = some [] := Eq.trans rfl rfl
@[simp] theorem bools_c (b : Bool) (r : List D) : bools (.bl b :: r) = cnsO b (bools r) := Eq.trans rfl rfl
noncomputable def anyA (o : Option (List Bool)) : Option D := bnd o fun bs => some (.bl (bs.any id))
noncomputable def allA (o : Option (List Bool)) : Option D := bnd o fun bs => some (.bl (bs.all id))
@[simp] theorem anyA_s (bs : List Bool) : anyA (some bs) = some (.bl (bs.any id)) := Eq.trans rfl rfl
@[simp] theorem allA_s (bs : List Bool) : allA (some bs) = some (.bl (bs.all id)) := Eq.trans rfl rfl
@[simp] theorem bAny_ (xs : List D) : bAny [.lst xs] = anyA (bools xs) := Eq.trans rfl rfl
@[simp] theorem bAll_ (xs : List D) : bAll [.lst xs] = allA (bools xs) := Eq.trans rfl rfl
@[simp] theorem isTy_int_dct (ks : List Str) (vs : List D) : isTy .int (.dct ks vs) = false := Eq.trans rfl rfl
@[simp] theorem isTy_bool_dct (ks : List Str) (vs : List D) : isTy .bool (.dct ks vs) = false := Eq.trans rfl rfl
@[simp] theorem isTy_str_dct (ks : List Str) (vs : List D) : isTy .str (.dct ks vs) = false := Eq.trans rfl rfl
@[simp] theorem isTy_tuple_dct (ks : List Str) (vs : List D) : isTy .tuple (.dct ks vs) = false := Eq.trans rfl rfl
@[simp] theorem isTy_list_dct (ks : List Str) (vs : List D) : isTy .list (.dct ks vs) = false := Eq.trans rfl rfl
@[simp] theorem isB_dct (b : Bool) (ks : List Str) (vs : List D) : isB b (.dct ks vs) = false := Eq.trans rfl rfl
@[simp] theorem isTy_int_opq : isTy .int .opq = false := Eq.trans rfl rfl
@[simp] theorem isTy_bool_opq : isTy .bool .opq = false := Eq.trans rfl rfl
@[simp] theorem isTy_str_opq : isTy .str .opq = false := Eq.trans rfl rfl
@[simp] theorem isTy_tuple_opq : isTy .tuple .opq = false := Eq.trans rfl rfl
@[simp] theorem isTy_list_opq : isTy .list .opq = false := Eq.trans rfl rfl
@[simp] theorem isB_opq (b : Bool) : isB b .opq = false := Eq.trans rfl rfl
@[simp] theorem isTy_int_non  : isTy .int .non = false := Eq.trans rfl rfl
@[simp] theorem isTy_int_bl (b : Bool) : isTy .int (.bl b) = true := Eq.trans rfl rfl
@[simp] theorem isTy_int_int (b : Int) : isTy .int (.int b) = true := Eq.trans rfl rfl
@[simp] theorem isTy_int_str (b : Str) : isTy .int (.str b) = false := Eq.trans rfl rfl
@[simp] theorem isTy_int_tup (b : List D) : isTy .int (.tup b) = false := Eq.trans rfl rfl
@[simp] theorem isTy_int_lst (b : List D) : isTy .int (.lst b) = false := Eq.trans rfl rfl
@[simp] theorem isTy_bool_non  : isTy .bool .non = false := Eq.trans rfl rfl
@[simp] theorem isTy_bool_bl (b : Bool) : isTy .bool (.bl b) = true := Eq.trans rfl rfl
@[simp] theorem isTy_bool_int (b : Int) : isTy .bool (.int b) = false := Eq.trans rfl rfl
@[simp] theorem isTy_bool_str (b : Str) : isTy .bool (.str b) = false := Eq.trans rfl rfl
@[simp] theorem isTy_bool_tup (b : List D) : isTy .bool (.tup b) = false := Eq.trans rfl rfl
@[simp] theorem isTy_bool_lst (b : List D) : isTy .bool (.lst b) = false := Eq.trans rfl rfl
@[simp] theorem isTy_str_non  : isTy .str .non = false := Eq.trans rfl rfl
@[simp] theorem isTy_str_bl (b : Bool) : isTy .str (.bl b) = false := Eq.trans rfl rfl
@[simp] theorem isTy_str_int (b : Int) : isTy .str (.int b) = false := Eq.trans rfl rfl
@[simp] theorem isTy_str_str (b : Str) : isTy .str (.str b) = true := Eq.trans rfl rfl
@[simp] theorem isTy_str_tup (b : List D) : isTy .str (.tup b) = false := Eq.trans rfl rfl
@[simp] theorem isTy_str_lst (b : List D) : isTy .str (.lst b) = false := Eq.trans rfl rfl
@[simp] theorem isTy_tuple_non  : isTy .tuple .non = false := Eq.trans rfl rfl
@[simp] theorem isTy_tuple_bl (b : Bool) : isTy .tuple (.bl b) = false := Eq.trans rfl rfl
@[simp] theorem isTy_tuple_int (b : Int) : isTy .tuple (.int b) = false := Eq.trans rfl rfl
@[simp] theorem isTy_tuple_str (b : Str) : isTy .tuple (.str b) = false := Eq.trans rfl rfl
@[simp] theorem isTy_tuple_tup (b : List D) : isTy .tuple (.tup b) = true := Eq.trans rfl rfl
@[simp] theorem isTy_tuple_lst (b : List D) : isTy .tuple (.lst b) = false := Eq.trans rfl rfl
@[simp] theorem isTy_list_non  : isTy .list .non = false := Eq.trans rfl rfl
@[simp] theorem isTy_list_bl (b : Bool) : isTy .list (.bl b) = false := Eq.trans rfl rfl
@[simp] theorem isTy_list_int (b : Int) : isTy .list (.int b) = false := Eq.trans rfl rfl
@[simp] theorem isTy_list_str (b : Str) : isTy .list (.str b) = false := Eq.trans rfl rfl
@[simp] theorem isTy_list_tup (b : List D) : isTy .list (.tup b) = false := Eq.trans rfl rfl
@[simp] theorem isTy_list_lst (b : List D) : isTy .list (.lst b) = true := Eq.trans rfl rfl
noncomputable def mkP (o : Option D) (ρ : En) : Option (D × En) := bnd o fun d => some (d, ρ)
@[simp] theorem mkP_s (d : D) (ρ : En) : mkP (some d) ρ = some (d, ρ) := Eq.trans rfl rfl
@[simp] theorem slV_i (ρ : En) (d : D) : slV ρ (some (.im d)) = some (d, ρ) := Eq.trans rfl rfl
@[simp] theorem eV_ (i : Nat) (ρ : En) : eV i ρ = slV ρ ρ[i]? := Eq.trans rfl rfl
@[simp] theorem eC_ (d : D) (ρ : En) : eC d ρ = some (d, ρ) := Eq.trans rfl rfl
noncomputable def e1a (op : D → Option D) (o : Option (D × En)) : Option (D × En) := bnd o fun p => bnd (op p.1) fun d => some (d, p.2)
@[simp] theorem e1_ (op : D → Option D) (F : FE) (ρ : En) : e1 op F ρ = e1a op (F ρ) := Eq.trans rfl rfl
@[simp] theorem e1a_s (op : D → Option D) (x : D) (ρ : En) : e1a op (some (x, ρ)) = mkP (op x) ρ := Eq.trans rfl rfl
noncomputable def e2b (op : D → D → Option D) (x : D) (o : Option (D × En)) : Option (D × En) := bnd o fun q => bnd (op x q.1) fun d => some (d, q.2)
noncomputable def e2a (op : D → D → Option D) (G : FE) (o : Option (D × En)) : Option (D × En) := bnd o fun p => bnd (G p.2) fun q => bnd (op p.1 q.1) fun d => some (d, q.2)
@[simp] theorem e2_ (op : D → D → Option D) (F G : FE) (ρ : En) : e2 op F G ρ = e2a op G (F ρ) := Eq.trans rfl rfl
@[simp] theorem e2a_s (op : D → D → Option D) (G : FE) (x : D) (ρ : En) : e2a op G (some (x, ρ)) = e2b op x (G ρ) := Eq.trans rfl rfl
@[simp] theorem e2b_s (op : D → D → Option D) (x y : D) (ρ : En) : e2b op x (some (y, ρ)) = mkP (op x y) ρ := Eq.trans rfl rfl
noncomputable def e3c (op' : D → D → Option D) (L : FE) (y : D) (ρ : En) (o : Option D) : Option (D × En) := bnd o fun z => bnd (blB z) fun b => if b = true then bnd (L ρ) fun r => bnd (op' y r.1) fun d => some (d, r.2) else some (.bl false, ρ)
noncomputable def e3b (op op' : D → D → Option D) (L : FE) (x : D) (o : Option (D × En)) : Option (D × En) := bnd o fun q => bnd (op x q.1) fun z => bnd (blB z) fun b => if b = true then bnd (L q.2) fun r => bnd (op' q.1 r.1) fun d => some (d, r.2) else some (.bl false, q.2)
noncomputable def e3a (op op' : D → D → Option D) (G L : FE) (o : Option (D × En)) : Option (D × En) := bnd o fun p => bnd (G p.2) fun q => bnd (op p.1 q.1) fun z => bnd (blB z) fun b => if b = true then bnd (L q.2) fun r => bnd (op' q.1 r.1) fun d => some (d, r.2) else some (.bl false, q.2)
@[simp] theorem e3_ (op op' : D → D → Option D) (F G L : FE) (ρ : En) : e3 op op' F G L ρ = e3a op op' G L (F ρ) := Eq.trans rfl rfl
@[simp] theorem e3a_s (op op' : D → D → Option D) (G L : FE) (x : D) (ρ : En) : e3a op op' G L (some (x, ρ)) = e3b op op' L x (G ρ) := Eq.trans rfl rfl
@[simp] theorem e3b_s (op op' : D → D → Option D) (L : FE) (x y : D) (ρ : En) : e3b op op' L x (some (y, ρ)) = e3c op' L y ρ (op x y) := Eq.trans rfl rfl
@[simp] theorem e3c_t (op' : D → D → Option D) (L : FE) (y : D) (ρ : En) : e3c op' L y ρ (some (.bl true)) = e2b op' y (L ρ) := Eq.trans rfl rfl
@[simp] theorem e3c_f (op' : D → D → Option D) (L : FE) (y : D) (ρ : En) : e3c op' L y ρ (some (.bl false)) = some (.bl false, ρ) := Eq.trans rfl rfl
@[simp] theorem aN_ (ρ : En) : aN ρ = some ([], ρ) := Eq.trans rfl rfl
noncomputable def aCb (x : D) (o : Option (List D × En)) : Option (List D × En) := bnd o fun q => some (x :: q.1, q.2)
noncomputable def aCa (A : FA) (o : Option (D × En)) : Option (List D × En) := bnd o fun p => bnd (A p.2) fun q => some (p.1 :: q.1, q.2)
@[simp] theorem aC_ (F : FE) (A : FA) (ρ : En) : aC F A ρ = aCa A (F ρ) := Eq.trans rfl rfl
@[simp] theorem aCa_s (A : FA) (x : D) (ρ : En) : aCa A (some (x, ρ)) = aCb x (A ρ) := Eq.trans rfl rfl
@[simp] theorem aCb_s (x : D) (xs : List D) (ρ : En) : aCb x (some (xs, ρ)) = some (x :: xs, ρ) := Eq.trans rfl rfl
noncomputable def tupA (o : Option (List D × En)) : Option (D × En) := bnd o fun p => if p.1.length ≤ 1000 then some (.tup p.1, p.2) else none
@[simp] theorem eTup_ (A : FA) (ρ : En) : eTup A ρ = tupA (A ρ) := Eq.trans rfl rfl
@[simp] theorem tupA_s (xs : List D) (ρ : En) : tupA (some (xs, ρ)) = if xs.length ≤ 1000 then some (.tup xs, ρ) else none := Eq.trans rfl rfl
noncomputable def lstA (o : Option (List D × En)) : Option (D × En) := bnd o fun p => if p.1.length ≤ 1000 then some (.lst p.1, p.2) else none
@[simp] theorem eLst_ (A : FA) (ρ : En) : eLst A ρ = lstA (A ρ) := Eq.trans rfl rfl
@[simp] theorem lstA_s (xs : List D) (ρ : En) : lstA (some (xs, ρ)) = if xs.length ≤ 1000 then some (.lst xs, ρ) else none := Eq.trans rfl rfl
noncomputable def eFa (g : List D → Option D) (o : Option (List D × En)) : Option (D × En) := bnd o fun p => bnd (g p.1) fun d => some (d, p.2)
@[simp] theorem eF_ (g : List D → Option D) (A : FA) (ρ : En) : eF g A ρ = eFa g (A ρ) := Eq.trans rfl rfl
@[simp] theorem eFa_s (g : List D → Option D) (xs : List D) (ρ : En) : eFa g (some (xs, ρ)) = mkP (g xs) ρ := Eq.trans rfl rfl
noncomputable def eTya (t : Ty) (o : Option (D × En)) : Option (D × En) := bnd o fun p => some (.bl (isTy t p.1), p.2)
@[simp] theorem eTy_ (t : Ty) (F : FE) (ρ : En) : eTy t F ρ = eTya t (F ρ) := Eq.trans rfl rfl
@[simp] theorem eTya_s (t : Ty) (x : D) (ρ : En) : eTya t (some (x, ρ)) = some (.bl (isTy t x), ρ) := Eq.trans rfl rfl
@[simp] theorem oN_ (ρ : En) : oN ρ = some (none, ρ) := Eq.trans rfl rfl
noncomputable def oSa (o : Option (D × En)) : Option (Option Int × En) := bnd o fun p => bnd (intI p.1) fun i => some (some i, p.2)
@[simp] theorem oS_ (F : FE) (ρ : En) : oS F ρ = oSa (F ρ) := Eq.trans rfl rfl
@[simp] theorem oSa_s (i : Int) (ρ : En) : oSa (some (.int i, ρ)) = some (some i, ρ) := Eq.trans rfl rfl
noncomputable def eSlc (x : D) (l : Option Int) (o : Option (Option Int × En)) : Option (D × En) := bnd o fun h => bnd (dSl x l h.1) fun d => some (d, h.2)
noncomputable def eSlb (hi : FO) (x : D) (o : Option (Option Int × En)) : Option (D × En) := bnd o fun l => bnd (hi l.2) fun h => bnd (dSl x l.1 h.1) fun d => some (d, h.2)
noncomputable def eSla (lo hi : FO) (o : Option (D × En)) : Option (D × En) := bnd o fun p => bnd (lo p.2) fun l => bnd (hi l.2) fun h => bnd (dSl p.1 l.1 h.1) fun d => some (d, h.2)
@[simp] theorem eSl_ (F : FE) (lo hi : FO) (ρ : En) : eSl F lo hi ρ = eSla lo hi (F ρ) := Eq.trans rfl rfl
@[simp] theorem eSla_s (lo hi : FO) (x : D) (ρ : En) : eSla lo hi (some (x, ρ)) = eSlb hi x (lo ρ) := Eq.trans rfl rfl
@[simp] theorem eSlb_s (hi : FO) (x : D) (l : Option Int) (ρ : En) : eSlb hi x (some (l, ρ)) = eSlc x l (hi ρ) := Eq.trans rfl rfl
@[simp] theorem eSlc_s (x : D) (l h : Option Int) (ρ : En) : eSlc x l (some (h, ρ)) = mkP (dSl x l h) ρ := Eq.trans rfl rfl
noncomputable def mkB (o : Option Bool) (ρ : En) : Option (Bool × En) := bnd o fun b => some (b, ρ)
@[simp] theorem mkB_s (b : Bool) (ρ : En) : mkB (some b) ρ = some (b, ρ) := Eq.trans rfl rfl
noncomputable def tBa (o : Option (D × En)) : Option (Bool × En) := bnd o fun p => bnd (blB p.1) fun b => some (b, p.2)
@[simp] theorem tB_ (F : FE) (ρ : En) : tB F ρ = tBa (F ρ) := Eq.trans rfl rfl
@[simp] theorem tBa_s (b : Bool) (ρ : En) : tBa (some (.bl b, ρ)) = some (b, ρ) := Eq.trans rfl rfl
noncomputable def tVa (o : Option (D × En)) : Option (Bool × En) := bnd o fun p => bnd (dTru p.1) fun b => some (b, p.2)
@[simp] theorem tV_ (F : FE) (ρ : En) : tV F ρ = tVa (F ρ) := Eq.trans rfl rfl
@[simp] theorem tVa_s (x : D) (ρ : En) : tVa (some (x, ρ)) = mkB (dTru x) ρ := Eq.trans rfl rfl
noncomputable def tAnda (U : FT) (o : Option (Bool × En)) : Option (Bool × En) := bnd o fun p => if p.1 = true then U p.2 else some (false, p.2)
noncomputable def tOra (U : FT) (o : Option (Bool × En)) : Option (Bool × En) := bnd o fun p => if p.1 = true then some (true, p.2) else U p.2
noncomputable def tNota (o : Option (Bool × En)) : Option (Bool × En) := bnd o fun p => some (!p.1, p.2)
@[simp] theorem tAnd_ (T U : FT) (ρ : En) : tAnd T U ρ = tAnda U (T ρ) := Eq.trans rfl rfl
@[simp] theorem tAnda_t (U : FT) (ρ : En) : tAnda U (some (true, ρ)) = U ρ := Eq.trans rfl rfl
@[simp] theorem tAnda_f (U : FT) (ρ : En) : tAnda U (some (false, ρ)) = some (false, ρ) := Eq.trans rfl rfl
@[simp] theorem tOr_ (T U : FT) (ρ : En) : tOr T U ρ = tOra U (T ρ) := Eq.trans rfl rfl
@[simp] theorem tOra_t (U : FT) (ρ : En) : tOra U (some (true, ρ)) = some (true, ρ) := Eq.trans rfl rfl
@[simp] theorem tOra_f (U : FT) (ρ : En) : tOra U (some (false, ρ)) = U ρ := Eq.trans rfl rfl
@[simp] theorem tNot_ (T : FT) (ρ : En) : tNot T ρ = tNota (T ρ) := Eq.trans rfl rfl
@[simp] theorem tNota_s (b : Bool) (ρ : En) : tNota (some (b, ρ)) = some (!b, ρ) := Eq.trans rfl rfl
@[simp] theorem tYes_ (ρ : En) : tYes ρ = some (true, ρ) := Eq.trans rfl rfl
noncomputable def eIfa (F G : FE) (o : Option (Bool × En)) : Option (D × En) := bnd o fun p => if p.1 = true then F p.2 else G p.2
@[simp] theorem eIf_ (T : FT) (F G : FE) (ρ : En) : eIf T F G ρ = eIfa F G (T ρ) := Eq.trans rfl rfl
@[simp] theorem eIfa_t (F G : FE) (ρ : En) : eIfa F G (some (true, ρ)) = F ρ := Eq.trans rfl rfl
@[simp] theorem eIfa_f (F G : FE) (ρ : En) : eIfa F G (some (false, ρ)) = G ρ := Eq.trans rfl rfl
noncomputable def eAnda (G : FE) (o : Option (D × En)) : Option (D × En) := bnd o fun p => bnd (blB p.1) fun b => if b = true then G p.2 else some (.bl false, p.2)
noncomputable def eOra (G : FE) (o : Option (D × En)) : Option (D × En) := bnd o fun p => bnd (blB p.1) fun b => if b = true then some (.bl true, p.2) else G p.2
noncomputable def eNota (o : Option (D × En)) : Option (D × En) := bnd o fun p => bnd (blB p.1) fun b => some (.bl (!b), p.2)
@[simp] theorem eAnd_ (F G : FE) (ρ : En) : eAnd F G ρ = eAnda G (F ρ) := Eq.trans rfl rfl
@[simp] theorem eAnda_t (G : FE) (ρ : En) : eAnda G (some (.bl true, ρ)) = G ρ := Eq.trans rfl rfl
@[simp] theorem eAnda_f (G : FE) (ρ : En) : eAnda G (some (.bl false, ρ)) = some (.bl false, ρ) := Eq.trans rfl rfl
@[simp] theorem eOr_ (F G : FE) (ρ : En) : eOr F G ρ = eOra G (F ρ) := Eq.trans rfl rfl
@[simp] theorem eOra_t (G : FE) (ρ : En) : eOra G (some (.bl true, ρ)) = some (.bl true, ρ) := Eq.trans rfl rfl
@[simp] theorem eOra_f (G : FE) (ρ : En) : eOra G (some (.bl false, ρ)) = G ρ := Eq.trans rfl rfl
@[simp] theorem eNot_ (F : FE) (ρ : En) : eNot F ρ = eNota (F ρ) := Eq.trans rfl rfl
@[simp] theorem eNota_s (b : Bool) (ρ : En) : eNota (some (.bl b, ρ)) = some (.bl (!b), ρ) := Eq.trans rfl rfl
noncomputable def imA (o : Option Sl) (q : Option En) : Option En := bnd o fun s => bnd q fun r => some (s :: r)
@[simp] theorem imA_s (s : Sl) (r : En) : imA (some s) (some r) = some (s :: r) := Eq.trans rfl rfl
@[simp] theorem slI_i (d : D) : slI (some (.im d)) = some (.im d) := Eq.trans rfl rfl
@[simp] theorem imAt_n (ρ : En) : imAt ρ [] = some [] := Eq.trans rfl rfl
@[simp] theorem imAt_c (ρ : En) (j : Nat) (js : List Nat) : imAt ρ (j :: js) = imA (slI ρ[j]?) (imAt ρ js) := Eq.trans rfl rfl
noncomputable def cGb (T : FT) (F : FE) (fr : En) (r : List D) (o : Option (D × En)) : Option (List D) := bnd o fun q => bnd (cGo T F fr r) fun t => some (q.1 :: t)
noncomputable def cGa (T : FT) (F : FE) (fr : En) (r : List D) (o : Option (Bool × En)) : Option (List D) := bnd o fun p => if p.1 = true then bnd (F p.2) fun q => bnd (cGo T F fr r) fun t => some (q.1 :: t) else cGo T F fr r
@[simp] theorem cGo_n (T : FT) (F : FE) (fr : En) : cGo T F fr [] = some [] := Eq.trans rfl rfl
@[simp] theorem cGo_c (T : FT) (F : FE) (fr : En) (d : D) (r : List D) : cGo T F fr (d :: r) = cGa T F fr r (T (.im d :: fr)) := Eq.trans rfl rfl
@[simp] theorem cGa_t (T : FT) (F : FE) (fr : En) (r : List D) (ρ : En) : cGa T F fr r (some (true, ρ)) = cGb T F fr r (F ρ) := Eq.trans rfl rfl
@[simp] theorem cGa_f (T : FT) (F : FE) (fr : En) (r : List D) (ρ : En) : cGa T F fr r (some (false, ρ)) = cGo T F fr r := Eq.trans rfl rfl
@[simp] theorem cGb_s (T : FT) (F : FE) (fr : En) (r : List D) (x : D) (ρ : En) : cGb T F fr r (some (x, ρ)) = cnsO x (cGo T F fr r) := Eq.trans rfl rfl
@[simp] theorem items_l (xs : List D) : items (.lst xs) = some xs := Eq.trans rfl rfl
@[simp] theorem items_s (z : Str) : items (.str z) = some (chs z) := Eq.trans rfl rfl
@[simp] theorem items_t (xs : List D) : items (.tup xs) = some xs := Eq.trans rfl rfl
noncomputable def eLCd (ρ : En) (xs : List D) (o : Option (List D)) : Option (D × En) := bnd o fun ys => if xs.length ≤ sizeLine then some (.lst ys, ρ) else none
noncomputable def eLCc (T : FT) (F : FE) (ρ : En) (xs : List D) (o : Option En) : Option (D × En) := bnd o fun fr => eLCd ρ xs (cGo T F fr xs)
noncomputable def eLCb (js : List Nat) (T : FT) (F : FE) (ρ : En) (o : Option (List D)) : Option (D × En) := bnd o fun xs => eLCc T F ρ xs (imAt ρ js)
noncomputable def eLCa (js : List Nat) (T : FT) (F : FE) (o : Option (D × En)) : Option (D × En) := bnd o fun p => eLCb js T F p.2 (items p.1)
@[simp] theorem eLC_ (js : List Nat) (I : FE) (T : FT) (F : FE) (ρ : En) : eLC js I T F ρ = eLCa js T F (I ρ) := Eq.trans rfl rfl
@[simp] theorem eLCa_s (js : List Nat) (T : FT) (F : FE) (x : D) (ρ : En) : eLCa js T F (some (x, ρ)) = eLCb js T F ρ (items x) := Eq.trans rfl rfl
@[simp] theorem eLCb_s (js : List Nat) (T : FT) (F : FE) (ρ : En) (xs : List D) : eLCb js T F ρ (some xs) = eLCc T F ρ xs (imAt ρ js) := Eq.trans rfl rfl
@[simp] theorem eLCc_s (T : FT) (F : FE) (ρ : En) (xs : List D) (fr : En) : eLCc T F ρ xs (some fr) = eLCd ρ xs (cGo T F fr xs) := Eq.trans rfl rfl
@[simp] theorem eLCd_s (ρ : En) (xs ys : List D) : eLCd ρ xs (some ys) = if xs.length ≤ sizeLine then some (.lst ys, ρ) else none := Eq.trans rfl rfl
@[simp] theorem sN_ (ρ : En) : sN ρ = some (.nx ρ) := Eq.trans rfl rfl
noncomputable def sSeqa (G : FS) (o : Option Res) : Option Res := bnd o fun r => nxR G r
@[simp] theorem sSeq_ (F G : FS) (ρ : En) : sSeq F G ρ = sSeqa G (F ρ) := Eq.trans rfl rfl
@[simp] theorem sSeqa_n (G : FS) (ρ : En) : sSeqa G (some (.nx ρ)) = G ρ := Eq.trans rfl rfl
@[simp] theorem sSeqa_r (G : FS) (d : D) (ρ : En) : sSeqa G (some (.rt d ρ)) = some (.rt d ρ) := Eq.trans rfl rfl
@[simp] theorem sSeqa_b (G : FS) (ρ : En) : sSeqa G (some (.bk ρ)) = some (.bk ρ) := Eq.trans rfl rfl
@[simp] theorem sSeqa_c (G : FS) (ρ : En) : sSeqa G (some (.ct ρ)) = some (.ct ρ) := Eq.trans rfl rfl
noncomputable def sSeta (i : Nat) (o : Option (D × En)) : Option Res := bnd o fun p => some (.nx (p.2.set i (.im p.1)))
@[simp] theorem sSet_ (i : Nat) (F : FE) (ρ : En) : sSet i F ρ = sSeta i (F ρ) := Eq.trans rfl rfl
@[simp] theorem sSeta_s (i : Nat) (x : D) (ρ : En) : sSeta i (some (x, ρ)) = some (.nx (ρ.set i (.im x))) := Eq.trans rfl rfl
@[simp] theorem setAll_c (i : Nat) (is : List Nat) (d : D) (ds : List D) (ρ : En) : setAll (i :: is) (d :: ds) ρ = setAll is ds (ρ.set i (.im d)) := Eq.trans rfl rfl
@[simp] theorem setAll_n (ds : List D) (ρ : En) : setAll [] ds ρ = ρ := by cases ds <;> exact Eq.trans rfl rfl
@[simp] theorem tupX_l (xs : List D) : tupX (.lst xs) = some xs := Eq.trans rfl rfl
@[simp] theorem tupX_t (xs : List D) : tupX (.tup xs) = some xs := Eq.trans rfl rfl
@[simp] theorem gN_ (i : Nat) (d : D) (ρ : En) : gN i d ρ = some (ρ.set i (.im d)) := Eq.trans rfl rfl
noncomputable def gTa (is : List Nat) (ρ : En) (o : Option (List D)) : Option En := bnd o fun xs => if xs.length = is.length then some (setAll is xs ρ) else none
@[simp] theorem gT_ (is : List Nat) (d : D) (ρ : En) : gT is d ρ = gTa is ρ (tupX d) := Eq.trans rfl rfl
@[simp] theorem gTa_s (is : List Nat) (ρ : En) (xs : List D) : gTa is ρ (some xs) = if xs.length = is.length then some (setAll is xs ρ) else none := Eq.trans rfl rfl
noncomputable def sTupb (o : Option En) : Option Res := bnd o fun ρ => some (.nx ρ)
noncomputable def sTupa (is : List Nat) (o : Option (D × En)) : Option Res := bnd o fun p => sTupb (gT is p.1 p.2)
@[simp] theorem sTup_ (is : List Nat) (F : FE) (ρ : En) : sTup is F ρ = sTupa is (F ρ) := Eq.trans rfl rfl
@[simp] theorem sTupa_s (is : List Nat) (x : D) (ρ : En) : sTupa is (some (x, ρ)) = sTupb (gT is x ρ) := Eq.trans rfl rfl
@[simp] theorem sTupb_s (ρ : En) : sTupb (some ρ) = some (.nx ρ) := Eq.trans rfl rfl
noncomputable def sIfa (F G : FS) (o : Option (Bool × En)) : Option Res := bnd o fun p => if p.1 = true then F p.2 else G p.2
@[simp] theorem sIf_ (T : FT) (F G : FS) (ρ : En) : sIf T F G ρ = sIfa F G (T ρ) := Eq.trans rfl rfl
@[simp] theorem sIfa_t (F G : FS) (ρ : En) : sIfa F G (some (true, ρ)) = F ρ := Eq.trans rfl rfl
@[simp] theorem sIfa_f (F G : FS) (ρ : En) : sIfa F G (some (false, ρ)) = G ρ := Eq.trans rfl rfl
noncomputable def sReta (o : Option (D × En)) : Option Res := bnd o fun p => some (.rt p.1 p.2)
@[simp] theorem sRet_ (F : FE) (ρ : En) : sRet F ρ = sReta (F ρ) := Eq.trans rfl rfl
@[simp] theorem sReta_s (x : D) (ρ : En) : sReta (some (x, ρ)) = some (.rt x ρ) := Eq.trans rfl rfl
@[simp] theorem sRetN_ (ρ : En) : sRetN ρ = some (.rt .non ρ) := Eq.trans rfl rfl
@[simp] theorem sBk_ (ρ : En) : sBk ρ = some (.bk ρ) := Eq.trans rfl rfl
@[simp] theorem sCt_ (ρ : En) : sCt ρ = some (.ct ρ) := Eq.trans rfl rfl
noncomputable def fGb (g : D → En → Option En) (B : FS) (r : List D) (o : Option Res) : Option Res := bnd o fun z => goR (fGo g B r) z
noncomputable def fGa (g : D → En → Option En) (B : FS) (r : List D) (o : Option En) : Option Res := bnd o fun ρ1 => fGb g B r (B ρ1)
theorem fGo_c (g : D → En → Option En) (B : FS) (d : D) (r : List D) (ρ : En) : fGo g B (d :: r) ρ = fGa g B r (g d ρ) := Eq.trans rfl rfl
@[simp] theorem fGa_s (g : D → En → Option En) (B : FS) (r : List D) (ρ : En) : fGa g B r (some ρ) = fGb g B r (B ρ) := Eq.trans rfl rfl
@[simp] theorem fGb_n (g : D → En → Option En) (B : FS) (r : List D) (ρ : En) : fGb g B r (some (.nx ρ)) = fGo g B r ρ := Eq.trans rfl rfl
@[simp] theorem fGb_c (g : D → En → Option En) (B : FS) (r : List D) (ρ : En) : fGb g B r (some (.ct ρ)) = fGo g B r ρ := Eq.trans rfl rfl
@[simp] theorem fGb_b (g : D → En → Option En) (B : FS) (r : List D) (ρ : En) : fGb g B r (some (.bk ρ)) = some (.nx ρ) := Eq.trans rfl rfl
@[simp] theorem fGb_r (g : D → En → Option En) (B : FS) (r : List D) (d : D) (ρ : En) : fGb g B r (some (.rt d ρ)) = some (.rt d ρ) := Eq.trans rfl rfl
noncomputable def sForb (g : D → En → Option En) (B : FS) (ρ : En) (o : Option (List D)) : Option Res := bnd o fun xs => fGo g B xs ρ
noncomputable def sFora (g : D → En → Option En) (B : FS) (o : Option (D × En)) : Option Res := bnd o fun p => sForb g B p.2 (items p.1)
@[simp] theorem sFor_ (g : D → En → Option En) (F : FE) (B : FS) (ρ : En) : sFor g F B ρ = sFora g B (F ρ) := Eq.trans rfl rfl
@[simp] theorem sFora_s (g : D → En → Option En) (B : FS) (x : D) (ρ : En) : sFora g B (some (x, ρ)) = sForb g B ρ (items x) := Eq.trans rfl rfl
@[simp] theorem sForb_s (g : D → En → Option En) (B : FS) (ρ : En) (xs : List D) : sForb g B ρ (some xs) = fGo g B xs ρ := Eq.trans rfl rfl
noncomputable def rng1a (o : Option (D × En)) : Option (List D × En) := bnd o fun p => bnd (intI p.1) fun j => if -(2 ^ 62) ≤ j ∧ j < 2 ^ 62 then some (rngD 0 j.toNat, p.2) else none
@[simp] theorem rng1_ (F : FE) (ρ : En) : rng1 F ρ = rng1a (F ρ) := Eq.trans rfl rfl
@[simp] theorem rng1a_s (j : Int) (ρ : En) : rng1a (some (.int j, ρ)) = if -(2 ^ 62) ≤ j ∧ j < 2 ^ 62 then some (rngD 0 j.toNat, ρ) else none := Eq.trans rfl rfl
noncomputable def rng2b (x : D) (o : Option (D × En)) : Option (List D × En) := bnd o fun q => bnd (intI x) fun i => bnd (intI q.1) fun j => if -(2 ^ 62) ≤ i ∧ i < 2 ^ 62 ∧ -(2 ^ 62) ≤ j ∧ j < 2 ^ 62 then some (rngD i (j - i).toNat, q.2) else none
noncomputable def rng2a (G : FE) (o : Option (D × En)) : Option (List D × En) := bnd o fun p => rng2b p.1 (G p.2)
@[simp] theorem rng2_ (F G : FE) (ρ : En) : rng2 F G ρ = rng2a G (F ρ) := Eq.trans rfl rfl
@[simp] theorem rng2a_s (G : FE) (x : D) (ρ : En) : rng2a G (some (x, ρ)) = rng2b x (G ρ) := Eq.trans rfl rfl
@[simp] theorem rng2b_s (i j : Int) (ρ : En) : rng2b (.int i) (some (.int j, ρ)) = if -(2 ^ 62) ≤ i ∧ i < 2 ^ 62 ∧ -(2 ^ 62) ≤ j ∧ j < 2 ^ 62 then some (rngD i (j - i).toNat, ρ) else none := Eq.trans rfl rfl
noncomputable def sForRa (g : D → En → Option En) (B : FS) (o : Option (List D × En)) : Option Res := bnd o fun p => fGo g B p.1 p.2
@[simp] theorem sForR_ (g : D → En → Option En) (X : FA) (B : FS) (ρ : En) : sForR g X B ρ = sForRa g B (X ρ) := Eq.trans rfl rfl
@[simp] theorem sForRa_s (g : D → En → Option En) (B : FS) (xs : List D) (ρ : En) : sForRa g B (some (xs, ρ)) = fGo g B xs ρ := Eq.trans rfl rfl
noncomputable def wGb (T : FT) (B : FS) (n : Nat) (o : Option Res) : Option Res := bnd o fun z => goR (wGo T B n) z
noncomputable def wGa (T : FT) (B : FS) (n : Nat) (o : Option (Bool × En)) : Option Res := bnd o fun p => if p.1 = true then wGb T B n (B p.2) else some (.nx p.2)
@[simp] theorem wGa_t (T : FT) (B : FS) (n : Nat) (ρ : En) : wGa T B n (some (true, ρ)) = wGb T B n (B ρ) := Eq.trans rfl rfl
@[simp] theorem wGa_f (T : FT) (B : FS) (n : Nat) (ρ : En) : wGa T B n (some (false, ρ)) = some (.nx ρ) := Eq.trans rfl rfl
@[simp] theorem wGb_n (T : FT) (B : FS) (n : Nat) (ρ : En) : wGb T B n (some (.nx ρ)) = wGo T B n ρ := Eq.trans rfl rfl
@[simp] theorem wGb_c (T : FT) (B : FS) (n : Nat) (ρ : En) : wGb T B n (some (.ct ρ)) = wGo T B n ρ := Eq.trans rfl rfl
@[simp] theorem wGb_b (T : FT) (B : FS) (n : Nat) (ρ : En) : wGb T B n (some (.bk ρ)) = some (.nx ρ) := Eq.trans rfl rfl
@[simp] theorem wGb_r (T : FT) (B : FS) (n : Nat) (d : D) (ρ : En) : wGb T B n (some (.rt d ρ)) = some (.rt d ρ) := Eq.trans rfl rfl
@[simp] theorem sWhile_ (fuel : En → Nat) (T : FT) (B : FS) (ρ : En) : sWhile fuel T B ρ = wGo T B (fuel ρ) ρ := Eq.trans rfl rfl
noncomputable def fnA (o : Option Res) : Option D := bnd o fun r => retR r
@[simp] theorem fnA_r (d : D) (ρ : En) : fnA (some (.rt d ρ)) = some d := Eq.trans rfl rfl
@[simp] theorem fnA_n (ρ : En) : fnA (some (.nx ρ)) = some .non := Eq.trans rfl rfl
@[simp] theorem fnD_ (n k : Nat) (B : FS) (ds : List D) : fnD n k B ds = if ds.length = n then fnA (B (ds.map .im ++ List.replicate k .no)) else none := Eq.trans rfl rfl
noncomputable def oLsta (o : Option (List D × En)) : Option (List D × En) := bnd o fun p => if p.1.length ≤ 1000 then some p else none
@[simp] theorem oLst_ (A : FA) (ρ : En) : oLst A ρ = oLsta (A ρ) := Eq.trans rfl rfl
@[simp] theorem oLsta_s (xs : List D) (ρ : En) : oLsta (some (xs, ρ)) = if xs.length ≤ 1000 then some (xs, ρ) else none := Eq.trans rfl rfl
noncomputable def oIfa (A B : FA) (o : Option (Bool × En)) : Option (List D × En) := bnd o fun p => if p.1 = true then A p.2 else B p.2
@[simp] theorem oIf_ (T : FT) (A B : FA) (ρ : En) : oIf T A B ρ = oIfa A B (T ρ) := Eq.trans rfl rfl
@[simp] theorem oIfa_t (A B : FA) (ρ : En) : oIfa A B (some (true, ρ)) = A ρ := Eq.trans rfl rfl
@[simp] theorem oIfa_f (A B : FA) (ρ : En) : oIfa A B (some (false, ρ)) = B ρ := Eq.trans rfl rfl
noncomputable def sOwna (i : Nat) (o : Option (List D × En)) : Option Res := bnd o fun p => some (.nx (p.2.set i (.ow false (.lst p.1))))
@[simp] theorem sOwn_ (i : Nat) (A : FA) (ρ : En) : sOwn i A ρ = sOwna i (A ρ) := Eq.trans rfl rfl
@[simp] theorem sOwna_s (i : Nat) (xs : List D) (ρ : En) : sOwna i (some (xs, ρ)) = some (.nx (ρ.set i (.ow false (.lst xs)))) := Eq.trans rfl rfl
@[simp] theorem owL_s (ds : List D) : owL (some (.ow false (.lst ds))) = some ds := Eq.trans rfl rfl
noncomputable def sAppc (i : Nat) (x : D) (ρ : En) (o : Option (List D)) : Option Res := bnd o fun ds => if ds.length < 1000000 then some (.nx (ρ.set i (.ow false (.lst (ds ++ [x]))))) else none
noncomputable def sAppb (i : Nat) (o : Option (D × En)) : Option Res := bnd o fun p => sAppc i p.1 p.2 (owL p.2[i]?)
noncomputable def sAppa (i : Nat) (F : FE) (ρ : En) (o : Option (List D)) : Option Res := bnd o fun _ => sAppb i (F ρ)
@[simp] theorem sApp_ (i : Nat) (F : FE) (ρ : En) : sApp i F ρ = sAppa i F ρ (owL ρ[i]?) := Eq.trans rfl rfl
@[simp] theorem sAppa_s (i : Nat) (F : FE) (ρ : En) (ds : List D) : sAppa i F ρ (some ds) = sAppb i (F ρ) := Eq.trans rfl rfl
@[simp] theorem sAppb_s (i : Nat) (x : D) (ρ : En) : sAppb i (some (x, ρ)) = sAppc i x ρ (owL ρ[i]?) := Eq.trans rfl rfl
@[simp] theorem sAppc_s (i : Nat) (x : D) (ρ : En) (ds : List D) : sAppc i x ρ (some ds) = if ds.length < 1000000 then some (.nx (ρ.set i (.ow false (.lst (ds ++ [x]))))) else none := Eq.trans rfl rfl
noncomputable def frza (i : Nat) (ρ : En) : Option Sl → En
  | some (.ow false (.lst ds)) => ρ.set i (.im (.lst ds))
  | _ => ρ
@[simp] theorem frz_ (i : Nat) (ρ : En) : frz i ρ = frza i ρ ρ[i]? := by unfold frz frza; split <;> simp_all
@[simp] theorem frza_o (i : Nat) (ρ : En) (ds : List D) : frza i ρ (some (.ow false (.lst ds))) = ρ.set i (.im (.lst ds)) := Eq.trans rfl rfl
@[simp] theorem frza_i (i : Nat) (ρ : En) (d : D) : frza i ρ (some (.im d)) = ρ := Eq.trans rfl rfl
@[simp] theorem sFrz_ (i : Nat) (F : FS) (ρ : En) : sFrz i F ρ = F (frz i ρ) := Eq.trans rfl rfl
noncomputable def eLRb (T : FT) (F : FE) (ρ : En) (xs : List D) (o : Option En) : Option (D × En) := bnd o fun fr => eLCd ρ xs (cGo T F fr xs)
noncomputable def eLRa (js : List Nat) (T : FT) (F : FE) (o : Option (List D × En)) : Option (D × En) := bnd o fun p => eLRb T F p.2 p.1 (imAt p.2 js)
@[simp] theorem eLR_ (js : List Nat) (R : FA) (T : FT) (F : FE) (ρ : En) : eLR js R T F ρ = eLRa js T F (R ρ) := Eq.trans rfl rfl
@[simp] theorem eLRa_s (js : List Nat) (T : FT) (F : FE) (xs : List D) (ρ : En) : eLRa js T F (some (xs, ρ)) = eLRb T F ρ xs (imAt ρ js) := Eq.trans rfl rfl
@[simp] theorem eLRb_s (T : FT) (F : FE) (ρ : En) (xs : List D) (fr : En) : eLRb T F ρ xs (some fr) = eLCd ρ xs (cGo T F fr xs) := Eq.trans rfl rfl
@[simp] theorem isB_non (b : Bool)  : isB b .non = false := Eq.trans rfl rfl
@[simp] theorem isB_int (b : Bool) (c : Int) : isB b (.int c) = false := Eq.trans rfl rfl
@[simp] theorem isB_str (b : Bool) (c : Str) : isB b (.str c) = false := Eq.trans rfl rfl
@[simp] theorem isB_tup (b : Bool) (c : List D) : isB b (.tup c) = false := Eq.trans rfl rfl
@[simp] theorem isB_lst (b : Bool) (c : List D) : isB b (.lst c) = false := Eq.trans rfl rfl
@[simp] theorem isB_bl (b c : Bool) : isB b (.bl c) = decide (c = b) := Eq.trans rfl rfl
noncomputable def e1Ba (b n : Bool) (o : Option (D × En)) : Option (D × En) := bnd o fun p => some (.bl (if n then !isB b p.1 else isB b p.1), p.2)
@[simp] theorem e1B_ (b n : Bool) (F : FE) (ρ : En) : e1B b n F ρ = e1Ba b n (F ρ) := Eq.trans rfl rfl
@[simp] theorem e1Ba_s (b n : Bool) (x : D) (ρ : En) : e1Ba b n (some (x, ρ)) = some (.bl (if n then !isB b x else isB b x), ρ) := Eq.trans rfl rfl
end Fx
set_option maxRecDepth 100000
namespace Fx
open PySem PySem.Spec PyProof.Rows L2
theorem RS.heNone {K : PySem.W.Frag} {c : FC} {H0 H : Hp} {ρ : En} {σ : L2.St} (R : RS K c H0 H ρ σ) {p : Addr} (hp : H p = none) : c.He p = none := by
  cases q : c.He p with
  | none => rfl
  | some u =>
    by_cases hb : p ∈ c.Ap
    · exact absurd hp (R.apt p hb)
    · rw [R.keep p u q hb] at hp; cases hp
theorem RS.setOwn {K : PySem.W.Frag} {c : FC} {H0 H : Hp} {ρ : En} {σ : L2.St} {p : Addr} {u : HO} {o : MO} (R : RS K c H0 H ρ σ) (i : Nat) (hp : H p = none) (r : OwOk K H0 (upd H p u) p o) :
    RS K c H0 (upd H p u) (ρ.set i (.ow false o)) (σ.set i (some (.ref p))) := by
  have hl := R.len
  have h0 : H0 p = none := R.same.free hp
  have he := R.heNone hp
  have up : ∀ b v, H b = some v → (upd H p u) b = some v := fun b v e => by rw [upd_ne (ne_of_none e hp)]; exact e
  have other : ∀ (j : Nat) (sl : Sl), j ≠ i → (ρ.set i (.ow false o))[j]? = some sl → ρ[j]? = some sl := fun j sl hj e => by rwa [List.getElem?_set_ne (Ne.symm hj)] at e
  have otherS : ∀ (j : Nat), j ≠ i → (σ.set i (some (V.ref p)))[j]? = σ[j]? := fun j hj => List.getElem?_set_ne (Ne.symm hj)
  have same : ∀ (sl : Sl), (ρ.set i (.ow false o))[i]? = some sl → sl = .ow false o ∧ i < ρ.length := fun sl e => by
    by_cases hi : i < ρ.length
    · rw [List.getElem?_set_self hi] at e; exact ⟨(Option.some.inj e).symm, hi⟩
    · rw [List.getElem?_eq_none (by rw [List.length_set]; omega)] at e; cases e
  have ownNe : ∀ (j : Nat) (b : Bool) (o : MO) (a : Addr), ρ[j]? = some (.ow b o) → σ[j]? = some (some (.ref a)) → a ≠ p := fun j b o a e1 e2 => by
    obtain ⟨a', x, _, _, w⟩ := R.ow j b o e1
    rw [x] at e2; cases e2
    obtain ⟨u, q⟩ := w.some
    exact ne_of_none q hp
  refine ⟨fun b u e => up b u (R.same b u e), R.init, R.fresh, fun b o e n => up b o (R.keep b o e n), fun a ha e => ?_, by rw [List.length_set, List.length_set, hl], fun j d' e => ?_, fun j bb o' e => ?_, fun j k b1 b2 o1 o2 a e1 e2 e3 e4 => ?_⟩
  · cases q : H a with
    | none => exact R.apt a ha q
    | some v => rw [up a v q] at e; cases e
  · by_cases hj : j = i
    · subst hj; obtain ⟨e', _⟩ := same _ e; cases e'
    · rw [otherS j hj]; exact R.im j d' (other j _ hj e)
  · by_cases hj : j = i
    · subst hj
      obtain ⟨e', hi⟩ := same _ e
      cases e'
      exact ⟨p, by rw [List.getElem?_set_self (by omega)], h0, he, r⟩
    · rw [otherS j hj]
      obtain ⟨a, x, y, z, w⟩ := R.ow j bb o' (other j _ hj e)
      exact ⟨a, x, y, z, w.step (Same.refl _) fun v q => up a v q⟩
  · by_cases hj : j = i
    · by_cases hk : k = i
      · omega
      · subst hj
        obtain ⟨_, hi⟩ := same _ e1
        rw [List.getElem?_set_self (by omega)] at e3
        cases e3
        rw [otherS k hk] at e4
        exact absurd rfl (ownNe k b2 o2 _ (other k _ hk e2) e4)
    · by_cases hk : k = i
      · subst hk
        obtain ⟨_, hi⟩ := same _ e2
        rw [List.getElem?_set_self (by omega)] at e4
        cases e4
        rw [otherS j hj] at e3
        exact absurd rfl (ownNe j b1 o1 _ (other j _ hj e1) e3)
      · rw [otherS j hj] at e3; rw [otherS k hk] at e4
        exact R.ne j k b1 b2 o1 o2 a (other j _ hj e1) (other k _ hk e2) e3 e4
theorem RS.lent {K : PySem.W.Frag} {c : FC} {H0 H H0' H' : Hp} {ρ : En} {σ : L2.St} {a : Addr} {b : Bool} {o o' : MO} (R : RS K c H0 H ρ σ) {i : Nat} (hi : ρ[i]? = some (.ow b o)) (ha : σ[i]? = some (some (.ref a)))
    (s0 : Same H0 H0') (s' : Same H0' H') (kp : ∀ x u, H x = some u → x ≠ a → H' x = some u) (fr : ∀ x u, H0' x = some u → H0 x = some u ∨ H x = none) (r : OwOk K H0' H' a o') :
    RS K c H0' H' (ρ.set i (.ow b o')) σ := by
  obtain ⟨a', x, y, z, w⟩ := R.ow i b o hi
  rw [ha] at x; cases x
  obtain ⟨ua, qa⟩ := w.some
  have il : i < ρ.length := (List.getElem?_eq_some_iff.mp hi).1
  have n0 : ∀ x, H0 x = none → H x ≠ none → H0' x = none := fun x h1 h2 => by
    cases q : H0' x with
    | none => rfl
    | some u =>
      rcases fr x u q with h | h
      · rw [h1] at h; cases h
      · exact absurd h h2
  have other : ∀ (j : Nat) (sl : Sl), j ≠ i → (ρ.set i (.ow b o'))[j]? = some sl → ρ[j]? = some sl := fun j sl hj e => by rwa [List.getElem?_set_ne (Ne.symm hj)] at e
  have same : ∀ (sl : Sl), (ρ.set i (.ow b o'))[i]? = some sl → sl = .ow b o' := fun sl e => by
    rw [List.getElem?_set_self il] at e; exact (Option.some.inj e).symm
  have was : ∀ (j : Nat) (bb : Bool) (oo : MO), (ρ.set i (.ow b o'))[j]? = some (.ow bb oo) → ∃ bb o'', ρ[j]? = some (.ow bb o'') := fun j bb oo e => by
    by_cases hj : j = i
    · exact ⟨b, o, by rw [hj]; exact hi⟩
    · exact ⟨bb, oo, other j _ hj e⟩
  refine ⟨s', R.init.trans s0, fun x u e => ?_, fun x u e n => ?_, fun x hx e => ?_, by rw [List.length_set]; exact R.len, fun j d' e => ?_, fun j bb oo e => ?_, fun j k b1 b2 o1 o2 x e1 e2 e3 e4 => ?_⟩
  · rcases fr x u e with h | h
    · exact R.fresh x u h
    · exact .inr (R.heNone h)
  · have : x ≠ a := fun h => by
      cases b with
      | true => exact n (h ▸ z)
      | false =>
        have z' : c.He a = none := z
        rw [h, z'] at e; cases e
    exact kp x u (R.keep x u e n) this
  · by_cases h : x = a
    · obtain ⟨u, q⟩ := r.some
      rw [h, q] at e; cases e
    · cases q : H x with
      | none => exact R.apt x hx q
      | some u => rw [kp x u q h] at e; cases e
  · by_cases hj : j = i
    · subst hj; cases same _ e
    · obtain ⟨v, a1, a2⟩ := R.im j d' (other j _ hj e)
      exact ⟨v, a1, Rep.mono s0 _ a2⟩
  · by_cases hj : j = i
    · subst hj
      cases same _ e
      exact ⟨a, ha, n0 a y (by rw [qa]; intro h; cases h), z, r⟩
    · have q' := other j _ hj e
      obtain ⟨x, x1, y1, z1, w1⟩ := R.ow j bb oo q'
      have nx : x ≠ a := fun h => hj (R.ne j i bb b oo o x q' hi x1 (by rw [h]; exact ha))
      obtain ⟨u, qu⟩ := w1.some
      exact ⟨x, x1, n0 x y1 (by rw [qu]; intro h; cases h), z1, w1.step s0 fun v q => kp x v q nx⟩
  · obtain ⟨_, p, e1⟩ := was j b1 o1 e1
    obtain ⟨_, q, e2⟩ := was k b2 o2 e2
    exact R.ne j k _ _ p q x e1 e2 e3 e4
theorem RS.mutOwn {K : PySem.W.Frag} {c : FC} {H0 H : Hp} {ρ : En} {σ : L2.St} {a : Addr} {b : Bool} {o o' : MO} {u : HO} (R : RS K c H0 H ρ σ) {i : Nat} (hi : ρ[i]? = some (.ow b o)) (ha : σ[i]? = some (some (.ref a))) (r : OwOk K H0 (upd H a u) a o') :
    RS K c H0 (upd H a u) (ρ.set i (.ow b o')) σ := by
  obtain ⟨a', x, y, z, w⟩ := R.ow i b o hi
  rw [ha] at x; cases x
  refine R.lent hi ha (Same.refl _) (fun x v e => ?_) (fun x v e n => by rw [upd_ne n]; exact e) (fun x v e => .inl e) r
  have : x ≠ a := fun h => by rw [h, y] at e; cases e
  rw [upd_ne this]; exact R.same x v e
theorem RS.freeze {K : PySem.W.Frag} {c : FC} {H0 H : Hp} {ρ : En} {σ : L2.St} {ds : List D} (R : RS K c H0 H ρ σ) {i : Nat} (hi : ρ[i]? = some (.ow false (.lst ds))) :
    ∃ H0', Same H0 H0' ∧ RS K c H0' H (ρ.set i (.im (.lst ds))) σ := by
  obtain ⟨a, x, y, z, vs, e, r⟩ := R.ow i _ _ hi
  have he : c.He a = none := z
  have il : i < ρ.length := (List.getElem?_eq_some_iff.mp hi).1
  have s0 : Same H0 (upd H0 a (.lst vs)) := fun b u q => by rw [upd_ne (ne_of_none q y)]; exact q
  have other : ∀ (j : Nat) (sl : Sl), j ≠ i → (ρ.set i (.im (.lst ds)))[j]? = some sl → ρ[j]? = some sl := fun j sl hj e => by rwa [List.getElem?_set_ne (Ne.symm hj)] at e
  have same : ∀ (sl : Sl), (ρ.set i (.im (.lst ds)))[i]? = some sl → sl = .im (.lst ds) := fun sl e => by
    rw [List.getElem?_set_self il] at e; exact (Option.some.inj e).symm
  refine ⟨upd H0 a (.lst vs), s0, fun b u q => ?_, R.init.trans s0, fun b u q => ?_, R.keep, R.apt, by rw [List.length_set]; exact R.len, fun j d' q => ?_, fun j bb o' q => ?_, fun j k b1 b2 o' o'' b e1 e2 e3 e4 => ?_⟩
  · by_cases h : b = a
    · subst h; rw [upd_same] at q; cases q; exact e
    · rw [upd_ne h] at q; exact R.same b u q
  · by_cases h : b = a
    · subst h; exact .inr he
    · rw [upd_ne h] at q; exact R.fresh b u q
  · by_cases hj : j = i
    · subst hj
      cases same _ q
      refine ⟨.ref a, x, ?_⟩
      unfold Rep
      exact ⟨a, vs, rfl, .inl (.inl upd_same), Reps.mono s0 _ r⟩
    · obtain ⟨v, a1, a2⟩ := R.im j d' (other j _ hj q)
      exact ⟨v, a1, Rep.mono s0 _ a2⟩
  · by_cases hj : j = i
    · subst hj; cases same _ q
    · have q' := other j _ hj q
      obtain ⟨b, x1, y1, z1, w1⟩ := R.ow j bb o' q'
      have nb : b ≠ a := fun h => hj (R.ne j i bb false o' _ b q' hi x1 (by rw [h]; exact x))
      exact ⟨b, x1, by rw [upd_ne nb]; exact y1, z1, w1.step s0 fun u q => q⟩
  · by_cases hj : j = i
    · subst hj; cases same _ e1
    · by_cases hk : k = i
      · subst hk; cases same _ e2
      · exact R.ne j k b1 b2 o' o'' b (other j _ hj e1) (other k _ hk e2) e3 e4
noncomputable def tEo (K : PySem.W.Frag) (A : FA) : TE := fun σ H Q => ∃ c H0 ρ ds ρ', RS K c H0 H ρ σ ∧ A ρ = some (ds, ρ') ∧ ∀ p vs H0' H', Same H0 H0' → RS K c H0' H' ρ' σ → H' p = none → Reps K H0' ds vs → Q (.ref p) (upd H' p (.lst vs))
noncomputable def XO' (X : Cx) (e : Expr) (A : FA) : Prop := PE X e (tEo X.K A)
theorem owL_eq {o : Option Sl} {ds : List D} (h : owL o = some ds) : o = some (.ow false (.lst ds)) := by
  unfold owL at h
  split at h
  · cases h; rfl
  · cases h
section
variable {X : Cx} {pos : Pos} {e : Expr} {F : FE} {T : FT} {A B : FA}
theorem xoLst {es : List Expr} (h : XA X es A) : XO' X (.List es pos) (oLst A) := PE.wk (pe_lst h) fun σ H Q hh0_ => by
  obtain ⟨c, H0, ρ, ds, ρ', R, f, q⟩ := hh0_
  unfold oLst at f
  obtain ⟨⟨ds', ρ1⟩, h1, f⟩ := bnd_eq f
  obtain ⟨hl, f'⟩ := ifs f
  cases f'
  exact ⟨c, H0, ρ, ds, _, R, h1, fun vs H1 Hh s1 R1 r1 => ⟨by rw [← r1.length]; exact t1000 hl, fun p hp => q p vs H1 Hh s1 R1 hp r1⟩⟩
theorem xown (i : Nat) {x : Str} {pos' : Pos} (hN : X.N.Nodup) (he : XO' X e A) (hi : X.N[i]? = some x := by rfl) (hx : Loc X.env.scope x := by first | exact Or.inl rfl | exact Or.inr rfl) (hs : swapsWith e (some (.Name x pos')) pos.line X.env = pure false := by rfl)
    (hf : X.fn x = true ∨ X.env.scope.names.lookup x = some .local := by first | exact .inl rfl | exact .inr rfl) : XS X (.Assign [.Name x pos'] e pos) (sOwn i A) := PS.wk (ps_set hN hi hx he hs hf) fun Dn σ H hh0_ => by
  obtain ⟨c, H0, ρ, r, R, f, q⟩ := hh0_
  unfold sOwn at f
  obtain ⟨⟨ds, ρ1⟩, h1, f⟩ := bnd_eq f
  have f' : some (Res.nx (ρ1.set i (.ow false (.lst ds)))) = some r := f
  cases f'
  exact ⟨c, H0, ρ, ds, ρ1, R, h1, fun p vs H1 Hh s1 R1 hp r1 => q _ H1 _ s1 (R1.setOwn (o := .lst ds) (u := .lst vs) i hp ⟨vs, upd_same, r1⟩)⟩
theorem xapp (i : Nat) {x : Str} {p1 p2 p3 : Pos} (ha : XA X [e] (aC F aN)) (hN : X.N[i]? = some x := by rfl) (hv : Vis X.env.scope x := by first | exact Or.inl rfl | exact Or.inr (Or.inl rfl) | exact Or.inr (Or.inr rfl)) (hd : (x == ("__debug__" : Str)) = false := by decide)
    (hcd : (x == ("__classdict__" : Str)) = false := by decide) (hbase : attributeBase (.Name x p1) "append" X.env (eval (.Name x p1) X.env) = eval (.Name x p1) X.env := by rfl)
    (hfew : ((backTo p3 (starEach [e] X.env)).all (fun x => !x.1) && (backToKw p3 (keywordEach [] X.env)).all (fun x => x.1.isSome) && decide ([e].length + ([] : List Keyword).length + (if ([] : List Keyword).isEmpty then 0 else 1) < 30)) = true := by rfl)
    (hline : (p2.endLine == p3.line) = true := by rfl) (hst : starEach [e] X.env = (false, eval e X.env) :: starEach [] X.env := by rfl) (hpl : (backTo p3 (starEach [] X.env)).any (·.1) = false := by rfl)
    (hs : swapsWith (.Call (.Attribute (.Name x p1) "append" p2) [e] [] p3) none pos.line X.env = pure false := by rfl) :
    XS X (.Expr (.Call (.Attribute (.Name x p1) "append" p2) [e] [] p3) pos) (sApp i F) :=
  PS.wk (ps_expr (pe_bm PySem.F.plainAttrs_list PySem.F.slot_list_append PySem.F.type_list_append mt_append (pe_var hN hv hd hcd) ha hbase hfew hline hst hpl) hs) fun Dn σ H hh0_ => by
    obtain ⟨c, H0, ρ, r, R, f, q⟩ := hh0_
    unfold sApp at f
    obtain ⟨ds0, h0, f⟩ := bnd_eq f
    obtain ⟨⟨d, ρ1⟩, h1, f⟩ := bnd_eq f
    obtain ⟨ds, h2, f⟩ := bnd_eq f
    dsimp only at h2 f
    obtain ⟨hl, f'⟩ := ifs f
    cases f'
    obtain ⟨a, x1, _, _, vs0, y1, _⟩ := R.ow i _ _ (owL_eq h0)
    refine ⟨.ref a, x1, .inl ⟨rfl, vs0, SqL.of y1⟩, c, H0, ρ, [d], ρ1, R, by unfold aC aN; rw [h1]; rfl, fun vs H1 Hh s1 R1 r1 => ?_⟩
    obtain ⟨v, rfl, rv⟩ := Reps.v1 r1
    obtain ⟨a', x2, _, _, ws, y2, z2⟩ := R1.ow i _ _ (owL_eq h2)
    rw [x1] at x2; cases x2
    refine ⟨a, ws, v, rfl, rfl, y2, ?_, ?_⟩
    · rw [← z2.length]
      exact Nat.lt_of_lt_of_le hl (by rw [sizeLine_eq]; decide)
    · exact q σ H1 _ s1 (R1.mutOwn (o' := .lst (ds ++ [d])) (u := .lst (ws ++ [v])) (owL_eq h2) x1 ⟨_, upd_same, z2.app (Reps.one rv)⟩)
theorem xfrz (i : Nat) {st : Stmt} {G : FS} (h : XS X st G) : XS X st (sFrz i G) := PS.wk h fun Dn σ H hh0_ => by
  obtain ⟨c, H0, ρ, r, R, f, q⟩ := hh0_
  unfold sFrz frz at f
  cases z : ρ[i]? with
  | none => rw [z] at f; exact ⟨c, H0, ρ, r, R, f, q⟩
  | some sl =>
    rw [z] at f
    cases sl with
    | no => exact ⟨c, H0, ρ, r, R, f, q⟩
    | im d => exact ⟨c, H0, ρ, r, R, f, q⟩
    | ow b o =>
      cases b with
      | true => exact ⟨c, H0, ρ, r, R, f, q⟩
      | false =>
      cases o with
      | dic kds => exact ⟨c, H0, ρ, r, R, f, q⟩
      | lst ds =>
        obtain ⟨H0', s0, R'⟩ := R.freeze z
        exact ⟨c, H0', _, r, R', f, q.mono s0⟩
end
section
variable {X : Cx} {scope sc : Scope} {x : Str} {frees : List Str} {js : List Nat} {px pos p pos' : Pos} {elt a b : Expr} {ifs : List Expr} {F G I : FE} {T : FT}
end
end Fx
namespace Fx
open PySem
noncomputable def dBand : D → D → Option D
  | .int i, .int j => some (.int (Builtin.bitAnd i j))
  | _, _ => none
noncomputable def dBor : D → D → Option D
  | .int i, .int j => some (.int (Builtin.bitOr i j))
  | _, _ => none
noncomputable def dBxor : D → D → Option D
  | .int i, .int j => some (.int (Builtin.bitXor i j))
  | _, _ => none
noncomputable def dShr : D → D → Option D
  | .int i, .int j => if 0 ≤ j then some (.int (i / 2 ^ j.toNat)) else none
  | _, _ => none
noncomputable def atS (z : Str) (i : Int) : Option D := if z.length ≤ sizeLine then bnd (bnd (dPl z.cps.toList.length i) fun j => z.cps.toList[j]?) fun c => some (.str (chS c)) else none
noncomputable def dIx2 : D → D → Option D
  | .tup xs, .int i => atD xs i
  | .lst xs, .int i => atD xs i
  | .str z, .int i => atS z i
  | _, _ => none
noncomputable def bLen2 : List D → Option D
  | [.lst xs] => some (.int xs.length)
  | [.tup xs] => some (.int xs.length)
  | [.str z] => if z.length ≤ sizeLine then some (.int z.length) else none
  | _ => none
noncomputable def flatD : D → Bool
  | .opq => false
  | .dct _ _ => false
  | .tup _ => false
  | .lst _ => false
  | _ => true
noncomputable def inD (x : D) (xs : List D) : Bool := xs.any fun y => eqD y x
noncomputable def okIn (x : D) (xs : List D) : Bool := flatD x && xs.all flatD
noncomputable def dIn : D → D → Option D
  | x, .tup xs => if okIn x xs = true then some (.bl (inD x xs)) else none
  | x, .lst xs => if okIn x xs = true then some (.bl (inD x xs)) else none
  | _, _ => none
noncomputable def dNotIn : D → D → Option D
  | x, .tup xs => if okIn x xs = true then some (.bl (!inD x xs)) else none
  | x, .lst xs => if okIn x xs = true then some (.bl (!inD x xs)) else none
  | _, _ => none
noncomputable def bInt : List D → Option D
  | [.int i] => some (.int i)
  | [.bl b] => some (.int (if b then 1 else 0))
  | _ => none
noncomputable def bTuple : List D → Option D
  | [.lst xs] => some (.tup xs)
  | [.tup xs] => some (.tup xs)
  | _ => none
noncomputable def bList : List D → Option D
  | [.lst xs] => some (.lst xs)
  | [.tup xs] => some (.lst xs)
  | _ => none
@[simp] theorem dBand_i (i j : Int) : dBand (.int i) (.int j) = some (.int (Builtin.bitAnd i j)) := Eq.trans rfl rfl
@[simp] theorem dBor_i (i j : Int) : dBor (.int i) (.int j) = some (.int (Builtin.bitOr i j)) := Eq.trans rfl rfl
@[simp] theorem dBxor_i (i j : Int) : dBxor (.int i) (.int j) = some (.int (Builtin.bitXor i j)) := Eq.trans rfl rfl
@[simp] theorem dShr_i (i j : Int) : dShr (.int i) (.int j) = if 0 ≤ j then some (.int (i / 2 ^ j.toNat)) else none := Eq.trans rfl rfl
@[simp] theorem dIx2_t (xs : List D) (i : Int) : dIx2 (.tup xs) (.int i) = atD xs i := Eq.trans rfl rfl
@[simp] theorem dIx2_l (xs : List D) (i : Int) : dIx2 (.lst xs) (.int i) = atD xs i := Eq.trans rfl rfl
@[simp] theorem dIx2_s (z : Str) (i : Int) : dIx2 (.str z) (.int i) = atS z i := Eq.trans rfl rfl
@[simp] theorem bLen2_l (xs : List D) : bLen2 [.lst xs] = some (.int xs.length) := Eq.trans rfl rfl
@[simp] theorem bLen2_t (xs : List D) : bLen2 [.tup xs] = some (.int xs.length) := Eq.trans rfl rfl
@[simp] theorem bLen2_s (z : Str) : bLen2 [.str z] = if z.length ≤ sizeLine then some (.int z.length) else none := Eq.trans rfl rfl
@[simp] theorem dIn_t (x : D) (xs : List D) : dIn x (.tup xs) = if okIn x xs = true then some (.bl (inD x xs)) else none := Eq.trans rfl rfl
@[simp] theorem dIn_l (x : D) (xs : List D) : dIn x (.lst xs) = if okIn x xs = true then some (.bl (inD x xs)) else none := Eq.trans rfl rfl
@[simp] theorem dNotIn_t (x : D) (xs : List D) : dNotIn x (.tup xs) = if okIn x xs = true then some (.bl (!inD x xs)) else none := Eq.trans rfl rfl
@[simp] theorem dNotIn_l (x : D) (xs : List D) : dNotIn x (.lst xs) = if okIn x xs = true then some (.bl (!inD x xs)) else none := Eq.trans rfl rfl
@[simp] theorem bInt_i (i : Int) : bInt [.int i] = some (.int i) := Eq.trans rfl rfl
@[simp] theorem bInt_b (b : Bool) : bInt [.bl b] = some (.int (if b then 1 else 0)) := Eq.trans rfl rfl
@[simp] theorem bTuple_l (xs : List D) : bTuple [.lst xs] = some (.tup xs) := Eq.trans rfl rfl
@[simp] theorem bTuple_t (xs : List D) : bTuple [.tup xs] = some (.tup xs) := Eq.trans rfl rfl
@[simp] theorem bList_l (xs : List D) : bList [.lst xs] = some (.lst xs) := Eq.trans rfl rfl
@[simp] theorem bList_t (xs : List D) : bList [.tup xs] = some (.lst xs) := Eq.trans rfl rfl
end Fx
set_option maxRecDepth 100000
namespace Fx
open PySem PySem.Spec PyProof.Rows L2
section
variable {X : Cx} {K : PySem.W.Frag}
theorem rep_str (H : Hp) (x : Str) : Rep K H (.str x) (.str x) := by unfold Rep; rfl
theorem ixD2 : OpD K (rIx K) dIx2 := fun c H0 H ρ σ x y d vx vy Q R r1 r2 e q => by
  cases y with
  | int i =>
    unfold Rep at r2; subst r2
    cases x with
    | tup ds =>
      unfold Rep at r1
      obtain ⟨p, vs, rfl, s, t⟩ := r1
      obtain ⟨v, e1, e2⟩ := at_of t e
      exact .inr (.inl ⟨p, vs, i, v, rfl, rfl, Same.seqT R.same s, e1, q v H0 H (Same.refl _) R e2⟩)
    | lst ds =>
      unfold Rep at r1
      obtain ⟨p, vs, rfl, s, t⟩ := r1
      obtain ⟨v, e1, e2⟩ := at_of t e
      exact .inl ⟨p, vs, i, v, rfl, rfl, Same.seq R.same s, e1, q v H0 H (Same.refl _) R e2⟩
    | str z =>
      unfold Rep at r1; subst r1
      have e : atS z i = some d := e
      unfold atS at e
      by_cases hz : z.length ≤ sizeLine
      · rw [if_pos hz] at e
        obtain ⟨ch, e1, e2⟩ := bnd_eq e
        have e2 : some (D.str (chS ch)) = some d := e2
        cases e2
        exact .inr (.inr ⟨z, i, ch, rfl, rfl, hz, e1, q _ H0 H (Same.refl _) R (rep_str H0 (chS ch))⟩)
      · rw [if_neg hz] at e; cases e
    | _ => cases e
  | _ => cases x <;> cases e
variable {a b : Expr} {F G : FE} {pos : Pos}
theorem xix2 (ha : XE X a F) (hb : XE X b G) (hs : PlainIx b := by intro _ _; rfl) : XE X (.Subscript a b pos) (e2 dIx2 F G) := PE.wk (pe_ix ix_seq ha hb hs) fun σ H Q h => two_of ixD2 h
theorem callLen2 : BOk X (.builtin "len") bLen2 := ⟨_, call_len_seq.or call_len_str, fun c H0 H ρ σ ds d vs Q R r e q => by
  unfold bLen2 at e
  split at e
  · cases e
    obtain ⟨v, rfl, rv⟩ := Reps.v1 r
    unfold Rep at rv
    obtain ⟨p, ws, rfl, s, t⟩ := rv
    exact .inl ⟨p, ws, rfl, .inl (Same.seq R.same s), by rw [← t.length]; exact q _ H0 H (Same.refl _) R (rep_int _ _)⟩
  · cases e
    obtain ⟨v, rfl, rv⟩ := Reps.v1 r
    unfold Rep at rv
    obtain ⟨p, ws, rfl, s, t⟩ := rv
    exact .inl ⟨p, ws, rfl, .inr (Same.seqT R.same s), by rw [← t.length]; exact q _ H0 H (Same.refl _) R (rep_int _ _)⟩
  · rename_i z
    obtain ⟨hz, rfl⟩ := ifs e
    obtain ⟨v, rfl, rv⟩ := Reps.v1 r
    unfold Rep at rv; subst rv
    exact .inr ⟨z, rfl, hz, q _ H0 H (Same.refl _) R (rep_int _ _)⟩
  · cases e⟩
theorem xTy {T : String} {g : List D → Option D} {A : FA} {x : Str} {p : Pos} {e : Expr} {es : List Expr} (o : BOk X (.type T) g) (hg : Gl X x) (hm : X.mg x = none) (hv : bootBuiltins x = some (.type T)) (ha : XA X (e :: es) A) (hn : x ≠ "__name__" := by decide) (hdb : (x == ("__debug__" : Str)) = false := by decide)
    (he : starEach (e :: es) X.env = (false, eval e X.env) :: starEach es X.env := by rfl) (hpl : (backTo pos (starEach es X.env)).any (·.1) = false := by rfl) : XE X (.Call (.Name x p) (e :: es) [] pos) (eF g A) := by
  obtain ⟨r, h1, h2⟩ := o
  exact PE.wk (pe_callTy h1 hg hm hv ha hn hdb he hpl) fun σ H Q h => eF_of h2 h
theorem callInt : BOk X (.type "int") bInt := ⟨_, call_int1, fun c H0 H ρ σ ds d vs Q R r e q => by
  unfold bInt at e
  split at e
  · cases e
    obtain ⟨v, rfl, rv⟩ := Reps.v1 r
    unfold Rep at rv; subst rv
    exact .inl ⟨_, rfl, q _ H0 H (Same.refl _) R (rep_int _ _)⟩
  · cases e
    obtain ⟨v, rfl, rv⟩ := Reps.v1 r
    unfold Rep at rv; subst rv
    exact .inr ⟨_, rfl, q _ H0 H (Same.refl _) R (rep_int _ _)⟩
  · cases e⟩
theorem flat_rep {H : Hp} {d : D} {v : V} (h : flatD d = true) (r : Rep K H d v) : flatV v = true ∧ ∀ d' v', flatD d' = true → Rep K H d' v' → eqV v v' = eqD d d' := by
  cases d with
  | tup xs => cases h
  | lst xs => cases h
  | opq => cases h
  | dct ks vs => cases h
  | _ =>
    unfold Rep at r
    subst r
    refine ⟨rfl, fun d' v' h' r' => ?_⟩
    cases d' with
    | tup xs => cases h'
    | lst xs => cases h'
    | opq => cases h'
    | dct ks vs => cases h'
    | _ =>
      unfold Rep at r'
      subst r'
      first
        | (simp [eqV]; done)
        | (simp [eqV, eqD]; done)
        | (simp [eqV, eqD, Bool.beq_eq_decide_eq]; done)
        | (unfold eqV; simp)
theorem in_rep {H : Hp} {x : D} {v : V} (hx : flatD x = true) (r : Rep K H x v) : ∀ {ds : List D} {vs : List V}, ds.all flatD = true → Reps K H ds vs → vs.all flatV = true ∧ inV v vs = inD x ds
  | [], vs, _, t => by
    unfold Reps at t; subst t; exact ⟨rfl, rfl⟩
  | d :: ds, vs, h, t => by
    unfold Reps at t
    obtain ⟨u, us, rfl, t1, t2⟩ := t
    rw [List.all_cons, Bool.and_eq_true] at h
    obtain ⟨i1, i2⟩ := in_rep hx r h.2 t2
    obtain ⟨f1, f2⟩ := flat_rep h.1 t1
    refine ⟨by rw [List.all_cons, f1, i1]; rfl, ?_⟩
    unfold inV inD at *
    rw [List.any_cons, List.any_cons, f2 x v hx r, i2]
theorem inD_op {neg : Bool} {f : D → D → Option D} (hf : ∀ x y d, f x y = some d → ∃ xs, (y = .tup xs ∨ y = .lst xs) ∧ okIn x xs = true ∧ d = .bl (if neg then !inD x xs else inD x xs)) : OpD K (rIn K neg) f := fun c H0 H ρ σ x y d vx vy Q R r1 r2 e q => by
  obtain ⟨xs, hy, ok, rfl⟩ := hf x y d e
  unfold okIn at ok
  rw [Bool.and_eq_true] at ok
  rcases hy with rfl | rfl
  · unfold Rep at r2
    obtain ⟨p, ws, rfl, s, t⟩ := r2
    obtain ⟨i1, i2⟩ := in_rep ok.1 r1 ok.2 t
    exact ⟨p, ws, rfl, .inr (Same.seqT R.same s), (flat_rep ok.1 r1).1, i1, by rw [i2]; exact q _ H0 H (Same.refl _) R (rep_bl _ _)⟩
  · unfold Rep at r2
    obtain ⟨p, ws, rfl, s, t⟩ := r2
    obtain ⟨i1, i2⟩ := in_rep ok.1 r1 ok.2 t
    exact ⟨p, ws, rfl, .inl (Same.seq R.same s), (flat_rep ok.1 r1).1, i1, by rw [i2]; exact q _ H0 H (Same.refl _) R (rep_bl _ _)⟩
end
end Fx
namespace Fx
open PySem
noncomputable def getK (k : Str) : List (Str × D) → Option D
  | [] => none
  | q :: r => if q.1 = k then some q.2 else getK k r
noncomputable def setK (k : Str) (d : D) : List (Str × D) → List (Str × D)
  | [] => []
  | q :: r => (if q.1 = k then (q.1, d) else q) :: setK k d r
noncomputable def owO : Option Sl → Option (Bool × MO)
  | some (.ow b o) => some (b, o)
  | _ => none
noncomputable def owD : Option Sl → Option (Bool × List (Str × D))
  | some (.ow b (.dic kds)) => some (b, kds)
  | _ => none
noncomputable def eDG (i : Nat) (k : Str) (ρ : En) : Option (D × En) := bnd (owD ρ[i]?) fun p => bnd (getK k p.2) fun d => some (d, ρ)
noncomputable def sDP (i : Nat) (k : Str) (F : FE) (ρ : En) : Option Res := bnd (F ρ) fun p => bnd (owD p.2[i]?) fun q => bnd (getK k q.2) fun _ => if q.2.length < 100 then some (.nx (p.2.set i (.ow q.1 (.dic (setK k p.1 q.2))))) else none
noncomputable def eFb (i : Nat) (g : MO → List D → Option (D × MO)) (A : FA) (ρ : En) : Option (D × En) := bnd (owO ρ[i]?) fun _ => bnd (A ρ) fun p => bnd (owO p.2[i]?) fun q => bnd (g q.2 p.1) fun z => some (z.1, p.2.set i (.ow q.1 z.2))
noncomputable def retB : Res → Option (D × MO)
  | .rt d ρ => bnd (owO ρ[0]?) fun q => if q.1 = true then some (d, q.2) else none
  | .nx ρ => bnd (owO ρ[0]?) fun q => if q.1 = true then some (.non, q.2) else none
  | _ => none
noncomputable def fnB (n k : Nat) (B : FS) (o : MO) (ds : List D) : Option (D × MO) := if ds.length = n then bnd (B (.ow true o :: (ds.map .im ++ List.replicate k .no))) fun r => retB r else none
noncomputable def noOw : Sl → Bool
  | .ow _ _ => false
  | _ => true
noncomputable def nRet (ks : List Str) (A : FA) (ρ : En) : Option MO := if ρ.all noOw = true then bnd (A ρ) fun p => if p.1.length = ks.length ∧ ks.length ≤ 15 ∧ ks.Nodup then some (.dic (ks.zip p.1)) else none else none
noncomputable def nSeq (A : FS) (F : En → Option MO) (ρ : En) : Option MO := bnd (A ρ) fun r => match r with
  | .nx ρ' => F ρ'
  | _ => none
noncomputable def fnN (n k : Nat) (F : En → Option MO) (ds : List D) : Option MO := if ds.length = n then F (ds.map .im ++ List.replicate k .no) else none
noncomputable def sNew (i : Nat) (g : List D → Option MO) (A : FA) (ρ : En) : Option Res := bnd (A ρ) fun p => bnd (g p.1) fun o => some (.nx (p.2.set i (.ow false o)))
@[simp] theorem owO_s (b : Bool) (o : MO) : owO (some (.ow b o)) = some (b, o) := Eq.trans rfl rfl
@[simp] theorem owD_s (b : Bool) (o : List (Str × D)) : owD (some (.ow b (.dic o))) = some (b, o) := Eq.trans rfl rfl
noncomputable def eDGa (k : Str) (ρ : En) (o : Option (Bool × List (Str × D))) : Option (D × En) := bnd o fun p => bnd (getK k p.2) fun d => some (d, ρ)
@[simp] theorem eDG_ (i : Nat) (k : Str) (ρ : En) : eDG i k ρ = eDGa k ρ (owD ρ[i]?) := Eq.trans rfl rfl
@[simp] theorem eDGa_s (k : Str) (ρ : En) (b : Bool) (kds : List (Str × D)) : eDGa k ρ (some (b, kds)) = mkP (getK k kds) ρ := Eq.trans rfl rfl
noncomputable def sDPc (i : Nat) (k : Str) (d : D) (ρ : En) (b : Bool) (kds : List (Str × D)) (o : Option D) : Option Res := bnd o fun _ => if kds.length < 100 then some (.nx (ρ.set i (.ow b (.dic (setK k d kds))))) else none
noncomputable def sDPb (i : Nat) (k : Str) (d : D) (ρ : En) (o : Option (Bool × List (Str × D))) : Option Res := bnd o fun q => sDPc i k d ρ q.1 q.2 (getK k q.2)
noncomputable def sDPa (i : Nat) (k : Str) (o : Option (D × En)) : Option Res := bnd o fun p => sDPb i k p.1 p.2 (owD p.2[i]?)
@[simp] theorem sDP_ (i : Nat) (k : Str) (F : FE) (ρ : En) : sDP i k F ρ = sDPa i k (F ρ) := Eq.trans rfl rfl
@[simp] theorem sDPa_s (i : Nat) (k : Str) (d : D) (ρ : En) : sDPa i k (some (d, ρ)) = sDPb i k d ρ (owD ρ[i]?) := Eq.trans rfl rfl
@[simp] theorem sDPb_s (i : Nat) (k : Str) (d : D) (ρ : En) (b : Bool) (kds : List (Str × D)) : sDPb i k d ρ (some (b, kds)) = sDPc i k d ρ b kds (getK k kds) := Eq.trans rfl rfl
@[simp] theorem sDPc_s (i : Nat) (k : Str) (d : D) (ρ : En) (b : Bool) (kds : List (Str × D)) (z : D) : sDPc i k d ρ b kds (some z) = if kds.length < 100 then some (.nx (ρ.set i (.ow b (.dic (setK k d kds))))) else none := Eq.trans rfl rfl
noncomputable def eFbd (i : Nat) (ρ : En) (b : Bool) (o : Option (D × MO)) : Option (D × En) := bnd o fun z => some (z.1, ρ.set i (.ow b z.2))
noncomputable def eFbc (i : Nat) (g : MO → List D → Option (D × MO)) (ds : List D) (ρ : En) (o : Option (Bool × MO)) : Option (D × En) := bnd o fun q => eFbd i ρ q.1 (g q.2 ds)
noncomputable def eFbb (i : Nat) (g : MO → List D → Option (D × MO)) (o : Option (List D × En)) : Option (D × En) := bnd o fun p => eFbc i g p.1 p.2 (owO p.2[i]?)
noncomputable def eFba (i : Nat) (g : MO → List D → Option (D × MO)) (A : FA) (ρ : En) (o : Option (Bool × MO)) : Option (D × En) := bnd o fun _ => eFbb i g (A ρ)
@[simp] theorem eFb_ (i : Nat) (g : MO → List D → Option (D × MO)) (A : FA) (ρ : En) : eFb i g A ρ = eFba i g A ρ (owO ρ[i]?) := Eq.trans rfl rfl
@[simp] theorem eFba_s (i : Nat) (g : MO → List D → Option (D × MO)) (A : FA) (ρ : En) (q : Bool × MO) : eFba i g A ρ (some q) = eFbb i g (A ρ) := Eq.trans rfl rfl
@[simp] theorem eFbb_s (i : Nat) (g : MO → List D → Option (D × MO)) (ds : List D) (ρ : En) : eFbb i g (some (ds, ρ)) = eFbc i g ds ρ (owO ρ[i]?) := Eq.trans rfl rfl
@[simp] theorem eFbc_s (i : Nat) (g : MO → List D → Option (D × MO)) (ds : List D) (ρ : En) (b : Bool) (o : MO) : eFbc i g ds ρ (some (b, o)) = eFbd i ρ b (g o ds) := Eq.trans rfl rfl
@[simp] theorem eFbd_s (i : Nat) (ρ : En) (b : Bool) (d : D) (o : MO) : eFbd i ρ b (some (d, o)) = some (d, ρ.set i (.ow b o)) := Eq.trans rfl rfl
noncomputable def sNewb (i : Nat) (ρ : En) (o : Option MO) : Option Res := bnd o fun o => some (.nx (ρ.set i (.ow false o)))
noncomputable def sNewa (i : Nat) (g : List D → Option MO) (o : Option (List D × En)) : Option Res := bnd o fun p => sNewb i p.2 (g p.1)
@[simp] theorem sNew_ (i : Nat) (g : List D → Option MO) (A : FA) (ρ : En) : sNew i g A ρ = sNewa i g (A ρ) := Eq.trans rfl rfl
@[simp] theorem sNewa_s (i : Nat) (g : List D → Option MO) (ds : List D) (ρ : En) : sNewa i g (some (ds, ρ)) = sNewb i ρ (g ds) := Eq.trans rfl rfl
@[simp] theorem sNewb_s (i : Nat) (ρ : En) (o : MO) : sNewb i ρ (some o) = some (.nx (ρ.set i (.ow false o))) := Eq.trans rfl rfl
end Fx
set_option maxRecDepth 100000
namespace Fx
open PySem PySem.Spec PyProof.Rows L2
noncomputable def zipD (ks : List Str) (vs : List V) : List (Key × V) := (ks.map Sum.inr).zip vs
theorem zipD_cons (k : Str) (ks : List Str) (v : V) (vs : List V) : zipD (k :: ks) (v :: vs) = (Sum.inr k, v) :: zipD ks vs := rfl
section
variable {K : PySem.W.Frag} {H : Hp}
theorem val_of {k : Str} {d : D} : ∀ {kds : List (Str × D)} {vs : List V}, Reps K H (kds.map (·.2)) vs → getK k kds = some d → ∃ v, valV (zipD (kds.map (·.1)) vs) (.inr k) = some v ∧ Rep K H d v
  | [], _, _, e => by cases e
  | q :: r, vs, t, e => by
    rw [List.map_cons] at t
    unfold Reps at t
    obtain ⟨v, vr, rfl, t1, t2⟩ := t
    rw [List.map_cons, zipD_cons]
    unfold getK at e
    by_cases hk : q.1 = k
    · rw [if_pos hk] at e
      cases e
      exact ⟨v, valV_pos (by rw [hk]), t1⟩
    · rw [if_neg hk] at e
      obtain ⟨u, e1, e2⟩ := val_of t2 e
      exact ⟨u, by rw [valV_neg fun z => hk (Sum.inr.inj z)]; exact e1, e2⟩
theorem map_of {k : Str} {d : D} {v : V} (rv : Rep K H d v) : ∀ {kds : List (Str × D)} {vs : List V}, Reps K H (kds.map (·.2)) vs → ∃ vs', (zipD (kds.map (·.1)) vs).map (fun kv => if kv.1 = Sum.inr k then (kv.1, v) else kv) = zipD ((setK k d kds).map (·.1)) vs' ∧ Reps K H ((setK k d kds).map (·.2)) vs'
  | [], vs, t => ⟨[], rfl, Reps.nil_⟩
  | q :: r, vs, t => by
    rw [List.map_cons] at t
    unfold Reps at t
    obtain ⟨u, ur, rfl, t1, t2⟩ := t
    obtain ⟨vs', e1, e2⟩ := map_of rv t2
    unfold setK
    rw [List.map_cons, zipD_cons, List.map_cons, e1]
    by_cases hk : q.1 = k
    · refine ⟨v :: vs', ?_, ?_⟩
      · rw [if_pos (show (Sum.inr q.1 : Key) = Sum.inr k by rw [hk]), if_pos hk]; rfl
      · rw [if_pos hk]; exact Reps.cons rv e2
    · refine ⟨u :: vs', ?_, ?_⟩
      · rw [if_neg (show ¬ (Sum.inr q.1 : Key) = Sum.inr k from fun z => hk (Sum.inr.inj z)), if_neg hk]; rfl
      · rw [if_neg hk]; exact Reps.cons t1 e2
theorem put_of {k : Str} {d d0 : D} {v : V} {kds : List (Str × D)} {vs : List V} (rv : Rep K H d v) (t : Reps K H (kds.map (·.2)) vs) (h : getK k kds = some d0) :
    ∃ vs', putK (zipD (kds.map (·.1)) vs) (.inr k) v = zipD ((setK k d kds).map (·.1)) vs' ∧ Reps K H ((setK k d kds).map (·.2)) vs' := by
  obtain ⟨u, e, _⟩ := val_of t h
  obtain ⟨vs', e1, e2⟩ := map_of (k := k) rv t
  refine ⟨vs', ?_, e2⟩
  unfold putK
  rw [valV_any, e, if_pos (show (some u).isSome = true from rfl)]
  exact e1
end
theorem owD_eq {o : Option Sl} {q : Bool × List (Str × D)} (h : owD o = some q) : o = some (.ow q.1 (.dic q.2)) := by
  unfold owD at h
  split at h
  · cases h; rfl
  · cases h
section
variable {X : Cx} {pos : Pos} {e : Expr} {F : FE} {A : FA}
theorem lt100 {n : Nat} (h : n < 100) : n < sizeLine := small1000 (by omega)
theorem zipD_len {K : PySem.W.Frag} {H : Hp} {kds : List (Str × D)} {vs : List V} (t : Reps K H (kds.map (·.2)) vs) : (zipD (kds.map (·.1)) vs).length = kds.length := by
  have hl := t.length
  rw [List.length_map] at hl
  unfold zipD
  rw [List.length_zip, List.length_map, List.length_map, ← hl, Nat.min_self]
noncomputable def spB (K : PySem.W.Frag) (g : MO → List D → Option (D × MO)) : Sp := fun vs H Q _ => ∃ Hi a o vr ds d o', vs = .ref a :: vr ∧ Same Hi H ∧ Hi a = none ∧ OwOk K Hi H a o ∧ Reps K Hi ds vr ∧ g o ds = some (d, o') ∧
  ∀ v Hi' H', Same Hi Hi' → Same Hi' H' → (∀ b u, H b = some u → b ≠ a → H' b = some u) → (∀ b u, Hi' b = some u → Hi b = some u ∨ H b = none) → OwOk K Hi' H' a o' → Rep K Hi' d v → Q v H'
structure DefB (P : Program) (w : World) (K : PySem.W.Frag) (mg : Str → Option Value) (base : Heap) (k : Nat) (x : Str) (g : MO → List D → Option (D × MO)) : Prop where
  ex : ∃ f fd ps, FnOk P w K mg base CX0 k f fd ps (spB K g) ∧ Binds K fd ps [] ∧ PySem.W.keepIn K (.ref f) = true ∧ mg x = some (.ref f)
end
end Fx
set_option maxRecDepth 100000
namespace Fx
open PySem PySem.Spec PyProof.Rows L2
noncomputable def NewAt (K : PySem.W.Frag) (Hi H : Hp) (o : MO) (a : Addr) (Hi' H' : Hp) : Prop :=
  Same Hi Hi' ∧ Same Hi' H' ∧ Same H H' ∧ (∀ b u, Hi' b = some u → Hi b = some u ∨ H b = none) ∧ Hi' a = none ∧ H a = none ∧ OwOk K Hi' H' a o
noncomputable def spN (K : PySem.W.Frag) (g : List D → Option MO) : Sp := fun vs H Q _ => ∃ Hi ds o, Same Hi H ∧ Reps K Hi ds vs ∧ g ds = some o ∧ ∀ a Hi' H', NewAt K Hi H o a Hi' H' → Q (.ref a) H'
structure DefN (P : Program) (w : World) (K : PySem.W.Frag) (mg : Str → Option Value) (base : Heap) (k : Nat) (x : Str) (g : List D → Option MO) : Prop where
  ex : ∃ f fd ps, FnOk P w K mg base CX0 k f fd ps (spN K g) ∧ Binds K fd ps [] ∧ PySem.W.keepIn K (.ref f) = true ∧ mg x = some (.ref f)
section
variable {X : Cx} {pos : Pos} {e : Expr} {F : FE} {A : FA}
noncomputable def tN (K : PySem.W.Frag) (F : En → Option MO) : TS := fun Dn σ H => ∃ Hi He H0 ρ o, RS K ⟨Hi, He, []⟩ H0 H ρ σ ∧ F ρ = some o ∧ ∀ a H0' H', NewAt K Hi He o a H0' H' → Dn.rt (.ref a) H'
end
end Fx
namespace Fx
open PySem
noncomputable def dSl2 : D → Option Int → Option Int → Option D
  | .lst xs, lo, hi => some (.lst (dCut xs lo hi))
  | .tup xs, lo, hi => if dEnd xs.length 0 lo = 0 ∧ dEnd xs.length xs.length hi = xs.length then none else some (.tup (dCut xs lo hi))
  | .str z, lo, hi => if z.length ≤ sizeLine then some (.str (Txt.slice z lo hi)) else none
  | _, _, _ => none
noncomputable def eSl2 (F : FE) (lo hi : FO) (ρ : En) : Option (D × En) := bnd (F ρ) fun p => bnd (lo p.2) fun l => bnd (hi l.2) fun h => bnd (dSl2 p.1 l.1 h.1) fun d => some (d, h.2)
noncomputable def inS (x z : Str) : Bool := !(Builtin.Str.occurrences z x 0 z.length 1).isEmpty
noncomputable def dIn2 : D → D → Option D
  | x, .tup xs => if okIn x xs = true then some (.bl (inD x xs)) else none
  | x, .lst xs => if okIn x xs = true then some (.bl (inD x xs)) else none
  | .str x, .str z => some (.bl (inS x z))
  | _, _ => none
noncomputable def dNotIn2 : D → D → Option D
  | x, .tup xs => if okIn x xs = true then some (.bl (!inD x xs)) else none
  | x, .lst xs => if okIn x xs = true then some (.bl (!inD x xs)) else none
  | .str x, .str z => some (.bl (!inS x z))
  | _, _ => none
noncomputable def eSl2c (x : D) (l : Option Int) (o : Option (Option Int × En)) : Option (D × En) := bnd o fun h => bnd (dSl2 x l h.1) fun d => some (d, h.2)
noncomputable def eSl2b (hi : FO) (x : D) (o : Option (Option Int × En)) : Option (D × En) := bnd o fun l => bnd (hi l.2) fun h => bnd (dSl2 x l.1 h.1) fun d => some (d, h.2)
noncomputable def eSl2a (lo hi : FO) (o : Option (D × En)) : Option (D × En) := bnd o fun p => bnd (lo p.2) fun l => bnd (hi l.2) fun h => bnd (dSl2 p.1 l.1 h.1) fun d => some (d, h.2)
@[simp] theorem eSl2_ (F : FE) (lo hi : FO) (ρ : En) : eSl2 F lo hi ρ = eSl2a lo hi (F ρ) := Eq.trans rfl rfl
@[simp] theorem eSl2a_s (lo hi : FO) (x : D) (ρ : En) : eSl2a lo hi (some (x, ρ)) = eSl2b hi x (lo ρ) := Eq.trans rfl rfl
@[simp] theorem eSl2b_s (hi : FO) (x : D) (l : Option Int) (ρ : En) : eSl2b hi x (some (l, ρ)) = eSl2c x l (hi ρ) := Eq.trans rfl rfl
@[simp] theorem eSl2c_s (x : D) (l h : Option Int) (ρ : En) : eSl2c x l (some (h, ρ)) = mkP (dSl2 x l h) ρ := Eq.trans rfl rfl
@[simp] theorem dSl2_l (xs : List D) (lo hi : Option Int) : dSl2 (.lst xs) lo hi = some (.lst (dCut xs lo hi)) := Eq.trans rfl rfl
@[simp] theorem dSl2_t (xs : List D) (lo hi : Option Int) : dSl2 (.tup xs) lo hi = if dEnd xs.length 0 lo = 0 ∧ dEnd xs.length xs.length hi = xs.length then none else some (.tup (dCut xs lo hi)) := Eq.trans rfl rfl
@[simp] theorem dSl2_s (z : Str) (lo hi : Option Int) : dSl2 (.str z) lo hi = if z.length ≤ sizeLine then some (.str (Txt.slice z lo hi)) else none := Eq.trans rfl rfl
@[simp] theorem dIn2_t (x : D) (xs : List D) : dIn2 x (.tup xs) = if okIn x xs = true then some (.bl (inD x xs)) else none := by cases x <;> rfl
@[simp] theorem dIn2_l (x : D) (xs : List D) : dIn2 x (.lst xs) = if okIn x xs = true then some (.bl (inD x xs)) else none := by cases x <;> rfl
@[simp] theorem dIn2_s (x z : Str) : dIn2 (.str x) (.str z) = some (.bl (inS x z)) := Eq.trans rfl rfl
@[simp] theorem dNotIn2_t (x : D) (xs : List D) : dNotIn2 x (.tup xs) = if okIn x xs = true then some (.bl (!inD x xs)) else none := by cases x <;> rfl
@[simp] theorem dNotIn2_l (x : D) (xs : List D) : dNotIn2 x (.lst xs) = if okIn x xs = true then some (.bl (!inD x xs)) else none := by cases x <;> rfl
@[simp] theorem dNotIn2_s (x z : Str) : dNotIn2 (.str x) (.str z) = some (.bl (!inS x z)) := Eq.trans rfl rfl
end Fx
set_option maxRecDepth 100000
namespace Fx
open PySem PySem.Spec PyProof.Rows L2
section
variable {X : Cx} {K : PySem.W.Frag} {pos : Pos} {e : Expr} {F : FE}
noncomputable def rSlS : V → Option Int → Option Int → Hp → VK → Prop := fun x lo hi H Q => ∃ z, x = .str z ∧ z.length ≤ sizeLine ∧ Q (.str (Txt.slice z lo hi)) H
theorem part_ {v : Value} {o : Option Int} (p : IsPart v o) : ∃ l : Option (Int × Tok), v = partValue l ∧ l.map (·.1) = o := by
  cases p with
  | none => exact ⟨none, rfl, rfl⟩
  | int i t => exact ⟨some (i, t), rfl, rfl⟩
theorem sl_str : SlR X rSlS := by
  intro pins s σ H x v vl vu lo hi sl Q I rx hs pl pu h
  obtain ⟨z, rfl, hz, q⟩ := h
  obtain ⟨t, rfl⟩ := rx
  obtain ⟨l, rfl, rfl⟩ := part_ pl
  obtain ⟨u, rfl, rfl⟩ := part_ pu
  refine ⟨"str", _, slot_str_getitem.lookup, typeIs_str _ _ _, wpAny_getItem_str_slice (l := l) (u := u) (st := none) hs rfl ?_⟩
  exact post_val_or_str ⟨Nat.le_trans (Txt.slice_le z _ _) hz, fun t' k => ⟨.str (Txt.slice z (l.map (·.1)) (u.map (·.1))), H, I.tok _, ⟨_, rfl⟩, q⟩⟩
theorem xsl2 {lo hi : Option Expr} {A B : FO} {p2 : Pos} (he : XE X e F) (hl : XO X lo A) (hh : XO X hi B) : XE X (.Subscript e (.Slice lo hi none p2) pos) (eSl2 F A B) := PE.wk (pe_slice ((sl_list.or sl_tup).or sl_str) he hl hh) fun σ H Q hh0_ => by
  obtain ⟨c, H0, ρ, d, ρ', R, f, q⟩ := hh0_
  unfold eSl2 at f
  obtain ⟨⟨x, ρ1⟩, h1, f⟩ := bnd_eq f
  obtain ⟨⟨l, ρ2⟩, h2, f⟩ := bnd_eq f
  obtain ⟨⟨u, ρ3⟩, h3, f⟩ := bnd_eq f
  obtain ⟨d', h4, f⟩ := bnd_eq f
  dsimp only at h2 h3 h4 f
  have f' : some (d', ρ3) = some (d, ρ') := f
  cases f'
  refine ⟨c, H0, ρ, x, ρ1, R, h1, fun v H1 Hh s1 R1 r1 => ?_⟩
  refine ⟨c, H1, ρ1, l, ρ2, R1, h2, fun H2 Hh2 s2 R2 => ?_⟩
  refine ⟨c, H2, ρ2, u, _, R2, h3, fun H3 Hh3 s3 R3 => ?_⟩
  have r3 := Rep.mono s3 x (Rep.mono s2 x r1)
  cases x with
  | lst ds =>
    have e : D.lst (dCut ds l u) = d := Option.some.inj h4
    subst e
    unfold Rep at r3
    obtain ⟨p, vs, rfl, s, t⟩ := r3
    refine .inl (.inl ⟨p, vs, rfl, Same.seq R3.same s, fun p' hp => ?_⟩)
    have S := Step.alloc (o := .lst (cutV vs l u)) R3.same hp
    refine q _ _ _ (s1.trans (s2.trans (s3.trans S.s0))) (R3.after S) ?_
    unfold Rep
    exact ⟨p', _, rfl, .inl (.inl upd_same), Reps.mono S.s0 _ (cut_of t l u)⟩
  | tup ds =>
    have h5 : (if dEnd ds.length 0 l = 0 ∧ dEnd ds.length ds.length u = ds.length then none else some (D.tup (dCut ds l u))) = some d := h4
    by_cases hn : dEnd ds.length 0 l = 0 ∧ dEnd ds.length ds.length u = ds.length
    · rw [if_pos hn] at h5; cases h5
    · rw [if_neg hn] at h5
      cases h5
      unfold Rep at r3
      obtain ⟨p, vs, rfl, s, t⟩ := r3
      refine .inl (.inr ⟨p, vs, rfl, Same.seqT R3.same s, ?_, fun p' hp => ?_⟩)
      · rw [← dEnd_eq, ← dEnd_eq, ← t.length]; exact hn
      have S := Step.alloc (o := .tup (cutV vs l u)) R3.same hp
      refine q _ _ _ (s1.trans (s2.trans (s3.trans S.s0))) (R3.after S) ?_
      unfold Rep
      exact ⟨p', _, rfl, .inl (.inl upd_same), Reps.mono S.s0 _ (cut_of t l u)⟩
  | str z =>
    obtain ⟨hz, rfl⟩ := ifs (c := z.length ≤ sizeLine) h4
    unfold Rep at r3
    exact .inr ⟨z, r3, hz, q _ H3 Hh3 (s1.trans (s2.trans s3)) R3 (rep_str H3 _)⟩
  | _ => cases h4
theorem OpR.or {f : Value → Value → Sem Value} {r r' : R2} (h : OpR X f r) (h' : OpR X f r') : OpR X f (fun x y H Q => r x y H Q ∨ r' x y H Q) := by
  intro pins s σ H x y v u Q I rx ry q
  rcases q with q | q
  · exact h pins s σ H x y v u Q I rx ry q
  · exact h' pins s σ H x y v u Q I rx ry q
theorem inOpD : OpD K (rIn K false) dIn := inD_op fun x y d e => by
  cases y with
  | tup xs => obtain ⟨h, rfl⟩ := ifs (c := okIn x xs = true) e; exact ⟨xs, .inl rfl, h, rfl⟩
  | lst xs => obtain ⟨h, rfl⟩ := ifs (c := okIn x xs = true) e; exact ⟨xs, .inr rfl, h, rfl⟩
  | _ => cases e
theorem cIn2 : CmpOk X .In dIn2 := ⟨_, OpR.or op_in_seq op_in_str, fun c H0 H ρ σ x y d vx vy Q R r1 r2 e q => by
  cases y with
  | tup xs => rw [dIn2_t] at e; exact .inl (inOpD c H0 H ρ σ x (.tup xs) d vx vy Q R r1 r2 e q)
  | lst xs => rw [dIn2_l] at e; exact .inl (inOpD c H0 H ρ σ x (.lst xs) d vx vy Q R r1 r2 e q)
  | str b =>
    cases x with
    | str a =>
      have e' : some (D.bl (inS a b)) = some d := e
      cases e'
      unfold Rep at r1 r2; subst r1 r2
      exact .inr ⟨a, b, rfl, rfl, q _ H0 H (Same.refl _) R (rep_bl _ _)⟩
    | _ => cases e
  | _ => cases x <;> cases e⟩
end
end Fx
namespace Fx
open PySem
noncomputable def owT : Option Sl → Option MO
  | some (.ow true o) => some o
  | _ => none
noncomputable def frAt (ρ : En) (i : Nat) (o : MO) : List Nat → Option En
  | [] => some []
  | j :: js => bnd (if j = i then some (.ow true o) else slI ρ[j]?) fun s => bnd (frAt ρ i o js) fun r => some (s :: r)
noncomputable def cGoB (T : FT) (F : FE) (ρ : En) (i : Nat) (js : List Nat) (q : Nat) : MO → List D → Option (List D × MO)
  | o, [] => some ([], o)
  | o, d :: r => bnd (frAt ρ i o js) fun fr => bnd (T (.im d :: fr)) fun p => if p.1 = true then bnd (F p.2) fun z => bnd (owT z.2[q + 1]?) fun o' => bnd (cGoB T F ρ i js q o' r) fun t => some (z.1 :: t.1, t.2)
      else bnd (owT p.2[q + 1]?) fun o' => cGoB T F ρ i js q o' r
noncomputable def lcB (js : List Nat) (i q : Nat) (T : FT) (F : FE) (xs : List D) (ρ : En) : Option (D × En) := bnd (owO ρ[i]?) fun w => bnd (cGoB T F ρ i js q w.2 xs) fun t => if xs.length ≤ sizeLine ∧ js[q]? = some i ∧ js.Nodup then some (.lst t.1, ρ.set i (.ow w.1 t.2)) else none
noncomputable def eLCB (js : List Nat) (i q : Nat) (I : FE) (T : FT) (F : FE) (ρ : En) : Option (D × En) := bnd (I ρ) fun p => bnd (items p.1) fun xs => lcB js i q T F xs p.2
end Fx
set_option maxRecDepth 100000
namespace Fx
open PySem PySem.Spec PyProof.Rows L2
section
variable {X : Cx} {scope sc : Scope} {x : Str} {frees : List Str} {js : List Nat} {px pos p pos' : Pos} {elt iter a : Expr} {ifs : List Expr} {I F : FE} {T : FT}
end
end Fx
set_option maxRecDepth 100000
namespace Fx
open PySem PySem.Spec PyProof.Rows L2
section
variable {X : Cx} {pos : Pos}
theorem xglI {x : Str} {i : Int} (h : ∃ t, X.mg x = some (.int i t)) (hg : Gl X x := by rfl) (hd : (x == ("__debug__" : Str)) = false := by decide) : XE X (.Name x pos) (eC (.int i)) := by
  obtain ⟨t, h⟩ := h
  exact PE.wk (pe_glob hg h (v := .int i) ⟨t, rfl⟩ hd) fun σ H Q hh0_ => by
    obtain ⟨c, H0, ρ, d, ρ', R, f, q⟩ := hh0_
    obtain ⟨rfl, rfl⟩ := eC_inv f
    exact q _ H0 H (Same.refl _) R (rep_int _ _)
theorem xglS {x z : Str} (h : ∃ t, X.mg x = some (.str z t)) (hg : Gl X x := by rfl) (hd : (x == ("__debug__" : Str)) = false := by decide) : XE X (.Name x pos) (eC (.str z)) := by
  obtain ⟨t, h⟩ := h
  exact PE.wk (pe_glob hg h (v := .str z) ⟨t, rfl⟩ hd) fun σ H Q hh0_ => by
    obtain ⟨c, H0, ρ, d, ρ', R, f, q⟩ := hh0_
    obtain ⟨rfl, rfl⟩ := eC_inv f
    exact q _ H0 H (Same.refl _) R (rep_str _ _)
end
section
variable {X : Cx} {scope sc : Scope} {x y : Str} {frees : List Str} {js : List Nat} {px py pos spos p pos' : Pos} {elt iter a : Expr} {ifs : List Expr} {I F : FE} {T : FT}
end
end Fx
namespace Fx
open PySem
noncomputable def ltS (a b : Str) : Bool := decide (a.cps.toList < b.cps.toList)
noncomputable def insS (x : Str) : List Str → List Str
  | [] => [x]
  | y :: r => if ltS y x = true then y :: insS x r else x :: y :: r
noncomputable def sortS : List Str → List Str
  | [] => []
  | x :: r => insS x (sortS r)
noncomputable def txts : List D → Option (List Str)
  | [] => some []
  | .str x :: r => bnd (txts r) fun t => some (x :: t)
  | _ => none
noncomputable def sortL (xs : List D) : Option D := bnd (txts xs) fun ss => if ss.length < 64 then some (.lst ((sortS ss).map .str)) else none
noncomputable def bSorted : List D → Option D
  | [.tup xs] => sortL xs
  | [.lst xs] => sortL xs
  | _ => none
noncomputable def lstX : D → Option (List D)
  | .lst xs => some xs
  | _ => none
noncomputable def strX : D → Option Str
  | .str x => some x
  | _ => none
noncomputable def joinL (sep : Str) (xs : List D) : Option D := bnd (txts xs) fun ss => if (ss.map (·.length)).sum + ss.length * sep.length ≤ 1000000 then some (.str (Str.join sep ss)) else none
noncomputable def eJoin (sep : Str) (F : FE) (ρ : En) : Option (D × En) := bnd (F ρ) fun p => bnd (lstX p.1) fun xs => bnd (joinL sep xs) fun d => some (d, p.2)
noncomputable def pairsD : List D → Option (List (Str × D))
  | [] => some []
  | .tup [.str k, v] :: r => bnd (pairsD r) fun t => some ((k, v) :: t)
  | _ => none
noncomputable def getL (xs : List D) (k : D) (d : D) : Option D := bnd (pairsD xs) fun kvs => bnd (strX k) fun k => if kvs.length ≤ 1000 ∧ (kvs.map (·.1)).Nodup then some ((getK k kvs).getD d) else none
noncomputable def tupY : D → Option (List D)
  | .tup xs => some xs
  | _ => none
@[simp] theorem tupY_t (xs : List D) : tupY (.tup xs) = some xs := Eq.trans rfl rfl
noncomputable def eDGet (E Kf Df : FE) (ρ : En) : Option (D × En) := bnd (E ρ) fun p => bnd (tupY p.1) fun xs => if p.2.all noOw = true then bnd (Kf p.2) fun q => bnd (Df q.2) fun r => bnd (getL xs q.1 r.1) fun d => some (d, r.2) else none
@[simp] theorem noOw_i (d : D) : noOw (.im d) = true := Eq.trans rfl rfl
@[simp] theorem noOw_n : noOw .no = true := Eq.trans rfl rfl
@[simp] theorem bSorted_t (xs : List D) : bSorted [.tup xs] = sortL xs := Eq.trans rfl rfl
@[simp] theorem bSorted_l (xs : List D) : bSorted [.lst xs] = sortL xs := Eq.trans rfl rfl
@[simp] theorem lstX_l (xs : List D) : lstX (.lst xs) = some xs := Eq.trans rfl rfl
noncomputable def eJoinb (sep : Str) (ρ : En) (o : Option (List D)) : Option (D × En) := bnd o fun xs => bnd (joinL sep xs) fun d => some (d, ρ)
noncomputable def eJoina (sep : Str) (o : Option (D × En)) : Option (D × En) := bnd o fun p => eJoinb sep p.2 (lstX p.1)
@[simp] theorem eJoin_ (sep : Str) (F : FE) (ρ : En) : eJoin sep F ρ = eJoina sep (F ρ) := Eq.trans rfl rfl
@[simp] theorem eJoina_s (sep : Str) (x : D) (ρ : En) : eJoina sep (some (x, ρ)) = eJoinb sep ρ (lstX x) := Eq.trans rfl rfl
@[simp] theorem eJoinb_s (sep : Str) (ρ : En) (xs : List D) : eJoinb sep ρ (some xs) = mkP (joinL sep xs) ρ := Eq.trans rfl rfl
noncomputable def eDGetd (xs : List D) (k : D) (o : Option (D × En)) : Option (D × En) := bnd o fun r => bnd (getL xs k r.1) fun d => some (d, r.2)
noncomputable def eDGetc (Df : FE) (xs : List D) (o : Option (D × En)) : Option (D × En) := bnd o fun q => eDGetd xs q.1 (Df q.2)
noncomputable def eDGetb (Kf Df : FE) (ρ : En) (o : Option (List D)) : Option (D × En) := bnd o fun xs => if ρ.all noOw = true then eDGetc Df xs (Kf ρ) else none
noncomputable def eDGeta (Kf Df : FE) (o : Option (D × En)) : Option (D × En) := bnd o fun p => eDGetb Kf Df p.2 (tupY p.1)
@[simp] theorem eDGet_ (E Kf Df : FE) (ρ : En) : eDGet E Kf Df ρ = eDGeta Kf Df (E ρ) := Eq.trans rfl rfl
@[simp] theorem eDGeta_s (Kf Df : FE) (x : D) (ρ : En) : eDGeta Kf Df (some (x, ρ)) = eDGetb Kf Df ρ (tupY x) := Eq.trans rfl rfl
@[simp] theorem eDGetb_s (Kf Df : FE) (ρ : En) (xs : List D) : eDGetb Kf Df ρ (some xs) = if ρ.all noOw = true then eDGetc Df xs (Kf ρ) else none := Eq.trans rfl rfl
@[simp] theorem eDGetc_s (Df : FE) (xs : List D) (k : D) (ρ : En) : eDGetc Df xs (some (k, ρ)) = eDGetd xs k (Df ρ) := Eq.trans rfl rfl
@[simp] theorem eDGetd_s (xs : List D) (k d : D) (ρ : En) : eDGetd xs k (some (d, ρ)) = mkP (getL xs k d) ρ := Eq.trans rfl rfl
end Fx
namespace Fx
open PySem
noncomputable def addS (acc : List Str) (x : Str) : List Str := if x ∈ acc then acc else acc ++ [x]
noncomputable def addAll (acc : List Str) (xs : List Str) : List Str := xs.foldl addS acc
noncomputable def sortSetL (xs : List D) : Option D := bnd (txts xs) fun ss => if ss.length < 64 then some (.lst ((sortS (addAll [] ss)).map .str)) else none
noncomputable def bSortSet : List D → Option D
  | [.tup xs] => sortSetL xs
  | [.lst xs] => sortSetL xs
  | _ => none
@[simp] theorem bSortSet_t (xs : List D) : bSortSet [.tup xs] = sortSetL xs := Eq.trans rfl rfl
@[simp] theorem bSortSet_l (xs : List D) : bSortSet [.lst xs] = sortSetL xs := Eq.trans rfl rfl
end Fx
namespace Fx
open PySem
noncomputable def sqA : D → Option (List D)
  | .tup xs => some xs
  | .lst xs => some xs
  | _ => none
@[simp] theorem sqA_t (xs : List D) : sqA (.tup xs) = some xs := Eq.trans rfl rfl
@[simp] theorem sqA_l (xs : List D) : sqA (.lst xs) = some xs := Eq.trans rfl rfl
end Fx
namespace Fx
open PySem
noncomputable def kS : D → Option Str
  | .str k => some k
  | _ => none
@[simp] theorem kS_s (k : Str) : kS (.str k) = some k := Eq.trans rfl rfl
noncomputable def putD (k : Str) (d : D) (kds : List (Str × D)) : List (Str × D) := if (getK k kds).isSome = true then setK k d kds else kds ++ [(k, d)]
noncomputable def sDN (i : Nat) (ρ : En) : Option Res := some (.nx (ρ.set i (.ow false (.dic []))))
@[simp] theorem sDN_ (i : Nat) (ρ : En) : sDN i ρ = some (.nx (ρ.set i (.ow false (.dic [])))) := Eq.trans rfl rfl
noncomputable def sDKe (i : Nat) (d : D) (ρ : En) (k : Str) (o : Option (Bool × List (Str × D))) : Option Res := bnd o fun q => if q.2.length < 100 then some (.nx (ρ.set i (.ow q.1 (.dic (putD k d q.2))))) else none
noncomputable def sDKd (i : Nat) (d : D) (ρ : En) (o : Option Str) : Option Res := bnd o fun k => sDKe i d ρ k (owD ρ[i]?)
noncomputable def sDKc (i : Nat) (d : D) (o : Option (D × En)) : Option Res := bnd o fun p => sDKd i d p.2 (kS p.1)
noncomputable def sDKb (i : Nat) (G : FE) (d : D) (ρ : En) (o : Option (Bool × List (Str × D))) : Option Res := bnd o fun _ => sDKc i d (G ρ)
noncomputable def sDKa (i : Nat) (G : FE) (o : Option (D × En)) : Option Res := bnd o fun p => sDKb i G p.1 p.2 (owD p.2[i]?)
noncomputable def sDK (i : Nat) (G F : FE) (ρ : En) : Option Res := sDKa i G (F ρ)
@[simp] theorem sDK_ (i : Nat) (G F : FE) (ρ : En) : sDK i G F ρ = sDKa i G (F ρ) := Eq.trans rfl rfl
@[simp] theorem sDKa_s (i : Nat) (G : FE) (d : D) (ρ : En) : sDKa i G (some (d, ρ)) = sDKb i G d ρ (owD ρ[i]?) := Eq.trans rfl rfl
@[simp] theorem sDKb_s (i : Nat) (G : FE) (d : D) (ρ : En) (q : Bool × List (Str × D)) : sDKb i G d ρ (some q) = sDKc i d (G ρ) := Eq.trans rfl rfl
@[simp] theorem sDKc_s (i : Nat) (d x : D) (ρ : En) : sDKc i d (some (x, ρ)) = sDKd i d ρ (kS x) := Eq.trans rfl rfl
@[simp] theorem sDKd_s (i : Nat) (d : D) (ρ : En) (k : Str) : sDKd i d ρ (some k) = sDKe i d ρ k (owD ρ[i]?) := Eq.trans rfl rfl
@[simp] theorem sDKe_s (i : Nat) (d : D) (ρ : En) (k : Str) (b : Bool) (kds : List (Str × D)) : sDKe i d ρ k (some (b, kds)) = if kds.length < 100 then some (.nx (ρ.set i (.ow b (.dic (putD k d kds))))) else none := Eq.trans rfl rfl
noncomputable def nOw : Option Sl → Option MO
  | some (.ow false o) => some o
  | _ => none
@[simp] theorem nOw_s (o : MO) : nOw (some (.ow false o)) = some o := Eq.trans rfl rfl
noncomputable def nRetO (i : Nat) (ρ : En) : Option MO := nOw ρ[i]?
@[simp] theorem nRetO_ (i : Nat) (ρ : En) : nRetO i ρ = nOw ρ[i]? := Eq.trans rfl rfl
noncomputable def sXa (o : Option (D × En)) : Option Res := bnd o fun p => some (.nx p.2)
noncomputable def sX (F : FE) (ρ : En) : Option Res := sXa (F ρ)
@[simp] theorem sX_ (F : FE) (ρ : En) : sX F ρ = sXa (F ρ) := Eq.trans rfl rfl
@[simp] theorem sXa_s (d : D) (ρ : En) : sXa (some (d, ρ)) = some (.nx ρ) := Eq.trans rfl rfl
mutual
noncomputable def nd : D → Bool
  | .opq => false
  | .dct _ _ => false
  | .tup xs => nds xs
  | .lst xs => nds xs
  | _ => true
noncomputable def nds : List D → Bool
  | [] => true
  | d :: r => nd d && nds r
end
noncomputable def ndS : Sl → Bool
  | .ow _ (.lst ds) => nds ds
  | .ow _ (.dic kds) => nds (kds.map (·.2))
  | _ => true
noncomputable def hld (kds : List (Str × D)) : Sl := .im (.dct (kds.map (·.1)) (kds.map (·.2)))
noncomputable def eHoldB (ρ ρh : En) (o : Option (D × En)) : Option (D × En) := bnd o fun p => @ite _ (nd p.1 = true ∧ p.2 = ρh) (Classical.propDecidable _) (some (p.1, ρ)) none
noncomputable def eHoldA (i : Nat) (F : FE) (ρ : En) (o : Option (Bool × List (Str × D))) : Option (D × En) := bnd o fun q => if q.1 = false ∧ ρ.all ndS = true then eHoldB ρ (ρ.set i (hld q.2)) (F (ρ.set i (hld q.2))) else none
noncomputable def eHold (i : Nat) (F : FE) (ρ : En) : Option (D × En) := eHoldA i F ρ (owD ρ[i]?)
@[simp] theorem eHold_ (i : Nat) (F : FE) (ρ : En) : eHold i F ρ = eHoldA i F ρ (owD ρ[i]?) := Eq.trans rfl rfl
@[simp] theorem eHoldA_s (i : Nat) (F : FE) (ρ : En) (b : Bool) (kds : List (Str × D)) : eHoldA i F ρ (some (b, kds)) = if b = false ∧ ρ.all ndS = true then eHoldB ρ (ρ.set i (hld kds)) (F (ρ.set i (hld kds))) else none := Eq.trans rfl rfl
noncomputable def sFzDa (i : Nat) (G : FS) (ρ : En) (o : Option (Bool × List (Str × D))) : Option Res := bnd o fun q => if q.1 = false then G (ρ.set i (hld q.2)) else none
noncomputable def sFzD (i : Nat) (G : FS) (ρ : En) : Option Res := sFzDa i G ρ (owD ρ[i]?)
@[simp] theorem sFzD_ (i : Nat) (G : FS) (ρ : En) : sFzD i G ρ = sFzDa i G ρ (owD ρ[i]?) := Eq.trans rfl rfl
@[simp] theorem sFzDa_s (i : Nat) (G : FS) (ρ : En) (b : Bool) (kds : List (Str × D)) : sFzDa i G ρ (some (b, kds)) = if b = false then G (ρ.set i (hld kds)) else none := Eq.trans rfl rfl
noncomputable def asD : MO → Option D
  | .dic kds => some (.dct (kds.map (·.1)) (kds.map (·.2)))
  | _ => none
@[simp] theorem asD_s (kds : List (Str × D)) : asD (.dic kds) = some (.dct (kds.map (·.1)) (kds.map (·.2))) := Eq.trans rfl rfl
noncomputable def eNFc (ρ : En) (o : Option D) : Option (D × En) := bnd o fun d => some (d, ρ)
noncomputable def eNFb (ρ : En) (o : Option MO) : Option (D × En) := bnd o fun m => eNFc ρ (asD m)
noncomputable def eNFa (g : List D → Option MO) (o : Option (List D × En)) : Option (D × En) := bnd o fun p => eNFb p.2 (g p.1)
noncomputable def eNF (g : List D → Option MO) (A : FA) (ρ : En) : Option (D × En) := eNFa g (A ρ)
@[simp] theorem eNF_ (g : List D → Option MO) (A : FA) (ρ : En) : eNF g A ρ = eNFa g (A ρ) := Eq.trans rfl rfl
@[simp] theorem eNFa_s (g : List D → Option MO) (ds : List D) (ρ : En) : eNFa g (some (ds, ρ)) = eNFb ρ (g ds) := Eq.trans rfl rfl
@[simp] theorem eNFb_s (ρ : En) (m : MO) : eNFb ρ (some m) = eNFc ρ (asD m) := Eq.trans rfl rfl
@[simp] theorem eNFc_s (ρ : En) (d : D) : eNFc ρ (some d) = some (d, ρ) := Eq.trans rfl rfl
noncomputable def bDct : List D → Option D
  | [.dct ks ds] => some (.dct ks ds)
  | _ => none
@[simp] theorem bDct_s (ks : List Str) (ds : List D) : bDct [.dct ks ds] = some (.dct ks ds) := Eq.trans rfl rfl
noncomputable def dcX : D → Option (List (Str × D))
  | .dct ks ds => some (ks.zip ds)
  | _ => none
@[simp] theorem dcX_s (ks : List Str) (ds : List D) : dcX (.dct ks ds) = some (ks.zip ds) := Eq.trans rfl rfl
noncomputable def sDCb (i : Nat) (ρ : En) (o : Option (List (Str × D))) : Option Res := bnd o fun kds => some (.nx (ρ.set i (.ow false (.dic kds))))
noncomputable def sDCa (i : Nat) (o : Option (D × En)) : Option Res := bnd o fun p => sDCb i p.2 (dcX p.1)
noncomputable def sDC (i : Nat) (F : FE) (ρ : En) : Option Res := sDCa i (F ρ)
@[simp] theorem sDC_ (i : Nat) (F : FE) (ρ : En) : sDC i F ρ = sDCa i (F ρ) := Eq.trans rfl rfl
@[simp] theorem sDCa_s (i : Nat) (d : D) (ρ : En) : sDCa i (some (d, ρ)) = sDCb i ρ (dcX d) := Eq.trans rfl rfl
@[simp] theorem sDCb_s (i : Nat) (ρ : En) (kds : List (Str × D)) : sDCb i ρ (some kds) = some (.nx (ρ.set i (.ow false (.dic kds)))) := Eq.trans rfl rfl
noncomputable def dDx : D → D → Option D
  | .dct ks ds, .str k => getK k (ks.zip ds)
  | _, _ => none
@[simp] theorem dDx_s (ks : List Str) (ds : List D) (k : Str) : dDx (.dct ks ds) (.str k) = getK k (ks.zip ds) := Eq.trans rfl rfl
noncomputable def flat : D → Bool
  | .non => true
  | .int _ => true
  | _ => false
noncomputable def hitD (d : D) : Option D → Bool
  | some e => eqD d e
  | none => false
noncomputable def sameD (a b : List (Str × D)) : Bool := a.length == b.length && a.all fun p => hitD p.2 (getK p.1 b)
noncomputable def dDq : D → D → Option D
  | .dct ks ds, .dct ms es => if ds.all flat = true ∧ es.all flat = true then some (.bl (sameD (ks.zip ds) (ms.zip es))) else none
  | _, _ => none
noncomputable def dDn : D → D → Option D
  | .dct ks ds, .dct ms es => if ds.all flat = true ∧ es.all flat = true then some (.bl (!sameD (ks.zip ds) (ms.zip es))) else none
  | _, _ => none
@[simp] theorem dDq_s (ks ms : List Str) (ds es : List D) : dDq (.dct ks ds) (.dct ms es) = if ds.all flat = true ∧ es.all flat = true then some (.bl (sameD (ks.zip ds) (ms.zip es))) else none := Eq.trans rfl rfl
@[simp] theorem dDn_s (ks ms : List Str) (ds es : List D) : dDn (.dct ks ds) (.dct ms es) = if ds.all flat = true ∧ es.all flat = true then some (.bl (!sameD (ks.zip ds) (ms.zip es))) else none := Eq.trans rfl rfl
noncomputable def sClrb (ρ : En) (o : Option MO) : Option Res := bnd o fun m => bnd (asD m) fun _ => some (.nx ρ)
noncomputable def sClra (g : List D → Option MO) (o : Option (List D × En)) : Option Res := bnd o fun p => sClrb p.2 (g p.1)
noncomputable def sClr (g : List D → Option MO) (A : FA) (ρ : En) : Option Res := sClra g (A ρ)
@[simp] theorem sClr_ (g : List D → Option MO) (A : FA) (ρ : En) : sClr g A ρ = sClra g (A ρ) := Eq.trans rfl rfl
@[simp] theorem sClra_s (g : List D → Option MO) (ds : List D) (ρ : En) : sClra g (some (ds, ρ)) = sClrb ρ (g ds) := Eq.trans rfl rfl
@[simp] theorem sClrb_s (ρ : En) (kds : List (Str × D)) : sClrb ρ (some (.dic kds)) = some (.nx ρ) := Eq.trans rfl rfl
end Fx
namespace Fx
open PySem
noncomputable def tHoldB (ρ ρh : En) (o : Option (Bool × En)) : Option (Bool × En) := bnd o fun p => @ite _ (p.2 = ρh) (Classical.propDecidable _) (some (p.1, ρ)) none
noncomputable def tHoldA (i : Nat) (T : FT) (ρ : En) (o : Option (Bool × List (Str × D))) : Option (Bool × En) := bnd o fun q => if q.1 = false ∧ ρ.all ndS = true then tHoldB ρ (ρ.set i (hld q.2)) (T (ρ.set i (hld q.2))) else none
noncomputable def tHold (i : Nat) (T : FT) (ρ : En) : Option (Bool × En) := tHoldA i T ρ (owD ρ[i]?)
@[simp] theorem tHold_ (i : Nat) (T : FT) (ρ : En) : tHold i T ρ = tHoldA i T ρ (owD ρ[i]?) := Eq.trans rfl rfl
@[simp] theorem tHoldA_s (i : Nat) (T : FT) (ρ : En) (b : Bool) (kds : List (Str × D)) : tHoldA i T ρ (some (b, kds)) = if b = false ∧ ρ.all ndS = true then tHoldB ρ (ρ.set i (hld kds)) (T (ρ.set i (hld kds))) else none := Eq.trans rfl rfl
end Fx
namespace Fx
open PySem
noncomputable def dMulS : D → D → Option D
  | .str x, .int n => if 1 ≤ n ∧ n ≤ 1000 ∧ x.length ≤ 1000 then some (.str (Txt.mul x n)) else none
  | _, _ => none
@[simp] theorem dMulS_s (x : Str) (n : Int) : dMulS (.str x) (.int n) = if 1 ≤ n ∧ n ≤ 1000 ∧ x.length ≤ 1000 then some (.str (Txt.mul x n)) else none := Eq.trans rfl rfl
end Fx
set_option maxRecDepth 100000
namespace Fx
open PySem PySem.Spec PyProof.Rows L2
section
variable {K : PySem.W.Frag} {H : Hp}
theorem val_no {k : Str} : ∀ {kds : List (Str × D)} {vs : List V}, Reps K H (kds.map (·.2)) vs → getK k kds = none → valV (zipD (kds.map (·.1)) vs) (.inr k) = none
  | [], _, _, _ => rfl
  | q :: r, vs, t, e => by
    rw [List.map_cons] at t
    unfold Reps at t
    obtain ⟨v, vr, rfl, _, t2⟩ := t
    rw [List.map_cons, zipD_cons]
    unfold getK at e
    by_cases hk : q.1 = k
    · rw [if_pos hk] at e; cases e
    · rw [if_neg hk] at e
      rw [valV_neg fun z => hk (Sum.inr.inj z)]
      exact val_no t2 e
theorem zipD_app {ks : List Str} {vs : List V} {k : Str} {v : V} (h : ks.length = vs.length) : zipD ks vs ++ [(Sum.inr k, v)] = zipD (ks ++ [k]) (vs ++ [v]) := by
  unfold zipD
  rw [List.map_append, List.zip_append (by rw [List.length_map]; exact h)]
  rfl
theorem put_any {k : Str} {d : D} {v : V} {kds : List (Str × D)} {vs : List V} (rv : Rep K H d v) (t : Reps K H (kds.map (·.2)) vs) :
    ∃ vs', putK (zipD (kds.map (·.1)) vs) (.inr k) v = zipD ((putD k d kds).map (·.1)) vs' ∧ Reps K H ((putD k d kds).map (·.2)) vs' := by
  unfold putD
  cases q : getK k kds with
  | some d0 => rw [if_pos (show (some d0).isSome = true from rfl)]; exact put_of rv t q
  | none =>
    rw [if_neg (by simp)]
    have hl := t.length
    rw [List.length_map] at hl
    refine ⟨vs ++ [v], ?_, ?_⟩
    · rw [putK_new v (val_no t q), zipD_app (by rw [List.length_map]; exact hl), List.map_append]
      rfl
    · rw [List.map_append]
      exact t.app (Reps.one rv)
end
section
variable {X : Cx} {pos : Pos} {e : Expr} {F G : FE} {A : FA}
theorem xdn (i : Nat) {x : Str} {p p2 : Pos} (hN : X.N.Nodup) (hi : X.N[i]? = some x := by rfl) (hx : Loc X.env.scope x := by first | exact Or.inl rfl | exact Or.inr rfl) (hs : swapsWith (.Dict [] [] p2) (some (.Name x p)) pos.line X.env = pure false := by rfl)
    (hf : X.fn x = true ∨ X.env.scope.names.lookup x = some .local := by first | exact .inl rfl | exact .inr rfl) : XS X (.Assign [.Name x p] (.Dict [] [] p2) pos) (sDN i) :=
  PS.wk (ps_set hN hi hx pe_dnewK hs hf) fun Dn σ H hh0_ => by
    obtain ⟨c, H0, ρ, r, R, f, q⟩ := hh0_
    have f' : some (Res.nx (ρ.set i (.ow false (.dic [])))) = some r := f
    cases f'
    exact fun a ha => q _ H0 _ (Same.refl _) (R.setOwn (o := .dic []) (u := .dK []) i ha ⟨[], [], by rw [upd_same]; rfl, rfl, Reps.nil_⟩)
theorem xdk (i : Nat) {x : Str} {k : Expr} {p p3 : Pos} (hu : X.A.units + 1 < cLine) (hk : XE X k G) (he : XE X e F) (hN : X.N[i]? = some x := by rfl) (hv : Vis X.env.scope x := by first | exact Or.inl rfl | exact Or.inr (Or.inl rfl) | exact Or.inr (Or.inr rfl)) (hd : (x == ("__debug__" : Str)) = false := by decide)
    (hcd : (x == ("__classdict__" : Str)) = false := by decide) (hs : swapsWith e (some (.Subscript (.Name x p) k p3)) pos.line X.env = pure false := by rfl) : XS X (.Assign [.Subscript (.Name x p) k p3] e pos) (sDK i G F) :=
  PS.wk (ps_dput hu (pe_var hN hv hd hcd) hk he hs) fun Dn σ H hh0_ => by
    obtain ⟨c, H0, ρ, r, R, f, q⟩ := hh0_
    unfold sDK sDKa at f
    obtain ⟨⟨d, ρ1⟩, h1, f⟩ := bnd_eq f
    unfold sDKb at f
    obtain ⟨⟨b0, kds0⟩, h2, f⟩ := bnd_eq f
    unfold sDKc at f
    obtain ⟨⟨x2, ρ2⟩, h3, f⟩ := bnd_eq f
    unfold sDKd at f
    obtain ⟨k2, h4, f⟩ := bnd_eq f
    unfold sDKe at f
    obtain ⟨⟨b, kds⟩, h5, f⟩ := bnd_eq f
    obtain ⟨h6, rfl⟩ := ifs f
    have hx2 : x2 = .str k2 := by
      cases x2 with
      | str z => cases h4; rfl
      | _ => cases h4
    subst hx2
    refine ⟨c, H0, ρ, d, ρ1, R, h1, fun v H1 Hh s1 R1 r1 => ?_⟩
    obtain ⟨a, e1, _⟩ := R1.ow i b0 _ (owD_eq h2)
    refine ⟨_, e1, c, H1, ρ1, _, ρ2, R1, h3, fun y H2 Hh2 s2 R2 r2 => ?_⟩
    unfold Rep at r2
    subst r2
    have z := owD_eq h5
    obtain ⟨a2, e2, _, _, ks, vs, e4, rfl, t⟩ := R2.ow i b _ z
    rw [e1] at e2; cases e2
    obtain ⟨vs', w1, w2⟩ := put_any (k := k2) (Rep.mono s2 d r1) t
    refine ⟨a, _, rfl, DPut.k (k := .inr k2) e4 (by have := zipD_len t; unfold zipD at this; rw [this]; exact lt100 h6), ?_⟩
    exact q σ H2 _ (s1.trans s2) (R2.mutOwn z e1 ⟨_, vs', by rw [upd_same]; exact congrArg (fun y => some (HO.dK y)) w1, rfl, w2⟩)
end
end Fx
set_option maxRecDepth 100000
namespace Fx
open PySem PySem.Spec PyProof.Rows L2
noncomputable def less (H : Hp) (a : Addr) : Hp := fun b => if b = a then none else H b
theorem less_at {H : Hp} {a : Addr} : less H a a = none := if_pos rfl
theorem less_ne {H : Hp} {a b : Addr} (h : b ≠ a) : less H a b = H b := if_neg h
theorem less_of {H : Hp} {a b : Addr} {u : HO} (h : less H a b = some u) : b ≠ a ∧ H b = some u := by
  by_cases e : b = a
  · rw [e, less_at] at h; cases h
  · exact ⟨e, by rw [less_ne e] at h; exact h⟩
section
variable {K : PySem.W.Frag} {H : Hp} {a : Addr} {kvs : List (Key × V)}
theorem Rd.less {b : Addr} {u : HO} (ha : H a = some (.dK kvs)) (h : Rd H b u) (n : ∀ kvs, u ≠ .dK kvs) : Rd (less H a) b u := by
  have ne : b ≠ a := fun e => by
    rw [e] at h
    rcases h with h | ⟨o, h⟩
    · rw [ha] at h; exact n kvs (Option.some.inj h).symm
    · rw [ha] at h; cases h
  rcases h with h | ⟨o, h⟩
  · exact .inl (by rw [less_ne ne]; exact h)
  · exact .inr ⟨o, by rw [less_ne ne]; exact h⟩
mutual
theorem Rep.less (ha : H a = some (.dK kvs)) : ∀ (d : D) {v : V}, nd d = true → Rep K H d v → Rep K (less H a) d v
  | .non, _, _, h => by unfold Rep at h ⊢; exact h
  | .bl _, _, _, h => by unfold Rep at h ⊢; exact h
  | .int _, _, _, h => by unfold Rep at h ⊢; exact h
  | .str _, _, _, h => by unfold Rep at h ⊢; exact h
  | .tup ds, _, n, h => by
    unfold Rep at h ⊢
    obtain ⟨b, vs, e, s, r⟩ := h
    refine ⟨b, vs, e, ?_, Reps.less ha ds n r⟩
    rcases s with s | s
    · exact .inl (Rd.less ha s fun _ z => nomatch z)
    · exact .inr s
  | .lst ds, _, n, h => by
    unfold Rep at h ⊢
    obtain ⟨b, vs, e, s, r⟩ := h
    refine ⟨b, vs, e, ?_, Reps.less ha ds n r⟩
    rcases s with s | s
    · exact .inl (Rd.less ha s fun _ z => nomatch z)
    · exact .inr s
  | .opq, _, n, _ => by cases n
  | .dct _ _, _, n, _ => by cases n
theorem Reps.less (ha : H a = some (.dK kvs)) : ∀ (ds : List D) {vs : List V}, nds ds = true → Reps K H ds vs → Reps K (less H a) ds vs
  | [], _, _, h => by unfold Reps at h ⊢; exact h
  | d :: r, _, n, h => by
    unfold nds at n
    rw [Bool.and_eq_true] at n
    unfold Reps at h ⊢
    obtain ⟨v, vr, e, h1, h2⟩ := h
    exact ⟨v, vr, e, Rep.less ha d n.1 h1, Reps.less ha r n.2 h2⟩
end
end
section
variable {K : PySem.W.Frag} {c : FC} {H0 H : Hp} {ρ : En} {σ : L2.St} {i : Nat} {kds : List (Str × D)}
theorem RS.asData (R : RS K c H0 H ρ σ) (hi : ρ[i]? = some (.ow false (.dic kds))) :
    ∃ a kvs vs, σ[i]? = some (some (.ref a)) ∧ H0 a = none ∧ c.He a = none ∧ kvs = zipD (kds.map (·.1)) vs ∧ H a = some (.dK kvs) ∧ Reps K H0 (kds.map (·.2)) vs ∧ Same H0 (upd H0 a (.dK kvs)) ∧ RS K c (upd H0 a (.dK kvs)) H (ρ.set i (hld kds)) σ := by
  obtain ⟨a, x, y, z, ks, vs, e, rfl, r⟩ := R.ow i _ _ hi
  have he : c.He a = none := z
  have il : i < ρ.length := (List.getElem?_eq_some_iff.mp hi).1
  have s0 : Same H0 (upd H0 a (.dK (zipD (kds.map (·.1)) vs))) := fun b u q => by rw [upd_ne (ne_of_none q y)]; exact q
  have off : ∀ {j : Nat} {sl : Sl}, j ≠ i → (ρ.set i (hld kds))[j]? = some sl → ρ[j]? = some sl := fun hj q => by rwa [List.getElem?_set_ne (Ne.symm hj)] at q
  have on : ∀ {sl : Sl}, (ρ.set i (hld kds))[i]? = some sl → sl = hld kds := fun q => by rw [List.getElem?_set_self il] at q; exact (Option.some.inj q).symm
  refine ⟨a, _, vs, x, y, he, rfl, e, r, s0, fun b u q => ?_, R.init.trans s0, fun b u q => ?_, R.keep, R.apt, by rw [List.length_set]; exact R.len, fun j d q => ?_, fun j b o q => ?_, fun j k b1 b2 o1 o2 b q1 q2 q3 q4 => ?_⟩
  · by_cases h : b = a
    · subst h; rw [upd_same] at q; cases q; exact e
    · rw [upd_ne h] at q; exact R.same b u q
  · by_cases h : b = a
    · subst h; exact .inr he
    · rw [upd_ne h] at q; exact R.fresh b u q
  · by_cases hj : j = i
    · subst hj
      have q2 := on q
      unfold hld at q2
      cases q2
      refine ⟨.ref a, x, ?_⟩
      unfold Rep
      exact ⟨a, vs, rfl, .inl upd_same, Reps.mono s0 _ r, by rw [List.length_map, List.length_map]⟩
    · obtain ⟨v, a1, a2⟩ := R.im j d (off hj q)
      exact ⟨v, a1, Rep.mono s0 _ a2⟩
  · by_cases hj : j = i
    · subst hj
      have q2 := on q
      unfold hld at q2
      cases q2
    · have q' := off hj q
      obtain ⟨b', x1, y1, z1, w1⟩ := R.ow j b o q'
      have nb : b' ≠ a := fun h => hj (R.ne j i b false o _ b' q' hi x1 (by rw [h]; exact x))
      exact ⟨b', x1, by rw [upd_ne nb]; exact y1, z1, w1.step s0 fun u q => q⟩
  · have n1 : j ≠ i := fun h => by subst h; have q5 := on q1; unfold hld at q5; cases q5
    have n2 : k ≠ i := fun h => by subst h; have q5 := on q2; unfold hld at q5; cases q5
    exact R.ne j k b1 b2 o1 o2 b (off n1 q1) (off n2 q2) q3 q4
theorem RS.back {H0' H' : Hp} {a : Addr} {vs : List V} (R : RS K c H0 H ρ σ) (hi : ρ[i]? = some (.ow false (.dic kds))) (x : σ[i]? = some (some (.ref a))) (y : H0 a = none) (he : c.He a = none) (r : Reps K H0 (kds.map (·.2)) vs)
    (sm : Same (upd H0 a (.dK (zipD (kds.map (·.1)) vs))) H0') (R' : RS K c H0' H' (ρ.set i (hld kds)) σ) (hn : ρ.all ndS = true) : Same H0 (less H0' a) ∧ RS K c (less H0' a) H' ρ σ := by
  have ha : H0' a = some (.dK (zipD (kds.map (·.1)) vs)) := sm a _ upd_same
  have s0 : Same H0 (less H0' a) := fun b u q => by
    have nb : b ≠ a := fun h => by rw [h, y] at q; cases q
    rw [less_ne nb]
    exact sm b u (by rw [upd_ne nb]; exact q)
  have il : i < ρ.length := (List.getElem?_eq_some_iff.mp hi).1
  have off : ∀ {j : Nat} {sl : Sl}, j ≠ i → ρ[j]? = some sl → (ρ.set i (hld kds))[j]? = some sl := fun hj q => by rw [List.getElem?_set_ne (Ne.symm hj)]; exact q
  have ok_at : OwOk K (less H0' a) H' a (.dic kds) := ⟨_, vs, R'.same a _ ha, rfl, Reps.mono s0 _ r⟩
  have mine : ∀ {b : Bool} {o : MO}, ρ[i]? = some (.ow b o) → b = false ∧ o = .dic kds := fun q => by rw [hi] at q; cases q; exact ⟨rfl, rfl⟩
  refine ⟨s0, fun b u q => R'.same b u (less_of q).2, fun b u q => ?_, fun b u q => R'.fresh b u (less_of q).2, R'.keep, R'.apt, R.len, fun j d q => ?_, fun j b o q => ?_, R.ne⟩
  · exact s0 b u (R.init b u q)
  · obtain ⟨v, a1, a2⟩ := R.im j d q
    exact ⟨v, a1, Rep.mono s0 _ a2⟩
  · by_cases hj : j = i
    · subst hj
      obtain ⟨rfl, rfl⟩ := mine q
      exact ⟨a, x, less_at, he, ok_at⟩
    · obtain ⟨b', x1, y1, z1, w1⟩ := R'.ow j b o (off hj q)
      have nb : b' ≠ a := fun h => by rw [h, ha] at y1; cases y1
      refine ⟨b', x1, by rw [less_ne nb]; exact y1, z1, ?_⟩
      have hq : ndS (.ow b o) = true := List.all_eq_true.mp hn _ (List.mem_of_getElem? q)
      cases o with
      | lst ds => obtain ⟨ws, w2, w3⟩ := w1; exact ⟨ws, w2, Reps.less ha ds hq w3⟩
      | dic kds2 => obtain ⟨ks2, ws, w2, w3, w4⟩ := w1; exact ⟨ks2, ws, w2, w3, Reps.less ha _ hq w4⟩
end
section
variable {X : Cx} {pos : Pos} {e : Expr} {F G : FE} {A : FA}
theorem xfzd (i : Nat) {st : Stmt} {S : FS} (h : XS X st S) : XS X st (sFzD i S) := PS.wk h fun Dn σ H hh0_ => by
  obtain ⟨c, H0, ρ, r, R, f, q⟩ := hh0_
  unfold sFzD sFzDa at f
  obtain ⟨⟨b, kds⟩, h1, f⟩ := bnd_eq f
  by_cases hb : b = false
  · have f2 : S (ρ.set i (hld kds)) = some r := by
      have f3 : (if b = false then S (ρ.set i (hld kds)) else none) = some r := f
      rwa [if_pos hb] at f3
    subst hb
    obtain ⟨a, _, vs, _, _, _, rfl, _, _, s0, R1⟩ := R.asData (owD_eq h1)
    exact ⟨c, _, _, r, R1, f2, Post.mono s0 q⟩
  · have f3 : (if b = false then S (ρ.set i (hld kds)) else none) = some r := f
    rw [if_neg hb] at f3
    cases f3
end
end Fx
set_option maxRecDepth 100000
namespace Fx
open PySem PySem.Spec PyProof.Rows L2
section
variable {K : PySem.W.Frag}
end
section
variable {X : Cx} {pos : Pos} {e : Expr} {F G : FE} {A : FA}
theorem call_dictK : CallR X (.type "dict") (fun xs H Q => ∃ p kvs, xs = [.ref p] ∧ Rd H p (.dK kvs) ∧ ∀ l, H l = none → Q (.ref l) (upd H l (.dK kvs))) := by
  intro pins s σ H xs us Q I r h
  obtain ⟨p, kvs, rfl, rd, q⟩ := h
  obtain ⟨u, rfl, ru⟩ := vals1 r
  cases ru
  obtain ⟨hz, hd, vs, rel, dd⟩ := dk_rd I.hok rd
  refine kt_call_dict hd dd (by rw [← rel.length]; exact hz) fun g d2 sb => ?_
  have up : ∀ b v, s.heap.get? b = some v → g.get? b = some v := fun b v e => (sb.2 b (Nat.ne_of_lt (Heap.lt_size e))).trans (Heap.get?_push_of_some _ e)
  exact ⟨.ref s.heap.objs.size, _, I.laid (o := .dK kvs) (t' := s.toks) up (Nat.le_refl _) (dk_new hz (beq_eq_false_iff_ne.mpr (Ne.symm (Nat.ne_of_lt I.big))) rel d2), rfl, q _ (I.hok.fresh (Nat.le_refl _))⟩
theorem callDct : BOk X (.type "dict") bDct := ⟨_, call_dictK, fun c H0 H ρ σ ds d vs Q R r e q => by
  unfold bDct at e
  split at e
  · rename_i ks es
    cases e
    obtain ⟨v, rfl, rv⟩ := Reps.v1 r
    unfold Rep at rv
    obtain ⟨a, ws, rfl, rd, t, l⟩ := rv
    refine ⟨a, _, rfl, Same.rd R.same rd, fun b hb => ?_⟩
    have S := Step.alloc (o := .dK ((ks.map Sum.inr).zip ws)) R.same hb
    refine q _ _ _ S.s0 (R.after S) ?_
    unfold Rep
    exact ⟨b, ws, rfl, .inl upd_same, Reps.mono S.s0 _ t, l⟩
  · cases e⟩
theorem xdx {o k : Expr} (hu : X.A.units + 1 < cLine) (ho : XE X o F) (hk : XE X k G) (hs : NoSl k := by exact fun _ _ => rfl) : XE X (.Subscript o k pos) (e2 dDx F G) :=
  PE.wk (pe_dget hu ho hk hs) fun σ H Q hh0_ => by
    obtain ⟨c, H0, ρ, d, ρ', R, f, q⟩ := hh0_
    obtain ⟨x, ρ1, y, h1, h2, h3⟩ := e2_inv f
    unfold dDx at h3
    split at h3
    · rename_i ks ds k
      refine ⟨c, H0, ρ, _, ρ1, R, h1, fun v1 H1 Hh s1 R1 r1 => ⟨c, H1, ρ1, _, ρ', R1, h2, fun v2 H2 Hh2 s2 R2 r2 => ?_⟩⟩
      have r1' := Rep.mono s2 _ r1
      unfold Rep at r1' r2
      obtain ⟨a, ws, rfl, rd, t, l⟩ := r1'
      subst r2
      have f1 : (ks.zip ds).map (·.1) = ks := List.map_fst_zip (by omega)
      have f2 : (ks.zip ds).map (·.2) = ds := List.map_snd_zip (by omega)
      obtain ⟨v, w1, w2⟩ := val_of (kds := ks.zip ds) (vs := ws) (by rw [f2]; exact t) h3
      rw [f1] at w1
      exact ⟨a, v, rfl, .inl ⟨_, .inr k, Same.rd R2.same rd, rfl, w1.symm⟩, q v H2 Hh2 (s1.trans s2) R2 w2⟩
    · cases h3
end
end Fx
set_option maxRecDepth 100000
namespace Fx
open PySem PySem.Spec PyProof.Rows L2
section
variable {K : PySem.W.Frag} {H : Hp} {A : Around} {s : Shared}
theorem flat_eq {d e : D} {v w : V} {x y : Value} (hd : flat d = true) (he : flat e = true) (r : Rep K H d v) (t : Rep K H e w) (rx : RelV v x) (ry : RelV w y) : SeqAt.EqAt A s x y (eqD d e) := by
  cases d with
  | non =>
    unfold Rep at r
    subst r
    obtain rfl : x = Value.none := rx
    cases e with
    | non =>
      unfold Rep at t
      subst t
      obtain rfl : y = Value.none := ry
      rw [eqD_non_non]
      exact SeqAt.EqAt.same _
    | int j =>
      unfold Rep at t
      subst t
      obtain ⟨u, rfl⟩ := ry
      rw [eqD_non_int]
      exact SeqAt.EqAt.none_int j u
    | _ => cases he
  | int i =>
    unfold Rep at r
    subst r
    obtain ⟨t1, rfl⟩ := rx
    cases e with
    | non =>
      unfold Rep at t
      subst t
      obtain rfl : y = Value.none := ry
      rw [show eqD (.int i) .non = false by simp]
      exact SeqAt.EqAt.int_none i t1
    | int j =>
      unfold Rep at t
      subst t
      obtain ⟨u, rfl⟩ := ry
      rw [show eqD (.int i) (.int j) = (i == j) by rw [eqD]]
      exact SeqAt.EqAt.int_int i t1 j u
    | _ => cases he
  | _ => cases hd
theorem hits_of {bs : List (Str × D)} {ws : List V} {vb : List (Key × Value)} (tb : Reps K H (bs.map (·.2)) ws) (rb : KV (zipD (bs.map (·.1)) ws) vb) (fb : (bs.map (·.2)).all flat = true) :
    ∀ {as : List (Str × D)} {vs : List V} {va : List (Key × Value)}, Reps K H (as.map (·.2)) vs → KV (zipD (as.map (·.1)) vs) va → (as.map (·.2)).all flat = true → PySem.W.KeqHits A s vb va (as.all fun p => hitD p.2 (getK p.1 bs))
  | [], vs, va, _, ra, _ => by
    have ra' : KV ([] : List (Key × V)) va := ra
    cases ra'
    exact .nil
  | q :: r, vs, va, ta, ra, fa => by
    rw [List.map_cons] at ta fa
    unfold Reps at ta
    obtain ⟨v, vr, rfl, t1, t2⟩ := ta
    rw [List.all_cons, Bool.and_eq_true] at fa
    rw [List.map_cons, zipD_cons] at ra
    obtain ⟨k, x, vt, rfl, k1, rx, r2⟩ : ∃ k x vt, va = (k, x) :: vt ∧ k = Sum.inr q.1 ∧ RelV v x ∧ KV (zipD (r.map (·.1)) vr) vt := by
      cases ra with
      | cons h1 h2 => exact ⟨_, _, _, rfl, h1.1.symm, h1.2, h2⟩
    subst k1
    have rest := hits_of tb rb fb t2 r2 fa.2
    rw [List.all_cons]
    cases g : getK q.1 bs with
    | none =>
      have h0 := rb.val (Sum.inr q.1)
      rw [val_no tb g] at h0
      have h1 : PySem.valueAt vb (Sum.inr q.1) = none := by
        cases z : PySem.valueAt vb (Sum.inr q.1) with
        | none => rfl
        | some y => rw [z] at h0; exact h0.elim
      exact .miss h1
    | some d =>
      obtain ⟨w, w1, w2⟩ := val_of tb g
      have h0 := rb.val (Sum.inr q.1)
      rw [w1] at h0
      cases z : PySem.valueAt vb (Sum.inr q.1) with
      | none => rw [z] at h0; exact h0.elim
      | some y =>
        rw [z] at h0
        have fd : flat d = true := by
          have mem : ∀ {bs : List (Str × D)}, getK q.1 bs = some d → d ∈ bs.map (·.2) := fun {bs} => by
            induction bs with
            | nil => intro h; cases h
            | cons p t ih =>
              intro h
              unfold getK at h
              by_cases hp : p.1 = q.1
              · rw [if_pos hp] at h; cases h; exact List.mem_cons_self
              · rw [if_neg hp] at h; exact List.mem_cons_of_mem _ (ih h)
          exact List.all_eq_true.mp fb d (mem g)
        exact .hit z (flat_eq fa.1 fd t1 w2 rx h0) rest
end
section
variable {X : Cx}
noncomputable def rDD (K : PySem.W.Frag) (b : Bool) : R2 := fun x y H Q => ∃ ks ds ms es, Rep K H (.dct ks ds) x ∧ Rep K H (.dct ms es) y ∧ ds.all flat = true ∧ es.all flat = true ∧ Q (.bl (if b = true then sameD (ks.zip ds) (ms.zip es) else !sameD (ks.zip ds) (ms.zip es))) H
theorem two_dicts {pins : List (Addr × Obj)} {σ : L2.St} {H : Hp} {s : Shared} (I : Inv X pins σ H s) {ks ms : List Str} {ds es : List D} {x y : V} {u v : Value} (r1 : Rep X.K H (.dct ks ds) x) (r2 : Rep X.K H (.dct ms es) y) (rx : RelV x u) (ry : RelV y v) (f1 : ds.all flat = true) (f2 : es.all flat = true) :
    ∃ (a b : Addr) (va vb : List (Key × Value)), u = .ref a ∧ v = .ref b ∧ (a == sysModules) = false ∧ (b == sysModules) = false ∧ s.heap.DictOf (mixKind X.prog X.w) a va ∧ s.heap.DictOf (mixKind X.prog X.w) b vb ∧ va.length = (ks.zip ds).length ∧ vb.length = (ms.zip es).length ∧
      ∀ A, PySem.W.KeqHits A s vb va ((ks.zip ds).all fun p => hitD p.2 (getK p.1 (ms.zip es))) := by
  unfold Rep at r1 r2
  obtain ⟨a, vs, rfl, d1, t1, l1⟩ := r1
  obtain ⟨b, ws, rfl, d2, t2, l2⟩ := r2
  obtain ⟨_, n1, va, ra, e1⟩ := dk_rd I.hok d1
  obtain ⟨_, n2, vb, rb, e2⟩ := dk_rd I.hok d2
  have g1 : (ks.zip ds).map (·.1) = ks := List.map_fst_zip (by omega)
  have g2 : (ks.zip ds).map (·.2) = ds := List.map_snd_zip (by omega)
  have g3 : (ms.zip es).map (·.1) = ms := List.map_fst_zip (by omega)
  have g4 : (ms.zip es).map (·.2) = es := List.map_snd_zip (by omega)
  have m1 := t1.length
  have m2 := t2.length
  refine ⟨a, b, va, vb, rx, ry, n1, n2, e1, e2, ?_, ?_, fun A => hits_of (by rw [g4]; exact t2) (by rw [g3]; exact rb) (by rw [g4]; exact f2) (by rw [g2]; exact t1) (by rw [g1]; exact ra) (by rw [g2]; exact f1)⟩
  · rw [← ra.length, List.length_zip, List.length_zip, List.length_map]; omega
  · rw [← rb.length, List.length_zip, List.length_zip, List.length_map]; omega
theorem dd_ne (hu : X.A.units + 64 < cLine) : CmpOk X .NotEq dDn := ⟨rDD X.K false, fun pins s σ H x y u v Q I rx ry hh0_ => by
  obtain ⟨ks, ds, ms, es, r1, r2, f1, f2, q⟩ := hh0_
  obtain ⟨a, b, va, vb, rfl, rfl, n1, n2, e1, e2, l1, l2, h⟩ := two_dicts I r1 r2 rx ry f1 f2
  refine PySem.W.keq_ne n1 n2 e1 e2 (by omega) (fun _ => h _) ⟨.bl _, H, I, ?_, q⟩
  show Value.bool _ = Value.bool _
  rw [l1, l2]
  rfl, fun c H0 H ρ σ x y d vx vy Q R r1 r2 e q => by
    unfold dDn at e
    split at e
    · obtain ⟨⟨f1, f2⟩, rfl⟩ := ifs e
      exact ⟨_, _, _, _, Rep.mono R.same _ r1, Rep.mono R.same _ r2, f1, f2, q _ H0 H (Same.refl _) R (rep_bl _ _)⟩
    · cases e⟩
end
end Fx
set_option maxRecDepth 100000
namespace Fx
open PySem PySem.Spec PyProof.Rows L2
section
variable {X : Cx} {pos : Pos} {e : Expr} {T : FT}
theorem mulOk_small {x : Str} {n : Int} (h1 : 1 ≤ n) (h2 : n ≤ 1000) (h3 : x.length ≤ 1000) : MulOk x n := by
  refine ⟨?_, fun _ _ => ?_, fun _ _ => ?_⟩
  · rw [decide_eq_false (by omega), decide_eq_false (by omega)]; rfl
  · have : (x.length : Int) * n ≤ 1000 * 1000 := Int.mul_le_mul (by omega) h2 (by omega) (by decide)
    have := Int.le_ediv_of_mul_le (show 0 < n by omega) (show (x.length : Int) * n ≤ 2 ^ 63 - 1 by omega)
    omega
  · have : x.length * n.toNat ≤ 1000 * 1000 := Nat.mul_le_mul h3 (by omega)
    unfold Builtin.Str.tooLong
    have big : 1000 * 1000 ≤ sizeLine := by decide
    simp
    omega
theorem oMulS : BinOk X .Mult dMulS := ⟨fun x y H Q => ∃ a n, x = .str a ∧ y = .int n ∧ MulOk a n ∧ Q (.str (Txt.mul a n)) H, fun pins s σ H x y u v Q I rx ry hh0_ => by
  obtain ⟨a, n, ex, ey, ok, q⟩ := hh0_
  subst ex ey
  obtain ⟨t, rfl⟩ := rx
  obtain ⟨w, rfl⟩ := ry
  exact SB.mul ok fun t' k => ⟨.str _, H, I.tok k, ⟨t', rfl⟩, q⟩, fun c H0 H ρ σ x y d vx vy Q R r1 r2 e q => by
    unfold dMulS at e
    split at e
    · obtain ⟨⟨h1, h2, h3⟩, rfl⟩ := ifs e
      unfold Rep at r1 r2
      subst r1 r2
      exact ⟨_, _, rfl, rfl, mulOk_small h1 h2 h3, q _ H0 H (Same.refl _) R (by unfold Rep; rfl)⟩
    · cases e⟩
end
end Fx
namespace Fx
open PySem
inductive RX where
  | ok (r : Res) | ex (x : Str)
noncomputable abbrev FX := En → Option RX
noncomputable def okX (r : Res) : Option RX := some (.ok r)
noncomputable def rS (A : FS) (ρ : En) : Option RX := bnd (A ρ) okX
noncomputable def nxX (B : FX) : RX → Option RX
  | .ok (.nx ρ) => B ρ
  | r => some r
noncomputable def rSeq (A B : FX) (ρ : En) : Option RX := bnd (A ρ) (nxX B)
noncomputable def ifX (A B : FX) (p : Bool × En) : Option RX := if p.1 = true then A p.2 else B p.2
noncomputable def rIf (T : FT) (A B : FX) (ρ : En) : Option RX := bnd (T ρ) (ifX A B)
noncomputable def rRaise (x : Str) (_ : En) : Option RX := some (.ex x)
noncomputable def retX : RX → Option (D ⊕ Str)
  | .ok r => bnd (retR r) fun d => some (.inl d)
  | .ex x => some (.inr x)
noncomputable def fnX (n k : Nat) (B : FX) (ds : List D) : Option (D ⊕ Str) := if ds.length = n then bnd (B (ds.map .im ++ List.replicate k .no)) retX else none
noncomputable def sortX : D ⊕ Str → Option D
  | .inl _ => some (.str "right")
  | .inr y => if y = "NoComing" then some (.str "none") else if y = "Late" then some (.str "late") else none
noncomputable def sortM (g : List D → Option (D ⊕ Str)) (ds : List D) : Option D := if ds.length = 3 then bnd (g ds) sortX else none
@[simp] theorem rS_ (A : FS) (ρ : En) : rS A ρ = bnd (A ρ) okX := Eq.trans rfl rfl
@[simp] theorem okX_ (r : Res) : okX r = some (.ok r) := Eq.trans rfl rfl
@[simp] theorem nxX_n (B : FX) (ρ : En) : nxX B (.ok (.nx ρ)) = B ρ := Eq.trans rfl rfl
@[simp] theorem nxX_r (B : FX) (d : D) (ρ : En) : nxX B (.ok (.rt d ρ)) = some (.ok (.rt d ρ)) := Eq.trans rfl rfl
@[simp] theorem nxX_x (B : FX) (x : Str) : nxX B (.ex x) = some (.ex x) := Eq.trans rfl rfl
@[simp] theorem rSeq_ (A B : FX) (ρ : En) : rSeq A B ρ = bnd (A ρ) (nxX B) := Eq.trans rfl rfl
@[simp] theorem ifX_t (A B : FX) (ρ : En) : ifX A B (true, ρ) = A ρ := Eq.trans rfl rfl
@[simp] theorem ifX_f (A B : FX) (ρ : En) : ifX A B (false, ρ) = B ρ := Eq.trans rfl rfl
@[simp] theorem rIf_ (T : FT) (A B : FX) (ρ : En) : rIf T A B ρ = bnd (T ρ) (ifX A B) := Eq.trans rfl rfl
@[simp] theorem rRaise_ (x : Str) (ρ : En) : rRaise x ρ = some (.ex x) := Eq.trans rfl rfl
@[simp] theorem retX_n (ρ : En) : retX (.ok (.nx ρ)) = some (.inl .non) := Eq.trans rfl rfl
@[simp] theorem retX_r (d : D) (ρ : En) : retX (.ok (.rt d ρ)) = some (.inl d) := Eq.trans rfl rfl
@[simp] theorem retX_x (x : Str) : retX (.ex x) = some (.inr x) := Eq.trans rfl rfl
end Fx
set_option maxRecDepth 100000
namespace Fx
open PySem PySem.W L2
structure XC (K : Frag) (C : Addr) : Prop where
  is : (clsIn K C).isSome = true
  ga : findIn K (.ref C) "__getattribute__" = some (some (.builtin "BaseException.__getattribute__"))
  gh : findIn K (.ref C) "__getattr__" = some none
  cl : findIn K (.ref C) "__class__" = some (some (.builtin "object.__class__"))
  ge : specialIn K (.builtin "object.__class__") "__get__" = some (some (.builtin "getset_descriptor.__get__"))
  tk : takesIn K (.builtin "object.__class__") = some true
  mo : mroIn K C (.type "object") = some true
  mb : mroIn K C (.type "BaseException") = some true
section
variable {prog : Program} {w : World} {A : Around} {E : Value → Shared → Prop} {s : Shared} {K : Frag} {C x : Addr} {ox : Obj}
theorem XC.ty {M : Model} {h : Heap} (f : XC K C) (X : K.In h) : Looks M h (isType (.ref C)) true := by
  obtain ⟨cd, hc⟩ := Option.isSome_iff_exists.mp f.is
  revert hc
  unfold clsIn
  intro hc
  split at hc
  · rename_i o1 o2 o3 o4 hl
    exact fun A Q E s k q => wpAny_bind (wpAny_loadPart (k C _ (X C _ hl)) (wpAny_pure q))
  · exact nomatch hc
theorem XC.ck {tk : Tok} {n : Str} {Q : Unit → Shared → Prop} (f : XC K C) (X : K.In s.heap) (I : InstAt s.heap x ox C none) (h : Q () s) :
    wpAny (model prog w) A (checkBuiltinCall "BaseException.__getattribute__" ⟨[.ref x, .str n tk], []⟩) Q E s := by
  have e1 : builtinKind "BaseException.__getattribute__" = some .slot := by decide +kernel
  have e2 : splitId "BaseException.__getattribute__" = some ("BaseException", "__getattribute__") := by decide +kernel
  have e3 := F.args_bexc_ga (.ref x) (.str n tk)
  obtain ⟨hh, g, d, t, os⟩ := s
  have L1 : Looks (model prog w) hh (isInstance (.ref x) (.type "BaseException")) true := (I.type (M := model prog w)).andThen (looks_mroIn X f.mb)
  simp only [checkBuiltinCall, e1, e2]
  refine wpAny_bind (L1.at ?_)
  rw [if_neg (by decide)]
  exact wpAny_of_eq e3 h
theorem XC.ca {Q : Option Value → Shared → Prop} (f : XC K C) (X : K.In s.heap) (I : InstAt s.heap x ox C none) (h : Q (some (.ref C)) { s with toks := s.toks + 1 }) :
    wpAny (model prog w) A (getAttr? (.ref x) "__class__") Q E s := by
  have fo : findObj K C none "__class__" = some (.bind (.builtin "getset_descriptor.__get__") (.builtin "object.__class__")) := by
    obtain ⟨cd, hc⟩ := Option.isSome_iff_exists.mp f.is
    simp [findObj, hc, f.cl, f.ge, f.tk]
  obtain ⟨hh, g, d, t, os⟩ := s
  have L0 := I.type (M := model prog w)
  have L1 := looks_findIn (M := model prog w) X f.ga
  have L2 := looks_findIn (M := model prog w) X f.gh
  have L3 := looks_find (M := model prog w) X I fo
  have bn : (onTheHeap (.ref C) && Value.builtin "BaseException.__getattribute__" == Value.builtin "object.__getattribute__") = false := by
    rw [show (Value.builtin "BaseException.__getattribute__" == Value.builtin "object.__getattribute__") = false by decide +kernel]; rfl
  unfold getAttr? getAttrBy?
  refine wpAny_bind (wpAny_mkText (wpAny_bind (wpAny_attempt ?_)))
  unfold getAttrBy
  refine wpAny_holding (wpAny_bind (L0.at (wpAny_bind (L1.at ?_))))
  dsimp only
  rw [bn, if_neg (by decide)]
  unfold getAttrByItsOwn hookBefore
  refine wpAny_bind ?_
  rw [show onTheHeap (.ref C) = true from rfl, if_pos rfl]
  refine L2.at (wpAny_bind (wpAny_attempt (wpAny_holding ?_)))
  unfold callGetattribute
  rw [show (false && onTheHeap (Value.builtin "BaseException.__getattribute__")) = false from rfl, if_neg (by decide)]
  unfold boundAndCalled
  refine wpAny_bind (wpAny_of_eq (F.attr_ValueError.ga.bind (.ref x)) ?_)
  refine wpAny_call (codeAny_call_builtin F.attr_ValueError.ga.plain F.entry_bexc_ga (f.ck X I ?_))
  unfold Builtin.«object.__getattribute__»
  refine wpAny_bind (wpAny_pure (a := (Value.ref x, [Value.str "__class__" t])) (wpAny_bind (wpAny_pure (wpAny_bind (L0.at (wpAny_bind (L3.at ?_)))))))
  dsimp only
  unfold Builtin.ObjectAttr.bindTo
  refine wpAny_bind (wpAny_holding (wpAny_call (class_get (ox := ox) (od := none) X I f.mo (wpAny_pure ?_))))
  exact handed_on rfl (wpAny_pure h)
theorem XC.kitx (f : XC K C) : KitX K (.ref x) (.ref C) (fun h => InstAt h x ox C none) where
  ty := fun _ _ _ I => I.type
  it := fun _ _ X _ => f.ty X
  ne := fun h tp dd its n sl X e => by
    obtain ⟨cd, hc⟩ := Option.isSome_iff_exists.mp f.is
    cases hq : (Value.ref C == Value.ref tp) with
    | false => rfl
    | true =>
      obtain rfl : C = tp := Value.ref.inj (beq_iff_eq.mp hq)
      revert hc
      unfold clsIn
      intro hc
      split at hc
      · rename_i o1 o2 o3 o4 hl
        exact nomatch (X C _ hl).symm.trans e
      · exact nomatch hc
  ca := fun X I k => f.ca X I k
end
end Fx
set_option maxRecDepth 100000
namespace Fx
open PySem PySem.W L2
noncomputable def rcd (c : Value) (vs : Array Value) : Obj := { cls := c, dict := none, data := .fields vs, slots := #[] }
noncomputable def Aw (fs es : List Addr) (h h' : Heap) : Prop := ∀ b o, h.get? b = some o → b ∉ es → (b ∉ fs → h'.get? b = some o) ∧ ∃ sl, h'.get? b = some { o with slots := sl }
theorem Aw.of {fs es : List Addr} {h h' : Heap} (k : ∀ b o, b ∉ es → h.get? b = some o → h'.get? b = some o) : Aw fs es h h' := fun b o e n => ⟨fun _ => k b o n e, o.slots, k b o n e⟩
theorem Aw.trans {fs es : List Addr} {h h1 h2 : Heap} (a : Aw fs es h h1) (b : Aw fs es h1 h2) : Aw fs es h h2 := fun c o e n => by
  obtain ⟨p, sl, q⟩ := a c o e n
  obtain ⟨_, sl', q'⟩ := b c _ q n
  exact ⟨fun m => (b c o (p m) n).1 m, sl', q'⟩
theorem Aw.mono {fs es fs' es' : List Addr} {h h' : Heap} (a : Aw fs es h h') (f : ∀ b ∈ fs, b ∈ fs') (g : ∀ b ∈ es, b ∈ es' ∨ h.get? b = none) : Aw fs' es' h h' := fun b o e n => by
  have n' : b ∉ es := fun z => (g b z).elim n fun q => by rw [e] at q; cases q
  exact ⟨fun m => (a b o e n').1 fun z => m (f b z), (a b o e n').2⟩
noncomputable def Fly (h : Heap) (e T C : Addr) (fl : Value) : Prop := T ≠ e ∧ (∃ vs, h.get? e = some (rcd (.ref C) vs) ∧ vs[1]? = some (.ref T)) ∧ ∃ ts, h.get? T = some (rcd (.type "traceback") ts) ∧ ts[3]? = some fl
section
variable {prog : Program} {w : World} {A : Around} {E : Value → Shared → Prop} {s : Shared} {base : Heap} {env : Env} {outer : List Env} {L e C T : Addr} {Q : Unit → Shared → Prop}
theorem no_frame {l : List Env} {c : Value} {vs : Array Value} (hl : s.heap.FunFrames base l) (he : s.heap.get? e = some (rcd c vs)) : e ∉ frs l := fun z => by
  obtain ⟨_, o, ho, hn⟩ := hl.mem z
  rw [he] at ho
  cases ho
  exact hn vs rfl
theorem entry_ok {head : Value} {nx : Bool} {vs : Array Value} (hfr : A.frames = some (env :: outer)) (hl : s.heap.FunFrames base (env :: outer)) (hf : env.frame = some L)
    (he : s.heap.get? e = some (rcd (.ref C) vs)) (h1 : 1 < vs.size) (k : ∀ h' T, Aw (frs (env :: outer)) [e] s.heap h' → s.heap.objs.size ≤ T → Fly h' e T C (rawInt L) → Q () { s with heap := h' }) :
    wpAny (model prog w) A (do setField (.ref e) 1 (← EntryCells.newEntry head (← frameOf env) .none (rawInt L) .none (← entryPlaceOf L nx))) Q E s := by
  refine wpAny_bind (wpAny_frameOf_fun hfr hl hf fun g hg => wpAny_bind (wpAny_entryPlaceOf fun pl hp => wpAny_bind ?_))
  refine wpAny_newObj_type ?_ (hp.sizeOk5 head (.ref L) .none (rawInt L) .none)
  have hz : ([head, .ref L, .none, rawInt L, .none] ++ (if pl.isEmpty then List.replicate 6 Value.none else pl)).toArray[3]? = some (rawInt L) := rfl
  generalize ([head, .ref L, .none, rawInt L, .none] ++ (if pl.isEmpty then List.replicate 6 Value.none else pl)).toArray = ts at hz ⊢
  have eg : g.get? e = some (rcd (.ref C) vs) := (hg.2.1 e (no_frame hl he)).trans he
  refine wpAny_setField_rec (Heap.get?_push_of_some _ eg) h1 fun h' e1 sb => ?_
  have te : g.objs.size ≠ e := Nat.ne_of_gt (Heap.lt_size eg)
  refine k h' g.objs.size (fun b o q n => ?_) (Nat.le_of_eq hg.1.symm) ⟨te, ⟨_, e1, by simp [h1]⟩, ts, ?_, hz⟩
  · have be : b ≠ e := fun z => n (by simp [z])
    have up : ∀ o', g.get? b = some o' → h'.get? b = some o' := fun o' z => (sb.2 b be).trans (Heap.get?_push_of_some _ z)
    obtain ⟨sl, z⟩ := hg.2.2 b o q
    exact ⟨fun m => up o ((hg.2.1 b m).trans q), sl, up _ z⟩
  · exact (sb.2 _ te).trans (Heap.get?_push_size _ rfl)
theorem note_first {vs : Array Value} (hfr : A.frames = some (env :: outer)) (hl : s.heap.FunFrames base (env :: outer)) (hf : env.frame = some L)
    (he : s.heap.get? e = some (rcd (.ref C) vs)) (h1 : vs[1]? = some .none) (k : ∀ h' T, Aw (frs (env :: outer)) [e] s.heap h' → s.heap.objs.size ≤ T → Fly h' e T C (rawInt L) → Q () { s with heap := h' }) :
    wpAny (model prog w) A (noteFrame (.ref e) env) Q E s := by
  simp only [noteFrame, hf]
  refine wpAny_bind (wpAny_field he rfl h1 ?_)
  rw [show (Value.none != Value.none) = false from rfl, if_neg (by decide)]
  exact entry_ok hfr hl hf he (Array.getElem?_eq_some_iff.mp h1).1 k
theorem note_next (hfr : A.frames = some (env :: outer)) (hl : s.heap.FunFrames base (env :: outer)) (hf : env.frame = some L) (x : Fly s.heap e T C .none)
    (k : ∀ h' T', Aw (frs (env :: outer)) [e, T] s.heap h' → s.heap.objs.size ≤ T' → Fly h' e T' C (rawInt L) → Q () { s with heap := h' }) : wpAny (model prog w) A (noteFrame (.ref e) env) Q E s := by
  obtain ⟨te, ⟨vs, he, h1⟩, ts, ht, h3⟩ := x
  simp only [noteFrame, hf]
  refine wpAny_bind (wpAny_field he rfl h1 ?_)
  rw [show (Value.ref T != Value.none) = true from rfl, if_pos rfl]
  refine wpAny_bind (wpAny_field ht rfl h3 ?_)
  rw [show (Value.none == rawInt L) = false from rfl, if_neg (by decide)]
  refine wpAny_bind (wpAny_setField_rec ht (Array.getElem?_eq_some_iff.mp h3).1 fun h1' e1 sb => ?_)
  have hl' : h1'.FunFrames base (env :: outer) := hl.of_keeps fun b o q n => by
    have bt : b ≠ T := fun z => by subst z; rw [ht] at q; cases q; exact n ts rfl
    exact ⟨o, (sb.2 b bt).trans q, rfl⟩
  refine entry_ok (s := { s with heap := h1' }) hfr hl' hf ((sb.2 e te.symm).trans he) (Array.getElem?_eq_some_iff.mp h1).1 fun h' T' a z f => k h' T' (fun b o q n => ?_) (Nat.le_trans (Nat.le_of_eq sb.1.symm) z) f
  simp only [List.mem_cons, List.not_mem_nil, or_false, not_or] at n
  exact a b o ((sb.2 b n.2).trans q) (by simp [n.1])
theorem land_ok {fl : Value} (x : Fly s.heap e T C fl) (k : ∀ h', Heap.SameBut T s.heap h' → Fly h' e T C .none → Q () { s with heap := h' }) : wpAny (model prog w) A (setFlight (.ref e) none) Q E s := by
  obtain ⟨te, ⟨vs, he, h1⟩, ts, ht, h3⟩ := x
  have z3 : 3 < ts.size := (Array.getElem?_eq_some_iff.mp h3).1
  unfold setFlight
  refine wpAny_bind (wpAny_field he rfl h1 ?_)
  rw [show (Value.ref T != Value.none) = true from rfl, if_pos rfl]
  exact wpAny_setField_rec ht z3 fun h' e1 sb => k h' sb ⟨te, ⟨vs, (sb.2 e te.symm).trans he, h1⟩, _, e1, by simp [z3]⟩
end
end Fx
set_option maxRecDepth 100000
namespace Fx
open PySem PySem.W PySem.Spec PyProof.Rows L2
noncomputable def CXE (P : Program) (w : World) : CXT := fun outer H s E e s' => ∃ a T C H', e = .ref a ∧ s'.os = s.os ∧ AllBare s'.gens ∧ Un (frs outer) [] H H' s.heap s'.heap ∧ HOk P w H' s'.heap ∧
  s.heap.get? a = none ∧ s.heap.get? T = none ∧ H' a = none ∧ H' T = none ∧ Fly s'.heap a T C .none ∧ E (.ref C) none H'
theorem live_of {P : Program} {w : World} {H : Hp} {h : Heap} {a : Addr} : ∀ {o : HO}, ObjOk P w H h a o → ∃ u, h.get? a = some u
  | .lst _, ⟨_, _, _, _, e⟩ => ⟨_, e⟩
  | .tup _, ⟨_, _, _, o, e, _⟩ => ⟨_, e⟩
  | .dK _, ⟨_, _, _, _, o, _, _, e, _⟩ => ⟨_, e⟩
  | .dT _, ⟨_, _, _, _, o, _, _, e, _⟩ => ⟨_, e⟩
  | .set _ _, ⟨_, _, _, _, e, _⟩ => ⟨_, e⟩
  | .ins _ _ _, ⟨_, _, _, e, _⟩ => ⟨_, e⟩
  | .own _, e => e
  | .xd _, ⟨_, x, _⟩ => by obtain ⟨o, _, _, e, _⟩ := x; exact ⟨_, e⟩
  | .rng _ _, ⟨_, _, _, e⟩ => ⟨_, e⟩
  | .frz _ _, ⟨e, _⟩ => ⟨_, e⟩
  | .tbl _, e => ⟨_, e⟩
  | .met _ _, e => ⟨_, e⟩
  | .ext _, ⟨_, e, _⟩ => e
theorem dead_free {P : Program} {w : World} {H : Hp} {h : Heap} {a : Addr} (ok : HOk P w H h) (n : h.get? a = none) : H a = none := by
  cases e : H a with
  | none => rfl
  | some o =>
    obtain ⟨u, q⟩ := live_of (ok a o e)
    rw [n] at q; cases q
section
variable {X : Cx} {pins : List (Addr × Obj)} {σ : L2.St} {H : Hp} {s : Shared} {h' : Heap} {es : List Addr}
theorem hok_aw {P : Program} {w : World} {H : Hp} {h h' : Heap} {fs es : List Addr} (ok : HOk P w H h) (a : Aw fs es h h') (hf : ∀ b ∈ fs, H b = none) (he : ∀ b ∈ es, H b = none) : HOk P w H h' := fun b o e => by
  have out : ∀ c, H c ≠ none → c ∉ fs ∧ c ∉ es := fun c n => ⟨fun z => n (hf c z), fun z => n (he c z)⟩
  refine (ok b o e).stay (fun c u hc q => ?_) (fun _ z => z) (fun _ _ z => z)
  have n : H c ≠ none := by
    rcases hc with rfl | hc
    · rw [e]; exact Option.some_ne_none _
    · rw [hc]; exact Option.some_ne_none _
  exact (a c u q (out c n).2).1 (out c n).1
noncomputable def NoOne (X : Cx) (pins : List (Addr × Obj)) (H : Hp) (b : Addr) : Prop :=
  H b = none ∧ b ≠ X.env.locals ∧ (b ∈ X.ex ∨ X.s₀.heap.get? b = none) ∧ (∀ x c, X.env.cells.lookup x = some c → c ≠ b) ∧ ∀ p ∈ X.pn ++ pins, p.1 ≠ b
theorem no_one {H' : Hp} {b : Addr} (I : Inv X pins σ H s) (n : s.heap.get? b = none) (hn : H' b = none) : NoOne X pins H' b := by
  refine ⟨hn, fun z => ?_, ?_, fun x c e z => ?_, fun p hp z => ?_⟩
  · obtain ⟨m, ⟨o, _, _, q, _⟩, _⟩ := I.loc
    rw [← z, n] at q; cases q
  · by_cases hx : b ∈ X.ex
    · exact .inl hx
    · refine .inr ?_
      cases e : X.s₀.heap.get? b with
      | none => rfl
      | some o =>
        obtain ⟨o', q⟩ := I.base.there b o e hx
        rw [n] at q; cases q
  · obtain ⟨v, o, q, _⟩ := I.cell x c e
    rw [z, n] at q; cases q
  · have q := (I.pin p hp).1
    rw [z, n] at q; cases q
theorem inv_aw {t' : Nat} (I : Inv X pins σ H s) (a : Aw (frs X.stack) es s.heap h') (he : ∀ b ∈ es, NoOne X pins H b) : Inv X pins σ H { s with heap := h', toks := t' } := by
  have old : ∀ b o, X.s₀.heap.get? b = some o → b ∉ X.ex → b ≠ X.env.locals ∧ b ∉ es := fun b o q hx => by
    refine ⟨Nat.ne_of_lt (Nat.lt_of_lt_of_le (Heap.lt_size q) I.ok.above), fun z => ?_⟩
    rcases (he b z).2.2.1 with y | y
    · exact hx y
    · rw [q] at y; cases y
  have fr : ∀ b, b ≠ X.env.locals → b ∉ X.fs → b ∉ frs X.stack := fun b n m z => (List.mem_cons.mp (I.stkSub b z)).elim n m
  have un := I.base
  have cel : ∀ x c v, X.env.cells.lookup x = some c → s.heap.IsCell c v → h'.IsCell c v := fun x c v e hh0_ => by
    obtain ⟨o, q, d⟩ := hh0_
    obtain ⟨_, sl, q'⟩ := a c o q fun z => (he c z).2.2.2.1 x c e rfl
    exact ⟨_, q', d⟩
  refine ⟨I.ok, I.os, I.bare, ⟨fun b o q n hb hx => ?_, fun b o q n hb hx => ?_, un.free, fun b o q hx => ?_, un.tups, un.frzs, un.tbls⟩, ?_, fun x c e => ?_, I.free, I.freeC, fun p hp => ?_, hok_aw I.hok a I.stkFree fun b z => (he b z).1, I.len⟩
  · exact (a b o (un.keep b o q n hb hx) (old b o q hx).2).1 (fr b (old b o q hx).1 hb)
  · obtain ⟨sl, q1⟩ := un.slot b o q n hb hx
    obtain ⟨_, sl', q2⟩ := a b _ q1 (old b o q hx).2
    exact ⟨sl', q2⟩
  · obtain ⟨o', q1⟩ := un.there b o q hx
    obtain ⟨_, sl', q2⟩ := a b _ q1 (old b o q hx).2
    exact ⟨_, q2⟩
  · obtain ⟨m, ⟨o, es', ep, q, r⟩, hl⟩ := I.loc
    obtain ⟨_, sl, q'⟩ := a _ o q fun z => (he _ z).2.1 rfl
    refine ⟨m, ⟨_, es', ep, q', r⟩, fun i x v e1 e2 e3 => ?_⟩
    obtain ⟨u, rv, l⟩ := hl i x v e1 e2 e3
    refine ⟨u, rv, l.imp id ?_⟩
    rintro ⟨k, c, e, z⟩
    exact ⟨k, c, e, cel x c _ e z⟩
  · obtain ⟨v, z⟩ := I.cell x c e
    exact ⟨v, cel x c v e z⟩
  · obtain ⟨q, n, ne, nf, d⟩ := I.pin p hp
    exact ⟨(a p.1 p.2 q fun z => (he _ z).2.2.2.2 p hp rfl).1 (fr p.1 ne nf), n, ne, nf, d⟩
end
section
variable {P : Program} {w : World} {K : PySem.W.Frag} {mg : Str → Option Value} {base : Heap} {N : List Str} {qual : Str} {scope : Scope} {f : Addr} {cd : Value} {A : Around} {outer : List Env} {s : Shared} {H : Hp} {E : XK}
theorem leave_ok {pins : List (Addr × Obj)} {σ : L2.St} {H1 : Hp} {s2 : Shared} {a C : Addr} (I : Inv (cxOf (CXE P w) P w K mg base N qual scope f cd A outer s H E) pins σ H1 s2)
    (fa : H1 a = none) (na : s.heap.get? a = none) (there : (∃ vs, s2.heap.get? a = some (rcd (.ref C) vs) ∧ vs[1]? = some .none) ∨ ∃ T, H1 T = none ∧ s.heap.get? T = none ∧ Fly s2.heap a T C .none) (e : E (.ref C) none H1) :
    (cxOf (CXE P w) P w K mg base N qual scope f cd A outer s H E).xe (.ref a) s2 := by
  have fs2 : s2.heap.FunFrames base (envOfC qual scope s.heap.objs.size f cd :: outer) := I.stack
  have hfr : (A.deeper (envOfC qual scope s.heap.objs.size f cd)).frames = some (envOfC qual scope s.heap.objs.size f cd :: outer) := I.ok.frames
  have un := I.base
  have new0 : ∀ b, s2.heap.get? b = none → s.heap.get? b = none := fun b z => by
    cases q : s.heap.get? b with
    | none => rfl
    | some o =>
      obtain ⟨o', q'⟩ := un.there b o q (by intro y; cases y)
      rw [z] at q'; cases q'
  have hL : ∀ b o, s.heap.get? b = some o → b ≠ s.heap.objs.size := fun b o q => Nat.ne_of_lt (Heap.lt_size q)
  have fin : ∀ (h' : Heap) (T : Addr) (es : List Addr), Aw (frs (envOfC qual scope s.heap.objs.size f cd :: outer)) es s2.heap h' → (∀ b ∈ es, H1 b = none ∧ s.heap.get? b = none) → T ∈ es → Fly h' a T C .none → CXE P w outer H s E (.ref a) { s2 with heap := h' } := by
    intro h' T es aw hes hT fl
    have off : ∀ b o, s.heap.get? b = some o → b ∉ es := fun b o q z => by rw [(hes b z).2] at q; cases q
    refine ⟨a, T, C, H1, rfl, I.os, I.bare, ⟨fun b o q n hb _ => ?_, fun b o q n hb _ => ?_, fun b o q n hx => un.free b o q n hx, fun b o q hx => ?_, un.tups, un.frzs, un.tbls⟩, hok_aw I.hok aw (fun b z => I.stkFree b z) (fun b z => (hes b z).1),
      na, (hes T hT).2, fa, (hes T hT).1, fl, e⟩
    · have q1 : s2.heap.get? b = some o := un.keep b o q n hb (by intro z; cases z)
      refine (aw b o q1 (off b o q)).1 fun z => ?_
      rcases List.mem_cons.mp (show b ∈ s.heap.objs.size :: frs outer from z) with z | z
      · exact hL b o q z
      · exact hb z
    · obtain ⟨sl, q1⟩ := un.slot b o q n hb (by intro z; cases z)
      obtain ⟨_, sl', q2⟩ := aw b _ q1 (off b o q)
      exact ⟨sl', q2⟩
    · obtain ⟨o', q1⟩ := un.there b o q hx
      obtain ⟨_, sl', q2⟩ := aw b _ q1 (off b o q)
      exact ⟨_, q2⟩
  have land : ∀ (h' : Heap) (T : Addr) (es : List Addr), Aw (frs (envOfC qual scope s.heap.objs.size f cd :: outer)) es s2.heap h' → s2.heap.objs.size ≤ T → (∀ b ∈ es, H1 b = none ∧ s.heap.get? b = none) → Fly h' a T C (rawInt s.heap.objs.size) →
      wpAny (model P w) (A.deeper (envOfC qual scope s.heap.objs.size f cd)) (setFlight (.ref a) none) (fun _ s'' => CXE P w outer H s E (.ref a) s'') (fun e' s'' => CXE P w outer H s E e' s'') { s2 with heap := h' } := by
    intro h' T es aw zT hes fl
    have dT : s2.heap.get? T = none := Heap.get?_none_of_le zT
    refine land_ok fl fun h2 sb fl2 => fin h2 T (T :: es) (fun b o q n => ?_) (fun b z => ?_) (by simp) fl2
    · simp only [List.mem_cons, not_or] at n
      obtain ⟨p1, sl, q1⟩ := aw b o q n.2
      exact ⟨fun m => (sb.2 b n.1).trans (p1 m), sl, (sb.2 b n.1).trans q1⟩
    · rcases List.mem_cons.mp z with rfl | z
      · exact ⟨dead_free I.hok dT, new0 _ dT⟩
      · exact hes b z
  show wpAny _ _ (leaving _ _) _ _ _
  unfold leaving
  rcases there with ⟨vs, ea, h1⟩ | ⟨T, fT, nT, fl⟩
  · exact wpAny_bind (note_first hfr fs2 rfl ea h1 fun h' T a1 z fl => land h' T [a] a1 z (by simpa using ⟨fa, na⟩) fl)
  · exact wpAny_bind (note_next hfr fs2 rfl fl fun h' T' a1 z fl' => land h' T' [a, T] a1 z (by simpa using ⟨⟨fa, na⟩, fT, nT⟩) fl')
noncomputable def Raises (X : Cx) (E : XK) : Prop := ∀ (pins : List (Addr × Obj)) (σ : L2.St) (H : Hp) (s : Shared) (h' : Heap) (e C : Addr) (args : List Value), Inv X pins σ H s → Heap.MadeExcOf s.heap h' e (.ref C) args → E (.ref C) none H → X.xe (.ref e) { s with heap := h' }
theorem raises_def : Raises (cxOf (CXE P w) P w K mg base N qual scope f cd A outer s H E) E := fun pins σ H1 s1 h' e C args I x q => by
  obtain ⟨t, he, _, _⟩ := x.there
  have I2 := I.un (t' := s1.toks) (h' := h') (Un.kept x.keeps) (I.hok.kept x.keeps)
  refine leave_ok I2 (dead_free I.hok x.new) ?_ (.inl ⟨_, he, rfl⟩) q
  cases z : s.heap.get? e with
  | none => rfl
  | some o =>
    obtain ⟨o', q'⟩ := I.base.there e o z (by intro y; cases y)
    rw [x.new] at q'; cases q'
end
end Fx
set_option maxRecDepth 100000
namespace Fx
open PySem PySem.W PySem.Spec PyProof.Rows L2
abbrev bmV : List Value := [.type "ValueError", .type "Exception", .type "BaseException", .type "object"]
theorem exc_obj {K : Frag} {h : Heap} {C : Addr} {i : String} (X : K.In h) (x : excIn K C bmV i = true) : ∃ bm N nm q bs hd sn sub ab col dd k0 k1 k2 k3 k5 m, h.get? C = some (excClassObj nm q C N bs bm hd sn sub ab col dd k0 k1 k2 k3 k5 i) ∧ h.Ns N m ∧ m "__init__" = none ∧ OwnTail h bmV bm := by
  revert x
  unfold excIn
  intro x
  split at x
  case h_2 => cases x
  case h_1 dd c sl l =>
    split at x
    case h_2 => cases x
    case h_1 C' bm k0 k1 k2 k3 n k5 e1 e2 =>
      simp only [Bool.and_eq_true, beq_iff_eq, Bool.not_eq_true'] at x
      obtain ⟨⟨⟨⟨⟨x1, x2⟩, x3⟩, x4⟩, x5⟩, x6⟩ := x
      have at_ := X C _ l
      obtain ⟨c1, c2, c3, c4, c5, c6, c7, c8, c9, c10, c11⟩ := c
      obtain ⟨sl⟩ := sl
      cases e1; cases x1; cases x2; cases x3
      cases (show sl = _ from e2)
      exact ⟨bm, c4, c1, c5, c2, c6, c7, c8, c9, c10, dd, k0, k1, k2, k3, k5, h.nsMap c4, at_, .of_isNs (isNs_of_in X x5), nsMap_none_of_in X x5 x6, tail_of_in X x4⟩
section
variable {X : Cx} {E : XK} {x t : Str} {C : Addr} {j : Nat} {np p2 cpos pos : Pos}
theorem ps_raise (hR : Raises X E) (hc : X.calm = true) (hm : X.mg x = some (.ref C)) (hx : excIn X.K C bmV "ValueError.__new__" = true) (hg : Gl X x) (hd : (x == ("__debug__" : Str)) = false)
    (hs : starEach [.Constant (.str t) j p2] X.env = [(false, eval (.Constant (.str t) j p2) X.env)]) :
    PS X (.Raise (some (.Call (.Name x np) [.Constant (.str t) j p2] [] cpos)) none pos) (fun _ _ H => E (.ref C) none H) := by
  intro pins s σ H D I q
  obtain ⟨bm, N, nm, qn, bs, h6, sn, sub, ab, col, dd, k0, k1, k2, k3, k5, m, c1, c2, c3, c4⟩ := exc_obj I.mod.kin hx
  have ad := hs ▸ pa_cons (X := X) (pe_str (x := t) (j := j) (pos := p2)) pa_nil hs cpos pins s σ H (fun vs H' => H' = H ∧ vs.length = 1) I ⟨rfl, rfl⟩
  refine wpAny_Raise_call_subU (nm := nm) (q := qn) (N := N) (bs := bs) (bm := bm) (hdct := h6) (sn := sn) (sub := sub) (ab := ab) (col := col) (dd := dd) (k0 := k0) (k1 := k1) (k2 := k2) (k3 := k3) (k5 := k5) F.excBase_ValueError (by decide)
    F.excBase_ValueError (c4.hasType (by decide)) (I.ok.hd hc) (by rw [hs]; rfl) c3 (ld_glob I hg hm ⟨rfl, hs ▸ Calls.evalArgs_plain (thn ad fun us s2 ⟨vs, H2, I2, r, z, e⟩ => ?_)⟩ hd)
  subst z
  refine ⟨rfl, ?_, I2.bk C _ c1, c2.keeps I2.bk, c4.keeps I2.bk, fun h' a x => hR pins σ H2 s2 h' a C us I2 x q⟩
  rw [← r.length, e]; decide
end
end Fx
set_option maxRecDepth 100000
namespace Fx
open PySem PySem.W PySem.Spec PyProof.Rows L2
noncomputable def PostX (K : Frag) (mg : Str → Option Value) (E : XK) (c : FC) (Dn : Ends) (H0 : Hp) : RX → Prop
  | .ok r => Post K c Dn H0 r
  | .ex x => ∀ C ρ' σ' H0' H', mg x = some (.ref C) → Same H0 H0' → RS K c H0' H' ρ' σ' → E (.ref C) none H'
theorem PostX.mono {K : Frag} {mg : Str → Option Value} {E : XK} {c : FC} {Dn : Ends} {H0 H1 : Hp} (s : Same H0 H1) : ∀ {r : RX}, PostX K mg E c Dn H0 r → PostX K mg E c Dn H1 r
  | .ok _, h => Post.mono s h
  | .ex _, h => fun C ρ' σ' H0' H' m z => h C ρ' σ' H0' H' m (s.trans z)
noncomputable def tX (K : Frag) (mg : Str → Option Value) (E : XK) (F : FX) : TS := fun Dn σ H => ∃ c H0 ρ r, RS K c H0 H ρ σ ∧ F ρ = some r ∧ PostX K mg E c Dn H0 r
noncomputable def XX1 (X : Cx) (E : XK) (st : Stmt) (F : FX) : Prop := PS X st (tX X.K X.mg E F)
noncomputable def XX (X : Cx) (E : XK) (sts : List Stmt) (F : FX) : Prop := PSs X sts (tX X.K X.mg E F)
section
variable {X : Cx} {E : XK} {st : Stmt} {sts : List Stmt} {A B : FX} {S : FS} {T : FT}
theorem rS_inv {S : FS} {ρ : En} {r : RX} (h : rS S ρ = some r) : ∃ z, S ρ = some z ∧ r = .ok z := by
  obtain ⟨z, h1, h2⟩ := bnd_eq h
  exact ⟨z, h1, (Option.some.inj h2).symm⟩
theorem xxs (h : XS X st S) : XX1 X E st (rS S) := PS.wk h fun Dn σ H hh0_ => by
  obtain ⟨c, H0, ρ, r, R, f, q⟩ := hh0_
  obtain ⟨z, h1, rfl⟩ := rS_inv f
  exact ⟨c, H0, ρ, z, R, h1, q⟩
theorem xxss (h : XSs X sts S) : XX X E sts (rS S) := PSs.wk h fun Dn σ H hh0_ => by
  obtain ⟨c, H0, ρ, r, R, f, q⟩ := hh0_
  obtain ⟨z, h1, rfl⟩ := rS_inv f
  exact ⟨c, H0, ρ, z, R, h1, q⟩
theorem xx1 (h : XX1 X E st A) : XX X E [st] A := pss_one h
theorem xxC (h1 : XX1 X E st A) (h2 : XX X E sts B) : XX X E (st :: sts) (rSeq A B) := PSs.wk (pss_cons h1 h2) fun Dn σ H hh0_ => by
  obtain ⟨c, H0, ρ, r, R, f, q⟩ := hh0_
  obtain ⟨z, h, f⟩ := bnd_eq f
  refine ⟨c, H0, ρ, z, R, h, ?_⟩
  match z, f with
  | .ok (.nx ρ1), f => exact fun σ' H0' H' s R' => ⟨c, H0', ρ1, r, R', f, q.mono s⟩
  | .ok (.rt _ _), f => cases f; exact q
  | .ok (.bk _), f => cases f; exact q
  | .ok (.ct _), f => cases f; exact q
  | .ex _, f => cases f; exact q
theorem xxif {c : Expr} {a b : List Stmt} {pos : Pos} (hc : XT X c T) (ha : XX X E a A) (hb : XX X E b B) : XX1 X E (.If c a b pos) (rIf T A B) := PS.wk (ps_if hc ha hb) fun Dn σ H hh0_ => by
  obtain ⟨c, H0, ρ, r, R, f, q⟩ := hh0_
  obtain ⟨⟨k, ρ1⟩, h1, f⟩ := bnd_eq f
  refine ⟨c, H0, ρ, k, ρ1, R, h1, fun H1 Hh s1 R1 => ?_⟩
  cases k with
  | true => rw [if_pos rfl]; exact ⟨c, H1, ρ1, r, R1, f, q.mono s1⟩
  | false => rw [if_neg Bool.false_ne_true]; exact ⟨c, H1, ρ1, r, R1, f, q.mono s1⟩
theorem xxraise {x t : Str} {C : Addr} {j : Nat} {np p2 cpos pos : Pos} (hR : Raises X E) (hm : X.mg x = some (.ref C)) (hx : excIn X.K C bmV "ValueError.__new__" = true) (hc : X.calm = true := by rfl) (hg : Gl X x := by rfl) (hd : (x == ("__debug__" : Str)) = false := by decide)
    (hs : starEach [.Constant (.str t) j p2] X.env = [(false, eval (.Constant (.str t) j p2) X.env)] := by rfl) : XX1 X E (.Raise (some (.Call (.Name x np) [.Constant (.str t) j p2] [] cpos)) none pos) (rRaise x) :=
  PS.wk (ps_raise hR hc hm hx hg hd hs) fun Dn σ H hh0_ => by
    obtain ⟨c, H0, ρ, r, R, f, q⟩ := hh0_
    cases f
    exact q C ρ σ H0 H hm (Same.refl _) R
end
noncomputable def endX (K : Frag) (mg : Str → Option Value) (Hi H : Hp) (Q : VK) (E : XK) : D ⊕ Str → Prop
  | .inl d => ∀ v Hi' H', Step Hi H Hi' H' → Rep K Hi' d v → Q v H'
  | .inr x => ∀ C Hi' H', mg x = some (.ref C) → Step Hi H Hi' H' → E (.ref C) none H'
noncomputable def spX (K : Frag) (mg : Str → Option Value) (g : List D → Option (D ⊕ Str)) : Sp := fun vs H Q E => ∃ Hi ds r, Same Hi H ∧ Reps K Hi ds vs ∧ g ds = some r ∧ endX K mg Hi H Q E r
structure DefX (P : Program) (w : World) (K : Frag) (mg : Str → Option Value) (base : Heap) (k : Nat) (x : Str) (g : List D → Option (D ⊕ Str)) : Prop where
  ex : ∃ f fd ps, FnOk P w K mg base (CXE P w) k f fd ps (spX K mg g) ∧ Binds K fd ps [] ∧ keepIn K (.ref f) = true ∧ mg x = some (.ref f)
theorem fnX_ok {P : Program} {w : World} {K : Frag} {mg : Str → Option Value} {base : Heap} {x qual : Str} {st : Stmt} {f : Addr} {fd : FuncData} {N ps : List Str} {k n m : Nat} {B : FX} (F : Fun K x qual st f fd) (S : FnScope N ps (defScope st)) (hn : ps.length = n) (hN : N.length = n + m)
    (hb : ∀ (cdv : Value) (A : Around) (outer : List Env) (s : Shared) (H : Hp) (E : XK), Room k (A.deeper (envOfC qual (defScope st) s.heap.objs.size f cdv)) → XX (cxOf (CXE P w) P w K mg base N qual (defScope st) f cdv A outer s H E) E (defBody st) B) :
    FnOk P w K mg base (CXE P w) (k + 1) f fd ps (spX K mg (fnX n m B)) := by
  have inv : ∀ {ds : List D} {r : D ⊕ Str}, fnX n m B ds = some r → ds.length = n ∧ ∃ z, B (ds.map .im ++ List.replicate m .no) = some z ∧ retX z = some r := fun {ds r} h => by
    unfold fnX at h
    split at h
    · rename_i hl
      obtain ⟨z, h1, h2⟩ := bnd_eq h
      exact ⟨hl, z, h1, h2⟩
    · cases h
  obtain ⟨oc, od, kV, doc, pm, an, cdv, ct, osl, rfl, lk, hcd⟩ := F.ex
  refine fn_of lk hcd S (fun vs H Q E h => ?_) fun A outer s H vs Q E hr h => ?_
  · obtain ⟨Hi, ds, d, _, r, e, _⟩ := h
    rw [hn, ← r.length]; exact (inv e).1
  · obtain ⟨Hi, ds, d, hs, r, e, q⟩ := h
    obtain ⟨hl, z, h1, h2⟩ := inv e
    refine ⟨_, hb cdv A outer s H E hr, ⟨Hi, H, []⟩, Hi, _, z, RS.start (n := N.length) (m := m) hs r (by rw [← r.length]; omega), h1, ?_⟩
    match z, h2 with
    | .ok (.nx _), h2 => cases h2; exact fun σ' H0' H' s0 R => q .non H0' H' R.step (by unfold Rep; rfl)
    | .ok (.rt _ _), h2 => cases h2; exact fun v σ' H0' H' s0 R rv => q v H0' H' R.step rv
    | .ok (.bk _), h2 => cases h2
    | .ok (.ct _), h2 => cases h2
    | .ex _, h2 => cases h2; exact fun C ρ' σ' H0' H' m s0 R => q C H0' H' m R.step
end Fx
set_option maxRecDepth 100000
namespace Fx
open PySem PySem.W PySem.Spec PyProof.Rows L2
section
variable {X : Cx} {pins : List (Addr × Obj)} {σ : L2.St} {H : Hp} {s : Shared} {a : Addr} {o : Obj}
noncomputable abbrev withPin (X : Cx) (a : Addr) (o : Obj) : Cx := { X with pn := (a, o) :: X.pn }
theorem okPin (k : X.Ok) : (withPin X a o).Ok := ⟨k.mod, k.kind, k.glob, k.blt, k.above, k.inj, k.has, k.cab, k.hd, k.frames, k.stk, k.exf, k.bs, k.bsz, k.noex, k.exfs, k.funs, k.frf⟩
theorem unPin (k : (withPin X a o).Ok) : X.Ok := ⟨k.mod, k.kind, k.glob, k.blt, k.above, k.inj, k.has, k.cab, k.hd, k.frames, k.stk, k.exf, k.bs, k.bsz, k.noex, k.exfs, k.funs, k.frf⟩
theorem add_pin (I : Inv X pins σ H s) (q : s.heap.get? a = some o) (n : H a = none) (nL : a ≠ X.env.locals) (nf : a ∉ X.fs) (d : ∀ v, o.data ≠ .cell v) : Inv X ((a, o) :: pins) σ H s :=
  ⟨I.ok, I.os, I.bare, I.base, I.loc, I.cell, I.free, I.freeC, fun p hp => by
    rcases List.mem_append.mp hp with z | z
    · exact I.pin p (List.mem_append.mpr (.inl z))
    · rcases List.mem_cons.mp z with rfl | z
      · exact ⟨q, n, nL, nf, d⟩
      · exact I.pin p (List.mem_append.mpr (.inr z)), I.hok, I.len⟩
theorem to_pn (I : Inv X ((a, o) :: pins) σ H s) : Inv (withPin X a o) pins σ H s :=
  ⟨okPin I.ok, I.os, I.bare, I.base, I.loc, I.cell, I.free, I.freeC, fun p hp => I.pin p (by simp at hp ⊢; rcases hp with rfl | z | z <;> simp [*]), I.hok, I.len⟩
theorem off_pn (I : Inv (withPin X a o) pins σ H s) : Inv X pins σ H s :=
  ⟨unPin I.ok, I.os, I.bare, I.base, I.loc, I.cell, I.free, I.freeC, fun p hp => I.pin p (List.mem_cons_of_mem _ hp), I.hok, I.len⟩
theorem sp_off {D : Ends} {f : Flow} {s' : Shared} (h : SP (withPin X a o) pins D f s') : SP X pins D f s' := by
  cases f with
  | next => obtain ⟨σ', H', I, q⟩ := h; exact ⟨σ', H', off_pn I, q⟩
  | brk => obtain ⟨σ', H', I, q⟩ := h; exact ⟨σ', H', off_pn I, q⟩
  | cont => obtain ⟨σ', H', I, q⟩ := h; exact ⟨σ', H', off_pn I, q⟩
  | ret u => obtain ⟨v, σ', H', I, r, q⟩ := h; exact ⟨v, σ', H', off_pn I, r, q⟩
noncomputable abbrev inSuite (X : Cx) (a : Addr) (E : Value → Shared → Prop) : Cx := { X with A := X.A.mark (some (.ref a)), calm := false, xe := E }
theorem in_suite {E : Value → Shared → Prop} (I : Inv X pins σ H s) (b : Addr) : Inv (inSuite X b E) pins σ H s :=
  let k := I.ok
  ⟨⟨k.mod, k.kind, k.glob, k.blt, k.above, k.inj, k.has, k.cab, (fun z => nomatch z), k.frames, k.stk, k.exf, k.bs, k.bsz, k.noex, k.exfs, k.funs, k.frf⟩, I.os, I.bare, I.base, I.loc, I.cell, I.free, I.freeC, I.pin, I.hok, I.len⟩
theorem un_suite {E : Value → Shared → Prop} {b : Addr} (ok : X.Ok) (I : Inv (inSuite X b E) pins σ H s) : Inv X pins σ H s :=
  ⟨ok, I.os, I.bare, I.base, I.loc, I.cell, I.free, I.freeC, I.pin, I.hok, I.len⟩
theorem inv_gone {i : Nat} {x : Str} {h' : Heap} {v : Option Value} {t' : Nat} {m : Str → Option Value} (I : Inv X pins σ H s) (hN : X.N.Nodup) (hi : X.N[i]? = some x) (hm : s.heap.Ns X.env.locals m) (hn : h'.Ns X.env.locals (fun y => if y = x then v else m y)) (sb : Heap.SameBut X.env.locals s.heap h') :
    Inv X pins (σ.set i none) H { s with heap := h', toks := t' } := by
  have alt : ∀ b o, X.s₀.heap.get? b = some o → b ≠ X.env.locals := fun b o q => Nat.ne_of_lt (Nat.lt_of_lt_of_le (Heap.lt_size q) I.ok.above)
  refine ⟨I.ok, I.os, I.bare, ⟨fun b o e n hb hx => (sb.2 b (alt b o e)).trans (I.base.keep b o e n hb hx), fun b o e n hb hx => ?_, I.base.free, fun b o e hx => ?_, I.base.tups, I.base.frzs, I.base.tbls⟩, ?_, fun y c e => ?_, I.free, I.freeC, fun p hp => ?_, fun b u e => ?_, by simpa using I.len⟩
  · obtain ⟨sl, q⟩ := I.base.slot b o e n hb hx
    exact ⟨sl, (sb.2 b (alt b o e)).trans q⟩
  · obtain ⟨o', q⟩ := I.base.there b o e hx
    exact ⟨o', (sb.2 b (alt b o e)).trans q⟩
  · obtain ⟨m1, hm1, hl⟩ := I.loc
    obtain ⟨oL, es1, ep1, q1, d1, k1, f1⟩ := hm1
    obtain ⟨oL', es2, ep2, q2, d2, k2, f2⟩ := hm
    rw [q1] at q2; cases q2
    rw [d1] at d2; cases d2
    have mm : m = m1 := funext fun y => (f2 y).symm.trans (f1 y)
    subst mm
    refine ⟨_, hn, fun j y u e1 e2 e3 => ?_⟩
    by_cases hj : j = i
    · subst hj
      rw [List.getElem?_set_self (by rw [I.len]; exact (List.getElem?_eq_some_iff.mp hi).1)] at e2
      cases e2
    · rw [List.getElem?_set_ne (Ne.symm hj)] at e2
      obtain ⟨w, r, l⟩ := hl j y u e1 e2 e3
      have ne : y ≠ x := fun z => hj (nodup_ix hN e1 (z ▸ hi))
      refine ⟨w, r, ?_⟩
      rcases l with ⟨k, e⟩ | ⟨k, c, e, z⟩
      · exact .inl ⟨k, by simp [ne, e]⟩
      · exact .inr ⟨k, c, e, z.sameBut sb (I.cne y c e)⟩
  · obtain ⟨w, z⟩ := I.cell y c e
    exact ⟨w, z.sameBut sb (I.cne y c e)⟩
  · obtain ⟨q, n, ne, nf, d⟩ := I.pin p hp
    exact ⟨(sb.2 p.1 ne).trans q, n, ne, nf, d⟩
  · refine (I.hok b u e).stay (fun c w hc q => (sb.2 c fun z => ?_).trans q) (fun _ q => q) fun _ _ q => q
    subst z
    have hfree := I.free
    rcases hc with rfl | hc
    · rw [hfree] at e; cases e
    · rw [hfree] at hc; cases hc
end
end Fx
set_option maxRecDepth 100000
namespace Fx
open PySem PySem.W PySem.Spec PyProof.Rows L2
section
variable {X : Cx} {k : Nat} {x : Str} {g : List D → Option (D ⊕ Str)} {e0 : Expr} {es : List Expr} {A : FA} {p pos : Pos}
noncomputable def Came (X : Cx) (pins : List (Addr × Obj)) (σ : L2.St) (c : FC) (H0 : Hp) (ρ' : En) (y : Str) (e : Value) (s' : Shared) : Prop :=
  ∃ C a T H0' H', X.mg y = some (.ref C) ∧ e = .ref a ∧ Inv X pins σ H' s' ∧ Same H0 H0' ∧ RS X.K c H0' H' ρ' σ ∧ NoOne X pins H' a ∧ NoOne X pins H' T ∧ Fly s'.heap a T C .none
theorem eval_x (hf : ∀ e s, X.xe e s → False) (G : DefX X.prog X.w X.K X.mg X.base k x g) (hr : Room k X.A) (ha : XA X (e0 :: es) A) (hg : Gl X x) (hdb : (x == ("__debug__" : Str)) = false)
    (he : starEach (e0 :: es) X.env = (false, eval e0 X.env) :: starEach es X.env) (hpl : (backTo pos (starEach es X.env)).any (·.1) = false)
    {pins : List (Addr × Obj)} {s : Shared} {σ : L2.St} {H H0 : Hp} {c : FC} {ρ ρ' : En} {ds : List D} {r : D ⊕ Str} (I : Inv X pins σ H s) (R : RS X.K c H0 H ρ σ) (h1 : A ρ = some (ds, ρ')) (h2 : g ds = some r) :
    wpAny (model X.prog X.w) X.A (eval (.Call (.Name x p) (e0 :: es) [] pos) X.env) (fun _ s' => (∃ d, r = .inl d) ∧ ∃ H0' H', Inv X pins σ H' s' ∧ Same H0 H0' ∧ RS X.K c H0' H' ρ' σ) (fun e s' => ∃ y, r = .inr y ∧ Came X pins σ c H0 ρ' y e s') s := by
  obtain ⟨f, fd, ps, Fk, hb, hk, hm⟩ := G.ex
  refine wpAny_Call_Name_kw (ld_glob I hg hm ?_ hdb)
  refine callWith_K (h₀ := X.base) I.ok.mod.kin hk (wpAny_mono (ha pos pins s σ H (fun vs H' => ∃ H0', Same H0 H0' ∧ RS X.K c H0' H' ρ' σ ∧ Reps X.K H0' ds vs) I ⟨c, H0, ρ, ds, ρ', R, h1, fun vs H0' H' a b d => ⟨H0', a, b, d⟩⟩) (fun us s1 h => ?_) fun e s1 z => (hf e s1 z).elim) he hpl
  obtain ⟨vs, H1, I1, rv, H0', sm, R1, rp⟩ := h
  refine ⟨I1.kIn, ?_⟩
  have sp : spX X.K X.mg g vs H1 (fun _ H' => (∃ d, r = .inl d) ∧ ∃ H0'', Same H0 H0'' ∧ RS X.K c H0'' H' ρ' σ) (fun cl _ H' => ∃ y C H0'', r = .inr y ∧ X.mg y = some (.ref C) ∧ cl = .ref C ∧ Same H0 H0'' ∧ RS X.K c H0'' H' ρ' σ) := by
    refine ⟨H0', ds, r, R1.same, rp, h2, ?_⟩
    cases r with
    | inl d => exact fun v Hi' H' S _ => ⟨⟨d, rfl⟩, Hi', sm.trans S.s0, R1.after S⟩
    | inr y => exact fun C Hi' H' m S => ⟨y, C, Hi', rfl, m, rfl, sm.trans S.s0, R1.after S⟩
  have hl : us.length = ps.length := by rw [← rv.length]; exact Fk.len _ _ _ _ sp
  have hbi := hb s1 us I1.kIn (by rw [List.append_nil]; exact hl)
  rw [List.append_nil] at hbi
  refine wpAny_call (codeAny_mono (Fk.run X.A X.stack s1 H1 ⟨us, []⟩ us vs _ _ hr I1.env0 hbi rv sp) fun z s' hq => ?_)
  cases z with
  | error e =>
    obtain ⟨a, T, C, H', rfl, os, gs, un, ok, na, nT, fa, fT, fl, y, C', H0'', hy, m, z, sm', R'⟩ := hq
    cases z
    obtain ⟨hh, gg, d, t, os'⟩ := s'
    obtain rfl : os' = s1.os := os
    have I2 := I1.call (h' := hh) (g' := gg) (d' := d) (t' := t) (ch := []) un ok gs (fun b z => absurd z (by simp))
    exact ⟨y, hy, C, a, T, H0'', H', m, rfl, I2, sm', R', no_one I1 na fa, no_one I1 nT fT, fl⟩
  | ok fl =>
    cases fl with
    | ret u =>
      obtain ⟨v, H', I2, _, hd, H0'', sm', R'⟩ := I1.after hq
      exact ⟨hd, H0'', H', I2, sm', R'⟩
    | next => exact False.elim hq
    | brk => exact False.elim hq
    | cont => exact False.elim hq
noncomputable def Rest (X : Cx) (ie ik : Nat) (rest : List Stmt) (Dn : Ends) (σ : L2.St) (C : Addr) (H : Hp) : Prop :=
  ∀ a vs, ∃ t, PSs (withPin X a (rcd (.ref C) vs)) rest t ∧ t Dn (((σ.set ik (some (.ref a))).set ie (some (.ref a))).set ik none) H
theorem caught_ok {pins : List (Addr × Obj)} {s : Shared} {σ : L2.St} {c : FC} {H0 : Hp} {ρ' : En} {y wn xe xk : Str} {W : Addr} {ie ik : Nat} {Dn : Ends} {rest : List Stmt} {e : Value} {p1 p2 p3 p4 p5 : Pos}
    (hst : X.stack = X.env :: X.outer) (hfr : X.env.frame = some X.env.locals) (hN : X.N.Nodup) (hie : X.N[ie]? = some xe) (hik : X.N[ik]? = some xk) (le : X.env.scope.names.lookup xe = some .local) (lk : X.env.scope.names.lookup xk = some .local)
    (hg : Gl X wn) (hW : X.mg wn = some (.ref W)) (hwd : (wn == ("__debug__" : Str)) = false) (hkd : (xk == ("__debug__" : Str)) = false) (hkc : (xk == ("__classdict__" : Str)) = false) (hex : ∀ C, X.mg y = some (.ref C) → exmOne X.K (.ref C) (.ref W) = some true)
    (hsw : swapsWith (.Name xk p3) (some (.Name xe p2)) p4.line X.env = pure false)
    (q : ∀ C H0' H', X.mg y = some (.ref C) → Same H0 H0' → RS X.K c H0' H' ρ' σ → Rest X ie ik rest Dn σ C H') (h : Came X pins σ c H0 ρ' y e s) :
    wpAny (model X.prog X.w) X.A (noteFrame e X.env) (fun _ s₂ => wpAny (model X.prog X.w) X.A (setFlight e none) (fun _ s₃ =>
      wpAny (model X.prog X.w) X.A (handleBy e X.env [.ExceptHandler (some (.Name wn p1)) (some xk) [.Assign [.Name xe p2] (.Name xk p3) p4] p5]) (fun f s4 => match f with | .next => wpAny (model X.prog X.w) X.A (execs rest X.env) (SP X pins Dn) X.xe s4 | f => SP X pins Dn f s4) X.xe s₃) X.xe s₂) X.xe s := by
  obtain ⟨C, a, T, H0', H', m, rfl, I1, sm, R, ya, yT, fl⟩ := h
  have fr := I1.ok.frames
  rw [hst] at fr
  have st := I1.stack
  rw [hst] at st
  refine note_next fr st hfr fl fun h2 T2 aw2 z2 fl2 => ?_
  rw [← hst] at aw2
  have I2 := inv_aw (t' := s.toks) I1 aw2 (by simpa using ⟨ya, yT⟩)
  have d2 : s.heap.get? T2 = none := Heap.get?_none_of_le z2
  have y2 : NoOne X pins H' T2 := no_one I1 d2 (dead_free I1.hok d2)
  refine land_ok fl2 fun h3 sb3 fl3 => ?_
  have I3 := inv_aw (t' := s.toks) (es := [T2]) (h' := h3) I2 (Aw.of fun b o n z => (sb3.2 b (by simpa using n)).trans z) (by simpa using y2)
  refine wpAny_handleBy_cons (codeAny_handlers_test (ld_glob (in_suite (E := X.xe) I3 a) hg hW ?_ hwd)) (by intro z; cases z)
  have L0 : Looks (model X.prog X.w) h3 (typeOf (.ref a)) (.ref C) := by
    obtain ⟨_, ⟨vs, q1, _⟩, _⟩ := fl3
    exact (Looks.ld q1).andThen .now
  refine (exm_one I3.kIn L0 (hex C m)).at ?_
  refine codeAny_handlers_suite_as (land_ok fl3 fun h4 sb4 fl4 => ?_)
  have I4 := inv_aw (t' := s.toks) (es := [T2]) (h' := h4) I3 (Aw.of fun b o n z => (sb4.2 b (by simpa using n)).trans z) (by simpa using y2)
  obtain ⟨_, ⟨vs, q4, _⟩, _⟩ := id fl4
  have nf : a ∉ X.fs := fun z => no_frame (s := { s with heap := h4 }) I4.funs q4 z
  have I5 := add_pin (a := a) (o := rcd (.ref C) vs) I4 q4 ya.1 ya.2.1 nf (fun v z => nomatch z)
  refine store_ok (v := .ref a) I5 hN hik (.inl lk) rfl (fun s5 I6 => ?_) (.inr lk)
  have go := pss_one (X := inSuite X a fun _ _ => False) (ps_set (i := ie) (pos := p4) (pos' := p2) hN hie (.inl le) (pv ik (pos := p3) hik (Or.inl lk) hkd hkc) hsw (.inr le))
  have hlen : ik < σ.length := by rw [I1.len]; exact (List.getElem?_eq_some_iff.mp hik).1
  refine wpAny_mono (go _ s5 _ H' { nx := fun σ' H'' => H'' = H' ∧ σ' = (σ.set ik (some (.ref a))).set ie (some (.ref a)), rt := fun _ _ => False } (in_suite I6 a) ⟨.ref a, List.getElem?_set_self hlen, rfl, rfl⟩) (fun f s6 h6 => ?_) fun _ _ z => z.elim
  cases f with
  | brk => obtain ⟨_, _, _, z⟩ := h6; exact z.elim
  | cont => obtain ⟨_, _, _, z⟩ := h6; exact z.elim
  | ret u => obtain ⟨_, _, _, _, _, z⟩ := h6; exact z.elim
  | next =>
    obtain ⟨σ6, H6, I7, rfl, rfl⟩ := h6
    have I8 := un_suite I1.ok I7
    obtain ⟨m8, hm8, _⟩ := id I8.loc
    refine wpAny_nameGoes_keeps lk hm8 (by rw [I8.ok.kind]; rfl) fun h9 v hn9 sb9 => ?_
    have I9 := to_pn (inv_gone (t' := s6.toks + 1) I8 hN hik hm8 hn9 sb9)
    obtain ⟨t, ht, hq⟩ := q C H0' H6 m sm R a vs
    exact wpAny_mono (ht pins _ _ H6 Dn I9 hq) (fun f s' z => sp_off z) fun _ _ z => z
theorem pss_try {wn xe xk : Str} {W : Addr} {ie ik : Nat} {rest : List Stmt} {tN : TS} {p1 p2 p3 p4 p5 p6 p7 : Pos} (hf : ∀ e s, X.xe e s → False) (G : DefX X.prog X.w X.K X.mg X.base k x g) (hr : Room k X.A) (ha : XA X (e0 :: es) A)
    (hst : X.stack = X.env :: X.outer) (hfr : X.env.frame = some X.env.locals) (hN : X.N.Nodup) (hie : X.N[ie]? = some xe) (hik : X.N[ik]? = some xk) (le : X.env.scope.names.lookup xe = some .local) (lk : X.env.scope.names.lookup xk = some .local)
    (hg' : Gl X wn) (hW : X.mg wn = some (.ref W)) (hex : ∀ y C, X.mg y = some (.ref C) → (y = "NoComing" ∨ y = "Late") → exmOne X.K (.ref C) (.ref W) = some true) (hs : PSs X rest tN)
    (hsw : swapsWith (.Name xk p3) (some (.Name xe p2)) p4.line X.env = pure false := by rfl) (hse : swapsWith (.Call (.Name x p) (e0 :: es) [] pos) none p6.line X.env = pure false := by rfl)
    (hwd : (wn == ("__debug__" : Str)) = false := by decide) (hkd : (xk == ("__debug__" : Str)) = false := by decide) (hkc : (xk == ("__classdict__" : Str)) = false := by decide) (hg : Gl X x := by rfl) (hdb : (x == ("__debug__" : Str)) = false := by decide)
    (he : starEach (e0 :: es) X.env = (false, eval e0 X.env) :: starEach es X.env := by rfl) (hpl : (backTo pos (starEach es X.env)).any (·.1) = false := by rfl) :
    PSs X (.Try [.Expr (.Call (.Name x p) (e0 :: es) [] pos) p6] [.ExceptHandler (some (.Name wn p1)) (some xk) [.Assign [.Name xe p2] (.Name xk p3) p4] p5] [] [] p7 :: rest)
      (fun Dn σ H => ∃ c H0 ρ ds ρ' r, RS X.K c H0 H ρ σ ∧ A ρ = some (ds, ρ') ∧ g ds = some r ∧ match r with
        | .inl _ => ∀ H0' H', Same H0 H0' → RS X.K c H0' H' ρ' σ → tN Dn σ H'
        | .inr y => (y = "NoComing" ∨ y = "Late") ∧ ∀ C H0' H', X.mg y = some (.ref C) → Same H0 H0' → RS X.K c H0' H' ρ' σ → Rest X ie ik rest Dn σ C H') := by
  intro pins s σ H Dn I ⟨c, H0, ρ, ds, ρ', r, R, h1, h2, q⟩
  refine wpAny_execs_cons (wpAny_Try_except (wpAny_execs_cons (wpAny_Expr_any (wpAny_mono (eval_x hf G hr ha hg hdb he hpl I R h1 h2) (fun v s1 z => ?_) fun e s1 z => ?_) I.quiet hse)))
  · obtain ⟨⟨d, rfl⟩, H0', H', I1, sm, R1⟩ := z
    exact wpAny_execs_nil (wpAny_execs_nil (hs pins s1 σ H' Dn I1 (q H0' H' sm R1)))
  · obtain ⟨y, rfl, z⟩ := z
    exact caught_ok hst hfr hN hie hik le lk hg' hW hwd hkd hkc (fun C m => hex y C m q.1) hsw q.2 z
end
end Fx
set_option maxRecDepth 100000
namespace Fx
open PySem PySem.W PySem.Spec PyProof.Rows L2
structure XCls (K : Frag) (mg : Str → Option Value) (c0 c1 c2 c3 c4 c5 c6 c7 : Addr) : Prop where
  m_NoComing : mg "NoComing" = some (.ref c0)
  m_Late : mg "Late" = some (.ref c1)
  m_WellError : mg "WellError" = some (.ref c2)
  m_NoCell : mg "NoCell" = some (.ref c3)
  m_NoOrder : mg "NoOrder" = some (.ref c4)
  m_NoPaper : mg "NoPaper" = some (.ref c5)
  m_NoText : mg "NoText" = some (.ref c6)
  m_NoWorks : mg "NoWorks" = some (.ref c7)
  x_NoComing : excIn K c0 bmV "ValueError.__new__" = true
  e0 : exmOne K (.ref c0) (.ref c2) = some true
  k0 : XC K c0
  n0 : kitAny K (.ref c0) [.ref c3, .ref c4, .ref c5, .ref c6, .ref c7] = some false
  v0 : kitOne K (.ref c0) (.type "ValueError") = some true
  l0 : kitOne K (.ref c0) (.ref c1) = some false
  s0 : kitOne K (.ref c0) (.ref c0) = some true
  x_Late : excIn K c1 bmV "ValueError.__new__" = true
  e1 : exmOne K (.ref c1) (.ref c2) = some true
  k1 : XC K c1
  n1 : kitAny K (.ref c1) [.ref c3, .ref c4, .ref c5, .ref c6, .ref c7] = some false
  v1 : kitOne K (.ref c1) (.type "ValueError") = some true
  l1 : kitOne K (.ref c1) (.ref c1) = some true
  s1 : kitOne K (.ref c1) (.ref c0) = some false
  z_ValueError : mg "ValueError" = none
theorem cls_is {K : Frag} {c : Addr} {v : Value} {b : Bool} (h : mroIn K c v = some b) : (clsIn K c).isSome = true := by
  unfold mroIn at h
  cases e : clsIn K c with
  | none => rw [e] at h; cases h
  | some d => rfl
theorem same_upd {H : Hp} {p : Addr} {o : HO} (h : H p = none) : Same H (upd H p o) := fun b u e => by
  rw [upd_ne fun z => by rw [z, h] at e; cases e]
  exact e
theorem sortM_inv {g : List D → Option (D ⊕ Str)} {ds : List D} {d : D} (h : sortM g ds = some d) : ds.length = 3 ∧ ∃ z, g ds = some z ∧ sortX z = some d := by
  unfold sortM at h
  split at h
  · rename_i hl
    obtain ⟨z, h1, h2⟩ := bnd_eq h
    exact ⟨hl, z, h1, h2⟩
  · cases h
section
variable {X : Cx} {a C : Addr} {vs : Array Value} {x : Str} {p pos : Pos}
theorem inst_of {pins : List (Addr × Obj)} {σ : L2.St} {H : Hp} {s : Shared} (I : Inv (withPin X a (rcd (.ref C) vs)) pins σ H s) : InstAt s.heap a (rcd (.ref C) vs) C none :=
  ⟨(I.pin (a, rcd (.ref C) vs) (List.mem_cons_self)).1, rfl, rfl, trivial⟩
theorem call_one {b : Bool} {u : Value} {v : V} (f : XC X.K C) (ru : ∀ w, RelV v w → w = u) (hk : kitOne X.K (.ref C) u = some b) : CallR (withPin X a (rcd (.ref C) vs)) (.builtin "isinstance") (fun xs H Q => xs = [.ref a, v] ∧ Q (.bl b) H) := by
  intro pins s σ H xs us Q I r h
  obtain ⟨rfl, q⟩ := h
  obtain ⟨u1, u2, rfl, r1, r2⟩ := vals2 r
  obtain rfl : u1 = .ref a := r1
  obtain rfl := ru u2 r2
  exact kia_one f.kitx I.kIn (inst_of I) hk (fun z => nomatch z) fun tk => ⟨.bl b, H, I.tok tk, rfl, q⟩
theorem call_tup {b : Bool} {cs : List Addr} (f : XC X.K C) (hk : kitAny X.K (.ref C) (cs.map Value.ref) = some b) : CallR (withPin X a (rcd (.ref C) vs)) (.builtin "isinstance") (fun xs H Q => ∃ t, xs = [.ref a, .ref t] ∧ H t = some (.tup (cs.map V.ref)) ∧ Q (.bl b) H) := by
  intro pins s σ H xs us Q I r h
  obtain ⟨t, rfl, ht, q⟩ := h
  obtain ⟨u1, u2, rfl, r1, r2⟩ := vals2 r
  obtain rfl : u1 = .ref a := r1
  obtain rfl : u2 = .ref t := r2
  obtain ⟨_, its, rv, o, e1, e2, ⟨n, e3⟩, e4⟩ := (show ObjOk _ _ H s.heap t (.tup (cs.map V.ref)) from I.hok t _ ht)
  have hits : ∀ (cs : List Addr) (its : List Value), Vals (cs.map V.ref) its → its = cs.map Value.ref := by
    intro cs
    induction cs with
    | nil => intro its r; cases r; rfl
    | cons c l ih =>
      intro its r
      cases r with
      | cons r1 r2 =>
        rw [ih _ r2]
        rw [show _ = Value.ref c from r1]
        rfl
  rw [hits cs its rv] at e3
  obtain ⟨oc, od, dt, sl⟩ := o
  cases e2; cases e3; cases e4
  exact kia_tup f.kitx I.kIn (inst_of I) e1 hk (fun z => nomatch z) fun tk => ⟨.bl b, H, I.tok tk, rfl, q⟩
theorem pe_cls {Y : Cx} {D : Addr} (hm : Y.mg x = some (.ref D)) (hg : Gl Y x := by rfl) (hd : (x == ("__debug__" : Str)) = false := by decide) : PE Y (.Name x p) (tC (.ref D)) := fun pins s σ H Q I h => ld_glob I hg hm ⟨.ref D, H, I, rfl, h⟩ hd
end
end Fx
namespace Fx
open PySem
noncomputable section
noncomputable def b_is_key : FS :=
  (sSeq (sIf (tOr (tNot (tV (eTy .str (eV 0)))) (tNot (tB (e3 dLe dLe (eC (.int 1)) (eF bLen2 (aC (eV 0) aN)) (eC (.int 8))))))
  (sRet (eC (.bl false)))
  sN)
  (sRet (eF bAll (aC (eLC [] (eV 0) tYes (e2 dIn2 (eV 0) (eC (.str (Str.ofString "abcdefghijklmnopqrstuvwxyz"))))) aN))))
noncomputable def m_is_key : List D → Option D := fnD 1 0 b_is_key
noncomputable def b_is_between : FS :=
  (sRet (eAnd (eOr (e2 dIs (eV 1) (eC .non)) (e2 dLe (eV 1) (eV 0))) (eOr (e2 dIs (eV 2) (eC .non)) (e2 dLe (eV 0) (eV 2)))))
noncomputable def m_is_between : List D → Option D := fnD 3 0 b_is_between
noncomputable abbrev l_row_named_1 : FS :=
  (sIf (tB (e2 dEq (e2 dIx2 (eV 2) (eC (.int 1))) (eV 1)))
  (sRet (eV 2))
  sN)
noncomputable def b_row_named : FS :=
  (sSeq (sFor (gN 2) (eV 0)
  l_row_named_1)
  (sRet (eC .non)))
noncomputable def m_row_named : List D → Option D := fnD 2 1 b_row_named
noncomputable def b_is_whole : FS :=
  (sRet (eAnd (eTy .int (eV 0)) (eNot (eTy .bool (eV 0)))))
noncomputable def m_is_whole : List D → Option D := fnD 1 0 b_is_whole
noncomputable def b_is_time : FS :=
  (sRet (eAnd (eF m_is_whole (aC (eV 0) aN)) (e2 dGe (eV 0) (eC (.int 0)))))
noncomputable def m_is_time : List D → Option D := fnD 1 0 b_is_time
noncomputable def b_is_thing_of : FS :=
  (sSeq (sIf (tOr (tNot (tV (eF m_is_time (aC (e2 dIx2 (eV 1) (eC (.int 0))) aN)))) (tOr (tNot (tV (eF m_is_key (aC (e2 dIx2 (eV 1) (eC (.int 1))) aN)))) (tNot (tV (eF m_is_whole (aC (e2 dIx2 (eV 1) (eC (.int 2))) aN))))))
  (sRet (eC (.bl false)))
  sN)
  (sRet (eF m_is_between (aC (e2 dIx2 (eV 1) (eC (.int 2))) (aC (e2 dIx2 (e2 dIx2 (eV 0) (eC (.int 3))) (eC (.int 0))) (aC (e2 dIx2 (e2 dIx2 (eV 0) (eC (.int 3))) (eC (.int 1))) aN))))))
noncomputable def m_is_thing_of : List D → Option D := fnD 2 0 b_is_thing_of
noncomputable def b_is_coming : FS :=
  (sSeq (sIf (tOr (tNot (tV (eTy .tuple (eV 1)))) (tB (e2 dLt (eF bLen2 (aC (eV 1) aN)) (eC (.int 2)))))
  (sRet (eC (.bl false)))
  sN)
  (sSeq (sSet 2 (eF m_row_named (aC (eV 0) (aC (e2 dIx2 (eV 1) (eC (.int 1))) aN))))
  (sSeq (sIf (tOr (tB (e2 dIs (eV 2) (eC .non))) (tB (e2 dNe (e2 dIx2 (eV 2) (eC (.int 0))) (eC (.str (Str.ofString "in"))))))
  (sRet (eC (.bl false)))
  sN)
  (sSeq (sIf (tB (e2 dEq (e2 dIx2 (eV 1) (eC (.int 0))) (eC (.str (Str.ofString "thing")))))
  (sRet (eAnd (e2 dEq (eF bLen2 (aC (eV 1) aN)) (eC (.int 5))) (eF m_is_thing_of (aC (eV 2) (aC (eSl2 (eV 1) (oS (eC (.int 2))) oN) aN)))))
  sN)
  (sSeq (sIf (tB (e2 dEq (e2 dIx2 (eV 1) (eC (.int 0))) (eC (.str (Str.ofString "mark")))))
  (sRet (eAnd (e2 dEq (eF bLen2 (aC (eV 1) aN)) (eC (.int 3))) (eF m_is_time (aC (e2 dIx2 (eV 1) (eC (.int 2))) aN))))
  sN)
  (sRet (eAnd (e2 dEq (e2 dIx2 (eV 1) (eC (.int 0))) (eC (.str (Str.ofString "close")))) (e2 dEq (eF bLen2 (aC (eV 1) aN)) (eC (.int 2))))))))))
noncomputable def m_is_coming : List D → Option D := fnD 2 1 b_is_coming
noncomputable def b_check_coming : FX :=
  (rSeq (rIf (tNot (tV (eF m_is_coming (aC (eV 0) (aC (eV 2) aN))))) (rRaise (Str.ofString "NoComing")) (rS sN))
  (rSeq (rS (sSet 3 (e2 dDx (eV 1) (e2 dIx2 (eV 2) (eC (.int 1))))))
  (rSeq (rIf (tB (e2 dIs (eV 3) (eC .non))) (rRaise (Str.ofString "Late")) (rS sN))
  (rIf (tAnd (tB (e2 dNe (e2 dIx2 (eV 2) (eC (.int 0))) (eC (.str (Str.ofString "close"))))) (tB (e2 dLt (e2 dIx2 (eV 2) (eC (.int 2))) (eV 3)))) (rRaise (Str.ofString "Late")) (rS sN)))))
noncomputable def m_check_coming : List D → Option (D ⊕ Str) := fnX 3 1 b_check_coming
noncomputable def b_law_cell_at : FS :=
  (sSeq (sIf (tB (e2 dLt (eV 1) (eF bLen2 (aC (eV 0) aN))))
  (sRet (e2 dIx2 (eV 0) (eV 1)))
  sN)
  (sRet (eC (.int 0))))
noncomputable def m_law_cell_at : List D → Option D := fnD 2 0 b_law_cell_at
noncomputable abbrev l_law_digits_1 : FS :=
  (sSeq (sSet 5 (eV 3))
  (sSeq (sIf (tOr (tB (e2 dLt (eV 0) (e2 dPow (eC (.int 10)) (eC (.int 40))))) (tB (e2 dEq (eV 3) (eC (.int 0)))))
  (sSeq (sSet 5 (e2 dMod (e2 dMul (e2 dAdd (e2 dAdd (e2 dMod (eV 0) (eC (.int 2147483647))) (e2 dMul (eC (.int 7919)) (eV 4))) (eC (.int 1))) (eC (.int 48271))) (eC (.int 2147483647))))
  (sSeq (sSet 5 (e2 dMod (e2 dMul (eV 5) (e2 dAdd (e2 dDiv (eV 5) (eC (.int 1009))) (eC (.int 69621)))) (eC (.int 2147483647))))
  (sSeq (sSet 5 (e2 dMod (e2 dMul (e2 dAdd (eV 5) (e2 dMul (eC (.int 7)) (eV 4))) (e2 dAdd (e2 dDiv (eV 5) (eC (.int 677))) (eC (.int 40692)))) (eC (.int 2147483399))))
  (sSet 5 (e2 dDiv (eV 5) (eC (.int 3)))))))
  sN)
  (sSeq (sApp 2 (e2 dMod (eV 5) (eC (.int 64))))
  (sSet 3 (e2 dDiv (eV 3) (eC (.int 64)))))))
noncomputable def b_law_digits : FS :=
  (sSeq (sOwn 2 (oLst aN))
  (sSeq (sSet 3 (eV 0))
  (sSeq (sForR (gN 4) (rng1 (eV 1)) l_law_digits_1)
  (sFrz 2 (sRet (eV 2))))))
noncomputable def m_law_digits : List D → Option D := fnD 2 4 b_law_digits
noncomputable abbrev l_law_ins_1 : FS :=
  (sSeq (sSet 3 (e2 dSub (e2 dIx2 (eV 0) (e2 dAdd (eC (.int 1)) (e2 dMul (eC (.int 2)) (eV 2)))) (eC (.int 40))))
  (sSeq (sSet 4 (e2 dAdd (eV 3) (e2 dMod (e2 dIx2 (eV 0) (e2 dAdd (eC (.int 2)) (e2 dMul (eC (.int 2)) (eV 2)))) (eC (.int 9)))))
  (sSeq (sSet 5 (e2 dIx2 (eLst (aC (eTup (aC (eV 3) (aC (eV 4) aN))) (aC (eTup (aC (eC .non) (aC (eV 4) aN))) (aC (eTup (aC (eV 3) (aC (eC .non) aN))) (aC (eTup (aC (eC .non) (aC (eC .non) aN))) aN))))) (e2 dMod (e2 dIx2 (eV 0) (e2 dAdd (eC (.int 9)) (eV 2))) (eC (.int 4)))))
  (sApp 1 (eTup (aC (eC (.str (Str.ofString "in"))) (aC (e2 dIx2 (eLst (aC (eC (.str (Str.ofString "a"))) (aC (eC (.str (Str.ofString "bb"))) (aC (eC (.str (Str.ofString "ccc"))) (aC (eC (.str (Str.ofString "dddddddd"))) aN))))) (eV 2)) (aC (eTup aN) (aC (eV 5) aN)))))))))
noncomputable def b_law_ins : FS :=
  (sSeq (sOwn 1 (oLst aN))
  (sSeq (sForR (gN 2) (rng1 (e2 dAdd (eC (.int 1)) (e2 dMod (e2 dIx2 (eV 0) (eC (.int 0))) (eC (.int 4))))) l_law_ins_1)
  (sSeq (sApp 1 (eTup (aC (eC (.str (Str.ofString "time"))) (aC (eC (.str (Str.ofString "t"))) (aC (eTup (aC (eC (.str (Str.ofString "a"))) aN)) (aC (eTup (aC (eC (.int 0)) (aC (eC (.int 9)) aN))) aN))))))
  (sFrz 1 (sRet (eV 1))))))
noncomputable def m_law_ins : List D → Option D := fnD 1 5 b_law_ins
noncomputable def b_law_value : FS :=
  (sSeq (sTup [2, 3] (eV 0))
  (sSeq (sIf (tAnd (tB (e2 dIs (eV 2) (eC .non))) (tB (e2 dIs (eV 3) (eC .non))))
  (sRet (e2 dSub (e2 dMul (eV 1) (e2 dPow (eC (.int 10)) (eC (.int 30)))) (e2 dMul (eC (.int 31)) (e2 dPow (eC (.int 10)) (eC (.int 30))))))
  sN)
  (sSeq (sIf (tB (e2 dIs (eV 2) (eC .non)))
  (sRet (e2 dSub (eV 3) (eV 1)))
  sN)
  (sSeq (sIf (tB (e2 dIs (eV 3) (eC .non)))
  (sRet (e2 dAdd (eV 2) (eV 1)))
  sN)
  (sRet (e2 dAdd (eV 2) (e2 dMod (eV 1) (e2 dAdd (e2 dSub (eV 3) (eV 2)) (eC (.int 1))))))))))
noncomputable def m_law_value : List D → Option D := fnD 2 2 b_law_value
noncomputable def m_law_sort : List D → Option D := sortM m_check_coming
noncomputable def b_law_bad : FS :=
  (sSeq (sSet 3 (eF m_law_value (aC (e2 dIx2 (eV 0) (eC (.int 3))) (aC (e2 dIx2 (eV 2) (eC (.int 4))) aN))))
  (sSeq (sSet 4 (eLst (aC (eTup (aC (eC (.str (Str.ofString "things"))) (aC (e2 dIx2 (eV 0) (eC (.int 1))) (aC (eV 1) (aC (eC (.str (Str.ofString "k"))) (aC (eV 3) aN)))))) (aC (eTup (aC (eC (.str (Str.ofString "thing"))) (aC (eC (.str (Str.ofString "nobody"))) (aC (eV 1) (aC (eC (.str (Str.ofString "k"))) (aC (eV 3) aN)))))) aN))))
  (sSeq (sSet 4 (e2 dAdd (eV 4) (eLst (aC (eTup (aC (eC (.str (Str.ofString "thing"))) (aC (eC (.str (Str.ofString "t"))) (aC (eV 1) (aC (eC (.str (Str.ofString "k"))) (aC (eV 3) aN)))))) aN))))
  (sSeq (sSet 4 (e2 dAdd (eV 4) (eLst (aC (eTup (aC (eC (.str (Str.ofString "thing"))) (aC (e2 dIx2 (eV 0) (eC (.int 1))) (aC (e2 dSub (e1 dNeg (eC (.int 1))) (e2 dIx2 (eV 2) (eC (.int 5)))) (aC (eC (.str (Str.ofString "k"))) (aC (eV 3) aN)))))) aN))))
  (sSeq (sSet 4 (e2 dAdd (eV 4) (eLst (aC (eTup (aC (eC (.str (Str.ofString "thing"))) (aC (e2 dIx2 (eV 0) (eC (.int 1))) (aC (eV 1) (aC (eC (.str (Str.ofString "K"))) (aC (eV 3) aN)))))) aN))))
  (sSeq (sSet 4 (e2 dAdd (eV 4) (eLst (aC (eTup (aC (eC (.str (Str.ofString "thing"))) (aC (e2 dIx2 (eV 0) (eC (.int 1))) (aC (eV 1) (aC (eC (.str (Str.ofString ""))) (aC (eV 3) aN)))))) aN))))
  (sSeq (sSet 4 (e2 dAdd (eV 4) (eLst (aC (eTup (aC (eC (.str (Str.ofString "thing"))) (aC (e2 dIx2 (eV 0) (eC (.int 1))) (aC (eV 1) (aC (eC (.str (Str.ofString "abcdefghi"))) (aC (eV 3) aN)))))) aN))))
  (sSeq (sSet 4 (e2 dAdd (eV 4) (eLst (aC (eTup (aC (eC (.str (Str.ofString "thing"))) (aC (e2 dIx2 (eV 0) (eC (.int 1))) (aC (eV 1) (aC (eC (.str (Str.ofString "a b"))) (aC (eV 3) aN)))))) (aC (eTup (aC (eC (.str (Str.ofString "thing"))) (aC (e2 dIx2 (eV 0) (eC (.int 1))) (aC (eV 1) (aC (eC (.int 7)) (aC (eV 3) aN)))))) aN)))))
  (sSeq (sSet 4 (e2 dAdd (eV 4) (eLst (aC (eTup (aC (eC (.str (Str.ofString "thing"))) (aC (e2 dIx2 (eV 0) (eC (.int 1))) (aC (eV 1) (aC (eC (.str (Str.ofString "k"))) aN))))) aN))))
  (sSeq (sSet 4 (e2 dAdd (eV 4) (eLst (aC (eTup (aC (eC (.str (Str.ofString "thing"))) (aC (e2 dIx2 (eV 0) (eC (.int 1))) (aC (eV 1) (aC (eC (.str (Str.ofString "k"))) (aC (eV 3) (aC (eC (.int 0)) aN))))))) (aC (eTup (aC (eC (.str (Str.ofString "thing"))) (aC (e2 dIx2 (eV 0) (eC (.int 1))) (aC (eC .non) (aC (eC (.str (Str.ofString "k"))) (aC (eV 3) aN)))))) aN)))))
  (sSeq (sSet 4 (e2 dAdd (eV 4) (eLst (aC (eTup (aC (eC (.str (Str.ofString "thing"))) (aC (e2 dIx2 (eV 0) (eC (.int 1))) (aC (eC (.bl true)) (aC (eC (.str (Str.ofString "k"))) (aC (eV 3) aN)))))) (aC (eTup (aC (eC (.str (Str.ofString "thing"))) (aC (e2 dIx2 (eV 0) (eC (.int 1))) (aC (eV 1) (aC (eC (.str (Str.ofString "k"))) (aC (eC (.bl true)) aN)))))) aN)))))
  (sSeq (sSet 4 (e2 dAdd (eV 4) (eLst (aC (eTup (aC (eC (.str (Str.ofString "thing"))) (aC (e2 dIx2 (eV 0) (eC (.int 1))) (aC (eV 1) (aC (eC (.str (Str.ofString "k"))) (aC (eC .non) aN)))))) aN))))
  (sSeq (sSet 4 (e2 dAdd (eV 4) (eLst (aC (eTup (aC (eC (.str (Str.ofString "mark"))) (aC (eC (.str (Str.ofString "nobody"))) (aC (eV 1) aN)))) (aC (eTup (aC (eC (.str (Str.ofString "mark"))) (aC (e2 dIx2 (eV 0) (eC (.int 1))) (aC (e2 dSub (e1 dNeg (eC (.int 1))) (e2 dIx2 (eV 2) (eC (.int 5)))) aN)))) aN)))))
  (sSeq (sSet 4 (e2 dAdd (eV 4) (eLst (aC (eTup (aC (eC (.str (Str.ofString "mark"))) (aC (e2 dIx2 (eV 0) (eC (.int 1))) (aC (eC .non) aN)))) (aC (eTup (aC (eC (.str (Str.ofString "mark"))) (aC (e2 dIx2 (eV 0) (eC (.int 1))) aN))) aN)))))
  (sSeq (sSet 4 (e2 dAdd (eV 4) (eLst (aC (eTup (aC (eC (.str (Str.ofString "mark"))) (aC (e2 dIx2 (eV 0) (eC (.int 1))) (aC (eV 1) (aC (eC (.int 0)) aN))))) (aC (eTup (aC (eC (.str (Str.ofString "mark"))) (aC (e2 dIx2 (eV 0) (eC (.int 1))) (aC (eC (.bl true)) aN)))) (aC (eTup (aC (eC (.str (Str.ofString "close"))) (aC (eC (.str (Str.ofString "nobody"))) aN))) aN))))))
  (sSeq (sSet 4 (e2 dAdd (eV 4) (eLst (aC (eTup (aC (eC (.str (Str.ofString "close"))) (aC (e2 dIx2 (eV 0) (eC (.int 1))) (aC (eV 1) aN)))) (aC (eTup (aC (eC (.str (Str.ofString "close"))) aN)) aN)))))
  (sSeq (sSet 4 (e2 dAdd (eV 4) (eLst (aC (eTup (aC (eC (.str (Str.ofString "open"))) (aC (e2 dIx2 (eV 0) (eC (.int 1))) aN))) (aC (eTup aN) (aC (eC .non) (aC (eLst (aC (eTup (aC (eC (.str (Str.ofString "mark"))) (aC (e2 dIx2 (eV 0) (eC (.int 1))) (aC (eV 1) aN)))) aN)) (aC (eLst (aC (eC (.str (Str.ofString "mark"))) (aC (e2 dIx2 (eV 0) (eC (.int 1))) (aC (eV 1) aN)))) aN))))))))
  (sSeq (sSet 4 (e2 dAdd (eV 4) (eLst (aC (e2 dAdd (eC (.str (Str.ofString "close "))) (e2 dIx2 (eV 0) (eC (.int 1)))) (aC (eC (.int 7)) aN)))))
  (sSeq (sTup [5, 6] (e2 dIx2 (eV 0) (eC (.int 3))))
  (sSeq (sIf (tB (e2 dIsNot (eV 5) (eC .non)))
  (sSeq (sSet 4 (e2 dAdd (eV 4) (eLst (aC (eTup (aC (eC (.str (Str.ofString "thing"))) (aC (e2 dIx2 (eV 0) (eC (.int 1))) (aC (eV 1) (aC (eC (.str (Str.ofString "k"))) (aC (e2 dSub (eV 5) (eC (.int 1))) aN)))))) aN))))
  (sSet 4 (e2 dAdd (eV 4) (eLst (aC (eTup (aC (eC (.str (Str.ofString "thing"))) (aC (e2 dIx2 (eV 0) (eC (.int 1))) (aC (eV 1) (aC (eC (.str (Str.ofString "k"))) (aC (e2 dSub (e2 dSub (eV 5) (eC (.int 1))) (e2 dMul (e2 dIx2 (eV 2) (eC (.int 5))) (e2 dPow (eC (.int 10)) (eC (.int 20))))) aN)))))) aN)))))
  sN)
  (sSeq (sIf (tB (e2 dIsNot (eV 6) (eC .non)))
  (sSeq (sSet 4 (e2 dAdd (eV 4) (eLst (aC (eTup (aC (eC (.str (Str.ofString "thing"))) (aC (e2 dIx2 (eV 0) (eC (.int 1))) (aC (eV 1) (aC (eC (.str (Str.ofString "k"))) (aC (e2 dAdd (eV 6) (eC (.int 1))) aN)))))) aN))))
  (sSet 4 (e2 dAdd (eV 4) (eLst (aC (eTup (aC (eC (.str (Str.ofString "thing"))) (aC (e2 dIx2 (eV 0) (eC (.int 1))) (aC (eV 1) (aC (eC (.str (Str.ofString "k"))) (aC (e2 dAdd (e2 dAdd (eV 6) (eC (.int 1))) (e2 dMul (e2 dIx2 (eV 2) (eC (.int 5))) (e2 dPow (eC (.int 10)) (eC (.int 20))))) aN)))))) aN)))))
  sN)
  (sRet (e2 dIx2 (eV 4) (e2 dMod (e2 dAdd (e2 dMul (e2 dIx2 (eV 2) (eC (.int 6))) (eC (.int 64))) (e2 dIx2 (eV 2) (eC (.int 7)))) (eF bLen2 (aC (eV 4) aN))))))))))))))))))))))))))
noncomputable def m_law_bad : List D → Option D := fnD 3 4 b_law_bad
noncomputable def b_law_one : FS :=
  (sSeq (sSet 3 (e2 dIx2 (eV 0) (e2 dMod (e2 dIx2 (eV 2) (eC (.int 0))) (e2 dSub (eF bLen2 (aC (eV 0) aN)) (eC (.int 1))))))
  (sSeq (sSet 4 (e2 dDx (eV 1) (e2 dIx2 (eV 3) (eC (.int 1)))))
  (sSeq (sSet 5 (e2 dIx2 (eV 2) (eC (.int 1))))
  (sSeq (sIf (tB (e2 dIsNot (eV 4) (eC .non)))
  (sSet 5 (eF bMax (aC (eC (.int 0)) (aC (e2 dAdd (eV 4) (e2 dIx2 (eLst (aC (e1 dNeg (eC (.int 1))) (aC (eC (.int 0)) (aC (eC (.int 1)) (aC (e2 dSub (e1 dNeg (eC (.int 1))) (e2 dIx2 (eV 2) (eC (.int 1)))) aN))))) (e2 dMod (e2 dIx2 (eV 2) (eC (.int 2))) (eC (.int 4))))) aN))))
  sN)
  (sSeq (sIf (tB (e2 dEq (e2 dMod (e2 dIx2 (eV 2) (eC (.int 3))) (eC (.int 2))) (eC (.int 0))))
  (sRet (eTup (aC (eF m_law_bad (aC (eV 3) (aC (eV 5) (aC (eV 2) aN)))) (aC (eC (.str (Str.ofString "none"))) aN))))
  sN)
  (sSeq (sSet 6 (e2 dMulS (e2 dIx2 (eC (.str (Str.ofString "abcxyz"))) (e2 dMod (e2 dIx2 (eV 2) (eC (.int 5))) (eC (.int 6)))) (e2 dAdd (eC (.int 1)) (e2 dDiv (e2 dIx2 (eV 2) (eC (.int 5))) (eC (.int 8))))))
  (sSeq (sSet 7 (eTup (aC (eC (.str (Str.ofString "mark"))) (aC (e2 dIx2 (eV 3) (eC (.int 1))) (aC (eV 5) aN)))))
  (sSeq (sIf (tB (e2 dEq (e2 dMod (e2 dDiv (e2 dIx2 (eV 2) (eC (.int 3))) (eC (.int 2))) (eC (.int 2))) (eC (.int 0))))
  (sSet 7 (eTup (aC (eC (.str (Str.ofString "thing"))) (aC (e2 dIx2 (eV 3) (eC (.int 1))) (aC (eV 5) (aC (eV 6) (aC (eF m_law_value (aC (e2 dIx2 (eV 3) (eC (.int 3))) (aC (e2 dIx2 (eV 2) (eC (.int 4))) aN))) aN)))))))
  sN)
  (sSeq (sIf (tB (e2 dEq (e2 dMod (e2 dDiv (e2 dIx2 (eV 2) (eC (.int 3))) (eC (.int 4))) (eC (.int 5))) (eC (.int 4))))
  (sRet (eTup (aC (eTup (aC (eC (.str (Str.ofString "close"))) (aC (e2 dIx2 (eV 3) (eC (.int 1))) aN))) (aC (e2 dIx2 (eLst (aC (eC (.str (Str.ofString "right"))) (aC (eC (.str (Str.ofString "late"))) aN))) (eF bInt (aC (e2 dIs (eV 4) (eC .non)) aN))) aN))))
  sN)
  (sRet (eTup (aC (eV 7) (aC (e2 dIx2 (eLst (aC (eC (.str (Str.ofString "right"))) (aC (eC (.str (Str.ofString "late"))) aN))) (eF bInt (aC (eOr (e2 dIs (eV 4) (eC .non)) (e2 dLt (eV 5) (eV 4))) aN))) aN)))))))))))))
noncomputable def m_law_one : List D → Option D := fnD 3 5 b_law_one
noncomputable abbrev l_law_1 : FS :=
  (sSeq (sSet 6 (eF m_law_cell_at (aC (eV 0) (aC (e2 dAdd (eC (.int 2)) (eV 4)) aN))))
  (sDK 3 (e2 dIx2 (e2 dIx2 (eV 1) (eV 4)) (eC (.int 1))) (e2 dIx2 (eLst (aC (e2 dMod (e2 dDiv (eV 6) (eC (.int 4))) (e2 dPow (eC (.int 10)) (eC (.int 12)))) (aC (e2 dMod (e2 dDiv (eV 6) (eC (.int 4))) (eC (.int 50))) (aC (eC (.int 0)) (aC (eC .non) aN))))) (e2 dMod (eV 6) (eC (.int 4))))))
noncomputable abbrev l_law_2 : FS :=
  (sSeq (sTup [7, 8] (eF m_law_one (aC (eV 1) (aC (eV 3) (aC (eSl2 (eV 2) (oS (e2 dMul (eC (.int 10)) (eV 4))) oN) aN)))))
  (sIf (tOr (tB (e2 dNe (eF m_law_sort (aC (eV 1) (aC (eV 3) (aC (eV 7) aN)))) (eV 8))) (tB (e2 dDn (eV 3) (eV 5))))
  (sRet (eC (.bl false)))
  sN))
noncomputable def b_law : FS :=
  (sSeq (sSet 1 (eF m_law_ins (aC (eF m_law_digits (aC (eF m_law_cell_at (aC (eV 0) (aC (eC (.int 0)) aN))) (aC (eC (.int 14)) aN))) aN)))
  (sSeq (sSet 2 (eF m_law_digits (aC (eF m_law_cell_at (aC (eV 0) (aC (eC (.int 1)) aN))) (aC (eC (.int 90)) aN))))
  (sSeq (sDN 3)
  (sSeq (sForR (gN 4) (rng1 (e2 dSub (eF bLen2 (aC (eV 1) aN)) (eC (.int 1)))) l_law_1)
  (sSeq (sFzD 3 (sSet 5 (eF bDct (aC (eV 3) aN))))
  (sSeq (sForR (gN 4) (rng1 (eC (.int 9))) l_law_2)
  (sRet (eC (.bl true)))))))))
noncomputable def m_law : List D → Option D := fnD 1 8 b_law
end
end Fx
set_option maxRecDepth 100000
set_option maxHeartbeats 4000000
namespace Fx
open PySem PySem.Spec PyProof.Rows L2
noncomputable def top (i : Nat) : Stmt := PySem.Challenge.pw_latewell_k28_what_may_not_come.main.body.getD i (.Pass ⟨0, 0, 0, 0⟩)
structure Blt (K : PySem.W.Frag) (mg : Str → Option Value) : Prop where
  z_abs : mg "abs" = none
  z_len : mg "len" = none
  z_max : mg "max" = none
  z_min : mg "min" = none
  z_any : mg "any" = none
  z_all : mg "all" = none
  z_range : mg "range" = none
  z_isinstance : mg "isinstance" = none
  z_int : mg "int" = none
  z_bool : mg "bool" = none
  z_str : mg "str" = none
  z_tuple : mg "tuple" = none
  z_list : mg "list" = none
  z_sorted : mg "sorted" = none
  z_dict : mg "dict" = none
  z_set : mg "set" = none
  c_LETTERS : ∃ t, mg "LETTERS" = some (.str (Str.ofString "abcdefghijklmnopqrstuvwxyz") t)
  c_LONGEST : ∃ t, mg "LONGEST" = some (.int 8 t)
  xc : ∃ c0 c1 c2 c3 c4 c5 c6 c7, XCls K mg c0 c1 c2 c3 c4 c5 c6 c7
section
variable {P : Program} {w : World} {K : PySem.W.Frag} {mg : Str → Option Value} {base : Heap}
noncomputable abbrev s_is_key : Stmt := top 12
theorem sc_is_key : FnScope ["x"] ["x"] (defScope s_is_key) := ⟨rfl, rfl, rfl, by decide +kernel, rfl, by decide +kernel, by decide +kernel⟩
theorem ok_is_key {f : Addr} {fd : FuncData} (F : Fun K "is_key" "is_key" s_is_key f fd) (bF : Binds K fd ["x"] []) (mF : mg "is_key" = some (.ref f)) (T : Blt K mg)  : DefOk P w K mg base 1 "is_key" m_is_key :=
  ⟨f, fd, ["x"], fn_ok F sc_is_key rfl rfl (fun cdv A outer s H E hr =>
  (xsC (xsif (xw (xwor (xtnot (xtv (xty (t := .str) T.z_isinstance T.z_str PyProof.Rows.boot_str (xv 0)) (fun _ => rfl))) (xwor1 (xtnot (xt3 cLe cLe xint (xB callLen2 rfl T.z_len PySem.boot_len (xaC (xv 0) xaN)) (xglI T.c_LONGEST))))))
  (xs1 (xret xbl))
  xsN)
  (xs1 (xret (xB (callAll rfl) rfl T.z_all PyProof.Rows.boot_all (xaC (xlc (sc := defScope s_is_key) rfl rfl (by show ScB ["x"] (defScope s_is_key) _ "sign" [] []; exact ⟨rfl, rfl, by decide +kernel, by decide +kernel, rfl, by decide +kernel, by decide +kernel, rfl, by decide +kernel⟩) (xv 0) (fun _ _ _ _ => xts_nil) (fun _ _ _ _ => (xcmp cIn2 (xv 0) (xglS T.c_LETTERS)))) xaN)))))), bF, F.kp, mF⟩
noncomputable abbrev s_is_between : Stmt := top 14
theorem sc_is_between : FnScope ["v", "low", "high"] ["v", "low", "high"] (defScope s_is_between) := ⟨rfl, rfl, rfl, by decide +kernel, rfl, by decide +kernel, by decide +kernel⟩
theorem ok_is_between {f : Addr} {fd : FuncData} (F : Fun K "is_between" "is_between" s_is_between f fd) (bF : Binds K fd ["v", "low", "high"] []) (mF : mg "is_between" = some (.ref f)) (T : Blt K mg)  : DefOk P w K mg base 1 "is_between" m_is_between :=
  ⟨f, fd, ["v", "low", "high"], fn_ok F sc_is_between rfl rfl (fun cdv A outer s H E hr =>
  (xs1 (xret (xand (xor (xcmp cIs (xv 1) xnon) (xone (xcmp cLe (xv 1) (xv 0)))) (xone (xor (xcmp cIs (xv 2) xnon) (xone (xcmp cLe (xv 0) (xv 2))))))))), bF, F.kp, mF⟩
noncomputable abbrev s_row_named : Stmt := top 16
theorem sc_row_named : FnScope ["works", "name", "row"] ["works", "name"] (defScope s_row_named) := ⟨rfl, rfl, rfl, by decide +kernel, rfl, by decide +kernel, by decide +kernel⟩
theorem ok_row_named {f : Addr} {fd : FuncData} (F : Fun K "row_named" "row_named" s_row_named f fd) (bF : Binds K fd ["works", "name"] []) (mF : mg "row_named" = some (.ref f)) (T : Blt K mg)  : DefOk P w K mg base 1 "row_named" m_row_named :=
  ⟨f, fd, ["works", "name"], fn_ok F sc_row_named rfl rfl (fun cdv A outer s H E hr =>
  (xsC (xfor (xgN 2 sc_row_named.nd) (xv 0)
  (xs1 (xsif (xt (cEq hr.units) (xix2 (xv 2) xint) (xv 1))
  (xs1 (xret (xv 2)))
  xsN)))
  (xs1 (xret xnon)))), bF, F.kp, mF⟩
noncomputable abbrev s_is_whole : Stmt := top 18
theorem sc_is_whole : FnScope ["x"] ["x"] (defScope s_is_whole) := ⟨rfl, rfl, rfl, by decide +kernel, rfl, by decide +kernel, by decide +kernel⟩
theorem ok_is_whole {f : Addr} {fd : FuncData} (F : Fun K "is_whole" "is_whole" s_is_whole f fd) (bF : Binds K fd ["x"] []) (mF : mg "is_whole" = some (.ref f)) (T : Blt K mg)  : DefOk P w K mg base 1 "is_whole" m_is_whole :=
  ⟨f, fd, ["x"], fn_ok F sc_is_whole rfl rfl (fun cdv A outer s H E hr =>
  (xs1 (xret (xand (xty (t := .int) T.z_isinstance T.z_int PyProof.Rows.boot_int (xv 0)) (xone (xnot (xty (t := .bool) T.z_isinstance T.z_bool PyProof.Rows.boot_bool (xv 0)))))))), bF, F.kp, mF⟩
noncomputable abbrev s_is_time : Stmt := top 19
theorem sc_is_time : FnScope ["x"] ["x"] (defScope s_is_time) := ⟨rfl, rfl, rfl, by decide +kernel, rfl, by decide +kernel, by decide +kernel⟩
theorem ok_is_time {f : Addr} {fd : FuncData} (F : Fun K "is_time" "is_time" s_is_time f fd) (bF : Binds K fd ["x"] []) (mF : mg "is_time" = some (.ref f)) (T : Blt K mg) (G_is_whole : DefOk P w K mg base 1 "is_whole" m_is_whole) : DefOk P w K mg base 2 "is_time" m_is_time :=
  ⟨f, fd, ["x"], fn_ok F sc_is_time rfl rfl (fun cdv A outer s H E hr =>
  (xs1 (xret (xand (xF G_is_whole (hr.mono (by decide)) (xaC (xv 0) xaN)) (xone (xcmp cGe (xv 0) xint)))))), bF, F.kp, mF⟩
noncomputable abbrev s_is_thing_of : Stmt := top 20
theorem sc_is_thing_of : FnScope ["row", "thing"] ["row", "thing"] (defScope s_is_thing_of) := ⟨rfl, rfl, rfl, by decide +kernel, rfl, by decide +kernel, by decide +kernel⟩
theorem ok_is_thing_of {f : Addr} {fd : FuncData} (F : Fun K "is_thing_of" "is_thing_of" s_is_thing_of f fd) (bF : Binds K fd ["row", "thing"] []) (mF : mg "is_thing_of" = some (.ref f)) (T : Blt K mg) (G_is_between : DefOk P w K mg base 1 "is_between" m_is_between) (G_is_key : DefOk P w K mg base 1 "is_key" m_is_key) (G_is_time : DefOk P w K mg base 2 "is_time" m_is_time) (G_is_whole : DefOk P w K mg base 1 "is_whole" m_is_whole) : DefOk P w K mg base 3 "is_thing_of" m_is_thing_of :=
  ⟨f, fd, ["row", "thing"], fn_ok F sc_is_thing_of rfl rfl (fun cdv A outer s H E hr =>
  (xsC (xsif (xw (xwor (xtnot (xtv (xF G_is_time (hr.mono (by decide)) (xaC (xix2 (xv 1) xint) xaN)) (fun _ => rfl))) (xwor (xtnot (xtv (xF G_is_key (hr.mono (by decide)) (xaC (xix2 (xv 1) xint) xaN)) (fun _ => rfl))) (xwor1 (xtnot (xtv (xF G_is_whole (hr.mono (by decide)) (xaC (xix2 (xv 1) xint) xaN)) (fun _ => rfl)))))))
  (xs1 (xret xbl))
  xsN)
  (xs1 (xret (xF G_is_between (hr.mono (by decide)) (xaC (xix2 (xv 1) xint) (xaC (xix2 (xix2 (xv 0) xint) xint) (xaC (xix2 (xix2 (xv 0) xint) xint) xaN)))))))), bF, F.kp, mF⟩
noncomputable abbrev s_is_coming : Stmt := top 21
theorem sc_is_coming : FnScope ["works", "coming", "row"] ["works", "coming"] (defScope s_is_coming) := ⟨rfl, rfl, rfl, by decide +kernel, rfl, by decide +kernel, by decide +kernel⟩
theorem ok_is_coming {f : Addr} {fd : FuncData} (F : Fun K "is_coming" "is_coming" s_is_coming f fd) (bF : Binds K fd ["works", "coming"] []) (mF : mg "is_coming" = some (.ref f)) (T : Blt K mg) (G_is_thing_of : DefOk P w K mg base 3 "is_thing_of" m_is_thing_of) (G_is_time : DefOk P w K mg base 2 "is_time" m_is_time) (G_row_named : DefOk P w K mg base 1 "row_named" m_row_named) : DefOk P w K mg base 4 "is_coming" m_is_coming :=
  ⟨f, fd, ["works", "coming"], fn_ok F sc_is_coming rfl rfl (fun cdv A outer s H E hr =>
  (xsC (xsif (xw (xwor (xtnot (xtv (xty (t := .tuple) T.z_isinstance T.z_tuple PyProof.Rows.boot_tuple (xv 1)) (fun _ => rfl))) (xwor1 (xt cLt (xB callLen2 rfl T.z_len PySem.boot_len (xaC (xv 1) xaN)) xint))))
  (xs1 (xret xbl))
  xsN)
  (xsC (xset 2 sc_is_coming.nd (xF G_row_named (hr.mono (by decide)) (xaC (xv 0) (xaC (xix2 (xv 1) xint) xaN))))
  (xsC (xsif (xw (xwor (xt cIs (xv 2) xnon) (xwor1 (xt (cNe hr.units) (xix2 (xv 2) xint) xstr))))
  (xs1 (xret xbl))
  xsN)
  (xsC (xsif (xt (cEq hr.units) (xix2 (xv 1) xint) xstr)
  (xs1 (xret (xand (xcmp (cEq hr.units) (xB callLen2 rfl T.z_len PySem.boot_len (xaC (xv 1) xaN)) xint) (xone (xF G_is_thing_of (hr.mono (by decide)) (xaC (xv 2) (xaC (xsl2 (xv 1) (xoS xint) xoN) xaN)))))))
  xsN)
  (xsC (xsif (xt (cEq hr.units) (xix2 (xv 1) xint) xstr)
  (xs1 (xret (xand (xcmp (cEq hr.units) (xB callLen2 rfl T.z_len PySem.boot_len (xaC (xv 1) xaN)) xint) (xone (xF G_is_time (hr.mono (by decide)) (xaC (xix2 (xv 1) xint) xaN))))))
  xsN)
  (xs1 (xret (xand (xcmp (cEq hr.units) (xix2 (xv 1) xint) xstr) (xone (xcmp (cEq hr.units) (xB callLen2 rfl T.z_len PySem.boot_len (xaC (xv 1) xaN)) xint))))))))))), bF, F.kp, mF⟩
noncomputable abbrev s_check_coming : Stmt := top 22
theorem sc_check_coming : FnScope ["works", "marks", "coming", "mark"] ["works", "marks", "coming"] (defScope s_check_coming) := ⟨rfl, rfl, rfl, by decide +kernel, rfl, by decide +kernel, by decide +kernel⟩
theorem ok_check_coming {f : Addr} {fd : FuncData} (F : Fun K "check_coming" "check_coming" s_check_coming f fd) (bF : Binds K fd ["works", "marks", "coming"] []) (mF : mg "check_coming" = some (.ref f)) (T : Blt K mg) (G_is_coming : DefOk P w K mg base 4 "is_coming" m_is_coming) : DefX P w K mg base 5 "check_coming" m_check_coming := by
  obtain ⟨c0, c1, c2, c3, c4, c5, c6, c7, Z⟩ := T.xc
  exact   ⟨f, fd, ["works", "marks", "coming"], fnX_ok F sc_check_coming rfl rfl (fun cdv A outer s H E hr =>
  (xxC (xxif (xtnot (xtv (xF G_is_coming (hr.mono (by decide)) (xaC (xv 0) (xaC (xv 2) xaN))) (fun _ => rfl))) (xx1 (xxraise raises_def Z.m_NoComing Z.x_NoComing)) (xxss xsN))
  (xxC (xxs (xset 3 sc_check_coming.nd (xdx (hu_of hr) (xv 1) (xix2 (xv 2) xint))))
  (xxC (xxif (xt cIs (xv 3) xnon) (xx1 (xxraise raises_def Z.m_Late Z.x_Late)) (xxss xsN))
  (xx1 (xxif (xw (xwand (xt (cNe hr.units) (xix2 (xv 2) xint) xstr) (xwand1 (xt cLt (xix2 (xv 2) xint) (xv 3))))) (xx1 (xxraise raises_def Z.m_Late Z.x_Late)) (xxss xsN))))))), bF, F.kp, mF⟩
noncomputable abbrev s_law_cell_at : Stmt := top 24
theorem sc_law_cell_at : FnScope ["_law_script", "_law_k"] ["_law_script", "_law_k"] (defScope s_law_cell_at) := ⟨rfl, rfl, rfl, by decide +kernel, rfl, by decide +kernel, by decide +kernel⟩
theorem ok_law_cell_at {f : Addr} {fd : FuncData} (F : Fun K "_law_cell_at" "_law_cell_at" s_law_cell_at f fd) (bF : Binds K fd ["_law_script", "_law_k"] []) (mF : mg "_law_cell_at" = some (.ref f)) (T : Blt K mg)  : DefOk P w K mg base 1 "_law_cell_at" m_law_cell_at :=
  ⟨f, fd, ["_law_script", "_law_k"], fn_ok F sc_law_cell_at rfl rfl (fun cdv A outer s H E hr =>
  (xsC (xsif (xt cLt (xv 1) (xB callLen2 rfl T.z_len PySem.boot_len (xaC (xv 0) xaN)))
  (xs1 (xret (xix2 (xv 0) (xv 1))))
  xsN)
  (xs1 (xret xint)))), bF, F.kp, mF⟩
noncomputable abbrev s_law_digits : Stmt := top 25
theorem sc_law_digits : FnScope ["_law_cell", "_law_many", "_law_found", "_law_rest", "_law_k", "_law_number"] ["_law_cell", "_law_many"] (defScope s_law_digits) := ⟨rfl, rfl, rfl, by decide +kernel, rfl, by decide +kernel, by decide +kernel⟩
theorem ok_law_digits {f : Addr} {fd : FuncData} (F : Fun K "_law_digits" "_law_digits" s_law_digits f fd) (bF : Binds K fd ["_law_cell", "_law_many"] []) (mF : mg "_law_digits" = some (.ref f)) (T : Blt K mg)  : DefOk P w K mg base 1 "_law_digits" m_law_digits :=
  ⟨f, fd, ["_law_cell", "_law_many"], fn_ok F sc_law_digits rfl rfl (fun cdv A outer s H E hr =>
  (xsC (xown 2 sc_law_digits.nd (xoLst xaN))
  (xsC (xset 3 sc_law_digits.nd (xv 0))
  (xsC (xforR1 T.z_range (xgN 4 sc_law_digits.nd) (xv 1) (xsC (xset 5 sc_law_digits.nd (xv 3))
  (xsC (xsif (xw (xwor (xt cLt (xv 0) (xb oPow xint xint)) (xwor1 (xt (cEq hr.units) (xv 3) xint))))
  (xsC (xset 5 sc_law_digits.nd (xb oMod (xb oMul (xb oAdd (xb oAdd (xb oMod (xv 0) xint) (xb oMul xint (xv 4))) xint) xint) xint))
  (xsC (xset 5 sc_law_digits.nd (xb oMod (xb oMul (xv 5) (xb oAdd (xb oDiv (xv 5) xint) xint)) xint))
  (xsC (xset 5 sc_law_digits.nd (xb oMod (xb oMul (xb oAdd (xv 5) (xb oMul xint (xv 4))) (xb oAdd (xb oDiv (xv 5) xint) xint)) xint))
  (xs1 (xset 5 sc_law_digits.nd (xb oDiv (xv 5) xint))))))
  xsN)
  (xsC (xapp 2 (xaC (xb oMod (xv 5) xint) xaN))
  (xs1 (xset 3 sc_law_digits.nd (xb oDiv (xv 3) xint)))))))
  (xs1 (xfrz 2 (xret (xv 2)))))))), bF, F.kp, mF⟩
noncomputable abbrev s_law_ins : Stmt := top 26
theorem sc_law_ins : FnScope ["_law_digits_here", "_law_found", "_law_k", "_law_low", "_law_high", "_law_bounds"] ["_law_digits_here"] (defScope s_law_ins) := ⟨rfl, rfl, rfl, by decide +kernel, rfl, by decide +kernel, by decide +kernel⟩
theorem ok_law_ins {f : Addr} {fd : FuncData} (F : Fun K "_law_ins" "_law_ins" s_law_ins f fd) (bF : Binds K fd ["_law_digits_here"] []) (mF : mg "_law_ins" = some (.ref f)) (T : Blt K mg)  : DefOk P w K mg base 1 "_law_ins" m_law_ins :=
  ⟨f, fd, ["_law_digits_here"], fn_ok F sc_law_ins rfl rfl (fun cdv A outer s H E hr =>
  (xsC (xown 1 sc_law_ins.nd (xoLst xaN))
  (xsC (xforR1 T.z_range (xgN 2 sc_law_ins.nd) (xb oAdd xint (xb oMod (xix2 (xv 0) xint) xint)) (xsC (xset 3 sc_law_ins.nd (xb oSub (xix2 (xv 0) (xb oAdd xint (xb oMul xint (xv 2)))) xint))
  (xsC (xset 4 sc_law_ins.nd (xb oAdd (xv 3) (xb oMod (xix2 (xv 0) (xb oAdd xint (xb oMul xint (xv 2)))) xint)))
  (xsC (xset 5 sc_law_ins.nd (xix2 (xlst (xaC (xtup (xaC (xv 3) (xaC (xv 4) xaN))) (xaC (xtup (xaC xnon (xaC (xv 4) xaN))) (xaC (xtup (xaC (xv 3) (xaC xnon xaN))) (xaC (xtup (xaC xnon (xaC xnon xaN))) xaN))))) (xb oMod (xix2 (xv 0) (xb oAdd xint (xv 2))) xint)))
  (xs1 (xapp 1 (xaC (xtup (xaC xstr (xaC (xix2 (xlst (xaC xstr (xaC xstr (xaC xstr (xaC xstr xaN))))) (xv 2)) (xaC (xtup xaN) (xaC (xv 5) xaN))))) xaN)))))))
  (xsC (xapp 1 (xaC (xtup (xaC xstr (xaC xstr (xaC (xtup (xaC xstr xaN)) (xaC (xtup (xaC xint (xaC xint xaN))) xaN))))) xaN))
  (xs1 (xfrz 1 (xret (xv 1)))))))), bF, F.kp, mF⟩
noncomputable abbrev s_law_value : Stmt := top 27
theorem sc_law_value : FnScope ["_law_bounds", "_law_digit", "_law_low", "_law_high"] ["_law_bounds", "_law_digit"] (defScope s_law_value) := ⟨rfl, rfl, rfl, by decide +kernel, rfl, by decide +kernel, by decide +kernel⟩
theorem ok_law_value {f : Addr} {fd : FuncData} (F : Fun K "_law_value" "_law_value" s_law_value f fd) (bF : Binds K fd ["_law_bounds", "_law_digit"] []) (mF : mg "_law_value" = some (.ref f)) (T : Blt K mg)  : DefOk P w K mg base 1 "_law_value" m_law_value :=
  ⟨f, fd, ["_law_bounds", "_law_digit"], fn_ok F sc_law_value rfl rfl (fun cdv A outer s H E hr =>
  (xsC (xtupset (xgT (xgsC (xgN 2 sc_law_value.nd) (xgsC (xgN 3 sc_law_value.nd) xgs0))) (xv 0))
  (xsC (xsif (xw (xwand (xt cIs (xv 2) xnon) (xwand1 (xt cIs (xv 3) xnon))))
  (xs1 (xret (xb oSub (xb oMul (xv 1) (xb oPow xint xint)) (xb oMul xint (xb oPow xint xint)))))
  xsN)
  (xsC (xsif (xt cIs (xv 2) xnon)
  (xs1 (xret (xb oSub (xv 3) (xv 1))))
  xsN)
  (xsC (xsif (xt cIs (xv 3) xnon)
  (xs1 (xret (xb oAdd (xv 2) (xv 1))))
  xsN)
  (xs1 (xret (xb oAdd (xv 2) (xb oMod (xv 1) (xb oAdd (xb oSub (xv 3) (xv 2)) xint)))))))))), bF, F.kp, mF⟩
noncomputable abbrev s_law_sort : Stmt := top 30
theorem sc_law_sort : FnScope ["_law_works", "_law_marks", "_law_coming_here", "_law_error", "e"] ["_law_works", "_law_marks", "_law_coming_here"] (defScope s_law_sort) := ⟨rfl, rfl, rfl, by decide +kernel, rfl, by decide +kernel, by decide +kernel⟩
theorem ok_law_sort {f : Addr} {fd : FuncData} (F : Fun K "_law_sort" "_law_sort" s_law_sort f fd) (bF : Binds K fd ["_law_works", "_law_marks", "_law_coming_here"] []) (mF : mg "_law_sort" = some (.ref f)) (T : Blt K mg) (G_check_coming : DefX P w K mg base 5 "check_coming" m_check_coming) : DefOk P w K mg base 6 "_law_sort" m_law_sort := by
  obtain ⟨c0, c1, c2, c3, c4, c5, c6, c7, Z⟩ := T.xc
  refine ⟨f, fd, ["_law_works", "_law_marks", "_law_coming_here"], F.ok sc_law_sort (fun vs H Q E h => ?_) (fun cdv A outer s H vs Q E hr h => ?_), bF, F.kp, mF⟩
  · obtain ⟨Hi, ds, d, _, r, e, _⟩ := h
    rw [← r.length]
    exact (sortM_inv e).1
  · obtain ⟨Hi, ds, d, hs, r, e, q⟩ := h
    obtain ⟨hl, z, h1, h2⟩ := sortM_inv e
    have tail : ∀ (C : Addr) (l sb : Bool), XC K C → PySem.W.kitAny K (.ref C) [.ref c3, .ref c4, .ref c5, .ref c6, .ref c7] = some false → PySem.W.kitOne K (.ref C) (.type "ValueError") = some true → PySem.W.kitOne K (.ref C) (.ref c1) = some l →
        PySem.W.kitOne K (.ref C) (.ref c0) = some sb → (l = true → sb = false) → ∀ (σ : L2.St) (H1 : Hp) (Dn : Ends), σ.length = 5 → (∀ H2, Same H1 H2 → Dn.rt (.str (if sb = true then "none" else "late")) H2) →
        Rest (cxOf CX0 P w K mg base ["_law_works", "_law_marks", "_law_coming_here", "_law_error", "e"] "_law_sort" (defScope s_law_sort) f cdv A outer s H E).nox 3 4 ((defBody s_law_sort).drop 2) Dn σ C H1 := by
      intro C l sb xc ka kv kl ks hls σ H1 Dn hσ fin a us
      have h3 : (((σ.set 4 (some (V.ref a))).set 3 (some (.ref a))).set 4 none)[3]? = some (some (.ref a)) := by
        rw [List.getElem?_set_ne (by decide), List.getElem?_set_self (by rw [List.length_set, hσ]; decide)]
      refine ⟨_, pss_cons (ps_if (pt_cmpR op_isN (pv 3) pe_non rfl) (pss_one (ps_ret pe_str)) pss_nil)
        (pss_cons (ps_if (pt_val (pe_callB (call_tup (cs := [c3, c4, c5, c6, c7]) xc ka) rfl T.z_isinstance rfl (pa_cons (pv 3) (pa_cons (pe_tup (pa_cons (pe_cls Z.m_NoCell) (pa_cons (pe_cls Z.m_NoOrder) (pa_cons (pe_cls Z.m_NoPaper) (pa_cons (pe_cls Z.m_NoText) (pa_cons (pe_cls Z.m_NoWorks) pa_nil)))))) pa_nil)))) (pss_one (ps_ret pe_str)) pss_nil)
        (pss_cons (ps_if (pt_not (pt_val (pe_callB (call_one (v := .ty "ValueError") xc (fun w r => r) kv) rfl T.z_isinstance rfl (pa_cons (pv 3) (pa_cons (pe_bltn (v := .ty "ValueError") (u := .type "ValueError") rfl Z.z_ValueError rfl rfl) pa_nil))))) (pss_one (ps_ret pe_str)) pss_nil)
        (pss_cons (ps_if (PW.pt (pw_and (pt_val (pe_callB (call_one (v := .ref c1) xc (fun w r => r) kl) rfl T.z_isinstance rfl (pa_cons (pv 3) (pa_cons (pe_cls Z.m_Late) pa_nil)))) (pw_and1 (pt_val (pe_callB (call_one (v := .ref c0) xc (fun w r => r) ks) rfl T.z_isinstance rfl (pa_cons (pv 3) (pa_cons (pe_cls Z.m_NoComing) pa_nil))))))) (pss_one (ps_ret pe_str)) pss_nil)
        (pss_one (ps_ret (pe_ix ix_list (pe_lst (pa_cons pe_str (pa_cons pe_str pa_nil))) (pe_callTy call_int1 rfl T.z_int rfl (pa_cons (pe_callB (call_one (v := .ref c0) xc (fun w r => r) ks) rfl T.z_isinstance rfl (pa_cons (pv 3) (pa_cons (pe_cls Z.m_NoComing) pa_nil))) pa_nil)) (fun _ _ => rfl))))))), ?_⟩
      have last : ∀ H2, Same H1 H2 → tRet (tOp (rIxL K) (tLst (tCons (tC (.str "late")) (tCons (tC (.str "none")) tNil))) (tCB (fun xs H Q => (∃ i, xs = [.int i] ∧ Q (.int i) H) ∨ ∃ k, xs = [.bl k] ∧ Q (.int (if k then 1 else 0)) H)
          (tCons (tCB (fun xs H Q => xs = [.ref a, .ref c0] ∧ Q (.bl sb) H) (tCons (tVar 3) (tCons (tC (.ref c0)) tNil))) tNil))) Dn (((σ.set 4 (some (V.ref a))).set 3 (some (.ref a))).set 4 none) H2 := fun H2 s2 => by
        refine ⟨by decide, fun p hp => ⟨.ref a, h3, rfl, .inr ⟨sb, rfl, p, [.str "late", .str "none"], _, .str (if sb = true then "none" else "late"), rfl, rfl, .inl (.inl upd_same), ?_, fin _ (s2.trans (same_upd hp))⟩⟩⟩
        cases sb <;> rfl
      refine ⟨.ref a, h3, rfl, false, rfl, iteF ⟨.ref a, h3, (show 5 ≤ sizeLine by decide), fun p hp => ⟨p, rfl, upd_same, false, rfl, iteF ⟨.ref a, h3, rfl, true, rfl, iteF ⟨.ref a, h3, rfl, l, rfl, ?_⟩⟩⟩⟩⟩
      cases l with
      | false => exact iteF (iteF (last _ (same_upd hp)))
      | true =>
        obtain rfl := hls rfl
        exact iteT ⟨.ref a, h3, rfl, false, rfl, iteF (last _ (same_upd hp))⟩
    have R0 := (RS.start (n := 5) (m := 2) hs r (by rw [← r.length, hl])).set 3 (d := .non) (v := .non) (by unfold Rep; rfl)
    obtain ⟨d0, d1, d2, rfl⟩ : ∃ d0 d1 d2, ds = [d0, d1, d2] := by
      match ds, hl with
      | [x, y, z], _ => exact ⟨x, y, z, rfl⟩
    refine ⟨_, pss_cons (ps_set sc_law_sort.nd (i := 3) rfl (.inl rfl) pe_non) (pss_try (ie := 3) (ik := 4) (fun _ _ z => z) G_check_coming hr (xaC (xv 0) (xaC (xv 1) (xaC (xv 2) xaN))) rfl rfl sc_law_sort.nd rfl rfl rfl rfl rfl Z.m_WellError (fun y C m hy => ?_)
      (pss_cons (ps_if (pt_cmpR op_isN (pv 3) pe_non rfl) (pss_one (ps_ret pe_str)) pss_nil) pss_never)), ⟨Hi, H, []⟩, Hi, _, [d0, d1, d2], _, z, R0, rfl, h1, ?_⟩
    · rcases hy with rfl | rfl
      · obtain rfl : c0 = C := Value.ref.inj (Option.some.inj (Z.m_NoComing.symm.trans m))
        exact Z.e0
      · obtain rfl : c1 = C := Value.ref.inj (Option.some.inj (Z.m_Late.symm.trans m))
        exact Z.e1
    · cases z with
      | inl x =>
        obtain rfl : D.str "right" = d := Option.some.inj h2
        intro H0' H' _ R'
        obtain ⟨v, hv, rv⟩ := R'.im 3 .non rfl
        obtain rfl : v = .non := by unfold Rep at rv; exact rv
        exact ⟨.non, hv, rfl, true, rfl, iteT (q _ H0' H' R'.step (by unfold Rep; rfl))⟩
      | inr y =>
        have h2' : (if y = "NoComing" then some (D.str "none") else if y = "Late" then some (D.str "late") else none) = some d := h2
        have len : ((vs.map some ++ List.replicate (5 - vs.length) none : L2.St).set 3 (some .non)).length = 5 := by
          rw [List.length_set, List.length_append, List.length_map, List.length_replicate, ← r.length]; rfl
        by_cases y0 : y = "NoComing"
        · subst y0
          obtain rfl : D.str "none" = d := Option.some.inj h2'
          refine ⟨.inl rfl, fun C H0' H' m _ R' => ?_⟩
          obtain rfl : c0 = C := Value.ref.inj (Option.some.inj (Z.m_NoComing.symm.trans m))
          exact tail c0 false true Z.k0 Z.n0 Z.v0 Z.l0 Z.s0 (fun z => nomatch z) _ H' _ len fun H2 s2 => q _ H0' H2 ⟨R'.step.s0, R'.step.s.trans s2, R'.step.s'.trans s2, R'.step.fr⟩ (by unfold Rep; rfl)
        · rw [if_neg y0] at h2'
          by_cases y1 : y = "Late"
          · subst y1
            obtain rfl : D.str "late" = d := Option.some.inj h2'
            refine ⟨.inr rfl, fun C H0' H' m _ R' => ?_⟩
            obtain rfl : c1 = C := Value.ref.inj (Option.some.inj (Z.m_Late.symm.trans m))
            exact tail c1 true false Z.k1 Z.n1 Z.v1 Z.l1 Z.s1 (fun _ => rfl) _ H' _ len fun H2 s2 => q _ H0' H2 ⟨R'.step.s0, R'.step.s.trans s2, R'.step.s'.trans s2, R'.step.fr⟩ (by unfold Rep; rfl)
          · rw [if_neg y1] at h2'
            cases h2'
noncomputable abbrev s_law_bad : Stmt := top 31
theorem sc_law_bad : FnScope ["_law_row", "_law_time", "_law_digits_here", "_law_value_here", "_law_some", "_law_low", "_law_high"] ["_law_row", "_law_time", "_law_digits_here"] (defScope s_law_bad) := ⟨rfl, rfl, rfl, by decide +kernel, rfl, by decide +kernel, by decide +kernel⟩
theorem ok_law_bad {f : Addr} {fd : FuncData} (F : Fun K "_law_bad" "_law_bad" s_law_bad f fd) (bF : Binds K fd ["_law_row", "_law_time", "_law_digits_here"] []) (mF : mg "_law_bad" = some (.ref f)) (T : Blt K mg) (G_law_value : DefOk P w K mg base 1 "_law_value" m_law_value) : DefOk P w K mg base 2 "_law_bad" m_law_bad :=
  ⟨f, fd, ["_law_row", "_law_time", "_law_digits_here"], fn_ok F sc_law_bad rfl rfl (fun cdv A outer s H E hr =>
  (xsC (xset 3 sc_law_bad.nd (xF G_law_value (hr.mono (by decide)) (xaC (xix2 (xv 0) xint) (xaC (xix2 (xv 2) xint) xaN))))
  (xsC (xset 4 sc_law_bad.nd (xlst (xaC (xtup (xaC xstr (xaC (xix2 (xv 0) xint) (xaC (xv 1) (xaC xstr (xaC (xv 3) xaN)))))) (xaC (xtup (xaC xstr (xaC xstr (xaC (xv 1) (xaC xstr (xaC (xv 3) xaN)))))) xaN))))
  (xsC (xset 4 sc_law_bad.nd (xb oAdd (xv 4) (xlst (xaC (xtup (xaC xstr (xaC xstr (xaC (xv 1) (xaC xstr (xaC (xv 3) xaN)))))) xaN))))
  (xsC (xset 4 sc_law_bad.nd (xb oAdd (xv 4) (xlst (xaC (xtup (xaC xstr (xaC (xix2 (xv 0) xint) (xaC (xb oSub (xneg xint) (xix2 (xv 2) xint)) (xaC xstr (xaC (xv 3) xaN)))))) xaN))))
  (xsC (xset 4 sc_law_bad.nd (xb oAdd (xv 4) (xlst (xaC (xtup (xaC xstr (xaC (xix2 (xv 0) xint) (xaC (xv 1) (xaC xstr (xaC (xv 3) xaN)))))) xaN))))
  (xsC (xset 4 sc_law_bad.nd (xb oAdd (xv 4) (xlst (xaC (xtup (xaC xstr (xaC (xix2 (xv 0) xint) (xaC (xv 1) (xaC xstr (xaC (xv 3) xaN)))))) xaN))))
  (xsC (xset 4 sc_law_bad.nd (xb oAdd (xv 4) (xlst (xaC (xtup (xaC xstr (xaC (xix2 (xv 0) xint) (xaC (xv 1) (xaC xstr (xaC (xv 3) xaN)))))) xaN))))
  (xsC (xset 4 sc_law_bad.nd (xb oAdd (xv 4) (xlst (xaC (xtup (xaC xstr (xaC (xix2 (xv 0) xint) (xaC (xv 1) (xaC xstr (xaC (xv 3) xaN)))))) (xaC (xtup (xaC xstr (xaC (xix2 (xv 0) xint) (xaC (xv 1) (xaC xint (xaC (xv 3) xaN)))))) xaN)))))
  (xsC (xset 4 sc_law_bad.nd (xb oAdd (xv 4) (xlst (xaC (xtup (xaC xstr (xaC (xix2 (xv 0) xint) (xaC (xv 1) (xaC xstr xaN))))) xaN))))
  (xsC (xset 4 sc_law_bad.nd (xb oAdd (xv 4) (xlst (xaC (xtup (xaC xstr (xaC (xix2 (xv 0) xint) (xaC (xv 1) (xaC xstr (xaC (xv 3) (xaC xint xaN))))))) (xaC (xtup (xaC xstr (xaC (xix2 (xv 0) xint) (xaC xnon (xaC xstr (xaC (xv 3) xaN)))))) xaN)))))
  (xsC (xset 4 sc_law_bad.nd (xb oAdd (xv 4) (xlst (xaC (xtup (xaC xstr (xaC (xix2 (xv 0) xint) (xaC xbl (xaC xstr (xaC (xv 3) xaN)))))) (xaC (xtup (xaC xstr (xaC (xix2 (xv 0) xint) (xaC (xv 1) (xaC xstr (xaC xbl xaN)))))) xaN)))))
  (xsC (xset 4 sc_law_bad.nd (xb oAdd (xv 4) (xlst (xaC (xtup (xaC xstr (xaC (xix2 (xv 0) xint) (xaC (xv 1) (xaC xstr (xaC xnon xaN)))))) xaN))))
  (xsC (xset 4 sc_law_bad.nd (xb oAdd (xv 4) (xlst (xaC (xtup (xaC xstr (xaC xstr (xaC (xv 1) xaN)))) (xaC (xtup (xaC xstr (xaC (xix2 (xv 0) xint) (xaC (xb oSub (xneg xint) (xix2 (xv 2) xint)) xaN)))) xaN)))))
  (xsC (xset 4 sc_law_bad.nd (xb oAdd (xv 4) (xlst (xaC (xtup (xaC xstr (xaC (xix2 (xv 0) xint) (xaC xnon xaN)))) (xaC (xtup (xaC xstr (xaC (xix2 (xv 0) xint) xaN))) xaN)))))
  (xsC (xset 4 sc_law_bad.nd (xb oAdd (xv 4) (xlst (xaC (xtup (xaC xstr (xaC (xix2 (xv 0) xint) (xaC (xv 1) (xaC xint xaN))))) (xaC (xtup (xaC xstr (xaC (xix2 (xv 0) xint) (xaC xbl xaN)))) (xaC (xtup (xaC xstr (xaC xstr xaN))) xaN))))))
  (xsC (xset 4 sc_law_bad.nd (xb oAdd (xv 4) (xlst (xaC (xtup (xaC xstr (xaC (xix2 (xv 0) xint) (xaC (xv 1) xaN)))) (xaC (xtup (xaC xstr xaN)) xaN)))))
  (xsC (xset 4 sc_law_bad.nd (xb oAdd (xv 4) (xlst (xaC (xtup (xaC xstr (xaC (xix2 (xv 0) xint) xaN))) (xaC (xtup xaN) (xaC xnon (xaC (xlst (xaC (xtup (xaC xstr (xaC (xix2 (xv 0) xint) (xaC (xv 1) xaN)))) xaN)) (xaC (xlst (xaC xstr (xaC (xix2 (xv 0) xint) (xaC (xv 1) xaN)))) xaN))))))))
  (xsC (xset 4 sc_law_bad.nd (xb oAdd (xv 4) (xlst (xaC (xb oAdd xstr (xix2 (xv 0) xint)) (xaC xint xaN)))))
  (xsC (xtupset (xgT (xgsC (xgN 5 sc_law_bad.nd) (xgsC (xgN 6 sc_law_bad.nd) xgs0))) (xix2 (xv 0) xint))
  (xsC (xsif (xt cIsNot (xv 5) xnon)
  (xsC (xset 4 sc_law_bad.nd (xb oAdd (xv 4) (xlst (xaC (xtup (xaC xstr (xaC (xix2 (xv 0) xint) (xaC (xv 1) (xaC xstr (xaC (xb oSub (xv 5) xint) xaN)))))) xaN))))
  (xs1 (xset 4 sc_law_bad.nd (xb oAdd (xv 4) (xlst (xaC (xtup (xaC xstr (xaC (xix2 (xv 0) xint) (xaC (xv 1) (xaC xstr (xaC (xb oSub (xb oSub (xv 5) xint) (xb oMul (xix2 (xv 2) xint) (xb oPow xint xint))) xaN)))))) xaN))))))
  xsN)
  (xsC (xsif (xt cIsNot (xv 6) xnon)
  (xsC (xset 4 sc_law_bad.nd (xb oAdd (xv 4) (xlst (xaC (xtup (xaC xstr (xaC (xix2 (xv 0) xint) (xaC (xv 1) (xaC xstr (xaC (xb oAdd (xv 6) xint) xaN)))))) xaN))))
  (xs1 (xset 4 sc_law_bad.nd (xb oAdd (xv 4) (xlst (xaC (xtup (xaC xstr (xaC (xix2 (xv 0) xint) (xaC (xv 1) (xaC xstr (xaC (xb oAdd (xb oAdd (xv 6) xint) (xb oMul (xix2 (xv 2) xint) (xb oPow xint xint))) xaN)))))) xaN))))))
  xsN)
  (xs1 (xret (xix2 (xv 4) (xb oMod (xb oAdd (xb oMul (xix2 (xv 2) xint) xint) (xix2 (xv 2) xint)) (xB callLen2 rfl T.z_len PySem.boot_len (xaC (xv 4) xaN)))))))))))))))))))))))))))), bF, F.kp, mF⟩
noncomputable abbrev s_law_one : Stmt := top 32
theorem sc_law_one : FnScope ["_law_works", "_law_marks", "_law_digits_here", "_law_row", "_law_mark", "_law_time", "_law_key", "_law_coming_here"] ["_law_works", "_law_marks", "_law_digits_here"] (defScope s_law_one) := ⟨rfl, rfl, rfl, by decide +kernel, rfl, by decide +kernel, by decide +kernel⟩
theorem ok_law_one {f : Addr} {fd : FuncData} (F : Fun K "_law_one" "_law_one" s_law_one f fd) (bF : Binds K fd ["_law_works", "_law_marks", "_law_digits_here"] []) (mF : mg "_law_one" = some (.ref f)) (T : Blt K mg) (G_law_bad : DefOk P w K mg base 2 "_law_bad" m_law_bad) (G_law_value : DefOk P w K mg base 1 "_law_value" m_law_value) : DefOk P w K mg base 3 "_law_one" m_law_one :=
  ⟨f, fd, ["_law_works", "_law_marks", "_law_digits_here"], fn_ok F sc_law_one rfl rfl (fun cdv A outer s H E hr =>
  (xsC (xset 3 sc_law_one.nd (xix2 (xv 0) (xb oMod (xix2 (xv 2) xint) (xb oSub (xB callLen2 rfl T.z_len PySem.boot_len (xaC (xv 0) xaN)) xint))))
  (xsC (xset 4 sc_law_one.nd (xdx (hu_of hr) (xv 1) (xix2 (xv 3) xint)))
  (xsC (xset 5 sc_law_one.nd (xix2 (xv 2) xint))
  (xsC (xsif (xt cIsNot (xv 4) xnon)
  (xs1 (xset 5 sc_law_one.nd (xB (callMax rfl) rfl T.z_max PyProof.Rows.boot_max (xaC xint (xaC (xb oAdd (xv 4) (xix2 (xlst (xaC (xneg xint) (xaC xint (xaC xint (xaC (xb oSub (xneg xint) (xix2 (xv 2) xint)) xaN))))) (xb oMod (xix2 (xv 2) xint) xint))) xaN)))))
  xsN)
  (xsC (xsif (xt (cEq hr.units) (xb oMod (xix2 (xv 2) xint) xint) xint)
  (xs1 (xret (xtup (xaC (xF G_law_bad (hr.mono (by decide)) (xaC (xv 3) (xaC (xv 5) (xaC (xv 2) xaN)))) (xaC xstr xaN)))))
  xsN)
  (xsC (xset 6 sc_law_one.nd (xb oMulS (xix2 xstr (xb oMod (xix2 (xv 2) xint) xint)) (xb oAdd xint (xb oDiv (xix2 (xv 2) xint) xint))))
  (xsC (xset 7 sc_law_one.nd (xtup (xaC xstr (xaC (xix2 (xv 3) xint) (xaC (xv 5) xaN)))))
  (xsC (xsif (xt (cEq hr.units) (xb oMod (xb oDiv (xix2 (xv 2) xint) xint) xint) xint)
  (xs1 (xset 7 sc_law_one.nd (xtup (xaC xstr (xaC (xix2 (xv 3) xint) (xaC (xv 5) (xaC (xv 6) (xaC (xF G_law_value (hr.mono (by decide)) (xaC (xix2 (xv 3) xint) (xaC (xix2 (xv 2) xint) xaN))) xaN))))))))
  xsN)
  (xsC (xsif (xt (cEq hr.units) (xb oMod (xb oDiv (xix2 (xv 2) xint) xint) xint) xint)
  (xs1 (xret (xtup (xaC (xtup (xaC xstr (xaC (xix2 (xv 3) xint) xaN))) (xaC (xix2 (xlst (xaC xstr (xaC xstr xaN))) (xTy callInt rfl T.z_int PyProof.Rows.boot_int (xaC (xcmp cIs (xv 4) xnon) xaN))) xaN)))))
  xsN)
  (xs1 (xret (xtup (xaC (xv 7) (xaC (xix2 (xlst (xaC xstr (xaC xstr xaN))) (xTy callInt rfl T.z_int PyProof.Rows.boot_int (xaC (xor (xcmp cIs (xv 4) xnon) (xone (xcmp cLt (xv 5) (xv 4)))) xaN))) xaN))))))))))))))), bF, F.kp, mF⟩
noncomputable abbrev s_law : Stmt := top 33
theorem sc_law : FnScope ["_law_script", "_law_works", "_law_digits_here", "_law_marks", "_law_k", "_law_before", "_law_cell", "_law_coming_here", "_law_due"] ["_law_script"] (defScope s_law) := ⟨rfl, rfl, rfl, by decide +kernel, rfl, by decide +kernel, by decide +kernel⟩
theorem fn_law {f : Addr} {fd : FuncData} (F : Fun K "law" "law" s_law f fd) (T : Blt K mg) (G_law_cell_at : DefOk P w K mg base 1 "_law_cell_at" m_law_cell_at) (G_law_digits : DefOk P w K mg base 1 "_law_digits" m_law_digits) (G_law_ins : DefOk P w K mg base 1 "_law_ins" m_law_ins) (G_law_one : DefOk P w K mg base 3 "_law_one" m_law_one) (G_law_sort : DefOk P w K mg base 6 "_law_sort" m_law_sort) : FnOk P w K mg base CX0 7 f fd ["_law_script"] (spP K m_law) :=
  fn_ok F sc_law rfl rfl (fun cdv A outer s H E hr =>
  (xsC (xset 1 sc_law.nd (xF G_law_ins (hr.mono (by decide)) (xaC (xF G_law_digits (hr.mono (by decide)) (xaC (xF G_law_cell_at (hr.mono (by decide)) (xaC (xv 0) (xaC xint xaN))) (xaC xint xaN))) xaN)))
  (xsC (xset 2 sc_law.nd (xF G_law_digits (hr.mono (by decide)) (xaC (xF G_law_cell_at (hr.mono (by decide)) (xaC (xv 0) (xaC xint xaN))) (xaC xint xaN))))
  (xsC (xdn 3 sc_law.nd)
  (xsC (xforR1 T.z_range (xgN 4 sc_law.nd) (xb oSub (xB callLen2 rfl T.z_len PySem.boot_len (xaC (xv 1) xaN)) xint) (xsC (xset 6 sc_law.nd (xF G_law_cell_at (hr.mono (by decide)) (xaC (xv 0) (xaC (xb oAdd xint (xv 4)) xaN))))
  (xs1 (xdk 3 (hu_of hr) (xix2 (xix2 (xv 1) (xv 4)) xint) (xix2 (xlst (xaC (xb oMod (xb oDiv (xv 6) xint) (xb oPow xint xint)) (xaC (xb oMod (xb oDiv (xv 6) xint) xint) (xaC xint (xaC xnon xaN))))) (xb oMod (xv 6) xint))))))
  (xsC (xfzd 3 (xset 5 sc_law.nd (xTy callDct rfl T.z_dict PyProof.Rows.boot_dict (xaC (xv 3) xaN))))
  (xsC (xforR1 T.z_range (xgN 4 sc_law.nd) xint (xsC (xtupset (xgT (xgsC (xgN 7 sc_law.nd) (xgsC (xgN 8 sc_law.nd) xgs0))) (xF G_law_one (hr.mono (by decide)) (xaC (xv 1) (xaC (xv 3) (xaC (xsl2 (xv 2) (xoS (xb oMul xint (xv 4))) xoN) xaN)))))
  (xs1 (xsif (xw (xwor (xt (cNe hr.units) (xF G_law_sort (hr.mono (by decide)) (xaC (xv 1) (xaC (xv 3) (xaC (xv 7) xaN)))) (xv 8)) (xwor1 (xt (dd_ne hr.units) (xv 3) (xv 5)))))
  (xs1 (xret xbl))
  xsN))))
  (xs1 (xret xbl)))))))))
end
end Fx
namespace Fx
open PySem
theorem okMul_r {i j : Int} (h : j.natAbs < 2 ^ 64) : okMul i j = true := by
  unfold okMul
  rw [decide_eq_true h]; simp
theorem okMul_l {i j : Int} (h : i.natAbs < 2 ^ 64) : okMul i j = true := by
  unfold okMul
  rw [decide_eq_true h]; simp
theorem okDiv_s {j : Int} (h0 : j ≠ 0) (h : j.natAbs < 2 ^ 64) : okDiv j = true := by
  unfold okDiv
  rw [decide_eq_true h0, decide_eq_true (Nat.lt_trans h (Nat.pow_lt_pow_right (by decide) (by decide)))]; rfl
end Fx
namespace Fx
open PySem
noncomputable def fnBa (o : Option Res) : Option (D × MO) := bnd o fun r => retB r
noncomputable def retBa (d : D) (o : Option (Bool × MO)) : Option (D × MO) := bnd o fun q => if q.1 = true then some (d, q.2) else none
@[simp] theorem fnB_ (n k : Nat) (B : FS) (o : MO) (ds : List D) : fnB n k B o ds = if ds.length = n then fnBa (B (.ow true o :: (ds.map .im ++ List.replicate k .no))) else none := Eq.trans rfl rfl
@[simp] theorem fnBa_r (d : D) (ρ : En) : fnBa (some (.rt d ρ)) = retBa d (owO ρ[0]?) := Eq.trans rfl rfl
@[simp] theorem fnBa_n (ρ : En) : fnBa (some (.nx ρ)) = retBa .non (owO ρ[0]?) := Eq.trans rfl rfl
@[simp] theorem retBa_s (d : D) (o : MO) : retBa d (some (true, o)) = some (d, o) := Eq.trans rfl rfl
@[simp] theorem fnN_ (n k : Nat) (F : En → Option MO) (ds : List D) : fnN n k F ds = if ds.length = n then F (ds.map .im ++ List.replicate k .no) else none := Eq.trans rfl rfl
noncomputable def nSeqa (F : En → Option MO) (o : Option Res) : Option MO := bnd o fun r => match r with
  | .nx ρ' => F ρ'
  | _ => none
@[simp] theorem nSeq_ (A : FS) (F : En → Option MO) (ρ : En) : nSeq A F ρ = nSeqa F (A ρ) := Eq.trans rfl rfl
@[simp] theorem nSeqa_n (F : En → Option MO) (ρ : En) : nSeqa F (some (.nx ρ)) = F ρ := Eq.trans rfl rfl
noncomputable def nReta (ks : List Str) (o : Option (List D × En)) : Option MO := bnd o fun p => if p.1.length = ks.length ∧ ks.length ≤ 15 ∧ ks.Nodup then some (.dic (ks.zip p.1)) else none
@[simp] theorem nRet_ (ks : List Str) (A : FA) (ρ : En) : nRet ks A ρ = if ρ.all noOw = true then nReta ks (A ρ) else none := Eq.trans rfl rfl
@[simp] theorem nReta_s (ks : List Str) (ds : List D) (ρ : En) : nReta ks (some (ds, ρ)) = if ds.length = ks.length ∧ ks.length ≤ 15 ∧ ks.Nodup then some (.dic (ks.zip ds)) else none := Eq.trans rfl rfl
noncomputable def lcBb (js : List Nat) (i q : Nat) (ρ : En) (b : Bool) (xs : List D) (o : Option (List D × MO)) : Option (D × En) := bnd o fun t => if xs.length ≤ sizeLine ∧ js[q]? = some i ∧ js.Nodup then some (.lst t.1, ρ.set i (.ow b t.2)) else none
noncomputable def lcBa (js : List Nat) (i q : Nat) (T : FT) (F : FE) (xs : List D) (ρ : En) (o : Option (Bool × MO)) : Option (D × En) := bnd o fun w => lcBb js i q ρ w.1 xs (cGoB T F ρ i js q w.2 xs)
@[simp] theorem lcB_ (js : List Nat) (i q : Nat) (T : FT) (F : FE) (xs : List D) (ρ : En) : lcB js i q T F xs ρ = lcBa js i q T F xs ρ (owO ρ[i]?) := Eq.trans rfl rfl
@[simp] theorem lcBa_s (js : List Nat) (i q : Nat) (T : FT) (F : FE) (xs : List D) (ρ : En) (b : Bool) (o : MO) : lcBa js i q T F xs ρ (some (b, o)) = lcBb js i q ρ b xs (cGoB T F ρ i js q o xs) := Eq.trans rfl rfl
@[simp] theorem lcBb_s (js : List Nat) (i q : Nat) (ρ : En) (b : Bool) (xs ys : List D) (o : MO) : lcBb js i q ρ b xs (some (ys, o)) = if xs.length ≤ sizeLine ∧ js[q]? = some i ∧ js.Nodup then some (.lst ys, ρ.set i (.ow b o)) else none := Eq.trans rfl rfl
noncomputable def eLCBb (js : List Nat) (i q : Nat) (T : FT) (F : FE) (ρ : En) (o : Option (List D)) : Option (D × En) := bnd o fun xs => lcB js i q T F xs ρ
noncomputable def eLCBa (js : List Nat) (i q : Nat) (T : FT) (F : FE) (o : Option (D × En)) : Option (D × En) := bnd o fun p => eLCBb js i q T F p.2 (items p.1)
@[simp] theorem eLCB_ (js : List Nat) (i q : Nat) (I : FE) (T : FT) (F : FE) (ρ : En) : eLCB js i q I T F ρ = eLCBa js i q T F (I ρ) := Eq.trans rfl rfl
@[simp] theorem eLCBa_s (js : List Nat) (i q : Nat) (T : FT) (F : FE) (x : D) (ρ : En) : eLCBa js i q T F (some (x, ρ)) = eLCBb js i q T F ρ (items x) := Eq.trans rfl rfl
@[simp] theorem eLCBb_s (js : List Nat) (i q : Nat) (T : FT) (F : FE) (ρ : En) (xs : List D) : eLCBb js i q T F ρ (some xs) = lcB js i q T F xs ρ := Eq.trans rfl rfl
end Fx
namespace Fx
open PySem
noncomputable def dO : Option Int → D
  | none => .non
  | some i => .int i
@[simp] theorem dO_none : dO none = .non := rfl
@[simp] theorem dO_some (i : Int) : dO (some i) = .int i := rfl
theorem fmod_pos {a b : Int} (h : 0 < b) : a.fmod b = a % b := Int.fmod_eq_emod_of_nonneg a (by omega)
theorem fdiv_pos {a b : Int} (h : 0 < b) : a.fdiv b = a / b := Int.fdiv_eq_ediv_of_nonneg a (by omega)
theorem fGo_rngI {g : D → En → Option En} {B : FS} (P : Nat → En → Prop) : ∀ (n k : Nat) (ρ : En), (∀ (i : Nat) ρ, k ≤ i → i < k + n → P i ρ → ∃ ρ1 ρ2, g (.int i) ρ = some ρ1 ∧ B ρ1 = some (.nx ρ2) ∧ P (i + 1) ρ2) → P k ρ → ∃ ρ', fGo g B (rngD k n) ρ = some (.nx ρ') ∧ P (k + n) ρ'
  | 0, k, ρ, _, p => ⟨ρ, rfl, p⟩
  | n + 1, k, ρ, h, p => by
    obtain ⟨ρ1, ρ2, h1, h2, p2⟩ := h k ρ (Nat.le_refl _) (by omega) p
    obtain ⟨ρ', e, p'⟩ := fGo_rngI P n (k + 1) ρ2 (fun i ρ a b q => h i ρ (by omega) (by omega) q) p2
    refine ⟨ρ', ?_, by rw [show k + (n + 1) = k + 1 + n by omega]; exact p'⟩
    rw [show rngD (k : Int) (n + 1) = .int k :: rngD ((k : Int) + 1) n from rfl, fGo_c, h1, fGa_s, h2, fGb_n]
    exact e
theorem at_ints (xs : List Int) {i : Nat} (h : i < xs.length) : atD (xs.map D.int) i = some (.int xs[i]) := by
  unfold atD dPl
  rw [List.length_map, if_pos (by omega), if_pos (by omega)]
  show (xs.map D.int)[((i : Int)).toNat]? = _
  rw [show ((i : Int)).toNat = i by omega, List.getElem?_map, List.getElem?_eq_getElem h]
  rfl
noncomputable def Dig (xs : List Int) : Prop := ∀ x ∈ xs, 0 ≤ x ∧ x < 64
noncomputable def dn1 (c : Int) (k : Nat) : Int := (c % 2147483647 + 7919 * k + 1) * 48271 % 2147483647
noncomputable def dn2 (c : Int) (k : Nat) : Int := dn1 c k * (dn1 c k / 1009 + 69621) % 2147483647
noncomputable def dn3 (c : Int) (k : Nat) : Int := (dn2 c k + 7 * k) * (dn2 c k / 677 + 40692) % 2147483399 / 3
noncomputable def PD (c n : Int) (k : Nat) (ρ : En) : Prop := ∃ (xs : List Int) (r : Int) (x4 x5 : Sl), ρ = [.im (.int c), .im (.int n), .ow false (.lst (xs.map .int)), .im (.int r), x4, x5] ∧ xs.length = k ∧ Dig xs
theorem digit_turn {c n : Int} (k : Nat) (hk : k < 1000) (ρ : En) (p : PD c n k ρ) : ∃ ρ1 ρ2, gN 4 (.int k) ρ = some ρ1 ∧ l_law_digits_1 ρ1 = some (.nx ρ2) ∧ PD c n (k + 1) ρ2 := by
  obtain ⟨xs, r, x4, x5, rfl, hl, hd⟩ := p
  have app : ∀ y : Int, Dig (xs ++ [y % 64]) := fun y x hx => by
    rcases List.mem_append.mp hx with h | h
    · exact hd x h
    · rw [List.mem_singleton.mp h]
      exact ⟨Int.emod_nonneg _ (by decide), Int.emod_lt_of_pos _ (by decide)⟩
  have len : ∀ y : Int, (xs ++ [y % 64]).length = k + 1 := fun y => by rw [List.length_append, hl]; rfl
  have l6 : xs.length < 1000000 := by omega
  have f64 : ∀ x : Int, x.fmod 64 = x % 64 := fun x => fmod_pos (by decide)
  have g64 : ∀ x : Int, x.fdiv 64 = x / 64 := fun x => fdiv_pos (by decide)
  have d64 : okDiv 64 = true := okDiv_s (by decide) (by decide)
  by_cases hc : c < 10000000000000000000000000000000000000000 ∨ r = 0
  · have m1 : ∀ x : Int, okMul 7919 x = true := fun x => okMul_l (by decide)
    have m2 : ∀ x : Int, okMul x 48271 = true := fun x => okMul_r (by decide)
    have m3 : ∀ x : Int, okMul 7 x = true := fun x => okMul_l (by decide)
    have f1 : ∀ x : Int, x.fmod 2147483647 = x % 2147483647 := fun x => fmod_pos (by decide)
    have f2 : ∀ x : Int, x.fmod 2147483399 = x % 2147483399 := fun x => fmod_pos (by decide)
    have g1 : ∀ x : Int, x.fdiv 1009 = x / 1009 := fun x => fdiv_pos (by decide)
    have g2 : ∀ x : Int, x.fdiv 677 = x / 677 := fun x => fdiv_pos (by decide)
    have g3 : ∀ x : Int, x.fdiv 3 = x / 3 := fun x => fdiv_pos (by decide)
    have d1 : okDiv 1009 = true := okDiv_s (by decide) (by decide)
    have d2 : okDiv 677 = true := okDiv_s (by decide) (by decide)
    have d3 : okDiv 3 = true := okDiv_s (by decide) (by decide)
    have b1 : 0 ≤ dn1 c k ∧ dn1 c k < 2147483647 := ⟨Int.emod_nonneg _ (by decide), Int.emod_lt_of_pos _ (by decide)⟩
    have b2 : 0 ≤ dn2 c k ∧ dn2 c k < 2147483647 := ⟨Int.emod_nonneg _ (by decide), Int.emod_lt_of_pos _ (by decide)⟩
    have m4 : okMul (dn1 c k) (dn1 c k / 1009 + 69621) = true := okMul_l (by omega)
    have m5 : okMul (dn2 c k + 7 * k) (dn2 c k / 677 + 40692) = true := okMul_r (by omega)
    have q1 : (c % 2147483647 + 7919 * k + 1) * 48271 % 2147483647 = dn1 c k := rfl
    have q2 : dn1 c k * (dn1 c k / 1009 + 69621) % 2147483647 = dn2 c k := rfl
    have q3 : (dn2 c k + 7 * k) * (dn2 c k / 677 + 40692) % 2147483399 / 3 = dn3 c k := rfl
    refine ⟨_, [.im (.int c), .im (.int n), .ow false (.lst ((xs ++ [dn3 c k % 64]).map .int)), .im (.int (r / 64)), .im (.int k), .im (.int (dn3 c k))], rfl, ?_, _, _, _, _, rfl, len _, app _⟩
    rcases hc with hc | hc
    · simp [l_law_digits_1, hc, m1, m2, m3, m4, m5, f1, f2, g1, g2, g3, d1, d2, d3, f64, g64, d64, l6, q1, q2, q3]
    · by_cases hc2 : c < 10000000000000000000000000000000000000000
      · simp [l_law_digits_1, hc, hc2, m1, m2, m3, m4, m5, f1, f2, g1, g2, g3, d1, d2, d3, f64, g64, d64, l6, q1, q2, q3]
      · simp [l_law_digits_1, hc, hc2, m1, m2, m3, m4, m5, f1, f2, g1, g2, g3, d1, d2, d3, f64, g64, d64, l6, q1, q2, q3]
  · have h1 : ¬ c < 10000000000000000000000000000000000000000 := fun h => hc (.inl h)
    have h2 : ¬ r = 0 := fun h => hc (.inr h)
    refine ⟨_, [.im (.int c), .im (.int n), .ow false (.lst ((xs ++ [r % 64]).map .int)), .im (.int (r / 64)), .im (.int k), .im (.int r)], rfl, ?_, _, _, _, _, rfl, len _, app _⟩
    simp [l_law_digits_1, h1, h2, f64, g64, d64, l6]
theorem digits_eq (c : Int) (n : Nat) (hn : n ≤ 1000) : ∃ xs : List Int, m_law_digits [.int c, .int n] = some (.lst (xs.map .int)) ∧ xs.length = n ∧ Dig xs := by
  obtain ⟨ρ', e, xs, r, x4, x5, rfl, hl, hd⟩ := fGo_rngI (g := gN 4) (B := l_law_digits_1) (PD c n) n 0 [.im (.int c), .im (.int n), .ow false (.lst []), .im (.int c), .no, .no] (fun i ρ _ h p => digit_turn i (by omega) ρ p) ⟨[], c, _, _, rfl, rfl, fun x h => by cases h⟩
  refine ⟨xs, ?_, by omega, hd⟩
  have b1 : -4611686018427387904 ≤ (n : Int) := by omega
  have b2 : (n : Int) < 4611686018427387904 := by omega
  have e' : fGo (gN 4) l_law_digits_1 (rngD 0 n) [.im (.int c), .im (.int n), .ow false (.lst []), .im (.int c), .no, .no] = _ := e
  simp [m_law_digits, b_law_digits, b1, b2, e', List.replicate]
end Fx
namespace Fx
open PySem
noncomputable def nm : Nat → Str
  | 0 => Str.ofString "a"
  | 1 => Str.ofString "bb"
  | 2 => Str.ofString "ccc"
  | _ => Str.ofString "dddddddd"
theorem nm_inj {k j : Nat} (hk : k < 4) (hj : j < 4) (h : nm k = nm j) : k = j := by
  have a : k = 0 ∨ k = 1 ∨ k = 2 ∨ k = 3 := by omega
  have b : j = 0 ∨ j = 1 ∨ j = 2 ∨ j = 3 := by omega
  rcases a with rfl | rfl | rfl | rfl <;> rcases b with rfl | rfl | rfl | rfl <;> first | rfl | (exact absurd h (by decide))
noncomputable abbrev Bs := Option Int × Option Int
noncomputable def OkB (b : Bs) : Prop := ∀ l h, b.1 = some l → b.2 = some h → l ≤ h
noncomputable def inRow (k : Nat) (b : Bs) : D := .tup [.str (Str.ofString "in"), .str (nm k), .tup [], .tup [dO b.1, dO b.2]]
noncomputable def rowsOf : Nat → List Bs → List D
  | _, [] => []
  | k, b :: r => inRow k b :: rowsOf (k + 1) r
noncomputable def tRow : D := .tup [.str (Str.ofString "time"), .str (Str.ofString "t"), .tup [.str (Str.ofString "a")], .tup [.int 0, .int 9]]
noncomputable def worksD (bs : List Bs) : D := .lst (rowsOf 0 bs ++ [tRow])
noncomputable def kdsOf : Nat → List (Option Int) → List (Str × D)
  | _, [] => []
  | k, t :: r => (nm k, dO t) :: kdsOf (k + 1) r
theorem rows_len : ∀ (bs : List Bs) (k : Nat), (rowsOf k bs).length = bs.length
  | [], _ => rfl
  | _ :: r, k => by show (rowsOf (k + 1) r).length + 1 = _; rw [rows_len r]; rfl
theorem rows_snoc : ∀ (bs : List Bs) (k : Nat) (b : Bs), rowsOf k (bs ++ [b]) = rowsOf k bs ++ [inRow (k + bs.length) b]
  | [], _, _ => rfl
  | a :: r, k, b => by
    show inRow k a :: rowsOf (k + 1) (r ++ [b]) = inRow k a :: (rowsOf (k + 1) r ++ [inRow (k + (r.length + 1)) b])
    rw [rows_snoc r (k + 1) b, show k + 1 + r.length = k + (r.length + 1) by omega]
theorem rows_get : ∀ (bs : List Bs) (k j : Nat) (b : Bs), bs[j]? = some b → (rowsOf k bs)[j]? = some (inRow (k + j) b)
  | [], _, _, _, h => by cases h
  | a :: r, k, 0, b, h => by cases h; rfl
  | a :: r, k, j + 1, b, h => by
    have := rows_get r (k + 1) j b h
    rw [show k + 1 + j = k + (j + 1) by omega] at this
    exact this
theorem kds_len : ∀ (ms : List (Option Int)) (k : Nat), (kdsOf k ms).length = ms.length
  | [], _ => rfl
  | _ :: r, k => by show (kdsOf (k + 1) r).length + 1 = _; rw [kds_len r]; rfl
theorem kds_get : ∀ (ms : List (Option Int)) (k j : Nat) (t : Option Int), k + ms.length ≤ 4 → ms[j]? = some t → getK (nm (k + j)) (kdsOf k ms) = some (dO t)
  | [], _, _, _, _, h => by cases h
  | a :: r, k, 0, t, _, h => by
    cases h
    show (if nm k = nm k then some (dO a) else _) = _
    rw [if_pos rfl]
  | a :: r, k, j + 1, t, hl, h => by
    have hj : j < r.length := (List.getElem?_eq_some_iff.mp (show r[j]? = some t from h)).1
    rw [List.length_cons] at hl
    show (if nm k = nm (k + (j + 1)) then _ else getK (nm (k + (j + 1))) (kdsOf (k + 1) r)) = _
    rw [if_neg fun e => by have := nm_inj (by omega) (by omega) e; omega]
    have := kds_get r (k + 1) j t (by omega) h
    rw [show k + 1 + j = k + (j + 1) by omega] at this
    exact this
theorem kds_zip : ∀ (ms : List (Option Int)) (k : Nat), ((kdsOf k ms).map (·.1)).zip ((kdsOf k ms).map (·.2)) = kdsOf k ms
  | [], _ => rfl
  | t :: r, k => by show (nm k, dO t) :: _ = _; exact congrArg _ (kds_zip r (k + 1))
theorem kds_flat : ∀ (ms : List (Option Int)) (k : Nat), ((kdsOf k ms).map (·.2)).all flat = true
  | [], _ => rfl
  | t :: r, k => by
    show (flat (dO t) && ((kdsOf (k + 1) r).map (·.2)).all flat) = true
    rw [kds_flat r]
    cases t <;> rfl
theorem kds_same (ms : List (Option Int)) (h : ms.length ≤ 4) : sameD (kdsOf 0 ms) (kdsOf 0 ms) = true := by
  unfold sameD
  rw [Bool.and_eq_true]
  refine ⟨by simp, List.all_eq_true.mpr fun p hp => ?_⟩
  have key : ∀ (ns : List (Option Int)) (k : Nat), p ∈ kdsOf k ns → ∃ (j : Nat) (t : Option Int), ns[j]? = some t ∧ p = (nm (k + j), dO t) := fun ns => by
    induction ns with
    | nil => intro k hp; cases hp
    | cons t r ih =>
      intro k hp
      have hp : p ∈ (nm k, dO t) :: kdsOf (k + 1) r := hp
      rcases List.mem_cons.mp hp with e | hp
      · exact ⟨0, t, rfl, e⟩
      · obtain ⟨j, t', h1, h2⟩ := ih (k + 1) hp
        exact ⟨j + 1, t', h1, by rw [h2, show k + 1 + j = k + (j + 1) by omega]⟩
  obtain ⟨j, t, h1, rfl⟩ := key ms 0 hp
  have g := kds_get ms 0 j t (by omega) h1
  show hitD (dO t) (getK (nm (0 + j)) (kdsOf 0 ms)) = true
  rw [g]
  show eqD (dO t) (dO t) = true
  cases t <;> simp
end Fx
namespace Fx
open PySem
theorem row_go : ∀ (bs : List Bs) (k j : Nat) (b : Bs) (rest : List D) (w : D) (x : Sl), k + bs.length ≤ 4 → bs[j]? = some b → ∃ ρ', fGo (gN 2) l_row_named_1 (rowsOf k bs ++ rest) [.im w, .im (.str (nm (k + j))), x] = some (.rt (inRow (k + j) b) ρ')
  | [], _, _, _, _, _, _, _, h => by cases h
  | a :: r, k, 0, b, rest, w, x, _, h => by
    cases h
    rw [Nat.add_zero]
    refine ⟨[.im w, .im (.str (nm k)), .im (inRow k a)], ?_⟩
    show fGo (gN 2) l_row_named_1 (inRow k a :: (rowsOf (k + 1) r ++ rest)) _ = _
    rw [fGo_c, show gN 2 (inRow k a) [.im w, .im (.str (nm k)), x] = some [.im w, .im (.str (nm k)), .im (inRow k a)] from rfl, fGa_s]
    have ix : dIx2 (inRow k a) (.int 1) = some (.str (nm k)) := rfl
    simp [l_row_named_1, ix]
  | a :: r, k, j + 1, b, rest, w, x, hl, h => by
    have hj : j < r.length := (List.getElem?_eq_some_iff.mp (show r[j]? = some b from h)).1
    rw [List.length_cons] at hl
    obtain ⟨ρ', e⟩ := row_go r (k + 1) j b rest w (.im (inRow k a)) (by omega) h
    rw [show k + 1 + j = k + (j + 1) by omega] at e
    refine ⟨ρ', ?_⟩
    show fGo (gN 2) l_row_named_1 (inRow k a :: (rowsOf (k + 1) r ++ rest)) _ = _
    rw [fGo_c, show gN 2 (inRow k a) [.im w, .im (.str (nm (k + (j + 1)))), x] = some [.im w, .im (.str (nm (k + (j + 1)))), .im (inRow k a)] from rfl, fGa_s]
    have ix : dIx2 (inRow k a) (.int 1) = some (.str (nm k)) := rfl
    have ne : ¬ nm k = nm (k + (j + 1)) := fun z => by have := nm_inj (by omega) (by omega) z; omega
    have st : l_row_named_1 [.im w, .im (.str (nm (k + (j + 1)))), .im (inRow k a)] = some (.nx [.im w, .im (.str (nm (k + (j + 1)))), .im (inRow k a)]) := by simp [l_row_named_1, ix, ne]
    rw [st, fGb_n]
    exact e
theorem row_eq {bs : List Bs} {j : Nat} {b : Bs} (hl : bs.length ≤ 4) (h : bs[j]? = some b) : m_row_named [worksD bs, .str (nm j)] = some (inRow j b) := by
  obtain ⟨ρ', e⟩ := row_go bs 0 j b [tRow] (worksD bs) .no (by omega) h
  rw [Nat.zero_add] at e
  have e' : fGo (gN 2) l_row_named_1 (rowsOf 0 bs ++ [tRow]) [.im (.lst (rowsOf 0 bs ++ [tRow])), .im (.str (nm j)), .no] = some (.rt (inRow j b) ρ') := e
  unfold worksD
  simp [m_row_named, b_row_named, e', List.replicate]
theorem kds_snoc : ∀ (ms : List (Option Int)) (k : Nat) (t : Option Int), kdsOf k (ms ++ [t]) = kdsOf k ms ++ [(nm (k + ms.length), dO t)]
  | [], _, _ => rfl
  | a :: r, k, t => by
    show (nm k, dO a) :: kdsOf (k + 1) (r ++ [t]) = (nm k, dO a) :: (kdsOf (k + 1) r ++ [(nm (k + (r.length + 1)), dO t)])
    rw [kds_snoc r (k + 1) t, show k + 1 + r.length = k + (r.length + 1) by omega]
theorem kds_fresh : ∀ (ms : List (Option Int)) (k j : Nat), k + ms.length ≤ j → j < 4 → getK (nm j) (kdsOf k ms) = none
  | [], _, _, _, _ => rfl
  | a :: r, k, j, h, h4 => by
    rw [List.length_cons] at h
    show (if nm k = nm j then _ else getK (nm j) (kdsOf (k + 1) r)) = none
    rw [if_neg fun z => by have := nm_inj (by omega) h4 z; omega, kds_fresh r (k + 1) j (by omega) h4]
theorem kds_add (ms : List (Option Int)) (t : Option Int) (h : ms.length < 4) : putD (nm ms.length) (dO t) (kdsOf 0 ms) = kdsOf 0 (ms ++ [t]) := by
  unfold putD
  rw [kds_fresh ms 0 ms.length (by omega) h, if_neg (by simp), kds_snoc, Nat.zero_add]
end Fx
namespace Fx
open PySem
noncomputable def Within (b : Bs) (v : Int) : Prop := (∀ l, b.1 = some l → l ≤ v) ∧ ∀ h, b.2 = some h → v ≤ h
noncomputable def dctOf (ms : List (Option Int)) : D := .dct ((kdsOf 0 ms).map (·.1)) ((kdsOf 0 ms).map (·.2))
theorem dct_get {ms : List (Option Int)} {j : Nat} {t : Option Int} (hl : ms.length ≤ 4) (h : ms[j]? = some t) : dDx (dctOf ms) (.str (nm j)) = some (dO t) := by
  unfold dctOf
  rw [dDx_s, kds_zip]
  have := kds_get ms 0 j t (by omega) h
  rwa [Nat.zero_add] at this
theorem between_eq {b : Bs} {v : Int} (w : Within b v) : m_is_between [.int v, dO b.1, dO b.2] = some (.bl true) := by
  obtain ⟨lo, hi⟩ := b
  obtain ⟨h1, h2⟩ := w
  cases lo with
  | none =>
    cases hi with
    | none => simp [m_is_between, b_is_between]
    | some h => simp [m_is_between, b_is_between, h2 h rfl]
  | some l =>
    cases hi with
    | none => simp [m_is_between, b_is_between, h1 l rfl]
    | some h => simp [m_is_between, b_is_between, h1 l rfl, h2 h rfl]
theorem whole_eq (i : Int) : m_is_whole [.int i] = some (.bl true) := by simp [m_is_whole, b_is_whole, isTy]
theorem time_eq {i : Int} (h : 0 ≤ i) : m_is_time [.int i] = some (.bl true) := by simp [m_is_time, b_is_time, whole_eq, h]
theorem thing_eq {j : Nat} {b : Bs} {u v : Int} {key : Str} (hu : 0 ≤ u) (hk : m_is_key [.str key] = some (.bl true)) (w : Within b v) : m_is_thing_of [inRow j b, .tup [.int u, .str key, .int v]] = some (.bl true) := by
  have i3 : dIx2 (inRow j b) (.int 3) = some (.tup [dO b.1, dO b.2]) := rfl
  have a0 : atD [D.int u, .str key, .int v] 0 = some (.int u) := rfl
  have a1 : atD [D.int u, .str key, .int v] 1 = some (.str key) := rfl
  have a2 : atD [D.int u, .str key, .int v] 2 = some (.int v) := rfl
  have b0 : atD [dO b.1, dO b.2] 0 = some (dO b.1) := rfl
  have b1 : atD [dO b.1, dO b.2] 1 = some (dO b.2) := rfl
  simp [m_is_thing_of, b_is_thing_of, i3, a0, a1, a2, b0, b1, time_eq hu, hk, whole_eq, between_eq w]
theorem nth0 (x : D) (r : List D) : atD (x :: r) 0 = some x := by
  unfold atD dPl
  rw [if_pos (by omega), if_pos (by rw [List.length_cons]; omega)]
  rfl
end Fx
namespace Fx
open PySem
theorem names_ix {k : Nat} (h : k < 4) : atD [.str (Str.ofString "a"), .str (Str.ofString "bb"), .str (Str.ofString "ccc"), .str (Str.ofString "dddddddd")] (k : Int) = some (.str (nm k)) := by
  have a : k = 0 ∨ k = 1 ∨ k = 2 ∨ k = 3 := by omega
  rcases a with rfl | rfl | rfl | rfl <;> rfl
noncomputable def bnds (l h i : Int) : Bs := if i = 0 then (some l, some h) else if i = 1 then (none, some h) else if i = 2 then (some l, none) else (none, none)
theorem bnds_ix (l h : Int) {i : Int} (h0 : 0 ≤ i) (h1 : i < 4) : atD [.tup [.int l, .int h], .tup [.non, .int h], .tup [.int l, .non], .tup [.non, .non]] i = some (.tup [dO (bnds l h i).1, dO (bnds l h i).2]) := by
  have a : i = 0 ∨ i = 1 ∨ i = 2 ∨ i = 3 := by omega
  rcases a with rfl | rfl | rfl | rfl <;> rfl
theorem bnds_ok {l h : Int} (hle : l ≤ h) (i : Int) : OkB (bnds l h i) := by
  intro a b e1 e2
  unfold bnds at e1 e2
  split at e1
  · rename_i z
    rw [if_pos z] at e2
    cases e1; cases e2
    exact hle
  · rename_i z
    rw [if_neg z] at e2
    split at e1
    · cases e1
    · rename_i z2
      rw [if_neg z2] at e2
      split at e1
      · rename_i z3
        rw [if_pos z3] at e2
        cases e2
      · cases e1
noncomputable def PI (ds : List Int) (k : Nat) (ρ : En) : Prop := ∃ (bs : List Bs) (x2 x3 x4 x5 : Sl), ρ = [.im (.lst (ds.map .int)), .ow false (.lst (rowsOf 0 bs)), x2, x3, x4, x5] ∧ bs.length = k ∧ ∀ b ∈ bs, OkB b
theorem ins_turn {ds : List Int} (hl : ds.length = 14) (hd : Dig ds) (k : Nat) (hk : k < 4) (ρ : En) (p : PI ds k ρ) : ∃ ρ1 ρ2, gN 2 (.int k) ρ = some ρ1 ∧ l_law_ins_1 ρ1 = some (.nx ρ2) ∧ PI ds (k + 1) ρ2 := by
  obtain ⟨bs, x2, x3, x4, x5, rfl, hb, ok⟩ := p
  have a1 := at_ints ds (i := 1 + 2 * k) (by omega)
  have a2 := at_ints ds (i := 2 + 2 * k) (by omega)
  have a3 := at_ints ds (i := 9 + k) (by omega)
  have c1 : ((1 + 2 * k : Nat) : Int) = 1 + 2 * (k : Int) := by omega
  have c2 : ((2 + 2 * k : Nat) : Int) = 2 + 2 * (k : Int) := by omega
  have c3 : ((9 + k : Nat) : Int) = 9 + (k : Int) := by omega
  rw [c1] at a1; rw [c2] at a2; rw [c3] at a3
  generalize ds[1 + 2 * k]'(by omega) = d1 at a1
  generalize ds[2 + 2 * k]'(by omega) = d2 at a2
  generalize ds[9 + k]'(by omega) = d3 at a3
  have m : okMul 2 (k : Int) = true := okMul_l (by decide)
  have f9 : d2.fmod 9 = d2 % 9 := fmod_pos (by decide)
  have f4 : d3.fmod 4 = d3 % 4 := fmod_pos (by decide)
  have q1 : 0 ≤ d2 % 9 := Int.emod_nonneg _ (by decide)
  have q2 : 0 ≤ d3 % 4 := Int.emod_nonneg _ (by decide)
  have q3 : d3 % 4 < 4 := Int.emod_lt_of_pos _ (by decide)
  have bx := bnds_ix (d1 - 40) (d1 - 40 + d2 % 9) q2 q3
  have nx := names_ix hk
  have l6 : (rowsOf 0 bs).length < 1000000 := by rw [rows_len]; omega
  refine ⟨_, [.im (.lst (ds.map .int)), .ow false (.lst (rowsOf 0 (bs ++ [bnds (d1 - 40) (d1 - 40 + d2 % 9) (d3 % 4)]))), .im (.int k), .im (.int (d1 - 40)), .im (.int (d1 - 40 + d2 % 9)), .im (.tup [dO (bnds (d1 - 40) (d1 - 40 + d2 % 9) (d3 % 4)).1, dO (bnds (d1 - 40) (d1 - 40 + d2 % 9) (d3 % 4)).2])], rfl, ?_, _, _, _, _, _, rfl, by rw [List.length_append, hb]; rfl, fun b hb2 => ?_⟩
  · rw [rows_snoc, Nat.zero_add, hb]
    unfold inRow
    simp [l_law_ins_1, a1, a2, a3, m, f9, f4, bx, nx, l6]
  · rcases List.mem_append.mp hb2 with h | h
    · exact ok b h
    · rw [List.mem_singleton.mp h]
      exact bnds_ok (by omega) _
theorem ins_eq {ds : List Int} (hl : ds.length = 14) (hd : Dig ds) : ∃ bs : List Bs, m_law_ins [.lst (ds.map .int)] = some (worksD bs) ∧ 1 ≤ bs.length ∧ bs.length ≤ 4 ∧ ∀ b ∈ bs, OkB b := by
  have a0 := at_ints ds (i := 0) (by omega)
  have h0 := hd ds[0] (List.getElem_mem _)
  generalize ds[0] = d0 at a0 h0
  have f4 : d0.fmod 4 = d0 % 4 := fmod_pos (by decide)
  have q2 : 0 ≤ d0 % 4 := Int.emod_nonneg _ (by decide)
  have q3 : d0 % 4 < 4 := Int.emod_lt_of_pos _ (by decide)
  obtain ⟨n, hn⟩ : ∃ n : Nat, 1 + d0 % 4 = (n : Int) := ⟨(1 + d0 % 4).toNat, by omega⟩
  obtain ⟨ρ', e, bs, x2, x3, x4, x5, rfl, hb, ok⟩ := fGo_rngI (g := gN 2) (B := l_law_ins_1) (PI ds) n 0 [.im (.lst (ds.map .int)), .ow false (.lst []), .no, .no, .no, .no] (fun i ρ _ h p => ins_turn hl hd i (by omega) ρ p) ⟨[], _, _, _, _, rfl, rfl, fun b h => by cases h⟩
  have e' : fGo (gN 2) l_law_ins_1 (rngD 0 n) [.im (.lst (ds.map .int)), .ow false (.lst []), .no, .no, .no, .no] = _ := e
  have l6 : (rowsOf 0 bs).length < 1000000 := by rw [rows_len]; omega
  have b1 : -4611686018427387904 ≤ (n : Int) := by omega
  have b2 : (n : Int) < 4611686018427387904 := by omega
  have a0' : atD (ds.map D.int) 0 = some (.int d0) := a0
  refine ⟨bs, ?_, by omega, by omega, ok⟩
  unfold worksD tRow
  simp [m_law_ins, b_law_ins, a0', f4, hn, b1, b2, e', l6, List.replicate]
end Fx
set_option maxRecDepth 100000
namespace Fx
open PySem
theorem key_all {i n : Nat} (hi : i < 6) (hn : n < 8) : ∃ s : Str, atS (Str.ofString "abcxyz") (i : Int) = some (.str s) ∧ s.length ≤ 1000 ∧ m_is_key [.str (Txt.mul s (1 + (n : Int)))] = some (.bl true) := by
  have a : i = 0 ∨ i = 1 ∨ i = 2 ∨ i = 3 ∨ i = 4 ∨ i = 5 := by omega
  have b : n = 0 ∨ n = 1 ∨ n = 2 ∨ n = 3 ∨ n = 4 ∨ n = 5 ∨ n = 6 ∨ n = 7 := by omega
  rcases a with rfl | rfl | rfl | rfl | rfl | rfl
  · exact ⟨Str.ofString "a", by kernel_rfl, by decide, by rcases b with rfl | rfl | rfl | rfl | rfl | rfl | rfl | rfl <;> kernel_rfl⟩
  · exact ⟨Str.ofString "b", by kernel_rfl, by decide, by rcases b with rfl | rfl | rfl | rfl | rfl | rfl | rfl | rfl <;> kernel_rfl⟩
  · exact ⟨Str.ofString "c", by kernel_rfl, by decide, by rcases b with rfl | rfl | rfl | rfl | rfl | rfl | rfl | rfl <;> kernel_rfl⟩
  · exact ⟨Str.ofString "x", by kernel_rfl, by decide, by rcases b with rfl | rfl | rfl | rfl | rfl | rfl | rfl | rfl <;> kernel_rfl⟩
  · exact ⟨Str.ofString "y", by kernel_rfl, by decide, by rcases b with rfl | rfl | rfl | rfl | rfl | rfl | rfl | rfl <;> kernel_rfl⟩
  · exact ⟨Str.ofString "z", by kernel_rfl, by decide, by rcases b with rfl | rfl | rfl | rfl | rfl | rfl | rfl | rfl <;> kernel_rfl⟩
theorem value_eq {b : Bs} (ok : OkB b) {d : Int} (h0 : 0 ≤ d) (h1 : d < 64) : ∃ v, m_law_value [.tup [dO b.1, dO b.2], .int d] = some (.int v) ∧ Within b v := by
  obtain ⟨lo, hi⟩ := b
  have k1 : okMul d 1000000000000000000000000000000 = true := okMul_l (by omega)
  have k2 : okMul 31 1000000000000000000000000000000 = true := okMul_l (by decide)
  cases lo with
  | none =>
    cases hi with
    | none => exact ⟨d * 1000000000000000000000000000000 - 31 * 1000000000000000000000000000000, by simp [m_law_value, b_law_value, k1, k2, List.replicate], fun l e => (by cases e), fun l e => (by cases e)⟩
    | some h => exact ⟨h - d, by simp [m_law_value, b_law_value, List.replicate], fun l e => (by cases e), fun l e => (by cases e; omega)⟩
  | some l =>
    cases hi with
    | none => exact ⟨l + d, by simp [m_law_value, b_law_value, List.replicate], fun l e => (by cases e; omega), fun l e => (by cases e)⟩
    | some h =>
      have hle : l ≤ h := ok l h rfl rfl
      have hp : 0 < h - l + 1 := by omega
      have hn : ¬ h - l + 1 = 0 := by omega
      have q1 := Int.emod_nonneg d hn
      have q2 := Int.emod_lt_of_pos d hp
      exact ⟨l + d % (h - l + 1), by simp [m_law_value, b_law_value, hn, fmod_pos hp, List.replicate], fun l e => (by cases e; omega), fun l e => (by cases e; omega)⟩
noncomputable def Pos0 (ms : List (Option Int)) : Prop := ∀ (j : Nat) (t : Int), ms[j]? = some (some t) → 0 ≤ t
end Fx
set_option maxRecDepth 100000
namespace Fx
open PySem
theorem nth1 (x y : D) (r : List D) : atD (x :: y :: r) 1 = some y := by
  unfold atD dPl
  rw [if_pos (by omega), if_pos (by rw [List.length_cons, List.length_cons]; omega)]
  rfl
theorem cut2 (x y : D) (r : List D) : dCut (x :: y :: r) (some 2) none = r := by
  unfold dCut
  show ((x :: y :: r).drop ((if (2 : Int) < 0 then max (2 + ((x :: y :: r).length : Int)) 0 else min 2 ((x :: y :: r).length : Int)).toNat)).take ((x :: y :: r).length - (if (2 : Int) < 0 then max (2 + ((x :: y :: r).length : Int)) 0 else min 2 ((x :: y :: r).length : Int)).toNat) = r
  rw [if_neg (by decide), show (x :: y :: r).length = r.length + 2 from rfl, show (min 2 ((r.length + 2 : Nat) : Int)).toNat = 2 by omega]
  show r.take (r.length + 2 - 2) = r
  exact List.take_length
theorem sl2 (x y : D) (r : List D) : dSl2 (.tup (x :: y :: r)) (some 2) none = some (.tup r) := by
  rw [dSl2_t, cut2, if_neg]
  rintro ⟨h, _⟩
  have : (if (2 : Int) < 0 then max (2 + ((x :: y :: r).length : Int)) 0 else min 2 ((x :: y :: r).length : Int)).toNat = 0 := h
  rw [if_neg (by decide), show (x :: y :: r).length = r.length + 2 from rfl] at this
  omega
section
variable {bs : List Bs} {j : Nat} {b : Bs}
theorem row_non : ∀ (bs : List Bs) (k : Nat) (y : Str) (w : D) (x : Sl), k + bs.length ≤ 4 → (∀ i, nm i ≠ y) → ∃ x', fGo (gN 2) l_row_named_1 (rowsOf k bs ++ [tRow]) [.im w, .im (.str y), x] = fGo (gN 2) l_row_named_1 [tRow] [.im w, .im (.str y), x']
  | [], _, y, w, x, _, _ => ⟨x, rfl⟩
  | a :: r, k, y, w, x, h, hy => by
    rw [List.length_cons] at h
    obtain ⟨x', e⟩ := row_non r (k + 1) y w (.im (inRow k a)) (by omega) hy
    refine ⟨x', ?_⟩
    show fGo (gN 2) l_row_named_1 (inRow k a :: (rowsOf (k + 1) r ++ [tRow])) _ = _
    rw [fGo_c, show gN 2 (inRow k a) [.im w, .im (.str y), x] = some [.im w, .im (.str y), .im (inRow k a)] from rfl, fGa_s]
    have ix : dIx2 (inRow k a) (.int 1) = some (.str (nm k)) := rfl
    have st : l_row_named_1 [.im w, .im (.str y), .im (inRow k a)] = some (.nx [.im w, .im (.str y), .im (inRow k a)]) := by simp [l_row_named_1, ix, hy k]
    rw [st, fGb_n]
    exact e
theorem nm_ne {y : Str} (h0 : Str.ofString "a" ≠ y) (h1 : Str.ofString "bb" ≠ y) (h2 : Str.ofString "ccc" ≠ y) (h3 : Str.ofString "dddddddd" ≠ y) (i : Nat) : nm i ≠ y := by
  match i with
  | 0 => exact h0
  | 1 => exact h1
  | 2 => exact h2
  | _ + 3 => exact h3
theorem row_nobody (hl : bs.length ≤ 4) : m_row_named [worksD bs, .str (Str.ofString "nobody")] = some .non := by
  obtain ⟨x', e⟩ := row_non bs 0 (Str.ofString "nobody") (worksD bs) .no (by omega) (nm_ne (by decide) (by decide) (by decide) (by decide))
  have ix : dIx2 tRow (.int 1) = some (.str (Str.ofString "t")) := rfl
  have ne : ¬ Str.ofString "t" = Str.ofString "nobody" := by decide
  have st : l_row_named_1 [.im (worksD bs), .im (.str (Str.ofString "nobody")), .im tRow] = some (.nx [.im (worksD bs), .im (.str (Str.ofString "nobody")), .im tRow]) := by simp [l_row_named_1, ix, ne]
  rw [fGo_c, show gN 2 tRow [.im (worksD bs), .im (.str (Str.ofString "nobody")), x'] = some [.im (worksD bs), .im (.str (Str.ofString "nobody")), .im tRow] from rfl, fGa_s, st, fGb_n] at e
  have e' : fGo (gN 2) l_row_named_1 (rowsOf 0 bs ++ [tRow]) [.im (.lst (rowsOf 0 bs ++ [tRow])), .im (.str (Str.ofString "nobody")), .no] = some (.nx [.im (worksD bs), .im (.str (Str.ofString "nobody")), .im tRow]) := e
  unfold worksD at e' ⊢
  simp [m_row_named, b_row_named, e', List.replicate]
theorem row_t (hl : bs.length ≤ 4) : m_row_named [worksD bs, .str (Str.ofString "t")] = some tRow := by
  obtain ⟨x', e⟩ := row_non bs 0 (Str.ofString "t") (worksD bs) .no (by omega) (nm_ne (by decide) (by decide) (by decide) (by decide))
  have ix : dIx2 tRow (.int 1) = some (.str (Str.ofString "t")) := rfl
  have st : l_row_named_1 [.im (worksD bs), .im (.str (Str.ofString "t")), .im tRow] = some (.rt tRow [.im (worksD bs), .im (.str (Str.ofString "t")), .im tRow]) := by simp [l_row_named_1, ix]
  rw [fGo_c, show gN 2 tRow [.im (worksD bs), .im (.str (Str.ofString "t")), x'] = some [.im (worksD bs), .im (.str (Str.ofString "t")), .im tRow] from rfl, fGa_s, st] at e
  have e' : fGo (gN 2) l_row_named_1 (rowsOf 0 bs ++ [tRow]) [.im (.lst (rowsOf 0 bs ++ [tRow])), .im (.str (Str.ofString "t")), .no] = some (.rt tRow [.im (worksD bs), .im (.str (Str.ofString "t")), .im tRow]) := e
  unfold worksD at e' ⊢
  simp [m_row_named, b_row_named, e', List.replicate]
theorem len2 (r : List D) : ¬ ((r.length : Int) + 1 + 1 < 2) := by omega
theorem com_nobody {h : D} {r : List D} (hl : bs.length ≤ 4) : m_is_coming [worksD bs, .tup (h :: .str (Str.ofString "nobody") :: r)] = some (.bl false) := by
  simp [m_is_coming, b_is_coming, isTy, nth1, len2, row_nobody hl, List.replicate]
theorem com_t {h : D} {r : List D} (hl : bs.length ≤ 4) : m_is_coming [worksD bs, .tup (h :: .str (Str.ofString "t") :: r)] = some (.bl false) := by
  have i0 : dIx2 tRow (.int 0) = some (.str (Str.ofString "time")) := rfl
  have nn : isN tRow = false := rfl
  have ne : ¬ Str.ofString "time" = Str.ofString "in" := by decide
  simp [m_is_coming, b_is_coming, isTy, nth1, len2, row_t hl, i0, nn, ne, List.replicate]
theorem com_other {h : Str} {r : List D} (hl : bs.length ≤ 4) (hb : bs[j]? = some b) (n1 : ¬ h = Str.ofString "thing") (n2 : ¬ h = Str.ofString "mark") : m_is_coming [worksD bs, .tup (.str h :: .str (nm j) :: r)] = some (.bl (decide (h = Str.ofString "close" ∧ r = []))) := by
  have i0 : dIx2 (inRow j b) (.int 0) = some (.str (Str.ofString "in")) := rfl
  have nn : isN (inRow j b) = false := rfl
  by_cases hc : h = Str.ofString "close"
  · subst hc
    cases r with
    | nil => simp [m_is_coming, b_is_coming, isTy, nth0, nth1, row_eq hl hb, i0, nn, n1, n2, List.replicate]
    | cons x r =>
      have ne : ¬ ((r.length : Int) + 1 + 1 + 1 = 2) := by omega
      have n2' : ¬ ((r.length : Int) + 1 + 1 + 1 < 2) := by omega
      simp [m_is_coming, b_is_coming, isTy, nth0, nth1, row_eq hl hb, i0, nn, n1, n2, ne, n2', List.replicate]
  · simp [m_is_coming, b_is_coming, isTy, nth0, nth1, len2, row_eq hl hb, i0, nn, n1, n2, hc, List.replicate]
theorem com_mark {x d : D} (hl : bs.length ≤ 4) (hb : bs[j]? = some b) (e : m_is_time [x] = some d) : m_is_coming [worksD bs, .tup [.str (Str.ofString "mark"), .str (nm j), x]] = some d := by
  have i0 : dIx2 (inRow j b) (.int 0) = some (.str (Str.ofString "in")) := rfl
  have nn : isN (inRow j b) = false := rfl
  have n1 : ¬ Str.ofString "mark" = Str.ofString "thing" := by decide
  have a2 : atD [D.str (Str.ofString "mark"), .str (nm j), x] 2 = some x := rfl
  simp [m_is_coming, b_is_coming, isTy, nth0, nth1, a2, row_eq hl hb, i0, nn, n1, e, List.replicate]
theorem com_markL {r : List D} (hl : bs.length ≤ 4) (hb : bs[j]? = some b) (hr : r.length ≠ 1) : m_is_coming [worksD bs, .tup (.str (Str.ofString "mark") :: .str (nm j) :: r)] = some (.bl false) := by
  have i0 : dIx2 (inRow j b) (.int 0) = some (.str (Str.ofString "in")) := rfl
  have nn : isN (inRow j b) = false := rfl
  have n1 : ¬ Str.ofString "mark" = Str.ofString "thing" := by decide
  have ne : ¬ ((r.length : Int) + 1 + 1 = 3) := by omega
  simp [m_is_coming, b_is_coming, isTy, nth0, nth1, len2, row_eq hl hb, i0, nn, n1, ne, List.replicate]
theorem com_thingL {r : List D} (hl : bs.length ≤ 4) (hb : bs[j]? = some b) (hr : r.length ≠ 3) : m_is_coming [worksD bs, .tup (.str (Str.ofString "thing") :: .str (nm j) :: r)] = some (.bl false) := by
  have i0 : dIx2 (inRow j b) (.int 0) = some (.str (Str.ofString "in")) := rfl
  have nn : isN (inRow j b) = false := rfl
  have ne : ¬ ((r.length : Int) + 1 + 1 = 5) := by omega
  simp [m_is_coming, b_is_coming, isTy, nth0, nth1, len2, row_eq hl hb, i0, nn, ne, List.replicate]
theorem com_thing {x y z d : D} (hl : bs.length ≤ 4) (hb : bs[j]? = some b) (e : m_is_thing_of [inRow j b, .tup [x, y, z]] = some d) : m_is_coming [worksD bs, .tup [.str (Str.ofString "thing"), .str (nm j), x, y, z]] = some d := by
  have i0 : dIx2 (inRow j b) (.int 0) = some (.str (Str.ofString "in")) := rfl
  have nn : isN (inRow j b) = false := rfl
  simp [-dSl2_t, m_is_coming, b_is_coming, isTy, nth0, nth1, sl2, row_eq hl hb, i0, nn, e, List.replicate]
end
end Fx
set_option maxRecDepth 100000
namespace Fx
open PySem
noncomputable abbrev Bad (bs : List Bs) (c : D) : Prop := m_is_coming [worksD bs, c] = some (.bl false)
theorem time_low {i : Int} (h : ¬ 0 ≤ i) : m_is_time [.int i] = some (.bl false) := by simp [m_is_time, b_is_time, whole_eq, h]
theorem whole_non : m_is_whole [.non] = some (.bl false) := by kernel_rfl
theorem whole_bl : m_is_whole [.bl true] = some (.bl false) := by kernel_rfl
theorem time_non : m_is_time [.non] = some (.bl false) := by kernel_rfl
theorem time_bl : m_is_time [.bl true] = some (.bl false) := by kernel_rfl
theorem key_k : m_is_key [.str (Str.ofString "k")] = some (.bl true) := by kernel_rfl
theorem key_K : m_is_key [.str (Str.ofString "K")] = some (.bl false) := by kernel_rfl
theorem key_0 : m_is_key [.str (Str.ofString "")] = some (.bl false) := by kernel_rfl
theorem key_9 : m_is_key [.str (Str.ofString "abcdefghi")] = some (.bl false) := by kernel_rfl
theorem key_ab : m_is_key [.str (Str.ofString "a b")] = some (.bl false) := by kernel_rfl
theorem key_7 : m_is_key [.int 7] = some (.bl false) := by kernel_rfl
section
variable {bs : List Bs} {j : Nat} {b : Bs}
theorem thing_t {x y z : D} (h : m_is_time [x] = some (.bl false)) : m_is_thing_of [inRow j b, .tup [x, y, z]] = some (.bl false) := by
  simp [m_is_thing_of, b_is_thing_of, nth0, h]
theorem thing_k {x y z : D} (h : m_is_time [x] = some (.bl true)) (hk : m_is_key [y] = some (.bl false)) : m_is_thing_of [inRow j b, .tup [x, y, z]] = some (.bl false) := by
  simp [m_is_thing_of, b_is_thing_of, nth0, nth1, h, hk]
theorem thing_w {x y z : D} (h : m_is_time [x] = some (.bl true)) (hk : m_is_key [y] = some (.bl true)) (hw : m_is_whole [z] = some (.bl false)) : m_is_thing_of [inRow j b, .tup [x, y, z]] = some (.bl false) := by
  have a2 : atD [x, y, z] 2 = some z := rfl
  simp [m_is_thing_of, b_is_thing_of, nth0, nth1, a2, h, hk, hw]
theorem thing_b {x y : D} {v : Int} (h : m_is_time [x] = some (.bl true)) (hk : m_is_key [y] = some (.bl true)) (hw : m_is_between [.int v, dO b.1, dO b.2] = some (.bl false)) : m_is_thing_of [inRow j b, .tup [x, y, .int v]] = some (.bl false) := by
  have a2 : atD [x, y, .int v] 2 = some (.int v) := rfl
  have i3 : dIx2 (inRow j b) (.int 3) = some (.tup [dO b.1, dO b.2]) := rfl
  simp [m_is_thing_of, b_is_thing_of, nth0, nth1, a2, h, hk, whole_eq, i3, hw]
theorem btw_low {l v : Int} (h : v < l) (x : Option Int) : m_is_between [.int v, dO (some l), dO x] = some (.bl false) := by
  have n : ¬ l ≤ v := by omega
  simp [m_is_between, b_is_between, n]
theorem btw_high {g v : Int} (h : g < v) (x : Option Int) : m_is_between [.int v, dO x, dO (some g)] = some (.bl false) := by
  have n : ¬ v ≤ g := by omega
  cases x with
  | none => simp [m_is_between, b_is_between, n]
  | some l =>
    by_cases q : l ≤ v
    · simp [m_is_between, b_is_between, n, q]
    · simp [m_is_between, b_is_between, n, q]
theorem bad_nt {c : D} (h : isTy .tuple c = false) : Bad bs c := by
  unfold Bad
  simp [m_is_coming, b_is_coming, h, List.replicate]
theorem bad_short {r : List D} (h : r.length < 2) : Bad bs (.tup r) := by
  have n : (r.length : Int) < 2 := by omega
  unfold Bad
  simp [m_is_coming, b_is_coming, isTy, n, List.replicate]
noncomputable def bad0 (y : Str) (t v i : Int) : List D := [
  .tup [.str (Str.ofString "things"), .str y, .int t, .str (Str.ofString "k"), .int v],
  .tup [.str (Str.ofString "thing"), .str (Str.ofString "nobody"), .int t, .str (Str.ofString "k"), .int v],
  .tup [.str (Str.ofString "thing"), .str (Str.ofString "t"), .int t, .str (Str.ofString "k"), .int v],
  .tup [.str (Str.ofString "thing"), .str y, .int i, .str (Str.ofString "k"), .int v],
  .tup [.str (Str.ofString "thing"), .str y, .int t, .str (Str.ofString "K"), .int v],
  .tup [.str (Str.ofString "thing"), .str y, .int t, .str (Str.ofString ""), .int v],
  .tup [.str (Str.ofString "thing"), .str y, .int t, .str (Str.ofString "abcdefghi"), .int v],
  .tup [.str (Str.ofString "thing"), .str y, .int t, .str (Str.ofString "a b"), .int v],
  .tup [.str (Str.ofString "thing"), .str y, .int t, .int 7, .int v],
  .tup [.str (Str.ofString "thing"), .str y, .int t, .str (Str.ofString "k")],
  .tup [.str (Str.ofString "thing"), .str y, .int t, .str (Str.ofString "k"), .int v, .int 0],
  .tup [.str (Str.ofString "thing"), .str y, .non, .str (Str.ofString "k"), .int v],
  .tup [.str (Str.ofString "thing"), .str y, .bl true, .str (Str.ofString "k"), .int v],
  .tup [.str (Str.ofString "thing"), .str y, .int t, .str (Str.ofString "k"), .bl true],
  .tup [.str (Str.ofString "thing"), .str y, .int t, .str (Str.ofString "k"), .non],
  .tup [.str (Str.ofString "mark"), .str (Str.ofString "nobody"), .int t],
  .tup [.str (Str.ofString "mark"), .str y, .int i],
  .tup [.str (Str.ofString "mark"), .str y, .non],
  .tup [.str (Str.ofString "mark"), .str y],
  .tup [.str (Str.ofString "mark"), .str y, .int t, .int 0],
  .tup [.str (Str.ofString "mark"), .str y, .bl true],
  .tup [.str (Str.ofString "close"), .str (Str.ofString "nobody")],
  .tup [.str (Str.ofString "close"), .str y, .int t],
  .tup [.str (Str.ofString "close")],
  .tup [.str (Str.ofString "open"), .str y],
  .tup [],
  .non,
  .lst [.tup [.str (Str.ofString "mark"), .str y, .int t]],
  .lst [.str (Str.ofString "mark"), .str y, .int t],
  .str (Str.ofString "close " ++ y),
  .int 7]
theorem bad0_all (hl : bs.length ≤ 4) (hb : bs[j]? = some b) {t v i : Int} (ht : 0 ≤ t) (hi : ¬ 0 ≤ i) : ∀ c ∈ bad0 (nm j) t v i, Bad bs c := by
  have tt := time_eq ht
  have n1 : ¬ Str.ofString "things" = Str.ofString "thing" := by decide
  have n2 : ¬ Str.ofString "things" = Str.ofString "mark" := by decide
  have n3 : ¬ Str.ofString "things" = Str.ofString "close" := by decide
  have n4 : ¬ Str.ofString "open" = Str.ofString "thing" := by decide
  have n5 : ¬ Str.ofString "open" = Str.ofString "mark" := by decide
  have n6 : ¬ Str.ofString "open" = Str.ofString "close" := by decide
  have n7 : ¬ Str.ofString "close" = Str.ofString "thing" := by decide
  have n8 : ¬ Str.ofString "close" = Str.ofString "mark" := by decide
  have f1 : decide (Str.ofString "things" = Str.ofString "close" ∧ ([.int t, .str (Str.ofString "k"), .int v] : List D) = []) = false := decide_eq_false fun z => n3 z.1
  have f2 : decide (Str.ofString "open" = Str.ofString "close" ∧ ([] : List D) = []) = false := decide_eq_false fun z => n6 z.1
  have f3 : decide (Str.ofString "close" = Str.ofString "close" ∧ ([.int t] : List D) = []) = false := decide_eq_false fun z => nomatch z.2
  unfold bad0
  intro c hc
  simp only [List.mem_cons, List.not_mem_nil, or_false] at hc
  rcases hc with rfl | rfl | rfl | rfl | rfl | rfl | rfl | rfl | rfl | rfl | rfl | rfl | rfl | rfl | rfl | rfl | rfl | rfl | rfl | rfl | rfl | rfl | rfl | rfl | rfl | rfl | rfl | rfl | rfl | rfl | rfl
  · exact (com_other hl hb n1 n2).trans (by rw [f1])
  · exact com_nobody hl
  · exact com_t hl
  · exact com_thing hl hb (thing_t (time_low hi))
  · exact com_thing hl hb (thing_k tt key_K)
  · exact com_thing hl hb (thing_k tt key_0)
  · exact com_thing hl hb (thing_k tt key_9)
  · exact com_thing hl hb (thing_k tt key_ab)
  · exact com_thing hl hb (thing_k tt key_7)
  · exact com_thingL hl hb (by simp)
  · exact com_thingL hl hb (by simp)
  · exact com_thing hl hb (thing_t time_non)
  · exact com_thing hl hb (thing_t time_bl)
  · exact com_thing hl hb (thing_w tt key_k whole_bl)
  · exact com_thing hl hb (thing_w tt key_k whole_non)
  · exact com_nobody hl
  · exact com_mark hl hb (time_low hi)
  · exact com_mark hl hb time_non
  · exact com_markL hl hb (by simp)
  · exact com_markL hl hb (by simp)
  · exact com_mark hl hb time_bl
  · exact com_nobody hl
  · exact (com_other hl hb n7 n8).trans (by rw [f3])
  · exact bad_short (by simp)
  · exact (com_other hl hb n4 n5).trans (by rw [f2])
  · exact bad_short (by simp)
  · exact bad_nt rfl
  · exact bad_nt rfl
  · exact bad_nt rfl
  · exact bad_nt rfl
  · exact bad_nt rfl
theorem atD_mem {cs : List D} {i : Int} (h0 : 0 ≤ i) (h1 : i < cs.length) : ∃ c, atD cs i = some c ∧ c ∈ cs := by
  unfold atD dPl
  rw [if_pos h0, if_pos h1]
  have h : i.toNat < cs.length := by omega
  exact ⟨cs[i.toNat], List.getElem?_eq_getElem h, List.getElem_mem h⟩
end
end Fx
set_option maxRecDepth 100000
namespace Fx
open PySem
section
variable {bs : List Bs} {j : Nat} {b : Bs}
noncomputable def badLo (y : Str) (t d : Int) : Option Int → List D
  | none => []
  | some l => [.tup [.str (Str.ofString "thing"), .str y, .int t, .str (Str.ofString "k"), .int (l - 1)], .tup [.str (Str.ofString "thing"), .str y, .int t, .str (Str.ofString "k"), .int (l - 1 - d * 100000000000000000000)]]
noncomputable def badHi (y : Str) (t d : Int) : Option Int → List D
  | none => []
  | some h => [.tup [.str (Str.ofString "thing"), .str y, .int t, .str (Str.ofString "k"), .int (h + 1)], .tup [.str (Str.ofString "thing"), .str y, .int t, .str (Str.ofString "k"), .int (h + 1 + d * 100000000000000000000)]]
theorem badLo_all (hl : bs.length ≤ 4) (hb : bs[j]? = some b) {t d : Int} (ht : 0 ≤ t) (hd : 0 ≤ d) : ∀ c ∈ badLo (nm j) t d b.1, Bad bs c := by
  intro c hc
  cases e : b.1 with
  | none => rw [e] at hc; cases hc
  | some l =>
    rw [e] at hc
    simp only [badLo, List.mem_cons, List.not_mem_nil, or_false] at hc
    rcases hc with rfl | rfl
    · exact com_thing hl hb (thing_b (time_eq ht) key_k (by rw [e]; exact btw_low (by omega) _))
    · exact com_thing hl hb (thing_b (time_eq ht) key_k (by rw [e]; exact btw_low (by omega) _))
theorem badHi_all (hl : bs.length ≤ 4) (hb : bs[j]? = some b) {t d : Int} (ht : 0 ≤ t) (hd : 0 ≤ d) : ∀ c ∈ badHi (nm j) t d b.2, Bad bs c := by
  intro c hc
  cases e : b.2 with
  | none => rw [e] at hc; cases hc
  | some l =>
    rw [e] at hc
    simp only [badHi, List.mem_cons, List.not_mem_nil, or_false] at hc
    rcases hc with rfl | rfl
    · exact com_thing hl hb (thing_b (time_eq ht) key_k (by rw [e]; exact btw_high (by omega) _))
    · exact com_thing hl hb (thing_b (time_eq ht) key_k (by rw [e]; exact btw_high (by omega) _))
theorem size_ok (n : Nat) (h : n ≤ 1000) : n ≤ sizeLine := Nat.le_trans h (by decide)
theorem bad_eq (hl : bs.length ≤ 4) (hb : bs[j]? = some b) (ok : OkB b) {t : Int} (ht : 0 ≤ t) {ds : List Int} (hd : Dig ds) (h8 : 8 ≤ ds.length) :
    ∃ c, m_law_bad [inRow j b, .int t, .lst (ds.map .int)] = some c ∧ Bad bs c := by
  have dg : ∀ i (h : i < ds.length), 0 ≤ ds[i] ∧ ds[i] < 64 := fun i h => hd _ (List.getElem_mem h)
  have a4 := at_ints ds (i := 4) (by omega)
  have a5 := at_ints ds (i := 5) (by omega)
  have a6 := at_ints ds (i := 6) (by omega)
  have a7 := at_ints ds (i := 7) (by omega)
  have e4 := dg 4 (by omega)
  have e5 := dg 5 (by omega)
  have e6 := dg 6 (by omega)
  have e7 := dg 7 (by omega)
  generalize ds[4]'(by omega) = d4 at a4 e4
  generalize ds[5]'(by omega) = d5 at a5 e5
  generalize ds[6]'(by omega) = d6 at a6 e6
  generalize ds[7]'(by omega) = d7 at a7 e7
  have a4' : atD (ds.map D.int) 4 = some (.int d4) := a4
  have a5' : atD (ds.map D.int) 5 = some (.int d5) := a5
  have a6' : atD (ds.map D.int) 6 = some (.int d6) := a6
  have a7' : atD (ds.map D.int) 7 = some (.int d7) := a7
  obtain ⟨v, ev, _⟩ := value_eq ok e4.1 e4.2
  have i1 : dIx2 (inRow j b) (.int 1) = some (.str (nm j)) := rfl
  have i3 : dIx2 (inRow j b) (.int 3) = some (.tup [dO b.1, dO b.2]) := rfl
  have m1 : okMul d5 100000000000000000000 = true := okMul_l (by omega)
  have m2 : okMul d6 64 = true := okMul_l (by omega)
  have sl : (Str.ofString "close ").length + (nm j).length ≤ sizeLine := by
    refine size_ok _ ?_
    have : (nm j).length ≤ 8 := by unfold nm; split <;> decide
    have : (Str.ofString "close ").length = 6 := by decide
    omega
  have all : ∀ c ∈ bad0 (nm j) t v (-1 - d5) ++ badLo (nm j) t d5 b.1 ++ badHi (nm j) t d5 b.2, Bad bs c := fun c hc => by
    rcases List.mem_append.mp hc with hc | hc
    · rcases List.mem_append.mp hc with hc | hc
      · exact bad0_all hl hb ht (by omega) c hc
      · exact badLo_all hl hb ht e5.1 c hc
    · exact badHi_all hl hb ht e5.1 c hc
  obtain ⟨lo, hi⟩ := b
  have fm : ∀ n : Int, 0 < n → (d6 * 64 + d7).fmod n = (d6 * 64 + d7) % n := fun n h => fmod_pos h
  cases lo with
  | none =>
    cases hi with
    | none =>
      obtain ⟨c, hc, hm⟩ := atD_mem (cs := bad0 (nm j) t v (-1 - d5) ++ badLo (nm j) t d5 none ++ badHi (nm j) t d5 none) (i := (d6 * 64 + d7) % 31) (Int.emod_nonneg _ (by decide)) (Int.emod_lt_of_pos _ (by decide))
      refine ⟨c, ?_, all c hm⟩
      simp only [bad0, badLo, badHi, List.cons_append, List.nil_append] at hc
      simp only [dO_none, dO_some] at ev i3
      simp [m_law_bad, b_law_bad, a4', a5', a6', a7', i1, i3, ev, m1, m2, sl, size_ok, fm, hc, List.replicate]
    | some h =>
      obtain ⟨c, hc, hm⟩ := atD_mem (cs := bad0 (nm j) t v (-1 - d5) ++ badLo (nm j) t d5 none ++ badHi (nm j) t d5 (some h)) (i := (d6 * 64 + d7) % 33) (Int.emod_nonneg _ (by decide)) (Int.emod_lt_of_pos _ (by decide))
      refine ⟨c, ?_, all c hm⟩
      simp only [bad0, badLo, badHi, List.cons_append, List.nil_append] at hc
      simp only [dO_none, dO_some] at ev i3
      simp [m_law_bad, b_law_bad, a4', a5', a6', a7', i1, i3, ev, m1, m2, sl, size_ok, fm, hc, List.replicate]
  | some l =>
    cases hi with
    | none =>
      obtain ⟨c, hc, hm⟩ := atD_mem (cs := bad0 (nm j) t v (-1 - d5) ++ badLo (nm j) t d5 (some l) ++ badHi (nm j) t d5 none) (i := (d6 * 64 + d7) % 33) (Int.emod_nonneg _ (by decide)) (Int.emod_lt_of_pos _ (by decide))
      refine ⟨c, ?_, all c hm⟩
      simp only [bad0, badLo, badHi, List.cons_append, List.nil_append] at hc
      simp only [dO_none, dO_some] at ev i3
      simp [m_law_bad, b_law_bad, a4', a5', a6', a7', i1, i3, ev, m1, m2, sl, size_ok, fm, hc, List.replicate]
    | some h =>
      obtain ⟨c, hc, hm⟩ := atD_mem (cs := bad0 (nm j) t v (-1 - d5) ++ badLo (nm j) t d5 (some l) ++ badHi (nm j) t d5 (some h)) (i := (d6 * 64 + d7) % 35) (Int.emod_nonneg _ (by decide)) (Int.emod_lt_of_pos _ (by decide))
      refine ⟨c, ?_, all c hm⟩
      simp only [bad0, badLo, badHi, List.cons_append, List.nil_append] at hc
      simp only [dO_none, dO_some] at ev i3
      simp [m_law_bad, b_law_bad, a4', a5', a6', a7', i1, i3, ev, m1, m2, sl, size_ok, fm, hc, List.replicate]
end
end Fx
set_option maxRecDepth 100000
namespace Fx
open PySem
theorem nth2 (x y z : D) (r : List D) : atD (x :: y :: z :: r) 2 = some z := by
  unfold atD dPl
  rw [if_pos (by omega), if_pos (by rw [List.length_cons, List.length_cons, List.length_cons]; omega)]
  rfl
section
variable {bs : List Bs} {ms : List (Option Int)} {j : Nat} {b : Bs}
theorem check_bad {c : D} (h : Bad bs c) : m_check_coming [worksD bs, dctOf ms, c] = some (.inr (Str.ofString "NoComing")) := by
  unfold Bad at h
  simp [m_check_coming, b_check_coming, fnX, bnd, h, List.replicate]
theorem check_shut {h : Str} {r : List D} (hm : ms.length ≤ 4) (mj : ms[j]? = some none) (ic : m_is_coming [worksD bs, .tup (.str h :: .str (nm j) :: r)] = some (.bl true)) : m_check_coming [worksD bs, dctOf ms, .tup (.str h :: .str (nm j) :: r)] = some (.inr (Str.ofString "Late")) := by
  have g := dct_get hm mj
  rw [dO_none] at g
  simp [m_check_coming, b_check_coming, fnX, bnd, ic, nth1, g, List.replicate]
theorem check_close {t : Int} (hm : ms.length ≤ 4) (mj : ms[j]? = some (some t)) (ic : m_is_coming [worksD bs, .tup [.str (Str.ofString "close"), .str (nm j)]] = some (.bl true)) : m_check_coming [worksD bs, dctOf ms, .tup [.str (Str.ofString "close"), .str (nm j)]] = some (.inl .non) := by
  have g := dct_get hm mj
  rw [dO_some] at g
  simp [m_check_coming, b_check_coming, fnX, bnd, ic, nth0, nth1, g, List.replicate]
theorem check_late {h : Str} {r : List D} {t u : Int} (hm : ms.length ≤ 4) (mj : ms[j]? = some (some t)) (hc : ¬ h = Str.ofString "close") (hu : u < t) (ic : m_is_coming [worksD bs, .tup (.str h :: .str (nm j) :: .int u :: r)] = some (.bl true)) :
    m_check_coming [worksD bs, dctOf ms, .tup (.str h :: .str (nm j) :: .int u :: r)] = some (.inr (Str.ofString "Late")) := by
  have g := dct_get hm mj
  rw [dO_some] at g
  simp [m_check_coming, b_check_coming, fnX, bnd, ic, nth0, nth1, nth2, g, hc, hu, List.replicate]
theorem check_right {h : Str} {r : List D} {t u : Int} (hm : ms.length ≤ 4) (mj : ms[j]? = some (some t)) (hc : ¬ h = Str.ofString "close") (hu : ¬ u < t) (ic : m_is_coming [worksD bs, .tup (.str h :: .str (nm j) :: .int u :: r)] = some (.bl true)) :
    m_check_coming [worksD bs, dctOf ms, .tup (.str h :: .str (nm j) :: .int u :: r)] = some (.inl .non) := by
  have g := dct_get hm mj
  rw [dO_some] at g
  simp [m_check_coming, b_check_coming, fnX, bnd, ic, nth0, nth1, nth2, g, hc, hu, List.replicate]
theorem sort_none {c : D} (h : m_check_coming [worksD bs, dctOf ms, c] = some (.inr (Str.ofString "NoComing"))) : m_law_sort [worksD bs, dctOf ms, c] = some (.str (Str.ofString "none")) := by
  show bnd (m_check_coming [worksD bs, dctOf ms, c]) sortX = _
  rw [h]; rfl
theorem sort_late {c : D} (h : m_check_coming [worksD bs, dctOf ms, c] = some (.inr (Str.ofString "Late"))) : m_law_sort [worksD bs, dctOf ms, c] = some (.str (Str.ofString "late")) := by
  show bnd (m_check_coming [worksD bs, dctOf ms, c]) sortX = _
  rw [h]; rfl
theorem sort_right {c : D} (h : m_check_coming [worksD bs, dctOf ms, c] = some (.inl .non)) : m_law_sort [worksD bs, dctOf ms, c] = some (.str (Str.ofString "right")) := by
  show bnd (m_check_coming [worksD bs, dctOf ms, c]) sortX = _
  rw [h]; rfl
theorem steps_ix (d : Int) {i : Int} (h0 : 0 ≤ i) (h1 : i < 4) : ∃ x, atD [.int (-1), .int 0, .int 1, .int (-1 - d)] i = some (.int x) := by
  have a : i = 0 ∨ i = 1 ∨ i = 2 ∨ i = 3 := by omega
  rcases a with rfl | rfl | rfl | rfl <;> exact ⟨_, rfl⟩
theorem due1 : atD [.str (Str.ofString "right"), .str (Str.ofString "late")] 1 = some (.str (Str.ofString "late")) := rfl
theorem due0 : atD [.str (Str.ofString "right"), .str (Str.ofString "late")] 0 = some (.str (Str.ofString "right")) := rfl
theorem one_eq (h1 : 1 ≤ bs.length) (hl : bs.length ≤ 4) (ok : ∀ b ∈ bs, OkB b) (hm : ms.length = bs.length) (hp : Pos0 ms) {ds : List Int} (hd : Dig ds) (h8 : 8 ≤ ds.length) :
    ∃ c y, m_law_one [worksD bs, dctOf ms, .lst (ds.map .int)] = some (.tup [c, .str y]) ∧ m_law_sort [worksD bs, dctOf ms, c] = some (.str y) := by
  have dg : ∀ i (h : i < ds.length), 0 ≤ ds[i] ∧ ds[i] < 64 := fun i h => hd _ (List.getElem_mem h)
  have a0 : atD (ds.map D.int) 0 = some (.int (ds[0]'(by omega))) := at_ints ds (i := 0) (by omega)
  have a1 : atD (ds.map D.int) 1 = some (.int (ds[1]'(by omega))) := at_ints ds (i := 1) (by omega)
  have a2 : atD (ds.map D.int) 2 = some (.int (ds[2]'(by omega))) := at_ints ds (i := 2) (by omega)
  have a3 : atD (ds.map D.int) 3 = some (.int (ds[3]'(by omega))) := at_ints ds (i := 3) (by omega)
  have a4 : atD (ds.map D.int) 4 = some (.int (ds[4]'(by omega))) := at_ints ds (i := 4) (by omega)
  have a5 : atD (ds.map D.int) 5 = some (.int (ds[5]'(by omega))) := at_ints ds (i := 5) (by omega)
  have e0 := dg 0 (by omega)
  have e1 := dg 1 (by omega)
  have e4 := dg 4 (by omega)
  have e5 := dg 5 (by omega)
  generalize ds[0]'(by omega) = d0 at a0 e0
  generalize ds[1]'(by omega) = d1 at a1 e1
  generalize ds[2]'(by omega) = d2 at a2
  generalize ds[3]'(by omega) = d3 at a3
  generalize ds[4]'(by omega) = d4 at a4 e4
  generalize ds[5]'(by omega) = d5 at a5 e5
  have bp : 0 < (bs.length : Int) := by omega
  have bn : ¬ (bs.length : Int) = 0 := by omega
  have q0 := Int.emod_nonneg d0 bn
  have q1 := Int.emod_lt_of_pos d0 bp
  obtain ⟨j, hj⟩ : ∃ j : Nat, d0 % (bs.length : Int) = (j : Int) := ⟨(d0 % (bs.length : Int)).toNat, by omega⟩
  have jl : j < bs.length := by omega
  have hb : bs[j]? = some bs[j] := List.getElem?_eq_getElem jl
  have okb := ok bs[j] (List.getElem_mem jl)
  generalize bs[j]'jl = b at hb okb
  have row : atD (rowsOf 0 bs ++ [tRow]) (j : Int) = some (inRow j b) := by
    unfold atD dPl
    have len : (rowsOf 0 bs ++ [tRow]).length = bs.length + 1 := by rw [List.length_append, rows_len]; rfl
    rw [len, if_pos (by omega), if_pos (by omega)]
    show (rowsOf 0 bs ++ [tRow])[((j : Int)).toNat]? = _
    rw [show ((j : Int)).toNat = j by omega, List.getElem?_append_left (by rw [rows_len]; exact jl)]
    have := rows_get bs 0 j b hb
    rwa [Nat.zero_add] at this
  have bne : ¬ bs = [] := fun z => by rw [z] at h1; cases h1
  have f0 : d0.fmod (bs.length : Int) = (j : Int) := by rw [fmod_pos bp]; exact hj
  have f2 : d2.fmod 4 = d2 % 4 := fmod_pos (by decide)
  have f3 : d3.fmod 2 = d3 % 2 := fmod_pos (by decide)
  have f3a : (d3.fdiv 2).fmod 2 = d3 / 2 % 2 := by rw [fdiv_pos (by decide), fmod_pos (by decide)]
  have f3b : (d3.fdiv 4).fmod 5 = d3 / 4 % 5 := by rw [fdiv_pos (by decide), fmod_pos (by decide)]
  have f5 : d5.fmod 6 = d5 % 6 := fmod_pos (by decide)
  have g5 : d5.fdiv 8 = d5 / 8 := fdiv_pos (by decide)
  have v2 : okDiv 2 = true := okDiv_s (by decide) (by decide)
  have v4 : okDiv 4 = true := okDiv_s (by decide) (by decide)
  have v8 : okDiv 8 = true := okDiv_s (by decide) (by decide)
  have i1 : dIx2 (inRow j b) (.int 1) = some (.str (nm j)) := rfl
  have i3 : dIx2 (inRow j b) (.int 3) = some (.tup [dO b.1, dO b.2]) := rfl
  have mj : ms[j]? = some (ms[j]'(by omega)) := List.getElem?_eq_getElem (by omega)
  generalize ms[j]'(by omega) = m at mj
  have m4 : ms.length ≤ 4 := by omega
  have gt := dct_get m4 mj
  obtain ⟨v, ev, wv⟩ := value_eq okb e4.1 e4.2
  have p6 : 0 ≤ d5 % 6 := Int.emod_nonneg _ (by decide)
  have p7 : d5 % 6 < 6 := Int.emod_lt_of_pos _ (by decide)
  obtain ⟨i, hi⟩ : ∃ i : Nat, d5 % 6 = (i : Int) := ⟨(d5 % 6).toNat, by omega⟩
  obtain ⟨n, hn⟩ : ∃ n : Nat, d5 / 8 = (n : Int) := ⟨(d5 / 8).toNat, by omega⟩
  obtain ⟨s, s1, s2, s3⟩ := key_all (i := i) (n := n) (by omega) (by omega)
  have r1 : (1 : Int) ≤ 1 + (n : Int) := by omega
  have r2 : 1 + (n : Int) ≤ 1000 := by omega
  have n1 : ¬ Str.ofString "close" = Str.ofString "thing" := by decide
  have n2 : ¬ Str.ofString "close" = Str.ofString "mark" := by decide
  have n3 : ¬ Str.ofString "mark" = Str.ofString "close" := by decide
  have n4 : ¬ Str.ofString "thing" = Str.ofString "close" := by decide
  have icC : m_is_coming [worksD bs, .tup [.str (Str.ofString "close"), .str (nm j)]] = some (.bl true) := (com_other hl hb n1 n2).trans (by simp)
  have icM : ∀ u : Int, 0 ≤ u → m_is_coming [worksD bs, .tup [.str (Str.ofString "mark"), .str (nm j), .int u]] = some (.bl true) := fun u hu => com_mark hl hb (time_eq hu)
  have icT : ∀ u : Int, 0 ≤ u → m_is_coming [worksD bs, .tup [.str (Str.ofString "thing"), .str (nm j), .int u, .str (Txt.mul s (1 + (n : Int))), .int v]] = some (.bl true) := fun u hu => com_thing hl hb (thing_eq hu s3 wv)
  cases m with
  | none =>
    rw [dO_none] at gt
    by_cases w0 : d3 % 2 = 0
    · obtain ⟨c, ec, hc⟩ := bad_eq hl hb okb e1.1 hd h8
      refine ⟨c, _, ?_, sort_none (check_bad hc)⟩
      unfold worksD
      simp [m_law_one, b_law_one, a0, a1, a2, a3, rows_len, bne, bn, f0, f3, row, i1, gt, w0, ec, List.replicate]
    · by_cases w4 : d3 / 4 % 5 = 4
      · refine ⟨_, _, ?_, sort_late (check_shut m4 mj icC)⟩
        unfold worksD
        by_cases w2 : d3 / 2 % 2 = 0
        · simp [m_law_one, b_law_one, a0, a1, a2, a3, a4, a5, rows_len, bne, bn, f0, f3, f3a, f3b, f5, g5, v2, v4, v8, row, i1, i3, gt, w0, w2, w4, hi, hn, s1, s2, r1, r2, ev, due1, List.replicate]
        · simp [m_law_one, b_law_one, a0, a1, a2, a3, a4, a5, rows_len, bne, bn, f0, f3, f3a, f3b, f5, g5, v2, v4, v8, row, i1, i3, gt, w0, w2, w4, hi, hn, s1, s2, r1, r2, ev, due1, List.replicate]
      · by_cases w2 : d3 / 2 % 2 = 0
        · refine ⟨_, _, ?_, sort_late (check_shut m4 mj (icT d1 e1.1))⟩
          unfold worksD
          simp [m_law_one, b_law_one, a0, a1, a2, a3, a4, a5, rows_len, bne, bn, f0, f3, f3a, f3b, f5, g5, v2, v4, v8, row, i1, i3, gt, w0, w2, w4, hi, hn, s1, s2, r1, r2, ev, due1, List.replicate]
        · refine ⟨_, _, ?_, sort_late (check_shut m4 mj (icM d1 e1.1))⟩
          unfold worksD
          simp [m_law_one, b_law_one, a0, a1, a2, a3, a4, a5, rows_len, bne, bn, f0, f3, f3a, f3b, f5, g5, v2, v4, v8, row, i1, i3, gt, w0, w2, w4, hi, hn, s1, s2, r1, r2, ev, due1, List.replicate]
  | some t =>
    rw [dO_some] at gt
    obtain ⟨x, ex⟩ := steps_ix d1 (Int.emod_nonneg d2 (by decide : (4 : Int) ≠ 0)) (Int.emod_lt_of_pos d2 (by decide))
    obtain ⟨u, hu, u0⟩ : ∃ u : Int, bMax [.int 0, .int (t + x)] = some (.int u) ∧ 0 ≤ u := ⟨_, bMax_ _ _, by split <;> omega⟩
    by_cases w0 : d3 % 2 = 0
    · obtain ⟨c, ec, hc⟩ := bad_eq hl hb okb u0 hd h8
      refine ⟨c, _, ?_, sort_none (check_bad hc)⟩
      unfold worksD
      simp [-bMax_, m_law_one, b_law_one, a0, a1, a2, a3, rows_len, bne, bn, f0, f2, f3, row, i1, gt, ex, hu, w0, ec, List.replicate]
    · by_cases w4 : d3 / 4 % 5 = 4
      · refine ⟨_, _, ?_, sort_right (check_close m4 mj icC)⟩
        unfold worksD
        by_cases w2 : d3 / 2 % 2 = 0
        · simp [-bMax_, m_law_one, b_law_one, a0, a1, a2, a3, a4, a5, rows_len, bne, bn, f0, f2, f3, f3a, f3b, f5, g5, v2, v4, v8, row, i1, i3, gt, ex, hu, w0, w2, w4, hi, hn, s1, s2, r1, r2, ev, due0, List.replicate]
        · simp [-bMax_, m_law_one, b_law_one, a0, a1, a2, a3, a4, a5, rows_len, bne, bn, f0, f2, f3, f3a, f3b, f5, g5, v2, v4, v8, row, i1, i3, gt, ex, hu, w0, w2, w4, hi, hn, s1, s2, r1, r2, ev, due0, List.replicate]
      · by_cases w2 : d3 / 2 % 2 = 0
        · by_cases ut : u < t
          · refine ⟨_, _, ?_, sort_late (check_late m4 mj n4 ut (icT u u0))⟩
            unfold worksD
            simp [-bMax_, m_law_one, b_law_one, a0, a1, a2, a3, a4, a5, rows_len, bne, bn, f0, f2, f3, f3a, f3b, f5, g5, v2, v4, v8, row, i1, i3, gt, ex, hu, w0, w2, w4, hi, hn, s1, s2, r1, r2, ev, ut, due1, List.replicate]
          · refine ⟨_, _, ?_, sort_right (check_right m4 mj n4 ut (icT u u0))⟩
            unfold worksD
            simp [-bMax_, m_law_one, b_law_one, a0, a1, a2, a3, a4, a5, rows_len, bne, bn, f0, f2, f3, f3a, f3b, f5, g5, v2, v4, v8, row, i1, i3, gt, ex, hu, w0, w2, w4, hi, hn, s1, s2, r1, r2, ev, ut, due0, List.replicate]
        · by_cases ut : u < t
          · refine ⟨_, _, ?_, sort_late (check_late m4 mj n3 ut (icM u u0))⟩
            unfold worksD
            simp [-bMax_, m_law_one, b_law_one, a0, a1, a2, a3, a4, a5, rows_len, bne, bn, f0, f2, f3, f3a, f3b, f5, g5, v2, v4, v8, row, i1, i3, gt, ex, hu, w0, w2, w4, hi, hn, s1, s2, r1, r2, ev, ut, due1, List.replicate]
          · refine ⟨_, _, ?_, sort_right (check_right m4 mj n3 ut (icM u u0))⟩
            unfold worksD
            simp [-bMax_, m_law_one, b_law_one, a0, a1, a2, a3, a4, a5, rows_len, bne, bn, f0, f2, f3, f3a, f3b, f5, g5, v2, v4, v8, row, i1, i3, gt, ex, hu, w0, w2, w4, hi, hn, s1, s2, r1, r2, ev, ut, due0, List.replicate]
end
end Fx
namespace Fx
open PySem
theorem cell_eq (ns : List Int) (i : Nat) : ∃ v : Int, m_law_cell_at [.lst (ns.map .int), .int i] = some (.int v) := by
  by_cases h : i < ns.length
  · have a := at_ints ns h
    exact ⟨ns[i], by simp [m_law_cell_at, b_law_cell_at, h, a]⟩
  · exact ⟨0, by simp [m_law_cell_at, b_law_cell_at, h]⟩
theorem dn_same (ms : List (Option Int)) (h : ms.length ≤ 4) : dDn (dctOf ms) (dctOf ms) = some (.bl false) := by
  unfold dctOf
  rw [dDn_s, if_pos ⟨kds_flat ms 0, kds_flat ms 0⟩, kds_zip, kds_same ms h]; rfl
theorem bDct_of (ms : List (Option Int)) : bDct [dctOf ms] = some (dctOf ms) := rfl
theorem hld_eq (ms : List (Option Int)) : hld (kdsOf 0 ms) = .im (dctOf ms) := rfl
theorem cut_from (xs : List Int) {k : Nat} (h : k ≤ xs.length) : dCut (xs.map D.int) (some (k : Int)) none = (xs.drop k).map D.int := by
  unfold dCut
  show ((xs.map D.int).drop ((if (k : Int) < 0 then max ((k : Int) + ((xs.map D.int).length : Int)) 0 else min (k : Int) ((xs.map D.int).length : Int)).toNat)).take ((xs.map D.int).length - (if (k : Int) < 0 then max ((k : Int) + ((xs.map D.int).length : Int)) 0 else min (k : Int) ((xs.map D.int).length : Int)).toNat) = _
  rw [List.length_map, if_neg (by omega), show (min (k : Int) (xs.length : Int)).toNat = k by omega, List.map_drop]
  rw [List.take_of_length_le]
  rw [List.length_drop, List.length_map]
  exact Nat.le_refl _
theorem marks_ix (a c : Int) {i : Int} (h0 : 0 ≤ i) (h1 : i < 4) (ha : 0 ≤ a) (hc : 0 ≤ c) : ∃ t : Option Int, atD [.int a, .int c, .int 0, .non] i = some (dO t) ∧ ∀ x, t = some x → 0 ≤ x := by
  have z : i = 0 ∨ i = 1 ∨ i = 2 ∨ i = 3 := by omega
  rcases z with rfl | rfl | rfl | rfl
  · exact ⟨some a, rfl, fun x e => by cases e; exact ha⟩
  · exact ⟨some c, rfl, fun x e => by cases e; exact hc⟩
  · exact ⟨some 0, rfl, fun x e => by cases e; exact Int.le_refl _⟩
  · exact ⟨none, rfl, fun x e => by cases e⟩
theorem pos_snoc {ms : List (Option Int)} {t : Option Int} (h : Pos0 ms) (ht : ∀ x, t = some x → 0 ≤ x) : Pos0 (ms ++ [t]) := fun j x e => by
  by_cases z : j < ms.length
  · rw [List.getElem?_append_left z] at e; exact h j x e
  · rw [List.getElem?_append_right (by omega)] at e
    have : j - ms.length = 0 ∨ 0 < j - ms.length := by omega
    rcases this with w | w
    · rw [w] at e; exact ht x (by simpa using e)
    · rw [List.getElem?_eq_none (by simp; omega)] at e; cases e
noncomputable def PM (ns : List Int) (bs : List Bs) (ds : List Int) (k : Nat) (ρ : En) : Prop := ∃ (ms : List (Option Int)) (x4 x6 : Sl),
  ρ = [.im (.lst (ns.map .int)), .im (worksD bs), .im (.lst (ds.map .int)), .ow false (.dic (kdsOf 0 ms)), x4, .no, x6, .no, .no] ∧ ms.length = k ∧ Pos0 ms
theorem marks_turn {ns : List Int} {bs : List Bs} {ds : List Int} (hl : bs.length ≤ 4) (k : Nat) (hk : k < bs.length) (ρ : En) (p : PM ns bs ds k ρ) : ∃ ρ1 ρ2, gN 4 (.int k) ρ = some ρ1 ∧ l_law_1 ρ1 = some (.nx ρ2) ∧ PM ns bs ds (k + 1) ρ2 := by
  obtain ⟨ms, x4, x6, rfl, hm, hp⟩ := p
  obtain ⟨c, ec⟩ := cell_eq ns (2 + k)
  have ec' : m_law_cell_at [.lst (ns.map .int), .int (2 + (k : Int))] = some (.int c) := by
    rw [show (2 + (k : Int)) = ((2 + k : Nat) : Int) by omega]; exact ec
  have hb : bs[k]? = some bs[k] := List.getElem?_eq_getElem hk
  generalize bs[k] = b at hb
  have row : atD (rowsOf 0 bs ++ [tRow]) (k : Int) = some (inRow k b) := by
    unfold atD dPl
    have len : (rowsOf 0 bs ++ [tRow]).length = bs.length + 1 := by rw [List.length_append, rows_len]; rfl
    rw [len, if_pos (by omega), if_pos (by omega)]
    show (rowsOf 0 bs ++ [tRow])[((k : Int)).toNat]? = _
    rw [show ((k : Int)).toNat = k by omega, List.getElem?_append_left (by rw [rows_len]; exact hk)]
    have := rows_get bs 0 k b hb
    rwa [Nat.zero_add] at this
  have i1 : dIx2 (inRow k b) (.int 1) = some (.str (nm k)) := rfl
  have f4 : c.fmod 4 = c % 4 := fmod_pos (by decide)
  have g4 : c.fdiv 4 = c / 4 := fdiv_pos (by decide)
  have f12 : (c / 4).fmod 1000000000000 = c / 4 % 1000000000000 := fmod_pos (by decide)
  have f50 : (c / 4).fmod 50 = c / 4 % 50 := fmod_pos (by decide)
  have v4 : okDiv 4 = true := okDiv_s (by decide) (by decide)
  obtain ⟨t, et, ht⟩ := marks_ix (c / 4 % 1000000000000) (c / 4 % 50) (Int.emod_nonneg c (by decide : (4 : Int) ≠ 0)) (Int.emod_lt_of_pos c (by decide)) (Int.emod_nonneg _ (by decide)) (Int.emod_nonneg _ (by decide))
  have pd := kds_add ms t (by omega)
  rw [hm] at pd
  have l1 : (kdsOf 0 ms).length < 100 := by rw [kds_len]; omega
  refine ⟨_, [.im (.lst (ns.map .int)), .im (worksD bs), .im (.lst (ds.map .int)), .ow false (.dic (kdsOf 0 (ms ++ [t]))), .im (.int k), .no, .im (.int c), .no, .no], rfl, ?_, ms ++ [t], _, _, rfl, by rw [List.length_append, hm]; rfl, pos_snoc hp ht⟩
  unfold worksD
  simp [l_law_1, ec', row, i1, f4, g4, f12, f50, v4, et, l1, pd]
noncomputable def PL (ns : List Int) (bs : List Bs) (ds : List Int) (ms : List (Option Int)) (k : Nat) (ρ : En) : Prop := ∃ x4 x6 x7 x8 : Sl,
  ρ = [.im (.lst (ns.map .int)), .im (worksD bs), .im (.lst (ds.map .int)), .im (dctOf ms), x4, .im (dctOf ms), x6, x7, x8]
theorem law_turn {ns : List Int} {bs : List Bs} {ds : List Int} {ms : List (Option Int)} (h1 : 1 ≤ bs.length) (hl : bs.length ≤ 4) (ok : ∀ b ∈ bs, OkB b) (hm : ms.length = bs.length) (hp : Pos0 ms) (dl : ds.length = 90) (hd : Dig ds) (k : Nat) (hk : k < 9) (ρ : En) (p : PL ns bs ds ms k ρ) :
    ∃ ρ1 ρ2, gN 4 (.int k) ρ = some ρ1 ∧ l_law_2 ρ1 = some (.nx ρ2) ∧ PL ns bs ds ms (k + 1) ρ2 := by
  obtain ⟨x4, x6, x7, x8, rfl⟩ := p
  have m10 : okMul 10 (k : Int) = true := okMul_l (by decide)
  have cu := cut_from ds (k := 10 * k) (by omega)
  rw [show ((10 * k : Nat) : Int) = 10 * (k : Int) by omega] at cu
  obtain ⟨c, y, e1, e2⟩ := one_eq (ds := ds.drop (10 * k)) h1 hl ok hm hp (fun x hx => hd x (List.mem_of_mem_drop hx)) (by rw [List.length_drop]; omega)
  refine ⟨_, [.im (.lst (ns.map .int)), .im (worksD bs), .im (.lst (ds.map .int)), .im (dctOf ms), .im (.int k), .im (dctOf ms), x6, .im c, .im (.str y)], rfl, ?_, _, _, _, _, rfl⟩
  have gt : gT [7, 8] (.tup [c, .str y]) [.im (.lst (ns.map .int)), .im (worksD bs), .im (.lst (ds.map .int)), .im (dctOf ms), .im (.int k), .im (dctOf ms), x6, x7, x8] = some [.im (.lst (ns.map .int)), .im (worksD bs), .im (.lst (ds.map .int)), .im (dctOf ms), .im (.int k), .im (dctOf ms), x6, .im c, .im (.str y)] := rfl
  simp [-dDn_s, -List.map_drop, l_law_2, m10, cu, e1, gt, e2, dn_same ms (by omega)]
theorem law_true (ns : List Int) (hl : ns.length ≤ 63) : m_law [.lst (ns.map .int)] = some (.bl true) := by
  obtain ⟨c0, e0⟩ := cell_eq ns 0
  obtain ⟨c1, e1⟩ := cell_eq ns 1
  obtain ⟨da, ea, la, ha⟩ := digits_eq c0 14 (by decide)
  obtain ⟨ds, eb, lb, hb⟩ := digits_eq c1 90 (by decide)
  obtain ⟨bs, ei, b1, b4, ok⟩ := ins_eq la ha
  obtain ⟨ρ', em, ms, x4, x6, rfl, hm, hp⟩ := fGo_rngI (g := gN 4) (B := l_law_1) (PM ns bs ds) bs.length 0
    [.im (.lst (ns.map .int)), .im (worksD bs), .im (.lst (ds.map .int)), .ow false (.dic []), .no, .no, .no, .no, .no]
    (fun i ρ _ h p => marks_turn b4 i (by omega) ρ p) ⟨[], _, _, rfl, rfl, fun j t e => by cases e⟩
  have hm' : ms.length = bs.length := by omega
  obtain ⟨ρ'', el, y4, y6, y7, y8, rfl⟩ := fGo_rngI (g := gN 4) (B := l_law_2) (PL ns bs ds ms) 9 0
    [.im (.lst (ns.map .int)), .im (worksD bs), .im (.lst (ds.map .int)), .im (dctOf ms), x4, .im (dctOf ms), x6, .no, .no]
    (fun i ρ _ h p => law_turn b1 b4 ok hm' hp lb hb i (by omega) ρ p) ⟨_, _, _, _, rfl⟩
  have em' : fGo (gN 4) l_law_1 (rngD 0 bs.length) [.im (.lst (ns.map .int)), .im (worksD bs), .im (.lst (ds.map .int)), .ow false (.dic []), .no, .no, .no, .no, .no] = _ := em
  have el' : fGo (gN 4) l_law_2 (rngD 0 9) [.im (.lst (ns.map .int)), .im (worksD bs), .im (.lst (ds.map .int)), .im (dctOf ms), x4, .im (dctOf ms), x6, .no, .no] = _ := el
  have e0' : m_law_cell_at [.lst (ns.map .int), .int 0] = some (.int c0) := e0
  have e1' : m_law_cell_at [.lst (ns.map .int), .int 1] = some (.int c1) := e1
  have ea' : m_law_digits [.int c0, .int 14] = some (.lst (da.map .int)) := ea
  have eb' : m_law_digits [.int c1, .int 90] = some (.lst (ds.map .int)) := eb
  have ln : bLen2 [worksD bs] = some (.int ((bs.length : Int) + 1)) := by unfold worksD; simp [rows_len]
  have r1 : -4611686018427387904 ≤ (bs.length : Int) := by omega
  have r2 : (bs.length : Int) < 4611686018427387904 := by omega
  simp [-dDn_s, m_law, b_law, e0', e1', ea', eb', ei, ln, r1, r2, em', hld_eq, bDct_of, el', List.replicate]
end Fx
set_option maxRecDepth 100000
set_option maxHeartbeats 4000000
namespace Fx
open PySem PySem.Spec PyProof.Rows L2
theorem reps_ints {K : PySem.W.Frag} {H : Hp} : ∀ ns : List Int, Reps K H (ns.map D.int) (ns.map V.int)
  | [] => Reps.nil_
  | n :: r => Reps.cons (rep_int H n) (reps_ints r)
theorem us1 {P : List Value → Prop} (h : ∀ a0, P [a0]) : ∀ us : List Value, us.length = 1 → P us := fun us hl => by
  cases us with
  | nil => exact absurd hl (by simp)
  | cons a0 us =>
  cases us with
  | nil => exact h _
  | cons b us => exact absurd hl (by simp)
theorem us2 {P : List Value → Prop} (h : ∀ a0 a1, P [a0, a1]) : ∀ us : List Value, us.length = 2 → P us := fun us hl => by
  cases us with
  | nil => exact absurd hl (by simp)
  | cons a0 us =>
  cases us with
  | nil => exact absurd hl (by simp)
  | cons a1 us =>
  cases us with
  | nil => exact h _ _
  | cons b us => exact absurd hl (by simp)
theorem us3 {P : List Value → Prop} (h : ∀ a0 a1 a2, P [a0, a1, a2]) : ∀ us : List Value, us.length = 3 → P us := fun us hl => by
  cases us with
  | nil => exact absurd hl (by simp)
  | cons a0 us =>
  cases us with
  | nil => exact absurd hl (by simp)
  | cons a1 us =>
  cases us with
  | nil => exact absurd hl (by simp)
  | cons a2 us =>
  cases us with
  | nil => exact h _ _ _
  | cons b us => exact absurd hl (by simp)
theorem us4 {P : List Value → Prop} (h : ∀ a0 a1 a2 a3, P [a0, a1, a2, a3]) : ∀ us : List Value, us.length = 4 → P us := fun us hl => by
  cases us with
  | nil => exact absurd hl (by simp)
  | cons a0 us =>
  cases us with
  | nil => exact absurd hl (by simp)
  | cons a1 us =>
  cases us with
  | nil => exact absurd hl (by simp)
  | cons a2 us =>
  cases us with
  | nil => exact absurd hl (by simp)
  | cons a3 us =>
  cases us with
  | nil => exact h _ _ _ _
  | cons b us => exact absurd hl (by simp)
theorem us5 {P : List Value → Prop} (h : ∀ a0 a1 a2 a3 a4, P [a0, a1, a2, a3, a4]) : ∀ us : List Value, us.length = 5 → P us := fun us hl => by
  cases us with
  | nil => exact absurd hl (by simp)
  | cons a0 us =>
  cases us with
  | nil => exact absurd hl (by simp)
  | cons a1 us =>
  cases us with
  | nil => exact absurd hl (by simp)
  | cons a2 us =>
  cases us with
  | nil => exact absurd hl (by simp)
  | cons a3 us =>
  cases us with
  | nil => exact absurd hl (by simp)
  | cons a4 us =>
  cases us with
  | nil => exact h _ _ _ _ _
  | cons b us => exact absurd hl (by simp)
theorem all_mk {l : PySem.W.OpenLaw} {w : World} {K : PySem.W.Frag} {h : Heap} {mg : Str → Option Value} {fa f1 f2 f3 f4 f5 f6 f7 f8 f9 f10 f11 f12 f13 f14 f15 f16 : Addr} (X : K.In h) (G : h.Ns mainGlobals mg) (hfa : mg "law" = some (.ref fa))
    {od1 an1 : Option Addr} {sl1 : Array (Option Value)} {oc1 kV1 dc1 pm1 cd1 ct1 : Value}
    (a1 : PySem.W.nsIn K mainGlobals "is_key" = some (some (.ref f1))) (l1 : K.lookup f1 = some ⟨oc1, od1, .func (PySem.W.fnOf "is_key" "is_key" (defArgs s_is_key) (defBody s_is_key) (defScope s_is_key) .none kV1 dc1 pm1 an1 cd1 ct1), sl1⟩) (c1 : PySem.W.codeIn K cd1 "is_key" = true) (k1 : PySem.W.keepIn K (.ref f1) = true)
    {od2 an2 : Option Addr} {sl2 : Array (Option Value)} {oc2 kV2 dc2 pm2 cd2 ct2 : Value}
    (a2 : PySem.W.nsIn K mainGlobals "is_between" = some (some (.ref f2))) (l2 : K.lookup f2 = some ⟨oc2, od2, .func (PySem.W.fnOf "is_between" "is_between" (defArgs s_is_between) (defBody s_is_between) (defScope s_is_between) .none kV2 dc2 pm2 an2 cd2 ct2), sl2⟩) (c2 : PySem.W.codeIn K cd2 "is_between" = true) (k2 : PySem.W.keepIn K (.ref f2) = true)
    {od3 an3 : Option Addr} {sl3 : Array (Option Value)} {oc3 kV3 dc3 pm3 cd3 ct3 : Value}
    (a3 : PySem.W.nsIn K mainGlobals "row_named" = some (some (.ref f3))) (l3 : K.lookup f3 = some ⟨oc3, od3, .func (PySem.W.fnOf "row_named" "row_named" (defArgs s_row_named) (defBody s_row_named) (defScope s_row_named) .none kV3 dc3 pm3 an3 cd3 ct3), sl3⟩) (c3 : PySem.W.codeIn K cd3 "row_named" = true) (k3 : PySem.W.keepIn K (.ref f3) = true)
    {od4 an4 : Option Addr} {sl4 : Array (Option Value)} {oc4 kV4 dc4 pm4 cd4 ct4 : Value}
    (a4 : PySem.W.nsIn K mainGlobals "is_whole" = some (some (.ref f4))) (l4 : K.lookup f4 = some ⟨oc4, od4, .func (PySem.W.fnOf "is_whole" "is_whole" (defArgs s_is_whole) (defBody s_is_whole) (defScope s_is_whole) .none kV4 dc4 pm4 an4 cd4 ct4), sl4⟩) (c4 : PySem.W.codeIn K cd4 "is_whole" = true) (k4 : PySem.W.keepIn K (.ref f4) = true)
    {od5 an5 : Option Addr} {sl5 : Array (Option Value)} {oc5 kV5 dc5 pm5 cd5 ct5 : Value}
    (a5 : PySem.W.nsIn K mainGlobals "is_time" = some (some (.ref f5))) (l5 : K.lookup f5 = some ⟨oc5, od5, .func (PySem.W.fnOf "is_time" "is_time" (defArgs s_is_time) (defBody s_is_time) (defScope s_is_time) .none kV5 dc5 pm5 an5 cd5 ct5), sl5⟩) (c5 : PySem.W.codeIn K cd5 "is_time" = true) (k5 : PySem.W.keepIn K (.ref f5) = true)
    {od6 an6 : Option Addr} {sl6 : Array (Option Value)} {oc6 kV6 dc6 pm6 cd6 ct6 : Value}
    (a6 : PySem.W.nsIn K mainGlobals "is_thing_of" = some (some (.ref f6))) (l6 : K.lookup f6 = some ⟨oc6, od6, .func (PySem.W.fnOf "is_thing_of" "is_thing_of" (defArgs s_is_thing_of) (defBody s_is_thing_of) (defScope s_is_thing_of) .none kV6 dc6 pm6 an6 cd6 ct6), sl6⟩) (c6 : PySem.W.codeIn K cd6 "is_thing_of" = true) (k6 : PySem.W.keepIn K (.ref f6) = true)
    {od7 an7 : Option Addr} {sl7 : Array (Option Value)} {oc7 kV7 dc7 pm7 cd7 ct7 : Value}
    (a7 : PySem.W.nsIn K mainGlobals "is_coming" = some (some (.ref f7))) (l7 : K.lookup f7 = some ⟨oc7, od7, .func (PySem.W.fnOf "is_coming" "is_coming" (defArgs s_is_coming) (defBody s_is_coming) (defScope s_is_coming) .none kV7 dc7 pm7 an7 cd7 ct7), sl7⟩) (c7 : PySem.W.codeIn K cd7 "is_coming" = true) (k7 : PySem.W.keepIn K (.ref f7) = true)
    {od8 an8 : Option Addr} {sl8 : Array (Option Value)} {oc8 kV8 dc8 pm8 cd8 ct8 : Value}
    (a8 : PySem.W.nsIn K mainGlobals "check_coming" = some (some (.ref f8))) (l8 : K.lookup f8 = some ⟨oc8, od8, .func (PySem.W.fnOf "check_coming" "check_coming" (defArgs s_check_coming) (defBody s_check_coming) (defScope s_check_coming) .none kV8 dc8 pm8 an8 cd8 ct8), sl8⟩) (c8 : PySem.W.codeIn K cd8 "check_coming" = true) (k8 : PySem.W.keepIn K (.ref f8) = true)
    {od9 an9 : Option Addr} {sl9 : Array (Option Value)} {oc9 kV9 dc9 pm9 cd9 ct9 : Value}
    (a9 : PySem.W.nsIn K mainGlobals "_law_cell_at" = some (some (.ref f9))) (l9 : K.lookup f9 = some ⟨oc9, od9, .func (PySem.W.fnOf "_law_cell_at" "_law_cell_at" (defArgs s_law_cell_at) (defBody s_law_cell_at) (defScope s_law_cell_at) .none kV9 dc9 pm9 an9 cd9 ct9), sl9⟩) (c9 : PySem.W.codeIn K cd9 "_law_cell_at" = true) (k9 : PySem.W.keepIn K (.ref f9) = true)
    {od10 an10 : Option Addr} {sl10 : Array (Option Value)} {oc10 kV10 dc10 pm10 cd10 ct10 : Value}
    (a10 : PySem.W.nsIn K mainGlobals "_law_digits" = some (some (.ref f10))) (l10 : K.lookup f10 = some ⟨oc10, od10, .func (PySem.W.fnOf "_law_digits" "_law_digits" (defArgs s_law_digits) (defBody s_law_digits) (defScope s_law_digits) .none kV10 dc10 pm10 an10 cd10 ct10), sl10⟩) (c10 : PySem.W.codeIn K cd10 "_law_digits" = true) (k10 : PySem.W.keepIn K (.ref f10) = true)
    {od11 an11 : Option Addr} {sl11 : Array (Option Value)} {oc11 kV11 dc11 pm11 cd11 ct11 : Value}
    (a11 : PySem.W.nsIn K mainGlobals "_law_ins" = some (some (.ref f11))) (l11 : K.lookup f11 = some ⟨oc11, od11, .func (PySem.W.fnOf "_law_ins" "_law_ins" (defArgs s_law_ins) (defBody s_law_ins) (defScope s_law_ins) .none kV11 dc11 pm11 an11 cd11 ct11), sl11⟩) (c11 : PySem.W.codeIn K cd11 "_law_ins" = true) (k11 : PySem.W.keepIn K (.ref f11) = true)
    {od12 an12 : Option Addr} {sl12 : Array (Option Value)} {oc12 kV12 dc12 pm12 cd12 ct12 : Value}
    (a12 : PySem.W.nsIn K mainGlobals "_law_value" = some (some (.ref f12))) (l12 : K.lookup f12 = some ⟨oc12, od12, .func (PySem.W.fnOf "_law_value" "_law_value" (defArgs s_law_value) (defBody s_law_value) (defScope s_law_value) .none kV12 dc12 pm12 an12 cd12 ct12), sl12⟩) (c12 : PySem.W.codeIn K cd12 "_law_value" = true) (k12 : PySem.W.keepIn K (.ref f12) = true)
    {od13 an13 : Option Addr} {sl13 : Array (Option Value)} {oc13 kV13 dc13 pm13 cd13 ct13 : Value}
    (a13 : PySem.W.nsIn K mainGlobals "_law_sort" = some (some (.ref f13))) (l13 : K.lookup f13 = some ⟨oc13, od13, .func (PySem.W.fnOf "_law_sort" "_law_sort" (defArgs s_law_sort) (defBody s_law_sort) (defScope s_law_sort) .none kV13 dc13 pm13 an13 cd13 ct13), sl13⟩) (c13 : PySem.W.codeIn K cd13 "_law_sort" = true) (k13 : PySem.W.keepIn K (.ref f13) = true)
    {od14 an14 : Option Addr} {sl14 : Array (Option Value)} {oc14 kV14 dc14 pm14 cd14 ct14 : Value}
    (a14 : PySem.W.nsIn K mainGlobals "_law_bad" = some (some (.ref f14))) (l14 : K.lookup f14 = some ⟨oc14, od14, .func (PySem.W.fnOf "_law_bad" "_law_bad" (defArgs s_law_bad) (defBody s_law_bad) (defScope s_law_bad) .none kV14 dc14 pm14 an14 cd14 ct14), sl14⟩) (c14 : PySem.W.codeIn K cd14 "_law_bad" = true) (k14 : PySem.W.keepIn K (.ref f14) = true)
    {od15 an15 : Option Addr} {sl15 : Array (Option Value)} {oc15 kV15 dc15 pm15 cd15 ct15 : Value}
    (a15 : PySem.W.nsIn K mainGlobals "_law_one" = some (some (.ref f15))) (l15 : K.lookup f15 = some ⟨oc15, od15, .func (PySem.W.fnOf "_law_one" "_law_one" (defArgs s_law_one) (defBody s_law_one) (defScope s_law_one) .none kV15 dc15 pm15 an15 cd15 ct15), sl15⟩) (c15 : PySem.W.codeIn K cd15 "_law_one" = true) (k15 : PySem.W.keepIn K (.ref f15) = true)
    {od16 an16 : Option Addr} {sl16 : Array (Option Value)} {oc16 kV16 dc16 pm16 cd16 ct16 : Value}
    (a16 : PySem.W.nsIn K mainGlobals "law" = some (some (.ref f16))) (l16 : K.lookup f16 = some ⟨oc16, od16, .func (PySem.W.fnOf "law" "law" (defArgs s_law) (defBody s_law) (defScope s_law) .none kV16 dc16 pm16 an16 cd16 ct16), sl16⟩) (c16 : PySem.W.codeIn K cd16 "law" = true) (k16 : PySem.W.keepIn K (.ref f16) = true)
    {tc1 : _} (y1 : PySem.W.nsIn K mainGlobals "LETTERS" = some (some (.str (Str.ofString "abcdefghijklmnopqrstuvwxyz") tc1))) {tc2 : _} (y2 : PySem.W.nsIn K mainGlobals "LONGEST" = some (some (.int 8 tc2)))
    {u0 u1 u2 u3 u4 u5 u6 u7 : Addr} (q1 : PySem.W.nsIn K mainGlobals "NoComing" = some (some (.ref u0)))
    (q2 : PySem.W.nsIn K mainGlobals "Late" = some (some (.ref u1)))
    (q3 : PySem.W.nsIn K mainGlobals "WellError" = some (some (.ref u2)))
    (q4 : PySem.W.nsIn K mainGlobals "NoCell" = some (some (.ref u3)))
    (q5 : PySem.W.nsIn K mainGlobals "NoOrder" = some (some (.ref u4)))
    (q6 : PySem.W.nsIn K mainGlobals "NoPaper" = some (some (.ref u5)))
    (q7 : PySem.W.nsIn K mainGlobals "NoText" = some (some (.ref u6)))
    (q8 : PySem.W.nsIn K mainGlobals "NoWorks" = some (some (.ref u7)))
    (qa1 : PySem.W.excIn K u0 bmV "ValueError.__new__" = true)
    (qa2 : PySem.W.exmOne K (.ref u0) (.ref u2) = some true)
    (qa4 : PySem.W.findIn K (.ref u0) "__getattribute__" = some (some (.builtin "BaseException.__getattribute__")))
    (qa5 : PySem.W.findIn K (.ref u0) "__getattr__" = some none)
    (qa6 : PySem.W.findIn K (.ref u0) "__class__" = some (some (.builtin "object.__class__")))
    (qa7 : PySem.W.mroIn K u0 (.type "object") = some true)
    (qa8 : PySem.W.mroIn K u0 (.type "BaseException") = some true)
    (qa9 : PySem.W.kitAny K (.ref u0) [.ref u3, .ref u4, .ref u5, .ref u6, .ref u7] = some false)
    (qa10 : PySem.W.kitOne K (.ref u0) (.type "ValueError") = some true)
    (qa11 : PySem.W.kitOne K (.ref u0) (.ref u1) = some false)
    (qa12 : PySem.W.kitOne K (.ref u0) (.ref u0) = some true)
    (qb1 : PySem.W.excIn K u1 bmV "ValueError.__new__" = true)
    (qb2 : PySem.W.exmOne K (.ref u1) (.ref u2) = some true)
    (qb4 : PySem.W.findIn K (.ref u1) "__getattribute__" = some (some (.builtin "BaseException.__getattribute__")))
    (qb5 : PySem.W.findIn K (.ref u1) "__getattr__" = some none)
    (qb6 : PySem.W.findIn K (.ref u1) "__class__" = some (some (.builtin "object.__class__")))
    (qb7 : PySem.W.mroIn K u1 (.type "object") = some true)
    (qb8 : PySem.W.mroIn K u1 (.type "BaseException") = some true)
    (qb9 : PySem.W.kitAny K (.ref u1) [.ref u3, .ref u4, .ref u5, .ref u6, .ref u7] = some false)
    (qb10 : PySem.W.kitOne K (.ref u1) (.type "ValueError") = some true)
    (qb11 : PySem.W.kitOne K (.ref u1) (.ref u1) = some true)
    (qb12 : PySem.W.kitOne K (.ref u1) (.ref u0) = some false)
    (qc0 : PySem.W.nsIn K mainGlobals "ValueError" = some none)
    (qc1 : PySem.W.specialIn K (.builtin "object.__class__") "__get__" = some (some (.builtin "getset_descriptor.__get__")))
    (qc2 : PySem.W.takesIn K (.builtin "object.__class__") = some true)
    (z1 : PySem.W.nsIn K mainGlobals "abs" = some none) (z2 : PySem.W.nsIn K mainGlobals "len" = some none) (z3 : PySem.W.nsIn K mainGlobals "max" = some none) (z4 : PySem.W.nsIn K mainGlobals "min" = some none) (z5 : PySem.W.nsIn K mainGlobals "any" = some none) (z6 : PySem.W.nsIn K mainGlobals "all" = some none) (z7 : PySem.W.nsIn K mainGlobals "range" = some none) (z8 : PySem.W.nsIn K mainGlobals "isinstance" = some none) (z9 : PySem.W.nsIn K mainGlobals "int" = some none) (z10 : PySem.W.nsIn K mainGlobals "bool" = some none) (z11 : PySem.W.nsIn K mainGlobals "str" = some none) (z12 : PySem.W.nsIn K mainGlobals "tuple" = some none) (z13 : PySem.W.nsIn K mainGlobals "list" = some none) (z14 : PySem.W.nsIn K mainGlobals "sorted" = some none) (z15 : PySem.W.nsIn K mainGlobals "dict" = some none) (z16 : PySem.W.nsIn K mainGlobals "set" = some none) :
    ∃ fd : FuncData, (∀ (s : Shared) (v : Value), BindsTo s fd ⟨[v], []⟩ [("_law_script", v)]) ∧ ∀ base : Heap, K.In base → base.Ns mainGlobals mg → FnOk l.prog w K mg base CX0 7 fa fd ["_law_script"] (spP K m_law) := by
  have e := hfa.symm.trans (PySem.W.mg_of X G a16)
  cases e
  have T : Blt K mg := ⟨PySem.W.mg_none_of X G z1, PySem.W.mg_none_of X G z2, PySem.W.mg_none_of X G z3, PySem.W.mg_none_of X G z4, PySem.W.mg_none_of X G z5, PySem.W.mg_none_of X G z6, PySem.W.mg_none_of X G z7, PySem.W.mg_none_of X G z8, PySem.W.mg_none_of X G z9, PySem.W.mg_none_of X G z10, PySem.W.mg_none_of X G z11, PySem.W.mg_none_of X G z12, PySem.W.mg_none_of X G z13, PySem.W.mg_none_of X G z14, PySem.W.mg_none_of X G z15, PySem.W.mg_none_of X G z16, ⟨_, PySem.W.mg_of X G y1⟩, ⟨_, PySem.W.mg_of X G y2⟩, ⟨u0, u1, u2, u3, u4, u5, u6, u7, PySem.W.mg_of X G q1, PySem.W.mg_of X G q2, PySem.W.mg_of X G q3, PySem.W.mg_of X G q4, PySem.W.mg_of X G q5, PySem.W.mg_of X G q6, PySem.W.mg_of X G q7, PySem.W.mg_of X G q8, qa1, qa2, ⟨cls_is qa7, qa4, qa5, qa6, qc1, qc2, qa7, qa8⟩, qa9, qa10, qa11, qa12, qb1, qb2, ⟨cls_is qb7, qb4, qb5, qb6, qc1, qc2, qb7, qb8⟩, qb9, qb10, qb11, qb12, PySem.W.mg_none_of X G qc0⟩⟩
  have F1 := fun_mk (st := s_is_key) l1 c1 k1
  have b1 := F1.binds (ps := ["x"]) fun _ _ _ _ _ _ => us1 fun _ => rfl
  have F2 := fun_mk (st := s_is_between) l2 c2 k2
  have b2 := F2.binds (ps := ["v", "low", "high"]) fun _ _ _ _ _ _ => us3 fun _ _ _ => rfl
  have F3 := fun_mk (st := s_row_named) l3 c3 k3
  have b3 := F3.binds (ps := ["works", "name"]) fun _ _ _ _ _ _ => us2 fun _ _ => rfl
  have F4 := fun_mk (st := s_is_whole) l4 c4 k4
  have b4 := F4.binds (ps := ["x"]) fun _ _ _ _ _ _ => us1 fun _ => rfl
  have F5 := fun_mk (st := s_is_time) l5 c5 k5
  have b5 := F5.binds (ps := ["x"]) fun _ _ _ _ _ _ => us1 fun _ => rfl
  have F6 := fun_mk (st := s_is_thing_of) l6 c6 k6
  have b6 := F6.binds (ps := ["row", "thing"]) fun _ _ _ _ _ _ => us2 fun _ _ => rfl
  have F7 := fun_mk (st := s_is_coming) l7 c7 k7
  have b7 := F7.binds (ps := ["works", "coming"]) fun _ _ _ _ _ _ => us2 fun _ _ => rfl
  have F8 := fun_mk (st := s_check_coming) l8 c8 k8
  have b8 := F8.binds (ps := ["works", "marks", "coming"]) fun _ _ _ _ _ _ => us3 fun _ _ _ => rfl
  have F9 := fun_mk (st := s_law_cell_at) l9 c9 k9
  have b9 := F9.binds (ps := ["_law_script", "_law_k"]) fun _ _ _ _ _ _ => us2 fun _ _ => rfl
  have F10 := fun_mk (st := s_law_digits) l10 c10 k10
  have b10 := F10.binds (ps := ["_law_cell", "_law_many"]) fun _ _ _ _ _ _ => us2 fun _ _ => rfl
  have F11 := fun_mk (st := s_law_ins) l11 c11 k11
  have b11 := F11.binds (ps := ["_law_digits_here"]) fun _ _ _ _ _ _ => us1 fun _ => rfl
  have F12 := fun_mk (st := s_law_value) l12 c12 k12
  have b12 := F12.binds (ps := ["_law_bounds", "_law_digit"]) fun _ _ _ _ _ _ => us2 fun _ _ => rfl
  have F13 := fun_mk (st := s_law_sort) l13 c13 k13
  have b13 := F13.binds (ps := ["_law_works", "_law_marks", "_law_coming_here"]) fun _ _ _ _ _ _ => us3 fun _ _ _ => rfl
  have F14 := fun_mk (st := s_law_bad) l14 c14 k14
  have b14 := F14.binds (ps := ["_law_row", "_law_time", "_law_digits_here"]) fun _ _ _ _ _ _ => us3 fun _ _ _ => rfl
  have F15 := fun_mk (st := s_law_one) l15 c15 k15
  have b15 := F15.binds (ps := ["_law_works", "_law_marks", "_law_digits_here"]) fun _ _ _ _ _ _ => us3 fun _ _ _ => rfl
  have F16 := fun_mk (st := s_law) l16 c16 k16
  have b16 := F16.binds (ps := ["_law_script"]) fun _ _ _ _ _ _ => us1 fun _ => rfl
  refine ⟨PySem.W.fnOf "law" "law" (defArgs s_law) (defBody s_law) (defScope s_law) .none kV16 dc16 pm16 an16 cd16 ct16, fun s v => .of_eq rfl, fun base _ _ => ?_⟩
  have G1 : DefOk l.prog w K mg base 1 "is_key" m_is_key := ok_is_key F1 b1 (PySem.W.mg_of X G a1) T
  have G2 : DefOk l.prog w K mg base 1 "is_between" m_is_between := ok_is_between F2 b2 (PySem.W.mg_of X G a2) T
  have G3 : DefOk l.prog w K mg base 1 "row_named" m_row_named := ok_row_named F3 b3 (PySem.W.mg_of X G a3) T
  have G4 : DefOk l.prog w K mg base 1 "is_whole" m_is_whole := ok_is_whole F4 b4 (PySem.W.mg_of X G a4) T
  have G9 : DefOk l.prog w K mg base 1 "_law_cell_at" m_law_cell_at := ok_law_cell_at F9 b9 (PySem.W.mg_of X G a9) T
  have G10 : DefOk l.prog w K mg base 1 "_law_digits" m_law_digits := ok_law_digits F10 b10 (PySem.W.mg_of X G a10) T
  have G11 : DefOk l.prog w K mg base 1 "_law_ins" m_law_ins := ok_law_ins F11 b11 (PySem.W.mg_of X G a11) T
  have G12 : DefOk l.prog w K mg base 1 "_law_value" m_law_value := ok_law_value F12 b12 (PySem.W.mg_of X G a12) T
  have G5 : DefOk l.prog w K mg base 2 "is_time" m_is_time := ok_is_time F5 b5 (PySem.W.mg_of X G a5) T G4
  have G14 : DefOk l.prog w K mg base 2 "_law_bad" m_law_bad := ok_law_bad F14 b14 (PySem.W.mg_of X G a14) T G12
  have G6 : DefOk l.prog w K mg base 3 "is_thing_of" m_is_thing_of := ok_is_thing_of F6 b6 (PySem.W.mg_of X G a6) T G2 G1 G5 G4
  have G15 : DefOk l.prog w K mg base 3 "_law_one" m_law_one := ok_law_one F15 b15 (PySem.W.mg_of X G a15) T G14 G12
  have G7 : DefOk l.prog w K mg base 4 "is_coming" m_is_coming := ok_is_coming F7 b7 (PySem.W.mg_of X G a7) T G6 G5 G3
  have G8 : DefX l.prog w K mg base 5 "check_coming" m_check_coming := ok_check_coming F8 b8 (PySem.W.mg_of X G a8) T G7
  have G13 : DefOk l.prog w K mg base 6 "_law_sort" m_law_sort := ok_law_sort F13 b13 (PySem.W.mg_of X G a13) T G8
  exact fn_law F16 T G9 G10 G11 G15 G13
theorem walk {l : PySem.W.OpenLaw} {q : Program} {loose : List Str} {XP : (Str → Option Value) → Heap → Prop} {YP : World → Heap → Prop} {d : DefRec} {K : Params → PySem.W.Frag} (hn : l.most = some 63) (hdf : d.params.defaults = [])
    (hY : ∀ (w : World) (h : Heap), YP w h → (K w.params).In h)
    (F : ∀ (w : World) (mg : Str → Option Value) (fa : Addr) (h : Heap), (K w.params).In h → h.Ns mainGlobals mg → mg d.name = some (.ref fa) →
      ∃ fd : FuncData, (∀ (s : Shared) (u : Value), BindsTo s fd ⟨[u], []⟩ [("_law_script", u)]) ∧ ∀ base : Heap, (K w.params).In base → base.Ns mainGlobals mg → FnOk l.prog w (K w.params) mg base CX0 7 fa fd ["_law_script"] (spP (K w.params) m_law)) :
    PySem.W.WalkO q loose XP YP l.row.toRowW d [] (fun f vs => PySem.call f vs) :=
  L2.walk_of (n := 63) (k := 7) (x := "_law_script") (CX := fun _ => CX0) (sp := fun w => spP (K w.params) m_law) hn (by decide) hdf ⟨rfl, by decide, by decide⟩ hY F
    (fun w H a ns hl _ hS => ⟨H, [.lst (ns.map .int)], .bl true, Same.refl _, Reps.one (by unfold Rep; exact ⟨a, _, rfl, hS, reps_ints ns⟩), law_true ns hl, fun v Hi' H' S r => by unfold Rep at r; exact r⟩) fun _ _ _ _ _ z => z
end Fx
open PySem PySem.W PyProof.Rows
set_option maxRecDepth 100000 in
set_option maxHeartbeats 0 in
theorem PySem.Challenge.cw_latewell_k28_what_may_not_come_holds : PySem.Challenge.rw_latewell_k28_what_may_not_come.Holds := by
  w_on; o_law; k_head; (case hw => w_witness2)
  k_fill
  refine Fx.walk (l := PySem.Challenge.rw_latewell_k28_what_may_not_come) rfl rfl (fun w h Y => PySem.W.kIn_of Y) ?F
  case F =>
    intro w mg fa h KX G hmg
    refine' Fx.all_mk KX G hmg ?a1 ?l1 ?c1 ?k1 ?a2 ?l2 ?c2 ?k2 ?a3 ?l3 ?c3 ?k3 ?a4 ?l4 ?c4 ?k4 ?a5 ?l5 ?c5 ?k5 ?a6 ?l6 ?c6 ?k6 ?a7 ?l7 ?c7 ?k7 ?a8 ?l8 ?c8 ?k8 ?a9 ?l9 ?c9 ?k9 ?a10 ?l10 ?c10 ?k10 ?a11 ?l11 ?c11 ?k11 ?a12 ?l12 ?c12 ?k12 ?a13 ?l13 ?c13 ?k13 ?a14 ?l14 ?c14 ?k14 ?a15 ?l15 ?c15 ?k15 ?a16 ?l16 ?c16 ?k16 ?y1 ?y2 ?q1 ?q2 ?q3 ?q4 ?q5 ?q6 ?q7 ?q8 ?qa1 ?qa2 ?qa4 ?qa5 ?qa6 ?qa7 ?qa8 ?qa9 ?qa10 ?qa11 ?qa12 ?qb1 ?qb2 ?qb4 ?qb5 ?qb6 ?qb7 ?qb8 ?qb9 ?qb10 ?qb11 ?qb12 ?qc0 ?qc1 ?qc2 ?z1 ?z2 ?z3 ?z4 ?z5 ?z6 ?z7 ?z8 ?z9 ?z10 ?z11 ?z12 ?z13 ?z14 ?z15 ?z16
    (case a1 => k_is)
    (case l1 => k_is)
    (case c1 => k_is)
    (case k1 => k_is)
    (case a2 => k_is)
    (case l2 => k_is)
    (case c2 => k_is)
    (case k2 => k_is)
    (case a3 => k_is)
    (case l3 => k_is)
    (case c3 => k_is)
    (case k3 => k_is)
    (case a4 => k_is)
    (case l4 => k_is)
    (case c4 => k_is)
    (case k4 => k_is)
    (case a5 => k_is)
    (case l5 => k_is)
    (case c5 => k_is)
    (case k5 => k_is)
    (case a6 => k_is)
    (case l6 => k_is)
    (case c6 => k_is)
    (case k6 => k_is)
    (case a7 => k_is)
    (case l7 => k_is)
    (case c7 => k_is)
    (case k7 => k_is)
    (case a8 => k_is)
    (case l8 => k_is)
    (case c8 => k_is)
    (case k8 => k_is)
    (case a9 => k_is)
    (case l9 => k_is)
    (case c9 => k_is)
    (case k9 => k_is)
    (case a10 => k_is)
    (case l10 => k_is)
    (case c10 => k_is)
    (case k10 => k_is)
    (case a11 => k_is)
    (case l11 => k_is)
    (case c11 => k_is)
    (case k11 => k_is)
    (case a12 => k_is)
    (case l12 => k_is)
    (case c12 => k_is)
    (case k12 => k_is)
    (case a13 => k_is)
    (case l13 => k_is)
    (case c13 => k_is)
    (case k13 => k_is)
    (case a14 => k_is)
    (case l14 => k_is)
    (case c14 => k_is)
    (case k14 => k_is)
    (case a15 => k_is)
    (case l15 => k_is)
    (case c15 => k_is)
    (case k15 => k_is)
    (case a16 => k_is)
    (case l16 => k_is)
    (case c16 => k_is)
    (case k16 => k_is)
    (case y1 => k_is)
    (case y2 => k_is)
    (case q1 => k_is)
    (case q2 => k_is)
    (case q3 => k_is)
    (case q4 => k_is)
    (case q5 => k_is)
    (case q6 => k_is)
    (case q7 => k_is)
    (case q8 => k_is)
    (case qa1 => k_exc)
    (case qa2 => kts_exm)
    (case qa4 => k_is)
    (case qa5 => k_is)
    (case qa6 => k_is)
    (case qa7 => k_is)
    (case qa8 => k_is)
    (case qa9 => kit_is)
    (case qa10 => kit_is)
    (case qa11 => kit_is)
    (case qa12 => kit_is)
    (case qb1 => k_exc)
    (case qb2 => kts_exm)
    (case qb4 => k_is)
    (case qb5 => k_is)
    (case qb6 => k_is)
    (case qb7 => k_is)
    (case qb8 => k_is)
    (case qb9 => kit_is)
    (case qb10 => kit_is)
    (case qb11 => kit_is)
    (case qb12 => kit_is)
    (case qc0 => k_is)
    (case qc1 => k_is)
    (case qc2 => k_is)
    (case z1 => k_is)
    (case z2 => k_is)
    (case z3 => k_is)
    (case z4 => k_is)
    (case z5 => k_is)
    (case z6 => k_is)
    (case z7 => k_is)
    (case z8 => k_is)
    (case z9 => k_is)
    (case z10 => k_is)
    (case z11 => k_is)
    (case z12 => k_is)
    (case z13 => k_is)
    (case z14 => k_is)
    (case z15 => k_is)
    (case z16 => k_is)
