import PyProof.Rows.All
import Wide.All
import OpenK.AllK
import Wide.FinOn
import Lean
import PyProof.EqAt
import PyProof.EqKinds
import PyProof.TupleCall
import PySem.Sem
import PySem.Builtin.Int.W1All
import PyProof.StrBlockI
import PySem.Challenge.RW_latewell_k04_above_below_some
set_option Elab.async false
set_option linter.all false
set_option maxRecDepth 100000
namespace L2
open PySem PySem.Spec PyProof.Rows
abbrev Key := Sum Int Str
def keyIs : Key → Value → Bool
  | .inl k, v => Value.isInt k v
  | .inr x, v => Value.isStrOf x v
def keyH (w : World) : Key → Int
  | .inl k => hashInt k
  | .inr x => hashStr w x
theorem keyIs_shape : ∀ {k : Key} {v : Value}, keyIs k v = true → (∃ i t, k = Sum.inl i ∧ v = Value.int i t) ∨ (∃ x t, k = Sum.inr x ∧ v = Value.str x t)
  | .inl i, v, h => by
    obtain ⟨t, e⟩ := Value.isInt_shape (k := i) (v := v) h
    exact .inl ⟨i, t, rfl, e⟩
  | .inr x, v, h => by
    obtain ⟨t, e⟩ := Value.isStrOf_shape (x := x) (v := v) h
    exact .inr ⟨x, t, rfl, e⟩
theorem key_ll (a b : Int) : decide ((Sum.inl a : Key) = Sum.inl b) = (a == b) := by
  by_cases e : a = b
  · subst e; simp
  · have h : ¬ (Sum.inl a : Key) = Sum.inl b := fun q => e (Sum.inl.inj q)
    rw [decide_eq_false h]
    exact (beq_eq_false_iff_ne.mpr e).symm
theorem key_rr (a b : Str) : decide ((Sum.inr a : Key) = Sum.inr b) = decide (a = b) := by
  by_cases e : a = b
  · subst e; simp
  · have h : ¬ (Sum.inr a : Key) = Sum.inr b := fun q => e (Sum.inr.inj q)
    rw [decide_eq_false h, decide_eq_false e]
theorem key_lr (a : Int) (b : Str) : decide ((Sum.inl a : Key) = Sum.inr b) = false := decide_eq_false (fun q => nomatch q)
theorem key_rl (a : Str) (b : Int) : decide ((Sum.inr a : Key) = Sum.inl b) = false := decide_eq_false (fun q => nomatch q)
def mixKind (prog : Program) (w : World) : PySem.KeyKind prog w Key where
  is := keyIs
  hash := keyH w
  inj := fun v a b ha hb => by
    rcases keyIs_shape ha with ⟨i, t, rfl, rfl⟩ | ⟨x, t, rfl, rfl⟩
    · rcases keyIs_shape hb with ⟨j, u, rfl, e⟩ | ⟨y, u, rfl, e⟩
      · injection e with e1 _; rw [e1]
      · exact nomatch e
    · rcases keyIs_shape hb with ⟨j, u, rfl, e⟩ | ⟨y, u, rfl, e⟩
      · exact nomatch e
      · injection e with e1 _; rw [e1]
  byValue := fun k v h => by
    rcases keyIs_shape h with ⟨i, t, rfl, rfl⟩ | ⟨x, t, rfl, rfl⟩ <;> rfl
  pyHash := fun hv h => by
    rcases keyIs_shape hv with ⟨i, t, rfl, rfl⟩ | ⟨x, t, rfl, rfl⟩
    · exact wpAny_pyHash_int h
    · exact wpAny_pyHash_str h
  eqBool := fun hu hv h => by
    rcases keyIs_shape hu with ⟨i, t, rfl, rfl⟩ | ⟨x, t, rfl, rfl⟩
    · rcases keyIs_shape hv with ⟨j, u, rfl, rfl⟩ | ⟨y, u, rfl, rfl⟩
      · rw [key_ll] at h; exact wpAny_eqBool_int h
      · rw [key_lr] at h; exact SeqAt.EqAt.int_str i t y u _ _ _ _ h
    · rcases keyIs_shape hv with ⟨j, u, rfl, rfl⟩ | ⟨y, u, rfl, rfl⟩
      · rw [key_rl] at h; exact SeqAt.EqAt.str_int x t j u _ _ _ _ h
      · rw [key_rr] at h; exact wpAny_eqBool_str h
  «strs» := fun k x t v h => by
    rcases keyIs_shape h with ⟨i, u, rfl, e⟩ | ⟨y, u, rfl, e⟩
    · exact nomatch e
    · injection e with e1 _
      subst e1
      cases v <;> rfl
end L2
namespace L2
open PySem PySem.Spec PyProof.Rows
inductive V where
  | non | bl (b : Bool) | int (i : Int) | str (x : Str) | byt (b : Array UInt8) | flt (b : UInt64) | ref (a : Addr) | ty (n : String)
  deriving DecidableEq
def RelV : V → Value → Prop
  | .non, u => u = Value.none
  | .bl b, u => u = Value.bool b
  | .int i, u => ∃ t, u = Value.int i t
  | .str x, u => ∃ t, u = Value.str x t
  | .byt b, u => ∃ t, u = Value.bytes b t
  | .flt b, u => ∃ t, u = Value.float b t
  | .ref a, u => u = Value.ref a
  | .ty n, u => u = Value.type n
abbrev Vals : List V → List Value → Prop := Paired RelV
theorem Vals.length {xs : List V} {us : List Value} (r : Vals xs us) : xs.length = us.length := Paired.length r
theorem Vals.get : ∀ {xs : List V} {us : List Value} {i : Nat} {x : V}, Vals xs us → xs[i]? = some x → ∃ u, us[i]? = some u ∧ RelV x u
  | _, _, _, _, .nil, e => by simp at e
  | _, _, 0, _, .cons r _, e => by simp at e; subst e; exact ⟨_, rfl, r⟩
  | _, _, i + 1, x, .cons _ t, e => by
    obtain ⟨u, h1, h2⟩ := Vals.get (i := i) (x := x) t (by simpa using e)
    exact ⟨u, by simpa using h1, h2⟩
theorem Vals.set {x : V} {u : Value} (r : RelV x u) : ∀ {xs : List V} {us : List Value} (i : Nat), Vals xs us → Vals (xs.set i x) (us.set i u)
  | _, _, _, .nil => .nil
  | _, _, 0, .cons _ t => .cons r t
  | _, _, i + 1, .cons q t => .cons q (Vals.set r i t)
theorem Vals.append : ∀ {xs ys : List V} {us ws : List Value}, Vals xs us → Vals ys ws → Vals (xs ++ ys) (us ++ ws)
  | _, _, _, _, .nil, s => s
  | _, _, _, _, .cons r t, s => .cons r (Vals.append t s)
theorem Vals.take : ∀ {xs : List V} {us : List Value} (n : Nat), Vals xs us → Vals (xs.take n) (us.take n)
  | _, _, 0, _ => .nil
  | _, _, _ + 1, .nil => .nil
  | _, _, n + 1, .cons r t => .cons r (Vals.take n t)
theorem Vals.drop : ∀ {xs : List V} {us : List Value} (n : Nat), Vals xs us → Vals (xs.drop n) (us.drop n)
  | _, _, 0, r => r
  | _, _, _ + 1, .nil => .nil
  | _, _, n + 1, .cons _ t => Vals.drop n t
def RelO : Option V → Option Value → Prop
  | some v, some u => RelV v u
  | none, none => True
  | _, _ => False
def KV {κ : Type} : List (κ × V) → List (κ × Value) → Prop := Paired fun (p : κ × V) (q : κ × Value) => p.1 = q.1 ∧ RelV p.2 q.2
def kV : Key → V
  | .inl i => .int i
  | .inr x => .str x
inductive HO where
  | lst (xs : List V)
  | tup (xs : List V)
  | dK (kvs : List (Key × V)) | dT (kvs : List (List Key × V))
  | set (S : Int → Bool) (n : Nat)
  | ins (C dx : Addr) (fs : List (Str × V))
  | own (x : Addr)
  | xd (fs : List (Str × V))
  | met (f x : Addr)
  | rng (lo hi : Int)
  | frz (o : Obj) (u : HO)
  | tbl (q : Str)
  | cod (q : Str)
  | ext (φ : Heap → Prop)
abbrev Hp := Addr → Option HO
def TabP : Addr := 58
def TabQ : Str := "nearest.<locals>.<lambda>"
def upd (H : Hp) (a : Addr) (o : HO) : Hp := fun b => if b = a then some o else H b
theorem upd_same {H : Hp} {a : Addr} {o : HO} : upd H a o a = some o := by unfold upd; rw [if_pos rfl]
theorem upd_ne {H : Hp} {a b : Addr} {o : HO} (h : b ≠ a) : upd H a o b = H b := by unfold upd; rw [if_neg h]
theorem ne_of_none {H : Hp} {a b : Addr} {o : HO} (h : H a = some o) (h' : H b = none) : a ≠ b := by
  intro e; subst e; rw [h] at h'; cases h'
def IsTuN (h : Heap) (a : Addr) (items : Array Value) : Prop := ∃ o, h.get? a = some o ∧ o.cls = .type "tuple" ∧ (∃ n, o.data = .seq items n) ∧ o.dict = none
theorem IsTuN.tup {h : Heap} {a : Addr} {items : Array Value} (x : IsTuN h a items) : IsTup h a items := let ⟨o, p, q, ⟨n, r⟩, _⟩ := x; ⟨o, p, q, n, r⟩
theorem IsTuN.new (h : Heap) (items : Array Value) : IsTuN (h.push { cls := .type "tuple", data := .seq items }) h.objs.size items := ⟨_, Heap.get?_push_size _ rfl, rfl, ⟨0, rfl⟩, rfl⟩
section
variable (P : Program) (w : World)
def ObjOk (H : Hp) (h : Heap) (a : Addr) : HO → Prop
  | .lst xs => xs.length ≤ sizeLine ∧ ∃ (its : List Value) (n : Nat), Vals xs its ∧ h.get? a = some { cls := .type "list", data := .seq its.toArray n }
  | .tup xs => xs.length ≤ sizeLine ∧ ∃ its : List Value, Vals xs its ∧ IsTuN h a its.toArray
  | .dK kvs => kvs.length ≤ sizeLine ∧ (a == sysModules) = false ∧ ∃ vs, KV kvs vs ∧ h.DictOf (mixKind P w) a vs
  | .dT kvs => kvs.length ≤ sizeLine ∧ (a == sysModules) = false ∧ ∃ xs : List (List Key × Addr × Value),
      Paired (fun (p : List Key × V) (q : List Key × Addr × Value) => p.1 = q.1 ∧ H q.2.1 = some (.tup (p.1.map kV)) ∧ RelV p.2 q.2.2) kvs xs ∧
      ∃ o es ep, h.get? a = some o ∧ o.ExactDict ∧ o.data = .dict es ep ∧ es.toList = xs.map (entryOfKey (tupleKind (mixKind P w))) ∧ (xs.map (·.1)).Nodup
  | .set S n => h.SetOf (intKind P w) a S n
  | .ins C dx fs => H dx = some (.own a) ∧ fs.length ≤ 1000 ∧ dx ≠ a ∧ h.get? a = some (PySem.W.instObj C dx) ∧
      ∃ mA, h.Ns1 dx mA ∧ (∀ f, RelO (fs.lookup f) (mA f)) ∧ PySem.Within mA (fs.map (·.1))
  | .own _ => ∃ o, h.get? a = some o
  | .xd fs => ∃ mA, h.Ns1 a mA ∧ ∀ f, RelO (fs.lookup f) (mA f)
  | .rng lo hi => ∃ t u v, h.get? a = some { cls := .type "range", data := .fields #[.int lo t, .int hi u, .int 1 v] }
  | .frz o u => h.get? a = some o ∧ ObjOk H h a u
  | .tbl q => ∃ ps, h.get? a = some (PySem.W.tabObj ps) ∧ TriplesOk ps.toList ∧ ∀ pos, codeAmong pos ps.toList = none ∨ ∃ c', codeAmong pos ps.toList = some (.ref c') ∧ H c' = some (.cod q)
  | .cod q => h.CodeRec (.ref a) q
  | .met f x => h.get? a = some (PySem.W.methodObj (.ref f) (.ref x))
  | .ext φ => φ h ∧ (∃ o, h.get? a = some o) ∧ ∀ h1 h2 : Heap, φ h1 → (∀ o, h1.get? a = some o → h2.get? a = some o) → φ h2
def HOk (H : Hp) (h : Heap) : Prop := ∀ a o, H a = some o → ObjOk P w H h a o
end
section
variable {P : Program} {w : World} {H H' : Hp} {h h' : Heap} {a : Addr} {o : HO}
theorem ObjOk.lt (x : ObjOk P w H h a o) : a < h.objs.size := by
  cases o with
  | lst xs => obtain ⟨_, _, _, _, e⟩ := x; exact Heap.lt_size e
  | tup xs => obtain ⟨_, _, _, p⟩ := x; exact p.tup.lt
  | dK kvs => obtain ⟨_, _, _, _, o, _, _, e, _⟩ := x; exact Heap.lt_size e
  | dT kvs => obtain ⟨_, _, _, _, o, _, _, e, _⟩ := x; exact Heap.lt_size e
  | set S n => obtain ⟨o, _, _, _, e, _⟩ := x; exact Heap.lt_size e
  | ins C dx fs => obtain ⟨_, _, _, e, _⟩ := x; exact Heap.lt_size e
  | own y => obtain ⟨_, e⟩ := x; exact Heap.lt_size e
  | xd fs => obtain ⟨_, ⟨_, _, _, e, _⟩, _⟩ := x; exact Heap.lt_size e
  | rng lo hi => obtain ⟨_, _, _, e⟩ := x; exact Heap.lt_size e
  | frz ob u => obtain ⟨e, _⟩ := x; exact Heap.lt_size e
  | tbl q => obtain ⟨_, e, _⟩ := x; exact Heap.lt_size e
  | cod q => obtain ⟨_, _, _, _, e, e2, _⟩ := x; cases e; exact Heap.lt_size e2
  | met f y => exact Heap.lt_size (show h.get? a = some _ from x)
  | ext φ => obtain ⟨_, ⟨_, e⟩, _⟩ := x; exact Heap.lt_size e
theorem Paired.mapP {α β : Type} {F G : α → β → Prop} : ∀ {l₁ : List α} {l₂ : List β}, Paired F l₁ l₂ → (∀ a b, F a b → G a b) → Paired G l₁ l₂
  | _, _, .nil, _ => .nil
  | _, _, .cons r t, f => .cons (f _ _ r) (Paired.mapP t f)
theorem ObjOk.stay (x : ObjOk P w H h a o) (k : ∀ b u, (b = a ∨ H b = some (.own a)) → h.get? b = some u → h'.get? b = some u)
    (ho : ∀ b, H b = some (.own a) → H' b = some (.own a)) (ht : ∀ b xs, H b = some (.tup xs) → H' b = some (.tup xs)) (hc : ∀ b q, H b = some (.cod q) → H' b = some (.cod q)) : ObjOk P w H' h' a o := by
  induction o with
  | lst xs => obtain ⟨z, its, n, r, e⟩ := x; exact ⟨z, its, n, r, k _ _ (.inl rfl) e⟩
  | tup xs => obtain ⟨z, its, r, ob, e, c⟩ := x; exact ⟨z, its, r, ob, k _ _ (.inl rfl) e, c⟩
  | dK kvs => obtain ⟨z, y, vs, r, ob, es, ep, e, c⟩ := x; exact ⟨z, y, vs, r, ob, es, ep, k _ _ (.inl rfl) e, c⟩
  | dT kvs =>
    obtain ⟨z, y, xs, r, ob, es, ep, e, c⟩ := x
    exact ⟨z, y, xs, Paired.mapP r fun p q z => ⟨z.1, ht _ _ z.2.1, z.2.2⟩, ob, es, ep, k _ _ (.inl rfl) e, c⟩
  | set S n => obtain ⟨ob, es, ep, t, e, c⟩ := x; exact ⟨ob, es, ep, t, k _ _ (.inl rfl) e, c⟩
  | ins C dx fs =>
    obtain ⟨d, z, ne, e, mA, ⟨od, es, ep, e2, c⟩, r⟩ := x
    exact ⟨ho _ d, z, ne, k _ _ (.inl rfl) e, mA, ⟨od, es, ep, k _ _ (.inr d) e2, c⟩, r⟩
  | own y => obtain ⟨ob, e⟩ := x; exact ⟨ob, k _ _ (.inl rfl) e⟩
  | xd fs => obtain ⟨mA, ⟨od, es, ep, e, c⟩, r⟩ := x; exact ⟨mA, ⟨od, es, ep, k _ _ (.inl rfl) e, c⟩, r⟩
  | rng lo hi => obtain ⟨t, u, v, e⟩ := x; exact ⟨t, u, v, k _ _ (.inl rfl) e⟩
  | frz ob u ih => obtain ⟨e, q⟩ := x; exact ⟨k _ _ (.inl rfl) e, ih q⟩
  | tbl q =>
    obtain ⟨ps, e, tr, al⟩ := x
    refine ⟨ps, k _ _ (.inl rfl) e, tr, fun pos => ?_⟩
    rcases al pos with z | ⟨c', z, y⟩
    · exact .inl z
    · exact .inr ⟨c', z, hc _ _ y⟩
  | cod q => obtain ⟨c, oc, vs, t, e, e2, r⟩ := x; cases e; exact ⟨_, oc, vs, t, rfl, k _ _ (.inl rfl) e2, r⟩
  | met f y =>
    have e : h.get? a = some (PySem.W.methodObj (.ref f) (.ref y)) := x
    show h'.get? a = some (PySem.W.methodObj (.ref f) (.ref y))
    exact k a _ (.inl rfl) e
  | ext φ => obtain ⟨p, ⟨o, e⟩, st⟩ := x; exact ⟨st _ _ p fun o q => k _ _ (.inl rfl) q, ⟨o, k _ _ (.inl rfl) e⟩, st⟩
theorem HOk.lt (x : HOk P w H h) (e : H a = some o) : a < h.objs.size := (x a o e).lt
theorem HOk.fresh (x : HOk P w H h) (e : h.objs.size ≤ a) : H a = none := by
  cases q : H a with
  | none => rfl
  | some u => exact absurd (Nat.lt_of_lt_of_le (x.lt q) e) (Nat.lt_irrefl _)
theorem HOk.kept (x : HOk P w H h) (k : ∀ b u, h.get? b = some u → h'.get? b = some u) : HOk P w H h' := fun a o e =>
  (x a o e).stay (fun b u _ q => k b u q) (fun _ q => q) (fun _ _ q => q) fun _ _ q => q
theorem HOk.laid (x : HOk P w H h) (k : ∀ b u, h.get? b = some u → h'.get? b = some u) (hp : h.objs.size ≤ a) (new : ObjOk P w (upd H a o) h' a o) : HOk P w (upd H a o) h' := fun b u e => by
  have hn := x.fresh hp
  by_cases hb : b = a
  · subst hb; rw [upd_same] at e; cases e; exact new
  · rw [upd_ne hb] at e
    exact (x b u e).stay (fun c v _ q => k c v q) (fun c q => by rw [upd_ne (ne_of_none q hn)]; exact q) (fun c xs q => by rw [upd_ne (ne_of_none q hn)]; exact q) fun c xs q => by rw [upd_ne (ne_of_none q hn)]; exact q
end
def Rd (H : Hp) (a : Addr) (u : HO) : Prop := H a = some u ∨ ∃ o, H a = some (.frz o u)
theorem Rd.of {H : Hp} {a : Addr} {u : HO} (h : H a = some u) : Rd H a u := .inl h
theorem Rd.ok {P : Program} {w : World} {H : Hp} {h : Heap} {a : Addr} {u : HO} (r : Rd H a u) (x : HOk P w H h) : ObjOk P w H h a u := by
  rcases r with r | ⟨o, r⟩
  · exact x a u r
  · obtain ⟨_, q⟩ := x a _ r
    exact q
def Mut : Option HO → Prop
  | some (.lst _) => True
  | some (.dK _) => True
  | some (.dT _) => True
  | some (.set _ _) => True
  | some (.ins _ _ _) => True
  | some (.ext _) => True
  | _ => False
section
variable {P : Program} {w : World} {H : Hp} {h h' : Heap} {x e : Addr} {o' : HO}
theorem HOk.write (ok : HOk P w H h) (mu : Mut (H x)) (he : e = x ∨ H e = some (.own x)) (k : ∀ b u, b ≠ e → h.get? b = some u → h'.get? b = some u) (heo : ∃ u, h'.get? e = some u)
    (new : ObjOk P w (upd H x o') h' x o') : HOk P w (upd H x o') h' := fun b u q => by
  have nown : ∀ c y, H c = some (.own y) → c ≠ x := fun c y r z => by subst z; rw [r] at mu; exact mu
  have ntup : ∀ c xs, H c = some (.tup xs) → c ≠ x := fun c xs r z => by subst z; rw [r] at mu; exact mu
  have ncod : ∀ c xs, H c = some (.cod xs) → c ≠ x := fun c xs r z => by subst z; rw [r] at mu; exact mu
  by_cases hb : b = x
  · subst hb; rw [upd_same] at q; cases q; exact new
  · rw [upd_ne hb] at q
    by_cases hbe : b = e
    · have q' : H b = some (.own x) := by
        rcases he with z | z
        · exact absurd (hbe.trans z) hb
        · rw [hbe]; exact z
      rw [q] at q'; cases q'
      obtain ⟨v, hv⟩ := heo
      exact ⟨v, by rw [hbe]; exact hv⟩
    · refine (ok b u q).stay (fun c v hc r => k c v ?_ r) (fun c r => by rw [upd_ne (nown c b r)]; exact r) (fun c xs r => by rw [upd_ne (ntup c xs r)]; exact r) fun c xs r => by rw [upd_ne (ncod c xs r)]; exact r
      rcases hc with rfl | hc
      · exact hbe
      · rintro rfl
        rcases he with z | z
        · exact nown c b hc z
        · rw [hc] at z; cases z; exact hb rfl
end
structure Un (fs ex : List Addr) (H H' : Hp) (h h' : Heap) : Prop where
  keep : ∀ b o, h.get? b = some o → H b = none → b ∉ fs → b ∉ ex → h'.get? b = some o
  slot : ∀ b o, h.get? b = some o → H b = none → b ∈ fs → b ∉ ex → ∃ sl, h'.get? b = some { o with slots := sl }
  free : ∀ b o, h.get? b = some o → H b = none → b ∉ ex → H' b = none
  there : ∀ b o, h.get? b = some o → b ∉ ex → ∃ o', h'.get? b = some o'
  tups : ∀ b xs, H b = some (.tup xs) → H' b = some (.tup xs)
  frzs : ∀ b o u, H b = some (.frz o u) → H' b = some (.frz o u)
  tbls : ∀ b q, H b = some (.tbl q) → H' b = some (.tbl q)
section
variable {fs fs' ex ex' : List Addr} {H H1 H2 : Hp} {h h1 h2 h' : Heap} {a x e : Addr} {o : HO}
theorem Un.any (u : Un fs ex H H1 h h1) {b : Addr} {ob : Obj} (q : h.get? b = some ob) (n : H b = none) (hx : b ∉ ex) : ∃ sl, h1.get? b = some { ob with slots := sl } := by
  by_cases hb : b ∈ fs
  · exact u.slot b ob q n hb hx
  · exact ⟨ob.slots, u.keep b ob q n hb hx⟩
theorem Un.trans (a : Un fs ex H H1 h h1) (b : Un fs ex H1 H2 h1 h2) : Un fs ex H H2 h h2 where
  keep := fun c ob q n hc hx => b.keep c ob (a.keep c ob q n hc hx) (a.free c ob q n hx) hc hx
  slot := fun c ob q n hc hx => by
    obtain ⟨sl, e1⟩ := a.slot c ob q n hc hx
    obtain ⟨sl', e2⟩ := b.slot c _ e1 (a.free c ob q n hx) hc hx
    exact ⟨sl', e2⟩
  free := fun c ob q n hx => by
    obtain ⟨o', e1⟩ := a.there c ob q hx
    exact b.free c o' e1 (a.free c ob q n hx) hx
  there := fun c ob q hx => by
    obtain ⟨o', e1⟩ := a.there c ob q hx
    exact b.there c o' e1 hx
  tups := fun c xs q => b.tups c xs (a.tups c xs q)
  frzs := fun c ob xs q => b.frzs c ob xs (a.frzs c ob xs q)
  tbls := fun c xs q => b.tbls c xs (a.tbls c xs q)
theorem Un.kept (k : ∀ b u, h.get? b = some u → h'.get? b = some u) : Un fs ex H H h h' :=
  ⟨fun b ob q _ _ _ => k b ob q, fun b ob q _ _ _ => ⟨ob.slots, k b ob q⟩, fun _ _ _ n _ => n, fun b ob q _ => ⟨ob, k b ob q⟩, fun _ _ q => q, fun _ _ _ q => q, fun _ _ q => q⟩
theorem Un.refl : Un fs ex H H h h := Un.kept fun _ _ q => q
theorem Un.laid (k : ∀ b u, h.get? b = some u → h'.get? b = some u) (hp : h.objs.size ≤ a) (hn : H a = none) : Un fs ex H (upd H a o) h h' where
  keep := fun b u q _ _ _ => k b u q
  slot := fun b u q _ _ _ => ⟨u.slots, k b u q⟩
  free := fun b u q n _ => by rw [upd_ne (Nat.ne_of_lt (Nat.lt_of_lt_of_le (Heap.lt_size q) hp))]; exact n
  there := fun b u q _ => ⟨u, k b u q⟩
  tups := fun b xs q => by rw [upd_ne (ne_of_none q hn)]; exact q
  frzs := fun b u xs q => by rw [upd_ne (ne_of_none q hn)]; exact q
  tbls := fun b xs q => by rw [upd_ne (ne_of_none q hn)]; exact q
theorem Un.write (mu : Mut (H x)) (he : e = x ∨ H e = some (.own x)) (k : ∀ b u, b ≠ e → h.get? b = some u → h'.get? b = some u) (heo : ∃ u, h'.get? e = some u) : Un fs ex H (upd H x o) h h' := by
  have hx : ∀ b, H b = none → b ≠ x := fun b n z => by subst z; rw [n] at mu; exact mu
  have hb : ∀ b, H b = none → b ≠ e := fun b n z => by
    subst z
    rcases he with r | r
    · exact hx b n r
    · rw [n] at r; cases r
  have hm : ∀ b u, H b = some u → ¬ Mut (some u) → b ≠ x := fun b u q nm z => by subst z; rw [q] at mu; exact nm mu
  refine ⟨fun b u q n _ _ => k b u (hb b n) q, fun b u q n _ _ => ⟨u.slots, k b u (hb b n) q⟩, fun b u q n _ => by rw [upd_ne (hx b n)]; exact n, fun b u q _ => ?_,
    fun b xs q => by rw [upd_ne (hm b _ q fun z => z)]; exact q, fun b u xs q => by rw [upd_ne (hm b _ q fun z => z)]; exact q, fun b xs q => by rw [upd_ne (hm b _ q fun z => z)]; exact q⟩
  by_cases hbe : b = e
  · subst hbe; exact heo
  · exact ⟨u, k b u hbe q⟩
theorem Un.mono (u : Un fs ex H H1 h h1) (hs : ∀ b ∈ fs, b ∈ fs') (hx : ∀ b ∈ ex, b ∈ ex') : Un fs' ex' H H1 h h1 :=
  ⟨fun b ob q n hb he => u.keep b ob q n (fun z => hb (hs b z)) fun z => he (hx b z), fun _ _ q n _ he => u.any q n fun z => he (hx _ z), fun b ob q n he => u.free b ob q n fun z => he (hx b z), fun b ob q he => u.there b ob q fun z => he (hx b z), u.tups, u.frzs, u.tbls⟩
end
def trk (h : Heap) (H : Hp) : List Addr := (List.range h.objs.size).filter fun a => (H a).isSome
def hidT (h : Heap) (H : Hp) : Heap := PySem.W.hideAll h (trk h H)
theorem hidT_size (h : Heap) (H : Hp) : (hidT h H).objs.size = h.objs.size := PySem.W.hideAll_size _ _
theorem hidT_get {h : Heap} {H : Hp} {b : Addr} {o : Obj} (e : h.get? b = some o) (n : H b = none) : (hidT h H).get? b = some o :=
  PySem.W.hideAll_get _ e fun hm => by
    have q : (H b).isSome = true := (List.mem_filter.mp hm).2
    rw [n] at q; simp at q
theorem of_hidT {h : Heap} {H : Hp} {b : Addr} {o : Obj} (e : (hidT h H).get? b = some o) : h.get? b = some o ∧ H b = none := by
  have e' : h.get? b = some o := PySem.W.of_hideAll (trk h H) e
  refine ⟨e', ?_⟩
  cases q : H b with
  | none => rfl
  | some x =>
    have hm : b ∈ trk h H := List.mem_filter.mpr ⟨List.mem_range.mpr (Heap.lt_size e'), by simp [q]⟩
    have z : (hidT h H).get? b = none := PySem.W.hideAll_none (trk h H) hm
    rw [z] at e; cases e
def allNews (g h : Heap) (L : Addr) : List (Addr × Obj) := (List.range h.objs.size).filterMap fun a => if a = L ∨ (g.get? a).isSome = true then none else (h.get? a).map fun o => (a, o)
def rest (g h : Heap) (L d : Addr) : List (Addr × Obj) := (allNews g h L).filter fun p => decide (p.1 ≠ d)
end L2
namespace L2
open PySem PySem.Spec PyProof.Rows
structure Mod (K : PySem.W.Frag) (mg : Str → Option Value) (base : Heap) : Prop where
  kin : K.In base
  glob : base.Ns mainGlobals mg
  blt : ∃ mb, base.Ns builtinsNs mb ∧ ∀ x : Str, x ≠ "__name__" → mb x = bootBuiltins x
  nolimit : base.NoLimit
  bm : ∃ bm ob, mg "__builtins__" = some (.ref bm) ∧ bm ≠ builtinsNs ∧ base.get? bm = some ob ∧ ob.cls = .type "module" ∧ ob.dict = some builtinsNs ∧ ob.data = .plain
structure Cx where
  prog : Program
  w : World
  K : PySem.W.Frag
  mg : Str → Option Value
  base : Heap
  A : Around
  N : List Str
  s₀ : Shared
  H₀ : Hp
  env : Env
  outer : List Env
  stack : List Env
  ex : List Addr
  fn : Str → Bool
  calm : Bool
  pn : List (Addr × Obj)
  xe : Value → Shared → Prop
def frs (l : List Env) : List Addr := l.filterMap (·.frame)
abbrev Cx.fs (X : Cx) : List Addr := frs X.outer
def Vis (sc : Scope) (x : Str) : Prop := sc.names.lookup x = some .local ∨ sc.names.lookup x = some .cell ∨ sc.names.lookup x = some .free
def Loc (sc : Scope) (x : Str) : Prop := sc.names.lookup x = some .local ∨ sc.names.lookup x = some .cell
def Look (env : Env) (h : Heap) (m : Str → Option Value) (x : Str) (u : Value) : Prop :=
  (env.kindOf x = some .local ∧ m x = some u) ∨ ((env.kindOf x = some .cell ∨ env.kindOf x = some .free) ∧ ∃ c, env.cells.lookup x = some c ∧ h.IsCell c (some u))
structure Cx.Ok (X : Cx) : Prop where
  mod : Mod X.K X.mg X.base
  kind : X.env.scope.kind = .function
  glob : X.env.globals = mainGlobals
  blt : X.env.builtins = builtinsNs
  above : X.s₀.heap.objs.size ≤ X.env.locals
  inj : ∀ x y c, X.env.cells.lookup x = some c → X.env.cells.lookup y = some c → x = y
  has : ∀ x, (X.env.kindOf x = some .cell ∨ X.env.kindOf x = some .free) → ∃ c, X.env.cells.lookup x = some c
  cab : ∀ x c, X.fn x = true → X.env.cells.lookup x = some c → X.s₀.heap.objs.size ≤ c
  hd : X.calm = true → X.A.handled = none
  frames : X.A.frames = some X.stack
  stk : X.stack = X.outer ∨ (X.stack = X.env :: X.outer ∧ X.env.frame = some X.env.locals)
  exf : ∀ b ∈ X.ex, b ≠ X.env.locals ∧ ∀ x c, X.env.cells.lookup x = some c → c ≠ b
  bs : ∀ b o, X.base.get? b = some o → X.s₀.heap.get? b = some o ∧ X.H₀ b = none
  bsz : X.base.objs.size ≤ X.s₀.heap.objs.size
  noex : ∀ b o, X.base.get? b = some o → b ∉ X.ex
  exfs : ∀ b ∈ X.ex, b ∉ X.fs
  funs : X.s₀.heap.FunFrames X.base X.outer
  frf : ∀ b ∈ X.fs, X.H₀ b = none
  tab : X.H₀ TabP = some (.tbl TabQ)
structure Inv (X : Cx) (pins : List (Addr × Obj)) (σ : List (Option V)) (H : Hp) (s : Shared) : Prop where
  ok : X.Ok
  os : s.os = X.s₀.os
  bare : AllBare s.gens
  base : Un X.fs X.ex X.H₀ H X.s₀.heap s.heap
  loc : ∃ m, s.heap.Ns X.env.locals m ∧ ∀ (i : Nat) (x : Str) (v : V), X.N[i]? = some x → σ[i]? = some (some v) → Vis X.env.scope x → ∃ u, RelV v u ∧ Look X.env s.heap m x u
  cell : ∀ x c, X.env.cells.lookup x = some c → ∃ v, s.heap.IsCell c v
  free : H X.env.locals = none
  freeC : ∀ x c, X.env.cells.lookup x = some c → H c = none
  pin : ∀ p ∈ X.pn ++ pins, s.heap.get? p.1 = some p.2 ∧ H p.1 = none ∧ p.1 ≠ X.env.locals ∧ p.1 ∉ X.fs ∧ ∀ v, p.2.data ≠ .cell v
  hok : HOk X.prog X.w H s.heap
  len : σ.length = X.N.length
section
variable {X : Cx} {pins : List (Addr × Obj)} {σ : List (Option V)} {H H' : Hp} {s : Shared} {h' : Heap}
theorem Cx.Ok.nofr (ok : X.Ok) {b : Addr} {o : Obj} (e : X.base.get? b = some o) : b ∉ X.fs := fun hb => by
  have := (ok.funs.mem hb).1
  rw [e] at this; cases this
theorem Inv.bs (I : Inv X pins σ H s) : ∀ b o, X.base.get? b = some o → s.heap.get? b = some o ∧ H b = none := fun b o e =>
  ⟨I.base.keep b o (I.ok.bs b o e).1 (I.ok.bs b o e).2 (I.ok.nofr e) (I.ok.noex b o e), I.base.free b o (I.ok.bs b o e).1 (I.ok.bs b o e).2 (I.ok.noex b o e)⟩
theorem Inv.bk (I : Inv X pins σ H s) : ∀ b o, X.base.get? b = some o → s.heap.get? b = some o := fun b o e => (I.bs b o e).1
theorem Inv.mod (I : Inv X pins σ H s) : Mod X.K X.mg X.base := I.ok.mod
theorem Inv.kIn (I : Inv X pins σ H s) : X.K.In s.heap := I.ok.mod.kin.keeps I.bk
theorem Inv.nolimit (I : Inv X pins σ H s) : s.heap.NoLimit := I.ok.mod.nolimit.keeps I.bk
theorem Inv.fr (I : Inv X pins σ H s) : ∃ m, Fr X.base X.env.locals s.heap m :=
  let ⟨m, hn, _⟩ := I.loc
  ⟨m, hn, I.bk, Nat.le_trans I.ok.bsz I.ok.above⟩
theorem Inv.lt (I : Inv X pins σ H s) : X.env.locals < s.heap.objs.size := let ⟨_, hn, _⟩ := I.loc; hn.lt
theorem Inv.sz (I : Inv X pins σ H s) : X.s₀.heap.objs.size ≤ s.heap.objs.size := Nat.le_trans I.ok.above (Nat.le_of_lt I.lt)
theorem Inv.nofs (I : Inv X pins σ H s) {a : Addr} (h : s.heap.objs.size ≤ a) : a ∉ X.fs := fun hb => by
  obtain ⟨_, o, ho, _⟩ := I.ok.funs.mem hb
  exact absurd (Nat.lt_of_lt_of_le (Heap.lt_size ho) (Nat.le_trans I.sz h)) (Nat.lt_irrefl _)
theorem Inv.cne (I : Inv X pins σ H s) : ∀ x c, X.env.cells.lookup x = some c → c ≠ X.env.locals := fun x c e z => by
  obtain ⟨v, o, ho, hd⟩ := I.cell x c e
  obtain ⟨m, ⟨o', es, ep, ho', hd', _⟩, _⟩ := I.loc
  rw [z, ho'] at ho; cases ho; rw [hd'] at hd; cases hd
theorem Inv.funs (I : Inv X pins σ H s) : s.heap.FunFrames X.base X.outer := by
  have all : ∀ (l : List Env), (∀ b ∈ frs l, b ∈ X.fs) → X.s₀.heap.FunFrames X.base l → s.heap.FunFrames X.base l := by
    intro l
    induction l with
    | nil => intro _ _; trivial
    | cons env r ih =>
      intro hs hl
      obtain ⟨hk, ⟨L, o, hf, hn, ho, hd⟩, hr⟩ := hl
      have hL : L ∈ X.fs := hs L (by unfold frs; rw [List.filterMap_cons, hf]; exact List.mem_cons_self)
      obtain ⟨sl, e⟩ := I.base.slot L o ho (I.ok.frf L hL) hL fun z => I.ok.exfs L z hL
      exact ⟨hk, ⟨L, _, hf, hn, e, hd⟩, ih (fun b hb => hs b (by unfold frs; rw [List.filterMap_cons, hf]; exact List.mem_cons_of_mem _ hb)) hr⟩
  exact all X.outer (fun _ hb => hb) I.ok.funs
theorem Inv.stack (I : Inv X pins σ H s) : s.heap.FunFrames X.base X.stack := by
  rcases I.ok.stk with e | ⟨e, hf⟩
  · rw [e]; exact I.funs
  · rw [e]
    obtain ⟨m, hn, _⟩ := I.loc
    refine .cons (by rw [I.ok.kind]; decide) hf hn ?_ I.funs
    exact Heap.get?_none_of_le (Nat.le_trans I.ok.bsz I.ok.above)
theorem Inv.stkSub (I : Inv X pins σ H s) : ∀ b ∈ frs X.stack, b ∈ X.env.locals :: X.fs := fun b hb => by
  rcases I.ok.stk with e | ⟨e, hf⟩
  · rw [e] at hb; exact List.mem_cons_of_mem _ hb
  · rw [e] at hb
    unfold frs at hb
    rw [List.filterMap_cons, hf] at hb
    exact hb
theorem Inv.stkFree (I : Inv X pins σ H s) : ∀ b ∈ frs X.stack, H b = none := fun b hb => by
  rcases List.mem_cons.mp (I.stkSub b hb) with e | hb
  · rw [e]; exact I.free
  · obtain ⟨_, o, ho, _⟩ := I.ok.funs.mem hb
    exact I.base.free b o ho (I.ok.frf b hb) fun z => I.ok.exfs b z hb
theorem Inv.step {g' : Array GenState} {t' : Nat} {d' : Drawn} {ch : List Addr} (I : Inv X pins σ H s)
    (hch : ∀ b ∈ ch, (b ∈ X.ex ∨ X.s₀.heap.objs.size ≤ b) ∧ b ≠ X.env.locals ∧ (∀ x c, X.env.cells.lookup x = some c → c ≠ b) ∧ ∀ p ∈ X.pn ++ pins, p.1 ≠ b)
    (keep : ∀ b o, b ≠ X.env.locals → b ∉ X.fs → b ∉ ch → s.heap.get? b = some o → H b = none → h'.get? b = some o)
    (slot : ∀ b o, b ≠ X.env.locals → b ∈ X.fs → b ∉ ch → s.heap.get? b = some o → H b = none → ∃ sl, h'.get? b = some { o with slots := sl }) (free : ∀ b o, b ∉ ch → s.heap.get? b = some o → H b = none → H' b = none)
    (there : ∀ b o, b ∉ ch → s.heap.get? b = some o → ∃ o', h'.get? b = some o')
    (tups : ∀ b xs, H b = some (.tup xs) → H' b = some (.tup xs)) (frzs : ∀ b o u, H b = some (.frz o u) → H' b = some (.frz o u)) (tbls : ∀ b q, H b = some (.tbl q) → H' b = some (.tbl q))
    (ns : ∀ m, s.heap.Ns X.env.locals m → h'.Ns X.env.locals m) (hok : HOk X.prog X.w H' h') (hg : AllBare g') :
    Inv X pins σ H' { s with heap := h', gens := g', drawn := d', toks := t' } := by
  have neL : ∀ b o, X.s₀.heap.get? b = some o → b ≠ X.env.locals := fun b o e => Nat.ne_of_lt (Nat.lt_of_lt_of_le (Heap.lt_size e) I.ok.above)
  have neC : ∀ b o, X.s₀.heap.get? b = some o → b ∉ X.ex → b ∉ ch := fun b o e hx hb => by
    rcases (hch b hb).1 with z | z
    · exact hx z
    · exact absurd (Nat.lt_of_lt_of_le (Heap.lt_size e) z) (Nat.lt_irrefl _)
  have cellK : ∀ x c, X.env.cells.lookup x = some c → ∀ v, s.heap.IsCell c v → h'.IsCell c v := fun x c e v ⟨o, ho, hd⟩ => by
    have nch : c ∉ ch := fun z => (hch c z).2.2.1 x c e rfl
    by_cases hc : c ∈ X.fs
    · obtain ⟨sl, q⟩ := slot c o (I.cne x c e) hc nch ho (I.freeC x c e)
      exact ⟨_, q, hd⟩
    · exact ⟨o, keep c o (I.cne x c e) hc nch ho (I.freeC x c e), hd⟩
  refine ⟨I.ok, I.os, hg, ⟨fun b o e n hb hx => ?_, fun b o e n hb hx => ?_, fun b o e n hx => ?_, fun b o e hx => ?_, fun b xs e => tups b xs (I.base.tups b xs e), fun b o xs e => frzs b o xs (I.base.frzs b o xs e), fun b xs e => tbls b xs (I.base.tbls b xs e)⟩, ?_, fun x c e => ?_, ?_, fun x c e => ?_, fun p hp => ?_, hok, I.len⟩
  · exact keep b o (neL b o e) hb (neC b o e hx) (I.base.keep b o e n hb hx) (I.base.free b o e n hx)
  · obtain ⟨sl, e1⟩ := I.base.slot b o e n hb hx
    obtain ⟨sl', e2⟩ := slot b _ (neL b o e) hb (neC b o e hx) e1 (I.base.free b o e n hx)
    exact ⟨sl', e2⟩
  · obtain ⟨o', e1⟩ := I.base.there b o e hx
    exact free b o' (neC b o e hx) e1 (I.base.free b o e n hx)
  · obtain ⟨o', e1⟩ := I.base.there b o e hx
    exact there b o' (neC b o e hx) e1
  · obtain ⟨m, hn, hl⟩ := I.loc
    refine ⟨m, ns m hn, fun i x v e1 e2 e3 => ?_⟩
    obtain ⟨u, r, l⟩ := hl i x v e1 e2 e3
    refine ⟨u, r, ?_⟩
    rcases l with l | ⟨k, c, e, z⟩
    · exact .inl l
    · exact .inr ⟨k, c, e, cellK x c e _ z⟩
  · obtain ⟨v, z⟩ := I.cell x c e
    exact ⟨v, cellK x c e v z⟩
  · obtain ⟨m, ⟨o, _, _, ho, _⟩, _⟩ := I.loc
    exact free _ o (fun z => (hch _ z).2.1 rfl) ho I.free
  · obtain ⟨v, o, ho, hd⟩ := I.cell x c e
    exact free c o (fun z => (hch c z).2.2.1 x c e rfl) ho (I.freeC x c e)
  · obtain ⟨e, n, ne, nf, d⟩ := I.pin p hp
    have nch : p.1 ∉ ch := fun z => (hch p.1 z).2.2.2 p hp rfl
    exact ⟨keep p.1 p.2 ne nf nch e n, free p.1 p.2 nch e n, ne, nf, d⟩
theorem Inv.un {t' : Nat} (I : Inv X pins σ H s) (u : Un X.fs [] H H' s.heap h') (hok : HOk X.prog X.w H' h') : Inv X pins σ H' { s with heap := h', toks := t' } := by
  obtain ⟨m, ⟨o, es, ep, ho, r⟩, _⟩ := id I.loc
  obtain ⟨sl, hL⟩ := u.any ho I.free (by simp)
  exact I.step (g' := s.gens) (d' := s.drawn) (ch := []) (fun _ z => nomatch z) (fun b o _ hb _ e n => u.keep b o e n hb (by simp)) (fun b o _ hb _ e n => u.slot b o e n hb (by simp)) (fun b o _ e n => u.free b o e n (by simp)) (fun b o _ e => u.there b o e (by simp)) u.tups u.frzs u.tbls (fun m' hm => by
    obtain ⟨o', es', ep', ho', r'⟩ := hm
    rw [ho] at ho'; cases ho'
    exact ⟨_, es', ep', hL, r'⟩) hok I.bare
theorem Inv.call {g' : Array GenState} {t' : Nat} {d' : Drawn} {ch : List Addr} (I : Inv X pins σ H s) (u : Un (frs X.stack) ch H H' s.heap h') (hok : HOk X.prog X.w H' h') (hg : AllBare g')
    (hch : ∀ b ∈ ch, (b ∈ X.ex ∨ X.s₀.heap.objs.size ≤ b) ∧ b ≠ X.env.locals ∧ (∀ x c, X.env.cells.lookup x = some c → c ≠ b) ∧ ∀ p ∈ X.pn ++ pins, p.1 ≠ b) :
    Inv X pins σ H' { s with heap := h', gens := g', drawn := d', toks := t' } := by
  obtain ⟨m, ⟨o, es, ep, ho, r⟩, _⟩ := id I.loc
  obtain ⟨sl, hL⟩ := u.any ho I.free fun z => (hch _ z).2.1 rfl
  exact I.step (ch := ch) hch (fun b o hL hb hc e n => u.keep b o e n (fun z => (List.mem_cons.mp (I.stkSub b z)).elim hL hb) hc) (fun b o _ _ hc e n => u.any e n hc) (fun b o hc e n => u.free b o e n hc) (fun b o hc e => u.there b o e hc) u.tups u.frzs u.tbls (fun m' hm => by
    obtain ⟨o', es', ep', ho', r'⟩ := hm
    rw [ho] at ho'; cases ho'
    exact ⟨_, es', ep', hL, r'⟩) hok hg
theorem Inv.turned {t' : Nat} {it : Addr} (I : Inv X pins σ H s) (k : ∀ b o, b ≠ it → s.heap.get? b = some o → h'.get? b = some o) (hn : H it = none) (hL : it ≠ X.env.locals)
    (h1 : it ∈ X.ex ∨ X.s₀.heap.objs.size ≤ it) (h2 : ∀ x c, X.env.cells.lookup x = some c → c ≠ it) (h3 : ∀ p ∈ X.pn ++ pins, p.1 ≠ it) : Inv X pins σ H { s with heap := h', toks := t' } := by
  have nit : ∀ b u, H b = some u → b ≠ it := fun b u e z => by rw [z, hn] at e; cases e
  refine I.step (g' := s.gens) (d' := s.drawn) (ch := [it]) (fun b hb => ?_) (fun b o _ _ hc e _ => k b o (fun z => hc (by simp [z])) e) (fun b o _ _ hc e _ => ⟨o.slots, k b o (fun z => hc (by simp [z])) e⟩) (fun _ _ _ _ n => n)
    (fun b o hc e => ⟨o, k b o (fun z => hc (by simp [z])) e⟩) (fun _ _ e => e) (fun _ _ _ e => e) (fun _ _ e => e) (fun m hm => ?_) (fun b u e => ?_) I.bare
  · have e : b = it := by simpa using hb
    subst e
    exact ⟨h1, hL, h2, h3⟩
  · obtain ⟨o, es, ep, ho, r⟩ := hm
    exact ⟨o, es, ep, k _ o (Ne.symm hL) ho, r⟩
  · refine (I.hok b u e).stay (fun c v hc q => k c v ?_ q) (fun _ q => q) (fun _ _ q => q) fun _ _ q => q
    rcases hc with z | z
    · rw [z]; exact nit b u e
    · exact nit c _ z
theorem Inv.tok (I : Inv X pins σ H s) (t : Nat) : Inv X pins σ H { s with toks := t } := I.un (h' := s.heap) (t' := t) Un.refl I.hok
theorem Inv.kept {t' : Nat} (I : Inv X pins σ H s) (k : ∀ b u, s.heap.get? b = some u → h'.get? b = some u) : Inv X pins σ H { s with heap := h', toks := t' } := I.un (Un.kept k) (I.hok.kept k)
theorem Inv.laid {a : Addr} {o : HO} {t' : Nat} (I : Inv X pins σ H s) (k : ∀ b u, s.heap.get? b = some u → h'.get? b = some u) (hp : s.heap.objs.size ≤ a) (new : ObjOk X.prog X.w (upd H a o) h' a o) :
    Inv X pins σ (upd H a o) { s with heap := h', toks := t' } := I.un (Un.laid k hp (I.hok.fresh hp)) (I.hok.laid k hp new)
theorem Inv.write {x e : Addr} {o : HO} {t' : Nat} (I : Inv X pins σ H s) (mu : Mut (H x)) (he : e = x ∨ H e = some (.own x)) (k : ∀ b u, b ≠ e → s.heap.get? b = some u → h'.get? b = some u) (heo : ∃ u, h'.get? e = some u)
    (new : ObjOk X.prog X.w (upd H x o) h' x o) : Inv X pins σ (upd H x o) { s with heap := h', toks := t' } := I.un (Un.write mu he k heo) (I.hok.write mu he k heo new)
theorem Inv.weak {σ' : List (Option V)} (I : Inv X pins σ H s) (hl : σ'.length = σ.length) (w : ∀ (i : Nat) v, σ'[i]? = some (some v) → σ[i]? = some (some v)) : Inv X pins σ' H s :=
  ⟨I.ok, I.os, I.bare, I.base, let ⟨m, hn, hl'⟩ := I.loc; ⟨m, hn, fun i x v e1 e2 e3 => hl' i x v e1 (w i v e2) e3⟩, I.cell, I.free, I.freeC, I.pin, I.hok, hl.trans I.len⟩
theorem Inv.pins_of {pins' : List (Addr × Obj)} (I : Inv X pins σ H s) (h : ∀ p ∈ pins', s.heap.get? p.1 = some p.2 ∧ H p.1 = none ∧ p.1 ≠ X.env.locals ∧ p.1 ∉ X.fs ∧ ∀ v, p.2.data ≠ .cell v) : Inv X pins' σ H s :=
  ⟨I.ok, I.os, I.bare, I.base, I.loc, I.cell, I.free, I.freeC, fun p hp => (List.mem_append.mp hp).elim (fun z => I.pin p (List.mem_append_left _ z)) (h p), I.hok, I.len⟩
theorem nodup_ix {N : List Str} (hN : N.Nodup) {i j : Nat} {x : Str} (a : N[i]? = some x) (b : N[j]? = some x) : i = j := by
  obtain ⟨h1, e1⟩ := List.getElem?_eq_some_iff.mp a
  obtain ⟨h2, e2⟩ := List.getElem?_eq_some_iff.mp b
  exact (List.getElem_inj hN).mp (e1.trans e2.symm)
theorem store_ok2 {M : Model} {A : Around} {E : Value → Shared → Prop} {i : Nat} {x : Str} {v : V} {u : Value} {Q : Unit → Shared → Prop} (I : Inv X pins σ H s) (hN : X.N.Nodup) (hi : X.N[i]? = some x) (hx : Loc X.env.scope x) (r : RelV v u)
    (h : ∀ s', Inv X pins (σ.set i (some v)) H s' → (∃ a, Heap.SameBut a s.heap s'.heap ∧ (a = X.env.locals ∨ X.env.cells.lookup x = some a)) → Q () s') (hf : X.fn x = true ∨ X.env.scope.names.lookup x = some .local := by first | exact .inl rfl | exact .inr rfl | assumption) : wpAny M A (storeName X.env x u) Q E s := by
  obtain ⟨m, hn, hl⟩ := id I.loc
  have hcls : (X.env.scope.kind == .class || (X.env.scope.kind == .module && X.env.locals != X.env.globals)) = false := by rw [I.ok.kind]; rfl
  have hiσ : i < σ.length := by rw [I.len]; exact (List.getElem?_eq_some_iff.mp hi).1
  have cne := I.cne
  have tracked : ∀ {a : Addr} {h' : Heap}, (∃ o, s.heap.get? a = some o ∧ H a = none) → Heap.SameBut a s.heap h' → HOk X.prog X.w H h' := fun {a h'} ha hs b ob e => by
    obtain ⟨_, _, hfree⟩ := ha
    refine (I.hok b ob e).stay (fun c w' hc q => (hs.2 c ?_).trans q) (fun _ q => q) (fun _ _ q => q) fun _ _ q => q
    rintro rfl
    rcases hc with rfl | hc
    · rw [hfree] at e; cases e
    · rw [hfree] at hc; cases hc
  rcases hx with hk | hk
  · refine wpAny_storeName_local hk hn (fun h' hn' hs => ?_) hcls
    obtain ⟨oL, _, _, hoL, _⟩ := id hn
    refine h _ ⟨I.ok, I.os, I.bare, ⟨fun b o e n hb hx => ?_, fun b o e n hb hx => ?_, I.base.free, fun b o e hx => ?_, I.base.tups, I.base.frzs, I.base.tbls⟩, ⟨_, hn', fun j y v' e1 e2 e3 => ?_⟩, fun y c e => ?_, I.free, I.freeC, fun p hp => ?_, tracked ⟨oL, hoL, I.free⟩ hs, by simpa using I.len⟩ ⟨_, hs, .inl rfl⟩
    · exact (hs.2 b (Nat.ne_of_lt (Nat.lt_of_lt_of_le (Heap.lt_size e) I.ok.above))).trans (I.base.keep b o e n hb hx)
    · obtain ⟨sl, e1⟩ := I.base.slot b o e n hb hx
      exact ⟨sl, (hs.2 b (Nat.ne_of_lt (Nat.lt_of_lt_of_le (Heap.lt_size e) I.ok.above))).trans e1⟩
    · obtain ⟨o', e1⟩ := I.base.there b o e hx
      exact ⟨o', (hs.2 b (Nat.ne_of_lt (Nat.lt_of_lt_of_le (Heap.lt_size e) I.ok.above))).trans e1⟩
    · by_cases hj : j = i
      · subst hj
        rw [hi] at e1; cases e1
        rw [List.getElem?_set_self hiσ] at e2
        cases e2
        exact ⟨u, r, .inl ⟨hk, by simp⟩⟩
      · rw [List.getElem?_set_ne (Ne.symm hj)] at e2
        obtain ⟨u', r', q⟩ := hl j y v' e1 e2 e3
        refine ⟨u', r', ?_⟩
        rcases q with ⟨k, e⟩ | ⟨k, c, e, z⟩
        · refine .inl ⟨k, ?_⟩
          have : y ≠ x := fun e => hj (nodup_ix hN e1 (e ▸ hi))
          simp [this, e]
        · exact .inr ⟨k, c, e, z.sameBut hs (cne y c e)⟩
    · obtain ⟨w', z⟩ := I.cell y c e
      exact ⟨w', z.sameBut hs (cne y c e)⟩
    · obtain ⟨e, n, ne, nf, d⟩ := I.pin p hp
      exact ⟨(hs.2 p.1 ne).trans e, n, ne, nf, d⟩
  · have hfn : X.fn x = true := by
      rcases hf with z | z
      · exact z
      · rw [z] at hk; cases hk
    obtain ⟨c, hc⟩ := I.ok.has x (.inl hk)
    obtain ⟨w', z⟩ := I.cell x c hc
    refine wpAny_storeName_cell I.ok.kind hk hc z (fun h' hc' hs => ?_)
    obtain ⟨oc, hoc, hocd⟩ := id z
    refine h { s with heap := h' } ⟨I.ok, I.os, I.bare, ⟨fun b o e n hb hx => ?_, fun b o e n hb hx => ?_, I.base.free, fun b o e hx => ?_, I.base.tups, I.base.frzs, I.base.tbls⟩, ⟨m, hn.sameBut hs (Ne.symm (cne x c hc)), fun j y v' e1 e2 e3 => ?_⟩, fun y c' e => ?_, I.free, I.freeC, fun p hp => ?_, tracked ⟨oc, hoc, I.freeC x c hc⟩ hs, by simpa using I.len⟩ ⟨c, hs, .inr hc⟩
    · exact (hs.2 b (Nat.ne_of_lt (Nat.lt_of_lt_of_le (Heap.lt_size e) (I.ok.cab x c hfn hc)))).trans (I.base.keep b o e n hb hx)
    · obtain ⟨sl, e1⟩ := I.base.slot b o e n hb hx
      exact ⟨sl, (hs.2 b (Nat.ne_of_lt (Nat.lt_of_lt_of_le (Heap.lt_size e) (I.ok.cab x c hfn hc)))).trans e1⟩
    · obtain ⟨o', e1⟩ := I.base.there b o e hx
      exact ⟨o', (hs.2 b (Nat.ne_of_lt (Nat.lt_of_lt_of_le (Heap.lt_size e) (I.ok.cab x c hfn hc)))).trans e1⟩
    · by_cases hj : j = i
      · subst hj
        rw [hi] at e1; cases e1
        rw [List.getElem?_set_self hiσ] at e2
        cases e2
        exact ⟨u, r, .inr ⟨.inl hk, c, hc, hc'⟩⟩
      · rw [List.getElem?_set_ne (Ne.symm hj)] at e2
        obtain ⟨u', r', q⟩ := hl j y v' e1 e2 e3
        refine ⟨u', r', ?_⟩
        rcases q with q | ⟨k, c', e, z'⟩
        · exact .inl q
        · refine .inr ⟨k, c', e, z'.sameBut hs ?_⟩
          rintro rfl
          exact hj (nodup_ix hN e1 (I.ok.inj _ _ _ e hc ▸ hi))
    · by_cases hcc : c' = c
      · subst hcc; exact ⟨_, hc'⟩
      · obtain ⟨w2, z2⟩ := I.cell y c' e
        exact ⟨w2, z2.sameBut hs hcc⟩
    · obtain ⟨e, n, ne, nf, d⟩ := I.pin p hp
      refine ⟨(hs.2 p.1 ?_).trans e, n, ne, nf, d⟩
      intro q
      rw [q, hoc] at e
      have q' : oc = p.2 := Option.some.inj e
      exact d w' (by rw [← q']; exact hocd)
theorem store_ok {M : Model} {A : Around} {E : Value → Shared → Prop} {i : Nat} {x : Str} {v : V} {u : Value} {Q : Unit → Shared → Prop} (I : Inv X pins σ H s) (hN : X.N.Nodup) (hi : X.N[i]? = some x) (hx : Loc X.env.scope x) (r : RelV v u)
    (h : ∀ s', Inv X pins (σ.set i (some v)) H s' → Q () s') (hf : X.fn x = true ∨ X.env.scope.names.lookup x = some .local := by first | exact .inl rfl | exact .inr rfl | assumption) : wpAny M A (storeName X.env x u) Q E s :=
  store_ok2 I hN hi hx r (fun s' I' _ => h s' I') hf
theorem Inv.call' {s' : Shared} {ch : List Addr} (I : Inv X pins σ H s) (ho : s'.os = s.os) (u : Un (frs X.stack) ch H H' s.heap s'.heap) (hok : HOk X.prog X.w H' s'.heap) (hg : AllBare s'.gens)
    (hch : ∀ b ∈ ch, (b ∈ X.ex ∨ X.s₀.heap.objs.size ≤ b) ∧ b ≠ X.env.locals ∧ (∀ x c, X.env.cells.lookup x = some c → c ≠ b) ∧ ∀ p ∈ X.pn ++ pins, p.1 ≠ b) : Inv X pins σ H' s' := by
  obtain ⟨h', g', d', t', o'⟩ := s'
  have e : o' = s.os := ho
  subst e
  exact I.call (g' := g') (t' := t') (d' := d') u hok hg hch
end
abbrev XK := Value → Option Addr → Hp → Prop
abbrev St := List (Option V)
abbrev VK := V → Hp → Prop
abbrev TE := St → Hp → VK → Prop
abbrev TT := St → Hp → (Bool → Hp → Prop) → Prop
abbrev TA := St → Hp → (List V → Hp → Prop) → Prop
structure Ends where
  nx : St → Hp → Prop
  rt : VK
  bk : St → Hp → Prop := fun _ _ => False
  ct : St → Hp → Prop := fun _ _ => False
abbrev TS := Ends → St → Hp → Prop
def EP (X : Cx) (pins : List (Addr × Obj)) (σ : St) (Q : VK) (u : Value) (s' : Shared) : Prop := ∃ v H', Inv X pins σ H' s' ∧ RelV v u ∧ Q v H'
def TP (X : Cx) (pins : List (Addr × Obj)) (σ : St) (Q : Bool → Hp → Prop) (b : Bool) (s' : Shared) : Prop := ∃ H', Inv X pins σ H' s' ∧ Q b H'
def AP (X : Cx) (pins : List (Addr × Obj)) (σ : St) (Q : List V → Hp → Prop) (us : List Value) (s' : Shared) : Prop := ∃ vs H', Inv X pins σ H' s' ∧ Vals vs us ∧ Q vs H'
def SP (X : Cx) (pins : List (Addr × Obj)) (D : Ends) (f : Flow) (s' : Shared) : Prop :=
  match f with
  | .next => ∃ σ' H', Inv X pins σ' H' s' ∧ D.nx σ' H'
  | .brk => ∃ σ' H', Inv X pins σ' H' s' ∧ D.bk σ' H'
  | .cont => ∃ σ' H', Inv X pins σ' H' s' ∧ D.ct σ' H'
  | .ret u => ∃ v σ' H', Inv X pins σ' H' s' ∧ RelV v u ∧ D.rt v H'
def PE (X : Cx) (e : Expr) (t : TE) : Prop :=
  ∀ (pins : List (Addr × Obj)) (s : Shared) (σ : St) (H : Hp) (Q : VK), Inv X pins σ H s → t σ H Q → wpAny (model X.prog X.w) X.A (eval e X.env) (EP X pins σ Q) X.xe s
def PT (X : Cx) (e : Expr) (t : TT) : Prop :=
  ∀ (pins : List (Addr × Obj)) (s : Shared) (σ : St) (H : Hp) (Q : Bool → Hp → Prop), Inv X pins σ H s → t σ H Q → wpAny (model X.prog X.w) X.A (isTrue e X.env (eval e X.env)) (TP X pins σ Q) X.xe s
def PW (X : Cx) (e : Expr) (t : TT) : Prop :=
  ∀ (whole : Sem Value) (pins : List (Addr × Obj)) (s : Shared) (σ : St) (H : Hp) (Q : Bool → Hp → Prop), Inv X pins σ H s → t σ H Q → wpAny (model X.prog X.w) X.A (isTrue e X.env whole) (TP X pins σ Q) X.xe s
theorem PW.pt {X : Cx} {e : Expr} {t : TT} (h : PW X e t) : PT X e t := h _
def PA (X : Cx) (es : List Expr) (t : TA) : Prop :=
  ∀ (pos : Pos) (pins : List (Addr × Obj)) (s : Shared) (σ : St) (H : Hp) (Q : List V → Hp → Prop), Inv X pins σ H s → t σ H Q → wpAny (model X.prog X.w) X.A (spliced (backTo pos (starEach es X.env))) (AP X pins σ Q) X.xe s
def PS (X : Cx) (st : Stmt) (t : TS) : Prop :=
  ∀ (pins : List (Addr × Obj)) (s : Shared) (σ : St) (H : Hp) (D : Ends), Inv X pins σ H s → t D σ H → wpAny (model X.prog X.w) X.A (exec st X.env) (SP X pins D) X.xe s
def PSs (X : Cx) (st : List Stmt) (t : TS) : Prop :=
  ∀ (pins : List (Addr × Obj)) (s : Shared) (σ : St) (H : Hp) (D : Ends), Inv X pins σ H s → t D σ H → wpAny (model X.prog X.w) X.A (execs st X.env) (SP X pins D) X.xe s
theorem thn {α : Type} {t : Sem α} {Q Q' : α → Shared → Prop} {M : Model} {A : Around} {E : Value → Shared → Prop} {s : Shared} (h : wpAny M A t Q E s) (hQ : ∀ a s, Q a s → Q' a s) : wpAny M A t Q' E s := wpAny_mono h hQ fun _ _ x => x
end L2
namespace L2
open PySem PySem.Spec PyProof.Rows
section
variable {X : Cx}
def tVar (i : Nat) : TE := fun σ H Q => ∃ v, σ[i]? = some (some v) ∧ Q v H
def tC (v : V) : TE := fun _ H Q => Q v H
theorem pe_var {i : Nat} {x : Str} {pos : Pos} (hN : X.N[i]? = some x) (hv : Vis X.env.scope x) (hd : (x == ("__debug__" : Str)) = false := by decide) (hcd : (x == ("__classdict__" : Str)) = false := by decide) : PE X (.Name x pos) (tVar i) := by
  intro pins s σ H Q I h
  obtain ⟨v, e, h⟩ := h
  obtain ⟨m, hn, hl⟩ := I.loc
  obtain ⟨u, r, l⟩ := hl i x v hN e hv
  have fin : EP X pins σ Q u s := ⟨v, H, I, r, h⟩
  rcases l with ⟨hk, hm⟩ | ⟨hk, c, hc, hcell⟩
  · exact wpAny_Name (wpAny_loadName_local I.ok.kind hk hn hm fin) hd
  · rcases hk with hk | hk
    · exact wpAny_Name (wpAny_loadName_cell I.ok.kind hk hc hcell fin) hd
    · exact wpAny_Name (wpAny_loadName_free I.ok.kind hk hc hcell fin hcd) hd
theorem pe_int {i j pos} : PE X (.Constant (.int i) j pos) (tC (.int i)) := fun _ _ _ H _ I h => wpAny_Constant_int ⟨.int i, H, I.tok _, ⟨_, rfl⟩, h⟩
theorem pe_bl {b j pos} : PE X (.Constant (.bool b) j pos) (tC (.bl b)) := fun _ _ _ H _ I h => Constant_bool ⟨.bl b, H, I, rfl, h⟩
theorem pe_non {j pos} : PE X (.Constant .none j pos) (tC .non) := fun _ _ _ H _ I h => Constant_none ⟨.non, H, I, rfl, h⟩
def Gl (X : Cx) (x : Str) : Prop := X.env.kindOf x = some .globalImplicit
theorem ld_glob {E : Value → Shared → Prop} {pins : List (Addr × Obj)} {s : Shared} {σ : St} {H : Hp} {x : Str} {u : Value} {pos : Pos} {Q : Value → Shared → Prop} (I : Inv X pins σ H s) (hg : Gl X x) (hm : X.mg x = some u) (h : Q u s)
    (hd : (x == ("__debug__" : Str)) = false := by decide) : wpAny (model X.prog X.w) X.A (eval (.Name x pos) X.env) Q E s :=
  Calls.Name_function_global I.ok.kind hg (Calls.loadGlobal_global (by rw [I.ok.glob]; exact I.mod.glob.keeps I.bk) hm h) hd
theorem ld_blt {E : Value → Shared → Prop} {pins : List (Addr × Obj)} {s : Shared} {σ : St} {H : Hp} {x : Str} {u : Value} {pos : Pos} {Q : Value → Shared → Prop} (I : Inv X pins σ H s) (hg : Gl X x) (hm : X.mg x = none) (hv : bootBuiltins x = some u) (h : Q u s)
    (hn : x ≠ "__name__" := by decide) (hd : (x == ("__debug__" : Str)) = false := by decide) : wpAny (model X.prog X.w) X.A (eval (.Name x pos) X.env) Q E s := by
  obtain ⟨mb, h1, h2⟩ := I.mod.blt
  exact Calls.Name_function_global I.ok.kind hg (Calls.loadGlobal_builtin (by rw [I.ok.glob]; exact I.mod.glob.keeps I.bk) hm (by rw [I.ok.blt]; exact h1.keeps I.bk) ((h2 x hn).trans hv) h) hd
theorem pe_bltn {x : Str} {v : V} {u : Value} {pos : Pos} (hg : Gl X x) (hm : X.mg x = none) (hv : bootBuiltins x = some u) (r : RelV v u) (hn : x ≠ "__name__" := by decide) (hd : (x == ("__debug__" : Str)) = false := by decide) : PE X (.Name x pos) (tC v) :=
  fun _ _ _ H _ I h => ld_blt I hg hm hv ⟨v, H, I, r, h⟩ hn hd
variable {a b : Expr} {ta tb : TE} {pos : Pos}
def tB (t : TE) : TT := fun σ H Q => t σ H fun x H1 => ∃ c, x = .bl c ∧ Q c H1
variable {tA tB' : TT} {rest : List Expr}
def tAnd (t u : TT) : TT := fun σ H Q => t σ H fun c H1 => if c = true then u σ H1 Q else Q false H1
def tOr (t u : TT) : TT := fun σ H Q => t σ H fun c H1 => if c = true then Q true H1 else u σ H1 Q
def tNot (t : TT) : TT := fun σ H Q => t σ H fun c H1 => Q (!c) H1
theorem pw_and1 (ha : PT X a tA) : PW X (.BoolOp .And [a] pos) tA := by
  intro wh pins s σ H Q I h
  refine isTrue_and (thn (ha pins s σ H Q I h) fun c s1 e => ?_)
  cases c with
  | true => exact isTrue_and_nil e
  | false => exact e
theorem pw_or1 (ha : PT X a tA) : PW X (.BoolOp .Or [a] pos) tA := by
  intro wh pins s σ H Q I h
  refine isTrue_or (thn (ha pins s σ H Q I h) fun c s1 e => ?_)
  cases c with
  | false => exact isTrue_or_nil e
  | true => exact e
theorem pw_and (ha : PT X a tA) (hb : PW X (.BoolOp .And (b :: rest) pos) tB') : PW X (.BoolOp .And (a :: b :: rest) pos) (tAnd tA tB') := by
  intro wh pins s σ H Q I h
  refine isTrue_and (thn (ha pins s σ H _ I h) fun c s1 ⟨H1, I1, q1⟩ => ?_)
  cases c with
  | true => exact hb wh pins s1 σ H1 Q I1 q1
  | false => exact ⟨H1, I1, q1⟩
theorem pw_or (ha : PT X a tA) (hb : PW X (.BoolOp .Or (b :: rest) pos) tB') : PW X (.BoolOp .Or (a :: b :: rest) pos) (tOr tA tB') := by
  intro wh pins s σ H Q I h
  refine isTrue_or (thn (ha pins s σ H _ I h) fun c s1 ⟨H1, I1, q1⟩ => ?_)
  cases c with
  | true => exact ⟨H1, I1, q1⟩
  | false => exact hb wh pins s1 σ H1 Q I1 q1
theorem pt_not (ha : PT X a tA) : PT X (.UnaryOp .Not a pos) (tNot tA) := by
  intro pins s σ H Q I h
  exact isTrue_not (ha pins s σ H (fun c H1 => Q (!c) H1) I h)
def tAndV (ta tb : TE) : TE := fun σ H Q => ta σ H fun x H1 => ∃ c, x = .bl c ∧ if c = true then tb σ H1 Q else Q (.bl false) H1
def tOrV (ta tb : TE) : TE := fun σ H Q => ta σ H fun x H1 => ∃ c, x = .bl c ∧ if c = true then Q (.bl true) H1 else tb σ H1 Q
theorem pe_one {op} {t : TE} (h : PE X a t) : PE X (.BoolOp op [a] pos) t := fun pins s σ H Q I hw => BoolOp_one (h pins s σ H Q I hw)
theorem pe_and (ha : PE X a ta) (hb : PE X (.BoolOp .And (b :: rest) pos) tb) : PE X (.BoolOp .And (a :: b :: rest) pos) (tAndV ta tb) := by
  intro pins s σ H Q I h
  refine BoolOp_and (thn (ha pins s σ H _ I h) fun v s1 ⟨x, H1, I1, r1, q1⟩ => ?_)
  obtain ⟨c, rfl, q1⟩ := q1
  cases r1
  refine wpAny_truthy_bool ?_
  cases c with
  | true => exact hb pins s1 σ H1 Q I1 q1
  | false => exact ⟨.bl false, H1, I1, rfl, q1⟩
theorem pe_or (ha : PE X a ta) (hb : PE X (.BoolOp .Or (b :: rest) pos) tb) : PE X (.BoolOp .Or (a :: b :: rest) pos) (tOrV ta tb) := by
  intro pins s σ H Q I h
  refine BoolOp_or (thn (ha pins s σ H _ I h) fun v s1 ⟨x, H1, I1, r1, q1⟩ => ?_)
  obtain ⟨c, rfl, q1⟩ := q1
  cases r1
  refine wpAny_truthy_bool ?_
  cases c with
  | false => exact hb pins s1 σ H1 Q I1 q1
  | true => exact ⟨.bl true, H1, I1, rfl, q1⟩
def tIf (t : TT) (ta tb : TE) : TE := fun σ H Q => t σ H fun c H1 => if c = true then ta σ H1 Q else tb σ H1 Q
theorem pe_ifExp {c : Expr} (hc : PT X c tA) (ha : PE X a ta) (hb : PE X b tb) : PE X (.IfExp c a b pos) (tIf tA ta tb) := by
  intro pins s σ H Q I h
  refine wpAny_IfExp (thn (hc pins s σ H _ I h) fun d s1 ⟨H1, I1, q1⟩ => ?_)
  cases d with
  | true => exact ha pins s1 σ H1 Q I1 q1
  | false => exact hb pins s1 σ H1 Q I1 q1
end
end L2
namespace L2
open PySem PySem.Spec PyProof.Rows
def SqL (K : PySem.W.Frag) (H : Hp) (a : Addr) (xs : List V) : Prop :=
  Rd H a (.lst xs) ∨
    ∃ (o : Obj) (its : Array Value) (n : Nat), K.lookup a = some o ∧ o.cls = .type "list" ∧ o.dict = none ∧ o.data = .seq its n ∧ its.size ≤ sizeLine ∧ Vals xs its.toList
def SqT (K : PySem.W.Frag) (H : Hp) (a : Addr) (xs : List V) : Prop :=
  Rd H a (.tup xs) ∨
    ∃ (o : Obj) (its : Array Value) (n : Nat), K.lookup a = some o ∧ o.cls = .type "tuple" ∧ o.dict = none ∧ o.data = .seq its n ∧ its.size ≤ sizeLine ∧ Vals xs its.toList
def absV : Value → Option V
  | .none => some .non
  | .bool b => some (.bl b)
  | .int i _ => some (.int i)
  | .str x _ => some (.str x)
  | .bytes b _ => some (.byt b)
  | .float b _ => some (.flt b)
  | .ref a => some (.ref a)
  | .type n => some (.ty n)
  | _ => none
theorem RelV.abs {x : V} {u : Value} (r : RelV x u) : absV u = some x := by
  cases x with
  | non => cases r; rfl
  | bl _ => cases r; rfl
  | int _ => obtain ⟨t, rfl⟩ := r; rfl
  | str _ => obtain ⟨t, rfl⟩ := r; rfl
  | byt _ => obtain ⟨t, rfl⟩ := r; rfl
  | flt _ => obtain ⟨t, rfl⟩ := r; rfl
  | ref _ => cases r; rfl
  | ty _ => cases r; rfl
theorem RelV.inj {x y : V} {u : Value} (r : RelV x u) (q : RelV y u) : x = y := Option.some.inj (r.abs.symm.trans q.abs)
theorem Vals.inj : ∀ {xs ys : List V} {us : List Value}, Vals xs us → Vals ys us → xs = ys
  | _, _, _, .nil, .nil => rfl
  | _, _, _, .cons r t, .cons r' t' => by rw [r.inj r', Vals.inj t t']
section
variable {X : Cx} {pins : List (Addr × Obj)} {σ : St} {H : Hp} {s : Shared} {a : Addr} {xs ys : List V}
theorem SqL.of {K : PySem.W.Frag} (h : H a = some (.lst xs)) : SqL K H a xs := .inl (.inl h)
theorem SqT.of {K : PySem.W.Frag} (h : H a = some (.tup xs)) : SqT K H a xs := .inl (.inl h)
theorem Inv.list (I : Inv X pins σ H s) (h : SqL X.K H a xs) : ∃ its : List Value, Vals xs its ∧ PlainL s.heap a its.toArray ∧ xs.length ≤ sizeLine := by
  rcases h with h | ⟨o, its, n, hk, hc, hd, hs, hz, r⟩
  · obtain ⟨z, its, n, r, e⟩ := h.ok I.hok
    exact ⟨its, r, ⟨_, n, e, rfl, rfl, rfl⟩, z⟩
  · refine ⟨its.toList, r, ⟨o, n, I.kIn a o hk, hc, hd, by simpa using hs⟩, ?_⟩
    have e := r.length
    simp only [Array.length_toList] at e
    omega
theorem Inv.tuple (I : Inv X pins σ H s) (h : SqT X.K H a xs) : ∃ its : List Value, Vals xs its ∧ IsTup s.heap a its.toArray ∧ xs.length ≤ sizeLine := by
  rcases h with h | ⟨o, its, n, hk, hc, _, hs, hz, r⟩
  · obtain ⟨z, its, r, p⟩ := h.ok I.hok
    exact ⟨its, r, p.tup, z⟩
  · refine ⟨its.toList, r, ⟨o, I.kIn a o hk, hc, n, by simpa using hs⟩, ?_⟩
    have e := r.length
    simp only [Array.length_toList] at e
    omega
theorem Inv.list_inj (I : Inv X pins σ H s) (h : SqL X.K H a xs) (h' : SqL X.K H a ys) : xs = ys := by
  obtain ⟨its, r, ⟨o, n, e, _, _, d⟩, _⟩ := I.list h
  obtain ⟨its', r', ⟨o', n', e', _, _, d'⟩, _⟩ := I.list h'
  rw [e] at e'; cases e'
  rw [d] at d'
  injection d' with d1 _
  have : its = its' := by simpa using congrArg Array.toList d1
  subst this
  exact r.inj r'
theorem Inv.tuple_inj (I : Inv X pins σ H s) (h : SqT X.K H a xs) (h' : SqT X.K H a ys) : xs = ys := by
  obtain ⟨its, r, ⟨o, e, _, n, d⟩, _⟩ := I.tuple h
  obtain ⟨its', r', ⟨o', e', _, n', d'⟩, _⟩ := I.tuple h'
  rw [e] at e'; cases e'
  rw [d] at d'
  injection d' with d1 _
  have : its = its' := by simpa using congrArg Array.toList d1
  subst this
  exact r.inj r'
end
abbrev Cx.wish (X : Cx) (E : Value → Shared → Prop) : Cx := { X with xe := E }
abbrev Cx.nox (X : Cx) : Cx := X.wish fun _ _ => False
theorem Cx.Ok.wish {X : Cx} (ok : X.Ok) (E : Value → Shared → Prop) : (X.wish E).Ok :=
  ⟨ok.mod, ok.kind, ok.glob, ok.blt, ok.above, ok.inj, ok.has, ok.cab, ok.hd, ok.frames, ok.stk, ok.exf, ok.bs, ok.bsz, ok.noex, ok.exfs, ok.funs, ok.frf, ok.tab⟩
theorem Cx.Ok.unwish {X : Cx} {E : Value → Shared → Prop} (ok : (X.wish E).Ok) : X.Ok :=
  ⟨ok.mod, ok.kind, ok.glob, ok.blt, ok.above, ok.inj, ok.has, ok.cab, ok.hd, ok.frames, ok.stk, ok.exf, ok.bs, ok.bsz, ok.noex, ok.exfs, ok.funs, ok.frf, ok.tab⟩
section
variable {X : Cx} {pins : List (Addr × Obj)} {σ : St} {H : Hp} {s : Shared} {E : Value → Shared → Prop}
theorem Inv.wish (I : Inv X pins σ H s) (E : Value → Shared → Prop) : Inv (X.wish E) pins σ H s := ⟨I.ok.wish E, I.os, I.bare, I.base, I.loc, I.cell, I.free, I.freeC, I.pin, I.hok, I.len⟩
theorem Inv.unwish (I : Inv (X.wish E) pins σ H s) : Inv X pins σ H s := ⟨I.ok.unwish, I.os, I.bare, I.base, I.loc, I.cell, I.free, I.freeC, I.pin, I.hok, I.len⟩
theorem SP.unwish {D : Ends} {f : Flow} {s' : Shared} (h : SP (X.wish E) pins D f s') : SP X pins D f s' := by
  cases f with
  | next => obtain ⟨σ', H', I, q⟩ := h; exact ⟨σ', H', I.unwish, q⟩
  | brk => obtain ⟨σ', H', I, q⟩ := h; exact ⟨σ', H', I.unwish, q⟩
  | cont => obtain ⟨σ', H', I, q⟩ := h; exact ⟨σ', H', I.unwish, q⟩
  | ret u => obtain ⟨v, σ', H', I, r, q⟩ := h; exact ⟨v, σ', H', I.unwish, r, q⟩
theorem PE.nox {e : Expr} {t : TE} (h : PE X.nox e t) : PE X e t := fun pins s σ H Q I hw =>
  wpAny_mono (h pins s σ H Q (I.wish _) hw) (fun _ _ ⟨v, H', I', r, q⟩ => ⟨v, H', I'.unwish, r, q⟩) fun _ _ z => False.elim z
theorem PT.nox {e : Expr} {t : TT} (h : PT X.nox e t) : PT X e t := fun pins s σ H Q I hw =>
  wpAny_mono (h pins s σ H Q (I.wish _) hw) (fun _ _ ⟨H', I', q⟩ => ⟨H', I'.unwish, q⟩) fun _ _ z => False.elim z
theorem PSs.nox {st : List Stmt} {t : TS} (h : PSs X.nox st t) : PSs X st t := fun pins s σ H D I hw =>
  wpAny_mono (h pins s σ H D (I.wish _) hw) (fun _ _ q => q.unwish) fun _ _ z => False.elim z
end
section
variable {X : Cx} {st : Stmt} {rest : List Stmt} {t u : TS} {e : Expr} {te : TE} {pos : Pos}
def tNext : TS := fun D σ H => D.nx σ H
def tSeq (t u : TS) : TS := fun D σ H => t { D with nx := u D } σ H
theorem pss_nil : PSs X [] tNext := fun _ _ σ H _ I h => wpAny_execs_nil ⟨σ, H, I, h⟩
theorem pss_cons (h1 : PS X st t) (h2 : PSs X rest u) : PSs X (st :: rest) (tSeq t u) := by
  intro pins s σ H D I h
  refine wpAny_execs_cons (thn (h1 pins s σ H { D with nx := u D } I h) fun f s1 q => ?_)
  cases f with
  | next =>
    obtain ⟨σ', H', I', q⟩ := q
    exact h2 pins s1 σ' H' D I' q
  | ret v => exact q
  | brk => exact q
  | cont => exact q
theorem pss_one (h1 : PS X st t) : PSs X [st] t := by
  intro pins s σ H D I h
  refine wpAny_execs_cons (thn (h1 pins s σ H D I h) fun f s1 q => ?_)
  cases f with
  | next => exact wpAny_execs_nil q
  | ret v => exact q
  | brk => exact q
  | cont => exact q
theorem Inv.quiet {pins : List (Addr × Obj)} {σ : St} {H : Hp} {s : Shared} (I : Inv X pins σ H s) : interactive X.env = false := by simp [interactive, I.ok.kind]
def tDrop (te : TE) : TS := fun D σ H => te σ H fun _ H1 => D.nx σ H1
theorem ps_expr (he : PE X e te) (hs : swapsWith e none pos.line X.env = pure false := by rfl) : PS X (.Expr e pos) (tDrop te) := by
  intro pins s σ H D I h
  exact wpAny_Expr_any (thn (he pins s σ H _ I h) fun v s1 ⟨x, H1, I1, r1, q1⟩ => ⟨σ, H1, I1, q1⟩) I.quiet hs
def tRet (te : TE) : TS := fun D σ H => te σ H D.rt
theorem ps_ret (he : PE X e te) : PS X (.Return (some e) pos) (tRet te) := by
  intro pins s σ H D I h
  exact wpAny_Return_some (thn (he pins s σ H _ I h) fun v s1 ⟨x, H1, I1, r1, q1⟩ => ⟨x, σ, H1, I1, r1, q1⟩)
def tIfS (c : TT) (t u : TS) : TS := fun D σ H => c σ H fun b H1 => if b = true then t D σ H1 else u D σ H1
theorem ps_if {c : Expr} {a b : List Stmt} {tc : TT} (hc : PT X c tc) (ha : PSs X a t) (hb : PSs X b u) : PS X (.If c a b pos) (tIfS tc t u) := by
  intro pins s σ H D I h
  refine wpAny_If (thn (hc pins s σ H _ I h) fun d s1 ⟨H1, I1, q1⟩ => ?_)
  cases d with
  | true => exact ha pins s1 σ H1 D I1 q1
  | false => exact hb pins s1 σ H1 D I1 q1
end
abbrev TG := V → St → Hp → (St → Hp → Prop) → Prop
abbrev TGs := List V → St → Hp → (St → Hp → Prop) → Prop
def PG (X : Cx) (target : Expr) (t : TG) : Prop :=
  ∀ (pins : List (Addr × Obj)) (s : Shared) (σ : St) (H : Hp) (v : V) (u : Value) (Q : St → Hp → Prop), Inv X pins σ H s → RelV v u → t v σ H Q →
    wpAny (model X.prog X.w) X.A (assign target X.env u) (fun _ s' => ∃ σ' H', Inv X pins σ' H' s' ∧ Q σ' H') X.xe s
def PGs (X : Cx) (ts : List Expr) (t : TGs) : Prop :=
  ∀ (pins : List (Addr × Obj)) (s : Shared) (σ : St) (H : Hp) (vs : List V) (us : List Value) (Q : St → Hp → Prop), Inv X pins σ H s → Vals vs us → t vs σ H Q →
    wpAny (model X.prog X.w) X.A (assignInOrder ((assignEach ts X.env).map (·.2)) us) (fun _ s' => ∃ σ' H', Inv X pins σ' H' s' ∧ Q σ' H') X.xe s
section
variable {X : Cx} {pos : Pos}
def gName (i : Nat) : TG := fun v σ H Q => Q (σ.set i (some v)) H
theorem pg_name {i : Nat} {x : Str} (hN : X.N.Nodup) (hi : X.N[i]? = some x) (hx : Loc X.env.scope x) (hf : X.fn x = true ∨ X.env.scope.names.lookup x = some .local := by first | exact .inl rfl | exact .inr rfl | assumption) : PG X (.Name x pos) (gName i) := by
  intro pins s σ H v u Q I r h
  exact wpAny_assign_Name (store_ok I hN hi hx r (fun s' I' => ⟨_, H, I', h⟩) hf)
def gNil : TGs := fun vs σ H Q => vs = [] ∧ Q σ H
def gCons (t : TG) (u : TGs) : TGs := fun vs σ H Q => ∃ v r, vs = v :: r ∧ t v σ H fun σ' H' => u r σ' H' Q
theorem pgs_nil : PGs X [] gNil := by
  intro pins s σ H vs us Q I r h
  obtain ⟨e, h⟩ := h
  subst e
  cases r
  exact assignInOrder_nil ⟨σ, H, I, h⟩
theorem pgs_cons {e : Expr} {es : List Expr} {t : TG} {u : TGs} (h1 : PG X e t) (h2 : PGs X es u)
    (hs : (assignEach (e :: es) X.env).map (·.2) = assign e X.env :: (assignEach es X.env).map (·.2) := by rfl) : PGs X (e :: es) (gCons t u) := by
  intro pins s σ H vs us Q I r h
  obtain ⟨v, vr, e1, h⟩ := h
  subst e1
  cases r with
  | cons r rr =>
    rw [hs]
    refine assignInOrder_cons (thn (h1 pins s σ H _ _ _ I r h) fun _ s1 ⟨σ1, H1, I1, q1⟩ => ?_)
    exact h2 pins s1 σ1 H1 _ _ Q I1 rr q1
def gTup (K : PySem.W.Frag) (n : Nat) (t : TGs) : TG := fun v σ H Q => ∃ a xs, v = .ref a ∧ SqT K H a xs ∧ xs.length = n ∧ t xs σ H Q
theorem pg_tup {es : List Expr} {k : Nat} {t : TGs} {n : Nat} (hc : X.calm = true) (h : PGs X es t)
    (hn : (assignEach es X.env).length = n := by rfl) (hst : (assignEach es X.env).findIdx? (·.1) = none := by rfl) : PG X (.Tuple es k pos) (gTup X.K n t) := by
  intro pins s σ H v u Q I r hw
  obtain ⟨a, xs, e1, hq, hl, hw⟩ := hw
  subst e1
  cases r
  obtain ⟨its, rv, ht, hz⟩ := I.tuple hq
  refine assign_Tuple_tuple (I.ok.hd hc) ht (by simp [hn, ← hl, rv.length]) hst fun h' hx => ?_
  have I1 : Inv X pins σ H { s with heap := h' } := I.kept (t' := s.toks) fun b o e => hx b o (Nat.ne_of_lt (Heap.lt_size e)) e
  exact h pins _ σ H xs _ Q I1 (by simpa using rv) hw
def tAsg (te : TE) (g : TG) : TS := fun D σ H => te σ H fun x H1 => g x σ H1 D.nx
theorem ps_asg {tg e : Expr} {te : TE} {g : TG} (he : PE X e te) (hg : PG X tg g) (hs : swapsWithSole [tg] e pos.line X.env = pure false := by rfl) (hw : swappedStores [tg] e X.env = pure none := by rfl)
    (h1 : (assignEach [tg] X.env).map (·.2) = [assign tg X.env] := by rfl) : PS X (.Assign [tg] e pos) (tAsg te g) := by
  intro pins s σ H D I h
  refine wpAny_Assign_stores (thn (he pins s σ H _ I h) fun v s1 ⟨x, H1, I1, r1, q1⟩ => ?_) hs hw
  rw [h1]
  exact thn (hg pins s1 σ H1 x v _ I1 r1 q1) fun _ s2 q => q
theorem ps_set {i : Nat} {x : Str} {e : Expr} {te : TE} {pos' : Pos} (hN : X.N.Nodup) (hi : X.N[i]? = some x) (hx : Loc X.env.scope x) (he : PE X e te) (hs : swapsWith e (some (.Name x pos')) pos.line X.env = pure false := by rfl) (hf : X.fn x = true ∨ X.env.scope.names.lookup x = some .local := by first | exact .inl rfl | exact .inr rfl | assumption) :
    PS X (.Assign [.Name x pos'] e pos) (tAsg te (gName i)) := by
  intro pins s σ H D I h
  refine wpAny_Assign_Name (thn (he pins s σ H _ I h) fun v s1 ⟨y, H1, I1, r1, q1⟩ => ?_) hs
  exact store_ok I1 hN hi hx r1 (fun s2 I2 => ⟨_, H1, I2, q1⟩) hf
end
section
variable {X : Cx} {pos : Pos}
end
structure It where
  go : Nat → Hp → Prop
  yld : Nat → Hp → V → Hp → Prop
  stop : Nat → Hp → Prop
def FpOk (X : Cx) (pins : List (Addr × Obj)) (H : Hp) (b : Addr) : Prop :=
  H b = none ∧ b ≠ X.env.locals ∧ b ∉ X.fs ∧ (b ∈ X.ex ∨ X.s₀.heap.objs.size ≤ b) ∧ (∀ x c, X.env.cells.lookup x = some c → c ≠ b) ∧ ∀ p ∈ X.pn ++ pins, p.1 ≠ b
theorem Inv.fpOk {X : Cx} {pins : List (Addr × Obj)} {σ : St} {H H' : Hp} {s : Shared} {b : Addr} (I : Inv X pins σ H s) (hb : s.heap.objs.size ≤ b) (hn : H' b = none) : FpOk X pins H' b := by
  refine ⟨hn, Nat.ne_of_gt (Nat.lt_of_lt_of_le I.lt hb), I.nofs hb, .inr (Nat.le_trans I.sz hb), fun x c e z => ?_, fun p hp z => ?_⟩
  · obtain ⟨v, q⟩ := I.cell x c e
    exact absurd (Nat.lt_of_lt_of_le q.lt (by rw [z]; exact hb)) (Nat.lt_irrefl _)
  · exact absurd (Nat.lt_of_lt_of_le (Heap.lt_size (I.pin p hp).1) (by rw [z]; exact hb)) (Nat.lt_irrefl _)
structure Turn (P : Program) (w : World) (K : PySem.W.Frag) (tg : Expr) (J : It) (fp : List Addr) (it : Addr) (tn : Nat → Heap → Prop) : Prop where
  mem : it ∈ fp
  obj : ∀ i h, tn i h → ∀ b ∈ fp, ∃ o, h.get? b = some o ∧ ∀ v, o.data ≠ .cell v
  keep : ∀ i h h', tn i h → (∀ b ∈ fp, ∀ o, h.get? b = some o → h'.get? b = some o) → tn i h'
  item : ∀ (X : Cx), X.prog = P → X.w = w → X.K = K → X.calm = true → ∀ (i : Nat) (pins : List (Addr × Obj)) (s : Shared) (σ : St) (H : Hp) (E : Value → Shared → Prop), Inv X pins σ H s → (∀ b ∈ fp, FpOk X pins H b) → tn i s.heap → J.go i H →
    wpAny (model P w) X.A (pyNext (.ref it)) (fun r s1 => ∃ u, r = some u ∧
      wpAny (model P w) X.A (letOwnedTupleGo tg (.ref it) u) (fun _ s2 => ∃ x H', Inv X pins σ H' s2 ∧ RelV x u ∧ J.yld i H x H' ∧ tn (i + 1) s2.heap ∧ ∀ b ∈ fp, H' b = none) E s1) E s
  done : ∀ (X : Cx), X.prog = P → X.w = w → X.K = K → X.calm = true → ∀ (i : Nat) (pins : List (Addr × Obj)) (s : Shared) (σ : St) (H : Hp) (E : Value → Shared → Prop), Inv X pins σ H s → (∀ b ∈ fp, FpOk X pins H b) → tn i s.heap → J.stop i H →
    wpAny (model P w) X.A (pyNext (.ref it)) (fun r s1 => r = none ∧ Inv X pins σ H s1) E s
  self : ∀ (A : Around) (i : Nat) (s : Shared) (Q : Value → Shared → Prop) (E : Value → Shared → Prop), tn i s.heap → Q (.ref it) s → wpAny (model P w) A (pyIter (.ref it)) Q E s
abbrev TI := St → Hp → (It → Hp → Prop) → Prop
def PIE (X : Cx) (pins : List (Addr × Obj)) (σ : St) (tg : Expr) (R : It → Hp → Prop) (itv : Value) (s2 : Shared) : Prop :=
  ∃ (it : Addr) (fp : List Addr) (tn : Nat → Heap → Prop) (J : It) (H' : Hp), itv = .ref it ∧ Inv X pins σ H' s2 ∧ Turn X.prog X.w X.K tg J fp it tn ∧ tn 0 s2.heap ∧ (∀ b ∈ fp, FpOk X pins H' b) ∧ R J H'
def PI (X : Cx) (tg iter : Expr) (wi : TI) : Prop :=
  ∀ (pins : List (Addr × Obj)) (s : Shared) (σ : St) (H : Hp) (R : It → Hp → Prop), Inv X pins σ H s → wi σ H R →
    wpAny (model X.prog X.w) X.A (eval iter X.env) (fun v s1 => wpAny (model X.prog X.w) X.A (pyIter v) (PIE X pins σ tg R) X.xe s1) X.xe s
theorem go_of {M : Model} {A : Around} {E : Value → Shared → Prop} {s : Shared} {tg : Expr} {it : Addr} {u : Value} {o : Obj} {n : String} {vs : Array Value} {Q : Unit → Shared → Prop} (ho : s.heap.get? it = some o) (hc : o.cls = .type n) (hd : o.data = .fields vs)
    (hn : ["enumerate", "zip", "dict_itemiterator", "dict_reverseitemiterator", "odict_iterator", "itertools.zip_longest", "itertools.pairwise"].contains n = false) (hQ : Q () s) : wpAny M A (letOwnedTupleGo tg (.ref it) u) Q E s := by
  unfold letOwnedTupleGo
  cases tg <;> first
    | exact wpAny_pure hQ
    | (cases u <;> first
        | exact wpAny_pure hQ
        | (refine wpAny_bind (wpAny_load ho ?_)
           rw [hc, hd]
           show wpAny M A (if (["enumerate", "zip", "dict_itemiterator", "dict_reverseitemiterator", "odict_iterator", "itertools.zip_longest", "itertools.pairwise"].contains n && vs[0]? == some (rawInt _)) = true then _ else _) Q E s
           rw [if_neg (by intro h; rw [hn, Bool.false_and] at h; cases h)]
           exact wpAny_pure hQ))
def Itl (K : PySem.W.Frag) (a : Addr) : It :=
  ⟨fun i H => ∃ xs x, SqL K H a xs ∧ xs[i]? = some x, fun i H x H' => H' = H ∧ ∀ xs, SqL K H a xs → xs[i]? = some x, fun i H => ∃ xs, SqL K H a xs ∧ xs.length ≤ i⟩
def Itt (K : PySem.W.Frag) (a : Addr) : It :=
  ⟨fun i H => ∃ xs x, SqT K H a xs ∧ xs[i]? = some x, fun i H x H' => H' = H ∧ ∀ xs, SqT K H a xs → xs[i]? = some x, fun i H => ∃ xs, SqT K H a xs ∧ xs.length ≤ i⟩
theorem turn_list {P : Program} {w : World} {K : PySem.W.Frag} {tg : Expr} (a it : Addr) : Turn P w K tg (Itl K a) [it] it (fun i h => h.IsListIter it a i) where
  mem := by simp
  obj := fun i h st b hb => by
    have e : b = it := by simpa using hb
    subst e
    obtain ⟨o, e, c, d⟩ := st
    exact ⟨o, e, fun v z => by rw [d] at z; cases z⟩
  keep := fun i h h' st k => st.at fun o e => k it (by simp) o e
  item := by
    intro X hP hw hK hc i pins s σ H E I hf st hg
    subst hP hw hK
    obtain ⟨xs, x, hq, hx⟩ := hg
    obtain ⟨its, rv, p, hz⟩ := I.list hq
    obtain ⟨u, hu, ru⟩ := rv.get hx
    obtain ⟨f0, f1, f2, f3, f4, f5⟩ := hf it (by simp)
    refine wpAny_pyNext_list_item st p.isList (x := u) (by simpa using hu) fun h' st' sb => ?_
    have I1 : Inv X pins σ H { s with heap := h' } := I.turned (t' := s.toks) (fun b o hb e => (sb.2 b hb).trans e) f0 f1 f3 f4 f5
    obtain ⟨o, e, c, d⟩ := id st'
    exact ⟨u, rfl, go_of (s := { s with heap := h' }) e c d (by decide) ⟨x, H, I1, ru, ⟨rfl, fun ys hy => by rw [I.list_inj hy hq]; exact hx⟩, st', fun b hb => (hf b hb).1⟩⟩
  done := by
    intro X hP hw hK hc i pins s σ H E I hf st hg
    subst hP hw hK
    obtain ⟨xs, hq, hx⟩ := hg
    obtain ⟨its, rv, p, hz⟩ := I.list hq
    obtain ⟨f0, f1, f2, f3, f4, f5⟩ := hf it (by simp)
    have hl := rv.length
    exact wpAny_pyNext_list_end (I.ok.hd hc) st p.isList (by simp; omega) fun h' eb => ⟨rfl, I.turned (t' := s.toks) (fun b o hb e => eb b o hb e) f0 f1 f3 f4 f5⟩
  self := fun _ _ _ _ _ st h => wpAny_pyIter_listiter st h
theorem turn_tuple {P : Program} {w : World} {K : PySem.W.Frag} {tg : Expr} (a it : Addr) : Turn P w K tg (Itt K a) [it] it (fun i h => h.IsTupleIter it a i) where
  mem := by simp
  obj := fun i h st b hb => by
    have e : b = it := by simpa using hb
    subst e
    obtain ⟨o, e, c, d⟩ := st
    exact ⟨o, e, fun v z => by rw [d] at z; cases z⟩
  keep := fun i h h' st k => st.at fun o e => k it (by simp) o e
  item := by
    intro X hP hw hK hc i pins s σ H E I hf st hg
    subst hP hw hK
    obtain ⟨xs, x, hq, hx⟩ := hg
    obtain ⟨its, rv, p, hz⟩ := I.tuple hq
    obtain ⟨u, hu, ru⟩ := rv.get hx
    obtain ⟨f0, f1, f2, f3, f4, f5⟩ := hf it (by simp)
    refine wpAny_pyNext_tuple_item st (show s.heap.IsTuple a its.toArray from p) (x := u) (by simpa using hu) fun h' st' sb => ?_
    have I1 : Inv X pins σ H { s with heap := h' } := I.turned (t' := s.toks) (fun b o hb e => (sb.2 b hb).trans e) f0 f1 f3 f4 f5
    obtain ⟨o, e, c, d⟩ := id st'
    exact ⟨u, rfl, go_of (s := { s with heap := h' }) e c d (by decide) ⟨x, H, I1, ru, ⟨rfl, fun ys hy => by rw [I.tuple_inj hy hq]; exact hx⟩, st', fun b hb => (hf b hb).1⟩⟩
  done := by
    intro X hP hw hK hc i pins s σ H E I hf st hg
    subst hP hw hK
    obtain ⟨xs, hq, hx⟩ := hg
    obtain ⟨its, rv, p, hz⟩ := I.tuple hq
    obtain ⟨f0, f1, f2, f3, f4, f5⟩ := hf it (by simp)
    have hl := rv.length
    exact wpAny_pyNext_tuple_end (I.ok.hd hc) st (show s.heap.IsTuple a its.toArray from p) (by simp; omega) fun h' eb => ⟨rfl, I.turned (t' := s.toks) (fun b o hb e => eb b o hb e) f0 f1 f3 f4 f5⟩
  self := fun _ _ _ _ _ st h => wpAny_pyIter_tupleiter st h
end L2
namespace L2
open PySem PySem.Spec PyProof.Rows
section
variable {X : Cx} {tg : Expr}
def iList (K : PySem.W.Frag) (tl : TE) : TI := fun σ H R => tl σ H fun x H1 => ∃ a, x = .ref a ∧ (∃ xs, SqL K H1 a xs) ∧ R (Itl K a) H1
def iTup (K : PySem.W.Frag) (tl : TE) : TI := fun σ H R => tl σ H fun x H1 => ∃ a, x = .ref a ∧ (∃ xs, SqT K H1 a xs) ∧ R (Itt K a) H1
theorem pi_list {l : Expr} {tl : TE} (hl : PE X l tl) : PI X tg l (iList X.K tl) := by
  intro pins s σ H R I h
  refine thn (hl pins s σ H _ I h) fun v s1 ⟨x, H1, I1, r1, q1⟩ => ?_
  obtain ⟨a, e, ⟨xs, hq⟩, q⟩ := q1
  subst e
  cases r1
  obtain ⟨its, rv, p, hz⟩ := I1.list hq
  refine wpAny_pyIter_list p.isList ?_
  refine ⟨s1.heap.objs.size, [s1.heap.objs.size], _, _, H1, rfl, I1.kept (t' := s1.toks) fun b o e => Heap.get?_push_of_some _ e, turn_list a _, ⟨_, Heap.get?_push_size _ rfl, rfl, rfl⟩, fun b hb => ?_, q⟩
  have e : b = s1.heap.objs.size := by simpa using hb
  subst e
  exact I1.fpOk (Nat.le_refl _) (I1.hok.fresh (Nat.le_refl _))
theorem pi_tup {l : Expr} {tl : TE} (hl : PE X l tl) : PI X tg l (iTup X.K tl) := by
  intro pins s σ H R I h
  refine thn (hl pins s σ H _ I h) fun v s1 ⟨x, H1, I1, r1, q1⟩ => ?_
  obtain ⟨a, e, ⟨xs, hq⟩, q⟩ := q1
  subst e
  cases r1
  obtain ⟨its, rv, p, hz⟩ := I1.tuple hq
  refine wpAny_pyIter_tuple (show s1.heap.IsTuple a its.toArray from p) ?_
  refine ⟨s1.heap.objs.size, [s1.heap.objs.size], _, _, H1, rfl, I1.kept (t' := s1.toks) fun b o e => Heap.get?_push_of_some _ e, turn_tuple a _, ⟨_, Heap.get?_push_size _ rfl, rfl, rfl⟩, fun b hb => ?_, q⟩
  have e : b = s1.heap.objs.size := by simpa using hb
  subst e
  exact I1.fpOk (Nat.le_refl _) (I1.hok.fresh (Nat.le_refl _))
def tFor (wi : TI) (g : TG) (tb : TS) : TS := fun D σ H => wi σ H fun J H1 => ∃ W : Nat → Nat → St → Hp → Prop, (∃ m, W 0 m σ H1) ∧ ∀ i m σ H, W i m σ H →
  (J.stop i H ∧ D.nx σ H) ∨ (J.go i H ∧ ∃ N : St → Hp → Prop, (∀ σ' H', N σ' H' → ∃ m', m' < m ∧ W (i + 1) m' σ' H') ∧ ∀ x H', J.yld i H x H' → g x σ H' fun σ2 H2 => tb { D with nx := N, ct := N, bk := D.nx } σ2 H2)
def pinsAt (fp : List Addr) (h : Heap) : List (Addr × Obj) := fp.filterMap fun b => (h.get? b).map fun o => (b, o)
theorem mem_pinsAt {fp : List Addr} {h : Heap} {b : Addr} {o : Obj} (hb : b ∈ fp) (e : h.get? b = some o) : (b, o) ∈ pinsAt fp h := List.mem_filterMap.mpr ⟨b, hb, by rw [e]; rfl⟩
theorem of_pinsAt {fp : List Addr} {h : Heap} {p : Addr × Obj} (hp : p ∈ pinsAt fp h) : p.1 ∈ fp ∧ h.get? p.1 = some p.2 := by
  obtain ⟨b, hb, e⟩ := List.mem_filterMap.mp hp
  cases q : h.get? b with
  | none => rw [q] at e; cases e
  | some o =>
    rw [q] at e
    have e' : (b, o) = p := Option.some.inj e
    subst e'
    exact ⟨hb, q⟩
theorem Inv.pinned {pins : List (Addr × Obj)} {σ : St} {H : Hp} {s : Shared} {fp : List Addr} (I : Inv X pins σ H s) (hf : ∀ b ∈ fp, FpOk X pins H b) (ho : ∀ b ∈ fp, ∃ o, s.heap.get? b = some o ∧ ∀ v, o.data ≠ .cell v) : Inv X (pins ++ pinsAt fp s.heap) σ H s :=
  I.pins_of fun p hp => (List.mem_append.mp hp).elim (fun z => I.pin p (List.mem_append_right _ z)) fun z => by
    obtain ⟨hb, e⟩ := of_pinsAt z
    obtain ⟨f0, f1, f2, _⟩ := hf p.1 hb
    obtain ⟨o, e', d⟩ := ho p.1 hb
    rw [e] at e'; cases e'
    exact ⟨e, f0, f1, f2, d⟩
theorem Inv.unpinned {pins pl : List (Addr × Obj)} {σ : St} {H : Hp} {s : Shared} (I : Inv X (pins ++ pl) σ H s) : Inv X pins σ H s := I.pins_of fun p hp => I.pin p (List.mem_append_right _ (List.mem_append_left _ hp))
theorem ps_for {iter : Expr} {body : List Stmt} {wi : TI} {g : TG} {tb : TS} {pos : Pos} (hp : PassesOwn (model X.prog X.w) X.A X.env X.xe) (hc : X.calm = true) (hi : PI X tg iter wi) (hg : PG X tg g) (hb : PSs X body tb)
    (hs : ∀ x, foldedSetIterable iter X.env x = pure x := by intro _; rfl) : PS X (.For tg iter body [] pos) (tFor wi g tb) := by
  intro pins s σ H D I h
  refine wpAny_For (thn (hi pins s σ H _ I h) fun v s1 h1 => thn h1 fun itv s2 h2 => ?_) hs
  obtain ⟨it, fp, tn, J, H2, e, I2, T, st2, f2, W, ⟨m0, w0⟩, turn⟩ := h2
  subst e
  have stat : ∀ {H' : Hp}, (∀ b ∈ fp, H' b = none) → ∀ b ∈ fp, FpOk X pins H' b := fun hn b hb => ⟨hn b hb, (f2 b hb).2⟩
  refine codeAny_forLoop_any (fun n s' => ∃ i σ' H', Inv X pins σ' H' s' ∧ tn i s'.heap ∧ (∀ b ∈ fp, H' b = none) ∧ W i n σ' H') ?_ m0 ⟨0, σ, H2, I2, st2, fun b hb => (f2 b hb).1, w0⟩
  rintro n s3 ⟨i, σ3, H3, I3, st3, fr3, w3⟩
  rcases turn i n σ3 H3 w3 with ⟨stop, qn⟩ | ⟨go, N, hN, step⟩
  · refine wpAny_passesOwn hp (thn (T.done X rfl rfl rfl hc i pins s3 σ3 H3 X.xe I3 (stat fr3) st3 stop) fun r s4 ⟨hr, I4⟩ => ?_)
    subst hr
    exact wpAny_execs_nil ⟨σ3, H3, I4, qn⟩
  · refine wpAny_passesOwn hp (thn (T.item X rfl rfl rfl hc i pins s3 σ3 H3 X.xe I3 (stat fr3) st3 go) fun r s4 ⟨u, hr, h4⟩ => ?_)
    subst hr
    refine wpAny_passesOwn hp (thn h4 fun _ s5 ⟨x, H5, I5, r5, y5, st5, fr5⟩ => ?_)
    have I5' := I5.pinned (stat fr5) (T.obj _ _ st5)
    refine wpAny_passesOwn hp (thn (hg _ s5 σ3 H5 x u _ I5' r5 (step x H5 y5)) fun _ s6 ⟨σ6, H6, I6, q6⟩ => ?_)
    refine wpAny_passesOwn hp (thn (hb _ s6 σ6 H6 _ I6 q6) fun f s7 q7 => ?_)
    have again : ∀ {σ7 : St} {H7 : Hp}, Inv X (pins ++ pinsAt fp s5.heap) σ7 H7 s7 → N σ7 H7 → ∃ m, m < n ∧ ∃ i σ' H', Inv X pins σ' H' s7 ∧ tn i s7.heap ∧ (∀ b ∈ fp, H' b = none) ∧ W i m σ' H' := fun {σ7 H7} I7 n7 => by
      obtain ⟨m', hm, w7⟩ := hN σ7 H7 n7
      refine ⟨m', hm, i + 1, σ7, H7, I7.unpinned, T.keep _ _ _ st5 fun b hb o e => (I7.pin (b, o) (List.mem_append_right _ (List.mem_append_right _ (mem_pinsAt hb e)))).1, fun b hb => ?_, w7⟩
      obtain ⟨o, e, d⟩ := T.obj _ _ st5 b hb
      exact (I7.pin (b, o) (List.mem_append_right _ (List.mem_append_right _ (mem_pinsAt hb e)))).2.1
    cases f with
    | next => obtain ⟨σ7, H7, I7, n7⟩ := q7; exact again I7 n7
    | cont => obtain ⟨σ7, H7, I7, n7⟩ := q7; exact again I7 n7
    | brk => obtain ⟨σ7, H7, I7, q7⟩ := q7; exact ⟨σ7, H7, I7.unpinned, q7⟩
    | ret v => obtain ⟨x7, σ7, H7, I7, r7, q7⟩ := q7; exact ⟨x7, σ7, H7, I7.unpinned, r7, q7⟩
end
end L2
namespace L2
open PySem PySem.Spec PyProof.Rows
abbrev R2 := V → V → Hp → VK → Prop
def OpR (X : Cx) (f : Value → Value → Sem Value) (r : R2) : Prop :=
  ∀ (pins : List (Addr × Obj)) (s : Shared) (σ : St) (H : Hp) (x y : V) (v u : Value) (Q : VK), Inv X pins σ H s → RelV x v → RelV y u → r x y H Q →
    wpAny (model X.prog X.w) X.A (f v u) (EP X pins σ Q) X.xe s
def UnR (X : Cx) (f : Value → Sem Value) (r : V → Hp → VK → Prop) : Prop :=
  ∀ (pins : List (Addr × Obj)) (s : Shared) (σ : St) (H : Hp) (x : V) (v : Value) (Q : VK), Inv X pins σ H s → RelV x v → r x H Q →
    wpAny (model X.prog X.w) X.A (f v) (EP X pins σ Q) X.xe s
def CallR (X : Cx) (f : Value) (r : List V → Hp → VK → Prop) : Prop :=
  ∀ (pins : List (Addr × Obj)) (s : Shared) (σ : St) (H : Hp) (xs : List V) (us : List Value) (Q : VK), Inv X pins σ H s → Vals xs us → r xs H Q →
    wpAny (model X.prog X.w) X.A (call f us) (EP X pins σ Q) X.xe s
def TruR (X : Cx) (r : V → Hp → (Bool → Hp → Prop) → Prop) : Prop :=
  ∀ (pins : List (Addr × Obj)) (s : Shared) (σ : St) (H : Hp) (x : V) (v : Value) (Q : Bool → Hp → Prop), Inv X pins σ H s → RelV x v → r x H Q →
    wpAny (model X.prog X.w) X.A (truthy v) (TP X pins σ Q) X.xe s
def tOp (r : R2) (ta tb : TE) : TE := fun σ H Q => ta σ H fun x H1 => tb σ H1 fun y H2 => r x y H2 Q
def tUn (r : V → Hp → VK → Prop) (ta : TE) : TE := fun σ H Q => ta σ H fun x H1 => r x H1 Q
def rI (C : Int → Int → Prop) (g : Int → Int → V) : R2 := fun x y H Q => ∃ i j, x = .int i ∧ y = .int j ∧ C i j ∧ Q (g i j) H
def rI0 (g : Int → Int → V) : R2 := fun x y H Q => ∃ i j, x = .int i ∧ y = .int j ∧ Q (g i j) H
def rU (g : Int → V) : V → Hp → VK → Prop := fun x H Q => ∃ i, x = .int i ∧ Q (g i) H
section
variable {X : Cx} {a b c : Expr} {ta tb tc : TE} {pos : Pos}
theorem binT (ha : PE X a ta) (hb : PE X b tb) {pins : List (Addr × Obj)} {s : Shared} {σ : St} {H : Hp} {R : V → V → Hp → Prop} (I : Inv X pins σ H s)
    (h : ta σ H fun x H1 => tb σ H1 fun y H2 => R x y H2) {Q : Value → Shared → Prop} {f : Value → Value → Sem Value}
    (hf : ∀ v u s2 x y H2, Inv X pins σ H2 s2 → RelV x v → RelV y u → R x y H2 → wpAny (model X.prog X.w) X.A (f v u) Q X.xe s2) :
    wpAny (model X.prog X.w) X.A (eval a X.env) (fun v s₁ => wpAny (model X.prog X.w) X.A (eval b X.env) (fun u s₂ => wpAny (model X.prog X.w) X.A (f v u) Q X.xe s₂) X.xe s₁) X.xe s := by
  refine thn (ha pins s σ H _ I h) fun v s1 ⟨x, H1, I1, r1, q1⟩ => ?_
  refine thn (hb pins s1 σ H1 _ I1 q1) fun u s2 ⟨y, H2, I2, r2, q2⟩ => ?_
  exact hf v u s2 x y H2 I2 r1 r2 q2
theorem pe_op {op : Operator} {r : R2} (ho : OpR X (binaryOp op) r) (ha : PE X a ta) (hb : PE X b tb) : PE X (.BinOp a op b pos) (tOp r ta tb) := by
  intro pins s σ H Q I h
  exact wpAny_BinOp (binT ha hb I h fun v u s2 x y H2 I2 rx ry q => ho pins s2 σ H2 x y v u Q I2 rx ry q)
theorem pe_un {op : UnaryOp} {r : V → Hp → VK → Prop} (ho : UnR X (unaryOp op) r) (ha : PE X a ta) : PE X (.UnaryOp op a pos) (tUn r ta) := by
  intro pins s σ H Q I h
  exact UnaryOp_ (thn (ha pins s σ H _ I h) fun v s1 ⟨x, H1, I1, r1, q1⟩ => ho pins s1 σ H1 x v Q I1 r1 q1)
theorem opI {f : Value → Value → Sem Value} {C : Int → Int → Prop} {g : Int → Int → Int}
    (rule : ∀ (i j : Int) (t u : Tok) (s : Shared) (Q : Value → Shared → Prop) (E : Value → Shared → Prop), C i j → Q (.int (g i j) s.toks) { s with toks := s.toks + 1 } → wpAny (model X.prog X.w) X.A (f (.int i t) (.int j u)) Q E s) :
    OpR X f (rI C fun i j => .int (g i j)) := by
  intro pins s σ H x y v u Q I rx ry h
  obtain ⟨i, j, rfl, rfl, hc, q⟩ := h
  obtain ⟨t, rfl⟩ := rx
  obtain ⟨t', rfl⟩ := ry
  exact rule i j t t' s _ _ hc ⟨.int (g i j), H, I.tok _, ⟨_, rfl⟩, q⟩
theorem opI0 {f : Value → Value → Sem Value} {g : Int → Int → Int}
    (rule : ∀ (i j : Int) (t u : Tok) (s : Shared) (Q : Value → Shared → Prop) (E : Value → Shared → Prop), Q (.int (g i j) s.toks) { s with toks := s.toks + 1 } → wpAny (model X.prog X.w) X.A (f (.int i t) (.int j u)) Q E s) :
    OpR X f (rI0 fun i j => .int (g i j)) := by
  intro pins s σ H x y v u Q I rx ry h
  obtain ⟨i, j, rfl, rfl, q⟩ := h
  obtain ⟨t, rfl⟩ := rx
  obtain ⟨t', rfl⟩ := ry
  exact rule i j t t' s _ _ ⟨.int (g i j), H, I.tok _, ⟨_, rfl⟩, q⟩
theorem opB0 {f : Value → Value → Sem Value} {g : Int → Int → Bool}
    (rule : ∀ (i j : Int) (t u : Tok) (s : Shared) (Q : Value → Shared → Prop) (E : Value → Shared → Prop), Q (.bool (g i j)) s → wpAny (model X.prog X.w) X.A (f (.int i t) (.int j u)) Q E s) :
    OpR X f (rI0 fun i j => .bl (g i j)) := by
  intro pins s σ H x y v u Q I rx ry h
  obtain ⟨i, j, rfl, rfl, q⟩ := h
  obtain ⟨t, rfl⟩ := rx
  obtain ⟨t', rfl⟩ := ry
  exact rule i j t t' s _ _ ⟨.bl (g i j), H, I, rfl, q⟩
def CPow (i j : Int) : Prop := 0 ≤ j ∧ j ≤ 1000000 ∧ i.natAbs < 2 ^ 64
def CMul (i j : Int) : Prop := (-(2 ^ 64) < i ∧ i < 2 ^ 64) ∨ (-(2 ^ 64) < j ∧ j < 2 ^ 64)
theorem CMul.ok {i j : Int} (h : CMul i j) : IntMulOk i j := by
  rcases h with ⟨h1, h2⟩ | ⟨h1, h2⟩
  · exact .of_left (intBits_le_64 h1 h2)
  · exact .of_right (intBits_le_64 h1 h2)
theorem op_add : OpR X (binaryOp .Add) (rI0 fun i j => .int (i + j)) := opI0 fun _ _ _ _ _ _ _ q => add_int q
theorem op_sub : OpR X (binaryOp .Sub) (rI0 fun i j => .int (i - j)) := opI0 fun _ _ _ _ _ _ _ q => sub_int q
theorem op_modN : OpR X (binaryOp .Mod) (rI (fun _ j => j ≠ 0) fun i j => .int (i.fmod j)) := opI fun _ _ _ _ _ _ _ hc q => mod_int' hc q
theorem op_pow : OpR X (binaryOp .Pow) (rI CPow fun i j => .int (i ^ j.toNat)) := opI fun _ _ _ _ _ _ _ hc q => pow_int_small hc.1 hc.2.1 hc.2.2 q
theorem unI {f : Value → Sem Value} {g : Int → Int}
    (rule : ∀ (i : Int) (t : Tok) (s : Shared) (Q : Value → Shared → Prop) (E : Value → Shared → Prop), Q (.int (g i) s.toks) { s with toks := s.toks + 1 } → wpAny (model X.prog X.w) X.A (f (.int i t)) Q E s) :
    UnR X f (rU fun i => .int (g i)) := by
  intro pins s σ H x v Q I rx h
  obtain ⟨i, rfl, q⟩ := h
  obtain ⟨t, rfl⟩ := rx
  exact rule i t s _ _ ⟨.int (g i), H, I.tok _, ⟨_, rfl⟩, q⟩
theorem un_neg : UnR X (unaryOp .USub) (rU fun i => .int (-i)) := unI fun _ _ _ _ _ q => neg_int q
end
section
variable {X : Cx} {a b c : Expr} {ta tb tc : TE} {pos : Pos}
theorem fin_bl {pins : List (Addr × Obj)} {σ : St} {H : Hp} {s : Shared} {Q : VK} {k k' : Bool} (I : Inv X pins σ H s) (q : Q (.bl k) H) (e : k = k') : EP X pins σ Q (.bool k') s := by
  subst e
  exact ⟨.bl k, H, I, rfl, q⟩
theorem op_lt : OpR X (compareOp .Lt) (rI0 fun i j => .bl (decide (i < j))) := opB0 fun _ _ _ _ _ _ _ q => lt_int q
theorem op_le : OpR X (compareOp .LtE) (rI0 fun i j => .bl (decide (i ≤ j))) := opB0 fun _ _ _ _ _ _ _ q => le_int q
theorem op_gt : OpR X (compareOp .Gt) (rI0 fun i j => .bl (decide (j < i))) := opB0 fun _ _ _ _ _ _ _ q => gt_int q
theorem op_isN : OpR X (compareOp .Is) (fun x y H Q => y = .non ∧ Q (.bl (decide (x = .non))) H) := by
  intro pins s σ H x y v u Q I rx ry h
  obtain ⟨rfl, q⟩ := h
  cases ry
  refine is_none_gen (fin_bl I q ?_)
  cases x <;> first
    | (cases rx; rfl)
    | (obtain ⟨t, rfl⟩ := rx; rfl)
theorem op_notN : OpR X (compareOp .IsNot) (fun x y H Q => y = .non ∧ Q (.bl (!decide (x = .non))) H) := by
  intro pins s σ H x y v u Q I rx ry h
  obtain ⟨rfl, q⟩ := h
  cases ry
  refine isnot_none_gen (fin_bl I q ?_)
  cases x <;> first
    | (cases rx; rfl)
    | (obtain ⟨t, rfl⟩ := rx; rfl)
theorem OpR.or {f : Value → Value → Sem Value} {r r' : R2} (h : OpR X f r) (h' : OpR X f r') : OpR X f (fun x y H Q => r x y H Q ∨ r' x y H Q) := by
  intro pins s σ H x y v u Q I rx ry q
  rcases q with q | q
  · exact h pins s σ H x y v u Q I rx ry q
  · exact h' pins s σ H x y v u Q I rx ry q
theorem nomark (b : Expr) {op : CmpOp} (h : op ≠ .In := by decide) (h2 : op ≠ .NotIn := by decide) : behindInMarks op b = false := by
  have e1 : (op == CmpOp.In) = false := by cases op <;> first | rfl | exact absurd rfl h
  have e2 : (op == CmpOp.NotIn) = false := by cases op <;> first | rfl | exact absurd rfl h2
  cases b <;> simp [behindInMarks, e1, e2]
theorem pe_cmpR {op : CmpOp} {r : R2} (ho : OpR X (compareOp op) r) (ha : PE X a ta) (hb : PE X b tb) (hm : behindInMarks op b = false) : PE X (.Compare a [op] [b] pos) (tOp r ta tb) := by
  intro pins s σ H Q I h
  exact wpAny_Compare1 (binT ha hb I h fun v u s2 x y H2 I2 rx ry q => ho pins s2 σ H2 x y v u Q I2 rx ry q) hm
def tTest (t : TE) : TT := fun σ H Q => t σ H fun x H' => ∃ k, x = .bl k ∧ Q k H'
theorem pt_cmpR {op : CmpOp} {r : R2} (ho : OpR X (compareOp op) r) (ha : PE X a ta) (hb : PE X b tb) (hm : behindInMarks op b = false) : PT X (.Compare a [op] [b] pos) (tTest (tOp r ta tb)) := by
  intro pins s σ H Q I h
  refine wpAny_isTrue_Compare1 (thn (ha pins s σ H _ I h) fun v s1 ⟨x, H1, I1, r1, q1⟩ => thn (hb pins s1 σ H1 _ I1 q1) fun u s2 ⟨y, H2, I2, r2, q2⟩ =>
    thn (ho pins s2 σ H2 x y v u _ I2 r1 r2 q2) fun c s3 ⟨z, H3, I3, r3, k, e, q3⟩ => ?_) hm
  subst e
  cases r3
  exact wpAny_truthy_bool ⟨H3, I3, q3⟩
def tChain (r r' : R2) (ta tb tc : TE) : TE := fun σ H Q => ta σ H fun x H1 => tb σ H1 fun y H2 => r x y H2 fun z H3 => ∃ k, z = .bl k ∧
  (if k = true then tc σ H3 fun w' H4 => r' y w' H4 Q else Q (.bl false) H3)
theorem pt_chain {op op' : CmpOp} {r r' : R2} (ho : OpR X (compareOp op) r) (ho' : OpR X (compareOp op') r') (ha : PE X a ta) (hb : PE X b tb) (hc : PE X c tc)
    (hm : lastMarks [op, op'] [b, c] = false := by with_unfolding_all rfl) : PT X (.Compare a [op, op'] [b, c] pos) (tTest (tChain r r' ta tb tc)) := by
  intro pins s σ H Q I h
  refine isTrue_chain (thn (ha pins s σ H _ I h) fun v s1 ⟨x, H1, I1, r1, q1⟩ => test_link (thn (hb pins s1 σ H1 _ I1 q1) fun u s2 ⟨y, H2, I2, r2, q2⟩ =>
    thn (ho pins s2 σ H2 x y v u _ I2 r1 r2 q2) fun d s3 ⟨z, H3, I3, r3, k, e, q3⟩ => ?_)) hm
  subst e
  cases r3
  refine wpAny_truthy_bool ?_
  cases k with
  | false =>
    obtain ⟨k', e', q'⟩ := q3
    cases e'
    exact ite_ff ⟨H3, I3, q'⟩
  | true =>
    refine ite_tt (test_last (thn (hc pins s3 σ H3 _ I3 q3) fun w' s4 ⟨z', H4, I4, r4, q4⟩ => thn (ho' pins s4 σ H4 y z' u w' _ I4 r2 r4 q4) fun d' s5 ⟨z2, H5, I5, r5, k2, e2, q5⟩ => ?_))
    subst e2
    cases r5
    exact wpAny_truthy_bool ⟨H5, I5, q5⟩
def TruV (K : PySem.W.Frag) (x : V) (H : Hp) (k : Bool) : Prop :=
  match x with
  | .non => k = false
  | .bl b => k = b
  | .int i => k = (i != 0)
  | .str y => y.length ≤ sizeLine ∧ k = ((y.length : Int) != 0)
  | .byt y => y.size ≤ sizeLine ∧ k = ((y.size : Int) != 0)
  | .ref p => (∃ xs, SqL K H p xs ∧ k = !xs.isEmpty) ∨ (∃ xs, SqT K H p xs ∧ k = !xs.isEmpty) ∨ ∃ kvs, H p = some (.dK kvs) ∧ k = !kvs.isEmpty
  | _ => False
theorem isEmpty_kv {κ : Type} {kvs : List (κ × V)} {vs : List (κ × Value)} (r : KV kvs vs) : (!vs.isEmpty) = !kvs.isEmpty := by
  cases r <;> rfl
theorem isEmpty_of {xs : List V} {its : List Value} (r : Vals xs its) : (!its.toArray.isEmpty) = !xs.isEmpty := by
  cases r <;> simp
theorem line63 : (sizeLine : Nat) < 2 ^ 63 := by rw [sizeLine_eq]; decide
theorem tru_ok : TruR X (fun x H Q => ∃ k, TruV X.K x H k ∧ Q k H) := by
  intro pins s σ H x v Q I rx h
  obtain ⟨k, e, q⟩ := h
  have hl := line63
  have hs : sizeLine = 16777216 := sizeLine_eq
  cases x with
  | non =>
    cases rx
    have e' : k = false := e
    subst e'
    exact truthy_none ⟨H, I, q⟩
  | bl b =>
    cases rx
    have e' : k = b := e
    subst e'
    exact wpAny_truthy_bool ⟨H, I, q⟩
  | int i =>
    obtain ⟨t, rfl⟩ := rx
    have e' : k = (i != 0) := e
    subst e'
    exact PySem.P.truthy_int ⟨H, I, q⟩
  | str y =>
    obtain ⟨t, rfl⟩ := rx
    obtain ⟨hy, e'⟩ : y.length ≤ sizeLine ∧ k = ((y.length : Int) != 0) := e
    subst e'
    exact PySem.P.truthy_str (by omega) ⟨H, I.tok _, q⟩
  | byt y =>
    obtain ⟨t, rfl⟩ := rx
    obtain ⟨hy, e'⟩ : y.size ≤ sizeLine ∧ k = ((y.size : Int) != 0) := e
    subst e'
    exact PySem.W.truthy_bytes (by omega) ⟨H, I.tok _, q⟩
  | ref p =>
    cases rx
    have e' : (∃ xs, SqL X.K H p xs ∧ k = !xs.isEmpty) ∨ (∃ xs, SqT X.K H p xs ∧ k = !xs.isEmpty) ∨ ∃ kvs, H p = some (.dK kvs) ∧ k = !kvs.isEmpty := e
    rcases e' with ⟨xs, hx, e'⟩ | ⟨xs, hx, e'⟩ | ⟨kvs, hx, e'⟩
    · subst e'
      obtain ⟨its, r, pl, hz⟩ := I.list hx
      have hlen := r.length
      exact wpAny_truthy_list pl.isList (by simp only [List.size_toArray]; omega) ⟨H, I.tok _, by rw [isEmpty_of r]; exact q⟩
    · subst e'
      obtain ⟨its, r, pl, hz⟩ := I.tuple hx
      have hlen := r.length
      exact truthy_tuple pl (by simp only [List.size_toArray]; omega) ⟨H, I.tok _, by rw [isEmpty_of r]; exact q⟩
    · subst e'
      obtain ⟨hz, hS, vs, r, m⟩ : kvs.length ≤ sizeLine ∧ (p == sysModules) = false ∧ ∃ vs, KV kvs vs ∧ s.heap.DictOf (mixKind X.prog X.w) p vs := I.hok p _ hx
      have hlen : kvs.length = vs.length := Paired.length r
      exact wpAny_truthy_dict hS m (by omega) ⟨H, I.tok _, by rw [isEmpty_kv r]; exact q⟩
  | _ => exact (show False from e).elim
theorem pt_truth (ha : PE X a ta) (he : ∀ whole, isTrue a X.env whole = (do let v ← whole; standAt a.pos; holding [v] (truthy v))) :
    PT X a (fun σ H Q => ta σ H fun x H' => ∃ k, TruV X.K x H' k ∧ Q k H') := by
  intro pins s σ H Q I h
  exact isTrue_plain (thn (ha pins s σ H _ I h) fun v s1 ⟨x, H1, I1, r1, q1⟩ => tru_ok pins s1 σ H1 x v Q I1 r1 q1) (he _)
theorem op_add_str : OpR X (binaryOp .Add) (fun x y H Q => ∃ i j, x = .str i ∧ y = .str j ∧ i.length + j.length ≤ sizeLine ∧ Q (.str (i ++ j)) H) := by
  intro pins s σ H x y v u Q I rx ry h
  obtain ⟨i, j, rfl, rfl, hz, q⟩ := h
  obtain ⟨t, rfl⟩ := rx
  obtain ⟨t', rfl⟩ := ry
  exact add_str (fun t' tk => ⟨.str (i ++ j), H, I.tok _, ⟨_, rfl⟩, q⟩) hz
theorem vals1 {x : V} {us : List Value} (r : Vals [x] us) : ∃ u, us = [u] ∧ RelV x u := by
  cases r with
  | cons r1 r2 => cases r2; exact ⟨_, rfl, r1⟩
theorem vals2 {x y : V} {us : List Value} (r : Vals [x, y] us) : ∃ u w', us = [u, w'] ∧ RelV x u ∧ RelV y w' := by
  cases r with
  | cons r1 r2 =>
    cases r2 with
    | cons r3 r4 => cases r4; exact ⟨_, _, rfl, r1, r3⟩
theorem call_abs : CallR X (.builtin "abs") (fun xs H Q => ∃ i, xs = [.int i] ∧ Q (.int (if i < 0 then -i else i)) H) := by
  intro pins s σ H xs us Q I r h
  obtain ⟨i, rfl, q⟩ := h
  obtain ⟨u, rfl, t, rfl⟩ := vals1 r
  exact call_abs_int fun u tk => ⟨.int (if i < 0 then -i else i), H, I.tok _, ⟨_, rfl⟩, q⟩
theorem call_max2 (hc : X.calm = true) : CallR X (.builtin "max") (fun xs H Q => ∃ i j, xs = [.int i, .int j] ∧ Q (.int (if j > i then j else i)) H) := by
  intro pins s σ H xs us Q I r h
  obtain ⟨i, j, rfl, q⟩ := h
  obtain ⟨u, w', rfl, ⟨t, rfl⟩, ⟨t', rfl⟩⟩ := vals2 r
  refine max_two_ints (I.ok.hd hc) fun h' tk k => ⟨_, H, I.kept k, ?_, q⟩
  by_cases hj : j > i
  · rw [if_pos hj, if_pos hj]; exact ⟨_, rfl⟩
  · rw [if_neg hj, if_neg hj]; exact ⟨_, rfl⟩
theorem call_min2 (hc : X.calm = true) : CallR X (.builtin "min") (fun xs H Q => ∃ i j, xs = [.int i, .int j] ∧ Q (.int (if j < i then j else i)) H) := by
  intro pins s σ H xs us Q I r h
  obtain ⟨i, j, rfl, q⟩ := h
  obtain ⟨u, w', rfl, ⟨t, rfl⟩, ⟨t', rfl⟩⟩ := vals2 r
  refine min_two_ints (I.ok.hd hc) fun h' tk k => ⟨_, H, I.kept k, ?_, q⟩
  by_cases hj : j < i
  · rw [if_pos hj, if_pos hj]; exact ⟨_, rfl⟩
  · rw [if_neg hj, if_neg hj]; exact ⟨_, rfl⟩
end
end L2
namespace L2
open PySem PySem.Spec PyProof.Rows
structure ObjM (h : Heap) (x dx C : Addr) (mA : Str → Option Value) : Prop where
  obj : h.get? x = some (PySem.W.instObj C dx)
  ns : h.Ns1 dx mA
  ne : dx ≠ x
section
variable {prog : Program} {w : World} {A : Around} {E : Value → Shared → Prop} {s : Shared} {K : PySem.W.Frag} {x dx C f : Addr} {mA : Str → Option Value} {name : Str} {v : Value}
end
section
variable {P : Program} {w : World} {H H' : Hp} {h h' : Heap} {a C dx : Addr} {fs fs' : List (Str × V)}
end
structure Cls (K : PySem.W.Frag) (C : Addr) : Prop where
  pg : PySem.W.plainGet K C Str.empty = true
  hd : PySem.W.hasDictIn K C = true
  po : PySem.W.plainOver K C = true
  sa : PySem.W.findIn K (.ref C) "__setattr__" = some (some (.builtin "object.__setattr__"))
theorem Cls.get {K : PySem.W.Frag} {C : Addr} (c : Cls K C) (f : Str) : PySem.W.plainGet K C f = true := c.pg
structure Con (K : PySem.W.Frag) (C : Addr) (f : Str) (v : V) (u : Value) : Prop where
  at_ : PySem.W.findIn K (.ref C) f = some (some u)
  rel : RelV v u
  get : PySem.W.specialIn K u "__get__" = some none
  cp : PySem.W.copiedNames.contains f = false
structure Meth (K : PySem.W.Frag) (C : Addr) (m : Str) (f : Addr) : Prop where
  at_ : PySem.W.findIn K (.ref C) m = some (some (.ref f))
  fn : PySem.W.isFn K (.ref f) = true
  kp : PySem.W.keepIn K (.ref f) = true
section
variable {X : Cx} {pins : List (Addr × Obj)} {σ : St} {H : Hp} {s : Shared} {a C dx : Addr} {fs : List (Str × V)} {f : Str} {v : V} {A : Around} {E : Value → Shared → Prop}
theorem Inv.made (I : Inv X pins σ H s) : Inv X pins σ (upd (upd H s.heap.objs.size (.own (s.heap.objs.size + 1))) (s.heap.objs.size + 1) (.ins C s.heap.objs.size []))
    { s with heap := (s.heap.push PySem.W.emptyDict).push (PySem.W.instObj C s.heap.objs.size) } := by
  have e1 : (s.heap.push PySem.W.emptyDict).get? s.heap.objs.size = some PySem.W.emptyDict := Heap.get?_push_size s.heap rfl
  have e2 : ((s.heap.push PySem.W.emptyDict).push (PySem.W.instObj C s.heap.objs.size)).get? (s.heap.objs.size + 1) = some (PySem.W.instObj C s.heap.objs.size) := by
    have := Heap.get?_push_size (s.heap.push PySem.W.emptyDict) (o := PySem.W.instObj C s.heap.objs.size) rfl
    rwa [Heap.size_push] at this
  have e3 : (s.heap.push PySem.W.emptyDict).Ns s.heap.objs.size (fun _ => none) := ⟨PySem.W.emptyDict, #[], _, e1, rfl, (fun e he => absurd he (by simp)), fun _ => rfl⟩
  have I1 := I.laid (a := s.heap.objs.size) (o := .own (s.heap.objs.size + 1)) (h' := s.heap.push PySem.W.emptyDict) (t' := s.toks) (fun b u q => Heap.get?_push_of_some _ q) (Nat.le_refl _) ⟨_, e1⟩
  refine I1.laid (a := s.heap.objs.size + 1) (o := .ins C s.heap.objs.size []) (t' := s.toks) (fun b u q => Heap.get?_push_of_some _ q) (Nat.le_of_eq (Heap.size_push _ _)) ?_
  have ne : s.heap.objs.size ≠ s.heap.objs.size + 1 := Nat.ne_of_lt (Nat.lt_succ_self _)
  refine ⟨by rw [upd_ne ne, upd_same], Nat.zero_le _, ne, e2, fun _ => none, (Heap.Ns1.of_empty e3).at fun o q => Heap.get?_push_of_some _ q, fun _ => True.intro, fun y hy => absurd rfl hy⟩
end
section
variable {X : Cx} {o e value : Expr} {f : Str} {pos pos' tpos : Pos} {ta tv : TE}
end
section
variable {X : Cx} {pins : List (Addr × Obj)} {σ : St} {H : Hp} {s : Shared} {A : Around} {E : Value → Shared → Prop} {Q : Value → Shared → Prop} {c : Value} {b : Bool}
inductive TyOf (K : PySem.W.Frag) (H : Hp) : V → Value → Prop where
  | non : TyOf K H .non (.type "NoneType")
  | bl (x : Bool) : TyOf K H (.bl x) (.type "bool")
  | int (i : Int) : TyOf K H (.int i) (.type "int")
  | str (x : Str) : TyOf K H (.str x) (.type "str")
  | flt (x : UInt64) : TyOf K H (.flt x) (.type "float")
  | lst {a : Addr} {xs : List V} (e : H a = some (.lst xs)) : TyOf K H (.ref a) (.type "list")
  | frz {a : Addr} {o : Obj} {xs : List V} (e : H a = some (.frz o (.lst xs))) : TyOf K H (.ref a) (.type "list")
  | tup {a : Addr} {xs : List V} (e : H a = some (.tup xs)) : TyOf K H (.ref a) (.type "tuple")
  | dK {a : Addr} {kvs : List (Key × V)} (e : H a = some (.dK kvs)) : TyOf K H (.ref a) (.type "dict")
  | dT {a : Addr} {kvs : List (List Key × V)} (e : H a = some (.dT kvs)) : TyOf K H (.ref a) (.type "dict")
  | ins {a C dx : Addr} {fs : List (Str × V)} (e : H a = some (.ins C dx fs)) (cl : Cls K C) (ha : PySem.W.findIn K (.ref C) "__class__" = some (some (.builtin "object.__class__")))
      (hn : PySem.W.specialIn K (.builtin "object.__class__") "__get__" = some (some (.builtin "getset_descriptor.__get__"))) (htk : PySem.W.takesIn K (.builtin "object.__class__") = some true)
      (hm : PySem.W.mroIn K C (.type "object") = some true) : TyOf K H (.ref a) (.ref C)
end
end L2
namespace L2
open PySem PySem.Spec PyProof.Rows
structure Room (k : Nat) (A : Around) : Prop where
  hd : A.handled = none
  dp : A.depth + 3 * k + 5 < recursionLimit
  un : A.units + 16 * k + 200 < cLine
theorem Room.mono {j k : Nat} {A : Around} (r : Room k A) (h : j ≤ k) : Room j A := ⟨r.hd, by have := r.dp; omega, by have := r.un; omega⟩
theorem Room.deeper {k : Nat} {A : Around} (r : Room (k + 1) A) (env : Env) : Room k (A.deeper env) :=
  ⟨r.hd, by have := r.dp; show A.depth + 1 + 3 * k + 5 < _; omega, by have := r.un; show A.units + 3 + 16 * k + 200 < _; omega⟩
theorem Room.in1 {k : Nat} {A : Around} (r : Room (k + 1) A) : Room k A.in1 :=
  ⟨r.hd, by have := r.dp; show A.depth + 3 * k + 5 < _; omega, by have := r.un; show A.units + 1 + 16 * k + 200 < _; omega⟩
theorem Room.depth {k : Nat} {A : Around} (r : Room k A) : A.depth < recursionLimit := by have := r.dp; omega
theorem Room.units {k : Nat} {A : Around} (r : Room k A) : A.units + 64 < cLine := by have := r.un; omega
def tNil : TA := fun _ H Q => Q [] H
def tCons (ta : TE) (tr : TA) : TA := fun σ H Q => ta σ H fun x H1 => tr σ H1 fun xs H2 => Q (x :: xs) H2
section
variable {X : Cx} {e : Expr} {es : List Expr} {te : TE} {t : TA} {pos : Pos}
theorem pa_nil : PA X [] tNil := fun _ _ _ _ H Q I h => Calls.spliced_nil ⟨[], H, I, .nil, h⟩
theorem pa_cons (ha : PE X e te) (hr : PA X es t) (hs : starEach (e :: es) X.env = (false, eval e X.env) :: starEach es X.env := by rfl) : PA X (e :: es) (tCons te t) := by
  intro pos pins s σ H Q I h
  rw [hs]
  show wpAny _ _ (spliced ((false, eval e X.env) :: backTo pos (starEach es X.env))) _ _ s
  refine Calls.spliced_cons (thn (ha pins s σ H _ I h) fun u s1 ⟨x, H1, I1, r1, q1⟩ => ?_)
  exact thn (hr pos pins s1 σ H1 _ I1 q1) fun us s2 ⟨xs, H2, I2, r2, q2⟩ => ⟨x :: xs, H2, I2, .cons r1 r2, q2⟩
def tTup (t : TA) : TE := fun σ H Q => t σ H fun xs H1 => xs.length ≤ sizeLine ∧ ∀ p, H1 p = none → Q (.ref p) (upd H1 p (.tup xs))
def tLst (t : TA) : TE := fun σ H Q => t σ H fun xs H1 => xs.length ≤ sizeLine ∧ ∀ p, H1 p = none → Q (.ref p) (upd H1 p (.lst xs))
theorem pe_tup {x1} (h : PA X es t) : PE X (.Tuple es x1 pos) (tTup t) := by
  intro pins s σ H Q I hq
  refine wpAny_Tuple_spliced (thn (h pos pins s σ H _ I hq) fun us s1 ⟨xs, H1, I1, r, z, q⟩ => ⟨by rw [← r.length]; exact z, ?_⟩)
  have hf : H1 s1.heap.objs.size = none := I1.hok.fresh (Nat.le_refl _)
  refine ⟨.ref s1.heap.objs.size, upd H1 s1.heap.objs.size (.tup xs), I1.laid (t' := s1.toks) (fun b u e => Heap.get?_push_of_some _ e) (Nat.le_refl _) ?_, rfl, q _ hf⟩
  exact ⟨z, us, r, ⟨_, Heap.get?_push_size _ rfl, rfl, ⟨_, rfl⟩, rfl⟩⟩
theorem pe_lst (h : PA X es t) : PE X (.List es pos) (tLst t) := by
  intro pins s σ H Q I hq
  refine wpAny_List_spliced (thn (h pos pins s σ H _ I hq) fun us s1 ⟨xs, H1, I1, r, z, q⟩ => ⟨by rw [← r.length]; exact z, ?_⟩)
  have hf : H1 s1.heap.objs.size = none := I1.hok.fresh (Nat.le_refl _)
  refine ⟨.ref s1.heap.objs.size, upd H1 s1.heap.objs.size (.lst xs), I1.laid (t' := s1.toks) (fun b u e => Heap.get?_push_of_some _ e) (Nat.le_refl _) ?_, rfl, q _ hf⟩
  exact ⟨z, us, 0, r, Heap.get?_push_size _ rfl⟩
end
abbrev Sp := List V → Hp → VK → XK → Prop
abbrev CXT := List Env → Hp → Shared → XK → Value → Shared → Prop
structure Env0 (P : Program) (w : World) (K : PySem.W.Frag) (mg : Str → Option Value) (base : Heap) (A : Around) (outer : List Env) (s : Shared) (H : Hp) : Prop where
  frames : A.frames = some outer
  mod : Mod K mg base
  bs : ∀ b o, base.get? b = some o → s.heap.get? b = some o ∧ H b = none
  bsz : base.objs.size ≤ s.heap.objs.size
  funs : s.heap.FunFrames base outer
  frf : ∀ b ∈ frs outer, H b = none
  hok : HOk P w H s.heap
  bare : AllBare s.gens
  tab : H TabP = some (.tbl TabQ)
def CE (outer : List Env) (P : Program) (w : World) (H : Hp) (s : Shared) (Q : VK) (u : Value) (s' : Shared) : Prop :=
  ∃ v H', s'.os = s.os ∧ AllBare s'.gens ∧ Un (frs outer) [] H H' s.heap s'.heap ∧ HOk P w H' s'.heap ∧ RelV v u ∧ Q v H'
def CR (CX : CXT) (outer : List Env) (P : Program) (w : World) (H : Hp) (s : Shared) (Q : VK) (E : XK) (r : Result) (s' : Shared) : Prop :=
  match r with
  | .ok (.ret u) => CE outer P w H s Q u s'
  | .ok _ => False
  | .error e => CX outer H s E e s'
structure FnOk (P : Program) (w : World) (K : PySem.W.Frag) (mg : Str → Option Value) (base : Heap) (CX : CXT) (k : Nat) (f : Addr) (fd : FuncData) (ps : List Str) (sp : Sp) : Prop where
  len : ∀ vs H Q E, sp vs H Q E → vs.length = ps.length
  run : ∀ (A : Around) (outer : List Env) (s : Shared) (H : Hp) (args : Args) (us : List Value) (vs : List V) (Q : VK) (E : XK), Room k A → Env0 P w K mg base A outer s H → BindsTo s fd args (ps.zip us) → Vals vs us → sp vs H Q E →
    codeAny (model P w) A (.call (.ref f) args) (CR CX outer P w H s Q E) s
theorem FnOk.mono {P : Program} {w : World} {K : PySem.W.Frag} {mg : Str → Option Value} {base : Heap} {CX : CXT} {j k : Nat} {f : Addr} {fd : FuncData} {ps : List Str} {sp : Sp} (F : FnOk P w K mg base CX j f fd ps sp) (h : j ≤ k) :
    FnOk P w K mg base CX k f fd ps sp := ⟨F.len, fun A outer s H args us vs Q E hr => F.run A outer s H args us vs Q E (hr.mono h)⟩
theorem FnOk.imp {P : Program} {w : World} {K : PySem.W.Frag} {mg : Str → Option Value} {base : Heap} {CX : CXT} {k : Nat} {f : Addr} {fd : FuncData} {ps : List Str} {sp sp' : Sp} (F : FnOk P w K mg base CX k f fd ps sp)
    (h : ∀ vs H Q E, sp' vs H Q E → sp vs H Q E) : FnOk P w K mg base CX k f fd ps sp' :=
  ⟨fun vs H Q E q => F.len vs H Q E (h _ _ _ _ q), fun A outer s H args us vs Q E hr he hb hv hs => F.run A outer s H args us vs Q E hr he hb hv (h _ _ _ _ hs)⟩
theorem Env0.in1 {P : Program} {w : World} {K : PySem.W.Frag} {mg : Str → Option Value} {base : Heap} {A : Around} {outer : List Env} {s : Shared} {H : Hp} (e : Env0 P w K mg base A outer s H) :
    Env0 P w K mg base A.in1 outer s H := ⟨e.frames, e.mod, e.bs, e.bsz, e.funs, e.frf, e.hok, e.bare, e.tab⟩
section
variable {X : Cx} {pins : List (Addr × Obj)} {σ : St} {H : Hp} {s s' : Shared}
theorem Inv.env0 (I : Inv X pins σ H s) : Env0 X.prog X.w X.K X.mg X.base X.A X.stack s H :=
  ⟨I.ok.frames, I.ok.mod, I.bs, Nat.le_trans I.ok.bsz I.sz, I.stack, I.stkFree, I.hok, I.bare, I.base.tbls _ _ I.ok.tab⟩
theorem Inv.after {Q : VK} {u : Value} (I : Inv X pins σ H s) (h : CE X.stack X.prog X.w H s Q u s') : EP X pins σ Q u s' := by
  obtain ⟨v, H', os, bare, un, hok, r, q⟩ := h
  obtain ⟨hh, g, d, t, os'⟩ := s'
  obtain rfl : os' = s.os := os
  exact ⟨v, H', I.call (h' := hh) (g' := g) (d' := d) (t' := t) (ch := []) un hok bare (fun b z => absurd z (by simp)), r, q⟩
end
def tCall (sp : Sp) (dvs : List V) (E : XK) (t : TA) : TE := fun σ H Q => t σ H fun vs H1 => sp (vs ++ dvs) H1 Q E
def Binds (K : PySem.W.Frag) (fd : FuncData) (ps : List Str) (ds : List Value) : Prop :=
  ∀ (s : Shared) (us : List Value), K.In s.heap → (us ++ ds).length = ps.length → BindsTo s fd ⟨us, []⟩ (ps.zip (us ++ ds))
theorem Binds.all {K : PySem.W.Frag} {fd : FuncData} {ps : List Str} (h : ∀ us : List Value, us.length = ps.length → bindArgs fd ⟨us, []⟩ = pure (ps.zip us)) : Binds K fd ps [] := fun s us _ hl => by
  rw [List.append_nil] at hl ⊢
  exact .of_eq (h us hl)
def Passes (CX : CXT) (X : Cx) (E : XK) : Prop := ∀ (pins : List (Addr × Obj)) (σ : St) (H : Hp) (s : Shared) (e : Value) (s' : Shared), Inv X pins σ H s → CX X.stack H s E e s' → X.xe e s'
section
variable {X : Cx} {CX : CXT} {k : Nat} {f C : Addr} {fd : FuncData} {ps : List Str} {sp : Sp} {dvs : List V} {ds : List Value} {E : XK} {x m : Str} {p pos apos : Pos} {e o : Expr} {es : List Expr} {ta : TE} {t : TA}
theorem run_fn {pins : List (Addr × Obj)} {σ : St} {H : Hp} {s : Shared} {Q : VK} {us : List Value} {vs : List V} (F : FnOk X.prog X.w X.K X.mg X.base CX k f fd ps sp) (hr : Room k X.A) (hb : Binds X.K fd ps ds) (hd : Vals dvs ds) (hx : Passes CX X E)
    (I : Inv X pins σ H s) (r : Vals vs us) (h : sp (vs ++ dvs) H Q E) : wpAny (model X.prog X.w) X.A (call (.ref f) us) (EP X pins σ Q) X.xe s := by
  have r2 : Vals (vs ++ dvs) (us ++ ds) := r.append hd
  have hl : (us ++ ds).length = ps.length := by rw [← r2.length]; exact F.len _ _ _ _ h
  refine wpAny_call (codeAny_mono (F.run X.A X.stack s H ⟨us, []⟩ (us ++ ds) (vs ++ dvs) Q E hr I.env0 (hb s us I.kIn hl) r2 h) fun r s' hq => ?_)
  cases r with
  | error e => exact hx pins σ H s e s' I hq
  | ok fl =>
    cases fl with
    | ret u => exact I.after hq
    | next => exact False.elim hq
    | brk => exact False.elim hq
    | cont => exact False.elim hq
theorem pe_call (F : FnOk X.prog X.w X.K X.mg X.base CX k f fd ps sp) (hr : Room k X.A) (hg : Gl X x) (hm : X.mg x = some (.ref f)) (hk : PySem.W.keepIn X.K (.ref f) = true) (hb : Binds X.K fd ps ds) (hd : Vals dvs ds) (hx : Passes CX X E)
    (ha : PA X (e :: es) t) (hdb : (x == ("__debug__" : Str)) = false := by decide) (he : starEach (e :: es) X.env = (false, eval e X.env) :: starEach es X.env := by rfl) (hpl : (backTo pos (starEach es X.env)).any (·.1) = false := by rfl) :
    PE X (.Call (.Name x p) (e :: es) [] pos) (tCall sp dvs E t) := by
  intro pins s σ H Q I h
  refine wpAny_Call_Name_kw (ld_glob I hg hm ?_ hdb)
  refine PySem.W.callWith_K (h₀ := X.base) I.ok.mod.kin hk (thn (ha pos pins s σ H _ I h) fun us s1 ⟨vs, H1, I1, r, q⟩ => ⟨I1.kIn, ?_⟩) he hpl
  exact run_fn F hr hb hd hx I1 r q
structure Mk (K : PySem.W.Frag) (C f : Addr) : Prop where
  makes : PySem.W.makesIn K C = true
  init : PySem.W.findIn K (.ref C) "__init__" = some (some (.ref f))
  fn : PySem.W.isFn K (.ref f) = true
  kp : PySem.W.keepIn K (.ref C) = true
end
section
variable {X : Cx} {CX : CXT} {k : Nat} {f C : Addr} {fd : FuncData} {ps ks : List Str} {sp : Sp} {E : XK} {x m : Str} {p pos apos kpos : Pos} {e o : Expr} {es : List Expr} {kws : List Keyword} {te ta : TE} {t tk : TA} {nm : Option Str}
structure KBinds (K : PySem.W.Frag) (fd : FuncData) (ps ks : List Str) (g : List Value → List Value → List Value) (gV : List V → List V → List V) : Prop where
  to : ∀ (s : Shared) (us ws : List Value), K.In s.heap → (g us ws).length = ps.length → BindsTo s fd ⟨us, ks.zip ws⟩ (ps.zip (g us ws))
  rel : ∀ {vs : List V} {us : List Value} {zs : List V} {ws : List Value}, Vals vs us → Vals zs ws → Vals (gV vs zs) (g us ws)
variable {g : List Value → List Value → List Value} {gV : List V → List V → List V}
end
structure FnScope (N P : List Str) (sc : Scope) : Prop where
  kind : sc.kind = .function
  co : sc.isCoroutine = false
  gen : sc.isGenerator = false
  nd : N.Nodup
  pre : N.take P.length = P
  par : ∀ x ∈ P, sc.names.lookup x = some .local ∨ sc.names.lookup x = some .cell
  nofree : ∀ y ∈ sc.names, y.2 ≠ .free
theorem bindL_out {kindOf : Str → Option NameKind} {x : Str} : ∀ {binds : List (Str × Value)} {m : Str → Option Value}, (∀ v, (x, v) ∉ binds) → bindL kindOf binds m x = m x
  | [], _, _ => rfl
  | (n, v) :: r, m, h => by
    unfold bindL
    rw [bindL_out fun w hw => h w (List.mem_cons_of_mem _ hw)]
    split
    · have : x ≠ n := by rintro rfl; exact h v List.mem_cons_self
      simp [this]
    · rfl
theorem bindC_out {kindOf : Str → Option NameKind} {x : Str} : ∀ {binds : List (Str × Value)} {m : Str → Option Value}, (∀ v, (x, v) ∉ binds) → bindC kindOf binds m x = m x
  | [], _, _ => rfl
  | (n, v) :: r, m, h => by
    unfold bindC
    rw [bindC_out fun w hw => h w (List.mem_cons_of_mem _ hw)]
    split
    · rfl
    · have : x ≠ n := by rintro rfl; exact h v List.mem_cons_self
      simp [this]
theorem bindL_get {kindOf : Str → Option NameKind} {x : Str} {v : Value} : ∀ {P : List Str} {vs : List Value} {i : Nat} {m : Str → Option Value}, P.Nodup → P[i]? = some x → vs[i]? = some v → kindOf x = some .local →
    bindL kindOf (P.zip vs) m x = some v
  | [], _, _, _, _, h, _, _ => by simp at h
  | _ :: _, [], _, _, _, _, h, _ => by simp at h
  | p :: P, w :: vs, 0, m, nd, h1, h2, hk => by
    simp at h1 h2; subst h1; subst h2
    show bindL kindOf ((p, w) :: P.zip vs) m p = _
    unfold bindL
    rw [bindL_out fun v hv => (List.nodup_cons.mp nd).1 (List.of_mem_zip hv).1, if_pos hk]
    simp
  | p :: P, w :: vs, i + 1, m, nd, h1, h2, hk => by
    show bindL kindOf ((p, w) :: P.zip vs) m x = _
    unfold bindL
    exact bindL_get (i := i) (List.nodup_cons.mp nd).2 (by simpa using h1) (by simpa using h2) hk
theorem bindC_get {kindOf : Str → Option NameKind} {x : Str} {v : Value} : ∀ {P : List Str} {vs : List Value} {i : Nat} {m : Str → Option Value}, P.Nodup → P[i]? = some x → vs[i]? = some v → kindOf x ≠ some .local →
    bindC kindOf (P.zip vs) m x = some v
  | [], _, _, _, _, h, _, _ => by simp at h
  | _ :: _, [], _, _, _, _, h, _ => by simp at h
  | p :: P, w :: vs, 0, m, nd, h1, h2, hk => by
    simp at h1 h2; subst h1; subst h2
    show bindC kindOf ((p, w) :: P.zip vs) m p = _
    unfold bindC
    rw [bindC_out fun v hv => (List.nodup_cons.mp nd).1 (List.of_mem_zip hv).1, if_neg hk]
    simp
  | p :: P, w :: vs, i + 1, m, nd, h1, h2, hk => by
    show bindC kindOf ((p, w) :: P.zip vs) m x = _
    unfold bindC
    exact bindC_get (i := i) (List.nodup_cons.mp nd).2 (by simpa using h1) (by simpa using h2) hk
def start (N : List Str) (vs : List V) : St := vs.map some ++ List.replicate (N.length - vs.length) none
def cxOf (CX : CXT) (P : Program) (w : World) (K : PySem.W.Frag) (mg : Str → Option Value) (base : Heap) (N : List Str) (qual : Str) (scope : Scope) (f : Addr) (cd : Value) (A : Around) (outer : List Env) (s : Shared) (H : Hp) (E : XK) : Cx where
  prog := P
  w := w
  K := K
  mg := mg
  base := base
  A := A.deeper (envOfC qual scope s.heap.objs.size f cd)
  N := N
  s₀ := s
  H₀ := H
  env := envOfC qual scope s.heap.objs.size f cd
  outer := outer
  stack := envOfC qual scope s.heap.objs.size f cd :: outer
  ex := []
  calm := true
  fn := fun _ => true
  pn := []
  xe := fun e s' => wpAny (model P w) (A.deeper (envOfC qual scope s.heap.objs.size f cd)) (leaving (envOfC qual scope s.heap.objs.size f cd) e) (fun _ s'' => CX outer H s E e s'') (fun e' s'' => CX outer H s E e' s'') s'
theorem cell_has {sc : Scope} {n : Nat} {x : Str} (h : sc.names.lookup x = some .cell) : ∃ c, (cellsFrom n sc.names []).lookup x = some c := by
  have q := PySem.W.cellsFrom_some sc.names n [] (.inl h)
  exact Option.isSome_iff_exists.mp q
theorem inv_start {CX : CXT} {P : Program} {w : World} {K : PySem.W.Frag} {mg : Str → Option Value} {base : Heap} {N ps : List Str} {qual : Str} {scope : Scope} {f : Addr} {cd : Value} {A : Around} {outer : List Env} {s s1 : Shared} {H : Hp} {E : XK} {us : List Value} {vs : List V}
    (S : FnScope N ps scope) (hd : A.handled = none) (e0 : Env0 P w K mg base A outer s H) (hl : vs.length = ps.length) (r : Vals vs us)
    (x : InCallC s s.heap.objs.size (bindL (envOfC qual scope s.heap.objs.size f cd).kindOf (ps.zip us) fun _ => none) (cellsFrom (s.heap.objs.size + 1) scope.names []) (bindC (envOfC qual scope s.heap.objs.size f cd).kindOf (ps.zip us) fun _ => none) s1) :
    Inv (cxOf CX P w K mg base N qual scope f cd A outer s H E) [] (start N vs) H s1 := by
  have hpl : ps.length ≤ N.length := by have := congrArg List.length S.pre; rw [List.length_take] at this; omega
  obtain ⟨h1, tk, rfl, hk⟩ := x.done
  have noA : ∀ b : Addr, b ∉ (cxOf CX P w K mg base N qual scope f cd A outer s H E).ex := fun b z => absurd (show b ∈ ([] : List Addr) from z) (by simp)
  refine ⟨⟨e0.mod, S.kind, rfl, rfl, Nat.le_refl _, fun y z c h1 h2 => ?_, fun y hy => ?_, fun y c _ h => ?_, fun _ => hd, Around.frames_deeper e0.frames, .inr ⟨rfl, rfl⟩, fun b z => absurd z (noA b), e0.bs, e0.bsz, fun b _ _ => noA b, fun b z => absurd z (noA b), e0.funs, e0.frf, e0.tab⟩,
    rfl, e0.bare, Un.kept hk, ⟨_, x.toInCall.ns, fun i y v h1 h2 h3 => ?_⟩, fun y c h => ⟨_, x.cell y c h⟩, e0.hok.fresh (Nat.le_refl _), fun y c h => ?_, fun p hp => absurd (show p ∈ ([] : List (Addr × Obj)) from hp) (by simp), e0.hok.kept hk, ?_⟩
  · exact name_of_addr x.apart (PySem.mem_of_lookup h1) (PySem.mem_of_lookup h2)
  · have hy : scope.names.lookup y = some .cell ∨ scope.names.lookup y = some .free := hy
    rcases hy with hy | hy
    · exact cell_has hy
    · exact absurd rfl (S.nofree _ (PySem.mem_of_lookup hy))
  · exact Nat.le_of_lt (x.above y c (PySem.mem_of_lookup h))
  · have hi : i < vs.length := by
      unfold start at h2
      by_cases hi : i < vs.length
      · exact hi
      · rw [List.getElem?_append_right (by simpa using hi)] at h2
        rw [List.getElem?_replicate] at h2
        split at h2 <;> cases h2
    have ha : vs[i]? = some v := by
      unfold start at h2
      rw [List.getElem?_append_left (by simpa using hi), List.getElem?_map] at h2
      cases e : vs[i]? with
      | none => rw [e] at h2; cases h2
      | some a => rw [e] at h2; cases h2; rfl
    obtain ⟨u, hu, rv⟩ := r.get ha
    have hp : ps[i]? = some y := by
      rw [← S.pre, List.getElem?_take_of_lt (by omega)]; exact h1
    have ndP : ps.Nodup := by rw [← S.pre]; exact S.nd.sublist (List.take_sublist _ _)
    refine ⟨u, rv, ?_⟩
    rcases S.par y (List.mem_of_getElem? hp) with k | k
    · exact .inl ⟨k, bindL_get ndP hp hu k⟩
    · obtain ⟨c, e⟩ := cell_has (n := s.heap.objs.size + 1) k
      refine .inr ⟨.inl k, c, e, ?_⟩
      have q := x.cell y c e
      rw [bindC_get ndP hp hu (by show scope.names.lookup y ≠ _; rw [k]; decide)] at q
      exact q
  · exact e0.hok.fresh (Nat.le_of_lt (x.above y c (PySem.mem_of_lookup h)))
  · unfold start
    show _ = N.length
    rw [List.length_append, List.length_map, List.length_replicate]
    omega
theorem fn_of {CX : CXT} {P : Program} {w : World} {K : PySem.W.Frag} {mg : Str → Option Value} {base : Heap} {k : Nat} {f : Addr} {name qual : Str} {params : Arguments} {body : List Stmt} {scope : Scope} {dV kV doc pm cdv ct oc : Value} {an od : Option Addr}
    {osl : Array (Option Value)} {N ps : List Str} {sp : Sp} (lk : K.lookup f = some ⟨oc, od, .func (PySem.W.fnOf name qual params body scope dV kV doc pm an cdv ct), osl⟩) (hcd : PySem.W.codeIn K cdv qual = true) (S : FnScope N ps scope)
    (len : ∀ vs H Q E, sp vs H Q E → vs.length = ps.length)
    (hbody : ∀ (A : Around) (outer : List Env) (s : Shared) (H : Hp) (vs : List V) (Q : VK) (E : XK), Room k (A.deeper (envOfC qual scope s.heap.objs.size f cdv)) → sp vs H Q E →
      ∃ t, PSs (cxOf CX P w K mg base N qual scope f cdv A outer s H E) body t ∧ t { nx := fun _ H' => Q .non H', rt := Q } (start N vs) H) :
    FnOk P w K mg base CX (k + 1) f (PySem.W.fnOf name qual params body scope dV kV doc pm an cdv ct) ps sp := by
  refine ⟨len, fun A outer s H args us vs Q E hr e0 hb r hsp => ?_⟩
  have hl := len _ _ _ _ hsp
  have KX : K.In s.heap := e0.mod.kin.keeps fun b o e => (e0.bs b o e).1
  have lim : s.heap.NoLimit := e0.mod.nolimit.keeps fun b o e => (e0.bs b o e).1
  have hkind : ∀ y ∈ ps.zip us, scope.names.lookup y.1 = some .local ∨ (scope.names.lookup y.1 = some .cell ∧ ((cellsFrom (s.heap.objs.size + 1) scope.names []).lookup y.1).isSome = true) := fun ⟨n, v⟩ hy => by
    rcases S.par n (List.of_mem_zip hy).1 with q | q
    · exact .inl q
    · exact .inr ⟨q, PySem.W.cellsFrom_some _ _ _ (.inl q)⟩
  refine codeAny_call_function hr.depth (KX _ _ lk) rfl S.co S.gen rfl (PySem.W.codeRec_of KX hcd) (hb _ _ _ _ ?_)
  refine wpAny_newFunctionEnv_cells S.kind hkind fun env he s1 x => ?_
  subst he
  refine ⟨lim.keeps x.toInCall.keep, codeAny_func ?_⟩
  obtain ⟨t, ht, hq⟩ := hbody A outer s H vs Q E (hr.deeper _) hsp
  have I : Inv (cxOf CX P w K mg base N qual scope f cdv A outer s H E) [] (start N vs) H s1 := inv_start S hr.hd e0 hl r x
  refine wpAny_mono (ht [] s1 (start N vs) H _ I hq) (fun fl s' hs => ?_) fun e s' hs => hs
  have fin : ∀ {σ' : St} {H' : Hp} {v : V} {u : Value}, Inv (cxOf CX P w K mg base N qual scope f cdv A outer s H E) [] σ' H' s' → RelV v u → Q v H' → CE outer P w H s Q u s' :=
    fun {σ' H' v u} J rv q => ⟨v, H', J.os, J.bare, J.base, J.hok, rv, q⟩
  cases fl with
  | ret u =>
    obtain ⟨v, σ', H', J, rv, q⟩ := hs
    exact fin J rv q
  | next =>
    obtain ⟨σ', H', J, q⟩ := hs
    exact fin (v := V.non) (u := Value.none) J rfl q
  | brk =>
    obtain ⟨_, _, _, q⟩ := hs
    exact False.elim q
  | cont =>
    obtain ⟨_, _, _, q⟩ := hs
    exact False.elim q
end L2
namespace L2
open PySem PySem.Spec PyProof.Rows
section
variable {X : Cx} {x : Str} {p pos : Pos} {e : Expr} {es : List Expr} {t : TA} {id T : String} {r : List V → Hp → VK → Prop}
def tCB (r : List V → Hp → VK → Prop) (t : TA) : TE := fun σ H Q => t σ H fun vs H1 => r vs H1 Q
theorem pe_callB (hc : CallR X (.builtin id) r) (hg : Gl X x) (hm : X.mg x = none) (hv : bootBuiltins x = some (.builtin id)) (ha : PA X (e :: es) t) (hn : x ≠ "__name__" := by decide) (hdb : (x == ("__debug__" : Str)) = false := by decide)
    (he : starEach (e :: es) X.env = (false, eval e X.env) :: starEach es X.env := by rfl) (hpl : (backTo pos (starEach es X.env)).any (·.1) = false := by rfl) : PE X (.Call (.Name x p) (e :: es) [] pos) (tCB r t) := by
  intro pins s σ H Q I h
  refine wpAny_Call_Name_kw (ld_blt I hg hm hv ?_ hn hdb)
  exact PyProof.Rows.callWith_builtin1 (thn (ha pos pins s σ H _ I h) fun us s1 ⟨vs, H1, I1, r1, q1⟩ => hc pins s1 σ H1 vs us Q I1 r1 q1) he hpl
end
end L2
namespace HT
open PySem PyProof.Rows
def lexLt : List Int → List Int → Bool
  | [], [] => false
  | [], _ :: _ => true
  | _ :: _, [] => false
  | x :: xs, y :: ys => if x = y then lexLt xs ys else decide (x < y)
theorem lexLt_cons (x y : Int) (xs ys : List Int) : lexLt (x :: xs) (y :: ys) = if x = y then lexLt xs ys else decide (x < y) := rfl
theorem lexLt_nil_nil : lexLt [] [] = false := rfl
theorem lexLt_nil_cons (y : Int) (ys : List Int) : lexLt [] (y :: ys) = true := rfl
theorem lexLt_cons_nil (x : Int) (xs : List Int) : lexLt (x :: xs) [] = false := rfl
theorem eqAt_int (A : Around) (s : Shared) (a : Int) (t : Tok) (c : Int) (u : Tok) : ∃ e, SeqAt.EqAt A s (.int a t) (.int c u) e ∧ (e = true ↔ a = c) :=
  ⟨(a == c), SeqAt.EqAt.int_int a t c u, by simp⟩
theorem rcLt_int (A : Around) (s : Shared) (a : Int) (t : Tok) (c : Int) (u : Tok) (prog : Program) (w : World) (E : Value → Shared → Prop) (Q : Value → Shared → Prop) (h : Q (.bool (decide (a < c))) s) :
    wpAny (model prog w) A (richCompare .Lt (.int a t) (.int c u)) Q E s :=
  (PyProof.Rows.lt_int h : wpAny (model prog w) A (compareOp .Lt (.int a t) (.int c u)) Q E s)
section
open PySem.SeqAt
open PySem.AutoSeq1 (wpAny_loadPart')
open PySem.MeetsSeq PySem.MeetsSeq2 PySem.MeetsSeq3
theorem tuple_lt_ints (l b : Addr) (items items2 : Array Value) (n n2 : Nat) (dd dd2 : Option Addr) (sl sl2 : Array (Option Value)) (ns ms : List Int) (hi : IntsAre items.toList ns) (hj : IntsAre items2.toList ms) :
    Meets (Builtin.«tuple.__lt__» ⟨[.ref l, .ref b], []⟩)
      (fun _ R s => s.heap.get? l = some { cls := .type "tuple", dict := dd, data := .seq items n, slots := sl } ∧ s.heap.get? b = some { cls := .type "tuple", dict := dd2, data := .seq items2 n2, slots := sl2 } ∧
        R (.ok (.ret (.bool (lexLt ns ms)))) s) :=
  .of_wp fun prog w A R s h => by
    obtain ⟨hp, g, d, tk, os⟩ := s; obtain ⟨hl, hb, h⟩ := h
    have f2 := AutoSeq1.sub_tuple_tuple
    have z1 : items.size = ns.length := by rw [← hi.length]; simp
    have z2 : items2.size = ms.length := by rw [← hj.length]; simp
    wp_walk using wpAny_loadPart' hl, wpAny_loadPart' hb, wpAny_forIn_list _ (fun rest b s' => b.1 = none ∧ s' = ⟨hp, g, d, tk, os⟩ ∧ ∃ (vs ws : List Value) (ns' ms' : List Int), rest = vs.zip ws ∧
      IntsAre vs ns' ∧ IntsAre ws ms' ∧ ns'.length + items2.size = ms'.length + items.size ∧ R (.ok (.ret (.bool (lexLt ns' ms')))) ⟨hp, g, d, tk, os⟩) _
    case turn =>
      rintro ⟨y, x⟩ rest b s' ⟨hb', rfl, vs, ws, ns', ms', hz, hvi, hwi, hlen, hR⟩
      cases hvi with
      | nil => rw [List.zip_nil_left] at hz; cases hz
      | cons a t hvi' =>
        cases hwi with
        | nil => rw [List.zip_nil_right] at hz; cases hz
        | cons c u hwi' =>
          rw [List.zip_cons_cons] at hz
          injection hz with hyx hrest
          injection hyx with hy hx
          subst hy hx
          rw [lexLt_cons] at hR
          simp only [List.length_cons] at hlen
          obtain ⟨e, he, hiff⟩ := eqAt_int A.in1 ⟨hp, g, d, tk, os⟩ a t c u
          refine wpAny_bind (he prog w _ _ ?_)
          cases e with
          | true =>
            rw [if_pos (hiff.mp rfl)] at hR
            wp_walk
            exact ⟨rfl, rfl, _, _, _, _, hrest, hvi', hwi', by omega, hR⟩
          | false =>
            rw [if_neg (fun q => absurd (hiff.mpr q) Bool.false_ne_true)] at hR
            have hri := rcLt_int A.in1 ⟨hp, g, d, tk, os⟩ a t c u prog w
            wp_walk using hri
            exact ⟨_, rfl, by simpa using hR⟩
    case fin =>
      rintro ⟨b1, b2⟩ s' ⟨hb', rfl, vs, ws, ns', ms', hz, hvi, hwi, hlen, hR⟩
      simp only at hb'
      subst hb'
      have hv : lexLt ns' ms' = decide (items.size < items2.size) := by
        cases hvi with
        | nil =>
          cases hwi with
          | nil =>
            simp only [List.length_nil] at hlen
            rw [lexLt_nil_nil]
            exact (decide_eq_false (by omega)).symm
          | cons c u hw =>
            simp only [List.length_nil, List.length_cons] at hlen
            rw [lexLt_nil_cons]
            exact (decide_eq_true (by omega)).symm
        | cons a t hv =>
          cases hwi with
          | nil =>
            simp only [List.length_nil, List.length_cons] at hlen
            rw [lexLt_cons_nil]
            exact (decide_eq_false (by omega)).symm
          | cons c u hw =>
            rw [List.zip_cons_cons] at hz
            cases hz
      rw [hv] at hR
      wp_walk
      exact ⟨_, rfl, by simpa [Builtin.Tuple.tupleCompareSizes] using hR⟩
    case h =>
      exact ⟨rfl, rfl, items.toList, items2.toList, ns, ms, rfl, hi, hj, by omega, h⟩
end
section
variable {prog : Program} {w : World} {A : Around} {E : Value → Shared → Prop} {s : Shared}
theorem lt_tupInts {l b : Addr} {items items2 : Array Value} {ns ms : List Int} {Q : Value → Shared → Prop} (hl : IsTup s.heap l items) (hb : IsTup s.heap b items2) (hi : IntsAre items.toList ns) (hj : IntsAre items2.toList ms)
    (hu : A.units < cLine) (h : Q (.bool (lexLt ns ms)) s) : wpAny (model prog w) A (compareOp .Lt (.ref l) (.ref b)) Q E s := by
  obtain ⟨⟨cls, dd, data, sl⟩, ho, hc, n, hd⟩ := id hl
  obtain ⟨⟨cls2, dd2, data2, sl2⟩, ho2, hc2, n2, hd2⟩ := id hb
  simp only at hc hd hc2 hd2
  subst hc hd hc2 hd2
  exact richCompare_meets_room (op := .Lt) ⟨_, ho, rfl⟩ ⟨_, ho2, rfl⟩ PySem.F.slot_tuple_lt PySem.F.entry_tuple_lt (PySem.F.args_tuple_lt_2 _ _) (tuple_lt_ints l b items items2 n n2 dd dd2 sl sl2 ns ms hi hj)
    ⟨ho, ho2, show Value.bool (lexLt ns ms) ≠ Value.notImplemented ∧ Q (.bool (lexLt ns ms)) s from ⟨(fun x => nomatch x), h⟩⟩ hu
def sIx (n d : Nat) : Option Int → Nat
  | none => d
  | some v => if v < 0 then (v + (n : Int)).toNat else min v.toNat n
theorem sIx_le (n d : Nat) (hd : d ≤ n) (o : Option Int) : sIx n d o ≤ n := by
  cases o with
  | none => exact hd
  | some v =>
    show (if v < 0 then (v + (n : Int)).toNat else min v.toNat n) ≤ n
    by_cases hv : v < 0
    · rw [if_pos hv]; omega
    · rw [if_neg hv]; exact Nat.min_le_right _ _
theorem clip_eq (v : Int) (n d : Nat) : (if v < 0 then max (v + (n : Int)) 0 else min v (n : Int)) = ((sIx n d (some v) : Nat) : Int) := by
  show (if v < 0 then max (v + (n : Int)) 0 else min v (n : Int)) = (((if v < 0 then (v + (n : Int)).toNat else min v.toNat n) : Nat) : Int)
  by_cases hv : v < 0
  · simp only [if_pos hv]; omega
  · simp only [if_neg hv]; omega
theorem adjust_gen (lo hi : Option Int) (n : Nat) : Builtin.Slice.sliceAdjust lo hi 1 (n : Int) = (((sIx n 0 lo : Nat) : Int), ((sIx n n hi : Nat) : Int)) := by
  have h1 : ¬ ((1 : Int) < 0) := by omega
  unfold Builtin.Slice.sliceAdjust
  simp only [h1, if_false]
  refine Prod.ext ?_ ?_
  · cases lo with
    | none => rfl
    | some v => exact clip_eq v n 0
  · cases hi with
    | none => rfl
    | some v => exact clip_eq v n n
theorem places_gen (i j : Nat) : Builtin.Slice.slicePlaces (i : Int) (j : Int) 1 = j - i := by
  unfold Builtin.Slice.slicePlaces
  have h1 : (1 : Int) > 0 := by omega
  simp only [h1, if_true, Int.ediv_one]
  split <;> omega
theorem slicePart_ {v : Value} {o : Option Int} {Q : Option Int → Shared → Prop} (p : IsPart v o) (h : Q o s) : wpAny (model prog w) A (Builtin.Slice.slicePartIndex v) Q E s := by
  cases p with
  | none => exact slicePart_none h
  | int i t => exact slicePart_int h
theorem sliceApplied_gen {sl : Addr} {vl vu : Value} {lo hi : Option Int} {n : Nat} {Q : Int × Int × Nat → Shared → Prop} (hs : s.heap.IsSliceOf sl vl vu .none) (pl : IsPart vl lo) (pu : IsPart vu hi)
    (h : Q (((sIx n 0 lo : Nat) : Int), 1, sIx n n hi - sIx n 0 lo) s) : wpAny (model prog w) A (Builtin.Slice.sliceApplied (.ref sl) (pure (n : Int))) Q E s := by
  obtain ⟨os, hos, hcs, hds⟩ := id hs
  unfold Builtin.Slice.sliceApplied Builtin.Slice.sliceFields
  refine wpAny_bind (wpAny_bind (wpAny_field hos hds (x := vl) rfl (wpAny_bind (wpAny_field hos hds (x := vu) rfl (wpAny_bind (wpAny_field hos hds (x := .none) rfl (wpAny_pure ?_)))))))
  refine wpAny_bind (slicePart_none ?_)
  show wpAny _ _ (if ((1 : Int) == 0) = true then _ else _) _ _ s
  rw [if_neg (by decide)]
  refine wpAny_bind (slicePart_ pl (wpAny_bind (slicePart_ pu (wpAny_bind (wpAny_pure ?_)))))
  show wpAny _ _ (match Builtin.Slice.sliceAdjust lo hi 1 (n : Int) with | (lo, hi) => pure (lo, (1 : Int), Builtin.Slice.slicePlaces lo hi 1)) _ _ s
  rw [adjust_gen lo hi n]
  show wpAny _ _ (pure (((sIx n 0 lo : Nat) : Int), (1 : Int), Builtin.Slice.slicePlaces ((sIx n 0 lo : Nat) : Int) ((sIx n n hi : Nat) : Int) 1)) _ _ s
  rw [places_gen]
  exact wpAny_pure h
theorem pick_gen (xs : Array Value) (i k : Nat) : ((List.range k).filterMap fun (m : Nat) => xs[((i : Int) + (m : Int) * 1).toNat]?).toArray = ((xs.toList.drop i).take k).toArray := by
  have e : (fun (m : Nat) => xs[((i : Int) + (m : Int) * 1).toNat]?) = fun m => xs[i + m]? := by
    funext m
    have : ((i : Int) + (m : Int) * 1).toNat = i + m := by omega
    rw [this]
  rw [e]
  have := pick_run xs i k
  rw [List.filterMap_map] at this
  have e2 : ((fun x => xs[x]?) ∘ fun x => i + x) = fun m => xs[i + m]? := rfl
  rw [e2] at this
  rw [this]
theorem getItem_tuple_cut {t sl : Addr} {items : Array Value} {vl vu : Value} {lo hi : Option Int} {Q : Value → Shared → Prop} (ht : IsTup s.heap t items) (hs : s.heap.IsSliceOf sl vl vu .none) (pl : IsPart vl lo) (pu : IsPart vu hi)
    (hw : ¬ (sIx items.size 0 lo = 0 ∧ sIx items.size items.size hi = items.size))
    (h : Q (.ref s.heap.objs.size) { s with heap := s.heap.push { cls := .type "tuple", data := .seq ((items.toList.drop (sIx items.size 0 lo)).take (sIx items.size items.size hi - sIx items.size 0 lo)).toArray } })
    (hsz : items.size ≤ sizeLine) : wpAny (model prog w) A (getItem (.ref t) (.ref sl)) Q E s := by
  have htake : sizeOk (.seq ((items.toList.drop (sIx items.size 0 lo)).take (sIx items.size items.size hi - sIx items.size 0 lo)).toArray) := by
    show ((items.toList.drop (sIx items.size 0 lo)).take (sIx items.size items.size hi - sIx items.size 0 lo)).toArray.size ≤ sizeLine
    rw [List.size_toArray, List.length_take, List.length_drop, Array.length_toList]
    omega
  have hj : sIx items.size items.size hi ≤ items.size := sIx_le _ _ (Nat.le_refl _) hi
  obtain ⟨os, hos, hcs, hds⟩ := id hs
  have hTs : s.TypeIs (.ref sl) "slice" := ⟨os, hos, hcs⟩
  unfold getItem
  try with_reducible refine wpAny_holding ?_
  first | refine wpAny_bind (wpAny_pure ?_) | skip
  refine wpAny_bind (wpAny_sequenceKey ht.typeIs (by decide) ?_)
  refine wpAny_bind (wpAny_callSpecial?_slot (name := Str.ofString "__getitem__") ht.typeIs PyProof.Rows.slot_tuple_getitem
    (wpAny_call_entry PyProof.Rows.slot_tuple_getitem ht.typeIs entry_tuple_getitem ?_ (args_tuple_getitem _ _)))
  show wpAny _ _ (Builtin.Tuple.tupleItemsOf (.ref t) >>= _) _ _ s
  refine wpAny_bind (tupleItemsOf_ ht ?_)
  refine wpAny_bind (wpAny_typeOf hTs ?_)
  rw [if_pos (by decide)]
  refine wpAny_bind (sliceApplied_gen hs pl pu ?_)
  have hno : ¬ ((((sIx items.size 0 lo : Nat) : Int) == 0 && (1 : Int) == 1 && (sIx items.size items.size hi - sIx items.size 0 lo) == items.size) = true) := by
    intro q
    rw [Bool.and_eq_true, Bool.and_eq_true] at q
    have q1 : ((sIx items.size 0 lo : Nat) : Int) = 0 := eq_of_beq q.1.1
    have q2 : sIx items.size items.size hi - sIx items.size 0 lo = items.size := eq_of_beq q.2
    exact hw ⟨by omega, by omega⟩
  show wpAny _ _ (if (((sIx items.size 0 lo : Nat) : Int) == 0 && (1 : Int) == 1 && (sIx items.size items.size hi - sIx items.size 0 lo) == items.size) = true then _ else _) _ _ s
  rw [if_neg hno, pick_gen]
  first
    | exact wpAny_bind (m := Builtin.Tuple.tupleExact _) (wpAny_newObj_type (wpAny_pure ⟨_, rfl, wpAny_pure h⟩) htake)
    | exact wpAny_bind (m := Builtin.Tuple.tupleExact _) (wpAny_newObj_type (wpAny_bind (wpAny_pure (wpAny_pure ⟨_, rfl, wpAny_pure h⟩))) htake)
    | exact wpAny_bind (wpAny_bind (m := Builtin.Tuple.tupleExact _) (wpAny_newObj_type (wpAny_pure (wpAny_pure ⟨_, rfl, wpAny_pure h⟩)) htake))
    | exact wpAny_bind (wpAny_bind (m := Builtin.Tuple.tupleExact _) (wpAny_newObj_type (wpAny_pure ⟨_, rfl, wpAny_pure h⟩) htake))
end
end HT
namespace L2
open PySem PySem.Spec PyProof.Rows
abbrev TO := St → Hp → (Option Int → Hp → Prop) → Prop
def PO (X : Cx) (e : Option Expr) (t : TO) : Prop :=
  ∀ (pins : List (Addr × Obj)) (s : Shared) (σ : St) (H : Hp) (Q : Option Int → Hp → Prop), Inv X pins σ H s → t σ H Q →
    wpAny (model X.prog X.w) X.A (evalPart e X.env) (fun u s' => ∃ o H', Inv X pins σ H' s' ∧ IsPart u o ∧ Q o H') X.xe s
def tNoPart : TO := fun _ H Q => Q none H
def tPart (t : TE) : TO := fun σ H Q => t σ H fun x H1 => ∃ i, x = .int i ∧ Q (some i) H1
theorem intsAre_of {ns : List Int} : ∀ {us : List Value}, Vals (ns.map V.int) us → IntsAre us ns := by
  induction ns with
  | nil => intro us r; rw [List.map_nil] at r; cases r; exact .nil
  | cons n ns ih =>
    intro us r
    rw [List.map_cons] at r
    cases r with
    | cons r1 r2 =>
      obtain ⟨t, e⟩ := r1
      subst e
      exact .cons n t (ih r2)
section
variable {X : Cx} {e : Expr} {te : TE} {lo hi : Option Expr} {tl th : TO} {pos p2 : Pos}
theorem po_none : PO X none tNoPart := by
  intro pins s σ H Q I h
  rw [evalPart_none]
  exact wpAny_pure ⟨none, H, I, .none, h⟩
theorem po_some (h : PE X e te) : PO X (some e) (tPart te) := by
  intro pins s σ H Q I hw
  rw [evalPart_some]
  refine thn (h pins s σ H _ I hw) fun u s1 ⟨x, H1, I1, r1, q1⟩ => ?_
  obtain ⟨i, rfl, q⟩ := q1
  obtain ⟨t, rfl⟩ := r1
  exact ⟨some i, H1, I1, .int i t, q⟩
def SlR (X : Cx) (r : V → Option Int → Option Int → Hp → VK → Prop) : Prop :=
  ∀ (pins : List (Addr × Obj)) (s : Shared) (σ : St) (H : Hp) (x : V) (v vl vu : Value) (lo hi : Option Int) (sl : Addr) (Q : VK), Inv X pins σ H s → RelV x v → s.heap.IsSliceOf sl vl vu .none → IsPart vl lo → IsPart vu hi → r x lo hi H Q →
    ∃ T id, typeLookup (.type T) "__getitem__" = pure (some (.builtin id)) ∧ s.TypeIs v T ∧ wpAny (model X.prog X.w) X.A (getItem v (.ref sl)) (EP X pins σ Q) X.xe s
theorem SlR.or {r r' : V → Option Int → Option Int → Hp → VK → Prop} (h : SlR X r) (h' : SlR X r') : SlR X (fun x lo hi H Q => r x lo hi H Q ∨ r' x lo hi H Q) := by
  intro pins s σ H x v vl vu lo hi sl Q I rx hs pl pu q
  rcases q with q | q
  · exact h pins s σ H x v vl vu lo hi sl Q I rx hs pl pu q
  · exact h' pins s σ H x v vl vu lo hi sl Q I rx hs pl pu q
def tSl (r : V → Option Int → Option Int → Hp → VK → Prop) (te : TE) (tl th : TO) : TE := fun σ H Q => te σ H fun x H1 => tl σ H1 fun l H2 => th σ H2 fun u H3 => r x l u H3 Q
theorem pe_slice {r : V → Option Int → Option Int → Hp → VK → Prop} (hr : SlR X r) (he : PE X e te) (hl : PO X lo tl) (hu : PO X hi th) : PE X (.Subscript e (.Slice lo hi none p2) pos) (tSl r te tl th) := by
  intro pins s σ H Q I h
  refine Subscript_ (thn (he pins s σ H _ I h) fun v s1 ⟨x, H1, I1, r1, q1⟩ => ?_)
  refine wpAny_Slice (thn (hl pins s1 σ H1 _ I1 q1) fun vl s2 ⟨l, H2, I2, pl, q2⟩ => thn (hu pins s2 σ H2 _ I2 q2) fun vu s3 ⟨u, H3, I3, pu, q3⟩ => ?_)
  rw [evalPart_none]
  refine wpAny_pure ?_
  have I4 : Inv X pins σ H3 { s3 with heap := s3.heap.push { cls := .type "slice", data := .fields #[vl, vu, .none] } } := I3.kept (t' := s3.toks) fun b ob q => Heap.get?_push_of_some _ q
  obtain ⟨T, id, hT, ht, hg⟩ := hr pins { s3 with heap := s3.heap.push { cls := .type "slice", data := .fields #[vl, vu, .none] } } σ H3 x v vl vu l u s3.heap.objs.size Q I4 r1 (Heap.IsSliceOf.new ..) pl pu q3
  show wpAny (model X.prog X.w) X.A (subscriptTail e (.Slice lo hi none p2) v (.ref s3.heap.objs.size)) (EP X pins σ Q) X.xe { s3 with heap := s3.heap.push { cls := .type "slice", data := .fields #[vl, vu, .none] } }
  exact tail_any (ops := [.ref s3.heap.objs.size, v]) ht hT hg (by with_unfolding_all rfl)
def cutV (xs : List V) (lo hi : Option Int) : List V := (xs.drop (HT.sIx xs.length 0 lo)).take (HT.sIx xs.length xs.length hi - HT.sIx xs.length 0 lo)
theorem cutV_length (xs : List V) (lo hi : Option Int) : (cutV xs lo hi).length ≤ xs.length := by
  unfold cutV
  rw [List.length_take, List.length_drop]
  omega
def rSlT (K : PySem.W.Frag) : V → Option Int → Option Int → Hp → VK → Prop := fun x lo hi H Q => ∃ a xs, x = .ref a ∧ SqT K H a xs ∧
  ¬ (HT.sIx xs.length 0 lo = 0 ∧ HT.sIx xs.length xs.length hi = xs.length) ∧ ∀ p, H p = none → Q (.ref p) (upd H p (.tup (cutV xs lo hi)))
theorem sl_tup : SlR X (rSlT X.K) := by
  intro pins s σ H x v vl vu lo hi sl Q I rx hs pl pu h
  obtain ⟨a, xs, rfl, hx, hw, q⟩ := h
  cases rx
  obtain ⟨its, r, ht, hz⟩ := I.tuple hx
  have hlen : its.toArray.size = xs.length := by rw [List.size_toArray]; exact r.length.symm
  refine ⟨"tuple", _, PyProof.Rows.slot_tuple_getitem.lookup, ht.typeIs, ?_⟩
  refine HT.getItem_tuple_cut ht hs pl pu (by rw [hlen]; exact hw) ?_ (by rw [hlen]; exact hz)
  rw [hlen]
  refine ⟨.ref s.heap.objs.size, _, I.laid (t' := s.toks) (o := .tup (cutV xs lo hi)) (fun b ob q => Heap.get?_push_of_some _ q) (Nat.le_refl _) ?_, rfl, q _ (I.hok.fresh (Nat.le_refl _))⟩
  exact ⟨Nat.le_trans (cutV_length xs lo hi) hz, _, (r.drop (HT.sIx xs.length 0 lo)).take (HT.sIx xs.length xs.length hi - HT.sIx xs.length 0 lo), IsTuN.new _ _⟩
end
end L2
namespace L2
open PySem PySem.Spec PyProof.Rows
def ixN (n : Nat) (i : Int) : Option Nat := if 0 ≤ i then (if i < n then some i.toNat else none) else if -(n : Int) ≤ i then some (i + n).toNat else none
def atI {α : Type} (xs : List α) (i : Int) : Option α := (ixN xs.length i).bind fun j => xs[j]?
theorem ixN_seq {n : Nat} {i : Int} {j : Nat} (h : ixN n i = some j) : seqIndex? i n = some j ∧ j < n ∧ -(n : Int) ≤ i ∧ i < n := by
  unfold ixN at h
  by_cases h0 : 0 ≤ i
  · rw [if_pos h0] at h
    by_cases h1 : i < n
    · rw [if_pos h1] at h
      have e : i.toNat = j := Option.some.inj h
      exact ⟨by rw [seqIndex_of h0 h1, e], by omega, by omega, h1⟩
    · rw [if_neg h1] at h; cases h
  · rw [if_neg h0] at h
    by_cases h1 : -(n : Int) ≤ i
    · rw [if_pos h1] at h
      have e : (i + n).toNat = j := Option.some.inj h
      exact ⟨by rw [seqIndex_neg (by omega) h1, e], by omega, h1, by omega⟩
    · rw [if_neg h1] at h; cases h
theorem atI_get {α : Type} {xs : List α} {i : Int} {v : α} (h : atI xs i = some v) : ∃ j, seqIndex? i xs.length = some j ∧ xs[j]? = some v ∧ j < xs.length ∧ -(xs.length : Int) ≤ i ∧ i < xs.length := by
  unfold atI at h
  cases e : ixN xs.length i with
  | none => rw [e] at h; cases h
  | some j =>
    rw [e] at h
    obtain ⟨h1, h2, h3, h4⟩ := ixN_seq e
    exact ⟨j, h1, h, h2, h3, h4⟩
def PlainIx (b : Expr) : Prop := ∀ o i, subscripted b false o i = operate [o, i] (getItem o i)
def IxR (X : Cx) (r : R2) : Prop :=
  ∀ (value slice : Expr) (pins : List (Addr × Obj)) (s : Shared) (σ : St) (H : Hp) (x y : V) (v u : Value) (Q : VK), Inv X pins σ H s → RelV x v → RelV y u → r x y H Q →
    subscripted slice false v u = operate [v, u] (getItem v u) → wpAny (model X.prog X.w) X.A (subscriptTail value slice v u) (EP X pins σ Q) X.xe s
def MtR (X : Cx) (id : String) (r : V → List V → Hp → VK → Prop) : Prop :=
  ∀ (pins : List (Addr × Obj)) (s : Shared) (σ : St) (H : Hp) (x : V) (xs : List V) (v : Value) (us : List Value) (Q : VK), Inv X pins σ H s → RelV x v → Vals xs us → r x xs H Q →
    wpAny (model X.prog X.w) X.A (call (.builtin id) (v :: us)) (EP X pins σ Q) X.xe s
section
variable {X : Cx} {a b : Expr} {ta tb : TE} {pos : Pos}
theorem IxR.or {r r' : R2} (h : IxR X r) (h' : IxR X r') : IxR X (fun x y H Q => r x y H Q ∨ r' x y H Q) := by
  intro value slice pins s σ H x y v u Q I rx ry q hs
  rcases q with q | q
  · exact h value slice pins s σ H x y v u Q I rx ry q hs
  · exact h' value slice pins s σ H x y v u Q I rx ry q hs
theorem MtR.or {id : String} {r r' : V → List V → Hp → VK → Prop} (h : MtR X id r) (h' : MtR X id r') : MtR X id (fun x xs H Q => r x xs H Q ∨ r' x xs H Q) := by
  intro pins s σ H x xs v us Q I rx rs q
  rcases q with q | q
  · exact h pins s σ H x xs v us Q I rx rs q
  · exact h' pins s σ H x xs v us Q I rx rs q
theorem pe_ix {r : R2} (hr : IxR X r) (ha : PE X a ta) (hb : PE X b tb) (hs : PlainIx b) : PE X (.Subscript a b pos) (tOp r ta tb) := by
  intro pins s σ H Q I h
  exact Subscript_ (binT ha hb I h fun v u s2 x y H2 I2 rx ry q => hr a b pins s2 σ H2 x y v u Q I2 rx ry q (hs _ _))
def rIxL (K : PySem.W.Frag) : R2 := fun x y H Q => ∃ p xs i v, x = .ref p ∧ y = .int i ∧ SqL K H p xs ∧ atI xs i = some v ∧ Q v H
def rIxT (K : PySem.W.Frag) : R2 := fun x y H Q => ∃ p xs i v, x = .ref p ∧ y = .int i ∧ SqT K H p xs ∧ atI xs i = some v ∧ Q v H
def rIxS : R2 := fun x y H Q => ∃ z i c, x = .str z ∧ y = .int i ∧ z.length ≤ sizeLine ∧ atI z.cps.toList i = some c ∧ Q (.str ⟨#[c]⟩) H
theorem ix_list : IxR X (rIxL X.K) := by
  intro value slice pins s σ H x y v u Q I rx ry h hs
  obtain ⟨p, xs, i, z, rfl, rfl, hq, he, q⟩ := h
  cases rx
  obtain ⟨t, rfl⟩ := ry
  obtain ⟨its, r, pl, hz⟩ := I.list hq
  obtain ⟨j, h1, h2, h3, h4, h5⟩ := atI_get he
  obtain ⟨w, ew, rw'⟩ := r.get h2
  have hl := r.length
  have hn := line63
  have fin : EP X pins σ Q w s := ⟨z, H, I, rw', q⟩
  by_cases h0 : 0 ≤ i
  · have hj : i.toNat = j := by
      rw [seqIndex_of h0 h5] at h1
      exact Option.some.inj h1
    exact item_listR pl.isList h0 (by omega) (by rw [hj]; simpa using ew) fin hs
  · have hj : (i + (its.toArray.size : Int)).toNat = j := by
      rw [seqIndex_neg (by omega) h4] at h1
      rw [List.size_toArray, ← hl]
      exact Option.some.inj h1
    exact subscriptTail_builtinR (x := w) pl.isList.typeIs slot_list_getitem.lookup
      (wpAny_getItem_list_neg (Q := fun r s' => r = w ∧ EP X pins σ Q r s') pl.isList (by omega) (by rw [List.size_toArray] <;> omega) (by omega) (by rw [hj]; simpa using ew) ⟨rfl, fin⟩) hs
theorem ix_tup : IxR X (rIxT X.K) := by
  intro value slice pins s σ H x y v u Q I rx ry h hs
  obtain ⟨p, xs, i, z, rfl, rfl, hq, he, q⟩ := h
  cases rx
  obtain ⟨t, rfl⟩ := ry
  obtain ⟨its, r, pl, hz⟩ := I.tuple hq
  obtain ⟨j, h1, h2, h3, h4, h5⟩ := atI_get he
  obtain ⟨w, ew, rw'⟩ := r.get h2
  have hl := r.length
  have hn := line63
  have fin : EP X pins σ Q w s := ⟨z, H, I, rw', q⟩
  exact subscriptTail_builtinR (x := w) pl.typeIs slot_tuple_getitem.lookup
    (getItem_tuple (j := j) (Q := fun r s' => r = w ∧ EP X pins σ Q r s') pl (by omega) (by omega) (by rw [List.size_toArray, ← hl]; exact h1) (by simpa using ew) ⟨rfl, fin⟩) hs
theorem ix_str : IxR X rIxS := by
  intro value slice pins s σ H x y v u Q I rx ry h hs
  obtain ⟨z, i, c, rfl, rfl, hz, he, q⟩ := h
  obtain ⟨t, rfl⟩ := rx
  obtain ⟨t', rfl⟩ := ry
  obtain ⟨j, h1, h2, h3, h4, h5⟩ := atI_get he
  have hl : z.cps.toList.length = z.length := by simp [Str.length]
  rw [hl] at h1 h4 h5
  have hn := line63
  exact tail_any (typeIs_str s z t) slot_str_getitem.lookup (getItem_str (c := c) (by
    have e1 : decide (i < -(2 ^ 63 : Int)) = false := decide_eq_false (by omega)
    have e2 : decide (i ≥ 2 ^ 63) = false := decide_eq_false (by omega)
    rw [e1, e2, Bool.or_false]) (by rw [h1]; simpa using h2) ⟨.str ⟨#[c]⟩, H, I.tok _, ⟨_, rfl⟩, q⟩) hs
def rIx (K : PySem.W.Frag) : R2 := fun x y H Q => rIxL K x y H Q ∨ rIxT K x y H Q ∨ rIxS x y H Q
theorem ix_seq : IxR X (rIx X.K) := ix_list.or (ix_tup.or ix_str)
theorem Inv.lst {pins : List (Addr × Obj)} {σ : St} {H : Hp} {s : Shared} {p : Addr} {xs : List V} (I : Inv X pins σ H s) (h : H p = some (.lst xs)) :
    ∃ (its : List Value) (n : Nat), Vals xs its ∧ s.heap.get? p = some { cls := .type "list", data := .seq its.toArray n } ∧ xs.length ≤ sizeLine := by
  obtain ⟨z, its, n, r, e⟩ := I.hok p _ h
  exact ⟨its, n, r, e, z⟩
theorem slice_bounds (lo hi : Option Int) (n : Nat) : (sliceBounds lo hi none n).1 = ((HT.sIx n 0 lo : Nat) : Int) ∧ (sliceBounds lo hi none n).2.1 = ((HT.sIx n n hi : Nat) : Int) ∧ (sliceBounds lo hi none n).2.2 = 1 := by
  refine ⟨?_, ?_, rfl⟩
  · cases lo with
    | none => simp [sliceBounds, HT.sIx]
    | some i =>
      simp only [sliceBounds, HT.sIx, Option.getD_none, show (1 : Int) > 0 by decide, if_true]
      by_cases h : i < 0
      · simp only [h, if_true] <;> omega
      · simp only [h, if_false] <;> omega
  · cases hi with
    | none => simp [sliceBounds, HT.sIx]
    | some i =>
      simp only [sliceBounds, HT.sIx, Option.getD_none, show (1 : Int) > 0 by decide, if_true]
      by_cases h : i < 0
      · simp only [h, if_true] <;> omega
      · simp only [h, if_false] <;> omega
theorem slicePick_cut (its : List Value) (lo hi : Option Int) : slicePick its.toArray lo hi none = ((its.drop (HT.sIx its.length 0 lo)).take (HT.sIx its.length its.length hi - HT.sIx its.length 0 lo)).toArray := by
  obtain ⟨h1, h2, h3⟩ := slice_bounds lo hi its.toArray.size
  unfold slicePick
  rw [h1, h2, h3]
  simp only [sliceRange_one, pick_run, List.size_toArray] <;> rfl
def rSlL (K : PySem.W.Frag) : V → Option Int → Option Int → Hp → VK → Prop := fun x lo hi H Q => ∃ a xs, x = .ref a ∧ SqL K H a xs ∧ ∀ p, H p = none → Q (.ref p) (upd H p (.lst (cutV xs lo hi)))
theorem sl_list : SlR X (rSlL X.K) := by
  intro pins s σ H x v vl vu lo hi sl Q I rx hs pl pu h
  obtain ⟨a, xs, rfl, hx, q⟩ := h
  cases rx
  obtain ⟨its, r, ht, hz⟩ := I.list hx
  have hlen := r.length
  refine ⟨"list", _, slot_list_getitem.lookup, ht.isList.typeIs, ?_⟩
  refine wpAny_getItem_list_slice ht.isList hs pl pu .none (by simp) ?_ (by rw [List.size_toArray] <;> omega)
  rw [slicePick_cut, ← hlen]
  refine ⟨.ref s.heap.objs.size, _, I.laid (t' := s.toks) (o := .lst (cutV xs lo hi)) (fun b ob q => Heap.get?_push_of_some _ q) (Nat.le_refl _) ?_, rfl, q _ (I.hok.fresh (Nat.le_refl _))⟩
  exact ⟨Nat.le_trans (cutV_length xs lo hi) hz, _, 0, (r.drop (HT.sIx xs.length 0 lo)).take (HT.sIx xs.length xs.length hi - HT.sIx xs.length 0 lo), Heap.get?_push_size _ rfl⟩
theorem CallR.or {f : Value} {r r' : List V → Hp → VK → Prop} (h : CallR X f r) (h' : CallR X f r') : CallR X f (fun xs H Q => r xs H Q ∨ r' xs H Q) := by
  intro pins s σ H xs us Q I rs q
  rcases q with q | q
  · exact h pins s σ H xs us Q I rs q
  · exact h' pins s σ H xs us Q I rs q
def tyV (K : PySem.W.Frag) (T : String) (x : V) (H : Hp) : Prop := match x with
  | .str _ => T = "str"
  | .int _ => T = "int"
  | .ref p => (T = "list" ∧ ∃ xs, SqL K H p xs) ∨ (T = "tuple" ∧ ∃ o, K.lookup p = some o ∧ o.cls = .type "tuple" ∧ o.dict = none) ∨
      (T = "dict" ∧ ((∃ kvs, H p = some (.dK kvs)) ∨ ∃ kvs, H p = some (.dT kvs))) ∨ (T = "set" ∧ ∃ S n, H p = some (.set S n))
  | _ => False
theorem tyV_is {pins : List (Addr × Obj)} {σ : St} {H : Hp} {s : Shared} {T : String} {x : V} {v : Value} (I : Inv X pins σ H s) (r : RelV x v) (ty : tyV X.K T x H) :
    s.TypeIs v T ∧ ∀ a, v = .ref a → ∃ ob, s.heap.get? a = some ob ∧ ob.dict = none := by
  cases x with
  | str z =>
    obtain ⟨t, rfl⟩ := r
    cases (show T = "str" from ty)
    exact ⟨typeIs_str s z t, fun _ e => nomatch e⟩
  | int i =>
    obtain ⟨t, rfl⟩ := r
    cases (show T = "int" from ty)
    exact ⟨typeIs_int s i t, fun _ e => nomatch e⟩
  | ref p =>
    cases r
    rcases ty with ⟨rfl, xs, hq⟩ | ⟨rfl, o, hk, hc, hd⟩ | ⟨rfl, hk⟩ | ⟨rfl, S, n, hk⟩
    · obtain ⟨its, _, pl, _⟩ := I.list hq
      refine ⟨pl.isList.typeIs, fun a e => ?_⟩
      cases e
      obtain ⟨o, n, e, c, hd, _⟩ := pl
      exact ⟨o, e, hd⟩
    · refine ⟨⟨o, I.kIn p o hk, hc⟩, fun a e => ?_⟩
      cases e
      exact ⟨o, I.kIn _ o hk, hd⟩
    · have z : ∃ o, s.heap.get? p = some o ∧ o.ExactDict := by
        rcases hk with ⟨kvs, hk⟩ | ⟨kvs, hk⟩
        · obtain ⟨_, _, _, _, o, _, _, e, ex, _⟩ := I.hok p _ hk
          exact ⟨o, e, ex⟩
        · obtain ⟨_, _, _, _, o, _, _, e, ex, _⟩ := I.hok p _ hk
          exact ⟨o, e, ex⟩
      obtain ⟨o, e, ex⟩ := z
      refine ⟨⟨o, e, ex.1⟩, fun a e2 => ?_⟩
      cases e2
      exact ⟨o, e, ex.2.1⟩
    · obtain ⟨o, _, _, _, e, ex, _⟩ := I.hok p _ hk
      refine ⟨⟨o, e, ex.1⟩, fun a e2 => ?_⟩
      cases e2
      exact ⟨o, e, ex.2.1⟩
  | _ => exact False.elim ty
def tBM (K : PySem.W.Frag) (T : String) (r : V → List V → Hp → VK → Prop) (to : TE) (t : TA) : TE := fun σ H Q => to σ H fun x H1 => tyV K T x H1 ∧ t σ H1 fun xs H2 => r x xs H2 Q
variable {o e : Expr} {es : List Expr} {to : TE} {t : TA} {name : Str} {apos cpos : Pos} {T id : String} {r : V → List V → Hp → VK → Prop}
theorem pe_bm (pa : PlainAttrs T) (slot : Slot T name id) (hty : typeOf (.builtin id) = pure (.type "method_descriptor")) (hm : MtR X id r) (ho : PE X o to) (ha : PA X (e :: es) t)
    (hbase : attributeBase o name X.env (eval o X.env) = eval o X.env := by rfl)
    (hfew : ((backTo cpos (starEach (e :: es) X.env)).all (fun x => !x.1) && (backToKw cpos (keywordEach [] X.env)).all (fun x => x.1.isSome)
      && decide ((e :: es).length + ([] : List Keyword).length + (if ([] : List Keyword).isEmpty then 0 else 1) < 30)) = true := by rfl)
    (hline : (apos.endLine == cpos.line) = true := by rfl) (hs : starEach (e :: es) X.env = (false, eval e X.env) :: starEach es X.env := by rfl) (hplain : (backTo cpos (starEach es X.env)).any (·.1) = false := by rfl) :
    PE X (.Call (.Attribute o name apos) (e :: es) [] cpos) (tBM X.K T r to t) := by
  intro pins s σ H Q I h
  refine wpAny_Call_method_late hbase hfew hline rfl (thn (ho pins s σ H _ I h) fun v s1 ⟨x, H1, I1, r1, ty, q1⟩ => ?_)
  obtain ⟨h1, h2⟩ := tyV_is I1 r1 ty
  refine ⟨T, id, pa, slot, hty, h1, h2, ?_⟩
  have hA := ha cpos pins s1 σ H1 _ I1 q1
  rw [hs] at hA ⊢
  refine Calls.callWith_builtin (by show (false || (backTo cpos (starEach es X.env)).any (·.1)) = false; rw [hplain] <;> rfl) (Calls.evalArgs_plain ?_)
  exact thn hA fun us s2 ⟨vs, H2, I2, r2, q2⟩ => hm pins s2 σ H2 x vs v us Q I2 r1 r2 q2
end
end L2
namespace L2
open PySem PySem.Spec PyProof.Rows
def MtM (X : Cx) (id : String) (r : V → List V → Hp → VK → Prop) : Prop :=
  ∀ (pins : List (Addr × Obj)) (s : Shared) (σ : St) (H : Hp) (x : V) (xs : List V) (v : Value) (us : List Value) (Q : VK), Inv X pins σ H s → RelV x v → Vals xs us → r x xs H Q →
    wpAny (model X.prog X.w) X.A (call (.builtin id) (v :: us)) (EP X pins σ Q) X.xe s
theorem Vals.one : ∀ {x : V} {us : List Value}, Vals [x] us → ∃ u, us = [u] ∧ RelV x u
  | _, _, .cons r .nil => ⟨_, rfl, r⟩
theorem Vals.two : ∀ {x y : V} {us : List Value}, Vals [x, y] us → ∃ u v, us = [u, v] ∧ RelV x u ∧ RelV y v
  | _, _, _, .cons r (.cons q .nil) => ⟨_, _, rfl, r, q⟩
theorem Vals.zero : ∀ {us : List Value}, Vals [] us → us = []
  | _, .nil => rfl
section
variable {X : Cx} {pins : List (Addr × Obj)} {σ : St} {H : Hp} {s : Shared} {l b : Addr} {xs ys zs : List V}
theorem Inv.lset {its its' : List Value} {n : Nat} {f : Array Value → Array Value} {t' : Nat} (I : Inv X pins σ H s) (hH : H l = some (.lst xs))
    (e : s.heap.get? l = some { cls := .type "list", data := .seq its.toArray n }) (hf : f its.toArray = its'.toArray) (hv : Vals ys its') (hz : ys.length ≤ sizeLine) :
    Inv X pins σ (upd H l (.lst ys)) { s with heap := s.heap.update l (Obj.mapSeq f), toks := t' } := by
  have q := PySem.IsL.update e f
  rw [hf] at q
  refine I.write (x := l) (e := l) (by rw [hH]; exact trivial) (.inl rfl) (fun b' u hb hu => (Heap.get?_update_other s.heap (Obj.mapSeq f) (Ne.symm hb)).trans hu) ⟨_, q⟩ ?_
  exact ⟨hz, its', _, hv, q⟩
theorem Inv.lnew {its : List Value} {t' : Nat} (I : Inv X pins σ H s) (hv : Vals ys its) (hz : ys.length ≤ sizeLine) :
    Inv X pins σ (upd H s.heap.objs.size (.lst ys)) { s with heap := s.heap.push { cls := .type "list", data := .seq its.toArray }, toks := t' } :=
  I.laid (fun _ _ q => Heap.get?_push_of_some _ q) (Nat.le_refl _) ⟨hz, its, 0, hv, Heap.get?_push_size _ rfl⟩
theorem Inv.fresh (I : Inv X pins σ H s) : H s.heap.objs.size = none := I.hok.fresh (Nat.le_refl _)
theorem Inv.lstM (I : Inv X pins σ H s) (hH : H l = some (.lst xs)) : xs.length ≤ sizeLine ∧ ∃ (its : List Value) (n : Nat), Vals xs its ∧ xs.length = its.length ∧ s.heap.get? l = some { cls := .type "list", data := .seq its.toArray n } := by
  obtain ⟨z, its, n, r, e⟩ := I.hok l _ hH
  exact ⟨z, its, n, r, r.length, e⟩
end
section
variable {X : Cx}
def rAppend : V → List V → Hp → VK → Prop := fun x vs H Q => ∃ l xs y, x = .ref l ∧ vs = [y] ∧ H l = some (.lst xs) ∧ xs.length < sizeLine ∧ Q .non (upd H l (.lst (xs ++ [y])))
theorem mt_append : MtM X "list.append" rAppend := by
  intro pins s σ H x vs v us Q I rx rv h
  obtain ⟨l, xs, y, rfl, rfl, hH, hz, q⟩ := h
  cases rx
  obtain ⟨u, rfl, ru⟩ := rv.one
  obtain ⟨z, its, n, r, hl, e⟩ := I.lstM hH
  refine call_meets F.slot_list_append ⟨_, e, rfl⟩ F.entry_list_append (F.args_list_append_2 _ _) (PySem.list_append l its.toArray n u (by rw [List.size_toArray]; omega)) ⟨e, ?_⟩
  refine ⟨.non, _, I.lset (its' := its ++ [u]) hH e (by simp) (r.append (.cons ru .nil)) ?_, rfl, q⟩
  rw [List.length_append, List.length_singleton]
  omega
end
section
variable {prog : Program} {w : World} {A : Around} {E : Value → Shared → Prop} {s : Shared}
end
section
variable {X : Cx}
end
end L2
namespace Att
open PySem PySem.W PySem.Calls PyProof.Rows
theorem ints_of_wellAll {P : Params} {h : Heap} : ∀ (ns : List Int) (vs : List Value), WellAll P h vs (ns.map WData.int) → IntsAre vs ns := by
  intro ns
  induction ns with
  | nil =>
    intro vs w
    rw [List.map_nil] at w
    cases w
    exact .nil
  | cons n ns ih =>
    intro vs w
    rw [List.map_cons] at w
    cases w with
    | cons a b =>
      cases a
      exact .cons _ _ (ih _ b)
theorem script_of {l : OpenLaw} {n : Nat} (hn : l.most = some n) {P : Params} {h : Heap} {args : List WData} {vals : List Value}
    (hpre : l.row.toRowW.claim.pre args = true) (hwl : WellAll P h vals args) :
    ∃ a vs ns, vals = [Value.ref a] ∧ args = [WData.list (ns.map WData.int)] ∧ h.get? a = some { cls := .type "list", data := .seq vs.toArray } ∧ IntsAre vs ns ∧ ns.length ≤ n := by
  have hsh : WShape.hasAll [] args [.list .int] = true := (pre_splitW hpre).1
  have hc : l.pre.holds [] { args := args } = true := (pre_splitW hpre).2
  obtain ⟨d, r, rfl, h1, h2⟩ := hasAllW_cons hsh
  obtain rfl := hasAllW_nil h2
  obtain ⟨xs, rfl, h3⟩ := hasW_list h1
  obtain ⟨ns, rfl⟩ := items_int h3
  have hlen : ns.length ≤ n := by
    unfold OpenLaw.pre at hc
    have h4 : (WTm.not (.lt (.lit (.int (n : Int))) (.len (.arg 0)))).holds [] { args := [.list (ns.map .int)] } = true := by
      have h4 := (holds_andW hc).1
      rw [hn] at h4
      exact h4
    have h5 := condW_of h4 (w_not (w_lt w_lit (w_len_list (w_arg rfl))))
    rw [List.length_map] at h5
    refine Nat.le_of_not_lt fun q => ?_
    have q' : (n : Int) < ((ns.length : Nat) : Int) := by omega
    first
      | (rw [decide_eq_true q'] at h5; exact absurd h5 (by decide))
      | (simp at h5; omega)
  cases hwl with
  | cons w1 w2 =>
    cases w2
    cases w1 with
    | list ho hall => exact ⟨_, _, ns, rfl, rfl, ho, ints_of_wellAll ns _ hall, hlen⟩
theorem post_true (l : OpenLaw) (args : List WData) : l.row.toRowW.claim.post args (.bool true) args = true :=
  postW_of (r := l.row.toRowW) (X := (true == true))
    (show WShape.has [] (.bool true) .bool = true by first | rfl | decide | simp [WShape.has, WShape.arms, WShape.armsAll])
    (show (WTm.eq .res (.lit (.bool true))).value [] { args := args, res := some (.bool true), after := args } = some (.bool (true == true)) from w_eq_bool (w_res rfl) w_lit) rfl
theorem attach_call {l : OpenLaw} {n : Nat} {q : Program} {loose : List Str} {XP : (Str → Option Value) → Heap → Prop} {YP : World → Heap → Prop} {d : DefRec}
    (hn : l.most = some n) (hdf : d.params.defaults = [])
    (call : ∀ (w : World) (s₀ s₁ : Shared) (mg mb : Str → Option Value) (fa : Addr) (o : Obj) (pm cd doc : Value) (a : Addr) (vs : List Value) (ns : List Int),
      Ground q loose [] XP w s₀ mg mb s₁.heap → YP w s₁.heap →
      s₁.heap.get? fa = some o → o.data = .func (docDef d.name d.params d.body d.scope pm cd doc) → s₁.heap.CodeRec cd d.name → mg d.name = some (.ref fa) →
      s₁.heap.get? a = some { cls := .type "list", data := .seq vs.toArray } → IntsAre vs ns → ns.length ≤ n → s₁.gens = #[] →
      codeAny (model l.prog w) callerA (.call (.ref fa) ⟨[.ref a], []⟩) (fun r s' => r = .ok (.ret (.bool true)) ∧ OldK s₁.heap s'.heap ∧ s'.os = s₁.os ∧ AllBare s'.gens) s₁) :
    WalkO q loose XP YP l.row.toRowW d [] (fun f vs => PySem.call f vs) := by
  intro w s₀ s₁ mg mb G Y fa o pm cd doc dV kV ho hd hcd hD hmg hg args vals as hpre hlay hrd hwl hlo
  obtain rfl : dV = .none := Dflts.none hD hdf
  obtain rfl : kV = .none := Dflts.noKw hD
  obtain ⟨a, vs, ns, rfl, rfl, hobj, hints, hlen⟩ := script_of hn hpre hwl
  refine enter_call (codeAny_mono (call w s₀ s₁ mg mb fa o pm cd doc a vs ns G Y ho (fd_plain hd) hcd hmg hobj hints hlen hg) fun r s' hq => ?_)
  obtain ⟨rfl, h2, h3, h4⟩ := hq
  exact ⟨.inl ⟨.bool true, .bool true, [], rfl, fun _ => rfl, .bool true, post_true l _, fun _ => ⟨List.Pairwise.nil, fun _ hm => (nomatch hm)⟩⟩, h2, h3, h4⟩
section
variable {prog : Program} {w : World} {A : Around} {E : Value → Shared → Prop} {s : Shared} {K : Frag}
end
end Att
namespace L2
open PySem PySem.Spec PyProof.Rows
theorem vals_ints : ∀ {vs : List Value} {ns : List Int}, IntsAre vs ns → Vals (ns.map V.int) vs
  | _, _, .nil => .nil
  | _, _, .cons n t h => .cons ⟨t, rfl⟩ (vals_ints h)
end L2
namespace L2
open PySem PySem.Spec PyProof.Rows
end L2
namespace L2
open PySem PySem.Spec PyProof.Rows
def defArgs (s : Stmt) : Arguments := match s with
  | .FunctionDef _ a _ _ _ _ _ _ _ _ => a
  | _ => { posonlyargs := [], args := [], vararg := none, kwonlyargs := [], kw_defaults := [], kwarg := none, defaults := [] }
def defBody (s : Stmt) : List Stmt := match s with
  | .FunctionDef _ _ b _ _ _ _ _ _ _ => b
  | _ => []
def defScope (s : Stmt) : Scope := match s with
  | .FunctionDef _ _ _ _ _ _ sc _ _ _ => sc
  | _ => { kind := .function, names := [], isGenerator := false, isCoroutine := false }
abbrev CX0 : CXT := fun _ _ _ _ _ _ => False
abbrev E0 : XK := fun _ _ _ => False
theorem pass0 {X : Cx} : Passes CX0 X E0 := fun _ _ _ _ _ _ _ h => h.elim
structure Fun (K : PySem.W.Frag) (x qual : Str) (st : Stmt) (f : Addr) (fd : FuncData) : Prop where
  ex : ∃ (oc : Value) (od : Option Addr) (kV doc pm : Value) (an : Option Addr) (cdv ct : Value) (osl : Array (Option Value)),
    fd = PySem.W.fnOf x qual (defArgs st) (defBody st) (defScope st) .none kV doc pm an cdv ct ∧ K.lookup f = some ⟨oc, od, .func fd, osl⟩ ∧ PySem.W.codeIn K cdv qual = true
  kp : PySem.W.keepIn K (.ref f) = true
section
variable {P : Program} {w : World} {K : PySem.W.Frag} {mg : Str → Option Value} {base : Heap}
theorem Fun.ok {x qual : Str} {st : Stmt} {f : Addr} {fd : FuncData} {N ps : List Str} {k : Nat} {sp : Sp} (F : Fun K x qual st f fd) (S : FnScope N ps (defScope st)) (len : ∀ vs H Q E, sp vs H Q E → vs.length = ps.length)
    (hbody : ∀ (cdv : Value) (A : Around) (outer : List Env) (s : Shared) (H : Hp) (vs : List V) (Q : VK) (E : XK), Room k (A.deeper (envOfC qual (defScope st) s.heap.objs.size f cdv)) → sp vs H Q E →
      ∃ t, PSs (cxOf CX0 P w K mg base N qual (defScope st) f cdv A outer s H E).nox (defBody st) t ∧ t { nx := fun _ H' => Q .non H', rt := Q } (start N vs) H) : FnOk P w K mg base CX0 (k + 1) f fd ps sp := by
  obtain ⟨oc, od, kV, doc, pm, an, cdv, ct, osl, rfl, lk, hcd⟩ := F.ex
  refine fn_of lk hcd S len fun A outer s H vs Q E hr hsp => ?_
  obtain ⟨t, h, q⟩ := hbody cdv A outer s H vs Q E hr hsp
  exact ⟨t, h.nox, q⟩
theorem Fun.binds {x qual : Str} {st : Stmt} {f : Addr} {fd : FuncData} {ps : List Str} (F : Fun K x qual st f fd)
    (h : ∀ (kV doc pm : Value) (an : Option Addr) (cdv ct : Value) (us : List Value), us.length = ps.length → bindArgs (PySem.W.fnOf x qual (defArgs st) (defBody st) (defScope st) .none kV doc pm an cdv ct) ⟨us, []⟩ = pure (ps.zip us)) : Binds K fd ps [] := by
  obtain ⟨oc, od, kV, doc, pm, an, cdv, ct, osl, rfl, lk, hcd⟩ := F.ex
  exact .all (h kV doc pm an cdv ct)
theorem fun_mk {x qual : Str} {st : Stmt} {f : Addr} {oc : Value} {od an : Option Addr} {osl : Array (Option Value)} {kV doc pm cdv ct : Value} (l : K.lookup f = some ⟨oc, od, .func (PySem.W.fnOf x qual (defArgs st) (defBody st) (defScope st) .none kV doc pm an cdv ct), osl⟩)
    (c : PySem.W.codeIn K cdv qual = true) (k : PySem.W.keepIn K (.ref f) = true) : Fun K x qual st f (PySem.W.fnOf x qual (defArgs st) (defBody st) (defScope st) .none kV doc pm an cdv ct) := ⟨⟨oc, od, kV, doc, pm, an, cdv, ct, osl, rfl, l, c⟩, k⟩
end
theorem small1000 {n : Nat} (h : n ≤ 1000) : n < sizeLine := Nat.lt_of_le_of_lt h (by decide)
section
variable {X : Cx}
end
def Same (H H' : Hp) : Prop := ∀ b o, H b = some o → H' b = some o
theorem Same.refl (H : Hp) : Same H H := fun _ _ h => h
theorem Same.trans {H H1 H2 : Hp} (a : Same H H1) (b : Same H1 H2) : Same H H2 := fun c o h => b c o (a c o h)
theorem Same.free {H H' : Hp} (e : Same H H') {l : Addr} (h : H' l = Option.none) : H l = Option.none := by
  cases q : H l with
  | none => rfl
  | some o =>
    rw [e l o q] at h
    cases h
theorem Same.seq {K : PySem.W.Frag} {H H' : Hp} {a : Addr} {xs : List V} (e : Same H H') (h : SqL K H a xs) : SqL K H' a xs := by
  rcases h with (h | ⟨o, h⟩) | h
  · exact .inl (.inl (e _ _ h))
  · exact .inl (.inr ⟨o, e _ _ h⟩)
  · exact .inr h
end L2
set_option maxRecDepth 100000
set_option maxRecDepth 100000
namespace L2
open PySem PySem.Spec PyProof.Rows
end L2
namespace L2
open PySem PySem.Spec PyProof.Rows
section
variable (P : Program) (w : World)
end
section
variable {P : Program} {w : World} {H H' : Hp} {h h' : Heap} {a : Addr} {o : HO}
end
section
variable {P : Program} {w : World} {H : Hp} {h h' : Heap} {x e : Addr} {o' : HO}
end
section
variable {fs fs' ex ex' : List Addr} {H H1 H2 : Hp} {h h1 h2 h' : Heap} {a x e : Addr} {o : HO}
end
end L2
namespace L2
open PySem PySem.Spec PyProof.Rows
section
variable {X : Cx} {pins : List (Addr × Obj)} {σ : List (Option V)} {H H' : Hp} {s : Shared} {h' : Heap}
end
end L2
namespace L2
open PySem PySem.Spec PyProof.Rows
section
variable {X : Cx}
variable {a b : Expr} {ta tb : TE} {pos : Pos}
variable {tA tB' : TT} {rest : List Expr}
end
end L2
namespace L2
open PySem PySem.Spec PyProof.Rows
section
variable {X : Cx} {pins : List (Addr × Obj)} {σ : St} {H : Hp} {s : Shared} {a : Addr} {xs ys : List V}
end
section
variable {X : Cx} {pins : List (Addr × Obj)} {σ : St} {H : Hp} {s : Shared} {E : Value → Shared → Prop}
end
section
variable {X : Cx} {st : Stmt} {rest : List Stmt} {t u : TS} {e : Expr} {te : TE} {pos : Pos}
end
section
variable {X : Cx} {pos : Pos}
end
section
variable {X : Cx} {pos : Pos}
end
end L2
namespace L2
open PySem PySem.Spec PyProof.Rows
section
variable {X : Cx} {tg : Expr}
end
end L2
namespace L2
open PySem PySem.Spec PyProof.Rows
section
variable {X : Cx} {a b c : Expr} {ta tb tc : TE} {pos : Pos}
end
section
variable {X : Cx} {a b c : Expr} {ta tb tc : TE} {pos : Pos}
end
end L2
namespace L2
open PySem PySem.Spec PyProof.Rows
section
variable {prog : Program} {w : World} {A : Around} {E : Value → Shared → Prop} {s : Shared} {K : PySem.W.Frag} {x dx C f : Addr} {mA : Str → Option Value} {name : Str} {v : Value}
end
section
variable {P : Program} {w : World} {H H' : Hp} {h h' : Heap} {a C dx : Addr} {fs fs' : List (Str × V)}
end
section
variable {X : Cx} {pins : List (Addr × Obj)} {σ : St} {H : Hp} {s : Shared} {a C dx : Addr} {fs : List (Str × V)} {f : Str} {v : V} {A : Around} {E : Value → Shared → Prop}
end
section
variable {X : Cx} {o e value : Expr} {f : Str} {pos pos' tpos : Pos} {ta tv : TE}
end
section
variable {X : Cx} {pins : List (Addr × Obj)} {σ : St} {H : Hp} {s : Shared} {A : Around} {E : Value → Shared → Prop} {Q : Value → Shared → Prop} {c : Value} {b : Bool}
end
end L2
namespace L2
open PySem PySem.Spec PyProof.Rows
section
variable {X : Cx} {e : Expr} {es : List Expr} {te : TE} {t : TA} {pos : Pos}
end
section
variable {X : Cx} {pins : List (Addr × Obj)} {σ : St} {H : Hp} {s s' : Shared}
end
section
variable {X : Cx} {CX : CXT} {k : Nat} {f C : Addr} {fd : FuncData} {ps : List Str} {sp : Sp} {dvs : List V} {ds : List Value} {E : XK} {x m : Str} {p pos apos : Pos} {e o : Expr} {es : List Expr} {ta : TE} {t : TA}
end
section
variable {X : Cx} {CX : CXT} {k : Nat} {f C : Addr} {fd : FuncData} {ps ks : List Str} {sp : Sp} {E : XK} {x m : Str} {p pos apos kpos : Pos} {e o : Expr} {es : List Expr} {kws : List Keyword} {te ta : TE} {t tk : TA} {nm : Option Str}
variable {g : List Value → List Value → List Value} {gV : List V → List V → List V}
end
end L2
namespace L2
open PySem PySem.Spec PyProof.Rows
section
variable {X : Cx} {x : Str} {p pos : Pos} {e : Expr} {es : List Expr} {t : TA} {id T : String} {r : List V → Hp → VK → Prop}
end
end L2
namespace L2
open PySem PySem.Spec PyProof.Rows
section
variable {κ : Type} [DecidableEq κ]
def valV (kvs : List (κ × V)) (k : κ) : Option V := (kvs.find? fun kv => decide (kv.1 = k)).map (·.2)
def putK (kvs : List (κ × V)) (k : κ) (v : V) : List (κ × V) :=
  if (kvs.any fun kv => decide (kv.1 = k)) = true then kvs.map (fun kv => if kv.1 = k then (kv.1, v) else kv) else kvs ++ [(k, v)]
def dropK (kvs : List (κ × V)) (k : κ) : List (κ × V) := kvs.filter fun kv => decide (kv.1 ≠ k)
theorem valV_pos {p : κ × V} {r : List (κ × V)} {k : κ} (e : p.1 = k) : valV (p :: r) k = some p.2 := by simp [valV, List.find?_cons, e]
theorem valV_neg {p : κ × V} {r : List (κ × V)} {k : κ} (e : ¬ p.1 = k) : valV (p :: r) k = valV r k := by simp [valV, List.find?_cons, e]
theorem valV_any (k : κ) : ∀ kvs : List (κ × V), (kvs.any fun kv => decide (kv.1 = k)) = (valV kvs k).isSome
  | [] => rfl
  | p :: r => by
    rw [List.any_cons]
    by_cases e : p.1 = k
    · simp only [valV_pos e, decide_eq_true e, Bool.true_or, Option.isSome_some]
    · rw [valV_neg e, decide_eq_false e, Bool.false_or]; exact valV_any k r
theorem RelO.isSome_eq {o : Option V} {u : Option Value} (r : RelO o u) : o.isSome = u.isSome := by
  cases o with
  | none => cases u with
    | none => rfl
    | some _ => exact (show False from r).elim
  | some _ => cases u with
    | none => exact (show False from r).elim
    | some _ => rfl
theorem RelO.getD {o : Option V} {u : Option Value} {d : V} {d' : Value} (r : RelO o u) (rd : RelV d d') : RelV (o.getD d) (u.getD d') := by
  cases o with
  | none => cases u with
    | none => exact rd
    | some _ => exact (show False from r).elim
  | some _ => cases u with
    | none => exact (show False from r).elim
    | some _ => exact r
theorem KV.val {kvs : List (κ × V)} {vs : List (κ × Value)} (r : KV kvs vs) (k : κ) : RelO (valV kvs k) (valueAt vs k) := by
  unfold KV at r
  induction r with
  | nil => exact True.intro
  | @cons p q ps qs h t ih =>
    obtain ⟨h1, h2⟩ := h
    by_cases e : p.1 = k
    · have e' : q.1 = k := h1.symm.trans e
      have b : valueAt (q :: qs) k = some q.2 := by simp [valueAt, List.find?_cons, e']
      rw [valV_pos e, b]; exact h2
    · have e' : ¬ q.1 = k := fun z => e (h1.trans z)
      have b : valueAt (q :: qs) k = valueAt qs k := by simp [valueAt, List.find?_cons, e']
      rw [valV_neg e, b]; exact ih
theorem KV.any {kvs : List (κ × V)} {vs : List (κ × Value)} (r : KV kvs vs) (k : κ) : (kvs.any fun kv => decide (kv.1 = k)) = vs.any fun kv => decide (kv.1 = k) := by
  unfold KV at r
  induction r with
  | nil => rfl
  | cons h t ih => rw [List.any_cons, List.any_cons, ih, h.1]
theorem KV.repl {kvs : List (κ × V)} {vs : List (κ × Value)} (r : KV kvs vs) (k : κ) {y : V} {u : Value} (ry : RelV y u) :
    KV (kvs.map fun kv => if kv.1 = k then (kv.1, y) else kv) (vs.map fun kv => if kv.1 = k then (kv.1, u) else kv) := by
  unfold KV at r ⊢
  induction r with
  | nil => exact .nil
  | @cons p q ps qs h t ih =>
    rw [List.map_cons, List.map_cons]
    refine .cons ?_ ih
    obtain ⟨h1, h2⟩ := h
    by_cases e : p.1 = k
    · rw [if_pos e, if_pos (h1.symm.trans e)]; exact ⟨h1, ry⟩
    · rw [if_neg e, if_neg (fun z => e (h1.trans z))]; exact ⟨h1, h2⟩
theorem KV.put {kvs : List (κ × V)} {vs : List (κ × Value)} (r : KV kvs vs) (k : κ) {y : V} {u : Value} (ry : RelV y u) : KV (putK kvs k y) (stored vs k u) := by
  unfold putK stored
  rw [r.any k]
  by_cases e : (vs.any fun kv => decide (kv.1 = k)) = true
  · rw [if_pos e, if_pos e]; exact r.repl k ry
  · rw [if_neg e, if_neg e]; exact Paired.snoc r ⟨rfl, ry⟩
theorem KV.drop {kvs : List (κ × V)} {vs : List (κ × Value)} (r : KV kvs vs) (k : κ) : KV (dropK kvs k) (without vs k) := by
  unfold KV at r ⊢
  unfold dropK without
  induction r with
  | nil => exact .nil
  | @cons p q ps qs h t ih =>
    obtain ⟨h1, h2⟩ := h
    rw [List.filter_cons, List.filter_cons]
    by_cases e : p.1 = k
    · have a : ¬ decide (p.1 ≠ k) = true := by simp [e]
      have b : ¬ decide (q.1 ≠ k) = true := by simp [h1.symm.trans e]
      rw [if_neg a, if_neg b]; exact ih
    · have e' : ¬ q.1 = k := fun z => e (h1.trans z)
      have a : decide (p.1 ≠ k) = true := by simp [e]
      have b : decide (q.1 ≠ k) = true := by simp [e']
      rw [if_pos a, if_pos b]; exact .cons ⟨h1, h2⟩ ih
theorem KV.length {kvs : List (κ × V)} {vs : List (κ × Value)} (r : KV kvs vs) : kvs.length = vs.length := Paired.length r
end
abbrev KT (H : Hp) : List (List Key × V) → List (List Key × Addr × Value) → Prop := Paired fun p q => p.1 = q.1 ∧ H q.2.1 = some (.tup (p.1.map kV)) ∧ RelV p.2 q.2.2
theorem KT.val {H : Hp} {kvs : List (List Key × V)} {xs : List (List Key × Addr × Value)} (r : KT H kvs xs) (k : List Key) : RelO (valV kvs k) ((atKey xs k).map (·.2)) := by
  induction r with
  | nil => exact True.intro
  | @cons p q ps qs h t ih =>
    obtain ⟨h1, _, h2⟩ := h
    by_cases e : p.1 = k
    · have e' : q.1 = k := h1.symm.trans e
      have b : atKey (q :: qs) k = some q.2 := by simp [atKey, List.find?_cons, e']
      rw [valV_pos e, b]; exact h2
    · have e' : ¬ q.1 = k := fun z => e (h1.trans z)
      have b : atKey (q :: qs) k = atKey qs k := by simp [atKey, List.find?_cons, e']
      rw [valV_neg e, b]; exact ih
theorem KT.repl {H : Hp} {kvs : List (List Key × V)} {xs : List (List Key × Addr × Value)} (r : KT H kvs xs) (k : List Key) {y : V} {u : Value} (ry : RelV y u) :
    KT H (kvs.map fun kv => if kv.1 = k then (kv.1, y) else kv) (xs.map (putAt k u)) := by
  induction r with
  | nil => exact .nil
  | @cons p q ps qs h t ih =>
    rw [List.map_cons, List.map_cons]
    refine .cons ?_ ih
    obtain ⟨h1, h2, h3⟩ := h
    unfold putAt
    by_cases e : p.1 = k
    · rw [if_pos e, if_pos (h1.symm.trans e)]; exact ⟨h1, h2, ry⟩
    · rw [if_neg e, if_neg (fun z => e (h1.trans z))]; exact ⟨h1, h2, h3⟩
theorem KT.put {H : Hp} {kvs : List (List Key × V)} {xs : List (List Key × Addr × Value)} (r : KT H kvs xs) (k : List Key) {b : Addr} {y : V} {u : Value} (hb : H b = some (.tup (k.map kV))) (ry : RelV y u) :
    KT H (putK kvs k y) (storedH xs k b u) := by
  have e : (kvs.any fun kv => decide (kv.1 = k)) = (atKey xs k).isSome := by
    rw [valV_any, (r.val k).isSome_eq, Option.isSome_map]
  unfold putK storedH
  rw [e]
  by_cases q : (atKey xs k).isSome = true
  · rw [if_pos q, if_pos q]; exact r.repl k ry
  · rw [if_neg q, if_neg q]; exact Paired.snoc r ⟨rfl, hb, ry⟩
theorem KT.keeps {H H' : Hp} {kvs : List (List Key × V)} {xs : List (List Key × Addr × Value)} (r : KT H kvs xs) (ht : ∀ b ys, H b = some (.tup ys) → H' b = some (.tup ys)) : KT H' kvs xs :=
  Paired.mapP r fun _ _ z => ⟨z.1, ht _ _ z.2.1, z.2.2⟩
section
variable {P : Program} {w : World} {H : Hp} {h : Heap} {a : Addr}
end
def DGet (H : Hp) (a : Addr) (y : V) (r : Option V) : Prop :=
  (∃ kvs k, Rd H a (.dK kvs) ∧ y = kV k ∧ r = valV kvs k) ∨ ∃ kvs k b, Rd H a (.dT kvs) ∧ y = .ref b ∧ H b = some (.tup (k.map kV)) ∧ r = valV kvs k
def DPut (H : Hp) (a : Addr) (y v : V) (H' : Hp) : Prop :=
  (∃ kvs k, H a = some (.dK kvs) ∧ y = kV k ∧ kvs.length < sizeLine ∧ H' = upd H a (.dK (putK kvs k v))) ∨
  ∃ kvs k b, H a = some (.dT kvs) ∧ y = .ref b ∧ H b = some (.tup (k.map kV)) ∧ kvs.length < sizeLine ∧ H' = upd H a (.dT (putK kvs k v))
theorem DGet.k {H : Hp} {a : Addr} {kvs : List (Key × V)} {k : Key} (e : H a = some (.dK kvs)) : DGet H a (kV k) (valV kvs k) := .inl ⟨kvs, k, .inl e, rfl, rfl⟩
theorem DGet.t {H : Hp} {a b : Addr} {kvs : List (List Key × V)} {k : List Key} (e : H a = some (.dT kvs)) (eb : H b = some (.tup (k.map kV))) : DGet H a (.ref b) (valV kvs k) := .inr ⟨kvs, k, b, .inl e, rfl, eb, rfl⟩
theorem DPut.k {H : Hp} {a : Addr} {kvs : List (Key × V)} {k : Key} {v : V} (e : H a = some (.dK kvs)) (hl : kvs.length < sizeLine) : DPut H a (kV k) v (upd H a (.dK (putK kvs k v))) := .inl ⟨kvs, k, e, rfl, hl, rfl⟩
theorem DPut.t {H : Hp} {a b : Addr} {kvs : List (List Key × V)} {k : List Key} {v : V} (e : H a = some (.dT kvs)) (eb : H b = some (.tup (k.map kV))) (hl : kvs.length < sizeLine) :
    DPut H a (.ref b) v (upd H a (.dT (putK kvs k v))) := .inr ⟨kvs, k, b, e, rfl, eb, hl, rfl⟩
section
variable {X : Cx} {pins : List (Addr × Obj)} {σ : St} {H : Hp} {s : Shared} {a : Addr} {y v : V} {u r : Value} {o : Option V} {A : Around} {E : Value → Shared → Prop}
theorem Inv.big (I : Inv X pins σ H s) : sysModules < s.heap.objs.size := by
  have h : mainGlobals < s.heap.objs.size := (I.mod.glob.keeps I.bk).lt
  exact Nat.lt_trans (by decide) h
end
section
variable {X : Cx} {pins : List (Addr × Obj)} {σ : St} {H : Hp} {s : Shared} {a : Addr} {kvs : List (Key × V)} {k : Key} {u : Value} {A : Around} {E : Value → Shared → Prop}
end
section
variable {X : Cx} {o i e value : Expr} {pos pos' tpos : Pos} {td ty tv : TE}
end
section
variable {X : Cx} {pos : Pos}
end
structure M1 (X : Cx) (o : Expr) (m : Str) (apos : Pos) (e : Expr) (cpos : Pos) : Prop where
  base : attributeBase o m X.env (eval o X.env) = eval o X.env
  few : ((backTo cpos (starEach [e] X.env)).all (fun x => !x.1) && (backToKw cpos (keywordEach [] X.env)).all (fun x => x.1.isSome)
    && decide (([e] : List Expr).length + ([] : List Keyword).length + (if ([] : List Keyword).isEmpty then 0 else 1) < 30)) = true
  line : (apos.endLine == cpos.line) = true
  trees : backTo cpos (starEach [e] X.env) = [(false, eval e X.env)]
structure M2 (X : Cx) (o : Expr) (m : Str) (apos : Pos) (e f : Expr) (cpos : Pos) : Prop where
  base : attributeBase o m X.env (eval o X.env) = eval o X.env
  few : ((backTo cpos (starEach [e, f] X.env)).all (fun x => !x.1) && (backToKw cpos (keywordEach [] X.env)).all (fun x => x.1.isSome)
    && decide (([e, f] : List Expr).length + ([] : List Keyword).length + (if ([] : List Keyword).isEmpty then 0 else 1) < 30)) = true
  line : (apos.endLine == cpos.line) = true
  trees : backTo cpos (starEach [e, f] X.env) = [(false, eval e X.env), (false, eval f X.env)]
section
variable {X : Cx} {pins : List (Addr × Obj)} {σ : St} {H : Hp} {s : Shared} {a : Addr} {y d : V} {u r : Value} {o : Option V} {A : Around} {E : Value → Shared → Prop}
end
section
variable {X : Cx} {o e f : Expr} {apos cpos : Pos} {td ty tx : TE}
end
section
variable {X : Cx} {pins : List (Addr × Obj)} {σ : St} {H : Hp} {s : Shared} {a : Addr} {kvs : List (Key × V)} {A : Around} {E : Value → Shared → Prop}
end
section
variable {X : Cx} {pins : List (Addr × Obj)} {σ : St} {H : Hp} {s : Shared} {a : Addr} {y : V} {u : Value} {A : Around} {E : Value → Shared → Prop}
end
end L2
namespace Att
open PySem PySem.W PySem.Calls PyProof.Rows
section
variable {prog : Program} {w : World} {A : Around} {E : Value → Shared → Prop} {s : Shared} {K : Frag}
end
end Att
namespace L2
open PySem PySem.Spec PyProof.Rows
end L2
namespace L2
open PySem PySem.Spec PyProof.Rows
end L2
namespace L2
open PySem PySem.Spec PyProof.Rows
section
variable {P : Program} {w : World} {K : PySem.W.Frag} {mg : Str → Option Value} {base : Heap}
end
section
variable {X : Cx}
end
section
variable {κ : Type} [DecidableEq κ]
end
end L2
set_option maxRecDepth 100000
namespace L2
open PySem PySem.Spec PyProof.Rows
theorem ne_lt {a b : Addr} {n : Nat} (h : a < n) (h' : n ≤ b) : a ≠ b := Nat.ne_of_lt (Nat.lt_of_lt_of_le h h')
theorem ne_lt' {a b : Addr} {n : Nat} (h : a < n) (h' : n ≤ b) : b ≠ a := (ne_lt h h').symm
def clOf (cells : List (Str × Addr)) : List (Str × NameKind) → List (Str × Addr) → List (Str × Addr)
  | [], acc => acc
  | (n, k) :: r, acc => clOf cells r (if (k == NameKind.free) = true then (n, (cells.lookup n).getD 0) :: acc else acc)
theorem closure_go {env : Env} : ∀ (l : List (Str × NameKind)) (acc : List (Str × Addr)), (∀ y ∈ l, y.2 = .free → ∃ c, env.cells.lookup y.1 = some c) →
    (forIn l acc fun (y : Str × NameKind) (cs : List (Str × Addr)) => (match y with
      | (name, kind) => if (kind == NameKind.free) = true then do let c ← cellOf env name; pure (ForInStep.yield ((name, c) :: cs)) else pure (ForInStep.yield cs) : Sem _)) = pure (clOf env.cells l acc)
  | [], acc, _ => rfl
  | (n, k) :: r, acc, h => by
    rw [List.forIn_cons]
    unfold clOf
    by_cases e : (k == NameKind.free) = true
    · have e' : k = NameKind.free := by simpa using e
      obtain ⟨c, hc⟩ := h (n, k) List.mem_cons_self e'
      simp only [e, if_true, cellOf, hc, pure_bind, Option.getD_some]
      exact closure_go r _ fun y hy => h y (List.mem_cons_of_mem _ hy)
    · simp only [e, if_false, pure_bind]
      exact closure_go r _ fun y hy => h y (List.mem_cons_of_mem _ hy)
theorem closure_eq {sc : Scope} {env : Env} (h : ∀ y ∈ sc.names, y.2 = .free → ∃ c, env.cells.lookup y.1 = some c) : closureFor sc env = pure (clOf env.cells sc.names []) := by
  have e := closure_go (env := env) sc.names [] h
  simp only [closureFor]
  exact (bind_pure _).trans e
theorem clOf_sub {cells : List (Str × Addr)} {y : Str} {c : Addr} : ∀ (l : List (Str × NameKind)) (acc : List (Str × Addr)), (∀ y ∈ l, y.2 = .free → ∃ c, cells.lookup y.1 = some c) →
    (clOf cells l acc).lookup y = some c → cells.lookup y = some c ∨ acc.lookup y = some c
  | [], acc, _, e => .inr e
  | (n, k) :: r, acc, h, e => by
    unfold clOf at e
    have hr : ∀ y ∈ r, y.2 = .free → ∃ c, cells.lookup y.1 = some c := fun y hy => h y (List.mem_cons_of_mem _ hy)
    rcases clOf_sub r _ hr e with q | q
    · exact .inl q
    · by_cases z : (k == NameKind.free) = true
      · rw [if_pos z] at q
        rw [List.lookup_cons] at q
        cases hb : y == n with
        | true =>
          rw [hb] at q
          obtain ⟨c', hc'⟩ := h (n, k) List.mem_cons_self (by simpa using z)
          have hc'' : cells.lookup n = some c' := hc'
          rw [hc''] at q
          have e1 : y = n := by simpa using hb
          have q' : c' = c := Option.some.inj q
          exact .inl (by rw [e1, hc'', q'])
        | false =>
          rw [hb] at q
          exact .inr q
      · rw [if_neg z] at q
        exact .inr q
theorem clOf_has {cells : List (Str × Addr)} {y : Str} : ∀ (l : List (Str × NameKind)) (acc : List (Str × Addr)), ((y, NameKind.free) ∈ l ∨ ∃ c, acc.lookup y = some c) → ∃ c, (clOf cells l acc).lookup y = some c
  | [], acc, h => by
    rcases h with h | h
    · cases h
    · exact h
  | (n, k) :: r, acc, h => by
    unfold clOf
    have grow : ∀ v : Addr, (∃ c, acc.lookup y = some c) → ∃ c, ((n, v) :: acc).lookup y = some c := fun v ⟨c, hc⟩ => by
      rw [List.lookup_cons]
      cases y == n with
      | true => exact ⟨v, rfl⟩
      | false => exact ⟨c, hc⟩
    rcases h with h | h
    · rcases List.mem_cons.mp h with e | h
      · have e1 : y = n := congrArg Prod.fst e
        have e2 : NameKind.free = k := congrArg Prod.snd e
        subst e1 e2
        refine clOf_has r _ (.inr ?_)
        rw [if_pos (by rfl)]
        refine ⟨(cells.lookup y).getD 0, ?_⟩
        rw [List.lookup_cons]; simp
      · exact clOf_has r _ (.inl h)
    · refine clOf_has r _ (.inr ?_)
      split
      · exact grow _ h
      · exact h
theorem relab_mem {scope : Scope} {env : Env} {y : Str} {k : NameKind} (hc : ∀ z ∈ scope.names, z.2 ≠ .cell) (h : (relabel scope env).names.lookup y = some k) (hk : k = .cell ∨ k = .free) : (y, NameKind.free) ∈ scope.names := by
  have m := PySem.mem_of_lookup h
  unfold relabel at m
  obtain ⟨⟨n, k'⟩, hm, e⟩ := List.mem_map.mp m
  dsimp only at e
  split at e
  · rename_i z
    have e1 : n = y := congrArg Prod.fst e
    have z1 : k' = NameKind.free := by
      simp only [Bool.and_eq_true] at z
      simpa using z.1.1
    subst e1 z1
    exact hm
  · have e1 : n = y := congrArg Prod.fst e
    have e2 : k' = k := congrArg Prod.snd e
    subst e1 e2
    rcases hk with z | z
    · exact absurd z (hc _ hm)
    · rw [z] at hm; exact hm
theorem relab_free {env : Env} (hf : env.scope.kind = .function) : ∀ {names : List (Str × NameKind)} {y : Str}, names.lookup y = some .free → env.kindOf y = some .cell →
    (names.map fun (n, k) => if (k == NameKind.free && env.scope.kind == .function && env.kindOf n == some .cell) then (n, NameKind.cell) else (n, k)).lookup y = some .cell
  | [], _, h, _ => by simp at h
  | (n, k) :: r, y, h, hk => by
    have ih := @relab_free env hf r y
    rw [List.map_cons]
    cases hy : y == n with
    | true =>
      have e : y = n := by simpa using hy
      subst e
      rw [List.lookup_cons, hy] at h
      have h' : k = NameKind.free := Option.some.inj h
      subst h'
      simp [hf, hk, List.lookup_cons]
    | false =>
      rw [List.lookup_cons, hy] at h
      show List.lookup y ((if (k == NameKind.free && env.scope.kind == .function && env.kindOf n == some .cell) = true then (n, NameKind.cell) else (n, k)) :: _) = _
      by_cases z : (k == NameKind.free && env.scope.kind == .function && env.kindOf n == some .cell) = true
      · rw [if_pos z, List.lookup_cons, hy]; exact ih h hk
      · rw [if_neg z, List.lookup_cons, hy]; exact ih h hk
structure ScB (N : List Str) (sc scope : Scope) (x : Str) (frees : List Str) (js : List Nat) : Prop where
  kind : scope.kind = .function
  fk : sc.kind = .function
  cells : ∀ y ∈ scope.names, y.2 ≠ .cell
  locs : ∀ y ∈ scope.names, y.2 = .local → scope.names.lookup y.1 = some .local
  own : scope.names.lookup x = some .local
  fr : ∀ y ∈ scope.names, y.2 = .free → sc.names.lookup y.1 = some .cell
  nd : (x :: frees).Nodup
  ln : frees.length = js.length
  zp : ∀ p ∈ frees.zip js, N[p.2]? = some p.1 ∧ sc.names.lookup p.1 = some .cell ∧ scope.names.lookup p.1 = some .free
def cxB (X : Cx) (N : List Str) (scope : Scope) (s : Shared) (H : Hp) (C : Addr) (fp : List Addr) : Cx where
  prog := X.prog
  w := X.w
  K := X.K
  mg := X.mg
  base := X.base
  A := X.A
  N := N
  s₀ := s
  H₀ := H
  env := compEnvC scope (clOf X.env.cells scope.names []) C X.env
  outer := X.stack
  stack := X.stack
  ex := fp
  fn := fun _ => false
  calm := X.calm
  pn := []
  xe := fun _ _ => False
def frv (σ : St) (js : List Nat) : St := js.map fun j => (σ[j]?).join
def PTs (X : Cx) (ifs : List Expr) (t : TT) : Prop :=
  ∀ (pins : List (Addr × Obj)) (s : Shared) (σ : St) (H : Hp) (Q : Bool → Hp → Prop), Inv X pins σ H s → t σ H Q →
    wpAny (model X.prog X.w) X.A (forIn ifs true fun c r => if r = true then do let ok ← isTrue c X.env (eval c X.env); pure (ForInStep.yield ok) else pure (ForInStep.yield r)) (TP X pins σ Q) X.xe s
def tYes : TT := fun _ H Q => Q true H
theorem pts_one {X : Cx} {c : Expr} {t : TT} (h : PT X c t) : PTs X [c] t := fun pins s σ H Q I q => wpAny_tests_one (h pins s σ H Q I q)
def LcW (js : List Nat) (tt : TT) (te : TE) (σ : St) (Q : List V → Hp → Prop) (J : It) (H1 : Hp) : Prop :=
  ∃ W : Nat → Nat → List V → Hp → Prop, (∃ m, W 0 m [] H1) ∧ ∀ i m ys H, W i m ys H →
    (J.stop i H ∧ ys.length ≤ sizeLine ∧ Q ys H) ∨
    (J.go i H ∧ ys.length < sizeLine ∧ ∀ x H', J.yld i H x H' → tt (some x :: frv σ js) H' fun b H2 =>
      if b = true then te (some x :: frv σ js) H2 fun v H3 => ∃ m', m' < m ∧ W (i + 1) m' (ys ++ [v]) H3 else ∃ m', m' < m ∧ W (i + 1) m' ys H2)
section
variable {X : Cx} {pins : List (Addr × Obj)} {σ : St} {H : Hp} {s : Shared} {x : Str} {scope sc : Scope} {frees : List Str} {js : List Nat}
theorem lcells (I : Inv X pins σ H s) (hsc : X.env.scope = sc) (B : ScB X.N sc scope x frees js) : ∀ y ∈ scope.names, y.2 = .free → ∃ c, X.env.cells.lookup y.1 = some c := fun y hy hf =>
  I.ok.has y.1 (.inl (show X.env.scope.names.lookup y.1 = some .cell by rw [hsc]; exact B.fr y hy hf))
theorem zip_get {α β : Type} : ∀ {l : List α} {r : List β} {k : Nat} {a : α}, l.length = r.length → l[k]? = some a → ∃ b, r[k]? = some b ∧ (a, b) ∈ l.zip r
  | [], _, _, _, _, h => by simp at h
  | _ :: _, [], _, _, hl, _ => by simp at hl
  | a' :: l, b' :: r, 0, a, _, h => by
    simp at h; subst h
    exact ⟨b', rfl, by simp⟩
  | a' :: l, b' :: r, k + 1, a, hl, h => by
    obtain ⟨b, h1, h2⟩ := zip_get (l := l) (r := r) (k := k) (a := a) (by simpa using hl) (by simpa using h)
    exact ⟨b, by simpa using h1, by rw [List.zip_cons_cons]; exact List.mem_cons_of_mem _ h2⟩
theorem blk_start {fp : List Addr} {h₁ : Heap} {C D : Addr} {tk : Nat} {mC : Str → Option Value} {oD : Obj} (I : Inv X pins σ H s) (hsc : X.env.scope = sc) (B : ScB X.N sc scope x frees js) (hf : ∀ b ∈ fp, FpOk X pins H b) (hfo : ∀ b ∈ fp, b < s.heap.objs.size)
    (hC : s.heap.objs.size ≤ C) (hD : s.heap.objs.size ≤ D) (hDC : D ≠ C) (old : ∀ b o, s.heap.get? b = some o → h₁.get? b = some o) (ns : h₁.Ns C mC) (gD : h₁.get? D = some oD) (nD : ∀ v, oD.data ≠ .cell v) :
    Inv (cxB X (x :: frees) scope s H C fp) (pins ++ [(D, oD)]) (none :: frv σ js) H { s with heap := h₁, toks := tk } := by
  have lc := lcells I hsc B
  have sub : ∀ y c, (clOf X.env.cells scope.names []).lookup y = some c → X.env.cells.lookup y = some c := fun y c e => by
    rcases clOf_sub scope.names [] lc e with q | q
    · exact q
    · cases q
  have cold : ∀ y c, X.env.cells.lookup y = some c → c < s.heap.objs.size := fun y c e => by
    obtain ⟨v, q⟩ := I.cell y c e
    exact q.lt
  have fpC : ∀ b ∈ fp, (b ∈ X.ex ∨ X.s₀.heap.objs.size ≤ b) := fun b hb => (hf b hb).2.2.2.1
  obtain ⟨m, hn, hl⟩ := I.loc
  refine ⟨⟨I.ok.mod, B.kind, I.ok.glob, I.ok.blt, hC, ?_, ?_, ?_, I.ok.hd, I.ok.frames, .inl rfl, ?_, ?_, Nat.le_trans I.ok.bsz I.sz, ?_, ?_, I.stack, I.stkFree, I.base.tbls _ _ I.ok.tab⟩, rfl, I.bare, Un.kept old, ⟨mC, ns, ?_⟩, ?_, I.hok.fresh hC, ?_, ?_, I.hok.kept old, ?_⟩
  · exact fun y z c e1 e2 => I.ok.inj y z c (sub y c e1) (sub z c e2)
  · intro y hy
    have hm : (y, NameKind.free) ∈ scope.names := by
      rcases hy with q | q
      · exact relab_mem (env := X.env) B.cells q (.inl rfl)
      · exact relab_mem (env := X.env) B.cells q (.inr rfl)
    exact clOf_has scope.names [] (.inl hm)
  · exact fun y c z _ => absurd z Bool.false_ne_true
  · intro b hb
    refine ⟨fun z => ?_, fun y c e z => (hf b hb).2.2.2.2.1 y c (sub y c e) z⟩
    have z' : b = C := z
    exact absurd (Nat.lt_of_lt_of_le (hfo b hb) hC) (by rw [z']; exact Nat.lt_irrefl _)
  · exact fun b o e => I.bs b o e
  · intro b o e hb
    rcases fpC b hb with z | z
    · exact I.ok.noex b o e z
    · exact absurd (Nat.lt_of_lt_of_le (Heap.lt_size (I.ok.bs b o e).1) z) (Nat.lt_irrefl _)
  · intro b hb z
    rcases List.mem_cons.mp (I.stkSub b z) with e | e
    · exact (hf b hb).2.1 e
    · exact (hf b hb).2.2.1 e
  · intro i y v e1 e2 e3
    cases i with
    | zero => simp at e2
    | succ k =>
      have e1' : frees[k]? = some y := by
        have e0 : (x :: frees)[k + 1]? = some y := e1
        simpa using e0
      obtain ⟨j, hj, hz⟩ := zip_get B.ln e1'
      obtain ⟨z1, z2, z3⟩ := B.zp _ hz
      have e2' : (frv σ js)[k]? = some (some v) := by simpa using e2
      have e4 : σ[j]? = some (some v) := by
        unfold frv at e2'
        rw [List.getElem?_map, hj] at e2'
        have e5 : (σ[j]?).join = some v := Option.some.inj e2'
        cases q : σ[j]? with
        | none => rw [q] at e5; cases e5
        | some w' => rw [q] at e5; cases w' with
          | none => cases e5
          | some w2 => cases e5; rfl
      have kX : X.env.kindOf y = some .cell := by show X.env.scope.names.lookup y = _; rw [hsc]; exact z2
      obtain ⟨u, r, q⟩ := hl j y v z1 e4 (.inr (.inl kX))
      refine ⟨u, r, ?_⟩
      rcases q with ⟨q, _⟩ | ⟨_, c, ec, ic⟩
      · rw [kX] at q; cases q
      · have kY : (compEnvC scope (clOf X.env.cells scope.names []) C X.env).kindOf y = some .cell := relab_free (env := X.env) (by rw [hsc]; exact B.fk) z3 kX
        refine .inr ⟨.inl kY, c, ?_, ?_⟩
        · obtain ⟨c', ec'⟩ := clOf_has (cells := X.env.cells) scope.names [] (.inl (PySem.mem_of_lookup z3))
          have := sub y c' ec'
          rw [ec] at this
          cases this
          exact ec'
        · obtain ⟨o, ho, hd⟩ := ic
          exact ⟨o, old c o ho, hd⟩
  · intro y c e
    obtain ⟨v, o, ho, hd⟩ := I.cell y c (sub y c e)
    exact ⟨v, o, old c o ho, hd⟩
  · exact fun y c e => I.freeC y c (sub y c e)
  · intro p hp
    have hp' : p ∈ pins ++ [(D, oD)] := by simpa [cxB] using hp
    rcases List.mem_append.mp hp' with z | z
    · obtain ⟨a1, a2, a3, a4, a5⟩ := I.pin p (List.mem_append_right _ z)
      refine ⟨old _ _ a1, a2, fun e => ?_, fun e => ?_, a5⟩
      · exact absurd (Nat.lt_of_lt_of_le (Heap.lt_size a1) hC) (by rw [show p.1 = C from e]; exact Nat.lt_irrefl _)
      · rcases List.mem_cons.mp (I.stkSub p.1 e) with e | e
        · exact a3 e
        · exact a4 e
    · have z' : p = (D, oD) := by simpa using z
      subst z'
      refine ⟨gD, I.hok.fresh hD, hDC, fun e => ?_, nD⟩
      rcases List.mem_cons.mp (I.stkSub D e) with e | e
      · exact absurd (Nat.lt_of_lt_of_le I.lt hD) (by rw [show D = X.env.locals from e]; exact Nat.lt_irrefl _)
      · exact I.nofs hD e
  · show (none :: frv σ js).length = (x :: frees).length
    rw [List.length_cons, List.length_cons, B.ln, frv, List.length_map]
end
theorem comp_turns {prog : Program} {w : World} {A : Around} {R : Result → Shared → Prop} {s : Shared} {elt target iter : Expr} {ifs : List Expr} {scope : Scope} {pos : Pos} {it acc : Value} {env : Env} (I : Nat → Shared → Prop)
    (turn : ∀ n s, I n s → wpAny (model prog w) A (pyNext it) (fun r s1 => match r with
      | none => R (.ok .next) s1
      | some v => wpAny (model prog w) A (letOwnedTupleGo target it v) (fun _ s2 => wpAny (model prog w) A (assign target env v) (fun _ s3 =>
          wpAny (model prog w) A (forIn ifs true fun c r => if r = true then do let ok ← isTrue c env (eval c env); pure (ForInStep.yield ok) else pure (ForInStep.yield r)) (fun ok s4 =>
            if ok = true then wpAny (model prog w) A (eval elt env) (fun y s5 => wpAny (model prog w) A (call (.builtin "list.append") [acc, y]) (fun _ s6 => ∃ m, m < n ∧ I m s6) (fun _ _ => False) s5) (fun _ _ => False) s4
            else ∃ m, m < n ∧ I m s4) (fun _ _ => False) s3) (fun _ _ => False) s2) (fun _ _ => False) s1) (fun _ _ => False) s)
    (n : Nat) (h : I n s) : codeAny (model prog w) A (.compLoop (.ListComp elt [⟨target, iter, ifs, 0⟩] scope pos) 0 it acc env) R s := by
  refine codeAny_loop rfl I (fun n s hI => ?_) n h
  show wpAny _ A ((compTurn (.ListComp elt [⟨target, iter, ifs, 0⟩] scope pos) 0 it acc env).onRaise (fun x => do noteFrame x env; theTreesLotGoes x)) _ _ s
  refine wpAny_noted ?_
  rw [compTurn_list]
  refine wpAny_bind (wpAny_standAt (wpAny_bind (wpAny_mono (turn n s hI) (fun r s1 h1 => ?_) fun _ _ z => z.elim)))
  cases r with
  | none => exact wpAny_pure h1
  | some v =>
    refine wpAny_bind (wpAny_mono h1 (fun _ s2 h2 => ?_) fun _ _ z => z.elim)
    refine wpAny_bind (wpAny_mono h2 (fun _ s3 h3 => ?_) fun _ _ z => z.elim)
    refine wpAny_bind (wpAny_mono h3 (fun ok s4 h4 => ?_) fun _ _ z => z.elim)
    cases ok with
    | false => exact wpAny_pure ⟨rfl, h4⟩
    | true =>
      refine wpAny_bind (wpAny_bind (wpAny_mono h4 (fun y s5 h5 => ?_) fun _ _ z => z.elim))
      exact wpAny_bind (wpAny_mono h5 (fun _ s6 h6 => wpAny_pure (wpAny_pure ⟨rfl, h6⟩)) fun _ _ z => z.elim)
section
variable {X : Cx} {pins : List (Addr × Obj)} {σ : St} {H : Hp} {s : Shared} {x : Str} {scope sc : Scope} {frees : List Str} {js : List Nat} {elt iter : Expr} {ifs : List Expr} {px pos : Pos} {tt : TT} {te : TE} {E : Value → Shared → Prop}
abbrev lobj (its : List Value) (n : Nat) : Obj := { cls := .type "list", data := .seq its.toArray n }
theorem lc_run {it : Addr} {fp : List Addr} {tn : Nat → Heap → Prop} {J : It} {Qe : List V → Hp → Prop} {RR : Value → Addr → Result → Shared → Prop} (I : Inv X pins σ H s) (hc : X.calm = true) (hsc : X.env.scope = sc) (B : ScB X.N sc scope x frees js)
    (T : Turn X.prog X.w X.K (.Name x px) J fp it tn) (st : tn 0 s.heap) (f : ∀ b ∈ fp, FpOk X pins H b) (hW : LcW js tt te σ Qe J H)
    (ht : ∀ s H C fp, PTs (cxB X (x :: frees) scope s H C fp) ifs tt) (he : ∀ s H C fp, PE (cxB X (x :: frees) scope s H C fp) elt te)
    (hR : ∀ (D C : Addr) (s' : Shared) (H' : Hp) (ys : List V) (its : List Value) (n : Nat), s.heap.objs.size ≤ D → s.heap.objs.size ≤ C → D ≠ C → Inv (cxB X (x :: frees) scope s H C fp) pins (none :: frv σ js) H' s' → H' D = none →
      Vals ys its → s'.heap.get? D = some (lobj its n) → ys.length ≤ sizeLine → Qe ys H' → RR (.ref D) C (.ok .next) s') :
    wpAny (model X.prog X.w) X.A (newList []) (fun acc s3 => wpAny (model X.prog X.w) X.A (newFunctionEnv scope X.env.globals (clOf X.env.cells scope.names []) [] X.env.qual none .none (some X.env)) (fun cenv s4 =>
      codeAny (model X.prog X.w) X.A (.compStart (.ListComp elt [⟨.Name x px, iter, ifs, 0⟩] scope pos) 0 (.ref it) acc { cenv with scope := relabel scope X.env }) (RR acc cenv.locals) s4) E s3) E s := by
  obtain ⟨W, ⟨m0, w0⟩, turn⟩ := hW
  refine wpAny_newObj_type (wpAny_newFunctionEnv B.cells (by intro y hy; simp at hy) (fun h₁ hns₁ hsb₁ => ?_) B.kind)
  dsimp only at hns₁ hsb₁ ⊢
  generalize hG : s.heap.push { cls := .type "list", dict := none, data := .seq ([] : List Value).toArray } = G at hns₁ hsb₁ ⊢
  have hC0 : G.objs.size = s.heap.objs.size + 1 := by rw [← hG, Heap.size_push]
  have hCs0 : s.heap.objs.size ≤ G.objs.size := by rw [hC0]; exact Nat.le_succ _
  have hDC0 : s.heap.objs.size ≠ G.objs.size := by rw [hC0]; exact Nat.ne_of_lt (Nat.lt_succ_self _)
  obtain ⟨C, hCe⟩ : ∃ C : Addr, C = G.objs.size := ⟨_, rfl⟩
  obtain ⟨D, hDe⟩ : ∃ D : Addr, D = s.heap.objs.size := ⟨_, rfl⟩
  rw [← hCe] at hns₁ hsb₁ hDC0 hCs0 ⊢
  have hDs : s.heap.objs.size ≤ D := by rw [hDe]; exact Nat.le_refl _
  have hCs : s.heap.objs.size ≤ C := hCs0
  have hDC : D ≠ C := by rw [hDe]; exact hDC0
  have old : ∀ b o, s.heap.get? b = some o → h₁.get? b = some o := fun b o e => by
    refine hsb₁.extBut b o (ne_lt (Heap.lt_size e) hCs) (Heap.get?_push_of_some _ ?_)
    rw [← hG]
    exact Heap.get?_push_of_some _ e
  have gD : h₁.get? D = some (lobj [] 0) := by
    refine hsb₁.extBut D _ hDC (Heap.get?_push_of_some _ ?_)
    rw [← hG, hDe]
    exact Heap.get?_push_size _ rfl
  have hfo : ∀ b ∈ fp, b < s.heap.objs.size := fun b hb => by
    obtain ⟨o, e, _⟩ := T.obj 0 _ st b hb
    exact Heap.lt_size e
  show codeAny (model X.prog X.w) X.A (.compStart (.ListComp elt [⟨.Name x px, iter, ifs, 0⟩] scope pos) 0 (.ref it) (.ref s.heap.objs.size) (compEnvC scope (clOf X.env.cells scope.names []) C X.env)) (RR (.ref s.heap.objs.size) C) _
  rw [← hDe]
  have nDf : D ∉ fp := fun z => ne_lt (hfo D z) hDs rfl
  have Y0 := blk_start (tk := s.toks + ([] : List (Str × Value)).length) (x := x) I hsc B f hfo hCs hDs hDC old hns₁ gD (fun v z => nomatch z)
  have tn0 : tn 0 h₁ := T.keep 0 _ _ st fun b _ o e => old b o e
  have sub : ∀ y c, (clOf X.env.cells scope.names []).lookup y = some c → X.env.cells.lookup y = some c := fun y c e => by
    rcases clOf_sub scope.names [] (lcells I hsc B) e with q | q
    · exact q
    · cases q
  have pOld : ∀ p ∈ pins, p.1 < s.heap.objs.size := fun p hp => Heap.lt_size (I.pin p (List.mem_append_right _ hp)).1
  have stat : ∀ {H' : Hp} {o : Obj}, (∀ b ∈ fp, H' b = none) → ∀ b ∈ fp, FpOk (cxB X (x :: frees) scope s H C fp) (pins ++ [(D, o)]) H' b := fun {H' o} hn b hb => by
    obtain ⟨_, a2, a3, a4, a5, a6⟩ := f b hb
    have lt := hfo b hb
    refine ⟨hn b hb, ?_, fun z => ?_, .inl hb, fun y c e => a5 y c (sub y c e), fun p hp => ?_⟩
    · exact ne_lt lt hCs
    · rcases List.mem_cons.mp (I.stkSub b z) with e | e
      · exact a2 e
      · exact a3 e
    · have hp' : p ∈ pins ++ [(D, o)] := by simpa [cxB] using hp
      rcases List.mem_append.mp hp' with z | z
      · exact a6 p (List.mem_append_right _ z)
      · have z' : p = (D, o) := by simpa using z
        subst z'
        exact ne_lt' lt hDs
  have loop : ∀ s3 : Shared, s3 = { s with heap := h₁, toks := s.toks + ([] : List (Str × Value)).length } →
      codeAny (model X.prog X.w) X.A (.compLoop (.ListComp elt [⟨.Name x px, iter, ifs, 0⟩] scope pos) 0 (.ref it) (.ref D) (compEnvC scope (clOf X.env.cells scope.names []) C X.env)) (RR (.ref D) C) s3 := by
    rintro s3 rfl
    refine comp_turns (fun n s' => ∃ i ys its k H', Inv (cxB X (x :: frees) scope s H C fp) (pins ++ [(D, lobj its k)]) (none :: frv σ js) H' s' ∧ tn i s'.heap ∧ (∀ b ∈ fp, H' b = none) ∧ Vals ys its ∧ W i n ys H') ?_ m0
      ⟨0, [], [], 0, H, Y0, tn0, fun b hb => (f b hb).1, .nil, w0⟩
    rintro n s4 ⟨i, ys, its, k, H4, I4, tn4, fr4, rv, w4⟩
    have pD : ∀ {pl : List (Addr × Obj)} {σ' : St} {H' : Hp} {s' : Shared}, Inv (cxB X (x :: frees) scope s H C fp) (pins ++ [(D, lobj its k)] ++ pl) σ' H' s' → s'.heap.get? D = some (lobj its k) ∧ H' D = none := fun I' => by
      have q := I'.pin (D, lobj its k) (List.mem_append_right _ (List.mem_append_left _ (List.mem_append_right _ List.mem_cons_self)))
      exact ⟨q.1, q.2.1⟩
    have pins_only : ∀ {pl : List (Addr × Obj)} {σ' : St} {H' : Hp} {s' : Shared}, Inv (cxB X (x :: frees) scope s H C fp) (pins ++ pl) σ' H' s' → Inv (cxB X (x :: frees) scope s H C fp) pins σ' H' s' := fun I' => I'.unpinned
    rcases turn i n ys H4 w4 with ⟨stop, lz, qe⟩ | ⟨go, lz, step⟩
    · refine thn (T.done (cxB X (x :: frees) scope s H C fp) rfl rfl rfl hc i _ s4 _ H4 (fun _ _ => False) I4 (stat fr4) tn4 stop) fun r s5 ⟨hr, I5⟩ => ?_
      subst hr
      have I5' : Inv (cxB X (x :: frees) scope s H C fp) (pins ++ [(D, lobj its k)] ++ []) (none :: frv σ js) H4 s5 := by simpa using I5
      exact hR D C s5 H4 ys its k hDs hCs hDC (pins_only I5) (pD I5').2 rv (pD I5').1 lz qe
    · refine thn (T.item (cxB X (x :: frees) scope s H C fp) rfl rfl rfl hc i _ s4 _ H4 (fun _ _ => False) I4 (stat fr4) tn4 go) fun r s5 ⟨u, hr, h5⟩ => ?_
      subst hr
      refine thn h5 fun _ s6 ⟨y, H6, I6, r6, y6, tn6, fr6⟩ => ?_
      have I6' := I6.pinned (stat fr6) (T.obj _ _ tn6)
      have hx : Loc (cxB X (x :: frees) scope s H C fp).env.scope x := .inl (lookup_relabel_local B.own)
      have dfs : D ∉ (cxB X (x :: frees) scope s H C fp).fs := fun z => by
        rcases List.mem_cons.mp (I.stkSub D z) with e | e
        · exact ne_lt I.lt hDs e.symm
        · exact I.nofs hDs e
      refine thn (pg_name (X := cxB X (x :: frees) scope s H C fp) (i := 0) B.nd rfl hx (.inr (lookup_relabel_local B.own)) _ s6 _ H6 y u (fun σ' H' => σ' = some y :: frv σ js ∧ tt σ' H' fun b H2 =>
        if b = true then te (some y :: frv σ js) H2 fun v H3 => ∃ m', m' < n ∧ W (i + 1) m' (ys ++ [v]) H3 else ∃ m', m' < n ∧ W (i + 1) m' ys H2) I6' r6 ⟨rfl, step y H6 y6⟩) fun _ s7 ⟨σ7, H7, I7, e7, q7⟩ => ?_
      subst e7
      have back : ∀ {σ' : St} {H' : Hp} {s' : Shared}, Inv (cxB X (x :: frees) scope s H C fp) (pins ++ [(D, lobj its k)] ++ pinsAt fp s6.heap) σ' H' s' → (∀ b ∈ fp, ∀ o, s6.heap.get? b = some o → s'.heap.get? b = some o) ∧ ∀ b ∈ fp, H' b = none := fun {σ' H' s'} I' =>
        ⟨fun b hb o e => (I'.pin (b, o) (List.mem_append_right _ (List.mem_append_right _ (mem_pinsAt hb e)))).1, fun b hb => by
          obtain ⟨o, e, _⟩ := T.obj _ _ tn6 b hb
          exact (I'.pin (b, o) (List.mem_append_right _ (List.mem_append_right _ (mem_pinsAt hb e)))).2.1⟩
      have forget : ∀ {pl : List (Addr × Obj)} {H' : Hp} {s' : Shared}, Inv (cxB X (x :: frees) scope s H C fp) pl (some y :: frv σ js) H' s' → Inv (cxB X (x :: frees) scope s H C fp) pl (none :: frv σ js) H' s' := fun I' =>
        I'.weak rfl fun j v e => by
          cases j with
          | zero => simp at e
          | succ j => simpa using e
      refine thn (ht s H C fp _ s7 _ H7 _ I7 q7) fun ok s8 ⟨H8, I8, q8⟩ => ?_
      cases ok with
      | false =>
        rw [if_neg Bool.false_ne_true] at q8 ⊢
        obtain ⟨m', hm, w8⟩ := q8
        obtain ⟨b1, b2⟩ := back I8
        exact ⟨m', hm, i + 1, ys, its, k, H8, forget I8.unpinned, T.keep _ _ _ tn6 b1, b2, rv, w8⟩
      | true =>
        rw [if_pos rfl] at q8 ⊢
        refine thn (he s H C fp _ s8 _ H8 _ I8 q8) fun v s9 ⟨vv, H9, I9, r9, m', hm, w9⟩ => ?_
        obtain ⟨gD9, nD9⟩ := pD I9
        obtain ⟨b1, b2⟩ := back I9
        have hlen := rv.length
        refine call_meets F.slot_list_append ⟨_, gD9, rfl⟩ F.entry_list_append (F.args_list_append_2 _ _) (PySem.list_append D its.toArray k v (by rw [List.size_toArray]; omega)) ⟨gD9, ?_⟩
        have ea : its.toArray.push v = (its ++ [v]).toArray := by simp
        obtain ⟨k', q⟩ : ∃ k', (s9.heap.update D (Obj.mapSeq (·.push v))).get? D = some (lobj (its ++ [v]) k') := by
          have q0 := PySem.IsL.update gD9 (·.push v)
          rw [ea] at q0
          exact ⟨_, q0⟩
        have oth : ∀ b o, b ≠ D → s9.heap.get? b = some o → (s9.heap.update D (Obj.mapSeq (·.push v))).get? b = some o := fun b o hb e => (Heap.get?_update_other s9.heap (Obj.mapSeq (·.push v)) (Ne.symm hb)).trans e
        have I10 : Inv (cxB X (x :: frees) scope s H C fp) pins (some y :: frv σ js) H9 { s9 with heap := s9.heap.update D (Obj.mapSeq (·.push v)) } :=
          (pins_only I9.unpinned).turned (t' := s9.toks) (it := D) oth nD9 hDC (.inr hDs) (fun y' c e z => by
            obtain ⟨w', q'⟩ := I.cell y' c (sub y' c e)
            exact ne_lt q'.lt hDs z) (fun p hp z => by
            have hp' : p ∈ pins := by simpa [cxB] using hp
            exact ne_lt (pOld p hp') hDs z)
        refine ⟨m', hm, i + 1, ys ++ [vv], its ++ [v], k', H9, forget (I10.pins_of fun p hp => ?_), T.keep _ _ _ tn6 fun b hb o e => oth b o (fun z => nDf (z ▸ hb)) (b1 b hb o e), b2, rv.append (.cons r9 .nil), w9⟩
        rcases List.mem_append.mp hp with z | z
        · exact I10.pin p (List.mem_append_right _ z)
        · have z' : p = (D, lobj (its ++ [v]) k') := List.mem_singleton.mp z
          subst z'
          exact ⟨q, nD9, hDC, dfs, fun w' z2 => nomatch z2⟩
  exact codeAny_compStart_list (loop _ rfl) (T.self _ 0 _ _ _ tn0 (loop _ rfl))
theorem lc_after {fp : List Addr} {D C : Addr} {s' : Shared} {H' : Hp} {ys : List V} {its : List Value} {n : Nat} (I : Inv X pins σ H s) (f : ∀ b ∈ fp, FpOk X pins H b) (hD : s.heap.objs.size ≤ D) (J : Inv (cxB X (x :: frees) scope s H C fp) pins (none :: frv σ js) H' s') (nD : H' D = none) (rv : Vals ys its)
    (gD : s'.heap.get? D = some (lobj its n)) (hz : ys.length ≤ sizeLine) : Inv X pins σ (upd H' D (.lst ys)) s' := by
  have u : Un (frs X.stack) fp H H' s.heap s'.heap := J.base
  have hk : HOk X.prog X.w H' s'.heap := J.hok
  refine I.call' (ch := fp) J.os ⟨u.keep, u.slot, fun b o e n' hx => ?_, u.there, fun b xs e => ?_, fun b o v e => ?_, fun b ps e => ?_⟩ (fun b o e => ?_) J.bare fun b hb => ?_
  · rw [upd_ne (ne_lt (Heap.lt_size e) hD)]
    exact u.free b o e n' hx
  · have q := u.tups b xs e
    rw [upd_ne (ne_of_none q nD)]
    exact q
  · have q := u.frzs b o v e
    rw [upd_ne (ne_of_none q nD)]
    exact q
  · have q := u.tbls b ps e
    rw [upd_ne (ne_of_none q nD)]
    exact q
  · by_cases hb : b = D
    · subst hb
      rw [upd_same] at e
      cases e
      exact ⟨hz, its, n, rv, gD⟩
    · rw [upd_ne hb] at e
      exact (hk b o e).stay (fun c v _ q => q) (fun c q => by rw [upd_ne (ne_of_none q nD)]; exact q) (fun c xs q => by rw [upd_ne (ne_of_none q nD)]; exact q) fun c xs q => by rw [upd_ne (ne_of_none q nD)]; exact q
  · obtain ⟨_, a2, a3, a4, a5, a6⟩ := f b hb
    exact ⟨a4, a2, a5, a6⟩
theorem lc_go {C : Addr} {s' : Shared} {H' : Hp} {σ' : St} {h' : Heap} (I : Inv X pins σ H s) (J : Inv X pins σ' H' s') (hC : s.heap.objs.size ≤ C) (nC : H' C = none) (hs : Heap.SameBut C s'.heap h') : Inv X pins σ' H' { s' with heap := h' } := by
  refine J.turned (t' := s'.toks) (it := C) (fun b o hb e => (hs.2 b hb).trans e) nC (fun z => ?_) (.inr (Nat.le_trans I.sz hC)) (fun y c e z => ?_) fun p hp z => ?_
  · exact ne_lt I.lt hC z.symm
  · obtain ⟨v, q⟩ := I.cell y c e
    exact ne_lt q.lt hC z
  · exact ne_lt (Heap.lt_size (I.pin p hp).1) hC z
def tLC (wi : TI) (js : List Nat) (tt : TT) (te : TE) : TE := fun σ H Q => wi σ H (LcW js tt te σ fun ys H' => ∀ D, H' D = none → Q (.ref D) (upd H' D (.lst ys)))
theorem pe_lc {wi : TI} (hc : X.calm = true) (hsc : X.env.scope = sc) (B : ScB X.N sc scope x frees js) (hi : PI X (.Name x px) iter wi) (ht : ∀ s H C fp, PTs (cxB X (x :: frees) scope s H C fp) ifs tt) (he : ∀ s H C fp, PE (cxB X (x :: frees) scope s H C fp) elt te)
    (hs : ∀ v, foldedSetIterable iter X.env v = pure v := by intro _; rfl) : PE X (.ListComp elt [⟨.Name x px, iter, ifs, 0⟩] scope pos) (tLC wi js tt te) := by
  intro pins s σ H Q I h
  rw [eval_ListComp]
  refine wpAny_comprehension_free (use := none) rfl hs (closure_eq (lcells I hsc B)) B.kind B.locs (thn (hi pins s σ H _ I h) fun v s1 h1 => thn h1 fun itv s2 h2 => ?_)
  obtain ⟨it, fp, tn, J, H2, e, I2, T, st2, f2, hW⟩ := h2
  subst e
  refine lc_run (RR := fun acc C => compPost (model X.prog X.w) X.A X.xe none (EP X pins σ Q) acc C) I2 hc hsc B T st2 f2 hW ht he ?_
  intro D C s' H' ys its n hD hC hDC J' nD rv gD hz q
  obtain ⟨m, hn, _⟩ := J'.loc
  refine ⟨m, hn, fun h' hs' => ?_⟩
  have A1 := lc_after I2 f2 hD J' nD rv gD hz
  have nC : (upd H' D (.lst ys)) C = none := by rw [upd_ne (Ne.symm hDC)]; exact J'.free
  exact ⟨.ref D, _, lc_go I2 A1 hC nC hs', rfl, q D nD⟩
end
end L2
namespace Fx
open PySem
inductive D where
  | non | bl (b : Bool) | int (i : Int) | str (x : Str) | tup (xs : List D) | lst (xs : List D)
  | opq
  | dct (ks : List Str) (vs : List D)
inductive MO where
  | lst (xs : List D) | dic (kvs : List (Str × D))
inductive Sl where
  | no | im (d : D) | ow (b : Bool) (o : MO)
abbrev En := List Sl
inductive Res where
  | nx (ρ : En) | rt (d : D) (ρ : En) | bk (ρ : En) | ct (ρ : En)
abbrev FE := En → Option (D × En)
abbrev FT := En → Option (Bool × En)
abbrev FA := En → Option (List D × En)
abbrev FS := En → Option Res
def bnd {α β : Type} (x : Option α) (f : α → Option β) : Option β := x.bind f
mutual
def eqD : D → D → Bool
  | .non, .non => true
  | .bl a, .bl b => a == b
  | .bl a, .int b => (if a then 1 else 0) == b
  | .int a, .bl b => a == (if b then 1 else 0)
  | .int a, .int b => a == b
  | .str a, .str b => a == b
  | .tup a, .tup b => eqDs a b
  | .lst a, .lst b => eqDs a b
  | _, _ => false
def eqDs : List D → List D → Bool
  | [], [] => true
  | a :: r, b :: t => eqD a b && eqDs r t
  | _, _ => false
end
@[simp] theorem eqD_non_non  : eqD .non .non = true := by rw [eqD]
@[simp] theorem eqD_non_bl (y : Bool) : eqD .non (.bl y) = false := by simp [eqD]
@[simp] theorem eqD_non_int (y : Int) : eqD .non (.int y) = false := by simp [eqD]
@[simp] theorem eqD_non_str (y : Str) : eqD .non (.str y) = false := by simp [eqD]
@[simp] theorem eqD_non_tup (y : List D) : eqD .non (.tup y) = false := by simp [eqD]
@[simp] theorem eqD_non_lst (y : List D) : eqD .non (.lst y) = false := by simp [eqD]
@[simp] theorem eqD_bl_non (x : Bool) : eqD (.bl x) .non = false := by simp [eqD]
@[simp] theorem eqD_bl_bl (x : Bool) (y : Bool) : eqD (.bl x) (.bl y) = decide (x = y) := by rw [eqD]; exact Bool.beq_eq_decide_eq _ _
@[simp] theorem eqD_bl_int (x : Bool) (y : Int) : eqD (.bl x) (.int y) = ((if x then 1 else 0) == y) := by rw [eqD]
@[simp] theorem eqD_bl_str (x : Bool) (y : Str) : eqD (.bl x) (.str y) = false := by simp [eqD]
@[simp] theorem eqD_bl_tup (x : Bool) (y : List D) : eqD (.bl x) (.tup y) = false := by simp [eqD]
@[simp] theorem eqD_bl_lst (x : Bool) (y : List D) : eqD (.bl x) (.lst y) = false := by simp [eqD]
@[simp] theorem eqD_int_non (x : Int) : eqD (.int x) .non = false := by simp [eqD]
@[simp] theorem eqD_int_bl (x : Int) (y : Bool) : eqD (.int x) (.bl y) = (x == (if y then 1 else 0)) := by rw [eqD]
@[simp] theorem eqD_int_int (x : Int) (y : Int) : eqD (.int x) (.int y) = decide (x = y) := by rw [eqD]; exact Bool.beq_eq_decide_eq _ _
@[simp] theorem eqD_int_str (x : Int) (y : Str) : eqD (.int x) (.str y) = false := by simp [eqD]
@[simp] theorem eqD_int_tup (x : Int) (y : List D) : eqD (.int x) (.tup y) = false := by simp [eqD]
@[simp] theorem eqD_int_lst (x : Int) (y : List D) : eqD (.int x) (.lst y) = false := by simp [eqD]
@[simp] theorem eqD_str_non (x : Str) : eqD (.str x) .non = false := by simp [eqD]
@[simp] theorem eqD_str_bl (x : Str) (y : Bool) : eqD (.str x) (.bl y) = false := by simp [eqD]
@[simp] theorem eqD_str_int (x : Str) (y : Int) : eqD (.str x) (.int y) = false := by simp [eqD]
@[simp] theorem eqD_str_str (x : Str) (y : Str) : eqD (.str x) (.str y) = decide (x = y) := by rw [eqD]; exact Bool.beq_eq_decide_eq _ _
@[simp] theorem eqD_str_tup (x : Str) (y : List D) : eqD (.str x) (.tup y) = false := by simp [eqD]
@[simp] theorem eqD_str_lst (x : Str) (y : List D) : eqD (.str x) (.lst y) = false := by simp [eqD]
@[simp] theorem eqD_tup_non (x : List D) : eqD (.tup x) .non = false := by simp [eqD]
@[simp] theorem eqD_tup_bl (x : List D) (y : Bool) : eqD (.tup x) (.bl y) = false := by simp [eqD]
@[simp] theorem eqD_tup_int (x : List D) (y : Int) : eqD (.tup x) (.int y) = false := by simp [eqD]
@[simp] theorem eqD_tup_str (x : List D) (y : Str) : eqD (.tup x) (.str y) = false := by simp [eqD]
@[simp] theorem eqD_tup_tup (x : List D) (y : List D) : eqD (.tup x) (.tup y) = eqDs x y := by rw [eqD]
@[simp] theorem eqD_tup_lst (x : List D) (y : List D) : eqD (.tup x) (.lst y) = false := by simp [eqD]
@[simp] theorem eqD_lst_non (x : List D) : eqD (.lst x) .non = false := by simp [eqD]
@[simp] theorem eqD_lst_bl (x : List D) (y : Bool) : eqD (.lst x) (.bl y) = false := by simp [eqD]
@[simp] theorem eqD_lst_int (x : List D) (y : Int) : eqD (.lst x) (.int y) = false := by simp [eqD]
@[simp] theorem eqD_lst_str (x : List D) (y : Str) : eqD (.lst x) (.str y) = false := by simp [eqD]
@[simp] theorem eqD_lst_tup (x : List D) (y : List D) : eqD (.lst x) (.tup y) = false := by simp [eqD]
@[simp] theorem eqD_lst_lst (x : List D) (y : List D) : eqD (.lst x) (.lst y) = eqDs x y := by rw [eqD]
@[simp] theorem eqDs_nn : eqDs [] [] = true := by rw [eqDs]
@[simp] theorem eqDs_cc (a b : D) (r t : List D) : eqDs (a :: r) (b :: t) = (eqD a b && eqDs r t) := by rw [eqDs]
@[simp] theorem eqDs_nc (b : D) (t : List D) : eqDs [] (b :: t) = false := by simp [eqDs]
@[simp] theorem eqDs_cn (b : D) (t : List D) : eqDs (b :: t) [] = false := by simp [eqDs]
mutual
def dpD : D → Nat
  | .tup xs => dpDs xs + 1
  | .lst xs => dpDs xs + 1
  | .opq => 1000
  | .dct _ _ => 1000
  | _ => 0
def dpDs : List D → Nat
  | [] => 0
  | d :: r => max (dpD d) (dpDs r)
end
@[simp] theorem dpD_opq : dpD .opq = 1000 := rfl
@[simp] theorem dpD_dct (ks : List Str) (vs : List D) : dpD (.dct ks vs) = 1000 := rfl
@[simp] theorem dpD_non : dpD .non = 0 := rfl
@[simp] theorem dpD_bl (b : Bool) : dpD (.bl b) = 0 := rfl
@[simp] theorem dpD_int (i : Int) : dpD (.int i) = 0 := rfl
@[simp] theorem dpD_str (x : Str) : dpD (.str x) = 0 := rfl
@[simp] theorem dpD_tup (xs : List D) : dpD (.tup xs) = dpDs xs + 1 := rfl
@[simp] theorem dpD_lst (xs : List D) : dpD (.lst xs) = dpDs xs + 1 := rfl
@[simp] theorem dpDs_nil : dpDs [] = 0 := rfl
@[simp] theorem dpDs_cons (d : D) (r : List D) : dpDs (d :: r) = max (dpD d) (dpDs r) := rfl
def bigM (i : Int) : Bool := decide (i.natAbs < 2 ^ 1000)
def okMul (i j : Int) : Bool := decide (i.natAbs < 2 ^ 64) || decide (j.natAbs < 2 ^ 64) || (bigM i && bigM j)
def okDiv (j : Int) : Bool := decide (j ≠ 0) && decide (j.natAbs < 2 ^ 1000)
def dAdd : D → D → Option D
  | .int i, .int j => some (.int (i + j))
  | .str a, .str b => if a.length + b.length ≤ sizeLine then some (.str (a ++ b)) else none
  | .lst a, .lst b => if a.length + b.length ≤ sizeLine then some (.lst (a ++ b)) else none
  | _, _ => none
def dSub : D → D → Option D
  | .int i, .int j => some (.int (i - j))
  | _, _ => none
def dMul : D → D → Option D
  | .int i, .int j => if okMul i j = true then some (.int (i * j)) else none
  | _, _ => none
def dDiv : D → D → Option D
  | .int i, .int j => if okDiv j = true then some (.int (i.fdiv j)) else none
  | _, _ => none
def dMod : D → D → Option D
  | .int i, .int j => if j ≠ 0 then some (.int (i.fmod j)) else none
  | _, _ => none
def dPow : D → D → Option D
  | .int i, .int j => if 0 ≤ j ∧ j ≤ 64 ∧ i.natAbs < 2 ^ 64 then some (.int (i ^ j.toNat)) else none
  | _, _ => none
def dNeg : D → Option D
  | .int i => some (.int (-i))
  | _ => none
def dCmp (p : Int → Int → Bool) : D → D → Option D
  | .int i, .int j => some (.bl (p i j))
  | _, _ => none
def dLt : D → D → Option D := dCmp fun i j => decide (i < j)
def dLe : D → D → Option D := dCmp fun i j => decide (i ≤ j)
def dGt : D → D → Option D := dCmp fun i j => decide (j < i)
def dGe : D → D → Option D := dCmp fun i j => decide (j ≤ i)
def dEq (x y : D) : Option D := if dpD x ≤ 30 ∧ dpD y ≤ 30 then some (.bl (eqD x y)) else none
def dNe (x y : D) : Option D := if dpD x ≤ 30 ∧ dpD y ≤ 30 then some (.bl (!eqD x y)) else none
def isN : D → Bool
  | .non => true
  | _ => false
@[simp] theorem isN_opq : isN .opq = false := rfl
@[simp] theorem isN_dct (ks : List Str) (vs : List D) : isN (.dct ks vs) = false := rfl
@[simp] theorem isN_non : isN .non = true := rfl
@[simp] theorem isN_bl (b : Bool) : isN (.bl b) = false := rfl
@[simp] theorem isN_int (b : Int) : isN (.int b) = false := rfl
@[simp] theorem isN_str (b : Str) : isN (.str b) = false := rfl
@[simp] theorem isN_tup (b : List D) : isN (.tup b) = false := rfl
@[simp] theorem isN_lst (b : List D) : isN (.lst b) = false := rfl
def dIs (x y : D) : Option D := match y with
  | .non => some (.bl (isN x))
  | _ => none
def dIsNot (x y : D) : Option D := match y with
  | .non => some (.bl (!isN x))
  | _ => none
def dTru : D → Option Bool
  | .non => some false
  | .bl b => some b
  | .int i => some (i != 0)
  | .lst xs => some (!xs.isEmpty)
  | .tup xs => some (!xs.isEmpty)
  | _ => none
def dPl (n : Nat) (i : Int) : Option Nat := if 0 ≤ i then (if i < n then some i.toNat else none) else if -(n : Int) ≤ i then some (i + n).toNat else none
def atD (xs : List D) (i : Int) : Option D := (dPl xs.length i).bind fun j => xs[j]?
def dIx : D → D → Option D
  | .tup xs, .int i => atD xs i
  | .lst xs, .int i => atD xs i
  | _, _ => none
def dEnd (n d : Nat) : Option Int → Nat
  | none => d
  | some v => (if v < 0 then max (v + (n : Int)) 0 else min v (n : Int)).toNat
def dCut (xs : List D) (lo hi : Option Int) : List D := (xs.drop (dEnd xs.length 0 lo)).take (dEnd xs.length xs.length hi - dEnd xs.length 0 lo)
def dSl : D → Option Int → Option Int → Option D
  | .lst xs, lo, hi => some (.lst (dCut xs lo hi))
  | .tup xs, lo, hi => if dEnd xs.length 0 lo = 0 ∧ dEnd xs.length xs.length hi = xs.length then none else some (.tup (dCut xs lo hi))
  | _, _, _ => none
def bAbs : List D → Option D
  | [.int i] => some (.int (if i < 0 then -i else i))
  | _ => none
def bLen : List D → Option D
  | [.lst xs] => some (.int xs.length)
  | [.tup xs] => some (.int xs.length)
  | _ => none
def intsOf : List D → Option (List Int)
  | [] => some []
  | .int i :: r => bnd (intsOf r) fun is => some (i :: is)
  | _ => none
theorem intsOf_cons (i : Int) (r : List D) : intsOf (.int i :: r) = bnd (intsOf r) fun is => some (i :: is) := rfl
def minI : Int → List Int → Int
  | m, [] => m
  | m, x :: r => minI (if x < m then x else m) r
def maxI : Int → List Int → Int
  | m, [] => m
  | m, x :: r => maxI (if m < x then x else m) r
def bestI (f : Int → List Int → Int) : List Int → Option D
  | [] => none
  | i :: r => some (.int (f i r))
def bMax : List D → Option D
  | [.int i, .int j] => some (.int (if j > i then j else i))
  | [.lst xs] => bnd (intsOf xs) fun is => bestI maxI is
  | _ => none
def bMin : List D → Option D
  | [.int i, .int j] => some (.int (if j < i then j else i))
  | [.lst xs] => bnd (intsOf xs) fun is => bestI minI is
  | _ => none
def bools : List D → Option (List Bool)
  | [] => some []
  | .bl b :: r => bnd (bools r) fun bs => some (b :: bs)
  | _ => none
def bAny : List D → Option D
  | [.lst xs] => bnd (bools xs) fun bs => some (.bl (bs.any id))
  | _ => none
def bAll : List D → Option D
  | [.lst xs] => bnd (bools xs) fun bs => some (.bl (bs.all id))
  | _ => none
inductive Ty where
  | int | bool | str | tuple | list
def isTy : Ty → D → Bool
  | .int, .int _ => true
  | .int, .bl _ => true
  | .bool, .bl _ => true
  | .str, .str _ => true
  | .tuple, .tup _ => true
  | .list, .lst _ => true
  | _, _ => false
def slV (ρ : En) : Option Sl → Option (D × En)
  | some (.im d) => some (d, ρ)
  | _ => none
def eV (i : Nat) (ρ : En) : Option (D × En) := slV ρ ρ[i]?
def eC (d : D) (ρ : En) : Option (D × En) := some (d, ρ)
def e1 (op : D → Option D) (F : FE) (ρ : En) : Option (D × En) := bnd (F ρ) fun p => bnd (op p.1) fun d => some (d, p.2)
def e2 (op : D → D → Option D) (F G : FE) (ρ : En) : Option (D × En) := bnd (F ρ) fun p => bnd (G p.2) fun q => bnd (op p.1 q.1) fun d => some (d, q.2)
def blB : D → Option Bool
  | .bl b => some b
  | _ => none
def e3 (op op' : D → D → Option D) (F G L : FE) (ρ : En) : Option (D × En) := bnd (F ρ) fun p => bnd (G p.2) fun q => bnd (op p.1 q.1) fun z => bnd (blB z) fun b =>
  if b = true then bnd (L q.2) fun r => bnd (op' q.1 r.1) fun d => some (d, r.2) else some (.bl false, q.2)
def aN (ρ : En) : Option (List D × En) := some ([], ρ)
def aC (F : FE) (A : FA) (ρ : En) : Option (List D × En) := bnd (F ρ) fun p => bnd (A p.2) fun q => some (p.1 :: q.1, q.2)
def eTup (A : FA) (ρ : En) : Option (D × En) := bnd (A ρ) fun p => if p.1.length ≤ 1000 then some (.tup p.1, p.2) else none
def eLst (A : FA) (ρ : En) : Option (D × En) := bnd (A ρ) fun p => if p.1.length ≤ 1000 then some (.lst p.1, p.2) else none
def eF (g : List D → Option D) (A : FA) (ρ : En) : Option (D × En) := bnd (A ρ) fun p => bnd (g p.1) fun d => some (d, p.2)
def eTy (t : Ty) (F : FE) (ρ : En) : Option (D × En) := bnd (F ρ) fun p => some (.bl (isTy t p.1), p.2)
abbrev FO := En → Option (Option Int × En)
def intI : D → Option Int
  | .int i => some i
  | _ => none
def oN (ρ : En) : Option (Option Int × En) := some (none, ρ)
def oS (F : FE) (ρ : En) : Option (Option Int × En) := bnd (F ρ) fun p => bnd (intI p.1) fun i => some (some i, p.2)
def eSl (F : FE) (lo hi : FO) (ρ : En) : Option (D × En) := bnd (F ρ) fun p => bnd (lo p.2) fun l => bnd (hi l.2) fun h => bnd (dSl p.1 l.1 h.1) fun d => some (d, h.2)
def tB (F : FE) (ρ : En) : Option (Bool × En) := bnd (F ρ) fun p => bnd (blB p.1) fun b => some (b, p.2)
def tV (F : FE) (ρ : En) : Option (Bool × En) := bnd (F ρ) fun p => bnd (dTru p.1) fun b => some (b, p.2)
def tAnd (T U : FT) (ρ : En) : Option (Bool × En) := bnd (T ρ) fun p => if p.1 = true then U p.2 else some (false, p.2)
def tOr (T U : FT) (ρ : En) : Option (Bool × En) := bnd (T ρ) fun p => if p.1 = true then some (true, p.2) else U p.2
def tNot (T : FT) (ρ : En) : Option (Bool × En) := bnd (T ρ) fun p => some (!p.1, p.2)
def tYes (ρ : En) : Option (Bool × En) := some (true, ρ)
def eIf (T : FT) (F G : FE) (ρ : En) : Option (D × En) := bnd (T ρ) fun p => if p.1 = true then F p.2 else G p.2
def eAnd (F G : FE) (ρ : En) : Option (D × En) := bnd (F ρ) fun p => bnd (blB p.1) fun b => if b = true then G p.2 else some (.bl false, p.2)
def eOr (F G : FE) (ρ : En) : Option (D × En) := bnd (F ρ) fun p => bnd (blB p.1) fun b => if b = true then some (.bl true, p.2) else G p.2
def eNot (F : FE) (ρ : En) : Option (D × En) := bnd (F ρ) fun p => bnd (blB p.1) fun b => some (.bl (!b), p.2)
def slI : Option Sl → Option Sl
  | some (.im d) => some (.im d)
  | _ => none
def imAt (ρ : En) : List Nat → Option En
  | [] => some []
  | j :: js => bnd (slI ρ[j]?) fun s => bnd (imAt ρ js) fun r => some (s :: r)
theorem imAt_cons (ρ : En) (j : Nat) (js : List Nat) : imAt ρ (j :: js) = bnd (slI ρ[j]?) fun s => bnd (imAt ρ js) fun r => some (s :: r) := rfl
def cGo (T : FT) (F : FE) (fr : En) : List D → Option (List D)
  | [] => some []
  | d :: r => bnd (T (.im d :: fr)) fun p => if p.1 = true then bnd (F p.2) fun q => bnd (cGo T F fr r) fun t => some (q.1 :: t) else cGo T F fr r
theorem cGo_nil (T : FT) (F : FE) (fr : En) : cGo T F fr [] = some [] := rfl
theorem cGo_cons (T : FT) (F : FE) (fr : En) (d : D) (r : List D) : cGo T F fr (d :: r) = bnd (T (.im d :: fr)) fun p => if p.1 = true then bnd (F p.2) fun q => bnd (cGo T F fr r) fun t => some (q.1 :: t) else cGo T F fr r := rfl
def chS (c : Nat) : Str := ⟨#[c]⟩
def chs (z : Str) : List D := z.cps.toList.map fun c => .str (chS c)
def items : D → Option (List D)
  | .lst xs => some xs
  | .tup xs => some xs
  | .str z => some (chs z)
  | _ => none
def eLC (js : List Nat) (I : FE) (T : FT) (F : FE) (ρ : En) : Option (D × En) := bnd (I ρ) fun p => bnd (items p.1) fun xs => bnd (imAt p.2 js) fun fr => bnd (cGo T F fr xs) fun ys => if xs.length ≤ sizeLine then some (.lst ys, p.2) else none
def sN (ρ : En) : Option Res := some (.nx ρ)
def nxR (G : FS) : Res → Option Res
  | .nx ρ' => G ρ'
  | .rt d ρ => some (.rt d ρ)
  | .bk ρ => some (.bk ρ)
  | .ct ρ => some (.ct ρ)
def sSeq (F G : FS) (ρ : En) : Option Res := bnd (F ρ) fun r => nxR G r
def sSet (i : Nat) (F : FE) (ρ : En) : Option Res := bnd (F ρ) fun p => some (.nx (p.2.set i (.im p.1)))
def setAll : List Nat → List D → En → En
  | i :: is, d :: ds, ρ => setAll is ds (ρ.set i (.im d))
  | _, _, ρ => ρ
theorem setAll_cons (i : Nat) (is : List Nat) (d : D) (ds : List D) (ρ : En) : setAll (i :: is) (d :: ds) ρ = setAll is ds (ρ.set i (.im d)) := rfl
theorem setAll_nil (ds : List D) (ρ : En) : setAll [] ds ρ = ρ := by cases ds <;> rfl
def tupX : D → Option (List D)
  | .tup xs => some xs
  | .lst xs => some xs
  | _ => none
def gN (i : Nat) (d : D) (ρ : En) : Option En := some (ρ.set i (.im d))
def gT (is : List Nat) (d : D) (ρ : En) : Option En := bnd (tupX d) fun xs => if xs.length = is.length then some (setAll is xs ρ) else none
def sTup (is : List Nat) (F : FE) (ρ : En) : Option Res := bnd (F ρ) fun p => bnd (gT is p.1 p.2) fun ρ' => some (.nx ρ')
def sIf (T : FT) (F G : FS) (ρ : En) : Option Res := bnd (T ρ) fun p => if p.1 = true then F p.2 else G p.2
def sRet (F : FE) (ρ : En) : Option Res := bnd (F ρ) fun p => some (.rt p.1 p.2)
def sRetN (ρ : En) : Option Res := some (.rt .non ρ)
def sBk (ρ : En) : Option Res := some (.bk ρ)
def sCt (ρ : En) : Option Res := some (.ct ρ)
def goR (G : FS) : Res → Option Res
  | .nx ρ => G ρ
  | .ct ρ => G ρ
  | .bk ρ => some (.nx ρ)
  | .rt d ρ => some (.rt d ρ)
def fGo (g : D → En → Option En) (B : FS) : List D → FS
  | [], ρ => some (.nx ρ)
  | d :: r, ρ => bnd (g d ρ) fun ρ1 => bnd (B ρ1) fun z => goR (fGo g B r) z
theorem fGo_nil (g : D → En → Option En) (B : FS) (ρ : En) : fGo g B [] ρ = some (.nx ρ) := rfl
theorem fGo_cons (g : D → En → Option En) (B : FS) (d : D) (r : List D) (ρ : En) : fGo g B (d :: r) ρ = bnd (g d ρ) fun ρ1 => bnd (B ρ1) fun z => goR (fGo g B r) z := rfl
def sFor (g : D → En → Option En) (F : FE) (B : FS) (ρ : En) : Option Res := bnd (F ρ) fun p => bnd (items p.1) fun xs => fGo g B xs p.2
def rngD (lo : Int) : Nat → List D
  | 0 => []
  | n + 1 => .int lo :: rngD (lo + 1) n
def rng1 (F : FE) (ρ : En) : Option (List D × En) := bnd (F ρ) fun p => bnd (intI p.1) fun j => if -(2 ^ 62) ≤ j ∧ j < 2 ^ 62 then some (rngD 0 j.toNat, p.2) else none
def rng2 (F G : FE) (ρ : En) : Option (List D × En) := bnd (F ρ) fun p => bnd (G p.2) fun q => bnd (intI p.1) fun i => bnd (intI q.1) fun j =>
  if -(2 ^ 62) ≤ i ∧ i < 2 ^ 62 ∧ -(2 ^ 62) ≤ j ∧ j < 2 ^ 62 then some (rngD i (j - i).toNat, q.2) else none
def sForR (g : D → En → Option En) (R : FA) (B : FS) (ρ : En) : Option Res := bnd (R ρ) fun p => fGo g B p.1 p.2
def wGo (T : FT) (B : FS) : Nat → FS
  | 0, _ => none
  | n + 1, ρ => bnd (T ρ) fun p => if p.1 = true then bnd (B p.2) fun z => goR (wGo T B n) z else some (.nx p.2)
def sWhile (fuel : En → Nat) (T : FT) (B : FS) (ρ : En) : Option Res := wGo T B (fuel ρ) ρ
def oLst (A : FA) (ρ : En) : Option (List D × En) := bnd (A ρ) fun p => if p.1.length ≤ 1000 then some p else none
def oIf (T : FT) (A B : FA) (ρ : En) : Option (List D × En) := bnd (T ρ) fun p => if p.1 = true then A p.2 else B p.2
def sOwn (i : Nat) (A : FA) (ρ : En) : Option Res := bnd (A ρ) fun p => some (.nx (p.2.set i (.ow false (.lst p.1))))
def owL : Option Sl → Option (List D)
  | some (.ow false (.lst ds)) => some ds
  | _ => none
def sApp (i : Nat) (F : FE) (ρ : En) : Option Res := bnd (owL ρ[i]?) fun _ => bnd (F ρ) fun p => bnd (owL p.2[i]?) fun ds => if ds.length < 1000000 then some (.nx (p.2.set i (.ow false (.lst (ds ++ [p.1]))))) else none
def frz (i : Nat) (ρ : En) : En := match ρ[i]? with
  | some (.ow false (.lst ds)) => ρ.set i (.im (.lst ds))
  | _ => ρ
def sFrz (i : Nat) (F : FS) (ρ : En) : Option Res := F (frz i ρ)
def eLR (js : List Nat) (R : FA) (T : FT) (F : FE) (ρ : En) : Option (D × En) := bnd (R ρ) fun p => bnd (imAt p.2 js) fun fr => bnd (cGo T F fr p.1) fun ys => if p.1.length ≤ sizeLine then some (.lst ys, p.2) else none
def isB (b : Bool) : D → Bool
  | .bl c => decide (c = b)
  | _ => false
def e1B (b n : Bool) (F : FE) (ρ : En) : Option (D × En) := bnd (F ρ) fun p => some (.bl (if n then !isB b p.1 else isB b p.1), p.2)
def retR : Res → Option D
  | .rt d _ => some d
  | .nx _ => some .non
  | _ => none
def fnD (n k : Nat) (B : FS) (ds : List D) : Option D := if ds.length = n then bnd (B (ds.map .im ++ List.replicate k .no)) fun r => retR r else none
end Fx
set_option maxRecDepth 100000
namespace Fx
open PySem PySem.Spec PyProof.Rows L2
mutual
def Rep (K : PySem.W.Frag) (H : Hp) : D → V → Prop
  | .non, v => v = .non
  | .bl b, v => v = .bl b
  | .int i, v => v = .int i
  | .str x, v => v = .str x
  | .tup ds, v => ∃ a vs, v = .ref a ∧ SqT K H a vs ∧ Reps K H ds vs
  | .lst ds, v => ∃ a vs, v = .ref a ∧ SqL K H a vs ∧ Reps K H ds vs
  | .opq, v => ∃ a kvs, v = .ref a ∧ H a = some (.dK kvs)
  | .dct ks ds, v => ∃ a o vs, v = .ref a ∧ H a = some (.frz o (.dK ((ks.map Sum.inr).zip vs))) ∧ Reps K H ds vs ∧ ks.length = ds.length
def Reps (K : PySem.W.Frag) (H : Hp) : List D → List V → Prop
  | [], vs => vs = []
  | d :: ds, vs => ∃ v r, vs = v :: r ∧ Rep K H d v ∧ Reps K H ds r
end
theorem Same.rd {H H' : Hp} {a : Addr} {u : HO} (e : Same H H') (h : Rd H a u) : Rd H' a u := by
  rcases h with h | ⟨o, h⟩
  · exact .inl (e _ _ h)
  · exact .inr ⟨o, e _ _ h⟩
theorem Same.seqT {K : PySem.W.Frag} {H H' : Hp} {a : Addr} {xs : List V} (e : Same H H') (h : SqT K H a xs) : SqT K H' a xs := by
  rcases h with h | h
  · exact .inl (Same.rd e h)
  · exact .inr h
section
variable {K : PySem.W.Frag} {H H' : Hp}
mutual
theorem Rep.mono (e : Same H H') : ∀ (d : D) {v : V}, Rep K H d v → Rep K H' d v
  | .non, _, h => h
  | .bl _, _, h => h
  | .int _, _, h => h
  | .str _, _, h => h
  | .tup ds, _, h => by
    unfold Rep at h ⊢
    obtain ⟨a, vs, q, s, r⟩ := h
    exact ⟨a, vs, q, Same.seqT e s, Reps.mono e ds r⟩
  | .lst ds, _, h => by
    unfold Rep at h ⊢
    obtain ⟨a, vs, q, s, r⟩ := h
    exact ⟨a, vs, q, Same.seq e s, Reps.mono e ds r⟩
  | .opq, _, h => by
    unfold Rep at h ⊢
    obtain ⟨a, kvs, q, s⟩ := h
    exact ⟨a, kvs, q, e _ _ s⟩
  | .dct ks ds, _, h => by
    unfold Rep at h ⊢
    obtain ⟨a, o, vs, q, s, r, l⟩ := h
    exact ⟨a, o, vs, q, e _ _ s, Reps.mono e ds r, l⟩
theorem Reps.mono (e : Same H H') : ∀ (ds : List D) {vs : List V}, Reps K H ds vs → Reps K H' ds vs
  | [], _, h => h
  | d :: ds, _, h => by
    unfold Reps at h ⊢
    obtain ⟨v, r, q, s, t⟩ := h
    exact ⟨v, r, q, Rep.mono e d s, Reps.mono e ds t⟩
end
theorem Reps.length : ∀ {ds : List D} {vs : List V}, Reps K H ds vs → ds.length = vs.length
  | [], _, h => by unfold Reps at h; rw [h]; rfl
  | d :: ds, _, h => by
    unfold Reps at h
    obtain ⟨v, r, q, _, t⟩ := h
    rw [q, List.length_cons, List.length_cons, Reps.length t]
theorem Reps.get : ∀ {ds : List D} {vs : List V} {i : Nat} {d : D}, Reps K H ds vs → ds[i]? = some d → ∃ v, vs[i]? = some v ∧ Rep K H d v
  | [], _, _, _, _, e => by simp at e
  | d :: ds, _, 0, _, h, e => by
    unfold Reps at h
    obtain ⟨v, r, rfl, s, _⟩ := h
    simp at e; subst e
    exact ⟨v, rfl, s⟩
  | d :: ds, _, i + 1, d', h, e => by
    unfold Reps at h
    obtain ⟨v, r, rfl, _, t⟩ := h
    obtain ⟨w, a, b⟩ := Reps.get (i := i) (d := d') t (by simpa using e)
    exact ⟨w, by simpa using a, b⟩
theorem Reps.app : ∀ {ds es : List D} {vs ws : List V}, Reps K H ds vs → Reps K H es ws → Reps K H (ds ++ es) (vs ++ ws)
  | [], _, _, _, h, h' => by unfold Reps at h; rw [h]; exact h'
  | d :: ds, es, _, ws, h, h' => by
    unfold Reps at h
    obtain ⟨v, r, rfl, s, t⟩ := h
    show Reps K H (d :: (ds ++ es)) (v :: (r ++ ws))
    unfold Reps
    exact ⟨v, r ++ ws, rfl, s, Reps.app t h'⟩
theorem Reps.take : ∀ {ds : List D} {vs : List V} (n : Nat), Reps K H ds vs → Reps K H (ds.take n) (vs.take n)
  | [], _, n, h => by unfold Reps at h; rw [h]; simp [Reps]
  | d :: ds, vs, 0, h => by simp [Reps]
  | d :: ds, _, n + 1, h => by
    unfold Reps at h
    obtain ⟨v, r, rfl, s, t⟩ := h
    show Reps K H (d :: ds.take n) (v :: r.take n)
    unfold Reps
    exact ⟨v, r.take n, rfl, s, Reps.take n t⟩
theorem Reps.drop : ∀ {ds : List D} {vs : List V} (n : Nat), Reps K H ds vs → Reps K H (ds.drop n) (vs.drop n)
  | [], _, n, h => by unfold Reps at h; rw [h]; simp [Reps]
  | d :: ds, vs, 0, h => by simpa using h
  | d :: ds, _, n + 1, h => by
    unfold Reps at h
    obtain ⟨v, r, rfl, s, t⟩ := h
    simpa using Reps.drop n t
theorem Reps.one {d : D} {v : V} (h : Rep K H d v) : Reps K H [d] [v] := by
  unfold Reps Reps
  exact ⟨v, [], rfl, h, rfl⟩
theorem Reps.cons {d : D} {ds : List D} {v : V} {vs : List V} (h : Rep K H d v) (t : Reps K H ds vs) : Reps K H (d :: ds) (v :: vs) := by
  unfold Reps
  exact ⟨v, vs, rfl, h, t⟩
theorem Reps.nil_ : Reps K H [] [] := by unfold Reps; rfl
end
structure FC where
  Hi : Hp
  He : Hp
  Ap : List Addr
def OwOk (K : PySem.W.Frag) (H0 H : Hp) (a : Addr) : MO → Prop
  | .lst ds => ∃ vs, H a = some (.lst vs) ∧ Reps K H0 ds vs
  | .dic kds => ∃ ks vs, H a = some (.dK ((ks.map Sum.inr).zip vs)) ∧ ks = kds.map (·.1) ∧ Reps K H0 (kds.map (·.2)) vs
structure RS (K : PySem.W.Frag) (c : FC) (H0 H : Hp) (ρ : En) (σ : L2.St) : Prop where
  same : Same H0 H
  init : Same c.Hi H0
  fresh : ∀ b o, H0 b = some o → c.Hi b = some o ∨ c.He b = none
  keep : ∀ b o, c.He b = some o → b ∉ c.Ap → H b = some o
  apt : ∀ a ∈ c.Ap, H a ≠ none
  len : ρ.length = σ.length
  im : ∀ (i : Nat) (d : D), ρ[i]? = some (.im d) → ∃ v, σ[i]? = some (some v) ∧ Rep K H0 d v
  ow : ∀ (i : Nat) (b : Bool) (o : MO), ρ[i]? = some (.ow b o) → ∃ a, σ[i]? = some (some (.ref a)) ∧ H0 a = none ∧ (if b = true then a ∈ c.Ap else c.He a = none) ∧ OwOk K H0 H a o
  ne : ∀ (i j : Nat) (b b' : Bool) (o o' : MO) (a : Addr), ρ[i]? = some (.ow b o) → ρ[j]? = some (.ow b' o') → σ[i]? = some (some (.ref a)) → σ[j]? = some (some (.ref a)) → i = j
section
variable {K : PySem.W.Frag} {c : FC} {H0 H H0' H' : Hp} {ρ : En} {σ : L2.St}
theorem OwOk.some {a : Addr} {o : MO} (h : OwOk K H0 H a o) : ∃ u, H a = Option.some u := by
  cases o with
  | lst ds => obtain ⟨vs, e, _⟩ := h; exact ⟨_, e⟩
  | dic ds => obtain ⟨ks, vs, e, _⟩ := h; exact ⟨_, e⟩
theorem OwOk.step {a : Addr} {o : MO} (h : OwOk K H0 H a o) (s0 : Same H0 H0') (s : ∀ u, H a = Option.some u → H' a = Option.some u) : OwOk K H0' H' a o := by
  cases o with
  | lst ds => obtain ⟨vs, e, r⟩ := h; exact ⟨vs, s _ e, Reps.mono s0 ds r⟩
  | dic ds => obtain ⟨ks, vs, e, q, r⟩ := h; exact ⟨ks, vs, s _ e, q, Reps.mono s0 _ r⟩
structure Step (H0 H H0' H' : Hp) : Prop where
  s0 : Same H0 H0'
  s : Same H H'
  s' : Same H0' H'
  fr : ∀ b o, H0' b = some o → H0 b = some o ∨ H b = none
theorem RS.after (R : RS K c H0 H ρ σ) (S : Step H0 H H0' H') : RS K c H0' H' ρ σ := by
  refine ⟨S.s', R.init.trans S.s0, fun b o e => ?_, fun b o e n => S.s _ _ (R.keep b o e n), fun a ha e => ?_, R.len, fun i d e => ?_, fun i b o e => ?_, R.ne⟩
  · rcases S.fr b o e with h | h
    · exact R.fresh b o h
    · refine .inr ?_
      cases q : c.He b with
      | none => rfl
      | some u =>
        by_cases hb : b ∈ c.Ap
        · exact absurd h (R.apt b hb)
        · rw [R.keep b u q hb] at h; cases h
  · cases q : H a with
    | none => exact R.apt a ha q
    | some u => rw [S.s _ _ q] at e; cases e
  · obtain ⟨v, a, b⟩ := R.im i d e
    exact ⟨v, a, Rep.mono S.s0 d b⟩
  · obtain ⟨a, x, y, z, w⟩ := R.ow i b o e
    refine ⟨a, x, ?_, z, w.step S.s0 fun u q => S.s _ _ q⟩
    obtain ⟨u, q⟩ := w.some
    cases t : H0' a with
    | none => rfl
    | some o' =>
      rcases S.fr a o' t with h | h
      · rw [y] at h; cases h
      · rw [q] at h; cases h
theorem Step.refl (s : Same H0 H) : Step H0 H H0 H := ⟨Same.refl _, Same.refl _, s, fun _ _ e => .inl e⟩
theorem Step.trans {A B : Hp} (x : Step H0 H H0' H') (y : Step H0' H' A B) : Step H0 H A B := by
  refine ⟨x.s0.trans y.s0, x.s.trans y.s, y.s', fun b o e => ?_⟩
  rcases y.fr b o e with h | h
  · exact x.fr b o h
  · exact .inr (x.s.free h)
theorem Step.alloc {p : Addr} {o : HO} (s : Same H0 H) (hp : H p = none) : Step H0 H (upd H0 p o) (upd H p o) := by
  have h0 : H0 p = none := s.free hp
  refine ⟨fun b u e => by rw [upd_ne (ne_of_none e h0)]; exact e, fun b u e => by rw [upd_ne (ne_of_none e hp)]; exact e, fun b u e => ?_, fun b u e => ?_⟩
  · by_cases hb : b = p
    · subst hb; rw [upd_same] at e ⊢; exact e
    · rw [upd_ne hb] at e ⊢; exact s _ _ e
  · by_cases hb : b = p
    · subst hb; exact .inr hp
    · rw [upd_ne hb] at e; exact .inl e
end
def tE (K : PySem.W.Frag) (F : FE) : TE := fun σ H Q => ∃ c H0 ρ d ρ', RS K c H0 H ρ σ ∧ F ρ = some (d, ρ') ∧ ∀ v H0' H', Same H0 H0' → RS K c H0' H' ρ' σ → Rep K H0' d v → Q v H'
def tTt (K : PySem.W.Frag) (F : FT) : TT := fun σ H Q => ∃ c H0 ρ b ρ', RS K c H0 H ρ σ ∧ F ρ = some (b, ρ') ∧ ∀ H0' H', Same H0 H0' → RS K c H0' H' ρ' σ → Q b H'
def tAa (K : PySem.W.Frag) (F : FA) : TA := fun σ H Q => ∃ c H0 ρ ds ρ', RS K c H0 H ρ σ ∧ F ρ = some (ds, ρ') ∧ ∀ vs H0' H', Same H0 H0' → RS K c H0' H' ρ' σ → Reps K H0' ds vs → Q vs H'
def tOo (K : PySem.W.Frag) (F : FO) : TO := fun σ H Q => ∃ c H0 ρ o ρ', RS K c H0 H ρ σ ∧ F ρ = some (o, ρ') ∧ ∀ H0' H', Same H0 H0' → RS K c H0' H' ρ' σ → Q o H'
def XE (X : Cx) (e : Expr) (F : FE) : Prop := PE X e (tE X.K F)
def XT (X : Cx) (e : Expr) (F : FT) : Prop := PT X e (tTt X.K F)
def XW (X : Cx) (e : Expr) (F : FT) : Prop := PW X e (tTt X.K F)
def XA (X : Cx) (es : List Expr) (F : FA) : Prop := PA X es (tAa X.K F)
def XO (X : Cx) (e : Option Expr) (F : FO) : Prop := PO X e (tOo X.K F)
theorem bnd_eq {α β : Type} {x : Option α} {f : α → Option β} {b : β} (h : bnd x f = some b) : ∃ a, x = some a ∧ f a = some b := by
  cases x with
  | none => cases h
  | some a => exact ⟨a, rfl, h⟩
theorem PE.wk {X : Cx} {e : Expr} {t t' : TE} (h : PE X e t) (w : ∀ σ H Q, t' σ H Q → t σ H Q) : PE X e t' := fun pins s σ H Q I q => h pins s σ H Q I (w σ H Q q)
theorem PT.wk {X : Cx} {e : Expr} {t t' : TT} (h : PT X e t) (w : ∀ σ H Q, t' σ H Q → t σ H Q) : PT X e t' := fun pins s σ H Q I q => h pins s σ H Q I (w σ H Q q)
theorem PW.wk {X : Cx} {e : Expr} {t t' : TT} (h : PW X e t) (w : ∀ σ H Q, t' σ H Q → t σ H Q) : PW X e t' := fun wh pins s σ H Q I q => h wh pins s σ H Q I (w σ H Q q)
theorem PA.wk {X : Cx} {e : List Expr} {t t' : TA} (h : PA X e t) (w : ∀ σ H Q, t' σ H Q → t σ H Q) : PA X e t' := fun pos pins s σ H Q I q => h pos pins s σ H Q I (w σ H Q q)
theorem PS.wk {X : Cx} {e : Stmt} {t t' : TS} (h : PS X e t) (w : ∀ D σ H, t' D σ H → t D σ H) : PS X e t' := fun pins s σ H D I q => h pins s σ H D I (w D σ H q)
theorem PSs.wk {X : Cx} {e : List Stmt} {t t' : TS} (h : PSs X e t) (w : ∀ D σ H, t' D σ H → t D σ H) : PSs X e t' := fun pins s σ H D I q => h pins s σ H D I (w D σ H q)
section
variable {X : Cx} {pos : Pos} {a b e : Expr} {F G L : FE} {T U : FT}
theorem xv (i : Nat) {x : Str} (hN : X.N[i]? = some x := by rfl) (hv : Vis X.env.scope x := by first | exact Or.inl rfl | exact Or.inr (Or.inl rfl) | exact Or.inr (Or.inr rfl)) (hd : (x == ("__debug__" : Str)) = false := by decide)
    (hcd : (x == ("__classdict__" : Str)) = false := by decide) : XE X (.Name x pos) (eV i) :=
  PE.wk (pe_var hN hv hd hcd) fun σ H Q ⟨c, H0, ρ, d, ρ', R, f, q⟩ => by
    unfold eV at f
    cases z : ρ[i]? with
    | none => rw [z] at f; cases f
    | some sl =>
      rw [z] at f
      cases sl with
      | no => cases f
      | ow b o => cases f
      | im d' =>
        have f' : some (d', ρ) = some (d, ρ') := f
        cases f'
        obtain ⟨v, e1, e2⟩ := R.im i _ z
        exact ⟨v, e1, q v H0 H (Same.refl _) R e2⟩
theorem eC_inv {d d' : D} {ρ ρ' : En} (h : eC d ρ = some (d', ρ')) : d' = d ∧ ρ' = ρ := by
  have h' : some (d, ρ) = some (d', ρ') := h
  cases h'; exact ⟨rfl, rfl⟩
theorem xint {i : Int} {j} : XE X (.Constant (.int i) j pos) (eC (.int i)) := PE.wk pe_int fun σ H Q ⟨c, H0, ρ, d, ρ', R, f, q⟩ => by
  obtain ⟨rfl, rfl⟩ := eC_inv f
  exact q _ H0 H (Same.refl _) R (by unfold Rep; rfl)
theorem xbl {i : Bool} {j} : XE X (.Constant (.bool i) j pos) (eC (.bl i)) := PE.wk pe_bl fun σ H Q ⟨c, H0, ρ, d, ρ', R, f, q⟩ => by
  obtain ⟨rfl, rfl⟩ := eC_inv f
  exact q _ H0 H (Same.refl _) R (by unfold Rep; rfl)
theorem xnon {j} : XE X (.Constant .none j pos) (eC .non) := PE.wk pe_non fun σ H Q ⟨c, H0, ρ, d, ρ', R, f, q⟩ => by
  obtain ⟨rfl, rfl⟩ := eC_inv f
  exact q _ H0 H (Same.refl _) R (by unfold Rep; rfl)
abbrev Aft (K : PySem.W.Frag) (c : FC) (H0 : Hp) (ρ : En) (σ : L2.St) (d : D) (Q : VK) : Prop := ∀ v H0' H', Same H0 H0' → RS K c H0' H' ρ σ → Rep K H0' d v → Q v H'
def OpD (K : PySem.W.Frag) (r : R2) (op : D → D → Option D) : Prop := ∀ (c : FC) (H0 H : Hp) (ρ : En) (σ : L2.St) (x y d : D) (vx vy : V) (Q : VK), RS K c H0 H ρ σ → Rep K H0 x vx → Rep K H0 y vy → op x y = some d → Aft K c H0 ρ σ d Q → r vx vy H Q
def BinOk (X : Cx) (op : Operator) (f : D → D → Option D) : Prop := ∃ r, OpR X (binaryOp op) r ∧ OpD X.K r f
def CmpOk (X : Cx) (op : CmpOp) (f : D → D → Option D) : Prop := ∃ r, OpR X (compareOp op) r ∧ OpD X.K r f
theorem e2_inv {op : D → D → Option D} {ρ ρ' : En} {d : D} (h : e2 op F G ρ = some (d, ρ')) : ∃ x ρ1 y, F ρ = some (x, ρ1) ∧ G ρ1 = some (y, ρ') ∧ op x y = some d := by
  unfold e2 at h
  obtain ⟨⟨x, ρ1⟩, h1, h⟩ := bnd_eq h
  obtain ⟨⟨y, ρ2⟩, h2, h⟩ := bnd_eq h
  obtain ⟨z, h3, h⟩ := bnd_eq h
  have h' : some (z, ρ2) = some (d, ρ') := h
  cases h'
  exact ⟨x, ρ1, y, h1, h2, h3⟩
theorem two_of {K : PySem.W.Frag} {op : D → D → Option D} {r : R2} (o : OpD K r op) {σ : L2.St} {H : Hp} {Q : VK} (h : tE K (e2 op F G) σ H Q) : tOp r (tE K F) (tE K G) σ H Q := by
  obtain ⟨c, H0, ρ, d, ρ', R, f, q⟩ := h
  obtain ⟨x, ρ1, y, h1, h2, h3⟩ := e2_inv f
  refine ⟨c, H0, ρ, x, ρ1, R, h1, fun vx H1 Hh s1 R1 r1 => ?_⟩
  refine ⟨c, H1, ρ1, y, ρ', R1, h2, fun vy H2 Hh2 s2 R2 r2 => ?_⟩
  exact o c H2 Hh2 ρ' σ x y d vx vy Q R2 (Rep.mono s2 x r1) r2 h3 fun v H3 Hh3 s3 R3 r3 => q v H3 Hh3 (s1.trans (s2.trans s3)) R3 r3
theorem xb {op : Operator} {f : D → D → Option D} (o : BinOk X op f) (ha : XE X a F) (hb : XE X b G) : XE X (.BinOp a op b pos) (e2 f F G) := by
  obtain ⟨r, h1, h2⟩ := o
  exact PE.wk (pe_op h1 ha hb) fun σ H Q h => two_of h2 h
theorem xcmp {op : CmpOp} {f : D → D → Option D} (o : CmpOk X op f) (ha : XE X a F) (hb : XE X b G) (hm : behindInMarks op b = false := by first | exact nomark _ | with_unfolding_all rfl) : XE X (.Compare a [op] [b] pos) (e2 f F G) := by
  obtain ⟨r, h1, h2⟩ := o
  exact PE.wk (pe_cmpR h1 ha hb hm) fun σ H Q h => two_of h2 h
theorem tB_of {K : PySem.W.Frag} {t : TE} {σ : L2.St} {H : Hp} {Q : Bool → Hp → Prop} (w : ∀ Q, tE K F σ H Q → t σ H Q) (h : tTt K (tB F) σ H Q) : tTest t σ H Q := by
  obtain ⟨c, H0, ρ, b, ρ', R, f, q⟩ := h
  unfold tB at f
  obtain ⟨⟨d, ρ1⟩, h1, f⟩ := bnd_eq f
  obtain ⟨b', h2, f⟩ := bnd_eq f
  have f' : some (b', ρ1) = some (b, ρ') := f
  cases f'
  refine w _ ⟨c, H0, ρ, d, _, R, h1, fun v H1 Hh s1 R1 r1 => ?_⟩
  cases d with
  | bl k =>
    have e : k = b := Option.some.inj h2
    unfold Rep at r1
    exact ⟨k, r1, by rw [e]; exact q H1 Hh s1 R1⟩
  | _ => cases h2
theorem xt {op : CmpOp} {f : D → D → Option D} (o : CmpOk X op f) (ha : XE X a F) (hb : XE X b G) (hm : behindInMarks op b = false := by first | exact nomark _ | with_unfolding_all rfl) : XT X (.Compare a [op] [b] pos) (tB (e2 f F G)) := by
  obtain ⟨r, h1, h2⟩ := o
  exact PT.wk (pt_cmpR h1 ha hb hm) fun σ H Q h => tB_of (fun Q h => two_of h2 h) h
theorem three_of {K : PySem.W.Frag} {op op' : D → D → Option D} {r r' : R2} (o : OpD K r op) (o' : OpD K r' op') {σ : L2.St} {H : Hp} {Q : VK} (h : tE K (e3 op op' F G L) σ H Q) : tChain r r' (tE K F) (tE K G) (tE K L) σ H Q := by
  obtain ⟨c, H0, ρ, d, ρ', R, f, q⟩ := h
  unfold e3 at f
  obtain ⟨⟨x, ρ1⟩, h1, f⟩ := bnd_eq f
  obtain ⟨⟨y, ρ2⟩, h2, f⟩ := bnd_eq f
  obtain ⟨z, h3, f⟩ := bnd_eq f
  obtain ⟨k, h4, f⟩ := bnd_eq f
  dsimp only at h2 h3 h4 f
  refine ⟨c, H0, ρ, x, ρ1, R, h1, fun vx H1 Hh s1 R1 r1 => ?_⟩
  refine ⟨c, H1, ρ1, y, ρ2, R1, h2, fun vy H2 Hh2 s2 R2 r2 => ?_⟩
  refine o c H2 Hh2 ρ2 σ x y z vx vy _ R2 (Rep.mono s2 x r1) r2 h3 fun v H3 Hh3 s3 R3 r3 => ?_
  cases z with
  | bl k' =>
    have e : k' = k := Option.some.inj h4
    subst e
    unfold Rep at r3
    refine ⟨k', r3, ?_⟩
    cases k' with
    | false =>
      rw [if_neg Bool.false_ne_true] at f ⊢
      have f' : some (D.bl false, ρ2) = some (d, ρ') := f
      cases f'
      exact q _ H3 Hh3 (s1.trans (s2.trans s3)) R3 (by unfold Rep; rfl)
    | true =>
      rw [if_pos rfl] at f ⊢
      obtain ⟨⟨w, ρ3⟩, h5, f⟩ := bnd_eq f
      obtain ⟨d', h6, f⟩ := bnd_eq f
      dsimp only at h6 f
      have f' : some (d', ρ3) = some (d, ρ') := f
      cases f'
      refine ⟨c, H3, ρ2, w, _, R3, h5, fun vw H4 Hh4 s4 R4 r4 => ?_⟩
      exact o' c H4 Hh4 _ σ y w d vy vw Q R4 (Rep.mono s4 y (Rep.mono s3 y r2)) r4 h6 fun v H5 Hh5 s5 R5 r5 => q v H5 Hh5 (s1.trans (s2.trans (s3.trans (s4.trans s5)))) R5 r5
  | _ => cases h4
theorem xt3 {op op' : CmpOp} {f f' : D → D → Option D} {m : Expr} (o : CmpOk X op f) (o' : CmpOk X op' f') (ha : XE X a F) (hb : XE X b G) (hc : XE X m L) (hm : lastMarks [op, op'] [b, m] = false := by with_unfolding_all rfl) : XT X (.Compare a [op, op'] [b, m] pos) (tB (e3 f f' F G L)) := by
  obtain ⟨r, h1, h2⟩ := o
  obtain ⟨r', h1', h2'⟩ := o'
  exact PT.wk (pt_chain h1 h1' ha hb hc hm) fun σ H Q h => tB_of (fun Q h => three_of h2 h2' h) h
theorem xif {c : Expr} (hc : XT X c T) (ha : XE X a F) (hb : XE X b G) : XE X (.IfExp c a b pos) (eIf T F G) := PE.wk (pe_ifExp hc ha hb) fun σ H Q ⟨c, H0, ρ, d, ρ', R, f, q⟩ => by
  unfold eIf at f
  obtain ⟨⟨k, ρ1⟩, h1, f⟩ := bnd_eq f
  dsimp only at f
  refine ⟨c, H0, ρ, k, ρ1, R, h1, fun H1 Hh s1 R1 => ?_⟩
  cases k with
  | true =>
    rw [if_pos rfl] at f ⊢
    exact ⟨c, H1, ρ1, d, ρ', R1, f, fun v H2 Hh2 s2 R2 r2 => q v H2 Hh2 (s1.trans s2) R2 r2⟩
  | false =>
    rw [if_neg Bool.false_ne_true] at f ⊢
    exact ⟨c, H1, ρ1, d, ρ', R1, f, fun v H2 Hh2 s2 R2 r2 => q v H2 Hh2 (s1.trans s2) R2 r2⟩
theorem xone {op} (h : XE X a F) : XE X (.BoolOp op [a] pos) F := pe_one h
variable {rest : List Expr}
theorem xand (ha : XE X a F) (hb : XE X (.BoolOp .And (b :: rest) pos) G) : XE X (.BoolOp .And (a :: b :: rest) pos) (eAnd F G) := PE.wk (pe_and ha hb) fun σ H Q ⟨c, H0, ρ, d, ρ', R, f, q⟩ => by
  unfold eAnd at f
  obtain ⟨⟨z, ρ1⟩, h1, f⟩ := bnd_eq f
  obtain ⟨k, h2, f⟩ := bnd_eq f
  dsimp only at h2 f
  refine ⟨c, H0, ρ, z, ρ1, R, h1, fun v H1 Hh s1 R1 r1 => ?_⟩
  cases z with
  | bl k' =>
    have e : k' = k := Option.some.inj h2
    subst e
    unfold Rep at r1
    refine ⟨k', r1, ?_⟩
    cases k' with
    | true =>
      rw [if_pos rfl] at f ⊢
      exact ⟨c, H1, ρ1, d, ρ', R1, f, fun v H2 Hh2 s2 R2 r2 => q v H2 Hh2 (s1.trans s2) R2 r2⟩
    | false =>
      rw [if_neg Bool.false_ne_true] at f ⊢
      have f' : some (D.bl false, ρ1) = some (d, ρ') := f
      cases f'
      exact q _ H1 Hh s1 R1 (by unfold Rep; rfl)
  | _ => cases h2
theorem xor (ha : XE X a F) (hb : XE X (.BoolOp .Or (b :: rest) pos) G) : XE X (.BoolOp .Or (a :: b :: rest) pos) (eOr F G) := PE.wk (pe_or ha hb) fun σ H Q ⟨c, H0, ρ, d, ρ', R, f, q⟩ => by
  unfold eOr at f
  obtain ⟨⟨z, ρ1⟩, h1, f⟩ := bnd_eq f
  obtain ⟨k, h2, f⟩ := bnd_eq f
  dsimp only at h2 f
  refine ⟨c, H0, ρ, z, ρ1, R, h1, fun v H1 Hh s1 R1 r1 => ?_⟩
  cases z with
  | bl k' =>
    have e : k' = k := Option.some.inj h2
    subst e
    unfold Rep at r1
    refine ⟨k', r1, ?_⟩
    cases k' with
    | true =>
      rw [if_pos rfl] at f ⊢
      have f' : some (D.bl true, ρ1) = some (d, ρ') := f
      cases f'
      exact q _ H1 Hh s1 R1 (by unfold Rep; rfl)
    | false =>
      rw [if_neg Bool.false_ne_true] at f ⊢
      exact ⟨c, H1, ρ1, d, ρ', R1, f, fun v H2 Hh2 s2 R2 r2 => q v H2 Hh2 (s1.trans s2) R2 r2⟩
  | _ => cases h2
theorem xw (h : XW X a T) : XT X a T := PW.pt h
theorem xwand1 (ha : XT X a T) : XW X (.BoolOp .And [a] pos) T := pw_and1 ha
theorem xwor1 (ha : XT X a T) : XW X (.BoolOp .Or [a] pos) T := pw_or1 ha
theorem xwand (ha : XT X a T) (hb : XW X (.BoolOp .And (b :: rest) pos) U) : XW X (.BoolOp .And (a :: b :: rest) pos) (tAnd T U) := PW.wk (pw_and ha hb) fun σ H Q ⟨c, H0, ρ, k, ρ', R, f, q⟩ => by
  unfold tAnd at f
  obtain ⟨⟨k', ρ1⟩, h1, f⟩ := bnd_eq f
  dsimp only at f
  refine ⟨c, H0, ρ, k', ρ1, R, h1, fun H1 Hh s1 R1 => ?_⟩
  cases k' with
  | true =>
    rw [if_pos rfl] at f ⊢
    exact ⟨c, H1, ρ1, k, ρ', R1, f, fun H2 Hh2 s2 R2 => q H2 Hh2 (s1.trans s2) R2⟩
  | false =>
    rw [if_neg Bool.false_ne_true] at f ⊢
    have f' : some (false, ρ1) = some (k, ρ') := f
    cases f'
    exact q H1 Hh s1 R1
theorem xwor (ha : XT X a T) (hb : XW X (.BoolOp .Or (b :: rest) pos) U) : XW X (.BoolOp .Or (a :: b :: rest) pos) (tOr T U) := PW.wk (pw_or ha hb) fun σ H Q ⟨c, H0, ρ, k, ρ', R, f, q⟩ => by
  unfold tOr at f
  obtain ⟨⟨k', ρ1⟩, h1, f⟩ := bnd_eq f
  dsimp only at f
  refine ⟨c, H0, ρ, k', ρ1, R, h1, fun H1 Hh s1 R1 => ?_⟩
  cases k' with
  | true =>
    rw [if_pos rfl] at f ⊢
    have f' : some (true, ρ1) = some (k, ρ') := f
    cases f'
    exact q H1 Hh s1 R1
  | false =>
    rw [if_neg Bool.false_ne_true] at f ⊢
    exact ⟨c, H1, ρ1, k, ρ', R1, f, fun H2 Hh2 s2 R2 => q H2 Hh2 (s1.trans s2) R2⟩
theorem xtnot (ha : XT X a T) : XT X (.UnaryOp .Not a pos) (tNot T) := PT.wk (pt_not ha) fun σ H Q ⟨c, H0, ρ, k, ρ', R, f, q⟩ => by
  unfold tNot at f
  obtain ⟨⟨k', ρ1⟩, h1, f⟩ := bnd_eq f
  have f' : some (!k', ρ1) = some (k, ρ') := f
  cases f'
  exact ⟨c, H0, ρ, k', _, R, h1, fun H1 Hh s1 R1 => q H1 Hh s1 R1⟩
theorem tru_of {K : PySem.W.Frag} {H0 H : Hp} {d : D} {v : V} {k : Bool} (s : Same H0 H) (r : Rep K H0 d v) (h : dTru d = some k) : TruV K v H k := by
  cases d with
  | non => unfold Rep at r; subst r; cases h; rfl
  | bl b => unfold Rep at r; subst r; cases h; rfl
  | int i => unfold Rep at r; subst r; cases h; rfl
  | str x => cases h
  | opq => cases h
  | dct ks vs => cases h
  | tup ds =>
    unfold Rep at r
    obtain ⟨p, vs, rfl, q, t⟩ := r
    have e : (!ds.isEmpty) = k := Option.some.inj h
    have e2 : ds.isEmpty = vs.isEmpty := by rw [Bool.eq_iff_iff, List.isEmpty_iff_length_eq_zero, List.isEmpty_iff_length_eq_zero, t.length]
    exact .inr (.inl ⟨vs, Same.seqT s q, by rw [← e2]; exact e.symm⟩)
  | lst ds =>
    unfold Rep at r
    obtain ⟨p, vs, rfl, q, t⟩ := r
    have e : (!ds.isEmpty) = k := Option.some.inj h
    have e2 : ds.isEmpty = vs.isEmpty := by rw [Bool.eq_iff_iff, List.isEmpty_iff_length_eq_zero, List.isEmpty_iff_length_eq_zero, t.length]
    exact .inl ⟨vs, Same.seq s q, by rw [← e2]; exact e.symm⟩
theorem xtv (ha : XE X a F) (he : ∀ whole, isTrue a X.env whole = (do let v ← whole; standAt a.pos; holding [v] (truthy v))) : XT X a (tV F) := PT.wk (pt_truth ha he) fun σ H Q ⟨c, H0, ρ, k, ρ', R, f, q⟩ => by
  unfold tV at f
  obtain ⟨⟨d, ρ1⟩, h1, f⟩ := bnd_eq f
  obtain ⟨k', h2, f⟩ := bnd_eq f
  have f' : some (k', ρ1) = some (k, ρ') := f
  cases f'
  exact ⟨c, H0, ρ, d, _, R, h1, fun v H1 Hh s1 R1 r1 => ⟨k, tru_of R1.same r1 h2, q H1 Hh s1 R1⟩⟩
theorem xaN : XA X [] aN := PA.wk pa_nil fun σ H Q ⟨c, H0, ρ, ds, ρ', R, f, q⟩ => by
  have f' : some (([] : List D), ρ) = some (ds, ρ') := f
  cases f'
  exact q [] H0 H (Same.refl _) R Reps.nil_
theorem xaC {es : List Expr} {A : FA} (ha : XE X e F) (hr : XA X es A) (hs : starEach (e :: es) X.env = (false, eval e X.env) :: starEach es X.env := by rfl) : XA X (e :: es) (aC F A) := PA.wk (pa_cons ha hr hs) fun σ H Q ⟨c, H0, ρ, ds, ρ', R, f, q⟩ => by
  unfold aC at f
  obtain ⟨⟨d, ρ1⟩, h1, f⟩ := bnd_eq f
  obtain ⟨⟨r, ρ2⟩, h2, f⟩ := bnd_eq f
  have f' : some (d :: r, ρ2) = some (ds, ρ') := f
  cases f'
  refine ⟨c, H0, ρ, d, ρ1, R, h1, fun v H1 Hh s1 R1 r1 => ?_⟩
  refine ⟨c, H1, ρ1, r, _, R1, h2, fun vs H2 Hh2 s2 R2 r2 => ?_⟩
  exact q _ H2 Hh2 (s1.trans s2) R2 (Reps.cons (Rep.mono s2 d r1) r2)
theorem t1000 {n : Nat} (h : n ≤ 1000) : n ≤ sizeLine := Nat.le_of_lt (small1000 h)
theorem xtup {es : List Expr} {A : FA} {x1} (h : XA X es A) : XE X (.Tuple es x1 pos) (eTup A) := PE.wk (pe_tup h) fun σ H Q ⟨c, H0, ρ, d, ρ', R, f, q⟩ => by
  unfold eTup at f
  obtain ⟨⟨ds, ρ1⟩, h1, f⟩ := bnd_eq f
  dsimp only at f
  split at f
  · rename_i hl
    cases f
    refine ⟨c, H0, ρ, ds, _, R, h1, fun vs H1 Hh s1 R1 r1 => ⟨by rw [← r1.length]; exact t1000 hl, fun p hp => ?_⟩⟩
    have S := Step.alloc (o := .tup vs) R1.same hp
    refine q _ _ _ (s1.trans S.s0) (R1.after S) ?_
    unfold Rep
    exact ⟨p, vs, rfl, .inl (.inl upd_same), Reps.mono S.s0 ds r1⟩
  · cases f
theorem xlst {es : List Expr} {A : FA} (h : XA X es A) : XE X (.List es pos) (eLst A) := PE.wk (pe_lst h) fun σ H Q ⟨c, H0, ρ, d, ρ', R, f, q⟩ => by
  unfold eLst at f
  obtain ⟨⟨ds, ρ1⟩, h1, f⟩ := bnd_eq f
  dsimp only at f
  split at f
  · rename_i hl
    cases f
    refine ⟨c, H0, ρ, ds, _, R, h1, fun vs H1 Hh s1 R1 r1 => ⟨by rw [← r1.length]; exact t1000 hl, fun p hp => ?_⟩⟩
    have S := Step.alloc (o := .lst vs) R1.same hp
    refine q _ _ _ (s1.trans S.s0) (R1.after S) ?_
    unfold Rep
    exact ⟨p, vs, rfl, .inl (.inl upd_same), Reps.mono S.s0 ds r1⟩
  · cases f
theorem dPl_eq : @dPl = @ixN := rfl
theorem at_of {K : PySem.W.Frag} {H : Hp} {ds : List D} {vs : List V} {i : Int} {d : D} (r : Reps K H ds vs) (h : atD ds i = some d) : ∃ v, atI vs i = some v ∧ Rep K H d v := by
  unfold atD at h
  obtain ⟨j, h1, h2⟩ := bnd_eq (x := dPl ds.length i) (f := fun j => ds[j]?) h
  obtain ⟨v, e1, e2⟩ := r.get h2
  refine ⟨v, ?_, e2⟩
  unfold atI
  rw [← r.length, ← dPl_eq, h1]
  exact e1
theorem PO.wk {X : Cx} {e : Option Expr} {t t' : TO} (h : PO X e t) (w : ∀ σ H Q, t' σ H Q → t σ H Q) : PO X e t' := fun pins s σ H Q I q => h pins s σ H Q I (w σ H Q q)
theorem xoN : XO X none oN := PO.wk po_none fun σ H Q ⟨c, H0, ρ, o, ρ', R, f, q⟩ => by
  have f' : some ((none : Option Int), ρ) = some (o, ρ') := f
  cases f'
  exact q H0 H (Same.refl _) R
theorem xoS (h : XE X e F) : XO X (some e) (oS F) := PO.wk (po_some h) fun σ H Q ⟨c, H0, ρ, o, ρ', R, f, q⟩ => by
  unfold oS at f
  obtain ⟨⟨d, ρ1⟩, h1, f⟩ := bnd_eq f
  obtain ⟨i, h2, f⟩ := bnd_eq f
  dsimp only at h2 f
  have f' : some (some i, ρ1) = some (o, ρ') := f
  cases f'
  refine ⟨c, H0, ρ, d, _, R, h1, fun v H1 Hh s1 R1 r1 => ?_⟩
  cases d with
  | int j =>
    have e : j = i := Option.some.inj h2
    subst e
    unfold Rep at r1
    exact ⟨j, r1, q H1 Hh s1 R1⟩
  | _ => cases h2
theorem dEnd_eq (n d : Nat) (o : Option Int) : dEnd n d o = HT.sIx n d o := by
  cases o with
  | none => rfl
  | some v =>
    show (if v < 0 then max (v + (n : Int)) 0 else min v (n : Int)).toNat = if v < 0 then (v + (n : Int)).toNat else min v.toNat n
    split <;> omega
theorem cut_of {K : PySem.W.Frag} {H : Hp} {ds : List D} {vs : List V} (r : Reps K H ds vs) (lo hi : Option Int) : Reps K H (dCut ds lo hi) (cutV vs lo hi) := by
  unfold dCut cutV
  rw [dEnd_eq, dEnd_eq, r.length]
  exact (r.drop _).take _
end
end Fx
set_option maxRecDepth 100000
namespace Fx
open PySem PySem.Spec PyProof.Rows L2
section
variable {X : Cx} {K : PySem.W.Frag}
theorem opD_int {C : Int → Int → Prop} {g : Int → Int → V} {f : D → D → Option D} (h : ∀ x y d, f x y = some d → ∃ i j, x = .int i ∧ y = .int j ∧ C i j ∧ ∀ H, Rep K H d (g i j)) : OpD K (rI C g) f := fun c H0 H ρ σ x y d vx vy Q R r1 r2 e q => by
  obtain ⟨i, j, rfl, rfl, hc, hr⟩ := h x y d e
  unfold Rep at r1 r2
  exact ⟨i, j, r1, r2, hc, q _ H0 H (Same.refl _) R (hr H0)⟩
theorem opD_int0 {g : Int → Int → V} {f : D → D → Option D} (h : ∀ x y d, f x y = some d → ∃ i j, x = .int i ∧ y = .int j ∧ ∀ H, Rep K H d (g i j)) : OpD K (rI0 g) f := fun c H0 H ρ σ x y d vx vy Q R r1 r2 e q => by
  obtain ⟨i, j, rfl, rfl, hr⟩ := h x y d e
  unfold Rep at r1 r2
  exact ⟨i, j, r1, r2, q _ H0 H (Same.refl _) R (hr H0)⟩
theorem rep_int (H : Hp) (i : Int) : Rep K H (.int i) (.int i) := by unfold Rep; rfl
theorem rep_bl (H : Hp) (i : Bool) : Rep K H (.bl i) (.bl i) := by unfold Rep; rfl
theorem ifs {c : Prop} [Decidable c] {α : Type} {a d : α} (h : (if c then some a else none) = some d) : c ∧ a = d := by
  by_cases hc : c
  · rw [if_pos hc] at h; exact ⟨hc, Option.some.inj h⟩
  · rw [if_neg hc] at h; cases h
theorem oSub : BinOk X .Sub dSub := ⟨_, op_sub, opD_int0 fun x y d e => by
  cases x <;> cases y <;> cases e
  exact ⟨_, _, rfl, rfl, fun H => rep_int H _⟩⟩
def CMulD (i j : Int) : Prop := okMul i j = true
theorem intBits_1000 {i : Int} (h : bigM i = true) : Builtin.Int.intBits i ≤ 1000 := by
  have h : i.natAbs < 2 ^ 1000 := of_decide_eq_true h
  unfold Builtin.Int.intBits
  split
  · exact Nat.zero_le _
  · rename_i hz
    have hz : i ≠ 0 := by simpa using hz
    have h0 : i.natAbs ≠ 0 := by omega
    have := (Nat.log2_lt h0).mpr h
    omega
theorem CMulD.ok {i j : Int} (h : CMulD i j) : IntMulOk i j := by
  unfold CMulD okMul at h
  simp only [Bool.or_eq_true, Bool.and_eq_true, decide_eq_true_eq] at h
  rcases h with (h | h) | ⟨h1, h2⟩
  · exact IntMulOk.of_left (intBits_le_64 (by omega) (by omega))
  · exact IntMulOk.of_right (intBits_le_64 (by omega) (by omega))
  · unfold IntMulOk
    have b1 := intBits_1000 h1
    have b2 := intBits_1000 h2
    have : Builtin.Int.intTooBig ((Builtin.Int.intBits i : Int) + (Builtin.Int.intBits j : Int)) = false := by
      unfold Builtin.Int.intTooBig
      refine decide_eq_false ?_
      have : (2000 : Int) ≤ bitsLine := by decide
      omega
    simp [this]
theorem oMul : BinOk X .Mult dMul := ⟨rI CMulD fun i j => .int (i * j), opI fun _ _ _ _ _ _ _ hc q => mul_int q hc.ok, opD_int fun x y d e => by
  cases x with
  | int i =>
    cases y with
    | int j =>
      obtain ⟨h, rfl⟩ := ifs (c := okMul i j = true) e
      exact ⟨_, _, rfl, rfl, h, fun H => rep_int H _⟩
    | _ => cases e
  | _ => cases y <;> cases e⟩
def CDivD (i j : Int) : Prop := okDiv j = true
theorem oDiv : BinOk X .FloorDiv dDiv := ⟨rI CDivD fun i j => .int (i.fdiv j), opI fun i j _ _ _ _ _ hc q => by
    unfold CDivD okDiv at hc
    simp only [Bool.and_eq_true, decide_eq_true_eq] at hc
    refine floordiv_int hc.1 q (.inl (PyProof.noPylong_of_log2 ?_))
    have h0 : j.natAbs ≠ 0 := by have := hc.1; omega
    have := (Nat.log2_lt h0).mpr hc.2
    omega, opD_int fun x y d e => by
  cases x with
  | int i =>
    cases y with
    | int j =>
      obtain ⟨h, rfl⟩ := ifs (c := okDiv j = true) e
      exact ⟨_, _, rfl, rfl, h, fun H => rep_int H _⟩
    | _ => cases e
  | _ => cases y <;> cases e⟩
theorem oMod : BinOk X .Mod dMod := ⟨_, op_modN, opD_int fun x y d e => by
  cases x with
  | int i =>
    cases y with
    | int j =>
      obtain ⟨h, rfl⟩ := ifs (c := j ≠ 0) e
      exact ⟨_, _, rfl, rfl, h, fun H => rep_int H _⟩
    | _ => cases e
  | _ => cases y <;> cases e⟩
theorem oPow : BinOk X .Pow dPow := ⟨_, op_pow, opD_int fun x y d e => by
  cases x with
  | int i =>
    cases y with
    | int j =>
      obtain ⟨h, rfl⟩ := ifs (c := 0 ≤ j ∧ j ≤ 64 ∧ i.natAbs < 2 ^ 64) e
      exact ⟨_, _, rfl, rfl, ⟨h.1, by omega, h.2.2⟩, fun H => rep_int H _⟩
    | _ => cases e
  | _ => cases y <;> cases e⟩
def rCatR (K : PySem.W.Frag) : R2 := fun x y H Q => ∃ l b xs zs, x = .ref l ∧ y = .ref b ∧ SqL K H l xs ∧ SqL K H b zs ∧ xs.length + zs.length ≤ sizeLine ∧ ∀ p, H p = none → Q (.ref p) (upd H p (.lst (xs ++ zs)))
theorem op_catR : OpR X (binaryOp .Add) (rCatR X.K) := by
  intro pins s σ H x y v u Q I rx ry h
  obtain ⟨l, b, xs, zs, rfl, rfl, hH, hB, hz, q⟩ := h
  cases rx
  cases ry
  obtain ⟨its, r, pl, _⟩ := I.list hH
  obtain ⟨its2, r2, pl2, _⟩ := I.list hB
  have hl := r.length
  have hl2 := r2.length
  obtain ⟨⟨cls, dd, data, sl⟩, ho, hc, n, hd⟩ := pl.isList
  obtain ⟨⟨cls2, dd2, data2, sl2⟩, ho2, hc2, n2, hd2⟩ := pl2.isList
  simp only at hc hd hc2 hd2
  subst hc hd hc2 hd2
  have e : its.toArray ++ its2.toArray = (its ++ its2).toArray := by simp
  refine concat_meets ⟨_, ho, rfl⟩ ⟨_, ho2, rfl⟩ noFill_list_add seq_list_add PySem.F.slot_list_add PySem.F.entry_list_add (PySem.F.args_list_add_2 _ _) (list_addW l b its.toArray its2.toArray n n2 dd dd2 sl sl2 (by rw [List.size_toArray, List.size_toArray]; omega)) ⟨ho, ho2, ?_⟩
  rw [e]
  exact ⟨.ref _, _, I.lnew (t' := s.toks) (r.append r2) (by rw [List.length_append]; omega), rfl, q _ I.fresh⟩
def rAddD (K : PySem.W.Frag) : R2 := fun x y H Q => rI0 (fun i j => .int (i + j)) x y H Q ∨ ((∃ i j, x = .str i ∧ y = .str j ∧ i.length + j.length ≤ sizeLine ∧ Q (.str (i ++ j)) H) ∨ rCatR K x y H Q)
theorem oAdd : BinOk X .Add dAdd := ⟨rAddD X.K, op_add.or (op_add_str.or op_catR), fun c H0 H ρ σ x y d vx vy Q R r1 r2 e q => by
  cases x with
  | int i =>
    cases y with
    | int j =>
      cases e
      unfold Rep at r1 r2
      exact .inl ⟨_, _, r1, r2, q _ H0 H (Same.refl _) R (rep_int H0 _)⟩
    | _ => cases e
  | str i =>
    cases y with
    | str j =>
      obtain ⟨h, rfl⟩ := ifs (c := i.length + j.length ≤ sizeLine) e
      unfold Rep at r1 r2
      exact .inr (.inl ⟨_, _, r1, r2, h, q _ H0 H (Same.refl _) R (by unfold Rep; rfl)⟩)
    | _ => cases e
  | lst ds =>
    cases y with
    | lst es =>
      obtain ⟨h, rfl⟩ := ifs (c := ds.length + es.length ≤ sizeLine) e
      unfold Rep at r1 r2
      obtain ⟨p, vs, rfl, s, t⟩ := r1
      obtain ⟨p2, vs2, rfl, s2, t2⟩ := r2
      refine .inr (.inr ⟨p, p2, vs, vs2, rfl, rfl, Same.seq R.same s, Same.seq R.same s2, by rw [← t.length, ← t2.length]; exact h, fun p' hp => ?_⟩)
      have S := Step.alloc (o := .lst (vs ++ vs2)) R.same hp
      refine q _ _ _ S.s0 (R.after S) ?_
      unfold Rep
      exact ⟨p', _, rfl, .inl (.inl upd_same), Reps.mono S.s0 _ (t.app t2)⟩
    | _ => cases e
  | _ => cases y <;> cases e⟩
theorem xneg {a : Expr} {F : FE} {pos : Pos} (ha : XE X a F) : XE X (.UnaryOp .USub a pos) (e1 dNeg F) := PE.wk (pe_un un_neg ha) fun σ H Q ⟨c, H0, ρ, d, ρ', R, f, q⟩ => by
  unfold e1 at f
  obtain ⟨⟨x, ρ1⟩, h1, f⟩ := bnd_eq f
  obtain ⟨d', h2, f⟩ := bnd_eq f
  dsimp only at h2 f
  have f' : some (d', ρ1) = some (d, ρ') := f
  cases f'
  refine ⟨c, H0, ρ, x, _, R, h1, fun v H1 Hh s1 R1 r1 => ?_⟩
  cases x with
  | int i =>
    have e : D.int (-i) = d := Option.some.inj h2
    subst e
    unfold Rep at r1
    exact ⟨i, r1, q _ H1 Hh s1 R1 (rep_int _ _)⟩
  | _ => cases h2
theorem cmpD {p : Int → Int → Bool} : OpD K (rI0 fun i j => .bl (p i j)) (dCmp p) := opD_int0 fun x y d e => by
  cases x <;> cases y <;> cases e
  exact ⟨_, _, rfl, rfl, fun H => rep_bl H _⟩
theorem cLt : CmpOk X .Lt dLt := ⟨_, op_lt, cmpD⟩
theorem cLe : CmpOk X .LtE dLe := ⟨_, op_le, cmpD⟩
theorem cGt : CmpOk X .Gt dGt := ⟨_, op_gt, cmpD⟩
theorem isN_of {H : Hp} {x : D} {v : V} (r : Rep K H x v) : isN x = decide (v = .non) := by
  cases x with
  | non => unfold Rep at r; subst r; rfl
  | bl b => unfold Rep at r; subst r; rfl
  | int b => unfold Rep at r; subst r; rfl
  | str b => unfold Rep at r; subst r; rfl
  | tup ds => unfold Rep at r; obtain ⟨p, vs, rfl, _⟩ := r; rfl
  | opq => unfold Rep at r; obtain ⟨p, kvs, rfl, _⟩ := r; rfl
  | dct ks vs => unfold Rep at r; obtain ⟨p, o, us, rfl, _⟩ := r; rfl
  | lst ds => unfold Rep at r; obtain ⟨p, vs, rfl, _⟩ := r; rfl
theorem cIs : CmpOk X .Is dIs := ⟨_, op_isN, fun c H0 H ρ σ x y d vx vy Q R r1 r2 e q => by
  cases y with
  | non =>
    have e' : D.bl (isN x) = d := by cases x <;> exact Option.some.inj e
    subst e'
    unfold Rep at r2
    exact ⟨r2, by rw [← isN_of r1]; exact q _ H0 H (Same.refl _) R (rep_bl _ _)⟩
  | _ => cases x <;> cases e⟩
theorem cIsNot : CmpOk X .IsNot dIsNot := ⟨_, op_notN, fun c H0 H ρ σ x y d vx vy Q R r1 r2 e q => by
  cases y with
  | non =>
    have e' : D.bl (!isN x) = d := by cases x <;> exact Option.some.inj e
    subst e'
    unfold Rep at r2
    exact ⟨r2, by rw [← isN_of r1]; exact q _ H0 H (Same.refl _) R (rep_bl _ _)⟩
  | _ => cases x <;> cases e⟩
end
end Fx
set_option maxRecDepth 100000
namespace Fx
open PySem PySem.Spec PyProof.Rows L2
theorem eqDs_all : ∀ (ds es : List D), eqDs ds es = ((List.range (min ds.length es.length)).all (fun j => eqD (ds.getD j .non) (es.getD j .non)) && ds.length == es.length)
  | [], [] => by simp [eqDs]
  | [], e :: es => by simp [eqDs]
  | d :: ds, [] => by simp [eqDs]
  | d :: ds, e :: es => by
    rw [eqDs, eqDs_all ds es]
    have h : min (d :: ds).length (e :: es).length = min ds.length es.length + 1 := by simp only [List.length_cons]; omega
    rw [h, List.range_succ_eq_map, List.all_cons, List.all_map]
    have h2 : ((d :: ds).length == (e :: es).length) = (ds.length == es.length) := by simp
    rw [h2, Bool.and_assoc]
    rfl
theorem dpDs_le : ∀ {ds : List D} {n : Nat} {j : Nat} {d : D}, dpDs ds ≤ n → ds[j]? = some d → dpD d ≤ n
  | [], _, _, _, _, e => by simp at e
  | d :: ds, n, 0, _, h, e => by
    rw [dpDs_cons] at h
    simp at e; subst e; omega
  | d :: ds, n, j + 1, d', h, e => by
    rw [dpDs_cons] at h
    exact dpDs_le (ds := ds) (n := n) (j := j) (by omega) (by simpa using e)
section
variable {X : Cx} {pins : List (Addr × Obj)} {σ : L2.St} {H : Hp} {s : Shared}
theorem eqDs_of {ds es : List D} {vs : List V} (hd : Reps X.K H ds vs) (he : Reps X.K H es vs) (h : ∀ (j : Nat) (d e : D) (v : V), ds[j]? = some d → es[j]? = some e → Rep X.K H d v → Rep X.K H e v → eqD d e = true) : eqDs ds es = true := by
  rw [eqDs_all]
  have l1 := hd.length
  have l2 := he.length
  rw [Bool.and_eq_true, List.all_eq_true]
  refine ⟨fun j hj => ?_, by simp; omega⟩
  have hj' : j < ds.length := by have := List.mem_range.mp hj; omega
  have hk' : j < es.length := by omega
  obtain ⟨v, a1, a2⟩ := hd.get (i := j) (d := ds[j]) (by simp [hj'])
  obtain ⟨v', b1, b2⟩ := he.get (i := j) (d := es[j]) (by simp [hk'])
  rw [a1] at b1; cases b1
  have := h j ds[j] es[j] v (by simp [hj']) (by simp [hk']) a2 b2
  simpa [List.getD, hj', hk'] using this
theorem no_tl (I : Inv X pins σ H s) {a : Addr} {xs ys : List V} (h : SqT X.K H a xs) (h' : SqL X.K H a ys) : False := by
  obtain ⟨_, _, ⟨o, e, c, _⟩, _⟩ := I.tuple h
  obtain ⟨_, _, ⟨o', n, e', c', _⟩, _⟩ := I.list h'
  rw [e] at e'; cases e'
  have z := c.symm.trans c'
  injection z with z
  exact absurd z (by decide)
theorem rep_one (I : Inv X pins σ H s) : ∀ (n : Nat) (d e : D) (v : V), dpD d ≤ n → dpD d < 1000 → dpD e < 1000 → Rep X.K H d v → Rep X.K H e v → eqD d e = true
  | n, d, e, v, hn, hz1, hz2, r1, r2 => by
    cases d with
    | opq => exact absurd hz1 (by rw [dpD_opq]; omega)
    | dct ks0 vs0 => exact absurd hz1 (by rw [dpD_dct]; omega)
    | non =>
      cases e with
      | opq => exact absurd hz2 (by rw [dpD_opq]; omega)
      | dct ks0 vs0 => exact absurd hz2 (by rw [dpD_dct]; omega)
      | non => unfold Rep at r1 r2; rw [r1] at r2; first | (cases r2; simp [eqD]) | cases r2
      | bl b2 => unfold Rep at r1 r2; rw [r1] at r2; first | (cases r2; simp [eqD]) | cases r2
      | int b2 => unfold Rep at r1 r2; rw [r1] at r2; first | (cases r2; simp [eqD]) | cases r2
      | str b2 => unfold Rep at r1 r2; rw [r1] at r2; first | (cases r2; simp [eqD]) | cases r2
      | tup es => unfold Rep at r1 r2; obtain ⟨p, vs, z, _⟩ := r2; rw [r1] at z; cases z
      | lst es => unfold Rep at r1 r2; obtain ⟨p, vs, z, _⟩ := r2; rw [r1] at z; cases z
    | bl b1 =>
      cases e with
      | opq => exact absurd hz2 (by rw [dpD_opq]; omega)
      | dct ks0 vs0 => exact absurd hz2 (by rw [dpD_dct]; omega)
      | non => unfold Rep at r1 r2; rw [r1] at r2; first | (cases r2; simp [eqD]) | cases r2
      | bl b2 => unfold Rep at r1 r2; rw [r1] at r2; first | (cases r2; simp [eqD]) | cases r2
      | int b2 => unfold Rep at r1 r2; rw [r1] at r2; first | (cases r2; simp [eqD]) | cases r2
      | str b2 => unfold Rep at r1 r2; rw [r1] at r2; first | (cases r2; simp [eqD]) | cases r2
      | tup es => unfold Rep at r1 r2; obtain ⟨p, vs, z, _⟩ := r2; rw [r1] at z; cases z
      | lst es => unfold Rep at r1 r2; obtain ⟨p, vs, z, _⟩ := r2; rw [r1] at z; cases z
    | int b1 =>
      cases e with
      | opq => exact absurd hz2 (by rw [dpD_opq]; omega)
      | dct ks0 vs0 => exact absurd hz2 (by rw [dpD_dct]; omega)
      | non => unfold Rep at r1 r2; rw [r1] at r2; first | (cases r2; simp [eqD]) | cases r2
      | bl b2 => unfold Rep at r1 r2; rw [r1] at r2; first | (cases r2; simp [eqD]) | cases r2
      | int b2 => unfold Rep at r1 r2; rw [r1] at r2; first | (cases r2; simp [eqD]) | cases r2
      | str b2 => unfold Rep at r1 r2; rw [r1] at r2; first | (cases r2; simp [eqD]) | cases r2
      | tup es => unfold Rep at r1 r2; obtain ⟨p, vs, z, _⟩ := r2; rw [r1] at z; cases z
      | lst es => unfold Rep at r1 r2; obtain ⟨p, vs, z, _⟩ := r2; rw [r1] at z; cases z
    | str b1 =>
      cases e with
      | opq => exact absurd hz2 (by rw [dpD_opq]; omega)
      | dct ks0 vs0 => exact absurd hz2 (by rw [dpD_dct]; omega)
      | non => unfold Rep at r1 r2; rw [r1] at r2; first | (cases r2; simp [eqD]) | cases r2
      | bl b2 => unfold Rep at r1 r2; rw [r1] at r2; first | (cases r2; simp [eqD]) | cases r2
      | int b2 => unfold Rep at r1 r2; rw [r1] at r2; first | (cases r2; simp [eqD]) | cases r2
      | str b2 => unfold Rep at r1 r2; rw [r1] at r2; first | (cases r2; simp [eqD]) | cases r2
      | tup es => unfold Rep at r1 r2; obtain ⟨p, vs, z, _⟩ := r2; rw [r1] at z; cases z
      | lst es => unfold Rep at r1 r2; obtain ⟨p, vs, z, _⟩ := r2; rw [r1] at z; cases z
    | tup ds =>
      cases e with
      | opq => exact absurd hz2 (by rw [dpD_opq]; omega)
      | dct ks0 vs0 => exact absurd hz2 (by rw [dpD_dct]; omega)
      | non => unfold Rep at r1 r2; obtain ⟨p, vs, z, _⟩ := r1; rw [r2] at z; cases z
      | bl b2 => unfold Rep at r1 r2; obtain ⟨p, vs, z, _⟩ := r1; rw [r2] at z; cases z
      | int b2 => unfold Rep at r1 r2; obtain ⟨p, vs, z, _⟩ := r1; rw [r2] at z; cases z
      | str b2 => unfold Rep at r1 r2; obtain ⟨p, vs, z, _⟩ := r1; rw [r2] at z; cases z
      | tup es =>
        unfold Rep at r1 r2
        obtain ⟨p, vs, z, s1, q1⟩ := r1
        obtain ⟨p', vs', z', s2, q2⟩ := r2
        rw [z] at z'; cases z'
        have e := I.tuple_inj s1 s2
        subst e
        cases n with
        | zero => rw [dpD_tup] at hn; omega
        | succ n =>
          rw [dpD_tup] at hn
          rw [eqD]
          exact eqDs_of q1 q2 fun j d e v h1 h2 => rep_one I n d e v (dpDs_le (by omega) h1) (by have z := dpDs_le (n := 998) (by first | (rw [dpD_tup] at hz1; omega) | (rw [dpD_lst] at hz1; omega)) h1; omega) (by have z := dpDs_le (n := 998) (by first | (rw [dpD_tup] at hz2; omega) | (rw [dpD_lst] at hz2; omega)) h2; omega)
      | lst es => unfold Rep at r1 r2; obtain ⟨p, vs, z, s1, _⟩ := r1; obtain ⟨p', vs', z', s2, _⟩ := r2; rw [z] at z'; cases z'; exact (no_tl I s1 s2).elim
    | lst ds =>
      cases e with
      | opq => exact absurd hz2 (by rw [dpD_opq]; omega)
      | dct ks0 vs0 => exact absurd hz2 (by rw [dpD_dct]; omega)
      | non => unfold Rep at r1 r2; obtain ⟨p, vs, z, _⟩ := r1; rw [r2] at z; cases z
      | bl b2 => unfold Rep at r1 r2; obtain ⟨p, vs, z, _⟩ := r1; rw [r2] at z; cases z
      | int b2 => unfold Rep at r1 r2; obtain ⟨p, vs, z, _⟩ := r1; rw [r2] at z; cases z
      | str b2 => unfold Rep at r1 r2; obtain ⟨p, vs, z, _⟩ := r1; rw [r2] at z; cases z
      | tup es => unfold Rep at r1 r2; obtain ⟨p, vs, z, s1, _⟩ := r1; obtain ⟨p', vs', z', s2, _⟩ := r2; rw [z] at z'; cases z'; exact (no_tl I s2 s1).elim
      | lst es =>
        unfold Rep at r1 r2
        obtain ⟨p, vs, z, s1, q1⟩ := r1
        obtain ⟨p', vs', z', s2, q2⟩ := r2
        rw [z] at z'; cases z'
        have e := I.list_inj s1 s2
        subst e
        cases n with
        | zero => rw [dpD_lst] at hn; omega
        | succ n =>
          rw [dpD_lst] at hn
          rw [eqD]
          exact eqDs_of q1 q2 fun j d e v h1 h2 => rep_one I n d e v (dpDs_le (by omega) h1) (by have z := dpDs_le (n := 998) (by first | (rw [dpD_tup] at hz1; omega) | (rw [dpD_lst] at hz1; omega)) h1; omega) (by have z := dpDs_le (n := 998) (by first | (rw [dpD_tup] at hz2; omega) | (rw [dpD_lst] at hz2; omega)) h2; omega)
def RcN (X : Cx) (H : Hp) (s : Shared) (n : Nat) : Prop := ∀ (A : Around) (d e : D) (x y : V) (u v : Value), dpD d ≤ n → dpD d < 1000 → dpD e < 1000 → A.units + n < cLine → Rep X.K H d x → RelV x u → Rep X.K H e y → RelV y v → SeqAt.RcAt A s u v (eqD d e)
def EqN (X : Cx) (H : Hp) (s : Shared) (n : Nat) : Prop := ∀ (A : Around) (d e : D) (x y : V) (u v : Value), dpD d ≤ n → dpD d < 1000 → dpD e < 1000 → A.units + n < cLine → Rep X.K H d x → RelV x u → Rep X.K H e y → RelV y v → SeqAt.EqAt A s u v (eqD d e)
theorem eqN_of (I : Inv X pins σ H s) {n : Nat} (rc : RcN X H s n) : EqN X H s n := by
  intro A d e x y u v hn hz1 hz2 hA r1 w1 r2 w2
  have hu : A.units < cLine := by omega
  have key := rc A d e x y u v hn hz1 hz2 hA r1 w1 r2 w2
  have one : x = y → eqD d e = true := fun z => rep_one I _ d e x (Nat.le_refl _) hz1 hz2 r1 (z ▸ r2)
  cases d with
  | opq => exact absurd hz1 (by rw [dpD_opq]; omega)
  | dct ks0 vs0 => exact absurd hz1 (by rw [dpD_dct]; omega)
  | non =>
    cases e with
    | opq => exact absurd hz2 (by rw [dpD_opq]; omega)
    | dct ks0 vs0 => exact absurd hz2 (by rw [dpD_dct]; omega)
    | non => unfold Rep at r1; subst r1; cases (show u = Value.none from w1); unfold Rep at r2; subst r2; cases (show v = Value.none from w2); exact SeqAt.EqAt.same _
    | bl b2 => unfold Rep at r1; subst r1; cases (show u = Value.none from w1); unfold Rep at r2; subst r2; cases (show v = Value.bool _ from w2); exact SeqAt.EqAt.none_bool _
    | int b2 => unfold Rep at r1; subst r1; cases (show u = Value.none from w1); unfold Rep at r2; subst r2; obtain ⟨t2, z2⟩ := w2; subst z2; exact SeqAt.EqAt.none_int _ _
    | str b2 => unfold Rep at r1; subst r1; cases (show u = Value.none from w1); unfold Rep at r2; subst r2; obtain ⟨t2, z2⟩ := w2; subst z2; exact SeqAt.EqAt.none_str _ _
    | tup es => unfold Rep at r1; subst r1; cases (show u = Value.none from w1); unfold Rep at r2; obtain ⟨p2, vs2, y2, s2, q2⟩ := r2; subst y2; cases (show v = Value.ref _ from w2); obtain ⟨its2, rv2, tp2, _⟩ := I.tuple s2; exact SeqAt.EqAt.none_tuple tp2 hu
    | lst es => unfold Rep at r1; subst r1; cases (show u = Value.none from w1); unfold Rep at r2; obtain ⟨p2, vs2, y2, s2, q2⟩ := r2; subst y2; cases (show v = Value.ref _ from w2); obtain ⟨its2, rv2, tp2, _⟩ := I.list s2; have tp2 := tp2.isList; exact SeqAt.EqAt.none_list tp2 hu
  | bl b1 =>
    cases e with
    | opq => exact absurd hz2 (by rw [dpD_opq]; omega)
    | dct ks0 vs0 => exact absurd hz2 (by rw [dpD_dct]; omega)
    | non => unfold Rep at r1; subst r1; cases (show u = Value.bool _ from w1); unfold Rep at r2; subst r2; cases (show v = Value.none from w2); exact SeqAt.EqAt.bool_none _
    | bl b2 => unfold Rep at r1; subst r1; cases (show u = Value.bool _ from w1); unfold Rep at r2; subst r2; cases (show v = Value.bool _ from w2); exact SeqAt.EqAt.bool_bool _ _
    | int b2 => unfold Rep at r1; subst r1; cases (show u = Value.bool _ from w1); unfold Rep at r2; subst r2; obtain ⟨t2, z2⟩ := w2; subst z2; exact SeqAt.EqAt.bool_int _ _ _
    | str b2 => unfold Rep at r1; subst r1; cases (show u = Value.bool _ from w1); unfold Rep at r2; subst r2; obtain ⟨t2, z2⟩ := w2; subst z2; exact SeqAt.EqAt.bool_str _ _ _
    | tup es => unfold Rep at r1; subst r1; cases (show u = Value.bool _ from w1); unfold Rep at r2; obtain ⟨p2, vs2, y2, s2, q2⟩ := r2; subst y2; cases (show v = Value.ref _ from w2); obtain ⟨its2, rv2, tp2, _⟩ := I.tuple s2; exact SeqAt.EqAt.bool_tuple _ tp2 hu
    | lst es => unfold Rep at r1; subst r1; cases (show u = Value.bool _ from w1); unfold Rep at r2; obtain ⟨p2, vs2, y2, s2, q2⟩ := r2; subst y2; cases (show v = Value.ref _ from w2); obtain ⟨its2, rv2, tp2, _⟩ := I.list s2; have tp2 := tp2.isList; exact SeqAt.EqAt.bool_list _ tp2 hu
  | int b1 =>
    cases e with
    | opq => exact absurd hz2 (by rw [dpD_opq]; omega)
    | dct ks0 vs0 => exact absurd hz2 (by rw [dpD_dct]; omega)
    | non => unfold Rep at r1; subst r1; obtain ⟨t1, z1⟩ := w1; subst z1; unfold Rep at r2; subst r2; cases (show v = Value.none from w2); exact SeqAt.EqAt.int_none _ _
    | bl b2 => unfold Rep at r1; subst r1; obtain ⟨t1, z1⟩ := w1; subst z1; unfold Rep at r2; subst r2; cases (show v = Value.bool _ from w2); exact SeqAt.EqAt.int_bool _ _ _
    | int b2 => unfold Rep at r1; subst r1; obtain ⟨t1, z1⟩ := w1; subst z1; unfold Rep at r2; subst r2; obtain ⟨t2, z2⟩ := w2; subst z2; exact SeqAt.EqAt.int_int _ _ _ _
    | str b2 => unfold Rep at r1; subst r1; obtain ⟨t1, z1⟩ := w1; subst z1; unfold Rep at r2; subst r2; obtain ⟨t2, z2⟩ := w2; subst z2; exact SeqAt.EqAt.int_str _ _ _ _
    | tup es => unfold Rep at r1; subst r1; obtain ⟨t1, z1⟩ := w1; subst z1; unfold Rep at r2; obtain ⟨p2, vs2, y2, s2, q2⟩ := r2; subst y2; cases (show v = Value.ref _ from w2); obtain ⟨its2, rv2, tp2, _⟩ := I.tuple s2; exact SeqAt.EqAt.int_tuple _ _ tp2 hu
    | lst es => unfold Rep at r1; subst r1; obtain ⟨t1, z1⟩ := w1; subst z1; unfold Rep at r2; obtain ⟨p2, vs2, y2, s2, q2⟩ := r2; subst y2; cases (show v = Value.ref _ from w2); obtain ⟨its2, rv2, tp2, _⟩ := I.list s2; have tp2 := tp2.isList; exact SeqAt.EqAt.int_list _ _ tp2 hu
  | str b1 =>
    cases e with
    | opq => exact absurd hz2 (by rw [dpD_opq]; omega)
    | dct ks0 vs0 => exact absurd hz2 (by rw [dpD_dct]; omega)
    | non => unfold Rep at r1; subst r1; obtain ⟨t1, z1⟩ := w1; subst z1; unfold Rep at r2; subst r2; cases (show v = Value.none from w2); exact SeqAt.EqAt.str_none _ _
    | bl b2 => unfold Rep at r1; subst r1; obtain ⟨t1, z1⟩ := w1; subst z1; unfold Rep at r2; subst r2; cases (show v = Value.bool _ from w2); exact SeqAt.EqAt.str_bool _ _ _
    | int b2 => unfold Rep at r1; subst r1; obtain ⟨t1, z1⟩ := w1; subst z1; unfold Rep at r2; subst r2; obtain ⟨t2, z2⟩ := w2; subst z2; exact SeqAt.EqAt.str_int _ _ _ _
    | str b2 => unfold Rep at r1; subst r1; obtain ⟨t1, z1⟩ := w1; subst z1; unfold Rep at r2; subst r2; obtain ⟨t2, z2⟩ := w2; subst z2; exact SeqAt.EqAt.str_str _ _ _ _
    | tup es => unfold Rep at r1; subst r1; obtain ⟨t1, z1⟩ := w1; subst z1; unfold Rep at r2; obtain ⟨p2, vs2, y2, s2, q2⟩ := r2; subst y2; cases (show v = Value.ref _ from w2); obtain ⟨its2, rv2, tp2, _⟩ := I.tuple s2; exact SeqAt.EqAt.str_tuple _ _ tp2 hu
    | lst es => unfold Rep at r1; subst r1; obtain ⟨t1, z1⟩ := w1; subst z1; unfold Rep at r2; obtain ⟨p2, vs2, y2, s2, q2⟩ := r2; subst y2; cases (show v = Value.ref _ from w2); obtain ⟨its2, rv2, tp2, _⟩ := I.list s2; have tp2 := tp2.isList; exact SeqAt.EqAt.str_list _ _ tp2 hu
  | tup ds =>
    cases e with
    | opq => exact absurd hz2 (by rw [dpD_opq]; omega)
    | dct ks0 vs0 => exact absurd hz2 (by rw [dpD_dct]; omega)
    | non => unfold Rep at r1; obtain ⟨p1, vs1, y1, s1, q1⟩ := r1; subst y1; cases (show u = Value.ref _ from w1); obtain ⟨its1, rv1, tp1, _⟩ := I.tuple s1; unfold Rep at r2; subst r2; cases (show v = Value.none from w2); exact SeqAt.EqAt.tuple_none tp1 hu
    | bl b2 => unfold Rep at r1; obtain ⟨p1, vs1, y1, s1, q1⟩ := r1; subst y1; cases (show u = Value.ref _ from w1); obtain ⟨its1, rv1, tp1, _⟩ := I.tuple s1; unfold Rep at r2; subst r2; cases (show v = Value.bool _ from w2); exact SeqAt.EqAt.tuple_bool _ tp1 hu
    | int b2 => unfold Rep at r1; obtain ⟨p1, vs1, y1, s1, q1⟩ := r1; subst y1; cases (show u = Value.ref _ from w1); obtain ⟨its1, rv1, tp1, _⟩ := I.tuple s1; unfold Rep at r2; subst r2; obtain ⟨t2, z2⟩ := w2; subst z2; exact SeqAt.EqAt.tuple_int _ _ tp1 hu
    | str b2 => unfold Rep at r1; obtain ⟨p1, vs1, y1, s1, q1⟩ := r1; subst y1; cases (show u = Value.ref _ from w1); obtain ⟨its1, rv1, tp1, _⟩ := I.tuple s1; unfold Rep at r2; subst r2; obtain ⟨t2, z2⟩ := w2; subst z2; exact SeqAt.EqAt.tuple_str _ _ tp1 hu
    | tup es =>
      unfold Rep at r1 r2
      obtain ⟨p1, vs1, y1, _⟩ := r1
      obtain ⟨p2, vs2, y2, _⟩ := r2
      subst y1 y2
      cases (show u = Value.ref _ from w1)
      cases (show v = Value.ref _ from w2)
      by_cases h : p1 = p2
      · rw [one (by rw [h]), h]; exact SeqAt.EqAt.same _
      · exact SeqAt.EqAt.of_refs h key
    | lst es => unfold Rep at r1; obtain ⟨p1, vs1, y1, s1, q1⟩ := r1; subst y1; cases (show u = Value.ref _ from w1); obtain ⟨its1, rv1, tp1, _⟩ := I.tuple s1; unfold Rep at r2; obtain ⟨p2, vs2, y2, s2, q2⟩ := r2; subst y2; cases (show v = Value.ref _ from w2); obtain ⟨its2, rv2, tp2, _⟩ := I.list s2; have tp2 := tp2.isList; exact SeqAt.EqAt.tuple_list tp1 tp2 hu
  | lst ds =>
    cases e with
    | opq => exact absurd hz2 (by rw [dpD_opq]; omega)
    | dct ks0 vs0 => exact absurd hz2 (by rw [dpD_dct]; omega)
    | non => unfold Rep at r1; obtain ⟨p1, vs1, y1, s1, q1⟩ := r1; subst y1; cases (show u = Value.ref _ from w1); obtain ⟨its1, rv1, tp1, _⟩ := I.list s1; have tp1 := tp1.isList; unfold Rep at r2; subst r2; cases (show v = Value.none from w2); exact SeqAt.EqAt.list_none tp1 hu
    | bl b2 => unfold Rep at r1; obtain ⟨p1, vs1, y1, s1, q1⟩ := r1; subst y1; cases (show u = Value.ref _ from w1); obtain ⟨its1, rv1, tp1, _⟩ := I.list s1; have tp1 := tp1.isList; unfold Rep at r2; subst r2; cases (show v = Value.bool _ from w2); exact SeqAt.EqAt.list_bool _ tp1 hu
    | int b2 => unfold Rep at r1; obtain ⟨p1, vs1, y1, s1, q1⟩ := r1; subst y1; cases (show u = Value.ref _ from w1); obtain ⟨its1, rv1, tp1, _⟩ := I.list s1; have tp1 := tp1.isList; unfold Rep at r2; subst r2; obtain ⟨t2, z2⟩ := w2; subst z2; exact SeqAt.EqAt.list_int _ _ tp1 hu
    | str b2 => unfold Rep at r1; obtain ⟨p1, vs1, y1, s1, q1⟩ := r1; subst y1; cases (show u = Value.ref _ from w1); obtain ⟨its1, rv1, tp1, _⟩ := I.list s1; have tp1 := tp1.isList; unfold Rep at r2; subst r2; obtain ⟨t2, z2⟩ := w2; subst z2; exact SeqAt.EqAt.list_str _ _ tp1 hu
    | tup es => unfold Rep at r1; obtain ⟨p1, vs1, y1, s1, q1⟩ := r1; subst y1; cases (show u = Value.ref _ from w1); obtain ⟨its1, rv1, tp1, _⟩ := I.list s1; have tp1 := tp1.isList; unfold Rep at r2; obtain ⟨p2, vs2, y2, s2, q2⟩ := r2; subst y2; cases (show v = Value.ref _ from w2); obtain ⟨its2, rv2, tp2, _⟩ := I.tuple s2; exact SeqAt.EqAt.list_tuple tp1 tp2 hu
    | lst es =>
      unfold Rep at r1 r2
      obtain ⟨p1, vs1, y1, _⟩ := r1
      obtain ⟨p2, vs2, y2, _⟩ := r2
      subst y1 y2
      cases (show u = Value.ref _ from w1)
      cases (show v = Value.ref _ from w2)
      by_cases h : p1 = p2
      · rw [one (by rw [h]), h]; exact SeqAt.EqAt.same _
      · exact SeqAt.EqAt.of_refs h key
theorem arr_get {its : List Value} {j : Nat} (h : j < its.toArray.size) : its[j]? = some its.toArray[j] := by
  have h' : j < its.length := by simpa using h
  simp [h']
theorem item_eq {A : Around} {n : Nat} (eqn : EqN X H s n) {ds es : List D} {vs vs' : List V} {its its' : List Value} (hn : dpDs ds ≤ n) (hz1 : dpDs ds < 1000) (hz2 : dpDs es < 1000) (hA : A.in1.units + n < cLine) (q1 : Reps X.K H ds vs) (q2 : Reps X.K H es vs') (rv : Vals vs its) (rv' : Vals vs' its')
    (j : Nat) (h1 : j < its.toArray.size) (h2 : j < its'.toArray.size) : SeqAt.EqAt A.in1 s its.toArray[j] its'.toArray[j] (eqD (ds.getD j .non) (es.getD j .non)) := by
  have l1 := q1.length
  have l2 := q2.length
  have m1 := rv.length
  have m2 := rv'.length
  have k1 : j < ds.length := by rw [List.size_toArray] at h1; omega
  have k2 : j < es.length := by rw [List.size_toArray] at h2; omega
  have e1 : ds[j]? = some ds[j] := by simp [k1]
  have e2 : es[j]? = some es[j] := by simp [k2]
  obtain ⟨v, a1, a2⟩ := q1.get e1
  obtain ⟨v', b1, b2⟩ := q2.get e2
  obtain ⟨u, c1, c2⟩ := rv.get a1
  obtain ⟨u', d1, d2⟩ := rv'.get b1
  rw [arr_get h1] at c1
  rw [arr_get h2] at d1
  have g1 : ds.getD j .non = ds[j] := by simp [List.getD, k1]
  have g2 : es.getD j .non = es[j] := by simp [List.getD, k2]
  rw [g1, g2, Option.some.inj c1, Option.some.inj d1]
  exact eqn A.in1 ds[j] es[j] v v' u u' (dpDs_le hn e1) (by have z := dpDs_le (n := 999) (by omega) e1; omega) (by have z := dpDs_le (n := 999) (by omega) e2; omega) hA a2 c2 b2 d2
theorem rcS (I : Inv X pins σ H s) (n : Nat) (ih : ∀ m, m < n → EqN X H s m) : RcN X H s n := by
    intro A d e x y u v hn hz1 hz2 hA r1 w1 r2 w2
    have hu : A.units < cLine := by omega
    cases d with
    | opq => exact absurd hz1 (by rw [dpD_opq]; omega)
    | dct ks0 vs0 => exact absurd hz1 (by rw [dpD_dct]; omega)
    | non =>
      cases e with
      | opq => exact absurd hz2 (by rw [dpD_opq]; omega)
      | dct ks0 vs0 => exact absurd hz2 (by rw [dpD_dct]; omega)
      | non => unfold Rep at r1; subst r1; cases (show u = Value.none from w1); unfold Rep at r2; subst r2; cases (show v = Value.none from w2); exact SeqAt.RcAt.none_none
      | bl b2 => unfold Rep at r1; subst r1; cases (show u = Value.none from w1); unfold Rep at r2; subst r2; cases (show v = Value.bool _ from w2); exact SeqAt.RcAt.none_bool _
      | int b2 => unfold Rep at r1; subst r1; cases (show u = Value.none from w1); unfold Rep at r2; subst r2; obtain ⟨t2, z2⟩ := w2; subst z2; exact SeqAt.RcAt.none_int _ _
      | str b2 => unfold Rep at r1; subst r1; cases (show u = Value.none from w1); unfold Rep at r2; subst r2; obtain ⟨t2, z2⟩ := w2; subst z2; exact SeqAt.RcAt.none_str _ _
      | tup es => unfold Rep at r1; subst r1; cases (show u = Value.none from w1); unfold Rep at r2; obtain ⟨p2, vs2, y2, s2, q2⟩ := r2; subst y2; cases (show v = Value.ref _ from w2); obtain ⟨its2, rv2, tp2, _⟩ := I.tuple s2; exact SeqAt.RcAt.none_tuple tp2 hu
      | lst es => unfold Rep at r1; subst r1; cases (show u = Value.none from w1); unfold Rep at r2; obtain ⟨p2, vs2, y2, s2, q2⟩ := r2; subst y2; cases (show v = Value.ref _ from w2); obtain ⟨its2, rv2, tp2, _⟩ := I.list s2; have tp2 := tp2.isList; exact SeqAt.RcAt.none_list tp2 hu
    | bl b1 =>
      cases e with
      | opq => exact absurd hz2 (by rw [dpD_opq]; omega)
      | dct ks0 vs0 => exact absurd hz2 (by rw [dpD_dct]; omega)
      | non => unfold Rep at r1; subst r1; cases (show u = Value.bool _ from w1); unfold Rep at r2; subst r2; cases (show v = Value.none from w2); exact SeqAt.RcAt.bool_none _
      | bl b2 => unfold Rep at r1; subst r1; cases (show u = Value.bool _ from w1); unfold Rep at r2; subst r2; cases (show v = Value.bool _ from w2); exact SeqAt.RcAt.bool_bool _ _
      | int b2 => unfold Rep at r1; subst r1; cases (show u = Value.bool _ from w1); unfold Rep at r2; subst r2; obtain ⟨t2, z2⟩ := w2; subst z2; exact SeqAt.RcAt.bool_int _ _ _
      | str b2 => unfold Rep at r1; subst r1; cases (show u = Value.bool _ from w1); unfold Rep at r2; subst r2; obtain ⟨t2, z2⟩ := w2; subst z2; exact SeqAt.RcAt.bool_str _ _ _
      | tup es => unfold Rep at r1; subst r1; cases (show u = Value.bool _ from w1); unfold Rep at r2; obtain ⟨p2, vs2, y2, s2, q2⟩ := r2; subst y2; cases (show v = Value.ref _ from w2); obtain ⟨its2, rv2, tp2, _⟩ := I.tuple s2; exact SeqAt.RcAt.bool_tuple _ tp2 hu
      | lst es => unfold Rep at r1; subst r1; cases (show u = Value.bool _ from w1); unfold Rep at r2; obtain ⟨p2, vs2, y2, s2, q2⟩ := r2; subst y2; cases (show v = Value.ref _ from w2); obtain ⟨its2, rv2, tp2, _⟩ := I.list s2; have tp2 := tp2.isList; exact SeqAt.RcAt.bool_list _ tp2 hu
    | int b1 =>
      cases e with
      | opq => exact absurd hz2 (by rw [dpD_opq]; omega)
      | dct ks0 vs0 => exact absurd hz2 (by rw [dpD_dct]; omega)
      | non => unfold Rep at r1; subst r1; obtain ⟨t1, z1⟩ := w1; subst z1; unfold Rep at r2; subst r2; cases (show v = Value.none from w2); exact SeqAt.RcAt.int_none _ _
      | bl b2 => unfold Rep at r1; subst r1; obtain ⟨t1, z1⟩ := w1; subst z1; unfold Rep at r2; subst r2; cases (show v = Value.bool _ from w2); exact SeqAt.RcAt.int_bool _ _ _
      | int b2 => unfold Rep at r1; subst r1; obtain ⟨t1, z1⟩ := w1; subst z1; unfold Rep at r2; subst r2; obtain ⟨t2, z2⟩ := w2; subst z2; exact SeqAt.RcAt.int_int _ _ _ _
      | str b2 => unfold Rep at r1; subst r1; obtain ⟨t1, z1⟩ := w1; subst z1; unfold Rep at r2; subst r2; obtain ⟨t2, z2⟩ := w2; subst z2; exact SeqAt.RcAt.int_str _ _ _ _
      | tup es => unfold Rep at r1; subst r1; obtain ⟨t1, z1⟩ := w1; subst z1; unfold Rep at r2; obtain ⟨p2, vs2, y2, s2, q2⟩ := r2; subst y2; cases (show v = Value.ref _ from w2); obtain ⟨its2, rv2, tp2, _⟩ := I.tuple s2; exact SeqAt.RcAt.int_tuple _ _ tp2 hu
      | lst es => unfold Rep at r1; subst r1; obtain ⟨t1, z1⟩ := w1; subst z1; unfold Rep at r2; obtain ⟨p2, vs2, y2, s2, q2⟩ := r2; subst y2; cases (show v = Value.ref _ from w2); obtain ⟨its2, rv2, tp2, _⟩ := I.list s2; have tp2 := tp2.isList; exact SeqAt.RcAt.int_list _ _ tp2 hu
    | str b1 =>
      cases e with
      | opq => exact absurd hz2 (by rw [dpD_opq]; omega)
      | dct ks0 vs0 => exact absurd hz2 (by rw [dpD_dct]; omega)
      | non => unfold Rep at r1; subst r1; obtain ⟨t1, z1⟩ := w1; subst z1; unfold Rep at r2; subst r2; cases (show v = Value.none from w2); exact SeqAt.RcAt.str_none _ _
      | bl b2 => unfold Rep at r1; subst r1; obtain ⟨t1, z1⟩ := w1; subst z1; unfold Rep at r2; subst r2; cases (show v = Value.bool _ from w2); exact SeqAt.RcAt.str_bool _ _ _
      | int b2 => unfold Rep at r1; subst r1; obtain ⟨t1, z1⟩ := w1; subst z1; unfold Rep at r2; subst r2; obtain ⟨t2, z2⟩ := w2; subst z2; exact SeqAt.RcAt.str_int _ _ _ _
      | str b2 => unfold Rep at r1; subst r1; obtain ⟨t1, z1⟩ := w1; subst z1; unfold Rep at r2; subst r2; obtain ⟨t2, z2⟩ := w2; subst z2; exact SeqAt.RcAt.str_str _ _ _ _
      | tup es => unfold Rep at r1; subst r1; obtain ⟨t1, z1⟩ := w1; subst z1; unfold Rep at r2; obtain ⟨p2, vs2, y2, s2, q2⟩ := r2; subst y2; cases (show v = Value.ref _ from w2); obtain ⟨its2, rv2, tp2, _⟩ := I.tuple s2; exact SeqAt.RcAt.str_tuple _ _ tp2 hu
      | lst es => unfold Rep at r1; subst r1; obtain ⟨t1, z1⟩ := w1; subst z1; unfold Rep at r2; obtain ⟨p2, vs2, y2, s2, q2⟩ := r2; subst y2; cases (show v = Value.ref _ from w2); obtain ⟨its2, rv2, tp2, _⟩ := I.list s2; have tp2 := tp2.isList; exact SeqAt.RcAt.str_list _ _ tp2 hu
    | tup ds =>
      cases e with
      | opq => exact absurd hz2 (by rw [dpD_opq]; omega)
      | dct ks0 vs0 => exact absurd hz2 (by rw [dpD_dct]; omega)
      | non => unfold Rep at r1; obtain ⟨p1, vs1, y1, s1, q1⟩ := r1; subst y1; cases (show u = Value.ref _ from w1); obtain ⟨its1, rv1, tp1, _⟩ := I.tuple s1; unfold Rep at r2; subst r2; cases (show v = Value.none from w2); exact SeqAt.RcAt.tuple_none tp1 hu
      | bl b2 => unfold Rep at r1; obtain ⟨p1, vs1, y1, s1, q1⟩ := r1; subst y1; cases (show u = Value.ref _ from w1); obtain ⟨its1, rv1, tp1, _⟩ := I.tuple s1; unfold Rep at r2; subst r2; cases (show v = Value.bool _ from w2); exact SeqAt.RcAt.tuple_bool _ tp1 hu
      | int b2 => unfold Rep at r1; obtain ⟨p1, vs1, y1, s1, q1⟩ := r1; subst y1; cases (show u = Value.ref _ from w1); obtain ⟨its1, rv1, tp1, _⟩ := I.tuple s1; unfold Rep at r2; subst r2; obtain ⟨t2, z2⟩ := w2; subst z2; exact SeqAt.RcAt.tuple_int _ _ tp1 hu
      | str b2 => unfold Rep at r1; obtain ⟨p1, vs1, y1, s1, q1⟩ := r1; subst y1; cases (show u = Value.ref _ from w1); obtain ⟨its1, rv1, tp1, _⟩ := I.tuple s1; unfold Rep at r2; subst r2; obtain ⟨t2, z2⟩ := w2; subst z2; exact SeqAt.RcAt.tuple_str _ _ tp1 hu
      | tup es =>
          rw [dpD_tup] at hn
          unfold Rep at r1; obtain ⟨p1, vs1, y1, s1, q1⟩ := r1; subst y1; cases (show u = Value.ref _ from w1); obtain ⟨its1, rv1, tp1, _⟩ := I.tuple s1
          unfold Rep at r2; obtain ⟨p2, vs2, y2, s2, q2⟩ := r2; subst y2; cases (show v = Value.ref _ from w2); obtain ⟨its2, rv2, tp2, _⟩ := I.tuple s2
          have hi : A.in1.units + (n - 1) < cLine := by show A.units + 1 + (n - 1) < cLine; omega
          have z := SeqAt.RcAt.tuples (e := fun j => eqD (ds.getD j .non) (es.getD j .non)) tp1 tp2 hu (item_eq (A := A) (ih (n - 1) (by omega)) (by omega) (by first | (rw [dpD_tup] at hz1; omega) | (rw [dpD_lst] at hz1; omega)) (by first | (rw [dpD_tup] at hz2; omega) | (rw [dpD_lst] at hz2; omega)) hi q1 q2 rv1 rv2)
          rw [List.size_toArray, List.size_toArray, ← rv1.length, ← rv2.length, ← q1.length, ← q2.length] at z
          rw [eqD, eqDs_all]
          exact z
      | lst es => unfold Rep at r1; obtain ⟨p1, vs1, y1, s1, q1⟩ := r1; subst y1; cases (show u = Value.ref _ from w1); obtain ⟨its1, rv1, tp1, _⟩ := I.tuple s1; unfold Rep at r2; obtain ⟨p2, vs2, y2, s2, q2⟩ := r2; subst y2; cases (show v = Value.ref _ from w2); obtain ⟨its2, rv2, tp2, _⟩ := I.list s2; have tp2 := tp2.isList; exact SeqAt.RcAt.tuple_list tp1 tp2 hu
    | lst ds =>
      cases e with
      | opq => exact absurd hz2 (by rw [dpD_opq]; omega)
      | dct ks0 vs0 => exact absurd hz2 (by rw [dpD_dct]; omega)
      | non => unfold Rep at r1; obtain ⟨p1, vs1, y1, s1, q1⟩ := r1; subst y1; cases (show u = Value.ref _ from w1); obtain ⟨its1, rv1, tp1, _⟩ := I.list s1; have tp1 := tp1.isList; unfold Rep at r2; subst r2; cases (show v = Value.none from w2); exact SeqAt.RcAt.list_none tp1 hu
      | bl b2 => unfold Rep at r1; obtain ⟨p1, vs1, y1, s1, q1⟩ := r1; subst y1; cases (show u = Value.ref _ from w1); obtain ⟨its1, rv1, tp1, _⟩ := I.list s1; have tp1 := tp1.isList; unfold Rep at r2; subst r2; cases (show v = Value.bool _ from w2); exact SeqAt.RcAt.list_bool _ tp1 hu
      | int b2 => unfold Rep at r1; obtain ⟨p1, vs1, y1, s1, q1⟩ := r1; subst y1; cases (show u = Value.ref _ from w1); obtain ⟨its1, rv1, tp1, _⟩ := I.list s1; have tp1 := tp1.isList; unfold Rep at r2; subst r2; obtain ⟨t2, z2⟩ := w2; subst z2; exact SeqAt.RcAt.list_int _ _ tp1 hu
      | str b2 => unfold Rep at r1; obtain ⟨p1, vs1, y1, s1, q1⟩ := r1; subst y1; cases (show u = Value.ref _ from w1); obtain ⟨its1, rv1, tp1, _⟩ := I.list s1; have tp1 := tp1.isList; unfold Rep at r2; subst r2; obtain ⟨t2, z2⟩ := w2; subst z2; exact SeqAt.RcAt.list_str _ _ tp1 hu
      | tup es => unfold Rep at r1; obtain ⟨p1, vs1, y1, s1, q1⟩ := r1; subst y1; cases (show u = Value.ref _ from w1); obtain ⟨its1, rv1, tp1, _⟩ := I.list s1; have tp1 := tp1.isList; unfold Rep at r2; obtain ⟨p2, vs2, y2, s2, q2⟩ := r2; subst y2; cases (show v = Value.ref _ from w2); obtain ⟨its2, rv2, tp2, _⟩ := I.tuple s2; exact SeqAt.RcAt.list_tuple tp1 tp2 hu
      | lst es =>
          rw [dpD_lst] at hn
          unfold Rep at r1; obtain ⟨p1, vs1, y1, s1, q1⟩ := r1; subst y1; cases (show u = Value.ref _ from w1); obtain ⟨its1, rv1, tp1, _⟩ := I.list s1; have tp1 := tp1.isList
          unfold Rep at r2; obtain ⟨p2, vs2, y2, s2, q2⟩ := r2; subst y2; cases (show v = Value.ref _ from w2); obtain ⟨its2, rv2, tp2, _⟩ := I.list s2; have tp2 := tp2.isList
          have hi : A.in1.units + (n - 1) < cLine := by show A.units + 1 + (n - 1) < cLine; omega
          have l1 : its1.toArray.size = ds.length := by rw [List.size_toArray, ← rv1.length, ← q1.length]
          have l2 : its2.toArray.size = es.length := by rw [List.size_toArray, ← rv2.length, ← q2.length]
          rw [eqD, eqDs_all]
          by_cases hl : ds.length = es.length
          · have z := SeqAt.RcAt.lists (e := fun j => eqD (ds.getD j .non) (es.getD j .non)) tp1 tp2 (by rw [l1, l2]; exact hl) hu (item_eq (A := A) (ih (n - 1) (by omega)) (by omega) (by first | (rw [dpD_tup] at hz1; omega) | (rw [dpD_lst] at hz1; omega)) (by first | (rw [dpD_tup] at hz2; omega) | (rw [dpD_lst] at hz2; omega)) hi q1 q2 rv1 rv2)
            rw [l1] at z
            rw [show min ds.length es.length = ds.length by omega, show (ds.length == es.length) = true by simp [hl], Bool.and_true]
            exact z
          · rw [show (ds.length == es.length) = false by simp [hl], Bool.and_false]
            exact SeqAt.RcAt.lists_lengths tp1 tp2 (by rw [l1, l2]; simp [hl]) hu
theorem eqNall (I : Inv X pins σ H s) (n : Nat) : EqN X H s n := by
  induction n using Nat.strongRecOn with
  | ind n ih => exact eqN_of I (rcS I n ih)
theorem rcN (I : Inv X pins σ H s) (n : Nat) : RcN X H s n := rcS I n fun m _ => eqNall I m
def rEqD (K : PySem.W.Frag) : R2 := fun x y H Q => ∃ d e, Rep K H d x ∧ Rep K H e y ∧ dpD d ≤ 30 ∧ dpD e ≤ 30 ∧ Q (.bl (eqD d e)) H
theorem op_eqD (hu : X.A.units + 64 < cLine) : OpR X (compareOp .Eq) (rEqD X.K) := by
  intro pins s σ H x y v u Q I rx ry h
  obtain ⟨d, e, r1, r2, hd, hd2, q⟩ := h
  exact rcN I 30 X.A d e x y v u hd (by omega) (by omega) (by omega) r1 rx r2 ry X.prog X.w X.xe _ ⟨.bl _, H, I, rfl, q⟩
theorem eqOpD {K : PySem.W.Frag} : OpD K (rEqD K) dEq := fun c H0 H ρ σ x y d vx vy Q R r1 r2 e q => by
  unfold dEq at e
  split at e
  · rename_i hd
    cases e
    exact ⟨x, y, Rep.mono R.same x r1, Rep.mono R.same y r2, hd.1, hd.2, q _ H0 H (Same.refl _) R (rep_bl _ _)⟩
  · cases e
theorem cEq (hu : X.A.units + 64 < cLine) : CmpOk X .Eq dEq := ⟨_, op_eqD hu, eqOpD⟩
theorem neN (I : Inv X pins σ H s) (n : Nat) (A : Around) (d e : D) (x y : V) (u v : Value) (hn : dpD d ≤ n) (hz1 : dpD d < 1000) (hz2 : dpD e < 1000) (hA : A.units + n < cLine) (r1 : Rep X.K H d x) (w1 : RelV x u) (r2 : Rep X.K H e y) (w2 : RelV y v) : SeqAt.RcNeAt A s u v (!eqD d e) := by
    have hu : A.units < cLine := by omega
    cases d with
    | opq => exact absurd hz1 (by rw [dpD_opq]; omega)
    | dct ks0 vs0 => exact absurd hz1 (by rw [dpD_dct]; omega)
    | non =>
      cases e with
      | opq => exact absurd hz2 (by rw [dpD_opq]; omega)
      | dct ks0 vs0 => exact absurd hz2 (by rw [dpD_dct]; omega)
      | non => unfold Rep at r1; subst r1; cases (show u = Value.none from w1); unfold Rep at r2; subst r2; cases (show v = Value.none from w2); exact SeqAt.RcNeAt.none_none
      | bl b2 => unfold Rep at r1; subst r1; cases (show u = Value.none from w1); unfold Rep at r2; subst r2; cases (show v = Value.bool _ from w2); exact SeqAt.RcNeAt.none_bool _
      | int b2 => unfold Rep at r1; subst r1; cases (show u = Value.none from w1); unfold Rep at r2; subst r2; obtain ⟨t2, z2⟩ := w2; subst z2; exact SeqAt.RcNeAt.none_int _ _
      | str b2 => unfold Rep at r1; subst r1; cases (show u = Value.none from w1); unfold Rep at r2; subst r2; obtain ⟨t2, z2⟩ := w2; subst z2; exact SeqAt.RcNeAt.none_str _ _
      | tup es => unfold Rep at r1; subst r1; cases (show u = Value.none from w1); unfold Rep at r2; obtain ⟨p2, vs2, y2, s2, q2⟩ := r2; subst y2; cases (show v = Value.ref _ from w2); obtain ⟨its2, rv2, tp2, _⟩ := I.tuple s2; exact SeqAt.RcNeAt.none_tuple tp2 hu
      | lst es => unfold Rep at r1; subst r1; cases (show u = Value.none from w1); unfold Rep at r2; obtain ⟨p2, vs2, y2, s2, q2⟩ := r2; subst y2; cases (show v = Value.ref _ from w2); obtain ⟨its2, rv2, tp2, _⟩ := I.list s2; have tp2 := tp2.isList; exact SeqAt.RcNeAt.none_list tp2 hu
    | bl b1 =>
      cases e with
      | opq => exact absurd hz2 (by rw [dpD_opq]; omega)
      | dct ks0 vs0 => exact absurd hz2 (by rw [dpD_dct]; omega)
      | non => unfold Rep at r1; subst r1; cases (show u = Value.bool _ from w1); unfold Rep at r2; subst r2; cases (show v = Value.none from w2); exact SeqAt.RcNeAt.bool_none _
      | bl b2 => unfold Rep at r1; subst r1; cases (show u = Value.bool _ from w1); unfold Rep at r2; subst r2; cases (show v = Value.bool _ from w2); exact SeqAt.RcNeAt.bool_bool _ _
      | int b2 => unfold Rep at r1; subst r1; cases (show u = Value.bool _ from w1); unfold Rep at r2; subst r2; obtain ⟨t2, z2⟩ := w2; subst z2; exact SeqAt.RcNeAt.bool_int _ _ _
      | str b2 => unfold Rep at r1; subst r1; cases (show u = Value.bool _ from w1); unfold Rep at r2; subst r2; obtain ⟨t2, z2⟩ := w2; subst z2; exact SeqAt.RcNeAt.bool_str _ _ _
      | tup es => unfold Rep at r1; subst r1; cases (show u = Value.bool _ from w1); unfold Rep at r2; obtain ⟨p2, vs2, y2, s2, q2⟩ := r2; subst y2; cases (show v = Value.ref _ from w2); obtain ⟨its2, rv2, tp2, _⟩ := I.tuple s2; exact SeqAt.RcNeAt.bool_tuple _ tp2 hu
      | lst es => unfold Rep at r1; subst r1; cases (show u = Value.bool _ from w1); unfold Rep at r2; obtain ⟨p2, vs2, y2, s2, q2⟩ := r2; subst y2; cases (show v = Value.ref _ from w2); obtain ⟨its2, rv2, tp2, _⟩ := I.list s2; have tp2 := tp2.isList; exact SeqAt.RcNeAt.bool_list _ tp2 hu
    | int b1 =>
      cases e with
      | opq => exact absurd hz2 (by rw [dpD_opq]; omega)
      | dct ks0 vs0 => exact absurd hz2 (by rw [dpD_dct]; omega)
      | non => unfold Rep at r1; subst r1; obtain ⟨t1, z1⟩ := w1; subst z1; unfold Rep at r2; subst r2; cases (show v = Value.none from w2); exact SeqAt.RcNeAt.int_none _ _
      | bl b2 => unfold Rep at r1; subst r1; obtain ⟨t1, z1⟩ := w1; subst z1; unfold Rep at r2; subst r2; cases (show v = Value.bool _ from w2); exact SeqAt.RcNeAt.int_bool _ _ _
      | int b2 => unfold Rep at r1; subst r1; obtain ⟨t1, z1⟩ := w1; subst z1; unfold Rep at r2; subst r2; obtain ⟨t2, z2⟩ := w2; subst z2; exact SeqAt.RcNeAt.int_int _ _ _ _
      | str b2 => unfold Rep at r1; subst r1; obtain ⟨t1, z1⟩ := w1; subst z1; unfold Rep at r2; subst r2; obtain ⟨t2, z2⟩ := w2; subst z2; exact SeqAt.RcNeAt.int_str _ _ _ _
      | tup es => unfold Rep at r1; subst r1; obtain ⟨t1, z1⟩ := w1; subst z1; unfold Rep at r2; obtain ⟨p2, vs2, y2, s2, q2⟩ := r2; subst y2; cases (show v = Value.ref _ from w2); obtain ⟨its2, rv2, tp2, _⟩ := I.tuple s2; exact SeqAt.RcNeAt.int_tuple _ _ tp2 hu
      | lst es => unfold Rep at r1; subst r1; obtain ⟨t1, z1⟩ := w1; subst z1; unfold Rep at r2; obtain ⟨p2, vs2, y2, s2, q2⟩ := r2; subst y2; cases (show v = Value.ref _ from w2); obtain ⟨its2, rv2, tp2, _⟩ := I.list s2; have tp2 := tp2.isList; exact SeqAt.RcNeAt.int_list _ _ tp2 hu
    | str b1 =>
      cases e with
      | opq => exact absurd hz2 (by rw [dpD_opq]; omega)
      | dct ks0 vs0 => exact absurd hz2 (by rw [dpD_dct]; omega)
      | non => unfold Rep at r1; subst r1; obtain ⟨t1, z1⟩ := w1; subst z1; unfold Rep at r2; subst r2; cases (show v = Value.none from w2); exact SeqAt.RcNeAt.str_none _ _
      | bl b2 => unfold Rep at r1; subst r1; obtain ⟨t1, z1⟩ := w1; subst z1; unfold Rep at r2; subst r2; cases (show v = Value.bool _ from w2); exact SeqAt.RcNeAt.str_bool _ _ _
      | int b2 => unfold Rep at r1; subst r1; obtain ⟨t1, z1⟩ := w1; subst z1; unfold Rep at r2; subst r2; obtain ⟨t2, z2⟩ := w2; subst z2; exact SeqAt.RcNeAt.str_int _ _ _ _
      | str b2 => unfold Rep at r1; subst r1; obtain ⟨t1, z1⟩ := w1; subst z1; unfold Rep at r2; subst r2; obtain ⟨t2, z2⟩ := w2; subst z2; exact SeqAt.RcNeAt.str_str _ _ _ _
      | tup es => unfold Rep at r1; subst r1; obtain ⟨t1, z1⟩ := w1; subst z1; unfold Rep at r2; obtain ⟨p2, vs2, y2, s2, q2⟩ := r2; subst y2; cases (show v = Value.ref _ from w2); obtain ⟨its2, rv2, tp2, _⟩ := I.tuple s2; exact SeqAt.RcNeAt.str_tuple _ _ tp2 hu
      | lst es => unfold Rep at r1; subst r1; obtain ⟨t1, z1⟩ := w1; subst z1; unfold Rep at r2; obtain ⟨p2, vs2, y2, s2, q2⟩ := r2; subst y2; cases (show v = Value.ref _ from w2); obtain ⟨its2, rv2, tp2, _⟩ := I.list s2; have tp2 := tp2.isList; exact SeqAt.RcNeAt.str_list _ _ tp2 hu
    | tup ds =>
      cases e with
      | opq => exact absurd hz2 (by rw [dpD_opq]; omega)
      | dct ks0 vs0 => exact absurd hz2 (by rw [dpD_dct]; omega)
      | non => unfold Rep at r1; obtain ⟨p1, vs1, y1, s1, q1⟩ := r1; subst y1; cases (show u = Value.ref _ from w1); obtain ⟨its1, rv1, tp1, _⟩ := I.tuple s1; unfold Rep at r2; subst r2; cases (show v = Value.none from w2); exact SeqAt.RcNeAt.tuple_none tp1 hu
      | bl b2 => unfold Rep at r1; obtain ⟨p1, vs1, y1, s1, q1⟩ := r1; subst y1; cases (show u = Value.ref _ from w1); obtain ⟨its1, rv1, tp1, _⟩ := I.tuple s1; unfold Rep at r2; subst r2; cases (show v = Value.bool _ from w2); exact SeqAt.RcNeAt.tuple_bool _ tp1 hu
      | int b2 => unfold Rep at r1; obtain ⟨p1, vs1, y1, s1, q1⟩ := r1; subst y1; cases (show u = Value.ref _ from w1); obtain ⟨its1, rv1, tp1, _⟩ := I.tuple s1; unfold Rep at r2; subst r2; obtain ⟨t2, z2⟩ := w2; subst z2; exact SeqAt.RcNeAt.tuple_int _ _ tp1 hu
      | str b2 => unfold Rep at r1; obtain ⟨p1, vs1, y1, s1, q1⟩ := r1; subst y1; cases (show u = Value.ref _ from w1); obtain ⟨its1, rv1, tp1, _⟩ := I.tuple s1; unfold Rep at r2; subst r2; obtain ⟨t2, z2⟩ := w2; subst z2; exact SeqAt.RcNeAt.tuple_str _ _ tp1 hu
      | tup es =>
          rw [dpD_tup] at hn
          unfold Rep at r1; obtain ⟨p1, vs1, y1, s1, q1⟩ := r1; subst y1; cases (show u = Value.ref _ from w1); obtain ⟨its1, rv1, tp1, _⟩ := I.tuple s1
          unfold Rep at r2; obtain ⟨p2, vs2, y2, s2, q2⟩ := r2; subst y2; cases (show v = Value.ref _ from w2); obtain ⟨its2, rv2, tp2, _⟩ := I.tuple s2
          have hi : A.in1.units + (n - 1) < cLine := by show A.units + 1 + (n - 1) < cLine; omega
          have z := SeqAt.RcNeAt.tuples (e := fun j => eqD (ds.getD j .non) (es.getD j .non)) tp1 tp2 hu (item_eq (A := A) (eqNall I (n - 1)) (by omega) (by first | (rw [dpD_tup] at hz1; omega) | (rw [dpD_lst] at hz1; omega)) (by first | (rw [dpD_tup] at hz2; omega) | (rw [dpD_lst] at hz2; omega)) hi q1 q2 rv1 rv2)
          rw [List.size_toArray, List.size_toArray, ← rv1.length, ← rv2.length, ← q1.length, ← q2.length] at z
          rw [eqD, eqDs_all]
          exact z
      | lst es => unfold Rep at r1; obtain ⟨p1, vs1, y1, s1, q1⟩ := r1; subst y1; cases (show u = Value.ref _ from w1); obtain ⟨its1, rv1, tp1, _⟩ := I.tuple s1; unfold Rep at r2; obtain ⟨p2, vs2, y2, s2, q2⟩ := r2; subst y2; cases (show v = Value.ref _ from w2); obtain ⟨its2, rv2, tp2, _⟩ := I.list s2; have tp2 := tp2.isList; exact SeqAt.RcNeAt.tuple_list tp1 tp2 hu
    | lst ds =>
      cases e with
      | opq => exact absurd hz2 (by rw [dpD_opq]; omega)
      | dct ks0 vs0 => exact absurd hz2 (by rw [dpD_dct]; omega)
      | non => unfold Rep at r1; obtain ⟨p1, vs1, y1, s1, q1⟩ := r1; subst y1; cases (show u = Value.ref _ from w1); obtain ⟨its1, rv1, tp1, _⟩ := I.list s1; have tp1 := tp1.isList; unfold Rep at r2; subst r2; cases (show v = Value.none from w2); exact SeqAt.RcNeAt.list_none tp1 hu
      | bl b2 => unfold Rep at r1; obtain ⟨p1, vs1, y1, s1, q1⟩ := r1; subst y1; cases (show u = Value.ref _ from w1); obtain ⟨its1, rv1, tp1, _⟩ := I.list s1; have tp1 := tp1.isList; unfold Rep at r2; subst r2; cases (show v = Value.bool _ from w2); exact SeqAt.RcNeAt.list_bool _ tp1 hu
      | int b2 => unfold Rep at r1; obtain ⟨p1, vs1, y1, s1, q1⟩ := r1; subst y1; cases (show u = Value.ref _ from w1); obtain ⟨its1, rv1, tp1, _⟩ := I.list s1; have tp1 := tp1.isList; unfold Rep at r2; subst r2; obtain ⟨t2, z2⟩ := w2; subst z2; exact SeqAt.RcNeAt.list_int _ _ tp1 hu
      | str b2 => unfold Rep at r1; obtain ⟨p1, vs1, y1, s1, q1⟩ := r1; subst y1; cases (show u = Value.ref _ from w1); obtain ⟨its1, rv1, tp1, _⟩ := I.list s1; have tp1 := tp1.isList; unfold Rep at r2; subst r2; obtain ⟨t2, z2⟩ := w2; subst z2; exact SeqAt.RcNeAt.list_str _ _ tp1 hu
      | tup es => unfold Rep at r1; obtain ⟨p1, vs1, y1, s1, q1⟩ := r1; subst y1; cases (show u = Value.ref _ from w1); obtain ⟨its1, rv1, tp1, _⟩ := I.list s1; have tp1 := tp1.isList; unfold Rep at r2; obtain ⟨p2, vs2, y2, s2, q2⟩ := r2; subst y2; cases (show v = Value.ref _ from w2); obtain ⟨its2, rv2, tp2, _⟩ := I.tuple s2; exact SeqAt.RcNeAt.list_tuple tp1 tp2 hu
      | lst es =>
          rw [dpD_lst] at hn
          unfold Rep at r1; obtain ⟨p1, vs1, y1, s1, q1⟩ := r1; subst y1; cases (show u = Value.ref _ from w1); obtain ⟨its1, rv1, tp1, _⟩ := I.list s1; have tp1 := tp1.isList
          unfold Rep at r2; obtain ⟨p2, vs2, y2, s2, q2⟩ := r2; subst y2; cases (show v = Value.ref _ from w2); obtain ⟨its2, rv2, tp2, _⟩ := I.list s2; have tp2 := tp2.isList
          have hi : A.in1.units + (n - 1) < cLine := by show A.units + 1 + (n - 1) < cLine; omega
          have l1 : its1.toArray.size = ds.length := by rw [List.size_toArray, ← rv1.length, ← q1.length]
          have l2 : its2.toArray.size = es.length := by rw [List.size_toArray, ← rv2.length, ← q2.length]
          rw [eqD, eqDs_all]
          by_cases hl : ds.length = es.length
          · have z := SeqAt.RcNeAt.lists (e := fun j => eqD (ds.getD j .non) (es.getD j .non)) tp1 tp2 (by rw [l1, l2]; exact hl) hu (item_eq (A := A) (eqNall I (n - 1)) (by omega) (by first | (rw [dpD_tup] at hz1; omega) | (rw [dpD_lst] at hz1; omega)) (by first | (rw [dpD_tup] at hz2; omega) | (rw [dpD_lst] at hz2; omega)) hi q1 q2 rv1 rv2)
            rw [l1] at z
            rw [show min ds.length es.length = ds.length by omega, show (ds.length == es.length) = true by simp [hl], Bool.and_true]
            exact z
          · rw [show (ds.length == es.length) = false by simp [hl], Bool.and_false]
            exact SeqAt.RcNeAt.lists_lengths tp1 tp2 (by rw [l1, l2]; simp [hl]) hu
def rNeD (K : PySem.W.Frag) : R2 := fun x y H Q => ∃ d e, Rep K H d x ∧ Rep K H e y ∧ dpD d ≤ 30 ∧ dpD e ≤ 30 ∧ Q (.bl (!eqD d e)) H
theorem op_neD (hu : X.A.units + 64 < cLine) : OpR X (compareOp .NotEq) (rNeD X.K) := by
  intro pins s σ H x y v u Q I rx ry h
  obtain ⟨d, e, r1, r2, hd, hd2, q⟩ := h
  exact neN I 30 X.A d e x y v u hd (by omega) (by omega) (by omega) r1 rx r2 ry X.prog X.w X.xe _ ⟨.bl _, H, I, rfl, q⟩
theorem neOpD {K : PySem.W.Frag} : OpD K (rNeD K) dNe := fun c H0 H ρ σ x y d vx vy Q R r1 r2 e q => by
  unfold dNe at e
  split at e
  · rename_i hd
    cases e
    exact ⟨x, y, Rep.mono R.same x r1, Rep.mono R.same y r2, hd.1, hd.2, q _ H0 H (Same.refl _) R (rep_bl _ _)⟩
  · cases e
theorem cNe (hu : X.A.units + 64 < cLine) : CmpOk X .NotEq dNe := ⟨_, op_neD hu, neOpD⟩
end
end Fx
set_option maxRecDepth 100000
namespace Fx
open PySem PySem.Spec PyProof.Rows L2
section
variable {X : Cx}
def BOk (X : Cx) (f : Value) (g : List D → Option D) : Prop := ∃ r, CallR X f r ∧ ∀ (c : FC) (H0 H : Hp) (ρ : En) (σ : L2.St) (ds : List D) (d : D) (vs : List V) (Q : VK), RS X.K c H0 H ρ σ → Reps X.K H0 ds vs → g ds = some d → Aft X.K c H0 ρ σ d Q → r vs H Q
theorem eF_of {g : List D → Option D} {A : FA} {r : List V → Hp → VK → Prop} (o : ∀ (c : FC) (H0 H : Hp) (ρ : En) (σ : L2.St) (ds : List D) (d : D) (vs : List V) (Q : VK), RS X.K c H0 H ρ σ → Reps X.K H0 ds vs → g ds = some d → Aft X.K c H0 ρ σ d Q → r vs H Q)
    {σ : L2.St} {H : Hp} {Q : VK} (h : tE X.K (eF g A) σ H Q) : tCB r (tAa X.K A) σ H Q := by
  obtain ⟨c, H0, ρ, d, ρ', R, f, q⟩ := h
  unfold eF at f
  obtain ⟨⟨ds, ρ1⟩, h1, f⟩ := bnd_eq f
  obtain ⟨d', h2, f⟩ := bnd_eq f
  have f' : some (d', ρ1) = some (d, ρ') := f
  cases f'
  exact ⟨c, H0, ρ, ds, _, R, h1, fun vs H1 Hh s1 R1 r1 => o c H1 Hh _ σ ds d vs Q R1 r1 h2 fun v H2 Hh2 s2 R2 r2 => q v H2 Hh2 (s1.trans s2) R2 r2⟩
theorem xB {id : String} {g : List D → Option D} {A : FA} {x : Str} {p pos : Pos} {e : Expr} {es : List Expr} (o : BOk X (.builtin id) g) (hg : Gl X x) (hm : X.mg x = none) (hv : bootBuiltins x = some (.builtin id)) (ha : XA X (e :: es) A) (hn : x ≠ "__name__" := by decide) (hdb : (x == ("__debug__" : Str)) = false := by decide)
    (he : starEach (e :: es) X.env = (false, eval e X.env) :: starEach es X.env := by rfl) (hpl : (backTo pos (starEach es X.env)).any (·.1) = false := by rfl) : XE X (.Call (.Name x p) (e :: es) [] pos) (eF g A) := by
  obtain ⟨r, h1, h2⟩ := o
  exact PE.wk (pe_callB h1 hg hm hv ha hn hdb he hpl) fun σ H Q h => eF_of h2 h
theorem Reps.v1 {K : PySem.W.Frag} {H : Hp} {d : D} {vs : List V} (h : Reps K H [d] vs) : ∃ v, vs = [v] ∧ Rep K H d v := by
  unfold Reps at h
  obtain ⟨v, r, e, a, b⟩ := h
  unfold Reps at b
  exact ⟨v, by rw [e, b], a⟩
theorem Reps.v2 {K : PySem.W.Frag} {H : Hp} {d d' : D} {vs : List V} (h : Reps K H [d, d'] vs) : ∃ v v', vs = [v, v'] ∧ Rep K H d v ∧ Rep K H d' v' := by
  unfold Reps at h
  obtain ⟨v, r, e, a, b⟩ := h
  obtain ⟨v', e', b'⟩ := Reps.v1 b
  exact ⟨v, v', by rw [e, e'], a, b'⟩
theorem bAbs_inv {ds : List D} {d : D} (h : bAbs ds = some d) : ∃ i, ds = [.int i] ∧ d = .int (if i < 0 then -i else i) := by
  unfold bAbs at h
  split at h
  · cases h; exact ⟨_, rfl, rfl⟩
  · cases h
theorem callAbs : BOk X (.builtin "abs") bAbs := ⟨_, call_abs, fun c H0 H ρ σ ds d vs Q R r e q => by
  obtain ⟨i, rfl, rfl⟩ := bAbs_inv e
  obtain ⟨v, rfl, rv⟩ := Reps.v1 r
  unfold Rep at rv; subst rv
  exact ⟨i, rfl, q _ H0 H (Same.refl _) R (rep_int _ _)⟩⟩
theorem ints_rep {K : PySem.W.Frag} {H : Hp} : ∀ {ds : List D} {is : List Int} {vs : List V}, intsOf ds = some is → Reps K H ds vs → vs = is.map V.int
  | [], _, _, e, r => by
    have e' : ([] : List Int) = _ := Option.some.inj e
    unfold Reps at r; rw [r, ← e']; rfl
  | d :: ds, _, _, e, r => by
    cases d with
    | int i =>
      rw [intsOf_cons] at e
      obtain ⟨is, e1, e2⟩ := bnd_eq e
      cases e2
      unfold Reps at r
      obtain ⟨v, r', rfl, a, t⟩ := r
      unfold Rep at a
      rw [a, ints_rep e1 t]; rfl
    | _ => cases e
theorem intsAre_of : ∀ {is : List Int} {us : List Value}, Vals (is.map V.int) us → IntsAre us is := by
  intro is
  induction is with
  | nil => intro us h; cases h; exact .nil
  | cons b r ih =>
    intro us h
    cases h with
    | cons a t => obtain ⟨tk, rfl⟩ := (show ∃ t, _ = Value.int b t from a); exact .cons b tk (ih t)
theorem minI_spec : ∀ (r : List Int) (m : Int), (minI m r = m ∨ minI m r ∈ r) ∧ minI m r ≤ m ∧ ∀ a ∈ r, minI m r ≤ a
  | [], m => ⟨.inl rfl, Int.le_refl _, fun a h => by cases h⟩
  | x :: r, m => by
    obtain ⟨h1, h2, h3⟩ := minI_spec r (if x < m then x else m)
    rw [show minI m (x :: r) = minI (if x < m then x else m) r from rfl]
    by_cases h : x < m
    · rw [if_pos h] at h1 h2 h3 ⊢
      refine ⟨.inr ?_, by omega, fun a ha => ?_⟩
      · rcases h1 with e | e
        · rw [e]; exact List.mem_cons_self
        · exact List.mem_cons_of_mem _ e
      · rcases List.mem_cons.mp ha with rfl | ha
        · exact h2
        · exact h3 a ha
    · rw [if_neg h] at h1 h2 h3 ⊢
      refine ⟨?_, h2, fun a ha => ?_⟩
      · rcases h1 with e | e
        · exact .inl e
        · exact .inr (List.mem_cons_of_mem _ e)
      · rcases List.mem_cons.mp ha with rfl | ha
        · omega
        · exact h3 a ha
theorem maxI_spec : ∀ (r : List Int) (m : Int), (maxI m r = m ∨ maxI m r ∈ r) ∧ m ≤ maxI m r ∧ ∀ a ∈ r, a ≤ maxI m r
  | [], m => ⟨.inl rfl, Int.le_refl _, fun a h => by cases h⟩
  | x :: r, m => by
    obtain ⟨h1, h2, h3⟩ := maxI_spec r (if m < x then x else m)
    rw [show maxI m (x :: r) = maxI (if m < x then x else m) r from rfl]
    by_cases h : m < x
    · rw [if_pos h] at h1 h2 h3 ⊢
      refine ⟨.inr ?_, by omega, fun a ha => ?_⟩
      · rcases h1 with e | e
        · rw [e]; exact List.mem_cons_self
        · exact List.mem_cons_of_mem _ e
      · rcases List.mem_cons.mp ha with rfl | ha
        · exact h2
        · exact h3 a ha
    · rw [if_neg h] at h1 h2 h3 ⊢
      refine ⟨?_, h2, fun a ha => ?_⟩
      · rcases h1 with e | e
        · exact .inl e
        · exact .inr (List.mem_cons_of_mem _ e)
      · rcases List.mem_cons.mp ha with rfl | ha
        · omega
        · exact h3 a ha
theorem minI_uniq {i M : Int} {r : List Int} (h : M ∈ i :: r) (h' : ∀ a ∈ i :: r, M ≤ a) : M = minI i r := by
  obtain ⟨h1, h2, h3⟩ := minI_spec r i
  have a1 : minI i r ≤ M := by
    rcases List.mem_cons.mp h with rfl | h
    · exact h2
    · exact h3 _ h
  have a2 : M ≤ minI i r := by
    rcases h1 with e | e
    · rw [e]; exact h' _ List.mem_cons_self
    · exact h' _ (List.mem_cons_of_mem _ e)
  omega
theorem maxI_uniq {i M : Int} {r : List Int} (h : M ∈ i :: r) (h' : ∀ a ∈ i :: r, a ≤ M) : M = maxI i r := by
  obtain ⟨h1, h2, h3⟩ := maxI_spec r i
  have a1 : M ≤ maxI i r := by
    rcases List.mem_cons.mp h with rfl | h
    · exact h2
    · exact h3 _ h
  have a2 : maxI i r ≤ M := by
    rcases h1 with e | e
    · rw [e]; exact h' _ List.mem_cons_self
    · exact h' _ (List.mem_cons_of_mem _ e)
  omega
theorem call_minL (hc : X.calm = true) : CallR X (.builtin "min") (fun xs H Q => ∃ (p : Addr) (i : Int) (r : List Int), xs = [.ref p] ∧ SqL X.K H p ((i :: r).map V.int) ∧ Q (.int (minI i r)) H) := by
  intro pins s σ H xs us Q I r h
  obtain ⟨l, i, is, rfl, hl, q⟩ := h
  obtain ⟨u, rfl, ru⟩ := vals1 r
  cases ru
  obtain ⟨its, rv, pl, hz⟩ := I.list hl
  have hi := intsAre_of rv
  have hL := pl.isList
  obtain ⟨ys, e⟩ := hi.allInts.items
  have hns : i :: is = ys.toList.map (·.1) := by rw [← hi.numsOf, ← nums_intItems, ← e]
  have hsz : 0 < ys.size := by
    have h3 : 0 < (i :: is).length := Nat.succ_pos _
    rw [hns, List.length_map, Array.length_toList] at h3; exact h3
  rw [e] at hL
  refine min_intList (I.ok.hd hc) hL hsz fun v h' tk hv hk => ?_
  obtain ⟨t, rfl⟩ := intItems_at hv
  obtain ⟨h1, h2⟩ := argBest_lt (numAt ys) (ys.size - 1)
  refine ⟨_, H, I.kept hk, ?_, q⟩
  have : numAt ys (argBest (fun i j => decide (numAt ys i < numAt ys j)) (ys.size - 1)) = minI i is := minI_uniq (by rw [hns, numAt_eq]; exact getD_mem (by rw [List.length_map, Array.length_toList]; omega)) fun a ha => by
    rw [hns] at ha
    obtain ⟨j, hj, rfl⟩ := mem_getD ha
    rw [List.length_map, Array.length_toList] at hj
    rw [← numAt_eq]; exact h2 j (by omega)
  rw [this]
  exact ⟨_, rfl⟩
theorem call_maxL (hc : X.calm = true) : CallR X (.builtin "max") (fun xs H Q => ∃ (p : Addr) (i : Int) (r : List Int), xs = [.ref p] ∧ SqL X.K H p ((i :: r).map V.int) ∧ Q (.int (maxI i r)) H) := by
  intro pins s σ H xs us Q I r h
  obtain ⟨l, i, is, rfl, hl, q⟩ := h
  obtain ⟨u, rfl, ru⟩ := vals1 r
  cases ru
  obtain ⟨its, rv, pl, hz⟩ := I.list hl
  have hi := intsAre_of rv
  have hL := pl.isList
  obtain ⟨ys, e⟩ := hi.allInts.items
  have hns : i :: is = ys.toList.map (·.1) := by rw [← hi.numsOf, ← nums_intItems, ← e]
  have hsz : 0 < ys.size := by
    have h3 : 0 < (i :: is).length := Nat.succ_pos _
    rw [hns, List.length_map, Array.length_toList] at h3; exact h3
  rw [e] at hL
  refine max_intList (I.ok.hd hc) hL hsz fun v h' tk hv hk => ?_
  obtain ⟨t, rfl⟩ := intItems_at hv
  obtain ⟨h1, h2⟩ := argBest_gt (numAt ys) (ys.size - 1)
  refine ⟨_, H, I.kept hk, ?_, q⟩
  have : numAt ys (argBest (fun i j => decide (numAt ys i > numAt ys j)) (ys.size - 1)) = maxI i is := maxI_uniq (by rw [hns, numAt_eq]; exact getD_mem (by rw [List.length_map, Array.length_toList]; omega)) fun a ha => by
    rw [hns] at ha
    obtain ⟨j, hj, rfl⟩ := mem_getD ha
    rw [List.length_map, Array.length_toList] at hj
    rw [← numAt_eq]; exact h2 j (by omega)
  rw [this]
  exact ⟨_, rfl⟩
theorem CallR.or {X : Cx} {f : Value} {r r' : List V → Hp → VK → Prop} (h : CallR X f r) (h' : CallR X f r') : CallR X f (fun xs H Q => r xs H Q ∨ r' xs H Q) :=
  fun pins s σ H xs us Q I v z => z.elim (fun a => h pins s σ H xs us Q I v a) (fun a => h' pins s σ H xs us Q I v a)
theorem bestI_inv {f : Int → List Int → Int} {is : List Int} {d : D} (h : bestI f is = some d) : ∃ i r, is = i :: r ∧ d = .int (f i r) := by
  cases is with
  | nil => cases h
  | cons i r => cases h; exact ⟨i, r, rfl, rfl⟩
theorem callMax (hc : X.calm = true) : BOk X (.builtin "max") bMax := ⟨_, (call_max2 hc).or (call_maxL hc), fun c H0 H ρ σ ds d vs Q R r e q => by
  unfold bMax at e
  split at e
  · cases e
    obtain ⟨v, v', rfl, r1, r2⟩ := Reps.v2 r
    unfold Rep at r1 r2; subst r1 r2
    exact .inl ⟨_, _, rfl, q _ H0 H (Same.refl _) R (rep_int _ _)⟩
  · obtain ⟨is, e1, e2⟩ := bnd_eq e
    obtain ⟨i, is, rfl, rfl⟩ := bestI_inv e2
    obtain ⟨v, rfl, rv⟩ := Reps.v1 r
    unfold Rep at rv
    obtain ⟨p, ws, rfl, s, t⟩ := rv
    have := ints_rep e1 t
    subst this
    exact .inr ⟨p, i, is, rfl, Same.seq R.same s, q _ H0 H (Same.refl _) R (rep_int _ _)⟩
  · cases e⟩
theorem callMin (hc : X.calm = true) : BOk X (.builtin "min") bMin := ⟨_, (call_min2 hc).or (call_minL hc), fun c H0 H ρ σ ds d vs Q R r e q => by
  unfold bMin at e
  split at e
  · cases e
    obtain ⟨v, v', rfl, r1, r2⟩ := Reps.v2 r
    unfold Rep at r1 r2; subst r1 r2
    exact .inl ⟨_, _, rfl, q _ H0 H (Same.refl _) R (rep_int _ _)⟩
  · obtain ⟨is, e1, e2⟩ := bnd_eq e
    obtain ⟨i, is, rfl, rfl⟩ := bestI_inv e2
    obtain ⟨v, rfl, rv⟩ := Reps.v1 r
    unfold Rep at rv
    obtain ⟨p, ws, rfl, s, t⟩ := rv
    have := ints_rep e1 t
    subst this
    exact .inr ⟨p, i, is, rfl, Same.seq R.same s, q _ H0 H (Same.refl _) R (rep_int _ _)⟩
  · cases e⟩
def tyN : Ty → String
  | .int => "int" | .bool => "bool" | .str => "str" | .tuple => "tuple" | .list => "list"
def tyV (d : D) : Value := match d with
  | .non => .type "NoneType" | .bl _ => .type "bool" | .int _ => .type "int" | .str _ => .type "str" | .tup _ => .type "tuple" | .lst _ => .type "list" | .opq => .type "dict" | .dct _ _ => .type "dict"
theorem kit_eq (K : PySem.W.Frag) (t : Ty) (d : D) : PySem.W.kitOne K (tyV d) (.type (tyN t)) = some (isTy t d) := by
  cases t <;> cases d <;> rfl
theorem call_isi (t : Ty) : CallR X (.builtin "isinstance") (fun xs H Q => ∃ d x, xs = [x, .ty (tyN t)] ∧ Rep X.K H d x ∧ Q (.bl (isTy t d)) H) := by
  intro pins s σ H xs us Q I r h
  obtain ⟨d, x, rfl, rx, q⟩ := h
  obtain ⟨u, w, rfl, ru, rw'⟩ := vals2 r
  cases (show w = Value.type _ from rw')
  have k := kit_eq X.K t d
  have fin : ∀ tk, EP X pins σ Q (.bool (isTy t d)) { s with toks := tk } := fun tk => ⟨.bl _, H, I.tok tk, rfl, q⟩
  cases d with
  | non => unfold Rep at rx; subst rx; cases (show u = Value.none from ru); exact PySem.W.kia_one PySem.W.kitx_none I.kIn True.intro k (fun z => nomatch z) fin
  | bl y => unfold Rep at rx; subst rx; cases (show u = Value.bool y from ru); exact PySem.W.kia_one PySem.W.kitx_bool I.kIn True.intro k (fun z => nomatch z) fin
  | int i => unfold Rep at rx; subst rx; obtain ⟨t, z⟩ := (show ∃ t, u = Value.int i t from ru); cases z; exact PySem.W.kia_one PySem.W.kitx_int I.kIn True.intro k (fun z => nomatch z) fin
  | str y => unfold Rep at rx; subst rx; obtain ⟨t, z⟩ := (show ∃ t, u = Value.str y t from ru); cases z; exact PySem.W.kia_one PySem.W.kitx_str I.kIn True.intro k (fun z => nomatch z) fin
  | tup ds =>
    unfold Rep at rx
    obtain ⟨a, vs, rfl, s1, _⟩ := rx
    cases (show u = Value.ref a from ru)
    obtain ⟨_, _, ⟨o, h1, h2, _⟩, _⟩ := I.tuple s1
    exact PySem.W.kia_one PySem.W.kitx_tuple I.kIn ⟨o, h1, h2⟩ k (fun z => nomatch z) fin
  | dct ks ds =>
    unfold Rep at rx
    obtain ⟨a, ob, us, rfl, ea, _⟩ := rx
    cases (show u = Value.ref a from ru)
    obtain ⟨_, _, _, vs, _, pp⟩ := (show ObjOk X.prog X.w H s.heap a (.frz ob (.dK _)) from I.hok a _ ea)
    obtain ⟨o, es, ep, h1, h2, _⟩ := pp
    exact PySem.W.kia_one PySem.W.kitx_dict I.kIn ⟨o, h1, h2.1⟩ k (fun z => nomatch z) fin
  | opq =>
    unfold Rep at rx
    obtain ⟨a, kvs, rfl, ea⟩ := rx
    cases (show u = Value.ref a from ru)
    obtain ⟨_, _, vs, _, pp⟩ := (show ObjOk X.prog X.w H s.heap a (.dK kvs) from I.hok a _ ea)
    obtain ⟨o, es, ep, h1, h2, _⟩ := pp
    exact PySem.W.kia_one PySem.W.kitx_dict I.kIn ⟨o, h1, h2.1⟩ k (fun z => nomatch z) fin
  | lst ds =>
    unfold Rep at rx
    obtain ⟨a, vs, rfl, s1, _⟩ := rx
    cases (show u = Value.ref a from ru)
    obtain ⟨_, _, ⟨o, n, h1, h2, _⟩, _⟩ := I.list s1
    exact PySem.W.kia_one PySem.W.kitx_list I.kIn ⟨o, h1, h2⟩ k (fun z => nomatch z) fin
theorem xty {t : Ty} {T : Str} {p p' pos : Pos} {e : Expr} {F : FE} (hi : X.mg "isinstance" = none) (hm : X.mg T = none) (hT : bootBuiltins T = some (.type (tyN t))) (ha : XE X e F) (hg : Gl X "isinstance" := by rfl) (hg' : Gl X T := by rfl)
    (hn : T ≠ "__name__" := by decide) (hd : (T == ("__debug__" : Str)) = false := by decide) (hs : starEach [e, .Name T p'] X.env = (false, eval e X.env) :: starEach [.Name T p'] X.env := by rfl) (hs' : starEach [.Name T p'] X.env = [(false, eval (.Name T p') X.env)] := by rfl)
    (hpl : (backTo pos (starEach [.Name T p'] X.env)).any (·.1) = false := by rfl) : XE X (.Call (.Name "isinstance" p) [e, .Name T p'] [] pos) (eTy t F) :=
  PE.wk (pe_callB (call_isi t) hg hi PyProof.Rows.boot_isinstance (pa_cons ha (pa_cons (pe_bltn (v := .ty (tyN t)) hg' hm hT rfl hn hd) pa_nil hs') hs) (by decide) (by decide) hs hpl) fun σ H Q ⟨c, H0, ρ, d, ρ', R, f, q⟩ => by
    unfold eTy at f
    obtain ⟨⟨x, ρ1⟩, h1, f⟩ := bnd_eq f
    have f' : some (D.bl (isTy t x), ρ1) = some (d, ρ') := f
    cases f'
    exact ⟨c, H0, ρ, x, _, R, h1, fun v H1 Hh s1 R1 r1 => ⟨x, v, rfl, Rep.mono R1.same x r1, q _ H1 Hh s1 R1 (rep_bl _ _)⟩⟩
def spP (K : PySem.W.Frag) (g : List D → Option D) : Sp := fun vs H Q _ => ∃ Hi ds d, Same Hi H ∧ Reps K Hi ds vs ∧ g ds = some d ∧ ∀ v Hi' H', Step Hi H Hi' H' → Rep K Hi' d v → Q v H'
structure DefOk (P : Program) (w : World) (K : PySem.W.Frag) (mg : Str → Option Value) (base : Heap) (k : Nat) (x : Str) (g : List D → Option D) : Prop where
  ex : ∃ f fd ps, FnOk P w K mg base CX0 k f fd ps (spP K g) ∧ Binds K fd ps [] ∧ PySem.W.keepIn K (.ref f) = true ∧ mg x = some (.ref f)
theorem xF {k : Nat} {x : Str} {g : List D → Option D} {A : FA} {p pos : Pos} {e : Expr} {es : List Expr} (G : DefOk X.prog X.w X.K X.mg X.base k x g) (hr : Room k X.A) (ha : XA X (e :: es) A) (hg : Gl X x := by rfl) (hdb : (x == ("__debug__" : Str)) = false := by decide)
    (he : starEach (e :: es) X.env = (false, eval e X.env) :: starEach es X.env := by rfl) (hpl : (backTo pos (starEach es X.env)).any (·.1) = false := by rfl) : XE X (.Call (.Name x p) (e :: es) [] pos) (eF g A) := by
  obtain ⟨f, fd, ps, F, hb, hk, hm⟩ := G.ex
  refine PE.wk (pe_call F hr hg hm hk hb .nil pass0 ha hdb he hpl) fun σ H Q ⟨c, H0, ρ, d, ρ', R, z, q⟩ => ?_
  unfold eF at z
  obtain ⟨⟨ds, ρ1⟩, h1, z⟩ := bnd_eq z
  obtain ⟨d', h2, z⟩ := bnd_eq z
  have z' : some (d', ρ1) = some (d, ρ') := z
  cases z'
  exact ⟨c, H0, ρ, ds, _, R, h1, fun vs H1 Hh s1 R1 r1 => ⟨H1, ds, d, R1.same, by rw [List.append_nil]; exact r1, h2, fun v Hi' H' S rv => q v Hi' H' (s1.trans S.s0) (R1.after S) rv⟩⟩
end
end Fx
set_option maxRecDepth 100000
namespace Fx
open PySem PySem.Spec PyProof.Rows L2
def Yields (K : PySem.W.Frag) (J : It) (H1 : Hp) (xs : List D) : Prop := ∀ (H0 H : Hp) (i : Nat), Same H1 H0 → Same H0 H →
  (∀ d, xs[i]? = some d → J.go i H ∧ ∀ x H', J.yld i H x H' → H' = H ∧ Rep K H0 d x) ∧ (xs.length ≤ i → J.stop i H)
theorem yields_list {K : PySem.W.Frag} {H1 : Hp} {a : Addr} {vs : List V} {xs : List D} (rd : SqL K H1 a vs) (r : Reps K H1 xs vs) : Yields K (Itl K a) H1 xs := fun H0 H i s s' => by
  have sq : SqL K H a vs := Same.seq (s.trans s') rd
  refine ⟨fun d e => ?_, fun h => ⟨vs, sq, by rw [← r.length]; exact h⟩⟩
  obtain ⟨v, e1, e2⟩ := r.get e
  refine ⟨⟨vs, v, sq, e1⟩, fun x H' ⟨h1, h2⟩ => ⟨h1, ?_⟩⟩
  have := h2 vs sq
  rw [e1] at this; cases this
  exact Rep.mono s d e2
theorem yields_tup {K : PySem.W.Frag} {H1 : Hp} {a : Addr} {vs : List V} {xs : List D} (rd : SqT K H1 a vs) (r : Reps K H1 xs vs) : Yields K (Itt K a) H1 xs := fun H0 H i s s' => by
  have sq : SqT K H a vs := Same.seqT (s.trans s') rd
  refine ⟨fun d e => ?_, fun h => ⟨vs, sq, by rw [← r.length]; exact h⟩⟩
  obtain ⟨v, e1, e2⟩ := r.get e
  refine ⟨⟨vs, v, sq, e1⟩, fun x H' ⟨h1, h2⟩ => ⟨h1, ?_⟩⟩
  have := h2 vs sq
  rw [e1] at this; cases this
  exact Rep.mono s d e2
def Its (z : Str) : It := ⟨fun i _ => i < z.cps.size, fun i H x H' => H' = H ∧ ∃ c, z.cps[i]? = some c ∧ x = .str (chS c), fun i _ => z.cps.size ≤ i⟩
theorem turn_str {P : Program} {w : World} {K : PySem.W.Frag} {tg : Expr} {n : String} (z : Str) (t : Tok) (it : Addr) (hn : ["enumerate", "zip", "dict_itemiterator", "dict_reverseitemiterator", "odict_iterator", "itertools.zip_longest", "itertools.pairwise"].contains n = false)
    (W : ∀ A : Around, A.handled = none → Walks P w A it [it] [it] z.cps.size (SignAt z) (fun i h => h.IsStrIter it n z t i)) (fin : ∀ (A : Around) (s : Shared) (i : Nat) (Q : Option Value → Shared → Prop) (E : Value → Shared → Prop), A.handled = none → s.heap.IsStrIter it n z t i → z.cps[i]? = none → (∀ h', Heap.ExtBut it s.heap h' → Q none { s with heap := h' }) → wpAny (model P w) A (pyNext (.ref it)) Q E s)
    (slf : ∀ (A : Around) (i : Nat) (s : Shared) (Q : Value → Shared → Prop) (E : Value → Shared → Prop), s.heap.IsStrIter it n z t i → Q (.ref it) s → wpAny (model P w) A (pyIter (.ref it)) Q E s) :
    Turn P w K tg (Its z) [it] it (fun i h => h.IsStrIter it n z t i) where
  mem := by simp
  obj := fun i h st b hb => by
    have e : b = it := by simpa using hb
    subst e
    obtain ⟨o, e, c, d⟩ := st
    exact ⟨o, e, fun v z => by rw [d] at z; cases z⟩
  keep := fun i h h' st k => let ⟨o, e, r⟩ := st; ⟨o, k it (by simp) o e, r⟩
  item := by
    intro X hP hw hK hc i pins s σ H E I hf st hg
    subst hP hw hK
    obtain ⟨f0, f1, f2, f3, f4, f5⟩ := hf it (by simp)
    refine (W X.A (I.ok.hd hc)).item i s _ _ hg st fun v h' tk hv st' kk => ?_
    obtain ⟨ch, u, e1, rfl⟩ := hv
    have I1 : Inv X pins σ H { s with heap := h', toks := tk } := I.turned (fun b o hb e => kk b o (by simpa using hb) e) f0 f1 f3 f4 f5
    obtain ⟨o, e, c, d⟩ := id st'
    exact ⟨_, rfl, go_of (s := { s with heap := h', toks := tk }) e c d hn ⟨.str (chS ch), H, I1, ⟨u, rfl⟩, ⟨rfl, ch, e1, rfl⟩, st', fun b hb => (hf b hb).1⟩⟩
  done := by
    intro X hP hw hK hc i pins s σ H E I hf st hg
    subst hP hw hK
    obtain ⟨f0, f1, f2, f3, f4, f5⟩ := hf it (by simp)
    have hg : z.cps.size ≤ i := hg
    exact fin X.A s i _ _ (I.ok.hd hc) st (by simp [hg]) fun h' eb => ⟨rfl, I.turned (t' := s.toks) (fun b o hb e => eb b o hb e) f0 f1 f3 f4 f5⟩
  self := fun A i s Q E st h => slf A i s Q E st h
def iStr (t : TE) : TI := fun σ H R => t σ H fun x H1 => ∃ z, x = .str z ∧ R (Its z) H1
def iSq (K : PySem.W.Frag) (t : TE) : TI := fun σ H R => iList K t σ H R ∨ iTup K t σ H R ∨ iStr t σ H R
theorem pi_str {X : Cx} {tg l : Expr} {tl : TE} (hl : PE X l tl) : PI X tg l (iStr tl) := by
  intro pins s σ H R I h
  refine thn (hl pins s σ H _ I h) fun v s1 ⟨x, H1, I1, r1, q1⟩ => ?_
  obtain ⟨z, e, q⟩ := q1
  subst e
  obtain ⟨t, rfl⟩ := r1
  have fp : ∀ (o : Obj), ∀ b ∈ [s1.heap.objs.size], FpOk X pins H1 b := fun o b hb => by
    have e : b = s1.heap.objs.size := by simpa using hb
    subst e
    exact I1.fpOk (Nat.le_refl _) (I1.hok.fresh (Nat.le_refl _))
  cases ha : z.cps.all (· < 128)
  · refine wpAny_pyIter_wide ha ?_
    exact ⟨s1.heap.objs.size, [s1.heap.objs.size], _, _, H1, rfl, I1.kept (t' := s1.toks) fun b o e => Heap.get?_push_of_some _ e, turn_str (n := "str_iterator") z t _ (by decide) (fun A hA => Walks.strWide hA _ z t) (fun A s i Q E hA st hx hQ => wpAny_pyNext_wide_end hA st hx hQ) (fun _ _ _ _ _ st h => wpAny_pyIter_striter_wide st h), ⟨_, Heap.get?_push_size _ rfl, rfl, rfl⟩, fp { cls := .none, data := .fields #[] }, q⟩
  · refine wpAny_pyIter_ascii ha ?_
    exact ⟨s1.heap.objs.size, [s1.heap.objs.size], _, _, H1, rfl, I1.kept (t' := s1.toks) fun b o e => Heap.get?_push_of_some _ e, turn_str (n := "str_ascii_iterator") z t _ (by decide) (fun A hA => Walks.strAscii hA _ z t) (fun A s i Q E hA st hx hQ => wpAny_pyNext_ascii_end hA st hx hQ) (fun _ _ _ _ _ st h => wpAny_pyIter_striter_ascii st h), ⟨_, Heap.get?_push_size _ rfl, rfl, rfl⟩, fp { cls := .none, data := .fields #[] }, q⟩
theorem yields_str {K : PySem.W.Frag} {H1 : Hp} (z : Str) : Yields K (Its z) H1 (chs z) := fun H0 H i s s' => by
  have hl : (chs z).length = z.cps.size := by unfold chs; rw [List.length_map, Array.length_toList]
  refine ⟨fun d e => ?_, fun h => by rw [hl] at h; exact h⟩
  have hi : i < z.cps.size := by rw [← hl]; exact (List.getElem?_eq_some_iff.mp e).1
  refine ⟨hi, fun x H' ⟨h1, ch, h2, h3⟩ => ⟨h1, ?_⟩⟩
  unfold chs at e
  rw [List.getElem?_map, Array.getElem?_toList, h2] at e
  have e' : D.str (chS ch) = d := Option.some.inj e
  subst e'
  unfold Rep; exact h3
theorem pi_sq {X : Cx} {tg l : Expr} {tl : TE} (hl : PE X l tl) : PI X tg l (iSq X.K tl) := fun pins s σ H R I h => by
  rcases h with h | h | h
  · exact pi_list hl pins s σ H R I h
  · exact pi_tup hl pins s σ H R I h
  · exact pi_str hl pins s σ H R I h
theorem walk_of_data {K : PySem.W.Frag} {F : FE} {σ : L2.St} {H : Hp} {R : It → Hp → Prop} {c : FC} {H0 : Hp} {ρ ρ' : En} {d : D} {xs : List D} (rs : RS K c H0 H ρ σ) (f : F ρ = some (d, ρ')) (hx : items d = some xs)
    (h : ∀ J H1 Hh, Same H0 H1 → RS K c H1 Hh ρ' σ → Yields K J H1 xs → R J Hh) : iSq K (tE K F) σ H R := by
  cases d with
  | lst ds =>
    have e : ds = xs := Option.some.inj hx
    subst e
    refine .inl ⟨c, H0, ρ, _, ρ', rs, f, fun v H1 Hh s1 R1 r1 => ?_⟩
    unfold Rep at r1
    obtain ⟨a, vs, rfl, rd, r⟩ := r1
    exact ⟨a, rfl, ⟨vs, Same.seq R1.same rd⟩, h _ H1 Hh s1 R1 (yields_list rd r)⟩
  | tup ds =>
    have e : ds = xs := Option.some.inj hx
    subst e
    refine .inr (.inl ⟨c, H0, ρ, _, ρ', rs, f, fun v H1 Hh s1 R1 r1 => ?_⟩)
    unfold Rep at r1
    obtain ⟨a, vs, rfl, rd, r⟩ := r1
    exact ⟨a, rfl, ⟨vs, Same.seqT R1.same rd⟩, h _ H1 Hh s1 R1 (yields_tup rd r)⟩
  | str z =>
    have e : chs z = xs := Option.some.inj hx
    subst e
    refine .inr (.inr ⟨c, H0, ρ, _, ρ', rs, f, fun v H1 Hh s1 R1 r1 => ?_⟩)
    unfold Rep at r1
    exact ⟨z, r1, h _ H1 Hh s1 R1 (yields_str z)⟩
  | _ => cases hx
theorem imAt_get {ρ : En} : ∀ {js : List Nat} {fr : En}, imAt ρ js = some fr → fr.length = js.length ∧ ∀ (k : Nat) (s : Sl), fr[k]? = some s → ∃ j d, js[k]? = some j ∧ ρ[j]? = some (.im d) ∧ s = .im d
  | [], _, h => by
    have h' : ([] : En) = _ := Option.some.inj h
    subst h'
    exact ⟨rfl, fun k s e => by simp at e⟩
  | j :: js, _, h => by
    rw [imAt_cons] at h
    obtain ⟨s, h1, h⟩ := bnd_eq h
    obtain ⟨r, h2, h⟩ := bnd_eq h
    cases h
    obtain ⟨a, b⟩ := imAt_get h2
    refine ⟨by rw [List.length_cons, List.length_cons, a], fun k s' e => ?_⟩
    cases k with
    | zero =>
      simp at e; subst e
      cases z : ρ[j]? with
      | none => rw [z] at h1; cases h1
      | some sl =>
        rw [z] at h1
        cases sl with
        | im d => exact ⟨j, d, rfl, z, (Option.some.inj h1).symm⟩
        | _ => cases h1
    | succ k =>
      obtain ⟨j', d, x1, x2, x3⟩ := b k s' (by simpa using e)
      exact ⟨j', d, by simpa using x1, x2, x3⟩
theorem RS.block {K : PySem.W.Frag} {c : FC} {H0 H : Hp} {ρ : En} {σ : L2.St} {js : List Nat} {fr : En} {d : D} {x : V} (R : RS K c H0 H ρ σ) (hf : imAt ρ js = some fr) (rx : Rep K H0 d x) : RS K ⟨H0, H, []⟩ H0 H (.im d :: fr) (some x :: frv σ js) := by
  obtain ⟨l, g⟩ := imAt_get hf
  refine ⟨R.same, Same.refl _, fun b o e => .inl e, fun b o e _ => e, fun a h => (by cases h), ?_, fun i d' e => ?_, fun i b o e => ?_, fun i j b b' o o' a e => ?_⟩
  · rw [List.length_cons, List.length_cons, l, frv, List.length_map]
  · cases i with
    | zero => simp at e; subst e; exact ⟨x, rfl, rx⟩
    | succ k =>
      obtain ⟨j, d2, x1, x2, x3⟩ := g k _ (by simpa using e)
      cases x3
      obtain ⟨v, y1, y2⟩ := R.im j d' x2
      refine ⟨v, ?_, y2⟩
      show (frv σ js)[k]? = some (some v)
      unfold frv
      rw [List.getElem?_map, x1]
      show some (σ[j]?).join = some (some v)
      rw [y1]; rfl
  · cases i with
    | zero => simp at e
    | succ k =>
      obtain ⟨j, d2, _, _, x3⟩ := g k _ (by simpa using e)
      cases x3
  · cases i with
    | zero => simp at e
    | succ k =>
      obtain ⟨j, d2, _, _, x3⟩ := g k _ (by simpa using e)
      cases x3
theorem RS.step {K : PySem.W.Frag} {Hi He H0 H : Hp} {ρ : En} {σ : L2.St} (R : RS K ⟨Hi, He, []⟩ H0 H ρ σ) : Step Hi He H0 H :=
  ⟨R.init, fun b o e => R.keep b o e (by simp), R.same, R.fresh⟩
theorem drop_of {α : Type} {xs : List α} {i : Nat} {d : α} (h : xs[i]? = some d) : xs.drop i = d :: xs.drop (i + 1) := by
  obtain ⟨hi, e⟩ := List.getElem?_eq_some_iff.mp h
  rw [← e]; exact List.drop_eq_getElem_cons hi
theorem lc_of {K : PySem.W.Frag} {c : FC} {H1 Hh : Hp} {ρ : En} {σ : L2.St} {js : List Nat} {fr : En} {T : FT} {F : FE} {xs out : List D} {J : It} {Qf : List V → Hp → Prop} (R : RS K c H1 Hh ρ σ) (hf : imAt ρ js = some fr) (hc : cGo T F fr xs = some out) (hz : xs.length ≤ sizeLine) (hy : Yields K J H1 xs)
    (q : ∀ ys H0 H, Same H1 H0 → RS K c H0 H ρ σ → Reps K H0 out ys → Qf ys H) : LcW js (tTt K T) (tE K F) σ Qf J Hh := by
  refine ⟨fun i m ys H => m = xs.length - i ∧ i ≤ xs.length ∧ ∃ H0, Same H1 H0 ∧ RS K c H0 H ρ σ ∧ ∃ pre rest, Reps K H0 pre ys ∧ pre.length ≤ i ∧ cGo T F fr (xs.drop i) = some rest ∧ pre ++ rest = out, ⟨xs.length, by simp, Nat.zero_le _, H1, Same.refl _, R, [], out, Reps.nil_, Nat.zero_le _, by simpa using hc, rfl⟩, ?_⟩
  rintro i m ys H ⟨rfl, hi, H0, s0, R0, pre, rest, rp, lp, hg, e⟩
  obtain ⟨y1, y2⟩ := hy H0 H i s0 R0.same
  by_cases hlt : i < xs.length
  · have hd : xs[i]? = some xs[i] := by simp [hlt]
    obtain ⟨go, yl⟩ := y1 _ hd
    refine .inr ⟨go, by rw [← rp.length]; omega, fun x H' hx => ?_⟩
    obtain ⟨rfl, rx⟩ := yl x H' hx
    rw [drop_of hd, cGo_cons] at hg
    obtain ⟨⟨b, ρb⟩, g1, hg⟩ := bnd_eq hg
    dsimp only at hg
    refine ⟨⟨H0, H', []⟩, H0, _, b, ρb, R0.block hf rx, g1, fun H2 Hh2 s2 R2 => ?_⟩
    cases b with
    | false =>
      rw [if_neg Bool.false_ne_true] at hg ⊢
      have S := R2.step
      exact ⟨xs.length - (i + 1), by omega, rfl, hlt, H2, s0.trans S.s0, R0.after S, pre, rest, Reps.mono S.s0 _ rp, by omega, hg, e⟩
    | true =>
      rw [if_pos rfl] at hg ⊢
      obtain ⟨⟨z, ρz⟩, g2, hg⟩ := bnd_eq hg
      obtain ⟨t, g3, hg⟩ := bnd_eq hg
      dsimp only at hg
      have hg' : some (z :: t) = some rest := hg
      cases hg'
      refine ⟨⟨H0, H', []⟩, H2, ρb, z, ρz, R2, g2, fun v H3 Hh3 s3 R3 r3 => ?_⟩
      have S := R3.step
      refine ⟨xs.length - (i + 1), by omega, rfl, hlt, H3, s0.trans S.s0, R0.after S, pre ++ [z], t, (Reps.mono S.s0 _ rp).app (Reps.one r3), ?_, g3, ?_⟩
      · rw [List.length_append, List.length_singleton]; omega
      · rw [List.append_assoc]; exact e
  · have ei : i = xs.length := by omega
    have hn : xs.drop i = [] := List.drop_eq_nil_of_le (by omega)
    rw [hn, cGo_nil] at hg
    have hg' : ([] : List D) = rest := Option.some.inj hg
    subst hg'
    rw [List.append_nil] at e
    subst e
    exact .inl ⟨y2 (by omega), by rw [← rp.length]; omega, q ys H0 H s0 R0 rp⟩
def XTs (X : Cx) (ifs : List Expr) (T : FT) : Prop := PTs X ifs (tTt X.K T)
theorem PTs.wk {X : Cx} {e : List Expr} {t t' : TT} (h : PTs X e t) (w : ∀ σ H Q, t' σ H Q → t σ H Q) : PTs X e t' := fun pins s σ H Q I q => h pins s σ H Q I (w σ H Q q)
theorem xts_one {X : Cx} {c : Expr} {T : FT} (h : XT X c T) : XTs X [c] T := pts_one h
section
variable {X : Cx} {scope sc : Scope} {x : Str} {frees : List Str} {js : List Nat} {px pos : Pos} {elt iter : Expr} {ifs : List Expr} {I F : FE} {T : FT}
theorem eLC_inv {ρ ρ' : En} {d : D} (h : eLC js I T F ρ = some (d, ρ')) : ∃ z xs fr ys, I ρ = some (z, ρ') ∧ items z = some xs ∧ imAt ρ' js = some fr ∧ cGo T F fr xs = some ys ∧ xs.length ≤ sizeLine ∧ d = .lst ys := by
  unfold eLC at h
  obtain ⟨⟨z, ρ1⟩, h1, h⟩ := bnd_eq h
  obtain ⟨xs, h2, h⟩ := bnd_eq h
  obtain ⟨fr, h3, h⟩ := bnd_eq h
  obtain ⟨ys, h4, h⟩ := bnd_eq h
  dsimp only at h2 h3 h4 h
  split at h
  · rename_i hz
    cases h
    exact ⟨z, xs, fr, ys, h1, h2, h3, h4, hz, rfl⟩
  · cases h
theorem xlc (hc : X.calm = true) (hsc : X.env.scope = sc) (B : ScB X.N sc scope x frees js) (hi : XE X iter I) (ht : ∀ s H C fp, XTs (cxB X (x :: frees) scope s H C fp) ifs T) (he : ∀ s H C fp, XE (cxB X (x :: frees) scope s H C fp) elt F)
    (hs : ∀ v, foldedSetIterable iter X.env v = pure v := by intro _; rfl) : XE X (.ListComp elt [⟨.Name x px, iter, ifs, 0⟩] scope pos) (eLC js I T F) :=
  PE.wk (pe_lc (tt := tTt X.K T) (te := tE X.K F) hc hsc B (pi_sq hi) ht he hs) fun σ H Q ⟨c, H0, ρ, d, ρ', R, f, q⟩ => by
    obtain ⟨z, xs, fr, ys, h1, h2, h3, h4, hz, rfl⟩ := eLC_inv f
    refine walk_of_data R h1 h2 fun J H1 Hh s1 R1 hy => ?_
    refine lc_of R1 h3 h4 hz hy fun vs H2 Hh2 s2 R2 r2 => fun p hp => ?_
    have S := Step.alloc (o := .lst vs) R2.same hp
    refine q _ _ _ (s1.trans (s2.trans S.s0)) (R2.after S) ?_
    unfold Rep
    exact ⟨p, vs, rfl, .inl (.inl upd_same), Reps.mono S.s0 _ r2⟩
end
def Post (K : PySem.W.Frag) (c : FC) (Dn : Ends) (H0 : Hp) : Res → Prop
  | .nx ρ' => ∀ σ' H0' H', Same H0 H0' → RS K c H0' H' ρ' σ' → Dn.nx σ' H'
  | .rt d ρ' => ∀ v σ' H0' H', Same H0 H0' → RS K c H0' H' ρ' σ' → Rep K H0' d v → Dn.rt v H'
  | .bk ρ' => ∀ σ' H0' H', Same H0 H0' → RS K c H0' H' ρ' σ' → Dn.bk σ' H'
  | .ct ρ' => ∀ σ' H0' H', Same H0 H0' → RS K c H0' H' ρ' σ' → Dn.ct σ' H'
def tS (K : PySem.W.Frag) (F : FS) : TS := fun Dn σ H => ∃ c H0 ρ r, RS K c H0 H ρ σ ∧ F ρ = some r ∧ Post K c Dn H0 r
def XS (X : Cx) (st : Stmt) (F : FS) : Prop := PS X st (tS X.K F)
def XSs (X : Cx) (sts : List Stmt) (F : FS) : Prop := PSs X sts (tS X.K F)
theorem Post.mono {K : PySem.W.Frag} {c : FC} {Dn : Ends} {H0 H1 : Hp} (s : Same H0 H1) : ∀ {r : Res}, Post K c Dn H0 r → Post K c Dn H1 r
  | .nx _, h => fun σ' H0' H' z => h σ' H0' H' (s.trans z)
  | .rt _ _, h => fun v σ' H0' H' z => h v σ' H0' H' (s.trans z)
  | .bk _, h => fun σ' H0' H' z => h σ' H0' H' (s.trans z)
  | .ct _, h => fun σ' H0' H' z => h σ' H0' H' (s.trans z)
theorem RS.set {K : PySem.W.Frag} {c : FC} {H0 H : Hp} {ρ : En} {σ : L2.St} {d : D} {v : V} (R : RS K c H0 H ρ σ) (i : Nat) (r : Rep K H0 d v) : RS K c H0 H (ρ.set i (.im d)) (σ.set i (some v)) := by
  have hl := R.len
  have other : ∀ (j : Nat) (sl : Sl), j ≠ i → (ρ.set i (.im d))[j]? = some sl → ρ[j]? = some sl := fun j sl hj e => by rwa [List.getElem?_set_ne (Ne.symm hj)] at e
  have otherS : ∀ (j : Nat), j ≠ i → (σ.set i (some v))[j]? = σ[j]? := fun j hj => List.getElem?_set_ne (Ne.symm hj)
  have same : ∀ (sl : Sl), (ρ.set i (.im d))[i]? = some sl → sl = .im d ∧ i < ρ.length := fun sl e => by
    by_cases hi : i < ρ.length
    · rw [List.getElem?_set_self hi] at e; exact ⟨(Option.some.inj e).symm, hi⟩
    · rw [List.getElem?_eq_none (by rw [List.length_set]; omega)] at e; cases e
  refine ⟨R.same, R.init, R.fresh, R.keep, R.apt, by rw [List.length_set, List.length_set, hl], fun j d' e => ?_, fun j bb o e => ?_, fun j k b1 b2 o o' a e1 e2 e3 e4 => ?_⟩
  · by_cases hj : j = i
    · subst hj
      obtain ⟨e', hi⟩ := same _ e
      cases e'
      exact ⟨v, by rw [List.getElem?_set_self (by omega)], r⟩
    · rw [otherS j hj]; exact R.im j d' (other j _ hj e)
  · by_cases hj : j = i
    · subst hj; obtain ⟨e', _⟩ := same _ e; cases e'
    · rw [otherS j hj]; exact R.ow j bb o (other j _ hj e)
  · by_cases hj : j = i
    · subst hj; obtain ⟨e', _⟩ := same _ e1; cases e'
    · by_cases hk : k = i
      · subst hk; obtain ⟨e', _⟩ := same _ e2; cases e'
      · rw [otherS j hj] at e3; rw [otherS k hk] at e4
        exact R.ne j k b1 b2 o o' a (other j _ hj e1) (other k _ hk e2) e3 e4
section
variable {X : Cx} {pos : Pos} {e : Expr} {F : FE} {T : FT} {A B : FS}
theorem xsN : XSs X [] sN := PSs.wk pss_nil fun Dn σ H ⟨c, H0, ρ, r, R, f, q⟩ => by
  have f' : some (Res.nx ρ) = some r := f
  cases f'
  exact q σ H0 H (Same.refl _) R
theorem xs1 {st : Stmt} (h : XS X st A) : XSs X [st] A := pss_one h
theorem xsC {st : Stmt} {rest : List Stmt} (h1 : XS X st A) (h2 : XSs X rest B) : XSs X (st :: rest) (sSeq A B) := PSs.wk (pss_cons h1 h2) fun Dn σ H ⟨c, H0, ρ, r, R, f, q⟩ => by
  unfold sSeq at f
  obtain ⟨z, h, f⟩ := bnd_eq f
  refine ⟨c, H0, ρ, z, R, h, ?_⟩
  cases z with
  | nx ρ1 => exact fun σ' H0' H' s R' => ⟨c, H0', ρ1, r, R', f, q.mono s⟩
  | rt d ρ1 => have f' : some (Res.rt d ρ1) = some r := f; cases f'; exact q
  | bk ρ1 => have f' : some (Res.bk ρ1) = some r := f; cases f'; exact q
  | ct ρ1 => have f' : some (Res.ct ρ1) = some r := f; cases f'; exact q
theorem xset (i : Nat) {x : Str} {pos' : Pos} (hN : X.N.Nodup) (he : XE X e F) (hi : X.N[i]? = some x := by rfl) (hx : Loc X.env.scope x := by first | exact Or.inl rfl | exact Or.inr rfl) (hs : swapsWith e (some (.Name x pos')) pos.line X.env = pure false := by rfl)
    (hf : X.fn x = true ∨ X.env.scope.names.lookup x = some .local := by first | exact .inl rfl | exact .inr rfl) : XS X (.Assign [.Name x pos'] e pos) (sSet i F) := PS.wk (ps_set hN hi hx he hs hf) fun Dn σ H ⟨c, H0, ρ, r, R, f, q⟩ => by
  unfold sSet at f
  obtain ⟨⟨d, ρ1⟩, h1, f⟩ := bnd_eq f
  have f' : some (Res.nx (ρ1.set i (.im d))) = some r := f
  cases f'
  exact ⟨c, H0, ρ, d, ρ1, R, h1, fun v H1 Hh s1 R1 r1 => q _ H1 Hh s1 (R1.set i r1)⟩
theorem xsif {c : Expr} {a b : List Stmt} (hc : XT X c T) (ha : XSs X a A) (hb : XSs X b B) : XS X (.If c a b pos) (sIf T A B) := PS.wk (ps_if hc ha hb) fun Dn σ H ⟨c, H0, ρ, r, R, f, q⟩ => by
  unfold sIf at f
  obtain ⟨⟨k, ρ1⟩, h1, f⟩ := bnd_eq f
  dsimp only at f
  refine ⟨c, H0, ρ, k, ρ1, R, h1, fun H1 Hh s1 R1 => ?_⟩
  cases k with
  | true =>
    rw [if_pos rfl] at f ⊢
    exact ⟨c, H1, ρ1, r, R1, f, q.mono s1⟩
  | false =>
    rw [if_neg Bool.false_ne_true] at f ⊢
    exact ⟨c, H1, ρ1, r, R1, f, q.mono s1⟩
theorem xret (he : XE X e F) : XS X (.Return (some e) pos) (sRet F) := PS.wk (ps_ret he) fun Dn σ H ⟨c, H0, ρ, r, R, f, q⟩ => by
  unfold sRet at f
  obtain ⟨⟨d, ρ1⟩, h1, f⟩ := bnd_eq f
  have f' : some (Res.rt d ρ1) = some r := f
  cases f'
  exact ⟨c, H0, ρ, d, ρ1, R, h1, fun v H1 Hh s1 R1 r1 => q v σ H1 Hh s1 R1 r1⟩
abbrev GD := D → En → Option En
def tG (K : PySem.W.Frag) (g : GD) : TG := fun v σ H Q => ∃ c H0 ρ d ρ', RS K c H0 H ρ σ ∧ Rep K H0 d v ∧ g d ρ = some ρ' ∧ ∀ σ' H0' H', Same H0 H0' → RS K c H0' H' ρ' σ' → Q σ' H'
def tGs (K : PySem.W.Frag) (is : List Nat) : TGs := fun vs σ H Q => ∃ c H0 ρ ds, RS K c H0 H ρ σ ∧ Reps K H0 ds vs ∧ ds.length = is.length ∧ ∀ σ' H0' H', Same H0 H0' → RS K c H0' H' (setAll is ds ρ) σ' → Q σ' H'
def XG (X : Cx) (tg : Expr) (g : GD) : Prop := PG X tg (tG X.K g)
def XGs (X : Cx) (tgs : List Expr) (is : List Nat) : Prop := PGs X tgs (tGs X.K is)
theorem xgN (i : Nat) {x : Str} (hN : X.N.Nodup) (hi : X.N[i]? = some x := by rfl) (hx : Loc X.env.scope x := by first | exact Or.inl rfl | exact Or.inr rfl) (hf : X.fn x = true ∨ X.env.scope.names.lookup x = some .local := by first | exact .inl rfl | exact .inr rfl) : XG X (.Name x pos) (gN i) :=
  fun pins s σ H v u Q I rv ⟨c, H0, ρ, d, ρ', R, r, f, q⟩ => pg_name hN hi hx hf pins s σ H v u Q I rv (by
    have f' : some (ρ.set i (.im d)) = some ρ' := f
    cases f'
    exact q _ H0 H (Same.refl _) (R.set i r))
theorem xgs0 : XGs X [] [] := fun pins s σ H vs us Q I rv ⟨c, H0, ρ, ds, R, r, l, q⟩ => pgs_nil pins s σ H vs us Q I rv (by
  have e : ds = [] := List.length_eq_zero_iff.mp l
  subst e
  unfold Reps at r
  exact ⟨r, q σ H0 H (Same.refl _) (by simpa [setAll_nil] using R)⟩)
theorem xgsC {e : Expr} {es : List Expr} {i : Nat} {is : List Nat} (h1 : XG X e (gN i)) (h2 : XGs X es is) (hs : (assignEach (e :: es) X.env).map (·.2) = assign e X.env :: (assignEach es X.env).map (·.2) := by rfl) : XGs X (e :: es) (i :: is) :=
  fun pins s σ H vs us Q I rv ⟨c, H0, ρ, ds, R, r, l, q⟩ => pgs_cons h1 h2 hs pins s σ H vs us Q I rv (by
    cases ds with
    | nil => simp at l
    | cons d ds =>
      unfold Reps at r
      obtain ⟨v, vr, rfl, r1, r2⟩ := r
      refine ⟨v, vr, rfl, c, H0, ρ, d, _, R, r1, rfl, fun σ1 H1 Hh s1 R1 => ?_⟩
      exact ⟨c, H1, _, ds, R1, Reps.mono s1 _ r2, by simpa using l, fun σ2 H2 Hh2 s2 R2 => q σ2 H2 Hh2 (s1.trans s2) (by simpa [setAll_cons] using R2)⟩)
theorem assign_Tuple_list {X : Cx} {s : Shared} {E : Value → Shared → Prop} {elts : List Expr} {k : Nat} {l : Addr} {items : Array Value} {Q : Unit → Shared → Prop} (hh : X.A.handled = none) (hl : s.heap.IsList l items)
    (hn : (assignEach elts X.env).length = items.size) (hstar : (assignEach elts X.env).findIdx? (·.1) = none)
    (h : ∀ h', Heap.ExtBut s.heap.objs.size s.heap h' → wpAny (model X.prog X.w) X.A (assignInOrder ((assignEach elts X.env).map (·.2)) items.toList) Q E { s with heap := h' }) :
    wpAny (model X.prog X.w) X.A (assign (.Tuple elts k pos) X.env (.ref l)) Q E s := by
  rw [assign_Tuple]
  refine wpAny_bind (wpAny_standAt ?_)
  unfold unpack
  rw [hn, hstar]
  exact wpAny_bind (wpAny_holding (PySem.W.kun_itemsOf hh hl h))
def gLst (K : PySem.W.Frag) (n : Nat) (t : TGs) : TG := fun v σ H Q => ∃ a xs, v = .ref a ∧ SqL K H a xs ∧ xs.length = n ∧ t xs σ H Q
theorem pg_lst {es : List Expr} {k : Nat} {t : TGs} {n : Nat} (hc : X.calm = true) (h : PGs X es t)
    (hn : (assignEach es X.env).length = n := by rfl) (hst : (assignEach es X.env).findIdx? (·.1) = none := by rfl) : PG X (.Tuple es k pos) (gLst X.K n t) := by
  intro pins s σ H v u Q I r hw
  obtain ⟨a, xs, e1, hq, hl, hw⟩ := hw
  subst e1
  cases r
  obtain ⟨its, rv, pl, hz⟩ := I.list hq
  refine assign_Tuple_list (I.ok.hd hc) pl.isList (by simp [hn, ← hl, rv.length]) hst fun h' hx => ?_
  have I1 : Inv X pins σ H { s with heap := h' } := I.kept (t' := s.toks) fun b o e => hx b o (Nat.ne_of_lt (Heap.lt_size e)) e
  exact h pins _ σ H xs _ Q I1 (by simpa using rv) hw
theorem xgT {es : List Expr} {k : Nat} {is : List Nat} (h : XGs X es is) (hc : X.calm = true := by rfl) (hn : (assignEach es X.env).length = is.length := by rfl) (hst : (assignEach es X.env).findIdx? (·.1) = none := by rfl) : XG X (.Tuple es k pos) (gT is) :=
  fun pins s σ H v u Q I rv ⟨c, H0, ρ, d, ρ', R, r, f, q⟩ => by
    unfold gT at f
    obtain ⟨xs, h1, f⟩ := bnd_eq f
    split at f
    · rename_i hl
      cases f
      cases d with
      | tup ds =>
        refine pg_tup hc h hn hst pins s σ H v u Q I rv ?_
        have e : ds = xs := Option.some.inj h1
        subst e
        unfold Rep at r
        obtain ⟨a, vs, rfl, sq, r⟩ := r
        exact ⟨a, vs, rfl, Same.seqT R.same sq, by rw [← r.length]; exact hl, c, H0, ρ, ds, R, r, hl, q⟩
      | lst ds =>
        refine pg_lst hc h hn hst pins s σ H v u Q I rv ?_
        have e : ds = xs := Option.some.inj h1
        subst e
        unfold Rep at r
        obtain ⟨a, vs, rfl, sq, r⟩ := r
        exact ⟨a, vs, rfl, Same.seq R.same sq, by rw [← r.length]; exact hl, c, H0, ρ, ds, R, r, hl, q⟩
      | _ => cases h1
    · cases f
theorem xtupset {tg : Expr} {is : List Nat} (hg : XG X tg (gT is)) (he : XE X e F) (hs : swapsWithSole [tg] e pos.line X.env = pure false := by rfl) (hw : swappedStores [tg] e X.env = pure none := by rfl)
    (h1 : (assignEach [tg] X.env).map (·.2) = [assign tg X.env] := by rfl) : XS X (.Assign [tg] e pos) (sTup is F) := PS.wk (ps_asg he hg hs hw h1) fun Dn σ H ⟨c, H0, ρ, r, R, f, q⟩ => by
  unfold sTup at f
  obtain ⟨⟨d, ρ1⟩, h1, f⟩ := bnd_eq f
  obtain ⟨ρ2, h2, f⟩ := bnd_eq f
  have f' : some (Res.nx ρ2) = some r := f
  cases f'
  exact ⟨c, H0, ρ, d, ρ1, R, h1, fun v H1 Hh s1 R1 r1 => ⟨c, H1, ρ1, d, ρ2, R1, r1, h2, fun σ' H2 Hh2 s2 R2 => q σ' H2 Hh2 (s1.trans s2) R2⟩⟩
theorem for_of {K : PySem.W.Frag} {c : FC} {H1 Hh : Hp} {ρ : En} {σ : L2.St} {g : GD} {B : FS} {xs : List D} {J : It} {Dn : Ends} {r : Res} (R : RS K c H1 Hh ρ σ) (hf : fGo g B xs ρ = some r) (hy : Yields K J H1 xs) (q : Post K c Dn H1 r) :
    ∃ W : Nat → Nat → L2.St → Hp → Prop, (∃ m, W 0 m σ Hh) ∧ ∀ i m σ H, W i m σ H →
      (J.stop i H ∧ Dn.nx σ H) ∨ (J.go i H ∧ ∃ N : L2.St → Hp → Prop, (∀ σ' H', N σ' H' → ∃ m', m' < m ∧ W (i + 1) m' σ' H') ∧ ∀ x H', J.yld i H x H' → tG K g x σ H' fun σ2 H2 => tS K B { Dn with nx := N, ct := N, bk := Dn.nx } σ2 H2) := by
  refine ⟨fun i m σ H => m = xs.length - i ∧ i ≤ xs.length ∧ ∃ H0 ρ, Same H1 H0 ∧ RS K c H0 H ρ σ ∧ fGo g B (xs.drop i) ρ = some r, ⟨xs.length, by simp, Nat.zero_le _, H1, ρ, Same.refl _, R, by simpa using hf⟩, ?_⟩
  rintro i m σ H ⟨rfl, hi, H0, ρ, s0, R0, hg⟩
  obtain ⟨y1, y2⟩ := hy H0 H i s0 R0.same
  by_cases hlt : i < xs.length
  · have hd : xs[i]? = some xs[i] := by simp [hlt]
    obtain ⟨go, yl⟩ := y1 _ hd
    refine .inr ⟨go, fun σ' H' => ∃ m', m' < xs.length - i ∧ m' = xs.length - (i + 1) ∧ i + 1 ≤ xs.length ∧ ∃ H0 ρ, Same H1 H0 ∧ RS K c H0 H' ρ σ' ∧ fGo g B (xs.drop (i + 1)) ρ = some r, fun σ' H' ⟨m', a, b⟩ => ⟨m', a, b⟩, fun x H' hx => ?_⟩
    obtain ⟨rfl, rx⟩ := yl x H' hx
    rw [drop_of hd, fGo_cons] at hg
    obtain ⟨ρ1, g1, hg⟩ := bnd_eq hg
    obtain ⟨z, g2, hg⟩ := bnd_eq hg
    refine ⟨c, H0, ρ, _, ρ1, R0, rx, g1, fun σ1 H2 Hh2 s2 R2 => ⟨c, H2, ρ1, z, R2, g2, ?_⟩⟩
    cases z with
    | nx ρ2 => exact fun σ' H3 Hh3 s3 R3 => ⟨_, by omega, rfl, hlt, H3, ρ2, s0.trans (s2.trans s3), R3, hg⟩
    | ct ρ2 => exact fun σ' H3 Hh3 s3 R3 => ⟨_, by omega, rfl, hlt, H3, ρ2, s0.trans (s2.trans s3), R3, hg⟩
    | bk ρ2 =>
      have hg' : some (Res.nx ρ2) = some r := hg
      cases hg'
      exact fun σ' H3 Hh3 s3 R3 => q σ' H3 Hh3 (s0.trans (s2.trans s3)) R3
    | rt d ρ2 =>
      have hg' : some (Res.rt d ρ2) = some r := hg
      cases hg'
      exact fun v σ' H3 Hh3 s3 R3 r3 => q v σ' H3 Hh3 (s0.trans (s2.trans s3)) R3 r3
  · have hn : xs.drop i = [] := List.drop_eq_nil_of_le (by omega)
    rw [hn, fGo_nil] at hg
    have hg' : some (Res.nx ρ) = some r := hg
    cases hg'
    exact .inl ⟨y2 (by omega), q σ H0 H s0 R0⟩
theorem xfor {tg iter : Expr} {body : List Stmt} {g : GD} (hg : XG X tg g) (hi : XE X iter F) (hb : XSs X body B) (hp : PassesOwn (model X.prog X.w) X.A X.env X.xe := by exact PassesOwn.never) (hc : X.calm = true := by rfl) (hs : ∀ x, foldedSetIterable iter X.env x = pure x := by intro _; rfl) :
    XS X (.For tg iter body [] pos) (sFor g F B) := PS.wk (ps_for hp hc (pi_sq hi) hg hb hs) fun Dn σ H ⟨c, H0, ρ, r, R, f, q⟩ => by
  unfold sFor at f
  obtain ⟨⟨d, ρ1⟩, h1, f⟩ := bnd_eq f
  obtain ⟨xs, h2, f⟩ := bnd_eq f
  exact walk_of_data R h1 h2 fun J H1 Hh s1 R1 hy => for_of R1 f hy (q.mono s1)
end
theorem RS.start {K : PySem.W.Frag} {Hi H : Hp} {ds : List D} {vs : List V} {m n : Nat} (s : Same Hi H) (r : Reps K Hi ds vs) (hn : n - vs.length = m) : RS K ⟨Hi, H, []⟩ Hi H (ds.map .im ++ List.replicate m .no) (vs.map some ++ List.replicate (n - vs.length) none) := by
  have hl := r.length
  refine ⟨s, Same.refl _, fun b o e => .inl e, fun b o e _ => e, fun a h => (by cases h), ?_, fun i d e => ?_, fun i b o e => ?_, fun i j b b' o o' a e => ?_⟩
  · rw [List.length_append, List.length_append, List.length_map, List.length_map, List.length_replicate, List.length_replicate, hl, hn]
  · by_cases hi : i < ds.length
    · rw [List.getElem?_append_left (by simpa using hi), List.getElem?_map] at e
      cases z : ds[i]? with
      | none => rw [z] at e; cases e
      | some d' =>
        rw [z] at e
        have e' : d' = d := by have := Option.some.inj e; injection this
        subst e'
        obtain ⟨v, a, b⟩ := r.get z
        exact ⟨v, by rw [List.getElem?_append_left (by simp; omega), List.getElem?_map, a]; rfl, b⟩
    · rw [List.getElem?_append_right (by simpa using Nat.le_of_not_lt hi), List.getElem?_replicate] at e
      split at e <;> cases e
  · by_cases hi : i < ds.length
    · rw [List.getElem?_append_left (by simpa using hi), List.getElem?_map] at e
      cases z : ds[i]? with
      | none => rw [z] at e; cases e
      | some d' => rw [z] at e; cases e
    · rw [List.getElem?_append_right (by simpa using Nat.le_of_not_lt hi), List.getElem?_replicate] at e
      split at e <;> cases e
  · by_cases hi : i < ds.length
    · rw [List.getElem?_append_left (by simpa using hi), List.getElem?_map] at e
      cases z : ds[i]? with
      | none => rw [z] at e; cases e
      | some d' => rw [z] at e; cases e
    · rw [List.getElem?_append_right (by simpa using Nat.le_of_not_lt hi), List.getElem?_replicate] at e
      split at e <;> cases e
theorem fn_ok {P : Program} {w : World} {K : PySem.W.Frag} {mg : Str → Option Value} {base : Heap} {x qual : Str} {st : Stmt} {f : Addr} {fd : FuncData} {N ps : List Str} {k n m : Nat} {B : FS} (F : Fun K x qual st f fd) (S : FnScope N ps (defScope st)) (hn : ps.length = n) (hN : N.length = n + m)
    (hb : ∀ (cdv : Value) (A : Around) (outer : List Env) (s : Shared) (H : Hp) (E : XK), Room k (A.deeper (envOfC qual (defScope st) s.heap.objs.size f cdv)) → XSs (cxOf CX0 P w K mg base N qual (defScope st) f cdv A outer s H E).nox (defBody st) B) :
    FnOk P w K mg base CX0 (k + 1) f fd ps (spP K (fnD n m B)) := by
  have inv : ∀ {ds : List D} {d : D}, fnD n m B ds = some d → ds.length = n ∧ ∃ r, B (ds.map .im ++ List.replicate m .no) = some r ∧ retR r = some d := fun {ds d} h => by
    unfold fnD at h
    split at h
    · rename_i hl
      obtain ⟨r, h1, h2⟩ := bnd_eq h
      exact ⟨hl, r, h1, h2⟩
    · cases h
  refine F.ok S (fun vs H Q E h => ?_) (fun cdv A outer s H vs Q E hr h => ?_)
  · obtain ⟨Hi, ds, d, _, r, e, _⟩ := h
    rw [hn, ← r.length]; exact (inv e).1
  · obtain ⟨Hi, ds, d, hs, r, e, q⟩ := h
    obtain ⟨hl, res, h1, h2⟩ := inv e
    refine ⟨_, hb cdv A outer s H E hr, ⟨Hi, H, []⟩, Hi, _, res, RS.start (n := N.length) (m := m) hs r (by rw [← r.length]; omega), h1, ?_⟩
    cases res with
    | nx ρ' =>
      have e' : D.non = d := Option.some.inj h2
      subst e'
      exact fun σ' H0' H' s0 R => q .non H0' H' R.step (by unfold Rep; rfl)
    | rt d' ρ' =>
      have e' : d' = d := Option.some.inj h2
      subst e'
      exact fun v σ' H0' H' s0 R rv => q v H0' H' R.step rv
    | bk ρ' => cases h2
    | ct ρ' => cases h2
end Fx
set_option maxRecDepth 100000
namespace L2
open PySem PySem.Spec PyProof.Rows
theorem codeAmong_more {pos : Pos} {a b : Int} {c : Value} : ∀ l : List Value, TriplesOk l →
    codeAmong pos (l ++ [rawInt a, rawInt b, c]) = codeAmong pos l ∨ (codeAmong pos l = none ∧ codeAmong pos (l ++ [rawInt a, rawInt b, c]) = some c)
  | [], _ => by
    simp only [List.nil_append, codeAmong, rawInt]
    split
    · exact .inr ⟨trivial, rfl⟩
    · exact .inl rfl
  | [x], h => by cases x <;> exact False.elim h
  | [x, y], h => by cases x <;> first | exact False.elim h | (cases y <;> exact False.elim h)
  | x :: y :: z :: r, h => by
    cases x with
    | int i t =>
      cases y with
      | int k u =>
        simp only [List.cons_append, codeAmong]
        split
        · exact .inl rfl
        · exact codeAmong_more r h
      | _ => exact False.elim h
    | _ => exact False.elim h
abbrev lamObj (params : Arguments) (body : Expr) (scope : Scope) (pm : Value) (c' : Addr) (ctv : Value) : Obj := PySem.W.kla_obj "<lambda>" TabQ params body scope [] pm c' ctv
theorem mk_lam {X : Cx} {pins : List (Addr × Obj)} {σ : St} {H : Hp} {s : Shared} {M : Model} {A : Around} {E : Value → Shared → Prop} {c : Addr} {params : Arguments} {body : Expr} {scope : Scope} {pos : Pos} {fl : Nat} {Q : Value → Shared → Prop}
    (I : Inv X pins σ H s) (hc : X.env.code = .ref c) (C : PySem.W.CodeHd X.base c TabP) (hcl : closureFor scope X.env = pure [])
    (h : ∀ (f c' : Addr) (H' : Hp) (s' : Shared) (pm ctv : Value), Inv X ((f, lamObj params body scope pm c' ctv) :: pins) σ H' s' → Same H H' → H' c' = some (.cod TabQ) → X.s₀.heap.objs.size ≤ f → Q (.ref f) s') :
    wpAny M A (makeFunction "<lambda>" TabQ params (.expr body) scope X.env [] [] [] pos fl) Q E s := by
  have hP0 := I.base.tbls _ _ I.ok.tab
  obtain ⟨ps, hP, tr, al⟩ := (show ObjOk X.prog X.w H s.heap TabP (.tbl TabQ) from I.hok _ _ hP0)
  have hg : s.heap.Ns mainGlobals X.mg := I.ok.mod.glob.keeps I.bk
  obtain ⟨bm, ob, b1, b2, b3, b4, b5, b6⟩ := I.ok.mod.bm
  have b3' := I.bk _ _ b3
  have hbP : bm ≠ TabP := fun q => by rw [q, hP] at b3'; cases b3'; cases b4
  have hgP : mainGlobals ≠ TabP := fun q => by
    obtain ⟨o, es, ep, e, hd, _⟩ := hg
    rw [q, hP] at e; cases e; cases hd
  have notG : bm ≠ mainGlobals := fun q => by
    obtain ⟨o, es, ep, e, hd, _⟩ := hg
    rw [← q, b3'] at e; cases e; rw [hd] at b6; cases b6
  have hB : s.heap.BuiltinsAt X.mg TabP := ⟨bm, ob, b1, b2, notG, hbP, b3', b4, b5, b6⟩
  rcases al pos with z | ⟨c', z, y⟩
  · refine PySem.W.kla_makeFunction hcl I.ok.glob hg hc (C.keeps I.bk) hP tr z hgP hB fun c' ctv h' tk hx hge hlt hrec htb => ?_
    have hfc : H c' = none := I.hok.fresh hge
    have hsz : s.heap.objs.size ≤ h'.objs.size := Nat.le_of_lt (Nat.lt_of_le_of_lt hge hlt)
    have nP : ∀ b, H b = none → b ≠ TabP := fun b n q => by rw [q, hP0] at n; cases n
    let oF : Obj := lamObj params body scope ((X.mg "__name__").getD .none) c' ctv
    have up : ∀ b o, h'.get? b = some o → (h'.push oF).get? b = some o := fun b o e => Heap.get?_push_of_some _ e
    have hok' : HOk X.prog X.w (upd H c' (.cod TabQ)) (h'.push oF) := fun b o e => by
      by_cases hb : b = c'
      · subst hb
        rw [upd_same] at e; cases e
        obtain ⟨d, oc, vs, t, e1, e2, r⟩ := hrec
        cases e1
        exact ⟨_, oc, vs, t, rfl, up _ _ e2, r⟩
      · rw [upd_ne hb] at e
        by_cases hb2 : b = TabP
        · subst hb2
          rw [hP0] at e; cases e
          refine ⟨_, up _ _ htb, ?_, fun pos' => ?_⟩
          · have := TriplesOk_snoc pos.line pos.col (.ref c') ps.toList tr
            simpa using this
          · have q : (ps ++ #[rawInt pos.line, rawInt pos.col, .ref c']).toList = ps.toList ++ [rawInt pos.line, rawInt pos.col, .ref c'] := by simp
            rw [q]
            rcases codeAmong_more (pos := pos') (a := pos.line) (b := pos.col) (c := .ref c') ps.toList tr with w | ⟨_, w⟩
            · rw [w]
              rcases al pos' with v | ⟨c2, v, v2⟩
              · exact .inl v
              · exact .inr ⟨c2, v, by rw [upd_ne (ne_of_none v2 hfc)]; exact v2⟩
            · exact .inr ⟨c', w, upd_same⟩
        · refine (I.hok b o e).stay (fun d v hd q => up _ _ (hx d v ?_ q)) (fun d q => by rw [upd_ne (ne_of_none q hfc)]; exact q) (fun d xs q => by rw [upd_ne (ne_of_none q hfc)]; exact q) fun d xs q => by rw [upd_ne (ne_of_none q hfc)]; exact q
          rcases hd with rfl | hd
          · exact hb2
          · intro w
            rw [w, hP0] at hd; cases hd
    have u : Un X.fs [] H (upd H c' (.cod TabQ)) s.heap (h'.push oF) := by
      refine ⟨fun b o e n _ _ => up _ _ (hx b o (nP b n) e), fun b o e n _ _ => ⟨o.slots, up _ _ (hx b o (nP b n) e)⟩, fun b o e n _ => ?_, fun b o e _ => ?_, fun b xs q => by rw [upd_ne (ne_of_none q hfc)]; exact q, fun b o xs q => by rw [upd_ne (ne_of_none q hfc)]; exact q, fun b xs q => by rw [upd_ne (ne_of_none q hfc)]; exact q⟩
      · rw [upd_ne (Nat.ne_of_lt (Nat.lt_of_lt_of_le (Heap.lt_size e) hge))]; exact n
      · by_cases hb : b = TabP
        · exact ⟨_, up _ _ (by rw [hb]; exact htb)⟩
        · exact ⟨o, up _ _ (hx b o hb e)⟩
    have I1 : Inv X pins σ (upd H c' (.cod TabQ)) { s with heap := h'.push oF, toks := tk } := I.un u hok'
    refine h h'.objs.size c' _ _ ((X.mg "__name__").getD .none) ctv (I1.pins_of fun p hp => ?_) (fun b o e => by rw [upd_ne (ne_of_none e hfc)]; exact e) upd_same (Nat.le_trans I.sz hsz)
    rcases List.mem_cons.mp hp with rfl | hp
    · refine ⟨Heap.get?_push_size _ rfl, ?_, Nat.ne_of_gt (Nat.lt_of_lt_of_le I.lt hsz), I.nofs hsz, fun v => by nofun⟩
      show upd H c' (.cod TabQ) h'.objs.size = none
      rw [upd_ne (Nat.ne_of_gt hlt)]
      exact I.hok.fresh hsz
    · exact I1.pin p (List.mem_append_right _ hp)
  · refine PySem.W.kla_makeFunctionHit hcl I.ok.glob hg hc (C.keeps I.bk) hP tr z hB fun ctv h' tk hk hsz => ?_
    have I1 : Inv X pins σ H { s with heap := h'.push (lamObj params body scope ((X.mg "__name__").getD .none) c' ctv), toks := tk } := I.kept (fun b u e => Heap.get?_push_of_some _ (hk b u e))
    refine h h'.objs.size c' H _ ((X.mg "__name__").getD .none) ctv (I1.pins_of fun p hp => ?_) (Same.refl _) y (Nat.le_trans I.sz hsz)
    rcases List.mem_cons.mp hp with rfl | hp
    · exact ⟨Heap.get?_push_size _ rfl, I.hok.fresh hsz, Nat.ne_of_gt (Nat.lt_of_lt_of_le I.lt hsz), I.nofs hsz, fun v => by nofun⟩
    · exact I1.pin p (List.mem_append_right _ hp)
theorem run_lam {CX : CXT} {P : Program} {w : World} {K : PySem.W.Frag} {mg : Str → Option Value} {base : Heap} {A : Around} {outer : List Env} {s : Shared} {H : Hp} {k : Nat} {f c' : Addr} {params : Arguments} {body : Expr} {scope : Scope} {pm ctv : Value} {N ps : List Str} {us : List Value} {vs : List V} {Q : VK} {E : XK} {args : Args}
    (hr : Room (k + 1) A) (e0 : Env0 P w K mg base A outer s H) (hf : s.heap.get? f = some (lamObj params body scope pm c' ctv)) (hc : H c' = some (.cod TabQ)) (S : FnScope N ps scope)
    (hb : BindsTo s (PySem.W.kla_fn "<lambda>" TabQ params body scope [] pm (.ref c') ctv) args (ps.zip us)) (hl : vs.length = ps.length) (r : Vals vs us)
    (hbody : Room k (A.deeper (envOfC TabQ scope s.heap.objs.size f (.ref c'))) → ∃ t, PE (cxOf CX P w K mg base N TabQ scope f (.ref c') A outer s H E) body t ∧ t (start N vs) H Q) :
    codeAny (model P w) A (.call (.ref f) args) (CR CX outer P w H s Q E) s := by
  have lim : s.heap.NoLimit := e0.mod.nolimit.keeps fun b o e => (e0.bs b o e).1
  have hcr : s.heap.CodeRec (.ref c') TabQ := e0.hok c' _ hc
  have hkind : ∀ y ∈ ps.zip us, scope.names.lookup y.1 = some .local ∨ (scope.names.lookup y.1 = some .cell ∧ ((cellsFrom (s.heap.objs.size + 1) scope.names []).lookup y.1).isSome = true) := fun ⟨n, v⟩ hy => by
    rcases S.par n (List.of_mem_zip hy).1 with q | q
    · exact .inl q
    · exact .inr ⟨q, PySem.W.cellsFrom_some _ _ _ (.inl q)⟩
  refine PySem.W.kla_callFunE hr.depth hf rfl S.co S.gen rfl hcr (hb _ _ _ _ ?_)
  refine wpAny_newFunctionEnv_cells S.kind hkind fun env he s1 x => ?_
  subst he
  refine ⟨lim.keeps x.toInCall.keep, PySem.W.kla_codeExpr ?_⟩
  obtain ⟨t, ht, hq⟩ := hbody (hr.deeper _)
  have I : Inv (cxOf CX P w K mg base N TabQ scope f (.ref c') A outer s H E) [] (start N vs) H s1 := inv_start S hr.hd e0 hl r x
  refine wpAny_mono (ht [] s1 (start N vs) H _ I hq) (fun u s' hs => ?_) fun e s' hs => hs
  obtain ⟨v, H', J, rv, q⟩ := hs
  exact ⟨v, H', J.os, J.bare, J.base, J.hok, rv, q⟩
end L2
set_option maxRecDepth 100000
namespace L2
open PySem PySem.Spec PyProof.Rows
section
variable {X : Cx} {ps qs : List (Addr × Obj)} {σ : St} {H : Hp} {s : Shared}
theorem Inv.sub (I : Inv X ps σ H s) (h : ∀ q ∈ qs, q ∈ ps) : Inv X qs σ H s :=
  I.pins_of fun q hq => I.pin q (List.mem_append.mpr (.inr (h q hq)))
theorem Inv.obj (I : Inv X ps σ H s) {a : Addr} {o : Obj} (h : (a, o) ∈ ps) : s.heap.get? a = some o := (I.pin (a, o) (List.mem_append.mpr (.inr h))).1
structure Young (X : Cx) (ps : List (Addr × Obj)) (a : Addr) : Prop where
  age : X.s₀.heap.objs.size ≤ a
  one : ∀ p, p ∈ X.pn ∨ p ∈ ps → p.1 ≠ a
theorem Young.fresh (I : Inv X ps σ H s) {a : Addr} (h : s.heap.objs.size ≤ a) : Young X ps a :=
  ⟨Nat.le_trans I.sz h, fun p hp e => by
    have := Heap.lt_size (I.pin p (List.mem_append.mpr hp)).1
    rw [e] at this
    exact absurd this (Nat.not_lt.mpr h)⟩
theorem Young.more {a b : Addr} {o : Obj} (y : Young X ps a) (h : b ≠ a) : Young X ((b, o) :: ps) a :=
  ⟨y.age, fun p hp => by
    rcases hp with h1 | h1
    · exact y.one p (.inl h1)
    · cases h1 with
      | head => exact h
      | tail _ h2 => exact y.one p (.inr h2)⟩
theorem Inv.became {a : Addr} {o u : Obj} {g : Heap} {n : Nat} (I : Inv X ((a, o) :: ps) σ H s) (y : Young X ps a) (k : ∀ b v, b ≠ a → s.heap.get? b = some v → g.get? b = some v) (e : g.get? a = some u) (d : ∀ v, u.data ≠ .cell v) :
    Inv X ((a, u) :: ps) σ H { s with heap := g, toks := n } := by
  have P := I.pin (a, o) (List.mem_append.mpr (.inr (.head _)))
  have C : ∀ x c, X.env.cells.lookup x = some c → c ≠ a := fun x c q z => by
    obtain ⟨v, w, h1, h2⟩ := I.cell x c q
    have h3 : w = o := by rw [z, P.1] at h1; exact (Option.some.inj h1).symm
    exact P.2.2.2.2 v (by rw [← h3]; exact h2)
  have J : Inv X ps σ H { s with heap := g, toks := n } := (I.sub fun q h => .tail _ h).turned k P.2.1 P.2.2.1 (.inr y.age) C fun p hp => y.one p (List.mem_append.mp hp)
  refine J.pins_of fun q hq => ?_
  cases hq with
  | head => exact ⟨e, P.2.1, P.2.2.1, P.2.2.2.1, d⟩
  | tail _ h => exact J.pin q (List.mem_append.mpr (.inr h))
theorem Inv.pinNew {a : Addr} {o : Obj} (I : Inv X ps σ H s) (h0 : H a = none) (e : s.heap.get? a = some o) (d : ∀ v, o.data ≠ .cell v) (l : a ≠ X.env.locals) (f : a ∉ X.fs) : Inv X ((a, o) :: ps) σ H s :=
  I.pins_of fun q hq => by
    cases hq with
    | head => exact ⟨e, h0, l, f, d⟩
    | tail _ h => exact I.pin q (List.mem_append.mpr (.inr h))
end
abbrev itObj (l : Addr) (j : Nat) (o : Obj) : Prop := o.cls = .type "list_iterator" ∧ o.data = .fields #[.ref l, .int j 0]
theorem step_ints {X : Cx} {A : Around} {ps : List (Addr × Obj)} {σ : St} {H : Hp} {s : Shared} {It l : Addr} {o : Obj} {j : Nat} {ns : List Int} {Q : Option Value → Shared → Prop} {E : Value → Shared → Prop}
    (hd : A.handled = none) (y : Young X ps It) (I : Inv X ((It, o) :: ps) σ H s) (io : itObj l j o) (sq : SqL X.K H l (ns.map V.int))
    (stop : ns[j]? = none → ∀ s', Inv X ps σ H s' → Q none s')
    (go : ∀ n t o' s', ns[j]? = some n → itObj l (j + 1) o' → Inv X ((It, o') :: ps) σ H s' → Q (some (.int n t)) s') : wpAny (model X.prog X.w) A (pyNext (.ref It)) Q E s := by
  obtain ⟨vs, rv, pl, _⟩ := I.list sq
  have at0 : s.heap.IsListIter It l j := ⟨o, I.obj (.head _), io.1, io.2⟩
  have len : vs.length = ns.length := by rw [← rv.length, List.length_map]
  cases q : ns[j]? with
  | none =>
    have q' : vs.toArray[j]? = none := by
      rw [List.getElem?_toArray, List.getElem?_eq_none_iff, len]
      exact List.getElem?_eq_none_iff.mp q
    refine wpAny_pyNext_list_end hd at0 pl.isList q' fun g x => stop q _ ?_
    have P := I.pin (It, o) (List.mem_append.mpr (.inr (.head _)))
    exact (I.sub fun r h => .tail _ h).turned (t' := s.toks) x P.2.1 P.2.2.1 (.inr y.age) (fun a c e z => by
      obtain ⟨v, w, h1, h2⟩ := I.cell a c e
      rw [z, P.1] at h1
      exact P.2.2.2.2 v (by rw [Option.some.inj h1]; exact h2)) fun p hp => y.one p (List.mem_append.mp hp)
  | some n =>
    obtain ⟨t, ht⟩ := (intsAre_of rv).get j n q
    refine wpAny_pyNext_list_item at0 pl.isList (x := .int n t) (by rw [List.getElem?_toArray]; exact ht) fun g st x => ?_
    obtain ⟨o', e', c', d'⟩ := st
    exact go n t o' _ q ⟨c', d'⟩ (I.became (n := s.toks) y (fun b v hb e => (x.2 b hb).trans e) e' fun v => by rw [d']; nofun)
theorem put_row {X : Cx} {M : Model} {A : Around} {ps : List (Addr × Obj)} {σ : St} {H : Hp} {s : Shared} {S : Addr} {xs ys : Array Value} {c : Nat} {Q : Unit → Shared → Prop} {E : Value → Shared → Prop} (hx : xs.size ≤ 2) (hy : ys.size ≤ 2)
    (y : Young X ps S) (I : Inv X ((S, seqObj "list" xs c) :: ps) σ H s) (h : ∀ c' s', Inv X ((S, seqObj "list" ys c') :: ps) σ H s' → Q () s') : wpAny M A (updateSeq S fun _ => ys) Q E s := by
  have e := I.obj (.head _)
  have sb := Heap.SameBut.update s.heap S (Obj.mapSeq fun _ => ys)
  have big : 2 ≤ sizeLine := by decide
  exact wpAny_updateSeq e rfl (h _ _ (I.became (n := s.toks) y (fun b v hb q => (sb.2 b hb).trans q) (get?_update_seq e fun _ => ys) fun v => by nofun)) (Nat.le_trans hx big) (Nat.le_trans hy (Nat.le_succ_of_le big))
def kLt (a b : Int × Int) : Bool := HT.lexLt [a.1, a.2] [b.1, b.2]
theorem less_keys {X : Cx} {A : Around} {ps : List (Addr × Obj)} {σ : St} {H : Hp} {s : Shared} {a b : Addr} {k m : Int × Int} {Q : Value → Shared → Prop} {E : Value → Shared → Prop} (hu : A.units < cLine) (I : Inv X ps σ H s)
    (ha : SqT X.K H a [.int k.1, .int k.2]) (hb : SqT X.K H b [.int m.1, .int m.2]) (h : Q (.bool (kLt k m)) s) : wpAny (model X.prog X.w) A (richCompare .Lt (.ref a) (.ref b)) Q E s := by
  obtain ⟨us, r1, t1, _⟩ := I.tuple ha
  obtain ⟨ws, r2, t2, _⟩ := I.tuple hb
  exact HT.lt_tupInts t1 t2 (intsAre_of (ns := [k.1, k.2]) r1) (intsAre_of (ns := [m.1, m.2]) r2) hu h
end L2
set_option maxRecDepth 100000
namespace L2
open PySem PySem.Spec PyProof.Rows
def leastK (g : Int → Int × Int) : Option Int → List Int → Option Int
  | o, [] => o
  | none, n :: r => leastK g (some n) r
  | some b, n :: r => leastK g (some (if kLt (g n) (g b) = true then n else b)) r
def KeyOk (X : Cx) (A : Around) (σ : St) (f c' : Addr) (fo : Obj) (g : Int → Int × Int) : Prop :=
  ∀ (ps : List (Addr × Obj)) (H : Hp) (s : Shared) (n : Int) (t : Tok), Inv X ps σ H s → (f, fo) ∈ ps → H c' = some (.cod TabQ) →
    wpAny (model X.prog X.w) A (call (.ref f) [.int n t]) (fun u s' => ∃ ka H', u = .ref ka ∧ Inv X ps σ H' s' ∧ Same H H' ∧ SqT X.K H' ka [.int (g n).1, .int (g n).2]) (fun _ _ => False) s
inductive Holds4 (K : PySem.W.Frag) (g : Int → Int × Int) (H : Hp) : Option Int → Array Value → Prop
  | no : Holds4 K g H none #[]
  | yes (b : Int) (t : Tok) (k : Addr) (h : SqT K H k [.int (g b).1, .int (g b).2]) : Holds4 K g H (some b) #[.int b t, .ref k]
theorem Holds4.size {K : PySem.W.Frag} {g : Int → Int × Int} {H : Hp} {o : Option Int} {xs : Array Value} (h : Holds4 K g H o xs) : xs.size ≤ 2 := by
  cases h with
  | no => exact Nat.zero_le _
  | yes => exact Nat.le_refl _
theorem Holds4.same {K : PySem.W.Frag} {g : Int → Int × Int} {H H' : Hp} {o : Option Int} {xs : Array Value} (h : Holds4 K g H o xs) (e : Same H H') : Holds4 K g H' o xs := by
  cases h with
  | no => exact .no
  | yes b t k q => exact .yes b t k (Fx.Same.seqT e q)
def outK : Option Int → Value → Prop
  | none, v => v = .none
  | some b, v => ∃ t, v = .int b t
section
variable {X : Cx} {A : Around} {σ : St} {ps : List (Addr × Obj)} {f c' l S It : Addr} {fo : Obj} {g : Int → Int × Int} {ns : List Int}
theorem least_loop (hd : A.handled = none) (hu : A.in1.units < cLine) (fm : (f, fo) ∈ ps) (yS : Young X ps S) (yI : Young X ps It) (ne : S ≠ It) (key : KeyOk X A.in1 σ f c' fo g) (R : Result → Shared → Prop) :
    ∀ (r : List Int) (j : Nat) (o : Option Int) (xs : Array Value) (c : Nat) (oi : Obj) (H : Hp) (s : Shared), ns.drop j = r → Inv X ((It, oi) :: (S, seqObj "list" xs c) :: ps) σ H s → itObj l j oi → SqL X.K H l (ns.map V.int) → H c' = some (.cod TabQ) → Holds4 X.K g H o xs →
      (∀ H' s' v, Inv X ps σ H' s' → Same H H' → outK (leastK g o r) v → R (.ok (.ret v)) s') →
      codeAny (model X.prog X.w) A (.builtin "min.loop" ⟨[.ref It, .ref f, .ref S], [(Str.ofString "default", .none)]⟩) R s := by
  have nm : (toString "min" ++ toString ".loop" : String) = "min.loop" := by decide
  intro r
  induction r with
  | nil =>
    intro j o xs c oi H s dr I io sq hc hh out
    have none_j : ns[j]? = none := List.getElem?_eq_none_iff.mpr (List.drop_eq_nil_iff.mp dr)
    apply codeAny_builtin PySem.F.entry_min_loop
    rw [show A.under (.builtin "min.loop" ⟨[.ref It, .ref f, .ref S], [(Str.ofString "default", .none)]⟩) = A.in1 from Around.under_plainId PySem.F.plain_min_loop _]
    change wpAny (model X.prog X.w) A.in1 (seqItems? (.ref S) >>= _) _ _ s
    apply wpAny_bind
    apply wpAny_seqItems (I.obj (.tail _ (.head _))) rfl
    change wpAny (model X.prog X.w) A.in1 (tryCatch (pyNext (.ref It)) _ >>= _) _ _ s
    apply wpAny_bind
    apply wpAny_tryCatch
    refine step_ints (A := A.in1) hd (yI.more ne) I io sq (fun _ s1 I1 => ?_) fun n _ _ _ e => by rw [none_j] at e; cases e
    cases hh with
    | no => exact wpAny_bind (wpAny_rule (wpAny_pure (out H s1 .none (I1.sub fun q h => .tail _ h) (Same.refl _) rfl)))
    | yes b t k q =>
      apply wpAny_bind
      refine put_row (xs := #[.int b t, .ref k]) (ys := #[]) (Nat.le_refl _) (Nat.zero_le _) yS I1 fun _ s2 I2 => ?_
      exact wpAny_bind (wpAny_letGo (wpAny_pure (out H s2 (.int b t) (I2.sub fun q h => .tail _ h) (Same.refl _) ⟨t, rfl⟩)))
  | cons n r ih =>
    intro j o xs c oi H s dr I io sq hc hh out
    have lt : j < ns.length := by
      cases Nat.lt_or_ge j ns.length with
      | inl h => exact h
      | inr h => rw [List.drop_eq_nil_iff.mpr h] at dr; cases dr
    have two : ns[j]? = some n ∧ ns.drop (j + 1) = r := by
      rw [List.drop_eq_getElem_cons lt] at dr
      injection dr with h1 h2
      exact ⟨by rw [List.getElem?_eq_getElem lt, h1], h2⟩
    apply codeAny_builtin PySem.F.entry_min_loop
    rw [show A.under (.builtin "min.loop" ⟨[.ref It, .ref f, .ref S], [(Str.ofString "default", .none)]⟩) = A.in1 from Around.under_plainId PySem.F.plain_min_loop _]
    change wpAny (model X.prog X.w) A.in1 (seqItems? (.ref S) >>= _) _ _ s
    apply wpAny_bind
    apply wpAny_seqItems (I.obj (.tail _ (.head _))) rfl
    change wpAny (model X.prog X.w) A.in1 (tryCatch (pyNext (.ref It)) _ >>= _) _ _ s
    apply wpAny_bind
    apply wpAny_tryCatch
    refine step_ints (A := A.in1) hd (yI.more ne) I io sq (fun e => by rw [two.1] at e; cases e) fun m t oj s1 e ioj I1 => ?_
    have mn : n = m := Option.some.inj (two.1.symm.trans e)
    subst mn
    change wpAny (model X.prog X.w) A.in1 (tryCatch (holding [.int n t] (call (.ref f) [.int n t])) _ >>= _) _ _ s1
    apply wpAny_bind
    apply wpAny_tryCatch
    apply wpAny_holding
    refine wpAny_mono (key _ H s1 n t I1 (.tail _ (.tail _ fm)) hc) (fun u s2 w => ?_) fun _ _ z => z.elim
    obtain ⟨ka, H2, rfl, I2, sm, kq⟩ := w
    have I3 : Inv X ((S, seqObj "list" xs c) :: (It, oj) :: ps) σ H2 s2 := I2.sub fun q h => by
      cases h with
      | head => exact .tail _ (.head _)
      | tail _ h => cases h with
        | head => exact .head _
        | tail _ h => exact .tail _ (.tail _ h)
    have again : ∀ (o' : Option Int) (ys : Array Value) (c2 : Nat) (s3 : Shared), Inv X ((S, seqObj "list" ys c2) :: (It, oj) :: ps) σ H2 s3 → Holds4 X.K g H2 o' ys → leastK g o (n :: r) = leastK g o' r →
        codeAny (model X.prog X.w) A (.builtin "min.loop" ⟨[.ref It, .ref f, .ref S], [(Str.ofString "default", .none)]⟩) R s3 := fun o' ys c2 s3 I4 h4 same =>
      ih (j + 1) o' ys c2 oj H2 s3 two.2 (I4.sub fun q h => by
        cases h with
        | head => exact .tail _ (.head _)
        | tail _ h => cases h with
          | head => exact .head _
          | tail _ h => exact .tail _ (.tail _ h)) ioj (sm.seq sq) (sm _ _ hc) h4 fun H' s' v J sm2 ov => out H' s' v J (sm.trans sm2) (by rw [same]; exact ov)
    have quiet : (Code.builtin "min.loop" ⟨[.ref It, .ref f, .ref S], [(Str.ofString "default", .none)]⟩).quiet = true := plainId_quiet PySem.F.plain_min_loop _
    cases hh with
    | no =>
      apply wpAny_bind
      refine put_row (xs := #[]) (ys := #[.int n t, .ref ka]) (Nat.zero_le _) (Nat.le_refl _) (yS.more (Ne.symm ne)) I3 fun c2 s3 I4 => ?_
      rw [nm]
      exact wpAny_pure ⟨quiet, again (some n) _ c2 s3 I4 (.yes n t ka kq) rfl⟩
    | yes b tb kb hb =>
      change wpAny (model X.prog X.w) A.in1 (tryCatch (holding [.int n t, .ref ka] (richCompare .Lt (.ref ka) (.ref kb) >>= _)) _ >>= _) _ _ s2
      apply wpAny_bind
      apply wpAny_tryCatch
      apply wpAny_holding
      apply wpAny_bind
      refine less_keys hu I2 kq (Fx.Same.seqT sm hb) ?_
      apply wpAny_bind
      apply wpAny_holding
      apply wpAny_truthy_bool
      apply wpAny_bind
      apply wpAny_letGo
      apply wpAny_pure
      cases less : kLt (g n) (g b) with
      | true =>
        rw [if_pos rfl]
        apply wpAny_bind
        refine put_row (xs := #[.int b tb, .ref kb]) (ys := #[.int n t, .ref ka]) (Nat.le_refl _) (Nat.le_refl _) (yS.more (Ne.symm ne)) I3 fun c2 s3 I4 => ?_
        rw [nm]
        exact wpAny_bind (wpAny_letGo (wpAny_pure ⟨quiet, again (some n) _ c2 s3 I4 (.yes n t ka kq) (by rw [leastK, less, if_pos rfl])⟩))
      | false =>
        rw [if_neg Bool.false_ne_true, nm]
        exact wpAny_bind (wpAny_letGo (wpAny_pure ⟨quiet, again (some b) _ c s2 I3 (.yes b tb kb (Fx.Same.seqT sm hb)) (by rw [leastK, less, if_neg Bool.false_ne_true])⟩))
theorem min_args (a v u : Value) : argsOk "min" ⟨[a], [(Str.ofString "key", v), (Str.ofString "default", u)]⟩ := by
  unfold argsOk
  kernel_rfl
theorem min_call {H : Hp} {s : Shared} {Q : Value → Shared → Prop} {E : Value → Shared → Prop} (hd : A.handled = none) (hu : A.in1.units < cLine) (fm : (f, fo) ∈ ps) (I : Inv X ps σ H s) (sq : SqL X.K H l (ns.map V.int)) (hc : H c' = some (.cod TabQ)) (key : KeyOk X A.in1 σ f c' fo g)
    (out : ∀ H' s' v, Inv X ps σ H' s' → Same H H' → outK (leastK g none ns) v → Q v s') :
    wpAny (model X.prog X.w) A (call (.builtin "min") [.ref l] [(Str.ofString "key", .ref f), (Str.ofString "default", .none)]) Q E s := by
  have nm : (toString "min" ++ toString ".loop" : String) = "min.loop" := by decide
  obtain ⟨vs, _, pl, _⟩ := I.list sq
  let oi : Obj := { cls := .type "list_iterator", data := .fields #[.ref l, .int 0 0] }
  let h1 := s.heap.push oi
  let h2 := h1.push (seqObj "list" #[] 0)
  have up : ∀ b u, s.heap.get? b = some u → h2.get? b = some u := fun b u e => Heap.get?_push_of_some _ (Heap.get?_push_of_some _ e)
  have n1 : h1.objs.size = s.heap.objs.size + 1 := size_push' ..
  have le : s.heap.objs.size ≤ h1.objs.size := by rw [n1]; exact Nat.le_succ _
  have I0 : Inv X ps σ H { s with heap := h2 } := I.kept (t' := s.toks) up
  have put : ∀ {qs : List (Addr × Obj)} {a : Addr} {o : Obj}, Inv X qs σ H { s with heap := h2 } → s.heap.objs.size ≤ a → h2.get? a = some o → (∀ v, o.data ≠ .cell v) → Inv X ((a, o) :: qs) σ H { s with heap := h2 } := fun J h e d =>
    J.pinNew (I.hok.fresh h) e d (Nat.ne_of_gt (Nat.lt_of_lt_of_le I.lt h)) (I.nofs h)
  have I1 := put (put I0 (a := h1.objs.size) (o := seqObj "list" #[] 0) le (Heap.get?_push_size _ rfl) (fun v => by nofun)) (a := s.heap.objs.size) (o := oi) (Nat.le_refl _) (Heap.get?_push_of_some _ (Heap.get?_push_size _ rfl)) fun v => by nofun
  apply kmk_tree PySem.F.kind_min PySem.F.plain_min PySem.F.entry_min (min_args _ _ _)
  change wpAny (model X.prog X.w) A.in1 (Builtin.Builtins.bindParams "min" ["key", "default"] 0 ⟨[], [(Str.ofString "key", .ref f), (Str.ofString "default", .none)]⟩ >>= _) _ _ s
  apply wpAny_bind
  rw [show Builtin.Builtins.bindParams "min" ["key", "default"] 0 ⟨[], [(Str.ofString "key", .ref f), (Str.ofString "default", .none)]⟩ = pure [some (.ref f), some .none] from rfl]
  apply wpAny_pure
  apply wpAny_bind
  apply wpAny_pure
  apply wpAny_bind
  apply wpAny_pyIter_list pl.isList
  apply wpAny_bind
  refine wpAny_newList (items := []) ?_ (Nat.zero_le sizeLine)
  rw [nm]
  apply wpAny_pure
  exact ⟨plainId_quiet PySem.F.plain_min_loop _, least_loop (ns := ns) hd hu fm (Young.fresh I le) (Young.fresh I (Nat.le_refl _)) (by rw [n1]; exact Nat.succ_ne_self _) key _ ns 0 none #[] 0 oi H _ rfl I1 ⟨rfl, rfl⟩ sq hc .no fun H' s' v J sm ov => out H' s' v J sm ov⟩
end
end L2
namespace Fx
open PySem
@[simp] theorem dAdd_i (i j : Int) : dAdd (.int i) (.int j) = some (.int (i + j)) := Eq.trans rfl rfl
@[simp] theorem dAdd_l (a b : List D) : dAdd (.lst a) (.lst b) = if a.length + b.length ≤ sizeLine then some (.lst (a ++ b)) else none := Eq.trans rfl rfl
@[simp] theorem dAdd_s (a b : Str) : dAdd (.str a) (.str b) = if a.length + b.length ≤ sizeLine then some (.str (a ++ b)) else none := Eq.trans rfl rfl
@[simp] theorem dSub_i (i j : Int) : dSub (.int i) (.int j) = some (.int (i - j)) := Eq.trans rfl rfl
@[simp] theorem dMul_i (i j : Int) : dMul (.int i) (.int j) = if okMul i j = true then some (.int (i * j)) else none := Eq.trans rfl rfl
@[simp] theorem dDiv_i (i j : Int) : dDiv (.int i) (.int j) = if okDiv j = true then some (.int (i.fdiv j)) else none := Eq.trans rfl rfl
@[simp] theorem dMod_i (i j : Int) : dMod (.int i) (.int j) = if j ≠ 0 then some (.int (i.fmod j)) else none := Eq.trans rfl rfl
@[simp] theorem dPow_i (i j : Int) : dPow (.int i) (.int j) = if 0 ≤ j ∧ j ≤ 64 ∧ i.natAbs < 2 ^ 64 then some (.int (i ^ j.toNat)) else none := Eq.trans rfl rfl
@[simp] theorem dNeg_i (i : Int) : dNeg (.int i) = some (.int (-i)) := Eq.trans rfl rfl
@[simp] theorem dLt_i (i j : Int) : dLt (.int i) (.int j) = some (.bl (decide (i < j))) := Eq.trans rfl rfl
@[simp] theorem dLe_i (i j : Int) : dLe (.int i) (.int j) = some (.bl (decide (i ≤ j))) := Eq.trans rfl rfl
@[simp] theorem dGt_i (i j : Int) : dGt (.int i) (.int j) = some (.bl (decide (j < i))) := Eq.trans rfl rfl
@[simp] theorem dGe_i (i j : Int) : dGe (.int i) (.int j) = some (.bl (decide (j ≤ i))) := Eq.trans rfl rfl
@[simp] theorem dEq_ (x y : D) : dEq x y = if dpD x ≤ 30 ∧ dpD y ≤ 30 then some (.bl (eqD x y)) else none := Eq.trans rfl rfl
@[simp] theorem dNe_ (x y : D) : dNe x y = if dpD x ≤ 30 ∧ dpD y ≤ 30 then some (.bl (!eqD x y)) else none := Eq.trans rfl rfl
@[simp] theorem dIs_ (x : D) : dIs x .non = some (.bl (isN x)) := Eq.trans rfl rfl
@[simp] theorem dIsNot_ (x : D) : dIsNot x .non = some (.bl (!isN x)) := Eq.trans rfl rfl
@[simp] theorem dTru_n  : dTru .non = some false := Eq.trans rfl rfl
@[simp] theorem dTru_b (b : Bool) : dTru (.bl b) = some b := Eq.trans rfl rfl
@[simp] theorem dTru_i (i : Int) : dTru (.int i) = some (i != 0) := Eq.trans rfl rfl
@[simp] theorem dTru_l (xs : List D) : dTru (.lst xs) = some (!xs.isEmpty) := Eq.trans rfl rfl
@[simp] theorem dTru_t (xs : List D) : dTru (.tup xs) = some (!xs.isEmpty) := Eq.trans rfl rfl
@[simp] theorem dIx_t (xs : List D) (i : Int) : dIx (.tup xs) (.int i) = atD xs i := Eq.trans rfl rfl
@[simp] theorem dIx_l (xs : List D) (i : Int) : dIx (.lst xs) (.int i) = atD xs i := Eq.trans rfl rfl
@[simp] theorem dSl_l (xs : List D) (lo hi : Option Int) : dSl (.lst xs) lo hi = some (.lst (dCut xs lo hi)) := Eq.trans rfl rfl
@[simp] theorem dSl_t (xs : List D) (lo hi : Option Int) : dSl (.tup xs) lo hi = if dEnd xs.length 0 lo = 0 ∧ dEnd xs.length xs.length hi = xs.length then none else some (.tup (dCut xs lo hi)) := Eq.trans rfl rfl
@[simp] theorem bAbs_ (i : Int) : bAbs [.int i] = some (.int (i.natAbs : Int)) := congrArg (fun z => some (D.int z)) (show (if i < 0 then -i else i) = (i.natAbs : Int) by split <;> omega)
@[simp] theorem bLen_l (xs : List D) : bLen [.lst xs] = some (.int xs.length) := Eq.trans rfl rfl
@[simp] theorem bLen_t (xs : List D) : bLen [.tup xs] = some (.int xs.length) := Eq.trans rfl rfl
@[simp] theorem bMax_ (i j : Int) : bMax [.int i, .int j] = some (.int (if j > i then j else i)) := Eq.trans rfl rfl
@[simp] theorem bMin_ (i j : Int) : bMin [.int i, .int j] = some (.int (if j < i then j else i)) := Eq.trans rfl rfl
def cnsO {α : Type} (x : α) (o : Option (List α)) : Option (List α) := bnd o fun t => some (x :: t)
@[simp] theorem cnsO_s {α : Type} (x : α) (t : List α) : cnsO x (some t) = some (x :: t) := Eq.trans rfl rfl
@[simp] theorem bools_n  : bools [] = some [] := Eq.trans rfl rfl
@[simp] theorem bools_c (b : Bool) (r : List D) : bools (.bl b :: r) = cnsO b (bools r) := Eq.trans rfl rfl
def anyA (o : Option (List Bool)) : Option D := bnd o fun bs => some (.bl (bs.any id))
def allA (o : Option (List Bool)) : Option D := bnd o fun bs => some (.bl (bs.all id))
@[simp] theorem anyA_s (bs : List Bool) : anyA (some bs) = some (.bl (bs.any id)) := Eq.trans rfl rfl
@[simp] theorem allA_s (bs : List Bool) : allA (some bs) = some (.bl (bs.all id)) := Eq.trans rfl rfl
@[simp] theorem bAny_ (xs : List D) : bAny [.lst xs] = anyA (bools xs) := Eq.trans rfl rfl
@[simp] theorem bAll_ (xs : List D) : bAll [.lst xs] = allA (bools xs) := Eq.trans rfl rfl
@[simp] theorem isTy_int_dct (ks : List Str) (vs : List D) : isTy .int (.dct ks vs) = false := Eq.trans rfl rfl
@[simp] theorem isTy_bool_dct (ks : List Str) (vs : List D) : isTy .bool (.dct ks vs) = false := Eq.trans rfl rfl
@[simp] theorem isTy_str_dct (ks : List Str) (vs : List D) : isTy .str (.dct ks vs) = false := Eq.trans rfl rfl
@[simp] theorem isTy_tuple_dct (ks : List Str) (vs : List D) : isTy .tuple (.dct ks vs) = false := Eq.trans rfl rfl
@[simp] theorem isTy_list_dct (ks : List Str) (vs : List D) : isTy .list (.dct ks vs) = false := Eq.trans rfl rfl
@[simp] theorem isB_dct (b : Bool) (ks : List Str) (vs : List D) : isB b (.dct ks vs) = false := Eq.trans rfl rfl
@[simp] theorem isTy_int_opq : isTy .int .opq = false := Eq.trans rfl rfl
@[simp] theorem isTy_bool_opq : isTy .bool .opq = false := Eq.trans rfl rfl
@[simp] theorem isTy_str_opq : isTy .str .opq = false := Eq.trans rfl rfl
@[simp] theorem isTy_tuple_opq : isTy .tuple .opq = false := Eq.trans rfl rfl
@[simp] theorem isTy_list_opq : isTy .list .opq = false := Eq.trans rfl rfl
@[simp] theorem isB_opq (b : Bool) : isB b .opq = false := Eq.trans rfl rfl
@[simp] theorem isTy_int_non  : isTy .int .non = false := Eq.trans rfl rfl
@[simp] theorem isTy_int_bl (b : Bool) : isTy .int (.bl b) = true := Eq.trans rfl rfl
@[simp] theorem isTy_int_int (b : Int) : isTy .int (.int b) = true := Eq.trans rfl rfl
@[simp] theorem isTy_int_str (b : Str) : isTy .int (.str b) = false := Eq.trans rfl rfl
@[simp] theorem isTy_int_tup (b : List D) : isTy .int (.tup b) = false := Eq.trans rfl rfl
@[simp] theorem isTy_int_lst (b : List D) : isTy .int (.lst b) = false := Eq.trans rfl rfl
@[simp] theorem isTy_bool_non  : isTy .bool .non = false := Eq.trans rfl rfl
@[simp] theorem isTy_bool_bl (b : Bool) : isTy .bool (.bl b) = true := Eq.trans rfl rfl
@[simp] theorem isTy_bool_int (b : Int) : isTy .bool (.int b) = false := Eq.trans rfl rfl
@[simp] theorem isTy_bool_str (b : Str) : isTy .bool (.str b) = false := Eq.trans rfl rfl
@[simp] theorem isTy_bool_tup (b : List D) : isTy .bool (.tup b) = false := Eq.trans rfl rfl
@[simp] theorem isTy_bool_lst (b : List D) : isTy .bool (.lst b) = false := Eq.trans rfl rfl
@[simp] theorem isTy_str_non  : isTy .str .non = false := Eq.trans rfl rfl
@[simp] theorem isTy_str_bl (b : Bool) : isTy .str (.bl b) = false := Eq.trans rfl rfl
@[simp] theorem isTy_str_int (b : Int) : isTy .str (.int b) = false := Eq.trans rfl rfl
@[simp] theorem isTy_str_str (b : Str) : isTy .str (.str b) = true := Eq.trans rfl rfl
@[simp] theorem isTy_str_tup (b : List D) : isTy .str (.tup b) = false := Eq.trans rfl rfl
@[simp] theorem isTy_str_lst (b : List D) : isTy .str (.lst b) = false := Eq.trans rfl rfl
@[simp] theorem isTy_tuple_non  : isTy .tuple .non = false := Eq.trans rfl rfl
@[simp] theorem isTy_tuple_bl (b : Bool) : isTy .tuple (.bl b) = false := Eq.trans rfl rfl
@[simp] theorem isTy_tuple_int (b : Int) : isTy .tuple (.int b) = false := Eq.trans rfl rfl
@[simp] theorem isTy_tuple_str (b : Str) : isTy .tuple (.str b) = false := Eq.trans rfl rfl
@[simp] theorem isTy_tuple_tup (b : List D) : isTy .tuple (.tup b) = true := Eq.trans rfl rfl
@[simp] theorem isTy_tuple_lst (b : List D) : isTy .tuple (.lst b) = false := Eq.trans rfl rfl
@[simp] theorem isTy_list_non  : isTy .list .non = false := Eq.trans rfl rfl
@[simp] theorem isTy_list_bl (b : Bool) : isTy .list (.bl b) = false := Eq.trans rfl rfl
@[simp] theorem isTy_list_int (b : Int) : isTy .list (.int b) = false := Eq.trans rfl rfl
@[simp] theorem isTy_list_str (b : Str) : isTy .list (.str b) = false := Eq.trans rfl rfl
@[simp] theorem isTy_list_tup (b : List D) : isTy .list (.tup b) = false := Eq.trans rfl rfl
@[simp] theorem isTy_list_lst (b : List D) : isTy .list (.lst b) = true := Eq.trans rfl rfl
def mkP (o : Option D) (ρ : En) : Option (D × En) := bnd o fun d => some (d, ρ)
@[simp] theorem mkP_s (d : D) (ρ : En) : mkP (some d) ρ = some (d, ρ) := Eq.trans rfl rfl
@[simp] theorem slV_i (ρ : En) (d : D) : slV ρ (some (.im d)) = some (d, ρ) := Eq.trans rfl rfl
@[simp] theorem eV_ (i : Nat) (ρ : En) : eV i ρ = slV ρ ρ[i]? := Eq.trans rfl rfl
@[simp] theorem eC_ (d : D) (ρ : En) : eC d ρ = some (d, ρ) := Eq.trans rfl rfl
def e1a (op : D → Option D) (o : Option (D × En)) : Option (D × En) := bnd o fun p => bnd (op p.1) fun d => some (d, p.2)
@[simp] theorem e1_ (op : D → Option D) (F : FE) (ρ : En) : e1 op F ρ = e1a op (F ρ) := Eq.trans rfl rfl
@[simp] theorem e1a_s (op : D → Option D) (x : D) (ρ : En) : e1a op (some (x, ρ)) = mkP (op x) ρ := Eq.trans rfl rfl
def e2b (op : D → D → Option D) (x : D) (o : Option (D × En)) : Option (D × En) := bnd o fun q => bnd (op x q.1) fun d => some (d, q.2)
def e2a (op : D → D → Option D) (G : FE) (o : Option (D × En)) : Option (D × En) := bnd o fun p => bnd (G p.2) fun q => bnd (op p.1 q.1) fun d => some (d, q.2)
@[simp] theorem e2_ (op : D → D → Option D) (F G : FE) (ρ : En) : e2 op F G ρ = e2a op G (F ρ) := Eq.trans rfl rfl
@[simp] theorem e2a_s (op : D → D → Option D) (G : FE) (x : D) (ρ : En) : e2a op G (some (x, ρ)) = e2b op x (G ρ) := Eq.trans rfl rfl
@[simp] theorem e2b_s (op : D → D → Option D) (x y : D) (ρ : En) : e2b op x (some (y, ρ)) = mkP (op x y) ρ := Eq.trans rfl rfl
def e3c (op' : D → D → Option D) (L : FE) (y : D) (ρ : En) (o : Option D) : Option (D × En) := bnd o fun z => bnd (blB z) fun b => if b = true then bnd (L ρ) fun r => bnd (op' y r.1) fun d => some (d, r.2) else some (.bl false, ρ)
def e3b (op op' : D → D → Option D) (L : FE) (x : D) (o : Option (D × En)) : Option (D × En) := bnd o fun q => bnd (op x q.1) fun z => bnd (blB z) fun b => if b = true then bnd (L q.2) fun r => bnd (op' q.1 r.1) fun d => some (d, r.2) else some (.bl false, q.2)
def e3a (op op' : D → D → Option D) (G L : FE) (o : Option (D × En)) : Option (D × En) := bnd o fun p => bnd (G p.2) fun q => bnd (op p.1 q.1) fun z => bnd (blB z) fun b => if b = true then bnd (L q.2) fun r => bnd (op' q.1 r.1) fun d => some (d, r.2) else some (.bl false, q.2)
@[simp] theorem e3_ (op op' : D → D → Option D) (F G L : FE) (ρ : En) : e3 op op' F G L ρ = e3a op op' G L (F ρ) := Eq.trans rfl rfl
@[simp] theorem e3a_s (op op' : D → D → Option D) (G L : FE) (x : D) (ρ : En) : e3a op op' G L (some (x, ρ)) = e3b op op' L x (G ρ) := Eq.trans rfl rfl
@[simp] theorem e3b_s (op op' : D → D → Option D) (L : FE) (x y : D) (ρ : En) : e3b op op' L x (some (y, ρ)) = e3c op' L y ρ (op x y) := Eq.trans rfl rfl
@[simp] theorem e3c_t (op' : D → D → Option D) (L : FE) (y : D) (ρ : En) : e3c op' L y ρ (some (.bl true)) = e2b op' y (L ρ) := Eq.trans rfl rfl
@[simp] theorem e3c_f (op' : D → D → Option D) (L : FE) (y : D) (ρ : En) : e3c op' L y ρ (some (.bl false)) = some (.bl false, ρ) := Eq.trans rfl rfl
@[simp] theorem aN_ (ρ : En) : aN ρ = some ([], ρ) := Eq.trans rfl rfl
def aCb (x : D) (o : Option (List D × En)) : Option (List D × En) := bnd o fun q => some (x :: q.1, q.2)
def aCa (A : FA) (o : Option (D × En)) : Option (List D × En) := bnd o fun p => bnd (A p.2) fun q => some (p.1 :: q.1, q.2)
@[simp] theorem aC_ (F : FE) (A : FA) (ρ : En) : aC F A ρ = aCa A (F ρ) := Eq.trans rfl rfl
@[simp] theorem aCa_s (A : FA) (x : D) (ρ : En) : aCa A (some (x, ρ)) = aCb x (A ρ) := Eq.trans rfl rfl
@[simp] theorem aCb_s (x : D) (xs : List D) (ρ : En) : aCb x (some (xs, ρ)) = some (x :: xs, ρ) := Eq.trans rfl rfl
def tupA (o : Option (List D × En)) : Option (D × En) := bnd o fun p => if p.1.length ≤ 1000 then some (.tup p.1, p.2) else none
@[simp] theorem eTup_ (A : FA) (ρ : En) : eTup A ρ = tupA (A ρ) := Eq.trans rfl rfl
@[simp] theorem tupA_s (xs : List D) (ρ : En) : tupA (some (xs, ρ)) = if xs.length ≤ 1000 then some (.tup xs, ρ) else none := Eq.trans rfl rfl
def lstA (o : Option (List D × En)) : Option (D × En) := bnd o fun p => if p.1.length ≤ 1000 then some (.lst p.1, p.2) else none
@[simp] theorem eLst_ (A : FA) (ρ : En) : eLst A ρ = lstA (A ρ) := Eq.trans rfl rfl
@[simp] theorem lstA_s (xs : List D) (ρ : En) : lstA (some (xs, ρ)) = if xs.length ≤ 1000 then some (.lst xs, ρ) else none := Eq.trans rfl rfl
def eFa (g : List D → Option D) (o : Option (List D × En)) : Option (D × En) := bnd o fun p => bnd (g p.1) fun d => some (d, p.2)
@[simp] theorem eF_ (g : List D → Option D) (A : FA) (ρ : En) : eF g A ρ = eFa g (A ρ) := Eq.trans rfl rfl
@[simp] theorem eFa_s (g : List D → Option D) (xs : List D) (ρ : En) : eFa g (some (xs, ρ)) = mkP (g xs) ρ := Eq.trans rfl rfl
def eTya (t : Ty) (o : Option (D × En)) : Option (D × En) := bnd o fun p => some (.bl (isTy t p.1), p.2)
@[simp] theorem eTy_ (t : Ty) (F : FE) (ρ : En) : eTy t F ρ = eTya t (F ρ) := Eq.trans rfl rfl
@[simp] theorem eTya_s (t : Ty) (x : D) (ρ : En) : eTya t (some (x, ρ)) = some (.bl (isTy t x), ρ) := Eq.trans rfl rfl
@[simp] theorem oN_ (ρ : En) : oN ρ = some (none, ρ) := Eq.trans rfl rfl
def oSa (o : Option (D × En)) : Option (Option Int × En) := bnd o fun p => bnd (intI p.1) fun i => some (some i, p.2)
@[simp] theorem oS_ (F : FE) (ρ : En) : oS F ρ = oSa (F ρ) := Eq.trans rfl rfl
@[simp] theorem oSa_s (i : Int) (ρ : En) : oSa (some (.int i, ρ)) = some (some i, ρ) := Eq.trans rfl rfl
def eSlc (x : D) (l : Option Int) (o : Option (Option Int × En)) : Option (D × En) := bnd o fun h => bnd (dSl x l h.1) fun d => some (d, h.2)
def eSlb (hi : FO) (x : D) (o : Option (Option Int × En)) : Option (D × En) := bnd o fun l => bnd (hi l.2) fun h => bnd (dSl x l.1 h.1) fun d => some (d, h.2)
def eSla (lo hi : FO) (o : Option (D × En)) : Option (D × En) := bnd o fun p => bnd (lo p.2) fun l => bnd (hi l.2) fun h => bnd (dSl p.1 l.1 h.1) fun d => some (d, h.2)
@[simp] theorem eSl_ (F : FE) (lo hi : FO) (ρ : En) : eSl F lo hi ρ = eSla lo hi (F ρ) := Eq.trans rfl rfl
@[simp] theorem eSla_s (lo hi : FO) (x : D) (ρ : En) : eSla lo hi (some (x, ρ)) = eSlb hi x (lo ρ) := Eq.trans rfl rfl
@[simp] theorem eSlb_s (hi : FO) (x : D) (l : Option Int) (ρ : En) : eSlb hi x (some (l, ρ)) = eSlc x l (hi ρ) := Eq.trans rfl rfl
@[simp] theorem eSlc_s (x : D) (l h : Option Int) (ρ : En) : eSlc x l (some (h, ρ)) = mkP (dSl x l h) ρ := Eq.trans rfl rfl
def mkB (o : Option Bool) (ρ : En) : Option (Bool × En) := bnd o fun b => some (b, ρ)
@[simp] theorem mkB_s (b : Bool) (ρ : En) : mkB (some b) ρ = some (b, ρ) := Eq.trans rfl rfl
def tBa (o : Option (D × En)) : Option (Bool × En) := bnd o fun p => bnd (blB p.1) fun b => some (b, p.2)
@[simp] theorem tB_ (F : FE) (ρ : En) : tB F ρ = tBa (F ρ) := Eq.trans rfl rfl
@[simp] theorem tBa_s (b : Bool) (ρ : En) : tBa (some (.bl b, ρ)) = some (b, ρ) := Eq.trans rfl rfl
def tVa (o : Option (D × En)) : Option (Bool × En) := bnd o fun p => bnd (dTru p.1) fun b => some (b, p.2)
@[simp] theorem tV_ (F : FE) (ρ : En) : tV F ρ = tVa (F ρ) := Eq.trans rfl rfl
@[simp] theorem tVa_s (x : D) (ρ : En) : tVa (some (x, ρ)) = mkB (dTru x) ρ := Eq.trans rfl rfl
def tAnda (U : FT) (o : Option (Bool × En)) : Option (Bool × En) := bnd o fun p => if p.1 = true then U p.2 else some (false, p.2)
def tOra (U : FT) (o : Option (Bool × En)) : Option (Bool × En) := bnd o fun p => if p.1 = true then some (true, p.2) else U p.2
def tNota (o : Option (Bool × En)) : Option (Bool × En) := bnd o fun p => some (!p.1, p.2)
@[simp] theorem tAnd_ (T U : FT) (ρ : En) : tAnd T U ρ = tAnda U (T ρ) := Eq.trans rfl rfl
@[simp] theorem tAnda_t (U : FT) (ρ : En) : tAnda U (some (true, ρ)) = U ρ := Eq.trans rfl rfl
@[simp] theorem tAnda_f (U : FT) (ρ : En) : tAnda U (some (false, ρ)) = some (false, ρ) := Eq.trans rfl rfl
@[simp] theorem tOr_ (T U : FT) (ρ : En) : tOr T U ρ = tOra U (T ρ) := Eq.trans rfl rfl
@[simp] theorem tOra_t (U : FT) (ρ : En) : tOra U (some (true, ρ)) = some (true, ρ) := Eq.trans rfl rfl
@[simp] theorem tOra_f (U : FT) (ρ : En) : tOra U (some (false, ρ)) = U ρ := Eq.trans rfl rfl
@[simp] theorem tNot_ (T : FT) (ρ : En) : tNot T ρ = tNota (T ρ) := Eq.trans rfl rfl
@[simp] theorem tNota_s (b : Bool) (ρ : En) : tNota (some (b, ρ)) = some (!b, ρ) := Eq.trans rfl rfl
@[simp] theorem tYes_ (ρ : En) : tYes ρ = some (true, ρ) := Eq.trans rfl rfl
def eIfa (F G : FE) (o : Option (Bool × En)) : Option (D × En) := bnd o fun p => if p.1 = true then F p.2 else G p.2
@[simp] theorem eIf_ (T : FT) (F G : FE) (ρ : En) : eIf T F G ρ = eIfa F G (T ρ) := Eq.trans rfl rfl
@[simp] theorem eIfa_t (F G : FE) (ρ : En) : eIfa F G (some (true, ρ)) = F ρ := Eq.trans rfl rfl
@[simp] theorem eIfa_f (F G : FE) (ρ : En) : eIfa F G (some (false, ρ)) = G ρ := Eq.trans rfl rfl
def eAnda (G : FE) (o : Option (D × En)) : Option (D × En) := bnd o fun p => bnd (blB p.1) fun b => if b = true then G p.2 else some (.bl false, p.2)
def eOra (G : FE) (o : Option (D × En)) : Option (D × En) := bnd o fun p => bnd (blB p.1) fun b => if b = true then some (.bl true, p.2) else G p.2
def eNota (o : Option (D × En)) : Option (D × En) := bnd o fun p => bnd (blB p.1) fun b => some (.bl (!b), p.2)
@[simp] theorem eAnd_ (F G : FE) (ρ : En) : eAnd F G ρ = eAnda G (F ρ) := Eq.trans rfl rfl
@[simp] theorem eAnda_t (G : FE) (ρ : En) : eAnda G (some (.bl true, ρ)) = G ρ := Eq.trans rfl rfl
@[simp] theorem eAnda_f (G : FE) (ρ : En) : eAnda G (some (.bl false, ρ)) = some (.bl false, ρ) := Eq.trans rfl rfl
@[simp] theorem eOr_ (F G : FE) (ρ : En) : eOr F G ρ = eOra G (F ρ) := Eq.trans rfl rfl
@[simp] theorem eOra_t (G : FE) (ρ : En) : eOra G (some (.bl true, ρ)) = some (.bl true, ρ) := Eq.trans rfl rfl
@[simp] theorem eOra_f (G : FE) (ρ : En) : eOra G (some (.bl false, ρ)) = G ρ := Eq.trans rfl rfl
@[simp] theorem eNot_ (F : FE) (ρ : En) : eNot F ρ = eNota (F ρ) := Eq.trans rfl rfl
@[simp] theorem eNota_s (b : Bool) (ρ : En) : eNota (some (.bl b, ρ)) = some (.bl (!b), ρ) := Eq.trans rfl rfl
def imA (o : Option Sl) (q : Option En) : Option En := bnd o fun s => bnd q fun r => some (s :: r)
@[simp] theorem imA_s (s : Sl) (r : En) : imA (some s) (some r) = some (s :: r) := Eq.trans rfl rfl
@[simp] theorem slI_i (d : D) : slI (some (.im d)) = some (.im d) := Eq.trans rfl rfl
@[simp] theorem imAt_n (ρ : En) : imAt ρ [] = some [] := Eq.trans rfl rfl
@[simp] theorem imAt_c (ρ : En) (j : Nat) (js : List Nat) : imAt ρ (j :: js) = imA (slI ρ[j]?) (imAt ρ js) := Eq.trans rfl rfl
def cGb (T : FT) (F : FE) (fr : En) (r : List D) (o : Option (D × En)) : Option (List D) := bnd o fun q => bnd (cGo T F fr r) fun t => some (q.1 :: t)
def cGa (T : FT) (F : FE) (fr : En) (r : List D) (o : Option (Bool × En)) : Option (List D) := bnd o fun p => if p.1 = true then bnd (F p.2) fun q => bnd (cGo T F fr r) fun t => some (q.1 :: t) else cGo T F fr r
@[simp] theorem cGo_n (T : FT) (F : FE) (fr : En) : cGo T F fr [] = some [] := Eq.trans rfl rfl
@[simp] theorem cGo_c (T : FT) (F : FE) (fr : En) (d : D) (r : List D) : cGo T F fr (d :: r) = cGa T F fr r (T (.im d :: fr)) := Eq.trans rfl rfl
@[simp] theorem cGa_t (T : FT) (F : FE) (fr : En) (r : List D) (ρ : En) : cGa T F fr r (some (true, ρ)) = cGb T F fr r (F ρ) := Eq.trans rfl rfl
@[simp] theorem cGa_f (T : FT) (F : FE) (fr : En) (r : List D) (ρ : En) : cGa T F fr r (some (false, ρ)) = cGo T F fr r := Eq.trans rfl rfl
@[simp] theorem cGb_s (T : FT) (F : FE) (fr : En) (r : List D) (x : D) (ρ : En) : cGb T F fr r (some (x, ρ)) = cnsO x (cGo T F fr r) := Eq.trans rfl rfl
@[simp] theorem items_l (xs : List D) : items (.lst xs) = some xs := Eq.trans rfl rfl
@[simp] theorem items_s (z : Str) : items (.str z) = some (chs z) := Eq.trans rfl rfl
@[simp] theorem items_t (xs : List D) : items (.tup xs) = some xs := Eq.trans rfl rfl
def eLCd (ρ : En) (xs : List D) (o : Option (List D)) : Option (D × En) := bnd o fun ys => if xs.length ≤ sizeLine then some (.lst ys, ρ) else none
def eLCc (T : FT) (F : FE) (ρ : En) (xs : List D) (o : Option En) : Option (D × En) := bnd o fun fr => eLCd ρ xs (cGo T F fr xs)
def eLCb (js : List Nat) (T : FT) (F : FE) (ρ : En) (o : Option (List D)) : Option (D × En) := bnd o fun xs => eLCc T F ρ xs (imAt ρ js)
def eLCa (js : List Nat) (T : FT) (F : FE) (o : Option (D × En)) : Option (D × En) := bnd o fun p => eLCb js T F p.2 (items p.1)
@[simp] theorem eLC_ (js : List Nat) (I : FE) (T : FT) (F : FE) (ρ : En) : eLC js I T F ρ = eLCa js T F (I ρ) := Eq.trans rfl rfl
@[simp] theorem eLCa_s (js : List Nat) (T : FT) (F : FE) (x : D) (ρ : En) : eLCa js T F (some (x, ρ)) = eLCb js T F ρ (items x) := Eq.trans rfl rfl
@[simp] theorem eLCb_s (js : List Nat) (T : FT) (F : FE) (ρ : En) (xs : List D) : eLCb js T F ρ (some xs) = eLCc T F ρ xs (imAt ρ js) := Eq.trans rfl rfl
@[simp] theorem eLCc_s (T : FT) (F : FE) (ρ : En) (xs : List D) (fr : En) : eLCc T F ρ xs (some fr) = eLCd ρ xs (cGo T F fr xs) := Eq.trans rfl rfl
@[simp] theorem eLCd_s (ρ : En) (xs ys : List D) : eLCd ρ xs (some ys) = if xs.length ≤ sizeLine then some (.lst ys, ρ) else none := Eq.trans rfl rfl
@[simp] theorem sN_ (ρ : En) : sN ρ = some (.nx ρ) := Eq.trans rfl rfl
def sSeqa (G : FS) (o : Option Res) : Option Res := bnd o fun r => nxR G r
@[simp] theorem sSeq_ (F G : FS) (ρ : En) : sSeq F G ρ = sSeqa G (F ρ) := Eq.trans rfl rfl
@[simp] theorem sSeqa_n (G : FS) (ρ : En) : sSeqa G (some (.nx ρ)) = G ρ := Eq.trans rfl rfl
@[simp] theorem sSeqa_r (G : FS) (d : D) (ρ : En) : sSeqa G (some (.rt d ρ)) = some (.rt d ρ) := Eq.trans rfl rfl
@[simp] theorem sSeqa_b (G : FS) (ρ : En) : sSeqa G (some (.bk ρ)) = some (.bk ρ) := Eq.trans rfl rfl
@[simp] theorem sSeqa_c (G : FS) (ρ : En) : sSeqa G (some (.ct ρ)) = some (.ct ρ) := Eq.trans rfl rfl
def sSeta (i : Nat) (o : Option (D × En)) : Option Res := bnd o fun p => some (.nx (p.2.set i (.im p.1)))
@[simp] theorem sSet_ (i : Nat) (F : FE) (ρ : En) : sSet i F ρ = sSeta i (F ρ) := Eq.trans rfl rfl
@[simp] theorem sSeta_s (i : Nat) (x : D) (ρ : En) : sSeta i (some (x, ρ)) = some (.nx (ρ.set i (.im x))) := Eq.trans rfl rfl
@[simp] theorem setAll_c (i : Nat) (is : List Nat) (d : D) (ds : List D) (ρ : En) : setAll (i :: is) (d :: ds) ρ = setAll is ds (ρ.set i (.im d)) := Eq.trans rfl rfl
@[simp] theorem setAll_n (ds : List D) (ρ : En) : setAll [] ds ρ = ρ := by cases ds <;> exact Eq.trans rfl rfl
@[simp] theorem tupX_l (xs : List D) : tupX (.lst xs) = some xs := Eq.trans rfl rfl
@[simp] theorem tupX_t (xs : List D) : tupX (.tup xs) = some xs := Eq.trans rfl rfl
@[simp] theorem gN_ (i : Nat) (d : D) (ρ : En) : gN i d ρ = some (ρ.set i (.im d)) := Eq.trans rfl rfl
def gTa (is : List Nat) (ρ : En) (o : Option (List D)) : Option En := bnd o fun xs => if xs.length = is.length then some (setAll is xs ρ) else none
@[simp] theorem gT_ (is : List Nat) (d : D) (ρ : En) : gT is d ρ = gTa is ρ (tupX d) := Eq.trans rfl rfl
@[simp] theorem gTa_s (is : List Nat) (ρ : En) (xs : List D) : gTa is ρ (some xs) = if xs.length = is.length then some (setAll is xs ρ) else none := Eq.trans rfl rfl
def sTupb (o : Option En) : Option Res := bnd o fun ρ => some (.nx ρ)
def sTupa (is : List Nat) (o : Option (D × En)) : Option Res := bnd o fun p => sTupb (gT is p.1 p.2)
@[simp] theorem sTup_ (is : List Nat) (F : FE) (ρ : En) : sTup is F ρ = sTupa is (F ρ) := Eq.trans rfl rfl
@[simp] theorem sTupa_s (is : List Nat) (x : D) (ρ : En) : sTupa is (some (x, ρ)) = sTupb (gT is x ρ) := Eq.trans rfl rfl
@[simp] theorem sTupb_s (ρ : En) : sTupb (some ρ) = some (.nx ρ) := Eq.trans rfl rfl
def sIfa (F G : FS) (o : Option (Bool × En)) : Option Res := bnd o fun p => if p.1 = true then F p.2 else G p.2
@[simp] theorem sIf_ (T : FT) (F G : FS) (ρ : En) : sIf T F G ρ = sIfa F G (T ρ) := Eq.trans rfl rfl
@[simp] theorem sIfa_t (F G : FS) (ρ : En) : sIfa F G (some (true, ρ)) = F ρ := Eq.trans rfl rfl
@[simp] theorem sIfa_f (F G : FS) (ρ : En) : sIfa F G (some (false, ρ)) = G ρ := Eq.trans rfl rfl
def sReta (o : Option (D × En)) : Option Res := bnd o fun p => some (.rt p.1 p.2)
@[simp] theorem sRet_ (F : FE) (ρ : En) : sRet F ρ = sReta (F ρ) := Eq.trans rfl rfl
@[simp] theorem sReta_s (x : D) (ρ : En) : sReta (some (x, ρ)) = some (.rt x ρ) := Eq.trans rfl rfl
@[simp] theorem sRetN_ (ρ : En) : sRetN ρ = some (.rt .non ρ) := Eq.trans rfl rfl
@[simp] theorem sBk_ (ρ : En) : sBk ρ = some (.bk ρ) := Eq.trans rfl rfl
@[simp] theorem sCt_ (ρ : En) : sCt ρ = some (.ct ρ) := Eq.trans rfl rfl
def fGb (g : D → En → Option En) (B : FS) (r : List D) (o : Option Res) : Option Res := bnd o fun z => goR (fGo g B r) z
def fGa (g : D → En → Option En) (B : FS) (r : List D) (o : Option En) : Option Res := bnd o fun ρ1 => fGb g B r (B ρ1)
theorem fGo_c (g : D → En → Option En) (B : FS) (d : D) (r : List D) (ρ : En) : fGo g B (d :: r) ρ = fGa g B r (g d ρ) := Eq.trans rfl rfl
@[simp] theorem fGa_s (g : D → En → Option En) (B : FS) (r : List D) (ρ : En) : fGa g B r (some ρ) = fGb g B r (B ρ) := Eq.trans rfl rfl
@[simp] theorem fGb_n (g : D → En → Option En) (B : FS) (r : List D) (ρ : En) : fGb g B r (some (.nx ρ)) = fGo g B r ρ := Eq.trans rfl rfl
@[simp] theorem fGb_c (g : D → En → Option En) (B : FS) (r : List D) (ρ : En) : fGb g B r (some (.ct ρ)) = fGo g B r ρ := Eq.trans rfl rfl
@[simp] theorem fGb_b (g : D → En → Option En) (B : FS) (r : List D) (ρ : En) : fGb g B r (some (.bk ρ)) = some (.nx ρ) := Eq.trans rfl rfl
@[simp] theorem fGb_r (g : D → En → Option En) (B : FS) (r : List D) (d : D) (ρ : En) : fGb g B r (some (.rt d ρ)) = some (.rt d ρ) := Eq.trans rfl rfl
def sForb (g : D → En → Option En) (B : FS) (ρ : En) (o : Option (List D)) : Option Res := bnd o fun xs => fGo g B xs ρ
def sFora (g : D → En → Option En) (B : FS) (o : Option (D × En)) : Option Res := bnd o fun p => sForb g B p.2 (items p.1)
@[simp] theorem sFor_ (g : D → En → Option En) (F : FE) (B : FS) (ρ : En) : sFor g F B ρ = sFora g B (F ρ) := Eq.trans rfl rfl
@[simp] theorem sFora_s (g : D → En → Option En) (B : FS) (x : D) (ρ : En) : sFora g B (some (x, ρ)) = sForb g B ρ (items x) := Eq.trans rfl rfl
@[simp] theorem sForb_s (g : D → En → Option En) (B : FS) (ρ : En) (xs : List D) : sForb g B ρ (some xs) = fGo g B xs ρ := Eq.trans rfl rfl
def rng1a (o : Option (D × En)) : Option (List D × En) := bnd o fun p => bnd (intI p.1) fun j => if -(2 ^ 62) ≤ j ∧ j < 2 ^ 62 then some (rngD 0 j.toNat, p.2) else none
@[simp] theorem rng1_ (F : FE) (ρ : En) : rng1 F ρ = rng1a (F ρ) := Eq.trans rfl rfl
@[simp] theorem rng1a_s (j : Int) (ρ : En) : rng1a (some (.int j, ρ)) = if -(2 ^ 62) ≤ j ∧ j < 2 ^ 62 then some (rngD 0 j.toNat, ρ) else none := Eq.trans rfl rfl
def rng2b (x : D) (o : Option (D × En)) : Option (List D × En) := bnd o fun q => bnd (intI x) fun i => bnd (intI q.1) fun j => if -(2 ^ 62) ≤ i ∧ i < 2 ^ 62 ∧ -(2 ^ 62) ≤ j ∧ j < 2 ^ 62 then some (rngD i (j - i).toNat, q.2) else none
def rng2a (G : FE) (o : Option (D × En)) : Option (List D × En) := bnd o fun p => rng2b p.1 (G p.2)
@[simp] theorem rng2_ (F G : FE) (ρ : En) : rng2 F G ρ = rng2a G (F ρ) := Eq.trans rfl rfl
@[simp] theorem rng2a_s (G : FE) (x : D) (ρ : En) : rng2a G (some (x, ρ)) = rng2b x (G ρ) := Eq.trans rfl rfl
@[simp] theorem rng2b_s (i j : Int) (ρ : En) : rng2b (.int i) (some (.int j, ρ)) = if -(2 ^ 62) ≤ i ∧ i < 2 ^ 62 ∧ -(2 ^ 62) ≤ j ∧ j < 2 ^ 62 then some (rngD i (j - i).toNat, ρ) else none := Eq.trans rfl rfl
def sForRa (g : D → En → Option En) (B : FS) (o : Option (List D × En)) : Option Res := bnd o fun p => fGo g B p.1 p.2
@[simp] theorem sForR_ (g : D → En → Option En) (X : FA) (B : FS) (ρ : En) : sForR g X B ρ = sForRa g B (X ρ) := Eq.trans rfl rfl
@[simp] theorem sForRa_s (g : D → En → Option En) (B : FS) (xs : List D) (ρ : En) : sForRa g B (some (xs, ρ)) = fGo g B xs ρ := Eq.trans rfl rfl
def wGb (T : FT) (B : FS) (n : Nat) (o : Option Res) : Option Res := bnd o fun z => goR (wGo T B n) z
def wGa (T : FT) (B : FS) (n : Nat) (o : Option (Bool × En)) : Option Res := bnd o fun p => if p.1 = true then wGb T B n (B p.2) else some (.nx p.2)
@[simp] theorem wGa_t (T : FT) (B : FS) (n : Nat) (ρ : En) : wGa T B n (some (true, ρ)) = wGb T B n (B ρ) := Eq.trans rfl rfl
@[simp] theorem wGa_f (T : FT) (B : FS) (n : Nat) (ρ : En) : wGa T B n (some (false, ρ)) = some (.nx ρ) := Eq.trans rfl rfl
@[simp] theorem wGb_n (T : FT) (B : FS) (n : Nat) (ρ : En) : wGb T B n (some (.nx ρ)) = wGo T B n ρ := Eq.trans rfl rfl
@[simp] theorem wGb_c (T : FT) (B : FS) (n : Nat) (ρ : En) : wGb T B n (some (.ct ρ)) = wGo T B n ρ := Eq.trans rfl rfl
@[simp] theorem wGb_b (T : FT) (B : FS) (n : Nat) (ρ : En) : wGb T B n (some (.bk ρ)) = some (.nx ρ) := Eq.trans rfl rfl
@[simp] theorem wGb_r (T : FT) (B : FS) (n : Nat) (d : D) (ρ : En) : wGb T B n (some (.rt d ρ)) = some (.rt d ρ) := Eq.trans rfl rfl
@[simp] theorem sWhile_ (fuel : En → Nat) (T : FT) (B : FS) (ρ : En) : sWhile fuel T B ρ = wGo T B (fuel ρ) ρ := Eq.trans rfl rfl
def fnA (o : Option Res) : Option D := bnd o fun r => retR r
@[simp] theorem fnA_r (d : D) (ρ : En) : fnA (some (.rt d ρ)) = some d := Eq.trans rfl rfl
@[simp] theorem fnA_n (ρ : En) : fnA (some (.nx ρ)) = some .non := Eq.trans rfl rfl
@[simp] theorem fnD_ (n k : Nat) (B : FS) (ds : List D) : fnD n k B ds = if ds.length = n then fnA (B (ds.map .im ++ List.replicate k .no)) else none := Eq.trans rfl rfl
def oLsta (o : Option (List D × En)) : Option (List D × En) := bnd o fun p => if p.1.length ≤ 1000 then some p else none
@[simp] theorem oLst_ (A : FA) (ρ : En) : oLst A ρ = oLsta (A ρ) := Eq.trans rfl rfl
@[simp] theorem oLsta_s (xs : List D) (ρ : En) : oLsta (some (xs, ρ)) = if xs.length ≤ 1000 then some (xs, ρ) else none := Eq.trans rfl rfl
def oIfa (A B : FA) (o : Option (Bool × En)) : Option (List D × En) := bnd o fun p => if p.1 = true then A p.2 else B p.2
@[simp] theorem oIf_ (T : FT) (A B : FA) (ρ : En) : oIf T A B ρ = oIfa A B (T ρ) := Eq.trans rfl rfl
@[simp] theorem oIfa_t (A B : FA) (ρ : En) : oIfa A B (some (true, ρ)) = A ρ := Eq.trans rfl rfl
@[simp] theorem oIfa_f (A B : FA) (ρ : En) : oIfa A B (some (false, ρ)) = B ρ := Eq.trans rfl rfl
def sOwna (i : Nat) (o : Option (List D × En)) : Option Res := bnd o fun p => some (.nx (p.2.set i (.ow false (.lst p.1))))
@[simp] theorem sOwn_ (i : Nat) (A : FA) (ρ : En) : sOwn i A ρ = sOwna i (A ρ) := Eq.trans rfl rfl
@[simp] theorem sOwna_s (i : Nat) (xs : List D) (ρ : En) : sOwna i (some (xs, ρ)) = some (.nx (ρ.set i (.ow false (.lst xs)))) := Eq.trans rfl rfl
@[simp] theorem owL_s (ds : List D) : owL (some (.ow false (.lst ds))) = some ds := Eq.trans rfl rfl
def sAppc (i : Nat) (x : D) (ρ : En) (o : Option (List D)) : Option Res := bnd o fun ds => if ds.length < 1000000 then some (.nx (ρ.set i (.ow false (.lst (ds ++ [x]))))) else none
def sAppb (i : Nat) (o : Option (D × En)) : Option Res := bnd o fun p => sAppc i p.1 p.2 (owL p.2[i]?)
def sAppa (i : Nat) (F : FE) (ρ : En) (o : Option (List D)) : Option Res := bnd o fun _ => sAppb i (F ρ)
@[simp] theorem sApp_ (i : Nat) (F : FE) (ρ : En) : sApp i F ρ = sAppa i F ρ (owL ρ[i]?) := Eq.trans rfl rfl
@[simp] theorem sAppa_s (i : Nat) (F : FE) (ρ : En) (ds : List D) : sAppa i F ρ (some ds) = sAppb i (F ρ) := Eq.trans rfl rfl
@[simp] theorem sAppb_s (i : Nat) (x : D) (ρ : En) : sAppb i (some (x, ρ)) = sAppc i x ρ (owL ρ[i]?) := Eq.trans rfl rfl
@[simp] theorem sAppc_s (i : Nat) (x : D) (ρ : En) (ds : List D) : sAppc i x ρ (some ds) = if ds.length < 1000000 then some (.nx (ρ.set i (.ow false (.lst (ds ++ [x]))))) else none := Eq.trans rfl rfl
def frza (i : Nat) (ρ : En) : Option Sl → En
  | some (.ow false (.lst ds)) => ρ.set i (.im (.lst ds))
  | _ => ρ
@[simp] theorem frz_ (i : Nat) (ρ : En) : frz i ρ = frza i ρ ρ[i]? := by unfold frz frza; split <;> simp_all
@[simp] theorem frza_o (i : Nat) (ρ : En) (ds : List D) : frza i ρ (some (.ow false (.lst ds))) = ρ.set i (.im (.lst ds)) := Eq.trans rfl rfl
@[simp] theorem frza_i (i : Nat) (ρ : En) (d : D) : frza i ρ (some (.im d)) = ρ := Eq.trans rfl rfl
@[simp] theorem sFrz_ (i : Nat) (F : FS) (ρ : En) : sFrz i F ρ = F (frz i ρ) := Eq.trans rfl rfl
def eLRb (T : FT) (F : FE) (ρ : En) (xs : List D) (o : Option En) : Option (D × En) := bnd o fun fr => eLCd ρ xs (cGo T F fr xs)
def eLRa (js : List Nat) (T : FT) (F : FE) (o : Option (List D × En)) : Option (D × En) := bnd o fun p => eLRb T F p.2 p.1 (imAt p.2 js)
@[simp] theorem eLR_ (js : List Nat) (R : FA) (T : FT) (F : FE) (ρ : En) : eLR js R T F ρ = eLRa js T F (R ρ) := Eq.trans rfl rfl
@[simp] theorem eLRa_s (js : List Nat) (T : FT) (F : FE) (xs : List D) (ρ : En) : eLRa js T F (some (xs, ρ)) = eLRb T F ρ xs (imAt ρ js) := Eq.trans rfl rfl
@[simp] theorem eLRb_s (T : FT) (F : FE) (ρ : En) (xs : List D) (fr : En) : eLRb T F ρ xs (some fr) = eLCd ρ xs (cGo T F fr xs) := Eq.trans rfl rfl
@[simp] theorem isB_non (b : Bool)  : isB b .non = false := Eq.trans rfl rfl
@[simp] theorem isB_int (b : Bool) (c : Int) : isB b (.int c) = false := Eq.trans rfl rfl
@[simp] theorem isB_str (b : Bool) (c : Str) : isB b (.str c) = false := Eq.trans rfl rfl
@[simp] theorem isB_tup (b : Bool) (c : List D) : isB b (.tup c) = false := Eq.trans rfl rfl
@[simp] theorem isB_lst (b : Bool) (c : List D) : isB b (.lst c) = false := Eq.trans rfl rfl
@[simp] theorem isB_bl (b c : Bool) : isB b (.bl c) = decide (c = b) := Eq.trans rfl rfl
def e1Ba (b n : Bool) (o : Option (D × En)) : Option (D × En) := bnd o fun p => some (.bl (if n then !isB b p.1 else isB b p.1), p.2)
@[simp] theorem e1B_ (b n : Bool) (F : FE) (ρ : En) : e1B b n F ρ = e1Ba b n (F ρ) := Eq.trans rfl rfl
@[simp] theorem e1Ba_s (b n : Bool) (x : D) (ρ : En) : e1Ba b n (some (x, ρ)) = some (.bl (if n then !isB b x else isB b x), ρ) := Eq.trans rfl rfl
end Fx
namespace Fx
open PySem
def dBand : D → D → Option D
  | .int i, .int j => some (.int (Builtin.bitAnd i j))
  | _, _ => none
def dBor : D → D → Option D
  | .int i, .int j => some (.int (Builtin.bitOr i j))
  | _, _ => none
def dBxor : D → D → Option D
  | .int i, .int j => some (.int (Builtin.bitXor i j))
  | _, _ => none
def dShr : D → D → Option D
  | .int i, .int j => if 0 ≤ j then some (.int (i / 2 ^ j.toNat)) else none
  | _, _ => none
def atS (z : Str) (i : Int) : Option D := if z.length ≤ sizeLine then bnd (bnd (dPl z.cps.toList.length i) fun j => z.cps.toList[j]?) fun c => some (.str (chS c)) else none
def dIx2 : D → D → Option D
  | .tup xs, .int i => atD xs i
  | .lst xs, .int i => atD xs i
  | .str z, .int i => atS z i
  | _, _ => none
def bLen2 : List D → Option D
  | [.lst xs] => some (.int xs.length)
  | [.tup xs] => some (.int xs.length)
  | [.str z] => if z.length ≤ sizeLine then some (.int z.length) else none
  | _ => none
def flatD : D → Bool
  | .opq => false
  | .dct _ _ => false
  | .tup _ => false
  | .lst _ => false
  | _ => true
def inD (x : D) (xs : List D) : Bool := xs.any fun y => eqD y x
def okIn (x : D) (xs : List D) : Bool := flatD x && xs.all flatD
def dIn : D → D → Option D
  | x, .tup xs => if okIn x xs = true then some (.bl (inD x xs)) else none
  | x, .lst xs => if okIn x xs = true then some (.bl (inD x xs)) else none
  | _, _ => none
def dNotIn : D → D → Option D
  | x, .tup xs => if okIn x xs = true then some (.bl (!inD x xs)) else none
  | x, .lst xs => if okIn x xs = true then some (.bl (!inD x xs)) else none
  | _, _ => none
def bInt : List D → Option D
  | [.int i] => some (.int i)
  | [.bl b] => some (.int (if b then 1 else 0))
  | _ => none
def bTuple : List D → Option D
  | [.lst xs] => some (.tup xs)
  | [.tup xs] => some (.tup xs)
  | _ => none
def bList : List D → Option D
  | [.lst xs] => some (.lst xs)
  | [.tup xs] => some (.lst xs)
  | _ => none
@[simp] theorem dBand_i (i j : Int) : dBand (.int i) (.int j) = some (.int (Builtin.bitAnd i j)) := Eq.trans rfl rfl
@[simp] theorem dBor_i (i j : Int) : dBor (.int i) (.int j) = some (.int (Builtin.bitOr i j)) := Eq.trans rfl rfl
@[simp] theorem dBxor_i (i j : Int) : dBxor (.int i) (.int j) = some (.int (Builtin.bitXor i j)) := Eq.trans rfl rfl
@[simp] theorem dShr_i (i j : Int) : dShr (.int i) (.int j) = if 0 ≤ j then some (.int (i / 2 ^ j.toNat)) else none := Eq.trans rfl rfl
@[simp] theorem dIx2_t (xs : List D) (i : Int) : dIx2 (.tup xs) (.int i) = atD xs i := Eq.trans rfl rfl
@[simp] theorem dIx2_l (xs : List D) (i : Int) : dIx2 (.lst xs) (.int i) = atD xs i := Eq.trans rfl rfl
@[simp] theorem dIx2_s (z : Str) (i : Int) : dIx2 (.str z) (.int i) = atS z i := Eq.trans rfl rfl
@[simp] theorem bLen2_l (xs : List D) : bLen2 [.lst xs] = some (.int xs.length) := Eq.trans rfl rfl
@[simp] theorem bLen2_t (xs : List D) : bLen2 [.tup xs] = some (.int xs.length) := Eq.trans rfl rfl
@[simp] theorem bLen2_s (z : Str) : bLen2 [.str z] = if z.length ≤ sizeLine then some (.int z.length) else none := Eq.trans rfl rfl
@[simp] theorem dIn_t (x : D) (xs : List D) : dIn x (.tup xs) = if okIn x xs = true then some (.bl (inD x xs)) else none := Eq.trans rfl rfl
@[simp] theorem dIn_l (x : D) (xs : List D) : dIn x (.lst xs) = if okIn x xs = true then some (.bl (inD x xs)) else none := Eq.trans rfl rfl
@[simp] theorem dNotIn_t (x : D) (xs : List D) : dNotIn x (.tup xs) = if okIn x xs = true then some (.bl (!inD x xs)) else none := Eq.trans rfl rfl
@[simp] theorem dNotIn_l (x : D) (xs : List D) : dNotIn x (.lst xs) = if okIn x xs = true then some (.bl (!inD x xs)) else none := Eq.trans rfl rfl
@[simp] theorem bInt_i (i : Int) : bInt [.int i] = some (.int i) := Eq.trans rfl rfl
@[simp] theorem bInt_b (b : Bool) : bInt [.bl b] = some (.int (if b then 1 else 0)) := Eq.trans rfl rfl
@[simp] theorem bTuple_l (xs : List D) : bTuple [.lst xs] = some (.tup xs) := Eq.trans rfl rfl
@[simp] theorem bTuple_t (xs : List D) : bTuple [.tup xs] = some (.tup xs) := Eq.trans rfl rfl
@[simp] theorem bList_l (xs : List D) : bList [.lst xs] = some (.lst xs) := Eq.trans rfl rfl
@[simp] theorem bList_t (xs : List D) : bList [.tup xs] = some (.lst xs) := Eq.trans rfl rfl
end Fx
namespace Fx
open PySem
def getK (k : Str) : List (Str × D) → Option D
  | [] => none
  | q :: r => if q.1 = k then some q.2 else getK k r
def setK (k : Str) (d : D) : List (Str × D) → List (Str × D)
  | [] => []
  | q :: r => (if q.1 = k then (q.1, d) else q) :: setK k d r
def owO : Option Sl → Option (Bool × MO)
  | some (.ow b o) => some (b, o)
  | _ => none
def owD : Option Sl → Option (Bool × List (Str × D))
  | some (.ow b (.dic kds)) => some (b, kds)
  | _ => none
def eDG (i : Nat) (k : Str) (ρ : En) : Option (D × En) := bnd (owD ρ[i]?) fun p => bnd (getK k p.2) fun d => some (d, ρ)
def sDP (i : Nat) (k : Str) (F : FE) (ρ : En) : Option Res := bnd (F ρ) fun p => bnd (owD p.2[i]?) fun q => bnd (getK k q.2) fun _ => if q.2.length < 100 then some (.nx (p.2.set i (.ow q.1 (.dic (setK k p.1 q.2))))) else none
def eFb (i : Nat) (g : MO → List D → Option (D × MO)) (A : FA) (ρ : En) : Option (D × En) := bnd (owO ρ[i]?) fun _ => bnd (A ρ) fun p => bnd (owO p.2[i]?) fun q => bnd (g q.2 p.1) fun z => some (z.1, p.2.set i (.ow q.1 z.2))
def retB : Res → Option (D × MO)
  | .rt d ρ => bnd (owO ρ[0]?) fun q => if q.1 = true then some (d, q.2) else none
  | .nx ρ => bnd (owO ρ[0]?) fun q => if q.1 = true then some (.non, q.2) else none
  | _ => none
def fnB (n k : Nat) (B : FS) (o : MO) (ds : List D) : Option (D × MO) := if ds.length = n then bnd (B (.ow true o :: (ds.map .im ++ List.replicate k .no))) fun r => retB r else none
def noOw : Sl → Bool
  | .ow _ _ => false
  | _ => true
def nRet (ks : List Str) (A : FA) (ρ : En) : Option MO := if ρ.all noOw = true then bnd (A ρ) fun p => if p.1.length = ks.length ∧ ks.length ≤ 15 ∧ ks.Nodup then some (.dic (ks.zip p.1)) else none else none
def nSeq (A : FS) (F : En → Option MO) (ρ : En) : Option MO := bnd (A ρ) fun r => match r with
  | .nx ρ' => F ρ'
  | _ => none
def fnN (n k : Nat) (F : En → Option MO) (ds : List D) : Option MO := if ds.length = n then F (ds.map .im ++ List.replicate k .no) else none
def sNew (i : Nat) (g : List D → Option MO) (A : FA) (ρ : En) : Option Res := bnd (A ρ) fun p => bnd (g p.1) fun o => some (.nx (p.2.set i (.ow false o)))
@[simp] theorem owO_s (b : Bool) (o : MO) : owO (some (.ow b o)) = some (b, o) := Eq.trans rfl rfl
@[simp] theorem owD_s (b : Bool) (o : List (Str × D)) : owD (some (.ow b (.dic o))) = some (b, o) := Eq.trans rfl rfl
def eDGa (k : Str) (ρ : En) (o : Option (Bool × List (Str × D))) : Option (D × En) := bnd o fun p => bnd (getK k p.2) fun d => some (d, ρ)
@[simp] theorem eDG_ (i : Nat) (k : Str) (ρ : En) : eDG i k ρ = eDGa k ρ (owD ρ[i]?) := Eq.trans rfl rfl
@[simp] theorem eDGa_s (k : Str) (ρ : En) (b : Bool) (kds : List (Str × D)) : eDGa k ρ (some (b, kds)) = mkP (getK k kds) ρ := Eq.trans rfl rfl
def sDPc (i : Nat) (k : Str) (d : D) (ρ : En) (b : Bool) (kds : List (Str × D)) (o : Option D) : Option Res := bnd o fun _ => if kds.length < 100 then some (.nx (ρ.set i (.ow b (.dic (setK k d kds))))) else none
def sDPb (i : Nat) (k : Str) (d : D) (ρ : En) (o : Option (Bool × List (Str × D))) : Option Res := bnd o fun q => sDPc i k d ρ q.1 q.2 (getK k q.2)
def sDPa (i : Nat) (k : Str) (o : Option (D × En)) : Option Res := bnd o fun p => sDPb i k p.1 p.2 (owD p.2[i]?)
@[simp] theorem sDP_ (i : Nat) (k : Str) (F : FE) (ρ : En) : sDP i k F ρ = sDPa i k (F ρ) := Eq.trans rfl rfl
@[simp] theorem sDPa_s (i : Nat) (k : Str) (d : D) (ρ : En) : sDPa i k (some (d, ρ)) = sDPb i k d ρ (owD ρ[i]?) := Eq.trans rfl rfl
@[simp] theorem sDPb_s (i : Nat) (k : Str) (d : D) (ρ : En) (b : Bool) (kds : List (Str × D)) : sDPb i k d ρ (some (b, kds)) = sDPc i k d ρ b kds (getK k kds) := Eq.trans rfl rfl
@[simp] theorem sDPc_s (i : Nat) (k : Str) (d : D) (ρ : En) (b : Bool) (kds : List (Str × D)) (z : D) : sDPc i k d ρ b kds (some z) = if kds.length < 100 then some (.nx (ρ.set i (.ow b (.dic (setK k d kds))))) else none := Eq.trans rfl rfl
def eFbd (i : Nat) (ρ : En) (b : Bool) (o : Option (D × MO)) : Option (D × En) := bnd o fun z => some (z.1, ρ.set i (.ow b z.2))
def eFbc (i : Nat) (g : MO → List D → Option (D × MO)) (ds : List D) (ρ : En) (o : Option (Bool × MO)) : Option (D × En) := bnd o fun q => eFbd i ρ q.1 (g q.2 ds)
def eFbb (i : Nat) (g : MO → List D → Option (D × MO)) (o : Option (List D × En)) : Option (D × En) := bnd o fun p => eFbc i g p.1 p.2 (owO p.2[i]?)
def eFba (i : Nat) (g : MO → List D → Option (D × MO)) (A : FA) (ρ : En) (o : Option (Bool × MO)) : Option (D × En) := bnd o fun _ => eFbb i g (A ρ)
@[simp] theorem eFb_ (i : Nat) (g : MO → List D → Option (D × MO)) (A : FA) (ρ : En) : eFb i g A ρ = eFba i g A ρ (owO ρ[i]?) := Eq.trans rfl rfl
@[simp] theorem eFba_s (i : Nat) (g : MO → List D → Option (D × MO)) (A : FA) (ρ : En) (q : Bool × MO) : eFba i g A ρ (some q) = eFbb i g (A ρ) := Eq.trans rfl rfl
@[simp] theorem eFbb_s (i : Nat) (g : MO → List D → Option (D × MO)) (ds : List D) (ρ : En) : eFbb i g (some (ds, ρ)) = eFbc i g ds ρ (owO ρ[i]?) := Eq.trans rfl rfl
@[simp] theorem eFbc_s (i : Nat) (g : MO → List D → Option (D × MO)) (ds : List D) (ρ : En) (b : Bool) (o : MO) : eFbc i g ds ρ (some (b, o)) = eFbd i ρ b (g o ds) := Eq.trans rfl rfl
@[simp] theorem eFbd_s (i : Nat) (ρ : En) (b : Bool) (d : D) (o : MO) : eFbd i ρ b (some (d, o)) = some (d, ρ.set i (.ow b o)) := Eq.trans rfl rfl
def sNewb (i : Nat) (ρ : En) (o : Option MO) : Option Res := bnd o fun o => some (.nx (ρ.set i (.ow false o)))
def sNewa (i : Nat) (g : List D → Option MO) (o : Option (List D × En)) : Option Res := bnd o fun p => sNewb i p.2 (g p.1)
@[simp] theorem sNew_ (i : Nat) (g : List D → Option MO) (A : FA) (ρ : En) : sNew i g A ρ = sNewa i g (A ρ) := Eq.trans rfl rfl
@[simp] theorem sNewa_s (i : Nat) (g : List D → Option MO) (ds : List D) (ρ : En) : sNewa i g (some (ds, ρ)) = sNewb i ρ (g ds) := Eq.trans rfl rfl
@[simp] theorem sNewb_s (i : Nat) (ρ : En) (o : MO) : sNewb i ρ (some o) = some (.nx (ρ.set i (.ow false o))) := Eq.trans rfl rfl
end Fx
namespace Fx
open PySem
def dSl2 : D → Option Int → Option Int → Option D
  | .lst xs, lo, hi => some (.lst (dCut xs lo hi))
  | .tup xs, lo, hi => if dEnd xs.length 0 lo = 0 ∧ dEnd xs.length xs.length hi = xs.length then none else some (.tup (dCut xs lo hi))
  | .str z, lo, hi => if z.length ≤ sizeLine then some (.str (Txt.slice z lo hi)) else none
  | _, _, _ => none
def eSl2 (F : FE) (lo hi : FO) (ρ : En) : Option (D × En) := bnd (F ρ) fun p => bnd (lo p.2) fun l => bnd (hi l.2) fun h => bnd (dSl2 p.1 l.1 h.1) fun d => some (d, h.2)
def inS (x z : Str) : Bool := !(Builtin.Str.occurrences z x 0 z.length 1).isEmpty
def dIn2 : D → D → Option D
  | x, .tup xs => if okIn x xs = true then some (.bl (inD x xs)) else none
  | x, .lst xs => if okIn x xs = true then some (.bl (inD x xs)) else none
  | .str x, .str z => some (.bl (inS x z))
  | _, _ => none
def dNotIn2 : D → D → Option D
  | x, .tup xs => if okIn x xs = true then some (.bl (!inD x xs)) else none
  | x, .lst xs => if okIn x xs = true then some (.bl (!inD x xs)) else none
  | .str x, .str z => some (.bl (!inS x z))
  | _, _ => none
def eSl2c (x : D) (l : Option Int) (o : Option (Option Int × En)) : Option (D × En) := bnd o fun h => bnd (dSl2 x l h.1) fun d => some (d, h.2)
def eSl2b (hi : FO) (x : D) (o : Option (Option Int × En)) : Option (D × En) := bnd o fun l => bnd (hi l.2) fun h => bnd (dSl2 x l.1 h.1) fun d => some (d, h.2)
def eSl2a (lo hi : FO) (o : Option (D × En)) : Option (D × En) := bnd o fun p => bnd (lo p.2) fun l => bnd (hi l.2) fun h => bnd (dSl2 p.1 l.1 h.1) fun d => some (d, h.2)
@[simp] theorem eSl2_ (F : FE) (lo hi : FO) (ρ : En) : eSl2 F lo hi ρ = eSl2a lo hi (F ρ) := Eq.trans rfl rfl
@[simp] theorem eSl2a_s (lo hi : FO) (x : D) (ρ : En) : eSl2a lo hi (some (x, ρ)) = eSl2b hi x (lo ρ) := Eq.trans rfl rfl
@[simp] theorem eSl2b_s (hi : FO) (x : D) (l : Option Int) (ρ : En) : eSl2b hi x (some (l, ρ)) = eSl2c x l (hi ρ) := Eq.trans rfl rfl
@[simp] theorem eSl2c_s (x : D) (l h : Option Int) (ρ : En) : eSl2c x l (some (h, ρ)) = mkP (dSl2 x l h) ρ := Eq.trans rfl rfl
@[simp] theorem dSl2_l (xs : List D) (lo hi : Option Int) : dSl2 (.lst xs) lo hi = some (.lst (dCut xs lo hi)) := Eq.trans rfl rfl
@[simp] theorem dSl2_t (xs : List D) (lo hi : Option Int) : dSl2 (.tup xs) lo hi = if dEnd xs.length 0 lo = 0 ∧ dEnd xs.length xs.length hi = xs.length then none else some (.tup (dCut xs lo hi)) := Eq.trans rfl rfl
@[simp] theorem dSl2_s (z : Str) (lo hi : Option Int) : dSl2 (.str z) lo hi = if z.length ≤ sizeLine then some (.str (Txt.slice z lo hi)) else none := Eq.trans rfl rfl
@[simp] theorem dIn2_t (x : D) (xs : List D) : dIn2 x (.tup xs) = if okIn x xs = true then some (.bl (inD x xs)) else none := by cases x <;> rfl
@[simp] theorem dIn2_l (x : D) (xs : List D) : dIn2 x (.lst xs) = if okIn x xs = true then some (.bl (inD x xs)) else none := by cases x <;> rfl
@[simp] theorem dIn2_s (x z : Str) : dIn2 (.str x) (.str z) = some (.bl (inS x z)) := Eq.trans rfl rfl
@[simp] theorem dNotIn2_t (x : D) (xs : List D) : dNotIn2 x (.tup xs) = if okIn x xs = true then some (.bl (!inD x xs)) else none := by cases x <;> rfl
@[simp] theorem dNotIn2_l (x : D) (xs : List D) : dNotIn2 x (.lst xs) = if okIn x xs = true then some (.bl (!inD x xs)) else none := by cases x <;> rfl
@[simp] theorem dNotIn2_s (x z : Str) : dNotIn2 (.str x) (.str z) = some (.bl (!inS x z)) := Eq.trans rfl rfl
end Fx
namespace Fx
open PySem
def owT : Option Sl → Option MO
  | some (.ow true o) => some o
  | _ => none
def frAt (ρ : En) (i : Nat) (o : MO) : List Nat → Option En
  | [] => some []
  | j :: js => bnd (if j = i then some (.ow true o) else slI ρ[j]?) fun s => bnd (frAt ρ i o js) fun r => some (s :: r)
def cGoB (T : FT) (F : FE) (ρ : En) (i : Nat) (js : List Nat) (q : Nat) : MO → List D → Option (List D × MO)
  | o, [] => some ([], o)
  | o, d :: r => bnd (frAt ρ i o js) fun fr => bnd (T (.im d :: fr)) fun p => if p.1 = true then bnd (F p.2) fun z => bnd (owT z.2[q + 1]?) fun o' => bnd (cGoB T F ρ i js q o' r) fun t => some (z.1 :: t.1, t.2)
      else bnd (owT p.2[q + 1]?) fun o' => cGoB T F ρ i js q o' r
def lcB (js : List Nat) (i q : Nat) (T : FT) (F : FE) (xs : List D) (ρ : En) : Option (D × En) := bnd (owO ρ[i]?) fun w => bnd (cGoB T F ρ i js q w.2 xs) fun t => if xs.length ≤ sizeLine ∧ js[q]? = some i ∧ js.Nodup then some (.lst t.1, ρ.set i (.ow w.1 t.2)) else none
def eLCB (js : List Nat) (i q : Nat) (I : FE) (T : FT) (F : FE) (ρ : En) : Option (D × En) := bnd (I ρ) fun p => bnd (items p.1) fun xs => lcB js i q T F xs p.2
end Fx
namespace Fx
open PySem
def ltS (a b : Str) : Bool := decide (a.cps.toList < b.cps.toList)
def insS (x : Str) : List Str → List Str
  | [] => [x]
  | y :: r => if ltS y x = true then y :: insS x r else x :: y :: r
def sortS : List Str → List Str
  | [] => []
  | x :: r => insS x (sortS r)
def txts : List D → Option (List Str)
  | [] => some []
  | .str x :: r => bnd (txts r) fun t => some (x :: t)
  | _ => none
def sortL (xs : List D) : Option D := bnd (txts xs) fun ss => if ss.length < 64 then some (.lst ((sortS ss).map .str)) else none
def bSorted : List D → Option D
  | [.tup xs] => sortL xs
  | [.lst xs] => sortL xs
  | _ => none
def lstX : D → Option (List D)
  | .lst xs => some xs
  | _ => none
def strX : D → Option Str
  | .str x => some x
  | _ => none
def joinL (sep : Str) (xs : List D) : Option D := bnd (txts xs) fun ss => if (ss.map (·.length)).sum + ss.length * sep.length ≤ 1000000 then some (.str (Str.join sep ss)) else none
def eJoin (sep : Str) (F : FE) (ρ : En) : Option (D × En) := bnd (F ρ) fun p => bnd (lstX p.1) fun xs => bnd (joinL sep xs) fun d => some (d, p.2)
def pairsD : List D → Option (List (Str × D))
  | [] => some []
  | .tup [.str k, v] :: r => bnd (pairsD r) fun t => some ((k, v) :: t)
  | _ => none
def getL (xs : List D) (k : D) (d : D) : Option D := bnd (pairsD xs) fun kvs => bnd (strX k) fun k => if kvs.length ≤ 1000 ∧ (kvs.map (·.1)).Nodup then some ((getK k kvs).getD d) else none
def tupY : D → Option (List D)
  | .tup xs => some xs
  | _ => none
@[simp] theorem tupY_t (xs : List D) : tupY (.tup xs) = some xs := Eq.trans rfl rfl
def eDGet (E Kf Df : FE) (ρ : En) : Option (D × En) := bnd (E ρ) fun p => bnd (tupY p.1) fun xs => if p.2.all noOw = true then bnd (Kf p.2) fun q => bnd (Df q.2) fun r => bnd (getL xs q.1 r.1) fun d => some (d, r.2) else none
@[simp] theorem noOw_i (d : D) : noOw (.im d) = true := Eq.trans rfl rfl
@[simp] theorem noOw_n : noOw .no = true := Eq.trans rfl rfl
@[simp] theorem bSorted_t (xs : List D) : bSorted [.tup xs] = sortL xs := Eq.trans rfl rfl
@[simp] theorem bSorted_l (xs : List D) : bSorted [.lst xs] = sortL xs := Eq.trans rfl rfl
@[simp] theorem lstX_l (xs : List D) : lstX (.lst xs) = some xs := Eq.trans rfl rfl
def eJoinb (sep : Str) (ρ : En) (o : Option (List D)) : Option (D × En) := bnd o fun xs => bnd (joinL sep xs) fun d => some (d, ρ)
def eJoina (sep : Str) (o : Option (D × En)) : Option (D × En) := bnd o fun p => eJoinb sep p.2 (lstX p.1)
@[simp] theorem eJoin_ (sep : Str) (F : FE) (ρ : En) : eJoin sep F ρ = eJoina sep (F ρ) := Eq.trans rfl rfl
@[simp] theorem eJoina_s (sep : Str) (x : D) (ρ : En) : eJoina sep (some (x, ρ)) = eJoinb sep ρ (lstX x) := Eq.trans rfl rfl
@[simp] theorem eJoinb_s (sep : Str) (ρ : En) (xs : List D) : eJoinb sep ρ (some xs) = mkP (joinL sep xs) ρ := Eq.trans rfl rfl
def eDGetd (xs : List D) (k : D) (o : Option (D × En)) : Option (D × En) := bnd o fun r => bnd (getL xs k r.1) fun d => some (d, r.2)
def eDGetc (Df : FE) (xs : List D) (o : Option (D × En)) : Option (D × En) := bnd o fun q => eDGetd xs q.1 (Df q.2)
def eDGetb (Kf Df : FE) (ρ : En) (o : Option (List D)) : Option (D × En) := bnd o fun xs => if ρ.all noOw = true then eDGetc Df xs (Kf ρ) else none
def eDGeta (Kf Df : FE) (o : Option (D × En)) : Option (D × En) := bnd o fun p => eDGetb Kf Df p.2 (tupY p.1)
@[simp] theorem eDGet_ (E Kf Df : FE) (ρ : En) : eDGet E Kf Df ρ = eDGeta Kf Df (E ρ) := Eq.trans rfl rfl
@[simp] theorem eDGeta_s (Kf Df : FE) (x : D) (ρ : En) : eDGeta Kf Df (some (x, ρ)) = eDGetb Kf Df ρ (tupY x) := Eq.trans rfl rfl
@[simp] theorem eDGetb_s (Kf Df : FE) (ρ : En) (xs : List D) : eDGetb Kf Df ρ (some xs) = if ρ.all noOw = true then eDGetc Df xs (Kf ρ) else none := Eq.trans rfl rfl
@[simp] theorem eDGetc_s (Df : FE) (xs : List D) (k : D) (ρ : En) : eDGetc Df xs (some (k, ρ)) = eDGetd xs k (Df ρ) := Eq.trans rfl rfl
@[simp] theorem eDGetd_s (xs : List D) (k d : D) (ρ : En) : eDGetd xs k (some (d, ρ)) = mkP (getL xs k d) ρ := Eq.trans rfl rfl
end Fx
namespace Fx
open PySem
def addS (acc : List Str) (x : Str) : List Str := if x ∈ acc then acc else acc ++ [x]
def addAll (acc : List Str) (xs : List Str) : List Str := xs.foldl addS acc
def sortSetL (xs : List D) : Option D := bnd (txts xs) fun ss => if ss.length < 64 then some (.lst ((sortS (addAll [] ss)).map .str)) else none
def bSortSet : List D → Option D
  | [.tup xs] => sortSetL xs
  | [.lst xs] => sortSetL xs
  | _ => none
@[simp] theorem bSortSet_t (xs : List D) : bSortSet [.tup xs] = sortSetL xs := Eq.trans rfl rfl
@[simp] theorem bSortSet_l (xs : List D) : bSortSet [.lst xs] = sortSetL xs := Eq.trans rfl rfl
end Fx
namespace Fx
open PySem
def sqA : D → Option (List D)
  | .tup xs => some xs
  | .lst xs => some xs
  | _ => none
@[simp] theorem sqA_t (xs : List D) : sqA (.tup xs) = some xs := Eq.trans rfl rfl
@[simp] theorem sqA_l (xs : List D) : sqA (.lst xs) = some xs := Eq.trans rfl rfl
end Fx
namespace Fx
open PySem
def dInts : List D → Option (List Int)
  | [] => some []
  | .int i :: r => (dInts r).map (i :: ·)
  | _ :: _ => none
def absI (n : Int) : Int := if n < 0 then -n else n
def nLt (n b : Int) : Bool := if absI n = absI b then decide (b < n) else decide (absI n < absI b)
def nbest : Int → List Int → Int
  | b, [] => b
  | b, n :: r => nbest (if nLt n b = true then n else b) r
def nMin : List Int → D
  | [] => .non
  | n :: r => .int (nbest n r)
def bMinK : List D → Option D
  | [.lst ds] => (dInts ds).map nMin
  | _ => none
end Fx
set_option maxRecDepth 100000
namespace Fx
open PySem PySem.Spec PyProof.Rows L2
theorem RS.heNone {K : PySem.W.Frag} {c : FC} {H0 H : Hp} {ρ : En} {σ : L2.St} (R : RS K c H0 H ρ σ) {p : Addr} (hp : H p = none) : c.He p = none := by
  cases q : c.He p with
  | none => rfl
  | some u =>
    by_cases hb : p ∈ c.Ap
    · exact absurd hp (R.apt p hb)
    · rw [R.keep p u q hb] at hp; cases hp
theorem RS.setOwn {K : PySem.W.Frag} {c : FC} {H0 H : Hp} {ρ : En} {σ : L2.St} {p : Addr} {u : HO} {o : MO} (R : RS K c H0 H ρ σ) (i : Nat) (hp : H p = none) (r : OwOk K H0 (upd H p u) p o) :
    RS K c H0 (upd H p u) (ρ.set i (.ow false o)) (σ.set i (some (.ref p))) := by
  have hl := R.len
  have h0 : H0 p = none := R.same.free hp
  have he := R.heNone hp
  have up : ∀ b v, H b = some v → (upd H p u) b = some v := fun b v e => by rw [upd_ne (ne_of_none e hp)]; exact e
  have other : ∀ (j : Nat) (sl : Sl), j ≠ i → (ρ.set i (.ow false o))[j]? = some sl → ρ[j]? = some sl := fun j sl hj e => by rwa [List.getElem?_set_ne (Ne.symm hj)] at e
  have otherS : ∀ (j : Nat), j ≠ i → (σ.set i (some (V.ref p)))[j]? = σ[j]? := fun j hj => List.getElem?_set_ne (Ne.symm hj)
  have same : ∀ (sl : Sl), (ρ.set i (.ow false o))[i]? = some sl → sl = .ow false o ∧ i < ρ.length := fun sl e => by
    by_cases hi : i < ρ.length
    · rw [List.getElem?_set_self hi] at e; exact ⟨(Option.some.inj e).symm, hi⟩
    · rw [List.getElem?_eq_none (by rw [List.length_set]; omega)] at e; cases e
  have ownNe : ∀ (j : Nat) (b : Bool) (o : MO) (a : Addr), ρ[j]? = some (.ow b o) → σ[j]? = some (some (.ref a)) → a ≠ p := fun j b o a e1 e2 => by
    obtain ⟨a', x, _, _, w⟩ := R.ow j b o e1
    rw [x] at e2; cases e2
    obtain ⟨u, q⟩ := w.some
    exact ne_of_none q hp
  refine ⟨fun b u e => up b u (R.same b u e), R.init, R.fresh, fun b o e n => up b o (R.keep b o e n), fun a ha e => ?_, by rw [List.length_set, List.length_set, hl], fun j d' e => ?_, fun j bb o' e => ?_, fun j k b1 b2 o1 o2 a e1 e2 e3 e4 => ?_⟩
  · cases q : H a with
    | none => exact R.apt a ha q
    | some v => rw [up a v q] at e; cases e
  · by_cases hj : j = i
    · subst hj; obtain ⟨e', _⟩ := same _ e; cases e'
    · rw [otherS j hj]; exact R.im j d' (other j _ hj e)
  · by_cases hj : j = i
    · subst hj
      obtain ⟨e', hi⟩ := same _ e
      cases e'
      exact ⟨p, by rw [List.getElem?_set_self (by omega)], h0, he, r⟩
    · rw [otherS j hj]
      obtain ⟨a, x, y, z, w⟩ := R.ow j bb o' (other j _ hj e)
      exact ⟨a, x, y, z, w.step (Same.refl _) fun v q => up a v q⟩
  · by_cases hj : j = i
    · by_cases hk : k = i
      · omega
      · subst hj
        obtain ⟨_, hi⟩ := same _ e1
        rw [List.getElem?_set_self (by omega)] at e3
        cases e3
        rw [otherS k hk] at e4
        exact absurd rfl (ownNe k b2 o2 _ (other k _ hk e2) e4)
    · by_cases hk : k = i
      · subst hk
        obtain ⟨_, hi⟩ := same _ e2
        rw [List.getElem?_set_self (by omega)] at e4
        cases e4
        rw [otherS j hj] at e3
        exact absurd rfl (ownNe j b1 o1 _ (other j _ hj e1) e3)
      · rw [otherS j hj] at e3; rw [otherS k hk] at e4
        exact R.ne j k b1 b2 o1 o2 a (other j _ hj e1) (other k _ hk e2) e3 e4
theorem RS.lent {K : PySem.W.Frag} {c : FC} {H0 H H0' H' : Hp} {ρ : En} {σ : L2.St} {a : Addr} {b : Bool} {o o' : MO} (R : RS K c H0 H ρ σ) {i : Nat} (hi : ρ[i]? = some (.ow b o)) (ha : σ[i]? = some (some (.ref a)))
    (s0 : Same H0 H0') (s' : Same H0' H') (kp : ∀ x u, H x = some u → x ≠ a → H' x = some u) (fr : ∀ x u, H0' x = some u → H0 x = some u ∨ H x = none) (r : OwOk K H0' H' a o') :
    RS K c H0' H' (ρ.set i (.ow b o')) σ := by
  obtain ⟨a', x, y, z, w⟩ := R.ow i b o hi
  rw [ha] at x; cases x
  obtain ⟨ua, qa⟩ := w.some
  have il : i < ρ.length := (List.getElem?_eq_some_iff.mp hi).1
  have n0 : ∀ x, H0 x = none → H x ≠ none → H0' x = none := fun x h1 h2 => by
    cases q : H0' x with
    | none => rfl
    | some u =>
      rcases fr x u q with h | h
      · rw [h1] at h; cases h
      · exact absurd h h2
  have other : ∀ (j : Nat) (sl : Sl), j ≠ i → (ρ.set i (.ow b o'))[j]? = some sl → ρ[j]? = some sl := fun j sl hj e => by rwa [List.getElem?_set_ne (Ne.symm hj)] at e
  have same : ∀ (sl : Sl), (ρ.set i (.ow b o'))[i]? = some sl → sl = .ow b o' := fun sl e => by
    rw [List.getElem?_set_self il] at e; exact (Option.some.inj e).symm
  have was : ∀ (j : Nat) (bb : Bool) (oo : MO), (ρ.set i (.ow b o'))[j]? = some (.ow bb oo) → ∃ bb o'', ρ[j]? = some (.ow bb o'') := fun j bb oo e => by
    by_cases hj : j = i
    · exact ⟨b, o, by rw [hj]; exact hi⟩
    · exact ⟨bb, oo, other j _ hj e⟩
  refine ⟨s', R.init.trans s0, fun x u e => ?_, fun x u e n => ?_, fun x hx e => ?_, by rw [List.length_set]; exact R.len, fun j d' e => ?_, fun j bb oo e => ?_, fun j k b1 b2 o1 o2 x e1 e2 e3 e4 => ?_⟩
  · rcases fr x u e with h | h
    · exact R.fresh x u h
    · exact .inr (R.heNone h)
  · have : x ≠ a := fun h => by
      cases b with
      | true => exact n (h ▸ z)
      | false =>
        have z' : c.He a = none := z
        rw [h, z'] at e; cases e
    exact kp x u (R.keep x u e n) this
  · by_cases h : x = a
    · obtain ⟨u, q⟩ := r.some
      rw [h, q] at e; cases e
    · cases q : H x with
      | none => exact R.apt x hx q
      | some u => rw [kp x u q h] at e; cases e
  · by_cases hj : j = i
    · subst hj; cases same _ e
    · obtain ⟨v, a1, a2⟩ := R.im j d' (other j _ hj e)
      exact ⟨v, a1, Rep.mono s0 _ a2⟩
  · by_cases hj : j = i
    · subst hj
      cases same _ e
      exact ⟨a, ha, n0 a y (by rw [qa]; intro h; cases h), z, r⟩
    · have q' := other j _ hj e
      obtain ⟨x, x1, y1, z1, w1⟩ := R.ow j bb oo q'
      have nx : x ≠ a := fun h => hj (R.ne j i bb b oo o x q' hi x1 (by rw [h]; exact ha))
      obtain ⟨u, qu⟩ := w1.some
      exact ⟨x, x1, n0 x y1 (by rw [qu]; intro h; cases h), z1, w1.step s0 fun v q => kp x v q nx⟩
  · obtain ⟨_, p, e1⟩ := was j b1 o1 e1
    obtain ⟨_, q, e2⟩ := was k b2 o2 e2
    exact R.ne j k _ _ p q x e1 e2 e3 e4
theorem RS.mutOwn {K : PySem.W.Frag} {c : FC} {H0 H : Hp} {ρ : En} {σ : L2.St} {a : Addr} {b : Bool} {o o' : MO} {u : HO} (R : RS K c H0 H ρ σ) {i : Nat} (hi : ρ[i]? = some (.ow b o)) (ha : σ[i]? = some (some (.ref a))) (r : OwOk K H0 (upd H a u) a o') :
    RS K c H0 (upd H a u) (ρ.set i (.ow b o')) σ := by
  obtain ⟨a', x, y, z, w⟩ := R.ow i b o hi
  rw [ha] at x; cases x
  refine R.lent hi ha (Same.refl _) (fun x v e => ?_) (fun x v e n => by rw [upd_ne n]; exact e) (fun x v e => .inl e) r
  have : x ≠ a := fun h => by rw [h, y] at e; cases e
  rw [upd_ne this]; exact R.same x v e
theorem RS.freeze {K : PySem.W.Frag} {c : FC} {H0 H : Hp} {ρ : En} {σ : L2.St} {ds : List D} (R : RS K c H0 H ρ σ) {i : Nat} (hi : ρ[i]? = some (.ow false (.lst ds))) :
    ∃ H0', Same H0 H0' ∧ RS K c H0' H (ρ.set i (.im (.lst ds))) σ := by
  obtain ⟨a, x, y, z, vs, e, r⟩ := R.ow i _ _ hi
  have he : c.He a = none := z
  have il : i < ρ.length := (List.getElem?_eq_some_iff.mp hi).1
  have s0 : Same H0 (upd H0 a (.lst vs)) := fun b u q => by rw [upd_ne (ne_of_none q y)]; exact q
  have other : ∀ (j : Nat) (sl : Sl), j ≠ i → (ρ.set i (.im (.lst ds)))[j]? = some sl → ρ[j]? = some sl := fun j sl hj e => by rwa [List.getElem?_set_ne (Ne.symm hj)] at e
  have same : ∀ (sl : Sl), (ρ.set i (.im (.lst ds)))[i]? = some sl → sl = .im (.lst ds) := fun sl e => by
    rw [List.getElem?_set_self il] at e; exact (Option.some.inj e).symm
  refine ⟨upd H0 a (.lst vs), s0, fun b u q => ?_, R.init.trans s0, fun b u q => ?_, R.keep, R.apt, by rw [List.length_set]; exact R.len, fun j d' q => ?_, fun j bb o' q => ?_, fun j k b1 b2 o' o'' b e1 e2 e3 e4 => ?_⟩
  · by_cases h : b = a
    · subst h; rw [upd_same] at q; cases q; exact e
    · rw [upd_ne h] at q; exact R.same b u q
  · by_cases h : b = a
    · subst h; exact .inr he
    · rw [upd_ne h] at q; exact R.fresh b u q
  · by_cases hj : j = i
    · subst hj
      cases same _ q
      refine ⟨.ref a, x, ?_⟩
      unfold Rep
      exact ⟨a, vs, rfl, .inl (.inl upd_same), Reps.mono s0 _ r⟩
    · obtain ⟨v, a1, a2⟩ := R.im j d' (other j _ hj q)
      exact ⟨v, a1, Rep.mono s0 _ a2⟩
  · by_cases hj : j = i
    · subst hj; cases same _ q
    · have q' := other j _ hj q
      obtain ⟨b, x1, y1, z1, w1⟩ := R.ow j bb o' q'
      have nb : b ≠ a := fun h => hj (R.ne j i bb false o' _ b q' hi x1 (by rw [h]; exact x))
      exact ⟨b, x1, by rw [upd_ne nb]; exact y1, z1, w1.step s0 fun u q => q⟩
  · by_cases hj : j = i
    · subst hj; cases same _ e1
    · by_cases hk : k = i
      · subst hk; cases same _ e2
      · exact R.ne j k b1 b2 o' o'' b (other j _ hj e1) (other k _ hk e2) e3 e4
def tEo (K : PySem.W.Frag) (A : FA) : TE := fun σ H Q => ∃ c H0 ρ ds ρ', RS K c H0 H ρ σ ∧ A ρ = some (ds, ρ') ∧ ∀ p vs H0' H', Same H0 H0' → RS K c H0' H' ρ' σ → H' p = none → Reps K H0' ds vs → Q (.ref p) (upd H' p (.lst vs))
def XO' (X : Cx) (e : Expr) (A : FA) : Prop := PE X e (tEo X.K A)
theorem owL_eq {o : Option Sl} {ds : List D} (h : owL o = some ds) : o = some (.ow false (.lst ds)) := by
  unfold owL at h
  split at h
  · cases h; rfl
  · cases h
section
variable {X : Cx} {pos : Pos} {e : Expr} {F : FE} {T : FT} {A B : FA}
theorem xoLst {es : List Expr} (h : XA X es A) : XO' X (.List es pos) (oLst A) := PE.wk (pe_lst h) fun σ H Q ⟨c, H0, ρ, ds, ρ', R, f, q⟩ => by
  unfold oLst at f
  obtain ⟨⟨ds', ρ1⟩, h1, f⟩ := bnd_eq f
  obtain ⟨hl, f'⟩ := ifs f
  cases f'
  exact ⟨c, H0, ρ, ds, _, R, h1, fun vs H1 Hh s1 R1 r1 => ⟨by rw [← r1.length]; exact t1000 hl, fun p hp => q p vs H1 Hh s1 R1 hp r1⟩⟩
theorem xoIf {c a b : Expr} (hc : XT X c T) (ha : XO' X a A) (hb : XO' X b B) : XO' X (.IfExp c a b pos) (oIf T A B) := PE.wk (pe_ifExp hc ha hb) fun σ H Q ⟨c, H0, ρ, d, ρ', R, f, q⟩ => by
  unfold oIf at f
  obtain ⟨⟨k, ρ1⟩, h1, f⟩ := bnd_eq f
  dsimp only at f
  refine ⟨c, H0, ρ, k, ρ1, R, h1, fun H1 Hh s1 R1 => ?_⟩
  cases k with
  | true =>
    rw [if_pos rfl] at f ⊢
    exact ⟨c, H1, ρ1, d, ρ', R1, f, fun p vs H2 Hh2 s2 R2 => q p vs H2 Hh2 (s1.trans s2) R2⟩
  | false =>
    rw [if_neg Bool.false_ne_true] at f ⊢
    exact ⟨c, H1, ρ1, d, ρ', R1, f, fun p vs H2 Hh2 s2 R2 => q p vs H2 Hh2 (s1.trans s2) R2⟩
theorem xown (i : Nat) {x : Str} {pos' : Pos} (hN : X.N.Nodup) (he : XO' X e A) (hi : X.N[i]? = some x := by rfl) (hx : Loc X.env.scope x := by first | exact Or.inl rfl | exact Or.inr rfl) (hs : swapsWith e (some (.Name x pos')) pos.line X.env = pure false := by rfl)
    (hf : X.fn x = true ∨ X.env.scope.names.lookup x = some .local := by first | exact .inl rfl | exact .inr rfl) : XS X (.Assign [.Name x pos'] e pos) (sOwn i A) := PS.wk (ps_set hN hi hx he hs hf) fun Dn σ H ⟨c, H0, ρ, r, R, f, q⟩ => by
  unfold sOwn at f
  obtain ⟨⟨ds, ρ1⟩, h1, f⟩ := bnd_eq f
  have f' : some (Res.nx (ρ1.set i (.ow false (.lst ds)))) = some r := f
  cases f'
  exact ⟨c, H0, ρ, ds, ρ1, R, h1, fun p vs H1 Hh s1 R1 hp r1 => q _ H1 _ s1 (R1.setOwn (o := .lst ds) (u := .lst vs) i hp ⟨vs, upd_same, r1⟩)⟩
theorem xapp (i : Nat) {x : Str} {p1 p2 p3 : Pos} (ha : XA X [e] (aC F aN)) (hN : X.N[i]? = some x := by rfl) (hv : Vis X.env.scope x := by first | exact Or.inl rfl | exact Or.inr (Or.inl rfl) | exact Or.inr (Or.inr rfl)) (hd : (x == ("__debug__" : Str)) = false := by decide)
    (hcd : (x == ("__classdict__" : Str)) = false := by decide) (hbase : attributeBase (.Name x p1) "append" X.env (eval (.Name x p1) X.env) = eval (.Name x p1) X.env := by rfl)
    (hfew : ((backTo p3 (starEach [e] X.env)).all (fun x => !x.1) && (backToKw p3 (keywordEach [] X.env)).all (fun x => x.1.isSome) && decide ([e].length + ([] : List Keyword).length + (if ([] : List Keyword).isEmpty then 0 else 1) < 30)) = true := by rfl)
    (hline : (p2.endLine == p3.line) = true := by rfl) (hst : starEach [e] X.env = (false, eval e X.env) :: starEach [] X.env := by rfl) (hpl : (backTo p3 (starEach [] X.env)).any (·.1) = false := by rfl)
    (hs : swapsWith (.Call (.Attribute (.Name x p1) "append" p2) [e] [] p3) none pos.line X.env = pure false := by rfl) :
    XS X (.Expr (.Call (.Attribute (.Name x p1) "append" p2) [e] [] p3) pos) (sApp i F) :=
  PS.wk (ps_expr (pe_bm PySem.F.plainAttrs_list PySem.F.slot_list_append PySem.F.type_list_append mt_append (pe_var hN hv hd hcd) ha hbase hfew hline hst hpl) hs) fun Dn σ H ⟨c, H0, ρ, r, R, f, q⟩ => by
    unfold sApp at f
    obtain ⟨ds0, h0, f⟩ := bnd_eq f
    obtain ⟨⟨d, ρ1⟩, h1, f⟩ := bnd_eq f
    obtain ⟨ds, h2, f⟩ := bnd_eq f
    dsimp only at h2 f
    obtain ⟨hl, f'⟩ := ifs f
    cases f'
    obtain ⟨a, x1, _, _, vs0, y1, _⟩ := R.ow i _ _ (owL_eq h0)
    refine ⟨.ref a, x1, .inl ⟨rfl, vs0, SqL.of y1⟩, c, H0, ρ, [d], ρ1, R, by unfold aC aN; rw [h1]; rfl, fun vs H1 Hh s1 R1 r1 => ?_⟩
    obtain ⟨v, rfl, rv⟩ := Reps.v1 r1
    obtain ⟨a', x2, _, _, ws, y2, z2⟩ := R1.ow i _ _ (owL_eq h2)
    rw [x1] at x2; cases x2
    refine ⟨a, ws, v, rfl, rfl, y2, ?_, ?_⟩
    · rw [← z2.length]
      exact Nat.lt_of_lt_of_le hl (by rw [sizeLine_eq]; decide)
    · exact q σ H1 _ s1 (R1.mutOwn (o' := .lst (ds ++ [d])) (u := .lst (ws ++ [v])) (owL_eq h2) x1 ⟨_, upd_same, z2.app (Reps.one rv)⟩)
theorem xfrz (i : Nat) {st : Stmt} {G : FS} (h : XS X st G) : XS X st (sFrz i G) := PS.wk h fun Dn σ H ⟨c, H0, ρ, r, R, f, q⟩ => by
  unfold sFrz frz at f
  cases z : ρ[i]? with
  | none => rw [z] at f; exact ⟨c, H0, ρ, r, R, f, q⟩
  | some sl =>
    rw [z] at f
    cases sl with
    | no => exact ⟨c, H0, ρ, r, R, f, q⟩
    | im d => exact ⟨c, H0, ρ, r, R, f, q⟩
    | ow b o =>
      cases b with
      | true => exact ⟨c, H0, ρ, r, R, f, q⟩
      | false =>
      cases o with
      | dic kds => exact ⟨c, H0, ρ, r, R, f, q⟩
      | lst ds =>
        obtain ⟨H0', s0, R'⟩ := R.freeze z
        exact ⟨c, H0', _, r, R', f, q.mono s0⟩
end
section
variable {X : Cx} {scope sc : Scope} {x : Str} {frees : List Str} {js : List Nat} {px pos p pos' : Pos} {elt a b : Expr} {ifs : List Expr} {F G I : FE} {T : FT}
end
end Fx
set_option maxRecDepth 100000
namespace Fx
open PySem PySem.Spec PyProof.Rows L2
section
variable {X : Cx} {K : PySem.W.Frag}
theorem rep_str (H : Hp) (x : Str) : Rep K H (.str x) (.str x) := by unfold Rep; rfl
theorem ixD2 : OpD K (rIx K) dIx2 := fun c H0 H ρ σ x y d vx vy Q R r1 r2 e q => by
  cases y with
  | int i =>
    unfold Rep at r2; subst r2
    cases x with
    | tup ds =>
      unfold Rep at r1
      obtain ⟨p, vs, rfl, s, t⟩ := r1
      obtain ⟨v, e1, e2⟩ := at_of t e
      exact .inr (.inl ⟨p, vs, i, v, rfl, rfl, Same.seqT R.same s, e1, q v H0 H (Same.refl _) R e2⟩)
    | lst ds =>
      unfold Rep at r1
      obtain ⟨p, vs, rfl, s, t⟩ := r1
      obtain ⟨v, e1, e2⟩ := at_of t e
      exact .inl ⟨p, vs, i, v, rfl, rfl, Same.seq R.same s, e1, q v H0 H (Same.refl _) R e2⟩
    | str z =>
      unfold Rep at r1; subst r1
      have e : atS z i = some d := e
      unfold atS at e
      by_cases hz : z.length ≤ sizeLine
      · rw [if_pos hz] at e
        obtain ⟨ch, e1, e2⟩ := bnd_eq e
        have e2 : some (D.str (chS ch)) = some d := e2
        cases e2
        exact .inr (.inr ⟨z, i, ch, rfl, rfl, hz, e1, q _ H0 H (Same.refl _) R (rep_str H0 (chS ch))⟩)
      · rw [if_neg hz] at e; cases e
    | _ => cases e
  | _ => cases x <;> cases e
variable {a b : Expr} {F G : FE} {pos : Pos}
theorem xix2 (ha : XE X a F) (hb : XE X b G) (hs : PlainIx b := by intro _ _; rfl) : XE X (.Subscript a b pos) (e2 dIx2 F G) := PE.wk (pe_ix ix_seq ha hb hs) fun σ H Q h => two_of ixD2 h
end
end Fx
set_option maxRecDepth 100000
namespace Fx
open PySem PySem.Spec PyProof.Rows L2
section
variable {K : PySem.W.Frag} {H : Hp}
end
section
variable {X : Cx} {pos : Pos} {e : Expr} {F : FE} {A : FA}
def spB (K : PySem.W.Frag) (g : MO → List D → Option (D × MO)) : Sp := fun vs H Q _ => ∃ Hi a o vr ds d o', vs = .ref a :: vr ∧ Same Hi H ∧ Hi a = none ∧ OwOk K Hi H a o ∧ Reps K Hi ds vr ∧ g o ds = some (d, o') ∧
  ∀ v Hi' H', Same Hi Hi' → Same Hi' H' → (∀ b u, H b = some u → b ≠ a → H' b = some u) → (∀ b u, Hi' b = some u → Hi b = some u ∨ H b = none) → OwOk K Hi' H' a o' → Rep K Hi' d v → Q v H'
structure DefB (P : Program) (w : World) (K : PySem.W.Frag) (mg : Str → Option Value) (base : Heap) (k : Nat) (x : Str) (g : MO → List D → Option (D × MO)) : Prop where
  ex : ∃ f fd ps, FnOk P w K mg base CX0 k f fd ps (spB K g) ∧ Binds K fd ps [] ∧ PySem.W.keepIn K (.ref f) = true ∧ mg x = some (.ref f)
end
end Fx
set_option maxRecDepth 100000
namespace Fx
open PySem PySem.Spec PyProof.Rows L2
def NewAt (K : PySem.W.Frag) (Hi H : Hp) (o : MO) (a : Addr) (Hi' H' : Hp) : Prop :=
  Same Hi Hi' ∧ Same Hi' H' ∧ Same H H' ∧ (∀ b u, Hi' b = some u → Hi b = some u ∨ H b = none) ∧ Hi' a = none ∧ H a = none ∧ OwOk K Hi' H' a o
def spN (K : PySem.W.Frag) (g : List D → Option MO) : Sp := fun vs H Q _ => ∃ Hi ds o, Same Hi H ∧ Reps K Hi ds vs ∧ g ds = some o ∧ ∀ a Hi' H', NewAt K Hi H o a Hi' H' → Q (.ref a) H'
structure DefN (P : Program) (w : World) (K : PySem.W.Frag) (mg : Str → Option Value) (base : Heap) (k : Nat) (x : Str) (g : List D → Option MO) : Prop where
  ex : ∃ f fd ps, FnOk P w K mg base CX0 k f fd ps (spN K g) ∧ Binds K fd ps [] ∧ PySem.W.keepIn K (.ref f) = true ∧ mg x = some (.ref f)
section
variable {X : Cx} {pos : Pos} {e : Expr} {F : FE} {A : FA}
end
end Fx
set_option maxRecDepth 100000
namespace Fx
open PySem PySem.Spec PyProof.Rows L2
section
variable {X : Cx} {K : PySem.W.Frag} {pos : Pos} {e : Expr} {F : FE}
def rSlS : V → Option Int → Option Int → Hp → VK → Prop := fun x lo hi H Q => ∃ z, x = .str z ∧ z.length ≤ sizeLine ∧ Q (.str (Txt.slice z lo hi)) H
theorem part_ {v : Value} {o : Option Int} (p : IsPart v o) : ∃ l : Option (Int × Tok), v = partValue l ∧ l.map (·.1) = o := by
  cases p with
  | none => exact ⟨none, rfl, rfl⟩
  | int i t => exact ⟨some (i, t), rfl, rfl⟩
theorem sl_str : SlR X rSlS := by
  intro pins s σ H x v vl vu lo hi sl Q I rx hs pl pu h
  obtain ⟨z, rfl, hz, q⟩ := h
  obtain ⟨t, rfl⟩ := rx
  obtain ⟨l, rfl, rfl⟩ := part_ pl
  obtain ⟨u, rfl, rfl⟩ := part_ pu
  refine ⟨"str", _, slot_str_getitem.lookup, typeIs_str _ _ _, wpAny_getItem_str_slice (l := l) (u := u) (st := none) hs rfl ?_⟩
  exact post_val_or_str ⟨Nat.le_trans (Txt.slice_le z _ _) hz, fun t' k => ⟨.str (Txt.slice z (l.map (·.1)) (u.map (·.1))), H, I.tok _, ⟨_, rfl⟩, q⟩⟩
theorem xsl2 {lo hi : Option Expr} {A B : FO} {p2 : Pos} (he : XE X e F) (hl : XO X lo A) (hh : XO X hi B) : XE X (.Subscript e (.Slice lo hi none p2) pos) (eSl2 F A B) := PE.wk (pe_slice ((sl_list.or sl_tup).or sl_str) he hl hh) fun σ H Q ⟨c, H0, ρ, d, ρ', R, f, q⟩ => by
  unfold eSl2 at f
  obtain ⟨⟨x, ρ1⟩, h1, f⟩ := bnd_eq f
  obtain ⟨⟨l, ρ2⟩, h2, f⟩ := bnd_eq f
  obtain ⟨⟨u, ρ3⟩, h3, f⟩ := bnd_eq f
  obtain ⟨d', h4, f⟩ := bnd_eq f
  dsimp only at h2 h3 h4 f
  have f' : some (d', ρ3) = some (d, ρ') := f
  cases f'
  refine ⟨c, H0, ρ, x, ρ1, R, h1, fun v H1 Hh s1 R1 r1 => ?_⟩
  refine ⟨c, H1, ρ1, l, ρ2, R1, h2, fun H2 Hh2 s2 R2 => ?_⟩
  refine ⟨c, H2, ρ2, u, _, R2, h3, fun H3 Hh3 s3 R3 => ?_⟩
  have r3 := Rep.mono s3 x (Rep.mono s2 x r1)
  cases x with
  | lst ds =>
    have e : D.lst (dCut ds l u) = d := Option.some.inj h4
    subst e
    unfold Rep at r3
    obtain ⟨p, vs, rfl, s, t⟩ := r3
    refine .inl (.inl ⟨p, vs, rfl, Same.seq R3.same s, fun p' hp => ?_⟩)
    have S := Step.alloc (o := .lst (cutV vs l u)) R3.same hp
    refine q _ _ _ (s1.trans (s2.trans (s3.trans S.s0))) (R3.after S) ?_
    unfold Rep
    exact ⟨p', _, rfl, .inl (.inl upd_same), Reps.mono S.s0 _ (cut_of t l u)⟩
  | tup ds =>
    have h5 : (if dEnd ds.length 0 l = 0 ∧ dEnd ds.length ds.length u = ds.length then none else some (D.tup (dCut ds l u))) = some d := h4
    by_cases hn : dEnd ds.length 0 l = 0 ∧ dEnd ds.length ds.length u = ds.length
    · rw [if_pos hn] at h5; cases h5
    · rw [if_neg hn] at h5
      cases h5
      unfold Rep at r3
      obtain ⟨p, vs, rfl, s, t⟩ := r3
      refine .inl (.inr ⟨p, vs, rfl, Same.seqT R3.same s, ?_, fun p' hp => ?_⟩)
      · rw [← dEnd_eq, ← dEnd_eq, ← t.length]; exact hn
      have S := Step.alloc (o := .tup (cutV vs l u)) R3.same hp
      refine q _ _ _ (s1.trans (s2.trans (s3.trans S.s0))) (R3.after S) ?_
      unfold Rep
      exact ⟨p', _, rfl, .inl (.inl upd_same), Reps.mono S.s0 _ (cut_of t l u)⟩
  | str z =>
    obtain ⟨hz, rfl⟩ := ifs (c := z.length ≤ sizeLine) h4
    unfold Rep at r3
    exact .inr ⟨z, r3, hz, q _ H3 Hh3 (s1.trans (s2.trans s3)) R3 (rep_str H3 _)⟩
  | _ => cases h4
theorem OpR.or {f : Value → Value → Sem Value} {r r' : R2} (h : OpR X f r) (h' : OpR X f r') : OpR X f (fun x y H Q => r x y H Q ∨ r' x y H Q) := by
  intro pins s σ H x y v u Q I rx ry q
  rcases q with q | q
  · exact h pins s σ H x y v u Q I rx ry q
  · exact h' pins s σ H x y v u Q I rx ry q
end
end Fx
set_option maxRecDepth 100000
namespace Fx
open PySem PySem.Spec PyProof.Rows L2
section
variable {X : Cx} {scope sc : Scope} {x : Str} {frees : List Str} {js : List Nat} {px pos p pos' : Pos} {elt iter a : Expr} {ifs : List Expr} {I F : FE} {T : FT}
end
end Fx
set_option maxRecDepth 100000
namespace Fx
open PySem PySem.Spec PyProof.Rows L2
section
variable {X : Cx} {pos : Pos}
end
section
variable {X : Cx} {scope sc : Scope} {x y : Str} {frees : List Str} {js : List Nat} {px py pos spos p pos' : Pos} {elt iter a : Expr} {ifs : List Expr} {I F : FE} {T : FT}
end
end Fx
set_option maxRecDepth 100000
set_option maxHeartbeats 4000000
namespace Fx
open PySem PySem.Spec PyProof.Rows L2
def gNear (n : Int) : Int × Int := (absI n, -n)
theorem near_lt (n b : Int) : kLt (gNear n) (gNear b) = nLt n b := by
  unfold kLt gNear nLt
  rw [HT.lexLt_cons, HT.lexLt_cons, HT.lexLt_nil_nil]
  by_cases h : absI n = absI b
  · rw [if_pos h, if_pos h]
    by_cases h2 : -n = -b
    · rw [if_pos h2]; exact (decide_eq_false (by omega)).symm
    · rw [if_neg h2, decide_eq_decide]; omega
  · rw [if_neg h, if_neg h]
theorem least_near : ∀ (l : List Int) (b : Int), leastK gNear (some b) l = some (nbest b l)
  | [], b => rfl
  | n :: r, b => by
    rw [leastK, near_lt, least_near r]
    rfl
theorem least_is (l : List Int) {v : Value} (h : outK (leastK gNear none l) v) : ∃ x : V, RelV x v ∧ ∀ (K : PySem.W.Frag) (H : Hp), Rep K H (nMin l) x := by
  cases l with
  | nil => exact ⟨.non, h, fun K H => by unfold nMin Rep; rfl⟩
  | cons n r =>
    rw [leastK, least_near] at h
    exact ⟨.int (nbest n r), h, fun K H => by unfold nMin; exact rep_int H _⟩
theorem dInts_inv : ∀ {ds : List D} {l : List Int}, dInts ds = some l → ds = l.map D.int
  | [], l, h => by cases (show some [] = some l from h); rfl
  | d :: r, l, h => by
    cases d with
    | int i =>
      unfold dInts at h
      cases e : dInts r with
      | none => rw [e] at h; cases h
      | some m =>
        rw [e] at h
        cases (show some (i :: m) = some l from h)
        rw [dInts_inv e]; rfl
    | _ => cases h
theorem reps_is {K : PySem.W.Frag} {H : Hp} : ∀ {l : List Int} {vs : List V}, Reps K H (l.map D.int) vs → vs = l.map V.int
  | [], vs, h => by unfold Reps at h; exact h
  | i :: r, vs, h => by
    unfold Reps at h
    obtain ⟨v, q, rfl, h1, h2⟩ := h
    unfold Rep at h1
    rw [h1, reps_is h2]; rfl
abbrev fNear : FE := eTup (aC (eF bAbs (aC (eV 0) aN)) (aC (e1 dNeg (eV 0)) aN))
theorem key_near {X : Cx} {σ : L2.St} {params : Arguments} {body : Expr} {scope : Scope} {f c' : Addr} {pm ctv : Value} (hr : Room 2 X.A) (S : FnScope ["v"] ["v"] scope)
    (hb : ∀ (u pm c ctv : Value), bindArgs (PySem.W.kla_fn "<lambda>" TabQ params body scope [] pm c ctv) ⟨[u], []⟩ = pure [(Str.ofString "v", u)])
    (hbody : ∀ (f : Addr) (c : Value) (A : Around) (outer : List Env) (s : Shared) (H : Hp) (E : XK), XE (cxOf CX0 X.prog X.w X.K X.mg X.base ["v"] TabQ scope f c A outer s H E) body fNear) :
    KeyOk X X.A.in1 σ f c' (lamObj params body scope pm c' ctv) gNear := by
  intro pins H s n t I hm hc
  have hf := (I.pin _ (List.mem_append_right _ hm)).1
  have hF : fNear [.im (.int n)] = some (.tup [.int (absI n), .int (-n)], [.im (.int n)]) := by rfl
  refine wpAny_call (codeAny_mono (run_lam (CX := CX0) (k := 0) (N := ["v"]) (ps := ["v"]) (us := [.int n t]) (vs := [.int n]) (Q := fun v H' => ∃ ka, v = .ref ka ∧ Same H H' ∧ SqT X.K H' ka [.int (gNear n).1, .int (gNear n).2]) (E := E0) hr.in1 I.env0.in1 hf hc S (.of_eq (hb _ _ _ _)) rfl (.cons ⟨t, rfl⟩ .nil)
    fun _ => ⟨_, hbody f (.ref c') X.A.in1 X.stack s H E0, ⟨fun _ => none, H, []⟩, fun _ => none, [.im (.int n)], _, _, RS.start (ds := [.int n]) (vs := [.int n]) (m := 0) (n := 1) (fun b o e => nomatch e) (Reps.one (rep_int _ _)) rfl, hF, fun v H0' H' sm R rv => ?_⟩) fun r s' h => ?_)
  · unfold Rep at rv
    obtain ⟨ka, vs, rfl, sq, rr⟩ := rv
    have : vs = [.int (absI n), .int (-n)] := reps_is (l := [absI n, -n]) rr
    subst this
    exact ⟨ka, rfl, fun b o e => R.keep b o e (by simp), Same.seqT R.same sq⟩
  · cases r with
    | error e => exact False.elim h
    | ok fl =>
      cases fl with
      | ret u =>
        obtain ⟨v, H', I', rv, ka, rfl, sm, sq⟩ := I.after h
        exact ⟨ka, H', rv, I', sm, sq⟩
      | next => exact False.elim h
      | brk => exact False.elim h
      | cont => exact False.elim h
theorem xminK {X : Cx} {e : Expr} {A : FA} {params : Arguments} {lb : Expr} {scope : Scope} {lpos kp1 kp2 p pos cp : Pos} {j} (hr : Room 2 X.A) (hcd : ∃ c, X.env.code = .ref c ∧ PySem.W.codeHdIn X.K c TabP = true) (S : FnScope ["v"] ["v"] scope)
    (hb : ∀ (u pm c ctv : Value), bindArgs (PySem.W.kla_fn "<lambda>" TabQ params lb scope [] pm c ctv) ⟨[u], []⟩ = pure [(Str.ofString "v", u)])
    (hbody : ∀ (f : Addr) (c : Value) (A : Around) (outer : List Env) (s : Shared) (H : Hp) (E : XK), XE (cxOf CX0 X.prog X.w X.K X.mg X.base ["v"] TabQ scope f c A outer s H E) lb fNear)
    (hm : X.mg "min" = none) (ha : XA X [e] A) (hq : X.env.qual ++ "<lambda>" = TabQ := by rfl) (hcl : closureFor scope X.env = pure [] := by rfl) (hdef : defaultsOf params X.env = ([], []) := by rfl) (hg : Gl X "min" := by rfl)
    (he : backTo pos (starEach [e] X.env) = (false, eval e X.env) :: backTo pos (starEach [] X.env) := by rfl) (hpl : (backTo pos (starEach [e] X.env)).any (·.1) = false := by rfl) :
    XE X (.Call (.Name "min" p) [e] [⟨some "key", .Lambda params lb scope lpos, kp1⟩, ⟨some "default", .Constant .none j cp, kp2⟩] pos) (eF bMinK A) := by
  intro pins s σ H Q I hQ
  obtain ⟨c, H0, ρ, d, ρ', R, z, q⟩ := hQ
  unfold eF at z
  obtain ⟨⟨ds, ρ1⟩, h1, z⟩ := bnd_eq z
  obtain ⟨d', h2, z⟩ := bnd_eq z
  have z' : some (d', ρ1) = some (d, ρ') := z
  cases z'
  obtain ⟨cc, hc1, hc2⟩ := hcd
  refine wpAny_Call_Name_kw (ld_blt I hg hm (u := .builtin "min") PyProof.Rows.boot_min ?_)
  refine callWith_kw (thn (ha pos pins s σ H (fun vs H' => ∃ H0', Same H0 H0' ∧ RS X.K c H0' H' ρ' σ ∧ Reps X.K H0' ds vs) I ⟨c, H0, ρ, ds, _, R, h1, fun vs H0' H' sm R1 r1 => ⟨H0', sm, R1, r1⟩⟩) fun us s1 ⟨vs, Hh, I1, rv, H1, sm1, R1, r1⟩ => ?_) he hpl
  refine kws_cons (PySem.W.kla_eval hdef ?_)
  rw [hq]
  refine mk_lam I1 hc1 (PySem.W.codeHd_of_K I1.ok.mod.kin hc2) hcl fun f c' H2 s2 pm ctv I2 sm2 hc' hf0 => ?_
  refine kws_cons (thn (pe_non _ s2 σ H2 (fun v H3 => v = .non ∧ H3 = H2) I2 ⟨rfl, rfl⟩) fun u s3 ⟨v3, H3, I3, rv3, e3, e4⟩ => ?_)
  subst e3 e4
  obtain rfl : u = Value.none := rv3
  refine kws_nil ?_
  have hl : ∃ (l : Addr) (is : List Int), us = [.ref l] ∧ SqL X.K Hh l (is.map V.int) ∧ d = nMin is := by
    obtain ⟨xs, e6, h3⟩ : ∃ xs, ds = [.lst xs] ∧ (dInts xs).map nMin = some d := by
      have h2' : bMinK ds = some d := h2
      unfold bMinK at h2'
      split at h2'
      · exact ⟨_, rfl, h2'⟩
      · cases h2'
    subst e6
    cases e5 : dInts xs with
    | none => rw [e5] at h3; cases h3
    | some is =>
      rw [e5] at h3
      have h2' : nMin is = d := Option.some.inj h3
      rw [dInts_inv e5] at r1
      unfold Reps at r1
      obtain ⟨v, r, rfl, r2, r3⟩ := r1
      unfold Reps at r3
      subst r3
      unfold Rep at r2
      obtain ⟨l, vs2, rfl, sq, r4⟩ := r2
      rw [reps_is r4] at sq
      obtain ⟨u, rfl, ru⟩ := vals1 rv
      exact ⟨l, is, by cases ru; rfl, R1.same.seq sq, h2'.symm⟩
  obtain ⟨l, is, rfl, sq, rfl⟩ := hl
  have fin : ∀ {v : V} {u : Value} {H4 : Hp} {s4 : Shared}, Inv X ((f, lamObj params lb scope pm c' ctv) :: pins) σ H4 s4 → Same H3 H4 → RelV v u → Rep X.K H1 (nMin is) v → EP X pins σ Q u s4 := fun {v u H4 s4} I4 sm4 ru rp =>
    ⟨v, H4, I4.sub fun q h => .tail _ h, ru, q v H1 H4 sm1 (R1.after ⟨Same.refl _, sm2.trans sm4, R1.same.trans (sm2.trans sm4), fun b o e => .inl e⟩) rp⟩
  refine min_call (X := X) (A := X.A) (ns := is) (g := gNear) hr.hd ?_ (.head _) I3 (sm2.seq sq) hc' (key_near hr S hb hbody) fun H4 s4 v I4 sm4 ov => ?_
  · have := hr.units; show X.A.units + 1 < cLine; omega
  · obtain ⟨x, rx, px⟩ := least_is is ov
    exact fin (v := x) I4 sm4 rx (px X.K H1)
theorem fn_okc {P : Program} {w : World} {K : PySem.W.Frag} {mg : Str → Option Value} {base : Heap} {x qual : Str} {st : Stmt} {f : Addr} {fd : FuncData} {N ps : List Str} {k n m : Nat} {B : FS} (F : Fun K x qual st f fd) (S : FnScope N ps (defScope st)) (hn : ps.length = n) (hN : N.length = n + m)
    (hb : ∀ (cdv : Value) (A : Around) (outer : List Env) (s : Shared) (H : Hp) (E : XK), fd.code = cdv → Room k (A.deeper (envOfC qual (defScope st) s.heap.objs.size f cdv)) → XSs (cxOf CX0 P w K mg base N qual (defScope st) f cdv A outer s H E).nox (defBody st) B) :
    FnOk P w K mg base CX0 (k + 1) f fd ps (spP K (fnD n m B)) := by
  obtain ⟨oc, od, kV, doc, pm, an, cdv, ct, osl, rfl, lk, hcd⟩ := F.ex
  have F' : Fun K x qual st f (PySem.W.fnOf x qual (defArgs st) (defBody st) (defScope st) .none kV doc pm an cdv ct) := F
  have inv : ∀ {ds : List D} {d : D}, fnD n m B ds = some d → ds.length = n ∧ ∃ r, B (ds.map .im ++ List.replicate m .no) = some r ∧ retR r = some d := fun {ds d} h => by
    unfold fnD at h
    split at h
    · rename_i hl
      obtain ⟨r, h1, h2⟩ := bnd_eq h
      exact ⟨hl, r, h1, h2⟩
    · cases h
  refine fn_of lk hcd S (fun vs H Q E h => ?_) fun A outer s H vs Q E hr h => ?_
  · obtain ⟨Hi, ds, d, _, r, e, _⟩ := h
    rw [hn, ← r.length]; exact (inv e).1
  · obtain ⟨Hi, ds, d, hs, r, e, q⟩ := h
    obtain ⟨hl, res, h1, h2⟩ := inv e
    refine ⟨_, PSs.nox (hb cdv A outer s H E rfl hr), ⟨Hi, H, []⟩, Hi, _, res, RS.start (n := N.length) (m := m) hs r (by rw [← r.length]; omega), h1, ?_⟩
    cases res with
    | nx ρ' =>
      have e' : D.non = d := Option.some.inj h2
      subst e'
      exact fun σ' H0' H' s0 R => q .non H0' H' R.step (by unfold Rep; rfl)
    | rt d' ρ' =>
      have e' : d' = d := Option.some.inj h2
      subst e'
      exact fun v σ' H0' H' s0 R rv => q v H0' H' R.step rv
    | bk ρ' => cases h2
    | ct ρ' => cases h2
end Fx
set_option maxRecDepth 100000
set_option maxHeartbeats 4000000
namespace L2
open PySem PySem.Spec PyProof.Rows
theorem law_call2 {P : Program} {w : World} {K : PySem.W.Frag} {mg mb : Str → Option Value} {CX : CXT} {k : Nat} {fa a cT : Addr} {fd : FuncData} {x : Str} {sp : Sp} {s₁ : Shared} {vs : List Value} {ns : List Int}
    (KX : K.In s₁.heap) (hT : s₁.heap.get? TabP = some (PySem.W.tabObj #[])) (hKT : K.lookup TabP = none) (hCT : PySem.W.CodeHd s₁.heap cT TabP) (hns : s₁.heap.Ns mainGlobals mg) (hb : s₁.heap.Ns builtinsNs mb) (hbb : ∀ x : Str, x ≠ "__name__" → mb x = bootBuiltins x) (hlim : s₁.heap.NoLimit) (hg : s₁.gens = #[])
    (hbm : ∃ bm ob, mg "__builtins__" = some (.ref bm) ∧ bm ≠ builtinsNs ∧ s₁.heap.get? bm = some ob ∧ ob.cls = .type "module" ∧ ob.dict = some builtinsNs ∧ ob.data = .plain)
    (ha : s₁.heap.get? a = some { cls := .type "list", data := .seq vs.toArray }) (hi : IntsAre vs ns) (hl : ns.length ≤ sizeLine) (hr : Room k callerA)
    (F : ∀ base : Heap, K.In base → base.Ns mainGlobals mg → FnOk P w K mg base CX k fa fd [x] sp) (hbind : ∀ (s : Shared) (u : Value), BindsTo s fd ⟨[u], []⟩ [(x, u)])
    (hsp : ∀ H : Hp, SqL K H a (ns.map V.int) → sp [.ref a] H (fun v _ => v = .bl true) fun _ _ _ => False)
    (hCX : ∀ H e s', CX [] H s₁ (fun _ _ _ => False) e s' → False) :
    codeAny (model P w) callerA (.call (.ref fa) ⟨[.ref a], []⟩) (fun r s' => r = .ok (.ret (.bool true)) ∧ OldK s₁.heap s'.heap ∧ s'.os = s₁.os ∧ AllBare s'.gens) s₁ := by
  have rv := vals_ints hi
  have lenV := hi.length
  have haT : a ≠ TabP := fun e => by rw [e, hT] at ha; cases ha
  have core : ∀ H : Hp, H TabP = some (.tbl TabQ) → (∀ b, b ≠ TabP → H b = none ∨ ∃ o xs, H b = some (.frz o (.lst xs))) → SqL K H a (ns.map V.int) → HOk P w H s₁.heap → (∀ b, H b ≠ none → b = a ∨ b = TabP) → (H a ≠ none → K.lookup a = none) →
      codeAny (model P w) callerA (.call (.ref fa) ⟨[.ref a], []⟩) (fun r s' => r = .ok (.ret (.bool true)) ∧ OldK s₁.heap s'.heap ∧ s'.os = s₁.os ∧ AllBare s'.gens) s₁ := by
    intro H hHT hO hS hok hA hK
    have base_of : ∀ {b : Addr} {o : Obj}, s₁.heap.get? b = some o → H b = none → (hidT s₁.heap H).get? b = some o := fun e n => hidT_get e n
    have noT : ∀ {b : Addr} {o : Obj}, s₁.heap.get? b = some o → (∀ it n, o.data ≠ .seq it n) → (∀ it, o.data ≠ .fields it) → H b = none := fun {b o} e d1 d2 => by
      cases q : H b with
      | none => rfl
      | some u =>
        rcases hA b (by rw [q]; simp) with e' | e'
        · subst e'
          rw [ha] at e; cases e
          exact absurd rfl (d1 _ _)
        · subst e'
          rw [hT] at e; cases e
          exact absurd rfl (d2 _)
    have noA : ∀ {b : Addr} {o : Obj} {es : Array DictEntry} {ep : Nat}, s₁.heap.get? b = some o → o.data = .dict es ep → H b = none := fun {b o es ep} e d => noT e (by rw [d]; nofun) (by rw [d]; nofun)
    have nsK : ∀ {b : Addr} {m : Str → Option Value}, s₁.heap.Ns b m → (hidT s₁.heap H).Ns b m := fun {b m} ⟨o, es, ep, e, d, r⟩ => ⟨o, es, ep, base_of e (noA e d), d, r⟩
    have hKb : K.In (hidT s₁.heap H) := fun b o e => base_of (KX b o e) (by
      cases q : H b with
      | none => rfl
      | some u =>
        rcases hA b (by rw [q]; simp) with e' | e'
        · subst e'
          rw [hK (by rw [q]; simp)] at e; cases e
        · subst e'
          rw [hKT] at e; cases e)
    obtain ⟨bm, ob, b1, b2, b3, b4, b5, b6⟩ := hbm
    have hM : Mod K mg (hidT s₁.heap H) := ⟨hKb, nsK hns, ⟨mb, nsK hb, hbb⟩, (let ⟨mc, h1, h2⟩ := hlim; ⟨mc, nsK h1, h2⟩), ⟨bm, ob, b1, b2, base_of b3 (noT b3 (by rw [b6]; nofun) (by rw [b6]; nofun)), b4, b5, b6⟩⟩
    have e0 : Env0 P w K mg (hidT s₁.heap H) callerA [] s₁ H := ⟨rfl, hM, fun b o e => of_hidT e, Nat.le_of_eq (hidT_size _ _), trivial, fun b hb => absurd (show b ∈ ([] : List Addr) from hb) (by simp), hok, .of_eq hg, hHT⟩
    refine codeAny_mono ((F _ hKb (nsK hns)).run callerA [] s₁ H ⟨[.ref a], []⟩ [.ref a] [.ref a] _ _ hr e0 (hbind s₁ (.ref a)) (.cons rfl .nil) (hsp H hS)) fun r s' h => ?_
    cases r with
    | error e => exact (hCX H e s' h).elim
    | ok fl =>
      cases fl with
      | next => exact False.elim h
      | brk => exact False.elim h
      | cont => exact False.elim h
      | ret u =>
        obtain ⟨v, H', os, bare, un, hok', r', q⟩ := h
        have q' : v = .bl true := q
        subst q'
        obtain rfl : u = Value.bool true := r'
        obtain ⟨ps, hP, _⟩ := (show ObjOk P w H' s'.heap TabP (.tbl TabQ) from hok' _ _ (un.tbls _ _ hHT))
        have keep : ∀ b o, b ≠ TabP → s₁.heap.get? b = some o → s'.heap.get? b = some o := fun b o hb e => by
          cases q : H b with
          | none => exact un.keep b o e q (by intro z; exact absurd (show b ∈ ([] : List Addr) from z) (by simp)) (by simp)
          | some u =>
            rcases hO b hb with z | ⟨ob, xs, z⟩
            · rw [q] at z; cases z
            · have z2 := un.frzs b ob _ z
              obtain ⟨e1, _⟩ := hok b _ z
              obtain ⟨e2, _⟩ := hok' b _ z2
              rw [e] at e1; cases e1
              exact e2
        refine ⟨rfl, ⟨fun b o e => ?_, fun b o e => ?_⟩, os, bare⟩
        · by_cases hb : b = TabP
          · subst hb
            rw [hT] at e; cases e
            exact .inr (.inl ⟨(hCT.tab hT).isCodeTable, rfl, #[], ps, rfl, by rw [Array.empty_append]; exact hP⟩)
          · exact .inl (keep b o hb e)
        · by_cases hb : b = TabP
          · subst hb; exact ⟨_, hP⟩
          · exact ⟨o, keep b o hb e⟩
  have tOk : ∀ H : Hp, ObjOk P w H s₁.heap TabP (.tbl TabQ) := fun H => ⟨#[], hT, trivial, fun pos => .inl rfl⟩
  cases hk : K.lookup a with
  | some o =>
    have e := KX a o hk
    rw [ha] at e
    cases e
    refine core (fun b => if b = TabP then some (.tbl TabQ) else none) (if_pos rfl) (fun b hb => .inl (if_neg hb)) (.inr ⟨_, vs.toArray, _, hk, rfl, rfl, rfl, by rw [List.size_toArray, lenV]; exact hl, by simpa using rv⟩) (fun b u z => ?_) (fun b z => ?_) fun z => absurd (if_neg haT) z
    · by_cases hb : b = TabP
      · have z' := (if_pos hb).symm.trans z
        cases z'
        subst hb
        exact tOk _
      · have z' := (if_neg hb).symm.trans z
        cases z'
    · by_cases hb : b = TabP
      · exact .inr hb
      · exact absurd (if_neg hb) z
  | none =>
    refine core (fun b => if b = TabP then some (.tbl TabQ) else if b = a then some (.frz { cls := .type "list", data := .seq vs.toArray } (.lst (ns.map V.int))) else none) (if_pos rfl) (fun b hb => ?_) (.inl (.inr ⟨{ cls := .type "list", data := .seq vs.toArray }, (if_neg haT).trans (if_pos rfl)⟩)) (fun b u z => ?_) (fun b z => ?_) fun _ => hk
    · by_cases hb2 : b = a
      · exact .inr ⟨_, _, (if_neg hb).trans (if_pos hb2)⟩
      · exact .inl ((if_neg hb).trans (if_neg hb2))
    · by_cases hbT : b = TabP
      · have z' := (if_pos hbT).symm.trans z
        cases z'
        subst hbT
        exact tOk _
      · by_cases hb : b = a
        · have z' := ((if_neg hbT).trans (if_pos hb)).symm.trans z
          cases z'
          subst hb
          exact ⟨ha, by rw [List.length_map]; exact hl, vs, _, rv, ha⟩
        · have z' := ((if_neg hbT).trans (if_neg hb)).symm.trans z
          cases z'
    · by_cases hbT : b = TabP
      · exact .inr hbT
      · by_cases hb : b = a
        · exact .inl hb
        · exact absurd ((if_neg hbT).trans (if_neg hb)) z
theorem walk_of2 {l : PySem.W.OpenLaw} {n k : Nat} {q : Program} {loose : List Str} {XP : (Str → Option Value) → Heap → Prop} {YP : World → Heap → Prop} {d : DefRec} {K : Params → PySem.W.Frag} {CX : World → CXT} {sp : World → Sp} {x : Str}
    (hn : l.most = some n) (hn2 : n ≤ sizeLine) (hdf : d.params.defaults = []) (hr : Room k callerA)
    (hY : ∀ (w : World) (h : Heap), YP w h → (K w.params).In h) (hYT : ∀ (w : World) (h : Heap), YP w h → h.get? TabP = some (PySem.W.tabObj #[])) (hKT : ∀ w : World, (K w.params).lookup TabP = none) (hC : ∀ w : World, ∃ c, PySem.W.codeHdIn (K w.params) c TabP = true)
    (F : ∀ (w : World) (mg : Str → Option Value) (fa : Addr) (h : Heap), (K w.params).In h → h.Ns mainGlobals mg → mg d.name = some (.ref fa) →
      ∃ fd : FuncData, (∀ (s : Shared) (u : Value), BindsTo s fd ⟨[u], []⟩ [(x, u)]) ∧
        ∀ base : Heap, (K w.params).In base → base.Ns mainGlobals mg → FnOk l.prog w (K w.params) mg base (CX w) k fa fd [x] (sp w))
    (hsp : ∀ (w : World) (H : Hp) (a : Addr) (ns : List Int), ns.length ≤ n → SqL (K w.params) H a (ns.map V.int) → sp w [.ref a] H (fun v _ => v = .bl true) fun _ _ _ => False)
    (hCX : ∀ (w : World) (H : Hp) (s : Shared) (e : Value) (s' : Shared), CX w [] H s (fun _ _ _ => False) e s' → False) :
    PySem.W.WalkO q loose XP YP l.row.toRowW d [] (fun f vs => PySem.call f vs) := by
  refine Att.attach_call hn hdf fun w s₀ s₁ mg mb fa o pm cd doc a vs ns G Y ho hd hcd hmg hobj hints hlen hg => ?_
  have KX := hY w _ Y
  obtain ⟨fd, hb, hF⟩ := F w mg fa _ KX G.T.g hmg
  obtain ⟨c, hc⟩ := hC w
  exact law_call2 KX (hYT w _ Y) (hKT w) (PySem.W.codeHd_of_K KX hc) G.T.g G.T.b G.T.builtins G.T.nolimit hg G.T.bmain hobj hints (Nat.le_trans hlen hn2) hr hF hb (fun H hS => hsp w H a ns hlen hS) fun H e s' => hCX w H s₁ e s'
end L2
namespace Fx
open PySem
def b_stretch_made : FS :=
  (sSeq (sIf (tNot (tB (e3 dLe dLt (eC (.int 0)) (eV 3) (eV 2))))
  (sRet (eC .non))
  sN)
  (sSeq (sSet 4 (eIf (tB (e2 dIs (eV 0) (eC .non))) (eC .non) (e2 dAdd (eV 0) (e2 dMod (e2 dSub (eV 3) (eV 0)) (eV 2)))))
  (sSeq (sSet 5 (eIf (tB (e2 dIs (eV 1) (eC .non))) (eC .non) (e2 dSub (eV 1) (e2 dMod (e2 dSub (eV 1) (eV 3)) (eV 2)))))
  (sSeq (sIf (tOr (tB (e2 dIs (eV 4) (eC .non))) (tB (e2 dIs (eV 5) (eC .non))))
  (sRet (eTup (aC (eV 4) (aC (eV 5) (aC (eV 2) (aC (eV 3) aN))))))
  sN)
  (sSeq (sIf (tB (e2 dGt (eV 4) (eV 5)))
  (sRet (eC .non))
  sN)
  (sSeq (sIf (tB (e2 dEq (eV 4) (eV 5)))
  (sRet (eTup (aC (eV 4) (aC (eV 5) (aC (eC (.int 1)) (aC (eC (.int 0)) aN))))))
  sN)
  (sRet (eTup (aC (eV 4) (aC (eV 5) (aC (eV 2) (aC (eV 3) aN))))))))))))
def m_stretch_made : List D → Option D := fnD 4 2 b_stretch_made
def b_lower_bound : FS :=
  (sSeq (sIf (tOr (tB (e2 dIs (eV 0) (eC .non))) (tB (e2 dIs (eV 1) (eC .non))))
  (sRet (eIf (tB (e2 dIs (eV 0) (eC .non))) (eV 1) (eV 0)))
  sN)
  (sRet (eF bMax (aC (eV 0) (aC (eV 1) aN)))))
def m_lower_bound : List D → Option D := fnD 2 0 b_lower_bound
def b_upper_bound : FS :=
  (sSeq (sIf (tOr (tB (e2 dIs (eV 0) (eC .non))) (tB (e2 dIs (eV 1) (eC .non))))
  (sRet (eIf (tB (e2 dIs (eV 0) (eC .non))) (eV 1) (eV 0)))
  sN)
  (sRet (eF bMin (aC (eV 0) (aC (eV 1) aN)))))
def m_upper_bound : List D → Option D := fnD 2 0 b_upper_bound
def b_stretch_between : FS :=
  (sRet (eF m_stretch_made (aC (eF m_lower_bound (aC (e2 dIx2 (eV 0) (eC (.int 0))) (aC (eV 1) aN))) (aC (eF m_upper_bound (aC (e2 dIx2 (eV 0) (eC (.int 1))) (aC (eV 2) aN))) (aC (e2 dIx2 (eV 0) (eC (.int 2))) (aC (e2 dIx2 (eV 0) (eC (.int 3))) aN))))))
def m_stretch_between : List D → Option D := fnD 3 0 b_stretch_between
def b_stretch_above : FS :=
  (sRet (eF m_stretch_between (aC (eV 0) (aC (e2 dAdd (eV 1) (eC (.int 1))) (aC (eC .non) aN)))))
def m_stretch_above : List D → Option D := fnD 2 0 b_stretch_above
def b_stretch_below : FS :=
  (sRet (eF m_stretch_between (aC (eV 0) (aC (eC .non) (aC (e2 dSub (eV 1) (eC (.int 1))) aN)))))
def m_stretch_below : List D → Option D := fnD 2 0 b_stretch_below
def b_nearest : FS :=
  (sRet (eF bMinK (aC (eV 0) aN)))
def m_nearest : List D → Option D := fnD 1 0 b_nearest
def b_stretch_some : FS :=
  (sSeq (sSet 1 (eF m_stretch_above (aC (eV 0) (aC (e1 dNeg (eC (.int 1))) aN))))
  (sSeq (sSet 2 (eF m_stretch_below (aC (eV 0) (aC (eC (.int 0)) aN))))
  (sSeq (sOwn 3 (oIf (tB (e2 dIs (eV 1) (eC .non))) (oLst aN) (oLst (aC (e2 dIx2 (eV 1) (eC (.int 0))) aN))))
  (sSeq (sIf (tB (e2 dIsNot (eV 2) (eC .non)))
  (sApp 3 (e2 dIx2 (eV 2) (eC (.int 1))))
  sN)
  (sFrz 3 (sRet (eF m_nearest (aC (eV 3) aN))))))))
def m_stretch_some : List D → Option D := fnD 1 3 b_stretch_some
def b_stretch_not : FS :=
  (sSeq (sSet 2 (eLst (aC (eF m_stretch_above (aC (eV 0) (aC (eV 1) aN))) (aC (eF m_stretch_below (aC (eV 0) (aC (eV 1) aN))) aN))))
  (sRet (eF m_nearest (aC (eLC [] (eV 2) (tB (e2 dIsNot (eV 0) (eC .non))) (eF m_stretch_some (aC (eV 0) aN))) aN))))
def m_stretch_not : List D → Option D := fnD 2 1 b_stretch_not
def b_law_mixed : FS :=
  (sSeq (sSet 2 (e2 dMod (e2 dMul (e2 dAdd (e2 dAdd (eV 0) (e2 dMul (eC (.int 7919)) (eV 1))) (eC (.int 1))) (eC (.int 48271))) (eC (.int 2147483647))))
  (sSeq (sSet 2 (e2 dMod (e2 dMul (eV 2) (e2 dAdd (e2 dDiv (eV 2) (eC (.int 1009))) (eC (.int 69621)))) (eC (.int 2147483647))))
  (sRet (e2 dMod (e2 dMul (e2 dAdd (e2 dAdd (eV 2) (e2 dMul (eC (.int 31)) (eV 1))) (eC (.int 1))) (e2 dAdd (e2 dDiv (eV 2) (eC (.int 757))) (eC (.int 16807)))) (eC (.int 2147483629))))))
def m_law_mixed : List D → Option D := fnD 2 1 b_law_mixed
def b_law_numbers : FS :=
  (sSeq (sIf (tB (e2 dEq (e2 dMod (eV 0) (eC (.int 2))) (eC (.int 1))))
  (sSeq (sSet 0 (e2 dDiv (eV 0) (eC (.int 2))))
  (sSeq (sSet 1 (e2 dIx2 (eLst (aC (eC (.int 1)) (aC (e2 dPow (eC (.int 10)) (eC (.int 9))) (aC (e2 dPow (eC (.int 10)) (eC (.int 27))) aN)))) (e2 dMod (eV 0) (eC (.int 3)))))
  (sSeq (sSet 0 (e2 dDiv (eV 0) (eC (.int 3))))
  (sSeq (sSet 2 (e2 dAdd (eC (.int 1)) (e2 dMod (e2 dDiv (eV 0) (eC (.int 9))) (e2 dMul (eC (.int 30)) (eV 1)))))
  (sSeq (sSet 3 (e2 dSub (e2 dMod (e2 dDiv (eV 0) (e2 dMul (eC (.int 270)) (eV 1))) (e2 dMul (eC (.int 99)) (eV 1))) (e2 dMul (eC (.int 49)) (eV 1))))
  (sSeq (sSet 4 (e2 dSub (e2 dMod (e2 dDiv (eV 0) (e2 dMul (e2 dMul (eC (.int 26730)) (eV 1)) (eV 1))) (e2 dMul (eC (.int 201)) (eV 1))) (e2 dMul (eC (.int 100)) (eV 1))))
  (sSet 5 (e2 dSub (e2 dMod (e2 dDiv (eV 0) (e2 dMul (e2 dMul (e2 dMul (eC (.int 5372730)) (eV 1)) (eV 1)) (eV 1))) (e2 dMul (eC (.int 90)) (eV 1))) (e2 dMul (eC (.int 9)) (eV 1))))))))))
  (sSeq (sSet 1 (e2 dIx2 (eLst (aC (eC (.int 1)) (aC (eC (.int 1)) (aC (e2 dPow (eC (.int 10)) (eC (.int 9))) aN)))) (e2 dMod (eF m_law_mixed (aC (eV 0) (aC (eC (.int 1)) aN))) (eC (.int 3)))))
  (sSeq (sSet 2 (e2 dAdd (eC (.int 1)) (e2 dMod (e2 dMul (eF m_law_mixed (aC (eV 0) (aC (eC (.int 2)) aN))) (eV 1)) (e2 dAdd (e2 dMul (eC (.int 12)) (eV 1)) (eC (.int 1))))))
  (sSeq (sSet 3 (e2 dSub (e2 dMod (e2 dMul (eF m_law_mixed (aC (eV 0) (aC (eC (.int 3)) aN))) (eV 1)) (e2 dAdd (e2 dMul (eC (.int 99)) (eV 1)) (eC (.int 5)))) (e2 dMul (eC (.int 49)) (eV 1))))
  (sSeq (sSet 4 (e2 dSub (e2 dMod (e2 dMul (eF m_law_mixed (aC (eV 0) (aC (eC (.int 4)) aN))) (eV 1)) (e2 dAdd (e2 dMul (eC (.int 61)) (eV 1)) (eC (.int 2)))) (e2 dMul (eC (.int 30)) (eV 1))))
  (sSeq (sSet 5 (e2 dSub (e2 dMod (e2 dMul (eF m_law_mixed (aC (eV 0) (aC (eC (.int 5)) aN))) (eV 1)) (e2 dAdd (e2 dMul (eC (.int 70)) (eV 1)) (eC (.int 3)))) (e2 dMul (eC (.int 9)) (eV 1))))
  (sSet 0 (eF m_law_mixed (aC (eV 0) (aC (eC (.int 6)) aN))))))))))
  (sRet (eTup (aC (e2 dIx2 (eLst (aC (eV 4) (aC (eC .non) (aC (eV 4) aN)))) (e2 dMod (eV 0) (eC (.int 3)))) (aC (e2 dIx2 (eLst (aC (e2 dAdd (eV 4) (eV 5)) (aC (e2 dAdd (eV 4) (eV 5)) (aC (eC .non) aN)))) (e2 dMod (e2 dDiv (eV 0) (eC (.int 3))) (eC (.int 3)))) (aC (eV 2) (aC (eV 3) aN)))))))
def m_law_numbers : List D → Option D := fnD 1 5 b_law_numbers
def b_law_in : FS :=
  (sSeq (sTup [2, 3, 4, 5] (eV 0))
  (sSeq (sIf (tOr (tAnd (tB (e2 dIsNot (eV 2) (eC .non))) (tB (e2 dLt (eV 1) (eV 2)))) (tAnd (tB (e2 dIsNot (eV 3) (eC .non))) (tB (e2 dGt (eV 1) (eV 3)))))
  (sRet (eC (.bl false)))
  sN)
  (sRet (e2 dEq (e2 dMod (e2 dSub (eV 1) (eV 5)) (eV 4)) (eC (.int 0))))))
def m_law_in : List D → Option D := fnD 2 4 b_law_in
def b_law_above : FS :=
  (sSeq (sTup [3, 4, 5, 6] (eV 0))
  (sSeq (sSet 2 (e2 dAdd (e2 dAdd (eV 1) (eC (.int 1))) (e2 dMod (e2 dSub (e2 dSub (eV 6) (eV 1)) (eC (.int 1))) (eV 5))))
  (sSeq (sIf (tAnd (tB (e2 dIsNot (eV 3) (eC .non))) (tB (e2 dGt (eV 3) (eV 2))))
  (sSet 2 (eV 3))
  sN)
  (sSeq (sIf (tAnd (tB (e2 dIsNot (eV 4) (eC .non))) (tB (e2 dGt (eV 2) (eV 4))))
  (sRet (eC .non))
  sN)
  (sSeq (sIf (tB (e2 dEq (eV 4) (eV 2)))
  (sRet (eTup (aC (eV 2) (aC (eV 2) (aC (eC (.int 1)) (aC (eC (.int 0)) aN))))))
  sN)
  (sRet (eTup (aC (eV 2) (aC (eV 4) (aC (eV 5) (aC (eV 6) aN)))))))))))
def m_law_above : List D → Option D := fnD 2 5 b_law_above
def b_law_turned : FS :=
  (sSeq (sIf (tB (e2 dIs (eV 0) (eC .non)))
  (sRet (eC .non))
  sN)
  (sSeq (sTup [1, 2, 3, 4] (eV 0))
  (sSeq (sIf (tB (e2 dIsNot (eV 1) (eC .non)))
  (sSet 1 (e2 dSub (eC (.int 0)) (eV 1)))
  sN)
  (sSeq (sIf (tB (e2 dIsNot (eV 2) (eC .non)))
  (sSet 2 (e2 dSub (eC (.int 0)) (eV 2)))
  sN)
  (sRet (eTup (aC (eV 2) (aC (eV 1) (aC (eV 3) (aC (e2 dMod (e2 dSub (eC (.int 0)) (eV 4)) (eV 3)) aN))))))))))
def m_law_turned : List D → Option D := fnD 1 4 b_law_turned
def b_law_below : FS :=
  (sRet (eF m_law_turned (aC (eF m_law_above (aC (eF m_law_turned (aC (eV 0) aN)) (aC (e2 dSub (eC (.int 0)) (eV 1)) aN))) aN)))
def m_law_below : List D → Option D := fnD 2 0 b_law_below
def b_law_nearer : FS :=
  (sRet (eOr (e2 dLt (eF bAbs (aC (eV 0) aN)) (eF bAbs (aC (eV 1) aN))) (eAnd (e2 dEq (eF bAbs (aC (eV 0) aN)) (eF bAbs (aC (eV 1) aN))) (e2 dGt (eV 0) (eV 1)))))
def m_law_nearer : List D → Option D := fnD 2 0 b_law_nearer
abbrev l_law_nearest_1 : FS :=
  (sSeq (sSet 4 (e2 dAdd (eV 1) (e2 dMul (eV 3) (e2 dIx2 (eV 0) (eC (.int 2))))))
  (sIf (tAnd (tB (e2 dNe (eV 4) (eV 2))) (tAnd (tV (eF m_law_in (aC (eV 0) (aC (eV 4) aN)))) (tV (eF m_law_nearer (aC (eV 4) (aC (eV 1) aN))))))
  (sRet (eC (.bl false)))
  sN))
def b_law_nearest : FS :=
  (sSeq (sIf (tOr (tNot (tV (eTy .int (eV 1)))) (tOr (tV (eTy .bool (eV 1))) (tOr (tNot (tV (eF m_law_in (aC (eV 0) (aC (eV 1) aN))))) (tB (e2 dEq (eV 1) (eV 2))))))
  (sRet (eC (.bl false)))
  sN)
  (sSeq (sFor (gN 3) (eLst (aC (e1 dNeg (eC (.int 2))) (aC (e1 dNeg (eC (.int 1))) (aC (eC (.int 1)) (aC (eC (.int 2)) aN)))))
  l_law_nearest_1)
  (sRet (eC (.bl true)))))
def m_law_nearest : List D → Option D := fnD 3 2 b_law_nearest
abbrev l_law_1 : FS :=
  (sIf (tB (e2 dIsNot (eV 9) (eC .non)))
  (sSet 8 (e2 dAdd (eV 8) (eLst (aC (eV 9) (aC (e2 dSub (eV 9) (eC (.int 1))) (aC (e2 dAdd (eV 9) (eC (.int 1))) (aC (e2 dAdd (eV 9) (eV 5)) aN)))))))
  sN)
abbrev l_law_2 : FS :=
  (sSeq (sIf (tB (e2 dNe (eF m_stretch_above (aC (eV 2) (aC (eV 10) aN))) (eF m_law_above (aC (eV 2) (aC (eV 10) aN)))))
  (sRet (eC (.bl false)))
  sN)
  (sSeq (sIf (tB (e2 dNe (eF m_stretch_below (aC (eV 2) (aC (eV 10) aN))) (eF m_law_below (aC (eV 2) (aC (eV 10) aN)))))
  (sRet (eC (.bl false)))
  sN)
  (sSeq (sSet 11 (eF m_stretch_not (aC (eV 2) (aC (eV 10) aN))))
  (sIf (tAnd (tB (e2 dIsNot (e2 dIx2 (eV 2) (eC (.int 0))) (eC .non))) (tAnd (tB (e2 dEq (e2 dIx2 (eV 2) (eC (.int 0))) (e2 dIx2 (eV 2) (eC (.int 1))))) (tB (e2 dEq (e2 dIx2 (eV 2) (eC (.int 0))) (eV 10)))))
  (sIf (tB (e2 dIsNot (eV 11) (eC .non)))
  (sRet (eC (.bl false)))
  sN)
  (sIf (tNot (tV (eF m_law_nearest (aC (eV 2) (aC (eV 11) (aC (eV 10) aN))))))
  (sRet (eC (.bl false)))
  sN)))))
abbrev l_law_3 : FS :=
  (sSeq (sTup [3, 4, 5, 6] (eF m_law_numbers (aC (eV 1) aN)))
  (sSeq (sSet 2 (eF m_stretch_made (aC (eV 3) (aC (eV 4) (aC (eV 5) (aC (eV 6) aN))))))
  (sIf (tB (e2 dIsNot (eV 2) (eC .non)))
  (sSeq (sSet 7 (e2 dAdd (eV 6) (e2 dMul (e2 dIx2 (eV 2) (eC (.int 2))) (e2 dSub (e2 dMod (eF m_law_mixed (aC (eV 1) (aC (eC (.int 11)) aN))) (eC (.int 9))) (eC (.int 4))))))
  (sSeq (sSet 8 (eLst (aC (eV 7) (aC (e2 dAdd (eV 7) (eC (.int 1))) (aC (eC (.int 0)) (aC (eC (.int 1)) (aC (e1 dNeg (eC (.int 1))) (aC (e2 dAdd (e2 dMul (e2 dDiv (e2 dSub (eC (.int 0)) (eV 6)) (eV 5)) (eV 5)) (eV 6)) (aC (eF m_stretch_some (aC (eV 2) aN)) aN)))))))))
  (sSeq (sFor (gN 9) (eSl2 (eV 2) oN (oS (eC (.int 2))))
  l_law_1)
  (sSeq (sIf (tNot (tV (eF m_law_nearest (aC (eV 2) (aC (eF m_stretch_some (aC (eV 2) aN)) (aC (eC .non) aN))))))
  (sRet (eC (.bl false)))
  sN)
  (sFor (gN 10) (eV 8)
  l_law_2)))))
  sN)))
def b_law : FS :=
  (sSeq (sFor (gN 1) (e2 dAdd (eLst (aC (eC (.int 5)) aN)) (eSl2 (eV 0) oN (oS (eC (.int 12)))))
  l_law_3)
  (sRet (eC (.bl true))))
def m_law : List D → Option D := fnD 1 11 b_law
end Fx
set_option maxRecDepth 100000
set_option maxHeartbeats 4000000
namespace Fx
open PySem PySem.Spec PyProof.Rows L2
def top (i : Nat) : Stmt := PySem.Challenge.pw_latewell_k04_above_below_some.main.body.getD i (.Pass ⟨0, 0, 0, 0⟩)
structure Blt (K : PySem.W.Frag) (mg : Str → Option Value) : Prop where
  z_abs : mg "abs" = none
  z_len : mg "len" = none
  z_max : mg "max" = none
  z_min : mg "min" = none
  z_any : mg "any" = none
  z_all : mg "all" = none
  z_range : mg "range" = none
  z_isinstance : mg "isinstance" = none
  z_int : mg "int" = none
  z_bool : mg "bool" = none
  z_str : mg "str" = none
  z_tuple : mg "tuple" = none
  z_list : mg "list" = none
  z_sorted : mg "sorted" = none
  z_dict : mg "dict" = none
  z_set : mg "set" = none
section
variable {P : Program} {w : World} {K : PySem.W.Frag} {mg : Str → Option Value} {base : Heap}
abbrev s_stretch_made : Stmt := top 1
theorem sc_stretch_made : FnScope ["low", "high", "step", "rest", "first", "last"] ["low", "high", "step", "rest"] (defScope s_stretch_made) := ⟨rfl, rfl, rfl, by decide +kernel, rfl, by decide +kernel, by decide +kernel⟩
theorem ok_stretch_made {f : Addr} {fd : FuncData} (F : Fun K "stretch_made" "stretch_made" s_stretch_made f fd) (bF : Binds K fd ["low", "high", "step", "rest"] []) (mF : mg "stretch_made" = some (.ref f)) (T : Blt K mg)  : DefOk P w K mg base 1 "stretch_made" m_stretch_made :=
  ⟨f, fd, ["low", "high", "step", "rest"], fn_ok F sc_stretch_made rfl rfl (fun cdv A outer s H E hr =>
  (xsC (xsif (xtnot (xt3 cLe cLt xint (xv 3) (xv 2)))
  (xs1 (xret xnon))
  xsN)
  (xsC (xset 4 sc_stretch_made.nd (xif (xt cIs (xv 0) xnon) xnon (xb oAdd (xv 0) (xb oMod (xb oSub (xv 3) (xv 0)) (xv 2)))))
  (xsC (xset 5 sc_stretch_made.nd (xif (xt cIs (xv 1) xnon) xnon (xb oSub (xv 1) (xb oMod (xb oSub (xv 1) (xv 3)) (xv 2)))))
  (xsC (xsif (xw (xwor (xt cIs (xv 4) xnon) (xwor1 (xt cIs (xv 5) xnon))))
  (xs1 (xret (xtup (xaC (xv 4) (xaC (xv 5) (xaC (xv 2) (xaC (xv 3) xaN)))))))
  xsN)
  (xsC (xsif (xt cGt (xv 4) (xv 5))
  (xs1 (xret xnon))
  xsN)
  (xsC (xsif (xt (cEq hr.units) (xv 4) (xv 5))
  (xs1 (xret (xtup (xaC (xv 4) (xaC (xv 5) (xaC xint (xaC xint xaN)))))))
  xsN)
  (xs1 (xret (xtup (xaC (xv 4) (xaC (xv 5) (xaC (xv 2) (xaC (xv 3) xaN)))))))))))))), bF, F.kp, mF⟩
abbrev s_lower_bound : Stmt := top 2
theorem sc_lower_bound : FnScope ["one", "other"] ["one", "other"] (defScope s_lower_bound) := ⟨rfl, rfl, rfl, by decide +kernel, rfl, by decide +kernel, by decide +kernel⟩
theorem ok_lower_bound {f : Addr} {fd : FuncData} (F : Fun K "lower_bound" "lower_bound" s_lower_bound f fd) (bF : Binds K fd ["one", "other"] []) (mF : mg "lower_bound" = some (.ref f)) (T : Blt K mg)  : DefOk P w K mg base 1 "lower_bound" m_lower_bound :=
  ⟨f, fd, ["one", "other"], fn_ok F sc_lower_bound rfl rfl (fun cdv A outer s H E hr =>
  (xsC (xsif (xw (xwor (xt cIs (xv 0) xnon) (xwor1 (xt cIs (xv 1) xnon))))
  (xs1 (xret (xif (xt cIs (xv 0) xnon) (xv 1) (xv 0))))
  xsN)
  (xs1 (xret (xB (callMax rfl) rfl T.z_max PyProof.Rows.boot_max (xaC (xv 0) (xaC (xv 1) xaN))))))), bF, F.kp, mF⟩
abbrev s_upper_bound : Stmt := top 3
theorem sc_upper_bound : FnScope ["one", "other"] ["one", "other"] (defScope s_upper_bound) := ⟨rfl, rfl, rfl, by decide +kernel, rfl, by decide +kernel, by decide +kernel⟩
theorem ok_upper_bound {f : Addr} {fd : FuncData} (F : Fun K "upper_bound" "upper_bound" s_upper_bound f fd) (bF : Binds K fd ["one", "other"] []) (mF : mg "upper_bound" = some (.ref f)) (T : Blt K mg)  : DefOk P w K mg base 1 "upper_bound" m_upper_bound :=
  ⟨f, fd, ["one", "other"], fn_ok F sc_upper_bound rfl rfl (fun cdv A outer s H E hr =>
  (xsC (xsif (xw (xwor (xt cIs (xv 0) xnon) (xwor1 (xt cIs (xv 1) xnon))))
  (xs1 (xret (xif (xt cIs (xv 0) xnon) (xv 1) (xv 0))))
  xsN)
  (xs1 (xret (xB (callMin rfl) rfl T.z_min PyProof.Rows.boot_min (xaC (xv 0) (xaC (xv 1) xaN))))))), bF, F.kp, mF⟩
abbrev s_stretch_between : Stmt := top 4
theorem sc_stretch_between : FnScope ["one", "low", "high"] ["one", "low", "high"] (defScope s_stretch_between) := ⟨rfl, rfl, rfl, by decide +kernel, rfl, by decide +kernel, by decide +kernel⟩
theorem ok_stretch_between {f : Addr} {fd : FuncData} (F : Fun K "stretch_between" "stretch_between" s_stretch_between f fd) (bF : Binds K fd ["one", "low", "high"] []) (mF : mg "stretch_between" = some (.ref f)) (T : Blt K mg) (G_lower_bound : DefOk P w K mg base 1 "lower_bound" m_lower_bound) (G_stretch_made : DefOk P w K mg base 1 "stretch_made" m_stretch_made) (G_upper_bound : DefOk P w K mg base 1 "upper_bound" m_upper_bound) : DefOk P w K mg base 2 "stretch_between" m_stretch_between :=
  ⟨f, fd, ["one", "low", "high"], fn_ok F sc_stretch_between rfl rfl (fun cdv A outer s H E hr =>
  (xs1 (xret (xF G_stretch_made (hr.mono (by decide)) (xaC (xF G_lower_bound (hr.mono (by decide)) (xaC (xix2 (xv 0) xint) (xaC (xv 1) xaN))) (xaC (xF G_upper_bound (hr.mono (by decide)) (xaC (xix2 (xv 0) xint) (xaC (xv 2) xaN))) (xaC (xix2 (xv 0) xint) (xaC (xix2 (xv 0) xint) xaN)))))))), bF, F.kp, mF⟩
abbrev s_stretch_above : Stmt := top 5
theorem sc_stretch_above : FnScope ["one", "c"] ["one", "c"] (defScope s_stretch_above) := ⟨rfl, rfl, rfl, by decide +kernel, rfl, by decide +kernel, by decide +kernel⟩
theorem ok_stretch_above {f : Addr} {fd : FuncData} (F : Fun K "stretch_above" "stretch_above" s_stretch_above f fd) (bF : Binds K fd ["one", "c"] []) (mF : mg "stretch_above" = some (.ref f)) (T : Blt K mg) (G_stretch_between : DefOk P w K mg base 2 "stretch_between" m_stretch_between) : DefOk P w K mg base 3 "stretch_above" m_stretch_above :=
  ⟨f, fd, ["one", "c"], fn_ok F sc_stretch_above rfl rfl (fun cdv A outer s H E hr =>
  (xs1 (xret (xF G_stretch_between (hr.mono (by decide)) (xaC (xv 0) (xaC (xb oAdd (xv 1) xint) (xaC xnon xaN))))))), bF, F.kp, mF⟩
abbrev s_stretch_below : Stmt := top 6
theorem sc_stretch_below : FnScope ["one", "c"] ["one", "c"] (defScope s_stretch_below) := ⟨rfl, rfl, rfl, by decide +kernel, rfl, by decide +kernel, by decide +kernel⟩
theorem ok_stretch_below {f : Addr} {fd : FuncData} (F : Fun K "stretch_below" "stretch_below" s_stretch_below f fd) (bF : Binds K fd ["one", "c"] []) (mF : mg "stretch_below" = some (.ref f)) (T : Blt K mg) (G_stretch_between : DefOk P w K mg base 2 "stretch_between" m_stretch_between) : DefOk P w K mg base 3 "stretch_below" m_stretch_below :=
  ⟨f, fd, ["one", "c"], fn_ok F sc_stretch_below rfl rfl (fun cdv A outer s H E hr =>
  (xs1 (xret (xF G_stretch_between (hr.mono (by decide)) (xaC (xv 0) (xaC xnon (xaC (xb oSub (xv 1) xint) xaN))))))), bF, F.kp, mF⟩
abbrev s_nearest : Stmt := top 7
theorem sc_nearest : FnScope ["values"] ["values"] (defScope s_nearest) := ⟨rfl, rfl, rfl, by decide +kernel, rfl, by decide +kernel, by decide +kernel⟩
theorem ok_nearest {f : Addr} {fd : FuncData} (F : Fun K "nearest" "nearest" s_nearest f fd) (bF : Binds K fd ["values"] []) (mF : mg "nearest" = some (.ref f)) (T : Blt K mg) (hC : ∃ c, fd.code = .ref c ∧ PySem.W.codeHdIn K c L2.TabP = true)  : DefOk P w K mg base 3 "nearest" m_nearest :=
  ⟨f, fd, ["values"], fn_okc F sc_nearest rfl rfl (fun cdv A outer s H E hcd hr =>
  (xs1 (xret (xminK (hr.mono (by decide)) (by obtain ⟨c, h1, h2⟩ := hC; exact ⟨c, hcd.symm.trans h1, h2⟩) (by exact ⟨rfl, rfl, rfl, by decide +kernel, rfl, by decide +kernel, by decide +kernel⟩) (by intros; rfl) (by intro f c A outer s H E; exact (xtup (xaC (xB callAbs rfl T.z_abs PyProof.Rows.boot_abs (xaC (xv 0) xaN)) (xaC (xneg (xv 0)) xaN)))) T.z_min (xaC (xv 0) xaN))))), bF, F.kp, mF⟩
abbrev s_stretch_some : Stmt := top 8
theorem sc_stretch_some : FnScope ["one", "above", "below", "ends"] ["one"] (defScope s_stretch_some) := ⟨rfl, rfl, rfl, by decide +kernel, rfl, by decide +kernel, by decide +kernel⟩
theorem ok_stretch_some {f : Addr} {fd : FuncData} (F : Fun K "stretch_some" "stretch_some" s_stretch_some f fd) (bF : Binds K fd ["one"] []) (mF : mg "stretch_some" = some (.ref f)) (T : Blt K mg) (G_nearest : DefOk P w K mg base 3 "nearest" m_nearest) (G_stretch_above : DefOk P w K mg base 3 "stretch_above" m_stretch_above) (G_stretch_below : DefOk P w K mg base 3 "stretch_below" m_stretch_below) : DefOk P w K mg base 4 "stretch_some" m_stretch_some :=
  ⟨f, fd, ["one"], fn_ok F sc_stretch_some rfl rfl (fun cdv A outer s H E hr =>
  (xsC (xset 1 sc_stretch_some.nd (xF G_stretch_above (hr.mono (by decide)) (xaC (xv 0) (xaC (xneg xint) xaN))))
  (xsC (xset 2 sc_stretch_some.nd (xF G_stretch_below (hr.mono (by decide)) (xaC (xv 0) (xaC xint xaN))))
  (xsC (xown 3 sc_stretch_some.nd (xoIf (xt cIs (xv 1) xnon) (xoLst xaN) (xoLst (xaC (xix2 (xv 1) xint) xaN))))
  (xsC (xsif (xt cIsNot (xv 2) xnon)
  (xs1 (xapp 3 (xaC (xix2 (xv 2) xint) xaN)))
  xsN)
  (xs1 (xfrz 3 (xret (xF G_nearest (hr.mono (by decide)) (xaC (xv 3) xaN)))))))))), bF, F.kp, mF⟩
abbrev s_stretch_not : Stmt := top 9
theorem sc_stretch_not : FnScope ["one", "v", "parts"] ["one", "v"] (defScope s_stretch_not) := ⟨rfl, rfl, rfl, by decide +kernel, rfl, by decide +kernel, by decide +kernel⟩
theorem ok_stretch_not {f : Addr} {fd : FuncData} (F : Fun K "stretch_not" "stretch_not" s_stretch_not f fd) (bF : Binds K fd ["one", "v"] []) (mF : mg "stretch_not" = some (.ref f)) (T : Blt K mg) (G_nearest : DefOk P w K mg base 3 "nearest" m_nearest) (G_stretch_above : DefOk P w K mg base 3 "stretch_above" m_stretch_above) (G_stretch_below : DefOk P w K mg base 3 "stretch_below" m_stretch_below) (G_stretch_some : DefOk P w K mg base 4 "stretch_some" m_stretch_some) : DefOk P w K mg base 5 "stretch_not" m_stretch_not :=
  ⟨f, fd, ["one", "v"], fn_ok F sc_stretch_not rfl rfl (fun cdv A outer s H E hr =>
  (xsC (xset 2 sc_stretch_not.nd (xlst (xaC (xF G_stretch_above (hr.mono (by decide)) (xaC (xv 0) (xaC (xv 1) xaN))) (xaC (xF G_stretch_below (hr.mono (by decide)) (xaC (xv 0) (xaC (xv 1) xaN))) xaN))))
  (xs1 (xret (xF G_nearest (hr.mono (by decide)) (xaC (xlc (sc := defScope s_stretch_not) rfl rfl (by show ScB ["one", "v", "parts"] (defScope s_stretch_not) _ "part" [] []; exact ⟨rfl, rfl, by decide +kernel, by decide +kernel, rfl, by decide +kernel, by decide +kernel, rfl, by decide +kernel⟩) (xv 2) (fun _ _ _ _ => (xts_one (xt cIsNot (xv 0) xnon))) (fun _ _ _ _ => (xF G_stretch_some (hr.mono (by decide)) (xaC (xv 0) xaN)))) xaN)))))), bF, F.kp, mF⟩
abbrev s_law_mixed : Stmt := top 11
theorem sc_law_mixed : FnScope ["_law_cell", "_law_k", "_law_number"] ["_law_cell", "_law_k"] (defScope s_law_mixed) := ⟨rfl, rfl, rfl, by decide +kernel, rfl, by decide +kernel, by decide +kernel⟩
theorem ok_law_mixed {f : Addr} {fd : FuncData} (F : Fun K "_law_mixed" "_law_mixed" s_law_mixed f fd) (bF : Binds K fd ["_law_cell", "_law_k"] []) (mF : mg "_law_mixed" = some (.ref f)) (T : Blt K mg)  : DefOk P w K mg base 1 "_law_mixed" m_law_mixed :=
  ⟨f, fd, ["_law_cell", "_law_k"], fn_ok F sc_law_mixed rfl rfl (fun cdv A outer s H E hr =>
  (xsC (xset 2 sc_law_mixed.nd (xb oMod (xb oMul (xb oAdd (xb oAdd (xv 0) (xb oMul xint (xv 1))) xint) xint) xint))
  (xsC (xset 2 sc_law_mixed.nd (xb oMod (xb oMul (xv 2) (xb oAdd (xb oDiv (xv 2) xint) xint)) xint))
  (xs1 (xret (xb oMod (xb oMul (xb oAdd (xb oAdd (xv 2) (xb oMul xint (xv 1))) xint) (xb oAdd (xb oDiv (xv 2) xint) xint)) xint)))))), bF, F.kp, mF⟩
abbrev s_law_numbers : Stmt := top 12
theorem sc_law_numbers : FnScope ["_law_cell", "_law_wide", "_law_step", "_law_rest", "_law_low", "_law_long"] ["_law_cell"] (defScope s_law_numbers) := ⟨rfl, rfl, rfl, by decide +kernel, rfl, by decide +kernel, by decide +kernel⟩
theorem ok_law_numbers {f : Addr} {fd : FuncData} (F : Fun K "_law_numbers" "_law_numbers" s_law_numbers f fd) (bF : Binds K fd ["_law_cell"] []) (mF : mg "_law_numbers" = some (.ref f)) (T : Blt K mg) (G_law_mixed : DefOk P w K mg base 1 "_law_mixed" m_law_mixed) : DefOk P w K mg base 2 "_law_numbers" m_law_numbers :=
  ⟨f, fd, ["_law_cell"], fn_ok F sc_law_numbers rfl rfl (fun cdv A outer s H E hr =>
  (xsC (xsif (xt (cEq hr.units) (xb oMod (xv 0) xint) xint)
  (xsC (xset 0 sc_law_numbers.nd (xb oDiv (xv 0) xint))
  (xsC (xset 1 sc_law_numbers.nd (xix2 (xlst (xaC xint (xaC (xb oPow xint xint) (xaC (xb oPow xint xint) xaN)))) (xb oMod (xv 0) xint)))
  (xsC (xset 0 sc_law_numbers.nd (xb oDiv (xv 0) xint))
  (xsC (xset 2 sc_law_numbers.nd (xb oAdd xint (xb oMod (xb oDiv (xv 0) xint) (xb oMul xint (xv 1)))))
  (xsC (xset 3 sc_law_numbers.nd (xb oSub (xb oMod (xb oDiv (xv 0) (xb oMul xint (xv 1))) (xb oMul xint (xv 1))) (xb oMul xint (xv 1))))
  (xsC (xset 4 sc_law_numbers.nd (xb oSub (xb oMod (xb oDiv (xv 0) (xb oMul (xb oMul xint (xv 1)) (xv 1))) (xb oMul xint (xv 1))) (xb oMul xint (xv 1))))
  (xs1 (xset 5 sc_law_numbers.nd (xb oSub (xb oMod (xb oDiv (xv 0) (xb oMul (xb oMul (xb oMul xint (xv 1)) (xv 1)) (xv 1))) (xb oMul xint (xv 1))) (xb oMul xint (xv 1)))))))))))
  (xsC (xset 1 sc_law_numbers.nd (xix2 (xlst (xaC xint (xaC xint (xaC (xb oPow xint xint) xaN)))) (xb oMod (xF G_law_mixed (hr.mono (by decide)) (xaC (xv 0) (xaC xint xaN))) xint)))
  (xsC (xset 2 sc_law_numbers.nd (xb oAdd xint (xb oMod (xb oMul (xF G_law_mixed (hr.mono (by decide)) (xaC (xv 0) (xaC xint xaN))) (xv 1)) (xb oAdd (xb oMul xint (xv 1)) xint))))
  (xsC (xset 3 sc_law_numbers.nd (xb oSub (xb oMod (xb oMul (xF G_law_mixed (hr.mono (by decide)) (xaC (xv 0) (xaC xint xaN))) (xv 1)) (xb oAdd (xb oMul xint (xv 1)) xint)) (xb oMul xint (xv 1))))
  (xsC (xset 4 sc_law_numbers.nd (xb oSub (xb oMod (xb oMul (xF G_law_mixed (hr.mono (by decide)) (xaC (xv 0) (xaC xint xaN))) (xv 1)) (xb oAdd (xb oMul xint (xv 1)) xint)) (xb oMul xint (xv 1))))
  (xsC (xset 5 sc_law_numbers.nd (xb oSub (xb oMod (xb oMul (xF G_law_mixed (hr.mono (by decide)) (xaC (xv 0) (xaC xint xaN))) (xv 1)) (xb oAdd (xb oMul xint (xv 1)) xint)) (xb oMul xint (xv 1))))
  (xs1 (xset 0 sc_law_numbers.nd (xF G_law_mixed (hr.mono (by decide)) (xaC (xv 0) (xaC xint xaN)))))))))))
  (xs1 (xret (xtup (xaC (xix2 (xlst (xaC (xv 4) (xaC xnon (xaC (xv 4) xaN)))) (xb oMod (xv 0) xint)) (xaC (xix2 (xlst (xaC (xb oAdd (xv 4) (xv 5)) (xaC (xb oAdd (xv 4) (xv 5)) (xaC xnon xaN)))) (xb oMod (xb oDiv (xv 0) xint) xint)) (xaC (xv 2) (xaC (xv 3) xaN))))))))), bF, F.kp, mF⟩
abbrev s_law_in : Stmt := top 13
theorem sc_law_in : FnScope ["_law_numbers_here", "_law_value", "_law_low", "_law_high", "_law_step", "_law_rest"] ["_law_numbers_here", "_law_value"] (defScope s_law_in) := ⟨rfl, rfl, rfl, by decide +kernel, rfl, by decide +kernel, by decide +kernel⟩
theorem ok_law_in {f : Addr} {fd : FuncData} (F : Fun K "_law_in" "_law_in" s_law_in f fd) (bF : Binds K fd ["_law_numbers_here", "_law_value"] []) (mF : mg "_law_in" = some (.ref f)) (T : Blt K mg)  : DefOk P w K mg base 1 "_law_in" m_law_in :=
  ⟨f, fd, ["_law_numbers_here", "_law_value"], fn_ok F sc_law_in rfl rfl (fun cdv A outer s H E hr =>
  (xsC (xtupset (xgT (xgsC (xgN 2 sc_law_in.nd) (xgsC (xgN 3 sc_law_in.nd) (xgsC (xgN 4 sc_law_in.nd) (xgsC (xgN 5 sc_law_in.nd) xgs0))))) (xv 0))
  (xsC (xsif (xw (xwor (xw (xwand (xt cIsNot (xv 2) xnon) (xwand1 (xt cLt (xv 1) (xv 2))))) (xwor1 (xw (xwand (xt cIsNot (xv 3) xnon) (xwand1 (xt cGt (xv 1) (xv 3))))))))
  (xs1 (xret xbl))
  xsN)
  (xs1 (xret (xcmp (cEq hr.units) (xb oMod (xb oSub (xv 1) (xv 5)) (xv 4)) xint)))))), bF, F.kp, mF⟩
abbrev s_law_above : Stmt := top 15
theorem sc_law_above : FnScope ["_law_one", "_law_value", "_law_first", "_law_low", "_law_high", "_law_step", "_law_rest"] ["_law_one", "_law_value"] (defScope s_law_above) := ⟨rfl, rfl, rfl, by decide +kernel, rfl, by decide +kernel, by decide +kernel⟩
theorem ok_law_above {f : Addr} {fd : FuncData} (F : Fun K "_law_above" "_law_above" s_law_above f fd) (bF : Binds K fd ["_law_one", "_law_value"] []) (mF : mg "_law_above" = some (.ref f)) (T : Blt K mg)  : DefOk P w K mg base 1 "_law_above" m_law_above :=
  ⟨f, fd, ["_law_one", "_law_value"], fn_ok F sc_law_above rfl rfl (fun cdv A outer s H E hr =>
  (xsC (xtupset (xgT (xgsC (xgN 3 sc_law_above.nd) (xgsC (xgN 4 sc_law_above.nd) (xgsC (xgN 5 sc_law_above.nd) (xgsC (xgN 6 sc_law_above.nd) xgs0))))) (xv 0))
  (xsC (xset 2 sc_law_above.nd (xb oAdd (xb oAdd (xv 1) xint) (xb oMod (xb oSub (xb oSub (xv 6) (xv 1)) xint) (xv 5))))
  (xsC (xsif (xw (xwand (xt cIsNot (xv 3) xnon) (xwand1 (xt cGt (xv 3) (xv 2)))))
  (xs1 (xset 2 sc_law_above.nd (xv 3)))
  xsN)
  (xsC (xsif (xw (xwand (xt cIsNot (xv 4) xnon) (xwand1 (xt cGt (xv 2) (xv 4)))))
  (xs1 (xret xnon))
  xsN)
  (xsC (xsif (xt (cEq hr.units) (xv 4) (xv 2))
  (xs1 (xret (xtup (xaC (xv 2) (xaC (xv 2) (xaC xint (xaC xint xaN)))))))
  xsN)
  (xs1 (xret (xtup (xaC (xv 2) (xaC (xv 4) (xaC (xv 5) (xaC (xv 6) xaN))))))))))))), bF, F.kp, mF⟩
abbrev s_law_turned : Stmt := top 16
theorem sc_law_turned : FnScope ["_law_one", "_law_low", "_law_high", "_law_step", "_law_rest"] ["_law_one"] (defScope s_law_turned) := ⟨rfl, rfl, rfl, by decide +kernel, rfl, by decide +kernel, by decide +kernel⟩
theorem ok_law_turned {f : Addr} {fd : FuncData} (F : Fun K "_law_turned" "_law_turned" s_law_turned f fd) (bF : Binds K fd ["_law_one"] []) (mF : mg "_law_turned" = some (.ref f)) (T : Blt K mg)  : DefOk P w K mg base 1 "_law_turned" m_law_turned :=
  ⟨f, fd, ["_law_one"], fn_ok F sc_law_turned rfl rfl (fun cdv A outer s H E hr =>
  (xsC (xsif (xt cIs (xv 0) xnon)
  (xs1 (xret xnon))
  xsN)
  (xsC (xtupset (xgT (xgsC (xgN 1 sc_law_turned.nd) (xgsC (xgN 2 sc_law_turned.nd) (xgsC (xgN 3 sc_law_turned.nd) (xgsC (xgN 4 sc_law_turned.nd) xgs0))))) (xv 0))
  (xsC (xsif (xt cIsNot (xv 1) xnon)
  (xs1 (xset 1 sc_law_turned.nd (xb oSub xint (xv 1))))
  xsN)
  (xsC (xsif (xt cIsNot (xv 2) xnon)
  (xs1 (xset 2 sc_law_turned.nd (xb oSub xint (xv 2))))
  xsN)
  (xs1 (xret (xtup (xaC (xv 2) (xaC (xv 1) (xaC (xv 3) (xaC (xb oMod (xb oSub xint (xv 4)) (xv 3)) xaN)))))))))))), bF, F.kp, mF⟩
abbrev s_law_below : Stmt := top 17
theorem sc_law_below : FnScope ["_law_one", "_law_value"] ["_law_one", "_law_value"] (defScope s_law_below) := ⟨rfl, rfl, rfl, by decide +kernel, rfl, by decide +kernel, by decide +kernel⟩
theorem ok_law_below {f : Addr} {fd : FuncData} (F : Fun K "_law_below" "_law_below" s_law_below f fd) (bF : Binds K fd ["_law_one", "_law_value"] []) (mF : mg "_law_below" = some (.ref f)) (T : Blt K mg) (G_law_above : DefOk P w K mg base 1 "_law_above" m_law_above) (G_law_turned : DefOk P w K mg base 1 "_law_turned" m_law_turned) : DefOk P w K mg base 2 "_law_below" m_law_below :=
  ⟨f, fd, ["_law_one", "_law_value"], fn_ok F sc_law_below rfl rfl (fun cdv A outer s H E hr =>
  (xs1 (xret (xF G_law_turned (hr.mono (by decide)) (xaC (xF G_law_above (hr.mono (by decide)) (xaC (xF G_law_turned (hr.mono (by decide)) (xaC (xv 0) xaN)) (xaC (xb oSub xint (xv 1)) xaN))) xaN))))), bF, F.kp, mF⟩
abbrev s_law_nearer : Stmt := top 18
theorem sc_law_nearer : FnScope ["_law_one", "_law_other"] ["_law_one", "_law_other"] (defScope s_law_nearer) := ⟨rfl, rfl, rfl, by decide +kernel, rfl, by decide +kernel, by decide +kernel⟩
theorem ok_law_nearer {f : Addr} {fd : FuncData} (F : Fun K "_law_nearer" "_law_nearer" s_law_nearer f fd) (bF : Binds K fd ["_law_one", "_law_other"] []) (mF : mg "_law_nearer" = some (.ref f)) (T : Blt K mg)  : DefOk P w K mg base 1 "_law_nearer" m_law_nearer :=
  ⟨f, fd, ["_law_one", "_law_other"], fn_ok F sc_law_nearer rfl rfl (fun cdv A outer s H E hr =>
  (xs1 (xret (xor (xcmp cLt (xB callAbs rfl T.z_abs PyProof.Rows.boot_abs (xaC (xv 0) xaN)) (xB callAbs rfl T.z_abs PyProof.Rows.boot_abs (xaC (xv 1) xaN))) (xone (xand (xcmp (cEq hr.units) (xB callAbs rfl T.z_abs PyProof.Rows.boot_abs (xaC (xv 0) xaN)) (xB callAbs rfl T.z_abs PyProof.Rows.boot_abs (xaC (xv 1) xaN))) (xone (xcmp cGt (xv 0) (xv 1))))))))), bF, F.kp, mF⟩
abbrev s_law_nearest : Stmt := top 19
theorem sc_law_nearest : FnScope ["_law_one", "_law_found", "_law_but", "_law_k", "_law_value"] ["_law_one", "_law_found", "_law_but"] (defScope s_law_nearest) := ⟨rfl, rfl, rfl, by decide +kernel, rfl, by decide +kernel, by decide +kernel⟩
theorem ok_law_nearest {f : Addr} {fd : FuncData} (F : Fun K "_law_nearest" "_law_nearest" s_law_nearest f fd) (bF : Binds K fd ["_law_one", "_law_found", "_law_but"] []) (mF : mg "_law_nearest" = some (.ref f)) (T : Blt K mg) (G_law_in : DefOk P w K mg base 1 "_law_in" m_law_in) (G_law_nearer : DefOk P w K mg base 1 "_law_nearer" m_law_nearer) : DefOk P w K mg base 2 "_law_nearest" m_law_nearest :=
  ⟨f, fd, ["_law_one", "_law_found", "_law_but"], fn_ok F sc_law_nearest rfl rfl (fun cdv A outer s H E hr =>
  (xsC (xsif (xw (xwor (xtnot (xtv (xty (t := .int) T.z_isinstance T.z_int PyProof.Rows.boot_int (xv 1)) (fun _ => rfl))) (xwor (xtv (xty (t := .bool) T.z_isinstance T.z_bool PyProof.Rows.boot_bool (xv 1)) (fun _ => rfl)) (xwor (xtnot (xtv (xF G_law_in (hr.mono (by decide)) (xaC (xv 0) (xaC (xv 1) xaN))) (fun _ => rfl))) (xwor1 (xt (cEq hr.units) (xv 1) (xv 2)))))))
  (xs1 (xret xbl))
  xsN)
  (xsC (xfor (xgN 3 sc_law_nearest.nd) (xlst (xaC (xneg xint) (xaC (xneg xint) (xaC xint (xaC xint xaN)))))
  (xsC (xset 4 sc_law_nearest.nd (xb oAdd (xv 1) (xb oMul (xv 3) (xix2 (xv 0) xint))))
  (xs1 (xsif (xw (xwand (xt (cNe hr.units) (xv 4) (xv 2)) (xwand (xtv (xF G_law_in (hr.mono (by decide)) (xaC (xv 0) (xaC (xv 4) xaN))) (fun _ => rfl)) (xwand1 (xtv (xF G_law_nearer (hr.mono (by decide)) (xaC (xv 4) (xaC (xv 1) xaN))) (fun _ => rfl))))))
  (xs1 (xret xbl))
  xsN))))
  (xs1 (xret xbl))))), bF, F.kp, mF⟩
abbrev s_law : Stmt := top 20
theorem sc_law : FnScope ["_law_script", "_law_cell", "_law_one", "_law_low", "_law_high", "_law_step", "_law_rest", "_law_near", "_law_values", "_law_end", "_law_value", "_law_found"] ["_law_script"] (defScope s_law) := ⟨rfl, rfl, rfl, by decide +kernel, rfl, by decide +kernel, by decide +kernel⟩
theorem fn_law {f : Addr} {fd : FuncData} (F : Fun K "law" "law" s_law f fd) (T : Blt K mg) (G_law_above : DefOk P w K mg base 1 "_law_above" m_law_above) (G_law_below : DefOk P w K mg base 2 "_law_below" m_law_below) (G_law_mixed : DefOk P w K mg base 1 "_law_mixed" m_law_mixed) (G_law_nearest : DefOk P w K mg base 2 "_law_nearest" m_law_nearest) (G_law_numbers : DefOk P w K mg base 2 "_law_numbers" m_law_numbers) (G_stretch_above : DefOk P w K mg base 3 "stretch_above" m_stretch_above) (G_stretch_below : DefOk P w K mg base 3 "stretch_below" m_stretch_below) (G_stretch_made : DefOk P w K mg base 1 "stretch_made" m_stretch_made) (G_stretch_not : DefOk P w K mg base 5 "stretch_not" m_stretch_not) (G_stretch_some : DefOk P w K mg base 4 "stretch_some" m_stretch_some) : FnOk P w K mg base CX0 6 f fd ["_law_script"] (spP K m_law) :=
  fn_ok F sc_law rfl rfl (fun cdv A outer s H E hr =>
  (xsC (xfor (xgN 1 sc_law.nd) (xb oAdd (xlst (xaC xint xaN)) (xsl2 (xv 0) xoN (xoS xint)))
  (xsC (xtupset (xgT (xgsC (xgN 3 sc_law.nd) (xgsC (xgN 4 sc_law.nd) (xgsC (xgN 5 sc_law.nd) (xgsC (xgN 6 sc_law.nd) xgs0))))) (xF G_law_numbers (hr.mono (by decide)) (xaC (xv 1) xaN)))
  (xsC (xset 2 sc_law.nd (xF G_stretch_made (hr.mono (by decide)) (xaC (xv 3) (xaC (xv 4) (xaC (xv 5) (xaC (xv 6) xaN))))))
  (xs1 (xsif (xt cIsNot (xv 2) xnon)
  (xsC (xset 7 sc_law.nd (xb oAdd (xv 6) (xb oMul (xix2 (xv 2) xint) (xb oSub (xb oMod (xF G_law_mixed (hr.mono (by decide)) (xaC (xv 1) (xaC xint xaN))) xint) xint))))
  (xsC (xset 8 sc_law.nd (xlst (xaC (xv 7) (xaC (xb oAdd (xv 7) xint) (xaC xint (xaC xint (xaC (xneg xint) (xaC (xb oAdd (xb oMul (xb oDiv (xb oSub xint (xv 6)) (xv 5)) (xv 5)) (xv 6)) (xaC (xF G_stretch_some (hr.mono (by decide)) (xaC (xv 2) xaN)) xaN)))))))))
  (xsC (xfor (xgN 9 sc_law.nd) (xsl2 (xv 2) xoN (xoS xint))
  (xs1 (xsif (xt cIsNot (xv 9) xnon)
  (xs1 (xset 8 sc_law.nd (xb oAdd (xv 8) (xlst (xaC (xv 9) (xaC (xb oSub (xv 9) xint) (xaC (xb oAdd (xv 9) xint) (xaC (xb oAdd (xv 9) (xv 5)) xaN))))))))
  xsN)))
  (xsC (xsif (xtnot (xtv (xF G_law_nearest (hr.mono (by decide)) (xaC (xv 2) (xaC (xF G_stretch_some (hr.mono (by decide)) (xaC (xv 2) xaN)) (xaC xnon xaN)))) (fun _ => rfl)))
  (xs1 (xret xbl))
  xsN)
  (xs1 (xfor (xgN 10 sc_law.nd) (xv 8)
  (xsC (xsif (xt (cNe hr.units) (xF G_stretch_above (hr.mono (by decide)) (xaC (xv 2) (xaC (xv 10) xaN))) (xF G_law_above (hr.mono (by decide)) (xaC (xv 2) (xaC (xv 10) xaN))))
  (xs1 (xret xbl))
  xsN)
  (xsC (xsif (xt (cNe hr.units) (xF G_stretch_below (hr.mono (by decide)) (xaC (xv 2) (xaC (xv 10) xaN))) (xF G_law_below (hr.mono (by decide)) (xaC (xv 2) (xaC (xv 10) xaN))))
  (xs1 (xret xbl))
  xsN)
  (xsC (xset 11 sc_law.nd (xF G_stretch_not (hr.mono (by decide)) (xaC (xv 2) (xaC (xv 10) xaN))))
  (xs1 (xsif (xw (xwand (xt cIsNot (xix2 (xv 2) xint) xnon) (xwand (xt (cEq hr.units) (xix2 (xv 2) xint) (xix2 (xv 2) xint)) (xwand1 (xt (cEq hr.units) (xix2 (xv 2) xint) (xv 10))))))
  (xs1 (xsif (xt cIsNot (xv 11) xnon)
  (xs1 (xret xbl))
  xsN))
  (xs1 (xsif (xtnot (xtv (xF G_law_nearest (hr.mono (by decide)) (xaC (xv 2) (xaC (xv 11) (xaC (xv 10) xaN)))) (fun _ => rfl)))
  (xs1 (xret xbl))
  xsN)))))))))))))
  xsN)))))
  (xs1 (xret xbl))))
end
end Fx
namespace Fx
open PySem
theorem cutTake (n : Nat) (ns : List Int) : dCut (ns.map D.int) none (some (n : Int)) = (ns.take n).map D.int := by
  unfold dCut
  show ((ns.map D.int).drop 0).take _ = _
  rw [List.drop_zero, List.length_map, List.map_take]
  show (ns.map D.int).take (((if (n : Int) < 0 then max ((n : Int) + (ns.length : Int)) 0 else min (n : Int) (ns.length : Int))).toNat - 0) = _
  rw [if_neg (by omega), Nat.sub_zero]
  by_cases h : ns.length ≤ n
  · rw [List.take_of_length_le (by simp; omega), List.take_of_length_le (by simp; omega)]
  · rw [show (min (n : Int) (ns.length : Int)).toNat = n by omega]
theorem okMul_r {i j : Int} (h : j.natAbs < 2 ^ 64) : okMul i j = true := by
  unfold okMul
  rw [decide_eq_true h]; simp
theorem okMul_l {i j : Int} (h : i.natAbs < 2 ^ 64) : okMul i j = true := by
  unfold okMul
  rw [decide_eq_true h]; simp
end Fx
namespace Fx
open PySem
def fnBa (o : Option Res) : Option (D × MO) := bnd o fun r => retB r
def retBa (d : D) (o : Option (Bool × MO)) : Option (D × MO) := bnd o fun q => if q.1 = true then some (d, q.2) else none
@[simp] theorem fnB_ (n k : Nat) (B : FS) (o : MO) (ds : List D) : fnB n k B o ds = if ds.length = n then fnBa (B (.ow true o :: (ds.map .im ++ List.replicate k .no))) else none := Eq.trans rfl rfl
@[simp] theorem fnBa_r (d : D) (ρ : En) : fnBa (some (.rt d ρ)) = retBa d (owO ρ[0]?) := Eq.trans rfl rfl
@[simp] theorem fnBa_n (ρ : En) : fnBa (some (.nx ρ)) = retBa .non (owO ρ[0]?) := Eq.trans rfl rfl
@[simp] theorem retBa_s (d : D) (o : MO) : retBa d (some (true, o)) = some (d, o) := Eq.trans rfl rfl
@[simp] theorem fnN_ (n k : Nat) (F : En → Option MO) (ds : List D) : fnN n k F ds = if ds.length = n then F (ds.map .im ++ List.replicate k .no) else none := Eq.trans rfl rfl
def nSeqa (F : En → Option MO) (o : Option Res) : Option MO := bnd o fun r => match r with
  | .nx ρ' => F ρ'
  | _ => none
@[simp] theorem nSeq_ (A : FS) (F : En → Option MO) (ρ : En) : nSeq A F ρ = nSeqa F (A ρ) := Eq.trans rfl rfl
@[simp] theorem nSeqa_n (F : En → Option MO) (ρ : En) : nSeqa F (some (.nx ρ)) = F ρ := Eq.trans rfl rfl
def nReta (ks : List Str) (o : Option (List D × En)) : Option MO := bnd o fun p => if p.1.length = ks.length ∧ ks.length ≤ 15 ∧ ks.Nodup then some (.dic (ks.zip p.1)) else none
@[simp] theorem nRet_ (ks : List Str) (A : FA) (ρ : En) : nRet ks A ρ = if ρ.all noOw = true then nReta ks (A ρ) else none := Eq.trans rfl rfl
@[simp] theorem nReta_s (ks : List Str) (ds : List D) (ρ : En) : nReta ks (some (ds, ρ)) = if ds.length = ks.length ∧ ks.length ≤ 15 ∧ ks.Nodup then some (.dic (ks.zip ds)) else none := Eq.trans rfl rfl
def lcBb (js : List Nat) (i q : Nat) (ρ : En) (b : Bool) (xs : List D) (o : Option (List D × MO)) : Option (D × En) := bnd o fun t => if xs.length ≤ sizeLine ∧ js[q]? = some i ∧ js.Nodup then some (.lst t.1, ρ.set i (.ow b t.2)) else none
def lcBa (js : List Nat) (i q : Nat) (T : FT) (F : FE) (xs : List D) (ρ : En) (o : Option (Bool × MO)) : Option (D × En) := bnd o fun w => lcBb js i q ρ w.1 xs (cGoB T F ρ i js q w.2 xs)
@[simp] theorem lcB_ (js : List Nat) (i q : Nat) (T : FT) (F : FE) (xs : List D) (ρ : En) : lcB js i q T F xs ρ = lcBa js i q T F xs ρ (owO ρ[i]?) := Eq.trans rfl rfl
@[simp] theorem lcBa_s (js : List Nat) (i q : Nat) (T : FT) (F : FE) (xs : List D) (ρ : En) (b : Bool) (o : MO) : lcBa js i q T F xs ρ (some (b, o)) = lcBb js i q ρ b xs (cGoB T F ρ i js q o xs) := Eq.trans rfl rfl
@[simp] theorem lcBb_s (js : List Nat) (i q : Nat) (ρ : En) (b : Bool) (xs ys : List D) (o : MO) : lcBb js i q ρ b xs (some (ys, o)) = if xs.length ≤ sizeLine ∧ js[q]? = some i ∧ js.Nodup then some (.lst ys, ρ.set i (.ow b o)) else none := Eq.trans rfl rfl
def eLCBb (js : List Nat) (i q : Nat) (T : FT) (F : FE) (ρ : En) (o : Option (List D)) : Option (D × En) := bnd o fun xs => lcB js i q T F xs ρ
def eLCBa (js : List Nat) (i q : Nat) (T : FT) (F : FE) (o : Option (D × En)) : Option (D × En) := bnd o fun p => eLCBb js i q T F p.2 (items p.1)
@[simp] theorem eLCB_ (js : List Nat) (i q : Nat) (I : FE) (T : FT) (F : FE) (ρ : En) : eLCB js i q I T F ρ = eLCBa js i q T F (I ρ) := Eq.trans rfl rfl
@[simp] theorem eLCBa_s (js : List Nat) (i q : Nat) (T : FT) (F : FE) (x : D) (ρ : En) : eLCBa js i q T F (some (x, ρ)) = eLCBb js i q T F ρ (items x) := Eq.trans rfl rfl
@[simp] theorem eLCBb_s (js : List Nat) (i q : Nat) (T : FT) (F : FE) (ρ : En) (xs : List D) : eLCBb js i q T F ρ (some xs) = lcB js i q T F xs ρ := Eq.trans rfl rfl
end Fx
namespace St
structure S where
  lo : Option Int
  hi : Option Int
  st : Int
  re : Int
  deriving DecidableEq
def leO (lo : Option Int) (v : Int) : Prop := ∀ l, lo = some l → l ≤ v
def geO (hi : Option Int) (v : Int) : Prop := ∀ h, hi = some h → v ≤ h
structure mem (s : S) (v : Int) : Prop where
  l : leO s.lo v
  h : geO s.hi v
  r : v % s.st = s.re
structure Canon (s : S) : Prop where
  pos : 0 < s.st
  r0 : 0 ≤ s.re
  r1 : s.re < s.st
  lo : ∀ l, s.lo = some l → l % s.st = s.re
  hi : ∀ h, s.hi = some h → h % s.st = s.re
  lh : ∀ l h, s.lo = some l → s.hi = some h → l < h ∨ (l = h ∧ s.st = 1 ∧ s.re = 0)
theorem cong {st x y : Int} : x % st = y % st ↔ st ∣ x - y := by
  rw [Int.emod_eq_emod_iff_emod_sub_eq_zero]
  exact ⟨Int.dvd_of_emod_eq_zero, Int.emod_eq_zero_of_dvd⟩
theorem cong' {st re x : Int} (h0 : 0 ≤ re) (h1 : re < st) : x % st = re ↔ st ∣ x - re := by
  rw [← cong, Int.emod_eq_of_lt h0 h1]
theorem far {st x y : Int} (h : x % st = y % st) (hl : x < y) : x + st ≤ y := by
  have d := cong.mp h.symm
  have := Int.le_of_dvd (by omega) d
  omega
theorem up {l st re : Int} (hp : 0 < st) (h0 : 0 ≤ re) (h1 : re < st) :
    (l + (re - l) % st) % st = re ∧ l ≤ l + (re - l) % st ∧ ∀ v, v % st = re → l ≤ v → l + (re - l) % st ≤ v := by
  have a := Int.emod_nonneg (re - l) (Int.ne_of_gt hp)
  have b := Int.emod_lt_of_pos (re - l) hp
  have e : (l + (re - l) % st) % st = re := by
    rw [Int.add_emod_emod, show l + (re - l) = re by omega, Int.emod_eq_of_lt h0 h1]
  refine ⟨e, by omega, fun v hv hl => ?_⟩
  by_cases hh : v < l + (re - l) % st
  · have := far (hv.trans e.symm) hh
    omega
  · omega
theorem down {h st re : Int} (hp : 0 < st) (h0 : 0 ≤ re) (h1 : re < st) :
    (h - (h - re) % st) % st = re ∧ h - (h - re) % st ≤ h ∧ ∀ v, v % st = re → v ≤ h → v ≤ h - (h - re) % st := by
  have a := Int.emod_nonneg (h - re) (Int.ne_of_gt hp)
  have b := Int.emod_lt_of_pos (h - re) hp
  have e : (h - (h - re) % st) % st = re := by
    rw [Int.sub_emod_emod, show h - (h - re) = re by omega, Int.emod_eq_of_lt h0 h1]
  refine ⟨e, by omega, fun v hv hl => ?_⟩
  by_cases hh : h - (h - re) % st < v
  · have := far (e.trans hv.symm) hh
    omega
  · omega
def first (lo : Option Int) (st re : Int) : Option Int := lo.map fun l => l + (re - l) % st
def last (hi : Option Int) (st re : Int) : Option Int := hi.map fun h => h - (h - re) % st
def made2 (f l : Option Int) (st re : Int) : Option S :=
  match f, l with
  | some a, some b => if b < a then none else if a = b then some ⟨some a, some b, 1, 0⟩ else some ⟨some a, some b, st, re⟩
  | f, l => some ⟨f, l, st, re⟩
def made (lo hi : Option Int) (st re : Int) : Option S :=
  if 0 ≤ re ∧ re < st then made2 (first lo st re) (last hi st re) st re else none
structure Between (lo hi : Option Int) (st re v : Int) : Prop where
  l : leO lo v
  h : geO hi v
  r : v % st = re
def Tells (r : Option S) (p : Int → Prop) : Prop :=
  match r with
  | none => ∀ v, ¬ p v
  | some s => Canon s ∧ ∀ v, mem s v ↔ p v
theorem leO_first {lo : Option Int} {st re v : Int} (hp : 0 < st) (h0 : 0 ≤ re) (h1 : re < st) (hv : v % st = re) : leO (first lo st re) v ↔ leO lo v := by
  cases lo with
  | none => exact ⟨fun _ l e => (nomatch e), fun _ l e => (nomatch e)⟩
  | some l =>
    obtain ⟨_, a, b⟩ := up (l := l) hp h0 h1
    constructor
    · intro h x e; cases e; exact Int.le_trans a (h _ rfl)
    · intro h x e; cases e; exact b v hv (h _ rfl)
theorem geO_last {hi : Option Int} {st re v : Int} (hp : 0 < st) (h0 : 0 ≤ re) (h1 : re < st) (hv : v % st = re) : geO (last hi st re) v ↔ geO hi v := by
  cases hi with
  | none => exact ⟨fun _ l e => (nomatch e), fun _ l e => (nomatch e)⟩
  | some l =>
    obtain ⟨_, a, b⟩ := down (h := l) hp h0 h1
    constructor
    · intro h x e; cases e; exact Int.le_trans (h _ rfl) a
    · intro h x e; cases e; exact b v hv (h _ rfl)
theorem first_mod {lo : Option Int} {st re l : Int} (hp : 0 < st) (h0 : 0 ≤ re) (h1 : re < st) (e : first lo st re = some l) : l % st = re := by
  cases lo with
  | none => cases e
  | some x => cases e; exact (up hp h0 h1).1
theorem last_mod {hi : Option Int} {st re l : Int} (hp : 0 < st) (h0 : 0 ≤ re) (h1 : re < st) (e : last hi st re = some l) : l % st = re := by
  cases hi with
  | none => cases e
  | some x => cases e; exact (down hp h0 h1).1
theorem made_ok {lo hi : Option Int} {st re : Int} (hp : 0 < st) (h0 : 0 ≤ re) (h1 : re < st) : Tells (made lo hi st re) (Between lo hi st re) := by
  unfold made
  rw [if_pos ⟨h0, h1⟩]
  have key : ∀ v, v % st = re → ((leO (first lo st re) v ∧ geO (last hi st re) v) ↔ (leO lo v ∧ geO hi v)) := fun v hv => by
    rw [leO_first hp h0 h1 hv, geO_last hp h0 h1 hv]
  have fm := fun l => first_mod (lo := lo) (l := l) hp h0 h1
  have lm := fun l => last_mod (hi := hi) (l := l) hp h0 h1
  generalize first lo st re = f at key fm
  generalize last hi st re = g at key lm
  have plain : (∀ a b, f = some a → g = some b → a < b) → Tells (some ⟨f, g, st, re⟩) (Between lo hi st re) := fun hlt => by
    refine ⟨⟨hp, h0, h1, fm, lm, fun l h e1 e2 => .inl (hlt l h e1 e2)⟩, fun v => ⟨fun m => ?_, fun m => ?_⟩⟩
    · have := (key v m.r).mp ⟨m.l, m.h⟩
      exact ⟨this.1, this.2, m.r⟩
    · have := (key v m.r).mpr ⟨m.l, m.h⟩
      exact ⟨this.1, this.2, m.r⟩
  cases f with
  | none => exact plain fun a b e => nomatch e
  | some a =>
    cases g with
    | none => exact plain fun a b _ e => nomatch e
    | some b =>
      unfold made2
      dsimp only
      by_cases h2 : b < a
      · rw [if_pos h2]
        intro v m
        obtain ⟨x, y⟩ := (key v m.r).mpr ⟨m.l, m.h⟩
        have := x a rfl; have := y b rfl
        omega
      · rw [if_neg h2]
        by_cases h3 : a = b
        · rw [if_pos h3]
          subst h3
          refine ⟨⟨Int.zero_lt_one, Int.le_refl _, Int.zero_lt_one, fun l _ => by simp, fun l _ => by simp, fun l h e1 e2 => .inr ⟨by cases e1; cases e2; rfl, rfl, rfl⟩⟩, fun v => ⟨fun m => ?_, fun m => ?_⟩⟩
          · have e : v = a := by
              have := m.l a rfl; have := m.h a rfl; omega
            have hv : v % st = re := by rw [e]; exact fm a rfl
            have := (key v hv).mp ⟨m.l, m.h⟩
            exact ⟨this.1, this.2, hv⟩
          · have := (key v m.r).mpr ⟨m.l, m.h⟩
            exact ⟨this.1, this.2, by simp⟩
        · rw [if_neg h3]
          exact plain fun x y e1 e2 => by cases e1; cases e2; omega
theorem made_none {lo hi : Option Int} {st re : Int} (h : ¬ (0 ≤ re ∧ re < st)) : made lo hi st re = none := by
  unfold made; rw [if_neg h]
theorem Canon.some {s : S} (c : Canon s) : ∃ v, mem s v := by
  cases e : s.lo with
  | some l =>
    refine ⟨l, fun x h => by rw [e] at h; cases h; omega, fun h hh => ?_, c.lo l e⟩
    rcases c.lh l h e hh with z | ⟨z, _⟩ <;> omega
  | none =>
    cases e2 : s.hi with
    | some h => exact ⟨h, ⟨fun x q => (by rw [e] at q; cases q), fun x q => (by rw [e2] at q; cases q; omega), c.hi h e2⟩⟩
    | none => exact ⟨s.re, ⟨fun x q => (by rw [e] at q; cases q), fun x q => (by rw [e2] at q; cases q), Int.emod_eq_of_lt c.r0 c.r1⟩⟩
theorem Canon.memLo {s : S} (c : Canon s) {l : Int} (e : s.lo = Option.some l) : mem s l := by
  refine ⟨fun x h => by rw [e] at h; cases h; omega, fun h hh => ?_, c.lo l e⟩
  rcases c.lh l h e hh with z | ⟨z, _⟩ <;> omega
theorem Canon.memHi {s : S} (c : Canon s) {h : Int} (e : s.hi = Option.some h) : mem s h := by
  refine ⟨fun x hh => ?_, fun x q => by rw [e] at q; cases q; omega, c.hi h e⟩
  rcases c.lh x h hh e with z | ⟨z, _⟩ <;> omega
theorem Canon.down {s : S} (c : Canon s) {v : Int} (m : mem s v) (h : leO s.lo (v - s.st)) : mem s (v - s.st) := by
  have := c.pos
  refine ⟨h, fun x e => by have := m.h x e; omega, ?_⟩
  rw [Int.sub_emod_right]; exact m.r
theorem Canon.up {s : S} (c : Canon s) {v : Int} (m : mem s v) (h : geO s.hi (v + s.st)) : mem s (v + s.st) := by
  have := c.pos
  refine ⟨fun x e => by have := m.l x e; omega, h, ?_⟩
  rw [Int.add_emod_right]; exact m.r
theorem Canon.lo_of {s : S} (c : Canon s) {l : Int} : s.lo = Option.some l ↔ (mem s l ∧ ∀ v, mem s v → l ≤ v) := by
  constructor
  · exact fun e => ⟨c.memLo e, fun v m => m.l l e⟩
  · rintro ⟨m, h⟩
    cases e : s.lo with
    | none =>
      have := h _ (c.down m fun x q => by rw [e] at q; cases q)
      have := c.pos
      omega
    | some x =>
      have a := h _ (c.memLo e)
      have b := m.l x e
      rw [show x = l by omega]
theorem Canon.hi_of {s : S} (c : Canon s) {l : Int} : s.hi = Option.some l ↔ (mem s l ∧ ∀ v, mem s v → v ≤ l) := by
  constructor
  · exact fun e => ⟨c.memHi e, fun v m => m.h l e⟩
  · rintro ⟨m, h⟩
    cases e : s.hi with
    | none =>
      have := h _ (c.up m fun x q => by rw [e] at q; cases q)
      have := c.pos
      omega
    | some x =>
      have a := h _ (c.memHi e)
      have b := m.h x e
      rw [show x = l by omega]
theorem opt_ext {a b : Option Int} (h : ∀ l, a = some l ↔ b = some l) : a = b := by
  cases a with
  | none => cases b with
    | none => rfl
    | some y => exact ((h y).mpr rfl)
  | some x => exact ((h x).mp rfl).symm
theorem step_le {s t : S} (cs : Canon s) (ct : Canon t) (h : ∀ v, mem s v ↔ mem t v) (hlo : s.lo = t.lo) (hhi : s.hi = t.hi)
    (two : ∀ l h, s.lo = some l → s.hi = some h → l < h) : t.st ∣ s.st ∧ s.re % t.st = t.re := by
  have p := cs.pos
  have ex : ∃ v, mem s v ∧ mem s (v + s.st) := by
    cases e : s.lo with
    | some l =>
      refine ⟨l, cs.memLo e, cs.up (cs.memLo e) fun x q => ?_⟩
      have hlt := two l x e q
      have := far ((cs.lo l e).trans (cs.hi x q).symm) hlt
      omega
    | none =>
      obtain ⟨v, m⟩ := cs.some
      refine ⟨v - s.st, cs.down m (fun x q => by rw [e] at q; cases q), ?_⟩
      rw [show v - s.st + s.st = v by omega]; exact m
  obtain ⟨v, m1, m2⟩ := ex
  have n1 := (h _).mp m1
  have n2 := (h _).mp m2
  have d : t.st ∣ s.st := by
    have := cong.mp (n2.r.trans n1.r.symm)
    rw [show v + s.st - v = s.st by omega] at this
    exact this
  refine ⟨d, ?_⟩
  have e1 : t.st ∣ v - s.re := Int.dvd_trans d ((cong' cs.r0 cs.r1).mp m1.r)
  have e2 := cong.mpr e1
  rw [← e2]; exact n1.r
theorem Canon.ext {s t : S} (cs : Canon s) (ct : Canon t) (h : ∀ v, mem s v ↔ mem t v) : s = t := by
  have hlo : s.lo = t.lo := opt_ext fun l => by
    rw [cs.lo_of, ct.lo_of, h]
    exact ⟨fun ⟨a, b⟩ => ⟨a, fun v m => b v ((h v).mpr m)⟩, fun ⟨a, b⟩ => ⟨a, fun v m => b v ((h v).mp m)⟩⟩
  have hhi : s.hi = t.hi := opt_ext fun l => by
    rw [cs.hi_of, ct.hi_of, h]
    exact ⟨fun ⟨a, b⟩ => ⟨a, fun v m => b v ((h v).mpr m)⟩, fun ⟨a, b⟩ => ⟨a, fun v m => b v ((h v).mp m)⟩⟩
  have fin : s.st = t.st → s.re = t.re → s = t := fun a b => by
    cases s; cases t
    simp only [S.mk.injEq] at *
    exact ⟨hlo, hhi, a, b⟩
  by_cases one : ∃ l, s.lo = Option.some l ∧ s.hi = Option.some l
  · obtain ⟨l, e1, e2⟩ := one
    have z1 := cs.lh l l e1 e2
    have z2 := ct.lh l l (hlo ▸ e1) (hhi ▸ e2)
    rcases z1 with z | ⟨_, a, b⟩
    · omega
    rcases z2 with z | ⟨_, a', b'⟩
    · omega
    exact fin (by omega) (by omega)
  · have twos : ∀ l h, s.lo = Option.some l → s.hi = Option.some h → l < h := fun l x e1 e2 => by
      rcases cs.lh l x e1 e2 with z | ⟨z, _⟩
      · exact z
      · exact absurd ⟨l, e1, by rw [e2, z]⟩ one
    obtain ⟨a, b⟩ := step_le cs ct h hlo hhi twos
    obtain ⟨a', b'⟩ := step_le ct cs (fun v => (h v).symm) hlo.symm hhi.symm fun l x e1 e2 => twos l x (hlo.trans e1) (hhi.trans e2)
    have p := cs.pos; have p' := ct.pos
    have l1 := Int.le_of_dvd p a
    have l2 := Int.le_of_dvd p' a'
    have e : s.st = t.st := by omega
    refine fin e ?_
    rw [← e] at b
    rw [← b, Int.emod_eq_of_lt cs.r0 cs.r1]
theorem Tells.inj {r r' : Option S} {p : Int → Prop} (h : Tells r p) (h' : Tells r' p) : r = r' := by
  cases r with
  | none =>
    cases r' with
    | none => rfl
    | some t => obtain ⟨v, m⟩ := h'.1.some; exact absurd ((h'.2 v).mp m) (h v)
  | some s =>
    cases r' with
    | none => obtain ⟨v, m⟩ := h.1.some; exact absurd ((h.2 v).mp m) (h' v)
    | some t => rw [h.1.ext h'.1 fun v => (h.2 v).trans (h'.2 v).symm]
theorem Tells.imp {r : Option S} {p q : Int → Prop} (h : Tells r p) (e : ∀ v, p v ↔ q v) : Tells r q := by
  cases r with
  | none => exact fun v m => h v ((e v).mpr m)
  | some s => exact ⟨h.1, fun v => (h.2 v).trans (e v)⟩
theorem Tells.some {r : Option S} {p : Int → Prop} (h : Tells r p) {v : Int} (hv : p v) : ∃ t, r = Option.some t ∧ Canon t ∧ ∀ v, mem t v ↔ p v := by
  cases r with
  | none => exact absurd hv (h v)
  | some t => exact ⟨t, rfl, h.1, h.2⟩
structure Euc (a m g f : Int) : Prop where
  pos : 0 < g
  da : g ∣ a
  dm : g ∣ m
  inv : m ∣ a * f - g
structure EI (a m g o s t : Int) : Prop where
  g0 : 0 ≤ g
  o0 : 0 ≤ o
  gm : g ≤ m
  om : o ≤ m
  go : 0 < g + o
  cs : m ∣ a * s - g
  ct : m ∣ a * t - o
  dv : ∀ d, d ∣ g → d ∣ o → d ∣ a % m ∧ d ∣ m
  sm : s.natAbs ≤ m.toNat
  tm : t.natAbs ≤ m.toNat
  pr : s.natAbs * o.toNat + t.natAbs * g.toNat ≤ m.toNat
theorem EI.start {a m : Int} (hm : 0 < m) : EI a m (a % m) m 1 0 := by
  have h0 := Int.emod_nonneg a (Int.ne_of_gt hm)
  have h1 := Int.emod_lt_of_pos a hm
  refine ⟨h0, by omega, by omega, Int.le_refl _, by omega, ?_, ?_, fun d x y => ⟨x, y⟩, ?_, by simp, by simp⟩
  · rw [Int.mul_one]; exact Int.dvd_self_sub_emod
  · rw [Int.mul_zero]; exact ⟨-1, by omega⟩
  · show (1 : Nat) ≤ _; omega
theorem EI.turn {a m g o s t : Int} (E : EI a m g o s t) (h : o ≠ 0) : EI a m o (g - g / o * o) t (s - g / o * t) ∧ (g - g / o * o).toNat < o.toNat := by
  have := E.o0
  have op : 0 < o := by omega
  have e : g - g / o * o = g % o := by rw [Int.emod_def, Int.mul_comm]
  have r0 := Int.emod_nonneg g (Int.ne_of_gt op)
  have r1 := Int.emod_lt_of_pos g op
  have q0 : 0 ≤ g / o := Int.ediv_nonneg E.g0 E.o0
  have prod : t.natAbs * (g % o).toNat + (s - g / o * t).natAbs * o.toNat ≤ m.toNat := by
    have h1 : (s - g / o * t).natAbs ≤ s.natAbs + (g / o).toNat * t.natAbs := by
      refine Nat.le_trans (Int.natAbs_sub_le _ _) ?_
      rw [Int.natAbs_mul, show (g / o).natAbs = (g / o).toNat by omega]
      exact Nat.le_refl _
    have h2 : g.toNat = o.toNat * (g / o).toNat + (g % o).toNat := by
      have := Int.mul_ediv_add_emod g o
      have e1 : ((o.toNat * (g / o).toNat : Nat) : Int) = o * (g / o) := by
        rw [Int.natCast_mul, Int.toNat_of_nonneg E.o0, Int.toNat_of_nonneg q0]
      omega
    have h3 := E.pr
    rw [h2] at h3
    have h4 := Nat.mul_le_mul_right o.toNat h1
    rw [Nat.add_mul] at h4
    rw [Nat.mul_add] at h3
    have h5 : (g / o).toNat * t.natAbs * o.toNat = t.natAbs * (o.toNat * (g / o).toNat) := by
      rw [Nat.mul_comm _ t.natAbs, Nat.mul_assoc, Nat.mul_comm o.toNat]
    omega
  rw [e]
  refine ⟨⟨E.o0, r0, E.om, by have := E.om; omega, by omega, E.ct, ?_, fun d x y => ?_, E.tm, ?_, prod⟩, by omega⟩
  · rw [show a * (s - g / o * t) - g % o = (a * s - g) - g / o * (a * t - o) by
      rw [← e, Int.mul_sub, Int.mul_sub, show a * (g / o * t) = g / o * (a * t) by rw [Int.mul_left_comm]]; omega]
    exact Int.dvd_sub E.cs (Int.dvd_trans E.ct (Int.dvd_mul_left _ _))
  · refine E.dv d ?_ x
    have := Int.mul_ediv_add_emod g o
    rw [← this]
    exact Int.dvd_add (Int.dvd_trans x (Int.dvd_mul_right _ _)) y
  · have : (s - g / o * t).natAbs * o.toNat ≤ m.toNat := Nat.le_trans (Nat.le_add_left _ _) prod
    exact Nat.le_trans (Nat.le_mul_of_pos_right _ (by omega)) this
theorem EI.fin {a m g s t : Int} (hm : 0 < m) (E : EI a m g 0 s t) : Euc a m g s := by
  obtain ⟨h1, h2⟩ := E.dv g (Int.dvd_refl g) (Int.dvd_zero g)
  have := E.g0; have := E.go
  refine ⟨by omega, ?_, h2, E.cs⟩
  have := Int.mul_ediv_add_emod a m
  rw [← this]
  exact Int.dvd_add (Int.dvd_trans h2 (Int.dvd_mul_right _ _)) h1
end St
namespace St
structure Bd (s : S) (n : Nat) : Prop where
  st : s.st.natAbs ≤ n
  re : s.re.natAbs ≤ n
  lo : ∀ l, s.lo = some l → l.natAbs ≤ n
  hi : ∀ l, s.hi = some l → l.natAbs ≤ n
def BdO (r : Option S) (n : Nat) : Prop := ∀ s, r = some s → Bd s n
theorem Bd.mono {s : S} {n m : Nat} (b : Bd s n) (h : n ≤ m) : Bd s m := ⟨Nat.le_trans b.st h, Nat.le_trans b.re h, fun l e => Nat.le_trans (b.lo l e) h, fun l e => Nat.le_trans (b.hi l e) h⟩
def OB (o : Option Int) (n : Nat) : Prop := ∀ l, o = some l → l.natAbs ≤ n
def lowB (a b : Option Int) : Option Int := match a, b with
  | none, b => b
  | a, none => a
  | some x, some y => some (if y > x then y else x)
def uppB (a b : Option Int) : Option Int := match a, b with
  | none, b => b
  | a, none => a
  | some x, some y => some (if y < x then y else x)
theorem lowB_iff {a b : Option Int} {v : Int} : leO (lowB a b) v ↔ leO a v ∧ leO b v := by
  cases a with
  | none => exact ⟨fun h => ⟨fun l e => (nomatch e), h⟩, fun h => h.2⟩
  | some x =>
    cases b with
    | none => exact ⟨fun h => ⟨h, fun l e => (nomatch e)⟩, fun h => h.1⟩
    | some y =>
      constructor
      · intro h
        have := h _ rfl
        refine ⟨fun l e => ?_, fun l e => ?_⟩ <;> cases e <;> split at this <;> omega
      · rintro ⟨h1, h2⟩ l e
        cases e
        have := h1 x rfl; have := h2 y rfl
        split <;> omega
theorem uppB_iff {a b : Option Int} {v : Int} : geO (uppB a b) v ↔ geO a v ∧ geO b v := by
  cases a with
  | none => exact ⟨fun h => ⟨fun l e => (nomatch e), h⟩, fun h => h.2⟩
  | some x =>
    cases b with
    | none => exact ⟨fun h => ⟨h, fun l e => (nomatch e)⟩, fun h => h.1⟩
    | some y =>
      constructor
      · intro h
        have := h _ rfl
        refine ⟨fun l e => ?_, fun l e => ?_⟩ <;> cases e <;> split at this <;> omega
      · rintro ⟨h1, h2⟩ l e
        cases e
        have := h1 x rfl; have := h2 y rfl
        split <;> omega
def between (s : S) (lo hi : Option Int) : Option S := made (lowB s.lo lo) (uppB s.hi hi) s.st s.re
theorem between_ok {s : S} {lo hi : Option Int} (c : Canon s) : Tells (between s lo hi) (fun v => mem s v ∧ leO lo v ∧ geO hi v) := by
  refine (made_ok c.pos c.r0 c.r1).imp fun v => ⟨fun m => ?_, fun ⟨m, a, b⟩ => ?_⟩
  · obtain ⟨a, b⟩ := lowB_iff.mp m.l
    obtain ⟨a', b'⟩ := uppB_iff.mp m.h
    exact ⟨⟨a, a', m.r⟩, b, b'⟩
  · exact ⟨lowB_iff.mpr ⟨m.l, a⟩, uppB_iff.mpr ⟨m.h, b⟩, m.r⟩
end St
namespace Fx
open PySem
def dO : Option Int → D
  | none => .non
  | some i => .int i
def dS (s : St.S) : D := .tup [dO s.lo, dO s.hi, .int s.st, .int s.re]
def dOS : Option St.S → D
  | none => .non
  | some s => dS s
@[simp] theorem dO_none : dO none = .non := rfl
@[simp] theorem dO_some (i : Int) : dO (some i) = .int i := rfl
@[simp] theorem dOS_none : dOS none = .non := rfl
@[simp] theorem dOS_some (s : St.S) : dOS (some s) = dS s := rfl
@[simp] theorem dS_mk (lo hi : Option Int) (st re : Int) : dS ⟨lo, hi, st, re⟩ = .tup [dO lo, dO hi, .int st, .int re] := rfl
@[simp] theorem isN_dS (s : St.S) : isN (dS s) = false := rfl
theorem fmod_pos {a b : Int} (h : 0 < b) : a.fmod b = a % b := Int.fmod_eq_emod_of_nonneg a (by omega)
theorem made_eq (lo hi : Option Int) (st re : Int) : m_stretch_made [dO lo, dO hi, .int st, .int re] = some (dOS (St.made lo hi st re)) := by
  by_cases h : 0 ≤ re ∧ re < st
  · have hp : 0 < st := by omega
    have hn : ¬ st = 0 := by omega
    unfold St.made
    rw [if_pos h]
    simp [m_stretch_made, b_stretch_made, h.1, h.2, hn, fmod_pos hp]
    cases lo with
    | none =>
      cases hi with
      | none => simp [hn, St.made2, St.first, St.last]
      | some y => simp [hn, St.made2, St.first, St.last, fmod_pos hp]
    | some x =>
      cases hi with
      | none => simp [hn, St.made2, St.first, St.last, fmod_pos hp]
      | some y =>
        simp only [St.made2, St.first, St.last, Option.map_some]
        by_cases h1 : y - (y - re) % st < x + (re - x) % st
        · simp [hn, fmod_pos hp, h1]
        · by_cases h2 : x + (re - x) % st = y - (y - re) % st
          · simp [hn, fmod_pos hp, h2]
          · simp [hn, fmod_pos hp, h1, h2]
  · rw [St.made_none h]
    by_cases h1 : 0 ≤ re
    · have h2 : ¬ re < st := fun z => h ⟨h1, z⟩
      simp [m_stretch_made, b_stretch_made, h1, h2]
    · simp [m_stretch_made, b_stretch_made, h1]
def leB (lo : Option Int) (v : Int) : Bool := match lo with | none => true | some l => decide (l ≤ v)
def geB (hi : Option Int) (v : Int) : Bool := match hi with | none => true | some h => decide (v ≤ h)
def hasB (s : St.S) (v : Int) : Bool := leB s.lo v && geB s.hi v && decide (v % s.st = s.re)
theorem leB_iff {lo : Option Int} {v : Int} : leB lo v = true ↔ St.leO lo v := by
  cases lo with
  | none => exact ⟨fun _ l e => (nomatch e), fun _ => rfl⟩
  | some l => exact ⟨fun h x e => by cases e; exact of_decide_eq_true h, fun h => decide_eq_true (h l rfl)⟩
theorem geB_iff {lo : Option Int} {v : Int} : geB lo v = true ↔ St.geO lo v := by
  cases lo with
  | none => exact ⟨fun _ l e => (nomatch e), fun _ => rfl⟩
  | some l => exact ⟨fun h x e => by cases e; exact of_decide_eq_true h, fun h => decide_eq_true (h l rfl)⟩
theorem hasB_iff {s : St.S} {v : Int} : hasB s v = true ↔ St.mem s v := by
  unfold hasB
  rw [Bool.and_eq_true, Bool.and_eq_true, leB_iff, geB_iff, decide_eq_true_iff]
  exact ⟨fun ⟨⟨a, b⟩, c⟩ => ⟨a, b, c⟩, fun m => ⟨⟨m.l, m.h⟩, m.r⟩⟩
theorem fdiv_pos {a b : Int} (h : 0 < b) : a.fdiv b = a / b := Int.fdiv_eq_ediv_of_nonneg a (by omega)
theorem okMul_big {i j : Int} (h : bigM i = true) (h' : bigM j = true) : okMul i j = true := by unfold okMul; rw [h, h']; simp
theorem okDiv_of {j : Int} (h : j ≠ 0) (h' : bigM j = true) : okDiv j = true := by
  unfold okDiv; unfold bigM at h'; rw [h', decide_eq_true h]; rfl
theorem ix4_0 (x y z w : D) : atD [x, y, z, w] 0 = some x := rfl
theorem ix4_1 (x y z w : D) : atD [x, y, z, w] 1 = some y := rfl
theorem ix4_2 (x y z w : D) : atD [x, y, z, w] 2 = some z := rfl
theorem ix4_3 (x y z w : D) : atD [x, y, z, w] 3 = some w := rfl
@[simp] theorem dpD_dO (o : Option Int) : dpD (dO o) = 0 := by cases o <;> rfl
end Fx
namespace Fx
open PySem
theorem sub_mod {v re st : Int} (h0 : 0 ≤ re) (h1 : re < st) : ((v - re) % st = 0) ↔ v % st = re := by
  constructor
  · intro h
    exact (St.cong' h0 h1).mpr (Int.dvd_of_emod_eq_zero h)
  · intro h
    exact Int.emod_eq_zero_of_dvd ((St.cong' h0 h1).mp h)
theorem in_eq {s : St.S} (hp : 0 < s.st) (r0 : 0 ≤ s.re) (r1 : s.re < s.st) (v : Int) : m_law_in [dS s, .int v] = some (.bl (hasB s v)) := by
  obtain ⟨lo, hi, st, re⟩ := s
  have hp : 0 < st := hp
  have hn : ¬ st = 0 := by omega
  have key : ((v - re) % st = 0) = (v % st = re) := propext (sub_mod r0 r1)
  unfold hasB
  cases lo with
  | none =>
    cases hi with
    | none => simp [m_law_in, b_law_in, hn, fmod_pos hp, leB, geB, key]
    | some y =>
      by_cases h : v ≤ y
      · have h' : ¬ y < v := by omega
        simp [m_law_in, b_law_in, hn, fmod_pos hp, leB, geB, key, h, h']
      · have h' : y < v := by omega
        simp [m_law_in, b_law_in, hn, fmod_pos hp, leB, geB, h, h']
  | some x =>
    by_cases g : x ≤ v
    · have g' : ¬ v < x := by omega
      cases hi with
      | none => simp [m_law_in, b_law_in, hn, fmod_pos hp, leB, geB, key, g, g']
      | some y =>
        by_cases h : v ≤ y
        · have h' : ¬ y < v := by omega
          simp [m_law_in, b_law_in, hn, fmod_pos hp, leB, geB, key, h, h', g, g']
        · have h' : y < v := by omega
          simp [m_law_in, b_law_in, hn, fmod_pos hp, leB, geB, h, h', g, g']
    · have g' : v < x := by omega
      simp [m_law_in, b_law_in, leB, g, g']
end Fx
namespace Fx
open PySem
def mix1 (c k : Int) : Int := (c + 7919 * k + 1) * 48271 % 2147483647
def mix2 (c k : Int) : Int := mix1 c k * (mix1 c k / 1009 + 69621) % 2147483647
def mixed (c k : Int) : Int := (mix2 c k + 31 * k + 1) * (mix2 c k / 757 + 16807) % 2147483629
theorem mix1_r (c k : Int) : 0 ≤ mix1 c k ∧ mix1 c k < 2147483647 := ⟨Int.emod_nonneg _ (by decide), Int.emod_lt_of_pos _ (by decide)⟩
theorem mix2_r (c k : Int) : 0 ≤ mix2 c k ∧ mix2 c k < 2147483647 := ⟨Int.emod_nonneg _ (by decide), Int.emod_lt_of_pos _ (by decide)⟩
theorem mixed_r (c k : Int) : 0 ≤ mixed c k ∧ mixed c k < 2147483629 := ⟨Int.emod_nonneg _ (by decide), Int.emod_lt_of_pos _ (by decide)⟩
theorem mixed_eq (c k : Int) : m_law_mixed [.int c, .int k] = some (.int (mixed c k)) := by
  have k0 : okMul 7919 k = true := okMul_l (by decide)
  have k1 : okMul (c + 7919 * k + 1) 48271 = true := okMul_r (by decide)
  have d1 : okDiv 1009 = true := okDiv_of (by decide) (by rw [bigM]; exact decide_eq_true (Nat.lt_trans (by decide : 1009 < 2 ^ 64) (Nat.pow_lt_pow_right (by decide) (by decide))))
  have d2 : okDiv 757 = true := okDiv_of (by decide) (by rw [bigM]; exact decide_eq_true (Nat.lt_trans (by decide : 757 < 2 ^ 64) (Nat.pow_lt_pow_right (by decide) (by decide))))
  have r1 := mix1_r c k
  have r2 := mix2_r c k
  have k2 : okMul (mix1 c k) (mix1 c k / 1009 + 69621) = true := okMul_l (by omega)
  have k3 : okMul 31 k = true := okMul_l (by decide)
  have k4 : okMul (mix2 c k + 31 * k + 1) (mix2 c k / 757 + 16807) = true := okMul_r (by omega)
  have f1 : ∀ x : Int, x.fmod 2147483647 = x % 2147483647 := fun x => fmod_pos (by decide)
  have f2 : ∀ x : Int, x.fmod 2147483629 = x % 2147483629 := fun x => fmod_pos (by decide)
  have f3 : ∀ x : Int, x.fdiv 1009 = x / 1009 := fun x => fdiv_pos (by decide)
  have f4 : ∀ x : Int, x.fdiv 757 = x / 757 := fun x => fdiv_pos (by decide)
  have q1 : (c + 7919 * k + 1) * 48271 % 2147483647 = mix1 c k := rfl
  have q2 : mix1 c k * (mix1 c k / 1009 + 69621) % 2147483647 = mix2 c k := rfl
  have q3 : (mix2 c k + 31 * k + 1) * (mix2 c k / 757 + 16807) % 2147483629 = mixed c k := rfl
  simp [m_law_mixed, b_law_mixed, k0, k1, k2, k3, k4, d1, d2, f1, f2, f3, f4, q1, q2, q3, List.replicate]
def wideA (i : Int) : Int := if i = 0 then 1 else if i = 1 then 1000000000 else 1000000000000000000000000000
def wideB (i : Int) : Int := if i = 2 then 1000000000 else 1
theorem wideA_r (i : Int) : 1 ≤ wideA i ∧ wideA i ≤ 1000000000000000000000000000 := by
  unfold wideA
  split
  · omega
  · split <;> omega
theorem wideB_r (i : Int) : 1 ≤ wideB i ∧ wideB i ≤ 1000000000 := by unfold wideB; split <;> omega
theorem wideA_ix {i : Int} (h0 : 0 ≤ i) (h1 : i < 3) : atD [.int 1, .int 1000000000, .int 1000000000000000000000000000] i = some (.int (wideA i)) := by
  have : i = 0 ∨ i = 1 ∨ i = 2 := by omega
  rcases this with rfl | rfl | rfl <;> rfl
theorem wideB_ix {i : Int} (h0 : 0 ≤ i) (h1 : i < 3) : atD [.int 1, .int 1, .int 1000000000] i = some (.int (wideB i)) := by
  have : i = 0 ∨ i = 1 ∨ i = 2 := by omega
  rcases this with rfl | rfl | rfl <;> rfl
theorem lowIx (x : Int) {i : Int} (h0 : 0 ≤ i) (h1 : i < 3) : atD [.int x, .non, .int x] i = some (dO (if i = 1 then none else some x)) := by
  have : i = 0 ∨ i = 1 ∨ i = 2 := by omega
  rcases this with rfl | rfl | rfl <;> rfl
theorem highIx (x : Int) {i : Int} (h0 : 0 ≤ i) (h1 : i < 3) : atD [.int x, .int x, .non] i = some (dO (if i = 2 then none else some x)) := by
  have : i = 0 ∨ i = 1 ∨ i = 2 := by omega
  rcases this with rfl | rfl | rfl <;> rfl
theorem bigI {x : Int} (h0 : 0 ≤ x) (h1 : x ≤ 1000000000000000000000000000000000000000000000000000000000000000000000000000000000000000000) : bigM x = true := by
  have k : (1000000000000000000000000000000000000000000000000000000000000000000000000000000000000000000 : Nat) < 2 ^ 1000 := by decide +kernel
  exact decide_eq_true (Nat.lt_of_le_of_lt (by omega) k)
theorem mod3 (x : Int) : 0 ≤ x % 3 ∧ x % 3 < 3 := ⟨Int.emod_nonneg _ (by decide), Int.emod_lt_of_pos _ (by decide)⟩
theorem p99 : (2 : Nat) ^ 99 = 633825300114114700748351602688 := by decide
theorem numbers_eq (c : Int) : ∃ (lo hi : Option Int) (st re : Int), m_law_numbers [.int c] = some (.tup [dO lo, dO hi, .int st, .int re]) ∧ 1 ≤ st ∧ st ≤ 30000000000000000000000000000 ∧ St.OB lo (2 ^ 99) ∧ St.OB hi (2 ^ 99) := by
  have f2 : ∀ x : Int, x.fmod 2 = x % 2 := fun x => fmod_pos (by decide)
  have f3 : ∀ x : Int, x.fmod 3 = x % 3 := fun x => fmod_pos (by decide)
  have g2 : ∀ x : Int, x.fdiv 2 = x / 2 := fun x => fdiv_pos (by decide)
  have g3 : ∀ x : Int, x.fdiv 3 = x / 3 := fun x => fdiv_pos (by decide)
  have d2 : okDiv 2 = true := okDiv_of (by decide) (bigI (by decide) (by decide))
  have d3 : okDiv 3 = true := okDiv_of (by decide) (bigI (by decide) (by decide))
  have d9 : okDiv 9 = true := okDiv_of (by decide) (bigI (by decide) (by decide))
  by_cases hc : c % 2 = 1
  · obtain ⟨w1, w2⟩ := wideA_r (c / 2 % 3)
    have wx := wideA_ix (mod3 (c / 2)).1 (mod3 (c / 2)).2
    generalize hW : wideA (c / 2 % 3) = W at w1 w2 wx
    have W0 : ¬ W = 0 := by omega
    have W2 : W * W ≤ 1000000000000000000000000000 * 1000000000000000000000000000 := Int.mul_le_mul w2 w2 (by omega) (by decide)
    have W2p : 1 ≤ W * W := by have := Int.mul_le_mul w1 w1 (by decide) (by omega); simpa using this
    have W3 : W * W * W ≤ 1000000000000000000000000000 * 1000000000000000000000000000 * 1000000000000000000000000000 := Int.mul_le_mul W2 w2 (by omega) (by decide)
    have W3p : 1 ≤ W * W * W := by have := Int.mul_le_mul W2p w1 (by decide) (by omega); simpa using this
    have a2 : 26730 * W * W = 26730 * (W * W) := Int.mul_assoc _ _ _
    have a3 : 5372730 * W * W * W = 5372730 * (W * W * W) := by rw [Int.mul_assoc 5372730 W W, Int.mul_assoc 5372730 (W * W) W]
    have a4 : 5372730 * W * W = 5372730 * (W * W) := Int.mul_assoc _ _ _
    have m1 : ∀ k : Int, k.natAbs < 2 ^ 64 → okMul k W = true := fun k h => okMul_l h
    have m30 := m1 30 (by decide); have m270 := m1 270 (by decide); have m99 := m1 99 (by decide); have m49 := m1 49 (by decide)
    have m26730 := m1 26730 (by decide); have m201 := m1 201 (by decide); have m100 := m1 100 (by decide); have m5372730 := m1 5372730 (by decide); have m90 := m1 90 (by decide); have m9 := m1 9 (by decide)
    have bW : bigM W = true := bigI (by omega) (by omega)
    have m2 : okMul (26730 * W) W = true := okMul_big (bigI (by omega) (by omega)) bW
    have m3 : okMul (5372730 * W) W = true := okMul_big (bigI (by omega) (by omega)) bW
    have m4 : okMul (5372730 * W * W) W = true := okMul_big (by rw [a4]; exact bigI (by omega) (by omega)) bW
    have k1 : okDiv (270 * W) = true := okDiv_of (by omega) (bigI (by omega) (by omega))
    have k2 : okDiv (26730 * W * W) = true := by rw [a2]; exact okDiv_of (by omega) (bigI (by omega) (by omega))
    have k3 : okDiv (5372730 * W * W * W) = true := by rw [a3]; exact okDiv_of (by omega) (bigI (by omega) (by omega))
    have n30 : ¬ (30 * W = 0) := by omega
    have n99 : ¬ (99 * W = 0) := by omega
    have n201 : ¬ (201 * W = 0) := by omega
    have n90 : ¬ (90 * W = 0) := by omega
    have i1 := fun x => lowIx x (mod3 (c / 2 / 3)).1 (mod3 (c / 2 / 3)).2
    have i2 := fun x => highIx x (mod3 (c / 2 / 3 / 3)).1 (mod3 (c / 2 / 3 / 3)).2
    refine ⟨if c / 2 / 3 % 3 = 1 then none else some ((c / 2 / 3).fdiv (26730 * W * W) % (201 * W) - 100 * W), if c / 2 / 3 / 3 % 3 = 2 then none else some ((c / 2 / 3).fdiv (26730 * W * W) % (201 * W) - 100 * W + ((c / 2 / 3).fdiv (5372730 * W * W * W) % (90 * W) - 9 * W)), 1 + (c / 2 / 3).fdiv 9 % (30 * W), (c / 2 / 3).fdiv (270 * W) % (99 * W) - 49 * W, ?_, ?_, ?_, ?_, ?_⟩
    · simp [m_law_numbers, b_law_numbers, f2, f3, g2, g3, d2, d3, d9, hc, wx, m30, m270, m99, m49, m26730, m201, m100, m5372730, m90, m9, m2, m3, m4, k1, k2, k3, n30, n99, n201, n90, List.replicate, i1, i2, fmod_pos (show 0 < 30 * W by omega), fmod_pos (show 0 < 99 * W by omega), fmod_pos (show 0 < 201 * W by omega), fmod_pos (show 0 < 90 * W by omega), W0]
    · have := Int.emod_nonneg ((c / 2 / 3).fdiv 9) n30; omega
    · have := Int.emod_lt_of_pos ((c / 2 / 3).fdiv 9) (show 0 < 30 * W by omega); omega
    · intro l e
      have a1 := Int.emod_nonneg ((c / 2 / 3).fdiv (26730 * W * W)) n201
      have a2 := Int.emod_lt_of_pos ((c / 2 / 3).fdiv (26730 * W * W)) (show 0 < 201 * W by omega)
      split at e
      · cases e
      · cases e; rw [p99]; omega
    · intro l e
      have a1 := Int.emod_nonneg ((c / 2 / 3).fdiv (26730 * W * W)) n201
      have a2 := Int.emod_lt_of_pos ((c / 2 / 3).fdiv (26730 * W * W)) (show 0 < 201 * W by omega)
      have a3 := Int.emod_nonneg ((c / 2 / 3).fdiv (5372730 * W * W * W)) n90
      have a4 := Int.emod_lt_of_pos ((c / 2 / 3).fdiv (5372730 * W * W * W)) (show 0 < 90 * W by omega)
      split at e
      · cases e
      · cases e; rw [p99]; omega
  · obtain ⟨w1, w2⟩ := wideB_r (mixed c 1 % 3)
    have wx := wideB_ix (mod3 (mixed c 1)).1 (mod3 (mixed c 1)).2
    generalize hW : wideB (mixed c 1 % 3) = W at w1 w2 wx
    have W0 : ¬ W = 0 := by omega
    have m1 : ∀ k : Int, okMul k W = true := fun k => okMul_r (by omega)
    have n12 : ¬ (12 * W + 1 = 0) := by omega
    have n99 : ¬ (99 * W + 5 = 0) := by omega
    have n61 : ¬ (61 * W + 2 = 0) := by omega
    have n70 : ¬ (70 * W + 3 = 0) := by omega
    have i1 := fun x => lowIx x (mod3 (mixed c 6)).1 (mod3 (mixed c 6)).2
    have i2 := fun x => highIx x (mod3 (mixed c 6 / 3)).1 (mod3 (mixed c 6 / 3)).2
    refine ⟨if mixed c 6 % 3 = 1 then none else some (mixed c 4 * W % (61 * W + 2) - 30 * W), if mixed c 6 / 3 % 3 = 2 then none else some (mixed c 4 * W % (61 * W + 2) - 30 * W + (mixed c 5 * W % (70 * W + 3) - 9 * W)), 1 + mixed c 2 * W % (12 * W + 1), mixed c 3 * W % (99 * W + 5) - 49 * W, ?_, ?_, ?_, ?_, ?_⟩
    · simp [m_law_numbers, b_law_numbers, f2, f3, g3, d3, hc, wx, m1, mixed_eq, n12, n99, n61, n70, List.replicate, i1, i2, fmod_pos (show 0 < 12 * W + 1 by omega), fmod_pos (show 0 < 99 * W + 5 by omega), fmod_pos (show 0 < 61 * W + 2 by omega), fmod_pos (show 0 < 70 * W + 3 by omega), W0]
    · have := Int.emod_nonneg (mixed c 2 * W) n12; omega
    · have := Int.emod_lt_of_pos (mixed c 2 * W) (show 0 < 12 * W + 1 by omega); omega
    · intro l e
      have a1 := Int.emod_nonneg (mixed c 4 * W) n61
      have a2 := Int.emod_lt_of_pos (mixed c 4 * W) (show 0 < 61 * W + 2 by omega)
      split at e
      · cases e
      · cases e; rw [p99]; omega
    · intro l e
      have a1 := Int.emod_nonneg (mixed c 4 * W) n61
      have a2 := Int.emod_lt_of_pos (mixed c 4 * W) (show 0 < 61 * W + 2 by omega)
      have a3 := Int.emod_nonneg (mixed c 5 * W) n70
      have a4 := Int.emod_lt_of_pos (mixed c 5 * W) (show 0 < 70 * W + 3 by omega)
      split at e
      · cases e
      · cases e; rw [p99]; omega
end Fx
namespace Fx
open PySem
@[simp] theorem isN_dO (o : Option Int) : isN (dO o) = o.isNone := by cases o <;> rfl
theorem low_eq (a b : Option Int) : m_lower_bound [dO a, dO b] = some (dO (St.lowB a b)) := by
  cases a with
  | none => cases b <;> simp [m_lower_bound, b_lower_bound, St.lowB]
  | some x => cases b <;> simp [m_lower_bound, b_lower_bound, St.lowB]
theorem upp_eq (a b : Option Int) : m_upper_bound [dO a, dO b] = some (dO (St.uppB a b)) := by
  cases a with
  | none => cases b <;> simp [m_upper_bound, b_upper_bound, St.uppB]
  | some x => cases b <;> simp [m_upper_bound, b_upper_bound, St.uppB]
theorem between_eq (s : St.S) (lo hi : Option Int) : m_stretch_between [dS s, dO lo, dO hi] = some (dOS (St.between s lo hi)) := by
  obtain ⟨l, h, st, re⟩ := s
  simp [m_stretch_between, b_stretch_between, ix4_0, ix4_1, ix4_2, ix4_3, low_eq, upp_eq, made_eq, St.between]
theorem eqD_dS (s t : St.S) : eqD (dS s) (dS t) = decide (s = t) := by
  have o : ∀ a b : Option Int, eqD (dO a) (dO b) = decide (a = b) := fun a b => by cases a <;> cases b <;> simp
  obtain ⟨l, h, st, re⟩ := s
  obtain ⟨l', h', st', re'⟩ := t
  simp only [dS_mk, eqD_tup_tup, eqDs_cc, eqDs_nn, o, eqD_int_int, St.S.mk.injEq, Bool.and_true]
  rw [Bool.eq_iff_iff]
  simp
theorem eqD_dOS (r r' : Option St.S) : eqD (dOS r) (dOS r') = decide (r = r') := by
  cases r with
  | none => cases r' with
    | none => simp
    | some t => obtain ⟨l, h, st, re⟩ := t; simp
  | some s => cases r' with
    | none => obtain ⟨l, h, st, re⟩ := s; simp
    | some t => simp [eqD_dS]
@[simp] theorem dp_dS (s : St.S) : dpD (dS s) ≤ 30 := by obtain ⟨l, h, st, re⟩ := s; simp
@[simp] theorem dp_dOS (r : Option St.S) : dpD (dOS r) ≤ 30 := by cases r <;> simp
end Fx
namespace Fx
open PySem
open St (Tells BdO Bd Canon mem OB)
structure Gd (s : St.S) : Prop where
  c : Canon s
  b : Bd s (2 ^ 100)
theorem above_eq (s : St.S) (v : Int) : m_stretch_above [dS s, .int v] = some (dOS (St.between s (some (v + 1)) none)) := by
  have := between_eq s (some (v + 1)) none
  simp only [dO_some, dO_none] at this
  simp [m_stretch_above, b_stretch_above, this]
theorem below_eq (s : St.S) (v : Int) : m_stretch_below [dS s, .int v] = some (dOS (St.between s none (some (v - 1)))) := by
  have := between_eq s none (some (v - 1))
  simp only [dO_some, dO_none] at this
  simp [m_stretch_below, b_stretch_below, this]
theorem above_ok {s : St.S} (c : Canon s) (v : Int) : Tells (St.between s (some (v + 1)) none) (fun w => mem s w ∧ v < w) := (St.between_ok c).imp fun w => by
  constructor
  · rintro ⟨m, a, _⟩; exact ⟨m, by have := a _ rfl; omega⟩
  · rintro ⟨m, a⟩; exact ⟨m, fun l e => (by cases e; omega), fun l e => (by cases e)⟩
theorem below_ok {s : St.S} (c : Canon s) (v : Int) : Tells (St.between s none (some (v - 1))) (fun w => mem s w ∧ w < v) := (St.between_ok c).imp fun w => by
  constructor
  · rintro ⟨m, _, a⟩; exact ⟨m, by have := a _ rfl; omega⟩
  · rintro ⟨m, a⟩; exact ⟨m, fun l e => (by cases e), fun l e => (by cases e; omega)⟩
end Fx
namespace Fx
open PySem
open St (Tells BdO Bd Canon mem OB)
theorem nearest_0 : m_nearest [.lst []] = some .non := by simp [m_nearest, b_nearest, bMinK, dInts, nMin, List.replicate]
theorem nearest_1 (a : Int) : m_nearest [.lst [.int a]] = some (.int a) := by simp [m_nearest, b_nearest, bMinK, dInts, nMin, nbest, List.replicate]
theorem nearest_2 (a b : Int) : m_nearest [.lst [.int a, .int b]] = some (.int (if nLt b a = true then b else a)) := by simp [m_nearest, b_nearest, bMinK, dInts, nMin, nbest, List.replicate]
theorem nLt_iff (w v : Int) : nLt w v = true ↔ (absI w < absI v ∨ (absI w = absI v ∧ v < w)) := by
  unfold nLt
  by_cases h : absI w = absI v
  · rw [if_pos h]; simp; omega
  · rw [if_neg h]; simp; omega
theorem nLt_no {w v : Int} (h : ¬ (absI w < absI v ∨ (absI w = absI v ∧ v < w))) : nLt w v = false := by
  cases q : nLt w v with
  | false => rfl
  | true => exact absurd ((nLt_iff w v).mp q) h
theorem absI_cases (w : Int) : (w < 0 ∧ absI w = -w) ∨ (0 ≤ w ∧ absI w = w) := by
  unfold absI
  by_cases h : w < 0
  · rw [if_pos h]; exact .inl ⟨h, rfl⟩
  · rw [if_neg h]; exact .inr ⟨by omega, rfl⟩
theorem near_two {P : Int → Prop} {a b : Int} (hP : ∀ w, P w → nLt w a = false ∨ nLt w b = false) : ∀ w, P w → nLt w (if nLt b a = true then b else a) = false := fun w hw => by
  have h := hP w hw
  by_cases q : nLt b a = true
  · rw [if_pos q]
    rcases h with h | h
    · refine nLt_no fun z => ?_
      rw [← Bool.not_eq_true, nLt_iff] at h
      rw [nLt_iff] at q
      omega
    · exact h
  · rw [if_neg q]
    rcases h with h | h
    · exact h
    · refine nLt_no fun z => ?_
      rw [← Bool.not_eq_true, nLt_iff] at h
      rw [nLt_iff] at q
      omega
theorem lo_some {p : St.S} (c : Canon p) {m : Int} (h : ∀ w, mem p w → m ≤ w) : ∃ a, p.lo = some a ∧ mem p a ∧ ∀ w, mem p w → a ≤ w := by
  cases e : p.lo with
  | some a => exact ⟨a, rfl, c.memLo e, fun w hw => hw.l a e⟩
  | none =>
    exfalso
    obtain ⟨v, hv⟩ := c.some
    have dn : ∀ n : Nat, ∃ w, mem p w ∧ w ≤ v - n := fun n => by
      induction n with
      | zero => exact ⟨v, hv, by omega⟩
      | succ n ih =>
        obtain ⟨w, hw, hl⟩ := ih
        refine ⟨w - p.st, c.down hw (fun l q => by rw [e] at q; cases q), ?_⟩
        have := c.pos
        push_cast; omega
    obtain ⟨w, hw, hl⟩ := dn (v - m + 1).toNat
    have := h w hw
    have := h v hv
    omega
theorem hi_some {p : St.S} (c : Canon p) {m : Int} (h : ∀ w, mem p w → w ≤ m) : ∃ a, p.hi = some a ∧ mem p a ∧ ∀ w, mem p w → w ≤ a := by
  cases e : p.hi with
  | some a => exact ⟨a, rfl, c.memHi e, fun w hw => hw.h a e⟩
  | none =>
    exfalso
    obtain ⟨v, hv⟩ := c.some
    have dn : ∀ n : Nat, ∃ w, mem p w ∧ v + n ≤ w := fun n => by
      induction n with
      | zero => exact ⟨v, hv, by omega⟩
      | succ n ih =>
        obtain ⟨w, hw, hl⟩ := ih
        refine ⟨w + p.st, c.up hw (fun l q => by rw [e] at q; cases q), ?_⟩
        have := c.pos
        push_cast; omega
    obtain ⟨w, hw, hl⟩ := dn (m - v + 1).toNat
    have := h w hw
    have := h v hv
    omega
@[simp] theorem dIx2_S0 (s : St.S) : dIx2 (dS s) (.int 0) = some (dO s.lo) := rfl
@[simp] theorem dIx2_S1 (s : St.S) : dIx2 (dS s) (.int 1) = some (dO s.hi) := rfl
@[simp] theorem dIx2_S2 (s : St.S) : dIx2 (dS s) (.int 2) = some (.int s.st) := rfl
theorem some_eq {s : St.S} (c : Canon s) : ∃ v, m_stretch_some [dS s] = some (.int v) ∧ mem s v ∧ ∀ w, mem s w → nLt w v = false := by
  have t1 := above_ok c (-1)
  have t2 := below_ok c 0
  have e1 := above_eq s (-1)
  have e2 := below_eq s 0
  generalize St.between s (some (-1 + 1)) none = r1 at t1 e1
  generalize St.between s none (some (0 - 1)) = r2 at t2 e2
  cases r1 with
  | none =>
    cases r2 with
    | none =>
      exfalso
      obtain ⟨v, hv⟩ := c.some
      by_cases h : v < 0
      · exact t2 v ⟨hv, h⟩
      · exact t1 v ⟨hv, by omega⟩
    | some q =>
      obtain ⟨cq, mq⟩ := t2
      obtain ⟨b, hb, m1, m2⟩ := hi_some cq (m := 0) (fun w hw => by have := ((mq w).mp hw).2; omega)
      refine ⟨b, by simp [m_stretch_some, b_stretch_some, e1, e2, hb, nearest_1, List.replicate], ((mq b).mp m1).1, fun w hw => nLt_no fun z => ?_⟩
      have hw0 : w < 0 := by
        by_cases h : w < 0
        · exact h
        · exact (t1 w ⟨hw, by omega⟩).elim
      have h3 := m2 w ((mq w).mpr ⟨hw, hw0⟩)
      have h4 := ((mq b).mp m1).2
      rcases absI_cases w with ⟨_, h5⟩ | ⟨h5, _⟩ <;> rcases absI_cases b with ⟨_, h6⟩ | ⟨h6, _⟩ <;> omega
  | some p =>
    obtain ⟨cp, mp⟩ := t1
    obtain ⟨a, ha, m1, m2⟩ := lo_some cp (m := 0) (fun w hw => by have := ((mp w).mp hw).2; omega)
    have a0 := ((mp a).mp m1).2
    cases r2 with
    | none =>
      refine ⟨a, by simp [m_stretch_some, b_stretch_some, e1, e2, ha, nearest_1, List.replicate], ((mp a).mp m1).1, fun w hw => nLt_no fun z => ?_⟩
      have hw0 : -1 < w := by
        by_cases h : w < 0
        · exact (t2 w ⟨hw, h⟩).elim
        · omega
      have h3 := m2 w ((mp w).mpr ⟨hw, hw0⟩)
      rcases absI_cases w with ⟨_, h5⟩ | ⟨h5, _⟩ <;> rcases absI_cases a with ⟨_, h6⟩ | ⟨h6, _⟩ <;> omega
    | some q =>
      obtain ⟨cq, mq⟩ := t2
      obtain ⟨b, hb, n1, n2⟩ := hi_some cq (m := 0) (fun w hw => by have := ((mq w).mp hw).2; omega)
      have b0 := ((mq b).mp n1).2
      refine ⟨if nLt b a = true then b else a, by simp [m_stretch_some, b_stretch_some, e1, e2, ha, hb, nearest_2, List.replicate], ?_, near_two fun w hw => ?_⟩
      · split
        · exact ((mq b).mp n1).1
        · exact ((mp a).mp m1).1
      · by_cases h : w < 0
        · refine .inr (nLt_no fun z => ?_)
          have h3 := n2 w ((mq w).mpr ⟨hw, h⟩)
          rcases absI_cases w with ⟨_, h5⟩ | ⟨h5, _⟩ <;> rcases absI_cases b with ⟨_, h6⟩ | ⟨h6, _⟩ <;> omega
        · refine .inl (nLt_no fun z => ?_)
          have h3 := m2 w ((mp w).mpr ⟨hw, by omega⟩)
          rcases absI_cases w with ⟨_, h5⟩ | ⟨h5, _⟩ <;> rcases absI_cases a with ⟨_, h6⟩ | ⟨h6, _⟩ <;> omega
end Fx
namespace Fx
open PySem
open St (Tells BdO Bd Canon mem OB)
theorem not_eq {s : St.S} (c : Canon s) (v : Int) :
    (∃ u, m_stretch_not [dS s, .int v] = some (.int u) ∧ mem s u ∧ u ≠ v ∧ ∀ w, mem s w → w ≠ v → nLt w u = false) ∨ (m_stretch_not [dS s, .int v] = some .non ∧ ∀ w, mem s w → w = v) := by
  have zl : 2 ≤ sizeLine := by decide
  have t1 := above_ok c v
  have t2 := below_ok c v
  have e1 := above_eq s v
  have e2 := below_eq s v
  generalize St.between s (some (v + 1)) none = r1 at t1 e1
  generalize St.between s none (some (v - 1)) = r2 at t2 e2
  cases r1 with
  | none =>
    cases r2 with
    | none =>
      refine .inr ⟨by simp [m_stretch_not, b_stretch_not, zl, e1, e2, nearest_0, List.replicate], fun w hw => ?_⟩
      by_cases h : w < v
      · exact (t2 w ⟨hw, h⟩).elim
      · by_cases h2 : v < w
        · exact (t1 w ⟨hw, h2⟩).elim
        · omega
    | some q =>
      obtain ⟨cq, mq⟩ := t2
      obtain ⟨b, hb, m1, m2⟩ := some_eq cq
      have b1 := (mq b).mp m1
      refine .inl ⟨b, by simp [m_stretch_not, b_stretch_not, zl, e1, e2, hb, nearest_1, List.replicate], b1.1, by omega, fun w hw hne => ?_⟩
      by_cases h2 : v < w
      · exact (t1 w ⟨hw, h2⟩).elim
      · exact m2 w ((mq w).mpr ⟨hw, by omega⟩)
  | some p =>
    obtain ⟨cp, mp⟩ := t1
    obtain ⟨a, ha, m1, m2⟩ := some_eq cp
    have a1 := (mp a).mp m1
    cases r2 with
    | none =>
      refine .inl ⟨a, by simp [m_stretch_not, b_stretch_not, zl, e1, e2, ha, nearest_1, List.replicate], a1.1, by omega, fun w hw hne => ?_⟩
      by_cases h2 : w < v
      · exact (t2 w ⟨hw, h2⟩).elim
      · exact m2 w ((mp w).mpr ⟨hw, by omega⟩)
    | some q =>
      obtain ⟨cq, mq⟩ := t2
      obtain ⟨b, hb, n1, n2⟩ := some_eq cq
      have b1 := (mq b).mp n1
      have key := near_two (P := fun w => mem s w ∧ w ≠ v) (a := a) (b := b) (fun w ⟨hw, hne⟩ => by
        by_cases h2 : w < v
        · exact .inr (n2 w ((mq w).mpr ⟨hw, h2⟩))
        · exact .inl (m2 w ((mp w).mpr ⟨hw, by omega⟩)))
      refine .inl ⟨if nLt b a = true then b else a, by simp [m_stretch_not, b_stretch_not, zl, e1, e2, ha, hb, nearest_2, List.replicate], ?_, ?_, fun w hw hne => key w ⟨hw, hne⟩⟩
      · split
        · exact b1.1
        · exact a1.1
      · split
        · omega
        · omega
theorem nearer_eq (w u : Int) : m_law_nearer [.int w, .int u] = some (.bl (nLt w u)) := by
  have hb : ∀ x : Int, bAbs [.int x] = some (.int (absI x)) := fun x => rfl
  unfold nLt
  by_cases h : absI w < absI u
  · have h2 : ¬ absI w = absI u := by omega
    simp [m_law_nearer, b_law_nearer, hb, h, h2]
  · by_cases h2 : absI w = absI u
    · by_cases h3 : u < w
      · simp [m_law_nearer, b_law_nearer, hb, h, h2, h3]
      · simp [m_law_nearer, b_law_nearer, hb, h, h2, h3]
    · simp [m_law_nearer, b_law_nearer, hb, h, h2]
theorem fGo_mem {g : D → En → Option En} {B : FS} (P : En → Prop) : ∀ (vs : List Int) (ρ : En), (∀ v ∈ vs, ∀ ρ, P ρ → ∃ ρ1 ρ2, g (.int v) ρ = some ρ1 ∧ B ρ1 = some (.nx ρ2) ∧ P ρ2) → P ρ → ∃ ρ', fGo g B (vs.map .int) ρ = some (.nx ρ') ∧ P ρ'
  | [], ρ, _, p => ⟨ρ, rfl, p⟩
  | v :: vs, ρ, h, p => by
    obtain ⟨ρ1, ρ2, h1, h2, p2⟩ := h v (List.mem_cons_self) ρ p
    obtain ⟨ρ', e, p'⟩ := fGo_mem P vs ρ2 (fun x hx => h x (List.mem_cons_of_mem _ hx)) p2
    refine ⟨ρ', ?_, p'⟩
    rw [List.map_cons, fGo_c, h1, fGa_s, h2, fGb_n]
    exact e
def PN (s : St.S) (u : Int) (b : D) (ρ : En) : Prop := ∃ x y, ρ = [.im (dS s), .im (.int u), .im b, x, y]
theorem nearest_turn {s : St.S} (c : Canon s) {u : Int} {b : D} (hb : b = .non ∨ ∃ v, b = .int v) (hn : ∀ w, mem s w → b ≠ .int w → nLt w u = false) (k : Int) (hk : k.natAbs < 2 ^ 64) (ρ : En) (p : PN s u b ρ) :
    ∃ ρ1 ρ2, gN 3 (.int k) ρ = some ρ1 ∧ l_law_nearest_1 ρ1 = some (.nx ρ2) ∧ PN s u b ρ2 := by
  obtain ⟨x, y, rfl⟩ := p
  have ok : okMul k s.st = true := okMul_l hk
  have hin := in_eq c.pos c.r0 c.r1 (u + k * s.st)
  refine ⟨_, [.im (dS s), .im (.int u), .im b, .im (.int k), .im (.int (u + k * s.st))], rfl, ?_, _, _, rfl⟩
  rcases hb with rfl | ⟨v, rfl⟩
  · by_cases hm : hasB s (u + k * s.st) = true
    · have := hn _ (hasB_iff.mp hm) (by simp)
      simp [l_law_nearest_1, ok, hin, hm, nearer_eq, this]
    · simp [l_law_nearest_1, ok, hin, hm]
  · by_cases he : u + k * s.st = v
    · simp [l_law_nearest_1, ok, he]
    · by_cases hm : hasB s (u + k * s.st) = true
      · have := hn _ (hasB_iff.mp hm) (fun z => he (by cases z; rfl))
        simp [l_law_nearest_1, ok, hin, hm, nearer_eq, this, he]
      · simp [l_law_nearest_1, ok, hin, hm, he]
theorem lnearest_eq {s : St.S} (c : Canon s) {u : Int} {b : D} (hb : b = .non ∨ ∃ v, b = .int v ∧ u ≠ v) (hu : mem s u) (hn : ∀ w, mem s w → b ≠ .int w → nLt w u = false) : m_law_nearest [dS s, .int u, b] = some (.bl true) := by
  obtain ⟨ρ', e, x, y, rfl⟩ := fGo_mem (PN s u b) [-2, -1, 1, 2] [.im (dS s), .im (.int u), .im b, .no, .no] (fun k hk ρ p => nearest_turn c (by rcases hb with h | ⟨v, h, _⟩; exact .inl h; exact .inr ⟨v, h⟩) hn k (by
    simp at hk
    rcases hk with rfl | rfl | rfl | rfl <;> decide) ρ p) ⟨_, _, rfl⟩
  have hin := in_eq c.pos c.r0 c.r1 u
  have hm : hasB s u = true := hasB_iff.mpr hu
  simp only [List.map_cons, List.map_nil] at e
  rcases hb with rfl | ⟨v, rfl, hne⟩
  · simp [m_law_nearest, b_law_nearest, hin, hm, e, List.replicate]
  · simp [m_law_nearest, b_law_nearest, hin, hm, e, hne, List.replicate]
end Fx
namespace Fx
open PySem
open St (Tells BdO Bd Canon mem OB)
def fV (s : St.S) (v : Int) : Int := match s.lo with
  | none => v + 1 + (s.re - v - 1) % s.st
  | some l => if v + 1 + (s.re - v - 1) % s.st < l then l else v + 1 + (s.re - v - 1) % s.st
theorem first_eq {s : St.S} (c : Canon s) (v : Int) : St.first (St.lowB s.lo (some (v + 1))) s.st s.re = some (fV s v) := by
  obtain ⟨lo, hi, st, re⟩ := s
  have q : re - (v + 1) = re - v - 1 := by omega
  have U := St.up (l := v + 1) c.pos c.r0 c.r1
  simp only [q] at U
  cases lo with
  | none => show some (v + 1 + (re - (v + 1)) % st) = some (v + 1 + (re - v - 1) % st); rw [q]
  | some l =>
    have hl : l % st = re := c.lo l rfl
    show some ((if v + 1 > l then v + 1 else l) + (re - (if v + 1 > l then v + 1 else l)) % st) = some (if v + 1 + (re - v - 1) % st < l then l else v + 1 + (re - v - 1) % st)
    by_cases h : v + 1 > l
    · rw [if_pos h, q, if_neg (by have := U.2.1; omega)]
    · rw [if_neg h]
      have z : (re - l) % st = 0 := by
        apply Int.emod_eq_zero_of_dvd
        have := (St.cong' c.r0 c.r1).mp hl
        have h2 := Int.dvd_neg.mpr this
        rwa [show -(l - re) = re - l by omega] at h2
      rw [z, Int.add_zero]
      have h3 : v + 1 + (re - v - 1) % st ≤ l := U.2.2 l hl (by omega)
      by_cases h4 : v + 1 + (re - v - 1) % st < l
      · rw [if_pos h4]
      · rw [if_neg h4]; congr 1; exact Int.le_antisymm (by omega) h3
theorem last_eq {s : St.S} (c : Canon s) : St.last (St.uppB s.hi none) s.st s.re = s.hi := by
  obtain ⟨lo, hi, st, re⟩ := s
  cases hi with
  | none => rfl
  | some h =>
    have hl : h % st = re := c.hi h rfl
    show some (h - (h - re) % st) = some h
    rw [Int.emod_eq_zero_of_dvd ((St.cong' c.r0 c.r1).mp hl), Int.sub_zero]
theorem between_fV {s : St.S} (c : Canon s) (v : Int) : St.between s (some (v + 1)) none = St.made2 (some (fV s v)) s.hi s.st s.re := by
  unfold St.between St.made
  rw [if_pos ⟨c.r0, c.r1⟩, first_eq c, last_eq c]
theorem labove_eq {s : St.S} (c : Canon s) (v : Int) : m_law_above [dS s, .int v] = some (dOS (St.between s (some (v + 1)) none)) := by
  rw [between_fV c]
  obtain ⟨lo, hi, st, re⟩ := s
  have hp : 0 < st := c.pos
  have hn : ¬ st = 0 := by omega
  have fm : ∀ x : Int, x.fmod st = x % st := fun x => fmod_pos hp
  cases lo with
  | none =>
    show _ = some (dOS (St.made2 (some (v + 1 + (re - v - 1) % st)) hi st re))
    generalize hF : v + 1 + (re - v - 1) % st = F
    cases hi with
    | none => simp [m_law_above, b_law_above, hn, fm, hF, St.made2, List.replicate]
    | some h =>
      by_cases h1 : h < F
      · simp [m_law_above, b_law_above, hn, fm, hF, h1, St.made2, List.replicate]
      · by_cases h2 : h = F
        · subst h2
          simp [m_law_above, b_law_above, hn, fm, hF, St.made2, List.replicate]
        · have h3 : ¬ F = h := fun z => h2 z.symm
          simp [m_law_above, b_law_above, hn, fm, hF, h1, h2, h3, St.made2, List.replicate]
  | some l =>
    show _ = some (dOS (St.made2 (some (if v + 1 + (re - v - 1) % st < l then l else v + 1 + (re - v - 1) % st)) hi st re))
    generalize hF : v + 1 + (re - v - 1) % st = F
    by_cases h0 : F < l
    · rw [if_pos h0]
      cases hi with
      | none => simp [m_law_above, b_law_above, hn, fm, hF, h0, St.made2, List.replicate]
      | some h =>
        by_cases h1 : h < l
        · simp [m_law_above, b_law_above, hn, fm, hF, h0, h1, St.made2, List.replicate]
        · by_cases h2 : h = l
          · subst h2
            simp [m_law_above, b_law_above, hn, fm, hF, h0, St.made2, List.replicate]
          · have h3 : ¬ l = h := fun z => h2 z.symm
            simp [m_law_above, b_law_above, hn, fm, hF, h0, h1, h2, h3, St.made2, List.replicate]
    · rw [if_neg h0]
      cases hi with
      | none => simp [m_law_above, b_law_above, hn, fm, hF, h0, St.made2, List.replicate]
      | some h =>
        by_cases h1 : h < F
        · simp [m_law_above, b_law_above, hn, fm, hF, h0, h1, St.made2, List.replicate]
        · by_cases h2 : h = F
          · subst h2
            simp [m_law_above, b_law_above, hn, fm, hF, h0, St.made2, List.replicate]
          · have h3 : ¬ F = h := fun z => h2 z.symm
            simp [m_law_above, b_law_above, hn, fm, hF, h0, h1, h2, h3, St.made2, List.replicate]
def tr (s : St.S) : St.S := ⟨s.hi.map fun h => 0 - h, s.lo.map fun l => 0 - l, s.st, (0 - s.re) % s.st⟩
theorem neg_mod {st re v : Int} (h0 : 0 ≤ re) (h1 : re < st) : (0 - v) % st = (0 - re) % st ↔ v % st = re := by
  rw [St.cong, St.cong' h0 h1, show 0 - v - (0 - re) = -(v - re) by omega, Int.dvd_neg]
theorem tr_mem {s : St.S} (c : Canon s) (w : Int) : mem (tr s) w ↔ mem s (0 - w) := by
  obtain ⟨lo, hi, st, re⟩ := s
  constructor
  · rintro ⟨h1, h2, h3⟩
    refine ⟨fun l e => ?_, fun l e => ?_, ?_⟩
    · have e' : lo = some l := e
      subst e'
      have := h2 (0 - l) rfl
      omega
    · have e' : hi = some l := e
      subst e'
      have := h1 (0 - l) rfl
      omega
    · have h3' : w % st = (0 - re) % st := h3
      exact (neg_mod c.r0 c.r1).mp (by rw [show 0 - (0 - w) = w by omega]; exact h3')
  · rintro ⟨h1, h2, h3⟩
    refine ⟨fun l e => ?_, fun l e => ?_, ?_⟩
    · have e' : (hi.map fun h => 0 - h) = some l := e
      cases hi with
      | none => cases e'
      | some h =>
        have e2 : 0 - h = l := Option.some.inj e'
        have := h2 h rfl
        omega
    · have e' : (lo.map fun h => 0 - h) = some l := e
      cases lo with
      | none => cases e'
      | some h =>
        have e2 : 0 - h = l := Option.some.inj e'
        have := h1 h rfl
        omega
    · show w % st = (0 - re) % st
      have h3' : (0 - w) % st = re := h3
      have := (neg_mod (v := 0 - w) c.r0 c.r1).mpr h3'
      rwa [show 0 - (0 - w) = w by omega] at this
theorem tr_canon {s : St.S} (c : Canon s) : Canon (tr s) := by
  obtain ⟨lo, hi, st, re⟩ := s
  have hp : 0 < st := c.pos
  refine ⟨hp, Int.emod_nonneg _ (Int.ne_of_gt hp), Int.emod_lt_of_pos _ hp, fun l e => ?_, fun l e => ?_, fun l h e1 e2 => ?_⟩
  · have e' : (hi.map fun h => 0 - h) = some l := e
    cases hi with
    | none => cases e'
    | some h =>
      cases e'
      exact (neg_mod c.r0 c.r1).mpr (c.hi h rfl)
  · have e' : (lo.map fun h => 0 - h) = some l := e
    cases lo with
    | none => cases e'
    | some h =>
      cases e'
      exact (neg_mod c.r0 c.r1).mpr (c.lo h rfl)
  · have e1' : (hi.map fun h => 0 - h) = some l := e1
    have e2' : (lo.map fun h => 0 - h) = some h := e2
    cases hi with
    | none => cases e1'
    | some y =>
      cases lo with
      | none => cases e2'
      | some x =>
        have e3 : 0 - y = l := Option.some.inj e1'
        have e4 : 0 - x = h := Option.some.inj e2'
        rcases c.lh x y rfl rfl with z | ⟨z1, z2, z3⟩
        · exact .inl (by omega)
        · refine .inr ⟨by omega, z2, ?_⟩
          have z2' : st = 1 := z2
          show (0 - re) % st = 0
          rw [z2', Int.emod_one]
theorem lturned_eq (r : Option St.S) (h : ∀ s, r = some s → 0 < s.st) : m_law_turned [dOS r] = some (dOS (r.map tr)) := by
  cases r with
  | none => simp [m_law_turned, b_law_turned, List.replicate]
  | some s =>
    have hp := h s rfl
    obtain ⟨lo, hi, st, re⟩ := s
    have hp : 0 < st := hp
    have hn : ¬ st = 0 := by omega
    cases lo <;> cases hi <;> simp [m_law_turned, b_law_turned, hn, fmod_pos hp, tr, List.replicate]
theorem lbelow_eq {s : St.S} (c : Canon s) (v : Int) : m_law_below [dS s, .int v] = some (dOS (St.between s none (some (v - 1)))) := by
  have t := above_ok (tr_canon c) (-v)
  have e0 := lturned_eq (some s) (fun t e => by cases e; exact c.pos)
  have e1 := labove_eq (tr_canon c) (-v)
  have hc : ∀ p, St.between (tr s) (some (-v + 1)) none = some p → Canon p := fun p e => by rw [e] at t; exact t.1
  have e2 := lturned_eq (St.between (tr s) (some (-v + 1)) none) (fun p e => (hc p e).pos)
  have key : (St.between (tr s) (some (-v + 1)) none).map tr = St.between s none (some (v - 1)) := by
    refine St.Tells.inj ?_ (below_ok c v)
    generalize St.between (tr s) (some (-v + 1)) none = r at t hc
    cases r with
    | none =>
      intro w ⟨hw, hl⟩
      exact t (0 - w) ⟨(tr_mem c _).mpr (by rw [show 0 - (0 - w) = w by omega]; exact hw), by omega⟩
    | some p =>
      refine ⟨tr_canon (hc p rfl), fun w => ?_⟩
      rw [tr_mem (hc p rfl), t.2 (0 - w)]
      show (mem (tr s) (0 - w) ∧ -v < 0 - w) ↔ _
      rw [tr_mem c, show 0 - (0 - w) = w by omega]
      exact ⟨fun ⟨a, b⟩ => ⟨a, by omega⟩, fun ⟨a, b⟩ => ⟨a, by omega⟩⟩
  rw [key] at e2
  simp only [dOS_some, Option.map_some] at e0
  simp [m_law_below, b_law_below, e0, e1, e2]
end Fx
namespace Fx
open PySem
open St (Tells BdO Bd Canon mem OB)
@[simp] theorem dpD_dS (s : St.S) : dpD (dS s) = 1 := by obtain ⟨a, b, c, d⟩ := s; simp [dS, dpD, dpDs]
@[simp] theorem dpD_dOS (r : Option St.S) : dpD (dOS r) ≤ 30 := by cases r <;> simp
theorem ne_self (r : Option St.S) : dNe (dOS r) (dOS r) = some (.bl false) := by
  rw [dNe_, if_pos ⟨dpD_dOS r, dpD_dOS r⟩, eqD_dOS, decide_eq_true rfl]; rfl
theorem end_turn (x0 x1 x2 x3 x4 x6 x7 x10 x11 : Sl) (st : Int) (vs : List Int) (o : Option Int) (hl : vs.length ≤ 40) :
    ∃ vs' : List Int, l_law_1 [x0, x1, x2, x3, x4, .im (.int st), x6, x7, .im (.lst (vs.map .int)), .im (dO o), x10, x11] = some (.nx [x0, x1, x2, x3, x4, .im (.int st), x6, x7, .im (.lst (vs'.map .int)), .im (dO o), x10, x11]) ∧ vs'.length ≤ vs.length + 4 := by
  cases o with
  | none => exact ⟨vs, by simp [l_law_1], by omega⟩
  | some e =>
    have z : vs.length + 4 ≤ sizeLine := Nat.le_trans (show vs.length + 4 ≤ 100 by omega) (by decide)
    refine ⟨vs ++ [e, e - 1, e + 1, e + st], ?_, by simp⟩
    simp [l_law_1, z]
theorem value_turn {s : St.S} (c : Canon s) (x0 x1 x3 x4 x5 x6 x7 x8 x9 x11 : Sl) (v : Int) :
    ∃ d, l_law_2 [x0, x1, .im (dS s), x3, x4, x5, x6, x7, x8, x9, .im (.int v), x11] = some (.nx [x0, x1, .im (dS s), x3, x4, x5, x6, x7, x8, x9, .im (.int v), .im d]) := by
  have e1 := above_eq s v
  have e2 := labove_eq c v
  have e3 := below_eq s v
  have e4 := lbelow_eq c v
  generalize St.between s (some (v + 1)) none = r1 at e1 e2
  generalize St.between s none (some (v - 1)) = r2 at e3 e4
  have n1 := ne_self r1
  have n2 := ne_self r2
  by_cases hs : ∃ a, s.lo = some a ∧ s.hi = some a ∧ a = v
  · obtain ⟨a, h1, h2, rfl⟩ := hs
    rcases not_eq c a with ⟨u, _, mu, hne, _⟩ | ⟨e5, _⟩
    · exfalso
      have := mu.l a h1
      have := mu.h a h2
      omega
    · refine ⟨.non, ?_⟩
      simp [-dNe_, l_law_2, e1, e2, e3, e4, n1, n2, e5, h1, h2]
  · rcases not_eq c v with ⟨u, e5, mu, hne, hn⟩ | ⟨_, hall⟩
    · have e6 := lnearest_eq c (u := u) (b := .int v) (.inr ⟨v, rfl, hne⟩) mu (fun w hw hb => hn w hw (fun z => hb (by rw [z])))
      refine ⟨.int u, ?_⟩
      cases h1 : s.lo with
      | none => simp [-dNe_, l_law_2, e1, e2, e3, e4, n1, n2, e5, h1, e6]
      | some a =>
        cases h2 : s.hi with
        | none => simp [-dNe_, l_law_2, e1, e2, e3, e4, n1, n2, e5, h1, h2, e6]
        | some b =>
          by_cases h3 : a = b
          · subst h3
            have h4 : ¬ a = v := fun z => hs ⟨a, h1, h2, z⟩
            simp [-dNe_, l_law_2, e1, e2, e3, e4, n1, n2, e5, h1, h2, h4, e6]
          · simp [-dNe_, l_law_2, e1, e2, e3, e4, n1, n2, e5, h1, h2, h3, e6]
    · exfalso
      obtain ⟨w, hw⟩ := c.some
      have hv := hall w hw
      subst hv
      exact hs ⟨w, c.lo_of.mpr ⟨hw, fun u hu => by rw [hall u hu]; exact Int.le_refl _⟩, c.hi_of.mpr ⟨hw, fun u hu => by rw [hall u hu]; exact Int.le_refl _⟩, rfl⟩
def PV (s : St.S) (x0 x1 x3 x4 x5 x6 x7 x8 x9 : Sl) (ρ : En) : Prop := ∃ x10 x11, ρ = [x0, x1, .im (dS s), x3, x4, x5, x6, x7, x8, x9, x10, x11]
theorem values_loop {s : St.S} (c : Canon s) (x0 x1 x3 x4 x5 x6 x7 x8 x9 x10 x11 : Sl) (vs : List Int) :
    ∃ y10 y11, fGo (gN 10) l_law_2 (vs.map .int) [x0, x1, .im (dS s), x3, x4, x5, x6, x7, x8, x9, x10, x11] = some (.nx [x0, x1, .im (dS s), x3, x4, x5, x6, x7, x8, x9, y10, y11]) := by
  obtain ⟨ρ', e, y10, y11, rfl⟩   := fGo_mem (g := gN 10) (B := l_law_2) (PV s x0 x1 x3 x4 x5 x6 x7 x8 x9) vs [x0, x1, .im (dS s), x3, x4, x5, x6, x7, x8, x9, x10, x11] (fun v _ ρ ⟨z10, z11, q⟩ => by
    subst q
    obtain ⟨d, hd⟩ := value_turn c x0 x1 x3 x4 x5 x6 x7 x8 x9 z11 v
    exact ⟨_, _, rfl, hd, _, _, rfl⟩) ⟨_, _, rfl⟩
  exact ⟨y10, y11, e⟩
def PC4 (sc : D) (ρ : En) : Prop := ∃ x1 x2 x3 x4 x5 x6 x7 x8 x9 x10 x11, ρ = [.im sc, x1, x2, x3, x4, x5, x6, x7, x8, x9, x10, x11]
theorem cell_turn {sc : D} (n : Int) (ρ : En) (p : PC4 sc ρ) : ∃ ρ1 ρ2, gN 1 (.int n) ρ = some ρ1 ∧ l_law_3 ρ1 = some (.nx ρ2) ∧ PC4 sc ρ2 := by
  obtain ⟨x1, x2, x3, x4, x5, x6, x7, x8, x9, x10, x11, rfl⟩ := p
  obtain ⟨lo, hi, st, re, en, s1, s2, _, _⟩ := numbers_eq n
  have em := made_eq lo hi st re
  have t : ∀ s, St.made lo hi st re = some s → (0 ≤ re ∧ re < st) ∧ Canon s := fun s e => by
    by_cases h : 0 ≤ re ∧ re < st
    · have := St.made_ok (lo := lo) (hi := hi) (by omega) h.1 h.2
      rw [e] at this
      exact ⟨h, this.1⟩
    · rw [St.made_none h] at e; cases e
  generalize St.made lo hi st re = r at em t
  cases r with
  | none =>
    refine ⟨_, [.im sc, .im (.int n), .im .non, .im (dO lo), .im (dO hi), .im (.int st), .im (.int re), x7, x8, x9, x10, x11], rfl, ?_, _, _, _, _, _, _, _, _, _, _, _, rfl⟩
    simp [l_law_3, en, em]
  | some s =>
    obtain ⟨⟨r0, r1⟩, c⟩ := t s rfl
    obtain ⟨u, eu, mu, hu⟩ := some_eq c
    have en2 := lnearest_eq c (u := u) (b := .non) (.inl rfl) mu (fun w hw _ => hu w hw)
    have f9 : ∀ x : Int, x.fmod 9 = x % 9 := fun x => fmod_pos (by decide)
    have fd : ∀ x : Int, x.fdiv st = x / st := fun x => fdiv_pos (by omega)
    have b1 := mixed_r n 11
    have q1 : 0 ≤ mixed n 11 % 9 := Int.emod_nonneg _ (by decide)
    have q2 : mixed n 11 % 9 < 9 := Int.emod_lt_of_pos _ (by decide)
    have k1 : okMul s.st (mixed n 11 % 9 - 4) = true := okMul_r (by omega)
    have kd : okDiv st = true := okDiv_of (by omega) (bigI (by omega) (by omega))
    have hq : (-re) / st = 0 ∨ (-re) / st = -1 := by
      by_cases h : re = 0
      · left; subst h; simp
      · right
        have h2 : (-re) / st < 0 := Int.ediv_neg_of_neg_of_pos (by omega) (by omega)
        have h3 : -1 ≤ (-re) / st := by
          rw [Int.le_ediv_iff_mul_le (by omega)]; omega
        omega
    have k2 : okMul ((-re) / st) st = true := okMul_l (by rcases hq with h | h <;> rw [h] <;> decide)
    let near := re + s.st * (mixed n 11 % 9 - 4)
    let vs : List Int := [near, near + 1, 0, 1, -1, (-re) / st * st + re, u]
    obtain ⟨vs1, h1, l1⟩ := end_turn (.im sc) (.im (.int n)) (.im (dS s)) (.im (dO lo)) (.im (dO hi)) (.im (.int re)) (.im (.int near)) x10 x11 st vs s.lo (by show 7 ≤ 40; omega)
    have l1' : vs1.length ≤ 11 := l1
    obtain ⟨vs2, h2, l2⟩ := end_turn (.im sc) (.im (.int n)) (.im (dS s)) (.im (dO lo)) (.im (dO hi)) (.im (.int re)) (.im (.int near)) x10 x11 st vs1 s.hi (by omega)
    have g1 : fGo (gN 9) l_law_1 [dO s.lo, dO s.hi] [.im sc, .im (.int n), .im (dS s), .im (dO lo), .im (dO hi), .im (.int st), .im (.int re), .im (.int near), .im (.lst (vs.map .int)), x9, x10, x11]
        = some (.nx [.im sc, .im (.int n), .im (dS s), .im (dO lo), .im (dO hi), .im (.int st), .im (.int re), .im (.int near), .im (.lst (vs2.map .int)), .im (dO s.hi), x10, x11]) := by
      rw [fGo_c, show gN 9 (dO s.lo) [.im sc, .im (.int n), .im (dS s), .im (dO lo), .im (dO hi), .im (.int st), .im (.int re), .im (.int near), .im (.lst (vs.map .int)), x9, x10, x11] = some [.im sc, .im (.int n), .im (dS s), .im (dO lo), .im (dO hi), .im (.int st), .im (.int re), .im (.int near), .im (.lst (vs.map .int)), .im (dO s.lo), x10, x11] from rfl, fGa_s, h1, fGb_n]
      rw [fGo_c, show gN 9 (dO s.hi) [.im sc, .im (.int n), .im (dS s), .im (dO lo), .im (dO hi), .im (.int st), .im (.int re), .im (.int near), .im (.lst (vs1.map .int)), .im (dO s.lo), x10, x11] = some [.im sc, .im (.int n), .im (dS s), .im (dO lo), .im (dO hi), .im (.int st), .im (.int re), .im (.int near), .im (.lst (vs1.map .int)), .im (dO s.hi), x10, x11] from rfl, fGa_s, h2, fGb_n]
      rfl
    obtain ⟨y10, y11, g2⟩ := values_loop c (.im sc) (.im (.int n)) (.im (dO lo)) (.im (dO hi)) (.im (.int st)) (.im (.int re)) (.im (.int near)) (.im (.lst (vs2.map .int))) (.im (dO s.hi)) x10 x11 vs2
    refine ⟨_, [.im sc, .im (.int n), .im (dS s), .im (dO lo), .im (dO hi), .im (.int st), .im (.int re), .im (.int near), .im (.lst (vs2.map .int)), .im (dO s.hi), y10, y11], rfl, ?_, _, _, _, _, _, _, _, _, _, _, _, rfl⟩
    have cutS : dSl2 (dS s) none (some 2) = some (.tup [dO s.lo, dO s.hi]) := rfl
    have vsE : vs.map D.int = [.int near, .int (near + 1), .int 0, .int 1, .int (-1), .int ((-re) / st * st + re), .int u] := rfl
    rw [vsE] at g1
    simp [l_law_3, en, em, mixed_eq, f9, fd, k1, k2, kd, eu, en2, cutS, g1, g2, near]
theorem law_true (ns : List Int) (hl : ns.length ≤ 63) : m_law [.lst (ns.map .int)] = some (.bl true) := by
  have cut := cutTake 12 ns
  obtain ⟨ρ', e, x1, x2, x3, x4, x5, x6, x7, x8, x9, x10, x11, rfl⟩ := fGo_mem (g := gN 1) (B := l_law_3) (PC4 (.lst (ns.map .int))) (5 :: ns.take 12) [.im (.lst (ns.map .int)), .no, .no, .no, .no, .no, .no, .no, .no, .no, .no, .no] (fun v _ ρ p => cell_turn v ρ p) ⟨_, _, _, _, _, _, _, _, _, _, _, rfl⟩
  have z : 1 + min 12 ns.length ≤ sizeLine := Nat.le_trans (show 1 + min 12 ns.length ≤ 100 by omega) (by decide)
  simp only [List.map_cons, List.map_take] at e cut
  have cut' : dCut (ns.map D.int) none (some 12) = (ns.map D.int).take 12 := cut
  simp [m_law, b_law, cut', List.replicate, z, e]
end Fx
set_option maxRecDepth 100000
set_option maxHeartbeats 4000000
namespace Fx
open PySem PySem.Spec PyProof.Rows L2
theorem reps_ints {K : PySem.W.Frag} {H : Hp} : ∀ ns : List Int, Reps K H (ns.map D.int) (ns.map V.int)
  | [] => Reps.nil_
  | n :: r => Reps.cons (rep_int H n) (reps_ints r)
theorem all_mk {l : PySem.W.OpenLaw} {w : World} {K : PySem.W.Frag} {h : Heap} {mg : Str → Option Value} {fa f1 f2 f3 f4 f5 f6 f7 f8 f9 f10 f11 f12 f13 f14 f15 f16 f17 f18 : Addr} (X : K.In h) (G : h.Ns mainGlobals mg) (hfa : mg "law" = some (.ref fa))
    {od1 an1 : Option Addr} {sl1 : Array (Option Value)} {oc1 kV1 dc1 pm1 cd1 ct1 : Value}
    (a1 : PySem.W.nsIn K mainGlobals "stretch_made" = some (some (.ref f1))) (l1 : K.lookup f1 = some ⟨oc1, od1, .func (PySem.W.fnOf "stretch_made" "stretch_made" (defArgs s_stretch_made) (defBody s_stretch_made) (defScope s_stretch_made) .none kV1 dc1 pm1 an1 cd1 ct1), sl1⟩) (c1 : PySem.W.codeIn K cd1 "stretch_made" = true) (k1 : PySem.W.keepIn K (.ref f1) = true)
    {od2 an2 : Option Addr} {sl2 : Array (Option Value)} {oc2 kV2 dc2 pm2 cd2 ct2 : Value}
    (a2 : PySem.W.nsIn K mainGlobals "lower_bound" = some (some (.ref f2))) (l2 : K.lookup f2 = some ⟨oc2, od2, .func (PySem.W.fnOf "lower_bound" "lower_bound" (defArgs s_lower_bound) (defBody s_lower_bound) (defScope s_lower_bound) .none kV2 dc2 pm2 an2 cd2 ct2), sl2⟩) (c2 : PySem.W.codeIn K cd2 "lower_bound" = true) (k2 : PySem.W.keepIn K (.ref f2) = true)
    {od3 an3 : Option Addr} {sl3 : Array (Option Value)} {oc3 kV3 dc3 pm3 cd3 ct3 : Value}
    (a3 : PySem.W.nsIn K mainGlobals "upper_bound" = some (some (.ref f3))) (l3 : K.lookup f3 = some ⟨oc3, od3, .func (PySem.W.fnOf "upper_bound" "upper_bound" (defArgs s_upper_bound) (defBody s_upper_bound) (defScope s_upper_bound) .none kV3 dc3 pm3 an3 cd3 ct3), sl3⟩) (c3 : PySem.W.codeIn K cd3 "upper_bound" = true) (k3 : PySem.W.keepIn K (.ref f3) = true)
    {od4 an4 : Option Addr} {sl4 : Array (Option Value)} {oc4 kV4 dc4 pm4 cd4 ct4 : Value}
    (a4 : PySem.W.nsIn K mainGlobals "stretch_between" = some (some (.ref f4))) (l4 : K.lookup f4 = some ⟨oc4, od4, .func (PySem.W.fnOf "stretch_between" "stretch_between" (defArgs s_stretch_between) (defBody s_stretch_between) (defScope s_stretch_between) .none kV4 dc4 pm4 an4 cd4 ct4), sl4⟩) (c4 : PySem.W.codeIn K cd4 "stretch_between" = true) (k4 : PySem.W.keepIn K (.ref f4) = true)
    {od5 an5 : Option Addr} {sl5 : Array (Option Value)} {oc5 kV5 dc5 pm5 cd5 ct5 : Value}
    (a5 : PySem.W.nsIn K mainGlobals "stretch_above" = some (some (.ref f5))) (l5 : K.lookup f5 = some ⟨oc5, od5, .func (PySem.W.fnOf "stretch_above" "stretch_above" (defArgs s_stretch_above) (defBody s_stretch_above) (defScope s_stretch_above) .none kV5 dc5 pm5 an5 cd5 ct5), sl5⟩) (c5 : PySem.W.codeIn K cd5 "stretch_above" = true) (k5 : PySem.W.keepIn K (.ref f5) = true)
    {od6 an6 : Option Addr} {sl6 : Array (Option Value)} {oc6 kV6 dc6 pm6 cd6 ct6 : Value}
    (a6 : PySem.W.nsIn K mainGlobals "stretch_below" = some (some (.ref f6))) (l6 : K.lookup f6 = some ⟨oc6, od6, .func (PySem.W.fnOf "stretch_below" "stretch_below" (defArgs s_stretch_below) (defBody s_stretch_below) (defScope s_stretch_below) .none kV6 dc6 pm6 an6 cd6 ct6), sl6⟩) (c6 : PySem.W.codeIn K cd6 "stretch_below" = true) (k6 : PySem.W.keepIn K (.ref f6) = true)
    {od7 an7 : Option Addr} {sl7 : Array (Option Value)} {oc7 kV7 dc7 pm7 cd7 ct7 : Value}
    (a7 : PySem.W.nsIn K mainGlobals "nearest" = some (some (.ref f7))) (l7 : K.lookup f7 = some ⟨oc7, od7, .func (PySem.W.fnOf "nearest" "nearest" (defArgs s_nearest) (defBody s_nearest) (defScope s_nearest) .none kV7 dc7 pm7 an7 cd7 ct7), sl7⟩) (c7 : PySem.W.codeIn K cd7 "nearest" = true) (k7 : PySem.W.keepIn K (.ref f7) = true)
    {od8 an8 : Option Addr} {sl8 : Array (Option Value)} {oc8 kV8 dc8 pm8 cd8 ct8 : Value}
    (a8 : PySem.W.nsIn K mainGlobals "stretch_some" = some (some (.ref f8))) (l8 : K.lookup f8 = some ⟨oc8, od8, .func (PySem.W.fnOf "stretch_some" "stretch_some" (defArgs s_stretch_some) (defBody s_stretch_some) (defScope s_stretch_some) .none kV8 dc8 pm8 an8 cd8 ct8), sl8⟩) (c8 : PySem.W.codeIn K cd8 "stretch_some" = true) (k8 : PySem.W.keepIn K (.ref f8) = true)
    {od9 an9 : Option Addr} {sl9 : Array (Option Value)} {oc9 kV9 dc9 pm9 cd9 ct9 : Value}
    (a9 : PySem.W.nsIn K mainGlobals "stretch_not" = some (some (.ref f9))) (l9 : K.lookup f9 = some ⟨oc9, od9, .func (PySem.W.fnOf "stretch_not" "stretch_not" (defArgs s_stretch_not) (defBody s_stretch_not) (defScope s_stretch_not) .none kV9 dc9 pm9 an9 cd9 ct9), sl9⟩) (c9 : PySem.W.codeIn K cd9 "stretch_not" = true) (k9 : PySem.W.keepIn K (.ref f9) = true)
    {od10 an10 : Option Addr} {sl10 : Array (Option Value)} {oc10 kV10 dc10 pm10 cd10 ct10 : Value}
    (a10 : PySem.W.nsIn K mainGlobals "_law_mixed" = some (some (.ref f10))) (l10 : K.lookup f10 = some ⟨oc10, od10, .func (PySem.W.fnOf "_law_mixed" "_law_mixed" (defArgs s_law_mixed) (defBody s_law_mixed) (defScope s_law_mixed) .none kV10 dc10 pm10 an10 cd10 ct10), sl10⟩) (c10 : PySem.W.codeIn K cd10 "_law_mixed" = true) (k10 : PySem.W.keepIn K (.ref f10) = true)
    {od11 an11 : Option Addr} {sl11 : Array (Option Value)} {oc11 kV11 dc11 pm11 cd11 ct11 : Value}
    (a11 : PySem.W.nsIn K mainGlobals "_law_numbers" = some (some (.ref f11))) (l11 : K.lookup f11 = some ⟨oc11, od11, .func (PySem.W.fnOf "_law_numbers" "_law_numbers" (defArgs s_law_numbers) (defBody s_law_numbers) (defScope s_law_numbers) .none kV11 dc11 pm11 an11 cd11 ct11), sl11⟩) (c11 : PySem.W.codeIn K cd11 "_law_numbers" = true) (k11 : PySem.W.keepIn K (.ref f11) = true)
    {od12 an12 : Option Addr} {sl12 : Array (Option Value)} {oc12 kV12 dc12 pm12 cd12 ct12 : Value}
    (a12 : PySem.W.nsIn K mainGlobals "_law_in" = some (some (.ref f12))) (l12 : K.lookup f12 = some ⟨oc12, od12, .func (PySem.W.fnOf "_law_in" "_law_in" (defArgs s_law_in) (defBody s_law_in) (defScope s_law_in) .none kV12 dc12 pm12 an12 cd12 ct12), sl12⟩) (c12 : PySem.W.codeIn K cd12 "_law_in" = true) (k12 : PySem.W.keepIn K (.ref f12) = true)
    {od13 an13 : Option Addr} {sl13 : Array (Option Value)} {oc13 kV13 dc13 pm13 cd13 ct13 : Value}
    (a13 : PySem.W.nsIn K mainGlobals "_law_above" = some (some (.ref f13))) (l13 : K.lookup f13 = some ⟨oc13, od13, .func (PySem.W.fnOf "_law_above" "_law_above" (defArgs s_law_above) (defBody s_law_above) (defScope s_law_above) .none kV13 dc13 pm13 an13 cd13 ct13), sl13⟩) (c13 : PySem.W.codeIn K cd13 "_law_above" = true) (k13 : PySem.W.keepIn K (.ref f13) = true)
    {od14 an14 : Option Addr} {sl14 : Array (Option Value)} {oc14 kV14 dc14 pm14 cd14 ct14 : Value}
    (a14 : PySem.W.nsIn K mainGlobals "_law_turned" = some (some (.ref f14))) (l14 : K.lookup f14 = some ⟨oc14, od14, .func (PySem.W.fnOf "_law_turned" "_law_turned" (defArgs s_law_turned) (defBody s_law_turned) (defScope s_law_turned) .none kV14 dc14 pm14 an14 cd14 ct14), sl14⟩) (c14 : PySem.W.codeIn K cd14 "_law_turned" = true) (k14 : PySem.W.keepIn K (.ref f14) = true)
    {od15 an15 : Option Addr} {sl15 : Array (Option Value)} {oc15 kV15 dc15 pm15 cd15 ct15 : Value}
    (a15 : PySem.W.nsIn K mainGlobals "_law_below" = some (some (.ref f15))) (l15 : K.lookup f15 = some ⟨oc15, od15, .func (PySem.W.fnOf "_law_below" "_law_below" (defArgs s_law_below) (defBody s_law_below) (defScope s_law_below) .none kV15 dc15 pm15 an15 cd15 ct15), sl15⟩) (c15 : PySem.W.codeIn K cd15 "_law_below" = true) (k15 : PySem.W.keepIn K (.ref f15) = true)
    {od16 an16 : Option Addr} {sl16 : Array (Option Value)} {oc16 kV16 dc16 pm16 cd16 ct16 : Value}
    (a16 : PySem.W.nsIn K mainGlobals "_law_nearer" = some (some (.ref f16))) (l16 : K.lookup f16 = some ⟨oc16, od16, .func (PySem.W.fnOf "_law_nearer" "_law_nearer" (defArgs s_law_nearer) (defBody s_law_nearer) (defScope s_law_nearer) .none kV16 dc16 pm16 an16 cd16 ct16), sl16⟩) (c16 : PySem.W.codeIn K cd16 "_law_nearer" = true) (k16 : PySem.W.keepIn K (.ref f16) = true)
    {od17 an17 : Option Addr} {sl17 : Array (Option Value)} {oc17 kV17 dc17 pm17 cd17 ct17 : Value}
    (a17 : PySem.W.nsIn K mainGlobals "_law_nearest" = some (some (.ref f17))) (l17 : K.lookup f17 = some ⟨oc17, od17, .func (PySem.W.fnOf "_law_nearest" "_law_nearest" (defArgs s_law_nearest) (defBody s_law_nearest) (defScope s_law_nearest) .none kV17 dc17 pm17 an17 cd17 ct17), sl17⟩) (c17 : PySem.W.codeIn K cd17 "_law_nearest" = true) (k17 : PySem.W.keepIn K (.ref f17) = true)
    {od18 an18 : Option Addr} {sl18 : Array (Option Value)} {oc18 kV18 dc18 pm18 cd18 ct18 : Value}
    (a18 : PySem.W.nsIn K mainGlobals "law" = some (some (.ref f18))) (l18 : K.lookup f18 = some ⟨oc18, od18, .func (PySem.W.fnOf "law" "law" (defArgs s_law) (defBody s_law) (defScope s_law) .none kV18 dc18 pm18 an18 cd18 ct18), sl18⟩) (c18 : PySem.W.codeIn K cd18 "law" = true) (k18 : PySem.W.keepIn K (.ref f18) = true)
    {cL : Addr} (eL : cd7 = .ref cL) (hL : PySem.W.codeHdIn K cL L2.TabP = true)
    (z1 : PySem.W.nsIn K mainGlobals "abs" = some none) (z2 : PySem.W.nsIn K mainGlobals "len" = some none) (z3 : PySem.W.nsIn K mainGlobals "max" = some none) (z4 : PySem.W.nsIn K mainGlobals "min" = some none) (z5 : PySem.W.nsIn K mainGlobals "any" = some none) (z6 : PySem.W.nsIn K mainGlobals "all" = some none) (z7 : PySem.W.nsIn K mainGlobals "range" = some none) (z8 : PySem.W.nsIn K mainGlobals "isinstance" = some none) (z9 : PySem.W.nsIn K mainGlobals "int" = some none) (z10 : PySem.W.nsIn K mainGlobals "bool" = some none) (z11 : PySem.W.nsIn K mainGlobals "str" = some none) (z12 : PySem.W.nsIn K mainGlobals "tuple" = some none) (z13 : PySem.W.nsIn K mainGlobals "list" = some none) (z14 : PySem.W.nsIn K mainGlobals "sorted" = some none) (z15 : PySem.W.nsIn K mainGlobals "dict" = some none) (z16 : PySem.W.nsIn K mainGlobals "set" = some none) :
    ∃ fd : FuncData, (∀ (s : Shared) (v : Value), BindsTo s fd ⟨[v], []⟩ [("_law_script", v)]) ∧ ∀ base : Heap, K.In base → base.Ns mainGlobals mg → FnOk l.prog w K mg base CX0 6 fa fd ["_law_script"] (spP K m_law) := by
  have e := hfa.symm.trans (PySem.W.mg_of X G a18)
  cases e
  have T : Blt K mg := ⟨PySem.W.mg_none_of X G z1, PySem.W.mg_none_of X G z2, PySem.W.mg_none_of X G z3, PySem.W.mg_none_of X G z4, PySem.W.mg_none_of X G z5, PySem.W.mg_none_of X G z6, PySem.W.mg_none_of X G z7, PySem.W.mg_none_of X G z8, PySem.W.mg_none_of X G z9, PySem.W.mg_none_of X G z10, PySem.W.mg_none_of X G z11, PySem.W.mg_none_of X G z12, PySem.W.mg_none_of X G z13, PySem.W.mg_none_of X G z14, PySem.W.mg_none_of X G z15, PySem.W.mg_none_of X G z16⟩
  have F1 := fun_mk (st := s_stretch_made) l1 c1 k1
  have b1 := F1.binds (ps := ["low", "high", "step", "rest"]) fun _ _ _ _ _ _ us hl => match us, hl with | [_, _, _, _], _ => rfl
  have F2 := fun_mk (st := s_lower_bound) l2 c2 k2
  have b2 := F2.binds (ps := ["one", "other"]) fun _ _ _ _ _ _ us hl => match us, hl with | [_, _], _ => rfl
  have F3 := fun_mk (st := s_upper_bound) l3 c3 k3
  have b3 := F3.binds (ps := ["one", "other"]) fun _ _ _ _ _ _ us hl => match us, hl with | [_, _], _ => rfl
  have F4 := fun_mk (st := s_stretch_between) l4 c4 k4
  have b4 := F4.binds (ps := ["one", "low", "high"]) fun _ _ _ _ _ _ us hl => match us, hl with | [_, _, _], _ => rfl
  have F5 := fun_mk (st := s_stretch_above) l5 c5 k5
  have b5 := F5.binds (ps := ["one", "c"]) fun _ _ _ _ _ _ us hl => match us, hl with | [_, _], _ => rfl
  have F6 := fun_mk (st := s_stretch_below) l6 c6 k6
  have b6 := F6.binds (ps := ["one", "c"]) fun _ _ _ _ _ _ us hl => match us, hl with | [_, _], _ => rfl
  have F7 := fun_mk (st := s_nearest) l7 c7 k7
  have b7 := F7.binds (ps := ["values"]) fun _ _ _ _ _ _ us hl => match us, hl with | [_], _ => rfl
  have F8 := fun_mk (st := s_stretch_some) l8 c8 k8
  have b8 := F8.binds (ps := ["one"]) fun _ _ _ _ _ _ us hl => match us, hl with | [_], _ => rfl
  have F9 := fun_mk (st := s_stretch_not) l9 c9 k9
  have b9 := F9.binds (ps := ["one", "v"]) fun _ _ _ _ _ _ us hl => match us, hl with | [_, _], _ => rfl
  have F10 := fun_mk (st := s_law_mixed) l10 c10 k10
  have b10 := F10.binds (ps := ["_law_cell", "_law_k"]) fun _ _ _ _ _ _ us hl => match us, hl with | [_, _], _ => rfl
  have F11 := fun_mk (st := s_law_numbers) l11 c11 k11
  have b11 := F11.binds (ps := ["_law_cell"]) fun _ _ _ _ _ _ us hl => match us, hl with | [_], _ => rfl
  have F12 := fun_mk (st := s_law_in) l12 c12 k12
  have b12 := F12.binds (ps := ["_law_numbers_here", "_law_value"]) fun _ _ _ _ _ _ us hl => match us, hl with | [_, _], _ => rfl
  have F13 := fun_mk (st := s_law_above) l13 c13 k13
  have b13 := F13.binds (ps := ["_law_one", "_law_value"]) fun _ _ _ _ _ _ us hl => match us, hl with | [_, _], _ => rfl
  have F14 := fun_mk (st := s_law_turned) l14 c14 k14
  have b14 := F14.binds (ps := ["_law_one"]) fun _ _ _ _ _ _ us hl => match us, hl with | [_], _ => rfl
  have F15 := fun_mk (st := s_law_below) l15 c15 k15
  have b15 := F15.binds (ps := ["_law_one", "_law_value"]) fun _ _ _ _ _ _ us hl => match us, hl with | [_, _], _ => rfl
  have F16 := fun_mk (st := s_law_nearer) l16 c16 k16
  have b16 := F16.binds (ps := ["_law_one", "_law_other"]) fun _ _ _ _ _ _ us hl => match us, hl with | [_, _], _ => rfl
  have F17 := fun_mk (st := s_law_nearest) l17 c17 k17
  have b17 := F17.binds (ps := ["_law_one", "_law_found", "_law_but"]) fun _ _ _ _ _ _ us hl => match us, hl with | [_, _, _], _ => rfl
  have F18 := fun_mk (st := s_law) l18 c18 k18
  have b18 := F18.binds (ps := ["_law_script"]) fun _ _ _ _ _ _ us hl => match us, hl with | [_], _ => rfl
  refine ⟨PySem.W.fnOf "law" "law" (defArgs s_law) (defBody s_law) (defScope s_law) .none kV18 dc18 pm18 an18 cd18 ct18, fun s v => .of_eq rfl, fun base _ _ => ?_⟩
  have G1 : DefOk l.prog w K mg base 1 "stretch_made" m_stretch_made := ok_stretch_made F1 b1 (PySem.W.mg_of X G a1) T
  have G2 : DefOk l.prog w K mg base 1 "lower_bound" m_lower_bound := ok_lower_bound F2 b2 (PySem.W.mg_of X G a2) T
  have G3 : DefOk l.prog w K mg base 1 "upper_bound" m_upper_bound := ok_upper_bound F3 b3 (PySem.W.mg_of X G a3) T
  have G10 : DefOk l.prog w K mg base 1 "_law_mixed" m_law_mixed := ok_law_mixed F10 b10 (PySem.W.mg_of X G a10) T
  have G12 : DefOk l.prog w K mg base 1 "_law_in" m_law_in := ok_law_in F12 b12 (PySem.W.mg_of X G a12) T
  have G13 : DefOk l.prog w K mg base 1 "_law_above" m_law_above := ok_law_above F13 b13 (PySem.W.mg_of X G a13) T
  have G14 : DefOk l.prog w K mg base 1 "_law_turned" m_law_turned := ok_law_turned F14 b14 (PySem.W.mg_of X G a14) T
  have G16 : DefOk l.prog w K mg base 1 "_law_nearer" m_law_nearer := ok_law_nearer F16 b16 (PySem.W.mg_of X G a16) T
  have G4 : DefOk l.prog w K mg base 2 "stretch_between" m_stretch_between := ok_stretch_between F4 b4 (PySem.W.mg_of X G a4) T G2 G1 G3
  have G11 : DefOk l.prog w K mg base 2 "_law_numbers" m_law_numbers := ok_law_numbers F11 b11 (PySem.W.mg_of X G a11) T G10
  have G15 : DefOk l.prog w K mg base 2 "_law_below" m_law_below := ok_law_below F15 b15 (PySem.W.mg_of X G a15) T G13 G14
  have G17 : DefOk l.prog w K mg base 2 "_law_nearest" m_law_nearest := ok_law_nearest F17 b17 (PySem.W.mg_of X G a17) T G12 G16
  have G5 : DefOk l.prog w K mg base 3 "stretch_above" m_stretch_above := ok_stretch_above F5 b5 (PySem.W.mg_of X G a5) T G4
  have G6 : DefOk l.prog w K mg base 3 "stretch_below" m_stretch_below := ok_stretch_below F6 b6 (PySem.W.mg_of X G a6) T G4
  have G7 : DefOk l.prog w K mg base 3 "nearest" m_nearest := ok_nearest F7 b7 (PySem.W.mg_of X G a7) T ⟨cL, eL, hL⟩
  have G8 : DefOk l.prog w K mg base 4 "stretch_some" m_stretch_some := ok_stretch_some F8 b8 (PySem.W.mg_of X G a8) T G7 G5 G6
  have G9 : DefOk l.prog w K mg base 5 "stretch_not" m_stretch_not := ok_stretch_not F9 b9 (PySem.W.mg_of X G a9) T G7 G5 G6 G8
  exact fn_law F18 T G13 G15 G10 G17 G11 G5 G6 G1 G9 G8
theorem walk {l : PySem.W.OpenLaw} {q : Program} {loose : List Str} {XP : (Str → Option Value) → Heap → Prop} {YP : World → Heap → Prop} {d : DefRec} {K : Params → PySem.W.Frag} (hn : l.most = some 63) (hdf : d.params.defaults = [])
    (hY : ∀ (w : World) (h : Heap), YP w h → (K w.params).In h)
    (hYT : ∀ (w : World) (h : Heap), YP w h → h.get? L2.TabP = some (PySem.W.tabObj #[])) (hKT : ∀ w : World, (K w.params).lookup L2.TabP = none) (hC : ∀ w : World, ∃ c, PySem.W.codeHdIn (K w.params) c L2.TabP = true)
    (F : ∀ (w : World) (mg : Str → Option Value) (fa : Addr) (h : Heap), (K w.params).In h → h.Ns mainGlobals mg → mg d.name = some (.ref fa) →
      ∃ fd : FuncData, (∀ (s : Shared) (u : Value), BindsTo s fd ⟨[u], []⟩ [("_law_script", u)]) ∧ ∀ base : Heap, (K w.params).In base → base.Ns mainGlobals mg → FnOk l.prog w (K w.params) mg base CX0 6 fa fd ["_law_script"] (spP (K w.params) m_law)) :
    PySem.W.WalkO q loose XP YP l.row.toRowW d [] (fun f vs => PySem.call f vs) :=
  L2.walk_of2 (n := 63) (k := 6) (x := "_law_script") (CX := fun _ => CX0) (sp := fun w => spP (K w.params) m_law) hn (by decide) hdf ⟨rfl, by decide, by decide⟩ hY hYT hKT hC F
    (fun w H a ns hl hS => ⟨H, [.lst (ns.map .int)], .bl true, Same.refl _, Reps.one (by unfold Rep; exact ⟨a, _, rfl, hS, reps_ints ns⟩), law_true ns hl, fun v Hi' H' S r => by unfold Rep at r; exact r⟩) fun _ _ _ _ _ z => z
end Fx
open PySem PySem.W PyProof.Rows
set_option maxRecDepth 100000 in
set_option maxHeartbeats 0 in
theorem PySem.Challenge.cw_latewell_k04_above_below_some_holds : PySem.Challenge.rw_latewell_k04_above_below_some.Holds := by
  w_on; o_law; k_head; (case hw => w_witness2)
  k_fill
  refine Fx.walk (l := PySem.Challenge.rw_latewell_k04_above_below_some) rfl rfl (fun w h Y => PySem.W.km_in_of Y) (fun w h Y => PySem.W.km_tabs_of Y _ (List.mem_singleton.mpr rfl)) (fun w => by kernel_rfl) (fun w => ⟨62, by kernel_rfl⟩) ?F
  case F =>
    intro w mg fa h KX G hmg
    refine' Fx.all_mk KX G hmg ?a1 ?l1 ?c1 ?k1 ?a2 ?l2 ?c2 ?k2 ?a3 ?l3 ?c3 ?k3 ?a4 ?l4 ?c4 ?k4 ?a5 ?l5 ?c5 ?k5 ?a6 ?l6 ?c6 ?k6 ?a7 ?l7 ?c7 ?k7 ?a8 ?l8 ?c8 ?k8 ?a9 ?l9 ?c9 ?k9 ?a10 ?l10 ?c10 ?k10 ?a11 ?l11 ?c11 ?k11 ?a12 ?l12 ?c12 ?k12 ?a13 ?l13 ?c13 ?k13 ?a14 ?l14 ?c14 ?k14 ?a15 ?l15 ?c15 ?k15 ?a16 ?l16 ?c16 ?k16 ?a17 ?l17 ?c17 ?k17 ?a18 ?l18 ?c18 ?k18 ?eL ?hL ?z1 ?z2 ?z3 ?z4 ?z5 ?z6 ?z7 ?z8 ?z9 ?z10 ?z11 ?z12 ?z13 ?z14 ?z15 ?z16
    (case a1 => k_is)
    (case l1 => k_is)
    (case c1 => k_is)
    (case k1 => k_is)
    (case a2 => k_is)
    (case l2 => k_is)
    (case c2 => k_is)
    (case k2 => k_is)
    (case a3 => k_is)
    (case l3 => k_is)
    (case c3 => k_is)
    (case k3 => k_is)
    (case a4 => k_is)
    (case l4 => k_is)
    (case c4 => k_is)
    (case k4 => k_is)
    (case a5 => k_is)
    (case l5 => k_is)
    (case c5 => k_is)
    (case k5 => k_is)
    (case a6 => k_is)
    (case l6 => k_is)
    (case c6 => k_is)
    (case k6 => k_is)
    (case a7 => k_is)
    (case l7 => k_is)
    (case c7 => k_is)
    (case k7 => k_is)
    (case a8 => k_is)
    (case l8 => k_is)
    (case c8 => k_is)
    (case k8 => k_is)
    (case a9 => k_is)
    (case l9 => k_is)
    (case c9 => k_is)
    (case k9 => k_is)
    (case a10 => k_is)
    (case l10 => k_is)
    (case c10 => k_is)
    (case k10 => k_is)
    (case a11 => k_is)
    (case l11 => k_is)
    (case c11 => k_is)
    (case k11 => k_is)
    (case a12 => k_is)
    (case l12 => k_is)
    (case c12 => k_is)
    (case k12 => k_is)
    (case a13 => k_is)
    (case l13 => k_is)
    (case c13 => k_is)
    (case k13 => k_is)
    (case a14 => k_is)
    (case l14 => k_is)
    (case c14 => k_is)
    (case k14 => k_is)
    (case a15 => k_is)
    (case l15 => k_is)
    (case c15 => k_is)
    (case k15 => k_is)
    (case a16 => k_is)
    (case l16 => k_is)
    (case c16 => k_is)
    (case k16 => k_is)
    (case a17 => k_is)
    (case l17 => k_is)
    (case c17 => k_is)
    (case k17 => k_is)
    (case a18 => k_is)
    (case l18 => k_is)
    (case c18 => k_is)
    (case k18 => k_is)
    (case eL => rfl)
    (case hL => kernel_rfl)
    (case z1 => k_is)
    (case z2 => k_is)
    (case z3 => k_is)
    (case z4 => k_is)
    (case z5 => k_is)
    (case z6 => k_is)
    (case z7 => k_is)
    (case z8 => k_is)
    (case z9 => k_is)
    (case z10 => k_is)
    (case z11 => k_is)
    (case z12 => k_is)
    (case z13 => k_is)
    (case z14 => k_is)
    (case z15 => k_is)
    (case z16 => k_is)
