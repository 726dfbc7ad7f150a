import PyProof.Rows.All
import Wide.All
import OpenK.AllK
import Wide.FinOn
import Lean
import PyProof.EqAt
import PyProof.EqKinds
import PyProof.TupleCall
import PySem.Sem
import PySem.Builtin.Int.W1All
import PyProof.StrBlockI
import PyProof.Rows.SortStr
import PyProof.TupleOfSeq
import PyProof.AttrMissHeap
import PyProof.TupleIter
import PyProof.DictUpdate
import PyProof.ListNew
import KE.KDictOf
import PyProof.SetKind
import PyProof.DictKinds
import PyProof.SeqWrite
import PyProof.CollectWalk
import PyProof.FactsAll.set_1
import PyProof.FactsAll.set_2
import PyProof.FactsAll.set_3
import PyProof.Rows.SetFrom
import PyProof.Walks
import PyProof.WalksS
import PyProof.FactsAll.tuple_iterator
import KE.KDictList
import PySem.Challenge.RW_latewell_k14_boxes_of_things
set_option Elab.async false
set_option linter.all false
set_option maxRecDepth 100000
namespace L2
open PySem PySem.Spec PyProof.Rows
noncomputable abbrev Key := Sum Int Str
noncomputable def keyIs : Key -> Value -> Bool
 | .inl k, v => Value.isInt k v
 | .inr x, v => Value.isStrOf x v
noncomputable def keyH (w : World) : Key -> Int
 | .inl k => hashInt k
 | .inr x => hashStr w x
theorem keyIs_shape : ∀ {k : Key} {v : Value}, keyIs k v = true -> (∃ i t, k = Sum.inl i /\ v = Value.int i t) \/ (∃ x t, k = Sum.inr x /\ v = Value.str x t)
 | .inl i, v, h => by
  obtain ⟨t, e⟩ := Value.isInt_shape (k := i) (v := v) h
  exact .inl ⟨i, t, rfl, e⟩
 | .inr x, v, h => by
  obtain ⟨t, e⟩ := Value.isStrOf_shape (x := x) (v := v) h
  exact .inr ⟨x, t, rfl, e⟩
theorem keyIs_int (i : Int) (t : Tok) : keyIs (.inl i) (.int i t) = true := by simp [keyIs, Value.isInt]
theorem keyIs_str (x : Str) (t : Tok) : keyIs (.inr x) (.str x t) = true := by simp [keyIs, Value.isStrOf]
theorem key_ll (a b : Int) : decide ((Sum.inl a : Key) = Sum.inl b) = (a == b) := by
 by_cases e : a = b
 ·subst e; simp
 ·have h : ¬ (Sum.inl a : Key) = Sum.inl b := fun q => e (Sum.inl.inj q)
  rw [decide_eq_false h]
  exact (beq_eq_false_iff_ne.mpr e).symm
theorem key_rr (a b : Str) : decide ((Sum.inr a : Key) = Sum.inr b) = decide (a = b) := by
 by_cases e : a = b
 ·subst e; simp
 ·have h : ¬ (Sum.inr a : Key) = Sum.inr b := fun q => e (Sum.inr.inj q)
  rw [decide_eq_false h, decide_eq_false e]
theorem key_lr (a : Int) (b : Str) : decide ((Sum.inl a : Key) = Sum.inr b) = false := decide_eq_false (fun q => nomatch q)
theorem key_rl (a : Str) (b : Int) : decide ((Sum.inr a : Key) = Sum.inl b) = false := decide_eq_false (fun q => nomatch q)
noncomputable def mixKind (prog : Program) (w : World) : PySem.KeyKind prog w Key where
 is := keyIs
 hash := keyH w
 inj := fun v a b ha hb => by
  rcases keyIs_shape ha with ⟨i, t, rfl, rfl⟩ | ⟨x, t, rfl, rfl⟩
  ·rcases keyIs_shape hb with ⟨j, u, rfl, e⟩ | ⟨y, u, rfl, e⟩
   ·injection e with e1 _; rw [e1]
   ·exact nomatch e
  ·rcases keyIs_shape hb with ⟨j, u, rfl, e⟩ | ⟨y, u, rfl, e⟩
   ·exact nomatch e
   ·injection e with e1 _; rw [e1]
 byValue := fun k v h => by
  rcases keyIs_shape h with ⟨i, t, rfl, rfl⟩ | ⟨x, t, rfl, rfl⟩ <;> rfl
 pyHash := fun hv h => by
  rcases keyIs_shape hv with ⟨i, t, rfl, rfl⟩ | ⟨x, t, rfl, rfl⟩
  ·exact wpAny_pyHash_int h
  ·exact wpAny_pyHash_str h
 eqBool := fun hu hv h => by
  rcases keyIs_shape hu with ⟨i, t, rfl, rfl⟩ | ⟨x, t, rfl, rfl⟩
  ·rcases keyIs_shape hv with ⟨j, u, rfl, rfl⟩ | ⟨y, u, rfl, rfl⟩
   ·rw [key_ll] at h; exact wpAny_eqBool_int h
   ·rw [key_lr] at h; exact SeqAt.EqAt.int_str i t y u _ _ _ _ h
  ·rcases keyIs_shape hv with ⟨j, u, rfl, rfl⟩ | ⟨y, u, rfl, rfl⟩
   ·rw [key_rl] at h; exact SeqAt.EqAt.str_int x t j u _ _ _ _ h
   ·rw [key_rr] at h; exact wpAny_eqBool_str h
 «strs» := fun k x t v h => by
  rcases keyIs_shape h with ⟨i, u, rfl, e⟩ | ⟨y, u, rfl, e⟩
  ·exact nomatch e
  ·injection e with e1 _
   subst e1
   cases v <;> rfl
theorem mixKind_int (prog : Program) (w : World) (i : Int) (t : Tok) : (mixKind prog w).is (.inl i) (.int i t) = true := keyIs_int i t
theorem mixKind_str (prog : Program) (w : World) (x : Str) (t : Tok) : (mixKind prog w).is (.inr x) (.str x t) = true := keyIs_str x t
end L2
namespace L2
open PySem PySem.Spec PyProof.Rows
inductive V where
 | non | bl (b : Bool) | int (i : Int) | str (x : Str) | byt (b : Array UInt8) | flt (b : UInt64) | ref (a : Addr) | ty (n : String)
 deriving DecidableEq
noncomputable def RelV : V -> Value -> Prop
 | .non, u => u = Value.none
 | .bl b, u => u = Value.bool b
 | .int i, u => ∃ t, u = Value.int i t
 | .str x, u => ∃ t, u = Value.str x t
 | .byt b, u => ∃ t, u = Value.bytes b t
 | .flt b, u => ∃ t, u = Value.float b t
 | .ref a, u => u = Value.ref a
 | .ty n, u => u = Value.type n
noncomputable abbrev Vals : List V -> List Value -> Prop := Paired RelV
theorem Vals.length {xs : List V} {us : List Value} (r : Vals xs us) : xs.length = us.length := Paired.length r
theorem Vals.get : ∀ {xs : List V} {us : List Value} {i : Nat} {x : V}, Vals xs us -> xs[i]? = some x -> ∃ u, us[i]? = some u /\ RelV x u
 | _, _, _, _, .nil, e => by simp at e
 | _, _, 0, _, .cons r _, e => by simp at e; subst e; exact ⟨_, rfl, r⟩
 | _, _, i + 1, x, .cons _ t, e => by
  obtain ⟨u, h1, h2⟩ := Vals.get (i := i) (x := x) t (by simpa using e)
  exact ⟨u, by simpa using h1, h2⟩
theorem Vals.set {x : V} {u : Value} (r : RelV x u) : ∀ {xs : List V} {us : List Value} (i : Nat), Vals xs us -> Vals (xs.set i x) (us.set i u)
 | _, _, _, .nil => .nil
 | _, _, 0, .cons _ t => .cons r t
 | _, _, i + 1, .cons q t => .cons q (Vals.set r i t)
theorem Vals.append : ∀ {xs ys : List V} {us ws : List Value}, Vals xs us -> Vals ys ws -> Vals (xs ++ ys) (us ++ ws)
 | _, _, _, _, .nil, s => s
 | _, _, _, _, .cons r t, s => .cons r (Vals.append t s)
theorem Vals.take : ∀ {xs : List V} {us : List Value} (n : Nat), Vals xs us -> Vals (xs.take n) (us.take n)
 | _, _, 0, _ => .nil
 | _, _, _ + 1, .nil => .nil
 | _, _, n + 1, .cons r t => .cons r (Vals.take n t)
theorem Vals.drop : ∀ {xs : List V} {us : List Value} (n : Nat), Vals xs us -> Vals (xs.drop n) (us.drop n)
 | _, _, 0, r => r
 | _, _, _ + 1, .nil => .nil
 | _, _, n + 1, .cons _ t => Vals.drop n t
noncomputable def RelO : Option V -> Option Value -> Prop
 | some v, some u => RelV v u
 | none, none => True
 | _, _ => False
noncomputable def KV {κ : Type} : List (κ × V) -> List (κ × Value) -> Prop := Paired fun (p : κ × V) (q : κ × Value) => p.1 = q.1 /\ RelV p.2 q.2
noncomputable def kV : Key -> V
 | .inl i => .int i
 | .inr x => .str x
inductive HO where
 | lst (xs : List V)
 | tup (xs : List V)
 | dK (kvs : List (Key × V)) | dT (kvs : List (List Key × V))
 | set (S : Int -> Bool) (n : Nat)
 | ins (C dx : Addr) (fs : List (Str × V))
 | own (x : Addr)
 | xd (fs : List (Str × V))
 | met (f x : Addr)
 | rng (lo hi : Int)
 | frz (o : Obj) (u : HO)
 | tbl (ps : Array Value)
 | ext (φ : Heap -> Prop)
noncomputable abbrev Hp := Addr -> Option HO
noncomputable def upd (H : Hp) (a : Addr) (o : HO) : Hp := fun b => if b = a then some o else H b
theorem upd_same {H : Hp} {a : Addr} {o : HO} : upd H a o a = some o := by unfold upd; rw [if_pos rfl]
theorem upd_ne {H : Hp} {a b : Addr} {o : HO} (h : b ≠ a) : upd H a o b = H b := by unfold upd; rw [if_neg h]
theorem ne_of {H : Hp} {a b : Addr} {o u : HO} (h : H a = some o) (h' : H b = some u) (d : o ≠ u) : a ≠ b := by
 intro e; subst e; rw [h] at h'; exact d (Option.some.inj h')
theorem ne_of_none {H : Hp} {a b : Addr} {o : HO} (h : H a = some o) (h' : H b = none) : a ≠ b := by
 intro e; subst e; rw [h] at h'; cases h'
noncomputable def IsTuN (h : Heap) (a : Addr) (items : Array Value) : Prop := ∃ o, h.get? a = some o ∧ o.cls = .type "tuple" ∧ (∃ n, o.data = .seq items n) ∧ o.dict = none
theorem IsTuN.tup {h : Heap} {a : Addr} {items : Array Value} (x : IsTuN h a items) : IsTup h a items := let ⟨o, p, q, ⟨n, r⟩, _⟩ := x; ⟨o, p, q, n, r⟩
theorem IsTuN.new (h : Heap) (items : Array Value) : IsTuN (h.push { cls := .type "tuple", data := .seq items }) h.objs.size items := ⟨_, Heap.get?_push_size _ rfl, rfl, ⟨0, rfl⟩, rfl⟩
section
variable (P : Program) (w : World)
noncomputable def ObjOk (H : Hp) (h : Heap) (a : Addr) : HO -> Prop
 | .lst xs => xs.length ≤ sizeLine ∧ ∃ (its : List Value) (n : Nat), Vals xs its ∧ h.get? a = some { cls := .type "list", data := .seq its.toArray n }
 | .tup xs => xs.length <= sizeLine /\ ∃ its : List Value, Vals xs its /\ IsTuN h a its.toArray
 | .dK kvs => kvs.length <= sizeLine /\ (a == sysModules) = false /\ ∃ vs, KV kvs vs /\ h.DictOf (mixKind P w) a vs
 | .dT kvs => kvs.length <= sizeLine /\ (a == sysModules) = false /\ ∃ xs : List (List Key × Addr × Value),
   Paired (fun (p : List Key × V) (q : List Key × Addr × Value) => p.1 = q.1 /\ H q.2.1 = some (.tup (p.1.map kV)) /\ RelV p.2 q.2.2) kvs xs /\
   ∃ o es ep, h.get? a = some o /\ o.ExactDict /\ o.data = .dict es ep /\ es.toList = xs.map (entryOfKey (tupleKind (mixKind P w))) /\ (xs.map (·.1)).Nodup
 | .set S n => h.SetOf (intKind P w) a S n
 | .ins C dx fs => H dx = some (.own a) /\ fs.length <= 1000 /\ dx ≠ a /\ h.get? a = some (PySem.W.instObj C dx) /\
   ∃ mA, h.Ns1 dx mA /\ (∀ f, RelO (fs.lookup f) (mA f)) /\ PySem.Within mA (fs.map (·.1))
 | .own _ => ∃ o, h.get? a = some o
 | .xd fs => ∃ mA, h.Ns1 a mA /\ ∀ f, RelO (fs.lookup f) (mA f)
 | .rng lo hi => ∃ t u v, h.get? a = some { cls := .type "range", data := .fields #[.int lo t, .int hi u, .int 1 v] }
 | .frz o u => h.get? a = some o /\ ObjOk H h a u
 | .tbl ps => h.get? a = some { cls := .none, data := .fields ps }
 | .met f x => h.get? a = some (PySem.W.methodObj (.ref f) (.ref x))
 | .ext φ => φ h /\ (∃ o, h.get? a = some o) /\ ∀ h1 h2 : Heap, φ h1 -> (∀ o, h1.get? a = some o -> h2.get? a = some o) -> φ h2
noncomputable def HOk (H : Hp) (h : Heap) : Prop := ∀ a o, H a = some o -> ObjOk P w H h a o
end
section
variable {P : Program} {w : World} {H H' : Hp} {h h' : Heap} {a : Addr} {o : HO}
theorem ObjOk.lt (x : ObjOk P w H h a o) : a < h.objs.size := by
 cases o with
 | lst xs => obtain ⟨_, _, _, _, e⟩ := x; exact Heap.lt_size e
 | tup xs => obtain ⟨_, _, _, p⟩ := x; exact p.tup.lt
 | dK kvs => obtain ⟨_, _, _, _, o, _, _, e, _⟩ := x; exact Heap.lt_size e
 | dT kvs => obtain ⟨_, _, _, _, o, _, _, e, _⟩ := x; exact Heap.lt_size e
 | set S n => obtain ⟨o, _, _, _, e, _⟩ := x; exact Heap.lt_size e
 | ins C dx fs => obtain ⟨_, _, _, e, _⟩ := x; exact Heap.lt_size e
 | own y => obtain ⟨_, e⟩ := x; exact Heap.lt_size e
 | xd fs => obtain ⟨_, ⟨_, _, _, e, _⟩, _⟩ := x; exact Heap.lt_size e
 | rng lo hi => obtain ⟨_, _, _, e⟩ := x; exact Heap.lt_size e
 | frz ob u => obtain ⟨e, _⟩ := x; exact Heap.lt_size e
 | tbl ps => exact Heap.lt_size (show h.get? a = some _ from x)
 | met f y => exact Heap.lt_size (show h.get? a = some _ from x)
 | ext φ => obtain ⟨_, ⟨_, e⟩, _⟩ := x; exact Heap.lt_size e
theorem Paired.mapP {α β : Type} {F G : α -> β -> Prop} : ∀ {l₁ : List α} {l₂ : List β}, Paired F l₁ l₂ -> (∀ a b, F a b -> G a b) -> Paired G l₁ l₂
 | _, _, .nil, _ => .nil
 | _, _, .cons r t, f => .cons (f _ _ r) (Paired.mapP t f)
theorem ObjOk.stay (x : ObjOk P w H h a o) (k : ∀ b u, (b = a \/ H b = some (.own a)) -> h.get? b = some u -> h'.get? b = some u)
  (ho : ∀ b, H b = some (.own a) -> H' b = some (.own a)) (ht : ∀ b xs, H b = some (.tup xs) -> H' b = some (.tup xs)) : ObjOk P w H' h' a o := by
 induction o with
 | lst xs => obtain ⟨z, its, n, r, e⟩ := x; exact ⟨z, its, n, r, k _ _ (.inl rfl) e⟩
 | tup xs => obtain ⟨z, its, r, ob, e, c⟩ := x; exact ⟨z, its, r, ob, k _ _ (.inl rfl) e, c⟩
 | dK kvs => obtain ⟨z, y, vs, r, ob, es, ep, e, c⟩ := x; exact ⟨z, y, vs, r, ob, es, ep, k _ _ (.inl rfl) e, c⟩
 | dT kvs =>
  obtain ⟨z, y, xs, r, ob, es, ep, e, c⟩ := x
  exact ⟨z, y, xs, Paired.mapP r fun p q z => ⟨z.1, ht _ _ z.2.1, z.2.2⟩, ob, es, ep, k _ _ (.inl rfl) e, c⟩
 | set S n => obtain ⟨ob, es, ep, t, e, c⟩ := x; exact ⟨ob, es, ep, t, k _ _ (.inl rfl) e, c⟩
 | ins C dx fs =>
  obtain ⟨d, z, ne, e, mA, ⟨od, es, ep, e2, c⟩, r⟩ := x
  exact ⟨ho _ d, z, ne, k _ _ (.inl rfl) e, mA, ⟨od, es, ep, k _ _ (.inr d) e2, c⟩, r⟩
 | own y => obtain ⟨ob, e⟩ := x; exact ⟨ob, k _ _ (.inl rfl) e⟩
 | xd fs => obtain ⟨mA, ⟨od, es, ep, e, c⟩, r⟩ := x; exact ⟨mA, ⟨od, es, ep, k _ _ (.inl rfl) e, c⟩, r⟩
 | rng lo hi => obtain ⟨t, u, v, e⟩ := x; exact ⟨t, u, v, k _ _ (.inl rfl) e⟩
 | frz ob u ih => obtain ⟨e, q⟩ := x; exact ⟨k _ _ (.inl rfl) e, ih q⟩
 | tbl ps =>
  have e : h.get? a = some { cls := .none, data := .fields ps } := x
  show h'.get? a = some { cls := .none, data := .fields ps }
  exact k a _ (.inl rfl) e
 | met f y =>
  have e : h.get? a = some (PySem.W.methodObj (.ref f) (.ref y)) := x
  show h'.get? a = some (PySem.W.methodObj (.ref f) (.ref y))
  exact k a _ (.inl rfl) e
 | ext φ => obtain ⟨p, ⟨o, e⟩, st⟩ := x; exact ⟨st _ _ p fun o q => k _ _ (.inl rfl) q, ⟨o, k _ _ (.inl rfl) e⟩, st⟩
theorem HOk.lt (x : HOk P w H h) (e : H a = some o) : a < h.objs.size := (x a o e).lt
theorem HOk.fresh (x : HOk P w H h) (e : h.objs.size <= a) : H a = none := by
 cases q : H a with
 | none => rfl
 | some u => exact absurd (Nat.lt_of_lt_of_le (x.lt q) e) (Nat.lt_irrefl _)
theorem HOk.kept (x : HOk P w H h) (k : ∀ b u, h.get? b = some u -> h'.get? b = some u) : HOk P w H h' := fun a o e =>
 (x a o e).stay (fun b u _ q => k b u q) (fun _ q => q) fun _ _ q => q
theorem HOk.laid (x : HOk P w H h) (k : ∀ b u, h.get? b = some u -> h'.get? b = some u) (hp : h.objs.size <= a) (new : ObjOk P w (upd H a o) h' a o) : HOk P w (upd H a o) h' := fun b u e => by
 have hn := x.fresh hp
 by_cases hb : b = a
 ·subst hb; rw [upd_same] at e; cases e; exact new
 ·rw [upd_ne hb] at e
  exact (x b u e).stay (fun c v _ q => k c v q) (fun c q => by rw [upd_ne (ne_of_none q hn)]; exact q) fun c xs q => by rw [upd_ne (ne_of_none q hn)]; exact q
end
noncomputable def Rd (H : Hp) (a : Addr) (u : HO) : Prop := H a = some u \/ ∃ o, H a = some (.frz o u)
theorem Rd.ok {P : Program} {w : World} {H : Hp} {h : Heap} {a : Addr} {u : HO} (r : Rd H a u) (x : HOk P w H h) : ObjOk P w H h a u := by
 rcases r with r | ⟨o, r⟩
 ·exact x a u r
 ·obtain ⟨_, q⟩ := x a _ r
  exact q
noncomputable def Mut : Option HO -> Prop
 | some (.lst _) => True
 | some (.dK _) => True
 | some (.dT _) => True
 | some (.set _ _) => True
 | some (.ins _ _ _) => True
 | some (.ext _) => True
 | _ => False
section
variable {P : Program} {w : World} {H : Hp} {h h' : Heap} {x e : Addr} {o' : HO}
theorem HOk.write (ok : HOk P w H h) (mu : Mut (H x)) (he : e = x \/ H e = some (.own x)) (k : ∀ b u, b ≠ e -> h.get? b = some u -> h'.get? b = some u) (heo : ∃ u, h'.get? e = some u)
  (new : ObjOk P w (upd H x o') h' x o') : HOk P w (upd H x o') h' := fun b u q => by
 have nown : ∀ c y, H c = some (.own y) -> c ≠ x := fun c y r z => by subst z; rw [r] at mu; exact mu
 have ntup : ∀ c xs, H c = some (.tup xs) -> c ≠ x := fun c xs r z => by subst z; rw [r] at mu; exact mu
 by_cases hb : b = x
 ·subst hb; rw [upd_same] at q; cases q; exact new
 ·rw [upd_ne hb] at q
  by_cases hbe : b = e
  ·have q' : H b = some (.own x) := by
    rcases he with z | z
    ·exact absurd (hbe.trans z) hb
    ·rw [hbe]; exact z
   rw [q] at q'; cases q'
   obtain ⟨v, hv⟩ := heo
   exact ⟨v, by rw [hbe]; exact hv⟩
  ·refine (ok b u q).stay (fun c v hc r => k c v ?_ r) (fun c r => by rw [upd_ne (nown c b r)]; exact r) fun c xs r => by rw [upd_ne (ntup c xs r)]; exact r
   rcases hc with rfl | hc
   ·exact hbe
   ·rintro rfl
    rcases he with z | z
    ·exact nown c b hc z
    ·rw [hc] at z; cases z; exact hb rfl
end
structure Un (fs ex : List Addr) (H H' : Hp) (h h' : Heap) : Prop where
 keep : ∀ b o, h.get? b = some o -> H b = none -> b ∉ fs -> b ∉ ex -> h'.get? b = some o
 slot : ∀ b o, h.get? b = some o -> H b = none -> b ∈ fs -> b ∉ ex -> ∃ sl, h'.get? b = some { o with slots := sl }
 free : ∀ b o, h.get? b = some o -> H b = none -> b ∉ ex -> H' b = none
 there : ∀ b o, h.get? b = some o -> b ∉ ex -> ∃ o', h'.get? b = some o'
 tups : ∀ b xs, H b = some (.tup xs) -> H' b = some (.tup xs)
 frzs : ∀ b o u, H b = some (.frz o u) -> H' b = some (.frz o u)
 tbls : ∀ b ps, H b = some (.tbl ps) -> ∃ more, H' b = some (.tbl (ps ++ more))
section
variable {fs fs' ex ex' : List Addr} {H H1 H2 : Hp} {h h1 h2 h' : Heap} {a x e : Addr} {o : HO}
theorem Un.any (u : Un fs ex H H1 h h1) {b : Addr} {ob : Obj} (q : h.get? b = some ob) (n : H b = none) (hx : b ∉ ex) : ∃ sl, h1.get? b = some { ob with slots := sl } := by
 by_cases hb : b ∈ fs
 ·exact u.slot b ob q n hb hx
 ·exact ⟨ob.slots, u.keep b ob q n hb hx⟩
theorem Un.trans (a : Un fs ex H H1 h h1) (b : Un fs ex H1 H2 h1 h2) : Un fs ex H H2 h h2 where
 keep := fun c ob q n hc hx => b.keep c ob (a.keep c ob q n hc hx) (a.free c ob q n hx) hc hx
 slot := fun c ob q n hc hx => by
  obtain ⟨sl, e1⟩ := a.slot c ob q n hc hx
  obtain ⟨sl', e2⟩ := b.slot c _ e1 (a.free c ob q n hx) hc hx
  exact ⟨sl', e2⟩
 free := fun c ob q n hx => by
  obtain ⟨o', e1⟩ := a.there c ob q hx
  exact b.free c o' e1 (a.free c ob q n hx) hx
 there := fun c ob q hx => by
  obtain ⟨o', e1⟩ := a.there c ob q hx
  exact b.there c o' e1 hx
 tups := fun c xs q => b.tups c xs (a.tups c xs q)
 frzs := fun c ob xs q => b.frzs c ob xs (a.frzs c ob xs q)
 tbls := fun c ps q => by
  obtain ⟨m1, e1⟩ := a.tbls c ps q
  obtain ⟨m2, e2⟩ := b.tbls c _ e1
  exact ⟨m1 ++ m2, by rw [e2, Array.append_assoc]⟩
theorem Un.kept (k : ∀ b u, h.get? b = some u -> h'.get? b = some u) : Un fs ex H H h h' :=
 ⟨fun b ob q _ _ _ => k b ob q, fun b ob q _ _ _ => ⟨ob.slots, k b ob q⟩, fun _ _ _ n _ => n, fun b ob q _ => ⟨ob, k b ob q⟩, fun _ _ q => q, fun _ _ _ q => q, fun _ ps q => ⟨#[], by rw [q]; simp⟩⟩
theorem Un.refl : Un fs ex H H h h := Un.kept fun _ _ q => q
theorem Un.laid (k : ∀ b u, h.get? b = some u -> h'.get? b = some u) (hp : h.objs.size <= a) (hn : H a = none) : Un fs ex H (upd H a o) h h' where
 keep := fun b u q _ _ _ => k b u q
 slot := fun b u q _ _ _ => ⟨u.slots, k b u q⟩
 free := fun b u q n _ => by rw [upd_ne (Nat.ne_of_lt (Nat.lt_of_lt_of_le (Heap.lt_size q) hp))]; exact n
 there := fun b u q _ => ⟨u, k b u q⟩
 tups := fun b xs q => by rw [upd_ne (ne_of_none q hn)]; exact q
 frzs := fun b u xs q => by rw [upd_ne (ne_of_none q hn)]; exact q
 tbls := fun b ps q => ⟨#[], by rw [upd_ne (ne_of_none q hn), q]; simp⟩
theorem Un.write (mu : Mut (H x)) (he : e = x \/ H e = some (.own x)) (k : ∀ b u, b ≠ e -> h.get? b = some u -> h'.get? b = some u) (heo : ∃ u, h'.get? e = some u) : Un fs ex H (upd H x o) h h' := by
 have hx : ∀ b, H b = none -> b ≠ x := fun b n z => by subst z; rw [n] at mu; exact mu
 have hb : ∀ b, H b = none -> b ≠ e := fun b n z => by
  subst z
  rcases he with r | r
  ·exact hx b n r
  ·rw [n] at r; cases r
 have hm : ∀ b u, H b = some u -> ¬ Mut (some u) -> b ≠ x := fun b u q nm z => by subst z; rw [q] at mu; exact nm mu
 refine ⟨fun b u q n _ _ => k b u (hb b n) q, fun b u q n _ _ => ⟨u.slots, k b u (hb b n) q⟩, fun b u q n _ => by rw [upd_ne (hx b n)]; exact n, fun b u q _ => ?_,
  fun b xs q => by rw [upd_ne (hm b _ q fun z => z)]; exact q, fun b u xs q => by rw [upd_ne (hm b _ q fun z => z)]; exact q, fun b ps q => ⟨#[], by rw [upd_ne (hm b _ q fun z => z), q]; simp⟩⟩
 by_cases hbe : b = e
 ·subst hbe; exact heo
 ·exact ⟨u, k b u hbe q⟩
end
noncomputable def trk (h : Heap) (H : Hp) : List Addr := (List.range h.objs.size).filter fun a => (H a).isSome
noncomputable def hidT (h : Heap) (H : Hp) : Heap := PySem.W.hideAll h (trk h H)
theorem hidT_size (h : Heap) (H : Hp) : (hidT h H).objs.size = h.objs.size := PySem.W.hideAll_size _ _
theorem hidT_get {h : Heap} {H : Hp} {b : Addr} {o : Obj} (e : h.get? b = some o) (n : H b = none) : (hidT h H).get? b = some o :=
 PySem.W.hideAll_get _ e fun hm => by
  have q : (H b).isSome = true := (List.mem_filter.mp hm).2
  rw [n] at q; simp at q
theorem of_hidT {h : Heap} {H : Hp} {b : Addr} {o : Obj} (e : (hidT h H).get? b = some o) : h.get? b = some o /\ H b = none := by
 have e' : h.get? b = some o := PySem.W.of_hideAll (trk h H) e
 refine ⟨e', ?_⟩
 cases q : H b with
 | none => rfl
 | some x =>
  have hm : b ∈ trk h H := List.mem_filter.mpr ⟨List.mem_range.mpr (Heap.lt_size e'), by simp [q]⟩
  have z : (hidT h H).get? b = none := PySem.W.hideAll_none (trk h H) hm
  rw [z] at e; cases e
noncomputable def allNews (g h : Heap) (L : Addr) : List (Addr × Obj) := (List.range h.objs.size).filterMap fun a => if a = L \/ (g.get? a).isSome = true then none else (h.get? a).map fun o => (a, o)
noncomputable def rest (g h : Heap) (L d : Addr) : List (Addr × Obj) := (allNews g h L).filter fun p => decide (p.1 ≠ d)
end L2
namespace L2
open PySem PySem.Spec PyProof.Rows
structure Mod (K : PySem.W.Frag) (mg : Str -> Option Value) (base : Heap) : Prop where
 kin : K.In base
 glob : base.Ns mainGlobals mg
 blt : ∃ mb, base.Ns builtinsNs mb ∧ ∀ x : Str, x ≠ "__name__" → mb x = bootBuiltins x
 nolimit : base.NoLimit
structure Cx where
 prog : Program
 w : World
 K : PySem.W.Frag
 mg : Str -> Option Value
 base : Heap
 A : Around
 N : List Str
 s₀ : Shared
 H₀ : Hp
 env : Env
 outer : List Env
 stack : List Env
 ex : List Addr
 fn : Str -> Bool
 calm : Bool
 pn : List (Addr × Obj)
 xe : Value -> Shared -> Prop
noncomputable def frs (l : List Env) : List Addr := l.filterMap (·.frame)
noncomputable abbrev Cx.fs (X : Cx) : List Addr := frs X.outer
noncomputable def Vis (sc : Scope) (x : Str) : Prop := sc.names.lookup x = some .local \/ sc.names.lookup x = some .cell \/ sc.names.lookup x = some .free
noncomputable def Loc (sc : Scope) (x : Str) : Prop := sc.names.lookup x = some .local \/ sc.names.lookup x = some .cell
noncomputable def Look (env : Env) (h : Heap) (m : Str -> Option Value) (x : Str) (u : Value) : Prop :=
 (env.kindOf x = some .local /\ m x = some u) \/ ((env.kindOf x = some .cell \/ env.kindOf x = some .free) /\ ∃ c, env.cells.lookup x = some c /\ h.IsCell c (some u))
structure Cx.Ok (X : Cx) : Prop where
 mod : Mod X.K X.mg X.base
 kind : X.env.scope.kind = .function
 glob : X.env.globals = mainGlobals
 blt : X.env.builtins = builtinsNs
 above : X.s₀.heap.objs.size <= X.env.locals
 inj : ∀ x y c, X.env.cells.lookup x = some c -> X.env.cells.lookup y = some c -> x = y
 has : ∀ x, (X.env.kindOf x = some .cell \/ X.env.kindOf x = some .free) -> ∃ c, X.env.cells.lookup x = some c
 cab : ∀ x c, X.fn x = true -> X.env.cells.lookup x = some c -> X.s₀.heap.objs.size <= c
 hd : X.calm = true -> X.A.handled = none
 frames : X.A.frames = some X.stack
 stk : X.stack = X.outer \/ (X.stack = X.env :: X.outer /\ X.env.frame = some X.env.locals)
 exf : ∀ b ∈ X.ex, b ≠ X.env.locals /\ ∀ x c, X.env.cells.lookup x = some c -> c ≠ b
 bs : ∀ b o, X.base.get? b = some o -> X.s₀.heap.get? b = some o /\ X.H₀ b = none
 bsz : X.base.objs.size <= X.s₀.heap.objs.size
 noex : ∀ b o, X.base.get? b = some o -> b ∉ X.ex
 exfs : ∀ b ∈ X.ex, b ∉ X.fs
 funs : X.s₀.heap.FunFrames X.base X.outer
 frf : ∀ b ∈ X.fs, X.H₀ b = none
structure Inv (X : Cx) (pins : List (Addr × Obj)) (σ : List (Option V)) (H : Hp) (s : Shared) : Prop where
 ok : X.Ok
 os : s.os = X.s₀.os
 bare : AllBare s.gens
 base : Un X.fs X.ex X.H₀ H X.s₀.heap s.heap
 loc : ∃ m, s.heap.Ns X.env.locals m /\ ∀ (i : Nat) (x : Str) (v : V), X.N[i]? = some x -> σ[i]? = some (some v) -> Vis X.env.scope x -> ∃ u, RelV v u /\ Look X.env s.heap m x u
 cell : ∀ x c, X.env.cells.lookup x = some c -> ∃ v, s.heap.IsCell c v
 free : H X.env.locals = none
 freeC : ∀ x c, X.env.cells.lookup x = some c -> H c = none
 pin : ∀ p ∈ X.pn ++ pins, s.heap.get? p.1 = some p.2 /\ H p.1 = none /\ p.1 ≠ X.env.locals /\ p.1 ∉ X.fs /\ ∀ v, p.2.data ≠ .cell v
 hok : HOk X.prog X.w H s.heap
 len : σ.length = X.N.length
section
variable {X : Cx} {pins : List (Addr × Obj)} {σ : List (Option V)} {H H' : Hp} {s : Shared} {h' : Heap}
theorem Cx.Ok.nofr (ok : X.Ok) {b : Addr} {o : Obj} (e : X.base.get? b = some o) : b ∉ X.fs := fun hb => by
 have := (ok.funs.mem hb).1
 rw [e] at this; cases this
theorem Inv.bs (I : Inv X pins σ H s) : ∀ b o, X.base.get? b = some o -> s.heap.get? b = some o /\ H b = none := fun b o e =>
 ⟨I.base.keep b o (I.ok.bs b o e).1 (I.ok.bs b o e).2 (I.ok.nofr e) (I.ok.noex b o e), I.base.free b o (I.ok.bs b o e).1 (I.ok.bs b o e).2 (I.ok.noex b o e)⟩
theorem Inv.bk (I : Inv X pins σ H s) : ∀ b o, X.base.get? b = some o -> s.heap.get? b = some o := fun b o e => (I.bs b o e).1
theorem Inv.mod (I : Inv X pins σ H s) : Mod X.K X.mg X.base := I.ok.mod
theorem Inv.kIn (I : Inv X pins σ H s) : X.K.In s.heap := I.ok.mod.kin.keeps I.bk
theorem Inv.fr (I : Inv X pins σ H s) : ∃ m, Fr X.base X.env.locals s.heap m :=
 let ⟨m, hn, _⟩ := I.loc
 ⟨m, hn, I.bk, Nat.le_trans I.ok.bsz I.ok.above⟩
theorem Inv.lt (I : Inv X pins σ H s) : X.env.locals < s.heap.objs.size := let ⟨_, hn, _⟩ := I.loc; hn.lt
theorem Inv.sz (I : Inv X pins σ H s) : X.s₀.heap.objs.size <= s.heap.objs.size := Nat.le_trans I.ok.above (Nat.le_of_lt I.lt)
theorem Inv.nofs (I : Inv X pins σ H s) {a : Addr} (h : s.heap.objs.size <= a) : a ∉ X.fs := fun hb => by
 obtain ⟨_, o, ho, _⟩ := I.ok.funs.mem hb
 exact absurd (Nat.lt_of_lt_of_le (Heap.lt_size ho) (Nat.le_trans I.sz h)) (Nat.lt_irrefl _)
theorem Inv.cne (I : Inv X pins σ H s) : ∀ x c, X.env.cells.lookup x = some c -> c ≠ X.env.locals := fun x c e z => by
 obtain ⟨v, o, ho, hd⟩ := I.cell x c e
 obtain ⟨m, ⟨o', es, ep, ho', hd', _⟩, _⟩ := I.loc
 rw [z, ho'] at ho; cases ho; rw [hd'] at hd; cases hd
theorem Inv.funs (I : Inv X pins σ H s) : s.heap.FunFrames X.base X.outer := by
 have all : ∀ (l : List Env), (∀ b ∈ frs l, b ∈ X.fs) -> X.s₀.heap.FunFrames X.base l -> s.heap.FunFrames X.base l := by
  intro l
  induction l with
  | nil => intro _ _; trivial
  | cons env r ih =>
   intro hs hl
   obtain ⟨hk, ⟨L, o, hf, hn, ho, hd⟩, hr⟩ := hl
   have hL : L ∈ X.fs := hs L (by unfold frs; rw [List.filterMap_cons, hf]; exact List.mem_cons_self)
   obtain ⟨sl, e⟩ := I.base.slot L o ho (I.ok.frf L hL) hL fun z => I.ok.exfs L z hL
   exact ⟨hk, ⟨L, _, hf, hn, e, hd⟩, ih (fun b hb => hs b (by unfold frs; rw [List.filterMap_cons, hf]; exact List.mem_cons_of_mem _ hb)) hr⟩
 exact all X.outer (fun _ hb => hb) I.ok.funs
theorem Inv.stack (I : Inv X pins σ H s) : s.heap.FunFrames X.base X.stack := by
 rcases I.ok.stk with e | ⟨e, hf⟩
 ·rw [e]; exact I.funs
 ·rw [e]
  obtain ⟨m, hn, _⟩ := I.loc
  refine .cons (by rw [I.ok.kind]; decide) hf hn ?_ I.funs
  exact Heap.get?_none_of_le (Nat.le_trans I.ok.bsz I.ok.above)
theorem Inv.stkSub (I : Inv X pins σ H s) : ∀ b ∈ frs X.stack, b ∈ X.env.locals :: X.fs := fun b hb => by
 rcases I.ok.stk with e | ⟨e, hf⟩
 ·rw [e] at hb; exact List.mem_cons_of_mem _ hb
 ·rw [e] at hb
  unfold frs at hb
  rw [List.filterMap_cons, hf] at hb
  exact hb
theorem Inv.stkFree (I : Inv X pins σ H s) : ∀ b ∈ frs X.stack, H b = none := fun b hb => by
 rcases List.mem_cons.mp (I.stkSub b hb) with e | hb
 ·rw [e]; exact I.free
 ·obtain ⟨_, o, ho, _⟩ := I.ok.funs.mem hb
  exact I.base.free b o ho (I.ok.frf b hb) fun z => I.ok.exfs b z hb
theorem Inv.step {g' : Array GenState} {t' : Nat} {d' : Drawn} {ch : List Addr} (I : Inv X pins σ H s)
  (hch : ∀ b ∈ ch, (b ∈ X.ex \/ X.s₀.heap.objs.size <= b) /\ b ≠ X.env.locals /\ (∀ x c, X.env.cells.lookup x = some c -> c ≠ b) /\ ∀ p ∈ X.pn ++ pins, p.1 ≠ b)
  (keep : ∀ b o, b ≠ X.env.locals -> b ∉ X.fs -> b ∉ ch -> s.heap.get? b = some o -> H b = none -> h'.get? b = some o)
  (slot : ∀ b o, b ≠ X.env.locals -> b ∈ X.fs -> b ∉ ch -> s.heap.get? b = some o -> H b = none -> ∃ sl, h'.get? b = some { o with slots := sl }) (free : ∀ b o, b ∉ ch -> s.heap.get? b = some o -> H b = none -> H' b = none)
  (there : ∀ b o, b ∉ ch -> s.heap.get? b = some o -> ∃ o', h'.get? b = some o')
  (tups : ∀ b xs, H b = some (.tup xs) -> H' b = some (.tup xs)) (frzs : ∀ b o u, H b = some (.frz o u) -> H' b = some (.frz o u)) (tbls : ∀ b ps, H b = some (.tbl ps) -> ∃ more, H' b = some (.tbl (ps ++ more)))
  (ns : ∀ m, s.heap.Ns X.env.locals m -> h'.Ns X.env.locals m) (hok : HOk X.prog X.w H' h') (hg : AllBare g') :
  Inv X pins σ H' { s with heap := h', gens := g', drawn := d', toks := t' } := by
 have neL : ∀ b o, X.s₀.heap.get? b = some o -> b ≠ X.env.locals := fun b o e => Nat.ne_of_lt (Nat.lt_of_lt_of_le (Heap.lt_size e) I.ok.above)
 have neC : ∀ b o, X.s₀.heap.get? b = some o -> b ∉ X.ex -> b ∉ ch := fun b o e hx hb => by
  rcases (hch b hb).1 with z | z
  ·exact hx z
  ·exact absurd (Nat.lt_of_lt_of_le (Heap.lt_size e) z) (Nat.lt_irrefl _)
 have cellK : ∀ x c, X.env.cells.lookup x = some c -> ∀ v, s.heap.IsCell c v -> h'.IsCell c v := fun x c e v hh0_ => by
  obtain ⟨o, ho, hd⟩ := hh0_
  have nch : c ∉ ch := fun z => (hch c z).2.2.1 x c e rfl
  by_cases hc : c ∈ X.fs
  ·obtain ⟨sl, q⟩ := slot c o (I.cne x c e) hc nch ho (I.freeC x c e)
   exact ⟨_, q, hd⟩
  ·exact ⟨o, keep c o (I.cne x c e) hc nch ho (I.freeC x c e), hd⟩
 refine ⟨I.ok, I.os, hg, ⟨fun b o e n hb hx => ?_, fun b o e n hb hx => ?_, fun b o e n hx => ?_, fun b o e hx => ?_, fun b xs e => tups b xs (I.base.tups b xs e), fun b o xs e => frzs b o xs (I.base.frzs b o xs e), fun b ps e => ?_⟩, ?_, fun x c e => ?_, ?_, fun x c e => ?_, fun p hp => ?_, hok, I.len⟩
 ·exact keep b o (neL b o e) hb (neC b o e hx) (I.base.keep b o e n hb hx) (I.base.free b o e n hx)
 ·obtain ⟨sl, e1⟩ := I.base.slot b o e n hb hx
  obtain ⟨sl', e2⟩ := slot b _ (neL b o e) hb (neC b o e hx) e1 (I.base.free b o e n hx)
  exact ⟨sl', e2⟩
 ·obtain ⟨o', e1⟩ := I.base.there b o e hx
  exact free b o' (neC b o e hx) e1 (I.base.free b o e n hx)
 ·obtain ⟨o', e1⟩ := I.base.there b o e hx
  exact there b o' (neC b o e hx) e1
 ·obtain ⟨m1, e1⟩ := I.base.tbls b ps e
  obtain ⟨m2, e2⟩ := tbls b _ e1
  exact ⟨m1 ++ m2, by rw [e2, Array.append_assoc]⟩
 ·obtain ⟨m, hn, hl⟩ := I.loc
  refine ⟨m, ns m hn, fun i x v e1 e2 e3 => ?_⟩
  obtain ⟨u, r, l⟩ := hl i x v e1 e2 e3
  refine ⟨u, r, ?_⟩
  rcases l with l | ⟨k, c, e, z⟩
  ·exact .inl l
  ·exact .inr ⟨k, c, e, cellK x c e _ z⟩
 ·obtain ⟨v, z⟩ := I.cell x c e
  exact ⟨v, cellK x c e v z⟩
 ·obtain ⟨m, ⟨o, _, _, ho, _⟩, _⟩ := I.loc
  exact free _ o (fun z => (hch _ z).2.1 rfl) ho I.free
 ·obtain ⟨v, o, ho, hd⟩ := I.cell x c e
  exact free c o (fun z => (hch c z).2.2.1 x c e rfl) ho (I.freeC x c e)
 ·obtain ⟨e, n, ne, nf, d⟩ := I.pin p hp
  have nch : p.1 ∉ ch := fun z => (hch p.1 z).2.2.2 p hp rfl
  exact ⟨keep p.1 p.2 ne nf nch e n, free p.1 p.2 nch e n, ne, nf, d⟩
theorem Inv.un {t' : Nat} (I : Inv X pins σ H s) (u : Un X.fs [] H H' s.heap h') (hok : HOk X.prog X.w H' h') : Inv X pins σ H' { s with heap := h', toks := t' } := by
 obtain ⟨m, ⟨o, es, ep, ho, r⟩, _⟩ := id I.loc
 obtain ⟨sl, hL⟩ := u.any ho I.free (by simp)
 exact I.step (g' := s.gens) (d' := s.drawn) (ch := []) (fun _ z => nomatch z) (fun b o _ hb _ e n => u.keep b o e n hb (by simp)) (fun b o _ hb _ e n => u.slot b o e n hb (by simp)) (fun b o _ e n => u.free b o e n (by simp)) (fun b o _ e => u.there b o e (by simp)) u.tups u.frzs u.tbls (fun m' hm => by
  obtain ⟨o', es', ep', ho', r'⟩ := hm
  rw [ho] at ho'; cases ho'
  exact ⟨_, es', ep', hL, r'⟩) hok I.bare
theorem Inv.call {g' : Array GenState} {t' : Nat} {d' : Drawn} {ch : List Addr} (I : Inv X pins σ H s) (u : Un (frs X.stack) ch H H' s.heap h') (hok : HOk X.prog X.w H' h') (hg : AllBare g')
  (hch : ∀ b ∈ ch, (b ∈ X.ex \/ X.s₀.heap.objs.size <= b) /\ b ≠ X.env.locals /\ (∀ x c, X.env.cells.lookup x = some c -> c ≠ b) /\ ∀ p ∈ X.pn ++ pins, p.1 ≠ b) :
  Inv X pins σ H' { s with heap := h', gens := g', drawn := d', toks := t' } := by
 obtain ⟨m, ⟨o, es, ep, ho, r⟩, _⟩ := id I.loc
 obtain ⟨sl, hL⟩ := u.any ho I.free fun z => (hch _ z).2.1 rfl
 exact I.step (ch := ch) hch (fun b o hL hb hc e n => u.keep b o e n (fun z => (List.mem_cons.mp (I.stkSub b z)).elim hL hb) hc) (fun b o _ _ hc e n => u.any e n hc) (fun b o hc e n => u.free b o e n hc) (fun b o hc e => u.there b o e hc) u.tups u.frzs u.tbls (fun m' hm => by
  obtain ⟨o', es', ep', ho', r'⟩ := hm
  rw [ho] at ho'; cases ho'
  exact ⟨_, es', ep', hL, r'⟩) hok hg
theorem Inv.turned {t' : Nat} {it : Addr} (I : Inv X pins σ H s) (k : ∀ b o, b ≠ it -> s.heap.get? b = some o -> h'.get? b = some o) (hn : H it = none) (hL : it ≠ X.env.locals)
  (h1 : it ∈ X.ex \/ X.s₀.heap.objs.size <= it) (h2 : ∀ x c, X.env.cells.lookup x = some c -> c ≠ it) (h3 : ∀ p ∈ X.pn ++ pins, p.1 ≠ it) : Inv X pins σ H { s with heap := h', toks := t' } := by
 have nit : ∀ b u, H b = some u -> b ≠ it := fun b u e z => by rw [z, hn] at e; cases e
 refine I.step (g' := s.gens) (d' := s.drawn) (ch := [it]) (fun b hb => ?_) (fun b o _ _ hc e _ => k b o (fun z => hc (by simp [z])) e) (fun b o _ _ hc e _ => ⟨o.slots, k b o (fun z => hc (by simp [z])) e⟩) (fun _ _ _ _ n => n)
  (fun b o hc e => ⟨o, k b o (fun z => hc (by simp [z])) e⟩) (fun _ _ e => e) (fun _ _ _ e => e) (fun b ps e => ⟨#[], by rw [e]; simp⟩) (fun m hm => ?_) (fun b u e => ?_) I.bare
 ·have e : b = it := by simpa using hb
  subst e
  exact ⟨h1, hL, h2, h3⟩
 ·obtain ⟨o, es, ep, ho, r⟩ := hm
  exact ⟨o, es, ep, k _ o (Ne.symm hL) ho, r⟩
 ·refine (I.hok b u e).stay (fun c v hc q => k c v ?_ q) (fun _ q => q) fun _ _ q => q
  rcases hc with z | z
  ·rw [z]; exact nit b u e
  ·exact nit c _ z
theorem Inv.tok (I : Inv X pins σ H s) (t : Nat) : Inv X pins σ H { s with toks := t } := I.un (h' := s.heap) (t' := t) Un.refl I.hok
theorem Inv.kept {t' : Nat} (I : Inv X pins σ H s) (k : ∀ b u, s.heap.get? b = some u -> h'.get? b = some u) : Inv X pins σ H { s with heap := h', toks := t' } := I.un (Un.kept k) (I.hok.kept k)
theorem Inv.laid {a : Addr} {o : HO} {t' : Nat} (I : Inv X pins σ H s) (k : ∀ b u, s.heap.get? b = some u -> h'.get? b = some u) (hp : s.heap.objs.size <= a) (new : ObjOk X.prog X.w (upd H a o) h' a o) :
  Inv X pins σ (upd H a o) { s with heap := h', toks := t' } := I.un (Un.laid k hp (I.hok.fresh hp)) (I.hok.laid k hp new)
theorem Inv.write {x e : Addr} {o : HO} {t' : Nat} (I : Inv X pins σ H s) (mu : Mut (H x)) (he : e = x \/ H e = some (.own x)) (k : ∀ b u, b ≠ e -> s.heap.get? b = some u -> h'.get? b = some u) (heo : ∃ u, h'.get? e = some u)
  (new : ObjOk X.prog X.w (upd H x o) h' x o) : Inv X pins σ (upd H x o) { s with heap := h', toks := t' } := I.un (Un.write mu he k heo) (I.hok.write mu he k heo new)
theorem Inv.weak {σ' : List (Option V)} (I : Inv X pins σ H s) (hl : σ'.length = σ.length) (w : ∀ (i : Nat) v, σ'[i]? = some (some v) -> σ[i]? = some (some v)) : Inv X pins σ' H s :=
 ⟨I.ok, I.os, I.bare, I.base, let ⟨m, hn, hl'⟩ := I.loc; ⟨m, hn, fun i x v e1 e2 e3 => hl' i x v e1 (w i v e2) e3⟩, I.cell, I.free, I.freeC, I.pin, I.hok, hl.trans I.len⟩
theorem Inv.pins_of {pins' : List (Addr × Obj)} (I : Inv X pins σ H s) (h : ∀ p ∈ pins', s.heap.get? p.1 = some p.2 /\ H p.1 = none /\ p.1 ≠ X.env.locals /\ p.1 ∉ X.fs /\ ∀ v, p.2.data ≠ .cell v) : Inv X pins' σ H s :=
 ⟨I.ok, I.os, I.bare, I.base, I.loc, I.cell, I.free, I.freeC, fun p hp => (List.mem_append.mp hp).elim (fun z => I.pin p (List.mem_append_left _ z)) (h p), I.hok, I.len⟩
theorem nodup_ix {N : List Str} (hN : N.Nodup) {i j : Nat} {x : Str} (a : N[i]? = some x) (b : N[j]? = some x) : i = j := by
 obtain ⟨h1, e1⟩ := List.getElem?_eq_some_iff.mp a
 obtain ⟨h2, e2⟩ := List.getElem?_eq_some_iff.mp b
 exact (List.getElem_inj hN).mp (e1.trans e2.symm)
theorem store_ok2 {M : Model} {A : Around} {E : Value -> Shared -> Prop} {i : Nat} {x : Str} {v : V} {u : Value} {Q : Unit -> Shared -> Prop} (I : Inv X pins σ H s) (hN : X.N.Nodup) (hi : X.N[i]? = some x) (hx : Loc X.env.scope x) (r : RelV v u)
  (h : ∀ s', Inv X pins (σ.set i (some v)) H s' -> (∃ a, Heap.SameBut a s.heap s'.heap /\ (a = X.env.locals \/ X.env.cells.lookup x = some a)) -> Q () s') (hf : X.fn x = true \/ X.env.scope.names.lookup x = some .local) : wpAny M A (storeName X.env x u) Q E s := by
 obtain ⟨m, hn, hl⟩ := id I.loc
 have hcls : (X.env.scope.kind == .class || (X.env.scope.kind == .module && X.env.locals != X.env.globals)) = false := by rw [I.ok.kind]; rfl
 have hiσ : i < σ.length := by rw [I.len]; exact (List.getElem?_eq_some_iff.mp hi).1
 have cne := I.cne
 have tracked : ∀ {a : Addr} {h' : Heap}, (∃ o, s.heap.get? a = some o /\ H a = none) -> Heap.SameBut a s.heap h' -> HOk X.prog X.w H h' := fun {a h'} ha hs b ob e => by
  obtain ⟨_, _, hfree⟩ := ha
  refine (I.hok b ob e).stay (fun c w' hc q => (hs.2 c ?_).trans q) (fun _ q => q) fun _ _ q => q
  rintro rfl
  rcases hc with rfl | hc
  ·rw [hfree] at e; cases e
  ·rw [hfree] at hc; cases hc
 rcases hx with hk | hk
 ·refine wpAny_storeName_local hk hn (fun h' hn' hs => ?_) hcls
  obtain ⟨oL, _, _, hoL, _⟩ := id hn
  refine h _ ⟨I.ok, I.os, I.bare, ⟨fun b o e n hb hx => ?_, fun b o e n hb hx => ?_, I.base.free, fun b o e hx => ?_, I.base.tups, I.base.frzs, I.base.tbls⟩, ⟨_, hn', fun j y v' e1 e2 e3 => ?_⟩, fun y c e => ?_, I.free, I.freeC, fun p hp => ?_, tracked ⟨oL, hoL, I.free⟩ hs, by simpa using I.len⟩ ⟨_, hs, .inl rfl⟩
  ·exact (hs.2 b (Nat.ne_of_lt (Nat.lt_of_lt_of_le (Heap.lt_size e) I.ok.above))).trans (I.base.keep b o e n hb hx)
  ·obtain ⟨sl, e1⟩ := I.base.slot b o e n hb hx
   exact ⟨sl, (hs.2 b (Nat.ne_of_lt (Nat.lt_of_lt_of_le (Heap.lt_size e) I.ok.above))).trans e1⟩
  ·obtain ⟨o', e1⟩ := I.base.there b o e hx
   exact ⟨o', (hs.2 b (Nat.ne_of_lt (Nat.lt_of_lt_of_le (Heap.lt_size e) I.ok.above))).trans e1⟩
  ·by_cases hj : j = i
   ·subst hj
    rw [hi] at e1; cases e1
    rw [List.getElem?_set_self hiσ] at e2
    cases e2
    exact ⟨u, r, .inl ⟨hk, by simp⟩⟩
   ·rw [List.getElem?_set_ne (Ne.symm hj)] at e2
    obtain ⟨u', r', q⟩ := hl j y v' e1 e2 e3
    refine ⟨u', r', ?_⟩
    rcases q with ⟨k, e⟩ | ⟨k, c, e, z⟩
    ·refine .inl ⟨k, ?_⟩
     have : y ≠ x := fun e => hj (nodup_ix hN e1 (e ▸ hi))
     simp [this, e]
    ·exact .inr ⟨k, c, e, z.sameBut hs (cne y c e)⟩
  ·obtain ⟨w', z⟩ := I.cell y c e
   exact ⟨w', z.sameBut hs (cne y c e)⟩
  ·obtain ⟨e, n, ne, nf, d⟩ := I.pin p hp
   exact ⟨(hs.2 p.1 ne).trans e, n, ne, nf, d⟩
 ·have hfn : X.fn x = true := by
   rcases hf with z | z
   ·exact z
   ·rw [z] at hk; cases hk
  obtain ⟨c, hc⟩ := I.ok.has x (.inl hk)
  obtain ⟨w', z⟩ := I.cell x c hc
  refine wpAny_storeName_cell I.ok.kind hk hc z (fun h' hc' hs => ?_)
  obtain ⟨oc, hoc, hocd⟩ := id z
  refine h { s with heap := h' } ⟨I.ok, I.os, I.bare, ⟨fun b o e n hb hx => ?_, fun b o e n hb hx => ?_, I.base.free, fun b o e hx => ?_, I.base.tups, I.base.frzs, I.base.tbls⟩, ⟨m, hn.sameBut hs (Ne.symm (cne x c hc)), fun j y v' e1 e2 e3 => ?_⟩, fun y c' e => ?_, I.free, I.freeC, fun p hp => ?_, tracked ⟨oc, hoc, I.freeC x c hc⟩ hs, by simpa using I.len⟩ ⟨c, hs, .inr hc⟩
  ·exact (hs.2 b (Nat.ne_of_lt (Nat.lt_of_lt_of_le (Heap.lt_size e) (I.ok.cab x c hfn hc)))).trans (I.base.keep b o e n hb hx)
  ·obtain ⟨sl, e1⟩ := I.base.slot b o e n hb hx
   exact ⟨sl, (hs.2 b (Nat.ne_of_lt (Nat.lt_of_lt_of_le (Heap.lt_size e) (I.ok.cab x c hfn hc)))).trans e1⟩
  ·obtain ⟨o', e1⟩ := I.base.there b o e hx
   exact ⟨o', (hs.2 b (Nat.ne_of_lt (Nat.lt_of_lt_of_le (Heap.lt_size e) (I.ok.cab x c hfn hc)))).trans e1⟩
  ·by_cases hj : j = i
   ·subst hj
    rw [hi] at e1; cases e1
    rw [List.getElem?_set_self hiσ] at e2
    cases e2
    exact ⟨u, r, .inr ⟨.inl hk, c, hc, hc'⟩⟩
   ·rw [List.getElem?_set_ne (Ne.symm hj)] at e2
    obtain ⟨u', r', q⟩ := hl j y v' e1 e2 e3
    refine ⟨u', r', ?_⟩
    rcases q with q | ⟨k, c', e, z'⟩
    ·exact .inl q
    ·refine .inr ⟨k, c', e, z'.sameBut hs ?_⟩
     rintro rfl
     exact hj (nodup_ix hN e1 (I.ok.inj _ _ _ e hc ▸ hi))
  ·by_cases hcc : c' = c
   ·subst hcc; exact ⟨_, hc'⟩
   ·obtain ⟨w2, z2⟩ := I.cell y c' e
    exact ⟨w2, z2.sameBut hs hcc⟩
  ·obtain ⟨e, n, ne, nf, d⟩ := I.pin p hp
   refine ⟨(hs.2 p.1 ?_).trans e, n, ne, nf, d⟩
   intro q
   rw [q, hoc] at e
   have q' : oc = p.2 := Option.some.inj e
   exact d w' (by rw [<- q']; exact hocd)
theorem store_ok {M : Model} {A : Around} {E : Value -> Shared -> Prop} {i : Nat} {x : Str} {v : V} {u : Value} {Q : Unit -> Shared -> Prop} (I : Inv X pins σ H s) (hN : X.N.Nodup) (hi : X.N[i]? = some x) (hx : Loc X.env.scope x) (r : RelV v u)
  (h : ∀ s', Inv X pins (σ.set i (some v)) H s' -> Q () s') (hf : X.fn x = true \/ X.env.scope.names.lookup x = some .local) : wpAny M A (storeName X.env x u) Q E s :=
 store_ok2 I hN hi hx r (fun s' I' _ => h s' I') hf
theorem Inv.call' {s' : Shared} {ch : List Addr} (I : Inv X pins σ H s) (ho : s'.os = s.os) (u : Un (frs X.stack) ch H H' s.heap s'.heap) (hok : HOk X.prog X.w H' s'.heap) (hg : AllBare s'.gens)
  (hch : ∀ b ∈ ch, (b ∈ X.ex \/ X.s₀.heap.objs.size <= b) /\ b ≠ X.env.locals /\ (∀ x c, X.env.cells.lookup x = some c -> c ≠ b) /\ ∀ p ∈ X.pn ++ pins, p.1 ≠ b) : Inv X pins σ H' s' := by
 obtain ⟨h', g', d', t', o'⟩ := s'
 have e : o' = s.os := ho
 subst e
 exact I.call (g' := g') (t' := t') (d' := d') u hok hg hch
end
noncomputable abbrev XK := Value -> Option Addr -> Hp -> Prop
noncomputable abbrev St := List (Option V)
noncomputable abbrev VK := V -> Hp -> Prop
noncomputable abbrev TE := St -> Hp -> VK -> Prop
noncomputable abbrev TT := St -> Hp -> (Bool -> Hp -> Prop) -> Prop
noncomputable abbrev TA := St -> Hp -> (List V -> Hp -> Prop) -> Prop
structure Ends where
 nx : St -> Hp -> Prop
 rt : VK
 bk : St -> Hp -> Prop := fun _ _ => False
 ct : St -> Hp -> Prop := fun _ _ => False
noncomputable abbrev TS := Ends -> St -> Hp -> Prop
noncomputable def EP (X : Cx) (pins : List (Addr × Obj)) (σ : St) (Q : VK) (u : Value) (s' : Shared) : Prop := ∃ v H', Inv X pins σ H' s' /\ RelV v u /\ Q v H'
noncomputable def TP (X : Cx) (pins : List (Addr × Obj)) (σ : St) (Q : Bool -> Hp -> Prop) (b : Bool) (s' : Shared) : Prop := ∃ H', Inv X pins σ H' s' /\ Q b H'
noncomputable def AP (X : Cx) (pins : List (Addr × Obj)) (σ : St) (Q : List V -> Hp -> Prop) (us : List Value) (s' : Shared) : Prop := ∃ vs H', Inv X pins σ H' s' /\ Vals vs us /\ Q vs H'
noncomputable def SP (X : Cx) (pins : List (Addr × Obj)) (D : Ends) (f : Flow) (s' : Shared) : Prop :=
 match f with
 | .next => ∃ σ' H', Inv X pins σ' H' s' /\ D.nx σ' H'
 | .brk => ∃ σ' H', Inv X pins σ' H' s' /\ D.bk σ' H'
 | .cont => ∃ σ' H', Inv X pins σ' H' s' /\ D.ct σ' H'
 | .ret u => ∃ v σ' H', Inv X pins σ' H' s' /\ RelV v u /\ D.rt v H'
noncomputable def PE (X : Cx) (e : Expr) (t : TE) : Prop :=
 ∀ (pins : List (Addr × Obj)) (s : Shared) (σ : St) (H : Hp) (Q : VK), Inv X pins σ H s -> t σ H Q -> wpAny (model X.prog X.w) X.A (eval e X.env) (EP X pins σ Q) X.xe s
noncomputable def PT (X : Cx) (e : Expr) (t : TT) : Prop :=
 ∀ (pins : List (Addr × Obj)) (s : Shared) (σ : St) (H : Hp) (Q : Bool -> Hp -> Prop), Inv X pins σ H s -> t σ H Q -> wpAny (model X.prog X.w) X.A (isTrue e X.env (eval e X.env)) (TP X pins σ Q) X.xe s
noncomputable def PW (X : Cx) (e : Expr) (t : TT) : Prop :=
 ∀ (whole : Sem Value) (pins : List (Addr × Obj)) (s : Shared) (σ : St) (H : Hp) (Q : Bool -> Hp -> Prop), Inv X pins σ H s -> t σ H Q -> wpAny (model X.prog X.w) X.A (isTrue e X.env whole) (TP X pins σ Q) X.xe s
theorem PW.pt {X : Cx} {e : Expr} {t : TT} (h : PW X e t) : PT X e t := h _
noncomputable def PA (X : Cx) (es : List Expr) (t : TA) : Prop :=
 ∀ (pos : Pos) (pins : List (Addr × Obj)) (s : Shared) (σ : St) (H : Hp) (Q : List V -> Hp -> Prop), Inv X pins σ H s -> t σ H Q -> wpAny (model X.prog X.w) X.A (spliced (backTo pos (starEach es X.env))) (AP X pins σ Q) X.xe s
noncomputable def PS (X : Cx) (st : Stmt) (t : TS) : Prop :=
 ∀ (pins : List (Addr × Obj)) (s : Shared) (σ : St) (H : Hp) (D : Ends), Inv X pins σ H s -> t D σ H -> wpAny (model X.prog X.w) X.A (exec st X.env) (SP X pins D) X.xe s
noncomputable def PSs (X : Cx) (st : List Stmt) (t : TS) : Prop :=
 ∀ (pins : List (Addr × Obj)) (s : Shared) (σ : St) (H : Hp) (D : Ends), Inv X pins σ H s -> t D σ H -> wpAny (model X.prog X.w) X.A (execs st X.env) (SP X pins D) X.xe s
theorem thn {α : Type} {t : Sem α} {Q Q' : α -> Shared -> Prop} {M : Model} {A : Around} {E : Value -> Shared -> Prop} {s : Shared} (h : wpAny M A t Q E s) (hQ : ∀ a s, Q a s -> Q' a s) : wpAny M A t Q' E s := wpAny_mono h hQ fun _ _ x => x
end L2
namespace L2
open PySem PySem.Spec PyProof.Rows
section
variable {X : Cx}
noncomputable def tVar (i : Nat) : TE := fun σ H Q => ∃ v, σ[i]? = some (some v) /\ Q v H
noncomputable def tC (v : V) : TE := fun _ H Q => Q v H
theorem pe_var {i : Nat} {x : Str} {pos : Pos} (hN : X.N[i]? = some x) (hv : Vis X.env.scope x) (hd : (x == ("__debug__" : Str)) = false) (hcd : (x == ("__classdict__" : Str)) = false) : PE X (.Name x pos) (tVar i) := by
 intro pins s σ H Q I h
 obtain ⟨v, e, h⟩ := h
 obtain ⟨m, hn, hl⟩ := I.loc
 obtain ⟨u, r, l⟩ := hl i x v hN e hv
 have fin : EP X pins σ Q u s := ⟨v, H, I, r, h⟩
 rcases l with ⟨hk, hm⟩ | ⟨hk, c, hc, hcell⟩
 ·exact wpAny_Name (wpAny_loadName_local I.ok.kind hk hn hm fin) hd
 ·rcases hk with hk | hk
  ·exact wpAny_Name (wpAny_loadName_cell I.ok.kind hk hc hcell fin) hd
  ·exact wpAny_Name (wpAny_loadName_free I.ok.kind hk hc hcell fin hcd) hd
theorem pe_int {i j pos} : PE X (.Constant (.int i) j pos) (tC (.int i)) := fun _ _ _ H _ I h => wpAny_Constant_int ⟨.int i, H, I.tok _, ⟨_, rfl⟩, h⟩
theorem pe_bl {b j pos} : PE X (.Constant (.bool b) j pos) (tC (.bl b)) := fun _ _ _ H _ I h => Constant_bool ⟨.bl b, H, I, rfl, h⟩
theorem pe_non {j pos} : PE X (.Constant .none j pos) (tC .non) := fun _ _ _ H _ I h => Constant_none ⟨.non, H, I, rfl, h⟩
theorem pe_str {x j pos} : PE X (.Constant (.str x) j pos) (tC (.str x)) := fun _ _ _ H _ I h => Calls.Constant_str ⟨.str x, H, I.tok _, ⟨_, rfl⟩, h⟩
noncomputable def Gl (X : Cx) (x : Str) : Prop := X.env.kindOf x = some .globalImplicit
theorem ld_glob {E : Value -> Shared -> Prop} {pins : List (Addr × Obj)} {s : Shared} {σ : St} {H : Hp} {x : Str} {u : Value} {pos : Pos} {Q : Value -> Shared -> Prop} (I : Inv X pins σ H s) (hg : Gl X x) (hm : X.mg x = some u) (h : Q u s)
  (hd : (x == ("__debug__" : Str)) = false) : wpAny (model X.prog X.w) X.A (eval (.Name x pos) X.env) Q E s :=
 Calls.Name_function_global I.ok.kind hg (Calls.loadGlobal_global (by rw [I.ok.glob]; exact I.mod.glob.keeps I.bk) hm h) hd
theorem ld_blt {E : Value -> Shared -> Prop} {pins : List (Addr × Obj)} {s : Shared} {σ : St} {H : Hp} {x : Str} {u : Value} {pos : Pos} {Q : Value -> Shared -> Prop} (I : Inv X pins σ H s) (hg : Gl X x) (hm : X.mg x = none) (hv : bootBuiltins x = some u) (h : Q u s)
  (hn : x ≠ "__name__" := by decide) (hd : (x == ("__debug__" : Str)) = false := by decide) : wpAny (model X.prog X.w) X.A (eval (.Name x pos) X.env) Q E s := by
 obtain ⟨mb, h1, h2⟩ := I.mod.blt
 exact Calls.Name_function_global I.ok.kind hg (Calls.loadGlobal_builtin (by rw [I.ok.glob]; exact I.mod.glob.keeps I.bk) hm (by rw [I.ok.blt]; exact h1.keeps I.bk) ((h2 x hn).trans hv) h) hd
theorem pe_bltn {x : Str} {v : V} {u : Value} {pos : Pos} (hg : Gl X x) (hm : X.mg x = none) (hv : bootBuiltins x = some u) (r : RelV v u) (hn : x ≠ "__name__") (hd : (x == ("__debug__" : Str)) = false) : PE X (.Name x pos) (tC v) :=
 fun _ _ _ H _ I h => ld_blt I hg hm hv ⟨v, H, I, r, h⟩ hn hd
variable {a b : Expr} {ta tb : TE} {pos : Pos}
noncomputable def tB (t : TE) : TT := fun σ H Q => t σ H fun x H1 => ∃ c, x = .bl c /\ Q c H1
variable {tA tB' : TT} {rest : List Expr}
noncomputable def tAnd (t u : TT) : TT := fun σ H Q => t σ H fun c H1 => if c = true then u σ H1 Q else Q false H1
noncomputable def tOr (t u : TT) : TT := fun σ H Q => t σ H fun c H1 => if c = true then Q true H1 else u σ H1 Q
noncomputable def tNot (t : TT) : TT := fun σ H Q => t σ H fun c H1 => Q (!c) H1
theorem pw_and1 (ha : PT X a tA) : PW X (.BoolOp .And [a] pos) tA := by
 intro wh pins s σ H Q I h
 refine isTrue_and (thn (ha pins s σ H Q I h) fun c s1 e => ?_)
 cases c with
 | true => exact isTrue_and_nil e
 | false => exact e
theorem pw_or1 (ha : PT X a tA) : PW X (.BoolOp .Or [a] pos) tA := by
 intro wh pins s σ H Q I h
 refine isTrue_or (thn (ha pins s σ H Q I h) fun c s1 e => ?_)
 cases c with
 | false => exact isTrue_or_nil e
 | true => exact e
theorem pw_and (ha : PT X a tA) (hb : PW X (.BoolOp .And (b :: rest) pos) tB') : PW X (.BoolOp .And (a :: b :: rest) pos) (tAnd tA tB') := by
 intro wh pins s σ H Q I h
 refine isTrue_and (thn (ha pins s σ H _ I h) fun c s1 hh0_ => ?_)
 obtain ⟨H1, I1, q1⟩ := hh0_
 cases c with
 | true => exact hb wh pins s1 σ H1 Q I1 q1
 | false => exact ⟨H1, I1, q1⟩
theorem pw_or (ha : PT X a tA) (hb : PW X (.BoolOp .Or (b :: rest) pos) tB') : PW X (.BoolOp .Or (a :: b :: rest) pos) (tOr tA tB') := by
 intro wh pins s σ H Q I h
 refine isTrue_or (thn (ha pins s σ H _ I h) fun c s1 hh0_ => ?_)
 obtain ⟨H1, I1, q1⟩ := hh0_
 cases c with
 | true => exact ⟨H1, I1, q1⟩
 | false => exact hb wh pins s1 σ H1 Q I1 q1
theorem pt_not (ha : PT X a tA) : PT X (.UnaryOp .Not a pos) (tNot tA) := by
 intro pins s σ H Q I h
 exact isTrue_not (ha pins s σ H (fun c H1 => Q (!c) H1) I h)
noncomputable def tAndV (ta tb : TE) : TE := fun σ H Q => ta σ H fun x H1 => ∃ c, x = .bl c /\ if c = true then tb σ H1 Q else Q (.bl false) H1
noncomputable def tOrV (ta tb : TE) : TE := fun σ H Q => ta σ H fun x H1 => ∃ c, x = .bl c /\ if c = true then Q (.bl true) H1 else tb σ H1 Q
theorem pe_one {op} {t : TE} (h : PE X a t) : PE X (.BoolOp op [a] pos) t := fun pins s σ H Q I hw => BoolOp_one (h pins s σ H Q I hw)
theorem pe_and (ha : PE X a ta) (hb : PE X (.BoolOp .And (b :: rest) pos) tb) : PE X (.BoolOp .And (a :: b :: rest) pos) (tAndV ta tb) := by
 intro pins s σ H Q I h
 refine BoolOp_and (thn (ha pins s σ H _ I h) fun v s1 hh0_ => ?_)
 obtain ⟨x, H1, I1, r1, q1⟩ := hh0_
 obtain ⟨c, rfl, q1⟩ := q1
 cases r1
 refine wpAny_truthy_bool ?_
 cases c with
 | true => exact hb pins s1 σ H1 Q I1 q1
 | false => exact ⟨.bl false, H1, I1, rfl, q1⟩
theorem pe_or (ha : PE X a ta) (hb : PE X (.BoolOp .Or (b :: rest) pos) tb) : PE X (.BoolOp .Or (a :: b :: rest) pos) (tOrV ta tb) := by
 intro pins s σ H Q I h
 refine BoolOp_or (thn (ha pins s σ H _ I h) fun v s1 hh0_ => ?_)
 obtain ⟨x, H1, I1, r1, q1⟩ := hh0_
 obtain ⟨c, rfl, q1⟩ := q1
 cases r1
 refine wpAny_truthy_bool ?_
 cases c with
 | false => exact hb pins s1 σ H1 Q I1 q1
 | true => exact ⟨.bl true, H1, I1, rfl, q1⟩
noncomputable def tIf (t : TT) (ta tb : TE) : TE := fun σ H Q => t σ H fun c H1 => if c = true then ta σ H1 Q else tb σ H1 Q
theorem pe_ifExp {c : Expr} (hc : PT X c tA) (ha : PE X a ta) (hb : PE X b tb) : PE X (.IfExp c a b pos) (tIf tA ta tb) := by
 intro pins s σ H Q I h
 refine wpAny_IfExp (thn (hc pins s σ H _ I h) fun d s1 hh0_ => ?_)
 obtain ⟨H1, I1, q1⟩ := hh0_
 cases d with
 | true => exact ha pins s1 σ H1 Q I1 q1
 | false => exact hb pins s1 σ H1 Q I1 q1
end
end L2
namespace L2
open PySem PySem.Spec PyProof.Rows
noncomputable def SqL (K : PySem.W.Frag) (H : Hp) (a : Addr) (xs : List V) : Prop :=
 Rd H a (.lst xs) \/
  ∃ (o : Obj) (its : Array Value) (n : Nat), K.lookup a = some o ∧ o.cls = .type "list" ∧ o.dict = none ∧ o.data = .seq its n ∧ its.size ≤ sizeLine ∧ Vals xs its.toList
noncomputable def SqT (K : PySem.W.Frag) (H : Hp) (a : Addr) (xs : List V) : Prop :=
 Rd H a (.tup xs) \/
  ∃ (o : Obj) (its : Array Value) (n : Nat), K.lookup a = some o ∧ o.cls = .type "tuple" ∧ o.dict = none ∧ o.data = .seq its n ∧ its.size ≤ sizeLine ∧ Vals xs its.toList
noncomputable def absV : Value -> Option V
 | .none => some .non
 | .bool b => some (.bl b)
 | .int i _ => some (.int i)
 | .str x _ => some (.str x)
 | .bytes b _ => some (.byt b)
 | .float b _ => some (.flt b)
 | .ref a => some (.ref a)
 | .type n => some (.ty n)
 | _ => none
theorem RelV.abs {x : V} {u : Value} (r : RelV x u) : absV u = some x := by
 cases x with
 | non => cases r; rfl
 | bl _ => cases r; rfl
 | int _ => obtain ⟨t, rfl⟩ := r; rfl
 | str _ => obtain ⟨t, rfl⟩ := r; rfl
 | byt _ => obtain ⟨t, rfl⟩ := r; rfl
 | flt _ => obtain ⟨t, rfl⟩ := r; rfl
 | ref _ => cases r; rfl
 | ty _ => cases r; rfl
theorem RelV.inj {x y : V} {u : Value} (r : RelV x u) (q : RelV y u) : x = y := Option.some.inj (r.abs.symm.trans q.abs)
theorem Vals.inj : ∀ {xs ys : List V} {us : List Value}, Vals xs us -> Vals ys us -> xs = ys
 | _, _, _, .nil, .nil => rfl
 | _, _, _, .cons r t, .cons r' t' => by rw [r.inj r', Vals.inj t t']
section
variable {X : Cx} {pins : List (Addr × Obj)} {σ : St} {H : Hp} {s : Shared} {a : Addr} {xs ys : List V}
theorem Inv.list (I : Inv X pins σ H s) (h : SqL X.K H a xs) : ∃ its : List Value, Vals xs its /\ PlainL s.heap a its.toArray /\ xs.length <= sizeLine := by
 rcases h with h | ⟨o, its, n, hk, hc, hd, hs, hz, r⟩
 ·obtain ⟨z, its, n, r, e⟩ := h.ok I.hok
  exact ⟨its, r, ⟨_, n, e, rfl, rfl, rfl⟩, z⟩
 ·refine ⟨its.toList, r, ⟨o, n, I.kIn a o hk, hc, hd, by simpa using hs⟩, ?_⟩
  have e := r.length
  simp only [Array.length_toList] at e
  omega
theorem Inv.tuple (I : Inv X pins σ H s) (h : SqT X.K H a xs) : ∃ its : List Value, Vals xs its /\ IsTup s.heap a its.toArray /\ xs.length <= sizeLine := by
 rcases h with h | ⟨o, its, n, hk, hc, _, hs, hz, r⟩
 ·obtain ⟨z, its, r, p⟩ := h.ok I.hok
  exact ⟨its, r, p.tup, z⟩
 ·refine ⟨its.toList, r, ⟨o, I.kIn a o hk, hc, n, by simpa using hs⟩, ?_⟩
  have e := r.length
  simp only [Array.length_toList] at e
  omega
theorem Inv.list_inj (I : Inv X pins σ H s) (h : SqL X.K H a xs) (h' : SqL X.K H a ys) : xs = ys := by
 obtain ⟨its, r, ⟨o, n, e, _, _, d⟩, _⟩ := I.list h
 obtain ⟨its', r', ⟨o', n', e', _, _, d'⟩, _⟩ := I.list h'
 rw [e] at e'; cases e'
 rw [d] at d'
 injection d' with d1 _
 have : its = its' := by simpa using congrArg Array.toList d1
 subst this
 exact r.inj r'
theorem Inv.tuple_inj (I : Inv X pins σ H s) (h : SqT X.K H a xs) (h' : SqT X.K H a ys) : xs = ys := by
 obtain ⟨its, r, ⟨o, e, _, n, d⟩, _⟩ := I.tuple h
 obtain ⟨its', r', ⟨o', e', _, n', d'⟩, _⟩ := I.tuple h'
 rw [e] at e'; cases e'
 rw [d] at d'
 injection d' with d1 _
 have : its = its' := by simpa using congrArg Array.toList d1
 subst this
 exact r.inj r'
end
noncomputable abbrev Cx.wish (X : Cx) (E : Value -> Shared -> Prop) : Cx := { X with xe := E }
noncomputable abbrev Cx.nox (X : Cx) : Cx := X.wish fun _ _ => False
theorem Cx.Ok.wish {X : Cx} (ok : X.Ok) (E : Value -> Shared -> Prop) : (X.wish E).Ok :=
 ⟨ok.mod, ok.kind, ok.glob, ok.blt, ok.above, ok.inj, ok.has, ok.cab, ok.hd, ok.frames, ok.stk, ok.exf, ok.bs, ok.bsz, ok.noex, ok.exfs, ok.funs, ok.frf⟩
theorem Cx.Ok.unwish {X : Cx} {E : Value -> Shared -> Prop} (ok : (X.wish E).Ok) : X.Ok :=
 ⟨ok.mod, ok.kind, ok.glob, ok.blt, ok.above, ok.inj, ok.has, ok.cab, ok.hd, ok.frames, ok.stk, ok.exf, ok.bs, ok.bsz, ok.noex, ok.exfs, ok.funs, ok.frf⟩
section
variable {X : Cx} {pins : List (Addr × Obj)} {σ : St} {H : Hp} {s : Shared} {E : Value -> Shared -> Prop}
theorem Inv.wish (I : Inv X pins σ H s) (E : Value -> Shared -> Prop) : Inv (X.wish E) pins σ H s := ⟨I.ok.wish E, I.os, I.bare, I.base, I.loc, I.cell, I.free, I.freeC, I.pin, I.hok, I.len⟩
theorem Inv.unwish (I : Inv (X.wish E) pins σ H s) : Inv X pins σ H s := ⟨I.ok.unwish, I.os, I.bare, I.base, I.loc, I.cell, I.free, I.freeC, I.pin, I.hok, I.len⟩
theorem SP.unwish {D : Ends} {f : Flow} {s' : Shared} (h : SP (X.wish E) pins D f s') : SP X pins D f s' := by
 cases f with
 | next => obtain ⟨σ', H', I, q⟩ := h; exact ⟨σ', H', I.unwish, q⟩
 | brk => obtain ⟨σ', H', I, q⟩ := h; exact ⟨σ', H', I.unwish, q⟩
 | cont => obtain ⟨σ', H', I, q⟩ := h; exact ⟨σ', H', I.unwish, q⟩
 | ret u => obtain ⟨v, σ', H', I, r, q⟩ := h; exact ⟨v, σ', H', I.unwish, r, q⟩
theorem PSs.nox {st : List Stmt} {t : TS} (h : PSs X.nox st t) : PSs X st t := fun pins s σ H D I hw =>
 wpAny_mono (h pins s σ H D (I.wish _) hw) (fun _ _ q => q.unwish) fun _ _ z => False.elim z
end
section
variable {X : Cx} {st : Stmt} {rest : List Stmt} {t u : TS} {e : Expr} {te : TE} {pos : Pos}
noncomputable def tNext : TS := fun D σ H => D.nx σ H
noncomputable def tSeq (t u : TS) : TS := fun D σ H => t { D with nx := u D } σ H
theorem pss_nil : PSs X [] tNext := fun _ _ σ H _ I h => wpAny_execs_nil ⟨σ, H, I, h⟩
theorem pss_cons (h1 : PS X st t) (h2 : PSs X rest u) : PSs X (st :: rest) (tSeq t u) := by
 intro pins s σ H D I h
 refine wpAny_execs_cons (thn (h1 pins s σ H { D with nx := u D } I h) fun f s1 q => ?_)
 cases f with
 | next =>
  obtain ⟨σ', H', I', q⟩ := q
  exact h2 pins s1 σ' H' D I' q
 | ret v => exact q
 | brk => exact q
 | cont => exact q
theorem pss_one (h1 : PS X st t) : PSs X [st] t := by
 intro pins s σ H D I h
 refine wpAny_execs_cons (thn (h1 pins s σ H D I h) fun f s1 q => ?_)
 cases f with
 | next => exact wpAny_execs_nil q
 | ret v => exact q
 | brk => exact q
 | cont => exact q
noncomputable def tRet (te : TE) : TS := fun D σ H => te σ H D.rt
theorem ps_ret (he : PE X e te) : PS X (.Return (some e) pos) (tRet te) := by
 intro pins s σ H D I h
 exact wpAny_Return_some (thn (he pins s σ H _ I h) fun v s1 ⟨x, H1, I1, r1, q1⟩ => ⟨x, σ, H1, I1, r1, q1⟩)
noncomputable def tIfS (c : TT) (t u : TS) : TS := fun D σ H => c σ H fun b H1 => if b = true then t D σ H1 else u D σ H1
theorem ps_if {c : Expr} {a b : List Stmt} {tc : TT} (hc : PT X c tc) (ha : PSs X a t) (hb : PSs X b u) : PS X (.If c a b pos) (tIfS tc t u) := by
 intro pins s σ H D I h
 refine wpAny_If (thn (hc pins s σ H _ I h) fun d s1 hh0_ => ?_)
 obtain ⟨H1, I1, q1⟩ := hh0_
 cases d with
 | true => exact ha pins s1 σ H1 D I1 q1
 | false => exact hb pins s1 σ H1 D I1 q1
end
noncomputable abbrev TG := V -> St -> Hp -> (St -> Hp -> Prop) -> Prop
noncomputable abbrev TGs := List V -> St -> Hp -> (St -> Hp -> Prop) -> Prop
noncomputable def PG (X : Cx) (target : Expr) (t : TG) : Prop :=
 ∀ (pins : List (Addr × Obj)) (s : Shared) (σ : St) (H : Hp) (v : V) (u : Value) (Q : St -> Hp -> Prop), Inv X pins σ H s -> RelV v u -> t v σ H Q ->
  wpAny (model X.prog X.w) X.A (assign target X.env u) (fun _ s' => ∃ σ' H', Inv X pins σ' H' s' /\ Q σ' H') X.xe s
noncomputable def PGs (X : Cx) (ts : List Expr) (t : TGs) : Prop :=
 ∀ (pins : List (Addr × Obj)) (s : Shared) (σ : St) (H : Hp) (vs : List V) (us : List Value) (Q : St -> Hp -> Prop), Inv X pins σ H s -> Vals vs us -> t vs σ H Q ->
  wpAny (model X.prog X.w) X.A (assignInOrder ((assignEach ts X.env).map (·.2)) us) (fun _ s' => ∃ σ' H', Inv X pins σ' H' s' /\ Q σ' H') X.xe s
section
variable {X : Cx} {pos : Pos}
noncomputable def gName (i : Nat) : TG := fun v σ H Q => Q (σ.set i (some v)) H
theorem pg_name {i : Nat} {x : Str} (hN : X.N.Nodup) (hi : X.N[i]? = some x) (hx : Loc X.env.scope x) (hf : X.fn x = true \/ X.env.scope.names.lookup x = some .local) : PG X (.Name x pos) (gName i) := by
 intro pins s σ H v u Q I r h
 exact wpAny_assign_Name (store_ok I hN hi hx r (fun s' I' => ⟨_, H, I', h⟩) hf)
noncomputable def gNil : TGs := fun vs σ H Q => vs = [] /\ Q σ H
noncomputable def gCons (t : TG) (u : TGs) : TGs := fun vs σ H Q => ∃ v r, vs = v :: r /\ t v σ H fun σ' H' => u r σ' H' Q
theorem pgs_nil : PGs X [] gNil := by
 intro pins s σ H vs us Q I r h
 obtain ⟨e, h⟩ := h
 subst e
 cases r
 exact assignInOrder_nil ⟨σ, H, I, h⟩
theorem pgs_cons {e : Expr} {es : List Expr} {t : TG} {u : TGs} (h1 : PG X e t) (h2 : PGs X es u)
  (hs : (assignEach (e :: es) X.env).map (·.2) = assign e X.env :: (assignEach es X.env).map (·.2)) : PGs X (e :: es) (gCons t u) := by
 intro pins s σ H vs us Q I r h
 obtain ⟨v, vr, e1, h⟩ := h
 subst e1
 cases r with
 | cons r rr =>
  rw [hs]
  refine assignInOrder_cons (thn (h1 pins s σ H _ _ _ I r h) fun _ s1 hh0_ => ?_)
  obtain ⟨σ1, H1, I1, q1⟩ := hh0_
  exact h2 pins s1 σ1 H1 _ _ Q I1 rr q1
noncomputable def gTup (K : PySem.W.Frag) (n : Nat) (t : TGs) : TG := fun v σ H Q => ∃ a xs, v = .ref a /\ SqT K H a xs /\ xs.length = n /\ t xs σ H Q
theorem pg_tup {es : List Expr} {k : Nat} {t : TGs} {n : Nat} (hc : X.calm = true) (h : PGs X es t)
  (hn : (assignEach es X.env).length = n) (hst : (assignEach es X.env).findIdx? (·.1) = none) : PG X (.Tuple es k pos) (gTup X.K n t) := by
 intro pins s σ H v u Q I r hw
 obtain ⟨a, xs, e1, hq, hl, hw⟩ := hw
 subst e1
 cases r
 obtain ⟨its, rv, ht, hz⟩ := I.tuple hq
 refine assign_Tuple_tuple (I.ok.hd hc) ht (by simp [hn, <- hl, rv.length]) hst fun h' hx => ?_
 have I1 : Inv X pins σ H { s with heap := h' } := I.kept (t' := s.toks) fun b o e => hx b o (Nat.ne_of_lt (Heap.lt_size e)) e
 exact h pins _ σ H xs _ Q I1 (by simpa using rv) hw
noncomputable def tAsg (te : TE) (g : TG) : TS := fun D σ H => te σ H fun x H1 => g x σ H1 D.nx
theorem ps_asg {tg e : Expr} {te : TE} {g : TG} (he : PE X e te) (hg : PG X tg g) (hs : swapsWithSole [tg] e pos.line X.env = pure false) (hw : swappedStores [tg] e X.env = pure none)
  (h1 : (assignEach [tg] X.env).map (·.2) = [assign tg X.env]) : PS X (.Assign [tg] e pos) (tAsg te g) := by
 intro pins s σ H D I h
 refine wpAny_Assign_stores (thn (he pins s σ H _ I h) fun v s1 hh0_ => ?_) hs hw
 obtain ⟨x, H1, I1, r1, q1⟩ := hh0_
 rw [h1]
 exact thn (hg pins s1 σ H1 x v _ I1 r1 q1) fun _ s2 q => q
theorem ps_set {i : Nat} {x : Str} {e : Expr} {te : TE} {pos' : Pos} (hN : X.N.Nodup) (hi : X.N[i]? = some x) (hx : Loc X.env.scope x) (he : PE X e te) (hs : swapsWith e (some (.Name x pos')) pos.line X.env = pure false) (hf : X.fn x = true \/ X.env.scope.names.lookup x = some .local) :
  PS X (.Assign [.Name x pos'] e pos) (tAsg te (gName i)) := by
 intro pins s σ H D I h
 refine wpAny_Assign_Name (thn (he pins s σ H _ I h) fun v s1 hh0_ => ?_) hs
 obtain ⟨y, H1, I1, r1, q1⟩ := hh0_
 exact store_ok I1 hN hi hx r1 (fun s2 I2 => ⟨_, H1, I2, q1⟩) hf
end
section
variable {X : Cx} {pos : Pos}
noncomputable def tWhile (c : TT) (tb : TS) : TS := fun D σ H => ∃ W : Nat -> St -> Hp -> Prop, (∃ m, W m σ H) /\ ∀ m σ H, W m σ H ->
 c σ H fun b H1 => if b = true then ∃ N : St -> Hp -> Prop, (∀ σ' H', N σ' H' -> ∃ m', m' < m /\ W m' σ' H') /\ tb { D with nx := N, ct := N, bk := D.nx } σ H1 else D.nx σ H1
theorem ps_while {c : Expr} {body : List Stmt} {tc : TT} {tb : TS} (hp : PassesOwn (model X.prog X.w) X.A X.env X.xe) (hc : PT X c tc) (hb : PSs X body tb) : PS X (.While c body [] pos) (tWhile tc tb) := by
 intro pins s σ H D I h
 obtain ⟨W, ⟨m0, w0⟩, turn⟩ := h
 refine wpAny_While (codeAny_whileLoop (fun n s' => ∃ σ' H', Inv X pins σ' H' s' /\ W n σ' H') ?_ m0 ⟨σ, H, I, w0⟩)
 rintro n s1 ⟨σ1, H1, I1, w1⟩
 refine wpAny_passesOwn hp (thn (hc pins s1 σ1 H1 _ I1 (turn n σ1 H1 w1)) fun b s2 hh0_ => ?_)
 obtain ⟨H2, I2, q2⟩ := hh0_
 cases b with
 | true =>
  obtain ⟨N, hN, q2⟩ := q2
  rw [if_pos rfl]
  refine wpAny_passesOwn hp (thn (hb pins s2 σ1 H2 _ I2 q2) fun f s3 q3 => ?_)
  cases f with
  | next =>
   obtain ⟨σ3, H3, I3, n3⟩ := q3
   obtain ⟨m', hm, w3⟩ := hN σ3 H3 n3
   exact ⟨m', hm, σ3, H3, I3, w3⟩
  | cont =>
   obtain ⟨σ3, H3, I3, n3⟩ := q3
   obtain ⟨m', hm, w3⟩ := hN σ3 H3 n3
   exact ⟨m', hm, σ3, H3, I3, w3⟩
  | brk => exact q3
  | ret v => exact q3
 | false =>
  rw [if_neg Bool.false_ne_true]
  exact wpAny_execs_nil ⟨σ1, H2, I2, q2⟩
end
structure It where
 go : Nat -> Hp -> Prop
 yld : Nat -> Hp -> V -> Hp -> Prop
 stop : Nat -> Hp -> Prop
noncomputable def FpOk (X : Cx) (pins : List (Addr × Obj)) (H : Hp) (b : Addr) : Prop :=
 H b = none /\ b ≠ X.env.locals /\ b ∉ X.fs /\ (b ∈ X.ex \/ X.s₀.heap.objs.size <= b) /\ (∀ x c, X.env.cells.lookup x = some c -> c ≠ b) /\ ∀ p ∈ X.pn ++ pins, p.1 ≠ b
theorem Inv.fpOk {X : Cx} {pins : List (Addr × Obj)} {σ : St} {H H' : Hp} {s : Shared} {b : Addr} (I : Inv X pins σ H s) (hb : s.heap.objs.size <= b) (hn : H' b = none) : FpOk X pins H' b := by
 refine ⟨hn, Nat.ne_of_gt (Nat.lt_of_lt_of_le I.lt hb), I.nofs hb, .inr (Nat.le_trans I.sz hb), fun x c e z => ?_, fun p hp z => ?_⟩
 ·obtain ⟨v, q⟩ := I.cell x c e
  exact absurd (Nat.lt_of_lt_of_le q.lt (by rw [z]; exact hb)) (Nat.lt_irrefl _)
 ·exact absurd (Nat.lt_of_lt_of_le (Heap.lt_size (I.pin p hp).1) (by rw [z]; exact hb)) (Nat.lt_irrefl _)
structure Turn (P : Program) (w : World) (K : PySem.W.Frag) (tg : Expr) (J : It) (fp : List Addr) (it : Addr) (tn : Nat -> Heap -> Prop) : Prop where
 mem : it ∈ fp
 obj : ∀ i h, tn i h -> ∀ b ∈ fp, ∃ o, h.get? b = some o /\ ∀ v, o.data ≠ .cell v
 keep : ∀ i h h', tn i h -> (∀ b ∈ fp, ∀ o, h.get? b = some o -> h'.get? b = some o) -> tn i h'
 item : ∀ (X : Cx), X.prog = P -> X.w = w -> X.K = K -> X.calm = true -> ∀ (i : Nat) (pins : List (Addr × Obj)) (s : Shared) (σ : St) (H : Hp) (E : Value -> Shared -> Prop), Inv X pins σ H s -> (∀ b ∈ fp, FpOk X pins H b) -> tn i s.heap -> J.go i H ->
  wpAny (model P w) X.A (pyNext (.ref it)) (fun r s1 => ∃ u, r = some u /\
   wpAny (model P w) X.A (letOwnedTupleGo tg (.ref it) u) (fun _ s2 => ∃ x H', Inv X pins σ H' s2 /\ RelV x u /\ J.yld i H x H' /\ tn (i + 1) s2.heap /\ ∀ b ∈ fp, H' b = none) E s1) E s
 done : ∀ (X : Cx), X.prog = P -> X.w = w -> X.K = K -> X.calm = true -> ∀ (i : Nat) (pins : List (Addr × Obj)) (s : Shared) (σ : St) (H : Hp) (E : Value -> Shared -> Prop), Inv X pins σ H s -> (∀ b ∈ fp, FpOk X pins H b) -> tn i s.heap -> J.stop i H ->
  wpAny (model P w) X.A (pyNext (.ref it)) (fun r s1 => r = none /\ Inv X pins σ H s1) E s
 self : ∀ (A : Around) (i : Nat) (s : Shared) (Q : Value -> Shared -> Prop) (E : Value -> Shared -> Prop), tn i s.heap -> Q (.ref it) s -> wpAny (model P w) A (pyIter (.ref it)) Q E s
noncomputable abbrev TI := St -> Hp -> (It -> Hp -> Prop) -> Prop
noncomputable def PIE (X : Cx) (pins : List (Addr × Obj)) (σ : St) (tg : Expr) (R : It -> Hp -> Prop) (itv : Value) (s2 : Shared) : Prop :=
 ∃ (it : Addr) (fp : List Addr) (tn : Nat -> Heap -> Prop) (J : It) (H' : Hp), itv = .ref it /\ Inv X pins σ H' s2 /\ Turn X.prog X.w X.K tg J fp it tn /\ tn 0 s2.heap /\ (∀ b ∈ fp, FpOk X pins H' b) /\ R J H'
noncomputable def PI (X : Cx) (tg iter : Expr) (wi : TI) : Prop :=
 ∀ (pins : List (Addr × Obj)) (s : Shared) (σ : St) (H : Hp) (R : It -> Hp -> Prop), Inv X pins σ H s -> wi σ H R ->
  wpAny (model X.prog X.w) X.A (eval iter X.env) (fun v s1 => wpAny (model X.prog X.w) X.A (pyIter v) (PIE X pins σ tg R) X.xe s1) X.xe s
theorem go_of {M : Model} {A : Around} {E : Value -> Shared -> Prop} {s : Shared} {tg : Expr} {it : Addr} {u : Value} {o : Obj} {n : String} {vs : Array Value} {Q : Unit -> Shared -> Prop} (ho : s.heap.get? it = some o) (hc : o.cls = .type n) (hd : o.data = .fields vs)
    (hn : ["enumerate", "zip", "dict_itemiterator", "dict_reverseitemiterator", "odict_iterator", "itertools.zip_longest", "itertools.pairwise"].contains n = false) (hQ : Q () s) : wpAny M A (letOwnedTupleGo tg (.ref it) u) Q E s := by
  unfold letOwnedTupleGo
  cases tg <;> first
    | exact wpAny_pure hQ
    | (cases u <;> first
        | exact wpAny_pure hQ
        | (refine wpAny_bind (wpAny_load ho ?_)
           rw [hc, hd]
           show wpAny M A (if (["enumerate", "zip", "dict_itemiterator", "dict_reverseitemiterator", "odict_iterator", "itertools.zip_longest", "itertools.pairwise"].contains n && vs[0]? == some (rawInt _)) = true then _ else _) Q E s
           rw [if_neg (by intro h; rw [hn, Bool.false_and] at h; cases h)]
           exact wpAny_pure hQ))
noncomputable def Itl (K : PySem.W.Frag) (a : Addr) : It :=
 ⟨fun i H => ∃ xs x, SqL K H a xs /\ xs[i]? = some x, fun i H x H' => H' = H /\ ∀ xs, SqL K H a xs -> xs[i]? = some x, fun i H => ∃ xs, SqL K H a xs /\ xs.length <= i⟩
noncomputable def Itt (K : PySem.W.Frag) (a : Addr) : It :=
 ⟨fun i H => ∃ xs x, SqT K H a xs /\ xs[i]? = some x, fun i H x H' => H' = H /\ ∀ xs, SqT K H a xs -> xs[i]? = some x, fun i H => ∃ xs, SqT K H a xs /\ xs.length <= i⟩
noncomputable def Itr (lo : Int) (n : Nat) : It := ⟨fun i _ => i < n, fun i H x H' => H' = H /\ x = .int (lo + i), fun i _ => n <= i⟩
theorem turn_list {P : Program} {w : World} {K : PySem.W.Frag} {tg : Expr} (a it : Addr) : Turn P w K tg (Itl K a) [it] it (fun i h => h.IsListIter it a i) where
 mem := by simp
 obj := fun i h st b hb => by
  have e : b = it := by simpa using hb
  subst e
  obtain ⟨o, e, c, d⟩ := st
  exact ⟨o, e, fun v z => by rw [d] at z; cases z⟩
 keep := fun i h h' st k => st.at fun o e => k it (by simp) o e
 item := by
  intro X hP hw hK hc i pins s σ H E I hf st hg
  subst hP hw hK
  obtain ⟨xs, x, hq, hx⟩ := hg
  obtain ⟨its, rv, p, hz⟩ := I.list hq
  obtain ⟨u, hu, ru⟩ := rv.get hx
  obtain ⟨f0, f1, f2, f3, f4, f5⟩ := hf it (by simp)
  refine wpAny_pyNext_list_item st p.isList (x := u) (by simpa using hu) fun h' st' sb => ?_
  have I1 : Inv X pins σ H { s with heap := h' } := I.turned (t' := s.toks) (fun b o hb e => (sb.2 b hb).trans e) f0 f1 f3 f4 f5
  obtain ⟨o, e, c, d⟩ := id st'
  exact ⟨u, rfl, go_of (s := { s with heap := h' }) e c d (by decide) ⟨x, H, I1, ru, ⟨rfl, fun ys hy => by rw [I.list_inj hy hq]; exact hx⟩, st', fun b hb => (hf b hb).1⟩⟩
 done := by
  intro X hP hw hK hc i pins s σ H E I hf st hg
  subst hP hw hK
  obtain ⟨xs, hq, hx⟩ := hg
  obtain ⟨its, rv, p, hz⟩ := I.list hq
  obtain ⟨f0, f1, f2, f3, f4, f5⟩ := hf it (by simp)
  have hl := rv.length
  exact wpAny_pyNext_list_end (I.ok.hd hc) st p.isList (by simp; omega) fun h' eb => ⟨rfl, I.turned (t' := s.toks) (fun b o hb e => eb b o hb e) f0 f1 f3 f4 f5⟩
 self := fun _ _ _ _ _ st h => wpAny_pyIter_listiter st h
theorem turn_tuple {P : Program} {w : World} {K : PySem.W.Frag} {tg : Expr} (a it : Addr) : Turn P w K tg (Itt K a) [it] it (fun i h => h.IsTupleIter it a i) where
 mem := by simp
 obj := fun i h st b hb => by
  have e : b = it := by simpa using hb
  subst e
  obtain ⟨o, e, c, d⟩ := st
  exact ⟨o, e, fun v z => by rw [d] at z; cases z⟩
 keep := fun i h h' st k => st.at fun o e => k it (by simp) o e
 item := by
  intro X hP hw hK hc i pins s σ H E I hf st hg
  subst hP hw hK
  obtain ⟨xs, x, hq, hx⟩ := hg
  obtain ⟨its, rv, p, hz⟩ := I.tuple hq
  obtain ⟨u, hu, ru⟩ := rv.get hx
  obtain ⟨f0, f1, f2, f3, f4, f5⟩ := hf it (by simp)
  refine wpAny_pyNext_tuple_item st (show s.heap.IsTuple a its.toArray from p) (x := u) (by simpa using hu) fun h' st' sb => ?_
  have I1 : Inv X pins σ H { s with heap := h' } := I.turned (t' := s.toks) (fun b o hb e => (sb.2 b hb).trans e) f0 f1 f3 f4 f5
  obtain ⟨o, e, c, d⟩ := id st'
  exact ⟨u, rfl, go_of (s := { s with heap := h' }) e c d (by decide) ⟨x, H, I1, ru, ⟨rfl, fun ys hy => by rw [I.tuple_inj hy hq]; exact hx⟩, st', fun b hb => (hf b hb).1⟩⟩
 done := by
  intro X hP hw hK hc i pins s σ H E I hf st hg
  subst hP hw hK
  obtain ⟨xs, hq, hx⟩ := hg
  obtain ⟨its, rv, p, hz⟩ := I.tuple hq
  obtain ⟨f0, f1, f2, f3, f4, f5⟩ := hf it (by simp)
  have hl := rv.length
  exact wpAny_pyNext_tuple_end (I.ok.hd hc) st (show s.heap.IsTuple a its.toArray from p) (by simp; omega) fun h' eb => ⟨rfl, I.turned (t' := s.toks) (fun b o hb e => eb b o hb e) f0 f1 f3 f4 f5⟩
 self := fun _ _ _ _ _ st h => wpAny_pyIter_tupleiter st h
theorem turn_range {P : Program} {w : World} {K : PySem.W.Frag} {tg : Expr} (it : Addr) (lo : Int) (n : Nat) : Turn P w K tg (Itr lo n) [it] it (fun i h => IsRangeIter h it (lo + (i : Nat) * 1) ((n : Int) - (i : Nat)) 1) where
 mem := by simp
 obj := fun i h st b hb => by
  have e : b = it := by simpa using hb
  subst e
  exact ⟨_, st, fun v z => by
   have z' : Data.fields _ = Data.cell v := z
   cases z'⟩
 keep := fun i h h' st k => k it (by simp) _ st
 item := by
  intro X hP hw hK hc i pins s σ H E I hf st hg
  subst hP hw hK
  obtain ⟨f0, f1, f2, f3, f4, f5⟩ := hf it (by simp)
  have W := Walks.range (prog := X.prog) (w := X.w) (I.ok.hd hc) it lo 1 n
  refine W.item i s _ _ hg st fun v h' tk hv st' kk => ?_
  obtain ⟨t, rfl⟩ := hv
  have I1 : Inv X pins σ H { s with heap := h', toks := tk } := I.turned (fun b o hb e => kk b o (by simpa using hb) e) f0 f1 f3 f4 f5
  refine ⟨_, rfl, go_of (s := { s with heap := h', toks := tk }) (n := "range_iterator") st' rfl rfl (by decide) ⟨.int (lo + i), H, I1, ⟨t, ?_⟩, ⟨rfl, rfl⟩, st', fun b hb => (hf b hb).1⟩⟩
  rw [Int.mul_one]
 done := by
  intro X hP hw hK hc i pins s σ H E I hf st hg
  subst hP hw hK
  obtain ⟨f0, f1, f2, f3, f4, f5⟩ := hf it (by simp)
  exact wpAny_pyNext_range_end (I.ok.hd hc) st (by have : n <= i := hg; omega) fun h' eb => ⟨rfl, I.turned (t' := s.toks) (fun b o hb e => eb b o hb e) f0 f1 f3 f4 f5⟩
 self := fun _ _ _ _ _ st h => wpAny_pyIter_rangeiter st h
end L2
namespace L2
open PySem PySem.Spec PyProof.Rows
section
variable {X : Cx} {tg : Expr}
noncomputable def iList (K : PySem.W.Frag) (tl : TE) : TI := fun σ H R => tl σ H fun x H1 => ∃ a, x = .ref a /\ (∃ xs, SqL K H1 a xs) /\ R (Itl K a) H1
noncomputable def iTup (K : PySem.W.Frag) (tl : TE) : TI := fun σ H R => tl σ H fun x H1 => ∃ a, x = .ref a /\ (∃ xs, SqT K H1 a xs) /\ R (Itt K a) H1
theorem pi_list {l : Expr} {tl : TE} (hl : PE X l tl) : PI X tg l (iList X.K tl) := by
 intro pins s σ H R I h
 refine thn (hl pins s σ H _ I h) fun v s1 hh0_ => ?_
 obtain ⟨x, H1, I1, r1, q1⟩ := hh0_
 obtain ⟨a, e, ⟨xs, hq⟩, q⟩ := q1
 subst e
 cases r1
 obtain ⟨its, rv, p, hz⟩ := I1.list hq
 refine wpAny_pyIter_list p.isList ?_
 refine ⟨s1.heap.objs.size, [s1.heap.objs.size], _, _, H1, rfl, I1.kept (t' := s1.toks) fun b o e => Heap.get?_push_of_some _ e, turn_list a _, ⟨_, Heap.get?_push_size _ rfl, rfl, rfl⟩, fun b hb => ?_, q⟩
 have e : b = s1.heap.objs.size := by simpa using hb
 subst e
 exact I1.fpOk (Nat.le_refl _) (I1.hok.fresh (Nat.le_refl _))
theorem pi_tup {l : Expr} {tl : TE} (hl : PE X l tl) : PI X tg l (iTup X.K tl) := by
 intro pins s σ H R I h
 refine thn (hl pins s σ H _ I h) fun v s1 hh0_ => ?_
 obtain ⟨x, H1, I1, r1, q1⟩ := hh0_
 obtain ⟨a, e, ⟨xs, hq⟩, q⟩ := q1
 subst e
 cases r1
 obtain ⟨its, rv, p, hz⟩ := I1.tuple hq
 refine wpAny_pyIter_tuple (show s1.heap.IsTuple a its.toArray from p) ?_
 refine ⟨s1.heap.objs.size, [s1.heap.objs.size], _, _, H1, rfl, I1.kept (t' := s1.toks) fun b o e => Heap.get?_push_of_some _ e, turn_tuple a _, ⟨_, Heap.get?_push_size _ rfl, rfl, rfl⟩, fun b hb => ?_, q⟩
 have e : b = s1.heap.objs.size := by simpa using hb
 subst e
 exact I1.fpOk (Nat.le_refl _) (I1.hok.fresh (Nat.le_refl _))
theorem range_it {pins : List (Addr × Obj)} {σ : St} {H : Hp} {s : Shared} {R : It -> Hp -> Prop} {E : Value -> Shared -> Prop} {lo hi : Int} {t u v : Tok} {tk : Nat} (I : Inv X pins σ H s) (h1 : -(2 ^ 62) <= lo) (h2 : lo < 2 ^ 62) (h3 : -(2 ^ 62) <= hi) (h4 : hi < 2 ^ 62)
  (q : R (Itr lo (hi - lo).toNat) H) : wpAny (model X.prog X.w) X.A (pyIter (.ref s.heap.objs.size)) (PIE X pins σ tg R) E { s with heap := s.heap.push { cls := .type "range", data := .fields #[.int lo t, .int hi u, .int 1 v] }, toks := tk } := by
 refine wpAny_pyIter_range (IsRange.new ..) (small_one h1 h2 h3 h4) ?_
 have I1 : Inv X pins σ H { s with heap := s.heap.push { cls := .type "range", data := .fields #[.int lo t, .int hi u, .int 1 v] }, toks := tk } := I.kept fun b o e => Heap.get?_push_of_some _ e
 refine ⟨(s.heap.push { cls := .type "range", data := .fields #[.int lo t, .int hi u, .int 1 v] }).objs.size, [(s.heap.push { cls := .type "range", data := .fields #[.int lo t, .int hi u, .int 1 v] }).objs.size], _, _, H, rfl,
  I1.kept (t' := tk) fun b o e => Heap.get?_push_of_some _ e, turn_range _ lo (hi - lo).toNat, ?_, fun b hb => ?_, q⟩
 ·have e1 : lo + ((0 : Nat) : Int) * 1 = lo := by simp
  have e2 : (((hi - lo).toNat : Nat) : Int) - ((0 : Nat) : Int) = Builtin.Range.rangeSize lo hi 1 := by rw [rangeSize_one]; split <;> omega
  show IsRangeIter _ _ (lo + ((0 : Nat) : Int) * 1) ((((hi - lo).toNat : Nat) : Int) - ((0 : Nat) : Int)) 1
  rw [e1, e2]
  exact Heap.get?_push_size _ rfl
 ·have e : b = (s.heap.push { cls := .type "range", data := .fields #[.int lo t, .int hi u, .int 1 v] }).objs.size := by simpa using hb
  subst e
  exact I1.fpOk (Nat.le_refl _) (I1.hok.fresh (Nat.le_refl _))
noncomputable def iRng1 (ta : TA) : TI := fun σ H R => ta σ H fun vs H1 => ∃ j : Int, vs = [.int j] /\ -(2 ^ 62) <= j /\ j < 2 ^ 62 /\ R (Itr 0 j.toNat) H1
theorem pi_range1 {a : Expr} {ta : TA} {p pos : Pos} (hg : Gl X "range") (hm : X.mg "range" = none) (ha : PA X [a] ta) (hs : starEach [a] X.env = [(false, eval a X.env)]) : PI X tg (.Call (.Name "range" p) [a] [] pos) (iRng1 ta) := by
 intro pins s σ H R I h
 refine Call_ (ld_blt I hg hm boot_range (PyProof.Rows.callWith_type1 (thn (ha pos pins s σ H _ I h) fun us s1 hh0_ => ?_) hs rfl))
 obtain ⟨vs, H1, I1, r1, q1⟩ := hh0_
 obtain ⟨j, e, q1, q2, q⟩ := q1
 subst e
 cases r1 with
 | cons r rr =>
  cases rr
  obtain ⟨t, rfl⟩ := r
  exact call_range_1 (range_it I1 (by omega) (by omega) q1 q2 (by simpa using q))
noncomputable def tFor (wi : TI) (g : TG) (tb : TS) : TS := fun D σ H => wi σ H fun J H1 => ∃ W : Nat -> Nat -> St -> Hp -> Prop, (∃ m, W 0 m σ H1) /\ ∀ i m σ H, W i m σ H ->
 (J.stop i H /\ D.nx σ H) \/ (J.go i H /\ ∃ N : St -> Hp -> Prop, (∀ σ' H', N σ' H' -> ∃ m', m' < m /\ W (i + 1) m' σ' H') /\ ∀ x H', J.yld i H x H' -> g x σ H' fun σ2 H2 => tb { D with nx := N, ct := N, bk := D.nx } σ2 H2)
noncomputable def pinsAt (fp : List Addr) (h : Heap) : List (Addr × Obj) := fp.filterMap fun b => (h.get? b).map fun o => (b, o)
theorem mem_pinsAt {fp : List Addr} {h : Heap} {b : Addr} {o : Obj} (hb : b ∈ fp) (e : h.get? b = some o) : (b, o) ∈ pinsAt fp h := List.mem_filterMap.mpr ⟨b, hb, by rw [e]; rfl⟩
theorem of_pinsAt {fp : List Addr} {h : Heap} {p : Addr × Obj} (hp : p ∈ pinsAt fp h) : p.1 ∈ fp /\ h.get? p.1 = some p.2 := by
 obtain ⟨b, hb, e⟩ := List.mem_filterMap.mp hp
 cases q : h.get? b with
 | none => rw [q] at e; cases e
 | some o =>
  rw [q] at e
  have e' : (b, o) = p := Option.some.inj e
  subst e'
  exact ⟨hb, q⟩
theorem Inv.pinned {pins : List (Addr × Obj)} {σ : St} {H : Hp} {s : Shared} {fp : List Addr} (I : Inv X pins σ H s) (hf : ∀ b ∈ fp, FpOk X pins H b) (ho : ∀ b ∈ fp, ∃ o, s.heap.get? b = some o /\ ∀ v, o.data ≠ .cell v) : Inv X (pins ++ pinsAt fp s.heap) σ H s :=
 I.pins_of fun p hp => (List.mem_append.mp hp).elim (fun z => I.pin p (List.mem_append_right _ z)) fun z => by
  obtain ⟨hb, e⟩ := of_pinsAt z
  obtain ⟨f0, f1, f2, _⟩ := hf p.1 hb
  obtain ⟨o, e', d⟩ := ho p.1 hb
  rw [e] at e'; cases e'
  exact ⟨e, f0, f1, f2, d⟩
theorem Inv.unpinned {pins pl : List (Addr × Obj)} {σ : St} {H : Hp} {s : Shared} (I : Inv X (pins ++ pl) σ H s) : Inv X pins σ H s := I.pins_of fun p hp => I.pin p (List.mem_append_right _ (List.mem_append_left _ hp))
theorem ps_for {iter : Expr} {body : List Stmt} {wi : TI} {g : TG} {tb : TS} {pos : Pos} (hp : PassesOwn (model X.prog X.w) X.A X.env X.xe) (hc : X.calm = true) (hi : PI X tg iter wi) (hg : PG X tg g) (hb : PSs X body tb)
  (hs : ∀ x, foldedSetIterable iter X.env x = pure x) : PS X (.For tg iter body [] pos) (tFor wi g tb) := by
 intro pins s σ H D I h
 refine wpAny_For (thn (hi pins s σ H _ I h) fun v s1 h1 => thn h1 fun itv s2 h2 => ?_) hs
 obtain ⟨it, fp, tn, J, H2, e, I2, T, st2, f2, W, ⟨m0, w0⟩, turn⟩ := h2
 subst e
 have stat : ∀ {H' : Hp}, (∀ b ∈ fp, H' b = none) -> ∀ b ∈ fp, FpOk X pins H' b := fun hn b hb => ⟨hn b hb, (f2 b hb).2⟩
 refine codeAny_forLoop_any (fun n s' => ∃ i σ' H', Inv X pins σ' H' s' /\ tn i s'.heap /\ (∀ b ∈ fp, H' b = none) /\ W i n σ' H') ?_ m0 ⟨0, σ, H2, I2, st2, fun b hb => (f2 b hb).1, w0⟩
 rintro n s3 ⟨i, σ3, H3, I3, st3, fr3, w3⟩
 rcases turn i n σ3 H3 w3 with ⟨stop, qn⟩ | ⟨go, N, hN, step⟩
 ·refine wpAny_passesOwn hp (thn (T.done X rfl rfl rfl hc i pins s3 σ3 H3 X.xe I3 (stat fr3) st3 stop) fun r s4 hh0_ => ?_)
  obtain ⟨hr, I4⟩ := hh0_
  subst hr
  exact wpAny_execs_nil ⟨σ3, H3, I4, qn⟩
 ·refine wpAny_passesOwn hp (thn (T.item X rfl rfl rfl hc i pins s3 σ3 H3 X.xe I3 (stat fr3) st3 go) fun r s4 hh0_ => ?_)
  obtain ⟨u, hr, h4⟩ := hh0_
  subst hr
  refine wpAny_passesOwn hp (thn h4 fun _ s5 hh0_ => ?_)
  obtain ⟨x, H5, I5, r5, y5, st5, fr5⟩ := hh0_
  have I5' := I5.pinned (stat fr5) (T.obj _ _ st5)
  refine wpAny_passesOwn hp (thn (hg _ s5 σ3 H5 x u _ I5' r5 (step x H5 y5)) fun _ s6 hh0_ => ?_)
  obtain ⟨σ6, H6, I6, q6⟩ := hh0_
  refine wpAny_passesOwn hp (thn (hb _ s6 σ6 H6 _ I6 q6) fun f s7 q7 => ?_)
  have again : ∀ {σ7 : St} {H7 : Hp}, Inv X (pins ++ pinsAt fp s5.heap) σ7 H7 s7 -> N σ7 H7 -> ∃ m, m < n /\ ∃ i σ' H', Inv X pins σ' H' s7 /\ tn i s7.heap /\ (∀ b ∈ fp, H' b = none) /\ W i m σ' H' := fun {σ7 H7} I7 n7 => by
   obtain ⟨m', hm, w7⟩ := hN σ7 H7 n7
   refine ⟨m', hm, i + 1, σ7, H7, I7.unpinned, T.keep _ _ _ st5 fun b hb o e => (I7.pin (b, o) (List.mem_append_right _ (List.mem_append_right _ (mem_pinsAt hb e)))).1, fun b hb => ?_, w7⟩
   obtain ⟨o, e, d⟩ := T.obj _ _ st5 b hb
   exact (I7.pin (b, o) (List.mem_append_right _ (List.mem_append_right _ (mem_pinsAt hb e)))).2.1
  cases f with
  | next => obtain ⟨σ7, H7, I7, n7⟩ := q7; exact again I7 n7
  | cont => obtain ⟨σ7, H7, I7, n7⟩ := q7; exact again I7 n7
  | brk => obtain ⟨σ7, H7, I7, q7⟩ := q7; exact ⟨σ7, H7, I7.unpinned, q7⟩
  | ret v => obtain ⟨x7, σ7, H7, I7, r7, q7⟩ := q7; exact ⟨x7, σ7, H7, I7.unpinned, r7, q7⟩
end
end L2
namespace L2
open PySem PySem.Spec PyProof.Rows
noncomputable abbrev R2 := V -> V -> Hp -> VK -> Prop
noncomputable def OpR (X : Cx) (f : Value -> Value -> Sem Value) (r : R2) : Prop :=
 ∀ (pins : List (Addr × Obj)) (s : Shared) (σ : St) (H : Hp) (x y : V) (v u : Value) (Q : VK), Inv X pins σ H s -> RelV x v -> RelV y u -> r x y H Q ->
  wpAny (model X.prog X.w) X.A (f v u) (EP X pins σ Q) X.xe s
noncomputable def UnR (X : Cx) (f : Value -> Sem Value) (r : V -> Hp -> VK -> Prop) : Prop :=
 ∀ (pins : List (Addr × Obj)) (s : Shared) (σ : St) (H : Hp) (x : V) (v : Value) (Q : VK), Inv X pins σ H s -> RelV x v -> r x H Q ->
  wpAny (model X.prog X.w) X.A (f v) (EP X pins σ Q) X.xe s
noncomputable def CallR (X : Cx) (f : Value) (r : List V -> Hp -> VK -> Prop) : Prop :=
 ∀ (pins : List (Addr × Obj)) (s : Shared) (σ : St) (H : Hp) (xs : List V) (us : List Value) (Q : VK), Inv X pins σ H s -> Vals xs us -> r xs H Q ->
  wpAny (model X.prog X.w) X.A (call f us) (EP X pins σ Q) X.xe s
noncomputable def TruR (X : Cx) (r : V -> Hp -> (Bool -> Hp -> Prop) -> Prop) : Prop :=
 ∀ (pins : List (Addr × Obj)) (s : Shared) (σ : St) (H : Hp) (x : V) (v : Value) (Q : Bool -> Hp -> Prop), Inv X pins σ H s -> RelV x v -> r x H Q ->
  wpAny (model X.prog X.w) X.A (truthy v) (TP X pins σ Q) X.xe s
noncomputable def tOp (r : R2) (ta tb : TE) : TE := fun σ H Q => ta σ H fun x H1 => tb σ H1 fun y H2 => r x y H2 Q
noncomputable def tUn (r : V -> Hp -> VK -> Prop) (ta : TE) : TE := fun σ H Q => ta σ H fun x H1 => r x H1 Q
noncomputable def rI (C : Int -> Int -> Prop) (g : Int -> Int -> V) : R2 := fun x y H Q => ∃ i j, x = .int i /\ y = .int j /\ C i j /\ Q (g i j) H
noncomputable def rI0 (g : Int -> Int -> V) : R2 := fun x y H Q => ∃ i j, x = .int i /\ y = .int j /\ Q (g i j) H
noncomputable def rU (g : Int -> V) : V -> Hp -> VK -> Prop := fun x H Q => ∃ i, x = .int i /\ Q (g i) H
section
variable {X : Cx} {a b c : Expr} {ta tb tc : TE} {pos : Pos}
theorem binT (ha : PE X a ta) (hb : PE X b tb) {pins : List (Addr × Obj)} {s : Shared} {σ : St} {H : Hp} {R : V -> V -> Hp -> Prop} (I : Inv X pins σ H s)
  (h : ta σ H fun x H1 => tb σ H1 fun y H2 => R x y H2) {Q : Value -> Shared -> Prop} {f : Value -> Value -> Sem Value}
  (hf : ∀ v u s2 x y H2, Inv X pins σ H2 s2 -> RelV x v -> RelV y u -> R x y H2 -> wpAny (model X.prog X.w) X.A (f v u) Q X.xe s2) :
  wpAny (model X.prog X.w) X.A (eval a X.env) (fun v s₁ => wpAny (model X.prog X.w) X.A (eval b X.env) (fun u s₂ => wpAny (model X.prog X.w) X.A (f v u) Q X.xe s₂) X.xe s₁) X.xe s := by
 refine thn (ha pins s σ H _ I h) fun v s1 hh0_ => ?_
 obtain ⟨x, H1, I1, r1, q1⟩ := hh0_
 refine thn (hb pins s1 σ H1 _ I1 q1) fun u s2 hh0_ => ?_
 obtain ⟨y, H2, I2, r2, q2⟩ := hh0_
 exact hf v u s2 x y H2 I2 r1 r2 q2
theorem pe_op {op : Operator} {r : R2} (ho : OpR X (binaryOp op) r) (ha : PE X a ta) (hb : PE X b tb) : PE X (.BinOp a op b pos) (tOp r ta tb) := by
 intro pins s σ H Q I h
 exact wpAny_BinOp (binT ha hb I h fun v u s2 x y H2 I2 rx ry q => ho pins s2 σ H2 x y v u Q I2 rx ry q)
theorem pe_un {op : UnaryOp} {r : V -> Hp -> VK -> Prop} (ho : UnR X (unaryOp op) r) (ha : PE X a ta) : PE X (.UnaryOp op a pos) (tUn r ta) := by
 intro pins s σ H Q I h
 exact UnaryOp_ (thn (ha pins s σ H _ I h) fun v s1 ⟨x, H1, I1, r1, q1⟩ => ho pins s1 σ H1 x v Q I1 r1 q1)
theorem opI {f : Value -> Value -> Sem Value} {C : Int -> Int -> Prop} {g : Int -> Int -> Int}
  (rule : ∀ (i j : Int) (t u : Tok) (s : Shared) (Q : Value -> Shared -> Prop) (E : Value -> Shared -> Prop), C i j -> Q (.int (g i j) s.toks) { s with toks := s.toks + 1 } -> wpAny (model X.prog X.w) X.A (f (.int i t) (.int j u)) Q E s) :
  OpR X f (rI C fun i j => .int (g i j)) := by
 intro pins s σ H x y v u Q I rx ry h
 obtain ⟨i, j, rfl, rfl, hc, q⟩ := h
 obtain ⟨t, rfl⟩ := rx
 obtain ⟨t', rfl⟩ := ry
 exact rule i j t t' s _ _ hc ⟨.int (g i j), H, I.tok _, ⟨_, rfl⟩, q⟩
theorem opI0 {f : Value -> Value -> Sem Value} {g : Int -> Int -> Int}
  (rule : ∀ (i j : Int) (t u : Tok) (s : Shared) (Q : Value -> Shared -> Prop) (E : Value -> Shared -> Prop), Q (.int (g i j) s.toks) { s with toks := s.toks + 1 } -> wpAny (model X.prog X.w) X.A (f (.int i t) (.int j u)) Q E s) :
  OpR X f (rI0 fun i j => .int (g i j)) := by
 intro pins s σ H x y v u Q I rx ry h
 obtain ⟨i, j, rfl, rfl, q⟩ := h
 obtain ⟨t, rfl⟩ := rx
 obtain ⟨t', rfl⟩ := ry
 exact rule i j t t' s _ _ ⟨.int (g i j), H, I.tok _, ⟨_, rfl⟩, q⟩
theorem opB0 {f : Value -> Value -> Sem Value} {g : Int -> Int -> Bool}
  (rule : ∀ (i j : Int) (t u : Tok) (s : Shared) (Q : Value -> Shared -> Prop) (E : Value -> Shared -> Prop), Q (.bool (g i j)) s -> wpAny (model X.prog X.w) X.A (f (.int i t) (.int j u)) Q E s) :
  OpR X f (rI0 fun i j => .bl (g i j)) := by
 intro pins s σ H x y v u Q I rx ry h
 obtain ⟨i, j, rfl, rfl, q⟩ := h
 obtain ⟨t, rfl⟩ := rx
 obtain ⟨t', rfl⟩ := ry
 exact rule i j t t' s _ _ ⟨.bl (g i j), H, I, rfl, q⟩
noncomputable def CPow (i j : Int) : Prop := 0 <= j /\ j <= 1000000 /\ i.natAbs < 2 ^ 64
noncomputable def CMul (i j : Int) : Prop := (-(2 ^ 64) < i /\ i < 2 ^ 64) \/ (-(2 ^ 64) < j /\ j < 2 ^ 64)
theorem CMul.ok {i j : Int} (h : CMul i j) : IntMulOk i j := by
 rcases h with ⟨h1, h2⟩ | ⟨h1, h2⟩
 ·exact .of_left (intBits_le_64 h1 h2)
 ·exact .of_right (intBits_le_64 h1 h2)
theorem op_add : OpR X (binaryOp .Add) (rI0 fun i j => .int (i + j)) := opI0 fun _ _ _ _ _ _ _ q => add_int q
theorem op_sub : OpR X (binaryOp .Sub) (rI0 fun i j => .int (i - j)) := opI0 fun _ _ _ _ _ _ _ q => sub_int q
theorem op_modN : OpR X (binaryOp .Mod) (rI (fun _ j => j ≠ 0) fun i j => .int (i.fmod j)) := opI fun _ _ _ _ _ _ _ hc q => mod_int' hc q
theorem op_pow : OpR X (binaryOp .Pow) (rI CPow fun i j => .int (i ^ j.toNat)) := opI fun _ _ _ _ _ _ _ hc q => pow_int_small hc.1 hc.2.1 hc.2.2 q
theorem unI {f : Value -> Sem Value} {g : Int -> Int}
  (rule : ∀ (i : Int) (t : Tok) (s : Shared) (Q : Value -> Shared -> Prop) (E : Value -> Shared -> Prop), Q (.int (g i) s.toks) { s with toks := s.toks + 1 } -> wpAny (model X.prog X.w) X.A (f (.int i t)) Q E s) :
  UnR X f (rU fun i => .int (g i)) := by
 intro pins s σ H x v Q I rx h
 obtain ⟨i, rfl, q⟩ := h
 obtain ⟨t, rfl⟩ := rx
 exact rule i t s _ _ ⟨.int (g i), H, I.tok _, ⟨_, rfl⟩, q⟩
theorem un_neg : UnR X (unaryOp .USub) (rU fun i => .int (-i)) := unI fun _ _ _ _ _ q => neg_int q
end
section
variable {X : Cx} {a b c : Expr} {ta tb tc : TE} {pos : Pos}
theorem fin_bl {pins : List (Addr × Obj)} {σ : St} {H : Hp} {s : Shared} {Q : VK} {k k' : Bool} (I : Inv X pins σ H s) (q : Q (.bl k) H) (e : k = k') : EP X pins σ Q (.bool k') s := by
 subst e
 exact ⟨.bl k, H, I, rfl, q⟩
theorem op_lt : OpR X (compareOp .Lt) (rI0 fun i j => .bl (decide (i < j))) := opB0 fun _ _ _ _ _ _ _ q => lt_int q
theorem op_le : OpR X (compareOp .LtE) (rI0 fun i j => .bl (decide (i <= j))) := opB0 fun _ _ _ _ _ _ _ q => le_int q
theorem op_gt : OpR X (compareOp .Gt) (rI0 fun i j => .bl (decide (j < i))) := opB0 fun _ _ _ _ _ _ _ q => gt_int q
theorem op_ge : OpR X (compareOp .GtE) (rI0 fun i j => .bl (decide (j <= i))) := opB0 fun _ _ _ _ _ _ _ q => ge_int q
theorem op_in_str : OpR X (compareOp .In) (fun x y H Q => ∃ i j, x = .str i /\ y = .str j /\ Q (.bl (!(Builtin.Str.occurrences j i 0 j.length 1).isEmpty)) H) := by
 intro pins s σ H x y v u Q I rx ry h
 obtain ⟨i, j, rfl, rfl, q⟩ := h
 obtain ⟨t, rfl⟩ := rx
 obtain ⟨t', rfl⟩ := ry
 exact in_str (fin_bl I q rfl)
theorem op_isN : OpR X (compareOp .Is) (fun x y H Q => y = .non /\ Q (.bl (decide (x = .non))) H) := by
 intro pins s σ H x y v u Q I rx ry h
 obtain ⟨rfl, q⟩ := h
 cases ry
 refine is_none_gen (fin_bl I q ?_)
 cases x <;> first
  | (cases rx; rfl)
  | (obtain ⟨t, rfl⟩ := rx; rfl)
theorem op_notN : OpR X (compareOp .IsNot) (fun x y H Q => y = .non /\ Q (.bl (!decide (x = .non))) H) := by
 intro pins s σ H x y v u Q I rx ry h
 obtain ⟨rfl, q⟩ := h
 cases ry
 refine isnot_none_gen (fin_bl I q ?_)
 cases x <;> first
  | (cases rx; rfl)
  | (obtain ⟨t, rfl⟩ := rx; rfl)
theorem OpR.or {f : Value -> Value -> Sem Value} {r r' : R2} (h : OpR X f r) (h' : OpR X f r') : OpR X f (fun x y H Q => r x y H Q \/ r' x y H Q) := by
 intro pins s σ H x y v u Q I rx ry q
 rcases q with q | q
 ·exact h pins s σ H x y v u Q I rx ry q
 ·exact h' pins s σ H x y v u Q I rx ry q
theorem nomark (b : Expr) {op : CmpOp} (h : op ≠ .In := by decide) (h2 : op ≠ .NotIn := by decide) : behindInMarks op b = false := by
 have e1 : (op == CmpOp.In) = false := by cases op <;> first | rfl | exact absurd rfl h
 have e2 : (op == CmpOp.NotIn) = false := by cases op <;> first | rfl | exact absurd rfl h2
 cases b <;> simp [behindInMarks, e1, e2]
theorem pe_cmpR {op : CmpOp} {r : R2} (ho : OpR X (compareOp op) r) (ha : PE X a ta) (hb : PE X b tb) (hm : behindInMarks op b = false) : PE X (.Compare a [op] [b] pos) (tOp r ta tb) := by
 intro pins s σ H Q I h
 exact wpAny_Compare1 (binT ha hb I h fun v u s2 x y H2 I2 rx ry q => ho pins s2 σ H2 x y v u Q I2 rx ry q) hm
noncomputable def tTest (t : TE) : TT := fun σ H Q => t σ H fun x H' => ∃ k, x = .bl k /\ Q k H'
theorem pt_cmpR {op : CmpOp} {r : R2} (ho : OpR X (compareOp op) r) (ha : PE X a ta) (hb : PE X b tb) (hm : behindInMarks op b = false) : PT X (.Compare a [op] [b] pos) (tTest (tOp r ta tb)) := by
 intro pins s σ H Q I h
 refine wpAny_isTrue_Compare1 (thn (ha pins s σ H _ I h) fun v s1 ⟨x, H1, I1, r1, q1⟩ => thn (hb pins s1 σ H1 _ I1 q1) fun u s2 ⟨y, H2, I2, r2, q2⟩ =>
  thn (ho pins s2 σ H2 x y v u _ I2 r1 r2 q2) fun c s3 ⟨z, H3, I3, r3, k, e, q3⟩ => ?_) hm
 subst e
 cases r3
 exact wpAny_truthy_bool ⟨H3, I3, q3⟩
noncomputable def tChain (r r' : R2) (ta tb tc : TE) : TE := fun σ H Q => ta σ H fun x H1 => tb σ H1 fun y H2 => r x y H2 fun z H3 => ∃ k, z = .bl k /\
 (if k = true then tc σ H3 fun w' H4 => r' y w' H4 Q else Q (.bl false) H3)
theorem pt_chain {op op' : CmpOp} {r r' : R2} (ho : OpR X (compareOp op) r) (ho' : OpR X (compareOp op') r') (ha : PE X a ta) (hb : PE X b tb) (hc : PE X c tc)
  (hm : lastMarks [op, op'] [b, c] = false) : PT X (.Compare a [op, op'] [b, c] pos) (tTest (tChain r r' ta tb tc)) := by
 intro pins s σ H Q I h
 refine isTrue_chain (thn (ha pins s σ H _ I h) fun v s1 ⟨x, H1, I1, r1, q1⟩ => test_link (thn (hb pins s1 σ H1 _ I1 q1) fun u s2 ⟨y, H2, I2, r2, q2⟩ =>
  thn (ho pins s2 σ H2 x y v u _ I2 r1 r2 q2) fun d s3 ⟨z, H3, I3, r3, k, e, q3⟩ => ?_)) hm
 subst e
 cases r3
 refine wpAny_truthy_bool ?_
 cases k with
 | false =>
  obtain ⟨k', e', q'⟩ := q3
  cases e'
  exact ite_ff ⟨H3, I3, q'⟩
 | true =>
  refine ite_tt (test_last (thn (hc pins s3 σ H3 _ I3 q3) fun w' s4 ⟨z', H4, I4, r4, q4⟩ => thn (ho' pins s4 σ H4 y z' u w' _ I4 r2 r4 q4) fun d' s5 hh0_ => ?_))
  obtain ⟨z2, H5, I5, r5, k2, e2, q5⟩ := hh0_
  subst e2
  cases r5
  exact wpAny_truthy_bool ⟨H5, I5, q5⟩
noncomputable def TruV (K : PySem.W.Frag) (x : V) (H : Hp) (k : Bool) : Prop :=
 match x with
 | .non => k = false
 | .bl b => k = b
 | .int i => k = (i != 0)
 | .str y => y.length <= sizeLine /\ k = ((y.length : Int) != 0)
 | .byt y => y.size <= sizeLine /\ k = ((y.size : Int) != 0)
 | .ref p => (∃ xs, SqL K H p xs /\ k = !xs.isEmpty) \/ (∃ xs, SqT K H p xs /\ k = !xs.isEmpty) \/ ∃ kvs, H p = some (.dK kvs) /\ k = !kvs.isEmpty
 | _ => False
theorem isEmpty_kv {κ : Type} {kvs : List (κ × V)} {vs : List (κ × Value)} (r : KV kvs vs) : (!vs.isEmpty) = !kvs.isEmpty := by
 cases r <;> rfl
theorem isEmpty_of {xs : List V} {its : List Value} (r : Vals xs its) : (!its.toArray.isEmpty) = !xs.isEmpty := by
 cases r <;> simp
theorem line63 : (sizeLine : Nat) < 2 ^ 63 := by rw [sizeLine_eq]; decide
theorem tru_ok : TruR X (fun x H Q => ∃ k, TruV X.K x H k /\ Q k H) := by
 intro pins s σ H x v Q I rx h
 obtain ⟨k, e, q⟩ := h
 have hl := line63
 have hs : sizeLine = 16777216 := sizeLine_eq
 cases x with
 | non =>
  cases rx
  have e' : k = false := e
  subst e'
  exact truthy_none ⟨H, I, q⟩
 | bl b =>
  cases rx
  have e' : k = b := e
  subst e'
  exact wpAny_truthy_bool ⟨H, I, q⟩
 | int i =>
  obtain ⟨t, rfl⟩ := rx
  have e' : k = (i != 0) := e
  subst e'
  exact PySem.P.truthy_int ⟨H, I, q⟩
 | str y =>
  obtain ⟨t, rfl⟩ := rx
  obtain ⟨hy, e'⟩ : y.length <= sizeLine /\ k = ((y.length : Int) != 0) := e
  subst e'
  exact PySem.P.truthy_str (by omega) ⟨H, I.tok _, q⟩
 | byt y =>
  obtain ⟨t, rfl⟩ := rx
  obtain ⟨hy, e'⟩ : y.size <= sizeLine /\ k = ((y.size : Int) != 0) := e
  subst e'
  exact PySem.W.truthy_bytes (by omega) ⟨H, I.tok _, q⟩
 | ref p =>
  cases rx
  have e' : (∃ xs, SqL X.K H p xs /\ k = !xs.isEmpty) \/ (∃ xs, SqT X.K H p xs /\ k = !xs.isEmpty) \/ ∃ kvs, H p = some (.dK kvs) /\ k = !kvs.isEmpty := e
  rcases e' with ⟨xs, hx, e'⟩ | ⟨xs, hx, e'⟩ | ⟨kvs, hx, e'⟩
  ·subst e'
   obtain ⟨its, r, pl, hz⟩ := I.list hx
   have hlen := r.length
   exact wpAny_truthy_list pl.isList (by simp only [List.size_toArray]; omega) ⟨H, I.tok _, by rw [isEmpty_of r]; exact q⟩
  ·subst e'
   obtain ⟨its, r, pl, hz⟩ := I.tuple hx
   have hlen := r.length
   exact truthy_tuple pl (by simp only [List.size_toArray]; omega) ⟨H, I.tok _, by rw [isEmpty_of r]; exact q⟩
  ·subst e'
   obtain ⟨hz, hS, vs, r, m⟩ : kvs.length <= sizeLine /\ (p == sysModules) = false /\ ∃ vs, KV kvs vs /\ s.heap.DictOf (mixKind X.prog X.w) p vs := I.hok p _ hx
   have hlen : kvs.length = vs.length := Paired.length r
   exact wpAny_truthy_dict hS m (by omega) ⟨H, I.tok _, by rw [isEmpty_kv r]; exact q⟩
 | _ => exact (show False from e).elim
theorem pt_truth (ha : PE X a ta) (he : ∀ whole, isTrue a X.env whole = (do let v <- whole; standAt a.pos; holding [v] (truthy v))) :
  PT X a (fun σ H Q => ta σ H fun x H' => ∃ k, TruV X.K x H' k /\ Q k H') := by
 intro pins s σ H Q I h
 exact isTrue_plain (thn (ha pins s σ H _ I h) fun v s1 ⟨x, H1, I1, r1, q1⟩ => tru_ok pins s1 σ H1 x v Q I1 r1 q1) (he _)
theorem op_add_str : OpR X (binaryOp .Add) (fun x y H Q => ∃ i j, x = .str i /\ y = .str j /\ i.length + j.length <= sizeLine /\ Q (.str (i ++ j)) H) := by
 intro pins s σ H x y v u Q I rx ry h
 obtain ⟨i, j, rfl, rfl, hz, q⟩ := h
 obtain ⟨t, rfl⟩ := rx
 obtain ⟨t', rfl⟩ := ry
 exact add_str (fun t' tk => ⟨.str (i ++ j), H, I.tok _, ⟨_, rfl⟩, q⟩) hz
theorem vals1 {x : V} {us : List Value} (r : Vals [x] us) : ∃ u, us = [u] /\ RelV x u := by
 cases r with
 | cons r1 r2 => cases r2; exact ⟨_, rfl, r1⟩
theorem vals2 {x y : V} {us : List Value} (r : Vals [x, y] us) : ∃ u w', us = [u, w'] /\ RelV x u /\ RelV y w' := by
 cases r with
 | cons r1 r2 =>
  cases r2 with
  | cons r3 r4 => cases r4; exact ⟨_, _, rfl, r1, r3⟩
theorem call_abs : CallR X (.builtin "abs") (fun xs H Q => ∃ i, xs = [.int i] ∧ Q (.int (if i < 0 then -i else i)) H) := by
 intro pins s σ H xs us Q I r h
 obtain ⟨i, rfl, q⟩ := h
 obtain ⟨u, rfl, t, rfl⟩ := vals1 r
 exact call_abs_int fun u tk => ⟨.int (if i < 0 then -i else i), H, I.tok _, ⟨_, rfl⟩, q⟩
theorem call_max2 (hc : X.calm = true) : CallR X (.builtin "max") (fun xs H Q => ∃ i j, xs = [.int i, .int j] ∧ Q (.int (if j > i then j else i)) H) := by
 intro pins s σ H xs us Q I r h
 obtain ⟨i, j, rfl, q⟩ := h
 obtain ⟨u, w', rfl, ⟨t, rfl⟩, ⟨t', rfl⟩⟩ := vals2 r
 refine max_two_ints (I.ok.hd hc) fun h' tk k => ⟨_, H, I.kept k, ?_, q⟩
 by_cases hj : j > i
 ·rw [if_pos hj, if_pos hj]; exact ⟨_, rfl⟩
 ·rw [if_neg hj, if_neg hj]; exact ⟨_, rfl⟩
theorem call_min2 (hc : X.calm = true) : CallR X (.builtin "min") (fun xs H Q => ∃ i j, xs = [.int i, .int j] ∧ Q (.int (if j < i then j else i)) H) := by
 intro pins s σ H xs us Q I r h
 obtain ⟨i, j, rfl, q⟩ := h
 obtain ⟨u, w', rfl, ⟨t, rfl⟩, ⟨t', rfl⟩⟩ := vals2 r
 refine min_two_ints (I.ok.hd hc) fun h' tk k => ⟨_, H, I.kept k, ?_, q⟩
 by_cases hj : j < i
 ·rw [if_pos hj, if_pos hj]; exact ⟨_, rfl⟩
 ·rw [if_neg hj, if_neg hj]; exact ⟨_, rfl⟩
end
end L2
namespace L2
open PySem PySem.Spec PyProof.Rows
structure ObjM (h : Heap) (x dx C : Addr) (mA : Str -> Option Value) : Prop where
 obj : h.get? x = some (PySem.W.instObj C dx)
 ns : h.Ns1 dx mA
 ne : dx ≠ x
section
variable {prog : Program} {w : World} {A : Around} {E : Value -> Shared -> Prop} {s : Shared} {K : PySem.W.Frag} {x dx C f : Addr} {mA : Str -> Option Value} {name : Str} {v : Value}
end
theorem RelO.some_of {v : V} {o : Option Value} (r : RelO (some v) o) : ∃ u, o = some u /\ RelV v u := by
 cases o with
 | none => exact (show False from r).elim
 | some u => exact ⟨u, rfl, r⟩
section
variable {P : Program} {w : World} {H H' : Hp} {h h' : Heap} {a C dx : Addr} {fs fs' : List (Str × V)}
end
structure Cls (K : PySem.W.Frag) (C : Addr) : Prop where
 pg : PySem.W.plainGet K C Str.empty = true
 hd : PySem.W.hasDictIn K C = true
 po : PySem.W.plainOver K C = true
 sa : PySem.W.findIn K (.ref C) "__setattr__" = some (some (.builtin "object.__setattr__"))
theorem Cls.get {K : PySem.W.Frag} {C : Addr} (c : Cls K C) (f : Str) : PySem.W.plainGet K C f = true := c.pg
structure Con (K : PySem.W.Frag) (C : Addr) (f : Str) (v : V) (u : Value) : Prop where
 at_ : PySem.W.findIn K (.ref C) f = some (some u)
 rel : RelV v u
 get : PySem.W.specialIn K u "__get__" = some none
 cp : PySem.W.copiedNames.contains f = false
structure Meth (K : PySem.W.Frag) (C : Addr) (m : Str) (f : Addr) : Prop where
 at_ : PySem.W.findIn K (.ref C) m = some (some (.ref f))
 fn : PySem.W.isFn K (.ref f) = true
 kp : PySem.W.keepIn K (.ref f) = true
section
variable {X : Cx} {pins : List (Addr × Obj)} {σ : St} {H : Hp} {s : Shared} {a C dx : Addr} {fs : List (Str × V)} {f : Str} {v : V} {A : Around} {E : Value -> Shared -> Prop}
theorem Inv.made (I : Inv X pins σ H s) : Inv X pins σ (upd (upd H s.heap.objs.size (.own (s.heap.objs.size + 1))) (s.heap.objs.size + 1) (.ins C s.heap.objs.size []))
  { s with heap := (s.heap.push PySem.W.emptyDict).push (PySem.W.instObj C s.heap.objs.size) } := by
 have e1 : (s.heap.push PySem.W.emptyDict).get? s.heap.objs.size = some PySem.W.emptyDict := Heap.get?_push_size s.heap rfl
 have e2 : ((s.heap.push PySem.W.emptyDict).push (PySem.W.instObj C s.heap.objs.size)).get? (s.heap.objs.size + 1) = some (PySem.W.instObj C s.heap.objs.size) := by
  have := Heap.get?_push_size (s.heap.push PySem.W.emptyDict) (o := PySem.W.instObj C s.heap.objs.size) rfl
  rwa [Heap.size_push] at this
 have e3 : (s.heap.push PySem.W.emptyDict).Ns s.heap.objs.size (fun _ => none) := ⟨PySem.W.emptyDict, #[], _, e1, rfl, (fun e he => absurd he (by simp)), fun _ => rfl⟩
 have I1 := I.laid (a := s.heap.objs.size) (o := .own (s.heap.objs.size + 1)) (h' := s.heap.push PySem.W.emptyDict) (t' := s.toks) (fun b u q => Heap.get?_push_of_some _ q) (Nat.le_refl _) ⟨_, e1⟩
 refine I1.laid (a := s.heap.objs.size + 1) (o := .ins C s.heap.objs.size []) (t' := s.toks) (fun b u q => Heap.get?_push_of_some _ q) (Nat.le_of_eq (Heap.size_push _ _)) ?_
 have ne : s.heap.objs.size ≠ s.heap.objs.size + 1 := Nat.ne_of_lt (Nat.lt_succ_self _)
 refine ⟨by rw [upd_ne ne, upd_same], Nat.zero_le _, ne, e2, fun _ => none, (Heap.Ns1.of_empty e3).at fun o q => Heap.get?_push_of_some _ q, fun _ => True.intro, fun y hy => absurd rfl hy⟩
end
section
variable {X : Cx} {o e value : Expr} {f : Str} {pos pos' tpos : Pos} {ta tv : TE}
end
section
variable {X : Cx} {pins : List (Addr × Obj)} {σ : St} {H : Hp} {s : Shared} {A : Around} {E : Value -> Shared -> Prop} {Q : Value -> Shared -> Prop} {c : Value} {b : Bool}
inductive TyOf (K : PySem.W.Frag) (H : Hp) : V -> Value -> Prop where
 | non : TyOf K H .non (.type "NoneType")
 | bl (x : Bool) : TyOf K H (.bl x) (.type "bool")
 | int (i : Int) : TyOf K H (.int i) (.type "int")
 | str (x : Str) : TyOf K H (.str x) (.type "str")
 | flt (x : UInt64) : TyOf K H (.flt x) (.type "float")
 | lst {a : Addr} {xs : List V} (e : H a = some (.lst xs)) : TyOf K H (.ref a) (.type "list")
 | frz {a : Addr} {o : Obj} {xs : List V} (e : H a = some (.frz o (.lst xs))) : TyOf K H (.ref a) (.type "list")
 | tup {a : Addr} {xs : List V} (e : H a = some (.tup xs)) : TyOf K H (.ref a) (.type "tuple")
 | dK {a : Addr} {kvs : List (Key × V)} (e : H a = some (.dK kvs)) : TyOf K H (.ref a) (.type "dict")
 | dT {a : Addr} {kvs : List (List Key × V)} (e : H a = some (.dT kvs)) : TyOf K H (.ref a) (.type "dict")
 | ins {a C dx : Addr} {fs : List (Str × V)} (e : H a = some (.ins C dx fs)) (cl : Cls K C) (ha : PySem.W.findIn K (.ref C) "__class__" = some (some (.builtin "object.__class__")))
   (hn : PySem.W.specialIn K (.builtin "object.__class__") "__get__" = some (some (.builtin "getset_descriptor.__get__"))) (htk : PySem.W.takesIn K (.builtin "object.__class__") = some true)
   (hm : PySem.W.mroIn K C (.type "object") = some true) : TyOf K H (.ref a) (.ref C)
end
end L2
namespace L2
open PySem PySem.Spec PyProof.Rows
structure Room (k : Nat) (A : Around) : Prop where
 hd : A.handled = none
 dp : A.depth + 3 * k + 5 < recursionLimit
 un : A.units + 16 * k + 200 < cLine
theorem Room.mono {j k : Nat} {A : Around} (r : Room k A) (h : j <= k) : Room j A := ⟨r.hd, by have := r.dp; omega, by have := r.un; omega⟩
theorem Room.deeper {k : Nat} {A : Around} (r : Room (k + 1) A) (env : Env) : Room k (A.deeper env) :=
 ⟨r.hd, by have := r.dp; show A.depth + 1 + 3 * k + 5 < _; omega, by have := r.un; show A.units + 3 + 16 * k + 200 < _; omega⟩
theorem Room.in1 {k : Nat} {A : Around} (r : Room (k + 1) A) : Room k A.in1 :=
 ⟨r.hd, by have := r.dp; show A.depth + 3 * k + 5 < _; omega, by have := r.un; show A.units + 1 + 16 * k + 200 < _; omega⟩
theorem Room.depth {k : Nat} {A : Around} (r : Room k A) : A.depth < recursionLimit := by have := r.dp; omega
theorem Room.units {k : Nat} {A : Around} (r : Room k A) : A.units + 64 < cLine := by have := r.un; omega
noncomputable def tNil : TA := fun _ H Q => Q [] H
noncomputable def tCons (ta : TE) (tr : TA) : TA := fun σ H Q => ta σ H fun x H1 => tr σ H1 fun xs H2 => Q (x :: xs) H2
section
variable {X : Cx} {e : Expr} {es : List Expr} {te : TE} {t : TA} {pos : Pos}
theorem pa_nil : PA X [] tNil := fun _ _ _ _ H Q I h => Calls.spliced_nil ⟨[], H, I, .nil, h⟩
theorem pa_cons (ha : PE X e te) (hr : PA X es t) (hs : starEach (e :: es) X.env = (false, eval e X.env) :: starEach es X.env) : PA X (e :: es) (tCons te t) := by
 intro pos pins s σ H Q I h
 rw [hs]
 show wpAny _ _ (spliced ((false, eval e X.env) :: backTo pos (starEach es X.env))) _ _ s
 refine Calls.spliced_cons (thn (ha pins s σ H _ I h) fun u s1 hh0_ => ?_)
 obtain ⟨x, H1, I1, r1, q1⟩ := hh0_
 exact thn (hr pos pins s1 σ H1 _ I1 q1) fun us s2 ⟨xs, H2, I2, r2, q2⟩ => ⟨x :: xs, H2, I2, .cons r1 r2, q2⟩
noncomputable def tTup (t : TA) : TE := fun σ H Q => t σ H fun xs H1 => xs.length <= sizeLine /\ ∀ p, H1 p = none -> Q (.ref p) (upd H1 p (.tup xs))
noncomputable def tLst (t : TA) : TE := fun σ H Q => t σ H fun xs H1 => xs.length <= sizeLine /\ ∀ p, H1 p = none -> Q (.ref p) (upd H1 p (.lst xs))
theorem pe_tup {x1} (h : PA X es t) : PE X (.Tuple es x1 pos) (tTup t) := by
 intro pins s σ H Q I hq
 refine wpAny_Tuple_spliced (thn (h pos pins s σ H _ I hq) fun us s1 ⟨xs, H1, I1, r, z, q⟩ => ⟨by rw [<- r.length]; exact z, ?_⟩)
 have hf : H1 s1.heap.objs.size = none := I1.hok.fresh (Nat.le_refl _)
 refine ⟨.ref s1.heap.objs.size, upd H1 s1.heap.objs.size (.tup xs), I1.laid (t' := s1.toks) (fun b u e => Heap.get?_push_of_some _ e) (Nat.le_refl _) ?_, rfl, q _ hf⟩
 exact ⟨z, us, r, ⟨_, Heap.get?_push_size _ rfl, rfl, ⟨_, rfl⟩, rfl⟩⟩
theorem pe_lst (h : PA X es t) : PE X (.List es pos) (tLst t) := by
 intro pins s σ H Q I hq
 refine wpAny_List_spliced (thn (h pos pins s σ H _ I hq) fun us s1 ⟨xs, H1, I1, r, z, q⟩ => ⟨by rw [<- r.length]; exact z, ?_⟩)
 have hf : H1 s1.heap.objs.size = none := I1.hok.fresh (Nat.le_refl _)
 refine ⟨.ref s1.heap.objs.size, upd H1 s1.heap.objs.size (.lst xs), I1.laid (t' := s1.toks) (fun b u e => Heap.get?_push_of_some _ e) (Nat.le_refl _) ?_, rfl, q _ hf⟩
 exact ⟨z, us, 0, r, Heap.get?_push_size _ rfl⟩
end
noncomputable abbrev Sp := List V -> Hp -> VK -> XK -> Prop
noncomputable abbrev CXT := List Env -> Hp -> Shared -> XK -> Value -> Shared -> Prop
structure Env0 (P : Program) (w : World) (K : PySem.W.Frag) (mg : Str -> Option Value) (base : Heap) (A : Around) (outer : List Env) (s : Shared) (H : Hp) : Prop where
 frames : A.frames = some outer
 mod : Mod K mg base
 bs : ∀ b o, base.get? b = some o -> s.heap.get? b = some o /\ H b = none
 bsz : base.objs.size <= s.heap.objs.size
 funs : s.heap.FunFrames base outer
 frf : ∀ b ∈ frs outer, H b = none
 hok : HOk P w H s.heap
 bare : AllBare s.gens
noncomputable def CE (outer : List Env) (P : Program) (w : World) (H : Hp) (s : Shared) (Q : VK) (u : Value) (s' : Shared) : Prop :=
 ∃ v H', s'.os = s.os /\ AllBare s'.gens /\ Un (frs outer) [] H H' s.heap s'.heap /\ HOk P w H' s'.heap /\ RelV v u /\ Q v H'
noncomputable def CR (CX : CXT) (outer : List Env) (P : Program) (w : World) (H : Hp) (s : Shared) (Q : VK) (E : XK) (r : Result) (s' : Shared) : Prop :=
 match r with
 | .ok (.ret u) => CE outer P w H s Q u s'
 | .ok _ => False
 | .error e => CX outer H s E e s'
structure FnOk (P : Program) (w : World) (K : PySem.W.Frag) (mg : Str -> Option Value) (base : Heap) (CX : CXT) (k : Nat) (f : Addr) (fd : FuncData) (ps : List Str) (sp : Sp) : Prop where
 len : ∀ vs H Q E, sp vs H Q E -> vs.length = ps.length
 run : ∀ (A : Around) (outer : List Env) (s : Shared) (H : Hp) (args : Args) (us : List Value) (vs : List V) (Q : VK) (E : XK), Room k A -> Env0 P w K mg base A outer s H -> BindsTo s fd args (ps.zip us) -> Vals vs us -> sp vs H Q E ->
  codeAny (model P w) A (.call (.ref f) args) (CR CX outer P w H s Q E) s
theorem Env0.in1 {P : Program} {w : World} {K : PySem.W.Frag} {mg : Str -> Option Value} {base : Heap} {A : Around} {outer : List Env} {s : Shared} {H : Hp} (e : Env0 P w K mg base A outer s H) :
  Env0 P w K mg base A.in1 outer s H := ⟨e.frames, e.mod, e.bs, e.bsz, e.funs, e.frf, e.hok, e.bare⟩
section
variable {X : Cx} {pins : List (Addr × Obj)} {σ : St} {H : Hp} {s s' : Shared}
theorem Inv.env0 (I : Inv X pins σ H s) : Env0 X.prog X.w X.K X.mg X.base X.A X.stack s H :=
 ⟨I.ok.frames, I.ok.mod, I.bs, Nat.le_trans I.ok.bsz I.sz, I.stack, I.stkFree, I.hok, I.bare⟩
theorem Inv.after {Q : VK} {u : Value} (I : Inv X pins σ H s) (h : CE X.stack X.prog X.w H s Q u s') : EP X pins σ Q u s' := by
 obtain ⟨v, H', os, bare, un, hok, r, q⟩ := h
 obtain ⟨hh, g, d, t, os'⟩ := s'
 obtain rfl : os' = s.os := os
 exact ⟨v, H', I.call (h' := hh) (g' := g) (d' := d) (t' := t) (ch := []) un hok bare (fun b z => absurd z (by simp)), r, q⟩
end
noncomputable def tCall (sp : Sp) (dvs : List V) (E : XK) (t : TA) : TE := fun σ H Q => t σ H fun vs H1 => sp (vs ++ dvs) H1 Q E
noncomputable def Binds (K : PySem.W.Frag) (fd : FuncData) (ps : List Str) (ds : List Value) : Prop :=
 ∀ (s : Shared) (us : List Value), K.In s.heap -> (us ++ ds).length = ps.length -> BindsTo s fd ⟨us, []⟩ (ps.zip (us ++ ds))
theorem Binds.all {K : PySem.W.Frag} {fd : FuncData} {ps : List Str} (h : ∀ us : List Value, us.length = ps.length -> bindArgs fd ⟨us, []⟩ = pure (ps.zip us)) : Binds K fd ps [] := fun s us _ hl => by
 rw [List.append_nil] at hl ⊢
 exact .of_eq (h us hl)
noncomputable def Passes (CX : CXT) (X : Cx) (E : XK) : Prop := ∀ (pins : List (Addr × Obj)) (σ : St) (H : Hp) (s : Shared) (e : Value) (s' : Shared), Inv X pins σ H s -> CX X.stack H s E e s' -> X.xe e s'
section
variable {X : Cx} {CX : CXT} {k : Nat} {f C : Addr} {fd : FuncData} {ps : List Str} {sp : Sp} {dvs : List V} {ds : List Value} {E : XK} {x m : Str} {p pos apos : Pos} {e o : Expr} {es : List Expr} {ta : TE} {t : TA}
theorem run_fn {pins : List (Addr × Obj)} {σ : St} {H : Hp} {s : Shared} {Q : VK} {us : List Value} {vs : List V} (F : FnOk X.prog X.w X.K X.mg X.base CX k f fd ps sp) (hr : Room k X.A) (hb : Binds X.K fd ps ds) (hd : Vals dvs ds) (hx : Passes CX X E)
  (I : Inv X pins σ H s) (r : Vals vs us) (h : sp (vs ++ dvs) H Q E) : wpAny (model X.prog X.w) X.A (call (.ref f) us) (EP X pins σ Q) X.xe s := by
 have r2 : Vals (vs ++ dvs) (us ++ ds) := r.append hd
 have hl : (us ++ ds).length = ps.length := by rw [<- r2.length]; exact F.len _ _ _ _ h
 refine wpAny_call (codeAny_mono (F.run X.A X.stack s H ⟨us, []⟩ (us ++ ds) (vs ++ dvs) Q E hr I.env0 (hb s us I.kIn hl) r2 h) fun r s' hq => ?_)
 cases r with
 | error e => exact hx pins σ H s e s' I hq
 | ok fl =>
  cases fl with
  | ret u => exact I.after hq
  | next => exact False.elim hq
  | brk => exact False.elim hq
  | cont => exact False.elim hq
theorem pe_call (F : FnOk X.prog X.w X.K X.mg X.base CX k f fd ps sp) (hr : Room k X.A) (hg : Gl X x) (hm : X.mg x = some (.ref f)) (hk : PySem.W.keepIn X.K (.ref f) = true) (hb : Binds X.K fd ps ds) (hd : Vals dvs ds) (hx : Passes CX X E)
  (ha : PA X (e :: es) t) (hdb : (x == ("__debug__" : Str)) = false) (he : starEach (e :: es) X.env = (false, eval e X.env) :: starEach es X.env) (hpl : (backTo pos (starEach es X.env)).any (·.1) = false) :
  PE X (.Call (.Name x p) (e :: es) [] pos) (tCall sp dvs E t) := by
 intro pins s σ H Q I h
 refine wpAny_Call_Name_kw (ld_glob I hg hm ?_ hdb)
 refine PySem.W.callWith_K (h₀ := X.base) I.ok.mod.kin hk (thn (ha pos pins s σ H _ I h) fun us s1 ⟨vs, H1, I1, r, q⟩ => ⟨I1.kIn, ?_⟩) he hpl
 exact run_fn F hr hb hd hx I1 r q
structure Mk (K : PySem.W.Frag) (C f : Addr) : Prop where
 makes : PySem.W.makesIn K C = true
 init : PySem.W.findIn K (.ref C) "__init__" = some (some (.ref f))
 fn : PySem.W.isFn K (.ref f) = true
 kp : PySem.W.keepIn K (.ref C) = true
end
section
variable {X : Cx} {CX : CXT} {k : Nat} {f C : Addr} {fd : FuncData} {ps ks : List Str} {sp : Sp} {E : XK} {x m : Str} {p pos apos kpos : Pos} {e o : Expr} {es : List Expr} {kws : List Keyword} {te ta : TE} {t tk : TA} {nm : Option Str}
structure KBinds (K : PySem.W.Frag) (fd : FuncData) (ps ks : List Str) (g : List Value -> List Value -> List Value) (gV : List V -> List V -> List V) : Prop where
 to : ∀ (s : Shared) (us ws : List Value), K.In s.heap -> (g us ws).length = ps.length -> BindsTo s fd ⟨us, ks.zip ws⟩ (ps.zip (g us ws))
 rel : ∀ {vs : List V} {us : List Value} {zs : List V} {ws : List Value}, Vals vs us -> Vals zs ws -> Vals (gV vs zs) (g us ws)
variable {g : List Value -> List Value -> List Value} {gV : List V -> List V -> List V}
end
structure FnScope (N P : List Str) (sc : Scope) : Prop where
 kind : sc.kind = .function
 co : sc.isCoroutine = false
 gen : sc.isGenerator = false
 nd : N.Nodup
 pre : N.take P.length = P
 par : ∀ x ∈ P, sc.names.lookup x = some .local \/ sc.names.lookup x = some .cell
 nofree : ∀ y ∈ sc.names, y.2 ≠ .free
theorem bindL_out {kindOf : Str -> Option NameKind} {x : Str} : ∀ {binds : List (Str × Value)} {m : Str -> Option Value}, (∀ v, (x, v) ∉ binds) -> bindL kindOf binds m x = m x
 | [], _, _ => rfl
 | (n, v) :: r, m, h => by
  unfold bindL
  rw [bindL_out fun w hw => h w (List.mem_cons_of_mem _ hw)]
  split
  ·have : x ≠ n := by rintro rfl; exact h v List.mem_cons_self
   simp [this]
  ·rfl
theorem bindC_out {kindOf : Str -> Option NameKind} {x : Str} : ∀ {binds : List (Str × Value)} {m : Str -> Option Value}, (∀ v, (x, v) ∉ binds) -> bindC kindOf binds m x = m x
 | [], _, _ => rfl
 | (n, v) :: r, m, h => by
  unfold bindC
  rw [bindC_out fun w hw => h w (List.mem_cons_of_mem _ hw)]
  split
  ·rfl
  ·have : x ≠ n := by rintro rfl; exact h v List.mem_cons_self
   simp [this]
theorem bindL_get {kindOf : Str -> Option NameKind} {x : Str} {v : Value} : ∀ {P : List Str} {vs : List Value} {i : Nat} {m : Str -> Option Value}, P.Nodup -> P[i]? = some x -> vs[i]? = some v -> kindOf x = some .local ->
  bindL kindOf (P.zip vs) m x = some v
 | [], _, _, _, _, h, _, _ => by simp at h
 | _ :: _, [], _, _, _, _, h, _ => by simp at h
 | p :: P, w :: vs, 0, m, nd, h1, h2, hk => by
  simp at h1 h2; subst h1; subst h2
  show bindL kindOf ((p, w) :: P.zip vs) m p = _
  unfold bindL
  rw [bindL_out fun v hv => (List.nodup_cons.mp nd).1 (List.of_mem_zip hv).1, if_pos hk]
  simp
 | p :: P, w :: vs, i + 1, m, nd, h1, h2, hk => by
  show bindL kindOf ((p, w) :: P.zip vs) m x = _
  unfold bindL
  exact bindL_get (i := i) (List.nodup_cons.mp nd).2 (by simpa using h1) (by simpa using h2) hk
theorem bindC_get {kindOf : Str -> Option NameKind} {x : Str} {v : Value} : ∀ {P : List Str} {vs : List Value} {i : Nat} {m : Str -> Option Value}, P.Nodup -> P[i]? = some x -> vs[i]? = some v -> kindOf x ≠ some .local ->
  bindC kindOf (P.zip vs) m x = some v
 | [], _, _, _, _, h, _, _ => by simp at h
 | _ :: _, [], _, _, _, _, h, _ => by simp at h
 | p :: P, w :: vs, 0, m, nd, h1, h2, hk => by
  simp at h1 h2; subst h1; subst h2
  show bindC kindOf ((p, w) :: P.zip vs) m p = _
  unfold bindC
  rw [bindC_out fun v hv => (List.nodup_cons.mp nd).1 (List.of_mem_zip hv).1, if_neg hk]
  simp
 | p :: P, w :: vs, i + 1, m, nd, h1, h2, hk => by
  show bindC kindOf ((p, w) :: P.zip vs) m x = _
  unfold bindC
  exact bindC_get (i := i) (List.nodup_cons.mp nd).2 (by simpa using h1) (by simpa using h2) hk
noncomputable def start (N : List Str) (vs : List V) : St := vs.map some ++ List.replicate (N.length - vs.length) none
noncomputable def cxOf (CX : CXT) (P : Program) (w : World) (K : PySem.W.Frag) (mg : Str -> Option Value) (base : Heap) (N : List Str) (qual : Str) (scope : Scope) (f : Addr) (cd : Value) (A : Around) (outer : List Env) (s : Shared) (H : Hp) (E : XK) : Cx where
 prog := P
 w := w
 K := K
 mg := mg
 base := base
 A := A.deeper (envOfC qual scope s.heap.objs.size f cd)
 N := N
 s₀ := s
 H₀ := H
 env := envOfC qual scope s.heap.objs.size f cd
 outer := outer
 stack := envOfC qual scope s.heap.objs.size f cd :: outer
 ex := []
 calm := true
 fn := fun _ => true
 pn := []
 xe := fun e s' => wpAny (model P w) (A.deeper (envOfC qual scope s.heap.objs.size f cd)) (leaving (envOfC qual scope s.heap.objs.size f cd) e) (fun _ s'' => CX outer H s E e s'') (fun e' s'' => CX outer H s E e' s'') s'
theorem cell_has {sc : Scope} {n : Nat} {x : Str} (h : sc.names.lookup x = some .cell) : ∃ c, (cellsFrom n sc.names []).lookup x = some c := by
 have q := PySem.W.cellsFrom_some sc.names n [] (.inl h)
 exact Option.isSome_iff_exists.mp q
theorem inv_start {CX : CXT} {P : Program} {w : World} {K : PySem.W.Frag} {mg : Str -> Option Value} {base : Heap} {N ps : List Str} {qual : Str} {scope : Scope} {f : Addr} {cd : Value} {A : Around} {outer : List Env} {s s1 : Shared} {H : Hp} {E : XK} {us : List Value} {vs : List V}
  (S : FnScope N ps scope) (hd : A.handled = none) (e0 : Env0 P w K mg base A outer s H) (hl : vs.length = ps.length) (r : Vals vs us)
  (x : InCallC s s.heap.objs.size (bindL (envOfC qual scope s.heap.objs.size f cd).kindOf (ps.zip us) fun _ => none) (cellsFrom (s.heap.objs.size + 1) scope.names []) (bindC (envOfC qual scope s.heap.objs.size f cd).kindOf (ps.zip us) fun _ => none) s1) :
  Inv (cxOf CX P w K mg base N qual scope f cd A outer s H E) [] (start N vs) H s1 := by
 have hpl : ps.length <= N.length := by have := congrArg List.length S.pre; rw [List.length_take] at this; omega
 obtain ⟨h1, tk, rfl, hk⟩ := x.done
 have noA : ∀ b : Addr, b ∉ (cxOf CX P w K mg base N qual scope f cd A outer s H E).ex := fun b z => absurd (show b ∈ ([] : List Addr) from z) (by simp)
 refine ⟨⟨e0.mod, S.kind, rfl, rfl, Nat.le_refl _, fun y z c h1 h2 => ?_, fun y hy => ?_, fun y c _ h => ?_, fun _ => hd, Around.frames_deeper e0.frames, .inr ⟨rfl, rfl⟩, fun b z => absurd z (noA b), e0.bs, e0.bsz, fun b _ _ => noA b, fun b z => absurd z (noA b), e0.funs, e0.frf⟩,
  rfl, e0.bare, Un.kept hk, ⟨_, x.toInCall.ns, fun i y v h1 h2 h3 => ?_⟩, fun y c h => ⟨_, x.cell y c h⟩, e0.hok.fresh (Nat.le_refl _), fun y c h => ?_, fun p hp => absurd (show p ∈ ([] : List (Addr × Obj)) from hp) (by simp), e0.hok.kept hk, ?_⟩
 ·exact name_of_addr x.apart (PySem.mem_of_lookup h1) (PySem.mem_of_lookup h2)
 ·have hy : scope.names.lookup y = some .cell \/ scope.names.lookup y = some .free := hy
  rcases hy with hy | hy
  ·exact cell_has hy
  ·exact absurd rfl (S.nofree _ (PySem.mem_of_lookup hy))
 ·exact Nat.le_of_lt (x.above y c (PySem.mem_of_lookup h))
 ·have hi : i < vs.length := by
   unfold start at h2
   by_cases hi : i < vs.length
   ·exact hi
   ·rw [List.getElem?_append_right (by simpa using hi)] at h2
    rw [List.getElem?_replicate] at h2
    split at h2 <;> cases h2
  have ha : vs[i]? = some v := by
   unfold start at h2
   rw [List.getElem?_append_left (by simpa using hi), List.getElem?_map] at h2
   cases e : vs[i]? with
   | none => rw [e] at h2; cases h2
   | some a => rw [e] at h2; cases h2; rfl
  obtain ⟨u, hu, rv⟩ := r.get ha
  have hp : ps[i]? = some y := by
   rw [<- S.pre, List.getElem?_take_of_lt (by omega)]; exact h1
  have ndP : ps.Nodup := by rw [<- S.pre]; exact S.nd.sublist (List.take_sublist _ _)
  refine ⟨u, rv, ?_⟩
  rcases S.par y (List.mem_of_getElem? hp) with k | k
  ·exact .inl ⟨k, bindL_get ndP hp hu k⟩
  ·obtain ⟨c, e⟩ := cell_has (n := s.heap.objs.size + 1) k
   refine .inr ⟨.inl k, c, e, ?_⟩
   have q := x.cell y c e
   rw [bindC_get ndP hp hu (by show scope.names.lookup y ≠ _; rw [k]; decide)] at q
   exact q
 ·exact e0.hok.fresh (Nat.le_of_lt (x.above y c (PySem.mem_of_lookup h)))
 ·unfold start
  show _ = N.length
  rw [List.length_append, List.length_map, List.length_replicate]
  omega
theorem fn_of {CX : CXT} {P : Program} {w : World} {K : PySem.W.Frag} {mg : Str -> Option Value} {base : Heap} {k : Nat} {f : Addr} {name qual : Str} {params : Arguments} {body : List Stmt} {scope : Scope} {dV kV doc pm cdv ct oc : Value} {an od : Option Addr}
  {osl : Array (Option Value)} {N ps : List Str} {sp : Sp} (lk : K.lookup f = some ⟨oc, od, .func (PySem.W.fnOf name qual params body scope dV kV doc pm an cdv ct), osl⟩) (hcd : PySem.W.codeIn K cdv qual = true) (S : FnScope N ps scope)
  (len : ∀ vs H Q E, sp vs H Q E -> vs.length = ps.length)
  (hbody : ∀ (A : Around) (outer : List Env) (s : Shared) (H : Hp) (vs : List V) (Q : VK) (E : XK), Room k (A.deeper (envOfC qual scope s.heap.objs.size f cdv)) -> sp vs H Q E ->
   ∃ t, PSs (cxOf CX P w K mg base N qual scope f cdv A outer s H E) body t /\ t { nx := fun _ H' => Q .non H', rt := Q } (start N vs) H) :
  FnOk P w K mg base CX (k + 1) f (PySem.W.fnOf name qual params body scope dV kV doc pm an cdv ct) ps sp := by
 refine ⟨len, fun A outer s H args us vs Q E hr e0 hb r hsp => ?_⟩
 have hl := len _ _ _ _ hsp
 have KX : K.In s.heap := e0.mod.kin.keeps fun b o e => (e0.bs b o e).1
 have lim : s.heap.NoLimit := e0.mod.nolimit.keeps fun b o e => (e0.bs b o e).1
 have hkind : ∀ y ∈ ps.zip us, scope.names.lookup y.1 = some .local \/ (scope.names.lookup y.1 = some .cell /\ ((cellsFrom (s.heap.objs.size + 1) scope.names []).lookup y.1).isSome = true) := fun hh0_ hy => by
  obtain ⟨n, v⟩ := hh0_
  rcases S.par n (List.of_mem_zip hy).1 with q | q
  ·exact .inl q
  ·exact .inr ⟨q, PySem.W.cellsFrom_some _ _ _ (.inl q)⟩
 refine codeAny_call_function hr.depth (KX _ _ lk) rfl S.co S.gen rfl (PySem.W.codeRec_of KX hcd) (hb _ _ _ _ ?_)
 refine wpAny_newFunctionEnv_cells S.kind hkind fun env he s1 x => ?_
 subst he
 refine ⟨lim.keeps x.toInCall.keep, codeAny_func ?_⟩
 obtain ⟨t, ht, hq⟩ := hbody A outer s H vs Q E (hr.deeper _) hsp
 have I : Inv (cxOf CX P w K mg base N qual scope f cdv A outer s H E) [] (start N vs) H s1 := inv_start S hr.hd e0 hl r x
 refine wpAny_mono (ht [] s1 (start N vs) H _ I hq) (fun fl s' hs => ?_) fun e s' hs => hs
 have fin : ∀ {σ' : St} {H' : Hp} {v : V} {u : Value}, Inv (cxOf CX P w K mg base N qual scope f cdv A outer s H E) [] σ' H' s' -> RelV v u -> Q v H' -> CE outer P w H s Q u s' :=
  fun {σ' H' v u} J rv q => ⟨v, H', J.os, J.bare, J.base, J.hok, rv, q⟩
 cases fl with
 | ret u =>
  obtain ⟨v, σ', H', J, rv, q⟩ := hs
  exact fin J rv q
 | next =>
  obtain ⟨σ', H', J, q⟩ := hs
  exact fin (v := V.non) (u := Value.none) J rfl q
 | brk =>
  obtain ⟨_, _, _, q⟩ := hs
  exact False.elim q
 | cont =>
  obtain ⟨_, _, _, q⟩ := hs
  exact False.elim q
end L2
namespace L2
open PySem PySem.Spec PyProof.Rows
section
variable {X : Cx} {x : Str} {p pos : Pos} {e : Expr} {es : List Expr} {t : TA} {id T : String} {r : List V -> Hp -> VK -> Prop}
noncomputable def tCB (r : List V -> Hp -> VK -> Prop) (t : TA) : TE := fun σ H Q => t σ H fun vs H1 => r vs H1 Q
theorem pe_callB (hc : CallR X (.builtin id) r) (hg : Gl X x) (hm : X.mg x = none) (hv : bootBuiltins x = some (.builtin id)) (ha : PA X (e :: es) t) (hn : x ≠ "__name__") (hdb : (x == ("__debug__" : Str)) = false)
  (he : starEach (e :: es) X.env = (false, eval e X.env) :: starEach es X.env) (hpl : (backTo pos (starEach es X.env)).any (·.1) = false) : PE X (.Call (.Name x p) (e :: es) [] pos) (tCB r t) := by
 intro pins s σ H Q I h
 refine wpAny_Call_Name_kw (ld_blt I hg hm hv ?_ hn hdb)
 exact PyProof.Rows.callWith_builtin1 (thn (ha pos pins s σ H _ I h) fun us s1 ⟨vs, H1, I1, r1, q1⟩ => hc pins s1 σ H1 vs us Q I1 r1 q1) he hpl
theorem pe_callTy (hc : CallR X (.type T) r) (hg : Gl X x) (hm : X.mg x = none) (hv : bootBuiltins x = some (.type T)) (ha : PA X (e :: es) t) (hn : x ≠ "__name__") (hdb : (x == ("__debug__" : Str)) = false)
  (he : starEach (e :: es) X.env = (false, eval e X.env) :: starEach es X.env) (hpl : (backTo pos (starEach es X.env)).any (·.1) = false) : PE X (.Call (.Name x p) (e :: es) [] pos) (tCB r t) := by
 intro pins s σ H Q I h
 refine wpAny_Call_Name_kw (ld_blt I hg hm hv ?_ hn hdb)
 exact PyProof.Rows.callWith_type1 (thn (ha pos pins s σ H _ I h) fun us s1 ⟨vs, H1, I1, r1, q1⟩ => hc pins s1 σ H1 vs us Q I1 r1 q1) he hpl
end
end L2
namespace HT
open PySem PyProof.Rows
section
open PySem.SeqAt
open PySem.AutoSeq1 (wpAny_loadPart')
open PySem.MeetsSeq PySem.MeetsSeq2 PySem.MeetsSeq3
end
section
variable {prog : Program} {w : World} {A : Around} {E : Value -> Shared -> Prop} {s : Shared}
noncomputable def sIx (n d : Nat) : Option Int -> Nat
 | none => d
 | some v => if v < 0 then (v + (n : Int)).toNat else min v.toNat n
theorem sIx_le (n d : Nat) (hd : d <= n) (o : Option Int) : sIx n d o <= n := by
 cases o with
 | none => exact hd
 | some v =>
  show (if v < 0 then (v + (n : Int)).toNat else min v.toNat n) <= n
  by_cases hv : v < 0
  ·rw [if_pos hv]; omega
  ·rw [if_neg hv]; exact Nat.min_le_right _ _
theorem clip_eq (v : Int) (n d : Nat) : (if v < 0 then max (v + (n : Int)) 0 else min v (n : Int)) = ((sIx n d (some v) : Nat) : Int) := by
 show (if v < 0 then max (v + (n : Int)) 0 else min v (n : Int)) = (((if v < 0 then (v + (n : Int)).toNat else min v.toNat n) : Nat) : Int)
 by_cases hv : v < 0
 ·simp only [if_pos hv]; omega
 ·simp only [if_neg hv]; omega
theorem adjust_gen (lo hi : Option Int) (n : Nat) : Builtin.Slice.sliceAdjust lo hi 1 (n : Int) = (((sIx n 0 lo : Nat) : Int), ((sIx n n hi : Nat) : Int)) := by
 have h1 : ¬ ((1 : Int) < 0) := by omega
 unfold Builtin.Slice.sliceAdjust
 simp only [h1, if_false]
 refine Prod.ext ?_ ?_
 ·cases lo with
  | none => rfl
  | some v => exact clip_eq v n 0
 ·cases hi with
  | none => rfl
  | some v => exact clip_eq v n n
theorem places_gen (i j : Nat) : Builtin.Slice.slicePlaces (i : Int) (j : Int) 1 = j - i := by
 unfold Builtin.Slice.slicePlaces
 have h1 : (1 : Int) > 0 := by omega
 simp only [h1, if_true, Int.ediv_one]
 split <;> omega
theorem slicePart_ {v : Value} {o : Option Int} {Q : Option Int -> Shared -> Prop} (p : IsPart v o) (h : Q o s) : wpAny (model prog w) A (Builtin.Slice.slicePartIndex v) Q E s := by
 cases p with
 | none => exact slicePart_none h
 | int i t => exact slicePart_int h
theorem sliceApplied_gen {sl : Addr} {vl vu : Value} {lo hi : Option Int} {n : Nat} {Q : Int × Int × Nat -> Shared -> Prop} (hs : s.heap.IsSliceOf sl vl vu .none) (pl : IsPart vl lo) (pu : IsPart vu hi)
  (h : Q (((sIx n 0 lo : Nat) : Int), 1, sIx n n hi - sIx n 0 lo) s) : wpAny (model prog w) A (Builtin.Slice.sliceApplied (.ref sl) (pure (n : Int))) Q E s := by
 obtain ⟨os, hos, hcs, hds⟩ := id hs
 unfold Builtin.Slice.sliceApplied Builtin.Slice.sliceFields
 refine wpAny_bind (wpAny_bind (wpAny_field hos hds (x := vl) rfl (wpAny_bind (wpAny_field hos hds (x := vu) rfl (wpAny_bind (wpAny_field hos hds (x := .none) rfl (wpAny_pure ?_)))))))
 refine wpAny_bind (slicePart_none ?_)
 show wpAny _ _ (if ((1 : Int) == 0) = true then _ else _) _ _ s
 rw [if_neg (by decide)]
 refine wpAny_bind (slicePart_ pl (wpAny_bind (slicePart_ pu (wpAny_bind (wpAny_pure ?_)))))
 show wpAny _ _ (match Builtin.Slice.sliceAdjust lo hi 1 (n : Int) with | (lo, hi) => pure (lo, (1 : Int), Builtin.Slice.slicePlaces lo hi 1)) _ _ s
 rw [adjust_gen lo hi n]
 show wpAny _ _ (pure (((sIx n 0 lo : Nat) : Int), (1 : Int), Builtin.Slice.slicePlaces ((sIx n 0 lo : Nat) : Int) ((sIx n n hi : Nat) : Int) 1)) _ _ s
 rw [places_gen]
 exact wpAny_pure h
theorem pick_gen (xs : Array Value) (i k : Nat) : ((List.range k).filterMap fun (m : Nat) => xs[((i : Int) + (m : Int) * 1).toNat]?).toArray = ((xs.toList.drop i).take k).toArray := by
 have e : (fun (m : Nat) => xs[((i : Int) + (m : Int) * 1).toNat]?) = fun m => xs[i + m]? := by
  funext m
  have : ((i : Int) + (m : Int) * 1).toNat = i + m := by omega
  rw [this]
 rw [e]
 have := pick_run xs i k
 rw [List.filterMap_map] at this
 have e2 : ((fun x => xs[x]?) ∘ fun x => i + x) = fun m => xs[i + m]? := rfl
 rw [e2] at this
 rw [this]
theorem getItem_tuple_cut {t sl : Addr} {items : Array Value} {vl vu : Value} {lo hi : Option Int} {Q : Value -> Shared -> Prop} (ht : IsTup s.heap t items) (hs : s.heap.IsSliceOf sl vl vu .none) (pl : IsPart vl lo) (pu : IsPart vu hi)
  (hw : ¬ (sIx items.size 0 lo = 0 /\ sIx items.size items.size hi = items.size))
  (h : Q (.ref s.heap.objs.size) { s with heap := s.heap.push { cls := .type "tuple", data := .seq ((items.toList.drop (sIx items.size 0 lo)).take (sIx items.size items.size hi - sIx items.size 0 lo)).toArray } })
  (hsz : items.size <= sizeLine) : wpAny (model prog w) A (getItem (.ref t) (.ref sl)) Q E s := by
 have htake : sizeOk (.seq ((items.toList.drop (sIx items.size 0 lo)).take (sIx items.size items.size hi - sIx items.size 0 lo)).toArray) := by
  show ((items.toList.drop (sIx items.size 0 lo)).take (sIx items.size items.size hi - sIx items.size 0 lo)).toArray.size <= sizeLine
  rw [List.size_toArray, List.length_take, List.length_drop, Array.length_toList]
  omega
 have hj : sIx items.size items.size hi <= items.size := sIx_le _ _ (Nat.le_refl _) hi
 obtain ⟨os, hos, hcs, hds⟩ := id hs
 have hTs : s.TypeIs (.ref sl) "slice" := ⟨os, hos, hcs⟩
 unfold getItem
 try with_reducible refine wpAny_holding ?_
 first | refine wpAny_bind (wpAny_pure ?_) | skip
 refine wpAny_bind (wpAny_sequenceKey ht.typeIs (by decide) ?_)
 refine wpAny_bind (wpAny_callSpecial?_slot (name := Str.ofString "__getitem__") ht.typeIs PyProof.Rows.slot_tuple_getitem
  (wpAny_call_entry PyProof.Rows.slot_tuple_getitem ht.typeIs entry_tuple_getitem ?_ (args_tuple_getitem _ _)))
 show wpAny _ _ (Builtin.Tuple.tupleItemsOf (.ref t) >>= _) _ _ s
 refine wpAny_bind (tupleItemsOf_ ht ?_)
 refine wpAny_bind (wpAny_typeOf hTs ?_)
 rw [if_pos (by decide)]
 refine wpAny_bind (sliceApplied_gen hs pl pu ?_)
 have hno : ¬ ((((sIx items.size 0 lo : Nat) : Int) == 0 && (1 : Int) == 1 && (sIx items.size items.size hi - sIx items.size 0 lo) == items.size) = true) := by
  intro q
  rw [Bool.and_eq_true, Bool.and_eq_true] at q
  have q1 : ((sIx items.size 0 lo : Nat) : Int) = 0 := eq_of_beq q.1.1
  have q2 : sIx items.size items.size hi - sIx items.size 0 lo = items.size := eq_of_beq q.2
  exact hw ⟨by omega, by omega⟩
 show wpAny _ _ (if (((sIx items.size 0 lo : Nat) : Int) == 0 && (1 : Int) == 1 && (sIx items.size items.size hi - sIx items.size 0 lo) == items.size) = true then _ else _) _ _ s
 rw [if_neg hno, pick_gen]
 first
  | exact wpAny_bind (m := Builtin.Tuple.tupleExact _) (wpAny_newObj_type (wpAny_pure ⟨_, rfl, wpAny_pure h⟩) htake)
  | exact wpAny_bind (m := Builtin.Tuple.tupleExact _) (wpAny_newObj_type (wpAny_bind (wpAny_pure (wpAny_pure ⟨_, rfl, wpAny_pure h⟩))) htake)
  | exact wpAny_bind (wpAny_bind (m := Builtin.Tuple.tupleExact _) (wpAny_newObj_type (wpAny_pure (wpAny_pure ⟨_, rfl, wpAny_pure h⟩)) htake))
  | exact wpAny_bind (wpAny_bind (m := Builtin.Tuple.tupleExact _) (wpAny_newObj_type (wpAny_pure ⟨_, rfl, wpAny_pure h⟩) htake))
end
end HT
namespace L2
open PySem PySem.Spec PyProof.Rows
noncomputable abbrev TO := St -> Hp -> (Option Int -> Hp -> Prop) -> Prop
noncomputable def PO (X : Cx) (e : Option Expr) (t : TO) : Prop :=
 ∀ (pins : List (Addr × Obj)) (s : Shared) (σ : St) (H : Hp) (Q : Option Int -> Hp -> Prop), Inv X pins σ H s -> t σ H Q ->
  wpAny (model X.prog X.w) X.A (evalPart e X.env) (fun u s' => ∃ o H', Inv X pins σ H' s' /\ IsPart u o /\ Q o H') X.xe s
noncomputable def tNoPart : TO := fun _ H Q => Q none H
noncomputable def tPart (t : TE) : TO := fun σ H Q => t σ H fun x H1 => ∃ i, x = .int i /\ Q (some i) H1
theorem intsAre_of {ns : List Int} : ∀ {us : List Value}, Vals (ns.map V.int) us -> IntsAre us ns := by
 induction ns with
 | nil => intro us r; rw [List.map_nil] at r; cases r; exact .nil
 | cons n ns ih =>
  intro us r
  rw [List.map_cons] at r
  cases r with
  | cons r1 r2 =>
   obtain ⟨t, e⟩ := r1
   subst e
   exact .cons n t (ih r2)
section
variable {X : Cx} {e : Expr} {te : TE} {lo hi : Option Expr} {tl th : TO} {pos p2 : Pos}
theorem po_none : PO X none tNoPart := by
 intro pins s σ H Q I h
 rw [evalPart_none]
 exact wpAny_pure ⟨none, H, I, .none, h⟩
theorem po_some (h : PE X e te) : PO X (some e) (tPart te) := by
 intro pins s σ H Q I hw
 rw [evalPart_some]
 refine thn (h pins s σ H _ I hw) fun u s1 hh0_ => ?_
 obtain ⟨x, H1, I1, r1, q1⟩ := hh0_
 obtain ⟨i, rfl, q⟩ := q1
 obtain ⟨t, rfl⟩ := r1
 exact ⟨some i, H1, I1, .int i t, q⟩
noncomputable def SlR (X : Cx) (r : V -> Option Int -> Option Int -> Hp -> VK -> Prop) : Prop :=
 ∀ (pins : List (Addr × Obj)) (s : Shared) (σ : St) (H : Hp) (x : V) (v vl vu : Value) (lo hi : Option Int) (sl : Addr) (Q : VK), Inv X pins σ H s -> RelV x v -> s.heap.IsSliceOf sl vl vu .none -> IsPart vl lo -> IsPart vu hi -> r x lo hi H Q ->
  ∃ T id, typeLookup (.type T) "__getitem__" = pure (some (.builtin id)) ∧ s.TypeIs v T ∧ wpAny (model X.prog X.w) X.A (getItem v (.ref sl)) (EP X pins σ Q) X.xe s
theorem SlR.or {r r' : V -> Option Int -> Option Int -> Hp -> VK -> Prop} (h : SlR X r) (h' : SlR X r') : SlR X (fun x lo hi H Q => r x lo hi H Q \/ r' x lo hi H Q) := by
 intro pins s σ H x v vl vu lo hi sl Q I rx hs pl pu q
 rcases q with q | q
 ·exact h pins s σ H x v vl vu lo hi sl Q I rx hs pl pu q
 ·exact h' pins s σ H x v vl vu lo hi sl Q I rx hs pl pu q
noncomputable def tSl (r : V -> Option Int -> Option Int -> Hp -> VK -> Prop) (te : TE) (tl th : TO) : TE := fun σ H Q => te σ H fun x H1 => tl σ H1 fun l H2 => th σ H2 fun u H3 => r x l u H3 Q
theorem pe_slice {r : V -> Option Int -> Option Int -> Hp -> VK -> Prop} (hr : SlR X r) (he : PE X e te) (hl : PO X lo tl) (hu : PO X hi th) : PE X (.Subscript e (.Slice lo hi none p2) pos) (tSl r te tl th) := by
 intro pins s σ H Q I h
 refine Subscript_ (thn (he pins s σ H _ I h) fun v s1 hh0_ => ?_)
 obtain ⟨x, H1, I1, r1, q1⟩ := hh0_
 refine wpAny_Slice (thn (hl pins s1 σ H1 _ I1 q1) fun vl s2 ⟨l, H2, I2, pl, q2⟩ => thn (hu pins s2 σ H2 _ I2 q2) fun vu s3 hh0_ => ?_)
 obtain ⟨u, H3, I3, pu, q3⟩ := hh0_
 rw [evalPart_none]
 refine wpAny_pure ?_
 have I4 : Inv X pins σ H3 { s3 with heap := s3.heap.push { cls := .type "slice", data := .fields #[vl, vu, .none] } } := I3.kept (t' := s3.toks) fun b ob q => Heap.get?_push_of_some _ q
 obtain ⟨T, id, hT, ht, hg⟩ := hr pins { s3 with heap := s3.heap.push { cls := .type "slice", data := .fields #[vl, vu, .none] } } σ H3 x v vl vu l u s3.heap.objs.size Q I4 r1 (Heap.IsSliceOf.new ..) pl pu q3
 show wpAny (model X.prog X.w) X.A (subscriptTail e (.Slice lo hi none p2) v (.ref s3.heap.objs.size)) (EP X pins σ Q) X.xe { s3 with heap := s3.heap.push { cls := .type "slice", data := .fields #[vl, vu, .none] } }
 exact tail_any (ops := [.ref s3.heap.objs.size, v]) ht hT hg (by with_unfolding_all rfl)
noncomputable def cutV (xs : List V) (lo hi : Option Int) : List V := (xs.drop (HT.sIx xs.length 0 lo)).take (HT.sIx xs.length xs.length hi - HT.sIx xs.length 0 lo)
theorem cutV_length (xs : List V) (lo hi : Option Int) : (cutV xs lo hi).length <= xs.length := by
 unfold cutV
 rw [List.length_take, List.length_drop]
 omega
noncomputable def rSlT (K : PySem.W.Frag) : V -> Option Int -> Option Int -> Hp -> VK -> Prop := fun x lo hi H Q => ∃ a xs, x = .ref a /\ SqT K H a xs /\
 ¬ (HT.sIx xs.length 0 lo = 0 /\ HT.sIx xs.length xs.length hi = xs.length) /\ ∀ p, H p = none -> Q (.ref p) (upd H p (.tup (cutV xs lo hi)))
theorem sl_tup : SlR X (rSlT X.K) := by
 intro pins s σ H x v vl vu lo hi sl Q I rx hs pl pu h
 obtain ⟨a, xs, rfl, hx, hw, q⟩ := h
 cases rx
 obtain ⟨its, r, ht, hz⟩ := I.tuple hx
 have hlen : its.toArray.size = xs.length := by rw [List.size_toArray]; exact r.length.symm
 refine ⟨"tuple", _, PyProof.Rows.slot_tuple_getitem.lookup, ht.typeIs, ?_⟩
 refine HT.getItem_tuple_cut ht hs pl pu (by rw [hlen]; exact hw) ?_ (by rw [hlen]; exact hz)
 rw [hlen]
 refine ⟨.ref s.heap.objs.size, _, I.laid (t' := s.toks) (o := .tup (cutV xs lo hi)) (fun b ob q => Heap.get?_push_of_some _ q) (Nat.le_refl _) ?_, rfl, q _ (I.hok.fresh (Nat.le_refl _))⟩
 exact ⟨Nat.le_trans (cutV_length xs lo hi) hz, _, (r.drop (HT.sIx xs.length 0 lo)).take (HT.sIx xs.length xs.length hi - HT.sIx xs.length 0 lo), IsTuN.new _ _⟩
end
end L2
namespace L2
open PySem PySem.Spec PyProof.Rows
noncomputable def ixN (n : Nat) (i : Int) : Option Nat := if 0 <= i then (if i < n then some i.toNat else none) else if -(n : Int) <= i then some (i + n).toNat else none
noncomputable def atI {α : Type} (xs : List α) (i : Int) : Option α := (ixN xs.length i).bind fun j => xs[j]?
theorem ixN_seq {n : Nat} {i : Int} {j : Nat} (h : ixN n i = some j) : seqIndex? i n = some j /\ j < n /\ -(n : Int) <= i /\ i < n := by
 unfold ixN at h
 by_cases h0 : 0 <= i
 ·rw [if_pos h0] at h
  by_cases h1 : i < n
  ·rw [if_pos h1] at h
   have e : i.toNat = j := Option.some.inj h
   exact ⟨by rw [seqIndex_of h0 h1, e], by omega, by omega, h1⟩
  ·rw [if_neg h1] at h; cases h
 ·rw [if_neg h0] at h
  by_cases h1 : -(n : Int) <= i
  ·rw [if_pos h1] at h
   have e : (i + n).toNat = j := Option.some.inj h
   exact ⟨by rw [seqIndex_neg (by omega) h1, e], by omega, h1, by omega⟩
  ·rw [if_neg h1] at h; cases h
theorem atI_get {α : Type} {xs : List α} {i : Int} {v : α} (h : atI xs i = some v) : ∃ j, seqIndex? i xs.length = some j /\ xs[j]? = some v /\ j < xs.length /\ -(xs.length : Int) <= i /\ i < xs.length := by
 unfold atI at h
 cases e : ixN xs.length i with
 | none => rw [e] at h; cases h
 | some j =>
  rw [e] at h
  obtain ⟨h1, h2, h3, h4⟩ := ixN_seq e
  exact ⟨j, h1, h, h2, h3, h4⟩
noncomputable def PlainIx (b : Expr) : Prop := ∀ o i, subscripted b false o i = operate [o, i] (getItem o i)
noncomputable def IxR (X : Cx) (r : R2) : Prop :=
 ∀ (value slice : Expr) (pins : List (Addr × Obj)) (s : Shared) (σ : St) (H : Hp) (x y : V) (v u : Value) (Q : VK), Inv X pins σ H s -> RelV x v -> RelV y u -> r x y H Q ->
  subscripted slice false v u = operate [v, u] (getItem v u) -> wpAny (model X.prog X.w) X.A (subscriptTail value slice v u) (EP X pins σ Q) X.xe s
noncomputable def MtR (X : Cx) (id : String) (r : V -> List V -> Hp -> VK -> Prop) : Prop :=
 ∀ (pins : List (Addr × Obj)) (s : Shared) (σ : St) (H : Hp) (x : V) (xs : List V) (v : Value) (us : List Value) (Q : VK), Inv X pins σ H s -> RelV x v -> Vals xs us -> r x xs H Q ->
  wpAny (model X.prog X.w) X.A (call (.builtin id) (v :: us)) (EP X pins σ Q) X.xe s
section
variable {X : Cx} {a b : Expr} {ta tb : TE} {pos : Pos}
theorem IxR.or {r r' : R2} (h : IxR X r) (h' : IxR X r') : IxR X (fun x y H Q => r x y H Q \/ r' x y H Q) := by
 intro value slice pins s σ H x y v u Q I rx ry q hs
 rcases q with q | q
 ·exact h value slice pins s σ H x y v u Q I rx ry q hs
 ·exact h' value slice pins s σ H x y v u Q I rx ry q hs
theorem MtR.or {id : String} {r r' : V -> List V -> Hp -> VK -> Prop} (h : MtR X id r) (h' : MtR X id r') : MtR X id (fun x xs H Q => r x xs H Q \/ r' x xs H Q) := by
 intro pins s σ H x xs v us Q I rx rs q
 rcases q with q | q
 ·exact h pins s σ H x xs v us Q I rx rs q
 ·exact h' pins s σ H x xs v us Q I rx rs q
theorem pe_ix {r : R2} (hr : IxR X r) (ha : PE X a ta) (hb : PE X b tb) (hs : PlainIx b) : PE X (.Subscript a b pos) (tOp r ta tb) := by
 intro pins s σ H Q I h
 exact Subscript_ (binT ha hb I h fun v u s2 x y H2 I2 rx ry q => hr a b pins s2 σ H2 x y v u Q I2 rx ry q (hs _ _))
noncomputable def rIxL (K : PySem.W.Frag) : R2 := fun x y H Q => ∃ p xs i v, x = .ref p /\ y = .int i /\ SqL K H p xs /\ atI xs i = some v /\ Q v H
noncomputable def rIxT (K : PySem.W.Frag) : R2 := fun x y H Q => ∃ p xs i v, x = .ref p /\ y = .int i /\ SqT K H p xs /\ atI xs i = some v /\ Q v H
noncomputable def rIxS : R2 := fun x y H Q => ∃ z i c, x = .str z /\ y = .int i /\ z.length <= sizeLine /\ atI z.cps.toList i = some c /\ Q (.str ⟨#[c]⟩) H
theorem ix_list : IxR X (rIxL X.K) := by
 intro value slice pins s σ H x y v u Q I rx ry h hs
 obtain ⟨p, xs, i, z, rfl, rfl, hq, he, q⟩ := h
 cases rx
 obtain ⟨t, rfl⟩ := ry
 obtain ⟨its, r, pl, hz⟩ := I.list hq
 obtain ⟨j, h1, h2, h3, h4, h5⟩ := atI_get he
 obtain ⟨w, ew, rw'⟩ := r.get h2
 have hl := r.length
 have hn := line63
 have fin : EP X pins σ Q w s := ⟨z, H, I, rw', q⟩
 by_cases h0 : 0 <= i
 ·have hj : i.toNat = j := by
   rw [seqIndex_of h0 h5] at h1
   exact Option.some.inj h1
  exact item_listR pl.isList h0 (by omega) (by rw [hj]; simpa using ew) fin hs
 ·have hj : (i + (its.toArray.size : Int)).toNat = j := by
   rw [seqIndex_neg (by omega) h4] at h1
   rw [List.size_toArray, <- hl]
   exact Option.some.inj h1
  exact subscriptTail_builtinR (x := w) pl.isList.typeIs slot_list_getitem.lookup
   (wpAny_getItem_list_neg (Q := fun r s' => r = w /\ EP X pins σ Q r s') pl.isList (by omega) (by rw [List.size_toArray] <;> omega) (by omega) (by rw [hj]; simpa using ew) ⟨rfl, fin⟩) hs
theorem ix_tup : IxR X (rIxT X.K) := by
 intro value slice pins s σ H x y v u Q I rx ry h hs
 obtain ⟨p, xs, i, z, rfl, rfl, hq, he, q⟩ := h
 cases rx
 obtain ⟨t, rfl⟩ := ry
 obtain ⟨its, r, pl, hz⟩ := I.tuple hq
 obtain ⟨j, h1, h2, h3, h4, h5⟩ := atI_get he
 obtain ⟨w, ew, rw'⟩ := r.get h2
 have hl := r.length
 have hn := line63
 have fin : EP X pins σ Q w s := ⟨z, H, I, rw', q⟩
 exact subscriptTail_builtinR (x := w) pl.typeIs slot_tuple_getitem.lookup
  (getItem_tuple (j := j) (Q := fun r s' => r = w /\ EP X pins σ Q r s') pl (by omega) (by omega) (by rw [List.size_toArray, <- hl]; exact h1) (by simpa using ew) ⟨rfl, fin⟩) hs
theorem ix_str : IxR X rIxS := by
 intro value slice pins s σ H x y v u Q I rx ry h hs
 obtain ⟨z, i, c, rfl, rfl, hz, he, q⟩ := h
 obtain ⟨t, rfl⟩ := rx
 obtain ⟨t', rfl⟩ := ry
 obtain ⟨j, h1, h2, h3, h4, h5⟩ := atI_get he
 have hl : z.cps.toList.length = z.length := by simp [Str.length]
 rw [hl] at h1 h4 h5
 have hn := line63
 exact tail_any (typeIs_str s z t) slot_str_getitem.lookup (getItem_str (c := c) (by
  have e1 : decide (i < -(2 ^ 63 : Int)) = false := decide_eq_false (by omega)
  have e2 : decide (i >= 2 ^ 63) = false := decide_eq_false (by omega)
  rw [e1, e2, Bool.or_false]) (by rw [h1]; simpa using h2) ⟨.str ⟨#[c]⟩, H, I.tok _, ⟨_, rfl⟩, q⟩) hs
noncomputable def rIx (K : PySem.W.Frag) : R2 := fun x y H Q => rIxL K x y H Q \/ rIxT K x y H Q \/ rIxS x y H Q
theorem ix_seq : IxR X (rIx X.K) := ix_list.or (ix_tup.or ix_str)
theorem Inv.lst {pins : List (Addr × Obj)} {σ : St} {H : Hp} {s : Shared} {p : Addr} {xs : List V} (I : Inv X pins σ H s) (h : H p = some (.lst xs)) :
  ∃ (its : List Value) (n : Nat), Vals xs its ∧ s.heap.get? p = some { cls := .type "list", data := .seq its.toArray n } ∧ xs.length ≤ sizeLine := by
 obtain ⟨z, its, n, r, e⟩ := I.hok p _ h
 exact ⟨its, n, r, e, z⟩
theorem slice_bounds (lo hi : Option Int) (n : Nat) : (sliceBounds lo hi none n).1 = ((HT.sIx n 0 lo : Nat) : Int) /\ (sliceBounds lo hi none n).2.1 = ((HT.sIx n n hi : Nat) : Int) /\ (sliceBounds lo hi none n).2.2 = 1 := by
 refine ⟨?_, ?_, rfl⟩
 ·cases lo with
  | none => simp [sliceBounds, HT.sIx]
  | some i =>
   simp only [sliceBounds, HT.sIx, Option.getD_none, show (1 : Int) > 0 by decide, if_true]
   by_cases h : i < 0
   ·simp only [h, if_true] <;> omega
   ·simp only [h, if_false] <;> omega
 ·cases hi with
  | none => simp [sliceBounds, HT.sIx]
  | some i =>
   simp only [sliceBounds, HT.sIx, Option.getD_none, show (1 : Int) > 0 by decide, if_true]
   by_cases h : i < 0
   ·simp only [h, if_true] <;> omega
   ·simp only [h, if_false] <;> omega
theorem slicePick_cut (its : List Value) (lo hi : Option Int) : slicePick its.toArray lo hi none = ((its.drop (HT.sIx its.length 0 lo)).take (HT.sIx its.length its.length hi - HT.sIx its.length 0 lo)).toArray := by
 obtain ⟨h1, h2, h3⟩ := slice_bounds lo hi its.toArray.size
 unfold slicePick
 rw [h1, h2, h3]
 simp only [sliceRange_one, pick_run, List.size_toArray] <;> rfl
noncomputable def rSlL (K : PySem.W.Frag) : V -> Option Int -> Option Int -> Hp -> VK -> Prop := fun x lo hi H Q => ∃ a xs, x = .ref a /\ SqL K H a xs /\ ∀ p, H p = none -> Q (.ref p) (upd H p (.lst (cutV xs lo hi)))
theorem sl_list : SlR X (rSlL X.K) := by
 intro pins s σ H x v vl vu lo hi sl Q I rx hs pl pu h
 obtain ⟨a, xs, rfl, hx, q⟩ := h
 cases rx
 obtain ⟨its, r, ht, hz⟩ := I.list hx
 have hlen := r.length
 refine ⟨"list", _, slot_list_getitem.lookup, ht.isList.typeIs, ?_⟩
 refine wpAny_getItem_list_slice ht.isList hs pl pu .none (by simp) ?_ (by rw [List.size_toArray] <;> omega)
 rw [slicePick_cut, <- hlen]
 refine ⟨.ref s.heap.objs.size, _, I.laid (t' := s.toks) (o := .lst (cutV xs lo hi)) (fun b ob q => Heap.get?_push_of_some _ q) (Nat.le_refl _) ?_, rfl, q _ (I.hok.fresh (Nat.le_refl _))⟩
 exact ⟨Nat.le_trans (cutV_length xs lo hi) hz, _, 0, (r.drop (HT.sIx xs.length 0 lo)).take (HT.sIx xs.length xs.length hi - HT.sIx xs.length 0 lo), Heap.get?_push_size _ rfl⟩
noncomputable def flatV : V -> Bool
 | .non => true
 | .bl _ => true
 | .int _ => true
 | .str _ => true
 | _ => false
noncomputable def eqV : V -> V -> Bool
 | .non, .non => true
 | .bl a, .bl b => a == b
 | .bl a, .int b => (if a then 1 else 0) == b
 | .int a, .bl b => a == (if b then 1 else 0)
 | .int a, .int b => a == b
 | .str a, .str b => a == b
 | _, _ => false
theorem eqAt_V {A : Around} {s : Shared} {y x : V} {u v : Value} (ry : RelV y u) (rx : RelV x v) (fy : flatV y = true) (fx : flatV x = true) : SeqAt.EqAt A s u v (eqV y x) := by
 cases y with
 | non =>
  cases ry
  cases x with
  | non => cases rx; exact SeqAt.EqAt.same _
  | bl b => cases rx; exact SeqAt.EqAt.none_bool b
  | int b => obtain ⟨t, rfl⟩ := rx; exact SeqAt.EqAt.none_int b t
  | str b => obtain ⟨t, rfl⟩ := rx; exact SeqAt.EqAt.none_str b t
  | _ => exact absurd (show false = true from fx) Bool.false_ne_true
 | bl a =>
  cases ry
  cases x with
  | non => cases rx; exact SeqAt.EqAt.bool_none a
  | bl b => cases rx; exact SeqAt.EqAt.bool_bool a b
  | int b => obtain ⟨t, rfl⟩ := rx; exact SeqAt.EqAt.bool_int a b t
  | str b => obtain ⟨t, rfl⟩ := rx; exact SeqAt.EqAt.bool_str a b t
  | _ => exact absurd (show false = true from fx) Bool.false_ne_true
 | int a =>
  obtain ⟨t', rfl⟩ := ry
  cases x with
  | non => cases rx; exact SeqAt.EqAt.int_none a t'
  | bl b => cases rx; exact SeqAt.EqAt.int_bool a t' b
  | int b => obtain ⟨t, rfl⟩ := rx; exact SeqAt.EqAt.int_int a t' b t
  | str b => obtain ⟨t, rfl⟩ := rx; exact SeqAt.EqAt.int_str a t' b t
  | _ => exact absurd (show false = true from fx) Bool.false_ne_true
 | str a =>
  obtain ⟨t', rfl⟩ := ry
  cases x with
  | non => cases rx; exact SeqAt.EqAt.str_none a t'
  | bl b => cases rx; exact SeqAt.EqAt.str_bool a t' b
  | int b => obtain ⟨t, rfl⟩ := rx; exact SeqAt.EqAt.str_int a t' b t
  | str b => obtain ⟨t, rfl⟩ := rx; exact SeqAt.EqAt.str_str a t' b t
  | _ => exact absurd (show false = true from fx) Bool.false_ne_true
 | _ => exact absurd (show false = true from fy) Bool.false_ne_true
noncomputable def eqU (x : V) (u : Value) : Bool := match u with
 | .none => eqV .non x
 | .bool b => eqV (.bl b) x
 | .int i _ => eqV (.int i) x
 | .str z _ => eqV (.str z) x
 | _ => false
theorem eqU_of {x y : V} {u : Value} (r : RelV y u) (f : flatV y = true) : eqU x u = eqV y x := by
 cases y with
 | non => cases r; rfl
 | bl b => cases r; rfl
 | int i => obtain ⟨t, rfl⟩ := r; rfl
 | str z => obtain ⟨t, rfl⟩ := r; rfl
 | _ => exact absurd (show false = true from f) Bool.false_ne_true
theorem any_eqU {x : V} : ∀ {xs : List V} {us : List Value}, Vals xs us -> xs.all flatV = true -> us.any (eqU x) = xs.any fun y => eqV y x
 | _, _, .nil, _ => rfl
 | y :: xs, u :: us, .cons r t, f => by
  rw [List.all_cons, Bool.and_eq_true] at f
  rw [List.any_cons, List.any_cons, eqU_of r f.1, any_eqU t f.2]
theorem mem_eqAt {A : Around} {s : Shared} {x : V} {v : Value} (rx : RelV x v) (fx : flatV x = true) : ∀ {xs : List V} {us : List Value}, Vals xs us -> xs.all flatV = true -> ∀ u ∈ us, SeqAt.EqAt A s u v (eqU x u)
 | _, _, .nil, _ => fun u hu => by cases hu
 | y :: xs, u :: us, .cons r t, f => fun u' hu => by
  rw [List.all_cons, Bool.and_eq_true] at f
  rcases List.mem_cons.mp hu with rfl | hu
  ·rw [eqU_of r f.1]; exact eqAt_V r rx f.1 fx
  ·exact mem_eqAt rx fx t f.2 u' hu
noncomputable def inV (x : V) (xs : List V) : Bool := xs.any fun y => eqV y x
noncomputable def rIn (K : PySem.W.Frag) (neg : Bool) : R2 := fun x y H Q => ∃ p xs, y = .ref p /\ (SqL K H p xs \/ SqT K H p xs) /\ flatV x = true /\ xs.all flatV = true /\ Q (.bl (if neg then !inV x xs else inV x xs)) H
theorem op_in_seq : OpR X (compareOp .In) (rIn X.K false) := by
 intro pins s σ H x y v u Q I rx ry h
 obtain ⟨p, xs, rfl, hq, fx, fs, q⟩ := h
 cases ry
 rcases hq with hq | hq
 ·obtain ⟨its, r, pl, hz⟩ := I.list hq
  refine SeqAt.in_listAt (eqU x) pl.isList (fun w hw => mem_eqAt rx fx r fs w (by simpa using hw)) ⟨.bl _, H, I, rfl, ?_⟩
  rw [show its.toArray.any (eqU x) = its.any (eqU x) by simp, any_eqU r fs]
  exact q
 ·obtain ⟨its, r, pl, hz⟩ := I.tuple hq
  refine SeqAt.in_tupleAt (eqU x) pl (fun w hw => mem_eqAt rx fx r fs w (by simpa using hw)) ⟨.bl _, H, I, rfl, ?_⟩
  rw [show its.toArray.any (eqU x) = its.any (eqU x) by simp, any_eqU r fs]
  exact q
theorem op_notIn_seq : OpR X (compareOp .NotIn) (rIn X.K true) := by
 intro pins s σ H x y v u Q I rx ry h
 obtain ⟨p, xs, rfl, hq, fx, fs, q⟩ := h
 cases ry
 rcases hq with hq | hq
 ·obtain ⟨its, r, pl, hz⟩ := I.list hq
  refine SeqAt.notIn_listAt (eqU x) pl.isList (fun w hw => mem_eqAt rx fx r fs w (by simpa using hw)) ⟨.bl _, H, I, rfl, ?_⟩
  rw [show its.toArray.any (eqU x) = its.any (eqU x) by simp, any_eqU r fs]
  exact q
 ·obtain ⟨its, r, pl, hz⟩ := I.tuple hq
  refine SeqAt.notIn_tupleAt (eqU x) pl (fun w hw => mem_eqAt rx fx r fs w (by simpa using hw)) ⟨.bl _, H, I, rfl, ?_⟩
  rw [show its.toArray.any (eqU x) = its.any (eqU x) by simp, any_eqU r fs]
  exact q
theorem op_notIn_str : OpR X (compareOp .NotIn) (fun x y H Q => ∃ i j, x = .str i /\ y = .str j /\ Q (.bl (!(!(Builtin.Str.occurrences j i 0 j.length 1).isEmpty))) H) := by
 intro pins s σ H x y v u Q I rx ry h
 obtain ⟨i, j, rfl, rfl, q⟩ := h
 obtain ⟨t, rfl⟩ := rx
 obtain ⟨t', rfl⟩ := ry
 exact notIn_str ⟨.bl _, H, I, rfl, q⟩
theorem call_len_seq : CallR X (.builtin "len") (fun xs H Q => ∃ p ys, xs = [.ref p] ∧ (SqL X.K H p ys ∨ SqT X.K H p ys) ∧ Q (.int ys.length) H) := by
 intro pins s σ H xs us Q I r h
 obtain ⟨p, ys, rfl, hq, q⟩ := h
 obtain ⟨u, rfl, rx⟩ := vals1 r
 cases rx
 have hn := line63
 rcases hq with hq | hq
 ·obtain ⟨its, r', pl, hz⟩ := I.list hq
  have hlen := r'.length
  exact Calls.call_len_list pl.isList (by simp only [List.size_toArray] <;> omega) ⟨.int ys.length, H, I.tok _, ⟨s.toks + 1, by rw [List.size_toArray, hlen]⟩, q⟩
 ·obtain ⟨its, r', pl, hz⟩ := I.tuple hq
  have hlen := r'.length
  exact len_tuple pl (by simp only [List.size_toArray] <;> omega) ⟨.int ys.length, H, I.tok _, ⟨s.toks + 1, by rw [List.size_toArray, hlen]⟩, q⟩
theorem call_len_str : CallR X (.builtin "len") (fun xs H Q => ∃ z, xs = [.str z] ∧ z.length ≤ sizeLine ∧ Q (.int z.length) H) := by
 intro pins s σ H xs us Q I r h
 obtain ⟨z, rfl, hz, q⟩ := h
 obtain ⟨u, rfl, t, rfl⟩ := vals1 r
 have hn := line63
 exact len_str (by omega) ⟨.int z.length, H, I.tok _, ⟨_, rfl⟩, q⟩
theorem CallR.or {f : Value} {r r' : List V -> Hp -> VK -> Prop} (h : CallR X f r) (h' : CallR X f r') : CallR X f (fun xs H Q => r xs H Q \/ r' xs H Q) := by
 intro pins s σ H xs us Q I rs q
 rcases q with q | q
 ·exact h pins s σ H xs us Q I rs q
 ·exact h' pins s σ H xs us Q I rs q
theorem call_tuple_of : CallR X (.type "tuple") (fun xs H Q => ∃ p ys, xs = [.ref p] ∧ ((SqL X.K H p ys ∧ ∀ l, H l = none → Q (.ref l) (upd H l (.tup ys))) ∨ (SqT X.K H p ys ∧ Q (.ref p) H))) := by
 intro pins s σ H xs us Q I r h
 obtain ⟨p, ys, rfl, h⟩ := h
 obtain ⟨u, rfl, rx⟩ := vals1 r
 cases rx
 rcases h with ⟨hq, q⟩ | ⟨hq, q⟩
 ·obtain ⟨its, r', pl, hz⟩ := I.list hq
  have hlen := r'.length
  refine call_tuple_list pl.isList (fun h' kp => ?_) (by simp only [List.size_toArray] <;> omega)
  have I1 : Inv X pins σ H { s with heap := h' } := I.kept (t' := s.toks) kp
  have I2 : Inv X pins σ (upd H h'.objs.size (.tup ys)) { s with heap := h'.push { cls := .type "tuple", data := .seq its.toArray } } :=
   I1.laid (t' := s.toks) (fun b o e => Heap.get?_push_of_some _ e) (Nat.le_refl _) (show ObjOk X.prog X.w _ _ _ (.tup ys) from ⟨hz, its, r', IsTuN.new _ _⟩)
  exact ⟨.ref h'.objs.size, _, I2, rfl, q _ (I1.hok.fresh (Nat.le_refl _))⟩
 ·obtain ⟨its, r', pl, hz⟩ := I.tuple hq
  exact call_tuple_same pl ⟨.ref p, H, I, rfl, q⟩
noncomputable def tyV (K : PySem.W.Frag) (T : String) (x : V) (H : Hp) : Prop := match x with
 | .str _ => T = "str"
 | .int _ => T = "int"
 | .ref p => (T = "list" ∧ ∃ xs, SqL K H p xs) ∨ (T = "tuple" ∧ ∃ o, K.lookup p = some o ∧ o.cls = .type "tuple" ∧ o.dict = none) ∨
   (T = "dict" ∧ ((∃ kvs, H p = some (.dK kvs)) ∨ ∃ kvs, H p = some (.dT kvs))) ∨ (T = "set" ∧ ∃ S n, H p = some (.set S n))
 | _ => False
variable {o e : Expr} {es : List Expr} {to : TE} {t : TA} {name : Str} {apos cpos : Pos} {T id : String} {r : V -> List V -> Hp -> VK -> Prop}
end
end L2
namespace L2
open PySem PySem.Spec PyProof.Rows
section
variable {X : Cx} {pins : List (Addr × Obj)} {σ : St} {H : Hp} {s : Shared} {l b : Addr} {xs ys zs : List V}
theorem Inv.lnew {its : List Value} {t' : Nat} (I : Inv X pins σ H s) (hv : Vals ys its) (hz : ys.length <= sizeLine) :
  Inv X pins σ (upd H s.heap.objs.size (.lst ys)) { s with heap := s.heap.push { cls := .type "list", data := .seq its.toArray }, toks := t' } :=
 I.laid (fun _ _ q => Heap.get?_push_of_some _ q) (Nat.le_refl _) ⟨hz, its, 0, hv, Heap.get?_push_size _ rfl⟩
theorem Inv.fresh (I : Inv X pins σ H s) : H s.heap.objs.size = none := I.hok.fresh (Nat.le_refl _)
end
section
variable {X : Cx}
end
section
variable {prog : Program} {w : World} {A : Around} {E : Value -> Shared -> Prop} {s : Shared}
end
section
variable {X : Cx}
end
end L2
namespace Att
open PySem PySem.W PySem.Calls PyProof.Rows
theorem ints_of_wellAll {P : Params} {h : Heap} : ∀ (ns : List Int) (vs : List Value), WellAll P h vs (ns.map WData.int) -> IntsAre vs ns := by
 intro ns
 induction ns with
 | nil =>
  intro vs w
  rw [List.map_nil] at w
  cases w
  exact .nil
 | cons n ns ih =>
  intro vs w
  rw [List.map_cons] at w
  cases w with
  | cons a b =>
   cases a
   exact .cons _ _ (ih _ b)
theorem script_of {l : OpenLaw} {n : Nat} (hn : l.most = some n) {P : Params} {h : Heap} {args : List WData} {vals : List Value}
  (hpre : l.row.toRowW.claim.pre args = true) (hwl : WellAll P h vals args) :
  ∃ a vs ns, vals = [Value.ref a] ∧ args = [WData.list (ns.map WData.int)] ∧ h.get? a = some { cls := .type "list", data := .seq vs.toArray } ∧ IntsAre vs ns ∧ ns.length ≤ n := by
 have hsh : WShape.hasAll [] args [.list .int] = true := (pre_splitW hpre).1
 have hc : l.pre.holds [] { args := args } = true := (pre_splitW hpre).2
 obtain ⟨d, r, rfl, h1, h2⟩ := hasAllW_cons hsh
 obtain rfl := hasAllW_nil h2
 obtain ⟨xs, rfl, h3⟩ := hasW_list h1
 obtain ⟨ns, rfl⟩ := items_int h3
 have hlen : ns.length <= n := by
  unfold OpenLaw.pre at hc
  have h4 : (WTm.not (.lt (.lit (.int (n : Int))) (.len (.arg 0)))).holds [] { args := [.list (ns.map .int)] } = true := by
   have h4 := (holds_andW hc).1
   rw [hn] at h4
   exact h4
  have h5 := condW_of h4 (w_not (w_lt w_lit (w_len_list (w_arg rfl))))
  rw [List.length_map] at h5
  refine Nat.le_of_not_lt fun q => ?_
  have q' : (n : Int) < ((ns.length : Nat) : Int) := by omega
  first
   | (rw [decide_eq_true q'] at h5; exact absurd h5 (by decide))
   | (simp at h5; omega)
 cases hwl with
 | cons w1 w2 =>
  cases w2
  cases w1 with
  | list ho hall => exact ⟨_, _, ns, rfl, rfl, ho, ints_of_wellAll ns _ hall, hlen⟩
theorem post_true (l : OpenLaw) (args : List WData) : l.row.toRowW.claim.post args (.bool true) args = true :=
 postW_of (r := l.row.toRowW) (X := (true == true))
  (show WShape.has [] (.bool true) .bool = true by first | rfl | decide | simp [WShape.has, WShape.arms, WShape.armsAll])
  (show (WTm.eq .res (.lit (.bool true))).value [] { args := args, res := some (.bool true), after := args } = some (.bool (true == true)) from w_eq_bool (w_res rfl) w_lit) rfl
theorem attach_call {l : OpenLaw} {n : Nat} {q : Program} {loose : List Str} {XP : (Str -> Option Value) -> Heap -> Prop} {YP : World -> Heap -> Prop} {d : DefRec}
  (hn : l.most = some n) (hdf : d.params.defaults = [])
  (call : ∀ (w : World) (s₀ s₁ : Shared) (mg mb : Str -> Option Value) (fa : Addr) (o : Obj) (pm cd doc : Value) (a : Addr) (vs : List Value) (ns : List Int),
   Ground q loose [] XP w s₀ mg mb s₁.heap -> YP w s₁.heap ->
   s₁.heap.get? fa = some o -> o.data = .func (docDef d.name d.params d.body d.scope pm cd doc) -> s₁.heap.CodeRec cd d.name -> mg d.name = some (.ref fa) ->
   s₁.heap.get? a = some { cls := .type "list", data := .seq vs.toArray } → IntsAre vs ns → ns.length ≤ n → s₁.gens = #[] →
   codeAny (model l.prog w) callerA (.call (.ref fa) ⟨[.ref a], []⟩) (fun r s' => r = .ok (.ret (.bool true)) /\ OldK s₁.heap s'.heap /\ s'.os = s₁.os /\ AllBare s'.gens) s₁) :
  WalkO q loose XP YP l.row.toRowW d [] (fun f vs => PySem.call f vs) := by
 intro w s₀ s₁ mg mb G Y fa o pm cd doc dV kV ho hd hcd hD hmg hg args vals as hpre hlay hrd hwl hlo
 obtain rfl : dV = .none := Dflts.none hD hdf
 obtain rfl : kV = .none := Dflts.noKw hD
 obtain ⟨a, vs, ns, rfl, rfl, hobj, hints, hlen⟩ := script_of hn hpre hwl
 refine enter_call (codeAny_mono (call w s₀ s₁ mg mb fa o pm cd doc a vs ns G Y ho (fd_plain hd) hcd hmg hobj hints hlen hg) fun r s' hq => ?_)
 obtain ⟨rfl, h2, h3, h4⟩ := hq
 exact ⟨.inl ⟨.bool true, .bool true, [], rfl, fun _ => rfl, .bool true, post_true l _, fun _ => ⟨List.Pairwise.nil, fun _ hm => (nomatch hm)⟩⟩, h2, h3, h4⟩
section
variable {prog : Program} {w : World} {A : Around} {E : Value -> Shared -> Prop} {s : Shared} {K : Frag}
end
end Att
namespace L2
open PySem PySem.Spec PyProof.Rows
theorem vals_ints : ∀ {vs : List Value} {ns : List Int}, IntsAre vs ns -> Vals (ns.map V.int) vs
 | _, _, .nil => .nil
 | _, _, .cons n t h => .cons ⟨t, rfl⟩ (vals_ints h)
noncomputable def Only (H : Hp) : Prop := ∀ b, H b = none \/ ∃ o xs, H b = some (.frz o (.lst xs))
theorem law_call {P : Program} {w : World} {K : PySem.W.Frag} {mg mb : Str -> Option Value} {CX : CXT} {k : Nat} {fa a : Addr} {fd : FuncData} {x : Str} {sp : Sp} {s₁ : Shared} {vs : List Value} {ns : List Int}
  (KX : K.In s₁.heap) (hns : s₁.heap.Ns mainGlobals mg) (hb : s₁.heap.Ns builtinsNs mb) (hbb : ∀ x : Str, x ≠ "__name__" → mb x = bootBuiltins x) (hlim : s₁.heap.NoLimit) (hg : s₁.gens = #[])
  (ha : s₁.heap.get? a = some { cls := .type "list", data := .seq vs.toArray }) (hi : IntsAre vs ns) (hl : ns.length ≤ sizeLine) (hr : Room k callerA)
  (F : ∀ base : Heap, K.In base -> base.Ns mainGlobals mg -> FnOk P w K mg base CX k fa fd [x] sp) (hbind : ∀ (s : Shared) (u : Value), BindsTo s fd ⟨[u], []⟩ [(x, u)])
  (hsp : ∀ H : Hp, Only H -> SqL K H a (ns.map V.int) -> sp [.ref a] H (fun v _ => v = .bl true) fun _ _ _ => False)
  (hCX : ∀ H e s', CX [] H s₁ (fun _ _ _ => False) e s' -> False) :
  codeAny (model P w) callerA (.call (.ref fa) ⟨[.ref a], []⟩) (fun r s' => r = .ok (.ret (.bool true)) /\ OldK s₁.heap s'.heap /\ s'.os = s₁.os /\ AllBare s'.gens) s₁ := by
 have rv := vals_ints hi
 have lenV := hi.length
 have core : ∀ H : Hp, Only H -> SqL K H a (ns.map V.int) -> HOk P w H s₁.heap -> (∀ b, H b ≠ none -> b = a) -> (H a ≠ none -> K.lookup a = none) ->
   codeAny (model P w) callerA (.call (.ref fa) ⟨[.ref a], []⟩) (fun r s' => r = .ok (.ret (.bool true)) /\ OldK s₁.heap s'.heap /\ s'.os = s₁.os /\ AllBare s'.gens) s₁ := by
  intro H hO hS hok hA hK
  have base_of : ∀ {b : Addr} {o : Obj}, s₁.heap.get? b = some o -> H b = none -> (hidT s₁.heap H).get? b = some o := fun e n => hidT_get e n
  have noA : ∀ {b : Addr} {o : Obj} {es : Array DictEntry} {ep : Nat}, s₁.heap.get? b = some o -> o.data = .dict es ep -> H b = none := fun {b o es ep} e d => by
   cases q : H b with
   | none => rfl
   | some u =>
    have e' : b = a := hA b (by rw [q]; simp)
    subst e'
    rw [ha] at e; cases e
    have d' : Data.seq vs.toArray _ = Data.dict es ep := d
    cases d'
  have nsK : ∀ {b : Addr} {m : Str -> Option Value}, s₁.heap.Ns b m -> (hidT s₁.heap H).Ns b m := fun {b m} ⟨o, es, ep, e, d, r⟩ => ⟨o, es, ep, base_of e (noA e d), d, r⟩
  have hKb : K.In (hidT s₁.heap H) := fun b o e => base_of (KX b o e) (by
   cases q : H b with
   | none => rfl
   | some u =>
    have e' : b = a := hA b (by rw [q]; simp)
    subst e'
    rw [hK (by rw [q]; simp)] at e; cases e)
  have hM : Mod K mg (hidT s₁.heap H) := ⟨hKb, nsK hns, ⟨mb, nsK hb, hbb⟩, let ⟨mc, h1, h2⟩ := hlim; ⟨mc, nsK h1, h2⟩⟩
  have e0 : Env0 P w K mg (hidT s₁.heap H) callerA [] s₁ H := ⟨rfl, hM, fun b o e => of_hidT e, Nat.le_of_eq (hidT_size _ _), trivial, fun b hb => absurd (show b ∈ ([] : List Addr) from hb) (by simp), hok, .of_eq hg⟩
  refine codeAny_mono ((F _ hKb (nsK hns)).run callerA [] s₁ H ⟨[.ref a], []⟩ [.ref a] [.ref a] _ _ hr e0 (hbind s₁ (.ref a)) (.cons rfl .nil) (hsp H hO hS)) fun r s' h => ?_
  cases r with
  | error e => exact (hCX H e s' h).elim
  | ok fl =>
   cases fl with
   | next => exact False.elim h
   | brk => exact False.elim h
   | cont => exact False.elim h
   | ret u =>
    obtain ⟨v, H', os, bare, un, hok', r', q⟩ := h
    have q' : v = .bl true := q
    subst q'
    obtain rfl : u = Value.bool true := r'
    refine ⟨rfl, OldK.of_keep fun b o e => ?_, os, bare⟩
    cases q : H b with
    | none => exact un.keep b o e q (by intro z; exact absurd (show b ∈ ([] : List Addr) from z) (by simp)) (by simp)
    | some u =>
     rcases hO b with z | ⟨ob, xs, z⟩
     ·rw [q] at z; cases z
     ·have z2 := un.frzs b ob _ z
      obtain ⟨e1, _⟩ := hok b _ z
      obtain ⟨e2, _⟩ := hok' b _ z2
      rw [e] at e1; cases e1
      exact e2
 cases hk : K.lookup a with
 | some o =>
  have e := KX a o hk
  rw [ha] at e
  cases e
  refine core (fun _ => none) (fun _ => .inl rfl) (.inr ⟨_, vs.toArray, _, hk, rfl, rfl, rfl, by rw [List.size_toArray, lenV]; exact hl, by simpa using rv⟩) (fun b u z => by have z' : (none : Option HO) = some u := z; cases z') (fun b z => absurd rfl z) fun z => absurd rfl z
 | none =>
  refine core (fun b => if b = a then some (.frz { cls := .type "list", data := .seq vs.toArray } (.lst (ns.map V.int))) else none) (fun b => ?_) (.inl (.inr ⟨{ cls := .type "list", data := .seq vs.toArray }, if_pos rfl⟩)) (fun b u z => ?_) (fun b z => ?_) fun _ => hk
  ·by_cases hb : b = a
   ·exact .inr ⟨_, _, if_pos hb⟩
   ·exact .inl (if_neg hb)
  ·by_cases hb : b = a
   ·have z' := (if_pos hb).symm.trans z
    cases z'
    subst hb
    exact ⟨ha, by rw [List.length_map]; exact hl, vs, _, rv, ha⟩
   ·have z' := (if_neg hb).symm.trans z
    cases z'
  ·by_cases hb : b = a
   ·exact hb
   ·exact absurd (if_neg hb) z
end L2
namespace L2
open PySem PySem.Spec PyProof.Rows
theorem walk_of {l : PySem.W.OpenLaw} {n k : Nat} {q : Program} {loose : List Str} {XP : (Str -> Option Value) -> Heap -> Prop} {YP : World -> Heap -> Prop} {d : DefRec} {K : Params -> PySem.W.Frag} {CX : World -> CXT} {sp : World -> Sp} {x : Str}
  (hn : l.most = some n) (hn2 : n <= sizeLine) (hdf : d.params.defaults = []) (hr : Room k callerA)
  (hY : ∀ (w : World) (h : Heap), YP w h -> (K w.params).In h)
  (F : ∀ (w : World) (mg : Str -> Option Value) (fa : Addr) (h : Heap), (K w.params).In h -> h.Ns mainGlobals mg -> mg d.name = some (.ref fa) ->
   ∃ fd : FuncData, (∀ (s : Shared) (u : Value), BindsTo s fd ⟨[u], []⟩ [(x, u)]) /\
    ∀ base : Heap, (K w.params).In base -> base.Ns mainGlobals mg -> FnOk l.prog w (K w.params) mg base (CX w) k fa fd [x] (sp w))
  (hsp : ∀ (w : World) (H : Hp) (a : Addr) (ns : List Int), ns.length <= n -> Only H -> SqL (K w.params) H a (ns.map V.int) -> sp w [.ref a] H (fun v _ => v = .bl true) fun _ _ _ => False)
  (hCX : ∀ (w : World) (H : Hp) (s : Shared) (e : Value) (s' : Shared), CX w [] H s (fun _ _ _ => False) e s' -> False) :
  PySem.W.WalkO q loose XP YP l.row.toRowW d [] (fun f vs => PySem.call f vs) := by
 refine Att.attach_call hn hdf fun w s₀ s₁ mg mb fa o pm cd doc a vs ns G Y ho hd hcd hmg hobj hints hlen hg => ?_
 have KX := hY w _ Y
 obtain ⟨fd, hb, hF⟩ := F w mg fa _ KX G.T.g hmg
 exact law_call KX G.T.g G.T.b G.T.builtins G.T.nolimit hg hobj hints (Nat.le_trans hlen hn2) hr hF hb (fun H hO hS => hsp w H a ns hlen hO hS) fun H e s' => hCX w H s₁ e s'
end L2
namespace L2
open PySem PySem.Spec PyProof.Rows
noncomputable def defArgs (s : Stmt) : Arguments := match s with
 | .FunctionDef _ a _ _ _ _ _ _ _ _ => a
 | _ => { posonlyargs := [], args := [], vararg := none, kwonlyargs := [], kw_defaults := [], kwarg := none, defaults := [] }
noncomputable def defBody (s : Stmt) : List Stmt := match s with
 | .FunctionDef _ _ b _ _ _ _ _ _ _ => b
 | _ => []
noncomputable def defScope (s : Stmt) : Scope := match s with
 | .FunctionDef _ _ _ _ _ _ sc _ _ _ => sc
 | _ => { kind := .function, names := [], isGenerator := false, isCoroutine := false }
noncomputable abbrev CX0 : CXT := fun _ _ _ _ _ _ => False
noncomputable abbrev E0 : XK := fun _ _ _ => False
theorem pass0 {X : Cx} : Passes CX0 X E0 := fun _ _ _ _ _ _ _ h => h.elim
structure Fun (K : PySem.W.Frag) (x qual : Str) (st : Stmt) (f : Addr) (fd : FuncData) : Prop where
 ex : ∃ (oc : Value) (od : Option Addr) (kV doc pm : Value) (an : Option Addr) (cdv ct : Value) (osl : Array (Option Value)),
  fd = PySem.W.fnOf x qual (defArgs st) (defBody st) (defScope st) .none kV doc pm an cdv ct /\ K.lookup f = some ⟨oc, od, .func fd, osl⟩ /\ PySem.W.codeIn K cdv qual = true
 kp : PySem.W.keepIn K (.ref f) = true
section
variable {P : Program} {w : World} {K : PySem.W.Frag} {mg : Str -> Option Value} {base : Heap}
theorem Fun.ok {x qual : Str} {st : Stmt} {f : Addr} {fd : FuncData} {N ps : List Str} {k : Nat} {sp : Sp} (F : Fun K x qual st f fd) (S : FnScope N ps (defScope st)) (len : ∀ vs H Q E, sp vs H Q E -> vs.length = ps.length)
  (hbody : ∀ (cdv : Value) (A : Around) (outer : List Env) (s : Shared) (H : Hp) (vs : List V) (Q : VK) (E : XK), Room k (A.deeper (envOfC qual (defScope st) s.heap.objs.size f cdv)) -> sp vs H Q E ->
   ∃ t, PSs (cxOf CX0 P w K mg base N qual (defScope st) f cdv A outer s H E).nox (defBody st) t /\ t { nx := fun _ H' => Q .non H', rt := Q } (start N vs) H) : FnOk P w K mg base CX0 (k + 1) f fd ps sp := by
 obtain ⟨oc, od, kV, doc, pm, an, cdv, ct, osl, rfl, lk, hcd⟩ := F.ex
 refine fn_of lk hcd S len fun A outer s H vs Q E hr hsp => ?_
 obtain ⟨t, h, q⟩ := hbody cdv A outer s H vs Q E hr hsp
 exact ⟨t, h.nox, q⟩
theorem Fun.binds {x qual : Str} {st : Stmt} {f : Addr} {fd : FuncData} {ps : List Str} (F : Fun K x qual st f fd)
  (h : ∀ (kV doc pm : Value) (an : Option Addr) (cdv ct : Value) (us : List Value), us.length = ps.length -> bindArgs (PySem.W.fnOf x qual (defArgs st) (defBody st) (defScope st) .none kV doc pm an cdv ct) ⟨us, []⟩ = pure (ps.zip us)) : Binds K fd ps [] := by
 obtain ⟨oc, od, kV, doc, pm, an, cdv, ct, osl, rfl, lk, hcd⟩ := F.ex
 exact .all (h kV doc pm an cdv ct)
theorem fun_mk {x qual : Str} {st : Stmt} {f : Addr} {oc : Value} {od an : Option Addr} {osl : Array (Option Value)} {kV doc pm cdv ct : Value} (l : K.lookup f = some ⟨oc, od, .func (PySem.W.fnOf x qual (defArgs st) (defBody st) (defScope st) .none kV doc pm an cdv ct), osl⟩)
  (c : PySem.W.codeIn K cdv qual = true) (k : PySem.W.keepIn K (.ref f) = true) : Fun K x qual st f (PySem.W.fnOf x qual (defArgs st) (defBody st) (defScope st) .none kV doc pm an cdv ct) := ⟨⟨oc, od, kV, doc, pm, an, cdv, ct, osl, rfl, l, c⟩, k⟩
end
theorem hu_of {A : Around} {k : Nat} (hr : Room k A) : A.units + 1 < cLine := Nat.lt_of_le_of_lt (Nat.add_le_add_left (by decide : 1 <= 64) _) hr.units
theorem small1000 {n : Nat} (h : n <= 1000) : n < sizeLine := Nat.lt_of_le_of_lt h (by decide)
section
variable {X : Cx}
theorem pv (i : Nat) {x : Str} {pos : Pos} (hN : X.N[i]? = some x) (hv : Vis X.env.scope x) (hd : (x == ("__debug__" : Str)) = false)
  (hcd : (x == ("__classdict__" : Str)) = false) : PE X (.Name x pos) (tVar i) := pe_var hN hv hd hcd
end
noncomputable def Same (H H' : Hp) : Prop := ∀ b o, H b = some o -> H' b = some o
theorem Same.refl (H : Hp) : Same H H := fun _ _ h => h
theorem Same.trans {H H1 H2 : Hp} (a : Same H H1) (b : Same H1 H2) : Same H H2 := fun c o h => b c o (a c o h)
theorem Same.free {H H' : Hp} (e : Same H H') {l : Addr} (h : H' l = Option.none) : H l = Option.none := by
 cases q : H l with
 | none => rfl
 | some o =>
  rw [e l o q] at h
  cases h
theorem Same.seq {K : PySem.W.Frag} {H H' : Hp} {a : Addr} {xs : List V} (e : Same H H') (h : SqL K H a xs) : SqL K H' a xs := by
 rcases h with (h | ⟨o, h⟩) | h
 ·exact .inl (.inl (e _ _ h))
 ·exact .inl (.inr ⟨o, e _ _ h⟩)
 ·exact .inr h
end L2
set_option maxRecDepth 100000
set_option maxRecDepth 100000
namespace L2
open PySem PySem.Spec PyProof.Rows
end L2
namespace L2
open PySem PySem.Spec PyProof.Rows
section
variable (P : Program) (w : World)
end
section
variable {P : Program} {w : World} {H H' : Hp} {h h' : Heap} {a : Addr} {o : HO}
end
section
variable {P : Program} {w : World} {H : Hp} {h h' : Heap} {x e : Addr} {o' : HO}
end
section
variable {fs fs' ex ex' : List Addr} {H H1 H2 : Hp} {h h1 h2 h' : Heap} {a x e : Addr} {o : HO}
end
end L2
namespace L2
open PySem PySem.Spec PyProof.Rows
section
variable {X : Cx} {pins : List (Addr × Obj)} {σ : List (Option V)} {H H' : Hp} {s : Shared} {h' : Heap}
end
end L2
namespace L2
open PySem PySem.Spec PyProof.Rows
section
variable {X : Cx}
variable {a b : Expr} {ta tb : TE} {pos : Pos}
variable {tA tB' : TT} {rest : List Expr}
end
end L2
namespace L2
open PySem PySem.Spec PyProof.Rows
section
variable {X : Cx} {pins : List (Addr × Obj)} {σ : St} {H : Hp} {s : Shared} {a : Addr} {xs ys : List V}
end
section
variable {X : Cx} {pins : List (Addr × Obj)} {σ : St} {H : Hp} {s : Shared} {E : Value -> Shared -> Prop}
end
section
variable {X : Cx} {st : Stmt} {rest : List Stmt} {t u : TS} {e : Expr} {te : TE} {pos : Pos}
end
section
variable {X : Cx} {pos : Pos}
end
section
variable {X : Cx} {pos : Pos}
end
end L2
namespace L2
open PySem PySem.Spec PyProof.Rows
section
variable {X : Cx} {tg : Expr}
end
end L2
namespace L2
open PySem PySem.Spec PyProof.Rows
section
variable {X : Cx} {a b c : Expr} {ta tb tc : TE} {pos : Pos}
end
section
variable {X : Cx} {a b c : Expr} {ta tb tc : TE} {pos : Pos}
end
end L2
namespace L2
open PySem PySem.Spec PyProof.Rows
section
variable {prog : Program} {w : World} {A : Around} {E : Value -> Shared -> Prop} {s : Shared} {K : PySem.W.Frag} {x dx C f : Addr} {mA : Str -> Option Value} {name : Str} {v : Value}
end
section
variable {P : Program} {w : World} {H H' : Hp} {h h' : Heap} {a C dx : Addr} {fs fs' : List (Str × V)}
end
section
variable {X : Cx} {pins : List (Addr × Obj)} {σ : St} {H : Hp} {s : Shared} {a C dx : Addr} {fs : List (Str × V)} {f : Str} {v : V} {A : Around} {E : Value -> Shared -> Prop}
end
section
variable {X : Cx} {o e value : Expr} {f : Str} {pos pos' tpos : Pos} {ta tv : TE}
end
section
variable {X : Cx} {pins : List (Addr × Obj)} {σ : St} {H : Hp} {s : Shared} {A : Around} {E : Value -> Shared -> Prop} {Q : Value -> Shared -> Prop} {c : Value} {b : Bool}
end
end L2
namespace L2
open PySem PySem.Spec PyProof.Rows
section
variable {X : Cx} {e : Expr} {es : List Expr} {te : TE} {t : TA} {pos : Pos}
end
section
variable {X : Cx} {pins : List (Addr × Obj)} {σ : St} {H : Hp} {s s' : Shared}
end
section
variable {X : Cx} {CX : CXT} {k : Nat} {f C : Addr} {fd : FuncData} {ps : List Str} {sp : Sp} {dvs : List V} {ds : List Value} {E : XK} {x m : Str} {p pos apos : Pos} {e o : Expr} {es : List Expr} {ta : TE} {t : TA}
end
section
variable {X : Cx} {CX : CXT} {k : Nat} {f C : Addr} {fd : FuncData} {ps ks : List Str} {sp : Sp} {E : XK} {x m : Str} {p pos apos kpos : Pos} {e o : Expr} {es : List Expr} {kws : List Keyword} {te ta : TE} {t tk : TA} {nm : Option Str}
variable {g : List Value -> List Value -> List Value} {gV : List V -> List V -> List V}
end
end L2
namespace L2
open PySem PySem.Spec PyProof.Rows
section
variable {X : Cx} {x : Str} {p pos : Pos} {e : Expr} {es : List Expr} {t : TA} {id T : String} {r : List V -> Hp -> VK -> Prop}
end
end L2
namespace L2
open PySem PySem.Spec PyProof.Rows
section
variable {κ : Type} [DecidableEq κ]
noncomputable def valV (kvs : List (κ × V)) (k : κ) : Option V := (kvs.find? fun kv => decide (kv.1 = k)).map (·.2)
noncomputable def putK (kvs : List (κ × V)) (k : κ) (v : V) : List (κ × V) :=
 if (kvs.any fun kv => decide (kv.1 = k)) = true then kvs.map (fun kv => if kv.1 = k then (kv.1, v) else kv) else kvs ++ [(k, v)]
noncomputable def dropK (kvs : List (κ × V)) (k : κ) : List (κ × V) := kvs.filter fun kv => decide (kv.1 ≠ k)
theorem valV_pos {p : κ × V} {r : List (κ × V)} {k : κ} (e : p.1 = k) : valV (p :: r) k = some p.2 := by simp [valV, List.find?_cons, e]
theorem valV_neg {p : κ × V} {r : List (κ × V)} {k : κ} (e : ¬ p.1 = k) : valV (p :: r) k = valV r k := by simp [valV, List.find?_cons, e]
theorem valV_any (k : κ) : ∀ kvs : List (κ × V), (kvs.any fun kv => decide (kv.1 = k)) = (valV kvs k).isSome
 | [] => rfl
 | p :: r => by
  rw [List.any_cons]
  by_cases e : p.1 = k
  ·simp only [valV_pos e, decide_eq_true e, Bool.true_or, Option.isSome_some]
  ·rw [valV_neg e, decide_eq_false e, Bool.false_or]; exact valV_any k r
theorem length_putK (kvs : List (κ × V)) (k : κ) (v : V) : (putK kvs k v).length <= kvs.length + 1 := by
 unfold putK
 split
 ·rw [List.length_map]; omega
 ·rw [List.length_append, List.length_cons, List.length_nil]; omega
theorem putK_new {kvs : List (κ × V)} {k : κ} (v : V) (h : valV kvs k = none) : putK kvs k v = kvs ++ [(k, v)] := by
 unfold putK
 rw [valV_any, h]
 exact if_neg (by decide)
theorem RelO.isSome_eq {o : Option V} {u : Option Value} (r : RelO o u) : o.isSome = u.isSome := by
 cases o with
 | none => cases u with
  | none => rfl
  | some _ => exact (show False from r).elim
 | some _ => cases u with
  | none => exact (show False from r).elim
  | some _ => rfl
theorem RelO.getD {o : Option V} {u : Option Value} {d : V} {d' : Value} (r : RelO o u) (rd : RelV d d') : RelV (o.getD d) (u.getD d') := by
 cases o with
 | none => cases u with
  | none => exact rd
  | some _ => exact (show False from r).elim
 | some _ => cases u with
  | none => exact (show False from r).elim
  | some _ => exact r
theorem KV.val {kvs : List (κ × V)} {vs : List (κ × Value)} (r : KV kvs vs) (k : κ) : RelO (valV kvs k) (valueAt vs k) := by
 unfold KV at r
 induction r with
 | nil => exact True.intro
 | @cons p q ps qs h t ih =>
  obtain ⟨h1, h2⟩ := h
  by_cases e : p.1 = k
  ·have e' : q.1 = k := h1.symm.trans e
   have b : valueAt (q :: qs) k = some q.2 := by simp [valueAt, List.find?_cons, e']
   rw [valV_pos e, b]; exact h2
  ·have e' : ¬ q.1 = k := fun z => e (h1.trans z)
   have b : valueAt (q :: qs) k = valueAt qs k := by simp [valueAt, List.find?_cons, e']
   rw [valV_neg e, b]; exact ih
theorem KV.any {kvs : List (κ × V)} {vs : List (κ × Value)} (r : KV kvs vs) (k : κ) : (kvs.any fun kv => decide (kv.1 = k)) = vs.any fun kv => decide (kv.1 = k) := by
 unfold KV at r
 induction r with
 | nil => rfl
 | cons h t ih => rw [List.any_cons, List.any_cons, ih, h.1]
theorem KV.repl {kvs : List (κ × V)} {vs : List (κ × Value)} (r : KV kvs vs) (k : κ) {y : V} {u : Value} (ry : RelV y u) :
  KV (kvs.map fun kv => if kv.1 = k then (kv.1, y) else kv) (vs.map fun kv => if kv.1 = k then (kv.1, u) else kv) := by
 unfold KV at r ⊢
 induction r with
 | nil => exact .nil
 | @cons p q ps qs h t ih =>
  rw [List.map_cons, List.map_cons]
  refine .cons ?_ ih
  obtain ⟨h1, h2⟩ := h
  by_cases e : p.1 = k
  ·rw [if_pos e, if_pos (h1.symm.trans e)]; exact ⟨h1, ry⟩
  ·rw [if_neg e, if_neg (fun z => e (h1.trans z))]; exact ⟨h1, h2⟩
theorem KV.put {kvs : List (κ × V)} {vs : List (κ × Value)} (r : KV kvs vs) (k : κ) {y : V} {u : Value} (ry : RelV y u) : KV (putK kvs k y) (stored vs k u) := by
 unfold putK stored
 rw [r.any k]
 by_cases e : (vs.any fun kv => decide (kv.1 = k)) = true
 ·rw [if_pos e, if_pos e]; exact r.repl k ry
 ·rw [if_neg e, if_neg e]; exact Paired.snoc r ⟨rfl, ry⟩
theorem KV.drop {kvs : List (κ × V)} {vs : List (κ × Value)} (r : KV kvs vs) (k : κ) : KV (dropK kvs k) (without vs k) := by
 unfold KV at r ⊢
 unfold dropK without
 induction r with
 | nil => exact .nil
 | @cons p q ps qs h t ih =>
  obtain ⟨h1, h2⟩ := h
  rw [List.filter_cons, List.filter_cons]
  by_cases e : p.1 = k
  ·have a : ¬ decide (p.1 ≠ k) = true := by simp [e]
   have b : ¬ decide (q.1 ≠ k) = true := by simp [h1.symm.trans e]
   rw [if_neg a, if_neg b]; exact ih
  ·have e' : ¬ q.1 = k := fun z => e (h1.trans z)
   have a : decide (p.1 ≠ k) = true := by simp [e]
   have b : decide (q.1 ≠ k) = true := by simp [e']
   rw [if_pos a, if_pos b]; exact .cons ⟨h1, h2⟩ ih
theorem KV.keys {kvs : List (κ × V)} {vs : List (κ × Value)} (r : KV kvs vs) : kvs.map (·.1) = vs.map (·.1) := by
 unfold KV at r
 induction r with
 | nil => rfl
 | cons h t ih => rw [List.map_cons, List.map_cons, ih, h.1]
theorem KV.length {kvs : List (κ × V)} {vs : List (κ × Value)} (r : KV kvs vs) : kvs.length = vs.length := Paired.length r
end
theorem kV_is {P : Program} {w : World} {k : Key} {u : Value} (r : RelV (kV k) u) : (mixKind P w).is k u = true := by
 cases k with
 | inl i => obtain ⟨t, e⟩ := (show ∃ t, u = Value.int i t from r); subst e; exact mixKind_int P w i t
 | inr x => obtain ⟨t, e⟩ := (show ∃ t, u = Value.str x t from r); subst e; exact mixKind_str P w x t
theorem items_are {P : Program} {w : World} : ∀ {ks : List Key} {us : List Value}, Vals (ks.map kV) us -> ItemsAre (mixKind P w) ks us
 | [], _, r => by rw [List.map_nil] at r; cases r; exact .nil
 | k :: ks, _, r => by
  rw [List.map_cons] at r
  cases r with
  | cons h t => exact .cons (kV_is h) (items_are t)
noncomputable abbrev KT (H : Hp) : List (List Key × V) -> List (List Key × Addr × Value) -> Prop := Paired fun p q => p.1 = q.1 /\ H q.2.1 = some (.tup (p.1.map kV)) /\ RelV p.2 q.2.2
theorem KT.val {H : Hp} {kvs : List (List Key × V)} {xs : List (List Key × Addr × Value)} (r : KT H kvs xs) (k : List Key) : RelO (valV kvs k) ((atKey xs k).map (·.2)) := by
 induction r with
 | nil => exact True.intro
 | @cons p q ps qs h t ih =>
  obtain ⟨h1, _, h2⟩ := h
  by_cases e : p.1 = k
  ·have e' : q.1 = k := h1.symm.trans e
   have b : atKey (q :: qs) k = some q.2 := by simp [atKey, List.find?_cons, e']
   rw [valV_pos e, b]; exact h2
  ·have e' : ¬ q.1 = k := fun z => e (h1.trans z)
   have b : atKey (q :: qs) k = atKey qs k := by simp [atKey, List.find?_cons, e']
   rw [valV_neg e, b]; exact ih
theorem KT.repl {H : Hp} {kvs : List (List Key × V)} {xs : List (List Key × Addr × Value)} (r : KT H kvs xs) (k : List Key) {y : V} {u : Value} (ry : RelV y u) :
  KT H (kvs.map fun kv => if kv.1 = k then (kv.1, y) else kv) (xs.map (putAt k u)) := by
 induction r with
 | nil => exact .nil
 | @cons p q ps qs h t ih =>
  rw [List.map_cons, List.map_cons]
  refine .cons ?_ ih
  obtain ⟨h1, h2, h3⟩ := h
  unfold putAt
  by_cases e : p.1 = k
  ·rw [if_pos e, if_pos (h1.symm.trans e)]; exact ⟨h1, h2, ry⟩
  ·rw [if_neg e, if_neg (fun z => e (h1.trans z))]; exact ⟨h1, h2, h3⟩
theorem KT.put {H : Hp} {kvs : List (List Key × V)} {xs : List (List Key × Addr × Value)} (r : KT H kvs xs) (k : List Key) {b : Addr} {y : V} {u : Value} (hb : H b = some (.tup (k.map kV))) (ry : RelV y u) :
  KT H (putK kvs k y) (storedH xs k b u) := by
 have e : (kvs.any fun kv => decide (kv.1 = k)) = (atKey xs k).isSome := by
  rw [valV_any, (r.val k).isSome_eq, Option.isSome_map]
 unfold putK storedH
 rw [e]
 by_cases q : (atKey xs k).isSome = true
 ·rw [if_pos q, if_pos q]; exact r.repl k ry
 ·rw [if_neg q, if_neg q]; exact Paired.snoc r ⟨rfl, hb, ry⟩
theorem KT.keeps {H H' : Hp} {kvs : List (List Key × V)} {xs : List (List Key × Addr × Value)} (r : KT H kvs xs) (ht : ∀ b ys, H b = some (.tup ys) -> H' b = some (.tup ys)) : KT H' kvs xs :=
 Paired.mapP r fun _ _ z => ⟨z.1, ht _ _ z.2.1, z.2.2⟩
section
variable {P : Program} {w : World} {H : Hp} {h : Heap} {a : Addr}
theorem rd_of {u : HO} (ok : HOk P w H h) (e : Rd H a u) : ObjOk P w H h a u := e.ok ok
theorem dk_rd {kvs : List (Key × V)} (ok : HOk P w H h) (e : Rd H a (.dK kvs)) : kvs.length <= sizeLine /\ (a == sysModules) = false /\ ∃ vs, KV kvs vs /\ h.DictOf (mixKind P w) a vs :=
 show ObjOk P w H h a (.dK kvs) from rd_of ok e
theorem dk_of {kvs : List (Key × V)} (ok : HOk P w H h) (e : H a = some (.dK kvs)) : kvs.length <= sizeLine /\ (a == sysModules) = false /\ ∃ vs, KV kvs vs /\ h.DictOf (mixKind P w) a vs := dk_rd ok (.inl e)
theorem key_of {ks : List Key} (ok : HOk P w H h) (e : H a = some (.tup (ks.map kV))) : (tupleKind (mixKind P w)).is h ks a := by
 obtain ⟨_, its, r, o, h1, h2, ⟨n, h3⟩, _⟩ := (show ObjOk P w H h a (.tup (ks.map kV)) from ok a _ e)
 exact ⟨o, its.toArray, n, h1, h2, h3, by simpa using items_are r⟩
theorem dt_rd {kvs : List (List Key × V)} (ok : HOk P w H h) (e : Rd H a (.dT kvs)) : kvs.length <= sizeLine /\ (a == sysModules) = false /\
  ∃ xs, KT H kvs xs /\ h.DictOfH (tupleKind (mixKind P w)) a xs := by
 obtain ⟨z, y, xs, r, o, es, ep, h1, h2, h3, h4, h5⟩ := (show ObjOk P w H h a (.dT kvs) from rd_of ok e)
 refine ⟨z, y, xs, r, o, es, ep, h1, h2, h3, h4, fun x hx => ?_, h5⟩
 have all : ∀ {l : List (List Key × V)} {m : List (List Key × Addr × Value)}, KT H l m -> ∀ x ∈ m, (tupleKind (mixKind P w)).is h x.1 x.2.1 := by
  intro l m q
  induction q with
  | nil => intro x hx; exact nomatch hx
  | @cons p q ps qs hq t ih =>
   intro x hx
   rcases List.mem_cons.mp hx with e | hx
   ·subst e
    exact key_of ok (by rw [<- hq.1]; exact hq.2.1)
   ·exact ih x hx
 exact all r x hx
theorem dt_of {kvs : List (List Key × V)} (ok : HOk P w H h) (e : H a = some (.dT kvs)) : kvs.length <= sizeLine /\ (a == sysModules) = false /\
  ∃ xs, KT H kvs xs /\ h.DictOfH (tupleKind (mixKind P w)) a xs := dt_rd ok (.inl e)
end
noncomputable def DGet (H : Hp) (a : Addr) (y : V) (r : Option V) : Prop :=
 (∃ kvs k, Rd H a (.dK kvs) /\ y = kV k /\ r = valV kvs k) \/ ∃ kvs k b, Rd H a (.dT kvs) /\ y = .ref b /\ H b = some (.tup (k.map kV)) /\ r = valV kvs k
noncomputable def DPut (H : Hp) (a : Addr) (y v : V) (H' : Hp) : Prop :=
 (∃ kvs k, H a = some (.dK kvs) /\ y = kV k /\ kvs.length < sizeLine /\ H' = upd H a (.dK (putK kvs k v))) \/
 ∃ kvs k b, H a = some (.dT kvs) /\ y = .ref b /\ H b = some (.tup (k.map kV)) /\ kvs.length < sizeLine /\ H' = upd H a (.dT (putK kvs k v))
theorem DGet.k {H : Hp} {a : Addr} {kvs : List (Key × V)} {k : Key} (e : H a = some (.dK kvs)) : DGet H a (kV k) (valV kvs k) := .inl ⟨kvs, k, .inl e, rfl, rfl⟩
theorem DGet.t {H : Hp} {a b : Addr} {kvs : List (List Key × V)} {k : List Key} (e : H a = some (.dT kvs)) (eb : H b = some (.tup (k.map kV))) : DGet H a (.ref b) (valV kvs k) := .inr ⟨kvs, k, b, .inl e, rfl, eb, rfl⟩
theorem DPut.k {H : Hp} {a : Addr} {kvs : List (Key × V)} {k : Key} {v : V} (e : H a = some (.dK kvs)) (hl : kvs.length < sizeLine) : DPut H a (kV k) v (upd H a (.dK (putK kvs k v))) := .inl ⟨kvs, k, e, rfl, hl, rfl⟩
theorem DPut.t {H : Hp} {a b : Addr} {kvs : List (List Key × V)} {k : List Key} {v : V} (e : H a = some (.dT kvs)) (eb : H b = some (.tup (k.map kV))) (hl : kvs.length < sizeLine) :
  DPut H a (.ref b) v (upd H a (.dT (putK kvs k v))) := .inr ⟨kvs, k, b, e, rfl, eb, hl, rfl⟩
section
variable {X : Cx} {pins : List (Addr × Obj)} {σ : St} {H : Hp} {s : Shared} {a : Addr} {y v : V} {u r : Value} {o : Option V} {A : Around} {E : Value -> Shared -> Prop}
theorem Inv.big (I : Inv X pins σ H s) : sysModules < s.heap.objs.size := by
 have h : mainGlobals < s.heap.objs.size := (I.mod.glob.keeps I.bk).lt
 exact Nat.lt_trans (by decide) h
theorem d_getItem {Q : Value -> Shared -> Prop} (hu : A.units + 1 < cLine) (I : Inv X pins σ H s) (g : DGet H a y (some v)) (ry : RelV y u) (h : ∀ w' s', Inv X pins σ H s' -> RelV v w' -> Q w' s') :
  wpAny (model X.prog X.w) A (getItem (.ref a) u) Q E s := by
 rcases g with ⟨kvs, k, e, ey, l⟩ | ⟨kvs, k, b, e, ey, eb, l⟩
 ·subst ey
  obtain ⟨z, hd, vs, rel, dd⟩ := dk_rd I.hok e
  obtain ⟨w', hw, rw'⟩ := RelO.some_of (v := v) (o := valueAt vs k) (by rw [l]; exact rel.val k)
  exact wpAny_getItem_of (kV_is ry) dd.mapOf hw (h w' _ (I.tok _) rw')
 ·subst ey
  cases (show u = Value.ref b from ry)
  obtain ⟨z, hd, xs, rel, dd⟩ := dt_rd I.hok e
  obtain ⟨w', hw, rw'⟩ := RelO.some_of (v := v) (o := (atKey xs k).map (·.2)) (by rw [l]; exact rel.val k)
  obtain ⟨p, hp, hp2⟩ := Option.map_eq_some_iff.mp hw
  refine wpAny_getItem_heap (tupleKind_room_in1 hu) (key_of I.hok eb) dd hp ?_
  rw [hp2]
  exact h w' _ (I.tok _) rw'
theorem d_write {h' : Heap} {t' : Nat} {ob : HO} (I : Inv X pins σ H s) (mu : Mut (H a)) (hs : Heap.SameBut a s.heap h') (he : ∃ q, h'.get? a = some q) (new : ObjOk X.prog X.w (upd H a ob) h' a ob) :
  Inv X pins σ (upd H a ob) { s with heap := h', toks := t' } :=
 I.write (x := a) (e := a) mu (.inl rfl) (fun b q hb z => (hs.2 b hb).trans z) he new
theorem dk_new {P : Program} {w : World} {H' : Hp} {h' : Heap} {kvs : List (Key × V)} {vs : List (Key × Value)} (z : kvs.length <= sizeLine) (hd : (a == sysModules) = false) (rel : KV kvs vs) (dd : h'.DictOf (mixKind P w) a vs) :
  ObjOk P w H' h' a (.dK kvs) := ⟨z, hd, vs, rel, dd⟩
theorem d_setItem {H' : Hp} {Q : Unit -> Shared -> Prop} (hu : A.units + 1 < cLine) (I : Inv X pins σ H s) (g : DPut H a y v H') (ry : RelV y u) (rv : RelV v r) (h : ∀ s', Inv X pins σ H' s' -> Q () s') :
  wpAny (model X.prog X.w) A (setItem (.ref a) u r) Q E s := by
 rcases g with ⟨kvs, k, e, ey, l, eH⟩ | ⟨kvs, k, b, e, ey, eb, l, eH⟩
 ·subst ey eH
  obtain ⟨z, hd, vs, rel, dd⟩ := dk_of I.hok e
  have hz : vs.length <= sizeLine := by rw [<- rel.length]; exact z
  have hl : (putK kvs k v).length <= sizeLine := by have := length_putK kvs k v; omega
  refine wpAny_setItem_pairs (hsz := hz) (kV_is ry) dd fun h' dd' hs => h _ ?_
  have he : ∃ q, h'.get? a = some q := let ⟨q, _, _, hq, _⟩ := dd'; ⟨q, hq⟩
  exact d_write I (by rw [e]; exact True.intro) hs he (dk_new hl hd (rel.put k rv) dd')
 ·subst ey eH
  cases (show u = Value.ref b from ry)
  obtain ⟨z, hd, xs, rel, dd⟩ := dt_of I.hok e
  have hz : xs.length <= sizeLine := by rw [<- Paired.length rel]; exact z
  have hl : (putK kvs k v).length <= sizeLine := by have := length_putK kvs k v; omega
  refine wpAny_setItem_heap (hsz := hz) (tupleKind_room_in1 hu) (key_of I.hok eb) dd fun h' dd' hs => h _ ?_
  obtain ⟨q, es, ep, hq, h2, h3, h4, _, h5⟩ := dd'
  refine d_write I (by rw [e]; exact True.intro) hs ⟨q, hq⟩ ⟨hl, hd, _, (rel.put k eb rv).keeps fun c ys ec => ?_, q, es, ep, hq, h2, h3, h4, h5⟩
  rw [upd_ne (ne_of ec e (fun z => nomatch z))]
  exact ec
end
section
variable {X : Cx} {pins : List (Addr × Obj)} {σ : St} {H : Hp} {s : Shared} {a : Addr} {kvs : List (Key × V)} {k : Key} {u : Value} {A : Around} {E : Value -> Shared -> Prop}
end
noncomputable def NoSl (i : Expr) : Prop := ∀ ov iv, subscripted i false ov iv = operate [ov, iv] (getItem ov iv)
theorem subD_of {prog : Program} {w : World} {A : Around} {E : Value -> Shared -> Prop} {s : Shared} {env : Env} {value slice : Expr} {pos : Pos} {T id : String} {Q : Value -> Shared -> Prop}
  (hl : typeLookup (.type T) "__getitem__" = pure (some (.builtin id))) (hs : NoSl slice)
  (h : wpAny (model prog w) A (eval value env) (fun o s₁ => wpAny (model prog w) A (eval slice env) (fun i s₂ => s₂.TypeIs o T /\ wpAny (model prog w) A (getItem o i) Q E s₂) E s₁) E s) :
  wpAny (model prog w) A (eval (.Subscript value slice pos) env) Q E s := by
 refine Subscript_ (wpAny_mono h (fun o s₁ h₁ => wpAny_mono h₁ (fun i s₂ h₂ => ?_) fun _ _ x => x) fun _ _ x => x)
 obtain ⟨hT, h₂⟩ := h₂
 unfold subscriptTail
 refine wpAny_bind ?_
 rw [getitemInPython_of_ne hT.not_modules]
 refine wpAny_bind (wpAny_specialOf hT hl ?_)
 have fin : wpAny (model prog w) A (subscripted slice false o i) (fun r s₃ => wpAny (model prog w) A (letTemporaryGo value o r >>= fun _ => pure r) Q E s₃) E s₂ := by
  rw [hs o i]
  exact wpAny_operating (wpAny_mono h₂ (fun r s₃ h₃ => wpAny_bind (wpAny_letTemporaryGo (wpAny_pure h₃))) fun _ _ x => x)
 first
  | exact wpAny_pure (wpAny_bind fin)
  | exact wpAny_bind (wpAny_pure (wpAny_bind fin))
  | exact wpAny_bind fin
theorem dict_typeIs {X : Cx} {pins : List (Addr × Obj)} {σ : St} {H : Hp} {s : Shared} {a : Addr} {y : V} {o : Option V} (I : Inv X pins σ H s) (g : DGet H a y o) : s.TypeIs (.ref a) "dict" := by
 rcases g with ⟨kvs, k, e, _, _⟩ | ⟨kvs, k, b, e, _, _, _⟩
 ·obtain ⟨_, _, vs, _, dd⟩ := dk_rd I.hok e
  exact dd.typeIs
 ·obtain ⟨_, _, xs, _, dd⟩ := dt_rd I.hok e
  exact dd.typeIs
noncomputable def tDGet (td ty : TE) : TE := fun σ H Q => td σ H fun x H1 => ty σ H1 fun y H2 => ∃ a v, x = .ref a /\ DGet H2 a y (some v) /\ Q v H2
noncomputable def sDPut (td ty tv : TE) : TS := fun D σ H => tv σ H fun v H1 => td σ H1 fun x H2 => ty σ H2 fun y H3 => ∃ a H4, x = .ref a /\ DPut H3 a y v H4 /\ D.nx σ H4
section
variable {X : Cx} {o i e value : Expr} {pos pos' tpos : Pos} {td ty tv : TE}
theorem pe_dget (hu : X.A.units + 1 < cLine) (ho : PE X o td) (hi : PE X i ty) (hs : NoSl i) : PE X (.Subscript o i pos) (tDGet td ty) := by
 intro pins s σ H Q I h
 refine subD_of PySem.F.slot_dict_getitem.lookup hs (thn (ho pins s σ H _ I h) fun u s1 ⟨x, H1, I1, rx, q1⟩ => thn (hi pins s1 σ H1 _ I1 q1) fun iv s2 hh0_ => ?_)
 obtain ⟨y, H2, I2, ry, a, v, ex, g, q2⟩ := hh0_
 subst ex
 obtain rfl : u = Value.ref a := rx
 exact ⟨dict_typeIs I2 g, d_getItem hu I2 g ry fun w' s3 I3 rw' => ⟨v, H2, I3, rw', q2⟩⟩
theorem ps_dput (hu : X.A.units + 1 < cLine) (ho : PE X o td) (hi : PE X i ty) (hv : PE X value tv) (hs : swapsWith value (some (.Subscript o i pos')) pos.line X.env = pure false) :
  PS X (.Assign [.Subscript o i pos'] value pos) (sDPut td ty tv) := by
 intro pins s σ H D I h
 refine wpAny_Assign_Subscript (thn (hv pins s σ H _ I h) fun r s1 ⟨v, H1, I1, rv, q1⟩ => thn (ho pins s1 σ H1 _ I1 q1) fun u s2 ⟨x, H2, I2, rx, q2⟩ => thn (hi pins s2 σ H2 _ I2 q2) fun iv s3 hh0_ => ?_) hs
 obtain ⟨y, H3, I3, ry, a, H4, ex, g, q3⟩ := hh0_
 subst ex
 obtain rfl : u = Value.ref a := rx
 exact d_setItem hu I3 g ry rv fun s4 I4 => ⟨σ, H4, I4, q3⟩
end
theorem dk_empty {P : Program} {w : World} {H : Hp} (h : Heap) (hb : sysModules < h.objs.size) : ObjOk P w H (h.push { cls := .type "dict", data := .dict #[] }) h.objs.size (.dK []) :=
 ⟨Nat.zero_le _, beq_eq_false_iff_ne.mpr (Ne.symm (Nat.ne_of_lt hb)), [], .nil, Heap.DictOf.new h⟩
section
variable {X : Cx} {pos : Pos}
end
noncomputable def tPairs : List (TE × TE) -> St -> Hp -> (List (V × V) -> Hp -> Prop) -> Prop
 | [], _, H, Q => Q [] H
 | (tk, tv) :: r, σ, H, Q => tk σ H fun x H1 => tv σ H1 fun y H2 => tPairs r σ H2 fun ps H3 => Q ((x, y) :: ps) H3
noncomputable abbrev VV : List (V × V) -> List (Value × Value) -> Prop := Paired fun p q => RelV p.1 q.1 /\ RelV p.2 q.2
noncomputable def PPs (X : Cx) (pos : Pos) (keys : List (Option Expr)) (values : List Expr) (trs : List (TE × TE)) : Prop :=
 ∀ (pins : List (Addr × Obj)) (s : Shared) (σ : St) (H : Hp) (Q : List (V × V) -> Hp -> Prop), Inv X pins σ H s -> tPairs trs σ H Q ->
  wpAny (model X.prog X.w) X.A (evalPairs (pairTrees keys values X.env pos)) (fun vs s' => ∃ ps H', Inv X pins σ H' s' /\ VV ps vs /\ Q ps H') X.xe s
theorem pps_nil {X : Cx} {pos : Pos} : PPs X pos [] [] [] := fun pins s σ H Q I h => pairTrees_nil_walk ⟨[], H, I, .nil, h⟩
theorem pps_cons {X : Cx} {pos : Pos} {k v : Expr} {ks : List (Option Expr)} {vs : List Expr} {tk tv : TE} {trs : List (TE × TE)} (hk : PE X k tk) (hv : PE X v tv) (hr : PPs X pos ks vs trs) :
  PPs X pos (some k :: ks) (v :: vs) ((tk, tv) :: trs) := fun pins s σ H Q I h =>
 pairTrees_cons_walk (thn (hk pins s σ H _ I h) fun u s1 ⟨x, H1, I1, rx, q1⟩ => thn (hv pins s1 σ H1 _ I1 q1) fun w2 s2 ⟨y, H2, I2, ry, q2⟩ =>
  thn (hr pins s2 σ H2 _ I2 q2) fun ws s3 ⟨ps, H3, I3, rel, q3⟩ => ⟨(x, y) :: ps, H3, I3, .cons ⟨rx, ry⟩ rel, q3⟩)
noncomputable def mergeK (kvs more : List (Key × V)) : List (Key × V) := more.foldl (fun acc kv => putK acc kv.1 kv.2) kvs
theorem KV.merge : ∀ {more : List (Key × V)} {rs : List (Key × Value)} {kvs : List (Key × V)} {vs : List (Key × Value)}, KV more rs -> KV kvs vs -> KV (mergeK kvs more) (merged vs rs) := by
 intro more rs kvs vs r
 unfold KV at r
 induction r generalizing kvs vs with
 | nil => intro q; exact q
 | @cons p q ps qs h t ih =>
  intro r0
  have e : KV (putK kvs p.1 p.2) (stored vs q.1 q.2) := by
   have := r0.put p.1 h.2
   rw [<- h.1]; exact this
  exact ih e
theorem length_mergeK : ∀ (more kvs : List (Key × V)), (mergeK kvs more).length <= kvs.length + more.length
 | [], kvs => by show kvs.length <= kvs.length + 0; omega
 | p :: r, kvs => by
  have h1 := length_mergeK r (putK kvs p.1 p.2)
  have h2 := length_putK kvs p.1 p.2
  show (mergeK (putK kvs p.1 p.2) r).length <= _
  rw [List.length_cons]; omega
theorem carries_of {P : Program} {w : World} : ∀ {kvs : List (Key × V)} {ws : List (Value × Value)}, VV (kvs.map fun kv => (kV kv.1, kv.2)) ws -> ∃ rs, Carries (mixKind P w) ws rs /\ KV kvs rs
 | [], _, r => by rw [List.map_nil] at r; cases r; exact ⟨[], True.intro, .nil⟩
 | p :: kvs, _, r => by
  rw [List.map_cons] at r
  cases r with
  | @cons a b as bs h t =>
   obtain ⟨rs, c, q⟩ := carries_of (P := P) (w := w) t
   obtain ⟨b1, b2⟩ := b
   exact ⟨(p.1, b2) :: rs, ⟨kV_is h.1, rfl, c⟩, .cons ⟨rfl, h.2⟩ q⟩
noncomputable def tDisp (trs : List (TE × TE)) : TE := fun σ H Q => ∀ p, H p = none -> tPairs trs σ (upd H p (.dK [])) fun ps H2 => H2 p = some (.dK []) /\ ∃ kvs : List (Key × V), ps = kvs.map (fun kv => (kV kv.1, kv.2)) /\ kvs.length <= 15 /\ Q (.ref p) (upd H2 p (.dK (mergeK [] kvs)))
theorem pe_disp {X : Cx} {pos : Pos} {keys : List (Option Expr)} {values : List Expr} {trs : List (TE × TE)} (h : PPs X pos keys values trs) (hall : keys.all (·.isSome) = true) (hl : keys.length = values.length) (h0 : keys ≠ [])
  (h15 : keys.length <= 15) : PE X (.Dict keys values pos) (tDisp trs) := by
 intro pins s σ H Q I q
 have hn := I.hok.fresh (Nat.le_refl s.heap.objs.size)
 have I1 := I.laid (a := s.heap.objs.size) (o := .dK []) (h' := s.heap.push { cls := .type "dict", data := .dict #[] }) (t' := s.toks) (fun _ _ q => Heap.get?_push_of_some _ q) (Nat.le_refl _) (dk_empty s.heap I.big)
 refine wpAny_Dict_walk (knd := mixKind X.prog X.w) hall hl h0 h15 (thn (h pins _ σ _ _ I1 (q _ hn)) fun ws s2 hh0_ => ?_)
 obtain ⟨ps, H2, I2, rel, e, kvs, ep, lk, q2⟩ := hh0_
 subst ep
 obtain ⟨rs, c, rk⟩ := carries_of (P := X.prog) (w := X.w) rel
 obtain ⟨z, hd, vs0, r0, dd⟩ := dk_of I2.hok e
 cases r0
 refine ⟨rs, c, dd, fun h' dd' hs => ⟨.ref s.heap.objs.size, _, ?_, rfl, q2⟩⟩
 have hz : (mergeK [] kvs).length <= sizeLine := by
  have h1 := length_mergeK kvs []
  rw [List.length_nil] at h1
  rw [sizeLine_eq]; omega
 have he : ∃ q, h'.get? s.heap.objs.size = some q := let ⟨q, _, _, hq, _⟩ := dd'; ⟨q, hq⟩
 exact d_write I2 (by rw [e]; exact True.intro) hs he (dk_new hz hd (rk.merge .nil) dd')
structure M1 (X : Cx) (o : Expr) (m : Str) (apos : Pos) (e : Expr) (cpos : Pos) : Prop where
 base : attributeBase o m X.env (eval o X.env) = eval o X.env
 few : ((backTo cpos (starEach [e] X.env)).all (fun x => !x.1) && (backToKw cpos (keywordEach [] X.env)).all (fun x => x.1.isSome)
  && decide (([e] : List Expr).length + ([] : List Keyword).length + (if ([] : List Keyword).isEmpty then 0 else 1) < 30)) = true
 line : (apos.endLine == cpos.line) = true
 trees : backTo cpos (starEach [e] X.env) = [(false, eval e X.env)]
structure M2 (X : Cx) (o : Expr) (m : Str) (apos : Pos) (e f : Expr) (cpos : Pos) : Prop where
 base : attributeBase o m X.env (eval o X.env) = eval o X.env
 few : ((backTo cpos (starEach [e, f] X.env)).all (fun x => !x.1) && (backToKw cpos (keywordEach [] X.env)).all (fun x => x.1.isSome)
  && decide (([e, f] : List Expr).length + ([] : List Keyword).length + (if ([] : List Keyword).isEmpty then 0 else 1) < 30)) = true
 line : (apos.endLine == cpos.line) = true
 trees : backTo cpos (starEach [e, f] X.env) = [(false, eval e X.env), (false, eval f X.env)]
section
variable {X : Cx} {pins : List (Addr × Obj)} {σ : St} {H : Hp} {s : Shared} {a : Addr} {y d : V} {u r : Value} {o : Option V} {A : Around} {E : Value -> Shared -> Prop}
end
section
variable {X : Cx} {o e f : Expr} {apos cpos : Pos} {td ty tx : TE}
end
section
variable {X : Cx} {pins : List (Addr × Obj)} {σ : St} {H : Hp} {s : Shared} {a : Addr} {kvs : List (Key × V)} {A : Around} {E : Value -> Shared -> Prop}
end
section
variable {X : Cx} {pins : List (Addr × Obj)} {σ : St} {H : Hp} {s : Shared} {a : Addr} {y : V} {u : Value} {A : Around} {E : Value -> Shared -> Prop}
end
end L2
namespace Att
open PySem PySem.W PySem.Calls PyProof.Rows
section
variable {prog : Program} {w : World} {A : Around} {E : Value -> Shared -> Prop} {s : Shared} {K : Frag}
end
end Att
namespace L2
open PySem PySem.Spec PyProof.Rows
end L2
namespace L2
open PySem PySem.Spec PyProof.Rows
end L2
namespace L2
open PySem PySem.Spec PyProof.Rows
section
variable {P : Program} {w : World} {K : PySem.W.Frag} {mg : Str -> Option Value} {base : Heap}
end
section
variable {X : Cx}
end
section
variable {κ : Type} [DecidableEq κ]
theorem valV_in {kvs : List (κ × V)} {k : κ} {v : V} (h : valV kvs k = some v) : k ∈ kvs.map (·.1) := by
 have q : (kvs.any fun kv => decide (kv.1 = k)) = true := by
  rw [valV_any, h]
  all_goals rfl
 obtain ⟨p, hp, e⟩ := List.any_eq_true.mp q
 exact List.mem_map.mpr ⟨p, hp, of_decide_eq_true e⟩
end
end L2
namespace Fx
open PySem
inductive D where
 | non | bl (b : Bool) | int (i : Int) | str (x : Str) | tup (xs : List D) | lst (xs : List D)
inductive MO where
 | lst (xs : List D) | dic (kvs : List (Str × D))
inductive Sl where
 | no | im (d : D) | ow (b : Bool) (o : MO)
noncomputable abbrev En := List Sl
inductive Res where
 | nx (ρ : En) | rt (d : D) (ρ : En) | bk (ρ : En) | ct (ρ : En)
noncomputable abbrev FE := En -> Option (D × En)
noncomputable abbrev FT := En -> Option (Bool × En)
noncomputable abbrev FA := En -> Option (List D × En)
noncomputable abbrev FS := En -> Option Res
noncomputable def bnd {α β : Type} (x : Option α) (f : α -> Option β) : Option β := x.bind f
theorem bnd_some {α β : Type} (a : α) (f : α -> Option β) : bnd (some a) f = f a := rfl
mutual
noncomputable def eqD : D -> D -> Bool
 | .non, .non => true
 | .bl a, .bl b => a == b
 | .bl a, .int b => (if a then 1 else 0) == b
 | .int a, .bl b => a == (if b then 1 else 0)
 | .int a, .int b => a == b
 | .str a, .str b => a == b
 | .tup a, .tup b => eqDs a b
 | .lst a, .lst b => eqDs a b
 | _, _ => false
noncomputable def eqDs : List D -> List D -> Bool
 | [], [] => true
 | a :: r, b :: t => eqD a b && eqDs r t
 | _, _ => false
end
@[simp] theorem eqD_non_non  : eqD .non .non = true := by rw [eqD]
@[simp] theorem eqD_non_bl (y : Bool) : eqD .non (.bl y) = false := by simp [eqD]
@[simp] theorem eqD_non_int (y : Int) : eqD .non (.int y) = false := by simp [eqD]
@[simp] theorem eqD_non_str (y : Str) : eqD .non (.str y) = false := by simp [eqD]
@[simp] theorem eqD_non_tup (y : List D) : eqD .non (.tup y) = false := by simp [eqD]
@[simp] theorem eqD_non_lst (y : List D) : eqD .non (.lst y) = false := by simp [eqD]
@[simp] theorem eqD_bl_non (x : Bool) : eqD (.bl x) .non = false := by simp [eqD]
@[simp] theorem eqD_bl_bl (x : Bool) (y : Bool) : eqD (.bl x) (.bl y) = decide (x = y) := by rw [eqD]; exact Bool.beq_eq_decide_eq _ _
@[simp] theorem eqD_bl_int (x : Bool) (y : Int) : eqD (.bl x) (.int y) = ((if x then 1 else 0) == y) := by rw [eqD]
@[simp] theorem eqD_bl_str (x : Bool) (y : Str) : eqD (.bl x) (.str y) = false := by simp [eqD]
@[simp] theorem eqD_bl_tup (x : Bool) (y : List D) : eqD (.bl x) (.tup y) = false := by simp [eqD]
@[simp] theorem eqD_bl_lst (x : Bool) (y : List D) : eqD (.bl x) (.lst y) = false := by simp [eqD]
@[simp] theorem eqD_int_non (x : Int) : eqD (.int x) .non = false := by simp [eqD]
@[simp] theorem eqD_int_bl (x : Int) (y : Bool) : eqD (.int x) (.bl y) = (x == (if y then 1 else 0)) := by rw [eqD]
@[simp] theorem eqD_int_int (x : Int) (y : Int) : eqD (.int x) (.int y) = decide (x = y) := by rw [eqD]; exact Bool.beq_eq_decide_eq _ _
@[simp] theorem eqD_int_str (x : Int) (y : Str) : eqD (.int x) (.str y) = false := by simp [eqD]
@[simp] theorem eqD_int_tup (x : Int) (y : List D) : eqD (.int x) (.tup y) = false := by simp [eqD]
@[simp] theorem eqD_int_lst (x : Int) (y : List D) : eqD (.int x) (.lst y) = false := by simp [eqD]
@[simp] theorem eqD_str_non (x : Str) : eqD (.str x) .non = false := by simp [eqD]
@[simp] theorem eqD_str_bl (x : Str) (y : Bool) : eqD (.str x) (.bl y) = false := by simp [eqD]
@[simp] theorem eqD_str_int (x : Str) (y : Int) : eqD (.str x) (.int y) = false := by simp [eqD]
@[simp] theorem eqD_str_str (x : Str) (y : Str) : eqD (.str x) (.str y) = decide (x = y) := by rw [eqD]; exact Bool.beq_eq_decide_eq _ _
@[simp] theorem eqD_str_tup (x : Str) (y : List D) : eqD (.str x) (.tup y) = false := by simp [eqD]
@[simp] theorem eqD_str_lst (x : Str) (y : List D) : eqD (.str x) (.lst y) = false := by simp [eqD]
@[simp] theorem eqD_tup_non (x : List D) : eqD (.tup x) .non = false := by simp [eqD]
@[simp] theorem eqD_tup_bl (x : List D) (y : Bool) : eqD (.tup x) (.bl y) = false := by simp [eqD]
@[simp] theorem eqD_tup_int (x : List D) (y : Int) : eqD (.tup x) (.int y) = false := by simp [eqD]
@[simp] theorem eqD_tup_str (x : List D) (y : Str) : eqD (.tup x) (.str y) = false := by simp [eqD]
@[simp] theorem eqD_tup_tup (x : List D) (y : List D) : eqD (.tup x) (.tup y) = eqDs x y := by rw [eqD]
@[simp] theorem eqD_tup_lst (x : List D) (y : List D) : eqD (.tup x) (.lst y) = false := by simp [eqD]
@[simp] theorem eqD_lst_non (x : List D) : eqD (.lst x) .non = false := by simp [eqD]
@[simp] theorem eqD_lst_bl (x : List D) (y : Bool) : eqD (.lst x) (.bl y) = false := by simp [eqD]
@[simp] theorem eqD_lst_int (x : List D) (y : Int) : eqD (.lst x) (.int y) = false := by simp [eqD]
@[simp] theorem eqD_lst_str (x : List D) (y : Str) : eqD (.lst x) (.str y) = false := by simp [eqD]
@[simp] theorem eqD_lst_tup (x : List D) (y : List D) : eqD (.lst x) (.tup y) = false := by simp [eqD]
@[simp] theorem eqD_lst_lst (x : List D) (y : List D) : eqD (.lst x) (.lst y) = eqDs x y := by rw [eqD]
@[simp] theorem eqDs_nn : eqDs [] [] = true := by rw [eqDs]
@[simp] theorem eqDs_cc (a b : D) (r t : List D) : eqDs (a :: r) (b :: t) = (eqD a b && eqDs r t) := by rw [eqDs]
@[simp] theorem eqDs_nc (b : D) (t : List D) : eqDs [] (b :: t) = false := by simp [eqDs]
@[simp] theorem eqDs_cn (b : D) (t : List D) : eqDs (b :: t) [] = false := by simp [eqDs]
mutual
noncomputable def dpD : D -> Nat
 | .tup xs => dpDs xs + 1
 | .lst xs => dpDs xs + 1
 | _ => 0
noncomputable def dpDs : List D -> Nat
 | [] => 0
 | d :: r => max (dpD d) (dpDs r)
end
@[simp] theorem dpD_non : dpD .non = 0 := rfl
@[simp] theorem dpD_bl (b : Bool) : dpD (.bl b) = 0 := rfl
@[simp] theorem dpD_int (i : Int) : dpD (.int i) = 0 := rfl
@[simp] theorem dpD_str (x : Str) : dpD (.str x) = 0 := rfl
@[simp] theorem dpD_tup (xs : List D) : dpD (.tup xs) = dpDs xs + 1 := rfl
@[simp] theorem dpD_lst (xs : List D) : dpD (.lst xs) = dpDs xs + 1 := rfl
@[simp] theorem dpDs_nil : dpDs [] = 0 := rfl
@[simp] theorem dpDs_cons (d : D) (r : List D) : dpDs (d :: r) = max (dpD d) (dpDs r) := rfl
noncomputable def bigM (i : Int) : Bool := decide (i.natAbs < 2 ^ 1000)
noncomputable def okMul (i j : Int) : Bool := decide (i.natAbs < 2 ^ 64) || decide (j.natAbs < 2 ^ 64) || (bigM i && bigM j)
noncomputable def okDiv (j : Int) : Bool := decide (j ≠ 0) && decide (j.natAbs < 2 ^ 1000)
noncomputable def dAdd : D -> D -> Option D
 | .int i, .int j => some (.int (i + j))
 | .str a, .str b => if a.length + b.length <= sizeLine then some (.str (a ++ b)) else none
 | .lst a, .lst b => if a.length + b.length <= sizeLine then some (.lst (a ++ b)) else none
 | _, _ => none
noncomputable def dSub : D -> D -> Option D
 | .int i, .int j => some (.int (i - j))
 | _, _ => none
noncomputable def dMul : D -> D -> Option D
 | .int i, .int j => if okMul i j = true then some (.int (i * j)) else none
 | _, _ => none
noncomputable def dDiv : D -> D -> Option D
 | .int i, .int j => if okDiv j = true then some (.int (i.fdiv j)) else none
 | _, _ => none
noncomputable def dMod : D -> D -> Option D
 | .int i, .int j => if j ≠ 0 then some (.int (i.fmod j)) else none
 | _, _ => none
noncomputable def dPow : D -> D -> Option D
 | .int i, .int j => if 0 <= j /\ j <= 64 /\ i.natAbs < 2 ^ 64 then some (.int (i ^ j.toNat)) else none
 | _, _ => none
noncomputable def dNeg : D -> Option D
 | .int i => some (.int (-i))
 | _ => none
noncomputable def dCmp (p : Int -> Int -> Bool) : D -> D -> Option D
 | .int i, .int j => some (.bl (p i j))
 | _, _ => none
noncomputable def dLt : D -> D -> Option D := dCmp fun i j => decide (i < j)
noncomputable def dLe : D -> D -> Option D := dCmp fun i j => decide (i <= j)
noncomputable def dGt : D -> D -> Option D := dCmp fun i j => decide (j < i)
noncomputable def dGe : D -> D -> Option D := dCmp fun i j => decide (j <= i)
noncomputable def dEq (x y : D) : Option D := if dpD x <= 30 /\ dpD y <= 30 then some (.bl (eqD x y)) else none
noncomputable def dNe (x y : D) : Option D := if dpD x <= 30 /\ dpD y <= 30 then some (.bl (!eqD x y)) else none
noncomputable def isN : D -> Bool
 | .non => true
 | _ => false
@[simp] theorem isN_non : isN .non = true := rfl
@[simp] theorem isN_bl (b : Bool) : isN (.bl b) = false := rfl
@[simp] theorem isN_int (b : Int) : isN (.int b) = false := rfl
@[simp] theorem isN_str (b : Str) : isN (.str b) = false := rfl
@[simp] theorem isN_tup (b : List D) : isN (.tup b) = false := rfl
@[simp] theorem isN_lst (b : List D) : isN (.lst b) = false := rfl
noncomputable def dIs (x y : D) : Option D := match y with
 | .non => some (.bl (isN x))
 | _ => none
noncomputable def dIsNot (x y : D) : Option D := match y with
 | .non => some (.bl (!isN x))
 | _ => none
noncomputable def dTru : D -> Option Bool
 | .non => some false
 | .bl b => some b
 | .int i => some (i != 0)
 | .lst xs => some (!xs.isEmpty)
 | .tup xs => some (!xs.isEmpty)
 | _ => none
noncomputable def dPl (n : Nat) (i : Int) : Option Nat := if 0 <= i then (if i < n then some i.toNat else none) else if -(n : Int) <= i then some (i + n).toNat else none
noncomputable def atD (xs : List D) (i : Int) : Option D := (dPl xs.length i).bind fun j => xs[j]?
noncomputable def dIx : D -> D -> Option D
 | .tup xs, .int i => atD xs i
 | .lst xs, .int i => atD xs i
 | _, _ => none
noncomputable def dEnd (n d : Nat) : Option Int -> Nat
 | none => d
 | some v => (if v < 0 then max (v + (n : Int)) 0 else min v (n : Int)).toNat
noncomputable def dCut (xs : List D) (lo hi : Option Int) : List D := (xs.drop (dEnd xs.length 0 lo)).take (dEnd xs.length xs.length hi - dEnd xs.length 0 lo)
noncomputable def dSl : D -> Option Int -> Option Int -> Option D
 | .lst xs, lo, hi => some (.lst (dCut xs lo hi))
 | .tup xs, lo, hi => if dEnd xs.length 0 lo = 0 /\ dEnd xs.length xs.length hi = xs.length then none else some (.tup (dCut xs lo hi))
 | _, _, _ => none
noncomputable def bAbs : List D -> Option D
 | [.int i] => some (.int (if i < 0 then -i else i))
 | _ => none
noncomputable def bLen : List D -> Option D
 | [.lst xs] => some (.int xs.length)
 | [.tup xs] => some (.int xs.length)
 | _ => none
noncomputable def intsOf : List D -> Option (List Int)
 | [] => some []
 | .int i :: r => bnd (intsOf r) fun is => some (i :: is)
 | _ => none
theorem intsOf_cons (i : Int) (r : List D) : intsOf (.int i :: r) = bnd (intsOf r) fun is => some (i :: is) := rfl
noncomputable def minI : Int -> List Int -> Int
 | m, [] => m
 | m, x :: r => minI (if x < m then x else m) r
noncomputable def maxI : Int -> List Int -> Int
 | m, [] => m
 | m, x :: r => maxI (if m < x then x else m) r
noncomputable def bestI (f : Int -> List Int -> Int) : List Int -> Option D
 | [] => none
 | i :: r => some (.int (f i r))
noncomputable def bMax : List D -> Option D
 | [.int i, .int j] => some (.int (if j > i then j else i))
 | [.lst xs] => bnd (intsOf xs) fun is => bestI maxI is
 | _ => none
noncomputable def bMin : List D -> Option D
 | [.int i, .int j] => some (.int (if j < i then j else i))
 | [.lst xs] => bnd (intsOf xs) fun is => bestI minI is
 | _ => none
noncomputable def bools : List D -> Option (List Bool)
 | [] => some []
 | .bl b :: r => bnd (bools r) fun bs => some (b :: bs)
 | _ => none
theorem bools_cons (b : Bool) (r : List D) : bools (.bl b :: r) = bnd (bools r) fun bs => some (b :: bs) := rfl
noncomputable def bAny : List D -> Option D
 | [.lst xs] => bnd (bools xs) fun bs => some (.bl (bs.any id))
 | _ => none
noncomputable def bAll : List D -> Option D
 | [.lst xs] => bnd (bools xs) fun bs => some (.bl (bs.all id))
 | _ => none
inductive Ty where
 | int | bool | str | tuple | list
noncomputable def isTy : Ty -> D -> Bool
 | .int, .int _ => true
 | .int, .bl _ => true
 | .bool, .bl _ => true
 | .str, .str _ => true
 | .tuple, .tup _ => true
 | .list, .lst _ => true
 | _, _ => false
noncomputable def slV (ρ : En) : Option Sl -> Option (D × En)
 | some (.im d) => some (d, ρ)
 | _ => none
noncomputable def eV (i : Nat) (ρ : En) : Option (D × En) := slV ρ ρ[i]?
noncomputable def eNever : FE := fun _ => none
noncomputable def eC (d : D) (ρ : En) : Option (D × En) := some (d, ρ)
noncomputable def e1 (op : D -> Option D) (F : FE) (ρ : En) : Option (D × En) := bnd (F ρ) fun p => bnd (op p.1) fun d => some (d, p.2)
noncomputable def e2 (op : D -> D -> Option D) (F G : FE) (ρ : En) : Option (D × En) := bnd (F ρ) fun p => bnd (G p.2) fun q => bnd (op p.1 q.1) fun d => some (d, q.2)
noncomputable def blB : D -> Option Bool
 | .bl b => some b
 | _ => none
noncomputable def e3 (op op' : D -> D -> Option D) (F G L : FE) (ρ : En) : Option (D × En) := bnd (F ρ) fun p => bnd (G p.2) fun q => bnd (op p.1 q.1) fun z => bnd (blB z) fun b =>
 if b = true then bnd (L q.2) fun r => bnd (op' q.1 r.1) fun d => some (d, r.2) else some (.bl false, q.2)
noncomputable def aN (ρ : En) : Option (List D × En) := some ([], ρ)
noncomputable def aC (F : FE) (A : FA) (ρ : En) : Option (List D × En) := bnd (F ρ) fun p => bnd (A p.2) fun q => some (p.1 :: q.1, q.2)
noncomputable def eTup (A : FA) (ρ : En) : Option (D × En) := bnd (A ρ) fun p => if p.1.length <= 1000 then some (.tup p.1, p.2) else none
noncomputable def eLst (A : FA) (ρ : En) : Option (D × En) := bnd (A ρ) fun p => if p.1.length <= 1000 then some (.lst p.1, p.2) else none
noncomputable def eF (g : List D -> Option D) (A : FA) (ρ : En) : Option (D × En) := bnd (A ρ) fun p => bnd (g p.1) fun d => some (d, p.2)
noncomputable def eTy (t : Ty) (F : FE) (ρ : En) : Option (D × En) := bnd (F ρ) fun p => some (.bl (isTy t p.1), p.2)
noncomputable abbrev FO := En -> Option (Option Int × En)
noncomputable def intI : D -> Option Int
 | .int i => some i
 | _ => none
noncomputable def oN (ρ : En) : Option (Option Int × En) := some (none, ρ)
noncomputable def oS (F : FE) (ρ : En) : Option (Option Int × En) := bnd (F ρ) fun p => bnd (intI p.1) fun i => some (some i, p.2)
noncomputable def eSl (F : FE) (lo hi : FO) (ρ : En) : Option (D × En) := bnd (F ρ) fun p => bnd (lo p.2) fun l => bnd (hi l.2) fun h => bnd (dSl p.1 l.1 h.1) fun d => some (d, h.2)
noncomputable def tB (F : FE) (ρ : En) : Option (Bool × En) := bnd (F ρ) fun p => bnd (blB p.1) fun b => some (b, p.2)
noncomputable def tV (F : FE) (ρ : En) : Option (Bool × En) := bnd (F ρ) fun p => bnd (dTru p.1) fun b => some (b, p.2)
noncomputable def tAnd (T U : FT) (ρ : En) : Option (Bool × En) := bnd (T ρ) fun p => if p.1 = true then U p.2 else some (false, p.2)
noncomputable def tOr (T U : FT) (ρ : En) : Option (Bool × En) := bnd (T ρ) fun p => if p.1 = true then some (true, p.2) else U p.2
noncomputable def tNot (T : FT) (ρ : En) : Option (Bool × En) := bnd (T ρ) fun p => some (!p.1, p.2)
noncomputable def tYes (ρ : En) : Option (Bool × En) := some (true, ρ)
noncomputable def eIf (T : FT) (F G : FE) (ρ : En) : Option (D × En) := bnd (T ρ) fun p => if p.1 = true then F p.2 else G p.2
noncomputable def eAnd (F G : FE) (ρ : En) : Option (D × En) := bnd (F ρ) fun p => bnd (blB p.1) fun b => if b = true then G p.2 else some (.bl false, p.2)
noncomputable def eOr (F G : FE) (ρ : En) : Option (D × En) := bnd (F ρ) fun p => bnd (blB p.1) fun b => if b = true then some (.bl true, p.2) else G p.2
noncomputable def eNot (F : FE) (ρ : En) : Option (D × En) := bnd (F ρ) fun p => bnd (blB p.1) fun b => some (.bl (!b), p.2)
noncomputable def slI : Option Sl -> Option Sl
 | some (.im d) => some (.im d)
 | _ => none
noncomputable def imAt (ρ : En) : List Nat -> Option En
 | [] => some []
 | j :: js => bnd (slI ρ[j]?) fun s => bnd (imAt ρ js) fun r => some (s :: r)
theorem imAt_cons (ρ : En) (j : Nat) (js : List Nat) : imAt ρ (j :: js) = bnd (slI ρ[j]?) fun s => bnd (imAt ρ js) fun r => some (s :: r) := rfl
noncomputable def cGo (T : FT) (F : FE) (fr : En) : List D -> Option (List D)
 | [] => some []
 | d :: r => bnd (T (.im d :: fr)) fun p => if p.1 = true then bnd (F p.2) fun q => bnd (cGo T F fr r) fun t => some (q.1 :: t) else cGo T F fr r
theorem cGo_nil (T : FT) (F : FE) (fr : En) : cGo T F fr [] = some [] := rfl
theorem cGo_cons (T : FT) (F : FE) (fr : En) (d : D) (r : List D) : cGo T F fr (d :: r) = bnd (T (.im d :: fr)) fun p => if p.1 = true then bnd (F p.2) fun q => bnd (cGo T F fr r) fun t => some (q.1 :: t) else cGo T F fr r := rfl
noncomputable def chS (c : Nat) : Str := ⟨#[c]⟩
noncomputable def chs (z : Str) : List D := z.cps.toList.map fun c => .str (chS c)
noncomputable def items : D -> Option (List D)
 | .lst xs => some xs
 | .tup xs => some xs
 | .str z => some (chs z)
 | _ => none
noncomputable def eLC (js : List Nat) (I : FE) (T : FT) (F : FE) (ρ : En) : Option (D × En) := bnd (I ρ) fun p => bnd (items p.1) fun xs => bnd (imAt p.2 js) fun fr => bnd (cGo T F fr xs) fun ys => if xs.length <= sizeLine then some (.lst ys, p.2) else none
noncomputable def sN (ρ : En) : Option Res := some (.nx ρ)
noncomputable def nxR (G : FS) : Res -> Option Res
 | .nx ρ' => G ρ'
 | .rt d ρ => some (.rt d ρ)
 | .bk ρ => some (.bk ρ)
 | .ct ρ => some (.ct ρ)
noncomputable def sSeq (F G : FS) (ρ : En) : Option Res := bnd (F ρ) fun r => nxR G r
noncomputable def sSet (i : Nat) (F : FE) (ρ : En) : Option Res := bnd (F ρ) fun p => some (.nx (p.2.set i (.im p.1)))
noncomputable def setAll : List Nat -> List D -> En -> En
 | i :: is, d :: ds, ρ => setAll is ds (ρ.set i (.im d))
 | _, _, ρ => ρ
theorem setAll_cons (i : Nat) (is : List Nat) (d : D) (ds : List D) (ρ : En) : setAll (i :: is) (d :: ds) ρ = setAll is ds (ρ.set i (.im d)) := rfl
theorem setAll_nil (ds : List D) (ρ : En) : setAll [] ds ρ = ρ := by cases ds <;> rfl
noncomputable def tupX : D -> Option (List D)
 | .tup xs => some xs
 | .lst xs => some xs
 | _ => none
noncomputable def gN (i : Nat) (d : D) (ρ : En) : Option En := some (ρ.set i (.im d))
noncomputable def gT (is : List Nat) (d : D) (ρ : En) : Option En := bnd (tupX d) fun xs => if xs.length = is.length then some (setAll is xs ρ) else none
noncomputable def sTup (is : List Nat) (F : FE) (ρ : En) : Option Res := bnd (F ρ) fun p => bnd (gT is p.1 p.2) fun ρ' => some (.nx ρ')
noncomputable def sIf (T : FT) (F G : FS) (ρ : En) : Option Res := bnd (T ρ) fun p => if p.1 = true then F p.2 else G p.2
noncomputable def sRet (F : FE) (ρ : En) : Option Res := bnd (F ρ) fun p => some (.rt p.1 p.2)
noncomputable def sRetN (ρ : En) : Option Res := some (.rt .non ρ)
noncomputable def sBk (ρ : En) : Option Res := some (.bk ρ)
noncomputable def sCt (ρ : En) : Option Res := some (.ct ρ)
noncomputable def goR (G : FS) : Res -> Option Res
 | .nx ρ => G ρ
 | .ct ρ => G ρ
 | .bk ρ => some (.nx ρ)
 | .rt d ρ => some (.rt d ρ)
noncomputable def fGo (g : D -> En -> Option En) (B : FS) : List D -> FS
 | [], ρ => some (.nx ρ)
 | d :: r, ρ => bnd (g d ρ) fun ρ1 => bnd (B ρ1) fun z => goR (fGo g B r) z
theorem fGo_nil (g : D -> En -> Option En) (B : FS) (ρ : En) : fGo g B [] ρ = some (.nx ρ) := rfl
theorem fGo_cons (g : D -> En -> Option En) (B : FS) (d : D) (r : List D) (ρ : En) : fGo g B (d :: r) ρ = bnd (g d ρ) fun ρ1 => bnd (B ρ1) fun z => goR (fGo g B r) z := rfl
noncomputable def sFor (g : D -> En -> Option En) (F : FE) (B : FS) (ρ : En) : Option Res := bnd (F ρ) fun p => bnd (items p.1) fun xs => fGo g B xs p.2
noncomputable def rngD (lo : Int) : Nat -> List D
 | 0 => []
 | n + 1 => .int lo :: rngD (lo + 1) n
noncomputable def rng1 (F : FE) (ρ : En) : Option (List D × En) := bnd (F ρ) fun p => bnd (intI p.1) fun j => if -(2 ^ 62) <= j /\ j < 2 ^ 62 then some (rngD 0 j.toNat, p.2) else none
noncomputable def rng2 (F G : FE) (ρ : En) : Option (List D × En) := bnd (F ρ) fun p => bnd (G p.2) fun q => bnd (intI p.1) fun i => bnd (intI q.1) fun j =>
 if -(2 ^ 62) <= i /\ i < 2 ^ 62 /\ -(2 ^ 62) <= j /\ j < 2 ^ 62 then some (rngD i (j - i).toNat, q.2) else none
noncomputable def sForR (g : D -> En -> Option En) (R : FA) (B : FS) (ρ : En) : Option Res := bnd (R ρ) fun p => fGo g B p.1 p.2
noncomputable def wGo (T : FT) (B : FS) : Nat -> FS
 | 0, _ => none
 | n + 1, ρ => bnd (T ρ) fun p => if p.1 = true then bnd (B p.2) fun z => goR (wGo T B n) z else some (.nx p.2)
theorem wGo_succ (T : FT) (B : FS) (n : Nat) (ρ : En) : wGo T B (n + 1) ρ = bnd (T ρ) fun p => if p.1 = true then bnd (B p.2) fun z => goR (wGo T B n) z else some (.nx p.2) := rfl
noncomputable def sWhile (fuel : En -> Nat) (T : FT) (B : FS) (ρ : En) : Option Res := wGo T B (fuel ρ) ρ
noncomputable def oLst (A : FA) (ρ : En) : Option (List D × En) := bnd (A ρ) fun p => if p.1.length <= 1000 then some p else none
noncomputable def oIf (T : FT) (A B : FA) (ρ : En) : Option (List D × En) := bnd (T ρ) fun p => if p.1 = true then A p.2 else B p.2
noncomputable def sOwn (i : Nat) (A : FA) (ρ : En) : Option Res := bnd (A ρ) fun p => some (.nx (p.2.set i (.ow false (.lst p.1))))
noncomputable def owL : Option Sl -> Option (List D)
 | some (.ow false (.lst ds)) => some ds
 | _ => none
noncomputable def sApp (i : Nat) (F : FE) (ρ : En) : Option Res := bnd (owL ρ[i]?) fun _ => bnd (F ρ) fun p => bnd (owL p.2[i]?) fun ds => if ds.length < 1000000 then some (.nx (p.2.set i (.ow false (.lst (ds ++ [p.1]))))) else none
noncomputable def frz (i : Nat) (ρ : En) : En := match ρ[i]? with
 | some (.ow false (.lst ds)) => ρ.set i (.im (.lst ds))
 | _ => ρ
noncomputable def sFrz (i : Nat) (F : FS) (ρ : En) : Option Res := F (frz i ρ)
noncomputable def eLR (js : List Nat) (R : FA) (T : FT) (F : FE) (ρ : En) : Option (D × En) := bnd (R ρ) fun p => bnd (imAt p.2 js) fun fr => bnd (cGo T F fr p.1) fun ys => if p.1.length <= sizeLine then some (.lst ys, p.2) else none
noncomputable def isB (b : Bool) : D -> Bool
 | .bl c => decide (c = b)
 | _ => false
noncomputable def e1B (b n : Bool) (F : FE) (ρ : En) : Option (D × En) := bnd (F ρ) fun p => some (.bl (if n then !isB b p.1 else isB b p.1), p.2)
noncomputable def retR : Res -> Option D
 | .rt d _ => some d
 | .nx _ => some .non
 | _ => none
noncomputable def fnD (n k : Nat) (B : FS) (ds : List D) : Option D := if ds.length = n then bnd (B (ds.map .im ++ List.replicate k .no)) fun r => retR r else none
end Fx
namespace Fx
open PySem
@[simp] theorem dAdd_i (i j : Int) : dAdd (.int i) (.int j) = some (.int (i + j)) := Eq.trans rfl rfl
@[simp] theorem dAdd_l (a b : List D) : dAdd (.lst a) (.lst b) = if a.length + b.length <= sizeLine then some (.lst (a ++ b)) else none := Eq.trans rfl rfl
@[simp] theorem dAdd_s (a b : Str) : dAdd (.str a) (.str b) = if a.length + b.length <= sizeLine then some (.str (a ++ b)) else none := Eq.trans rfl rfl
@[simp] theorem dSub_i (i j : Int) : dSub (.int i) (.int j) = some (.int (i - j)) := Eq.trans rfl rfl
@[simp] theorem dMul_i (i j : Int) : dMul (.int i) (.int j) = if okMul i j = true then some (.int (i * j)) else none := Eq.trans rfl rfl
@[simp] theorem dDiv_i (i j : Int) : dDiv (.int i) (.int j) = if okDiv j = true then some (.int (i.fdiv j)) else none := Eq.trans rfl rfl
@[simp] theorem dMod_i (i j : Int) : dMod (.int i) (.int j) = if j ≠ 0 then some (.int (i.fmod j)) else none := Eq.trans rfl rfl
@[simp] theorem dPow_i (i j : Int) : dPow (.int i) (.int j) = if 0 <= j /\ j <= 64 /\ i.natAbs < 2 ^ 64 then some (.int (i ^ j.toNat)) else none := Eq.trans rfl rfl
@[simp] theorem dNeg_i (i : Int) : dNeg (.int i) = some (.int (-i)) := Eq.trans rfl rfl
@[simp] theorem dLt_i (i j : Int) : dLt (.int i) (.int j) = some (.bl (decide (i < j))) := Eq.trans rfl rfl
@[simp] theorem dLe_i (i j : Int) : dLe (.int i) (.int j) = some (.bl (decide (i <= j))) := Eq.trans rfl rfl
@[simp] theorem dGt_i (i j : Int) : dGt (.int i) (.int j) = some (.bl (decide (j < i))) := Eq.trans rfl rfl
@[simp] theorem dGe_i (i j : Int) : dGe (.int i) (.int j) = some (.bl (decide (j <= i))) := Eq.trans rfl rfl
@[simp] theorem dEq_ (x y : D) : dEq x y = if dpD x <= 30 /\ dpD y <= 30 then some (.bl (eqD x y)) else none := Eq.trans rfl rfl
@[simp] theorem dNe_ (x y : D) : dNe x y = if dpD x <= 30 /\ dpD y <= 30 then some (.bl (!eqD x y)) else none := Eq.trans rfl rfl
@[simp] theorem dIs_ (x : D) : dIs x .non = some (.bl (isN x)) := Eq.trans rfl rfl
@[simp] theorem dIsNot_ (x : D) : dIsNot x .non = some (.bl (!isN x)) := Eq.trans rfl rfl
@[simp] theorem dTru_n  : dTru .non = some false := Eq.trans rfl rfl
@[simp] theorem dTru_b (b : Bool) : dTru (.bl b) = some b := Eq.trans rfl rfl
@[simp] theorem dTru_i (i : Int) : dTru (.int i) = some (i != 0) := Eq.trans rfl rfl
@[simp] theorem dTru_l (xs : List D) : dTru (.lst xs) = some (!xs.isEmpty) := Eq.trans rfl rfl
@[simp] theorem dTru_t (xs : List D) : dTru (.tup xs) = some (!xs.isEmpty) := Eq.trans rfl rfl
@[simp] theorem dIx_t (xs : List D) (i : Int) : dIx (.tup xs) (.int i) = atD xs i := Eq.trans rfl rfl
@[simp] theorem dIx_l (xs : List D) (i : Int) : dIx (.lst xs) (.int i) = atD xs i := Eq.trans rfl rfl
@[simp] theorem dSl_l (xs : List D) (lo hi : Option Int) : dSl (.lst xs) lo hi = some (.lst (dCut xs lo hi)) := Eq.trans rfl rfl
@[simp] theorem dSl_t (xs : List D) (lo hi : Option Int) : dSl (.tup xs) lo hi = if dEnd xs.length 0 lo = 0 /\ dEnd xs.length xs.length hi = xs.length then none else some (.tup (dCut xs lo hi)) := Eq.trans rfl rfl
@[simp] theorem bAbs_ (i : Int) : bAbs [.int i] = some (.int (i.natAbs : Int)) := congrArg (fun z => some (D.int z)) (show (if i < 0 then -i else i) = (i.natAbs : Int) by split <;> omega)
@[simp] theorem bLen_l (xs : List D) : bLen [.lst xs] = some (.int xs.length) := Eq.trans rfl rfl
@[simp] theorem bLen_t (xs : List D) : bLen [.tup xs] = some (.int xs.length) := Eq.trans rfl rfl
@[simp] theorem bMax_ (i j : Int) : bMax [.int i, .int j] = some (.int (if j > i then j else i)) := Eq.trans rfl rfl
@[simp] theorem bMin_ (i j : Int) : bMin [.int i, .int j] = some (.int (if j < i then j else i)) := Eq.trans rfl rfl
noncomputable def cnsO {α : Type} (x : α) (o : Option (List α)) : Option (List α) := bnd o fun t => some (x :: t)
@[simp] theorem cnsO_s {α : Type} (x : α) (t : List α) : cnsO x (some t) = some (x :: t) := Eq.trans rfl rfl
@[simp] theorem bools_n  : bools [] = some [] := Eq.trans rfl rfl
@[simp] theorem bools_c (b : Bool) (r : List D) : bools (.bl b :: r) = cnsO b (bools r) := Eq.trans rfl rfl
noncomputable def anyA (o : Option (List Bool)) : Option D := bnd o fun bs => some (.bl (bs.any id))
noncomputable def allA (o : Option (List Bool)) : Option D := bnd o fun bs => some (.bl (bs.all id))
@[simp] theorem anyA_s (bs : List Bool) : anyA (some bs) = some (.bl (bs.any id)) := Eq.trans rfl rfl
@[simp] theorem allA_s (bs : List Bool) : allA (some bs) = some (.bl (bs.all id)) := Eq.trans rfl rfl
@[simp] theorem bAny_ (xs : List D) : bAny [.lst xs] = anyA (bools xs) := Eq.trans rfl rfl
@[simp] theorem bAll_ (xs : List D) : bAll [.lst xs] = allA (bools xs) := Eq.trans rfl rfl
@[simp] theorem isTy_int_non  : isTy .int .non = false := Eq.trans rfl rfl
@[simp] theorem isTy_int_bl (b : Bool) : isTy .int (.bl b) = true := Eq.trans rfl rfl
@[simp] theorem isTy_int_int (b : Int) : isTy .int (.int b) = true := Eq.trans rfl rfl
@[simp] theorem isTy_int_str (b : Str) : isTy .int (.str b) = false := Eq.trans rfl rfl
@[simp] theorem isTy_int_tup (b : List D) : isTy .int (.tup b) = false := Eq.trans rfl rfl
@[simp] theorem isTy_int_lst (b : List D) : isTy .int (.lst b) = false := Eq.trans rfl rfl
@[simp] theorem isTy_bool_non  : isTy .bool .non = false := Eq.trans rfl rfl
@[simp] theorem isTy_bool_bl (b : Bool) : isTy .bool (.bl b) = true := Eq.trans rfl rfl
@[simp] theorem isTy_bool_int (b : Int) : isTy .bool (.int b) = false := Eq.trans rfl rfl
@[simp] theorem isTy_bool_str (b : Str) : isTy .bool (.str b) = false := Eq.trans rfl rfl
@[simp] theorem isTy_bool_tup (b : List D) : isTy .bool (.tup b) = false := Eq.trans rfl rfl
@[simp] theorem isTy_bool_lst (b : List D) : isTy .bool (.lst b) = false := Eq.trans rfl rfl
@[simp] theorem isTy_str_non  : isTy .str .non = false := Eq.trans rfl rfl
@[simp] theorem isTy_str_bl (b : Bool) : isTy .str (.bl b) = false := Eq.trans rfl rfl
@[simp] theorem isTy_str_int (b : Int) : isTy .str (.int b) = false := Eq.trans rfl rfl
@[simp] theorem isTy_str_str (b : Str) : isTy .str (.str b) = true := Eq.trans rfl rfl
@[simp] theorem isTy_str_tup (b : List D) : isTy .str (.tup b) = false := Eq.trans rfl rfl
@[simp] theorem isTy_str_lst (b : List D) : isTy .str (.lst b) = false := Eq.trans rfl rfl
@[simp] theorem isTy_tuple_non  : isTy .tuple .non = false := Eq.trans rfl rfl
@[simp] theorem isTy_tuple_bl (b : Bool) : isTy .tuple (.bl b) = false := Eq.trans rfl rfl
@[simp] theorem isTy_tuple_int (b : Int) : isTy .tuple (.int b) = false := Eq.trans rfl rfl
@[simp] theorem isTy_tuple_str (b : Str) : isTy .tuple (.str b) = false := Eq.trans rfl rfl
@[simp] theorem isTy_tuple_tup (b : List D) : isTy .tuple (.tup b) = true := Eq.trans rfl rfl
@[simp] theorem isTy_tuple_lst (b : List D) : isTy .tuple (.lst b) = false := Eq.trans rfl rfl
@[simp] theorem isTy_list_non  : isTy .list .non = false := Eq.trans rfl rfl
@[simp] theorem isTy_list_bl (b : Bool) : isTy .list (.bl b) = false := Eq.trans rfl rfl
@[simp] theorem isTy_list_int (b : Int) : isTy .list (.int b) = false := Eq.trans rfl rfl
@[simp] theorem isTy_list_str (b : Str) : isTy .list (.str b) = false := Eq.trans rfl rfl
@[simp] theorem isTy_list_tup (b : List D) : isTy .list (.tup b) = false := Eq.trans rfl rfl
@[simp] theorem isTy_list_lst (b : List D) : isTy .list (.lst b) = true := Eq.trans rfl rfl
noncomputable def mkP (o : Option D) (ρ : En) : Option (D × En) := bnd o fun d => some (d, ρ)
@[simp] theorem mkP_s (d : D) (ρ : En) : mkP (some d) ρ = some (d, ρ) := Eq.trans rfl rfl
@[simp] theorem slV_i (ρ : En) (d : D) : slV ρ (some (.im d)) = some (d, ρ) := Eq.trans rfl rfl
@[simp] theorem eV_ (i : Nat) (ρ : En) : eV i ρ = slV ρ ρ[i]? := Eq.trans rfl rfl
@[simp] theorem eC_ (d : D) (ρ : En) : eC d ρ = some (d, ρ) := Eq.trans rfl rfl
noncomputable def e1a (op : D -> Option D) (o : Option (D × En)) : Option (D × En) := bnd o fun p => bnd (op p.1) fun d => some (d, p.2)
@[simp] theorem e1_ (op : D -> Option D) (F : FE) (ρ : En) : e1 op F ρ = e1a op (F ρ) := Eq.trans rfl rfl
@[simp] theorem e1a_s (op : D -> Option D) (x : D) (ρ : En) : e1a op (some (x, ρ)) = mkP (op x) ρ := Eq.trans rfl rfl
noncomputable def e2b (op : D -> D -> Option D) (x : D) (o : Option (D × En)) : Option (D × En) := bnd o fun q => bnd (op x q.1) fun d => some (d, q.2)
noncomputable def e2a (op : D -> D -> Option D) (G : FE) (o : Option (D × En)) : Option (D × En) := bnd o fun p => bnd (G p.2) fun q => bnd (op p.1 q.1) fun d => some (d, q.2)
@[simp] theorem e2_ (op : D -> D -> Option D) (F G : FE) (ρ : En) : e2 op F G ρ = e2a op G (F ρ) := Eq.trans rfl rfl
@[simp] theorem e2a_s (op : D -> D -> Option D) (G : FE) (x : D) (ρ : En) : e2a op G (some (x, ρ)) = e2b op x (G ρ) := Eq.trans rfl rfl
@[simp] theorem e2b_s (op : D -> D -> Option D) (x y : D) (ρ : En) : e2b op x (some (y, ρ)) = mkP (op x y) ρ := Eq.trans rfl rfl
noncomputable def e3c (op' : D -> D -> Option D) (L : FE) (y : D) (ρ : En) (o : Option D) : Option (D × En) := bnd o fun z => bnd (blB z) fun b => if b = true then bnd (L ρ) fun r => bnd (op' y r.1) fun d => some (d, r.2) else some (.bl false, ρ)
noncomputable def e3b (op op' : D -> D -> Option D) (L : FE) (x : D) (o : Option (D × En)) : Option (D × En) := bnd o fun q => bnd (op x q.1) fun z => bnd (blB z) fun b => if b = true then bnd (L q.2) fun r => bnd (op' q.1 r.1) fun d => some (d, r.2) else some (.bl false, q.2)
noncomputable def e3a (op op' : D -> D -> Option D) (G L : FE) (o : Option (D × En)) : Option (D × En) := bnd o fun p => bnd (G p.2) fun q => bnd (op p.1 q.1) fun z => bnd (blB z) fun b => if b = true then bnd (L q.2) fun r => bnd (op' q.1 r.1) fun d => some (d, r.2) else some (.bl false, q.2)
@[simp] theorem e3_ (op op' : D -> D -> Option D) (F G L : FE) (ρ : En) : e3 op op' F G L ρ = e3a op op' G L (F ρ) := Eq.trans rfl rfl
@[simp] theorem e3a_s (op op' : D -> D -> Option D) (G L : FE) (x : D) (ρ : En) : e3a op op' G L (some (x, ρ)) = e3b op op' L x (G ρ) := Eq.trans rfl rfl
@[simp] theorem e3b_s (op op' : D -> D -> Option D) (L : FE) (x y : D) (ρ : En) : e3b op op' L x (some (y, ρ)) = e3c op' L y ρ (op x y) := Eq.trans rfl rfl
@[simp] theorem e3c_t (op' : D -> D -> Option D) (L : FE) (y : D) (ρ : En) : e3c op' L y ρ (some (.bl true)) = e2b op' y (L ρ) := Eq.trans rfl rfl
@[simp] theorem e3c_f (op' : D -> D -> Option D) (L : FE) (y : D) (ρ : En) : e3c op' L y ρ (some (.bl false)) = some (.bl false, ρ) := Eq.trans rfl rfl
@[simp] theorem aN_ (ρ : En) : aN ρ = some ([], ρ) := Eq.trans rfl rfl
noncomputable def aCb (x : D) (o : Option (List D × En)) : Option (List D × En) := bnd o fun q => some (x :: q.1, q.2)
noncomputable def aCa (A : FA) (o : Option (D × En)) : Option (List D × En) := bnd o fun p => bnd (A p.2) fun q => some (p.1 :: q.1, q.2)
@[simp] theorem aC_ (F : FE) (A : FA) (ρ : En) : aC F A ρ = aCa A (F ρ) := Eq.trans rfl rfl
@[simp] theorem aCa_s (A : FA) (x : D) (ρ : En) : aCa A (some (x, ρ)) = aCb x (A ρ) := Eq.trans rfl rfl
@[simp] theorem aCb_s (x : D) (xs : List D) (ρ : En) : aCb x (some (xs, ρ)) = some (x :: xs, ρ) := Eq.trans rfl rfl
noncomputable def tupA (o : Option (List D × En)) : Option (D × En) := bnd o fun p => if p.1.length <= 1000 then some (.tup p.1, p.2) else none
@[simp] theorem eTup_ (A : FA) (ρ : En) : eTup A ρ = tupA (A ρ) := Eq.trans rfl rfl
@[simp] theorem tupA_s (xs : List D) (ρ : En) : tupA (some (xs, ρ)) = if xs.length <= 1000 then some (.tup xs, ρ) else none := Eq.trans rfl rfl
noncomputable def lstA (o : Option (List D × En)) : Option (D × En) := bnd o fun p => if p.1.length <= 1000 then some (.lst p.1, p.2) else none
@[simp] theorem eLst_ (A : FA) (ρ : En) : eLst A ρ = lstA (A ρ) := Eq.trans rfl rfl
@[simp] theorem lstA_s (xs : List D) (ρ : En) : lstA (some (xs, ρ)) = if xs.length <= 1000 then some (.lst xs, ρ) else none := Eq.trans rfl rfl
noncomputable def eFa (g : List D -> Option D) (o : Option (List D × En)) : Option (D × En) := bnd o fun p => bnd (g p.1) fun d => some (d, p.2)
@[simp] theorem eF_ (g : List D -> Option D) (A : FA) (ρ : En) : eF g A ρ = eFa g (A ρ) := Eq.trans rfl rfl
@[simp] theorem eFa_s (g : List D -> Option D) (xs : List D) (ρ : En) : eFa g (some (xs, ρ)) = mkP (g xs) ρ := Eq.trans rfl rfl
noncomputable def eTya (t : Ty) (o : Option (D × En)) : Option (D × En) := bnd o fun p => some (.bl (isTy t p.1), p.2)
@[simp] theorem eTy_ (t : Ty) (F : FE) (ρ : En) : eTy t F ρ = eTya t (F ρ) := Eq.trans rfl rfl
@[simp] theorem eTya_s (t : Ty) (x : D) (ρ : En) : eTya t (some (x, ρ)) = some (.bl (isTy t x), ρ) := Eq.trans rfl rfl
@[simp] theorem oN_ (ρ : En) : oN ρ = some (none, ρ) := Eq.trans rfl rfl
noncomputable def oSa (o : Option (D × En)) : Option (Option Int × En) := bnd o fun p => bnd (intI p.1) fun i => some (some i, p.2)
@[simp] theorem oS_ (F : FE) (ρ : En) : oS F ρ = oSa (F ρ) := Eq.trans rfl rfl
@[simp] theorem oSa_s (i : Int) (ρ : En) : oSa (some (.int i, ρ)) = some (some i, ρ) := Eq.trans rfl rfl
noncomputable def eSlc (x : D) (l : Option Int) (o : Option (Option Int × En)) : Option (D × En) := bnd o fun h => bnd (dSl x l h.1) fun d => some (d, h.2)
noncomputable def eSlb (hi : FO) (x : D) (o : Option (Option Int × En)) : Option (D × En) := bnd o fun l => bnd (hi l.2) fun h => bnd (dSl x l.1 h.1) fun d => some (d, h.2)
noncomputable def eSla (lo hi : FO) (o : Option (D × En)) : Option (D × En) := bnd o fun p => bnd (lo p.2) fun l => bnd (hi l.2) fun h => bnd (dSl p.1 l.1 h.1) fun d => some (d, h.2)
@[simp] theorem eSl_ (F : FE) (lo hi : FO) (ρ : En) : eSl F lo hi ρ = eSla lo hi (F ρ) := Eq.trans rfl rfl
@[simp] theorem eSla_s (lo hi : FO) (x : D) (ρ : En) : eSla lo hi (some (x, ρ)) = eSlb hi x (lo ρ) := Eq.trans rfl rfl
@[simp] theorem eSlb_s (hi : FO) (x : D) (l : Option Int) (ρ : En) : eSlb hi x (some (l, ρ)) = eSlc x l (hi ρ) := Eq.trans rfl rfl
@[simp] theorem eSlc_s (x : D) (l h : Option Int) (ρ : En) : eSlc x l (some (h, ρ)) = mkP (dSl x l h) ρ := Eq.trans rfl rfl
noncomputable def mkB (o : Option Bool) (ρ : En) : Option (Bool × En) := bnd o fun b => some (b, ρ)
@[simp] theorem mkB_s (b : Bool) (ρ : En) : mkB (some b) ρ = some (b, ρ) := Eq.trans rfl rfl
noncomputable def tBa (o : Option (D × En)) : Option (Bool × En) := bnd o fun p => bnd (blB p.1) fun b => some (b, p.2)
@[simp] theorem tB_ (F : FE) (ρ : En) : tB F ρ = tBa (F ρ) := Eq.trans rfl rfl
@[simp] theorem tBa_s (b : Bool) (ρ : En) : tBa (some (.bl b, ρ)) = some (b, ρ) := Eq.trans rfl rfl
noncomputable def tVa (o : Option (D × En)) : Option (Bool × En) := bnd o fun p => bnd (dTru p.1) fun b => some (b, p.2)
@[simp] theorem tV_ (F : FE) (ρ : En) : tV F ρ = tVa (F ρ) := Eq.trans rfl rfl
@[simp] theorem tVa_s (x : D) (ρ : En) : tVa (some (x, ρ)) = mkB (dTru x) ρ := Eq.trans rfl rfl
noncomputable def tAnda (U : FT) (o : Option (Bool × En)) : Option (Bool × En) := bnd o fun p => if p.1 = true then U p.2 else some (false, p.2)
noncomputable def tOra (U : FT) (o : Option (Bool × En)) : Option (Bool × En) := bnd o fun p => if p.1 = true then some (true, p.2) else U p.2
noncomputable def tNota (o : Option (Bool × En)) : Option (Bool × En) := bnd o fun p => some (!p.1, p.2)
@[simp] theorem tAnd_ (T U : FT) (ρ : En) : tAnd T U ρ = tAnda U (T ρ) := Eq.trans rfl rfl
@[simp] theorem tAnda_t (U : FT) (ρ : En) : tAnda U (some (true, ρ)) = U ρ := Eq.trans rfl rfl
@[simp] theorem tAnda_f (U : FT) (ρ : En) : tAnda U (some (false, ρ)) = some (false, ρ) := Eq.trans rfl rfl
@[simp] theorem tOr_ (T U : FT) (ρ : En) : tOr T U ρ = tOra U (T ρ) := Eq.trans rfl rfl
@[simp] theorem tOra_t (U : FT) (ρ : En) : tOra U (some (true, ρ)) = some (true, ρ) := Eq.trans rfl rfl
@[simp] theorem tOra_f (U : FT) (ρ : En) : tOra U (some (false, ρ)) = U ρ := Eq.trans rfl rfl
@[simp] theorem tNot_ (T : FT) (ρ : En) : tNot T ρ = tNota (T ρ) := Eq.trans rfl rfl
@[simp] theorem tNota_s (b : Bool) (ρ : En) : tNota (some (b, ρ)) = some (!b, ρ) := Eq.trans rfl rfl
@[simp] theorem tYes_ (ρ : En) : tYes ρ = some (true, ρ) := Eq.trans rfl rfl
noncomputable def eIfa (F G : FE) (o : Option (Bool × En)) : Option (D × En) := bnd o fun p => if p.1 = true then F p.2 else G p.2
@[simp] theorem eIf_ (T : FT) (F G : FE) (ρ : En) : eIf T F G ρ = eIfa F G (T ρ) := Eq.trans rfl rfl
@[simp] theorem eIfa_t (F G : FE) (ρ : En) : eIfa F G (some (true, ρ)) = F ρ := Eq.trans rfl rfl
@[simp] theorem eIfa_f (F G : FE) (ρ : En) : eIfa F G (some (false, ρ)) = G ρ := Eq.trans rfl rfl
noncomputable def eAnda (G : FE) (o : Option (D × En)) : Option (D × En) := bnd o fun p => bnd (blB p.1) fun b => if b = true then G p.2 else some (.bl false, p.2)
noncomputable def eOra (G : FE) (o : Option (D × En)) : Option (D × En) := bnd o fun p => bnd (blB p.1) fun b => if b = true then some (.bl true, p.2) else G p.2
noncomputable def eNota (o : Option (D × En)) : Option (D × En) := bnd o fun p => bnd (blB p.1) fun b => some (.bl (!b), p.2)
@[simp] theorem eAnd_ (F G : FE) (ρ : En) : eAnd F G ρ = eAnda G (F ρ) := Eq.trans rfl rfl
@[simp] theorem eAnda_t (G : FE) (ρ : En) : eAnda G (some (.bl true, ρ)) = G ρ := Eq.trans rfl rfl
@[simp] theorem eAnda_f (G : FE) (ρ : En) : eAnda G (some (.bl false, ρ)) = some (.bl false, ρ) := Eq.trans rfl rfl
@[simp] theorem eOr_ (F G : FE) (ρ : En) : eOr F G ρ = eOra G (F ρ) := Eq.trans rfl rfl
@[simp] theorem eOra_t (G : FE) (ρ : En) : eOra G (some (.bl true, ρ)) = some (.bl true, ρ) := Eq.trans rfl rfl
@[simp] theorem eOra_f (G : FE) (ρ : En) : eOra G (some (.bl false, ρ)) = G ρ := Eq.trans rfl rfl
@[simp] theorem eNot_ (F : FE) (ρ : En) : eNot F ρ = eNota (F ρ) := Eq.trans rfl rfl
@[simp] theorem eNota_s (b : Bool) (ρ : En) : eNota (some (.bl b, ρ)) = some (.bl (!b), ρ) := Eq.trans rfl rfl
noncomputable def imA (o : Option Sl) (q : Option En) : Option En := bnd o fun s => bnd q fun r => some (s :: r)
@[simp] theorem imA_s (s : Sl) (r : En) : imA (some s) (some r) = some (s :: r) := Eq.trans rfl rfl
@[simp] theorem slI_i (d : D) : slI (some (.im d)) = some (.im d) := Eq.trans rfl rfl
@[simp] theorem imAt_n (ρ : En) : imAt ρ [] = some [] := Eq.trans rfl rfl
@[simp] theorem imAt_c (ρ : En) (j : Nat) (js : List Nat) : imAt ρ (j :: js) = imA (slI ρ[j]?) (imAt ρ js) := Eq.trans rfl rfl
noncomputable def cGb (T : FT) (F : FE) (fr : En) (r : List D) (o : Option (D × En)) : Option (List D) := bnd o fun q => bnd (cGo T F fr r) fun t => some (q.1 :: t)
noncomputable def cGa (T : FT) (F : FE) (fr : En) (r : List D) (o : Option (Bool × En)) : Option (List D) := bnd o fun p => if p.1 = true then bnd (F p.2) fun q => bnd (cGo T F fr r) fun t => some (q.1 :: t) else cGo T F fr r
@[simp] theorem cGo_n (T : FT) (F : FE) (fr : En) : cGo T F fr [] = some [] := Eq.trans rfl rfl
@[simp] theorem cGo_c (T : FT) (F : FE) (fr : En) (d : D) (r : List D) : cGo T F fr (d :: r) = cGa T F fr r (T (.im d :: fr)) := Eq.trans rfl rfl
@[simp] theorem cGa_t (T : FT) (F : FE) (fr : En) (r : List D) (ρ : En) : cGa T F fr r (some (true, ρ)) = cGb T F fr r (F ρ) := Eq.trans rfl rfl
@[simp] theorem cGa_f (T : FT) (F : FE) (fr : En) (r : List D) (ρ : En) : cGa T F fr r (some (false, ρ)) = cGo T F fr r := Eq.trans rfl rfl
@[simp] theorem cGb_s (T : FT) (F : FE) (fr : En) (r : List D) (x : D) (ρ : En) : cGb T F fr r (some (x, ρ)) = cnsO x (cGo T F fr r) := Eq.trans rfl rfl
@[simp] theorem items_l (xs : List D) : items (.lst xs) = some xs := Eq.trans rfl rfl
@[simp] theorem items_s (z : Str) : items (.str z) = some (chs z) := Eq.trans rfl rfl
@[simp] theorem items_t (xs : List D) : items (.tup xs) = some xs := Eq.trans rfl rfl
noncomputable def eLCd (ρ : En) (xs : List D) (o : Option (List D)) : Option (D × En) := bnd o fun ys => if xs.length <= sizeLine then some (.lst ys, ρ) else none
noncomputable def eLCc (T : FT) (F : FE) (ρ : En) (xs : List D) (o : Option En) : Option (D × En) := bnd o fun fr => eLCd ρ xs (cGo T F fr xs)
noncomputable def eLCb (js : List Nat) (T : FT) (F : FE) (ρ : En) (o : Option (List D)) : Option (D × En) := bnd o fun xs => eLCc T F ρ xs (imAt ρ js)
noncomputable def eLCa (js : List Nat) (T : FT) (F : FE) (o : Option (D × En)) : Option (D × En) := bnd o fun p => eLCb js T F p.2 (items p.1)
@[simp] theorem eLC_ (js : List Nat) (I : FE) (T : FT) (F : FE) (ρ : En) : eLC js I T F ρ = eLCa js T F (I ρ) := Eq.trans rfl rfl
@[simp] theorem eLCa_s (js : List Nat) (T : FT) (F : FE) (x : D) (ρ : En) : eLCa js T F (some (x, ρ)) = eLCb js T F ρ (items x) := Eq.trans rfl rfl
@[simp] theorem eLCb_s (js : List Nat) (T : FT) (F : FE) (ρ : En) (xs : List D) : eLCb js T F ρ (some xs) = eLCc T F ρ xs (imAt ρ js) := Eq.trans rfl rfl
@[simp] theorem eLCc_s (T : FT) (F : FE) (ρ : En) (xs : List D) (fr : En) : eLCc T F ρ xs (some fr) = eLCd ρ xs (cGo T F fr xs) := Eq.trans rfl rfl
@[simp] theorem eLCd_s (ρ : En) (xs ys : List D) : eLCd ρ xs (some ys) = if xs.length <= sizeLine then some (.lst ys, ρ) else none := Eq.trans rfl rfl
@[simp] theorem sN_ (ρ : En) : sN ρ = some (.nx ρ) := Eq.trans rfl rfl
noncomputable def sSeqa (G : FS) (o : Option Res) : Option Res := bnd o fun r => nxR G r
@[simp] theorem sSeq_ (F G : FS) (ρ : En) : sSeq F G ρ = sSeqa G (F ρ) := Eq.trans rfl rfl
@[simp] theorem sSeqa_n (G : FS) (ρ : En) : sSeqa G (some (.nx ρ)) = G ρ := Eq.trans rfl rfl
@[simp] theorem sSeqa_r (G : FS) (d : D) (ρ : En) : sSeqa G (some (.rt d ρ)) = some (.rt d ρ) := Eq.trans rfl rfl
@[simp] theorem sSeqa_b (G : FS) (ρ : En) : sSeqa G (some (.bk ρ)) = some (.bk ρ) := Eq.trans rfl rfl
@[simp] theorem sSeqa_c (G : FS) (ρ : En) : sSeqa G (some (.ct ρ)) = some (.ct ρ) := Eq.trans rfl rfl
noncomputable def sSeta (i : Nat) (o : Option (D × En)) : Option Res := bnd o fun p => some (.nx (p.2.set i (.im p.1)))
@[simp] theorem sSet_ (i : Nat) (F : FE) (ρ : En) : sSet i F ρ = sSeta i (F ρ) := Eq.trans rfl rfl
@[simp] theorem sSeta_s (i : Nat) (x : D) (ρ : En) : sSeta i (some (x, ρ)) = some (.nx (ρ.set i (.im x))) := Eq.trans rfl rfl
@[simp] theorem setAll_c (i : Nat) (is : List Nat) (d : D) (ds : List D) (ρ : En) : setAll (i :: is) (d :: ds) ρ = setAll is ds (ρ.set i (.im d)) := Eq.trans rfl rfl
@[simp] theorem setAll_n (ds : List D) (ρ : En) : setAll [] ds ρ = ρ := by cases ds <;> exact Eq.trans rfl rfl
@[simp] theorem tupX_l (xs : List D) : tupX (.lst xs) = some xs := Eq.trans rfl rfl
@[simp] theorem tupX_t (xs : List D) : tupX (.tup xs) = some xs := Eq.trans rfl rfl
@[simp] theorem gN_ (i : Nat) (d : D) (ρ : En) : gN i d ρ = some (ρ.set i (.im d)) := Eq.trans rfl rfl
noncomputable def gTa (is : List Nat) (ρ : En) (o : Option (List D)) : Option En := bnd o fun xs => if xs.length = is.length then some (setAll is xs ρ) else none
@[simp] theorem gT_ (is : List Nat) (d : D) (ρ : En) : gT is d ρ = gTa is ρ (tupX d) := Eq.trans rfl rfl
@[simp] theorem gTa_s (is : List Nat) (ρ : En) (xs : List D) : gTa is ρ (some xs) = if xs.length = is.length then some (setAll is xs ρ) else none := Eq.trans rfl rfl
noncomputable def sTupb (o : Option En) : Option Res := bnd o fun ρ => some (.nx ρ)
noncomputable def sTupa (is : List Nat) (o : Option (D × En)) : Option Res := bnd o fun p => sTupb (gT is p.1 p.2)
@[simp] theorem sTup_ (is : List Nat) (F : FE) (ρ : En) : sTup is F ρ = sTupa is (F ρ) := Eq.trans rfl rfl
@[simp] theorem sTupa_s (is : List Nat) (x : D) (ρ : En) : sTupa is (some (x, ρ)) = sTupb (gT is x ρ) := Eq.trans rfl rfl
@[simp] theorem sTupb_s (ρ : En) : sTupb (some ρ) = some (.nx ρ) := Eq.trans rfl rfl
noncomputable def sIfa (F G : FS) (o : Option (Bool × En)) : Option Res := bnd o fun p => if p.1 = true then F p.2 else G p.2
@[simp] theorem sIf_ (T : FT) (F G : FS) (ρ : En) : sIf T F G ρ = sIfa F G (T ρ) := Eq.trans rfl rfl
@[simp] theorem sIfa_t (F G : FS) (ρ : En) : sIfa F G (some (true, ρ)) = F ρ := Eq.trans rfl rfl
@[simp] theorem sIfa_f (F G : FS) (ρ : En) : sIfa F G (some (false, ρ)) = G ρ := Eq.trans rfl rfl
noncomputable def sReta (o : Option (D × En)) : Option Res := bnd o fun p => some (.rt p.1 p.2)
@[simp] theorem sRet_ (F : FE) (ρ : En) : sRet F ρ = sReta (F ρ) := Eq.trans rfl rfl
@[simp] theorem sReta_s (x : D) (ρ : En) : sReta (some (x, ρ)) = some (.rt x ρ) := Eq.trans rfl rfl
@[simp] theorem sRetN_ (ρ : En) : sRetN ρ = some (.rt .non ρ) := Eq.trans rfl rfl
@[simp] theorem sBk_ (ρ : En) : sBk ρ = some (.bk ρ) := Eq.trans rfl rfl
@[simp] theorem sCt_ (ρ : En) : sCt ρ = some (.ct ρ) := Eq.trans rfl rfl
noncomputable def fGb (g : D -> En -> Option En) (B : FS) (r : List D) (o : Option Res) : Option Res := bnd o fun z => goR (fGo g B r) z
noncomputable def fGa (g : D -> En -> Option En) (B : FS) (r : List D) (o : Option En) : Option Res := bnd o fun ρ1 => fGb g B r (B ρ1)
theorem fGo_n (g : D -> En -> Option En) (B : FS) (ρ : En) : fGo g B [] ρ = some (.nx ρ) := Eq.trans rfl rfl
theorem fGo_c (g : D -> En -> Option En) (B : FS) (d : D) (r : List D) (ρ : En) : fGo g B (d :: r) ρ = fGa g B r (g d ρ) := Eq.trans rfl rfl
@[simp] theorem fGa_s (g : D -> En -> Option En) (B : FS) (r : List D) (ρ : En) : fGa g B r (some ρ) = fGb g B r (B ρ) := Eq.trans rfl rfl
@[simp] theorem fGb_n (g : D -> En -> Option En) (B : FS) (r : List D) (ρ : En) : fGb g B r (some (.nx ρ)) = fGo g B r ρ := Eq.trans rfl rfl
@[simp] theorem fGb_c (g : D -> En -> Option En) (B : FS) (r : List D) (ρ : En) : fGb g B r (some (.ct ρ)) = fGo g B r ρ := Eq.trans rfl rfl
@[simp] theorem fGb_b (g : D -> En -> Option En) (B : FS) (r : List D) (ρ : En) : fGb g B r (some (.bk ρ)) = some (.nx ρ) := Eq.trans rfl rfl
@[simp] theorem fGb_r (g : D -> En -> Option En) (B : FS) (r : List D) (d : D) (ρ : En) : fGb g B r (some (.rt d ρ)) = some (.rt d ρ) := Eq.trans rfl rfl
noncomputable def sForb (g : D -> En -> Option En) (B : FS) (ρ : En) (o : Option (List D)) : Option Res := bnd o fun xs => fGo g B xs ρ
noncomputable def sFora (g : D -> En -> Option En) (B : FS) (o : Option (D × En)) : Option Res := bnd o fun p => sForb g B p.2 (items p.1)
@[simp] theorem sFor_ (g : D -> En -> Option En) (F : FE) (B : FS) (ρ : En) : sFor g F B ρ = sFora g B (F ρ) := Eq.trans rfl rfl
@[simp] theorem sFora_s (g : D -> En -> Option En) (B : FS) (x : D) (ρ : En) : sFora g B (some (x, ρ)) = sForb g B ρ (items x) := Eq.trans rfl rfl
@[simp] theorem sForb_s (g : D -> En -> Option En) (B : FS) (ρ : En) (xs : List D) : sForb g B ρ (some xs) = fGo g B xs ρ := Eq.trans rfl rfl
noncomputable def rng1a (o : Option (D × En)) : Option (List D × En) := bnd o fun p => bnd (intI p.1) fun j => if -(2 ^ 62) <= j /\ j < 2 ^ 62 then some (rngD 0 j.toNat, p.2) else none
@[simp] theorem rng1_ (F : FE) (ρ : En) : rng1 F ρ = rng1a (F ρ) := Eq.trans rfl rfl
@[simp] theorem rng1a_s (j : Int) (ρ : En) : rng1a (some (.int j, ρ)) = if -(2 ^ 62) <= j /\ j < 2 ^ 62 then some (rngD 0 j.toNat, ρ) else none := Eq.trans rfl rfl
noncomputable def rng2b (x : D) (o : Option (D × En)) : Option (List D × En) := bnd o fun q => bnd (intI x) fun i => bnd (intI q.1) fun j => if -(2 ^ 62) <= i /\ i < 2 ^ 62 /\ -(2 ^ 62) <= j /\ j < 2 ^ 62 then some (rngD i (j - i).toNat, q.2) else none
noncomputable def rng2a (G : FE) (o : Option (D × En)) : Option (List D × En) := bnd o fun p => rng2b p.1 (G p.2)
@[simp] theorem rng2_ (F G : FE) (ρ : En) : rng2 F G ρ = rng2a G (F ρ) := Eq.trans rfl rfl
@[simp] theorem rng2a_s (G : FE) (x : D) (ρ : En) : rng2a G (some (x, ρ)) = rng2b x (G ρ) := Eq.trans rfl rfl
@[simp] theorem rng2b_s (i j : Int) (ρ : En) : rng2b (.int i) (some (.int j, ρ)) = if -(2 ^ 62) <= i /\ i < 2 ^ 62 /\ -(2 ^ 62) <= j /\ j < 2 ^ 62 then some (rngD i (j - i).toNat, ρ) else none := Eq.trans rfl rfl
noncomputable def sForRa (g : D -> En -> Option En) (B : FS) (o : Option (List D × En)) : Option Res := bnd o fun p => fGo g B p.1 p.2
@[simp] theorem sForR_ (g : D -> En -> Option En) (X : FA) (B : FS) (ρ : En) : sForR g X B ρ = sForRa g B (X ρ) := Eq.trans rfl rfl
@[simp] theorem sForRa_s (g : D -> En -> Option En) (B : FS) (xs : List D) (ρ : En) : sForRa g B (some (xs, ρ)) = fGo g B xs ρ := Eq.trans rfl rfl
noncomputable def wGb (T : FT) (B : FS) (n : Nat) (o : Option Res) : Option Res := bnd o fun z => goR (wGo T B n) z
noncomputable def wGa (T : FT) (B : FS) (n : Nat) (o : Option (Bool × En)) : Option Res := bnd o fun p => if p.1 = true then wGb T B n (B p.2) else some (.nx p.2)
theorem wGo_s (T : FT) (B : FS) (n : Nat) (ρ : En) : wGo T B (n + 1) ρ = wGa T B n (T ρ) := Eq.trans rfl rfl
@[simp] theorem wGa_t (T : FT) (B : FS) (n : Nat) (ρ : En) : wGa T B n (some (true, ρ)) = wGb T B n (B ρ) := Eq.trans rfl rfl
@[simp] theorem wGa_f (T : FT) (B : FS) (n : Nat) (ρ : En) : wGa T B n (some (false, ρ)) = some (.nx ρ) := Eq.trans rfl rfl
@[simp] theorem wGb_n (T : FT) (B : FS) (n : Nat) (ρ : En) : wGb T B n (some (.nx ρ)) = wGo T B n ρ := Eq.trans rfl rfl
@[simp] theorem wGb_c (T : FT) (B : FS) (n : Nat) (ρ : En) : wGb T B n (some (.ct ρ)) = wGo T B n ρ := Eq.trans rfl rfl
@[simp] theorem wGb_b (T : FT) (B : FS) (n : Nat) (ρ : En) : wGb T B n (some (.bk ρ)) = some (.nx ρ) := Eq.trans rfl rfl
@[simp] theorem wGb_r (T : FT) (B : FS) (n : Nat) (d : D) (ρ : En) : wGb T B n (some (.rt d ρ)) = some (.rt d ρ) := Eq.trans rfl rfl
@[simp] theorem sWhile_ (fuel : En -> Nat) (T : FT) (B : FS) (ρ : En) : sWhile fuel T B ρ = wGo T B (fuel ρ) ρ := Eq.trans rfl rfl
noncomputable def fnA (o : Option Res) : Option D := bnd o fun r => retR r
@[simp] theorem fnA_r (d : D) (ρ : En) : fnA (some (.rt d ρ)) = some d := Eq.trans rfl rfl
@[simp] theorem fnA_n (ρ : En) : fnA (some (.nx ρ)) = some .non := Eq.trans rfl rfl
@[simp] theorem fnD_ (n k : Nat) (B : FS) (ds : List D) : fnD n k B ds = if ds.length = n then fnA (B (ds.map .im ++ List.replicate k .no)) else none := Eq.trans rfl rfl
noncomputable def oLsta (o : Option (List D × En)) : Option (List D × En) := bnd o fun p => if p.1.length <= 1000 then some p else none
@[simp] theorem oLst_ (A : FA) (ρ : En) : oLst A ρ = oLsta (A ρ) := Eq.trans rfl rfl
@[simp] theorem oLsta_s (xs : List D) (ρ : En) : oLsta (some (xs, ρ)) = if xs.length <= 1000 then some (xs, ρ) else none := Eq.trans rfl rfl
noncomputable def oIfa (A B : FA) (o : Option (Bool × En)) : Option (List D × En) := bnd o fun p => if p.1 = true then A p.2 else B p.2
@[simp] theorem oIf_ (T : FT) (A B : FA) (ρ : En) : oIf T A B ρ = oIfa A B (T ρ) := Eq.trans rfl rfl
@[simp] theorem oIfa_t (A B : FA) (ρ : En) : oIfa A B (some (true, ρ)) = A ρ := Eq.trans rfl rfl
@[simp] theorem oIfa_f (A B : FA) (ρ : En) : oIfa A B (some (false, ρ)) = B ρ := Eq.trans rfl rfl
noncomputable def sOwna (i : Nat) (o : Option (List D × En)) : Option Res := bnd o fun p => some (.nx (p.2.set i (.ow false (.lst p.1))))
@[simp] theorem sOwn_ (i : Nat) (A : FA) (ρ : En) : sOwn i A ρ = sOwna i (A ρ) := Eq.trans rfl rfl
@[simp] theorem sOwna_s (i : Nat) (xs : List D) (ρ : En) : sOwna i (some (xs, ρ)) = some (.nx (ρ.set i (.ow false (.lst xs)))) := Eq.trans rfl rfl
@[simp] theorem owL_s (ds : List D) : owL (some (.ow false (.lst ds))) = some ds := Eq.trans rfl rfl
noncomputable def sAppc (i : Nat) (x : D) (ρ : En) (o : Option (List D)) : Option Res := bnd o fun ds => if ds.length < 1000000 then some (.nx (ρ.set i (.ow false (.lst (ds ++ [x]))))) else none
noncomputable def sAppb (i : Nat) (o : Option (D × En)) : Option Res := bnd o fun p => sAppc i p.1 p.2 (owL p.2[i]?)
noncomputable def sAppa (i : Nat) (F : FE) (ρ : En) (o : Option (List D)) : Option Res := bnd o fun _ => sAppb i (F ρ)
@[simp] theorem sApp_ (i : Nat) (F : FE) (ρ : En) : sApp i F ρ = sAppa i F ρ (owL ρ[i]?) := Eq.trans rfl rfl
@[simp] theorem sAppa_s (i : Nat) (F : FE) (ρ : En) (ds : List D) : sAppa i F ρ (some ds) = sAppb i (F ρ) := Eq.trans rfl rfl
@[simp] theorem sAppb_s (i : Nat) (x : D) (ρ : En) : sAppb i (some (x, ρ)) = sAppc i x ρ (owL ρ[i]?) := Eq.trans rfl rfl
@[simp] theorem sAppc_s (i : Nat) (x : D) (ρ : En) (ds : List D) : sAppc i x ρ (some ds) = if ds.length < 1000000 then some (.nx (ρ.set i (.ow false (.lst (ds ++ [x]))))) else none := Eq.trans rfl rfl
noncomputable def frza (i : Nat) (ρ : En) : Option Sl -> En
 | some (.ow false (.lst ds)) => ρ.set i (.im (.lst ds))
 | _ => ρ
@[simp] theorem frz_ (i : Nat) (ρ : En) : frz i ρ = frza i ρ ρ[i]? := by unfold frz frza; split <;> simp_all
@[simp] theorem frza_o (i : Nat) (ρ : En) (ds : List D) : frza i ρ (some (.ow false (.lst ds))) = ρ.set i (.im (.lst ds)) := Eq.trans rfl rfl
@[simp] theorem frza_i (i : Nat) (ρ : En) (d : D) : frza i ρ (some (.im d)) = ρ := Eq.trans rfl rfl
@[simp] theorem sFrz_ (i : Nat) (F : FS) (ρ : En) : sFrz i F ρ = F (frz i ρ) := Eq.trans rfl rfl
noncomputable def eLRb (T : FT) (F : FE) (ρ : En) (xs : List D) (o : Option En) : Option (D × En) := bnd o fun fr => eLCd ρ xs (cGo T F fr xs)
noncomputable def eLRa (js : List Nat) (T : FT) (F : FE) (o : Option (List D × En)) : Option (D × En) := bnd o fun p => eLRb T F p.2 p.1 (imAt p.2 js)
@[simp] theorem eLR_ (js : List Nat) (R : FA) (T : FT) (F : FE) (ρ : En) : eLR js R T F ρ = eLRa js T F (R ρ) := Eq.trans rfl rfl
@[simp] theorem eLRa_s (js : List Nat) (T : FT) (F : FE) (xs : List D) (ρ : En) : eLRa js T F (some (xs, ρ)) = eLRb T F ρ xs (imAt ρ js) := Eq.trans rfl rfl
@[simp] theorem eLRb_s (T : FT) (F : FE) (ρ : En) (xs : List D) (fr : En) : eLRb T F ρ xs (some fr) = eLCd ρ xs (cGo T F fr xs) := Eq.trans rfl rfl
@[simp] theorem isB_non (b : Bool)  : isB b .non = false := Eq.trans rfl rfl
@[simp] theorem isB_int (b : Bool) (c : Int) : isB b (.int c) = false := Eq.trans rfl rfl
@[simp] theorem isB_str (b : Bool) (c : Str) : isB b (.str c) = false := Eq.trans rfl rfl
@[simp] theorem isB_tup (b : Bool) (c : List D) : isB b (.tup c) = false := Eq.trans rfl rfl
@[simp] theorem isB_lst (b : Bool) (c : List D) : isB b (.lst c) = false := Eq.trans rfl rfl
@[simp] theorem isB_bl (b c : Bool) : isB b (.bl c) = decide (c = b) := Eq.trans rfl rfl
noncomputable def e1Ba (b n : Bool) (o : Option (D × En)) : Option (D × En) := bnd o fun p => some (.bl (if n then !isB b p.1 else isB b p.1), p.2)
@[simp] theorem e1B_ (b n : Bool) (F : FE) (ρ : En) : e1B b n F ρ = e1Ba b n (F ρ) := Eq.trans rfl rfl
@[simp] theorem e1Ba_s (b n : Bool) (x : D) (ρ : En) : e1Ba b n (some (x, ρ)) = some (.bl (if n then !isB b x else isB b x), ρ) := Eq.trans rfl rfl
end Fx
namespace Fx
open PySem
noncomputable def dBand : D -> D -> Option D
 | .int i, .int j => some (.int (Builtin.bitAnd i j))
 | _, _ => none
noncomputable def dBor : D -> D -> Option D
 | .int i, .int j => some (.int (Builtin.bitOr i j))
 | _, _ => none
noncomputable def dBxor : D -> D -> Option D
 | .int i, .int j => some (.int (Builtin.bitXor i j))
 | _, _ => none
noncomputable def dShr : D -> D -> Option D
 | .int i, .int j => if 0 <= j then some (.int (i / 2 ^ j.toNat)) else none
 | _, _ => none
noncomputable def atS (z : Str) (i : Int) : Option D := if z.length <= sizeLine then bnd (bnd (dPl z.cps.toList.length i) fun j => z.cps.toList[j]?) fun c => some (.str (chS c)) else none
noncomputable def dIx2 : D -> D -> Option D
 | .tup xs, .int i => atD xs i
 | .lst xs, .int i => atD xs i
 | .str z, .int i => atS z i
 | _, _ => none
noncomputable def bLen2 : List D -> Option D
 | [.lst xs] => some (.int xs.length)
 | [.tup xs] => some (.int xs.length)
 | [.str z] => if z.length <= sizeLine then some (.int z.length) else none
 | _ => none
noncomputable def flatD : D -> Bool
 | .tup _ => false
 | .lst _ => false
 | _ => true
noncomputable def inD (x : D) (xs : List D) : Bool := xs.any fun y => eqD y x
noncomputable def okIn (x : D) (xs : List D) : Bool := flatD x && xs.all flatD
noncomputable def dIn : D -> D -> Option D
 | x, .tup xs => if okIn x xs = true then some (.bl (inD x xs)) else none
 | x, .lst xs => if okIn x xs = true then some (.bl (inD x xs)) else none
 | _, _ => none
noncomputable def dNotIn : D -> D -> Option D
 | x, .tup xs => if okIn x xs = true then some (.bl (!inD x xs)) else none
 | x, .lst xs => if okIn x xs = true then some (.bl (!inD x xs)) else none
 | _, _ => none
noncomputable def bInt : List D -> Option D
 | [.int i] => some (.int i)
 | [.bl b] => some (.int (if b then 1 else 0))
 | _ => none
noncomputable def bTuple : List D -> Option D
 | [.lst xs] => some (.tup xs)
 | [.tup xs] => some (.tup xs)
 | _ => none
noncomputable def bList : List D -> Option D
 | [.lst xs] => some (.lst xs)
 | [.tup xs] => some (.lst xs)
 | _ => none
@[simp] theorem dBand_i (i j : Int) : dBand (.int i) (.int j) = some (.int (Builtin.bitAnd i j)) := Eq.trans rfl rfl
@[simp] theorem dBor_i (i j : Int) : dBor (.int i) (.int j) = some (.int (Builtin.bitOr i j)) := Eq.trans rfl rfl
@[simp] theorem dBxor_i (i j : Int) : dBxor (.int i) (.int j) = some (.int (Builtin.bitXor i j)) := Eq.trans rfl rfl
@[simp] theorem dShr_i (i j : Int) : dShr (.int i) (.int j) = if 0 <= j then some (.int (i / 2 ^ j.toNat)) else none := Eq.trans rfl rfl
@[simp] theorem dIx2_t (xs : List D) (i : Int) : dIx2 (.tup xs) (.int i) = atD xs i := Eq.trans rfl rfl
@[simp] theorem dIx2_l (xs : List D) (i : Int) : dIx2 (.lst xs) (.int i) = atD xs i := Eq.trans rfl rfl
@[simp] theorem dIx2_s (z : Str) (i : Int) : dIx2 (.str z) (.int i) = atS z i := Eq.trans rfl rfl
@[simp] theorem bLen2_l (xs : List D) : bLen2 [.lst xs] = some (.int xs.length) := Eq.trans rfl rfl
@[simp] theorem bLen2_t (xs : List D) : bLen2 [.tup xs] = some (.int xs.length) := Eq.trans rfl rfl
@[simp] theorem bLen2_s (z : Str) : bLen2 [.str z] = if z.length <= sizeLine then some (.int z.length) else none := Eq.trans rfl rfl
@[simp] theorem dIn_t (x : D) (xs : List D) : dIn x (.tup xs) = if okIn x xs = true then some (.bl (inD x xs)) else none := Eq.trans rfl rfl
@[simp] theorem dIn_l (x : D) (xs : List D) : dIn x (.lst xs) = if okIn x xs = true then some (.bl (inD x xs)) else none := Eq.trans rfl rfl
@[simp] theorem dNotIn_t (x : D) (xs : List D) : dNotIn x (.tup xs) = if okIn x xs = true then some (.bl (!inD x xs)) else none := Eq.trans rfl rfl
@[simp] theorem dNotIn_l (x : D) (xs : List D) : dNotIn x (.lst xs) = if okIn x xs = true then some (.bl (!inD x xs)) else none := Eq.trans rfl rfl
@[simp] theorem bInt_i (i : Int) : bInt [.int i] = some (.int i) := Eq.trans rfl rfl
@[simp] theorem bInt_b (b : Bool) : bInt [.bl b] = some (.int (if b then 1 else 0)) := Eq.trans rfl rfl
@[simp] theorem bTuple_l (xs : List D) : bTuple [.lst xs] = some (.tup xs) := Eq.trans rfl rfl
@[simp] theorem bTuple_t (xs : List D) : bTuple [.tup xs] = some (.tup xs) := Eq.trans rfl rfl
@[simp] theorem bList_l (xs : List D) : bList [.lst xs] = some (.lst xs) := Eq.trans rfl rfl
@[simp] theorem bList_t (xs : List D) : bList [.tup xs] = some (.lst xs) := Eq.trans rfl rfl
end Fx
namespace Fx
open PySem
noncomputable def getK (k : Str) : List (Str × D) -> Option D
 | [] => none
 | q :: r => if q.1 = k then some q.2 else getK k r
noncomputable def setK (k : Str) (d : D) : List (Str × D) -> List (Str × D)
 | [] => []
 | q :: r => (if q.1 = k then (q.1, d) else q) :: setK k d r
noncomputable def owO : Option Sl -> Option (Bool × MO)
 | some (.ow b o) => some (b, o)
 | _ => none
noncomputable def owD : Option Sl -> Option (Bool × List (Str × D))
 | some (.ow b (.dic kds)) => some (b, kds)
 | _ => none
noncomputable def eDG (i : Nat) (k : Str) (ρ : En) : Option (D × En) := bnd (owD ρ[i]?) fun p => bnd (getK k p.2) fun d => some (d, ρ)
noncomputable def sDP (i : Nat) (k : Str) (F : FE) (ρ : En) : Option Res := bnd (F ρ) fun p => bnd (owD p.2[i]?) fun q => bnd (getK k q.2) fun _ => if q.2.length < 100 then some (.nx (p.2.set i (.ow q.1 (.dic (setK k p.1 q.2))))) else none
noncomputable def eFb (i : Nat) (g : MO -> List D -> Option (D × MO)) (A : FA) (ρ : En) : Option (D × En) := bnd (owO ρ[i]?) fun _ => bnd (A ρ) fun p => bnd (owO p.2[i]?) fun q => bnd (g q.2 p.1) fun z => some (z.1, p.2.set i (.ow q.1 z.2))
noncomputable def retB : Res -> Option (D × MO)
 | .rt d ρ => bnd (owO ρ[0]?) fun q => if q.1 = true then some (d, q.2) else none
 | .nx ρ => bnd (owO ρ[0]?) fun q => if q.1 = true then some (.non, q.2) else none
 | _ => none
noncomputable def fnB (n k : Nat) (B : FS) (o : MO) (ds : List D) : Option (D × MO) := if ds.length = n then bnd (B (.ow true o :: (ds.map .im ++ List.replicate k .no))) fun r => retB r else none
noncomputable def noOw : Sl -> Bool
 | .ow _ _ => false
 | _ => true
noncomputable def nRet (ks : List Str) (A : FA) (ρ : En) : Option MO := if ρ.all noOw = true then bnd (A ρ) fun p => if p.1.length = ks.length /\ ks.length <= 15 /\ ks.Nodup then some (.dic (ks.zip p.1)) else none else none
noncomputable def nSeq (A : FS) (F : En -> Option MO) (ρ : En) : Option MO := bnd (A ρ) fun r => match r with
 | .nx ρ' => F ρ'
 | _ => none
noncomputable def fnN (n k : Nat) (F : En -> Option MO) (ds : List D) : Option MO := if ds.length = n then F (ds.map .im ++ List.replicate k .no) else none
noncomputable def sNew (i : Nat) (g : List D -> Option MO) (A : FA) (ρ : En) : Option Res := bnd (A ρ) fun p => bnd (g p.1) fun o => some (.nx (p.2.set i (.ow false o)))
@[simp] theorem owO_s (b : Bool) (o : MO) : owO (some (.ow b o)) = some (b, o) := Eq.trans rfl rfl
@[simp] theorem owD_s (b : Bool) (o : List (Str × D)) : owD (some (.ow b (.dic o))) = some (b, o) := Eq.trans rfl rfl
noncomputable def eDGa (k : Str) (ρ : En) (o : Option (Bool × List (Str × D))) : Option (D × En) := bnd o fun p => bnd (getK k p.2) fun d => some (d, ρ)
@[simp] theorem eDG_ (i : Nat) (k : Str) (ρ : En) : eDG i k ρ = eDGa k ρ (owD ρ[i]?) := Eq.trans rfl rfl
@[simp] theorem eDGa_s (k : Str) (ρ : En) (b : Bool) (kds : List (Str × D)) : eDGa k ρ (some (b, kds)) = mkP (getK k kds) ρ := Eq.trans rfl rfl
noncomputable def sDPc (i : Nat) (k : Str) (d : D) (ρ : En) (b : Bool) (kds : List (Str × D)) (o : Option D) : Option Res := bnd o fun _ => if kds.length < 100 then some (.nx (ρ.set i (.ow b (.dic (setK k d kds))))) else none
noncomputable def sDPb (i : Nat) (k : Str) (d : D) (ρ : En) (o : Option (Bool × List (Str × D))) : Option Res := bnd o fun q => sDPc i k d ρ q.1 q.2 (getK k q.2)
noncomputable def sDPa (i : Nat) (k : Str) (o : Option (D × En)) : Option Res := bnd o fun p => sDPb i k p.1 p.2 (owD p.2[i]?)
@[simp] theorem sDP_ (i : Nat) (k : Str) (F : FE) (ρ : En) : sDP i k F ρ = sDPa i k (F ρ) := Eq.trans rfl rfl
@[simp] theorem sDPa_s (i : Nat) (k : Str) (d : D) (ρ : En) : sDPa i k (some (d, ρ)) = sDPb i k d ρ (owD ρ[i]?) := Eq.trans rfl rfl
@[simp] theorem sDPb_s (i : Nat) (k : Str) (d : D) (ρ : En) (b : Bool) (kds : List (Str × D)) : sDPb i k d ρ (some (b, kds)) = sDPc i k d ρ b kds (getK k kds) := Eq.trans rfl rfl
@[simp] theorem sDPc_s (i : Nat) (k : Str) (d : D) (ρ : En) (b : Bool) (kds : List (Str × D)) (z : D) : sDPc i k d ρ b kds (some z) = if kds.length < 100 then some (.nx (ρ.set i (.ow b (.dic (setK k d kds))))) else none := Eq.trans rfl rfl
noncomputable def eFbd (i : Nat) (ρ : En) (b : Bool) (o : Option (D × MO)) : Option (D × En) := bnd o fun z => some (z.1, ρ.set i (.ow b z.2))
noncomputable def eFbc (i : Nat) (g : MO -> List D -> Option (D × MO)) (ds : List D) (ρ : En) (o : Option (Bool × MO)) : Option (D × En) := bnd o fun q => eFbd i ρ q.1 (g q.2 ds)
noncomputable def eFbb (i : Nat) (g : MO -> List D -> Option (D × MO)) (o : Option (List D × En)) : Option (D × En) := bnd o fun p => eFbc i g p.1 p.2 (owO p.2[i]?)
noncomputable def eFba (i : Nat) (g : MO -> List D -> Option (D × MO)) (A : FA) (ρ : En) (o : Option (Bool × MO)) : Option (D × En) := bnd o fun _ => eFbb i g (A ρ)
@[simp] theorem eFb_ (i : Nat) (g : MO -> List D -> Option (D × MO)) (A : FA) (ρ : En) : eFb i g A ρ = eFba i g A ρ (owO ρ[i]?) := Eq.trans rfl rfl
@[simp] theorem eFba_s (i : Nat) (g : MO -> List D -> Option (D × MO)) (A : FA) (ρ : En) (q : Bool × MO) : eFba i g A ρ (some q) = eFbb i g (A ρ) := Eq.trans rfl rfl
@[simp] theorem eFbb_s (i : Nat) (g : MO -> List D -> Option (D × MO)) (ds : List D) (ρ : En) : eFbb i g (some (ds, ρ)) = eFbc i g ds ρ (owO ρ[i]?) := Eq.trans rfl rfl
@[simp] theorem eFbc_s (i : Nat) (g : MO -> List D -> Option (D × MO)) (ds : List D) (ρ : En) (b : Bool) (o : MO) : eFbc i g ds ρ (some (b, o)) = eFbd i ρ b (g o ds) := Eq.trans rfl rfl
@[simp] theorem eFbd_s (i : Nat) (ρ : En) (b : Bool) (d : D) (o : MO) : eFbd i ρ b (some (d, o)) = some (d, ρ.set i (.ow b o)) := Eq.trans rfl rfl
noncomputable def sNewb (i : Nat) (ρ : En) (o : Option MO) : Option Res := bnd o fun o => some (.nx (ρ.set i (.ow false o)))
noncomputable def sNewa (i : Nat) (g : List D -> Option MO) (o : Option (List D × En)) : Option Res := bnd o fun p => sNewb i p.2 (g p.1)
@[simp] theorem sNew_ (i : Nat) (g : List D -> Option MO) (A : FA) (ρ : En) : sNew i g A ρ = sNewa i g (A ρ) := Eq.trans rfl rfl
@[simp] theorem sNewa_s (i : Nat) (g : List D -> Option MO) (ds : List D) (ρ : En) : sNewa i g (some (ds, ρ)) = sNewb i ρ (g ds) := Eq.trans rfl rfl
@[simp] theorem sNewb_s (i : Nat) (ρ : En) (o : MO) : sNewb i ρ (some o) = some (.nx (ρ.set i (.ow false o))) := Eq.trans rfl rfl
end Fx
namespace Fx
open PySem
noncomputable def dSl2 : D -> Option Int -> Option Int -> Option D
 | .lst xs, lo, hi => some (.lst (dCut xs lo hi))
 | .tup xs, lo, hi => if dEnd xs.length 0 lo = 0 /\ dEnd xs.length xs.length hi = xs.length then none else some (.tup (dCut xs lo hi))
 | .str z, lo, hi => if z.length <= sizeLine then some (.str (Txt.slice z lo hi)) else none
 | _, _, _ => none
noncomputable def eSl2 (F : FE) (lo hi : FO) (ρ : En) : Option (D × En) := bnd (F ρ) fun p => bnd (lo p.2) fun l => bnd (hi l.2) fun h => bnd (dSl2 p.1 l.1 h.1) fun d => some (d, h.2)
noncomputable def inS (x z : Str) : Bool := !(Builtin.Str.occurrences z x 0 z.length 1).isEmpty
noncomputable def dIn2 : D -> D -> Option D
 | x, .tup xs => if okIn x xs = true then some (.bl (inD x xs)) else none
 | x, .lst xs => if okIn x xs = true then some (.bl (inD x xs)) else none
 | .str x, .str z => some (.bl (inS x z))
 | _, _ => none
noncomputable def dNotIn2 : D -> D -> Option D
 | x, .tup xs => if okIn x xs = true then some (.bl (!inD x xs)) else none
 | x, .lst xs => if okIn x xs = true then some (.bl (!inD x xs)) else none
 | .str x, .str z => some (.bl (!inS x z))
 | _, _ => none
noncomputable def eSl2c (x : D) (l : Option Int) (o : Option (Option Int × En)) : Option (D × En) := bnd o fun h => bnd (dSl2 x l h.1) fun d => some (d, h.2)
noncomputable def eSl2b (hi : FO) (x : D) (o : Option (Option Int × En)) : Option (D × En) := bnd o fun l => bnd (hi l.2) fun h => bnd (dSl2 x l.1 h.1) fun d => some (d, h.2)
noncomputable def eSl2a (lo hi : FO) (o : Option (D × En)) : Option (D × En) := bnd o fun p => bnd (lo p.2) fun l => bnd (hi l.2) fun h => bnd (dSl2 p.1 l.1 h.1) fun d => some (d, h.2)
@[simp] theorem eSl2_ (F : FE) (lo hi : FO) (ρ : En) : eSl2 F lo hi ρ = eSl2a lo hi (F ρ) := Eq.trans rfl rfl
@[simp] theorem eSl2a_s (lo hi : FO) (x : D) (ρ : En) : eSl2a lo hi (some (x, ρ)) = eSl2b hi x (lo ρ) := Eq.trans rfl rfl
@[simp] theorem eSl2b_s (hi : FO) (x : D) (l : Option Int) (ρ : En) : eSl2b hi x (some (l, ρ)) = eSl2c x l (hi ρ) := Eq.trans rfl rfl
@[simp] theorem eSl2c_s (x : D) (l h : Option Int) (ρ : En) : eSl2c x l (some (h, ρ)) = mkP (dSl2 x l h) ρ := Eq.trans rfl rfl
@[simp] theorem dSl2_l (xs : List D) (lo hi : Option Int) : dSl2 (.lst xs) lo hi = some (.lst (dCut xs lo hi)) := Eq.trans rfl rfl
@[simp] theorem dSl2_t (xs : List D) (lo hi : Option Int) : dSl2 (.tup xs) lo hi = if dEnd xs.length 0 lo = 0 /\ dEnd xs.length xs.length hi = xs.length then none else some (.tup (dCut xs lo hi)) := Eq.trans rfl rfl
@[simp] theorem dSl2_s (z : Str) (lo hi : Option Int) : dSl2 (.str z) lo hi = if z.length <= sizeLine then some (.str (Txt.slice z lo hi)) else none := Eq.trans rfl rfl
@[simp] theorem dIn2_t (x : D) (xs : List D) : dIn2 x (.tup xs) = if okIn x xs = true then some (.bl (inD x xs)) else none := by cases x <;> rfl
@[simp] theorem dIn2_l (x : D) (xs : List D) : dIn2 x (.lst xs) = if okIn x xs = true then some (.bl (inD x xs)) else none := by cases x <;> rfl
@[simp] theorem dIn2_s (x z : Str) : dIn2 (.str x) (.str z) = some (.bl (inS x z)) := Eq.trans rfl rfl
@[simp] theorem dNotIn2_t (x : D) (xs : List D) : dNotIn2 x (.tup xs) = if okIn x xs = true then some (.bl (!inD x xs)) else none := by cases x <;> rfl
@[simp] theorem dNotIn2_l (x : D) (xs : List D) : dNotIn2 x (.lst xs) = if okIn x xs = true then some (.bl (!inD x xs)) else none := by cases x <;> rfl
@[simp] theorem dNotIn2_s (x z : Str) : dNotIn2 (.str x) (.str z) = some (.bl (!inS x z)) := Eq.trans rfl rfl
end Fx
namespace Fx
open PySem
noncomputable def owT : Option Sl -> Option MO
 | some (.ow true o) => some o
 | _ => none
noncomputable def frAt (ρ : En) (i : Nat) (o : MO) : List Nat -> Option En
 | [] => some []
 | j :: js => bnd (if j = i then some (.ow true o) else slI ρ[j]?) fun s => bnd (frAt ρ i o js) fun r => some (s :: r)
noncomputable def cGoB (T : FT) (F : FE) (ρ : En) (i : Nat) (js : List Nat) (q : Nat) : MO -> List D -> Option (List D × MO)
 | o, [] => some ([], o)
 | o, d :: r => bnd (frAt ρ i o js) fun fr => bnd (T (.im d :: fr)) fun p => if p.1 = true then bnd (F p.2) fun z => bnd (owT z.2[q + 1]?) fun o' => bnd (cGoB T F ρ i js q o' r) fun t => some (z.1 :: t.1, t.2)
   else bnd (owT p.2[q + 1]?) fun o' => cGoB T F ρ i js q o' r
theorem cGoB_nil (T : FT) (F : FE) (ρ : En) (i : Nat) (js : List Nat) (q : Nat) (o : MO) : cGoB T F ρ i js q o [] = some ([], o) := rfl
theorem cGoB_cons (T : FT) (F : FE) (ρ : En) (i : Nat) (js : List Nat) (q : Nat) (o : MO) (d : D) (r : List D) : cGoB T F ρ i js q o (d :: r) = bnd (frAt ρ i o js) fun fr => bnd (T (.im d :: fr)) fun p => if p.1 = true then bnd (F p.2) fun z => bnd (owT z.2[q + 1]?) fun o' => bnd (cGoB T F ρ i js q o' r) fun t => some (z.1 :: t.1, t.2)
   else bnd (owT p.2[q + 1]?) fun o' => cGoB T F ρ i js q o' r := rfl
noncomputable def lcB (js : List Nat) (i q : Nat) (T : FT) (F : FE) (xs : List D) (ρ : En) : Option (D × En) := bnd (owO ρ[i]?) fun w => bnd (cGoB T F ρ i js q w.2 xs) fun t => if xs.length <= sizeLine /\ js[q]? = some i /\ js.Nodup then some (.lst t.1, ρ.set i (.ow w.1 t.2)) else none
noncomputable def eLCB (js : List Nat) (i q : Nat) (I : FE) (T : FT) (F : FE) (ρ : En) : Option (D × En) := bnd (I ρ) fun p => bnd (items p.1) fun xs => lcB js i q T F xs p.2
noncomputable def eLRB (js : List Nat) (i q : Nat) (R : FA) (T : FT) (F : FE) (ρ : En) : Option (D × En) := bnd (R ρ) fun p => lcB js i q T F p.1 p.2
end Fx
namespace Fx
open PySem
noncomputable def ltS (a b : Str) : Bool := decide (a.cps.toList < b.cps.toList)
noncomputable def insS (x : Str) : List Str -> List Str
 | [] => [x]
 | y :: r => if ltS y x = true then y :: insS x r else x :: y :: r
noncomputable def sortS : List Str -> List Str
 | [] => []
 | x :: r => insS x (sortS r)
noncomputable def txts : List D -> Option (List Str)
 | [] => some []
 | .str x :: r => bnd (txts r) fun t => some (x :: t)
 | _ => none
theorem strs_cons (x : Str) (r : List D) : txts (.str x :: r) = bnd (txts r) fun t => some (x :: t) := rfl
noncomputable def sortL (xs : List D) : Option D := bnd (txts xs) fun ss => if ss.length < 64 then some (.lst ((sortS ss).map .str)) else none
noncomputable def bSorted : List D -> Option D
 | [.tup xs] => sortL xs
 | [.lst xs] => sortL xs
 | _ => none
noncomputable def lstX : D -> Option (List D)
 | .lst xs => some xs
 | _ => none
noncomputable def strX : D -> Option Str
 | .str x => some x
 | _ => none
noncomputable def joinL (sep : Str) (xs : List D) : Option D := bnd (txts xs) fun ss => if (ss.map (·.length)).sum + ss.length * sep.length <= 1000000 then some (.str (Str.join sep ss)) else none
noncomputable def eJoin (sep : Str) (F : FE) (ρ : En) : Option (D × En) := bnd (F ρ) fun p => bnd (lstX p.1) fun xs => bnd (joinL sep xs) fun d => some (d, p.2)
noncomputable def pairsD : List D -> Option (List (Str × D))
 | [] => some []
 | .tup [.str k, v] :: r => bnd (pairsD r) fun t => some ((k, v) :: t)
 | _ => none
noncomputable def getL (xs : List D) (k : D) (d : D) : Option D := bnd (pairsD xs) fun kvs => bnd (strX k) fun k => if kvs.length <= 1000 /\ (kvs.map (·.1)).Nodup then some ((getK k kvs).getD d) else none
noncomputable def tupY : D -> Option (List D)
 | .tup xs => some xs
 | _ => none
@[simp] theorem tupY_t (xs : List D) : tupY (.tup xs) = some xs := Eq.trans rfl rfl
noncomputable def eDGet (E Kf Df : FE) (ρ : En) : Option (D × En) := bnd (E ρ) fun p => bnd (tupY p.1) fun xs => if p.2.all noOw = true then bnd (Kf p.2) fun q => bnd (Df q.2) fun r => bnd (getL xs q.1 r.1) fun d => some (d, r.2) else none
@[simp] theorem noOw_i (d : D) : noOw (.im d) = true := Eq.trans rfl rfl
@[simp] theorem noOw_n : noOw .no = true := Eq.trans rfl rfl
@[simp] theorem bSorted_t (xs : List D) : bSorted [.tup xs] = sortL xs := Eq.trans rfl rfl
@[simp] theorem bSorted_l (xs : List D) : bSorted [.lst xs] = sortL xs := Eq.trans rfl rfl
@[simp] theorem lstX_l (xs : List D) : lstX (.lst xs) = some xs := Eq.trans rfl rfl
noncomputable def eJoinb (sep : Str) (ρ : En) (o : Option (List D)) : Option (D × En) := bnd o fun xs => bnd (joinL sep xs) fun d => some (d, ρ)
noncomputable def eJoina (sep : Str) (o : Option (D × En)) : Option (D × En) := bnd o fun p => eJoinb sep p.2 (lstX p.1)
@[simp] theorem eJoin_ (sep : Str) (F : FE) (ρ : En) : eJoin sep F ρ = eJoina sep (F ρ) := Eq.trans rfl rfl
@[simp] theorem eJoina_s (sep : Str) (x : D) (ρ : En) : eJoina sep (some (x, ρ)) = eJoinb sep ρ (lstX x) := Eq.trans rfl rfl
@[simp] theorem eJoinb_s (sep : Str) (ρ : En) (xs : List D) : eJoinb sep ρ (some xs) = mkP (joinL sep xs) ρ := Eq.trans rfl rfl
noncomputable def eDGetd (xs : List D) (k : D) (o : Option (D × En)) : Option (D × En) := bnd o fun r => bnd (getL xs k r.1) fun d => some (d, r.2)
noncomputable def eDGetc (Df : FE) (xs : List D) (o : Option (D × En)) : Option (D × En) := bnd o fun q => eDGetd xs q.1 (Df q.2)
noncomputable def eDGetb (Kf Df : FE) (ρ : En) (o : Option (List D)) : Option (D × En) := bnd o fun xs => if ρ.all noOw = true then eDGetc Df xs (Kf ρ) else none
noncomputable def eDGeta (Kf Df : FE) (o : Option (D × En)) : Option (D × En) := bnd o fun p => eDGetb Kf Df p.2 (tupY p.1)
@[simp] theorem eDGet_ (E Kf Df : FE) (ρ : En) : eDGet E Kf Df ρ = eDGeta Kf Df (E ρ) := Eq.trans rfl rfl
@[simp] theorem eDGeta_s (Kf Df : FE) (x : D) (ρ : En) : eDGeta Kf Df (some (x, ρ)) = eDGetb Kf Df ρ (tupY x) := Eq.trans rfl rfl
@[simp] theorem eDGetb_s (Kf Df : FE) (ρ : En) (xs : List D) : eDGetb Kf Df ρ (some xs) = if ρ.all noOw = true then eDGetc Df xs (Kf ρ) else none := Eq.trans rfl rfl
@[simp] theorem eDGetc_s (Df : FE) (xs : List D) (k : D) (ρ : En) : eDGetc Df xs (some (k, ρ)) = eDGetd xs k (Df ρ) := Eq.trans rfl rfl
@[simp] theorem eDGetd_s (xs : List D) (k d : D) (ρ : En) : eDGetd xs k (some (d, ρ)) = mkP (getL xs k d) ρ := Eq.trans rfl rfl
theorem mem_insS {x y : Str} : ∀ {l : List Str}, y ∈ insS x l ↔ y = x \/ y ∈ l
 | [] => by simp [insS]
 | z :: r => by
  unfold insS
  split
  ·rw [List.mem_cons, mem_insS, List.mem_cons]
   exact ⟨fun h => by rcases h with h | h | h; exact .inr (.inl h); exact .inl h; exact .inr (.inr h), fun h => by rcases h with h | h | h; exact .inr (.inl h); exact .inl h; exact .inr (.inr h)⟩
  ·rw [List.mem_cons]
theorem strs_map : ∀ (ss : List Str), txts (ss.map .str) = some ss
 | [] => rfl
 | x :: r => by rw [List.map_cons, strs_cons, strs_map r]; rfl
end Fx
namespace Fx
open PySem
noncomputable def addS (acc : List Str) (x : Str) : List Str := if x ∈ acc then acc else acc ++ [x]
noncomputable def addAll (acc : List Str) (xs : List Str) : List Str := xs.foldl addS acc
noncomputable def sortSetL (xs : List D) : Option D := bnd (txts xs) fun ss => if ss.length < 64 then some (.lst ((sortS (addAll [] ss)).map .str)) else none
noncomputable def bSortSet : List D -> Option D
 | [.tup xs] => sortSetL xs
 | [.lst xs] => sortSetL xs
 | _ => none
@[simp] theorem bSortSet_t (xs : List D) : bSortSet [.tup xs] = sortSetL xs := Eq.trans rfl rfl
@[simp] theorem bSortSet_l (xs : List D) : bSortSet [.lst xs] = sortSetL xs := Eq.trans rfl rfl
theorem sortSetL_strs (ks : List Str) (h : ks.length < 64) : sortSetL (ks.map .str) = some (.lst ((sortS (addAll [] ks)).map .str)) := by
 unfold sortSetL
 rw [strs_map, bnd_some, if_pos h]
theorem mem_addAll {y : Str} : ∀ {xs acc : List Str}, y ∈ addAll acc xs ↔ y ∈ acc \/ y ∈ xs
 | [], acc => by simp [addAll]
 | x :: r, acc => by
  have ih := mem_addAll (y := y) (xs := r) (acc := addS acc x)
  show y ∈ addAll (addS acc x) r ↔ _
  rw [ih, List.mem_cons]
  have : y ∈ addS acc x ↔ y ∈ acc \/ y = x := by
   unfold addS
   split
   ·rename_i h
    exact ⟨.inl, fun q => q.elim id fun e => e ▸ h⟩
   ·rw [List.mem_append, List.mem_singleton]
  rw [this]
  exact ⟨fun q => by rcases q with (q | q) | q; exact .inl q; exact .inr (.inl q); exact .inr (.inr q), fun q => by rcases q with q | q | q; exact .inl (.inl q); exact .inl (.inr q); exact .inr q⟩
end Fx
namespace Fx
open PySem
noncomputable def sqA : D -> Option (List D)
 | .tup xs => some xs
 | .lst xs => some xs
 | _ => none
noncomputable def bSortOr : List D -> Option D
 | [x, y] => bnd (sqA x) fun xs => bnd (sqA y) fun ys => if xs.length + ys.length <= 60 then sortSetL (xs ++ ys) else none
 | _ => none
@[simp] theorem sqA_t (xs : List D) : sqA (.tup xs) = some xs := Eq.trans rfl rfl
@[simp] theorem sqA_l (xs : List D) : sqA (.lst xs) = some xs := Eq.trans rfl rfl
theorem bSortOr_eq (x y : D) : bSortOr [x, y] = bnd (sqA x) fun xs => bnd (sqA y) fun ys => if xs.length + ys.length <= 60 then sortSetL (xs ++ ys) else none := rfl
end Fx
namespace Fx
open PySem
noncomputable def retC : Res -> Option (D × MO)
 | .rt d ρ => bnd (owO ρ[1]?) fun q => if q.1 = true then some (d, q.2) else none
 | .nx ρ => bnd (owO ρ[1]?) fun q => if q.1 = true then some (.non, q.2) else none
 | _ => none
noncomputable def fnC (k : Nat) (B : FS) (o : MO) : List D -> Option (D × MO)
 | [d] => bnd (B (.im d :: .ow true o :: List.replicate k .no)) fun r => retC r
 | _ => none
end Fx
set_option maxRecDepth 100000
namespace Fx
open PySem PySem.Spec PyProof.Rows
theorem sortedS_pw : ∀ {x : Str} {l : List Str}, risingS x l = true -> (x :: l).Pairwise fun a b => ltS b a = false
 | x, [], _ => List.pairwise_singleton _ _
 | x, y :: r, h => by
  have h' : (!ltCps y.cps.toList x.cps.toList && risingS y r) = true := h
  rw [Bool.and_eq_true] at h'
  have ih := sortedS_pw h'.2
  have a1 : ltS y x = false := by
   have := h'.1
   rw [ltCps_eq] at this
   simpa [ltS] using this
  refine List.pairwise_cons.mpr ⟨fun z hz => ?_, ih⟩
  rcases List.mem_cons.mp hz with rfl | q
  ·exact a1
  ·have a2 := (List.pairwise_cons.mp ih).1 z q
   unfold ltS at a1 a2 ⊢
   rw [decide_eq_false_iff_not] at a1 a2 ⊢
   exact List.not_lt.mpr (List.le_trans (List.not_lt.mp a1) (List.not_lt.mp a2))
theorem ins_pw {x : Str} : ∀ {l : List Str}, (l.Pairwise fun a b => ltS b a = false) -> (insS x l).Pairwise fun a b => ltS b a = false
 | [], _ => List.pairwise_singleton _ _
 | y :: r, h => by
  unfold insS
  obtain ⟨h1, h2⟩ := List.pairwise_cons.mp h
  by_cases q : ltS y x = true
  ·rw [if_pos q]
   refine List.pairwise_cons.mpr ⟨fun z hz => ?_, ins_pw h2⟩
   rcases mem_insS.mp hz with rfl | hz
   ·unfold ltS at q ⊢
    rw [decide_eq_true_eq] at q
    rw [decide_eq_false_iff_not]
    exact List.not_lt.mpr (List.le_of_lt q)
   ·exact h1 z hz
  ·rw [if_neg q]
   have q : ltS y x = false := by simpa using q
   refine List.pairwise_cons.mpr ⟨fun z hz => ?_, h⟩
   rcases List.mem_cons.mp hz with rfl | hz
   ·exact q
   ·have a2 := h1 z hz
    unfold ltS at q a2 ⊢
    rw [decide_eq_false_iff_not] at q a2 ⊢
    exact List.not_lt.mpr (List.le_trans (List.not_lt.mp q) (List.not_lt.mp a2))
theorem sortS_pw : ∀ l : List Str, (sortS l).Pairwise fun a b => ltS b a = false
 | [] => List.Pairwise.nil
 | x :: r => by unfold sortS; exact ins_pw (sortS_pw r)
theorem ins_perm {x : Str} : ∀ {l : List Str}, (insS x l).Perm (x :: l)
 | [] => List.Perm.refl _
 | y :: r => by
  unfold insS
  split
  ·exact ((ins_perm (l := r)).cons y).trans (List.Perm.swap x y r)
  ·exact List.Perm.refl _
theorem sortS_perm : ∀ l : List Str, (sortS l).Perm l
 | [] => List.Perm.refl _
 | x :: r => by unfold sortS; exact ins_perm.trans ((sortS_perm r).cons x)
theorem sortS_uniq {l t : List Str} (hp : t.Perm l) (hs : sortedS t = true) : t = sortS l := by
 have h1 : t.Pairwise fun a b => ltS b a = false := by
  cases t with
  | nil => exact List.Pairwise.nil
  | cons x r => exact sortedS_pw hs
 refine List.Perm.eq_of_pairwise (le := fun a b => ltS b a = false) (fun a b _ _ p q => ?_) h1 (sortS_pw l) (hp.trans (sortS_perm l).symm)
 unfold ltS at p q
 rw [decide_eq_false_iff_not] at p q
 have := List.le_antisymm (List.not_lt.mp p) (List.not_lt.mp q)
 obtain ⟨⟨la⟩⟩ := a
 obtain ⟨⟨lb⟩⟩ := b
 cases this
 rfl
section
variable {prog : Program} {w : World} {A : Around} {E : Value -> Shared -> Prop} {s : Shared}
end
end Fx
set_option maxRecDepth 100000
namespace Fx
open PySem
end Fx
set_option maxRecDepth 100000
namespace Fx
open PySem
section
variable {prog : Program} {w : World} {K : Type} [DecidableEq K] {knd : KeyKind prog w K} {A : Around} {E : Value -> Shared -> Prop} {s : Shared}
inductive PairsAt (knd : KeyKind prog w K) (h : Heap) : List Value -> List (K × Value) -> Prop
 | nil : PairsAt knd h [] []
 | cons {p : Addr} {u v : Value} {k : K} {us : List Value} {kvs : List (K × Value)} (a : h.IsTuple p #[u, v]) (b : knd.is k u = true) (r : PairsAt knd h us kvs) : PairsAt knd h (.ref p :: us) ((k, v) :: kvs)
end
end Fx
set_option maxRecDepth 100000
namespace Fx
open PySem PySem.Spec
theorem erase_perm {α : Type} : ∀ {l : List α} {i : Nat} (h : i < l.length), (l[i] :: l.eraseIdx i).Perm l
 | x :: r, 0, _ => List.Perm.refl _
 | x :: r, i + 1, h => by
  have h' : i < r.length := by simpa using h
  show (r[i] :: x :: r.eraseIdx i).Perm (x :: r)
  exact (List.Perm.swap x r[i] _).trans ((erase_perm h').cons x)
section
variable {M : Model} {A : Around} {E : Value -> Shared -> Prop} {s : Shared}
theorem wpAny_pick {src : Source} {n : Nat} {Q : Nat -> Shared -> Prop} (hn : n ≠ 0) (h : ∀ i dr, i < n -> Q i { s with drawn := dr }) : wpAny M A (choose src n) Q E s := fun Γ p _ => by
 unfold choose
 rw [Sem.wp_choose]
 exact ⟨hn, h _ _ (Nat.mod_lt _ (Nat.pos_of_ne_zero hn))⟩
theorem wpAny_drawOrder {α : Type} : ∀ (n : Nat) (xs : List α) (s : Shared) (Q : List α -> Shared -> Prop), n = xs.length -> (∀ ys dr, ys.Perm xs -> Q ys { s with drawn := dr }) -> wpAny M A (drawOrder n xs) Q E s
 | 0, xs, s, Q, e, h => by
  have : xs = [] := List.length_eq_zero_iff.mp e.symm
  subst this
  unfold drawOrder
  exact wpAny_pure (h [] s.drawn (List.Perm.refl _))
 | n + 1, [], s, Q, e, h => by cases e
 | n + 1, x :: r, s, Q, e, h => by
  unfold drawOrder
  refine wpAny_bind (wpAny_pick (by simp) fun i dr hi => ?_)
  have e1 : (x :: r)[i]? = some ((x :: r)[i]) := List.getElem?_eq_getElem hi
  rw [e1]
  refine wpAny_bind (wpAny_drawOrder n ((x :: r).eraseIdx i) _ _ ?_ fun ys dr' hp => wpAny_pure ?_)
  ·rw [List.length_eraseIdx_of_lt hi]; omega
  ·refine h _ dr' ?_
   exact (hp.cons _).trans (erase_perm hi)
end
theorem pick_perm {α : Type} (f : Nat -> Nat) : ∀ (n k : Nat) (l : List α) (out : Array α), n = l.length -> (pickOrder.go f n k l out).toList.Perm (out.toList ++ l)
 | 0, k, l, out, e => by
  have : l = [] := List.length_eq_zero_iff.mp e.symm
  subst this
  unfold pickOrder.go
  rw [List.append_nil]
 | n + 1, k, l, out, e => by
  unfold pickOrder.go
  have hl : f k % l.length < l.length := Nat.mod_lt _ (by omega)
  rw [List.getElem?_eq_getElem hl]
  refine (pick_perm f n (k + 1) _ _ (by rw [List.length_eraseIdx_of_lt hl]; omega)).trans ?_
  rw [Array.toList_push, List.append_assoc]
  exact List.Perm.append_left _ (erase_perm hl)
theorem pickOrder_perm {α : Type} (f : Nat -> Nat) (xs : Array α) : (pickOrder f xs).toList.Perm xs.toList := by
 unfold pickOrder
 have := pick_perm f xs.size 0 xs.toList #[] (by simp)
 simpa using this
theorem layNew_marks (t : SetTable) (es : Array (Int × Value)) (h : Int) (x : Value) : (layNew t es h x).2.1.led = t.led /\ ((layNew t es h x).2.1.plain = true -> t.plain = true) := by
 have st : ∀ (u : SetTable) (n : Nat), (u.standIn n).led = u.led /\ (u.standIn n).plain = false := fun u n => ⟨rfl, rfl⟩
 unfold layNew
 split
 ·rename_i slot wd _
  have pu : (t.put slot).1.led = t.led /\ (t.put slot).1.plain = t.plain := ⟨rfl, rfl⟩
  dsimp only
  unfold SetTable.orStandIn
  split
  ·exact ⟨pu.1, fun q => by rw [<- pu.2]; exact q⟩
  ·exact ⟨pu.1, fun q => by cases q⟩
 ·exact ⟨rfl, fun q => by cases q⟩
theorem relayAll_marks (t : SetTable) (es : Array (Int × Value)) (n : Nat) : (relayAll t es n).2.1.led = t.led /\ ((relayAll t es n).2.1.plain = true -> t.plain = true) := by
 unfold relayAll
 split
 ·rename_i t' order e
  have m : t'.led = t.led /\ t'.plain = t.plain := by
   unfold SetTable.relaid SetTable.laid at e
   cases z : SetTable.layClean (SetTable.sizeAbove n - 1) (es.map (·.1)) with
   | none => rw [z] at e; cases e
   | some ow => rw [z] at e; cases e; exact ⟨rfl, rfl⟩
  dsimp only
  split
  ·exact ⟨m.1, fun q => by rw [<- m.2]; exact q⟩
  ·exact ⟨rfl, fun q => by cases q⟩
 ·exact ⟨rfl, fun q => by cases q⟩
noncomputable def SetS (P : Program) (w : World) (bt : Bool) (h : Heap) (a : Addr) (ss : List Str) : Prop :=
 ∃ o es ep t, h.get? a = some o /\ o.ExactSet /\ o.data = .set es ep t /\ ElemsOf (PySem.strKind P w) es.toList /\ (es.toList.map fun e => PyProof.Rows.strOf e.2).Perm ss /\ ss.Nodup /\ es.size < scanBound /\ t.fits es.size = true /\
  (t.plain = true -> es.size = 0) /\ (bt = false -> t.led = true)
section
variable {P : Program} {w : World} {bt : Bool} {A : Around} {E : Value -> Shared -> Prop} {s : Shared} {a : Addr} {ss : List Str}
theorem elem_str {es : List (Int × Value)} (h : ElemsOf (PySem.strKind P w) es) : ∀ e ∈ es, ∃ x t, e.2 = .str x t /\ e.1 = (PySem.strKind P w).hash x := fun e he => by
 obtain ⟨⟨k, hk, hh⟩, _⟩ := h e he
 obtain ⟨t, ht⟩ := Value.isStrOf_shape hk
 exact ⟨k, t, ht, hh⟩
theorem is_str_iff {x : Str} {v : Value} {y : Str} {t : Tok} (e : v = .str y t) : (PySem.strKind P w).is x v = decide (x = y) := by
 subst e
 have h : (PySem.strKind P w).is y (.str y t) = true := by show Value.isStrOf y (.str y t) = true; simp [Value.isStrOf]
 exact KeyKind.is_eq_decide h x
theorem wpAny_addS {x : Str} {tk : Tok} {Q : Bool -> Shared -> Prop} (hS : SetS P w bt s.heap a ss) (hroom : ss.length + 1 < scanBound)
  (h : ∀ h', Heap.SameBut a s.heap h' -> SetS P w bt h' a (if x ∈ ss then ss else ss ++ [x]) -> Q (!decide (x ∈ ss)) { s with heap := h' }) :
  wpAny (model P w) A (setAddHashed a (.str x tk) ((PySem.strKind P w).hash x)) Q E s := by
 obtain ⟨o, es, ep, t, ho, hex, hd, hel, hp, hnd, hb, hf, hpl, hled⟩ := hS
 have hkey : (PySem.strKind P w).is x (.str x tk) = true := by rw [is_str_iff rfl]; simp
 have hsc : (Value.str x tk).scannable = true := rfl
 have hn : es.size = ss.length := by
  have := hp.length_eq
  rw [List.length_map, Array.length_toList] at this
  exact this
 have mem : (∃ e ∈ es.toList, (PySem.strKind P w).is x e.2 = true) ↔ x ∈ ss := by
  rw [<- hp.mem_iff, List.mem_map]
  constructor
  ·rintro ⟨e, he, q⟩
   obtain ⟨y, t, ey, _⟩ := elem_str hel e he
   rw [is_str_iff ey, decide_eq_true_iff] at q
   exact ⟨e, he, by rw [ey, q]; rfl⟩
  ·rintro ⟨e, he, q⟩
   obtain ⟨y, t, ey, _⟩ := elem_str hel e he
   rw [ey] at q
   exact ⟨e, he, by rw [is_str_iff ey, decide_eq_true_iff, <- q]; rfl⟩
 unfold setAddHashed setAddHashedIn
 refine wpAny_holding (wpAny_bind (wpAny_setState_of ho hd hf ?_))
 dsimp only
 rw [byScan_of hsc hb hel]
 simp only [↓reduceIte]
 unfold setAddByScan
 refine wpAny_bind (wpAny_bind (wpAny_rule (wpAny_bind (wpAny_setScan_of hkey ho hd hf hel ?_))))
 cases hr : List.findIdx? (fun e => (PySem.strKind P w).is x e.2) es.toList with
 | some j =>
  obtain ⟨hj, hpj, _⟩ := List.findIdx?_eq_some_iff_getElem.mp hr
  have hx : x ∈ ss := mem.mp ⟨es.toList[j], List.getElem_mem hj, hpj⟩
  dsimp only
  refine wpAny_pure (wpAny_pure ?_)
  have := h s.heap (Heap.SameBut.refl a s.heap) (by rw [if_pos hx]; exact ⟨o, es, ep, t, ho, hex, hd, hel, hp, hnd, hb, hf, hpl, hled⟩)
  rw [decide_eq_true hx] at this
  exact this
 | none =>
  have hx : ¬ x ∈ ss := fun q => by
   obtain ⟨e, he, q⟩ := mem.mpr q
   have := List.findIdx?_eq_none_iff.mp hr e he
   rw [q] at this; cases this
  dsimp only
  have lp := layNew_perm t es ((PySem.strKind P w).hash x) (.str x tk)
  have lf := layNew_fits t es ((PySem.strKind P w).hash x) (.str x tk)
  have lm := layNew_marks t es ((PySem.strKind P w).hash x) (.str x tk)
  generalize layNew t es ((PySem.strKind P w).hash x) (.str x tk) = L at lp lf lm ⊢
  obtain ⟨es1, t1, wd, gave⟩ := L
  dsimp only at lp lf lm ⊢
  rw [Array.toList_push] at lp
  have hel1 : ElemsOf (PySem.strKind P w) es1.toList := (hel.push hkey hsc).perm lp
  have hp1 : (es1.toList.map fun e => PyProof.Rows.strOf e.2).Perm (ss ++ [x]) := by
   refine (lp.map _).trans ?_
   rw [List.map_append]
   exact hp.append (List.Perm.refl _)
  have nd1 : (ss ++ [x]).Nodup := by
   rw [List.nodup_append]
   exact ⟨hnd, by simp, fun u hu v hv e => by rw [List.mem_singleton] at hv; subst hv; subst e; exact hx hu⟩
  have sz1 : es1.size = es.size + 1 := by
   have := lp.length_eq
   rw [List.length_append, Array.length_toList, Array.length_toList] at this
   exact this
  have gw : ∀ (b : Bool) (s₁ : Shared) (Q' : Unit → Shared → Prop), Q' () s₁ → wpAny (model P w) A (match b with | true => rule "set.scan.the-table-gave-way" | false => pure ()) Q' E s₁ :=
   fun b s₁ Q' q => by cases b <;> first | exact wpAny_pure q | exact wpAny_rule q
  refine wpAny_bind (gw _ _ _ ?_)
  have fin : ∀ (g : Bool -> Sem Unit), (∀ (b : Bool) (s₁ : Shared) (Q' : Unit -> Shared -> Prop), Q' () s₁ -> wpAny (model P w) A (g b) Q' E s₁) -> ∀ (R : Option Bool -> Shared -> Prop) (t2 : SetTable), t2.fits es1.size = true -> t2.led = t.led -> t2.plain = false ->
    (∀ h', Heap.SameBut a s.heap h' -> SetS P w bt h' a (ss ++ [x]) -> R (some true) { s with heap := h' }) ->
    wpAny (model P w) A (do
     storeSet a es1 t2
     if (!wd && t2.tooFull) = true then do
       g (relayAll t2 es1 (SetTable.grown es1.size)).2.2
       storeSet a (relayAll t2 es1 (SetTable.grown es1.size)).1 (relayAll t2 es1 (SetTable.grown es1.size)).2.1
       pure (some true)
      else pure (some true)) R E s := fun g hg R t2 f2 l2 p2 k => by
   have b1 : es1.size < scanBound := by rw [sz1, hn]; exact hroom
   refine wpAny_bind (wpAny_storeSet_of ho hd ?_ (fits_of_scanBound b1))
   have at1 : (s.heap.update a (Obj.putSet es1 t2)).get? a = some { o with data := .set es1 (ep + 1) t2 } := by
    have z := Heap.get?_update_self (Obj.putSet es1 t2) ho (by rw [putSet_of es1 t2 hd]; rfl)
    rw [putSet_of es1 t2 hd] at z; exact z
   have sb1 := Heap.SameBut.update s.heap a (Obj.putSet es1 t2)
   split
   ·have rp := relayAll_perm t2 es1 (SetTable.grown es1.size)
    have rf := relayAll_fits t2 es1 (SetTable.grown es1.size)
    have rm := relayAll_marks t2 es1 (SetTable.grown es1.size)
    generalize relayAll t2 es1 (SetTable.grown es1.size) = Rl at rp rf rm ⊢
    obtain ⟨es2, t3, g2⟩ := Rl
    dsimp only at rp rf rm ⊢
    have sz2 : es2.size = es1.size := by rw [<- Array.length_toList, rp.length_eq, Array.length_toList]
    have b2 : es2.size < scanBound := by rw [sz2]; exact b1
    refine wpAny_bind (hg _ _ _ (wpAny_bind (wpAny_storeSet_of at1 rfl (wpAny_pure (k _ (sb1.trans (Heap.SameBut.update _ a _)) ?_)) (fits_of_scanBound b2))))
    have at2 : ((s.heap.update a (Obj.putSet es1 t2)).update a (Obj.putSet es2 t3)).get? a = some { o with data := .set es2 (ep + 1 + 1) t3 } := by
     have z := Heap.get?_update_self (Obj.putSet es2 t3) at1 (by rw [putSet_of (es := es1) (ep := ep + 1) (t := t2) es2 t3 rfl]; rfl)
     rw [putSet_of (es := es1) (ep := ep + 1) (t := t2) es2 t3 rfl] at z; exact z
    exact ⟨_, es2, ep + 1 + 1, t3, at2, hex, rfl, hel1.perm rp, (rp.map _).trans hp1, nd1, b2, rf, fun q => (by rw [p2] at rm; exact absurd (rm.2 q) (by simp)), fun q => by rw [rm.1, l2]; exact hled q⟩
   ·exact wpAny_pure (k _ sb1 ⟨_, es1, ep + 1, t2, at1, hex, rfl, hel1, hp1, nd1, b1, f2, fun q => (by rw [p2] at q; cases q), fun q => by rw [l2]; exact hled q⟩)
  have done : ∀ h', Heap.SameBut a s.heap h' -> SetS P w bt h' a (ss ++ [x]) -> Q true { s with heap := h' } := fun h' c1 c2 => by
   have := h h' c1 (by rw [if_neg hx]; exact c2)
   rw [decide_eq_false hx] at this
   exact this
  split
  ·refine wpAny_bind ?_
   rw [hashByValue_scannable 8 hsc]
   refine wpAny_pure (fin _ gw _ _ ?_ ?_ ?_ fun h' c1 c2 => ?_)
   ·exact SetTable.fits_plain_off lf
   ·exact lm.1
   ·rfl
   ·dsimp only; exact wpAny_pure (done h' c1 c2)
  ·rename_i np
   refine wpAny_bind (wpAny_pure ?_)
   simp only [↓reduceIte]
   refine fin _ gw _ _ lf lm.1 (by simpa using np) fun h' c1 c2 => ?_
   dsimp only; exact wpAny_pure (done h' c1 c2)
end
end Fx
set_option maxRecDepth 100000
namespace Fx
open PySem PySem.Spec
theorem addAll_len : ∀ (xs acc : List Str), (addAll acc xs).length <= acc.length + xs.length
 | [], acc => Nat.le_refl _
 | x :: r, acc => by
  have h := addAll_len r (addS acc x)
  have h2 : (addS acc x).length <= acc.length + 1 := by
   unfold addS; split
   ·omega
   ·rw [List.length_append]; exact Nat.le_refl _
  show (addAll (addS acc x) r).length <= _
  rw [List.length_cons]; omega
noncomputable def ItAt : Bool -> Heap -> Addr -> Addr -> Nat -> Prop
 | true, h, it, c, i => h.IsTupleIter it c i
 | false, h, it, c, i => h.IsListIter it c i
noncomputable def SqAt : Bool -> Heap -> Addr -> Array Value -> Prop
 | true, h, c, us => h.IsTuple c us
 | false, h, c, us => h.IsList c us
section
variable {P : Program} {w : World} {A : Around} {E : Value -> Shared -> Prop} {s : Shared} {it c : Addr} {i : Nat} {us : Array Value}
theorem SqAt.keep {T : Bool} {h h' : Heap} (q : SqAt T h c us) (k : ∀ b o, h.get? b = some o -> h'.get? b = some o) : SqAt T h' c us := by
 cases T with
 | true => obtain ⟨o, ho, r⟩ := q; exact ⟨o, k _ _ ho, r⟩
 | false => obtain ⟨o, ho, r⟩ := q; exact ⟨o, k _ _ ho, r⟩
theorem next_item {T : Bool} {x : Value} {Q : Option Value -> Shared -> Prop} (a : ItAt T s.heap it c i) (b : SqAt T s.heap c us) (hx : us[i]? = some x)
  (k : ∀ h', ItAt T h' it c (i + 1) -> Heap.SameBut it s.heap h' -> Q (some x) { s with heap := h' }) : wpAny (model P w) A (pyNext (.ref it)) Q E s := by
 cases T with
 | true => exact wpAny_pyNext_tuple_item a b hx k
 | false => exact wpAny_pyNext_list_item a b hx k
theorem next_end {T : Bool} {Q : Option Value -> Shared -> Prop} (hh : A.handled = none) (a : ItAt T s.heap it c i) (b : SqAt T s.heap c us) (hx : us[i]? = none)
  (k : ∀ h', Heap.ExtBut it s.heap h' -> Q none { s with heap := h' }) : wpAny (model P w) A (pyNext (.ref it)) Q E s := by
 cases T with
 | true => exact wpAny_pyNext_tuple_end hh a b hx k
 | false => exact wpAny_pyNext_list_end hh a b hx k
theorem iter_start {T : Bool} {Q : Value -> Shared -> Prop} (b : SqAt T s.heap c us)
  (k : ∀ oI : Obj, ItAt T (s.heap.push oI) s.heap.objs.size c 0 -> Q (.ref s.heap.objs.size) { s with heap := s.heap.push oI }) : wpAny (model P w) A (pyIter (.ref c)) Q E s := by
 cases T with
 | true => exact wpAny_pyIter_tuple b (k _ ⟨_, Heap.get?_push_size _ rfl, rfl, rfl⟩)
 | false => exact wpAny_pyIter_list b (k _ ⟨_, Heap.get?_push_size _ rfl, rfl, rfl⟩)
theorem ItAt.same {T : Bool} {h h' : Heap} {b : Addr} (q : ItAt T h it c i) (sb : Heap.SameBut b h h') (ne : it ≠ b) : ItAt T h' it c i := by
 cases T with
 | true => obtain ⟨o, ho, r⟩ := q; exact ⟨o, (sb.2 it ne).trans ho, r⟩
 | false => obtain ⟨o, ho, r⟩ := q; exact ⟨o, (sb.2 it ne).trans ho, r⟩
theorem SetS.same {bt : Bool} {h h' : Heap} {a b : Addr} {ss : List Str} (q : SetS P w bt h a ss) (sb : Heap.SameBut b h h') (ne : a ≠ b) : SetS P w bt h' a ss := by
 obtain ⟨o, es, ep, t, ho, r⟩ := q; exact ⟨o, es, ep, t, (sb.2 a ne).trans ho, r⟩
theorem SetS.ext {bt : Bool} {h h' : Heap} {a b : Addr} {ss : List Str} (q : SetS P w bt h a ss) (eb : Heap.ExtBut b h h') (ne : a ≠ b) : SetS P w bt h' a ss := by
 obtain ⟨o, es, ep, t, ho, r⟩ := q; exact ⟨o, es, ep, t, eb a _ ne ho, r⟩
theorem SetS.keep {bt : Bool} {h h' : Heap} {a : Addr} {ss : List Str} (q : SetS P w bt h a ss) (k : ∀ b o, h.get? b = some o -> h'.get? b = some o) : SetS P w bt h' a ss := by
 obtain ⟨o, es, ep, t, ho, r⟩ := q; exact ⟨o, es, ep, t, k _ _ ho, r⟩
theorem strs_at {all : List Value} {xs : List Str} (h : PyProof.Rows.StrsAre all xs) {i : Nat} {x : Str} {r : List Str} (e : xs.drop i = x :: r) : ∃ tk, all[i]? = some (.str x tk) := by
 induction h generalizing i with
 | nil => simp at e
 | cons y t h ih =>
  cases i with
  | zero =>
   rw [List.drop_zero] at e
   injection e with e1 e2
   subst e1
   exact ⟨t, rfl⟩
  | succ i =>
   rw [List.drop_succ_cons] at e
   obtain ⟨tk, q⟩ := ih e
   exact ⟨tk, by simpa using q⟩
theorem set_loop {bt T : Bool} {hI : Heap} {a : Addr} {all : List Value} {xs0 : List Str} {R : Result -> Shared -> Prop} (ha0 : hI.get? a = none) (hi0 : hI.get? it = none) (hne : a ≠ it) (sq : SqAt T hI c all.toArray) (sa : PyProof.Rows.StrsAre all xs0) (hh : A.handled = none) :
  ∀ (xs : List Str) (acc : List Str) (s : Shared) (i : Nat), xs0.drop i = xs -> (∀ b o, hI.get? b = some o -> s.heap.get? b = some o) -> ItAt T s.heap it c i -> SetS P w bt s.heap a acc -> acc.length + xs.length + 1 < scanBound ->
   (∀ h' tk', (∀ b o, hI.get? b = some o -> h'.get? b = some o) -> SetS P w bt h' a (addAll acc xs) -> R (.ok (.ret .none)) { s with heap := h', toks := tk' }) ->
   codeAny (model P w) A (.builtin "set.update.loop" ⟨[.ref a, .ref it], []⟩) R s := by
 intro xs
 induction xs with
 | nil =>
  intro acc s i e kp hit hS hz q
  refine codeAny_builtin PyProof.Rows.F.entry_set_update_loop ?_
  rw [Around.under_plainId PyProof.Rows.F.plain_set_update_loop _]
  show wpAny _ A.in1 (pyNext (.ref it) >>= _) _ _ s
  have hl : all.length = xs0.length := by
   have := sa.strs
   rw [<- this, List.length_map]
  have hx : all.toArray[i]? = none := by
   have : all[i]? = none := List.getElem?_eq_none (by rw [hl]; simpa using e)
   simpa using this
  refine wpAny_bind (next_end hh hit (sq.keep kp) hx fun h' eb => wpAny_pure ?_)
  exact q h' s.toks (fun b o hb => eb b o (fun z => by rw [z, hi0] at hb; cases hb) (kp _ _ hb)) (hS.ext eb hne)
 | cons x xs ih =>
  intro acc s i e kp hit hS hz q
  refine codeAny_builtin PyProof.Rows.F.entry_set_update_loop ?_
  rw [Around.under_plainId PyProof.Rows.F.plain_set_update_loop _]
  show wpAny _ A.in1 (pyNext (.ref it) >>= _) _ _ s
  obtain ⟨tk, hx0⟩ := strs_at sa e
  have hx : all.toArray[i]? = some (.str x tk) := by simpa using hx0
  refine wpAny_bind (next_item hit (sq.keep kp) hx fun h1 hit1 sb1 => ?_)
  have kp1 : ∀ b o, hI.get? b = some o -> h1.get? b = some o := fun b o hb => (sb1.2 b (fun z => by rw [z, hi0] at hb; cases hb)).trans (kp _ _ hb)
  show wpAny _ A.in1 (holding [Value.str x tk] (setAdd a (.str x tk)) >>= _) _ _ _
  refine wpAny_bind (wpAny_holding ?_)
  unfold setAdd
  have hkey : (PySem.strKind P w).is x (.str x tk) = true := by rw [is_str_iff rfl]; simp
  refine wpAny_holding (wpAny_bind ((PySem.strKind P w).pyHash hkey ?_))
  simp only [List.length_cons] at hz
  refine wpAny_addS (s := { s with heap := h1, toks := s.toks + 1 }) (hS.same sb1 hne) (by omega) fun h2 sb2 hS2 => ?_
  have kp2 : ∀ b o, hI.get? b = some o -> h2.get? b = some o := fun b o hb => (sb2.2 b (fun z => by rw [z, ha0] at hb; cases hb)).trans (kp1 _ _ hb)
  have l2 : (addS acc x).length <= acc.length + 1 := by
   unfold addS; split
   ·omega
   ·rw [List.length_append]; exact Nat.le_refl _
  refine wpAny_pure ⟨plainId_quiet PyProof.Rows.F.plain_set_update_loop _, ?_⟩
  exact ih (addS acc x) { s with heap := h2, toks := s.toks + 1 } (i + 1) (by rw [<- List.drop_drop, e]; rfl) kp2 (hit1.same sb2 (Ne.symm hne)) hS2 (by omega) fun h' tk' c1 c2 => q h' tk' c1 c2
end
end Fx
set_option maxRecDepth 100000
namespace Fx
open PySem PySem.Spec
noncomputable abbrev byT (w : World) : Bool := w.params.followText "set-order"
noncomputable abbrev newS (w : World) : Obj := { cls := .type "set", dict := none, data := .set #[] 0 (.fresh 0 0 (!byT w)) }
theorem sub_tuple_set : isSubtype (.type "tuple") (.type "set") = pure false := by rw [isSubtype_type]; kernel_rfl
theorem sub_tuple_frozenset : isSubtype (.type "tuple") (.type "frozenset") = pure false := by rw [isSubtype_type]; kernel_rfl
section
variable {P : Program} {w : World} {A : Around} {E : Value -> Shared -> Prop} {s : Shared}
theorem setS_new (h : Heap) : SetS P w (byT w) (h.push (newS w)) h.objs.size [] :=
 ⟨_, #[], 0, _, Heap.get?_push_size _ rfl, ⟨rfl, rfl, rfl⟩, rfl, fun e he => (by simp at he), List.Perm.refl _, List.nodup_nil, by decide, by rfl, fun _ => rfl, fun e => by show (!byT w) = true; rw [e]; rfl⟩
theorem newSet_S {Q : Value → Shared → Prop} (h : Q (.ref s.heap.objs.size) { s with heap := s.heap.push (newS w) }) : wpAny (model P w) A (newSet (.type "set")) Q E s := by
 unfold newSet setsByText
 refine wpAny_bind (wpAny_bind (wpAny_askSetting (wpAny_pure ?_)))
 dsimp only
 simp only [newObj]
 exact wpAny_bind (wpAny_alloc (wpAny_pure h))
theorem code_new_S (v : Value) {Q₁ : Value -> Shared -> Prop} (h : Q₁ (.ref s.heap.objs.size) { s with heap := s.heap.push (newS w) }) :
  codeAny (model P w) A (.call (.builtin "set.__new__") ⟨[.type "set", v], []⟩) (wants Q₁ E) s := by
 refine codeAny_of_tree ?_
 show wpAny _ A.in1 (checkBuiltinCall "set.__new__" ⟨[.type "set", v], []⟩ >>= fun _ => again (.builtin "set.__new__" ⟨[.type "set", v], []⟩)) _ _ s
 refine wpAny_bind (wpAny_of_eq (F.newCall_set_1 v) (wpAny_pure ⟨plainId_quiet F.plain_set_new _, codeAny_builtin F.entry_set_new ?_⟩))
 rw [Around.under_plainId F.plain_set_new _]
 unfold Builtin.«set.__new__» Builtin.Frozenset.newClass
 have sb := sub_set_self
 obtain ⟨h0, g0, d0, k0, o0⟩ := s
 dsimp only
 wp_walk
 refine wpAny_askSetting (wpAny_pure ?_)
 dsimp only
 simp only [newObj]
 exact wpAny_bind (wpAny_alloc (wpAny_pure (wpAny_pure h)))
set_option maxHeartbeats 3200000 in
theorem call_setS {T : Bool} {c : Addr} {all : List Value} {xs : List Str} {Q : Value -> Shared -> Prop} (hh : A.handled = none) (sq : SqAt T s.heap c all.toArray) (sa : PyProof.Rows.StrsAre all xs) (hz : xs.length + 1 < scanBound)
  (k : ∀ (h' : Heap) (tk : Nat), (∀ b o, s.heap.get? b = some o -> h'.get? b = some o) -> SetS P w (byT w) h' s.heap.objs.size (addAll [] xs) -> Q (.ref s.heap.objs.size) { s with heap := h', toks := tk }) :
  wpAny (model P w) A (call (.type "set") [.ref c]) Q E s := by
 obtain ⟨mc, mt, mr⟩ := F.called_set.mro
 have md := F.called_set.made
 have su := F.called_set.sub
 refine wpAny_call (codeAny_of_tree ?_)
 show wpAny _ _ (callAny (.type "set") _) _ _ _
 refine wpAny_pure ⟨Code.quiet_builtin _ (by decide +kernel), codeAny_builtin F.entry_type_call ?_⟩
 rw [Around.under_plain (weight_type_call_type "set" [.ref c] []) rfl]
 have f1 := F.called_set.notType
 have f2 := F.called_set.canCreate
 have f3 := F.typeCall_set_1 (.ref c)
 repeat (any_goals (first | assumption | wp_step))
 refine codeAny_mono (code_new_S (.ref c) (E := E) (Q₁ := fun z s1 => z = .ref s.heap.objs.size /\ s1 = { s with heap := s.heap.push (newS w) }) ⟨rfl, rfl⟩) fun r s1 hr => ?_
 cases r with
 | error e => exact hr
 | ok fl =>
  cases fl with
  | ret z =>
   obtain ⟨rfl, rfl⟩ := hr
   have at0 : (s.heap.push (newS w)).get? s.heap.objs.size = some (newS w) := Heap.get?_push_size _ rfl
   have ty0 : Shared.TypeIs { s with heap := s.heap.push (newS w) } (.ref s.heap.objs.size) "set" := ⟨_, at0, rfl⟩
   have li := F.called_set.init.lookup
   have bi := F.called_set.init.bind (.ref s.heap.objs.size)
   repeat (any_goals (first | assumption | wp_step))
   refine codeAny_mono (codeAny_call_builtin (R := wants (fun r s2 => r = .none /\ ∃ h' tk, s2 = { s with heap := h', toks := tk } /\ (∀ b o, s.heap.get? b = some o -> h'.get? b = some o) /\ SetS P w (byT w) h' s.heap.objs.size (addAll [] xs)) E) F.called_set.init.plain F.entry_set_init (check_set_init_1 ty0 ?_)) fun r2 s2 hr2 => ?_
   ·have sq1 : SqAt T (s.heap.push (newS w)) c all.toArray := sq.keep fun b o e => Heap.get?_push_of_some _ e
    have e1 : ∃ TT : String, Shared.TypeIs { s with heap := s.heap.push (newS w) } (.ref c) TT ∧ (isSubtype (.type TT) (.type "set") = pure false) ∧ (isSubtype (.type TT) (.type "frozenset") = pure false) ∧ (Value.type TT == Value.type "dict") = false := by
     cases T with
     | true => obtain ⟨o, ho, hc, _⟩ := sq1; exact ⟨"tuple", ⟨o, ho, hc⟩, sub_tuple_set, sub_tuple_frozenset, by decide⟩
     | false => obtain ⟨o, ho, hc, _⟩ := sq1; exact ⟨"list", ⟨o, ho, hc⟩, F.sub_list_set, F.sub_list_frozenset, by decide⟩
    obtain ⟨TT, tyc, n1, n2, n3⟩ := e1
    unfold Builtin.«set.__init__» noKeywords Builtin.Frozenset.updateFrom
    generalize hPI : pyIter = PI
    wp_walk
    subst hPI
    refine iter_start (s := { s with heap := s.heap.push (newS w) }) sq1 fun oI hI0 => ?_
    have sz : (s.heap.push (newS w)).objs.size = s.heap.objs.size + 1 := by rw [Heap.size_push]
    have none_of : ∀ n, s.heap.objs.size <= n -> s.heap.get? n = none := fun n hn => by
     cases z : s.heap.get? n with
     | none => rfl
     | some o => exact absurd (Heap.lt_size z) (Nat.not_lt.mpr hn)
    refine wpAny_bind (wpAny_runValue ?_)
    refine set_loop (A := A.in1.in1) (bt := byT w) (hI := s.heap) (none_of _ (Nat.le_refl _)) (none_of _ (by show s.heap.objs.size <= (s.heap.push (newS w)).objs.size; rw [sz]; exact Nat.le_succ _)) (by show s.heap.objs.size ≠ (s.heap.push (newS w)).objs.size; rw [sz]; exact Nat.ne_of_lt (Nat.lt_succ_self _)) sq sa hh
     xs [] { s with heap := (s.heap.push (newS w)).push oI } 0 rfl (fun b o e => Heap.get?_push_of_some _ (Heap.get?_push_of_some _ e)) hI0 ((setS_new s.heap).keep fun b o e => Heap.get?_push_of_some _ e) (by rw [List.length_nil]; omega) fun h' tk c1 c2 => ?_
    refine wpAny_pure (wpAny_pure ?_)
    exact ⟨rfl, h', tk, rfl, c1, c2⟩
   ·cases r2 with
    | error e => exact hr2
    | ok fl2 =>
     cases fl2 with
     | ret r =>
      obtain ⟨rfl, h', tk, rfl, c1, c2⟩ := hr2
      repeat (any_goals (first | assumption | wp_step))
      exact k _ _ c1 c2
     | _ => exact hr2.elim
  | _ => exact hr.elim
end
end Fx
set_option maxRecDepth 100000
namespace Fx
open PySem PySem.Spec
theorem slot_sit_next : Slot "set_iterator" "__next__" "set_iterator.__next__" :=
 .of (owner := "set_iterator") (n := "__next__") (by rw [typeLookup_type, builtinLookup_eq_fast]; kernel_rfl) (by decide +kernel) (by decide +kernel) (by decide +kernel) (by first | exact .inl (by decide +kernel) | exact .inr (by decide +kernel)) (by rw [isSubtype_type]; kernel_rfl)
theorem slot_sit_iter : Slot "set_iterator" "__iter__" "set_iterator.__iter__" :=
 .of (owner := "set_iterator") (n := "__iter__") (by rw [typeLookup_type, builtinLookup_eq_fast]; kernel_rfl) (by decide +kernel) (by decide +kernel) (by decide +kernel) (by first | exact .inl (by decide +kernel) | exact .inr (by decide +kernel)) (by rw [isSubtype_type]; kernel_rfl)
theorem entry_sit_next : entryFor table "set_iterator.__next__" = some Builtin.«set_iterator.__next__» := entryFor_of_tree (by kernel_rfl)
theorem entry_sit_iter : entryFor table "set_iterator.__iter__" = some Builtin.«dict_keyiterator.__iter__» :=
 entryFor_alias (id' := "dict_keyiterator.__iter__") (by kernel_rfl) (by first | rfl | decide +kernel) (by decide +kernel) (by kernel_rfl)
theorem entry_set_iter' : entryFor table "set.__iter__" = some Builtin.«frozenset.__iter__» :=
 entryFor_alias (id' := "frozenset.__iter__") (by kernel_rfl) (by first | rfl | decide +kernel) (by decide +kernel) (by kernel_rfl)
theorem args_sit_next (v : Value) : argsOk "set_iterator.__next__" ⟨[v], []⟩ := by unfold argsOk; kernel_rfl
theorem args_sit_iter (v : Value) : argsOk "set_iterator.__iter__" ⟨[v], []⟩ := by unfold argsOk; kernel_rfl
noncomputable abbrev sitO (first : Value) (i : Int) (a : Addr) (n ep : Nat) : Obj := { cls := .type "set_iterator", data := .fields #[first, .int i 0, .ref a, .int n 0, .int ep 0] }
section
variable {P : Program} {w : World} {A : Around} {E : Value -> Shared -> Prop} {s : Shared} {it a : Addr}
theorem self_sit {o : Obj} {Q : Value → Shared → Prop} (ho : s.heap.get? it = some o) (hc : o.cls = .type "set_iterator") (h : Q (.ref it) s) : wpAny (model P w) A (pyIter (.ref it)) Q E s := by
 have ty : s.TypeIs (.ref it) "set_iterator" := ⟨o, ho, hc⟩
 refine wpAny_pyIter_slot ty slot_sit_iter (wpAny_call_entry slot_sit_iter ty entry_sit_iter ?_ (args_sit_iter _))
 show wpAny _ _ (ret (.ref it)) _ _ s
 exact wpAny_pure ⟨_, rfl, "set_iterator", _, ty, slot_sit_next.lookup, h⟩
theorem next_sit {o : Obj} {Q : Option Value → Shared → Prop} (ho : s.heap.get? it = some o) (hc : o.cls = .type "set_iterator")
  (h : wpAny (model P w) A.in1 (Builtin.«set_iterator.__next__» ⟨[.ref it], []⟩) (fun fin s' => ∃ v, fin = .done (.ret v) ∧ Q (some v) s') (fun e s' => ∃ x oe, e = .ref x ∧ s'.heap.get? x = some oe ∧ oe.cls = .type "StopIteration" ∧ Q none s') s) :
  wpAny (model P w) A (pyNext (.ref it)) Q E s := by
 have ty : s.TypeIs (.ref it) "set_iterator" := ⟨o, ho, hc⟩
 unfold pyNext
 refine wpAny_bind (wpAny_attempt (wpAny_callSpecial?_slot (name := Str.ofString "__next__") ty slot_sit_next (wpAny_call_entry slot_sit_next ty entry_sit_next (wpAny_mono h (fun fin s' q => ?_) fun e s' q => ?_) (args_sit_next _))))
 ·obtain ⟨v, rfl, q⟩ := q
  exact ⟨v, rfl, wpAny_pure q⟩
 ·obtain ⟨x, oe, rfl, h1, h2, q⟩ := q
  exact wpAny_bind (wpAny_isInstance (T := "StopIteration") (b := true) ⟨oe, h1, h2⟩ isSubtype_stop (wpAny_pure q))
theorem stop_S {α : Type} {Q : α -> Shared -> Prop} (hh : A.handled = none)
  (k : ∀ (h' : Heap) (x : Addr) (oe : Obj), (∀ b o, s.heap.get? b = some o → h'.get? b = some o) → h'.get? x = some oe → oe.cls = .type "StopIteration" → E (.ref x) { s with heap := h' }) :
  wpAny (model P w) A (newExc (.type "StopIteration") [] >>= fun e => raiseNew e) Q E s := by
 refine wpAny_bind ?_
 simp only [newExc, newTuple]
 refine wpAny_bind (wpAny_newObj_type ?_ (by size_fits))
 refine wpAny_bind (m := firstArgMember _ _) (wpAny_of_eq (a := Value.none) (by first | rfl | (simp only [firstArgMember]; rfl)) (wpAny_newObj_type ?_ (by size_fits)))
 simp only [raiseNew]
 refine wpAny_bind (wpAny_handled ?_)
 rw [hh]
 exact wpAny_bind (wpAny_pure (wpAny_throw (k _ _ _ (fun b o e => Heap.get?_push_of_some _ (Heap.get?_push_of_some _ e)) (Heap.get?_push_size _ rfl) rfl)))
end
end Fx
set_option maxRecDepth 100000
namespace Fx
open PySem PySem.Spec
section
variable {P : Program} {w : World} {A : Around} {E : Value -> Shared -> Prop} {s : Shared} {it a : Addr}
structure SObj (h : Heap) (a : Addr) (es : Array (Int × Value)) (ep : Nat) (t : SetTable) : Prop where
 at_ : ∃ o, h.get? a = some o /\ o.ExactSet /\ o.data = .set es ep t
 fits : t.fits es.size = true
theorem SObj.keep {h h' : Heap} {es : Array (Int × Value)} {ep : Nat} {t : SetTable} (q : SObj h a es ep t) (k : ∀ o, h.get? a = some o -> h'.get? a = some o) : SObj h' a es ep t := by
 obtain ⟨⟨o, h1, h2⟩, f⟩ := q
 exact ⟨⟨o, k o h1, h2⟩, f⟩
theorem next_drawn {es : Array (Int × Value)} {ep : Nat} {t : SetTable} {tp : Addr} {pl : List Nat} {i p : Nat} {e : Int × Value} {Q : Option Value -> Shared -> Prop} (hI : s.heap.get? it = some (sitO (.ref tp) i a es.size ep)) (hO : SObj s.heap a es ep t)
  (hT : s.heap.IsTuple tp (pl.map fun q : Nat => Value.int q 0).toArray) (hp : pl[i]? = some p) (he : es[p]? = some e)
  (k : ∀ h', h'.get? it = some (sitO (.ref tp) (i + 1 : Nat) a es.size ep) -> Heap.SameBut it s.heap h' -> Q (some e.2) { s with heap := h' }) : wpAny (model P w) A (pyNext (.ref it)) Q E s := by
 obtain ⟨⟨o, h1, h2, h3⟩, hf⟩ := hO
 obtain ⟨ot, t1, t2, tn, t3⟩ := hT
 refine next_sit hI rfl ?_
 show wpAny _ _ (fieldsOf (.ref it) >>= _) _ _ s
 refine wpAny_bind (wpAny_fieldsOf hI rfl ?_)
 show wpAny _ _ (setEntries a >>= _) _ _ s
 refine wpAny_bind (wpAny_setEntries_of h1 h3 hf ?_)
 rw [if_neg (by simp)]
 show wpAny _ _ (seqItems? (.ref tp) >>= _) _ _ s
 refine wpAny_bind (wpAny_seqItems t1 t3 ?_)
 have pk : (pl.map fun q : Nat => Value.int q 0).toArray[((i : Nat) : Int).toNat]? = some (.int p 0) := by
  simp [hp]
 dsimp only
 rw [pk]
 show wpAny _ _ (setNextDrawn a ((p : Nat) : Int).toNat ((ep : Nat) : Int).toNat >>= _) _ _ s
 refine wpAny_bind ?_
 unfold setNextDrawn
 refine wpAny_bind (wpAny_setState_of h1 h3 hf ?_)
 dsimp only
 rw [if_neg (by simp)]
 have ek : es[((p : Nat) : Int).toNat]? = some (e.1, e.2) := by simpa using he
 rw [ek]
 refine wpAny_pure (wpAny_bind (wpAny_setField hI rfl (by simp) (wpAny_pure ⟨_, rfl, k _ ?_ (Heap.SameBut.update ..)⟩)))
 have z := Heap.get?_update_self (Obj.mapFields (·.setIfInBounds 1 (rawInt (((i : Nat) : Int) + 1)))) hI rfl
 rw [z]
 rfl
theorem end_drawn {es : Array (Int × Value)} {ep : Nat} {t : SetTable} {tp : Addr} {pl : List Nat} {i : Nat} {Q : Option Value -> Shared -> Prop} (hh : A.handled = none) (hI : s.heap.get? it = some (sitO (.ref tp) i a es.size ep)) (hO : SObj s.heap a es ep t)
  (hT : s.heap.IsTuple tp (pl.map fun q : Nat => Value.int q 0).toArray) (hp : pl[i]? = none)
  (k : ∀ h', Heap.ExtBut it s.heap h' -> Q none { s with heap := h' }) : wpAny (model P w) A (pyNext (.ref it)) Q E s := by
 obtain ⟨⟨o, h1, h2, h3⟩, hf⟩ := hO
 obtain ⟨ot, t1, t2, tn, t3⟩ := hT
 refine next_sit hI rfl ?_
 show wpAny _ _ (fieldsOf (.ref it) >>= _) _ _ s
 refine wpAny_bind (wpAny_fieldsOf hI rfl ?_)
 show wpAny _ _ (setEntries a >>= _) _ _ s
 refine wpAny_bind (wpAny_setEntries_of h1 h3 hf ?_)
 rw [if_neg (by simp)]
 show wpAny _ _ (seqItems? (.ref tp) >>= _) _ _ s
 refine wpAny_bind (wpAny_seqItems t1 t3 ?_)
 have pk : (pl.map fun q : Nat => Value.int q 0).toArray[((i : Nat) : Int).toNat]? = none := by
  simp [hp]
 dsimp only
 rw [pk]
 refine wpAny_bind (wpAny_setField hI rfl (by simp) ?_)
 have z := Heap.get?_update_self (Obj.mapFields (·.setIfInBounds 0 (rawInt 0))) hI rfl
 refine wpAny_bind (wpAny_setField z rfl (by simp [sitO, Obj.mapFields]) ?_)
 refine stop_S hh fun h' x oe kp hx hc => ⟨x, oe, rfl, hx, hc, k h' fun b ob hb e => kp b ob ?_⟩
 rw [Heap.get?_update_other _ _ (Ne.symm hb), Heap.get?_update_other _ _ (Ne.symm hb)]
 exact e
theorem next_slot {es : Array (Int × Value)} {ep : Nat} {t : SetTable} {sl nx i : Nat} {v : Value} {Q : Option Value -> Shared -> Prop} (hI : s.heap.get? it = some (sitO (.int sl 0) i a es.size ep)) (hO : SObj s.heap a es ep t)
  (hN : ∀ (A' : Around) (Q' : Option (Value × Nat) -> Shared -> Prop) (E' : Value -> Shared -> Prop), Q' (some (v, nx)) s -> wpAny (model P w) A' (setNext a sl i ep) Q' E' s)
  (k : ∀ h', h'.get? it = some (sitO (.int nx 0) (i + 1 : Nat) a es.size ep) -> Heap.SameBut it s.heap h' -> Q (some v) { s with heap := h' }) : wpAny (model P w) A (pyNext (.ref it)) Q E s := by
 obtain ⟨⟨o, h1, h2, h3⟩, hf⟩ := hO
 refine next_sit hI rfl ?_
 show wpAny _ _ (fieldsOf (.ref it) >>= _) _ _ s
 refine wpAny_bind (wpAny_fieldsOf hI rfl ?_)
 show wpAny _ _ (setEntries a >>= _) _ _ s
 refine wpAny_bind (wpAny_setEntries_of h1 h3 hf ?_)
 rw [if_neg (by simp)]
 show wpAny _ _ (setNext a ((sl : Nat) : Int).toNat ((i : Nat) : Int).toNat ((ep : Nat) : Int).toNat >>= _) _ _ s
 rw [Int.toNat_natCast, Int.toNat_natCast, Int.toNat_natCast]
 refine wpAny_bind (hN _ _ _ ?_)
 dsimp only
 refine wpAny_bind (wpAny_setField hI rfl (by simp) ?_)
 have z := Heap.get?_update_self (Obj.mapFields (·.setIfInBounds 0 (rawInt (nx : Int)))) hI rfl
 refine wpAny_bind (wpAny_setField z rfl (by simp [sitO, Obj.mapFields]) (wpAny_pure ⟨_, rfl, k _ ?_ ((Heap.SameBut.update ..).trans (Heap.SameBut.update ..))⟩))
 have z2 := Heap.get?_update_self (Obj.mapFields (·.setIfInBounds 1 (rawInt (((i : Nat) : Int) + 1)))) z rfl
 rw [z2]
 rfl
theorem end_slot {es : Array (Int × Value)} {ep : Nat} {t : SetTable} {sl i : Nat} {Q : Option Value -> Shared -> Prop} (hh : A.handled = none) (hI : s.heap.get? it = some (sitO (.int sl 0) i a es.size ep)) (hO : SObj s.heap a es ep t)
  (hN : ∀ (A' : Around) (Q' : Option (Value × Nat) -> Shared -> Prop) (E' : Value -> Shared -> Prop), Q' none s -> wpAny (model P w) A' (setNext a sl i ep) Q' E' s)
  (k : ∀ h', Heap.ExtBut it s.heap h' -> Q none { s with heap := h' }) : wpAny (model P w) A (pyNext (.ref it)) Q E s := by
 obtain ⟨⟨o, h1, h2, h3⟩, hf⟩ := hO
 refine next_sit hI rfl ?_
 show wpAny _ _ (fieldsOf (.ref it) >>= _) _ _ s
 refine wpAny_bind (wpAny_fieldsOf hI rfl ?_)
 show wpAny _ _ (setEntries a >>= _) _ _ s
 refine wpAny_bind (wpAny_setEntries_of h1 h3 hf ?_)
 rw [if_neg (by simp)]
 show wpAny _ _ (setNext a ((sl : Nat) : Int).toNat ((i : Nat) : Int).toNat ((ep : Nat) : Int).toNat >>= _) _ _ s
 rw [Int.toNat_natCast, Int.toNat_natCast, Int.toNat_natCast]
 refine wpAny_bind (hN _ _ _ ?_)
 dsimp only
 refine wpAny_bind (wpAny_setField hI rfl (by simp) ?_)
 refine stop_S hh fun h' x oe kp hx hc => ⟨x, oe, rfl, hx, hc, k h' fun b ob hb e => kp b ob ?_⟩
 rw [Heap.get?_update_other _ _ (Ne.symm hb)]
 exact e
theorem setNext_T {es : Array (Int × Value)} {ep : Nat} {t : SetTable} {sl i : Nat} (hO : SObj s.heap a es ep t) (bt : byT w = true) {Q : Option (Value × Nat) -> Shared -> Prop} (q : Q (((pickOrder (w.params.setOrder a ep) es)[i]?).map fun e => (e.2, sl)) s) :
  wpAny (model P w) A (setNext a sl i ep) Q E s := by
 obtain ⟨⟨o, h1, h2, h3⟩, hf⟩ := hO
 unfold setNext
 refine wpAny_bind (wpAny_setState_of h1 h3 hf ?_)
 dsimp only
 unfold setsByText
 refine wpAny_bind (wpAny_bind (wpAny_askSetting (wpAny_pure ?_)))
 split
 ·rw [if_neg (by simp)]
  unfold setWalk setsByText
  refine wpAny_bind (wpAny_bind (wpAny_setState_of h1 h3 hf ?_))
  dsimp only
  refine wpAny_bind (wpAny_bind (wpAny_askSetting (wpAny_pure ?_)))
  split
  ·exact wpAny_bind (wpAny_askSetting (wpAny_pure (wpAny_pure q)))
  ·rename_i c; exact absurd bt c
 ·rename_i c; exact absurd bt c
theorem setNext_S {es : Array (Int × Value)} {ep : Nat} {t : SetTable} {sl i : Nat} (hO : SObj s.heap a es ep t) (bt : byT w = false) (le : es.size <= 1) (ld : t.led = true) {Q : Option (Value × Nat) -> Shared -> Prop}
  (q : Q (match es[SetTable.below t.place sl]?, t.place[SetTable.below t.place sl]? with | some (_, x), some j => some (x, j + 1) | _, _ => none) s) :
  wpAny (model P w) A (setNext a sl i ep) Q E s := by
 obtain ⟨⟨o, h1, h2, h3⟩, hf⟩ := hO
 unfold setNext
 refine wpAny_bind (wpAny_setState_of h1 h3 hf ?_)
 dsimp only
 unfold setsByText
 refine wpAny_bind (wpAny_bind (wpAny_askSetting (wpAny_pure ?_)))
 split
 ·rename_i c
  have c : byT w = true := c
  rw [bt] at c; cases c
 ·split
  ·rename_i c
   have c : (!t.plain && decide (es.size > 1)) = true := c
   simp at c
   omega
  ·have m : ∀ (Q' : Unit → Shared → Prop), Q' () s → wpAny (model P w) A (if (!t.led && !es.isEmpty) = true then unsupported "set:maker-not-led" else pure ()) Q' E s := fun Q' q' => by
    rw [if_neg (by simp [ld])]; exact wpAny_pure q'
   exact wpAny_bind (m _ (wpAny_pure q))
end
end Fx
set_option maxRecDepth 100000
namespace Fx
open PySem PySem.Spec
section
variable {P : Program} {w : World} {A : Around} {E : Value -> Shared -> Prop} {s : Shared} {a : Addr}
noncomputable def Ready (P : Program) (w : World) (X : Addr -> Prop) (I : Addr) (vs : List Value) (h : Heap) : Prop :=
 ∃ (fp : List Addr) (St : Nat -> Heap -> Prop), (∀ A : Around, A.handled = none -> Walks P w A I fp [I] vs.length (fun i v => vs[i]? = some v) St) /\ St 0 h /\ ∀ b ∈ fp, b < h.objs.size /\ X b
theorem range_vals (es : Array (Int × Value)) : ((List.range es.size).map fun p => (es.getD p default).2) = es.toList.map (·.2) := by
 apply List.ext_getElem?
 intro i
 by_cases h : i < es.size
 ·simp [h, Array.getD]
 ·have h' : es.size <= i := Nat.not_lt.mp h
  simp [h']
theorem ready_drawn {es : Array (Int × Value)} {ep : Nat} {t : SetTable} {tp I : Addr} {pl : List Nat} {h : Heap} (hI : h.get? I = some (sitO (.ref tp) 0 a es.size ep)) (hO : SObj h a es ep t)
  (hT : h.IsTuple tp (pl.map fun q : Nat => Value.int q 0).toArray) (hp : pl.Perm (List.range es.size)) (n1 : a ≠ I) (n2 : tp ≠ I) {X : Addr -> Prop} (xI : X I) (xa : X a) (xt : X tp) : Ready P w X I (pl.map fun p => (es.getD p default).2) h := by
 refine ⟨[I, a, tp], fun i h => h.get? I = some (sitO (.ref tp) (i : Nat) a es.size ep) /\ SObj h a es ep t /\ h.IsTuple tp (pl.map fun q : Nat => Value.int q 0).toArray, fun A hh => ?_, ⟨hI, hO, hT⟩, fun b hb => ?_⟩
 ·refine ⟨fun b hb => (by simp at hb; simp [hb]), fun i h h' st k => ⟨k I (by simp) _ st.1, st.2.1.keep (k a (by simp)), ?_⟩, fun i s Q E hi st q => ?_, fun s Q E st q => ?_, fun i s Q E st q => self_sit st.1 rfl q⟩
  ·obtain ⟨o, ho, r⟩ := st.2.2; exact ⟨o, k tp (by simp) _ ho, r⟩
  ·rw [List.length_map] at hi
   have hpl : pl[i]? = some pl[i] := List.getElem?_eq_getElem hi
   have hm : pl[i] < es.size := by
    have := hp.mem_iff.mp (List.getElem_mem hi)
    simpa using this
   refine next_drawn st.1 st.2.1 st.2.2 hpl (e := es[pl[i]]) (by simp [hm]) fun h' c1 c2 => q _ h' s.toks ?_ ⟨c1, st.2.1.keep fun o e => (c2.2 a n1).trans e, ?_⟩ fun b o hb e => (c2.2 b fun z => hb (by simp [z])).trans e
   ·rw [List.getElem?_map, hpl]
    simp [Array.getD, hm]
   ·obtain ⟨o, ho, r⟩ := st.2.2; exact ⟨o, (c2.2 tp n2).trans ho, r⟩
  ·rw [List.length_map] at st
   exact end_drawn hh st.1 st.2.1 st.2.2 (List.getElem?_eq_none (Nat.le_refl _)) fun h' c => q h' s.toks fun b o hb e => c b o (fun z => hb (by simp [z])) e
 ·have : b = I \/ b = a \/ b = tp := by simpa using hb
  rcases this with rfl | rfl | rfl
  ·exact ⟨Heap.lt_size hI, xI⟩
  ·obtain ⟨⟨o, h1, _⟩, _⟩ := hO; exact ⟨Heap.lt_size h1, xa⟩
  ·obtain ⟨o, ho, _⟩ := hT; exact ⟨Heap.lt_size ho, xt⟩
theorem ready_text {es : Array (Int × Value)} {ep : Nat} {t : SetTable} {I : Addr} {h : Heap} (bt : byT w = true) (hI : h.get? I = some (sitO (.int 0 0) 0 a es.size ep)) (hO : SObj h a es ep t) (n1 : a ≠ I) {X : Addr -> Prop} (xI : X I) (xa : X a) :
  Ready P w X I ((pickOrder (w.params.setOrder a ep) es).toList.map (·.2)) h := by
 refine ⟨[I, a], fun i h => h.get? I = some (sitO (.int ((0 : Nat) : Int) 0) (i : Nat) a es.size ep) /\ SObj h a es ep t, fun A hh => ?_, ⟨hI, hO⟩, fun b hb => ?_⟩
 ·refine ⟨fun b hb => (by simp at hb; simp [hb]), fun i h h' st k => ⟨k I (by simp) _ st.1, st.2.keep (k a (by simp))⟩, fun i s Q E hi st q => ?_, fun s Q E st q => ?_, fun i s Q E st q => self_sit st.1 rfl q⟩
  ·rw [List.length_map, Array.length_toList] at hi
   refine next_slot st.1 st.2 (v := (pickOrder (w.params.setOrder a ep) es)[i].2) (nx := 0) (fun A' Q' E' q' => setNext_T st.2 bt (by rw [Array.getElem?_eq_getElem hi]; exact q')) fun h' c1 c2 => q _ h' s.toks ?_ ⟨c1, st.2.keep fun o e => (c2.2 a n1).trans e⟩ fun b o hb e => (c2.2 b fun z => hb (by simp [z])).trans e
   rw [List.getElem?_map, Array.getElem?_toList, Array.getElem?_eq_getElem hi]; rfl
  ·rw [List.length_map, Array.length_toList] at st
   exact end_slot hh st.1 st.2 (fun A' Q' E' q' => setNext_T st.2 bt (by rw [Array.getElem?_eq_none (Nat.le_refl _)]; exact q')) fun h' c => q h' s.toks fun b o hb e => c b o (fun z => hb (by simp [z])) e
 ·have : b = I \/ b = a := by simpa using hb
  rcases this with rfl | rfl
  ·exact ⟨Heap.lt_size hI, xI⟩
  ·obtain ⟨⟨o, h1, _⟩, _⟩ := hO; exact ⟨Heap.lt_size h1, xa⟩
theorem below_small (xs : Array Nat) (le : xs.size <= 1) : SetTable.below xs 0 = 0 /\ ∀ j, xs[0]? = some j -> SetTable.below xs (j + 1) = 1 := by
 obtain ⟨l⟩ := xs
 match l, le with
 | [], _ => exact ⟨rfl, fun j e => by simp at e⟩
 | [x], _ =>
  refine ⟨?_, fun j e => ?_⟩
  ·simp [SetTable.below, SetTable.below.go]
  ·have : x = j := by simpa using e
   subst this
   simp [SetTable.below, SetTable.below.go]
 | x :: y :: r, h => simp at h
theorem ready_small {es : Array (Int × Value)} {ep : Nat} {t : SetTable} {I : Addr} {h : Heap} (bt : byT w = false) (le : es.size <= 1) (ld : t.led = true) (hI : h.get? I = some (sitO (.int 0 0) 0 a es.size ep)) (hO : SObj h a es ep t) (n1 : a ≠ I) {X : Addr -> Prop} (xI : X I) (xa : X a) :
  Ready P w X I (es.toList.map (·.2)) h := by
 have ps : t.place.size = es.size := by
  have := hO.fits
  unfold SetTable.fits at this
  simp at this
  exact this.1
 obtain ⟨b0, b1⟩ := below_small t.place (by omega)
 refine ⟨[I, a], fun i h => (∃ sl : Nat, h.get? I = some (sitO (.int (sl : Int) 0) (i : Nat) a es.size ep) /\ SetTable.below t.place sl = i) /\ SObj h a es ep t, fun A hh => ?_, ⟨⟨0, hI, b0⟩, hO⟩, fun b hb => ?_⟩
 ·refine ⟨fun b hb => (by simp at hb; simp [hb]), fun i h h' st k => ?_, fun i s Q E hi st q => ?_, fun s Q E st q => ?_, fun i s Q E st q => ?_⟩
  ·obtain ⟨⟨sl, c1, c2⟩, c3⟩ := st
   exact ⟨⟨sl, k I (by simp) _ c1, c2⟩, c3.keep (k a (by simp))⟩
  ·obtain ⟨⟨sl, c1, c2⟩, c3⟩ := st
   rw [List.length_map, Array.length_toList] at hi
   have i0 : i = 0 := by omega
   subst i0
   have hpl : 0 < t.place.size := by omega
   refine next_slot c1 c3 (v := es[0].2) (nx := t.place[0] + 1) (fun A' Q' E' q' => setNext_S c3 bt le ld (by rw [c2, Array.getElem?_eq_getElem hi, Array.getElem?_eq_getElem hpl]; exact q')) fun h' d1 d2 => q _ h' s.toks ?_ ⟨⟨_, d1, b1 _ (Array.getElem?_eq_getElem hpl)⟩, c3.keep fun o e => (d2.2 a n1).trans e⟩ fun b o hb e => (d2.2 b fun z => hb (by simp [z])).trans e
   rw [List.getElem?_map, Array.getElem?_toList, Array.getElem?_eq_getElem hi]; rfl
  ·rw [List.length_map, Array.length_toList] at st
   obtain ⟨⟨sl, c1, c2⟩, c3⟩ := st
   exact end_slot hh c1 c3 (fun A' Q' E' q' => setNext_S c3 bt le ld (by rw [c2, Array.getElem?_eq_none (Nat.le_refl _)]; exact q')) fun h' c => q h' s.toks fun b o hb e => c b o (fun z => hb (by simp [z])) e
  ·obtain ⟨⟨sl, c1, c2⟩, c3⟩ := st
   exact self_sit c1 rfl q
 ·have : b = I \/ b = a := by simpa using hb
  rcases this with rfl | rfl
  ·exact ⟨Heap.lt_size hI, xI⟩
  ·obtain ⟨⟨o, h1, _⟩, _⟩ := hO; exact ⟨Heap.lt_size h1, xa⟩
end
end Fx
set_option maxRecDepth 100000
namespace Fx
open PySem PySem.Spec
section
variable {P : Program} {w : World} {A : Around} {E : Value -> Shared -> Prop} {s : Shared} {a : Addr} {ss : List Str}
theorem vals_strs {es : Array (Int × Value)} {vs : List Value} (hel : ElemsOf (PySem.strKind P w) es.toList) (hp : (es.toList.map fun e => PyProof.Rows.strOf e.2).Perm ss) (pv : vs.Perm (es.toList.map (·.2))) : ∃ ts, PyProof.Rows.StrsAre vs ts /\ ts.Perm ss := by
 refine ⟨vs.map PyProof.Rows.strOf, PyProof.Rows.strsAre_map vs fun v hv => ?_, ?_⟩
 ·obtain ⟨e, he, rfl⟩ := List.mem_map.mp (pv.mem_iff.mp hv)
  obtain ⟨x, t, q, _⟩ := elem_str hel e he
  exact ⟨x, t, q⟩
 ·refine (pv.map _).trans ?_
  rw [List.map_map]
  exact hp
theorem iter_setS {Q : Value -> Shared -> Prop} (hS : SetS P w (byT w) s.heap a ss)
  (k : ∀ (I : Addr) (vs : List Value) (ts : List Str) (h' : Heap) (dr : Drawn), (∀ b o, s.heap.get? b = some o -> h'.get? b = some o) -> s.heap.get? I = none -> I < h'.objs.size -> Ready P w (fun b => b = a \/ s.heap.get? b = none) I vs h' -> PyProof.Rows.StrsAre vs ts -> ts.Perm ss -> Q (.ref I) { s with heap := h', drawn := dr }) :
  wpAny (model P w) A (pyIter (.ref a)) Q E s := by
 obtain ⟨o, es, ep, t, ho, hex, hd, hel, hp, hnd, hb, hf, hpl, hled⟩ := hS
 have ty : s.TypeIs (.ref a) "set" := ⟨o, ho, hex.1⟩
 have hO : SObj s.heap a es ep t := ⟨⟨o, ho, hex, hd⟩, hf⟩
 have fresh : ∀ n, s.heap.objs.size <= n -> s.heap.get? n = none := fun n hn => by
  cases z : s.heap.get? n with
  | none => rfl
  | some o => exact absurd (Heap.lt_size z) (Nat.not_lt.mpr hn)
 have al : a < s.heap.objs.size := Heap.lt_size ho
 refine wpAny_pyIter_slot ty PySem.F.slot_set_iter (wpAny_call_entry PySem.F.slot_set_iter ty entry_set_iter' ?_ (PySem.F.args_set_iter_1 _))
 unfold Builtin.«frozenset.__iter__» Builtin.Frozenset.slot0 slotArgs Builtin.Frozenset.addrOf Builtin.Frozenset.sizeOf
 refine wpAny_bind (wpAny_pure ?_)
 refine wpAny_bind (wpAny_bind (wpAny_setEntries_of ho hd hf (wpAny_pure ?_)))
 refine wpAny_bind ?_
 unfold setDrawn setsByText
 refine wpAny_bind (wpAny_setState_of ho hd hf ?_)
 dsimp only
 refine wpAny_bind (wpAny_bind (wpAny_askSetting (wpAny_pure (wpAny_pure ?_))))
 split
 ·rename_i c
  have c : (!byT w && (!t.plain && decide (es.size > 1))) = true := c
  refine wpAny_bind (wpAny_drawOrder _ _ _ _ (by simp) fun pl dr pp => ?_)
  have ln : pl.length = es.size := by rw [pp.length_eq, List.length_range]
  have lz : (pl.map fun i : Nat => rawInt i).length <= sizeLine := by
   rw [List.length_map, ln]; exact fits_of_scanBound hb
  refine wpAny_bind (wpAny_newTuple ?_ lz)
  have kp1 : ∀ b o, s.heap.get? b = some o → (s.heap.push { cls := .type "tuple", data := .seq (pl.map fun i : Nat => rawInt i).toArray }).get? b = some o := fun b o e => Heap.get?_push_of_some _ e
  obtain ⟨o1, q1, q2, q3⟩ : ∃ o1, (s.heap.push { cls := .type "tuple", data := .seq (pl.map fun i : Nat => rawInt i).toArray }).get? a = some o1 ∧ o1.ExactSet ∧ o1.data = .set es ep t := ⟨o, kp1 _ _ ho, hex, hd⟩
  show wpAny _ _ (setEpoch a >>= _) _ _ _
  refine wpAny_bind (wpAny_setEpoch_of q1 q3 hf ?_)
  refine wpAny_bind (wpAny_newObj_type (wpAny_pure ⟨_, rfl, "set_iterator", _, ⟨_, Heap.get?_push_size _ rfl, rfl⟩, slot_sit_next.lookup, ?_⟩))
  have sz : (s.heap.push { cls := .type "tuple", data := .seq (pl.map fun i : Nat => rawInt i).toArray }).objs.size = s.heap.objs.size + 1 := by rw [Heap.size_push]
  obtain ⟨ts, s1, s2⟩ := vals_strs (P := P) (w := w) (vs := pl.map fun p => (es.getD p default).2) hel hp (by rw [<- range_vals]; exact pp.map _)
  refine k _ _ ts _ dr (fun b o e => Heap.get?_push_of_some _ (kp1 b o e)) (fresh _ (by rw [sz]; exact Nat.le_succ _)) (Heap.lt_size (Heap.get?_push_size _ rfl)) (ready_drawn (tp := s.heap.objs.size) (Heap.get?_push_size _ rfl) (hO.keep fun o e => Heap.get?_push_of_some _ (kp1 _ o e)) ⟨_, Heap.get?_push_of_some _ (Heap.get?_push_size _ rfl), rfl, 0, rfl⟩ pp ?_ ?_ (.inr (fresh _ (by rw [sz]; exact Nat.le_succ _))) (.inl rfl) (.inr (fresh _ (Nat.le_refl _)))) s1 s2
  ·rw [sz]; exact Nat.ne_of_lt (Nat.lt_succ_of_lt al)
  ·rw [sz]; exact Nat.ne_of_lt (Nat.lt_succ_self _)
 ·rename_i c
  have c : ¬ (!byT w && (!t.plain && decide (es.size > 1))) = true := c
  refine wpAny_bind (wpAny_pure ?_)
  show wpAny _ _ (setEpoch a >>= _) _ _ _
  refine wpAny_bind (wpAny_setEpoch_of ho hd hf ?_)
  refine wpAny_bind (wpAny_newObj_type (wpAny_pure ⟨_, rfl, "set_iterator", _, ⟨_, Heap.get?_push_size _ rfl, rfl⟩, slot_sit_next.lookup, ?_⟩))
  cases bt : byT w with
  | true =>
   obtain ⟨ts, s1, s2⟩ := vals_strs (P := P) (w := w) (vs := (pickOrder (w.params.setOrder a ep) es).toList.map (·.2)) hel hp ((pickOrder_perm _ es).map _)
   exact k _ _ ts _ s.drawn (fun b o e => Heap.get?_push_of_some _ e) (fresh _ (Nat.le_refl _)) (Heap.lt_size (Heap.get?_push_size _ rfl)) (ready_text bt (Heap.get?_push_size _ rfl) (hO.keep fun o e => Heap.get?_push_of_some _ e) (Nat.ne_of_lt al) (.inr (fresh _ (Nat.le_refl _))) (.inl rfl)) s1 s2
  | false =>
   have le : es.size <= 1 := by
    rw [bt] at c
    cases pl : t.plain with
    | true => have := hpl pl; omega
    | false => rw [pl] at c; simp at c; exact c
   obtain ⟨ts, s1, s2⟩ := vals_strs (P := P) (w := w) (vs := es.toList.map (·.2)) hel hp (List.Perm.refl _)
   exact k _ _ ts _ s.drawn (fun b o e => Heap.get?_push_of_some _ e) (fresh _ (Nat.le_refl _)) (Heap.lt_size (Heap.get?_push_size _ rfl)) (ready_small bt le (hled bt) (Heap.get?_push_size _ rfl) (hO.keep fun o e => Heap.get?_push_of_some _ e) (Nat.ne_of_lt al) (.inr (fresh _ (Nat.le_refl _))) (.inl rfl)) s1 s2
end
end Fx
set_option maxRecDepth 100000
namespace Fx
open PySem PySem.Spec
section
variable {P : Program} {w : World} {A : Around} {E : Value -> Shared -> Prop} {s : Shared} {a : Addr} {ss : List Str}
theorem hint_set {Q : Bool → Shared → Prop} (ty : s.TypeIs (.ref a) "set") (q : Q false s) : wpAny (model P w) A (Builtin.List.listLengthHint (.ref a)) Q E s := by
 have sp : splitId "set.__len__" = some ("set", "__len__") := by decide +kernel
 have su := sub_set_self
 unfold Builtin.List.listLengthHint
 refine wpAny_bind (wpAny_specialOf ty PySem.F.slot_set_len.lookup ?_)
 dsimp only
 rw [sp]
 dsimp only
 refine wpAny_bind (wpAny_isInstance ty su ?_)
 refine wpAny_ite_split (fun z => absurd z (by decide)) fun _ => wpAny_ite_split (fun _ => ?_) fun z => absurd (by decide +kernel) z
 exact wpAny_bind (wpAny_typeOf ty (wpAny_pure q))
theorem extend_setS {R : Result → Shared → Prop} (hh : A.handled = none) (hS : SetS P w (byT w) s.heap a ss) (S : Addr) (nS : S ≠ a) (res : Value) (c0 : Nat) (hL : s.heap.get? S = some { cls := .type "list", data := .seq #[] c0 })
  (hR : ∀ h' tk dr (acc : Array Value) c' (ts : List Str), (∀ b o, b ≠ S → s.heap.get? b = some o → h'.get? b = some o) → h'.get? S = some { cls := .type "list", dict := none, data := .seq acc c', slots := #[] } → PyProof.Rows.StrsAre acc.toList ts → ts.Perm ss → R (.ok (.ret res)) { s with heap := h', toks := tk, drawn := dr }) :
  wpAny (model P w) A.in1 (Builtin.List.listExtendWith (.ref S) (.ref a) res)
   (fun fin s' => match fin with | .done f => R (.ok f) s' | .again c' => c'.quiet = true /\ codeAny (model P w) A c' R s') (fun e s' => R (.error e) s') s := by
 have ty : s.TypeIs (.ref a) "set" := by
  obtain ⟨o, es, ep, t, ho, hex, _⟩ := hS
  exact ⟨o, ho, hex.1⟩
 have ssz : ss.length <= sizeLine := by
  obtain ⟨o, es, ep, t, ho, hex, hd, hel, hp, hnd, hb, _⟩ := hS
  have := hp.length_eq
  rw [List.length_map, Array.length_toList] at this
  rw [<- this]; exact fits_of_scanBound hb
 unfold Builtin.List.listExtendWith
 refine wpAny_bind (wpAny_typeOf (T := "set") ty ?_)
 have h1 : Builtin.List.listSameRef (.ref S) (.ref a) = false := by simp [Builtin.List.listSameRef, nS]
 have h2 : (Value.type "set" == Value.type "list") = false := by decide
 have h3 : (Value.type "set" == Value.type "tuple") = false := by decide
 simp only [h1, h2, h3, Bool.or_false, Bool.false_eq_true, if_false]
 refine wpAny_bind (iter_setS hS fun I vs ts h' dr kp fI ltI rd sa pp => ?_)
 obtain ⟨fp, St, W, st, lf⟩ := rd
 have nI : S ≠ I := fun z => by rw [<- z, hL] at fI; cases fI
 have vl : vs.length = ss.length := by
  have := sa.strs
  have q : vs.length = ts.length := by rw [<- this, List.length_map]
  rw [q, pp.length_eq]
 have hSf : S ∉ fp := fun m => by
  rcases (lf S m).2 with z | z
  ·exact nS z
  ·rw [hL] at z; cases z
 have key : ∀ (h : Heap) (c1 tk : Nat), St 0 h → (∀ b o, b ≠ S → s.heap.get? b = some o → h.get? b = some o) → h.get? S = some { cls := .type "list", data := .seq #[] c1 } →
   codeAny (model P w) A (.builtin "list.extend.loop" ⟨[.ref S, .ref I, res], []⟩) R { s with heap := h, toks := tk, drawn := dr } := fun h c1 tk st0 k0 l0 => by
  refine codeAny_extend_loopS (W A.in1 hh).toS (by rw [vl]; exact ssz) S hSf res vs.length 0 _ #[] c1 rfl (Nat.zero_le _) st0 l0 (ItemsOf.nil _) fun s' acc c' hm l' ia => ?_
  have ev : acc.toList = vs := by
   apply List.ext_getElem?
   intro j
   rw [Array.getElem?_toList]
   by_cases hj : j < acc.size
   ·rw [ia.2 j _ (Array.getElem?_eq_getElem hj), Array.getElem?_eq_getElem hj]
   ·rw [Array.getElem?_eq_none (Nat.not_lt.mp hj), List.getElem?_eq_none (by have := ia.1; omega)]
  rw [Moved.eq_with hm]
  refine hR s'.heap s'.toks dr acc c' ts (fun b o hb e => hm.heap b o (fun m => ?_) (k0 b o hb e)) l' (by rw [ev]; exact sa) pp
  rcases List.mem_cons.mp m with z | m
  ·exact hb z
  ·rw [List.mem_singleton.mp m, fI] at e; cases e
 have l1 : h'.get? S = some { cls := .type "list", data := .seq #[] c0 } := kp _ _ hL
 refine wpAny_bind (wpAny_holding (hint_set (s := { s with heap := h', drawn := dr }) ?_ ?_))
 ·obtain ⟨o, ho, hc⟩ := ty
  exact ⟨o, kp _ _ ho, hc⟩
 refine wpAny_ite_split (fun _ => ?_) (fun _ => wpAny_pure ⟨plainId_quiet PySem.F.plain_extend_loop _, key _ c0 _ st (fun b o _ e => kp _ _ e) l1⟩)
 refine wpAny_bind (wpAny_rule (wpAny_bind ?_))
 show wpAny _ _ (updateSeq S (fun z => z.push Value.none) >>= fun _ => updateSeq S fun z => z.pop) _ _ _
 refine wpAny_bind (wpAny_updateSeq l1 rfl ?_)
 have l2 := Heap.get?_update_self (Obj.mapSeq fun z => z.push Value.none) l1 rfl
 refine wpAny_updateSeq (hz := by seq_fits) l2 rfl ?_
 have l3 := Heap.get?_update_self (Obj.mapSeq fun z => z.pop) l2 rfl
 refine wpAny_pure ⟨plainId_quiet PySem.F.plain_extend_loop _, key _ _ _ ?_ (fun b o hb e => ?_) l3⟩
 ·refine (W A.in1 hh).frame 0 _ _ st fun b hb o e => ?_
  have nb : S ≠ b := fun z => hSf (by rw [z]; exact hb)
  exact (Heap.get?_update_other _ _ nb).trans ((Heap.get?_update_other _ _ nb).trans e)
 ·exact (Heap.get?_update_other _ _ (Ne.symm hb)).trans ((Heap.get?_update_other _ _ (Ne.symm hb)).trans (kp _ _ e))
end
end Fx
set_option maxRecDepth 100000
namespace Fx
open PySem PySem.Spec PyProof.Rows
section
variable {P : Program} {w : World} {A : Around} {E : Value -> Shared -> Prop} {s : Shared} {a : Addr} {ss : List Str}
theorem collect_setS {Q : List Value -> Shared -> Prop} (hh : A.handled = none) (hS : SetS P w (byT w) s.heap a ss)
  (k : ∀ (h' : Heap) (tk : Nat) (dr : Drawn) (vs : List Value) (ts : List Str), (∀ b o, s.heap.get? b = some o -> h'.get? b = some o) -> StrsAre vs ts -> ts.Perm ss -> Q vs { s with heap := h', toks := tk, drawn := dr }) :
  wpAny (model P w) A (collect (.ref a)) Q E s := by
 have al : a < s.heap.objs.size := by
  obtain ⟨o, es, ep, t, ho, _⟩ := hS
  exact Heap.lt_size ho
 unfold collect
 refine wpAny_bind (wpAny_runValue (codeAny_builtin PySem.F.entry_proto_collect ?_))
 rw [Around.under_plainId PySem.F.plain_proto_collect _]
 show wpAny _ A.in1 (newList [] >>= fun z => again (.builtin "list.__iadd__" ⟨[z, .ref a], []⟩)) _ _ s
 refine wpAny_bind (wpAny_newObj_type (wpAny_pure ⟨plainId_quiet PySem.F.plain_list_iadd _, codeAny_builtin PySem.F.entry_list_iadd ?_⟩))
 rw [Around.under_plainId PySem.F.plain_list_iadd _]
 have l0 : (s.heap.push { cls := .type "list", data := .seq ([] : List Value).toArray }).get? s.heap.objs.size = some { cls := .type "list", data := .seq #[] } := Heap.get?_push_size _ rfl
 show wpAny _ A.in1 (Builtin.List.listExtendWith (.ref s.heap.objs.size) (.ref a) (.ref s.heap.objs.size)) _ _ _
 have key := extend_setS (A := A) (s := { s with heap := s.heap.push { cls := .type "list", data := .seq ([] : List Value).toArray } })
  (R := fun (q : Result) (s' : Shared) => ∃ (h' : Heap) (tk : Nat) (dr : Drawn) (acc : Array Value) (c' : Nat) (ts : List Str), q = .ok (.ret (.ref s.heap.objs.size)) /\ s' = { s with heap := h', toks := tk, drawn := dr } /\
   (∀ b o, s.heap.get? b = some o → h'.get? b = some o) ∧ h'.get? s.heap.objs.size = some { cls := .type "list", dict := none, data := .seq acc c', slots := #[] } ∧ StrsAre acc.toList ts ∧ ts.Perm ss)
  hh (hS.keep fun b o e => Heap.get?_push_of_some _ e) s.heap.objs.size (Nat.ne_of_gt al) (.ref s.heap.objs.size) 0 l0
  (fun h' tk dr acc c' ts c1 c2 c3 c4 => ⟨h', tk, dr, acc, c', ts, rfl, rfl, fun b o e => c1 b o (Nat.ne_of_lt (Heap.lt_size e)) (Heap.get?_push_of_some _ e), c2, c3, c4⟩)
 refine wpAny_mono key (fun fin s' x => ?_) fun e s' x => ?_
 ·cases fin with
  | done f =>
   obtain ⟨h', tk, dr, acc, c', ts, e, rfl, c1, c2, c3, c4⟩ := x
   cases e
   show wpAny _ A (load s.heap.objs.size >>= _) _ _ _
   exact wpAny_bind (wpAny_load c2 (wpAny_pure (k h' tk dr acc.toList ts c1 c3 c4)))
  | again c₁ =>
   refine ⟨x.1, codeAny_mono x.2 fun q s₂ y => ?_⟩
   obtain ⟨h', tk, dr, acc, c', ts, rfl, rfl, c1, c2, c3, c4⟩ := y
   show wpAny _ A (load s.heap.objs.size >>= _) _ _ _
   exact wpAny_bind (wpAny_load c2 (wpAny_pure (k h' tk dr acc.toList ts c1 c3 c4)))
 ·obtain ⟨_, _, _, _, _, _, e', _⟩ := x
  cases e'
theorem sortS_eq_of_perm {l m : List Str} (h : l.Perm m) : sortS l = sortS m := by
 refine List.Perm.eq_of_pairwise (le := fun a b => ltS b a = false) (fun a b _ _ p q => ?_) (sortS_pw l) (sortS_pw m) ((sortS_perm l).trans (h.trans (sortS_perm m).symm))
 unfold ltS at p q
 rw [decide_eq_false_iff_not] at p q
 have := List.le_antisymm (List.not_lt.mp p) (List.not_lt.mp q)
 obtain ⟨⟨la⟩⟩ := a
 obtain ⟨⟨lb⟩⟩ := b
 cases this
 rfl
theorem sorted_setS {Q : Value -> Shared -> Prop} (hh : A.handled = none) (hS : SetS P w (byT w) s.heap a ss) (h64 : ss.length < 64)
  (k : ∀ (h1 h2 : Heap) (tk : Nat) (dr : Drawn) (out : Array Value) (e : Nat), (∀ b o', s.heap.get? b = some o' → h1.get? b = some o') → (∀ b o', h1.get? b = some o' → h2.get? b = some o') → h2.get? h1.objs.size = some (seqObj "list" out e) → StrsAre out.toList (sortS ss) →
   Q (.ref h1.objs.size) { s with heap := h2, toks := tk, drawn := dr }) :
  wpAny (model P w) A (call (.builtin "sorted") [.ref a]) Q E s := by
 refine Calls.call_function_entry kind_sorted plain_sorted entry_sorted (args_sorted1 _) ?_
 unfold Builtin.«sorted»
 refine wpAny_bind (m := checkCount "sorted" 1 1 _) (wpAny_pure (wpAny_bind (collect_setS (A := A.in1) hh hS fun h1 tk dr us ts kp sa pp => ?_)))
 have ul : us.length = ss.length := by
  have q := sa.strs
  rw [<- pp.length_eq, <- q, List.length_map]
 refine wpAny_bind (wpAny_newList ?_ (by rw [ul, sizeLine_eq]; omega))
 have at1 : (h1.push (seqObj "list" us.toArray 0)).get? h1.objs.size = some (seqObj "list" us.toArray 0) := Heap.get?_push_size _ rfl
 refine wpAny_bind (wpAny_holding (wpAny_call_entry slot_list_sort ⟨_, at1, rfl⟩ entry_list_sort (list_sort_treeK strKind_oneLt at1 sa.keysOf (fun v1 v2 r e => keyKind_strs (by rw [<- e]; exact sa)) (by rw [ul]; exact h64) fun st hp hs => ⟨_, rfl, ?_⟩) (args_list_sort _)))
 obtain ⟨t', q1, q2, q3⟩ := sorted_out_str sa hp hs
 obtain ⟨e, he⟩ := sortedHeap_at (out := (arrOf st).map (·.2)) at1
 rw [sortS_uniq q2 q3, sortS_eq_of_perm pp] at q1
 refine wpAny_pure ⟨_, rfl, k h1 _ tk dr _ e kp (fun b o' hb => ?_) he q1⟩
 have lt : b < h1.objs.size := Heap.lt_size hb
 rw [sortedHeap_old (Nat.ne_of_lt lt) (by rw [size_push']; exact Nat.lt_succ_of_lt lt)]
 exact Heap.get?_push_of_some _ hb
end
end Fx
namespace Fx
open PySem PySem.SetTable
noncomputable def lp (m : Nat) (q : Nat × Nat) : Nat × Nat := leap m q.1 q.2
noncomputable def lps (m : Nat) : Nat -> Nat × Nat -> Nat × Nat
 | 0, q => q
 | n + 1, q => lps m n (lp m q)
theorem lps_add (m : Nat) : ∀ (a b : Nat) (q : Nat × Nat), lps m (a + b) q = lps m b (lps m a q)
 | 0, b, q => by rw [Nat.zero_add]; rfl
 | a + 1, b, q => by rw [Nat.add_right_comm]; exact lps_add m a b (lp m q)
theorem lps_2 (m : Nat) : ∀ (n : Nat) (q : Nat × Nat), (lps m n q).2 = q.2 / 32 ^ n
 | 0, q => by simp [lps]
 | n + 1, q => by
  rw [lps, lps_2 m n]
  show q.2 / 32 / 32 ^ n = _
  rw [Nat.div_div_eq_div_mul, Nat.pow_succ, Nat.mul_comm]
theorem lps_1 (m : Nat) : ∀ (n : Nat) (q : Nat × Nat), q.1 <= m -> (lps m n q).1 <= m
 | 0, q, h => h
 | n + 1, q, h => lps_1 m n (lp m q) (Nat.le_of_lt_succ (Nat.mod_lt _ (Nat.succ_pos m)))
noncomputable def Full (m : Nat) : Prop := ∀ i j, i <= m -> j <= m -> ∃ n, n <= m /\ (lps m n (i, 0)).1 = j
noncomputable def orb (m : Nat) : Nat -> Nat -> List Nat
 | 0, _ => []
 | n + 1, i => i :: orb m n ((i * 5 + 1) % (m + 1))
theorem lps_orb (m : Nat) : ∀ (n : Nat) (i : Nat), ∀ j ∈ orb m n i, ∃ k, k < n /\ (lps m k (i, 0)).1 = j
 | 0, i, j, h => by cases h
 | n + 1, i, j, h => by
  rw [orb, List.mem_cons] at h
  rcases h with rfl | h
  ·exact ⟨0, Nat.succ_pos _, rfl⟩
  ·obtain ⟨k, hk, e⟩ := lps_orb m n _ j h
   refine ⟨k + 1, Nat.succ_lt_succ hk, ?_⟩
   have z : lp m (i, 0) = ((i * 5 + 1) % (m + 1), 0) := by show leap m i 0 = _; unfold leap; simp
   rw [lps, z]; exact e
theorem full_of {m : Nat} (h : (List.range (m + 1)).all (fun j => (orb m (m + 1) 0).contains j) = true) (hz : lps m (m + 1) (0, 0) = (0, 0)) : Full m := fun i j hi hj => by
 rw [List.all_eq_true] at h
 have at0 : ∀ x, x <= m -> ∃ k, k <= m /\ lps m k (0, 0) = (x, 0) := fun x hx => by
  obtain ⟨k, hk, e⟩ := lps_orb m (m + 1) 0 x (List.contains_iff_mem.mp (h x (List.mem_range.mpr (by omega))))
  have e2 : (lps m k (0, 0)).2 = 0 := by rw [lps_2]; simp
  exact ⟨k, by omega, Prod.ext e e2⟩
 obtain ⟨a, ha, ea⟩ := at0 i hi
 obtain ⟨b, hb, eb⟩ := at0 j hj
 by_cases c : a <= b
 ·refine ⟨b - a, by omega, ?_⟩
  rw [<- ea, <- lps_add, show a + (b - a) = b by omega, eb]
 ·refine ⟨m + 1 - a + b, by omega, ?_⟩
  rw [<- ea, <- lps_add, show a + (m + 1 - a + b) = (m + 1) + b by omega, lps_add, hz, eb]
theorem full7 : Full 7 := full_of (by decide +kernel) (by decide +kernel)
theorem full15 : Full 15 := full_of (by decide +kernel) (by decide +kernel)
theorem full31 : Full 31 := full_of (by decide +kernel) (by decide +kernel)
theorem full63 : Full 63 := full_of (by decide +kernel) (by decide +kernel)
theorem full127 : Full 127 := full_of (by decide +kernel) (by decide +kernel)
theorem bits_lt (h : Int) : bits h < 2 ^ 64 := by
 unfold bits
 have h1 := Int.emod_nonneg h (show (2 ^ 64 : Int) ≠ 0 by decide)
 have h2 := Int.emod_lt_of_pos h (show (0 : Int) < 2 ^ 64 by decide)
 omega
theorem meets {m : Nat} (F : Full m) {i p j : Nat} (hi : i <= m) (hp : p < 2 ^ 64) (hj : j <= m) : ∃ n, n < turns m /\ (lps m n (i, p)).1 = j := by
 have e2 : (lps m 13 (i, p)).2 = 0 := by
  rw [lps_2]
  exact Nat.div_eq_of_lt (Nat.lt_of_lt_of_le hp (by decide))
 have e1 := lps_1 m 13 (i, p) hi
 obtain ⟨n, hn, e⟩ := F _ j e1 hj
 refine ⟨13 + n, by unfold turns; omega, ?_⟩
 rw [lps_add]
 have : lps m 13 (i, p) = ((lps m 13 (i, p)).1, 0) := by rw [<- e2]
 rw [this]; exact e
theorem free_ok {m : Nat} {ow : Array (Option Nat)} : ∀ (fuel i p : Nat), (∃ n, n < fuel /\ ow.getD (lps m n (i, p)).1 (some 0) = none) -> ∃ j, layClean.free m ow fuel i p = some j /\ ow.getD j (some 0) = none
 | 0, i, p, ⟨n, h, _⟩ => absurd h (Nat.not_lt_zero n)
 | fuel + 1, i, p, ⟨n, h, e⟩ => by
  unfold layClean.free
  cases q : List.find? (fun k => (ow.getD (i + k) (some 0)).isNone) (List.range (runEnd m i + 1 - i)) with
  | some k =>
   refine ⟨i + k, rfl, ?_⟩
   have := List.find?_some q
   exact Option.isNone_iff_eq_none.mp this
  | none =>
   dsimp only
   cases n with
   | zero =>
    have := List.find?_eq_none.mp q 0 (List.mem_range.mpr (by unfold runEnd; split <;> omega))
    rw [Nat.add_zero] at this
    have e' : ow.getD i (some 0) = none := e
    rw [e'] at this
    exact absurd rfl this
   | succ n =>
    exact free_ok fuel _ _ ⟨n, Nat.lt_of_succ_lt_succ h, e⟩
end Fx
namespace Fx
open PySem PySem.SetTable
noncomputable def stF (m : Nat) (acc : Option (Array (Option Nat) × Nat)) (h : Int) : Option (Array (Option Nat) × Nat) :=
 acc.bind fun q => (layClean.free m q.1 (turns m) (bits h % (m + 1)) (bits h)).bind fun j => some (q.1.setIfInBounds j (some q.2), q.2 + 1)
theorem lay_eq (m : Nat) (hs : Array Int) : layClean m hs = (hs.foldl (stF m) (some (Array.replicate (m + 1) none, 0))).map (·.1) := rfl
theorem fmS (x : Nat) (r : List (Option Nat)) : List.filterMap id (some x :: r) = x :: List.filterMap id r := rfl
theorem fmN (r : List (Option Nat)) : List.filterMap id (none :: r) = List.filterMap id r := rfl
noncomputable def LayI (m : Nat) (ow : Array (Option Nat)) (k : Nat) : Prop := ow.size = m + 1 /\ (ow.toList.filterMap id).Perm (List.range k)
theorem fm_all : ∀ l : List (Option Nat), (∀ x ∈ l, x ≠ none) -> (l.filterMap id).length = l.length
 | [], _ => rfl
 | none :: r, h => absurd rfl (h none (by simp))
 | some x :: r, h => by
  rw [fmS, List.length_cons, List.length_cons, fm_all r fun y hy => h y (by simp [hy])]
theorem fm_set : ∀ (l : List (Option Nat)) (j k : Nat), l[j]? = some none -> ((l.set j (some k)).filterMap id).Perm (k :: l.filterMap id)
 | [], j, k, h => by simp at h
 | x :: r, 0, k, h => by
  have e : x = none := by simpa using h
  subst e
  simp
 | none :: r, j + 1, k, h => by
  rw [List.set_cons_succ, fmN, fmN]
  exact fm_set r j k (by simpa using h)
 | some x :: r, j + 1, k, h => by
  rw [List.set_cons_succ, fmS, fmS]
  exact ((fm_set r j k (by simpa using h)).cons x).trans (List.Perm.swap k x _)
theorem getD_none {ow : Array (Option Nat)} {j : Nat} (h : ow.getD j (some 0) = none) : ow.toList[j]? = some none := by
 rw [Array.getD_eq_getD_getElem?] at h
 cases q : ow[j]? with
 | none => rw [q] at h; cases h
 | some x =>
  rw [q] at h
  have : x = none := h
  subst this
  rw [Array.getElem?_toList]; exact q
theorem st_ok {m : Nat} (F : Full m) {ow : Array (Option Nat)} {k : Nat} (I : LayI m ow k) (hk : k <= m) (h : Int) : ∃ ow', stF m (some (ow, k)) h = some (ow', k + 1) /\ LayI m ow' (k + 1) := by
 obtain ⟨hs, hp⟩ := I
 have fr : ∃ j, j <= m /\ ow.getD j (some 0) = none := Classical.byContradiction fun no => by
  have all : ∀ x ∈ ow.toList, x ≠ none := fun x hx e => by
   obtain ⟨j, hj, ej⟩ := List.mem_iff_getElem.mp hx
   rw [Array.length_toList] at hj
   refine no ⟨j, by omega, ?_⟩
   rw [Array.getD_eq_getD_getElem?, <- Array.getElem?_toList, List.getElem?_eq_getElem (by rw [Array.length_toList]; exact hj), ej, e]
   rfl
  have l1 := fm_all _ all
  rw [hp.length_eq, List.length_range, Array.length_toList, hs] at l1
  omega
 obtain ⟨j, hj, ej⟩ := fr
 obtain ⟨n, hn, en⟩ := meets F (i := bits h % (m + 1)) (Nat.le_of_lt_succ (Nat.mod_lt _ (Nat.succ_pos m))) (bits_lt h) hj
 obtain ⟨j', e', f'⟩ := free_ok (m := m) (ow := ow) (turns m) _ _ ⟨n, hn, by rw [en]; exact ej⟩
 refine ⟨ow.setIfInBounds j' (some k), ?_, by rw [Array.size_setIfInBounds]; exact hs, ?_⟩
 ·show ((layClean.free m ow (turns m) (bits h % (m + 1)) (bits h)).bind _) = _
  rw [e']; rfl
 ·rw [Array.toList_setIfInBounds]
  refine (fm_set _ _ _ (getD_none f')).trans ((hp.cons k).trans ?_)
  rw [List.range_succ]
  exact (List.perm_append_singleton k (List.range k)).symm
theorem sts_ok {m : Nat} (F : Full m) : ∀ (l : List Int) (ow : Array (Option Nat)) (k : Nat), LayI m ow k -> k + l.length <= m + 1 -> ∃ ow', l.foldl (stF m) (some (ow, k)) = some (ow', k + l.length) /\ LayI m ow' (k + l.length)
 | [], ow, k, I, _ => ⟨ow, rfl, I⟩
 | h :: r, ow, k, I, hk => by
  rw [List.length_cons] at hk
  obtain ⟨o1, e1, I1⟩ := st_ok F I (by omega) h
  obtain ⟨o2, e2, I2⟩ := sts_ok F r o1 (k + 1) I1 (by omega)
  refine ⟨o2, ?_, ?_⟩
  ·rw [List.foldl_cons, e1, e2, List.length_cons, Nat.add_assoc, Nat.add_comm 1]
  ·rw [List.length_cons, <- Nat.add_assoc, Nat.add_right_comm]; exact I2
theorem lay_ok {m : Nat} (F : Full m) (hs : Array Int) (hn : hs.size <= m + 1) : ∃ ow, layClean m hs = some ow /\ LayI m ow hs.size := by
 have I0 : LayI m (Array.replicate (m + 1) none) 0 := ⟨Array.size_replicate, by
  rw [Array.toList_replicate]
  have : ∀ n, List.filterMap id (List.replicate n (none : Option Nat)) = [] := fun n => by induction n with
   | zero => rfl
   | succ n ih => rw [List.replicate_succ, List.filterMap_cons_none rfl, ih]
  rw [this]; exact .refl _⟩
 obtain ⟨ow, e, I⟩ := sts_ok F hs.toList _ 0 I0 (by rw [Array.length_toList]; omega)
 rw [Array.length_toList, Nat.zero_add] at I e
 refine ⟨ow, ?_, I⟩
 rw [lay_eq, <- Array.foldl_toList, e]; rfl
theorem live_eq (ow : Array (Option Nat)) : ((List.range ow.size).filterMap fun j => (ow.getD j none).map (j, ·)).map (·.2) = ow.toList.filterMap id := by
 rw [List.map_filterMap]
 have : ∀ (l : List (Option Nat)), (List.range l.length).filterMap (fun j => ((l[j]?.getD none).map (j, ·)).map (·.2)) = l.filterMap id := fun l => by
  induction l with
  | nil => rfl
  | cons x r ih =>
   rw [List.length_cons, List.range_succ_eq_map, List.filterMap_cons, List.filterMap_map]
   have z : (fun j => Option.map (fun x => x.2) (Option.map (fun x => (j, x)) ((x :: r)[j]?.getD none))) ∘ Nat.succ = fun j => ((((r[j]?.getD none).map ((j + 1), ·)).map (·.2) : Option Nat)) := by funext j; simp
   rw [z]
   have z2 : (fun j => ((((r[j]?.getD none).map ((j + 1), ·)).map (·.2) : Option Nat))) = fun j => ((r[j]?.getD none).map (j, ·)).map (·.2) := by funext j; cases r[j]?.getD none <;> rfl
   rw [z2, ih]
   cases x <;> rfl
 have t := this ow.toList
 rw [Array.length_toList] at t
 rw [<- t]
 congr 1
 funext j
 rw [Array.getD_eq_getD_getElem?, Array.getElem?_toList]
theorem laid_ok {m : Nat} (F : Full m) {fi mv : Nat} {l p : Bool} (hs : Array Int) (hn : hs.size <= m) : ∃ t order, laid m fi mv l p hs = some (t, order) /\ order.toList.Perm (List.range hs.size) /\ t.fits hs.size = true /\ t.led = l /\ t.plain = p /\ t.mask = m /\ t.dummies = #[] := by
 obtain ⟨ow, e, I⟩ := lay_ok F hs (by omega)
 refine ⟨_, _, by unfold laid; rw [e]; rfl, ?_, ?_, rfl, rfl, rfl, rfl⟩
 ·show (((List.range (m + 1)).filterMap fun j => (ow.getD j none).map (j, ·)).map (·.2)).toArray.toList.Perm _
  rw [<- I.1, live_eq]
  exact I.2
 ·have sz : (((List.range (m + 1)).filterMap fun j => (ow.getD j none).map (j, ·)).map (·.1)).length = hs.size := by
   rw [List.length_map, <- List.length_map (f := fun x : Nat × Nat => x.2), <- I.1, live_eq, I.2.length_eq, List.length_range]
  unfold fits fill
  simp only [List.size_toArray, Bool.and_eq_true, beq_iff_eq, decide_eq_true_eq]
  refine ⟨sz, ?_⟩
  rw [sz]
  exact hn
end Fx
set_option maxRecDepth 100000
namespace Fx
open PySem PySem.Spec
theorem full_size (n : Nat) (h : n <= 120) : Full (SetTable.sizeAbove n - 1) /\ n <= SetTable.sizeAbove n - 1 /\ SetTable.sizeAbove n <= 128 := by
 have key : ∀ k < 121, (SetTable.sizeAbove k = 8 \/ SetTable.sizeAbove k = 16 \/ SetTable.sizeAbove k = 32 \/ SetTable.sizeAbove k = 64 \/ SetTable.sizeAbove k = 128) /\ k <= SetTable.sizeAbove k - 1 := by decide +kernel
 obtain ⟨k1, k2⟩ := key n (by omega)
 refine ⟨?_, k2, by omega⟩
 rcases k1 with e | e | e | e | e <;> rw [e]
 ·exact full7
 ·exact full15
 ·exact full31
 ·exact full63
 ·exact full127
section
variable {P : Program} {w : World} {bt : Bool} {A : Around} {E : Value -> Shared -> Prop} {s : Shared} {a b : Addr} {ss os : List Str}
theorem order_perm {es : Array (Int × Value)} {order : Array Nat} (h : order.toList.Perm (List.range es.size)) : (order.filterMap (es[·]?)).toList.Perm es.toList := by
 rw [Array.toList_filterMap]
 exact (h.filterMap _).trans (by rw [filterMap_getElem?_range])
theorem wpAny_relayS {wanted : Nat} {Q : Unit -> Shared -> Prop} {o : Obj} {es : Array (Int × Value)} {ep : Nat} {t : SetTable} (ho : s.heap.get? a = some o) (hd : o.data = .set es ep t) (hf : t.fits es.size = true) (hw : wanted <= 120) (hz : es.size <= wanted)
  (h : ∀ (es' : Array (Int × Value)) (t' : SetTable), es'.toList.Perm es.toList -> t'.fits es'.size = true -> t'.led = t.led -> t'.plain = t.plain -> t'.mask = SetTable.sizeAbove wanted - 1 -> t'.fill = es'.size ->
   Q () { s with heap := s.heap.update a (Obj.putSet es' t') }) : wpAny (model P w) A (setRelay a wanted) Q E s := by
 obtain ⟨F, f2, f3⟩ := full_size wanted hw
 unfold setRelay
 refine wpAny_bind (wpAny_setState_of ho hd hf ?_)
 dsimp only
 obtain ⟨t', order, e, hp, hft, hl, hpl, hm, hdu⟩ := laid_ok F (fi := t.finger) (mv := t.movedTo (SetTable.sizeAbove wanted - 1)) (l := t.led) (p := t.plain) (Array.map (fun x => x.fst) es) (by rw [Array.size_map]; omega)
 rw [Array.size_map] at hp hft
 have e' : t.relaid (Array.map (fun x => x.fst) es) wanted = some (t', order) := e
 have pp := order_perm hp
 have sz : (order.filterMap (es[·]?)).size = es.size := by rw [<- Array.length_toList, pp.length_eq, Array.length_toList]
 refine wpAny_ite_split (fun c => absurd c (by rw [sizeLine_eq]; omega)) fun _ => ?_
 rw [e']
 refine wpAny_bind (wpAny_ite_split (fun c => absurd sz (by simpa using c)) fun _ => wpAny_pure ?_)
 dsimp only
 refine wpAny_storeSet_of ho hd (h _ _ pp (by rw [sz]; exact hft) hl hpl hm ?_) (by rw [sz]; have := f2; rw [sizeLine_eq]; omega)
 unfold SetTable.fits at hft
 simp only [Bool.and_eq_true, beq_iff_eq] at hft
 unfold SetTable.fill
 rw [hdu, sz, hft.1]; rfl
end
end Fx
set_option maxRecDepth 100000
namespace Fx
open PySem PySem.Spec
section
variable {P : Program} {w : World} {A : Around} {E : Value -> Shared -> Prop} {s : Shared} {a b : Addr} {ss os : List Str}
theorem setS_at {h : Heap} {a : Addr} (ho : h.get? a = some (newS w)) : SetS P w (byT w) h a [] :=
 ⟨_, #[], 0, _, ho, ⟨rfl, rfl, rfl⟩, rfl, fun e he => (by simp at he), List.Perm.refl _, List.nodup_nil, by decide, by rfl, fun _ => rfl, fun e => by show (!byT w) = true; rw [e]; rfl⟩
theorem merge_tail {each : Sem Unit} {h1 : Heap} {oa : Obj} {ep1 : Nat} {t1 : SetTable} {Q : Unit -> Shared -> Prop} {ob : Obj} {eb : Array (Int × Value)} {epb : Nat} {tb : SetTable}
  (ho1 : s.heap.get? a = some oa) (hexa : oa.ExactSet) (hd1 : oa.data = .set #[] ep1 t1) (hf1 : t1.fits 0 = true) (fi : t1.fill = 0) (F : Full t1.mask) (hz : eb.size <= t1.mask)
  (hl1 : byT w = false -> t1.led = true)
  (helb : ElemsOf (PySem.strKind P w) eb.toList) (hpb : (eb.toList.map fun e => PyProof.Rows.strOf e.2).Perm os) (hnd : os.Nodup) (hbb : eb.size < scanBound) (hfb : tb.fits eb.size = true) (hplb : tb.plain = true -> eb.size = 0) (hledb : byT w = false -> tb.led = true)
  (k : ∀ h', Heap.SameBut a s.heap h' -> SetS P w (byT w) h' a os -> Q () { s with heap := h' }) :
  wpAny (model P w) A (do
   let (_, _, ts) <- setState a
   match ts.road tb with
   | .slotForSlot => storeSet a eb { tb with finger := ts.finger, led := ts.led && tb.led, moves := ts.moves, plain := ts.plain && tb.plain }
   | .clean =>
    let (es, t) <- (match SetTable.laid ts.mask ts.finger ts.moves (led := ts.led && tb.led) (plain := ts.plain && tb.plain) (eb.map (·.1)) with
     | some (t, order) => if (order.filterMap (eb[·]?)).size != eb.size then (do unsupported "internal:set-table-lost-an-element"; pure (order.filterMap (eb[·]?), t)) else pure (order.filterMap (eb[·]?), t)
     | _ => unsupported "internal:set-table-without-room" : Sem (Array (Int × Value) × SetTable))
    storeSet a es t
   | .oneByOne => each) Q E s := by
 refine wpAny_bind (wpAny_setState_of ho1 hd1 hf1 ?_)
 dsimp only
 have done : ∀ (es' : Array (Int × Value)) (t' : SetTable), es'.toList.Perm eb.toList -> t'.fits es'.size = true -> (t'.plain = true -> tb.plain = true) -> (byT w = false -> t'.led = true) -> wpAny (model P w) A (storeSet a es' t') Q E s := fun es' t' pp ft pl ld => by
  have sz : es'.size = eb.size := by rw [<- Array.length_toList, pp.length_eq, Array.length_toList]
  have b1 : es'.size < scanBound := by rw [sz]; exact hbb
  have at1 : (s.heap.update a (Obj.putSet es' t')).get? a = some { oa with data := .set es' (ep1 + 1) t' } := by
   have z := Heap.get?_update_self (Obj.putSet es' t') ho1 (by rw [putSet_of es' t' hd1]; rfl)
   rw [putSet_of es' t' hd1] at z; exact z
  refine wpAny_storeSet_of ho1 hd1 (k _ (Heap.SameBut.update _ a _) ?_) (fits_of_scanBound b1)
  exact ⟨_, es', ep1 + 1, t', at1, hexa, rfl, helb.perm pp, (pp.map _).trans hpb, hnd, b1, ft, fun q => by rw [sz]; exact hplb (pl q), ld⟩
 have rd : t1.road tb = if t1.mask == tb.mask && tb.dummies.isEmpty then .slotForSlot else .clean := by unfold SetTable.road; rw [fi]; rfl
 rw [rd]
 by_cases c : (t1.mask == tb.mask && tb.dummies.isEmpty) = true
 ·rw [if_pos c]
  dsimp only
  exact done _ _ (.refl _) hfb (fun q => (Bool.and_eq_true_iff.mp q).2) fun q => by show (t1.led && tb.led) = true; rw [hl1 q, hledb q]; rfl
 ·rw [if_neg c]
  dsimp only
  obtain ⟨t', order, e, hp, hft, hl, hpl, hm, hdu⟩ := laid_ok F (fi := t1.finger) (mv := t1.moves) (l := t1.led && tb.led) (p := t1.plain && tb.plain) (Array.map (fun x => x.fst) eb) (by rw [Array.size_map]; exact hz)
  rw [Array.size_map] at hp hft
  have pp := order_perm hp
  have sz : (order.filterMap (eb[·]?)).size = eb.size := by rw [<- Array.length_toList, pp.length_eq, Array.length_toList]
  rw [e]
  refine wpAny_bind (wpAny_ite_split (fun c => absurd sz (by simpa using c)) fun _ => wpAny_pure ?_)
  dsimp only
  exact done _ _ pp (by rw [sz]; exact hft) (fun q => (Bool.and_eq_true_iff.mp (hpl ▸ q)).2) fun q => by rw [hl, hl1 q, hledb q]; rfl
theorem wpAny_merge_new {each : Sem Unit} {Q : Unit -> Shared -> Prop} (hne : a ≠ b) (ho : s.heap.get? a = some (newS w)) (hS : SetS P w (byT w) s.heap b os) (hz : os.length <= 60)
  (k : ∀ h', Heap.SameBut a s.heap h' -> SetS P w (byT w) h' a os -> (os ≠ [] \/ h' = s.heap) -> Q () { s with heap := h' }) : wpAny (model P w) A (setMerge a b each) Q E s := by
 obtain ⟨ob, eb, epb, tb, hob, hexb, hdb, helb, hpb, hnd, hbb, hfb, hplb, hledb⟩ := hS
 have hn : eb.size = os.length := by
  have := hpb.length_eq
  rw [List.length_map, Array.length_toList] at this
  exact this
 unfold setMerge
 have n1 : (a == b) = false := by simpa using hne
 rw [n1]
 refine wpAny_ite_split (fun c => absurd c (by decide)) fun _ => ?_
 refine wpAny_bind (wpAny_setState_of hob hdb hfb ?_)
 dsimp only
 refine wpAny_ite_split (fun c => ?_) fun c => ?_
 ·have z : os = [] := by
   rw [Array.isEmpty_iff_size_eq_zero, hn] at c
   exact List.length_eq_zero_iff.mp c
  subst z
  exact wpAny_pure (k s.heap (Heap.SameBut.refl a _) (setS_at ho) (.inr rfl))
 ·have nz : os ≠ [] := fun z => by
   subst z
   exact c (by rw [Array.isEmpty_iff_size_eq_zero]; exact hn)
  refine wpAny_bind ?_
  unfold setRoomFor
  refine wpAny_bind (wpAny_setState_of (es := #[]) ho rfl rfl ?_)
  dsimp only
  have rf : (SetTable.fresh 0 0 !byT w).roomFor eb.size = if (0 + eb.size) * 5 >= 7 * 3 then some ((0 + eb.size) * 2) else none := rfl
  rw [rf]
  by_cases c2 : (0 + eb.size) * 5 >= 7 * 3
  ·rw [if_pos c2]
   dsimp only
   have hw : (0 + eb.size) * 2 <= 120 := by omega
   obtain ⟨F, f2, _⟩ := full_size _ hw
   refine wpAny_relayS (es := #[]) ho rfl rfl hw (Nat.zero_le _) fun es' t' pp ft hl hpl hm hfi => ?_
   have z : es' = #[] := by
    have := pp.length_eq
    rw [Array.length_toList, Array.length_toList] at this
    exact Array.eq_empty_of_size_eq_zero this
   subst z
   have at1 : (s.heap.update a (Obj.putSet #[] t')).get? a = some { newS w with data := .set #[] (0 + 1) t' } := by
    have z := Heap.get?_update_self (Obj.putSet #[] t') ho rfl
    exact z
   have sb1 := Heap.SameBut.update s.heap a (Obj.putSet #[] t')
   refine merge_tail (s := { s with heap := s.heap.update a (Obj.putSet #[] t') }) (h1 := s.heap) (ob := ob) (epb := epb) at1 ⟨rfl, rfl, rfl⟩ rfl ft hfi (by rw [hm]; exact F) (by rw [hm]; omega) (fun q => by rw [hl]; show (!byT w) = true; rw [q]; rfl) helb hpb hnd hbb hfb hplb hledb fun h' sb hS' => ?_
   exact k h' (sb1.trans sb) hS' (.inl nz)
  ·rw [if_neg c2]
   dsimp only
   refine wpAny_pure ?_
   exact merge_tail (h1 := s.heap) (ob := ob) (epb := epb) ho ⟨rfl, rfl, rfl⟩ rfl rfl rfl full7 (by show eb.size <= 7; omega) (fun q => by show (!byT w) = true; rw [q]; rfl) helb hpb hnd hbb hfb hplb hledb fun h' sb hS' => k h' sb hS' (.inl nz)
end
end Fx
set_option maxRecDepth 100000
namespace Fx
open PySem PySem.Spec
section
variable {P : Program} {w : World} {A : Around} {E : Value -> Shared -> Prop} {s : Shared} {a b : Addr} {ss os : List Str}
theorem wpAny_setsQuiet_S {bt : Bool} {Q : Bool -> Shared -> Prop} (ha : SetS P w bt s.heap a ss) (hb : SetS P w bt s.heap b os) (q : Q true s) : wpAny (model P w) A (setsQuiet [b, a]) Q E s := by
 unfold setsQuiet
 refine wpAny_bind (wpAny_forIn_list _ (fun l acc s' => (∀ c ∈ l, ∃ xs, SetS P w bt s.heap c xs) /\ acc = (none, ()) /\ s = s') _ (fun c rest acc s' h => ?_) (fun acc s' h => ?_) _ _ ⟨fun c hc => ?_, rfl, rfl⟩)
 ·obtain ⟨hl, rfl, hs⟩ := h
  subst hs
  obtain ⟨xs, o, es, ep, t, ho, hex, hd, hel, hp, hnd, hbd, hf, hpl, hled⟩ := hl c (by simp)
  refine wpAny_bind (wpAny_setEntries_of ho hd hf (wpAny_bind ?_))
  refine wpAny_forIn_array' _ (fun l acc s' => (∀ e ∈ l, ∃ x t, e.2 = Value.str x t) /\ acc = (none, ()) /\ s = s') _ (fun e rest acc s' h => ?_) (fun acc s' h => ?_) _ _ ⟨fun e he => ?_, rfl, rfl⟩
  ·obtain ⟨hl, rfl, hs⟩ := h
   subst hs
   obtain ⟨h0, v⟩ := e
   obtain ⟨x, t, ex⟩ := hl (h0, v) (by simp)
   have ex : v = Value.str x t := ex
   subst ex
   exact wpAny_pure ⟨fun e he => hl e (by simp [he]), rfl, rfl⟩
  ·obtain ⟨_, rfl, rfl⟩ := h
   exact wpAny_pure ⟨fun c hc => hl c (by simp [hc]), rfl, rfl⟩
  ·obtain ⟨x, t, e1, _⟩ := elem_str hel e he
   exact ⟨x, t, e1⟩
 ·obtain ⟨_, rfl, rfl⟩ := h
  exact wpAny_pure q
 ·rcases List.mem_cons.mp hc with rfl | hc
  ·exact ⟨_, hb⟩
  ·rw [List.mem_singleton.mp hc]; exact ⟨_, ha⟩
theorem setWalk_T {o : Obj} {es : Array (Int × Value)} {ep : Nat} {t : SetTable} {Q : Array (Int × Value) -> Shared -> Prop} (ho : s.heap.get? a = some o) (hd : o.data = .set es ep t) (hf : t.fits es.size = true) (hled : byT w = false -> t.led = true)
  (q : ∀ (arr : Array (Int × Value)) (dr : Drawn), arr.toList.Perm es.toList -> Q arr { s with drawn := dr }) : wpAny (model P w) A (setWalk a) Q E s := by
 unfold setWalk setsByText
 refine wpAny_bind (wpAny_setState_of ho hd hf ?_)
 dsimp only
 refine wpAny_bind (wpAny_bind (wpAny_askSetting (wpAny_pure ?_)))
 split
 ·exact wpAny_bind (wpAny_askSetting (wpAny_pure (q _ s.drawn (pickOrder_perm _ es))))
 ·rename_i c
  have bf : byT w = false := by cases z : byT w with
   | false => rfl
   | true => exact absurd z c
  split
  ·refine wpAny_bind (wpAny_drawOrder _ _ _ _ (by simp) fun pl dr pp => wpAny_pure (q _ dr ?_))
   exact pp
  ·have m : ∀ (Q' : Unit → Shared → Prop), Q' () s → wpAny (model P w) A (if (!t.led && decide (es.size > 1)) = true then unsupported "set:maker-not-led" else pure ()) Q' E s := fun Q' q' => by
    rw [if_neg (by simp [hled bf])]; exact wpAny_pure q'
   exact wpAny_bind (m _ (wpAny_pure (q es s.drawn (.refl _))))
theorem SetS.perm {bt : Bool} {h : Heap} {xs ys : List Str} (S : SetS P w bt h a xs) (p : xs.Perm ys) : SetS P w bt h a ys := by
 obtain ⟨o, es, ep, t, ho, hex, hd, hel, hp, hnd, hb, hf, hpl, hled⟩ := S
 exact ⟨o, es, ep, t, ho, hex, hd, hel, hp.trans p, p.nodup_iff.mp hnd, hb, hf, hpl, hled⟩
theorem wpAny_walkUnseen {o : Obj} {es : Array (Int × Value)} {ep : Nat} {t : SetTable} {Q : Array (Int × Value) -> Shared -> Prop} (ha : SetS P w (byT w) s.heap a ss) (hbS : SetS P w (byT w) s.heap b os) (ho : s.heap.get? b = some o) (hd : o.data = .set es ep t) (hf : t.fits es.size = true) (hled : byT w = false -> t.led = true)
  (q : ∀ (arr : Array (Int × Value)) (h' : Heap) (dr : Drawn), arr.toList.Perm es.toList -> Heap.SameBut a s.heap h' -> SetS P w (byT w) h' a ss -> Q arr { s with heap := h', drawn := dr }) : wpAny (model P w) A (setWalkUnseen b [a] (some a)) Q E s := by
 unfold setWalkUnseen
 refine wpAny_bind (wpAny_setState_of ho hd hf ?_)
 dsimp only
 unfold setsByText
 refine wpAny_bind (wpAny_bind (wpAny_askSetting (wpAny_pure ?_)))
 have walk : wpAny (model P w) A (setWalk b) Q E s := setWalk_T ho hd hf hled fun arr dr pp => q arr s.heap dr pp (Heap.SameBut.refl a _) ha
 refine wpAny_ite_split (fun c => walk) fun c => ?_
 refine wpAny_bind (wpAny_setsQuiet_S ha hbS ?_)
 refine wpAny_ite_split (fun c => absurd c (by decide)) fun _ => ?_
 refine wpAny_bind (wpAny_rule ?_)
 obtain ⟨oa, ea, epa, ta, hoa, hexa, hda, hela, hpa, hnda, hba, hfa, hpla, hleda⟩ := ha
 refine wpAny_bind (wpAny_setState_of hoa hda hfa ?_)
 dsimp only
 refine wpAny_ite_split (fun c2 => ?_) fun _ => ?_
 ·refine wpAny_bind (wpAny_storeSet_of hoa hda (wpAny_pure (q es _ s.drawn (.refl _) (Heap.SameBut.update _ a _) ?_)) (fits_of_scanBound hba))
  generalize hT : ({ ta with led := ta.led && t.led, plain := ta.plain && t.plain } : SetTable) = t2
  have at1 : (s.heap.update a (Obj.putSet ea t2)).get? a = some { oa with data := .set ea (epa + 1) t2 } := by
   have z := Heap.get?_update_self (Obj.putSet ea t2) hoa (by rw [putSet_of ea t2 hda]; rfl)
   rw [putSet_of ea t2 hda] at z; exact z
  subst hT
  exact ⟨_, ea, epa + 1, _, at1, hexa, rfl, hela, hpa, hnda, hba, hfa, fun z => hpla (Bool.and_eq_true_iff.mp z).1, fun z => by show (ta.led && t.led) = true; rw [hleda z, hled z]; rfl⟩
 ·exact wpAny_pure (q es s.heap s.drawn (.refl _) (Heap.SameBut.refl a _) ⟨oa, ea, epa, ta, hoa, hexa, hda, hela, hpa, hnda, hba, hfa, hpla, hleda⟩)
end
end Fx
set_option maxRecDepth 100000
namespace Fx
open PySem PySem.Spec
section
variable {P : Program} {w : World} {A : Around} {E : Value -> Shared -> Prop} {s : Shared} {a b : Addr} {ss os : List Str}
theorem nodup_addS {x : Str} {acc : List Str} (h : acc.Nodup) : (addS acc x).Nodup := by
 unfold addS
 split
 ·exact h
 ·rename_i hx
  rw [List.nodup_append]
  exact ⟨h, by simp, fun u hu v hv e => by rw [List.mem_singleton] at hv; subst hv; subst e; exact hx hu⟩
theorem nodup_addAll : ∀ (xs acc : List Str), acc.Nodup -> (addAll acc xs).Nodup
 | [], acc, h => h
 | x :: r, acc, h => nodup_addAll r (addS acc x) (nodup_addS h)
theorem addAll_perm {acc xs ys : List Str} (h : acc.Nodup) (p : xs.Perm ys) : (addAll acc xs).Perm (addAll acc ys) :=
 (List.perm_ext_iff_of_nodup (nodup_addAll xs acc h) (nodup_addAll ys acc h)).mpr fun y => by rw [mem_addAll, mem_addAll, p.mem_iff]
theorem more_tail {each : Sem Unit} {f g : Array (Int × Value) × Nat × SetTable -> Sem Unit} {Q : Unit -> Shared -> Prop} {ob : Obj} {eb : Array (Int × Value)} {epb : Nat} {tb : SetTable} (hne : a ≠ b) (hss : ss ≠ []) (hA : SetS P w (byT w) s.heap a ss) (hB : SetS P w (byT w) s.heap b os)
  (hob : s.heap.get? b = some ob) (hdb : ob.data = .set eb epb tb) (hfb : tb.fits eb.size = true) (hledb : byT w = false -> tb.led = true) (helb : ElemsOf (PySem.strKind P w) eb.toList) (hpb : (eb.toList.map fun e => PyProof.Rows.strOf e.2).Perm os) (hz : ss.length + os.length <= 60)
  (heach : ∀ (s' : Shared) (Q' : Unit -> Shared -> Prop), s'.heap.get? b = some ob -> Q' () s' -> wpAny (model P w) A each Q' E s')
  (k : ∀ h' dr, Heap.SameBut a s.heap h' -> SetS P w (byT w) h' a (addAll ss os) -> Q () { s with heap := h', drawn := dr }) :
  wpAny (model P w) A (do
   let sa <- setState a
   match sa.2.2.road tb with
   | .slotForSlot => f sa
   | .clean => g sa
   | .oneByOne => do
    let arr <- setWalkUnseen b [a] (some a)
    let _ <- forIn arr PUnit.unit fun (x : Int × Value) (_ : PUnit) => do
     let _ <- holding [x.2] (setAddHashed a x.2 x.1)
     each
     let st <- setState b
     if (st.2.1 != epb) = true then do
       unsupported "set.changed-during-merge"
       pure (ForInStep.yield PUnit.unit)
      else pure (ForInStep.yield PUnit.unit)
    pure ()) Q E s := by
 have hA0 := hA
 obtain ⟨oa, ea, epa, ta, hoa, hexa, hda, hela, hpa, hnda, hba, hfa, hpla, hleda⟩ := hA
 have hn : ea.size = ss.length := by
  have := hpa.length_eq
  rw [List.length_map, Array.length_toList] at this
  exact this
 refine wpAny_bind (wpAny_setState_of hoa hda hfa ?_)
 dsimp only
 have fi : ta.fill ≠ 0 := by
  unfold SetTable.fits at hfa
  simp only [Bool.and_eq_true, beq_iff_eq] at hfa
  unfold SetTable.fill
  have : ss.length ≠ 0 := fun z => hss (List.length_eq_zero_iff.mp z)
  omega
 have rd : ta.road tb = .oneByOne := by unfold SetTable.road; rw [if_pos (by simpa using fi)]
 rw [rd]
 dsimp only
 refine wpAny_bind (wpAny_walkUnseen hA0 hB hob hdb hfb hledb fun arr h1 dr pp sb1 hS1 => wpAny_bind ?_)
 have ael : ElemsOf (PySem.strKind P w) arr.toList := helb.perm pp
 have apm : (arr.toList.map fun e => PyProof.Rows.strOf e.2).Perm os := (pp.map _).trans hpb
 have alen : arr.toList.length = os.length := by rw [<- apm.length_eq, List.length_map]
 refine wpAny_forIn_array' _ (fun l _ s' => ∃ h' xs, s' = { s with heap := h', drawn := dr } /\ Heap.SameBut a s.heap h' /\ SetS P w (byT w) h' a xs /\ (∀ e ∈ l, ∃ x t, e.2 = Value.str x t /\ e.1 = (PySem.strKind P w).hash x) /\ xs.length + l.length <= 60 /\
   addAll xs (l.map fun e => PyProof.Rows.strOf e.2) = addAll ss (arr.toList.map fun e => PyProof.Rows.strOf e.2)) _ (fun e rest _ s' h => ?_) (fun _ s' h => ?_) _ _ ⟨h1, ss, rfl, sb1, hS1, elem_str ael, by rw [alen]; exact hz, rfl⟩
 ·obtain ⟨h', xs, rfl, sb, hS, hl, hlen, hadd⟩ := h
  obtain ⟨x, tk, e2, e1⟩ := hl e (by simp)
  obtain ⟨h0, v⟩ := e
  dsimp only at e1 e2
  subst e1; subst e2
  rw [List.length_cons] at hlen
  refine wpAny_bind (wpAny_holding (wpAny_addS hS (by unfold scanBound; omega) fun h2 sb2 hS2 => ?_))
  have bb : h2.get? b = some ob := by rw [sb2.2 b (Ne.symm hne), sb.2 b (Ne.symm hne)]; exact hob
  refine wpAny_bind (heach _ _ bb (wpAny_bind (wpAny_setState_of bb hdb hfb ?_)))
  refine wpAny_ite_split (fun c => absurd c (by simp)) fun _ => wpAny_pure ?_
  refine ⟨h2, addS xs x, rfl, sb.trans sb2, hS2, fun e he => hl e (by simp [he]), ?_, hadd⟩
  have l2 : (addS xs x).length <= xs.length + 1 := by
   unfold addS; split
   ·omega
   ·rw [List.length_append]; exact Nat.le_refl _
  omega
 ·obtain ⟨h', xs, rfl, sb, hS, _, _, hadd⟩ := h
  have e : xs = addAll ss (arr.toList.map fun e => PyProof.Rows.strOf e.2) := hadd
  refine wpAny_pure (k h' dr sb ?_)
  rw [e] at hS
  exact hS.perm (addAll_perm hnda apm)
end
end Fx
set_option maxRecDepth 100000
namespace Fx
open PySem PySem.Spec
section
variable {P : Program} {w : World} {A : Around} {E : Value -> Shared -> Prop} {s : Shared} {a b : Addr} {ss os : List Str}
theorem wpAny_merge_more {each : Sem Unit} {Q : Unit -> Shared -> Prop} (hne : a ≠ b) (hss : ss ≠ []) (hA : SetS P w (byT w) s.heap a ss) (hB : SetS P w (byT w) s.heap b os) (hz : ss.length + os.length <= 60)
  (heach : ∀ (s' : Shared) (Q' : Unit -> Shared -> Prop), s'.heap.get? b = s.heap.get? b -> Q' () s' -> wpAny (model P w) A each Q' E s')
  (k : ∀ h' dr, Heap.SameBut a s.heap h' -> SetS P w (byT w) h' a (addAll ss os) -> Q () { s with heap := h', drawn := dr }) : wpAny (model P w) A (setMerge a b each) Q E s := by
 have hB0 := hB
 obtain ⟨ob, eb, epb, tb, hob, hexb, hdb, helb, hpb, hnd, hbb, hfb, hplb, hledb⟩ := hB
 have hn : eb.size = os.length := by
  have := hpb.length_eq
  rw [List.length_map, Array.length_toList] at this
  exact this
 unfold setMerge
 have n1 : (a == b) = false := by simpa using hne
 rw [n1]
 refine wpAny_ite_split (fun c => absurd c (by decide)) fun _ => ?_
 refine wpAny_bind (wpAny_setState_of hob hdb hfb ?_)
 dsimp only
 refine wpAny_ite_split (fun c => ?_) fun c => ?_
 ·have z : os = [] := by
   rw [Array.isEmpty_iff_size_eq_zero, hn] at c
   exact List.length_eq_zero_iff.mp c
  subst z
  exact wpAny_pure (k s.heap s.drawn (Heap.SameBut.refl a _) hA)
 ·refine wpAny_bind ?_
  have hA0 := hA
  obtain ⟨oa, ea, epa, ta, hoa, hexa, hda, hela, hpa, hnda, hba, hfa, hpla, hleda⟩ := hA
  have ha : ea.size = ss.length := by
   have := hpa.length_eq
   rw [List.length_map, Array.length_toList] at this
   exact this
  have pl : ta.place.size = ea.size := by
   unfold SetTable.fits at hfa
   simp only [Bool.and_eq_true, beq_iff_eq] at hfa
   exact hfa.1
  unfold setRoomFor
  refine wpAny_bind (wpAny_setState_of hoa hda hfa ?_)
  dsimp only
  have rf : ta.roomFor eb.size = if (ta.fill + eb.size) * 5 >= ta.mask * 3 then some ((ta.place.size + eb.size) * 2) else none := rfl
  rw [rf]
  by_cases c2 : (ta.fill + eb.size) * 5 >= ta.mask * 3
  ·rw [if_pos c2]
   dsimp only
   refine wpAny_relayS hoa hda hfa (by omega) (by omega) fun es' t' pp ft hl hpl hm hfi => ?_
   have at1 : (s.heap.update a (Obj.putSet es' t')).get? a = some { oa with data := .set es' (epa + 1) t' } := by
    have z := Heap.get?_update_self (Obj.putSet es' t') hoa (by rw [putSet_of es' t' hda]; rfl)
    rw [putSet_of es' t' hda] at z; exact z
   have sz : es'.size = ea.size := by rw [<- Array.length_toList, pp.length_eq, Array.length_toList]
   have sb1 := Heap.SameBut.update s.heap a (Obj.putSet es' t')
   have S1 : SetS P w (byT w) (s.heap.update a (Obj.putSet es' t')) a ss := ⟨_, es', epa + 1, t', at1, hexa, rfl, hela.perm pp, (pp.map _).trans hpa, hnda, by rw [sz]; exact hba, ft, fun q => by rw [sz]; exact hpla (hpl ▸ q), fun q => by rw [hl]; exact hleda q⟩
   have bb : (s.heap.update a (Obj.putSet es' t')).get? b = some ob := by rw [sb1.2 b (Ne.symm hne)]; exact hob
   exact more_tail (s := { s with heap := s.heap.update a (Obj.putSet es' t') }) hne hss S1 (hB0.same sb1 (Ne.symm hne)) bb hdb hfb hledb helb hpb hz (fun s' Q' e q => heach s' Q' (by rw [e, hob]) q) fun h' dr sb hS => k h' dr (sb1.trans sb) hS
  ·rw [if_neg c2]
   dsimp only
   exact wpAny_pure (more_tail hne hss hA0 hB0 hob hdb hfb hledb helb hpb hz (fun s' Q' e q => heach s' Q' (by rw [e, hob]) q) k)
end
end Fx
set_option maxRecDepth 100000
namespace Fx
open PySem PySem.Spec
theorem entry_set_or : entryFor table "set.__or__" = some Builtin.«frozenset.__or__» :=
 entryFor_alias (id' := "frozenset.__or__") (by kernel_rfl) rfl (by decide +kernel) (by kernel_rfl)
section
variable {P : Program} {w : World} {A : Around} {E : Value -> Shared -> Prop} {s : Shared} {a b : Addr} {ss os : List Str}
theorem SetS.ty {bt : Bool} (hS : SetS P w bt s.heap a ss) : s.TypeIs (.ref a) "set" := by
 obtain ⟨o, es, ep, t, ho, hex, _⟩ := hS
 exact ⟨o, ho, hex.1⟩
theorem anySet_S {Q : Bool → Shared → Prop} (ty : s.TypeIs (.ref a) "set") (q : Q true s) : wpAny (model P w) A (Builtin.Frozenset.isAnySet (.ref a)) Q E s := by
 unfold Builtin.Frozenset.isAnySet
 have su := sub_set_self
 refine wpAny_bind (wpAny_isInstance ty su ?_)
 exact wpAny_pure q
theorem copy_S {Q : Value -> Shared -> Prop} (hS : SetS P w (byT w) s.heap a ss) (hz : ss.length <= 60)
  (k : ∀ h', (∀ b o, s.heap.get? b = some o -> h'.get? b = some o) -> SetS P w (byT w) h' s.heap.objs.size ss -> (ss = [] -> h'.get? s.heap.objs.size = some (newS w)) -> Q (.ref s.heap.objs.size) { s with heap := h' }) : wpAny (model P w) A (Builtin.Frozenset.copyOf a) Q E s := by
 have al : a < s.heap.objs.size := by
  obtain ⟨o, es, ep, t, ho, _⟩ := hS
  exact Heap.lt_size ho
 unfold Builtin.Frozenset.copyOf Builtin.Frozenset.baseOf
 have su := sub_set_self
 refine wpAny_bind (wpAny_bind (wpAny_isInstance hS.ty su (wpAny_pure (wpAny_bind ?_))))
 refine newSet_S ?_
 have at0 : (s.heap.push (newS w)).get? s.heap.objs.size = some (newS w) := Heap.get?_push_size _ rfl
 refine wpAny_bind (wpAny_pure (wpAny_bind ?_))
 refine wpAny_merge_new (s := { s with heap := s.heap.push (newS w) }) (Nat.ne_of_gt al) at0 (hS.keep fun b o e => Heap.get?_push_of_some _ e) hz fun h' sb hS' c => wpAny_pure (k h' (fun b o e => ?_) hS' fun z => ?_)
 ·rw [sb.2 b (Nat.ne_of_lt (Heap.lt_size e))]; exact Heap.get?_push_of_some _ e
 ·rcases c with c | c
  ·exact absurd z c
  ·rw [c]; exact at0
end
end Fx
set_option maxRecDepth 100000
namespace Fx
open PySem PySem.Spec
section
variable {P : Program} {w : World} {A : Around} {E : Value -> Shared -> Prop} {s : Shared} {a b : Addr} {ss os : List Str}
theorem addAll_nil_perm {ys : List Str} (h : ys.Nodup) : ys.Perm (addAll [] ys) :=
 (List.perm_ext_iff_of_nodup h (nodup_addAll ys [] List.nodup_nil)).mpr fun y => by rw [mem_addAll]; simp
theorem slot1_S {Q : Value × Value → Shared → Prop} {u v : Value} (q : Q (u, v) s) : wpAny (model P w) A (Builtin.Frozenset.slot1 "__or__" ⟨[u, v], []⟩) Q E s :=
 wpAny_bind (wpAny_pure (wpAny_pure q))
theorem update_S {id : String} {r : Addr} {Q : Unit -> Shared -> Prop} (hne : r ≠ b) (hR : SetS P w (byT w) s.heap r ss) (hN : ss = [] -> s.heap.get? r = some (newS w)) (hB : SetS P w (byT w) s.heap b os) (hz : ss.length + os.length <= 60)
  (k : ∀ h' dr, Heap.SameBut r s.heap h' -> SetS P w (byT w) h' r (addAll ss os) -> Q () { s with heap := h', drawn := dr }) : wpAny (model P w) A (Builtin.Frozenset.updateFrom id r (.ref b)) Q E s := by
 have hB0 := hB
 obtain ⟨ob, eb, epb, tb, hob, hexb, hdb, helb, hpb, hnd, hbb, hfb, hplb, hledb⟩ := hB
 unfold Builtin.Frozenset.updateFrom
 refine wpAny_bind (anySet_S hB0.ty ?_)
 rw [if_pos rfl]
 refine wpAny_bind (wpAny_pure ?_)
 unfold Builtin.Frozenset.merge
 unfold setEpoch
 refine wpAny_bind (wpAny_bind (wpAny_setState_of hob hdb hfb (wpAny_pure ?_)))
 dsimp only
 by_cases z : ss = []
 ·subst z
  refine wpAny_merge_new hne (hN rfl) hB0 (by rw [List.length_nil] at hz; omega) fun h' sb hS _ => k h' s.drawn sb (hS.perm (addAll_nil_perm hnd))
 ·refine wpAny_merge_more hne z hR hB0 hz (fun s' Q' e q => ?_) k
  unfold Builtin.Frozenset.unchanged setEpoch
  refine wpAny_bind (wpAny_bind (wpAny_setState_of (e.trans hob) hdb hfb (wpAny_pure ?_)))
  refine wpAny_ite_split (fun c => absurd c (by simp)) fun _ => wpAny_pure q
theorem or_S {Q : Value -> Shared -> Prop} (hne : a ≠ b) (hA : SetS P w (byT w) s.heap a ss) (hB : SetS P w (byT w) s.heap b os) (hz : ss.length + os.length <= 60)
  (k : ∀ h' dr, (∀ b o, s.heap.get? b = some o -> h'.get? b = some o) -> SetS P w (byT w) h' s.heap.objs.size (addAll ss os) -> Q (.ref s.heap.objs.size) { s with heap := h', drawn := dr }) :
  wpAny (model P w) A (binaryOp .BitOr (.ref a) (.ref b)) Q E s := by
 refine wpAny_binaryOp_same (op := .BitOr) hA.ty hB.ty F.fills_set_or F.slot_set_or (wpAny_call_entry F.slot_set_or hA.ty entry_set_or ?_ (F.args_set_or_2 _ _))
 unfold Builtin.«frozenset.__or__»
 refine wpAny_bind (m := Builtin.Frozenset.slot1 "__or__" ⟨[.ref a, .ref b], []⟩) (slot1_S ?_)
 have bl : b < s.heap.objs.size := by
  obtain ⟨o, es, ep, t, ho, _⟩ := hB
  exact Heap.lt_size ho
 dsimp only
 refine wpAny_bind (wpAny_bind (anySet_S hA.ty (anySet_S hB.ty ?_)))
 refine wpAny_ite_split (fun c => absurd c (by decide)) fun _ => ?_
 refine wpAny_bind (wpAny_pure (wpAny_bind ?_))
 refine wpAny_bind (m := Builtin.Frozenset.copyOf a) (copy_S hA (by omega) fun h1 kp hS1 hN => ?_)
 have n1 : (Value.ref b != Value.ref a) = true := by simpa using (Ne.symm hne)
 refine wpAny_ite_split (fun _ => ?_) fun c => absurd n1 c
 refine wpAny_bind (wpAny_pure (wpAny_bind (wpAny_holding ?_)))
 refine update_S (s := { s with heap := h1 }) (Nat.ne_of_gt bl) hS1 hN (hB.keep kp) hz fun h2 dr sb hS2 => wpAny_pure (wpAny_pure ⟨_, rfl, by simp, k h2 dr (fun c o e => ?_) hS2⟩)
 rw [sb.2 c (Nat.ne_of_lt (Heap.lt_size e))]; exact kp c o e
end
end Fx
set_option maxRecDepth 100000
namespace L2
open PySem PySem.Spec PyProof.Rows
theorem ne_lt {a b : Addr} {n : Nat} (h : a < n) (h' : n <= b) : a ≠ b := Nat.ne_of_lt (Nat.lt_of_lt_of_le h h')
theorem ne_lt' {a b : Addr} {n : Nat} (h : a < n) (h' : n <= b) : b ≠ a := (ne_lt h h').symm
noncomputable def clOf (cells : List (Str × Addr)) : List (Str × NameKind) -> List (Str × Addr) -> List (Str × Addr)
 | [], acc => acc
 | (n, k) :: r, acc => clOf cells r (if (k == NameKind.free) = true then (n, (cells.lookup n).getD 0) :: acc else acc)
theorem closure_go {env : Env} : ∀ (l : List (Str × NameKind)) (acc : List (Str × Addr)), (∀ y ∈ l, y.2 = .free -> ∃ c, env.cells.lookup y.1 = some c) ->
  (forIn l acc fun (y : Str × NameKind) (cs : List (Str × Addr)) => (match y with
   | (name, kind) => if (kind == NameKind.free) = true then do let c <- cellOf env name; pure (ForInStep.yield ((name, c) :: cs)) else pure (ForInStep.yield cs) : Sem _)) = pure (clOf env.cells l acc)
 | [], acc, _ => rfl
 | (n, k) :: r, acc, h => by
  rw [List.forIn_cons]
  unfold clOf
  by_cases e : (k == NameKind.free) = true
  ·have e' : k = NameKind.free := by simpa using e
   obtain ⟨c, hc⟩ := h (n, k) List.mem_cons_self e'
   simp only [e, if_true, cellOf, hc, pure_bind, Option.getD_some]
   exact closure_go r _ fun y hy => h y (List.mem_cons_of_mem _ hy)
  ·simp only [e, if_false, pure_bind]
   exact closure_go r _ fun y hy => h y (List.mem_cons_of_mem _ hy)
theorem closure_eq {sc : Scope} {env : Env} (h : ∀ y ∈ sc.names, y.2 = .free -> ∃ c, env.cells.lookup y.1 = some c) : closureFor sc env = pure (clOf env.cells sc.names []) := by
 have e := closure_go (env := env) sc.names [] h
 simp only [closureFor]
 exact (bind_pure _).trans e
theorem clOf_sub {cells : List (Str × Addr)} {y : Str} {c : Addr} : ∀ (l : List (Str × NameKind)) (acc : List (Str × Addr)), (∀ y ∈ l, y.2 = .free -> ∃ c, cells.lookup y.1 = some c) ->
  (clOf cells l acc).lookup y = some c -> cells.lookup y = some c \/ acc.lookup y = some c
 | [], acc, _, e => .inr e
 | (n, k) :: r, acc, h, e => by
  unfold clOf at e
  have hr : ∀ y ∈ r, y.2 = .free -> ∃ c, cells.lookup y.1 = some c := fun y hy => h y (List.mem_cons_of_mem _ hy)
  rcases clOf_sub r _ hr e with q | q
  ·exact .inl q
  ·by_cases z : (k == NameKind.free) = true
   ·rw [if_pos z] at q
    rw [List.lookup_cons] at q
    cases hb : y == n with
    | true =>
     rw [hb] at q
     obtain ⟨c', hc'⟩ := h (n, k) List.mem_cons_self (by simpa using z)
     have hc'' : cells.lookup n = some c' := hc'
     rw [hc''] at q
     have e1 : y = n := by simpa using hb
     have q' : c' = c := Option.some.inj q
     exact .inl (by rw [e1, hc'', q'])
    | false =>
     rw [hb] at q
     exact .inr q
   ·rw [if_neg z] at q
    exact .inr q
theorem clOf_has {cells : List (Str × Addr)} {y : Str} : ∀ (l : List (Str × NameKind)) (acc : List (Str × Addr)), ((y, NameKind.free) ∈ l \/ ∃ c, acc.lookup y = some c) -> ∃ c, (clOf cells l acc).lookup y = some c
 | [], acc, h => by
  rcases h with h | h
  ·cases h
  ·exact h
 | (n, k) :: r, acc, h => by
  unfold clOf
  have grow : ∀ v : Addr, (∃ c, acc.lookup y = some c) -> ∃ c, ((n, v) :: acc).lookup y = some c := fun v hh0_ => by
   obtain ⟨c, hc⟩ := hh0_
   rw [List.lookup_cons]
   cases y == n with
   | true => exact ⟨v, rfl⟩
   | false => exact ⟨c, hc⟩
  rcases h with h | h
  ·rcases List.mem_cons.mp h with e | h
   ·have e1 : y = n := congrArg Prod.fst e
    have e2 : NameKind.free = k := congrArg Prod.snd e
    subst e1 e2
    refine clOf_has r _ (.inr ?_)
    rw [if_pos (by rfl)]
    refine ⟨(cells.lookup y).getD 0, ?_⟩
    rw [List.lookup_cons]; simp
   ·exact clOf_has r _ (.inl h)
  ·refine clOf_has r _ (.inr ?_)
   split
   ·exact grow _ h
   ·exact h
theorem relab_mem {scope : Scope} {env : Env} {y : Str} {k : NameKind} (hc : ∀ z ∈ scope.names, z.2 ≠ .cell) (h : (relabel scope env).names.lookup y = some k) (hk : k = .cell \/ k = .free) : (y, NameKind.free) ∈ scope.names := by
 have m := PySem.mem_of_lookup h
 unfold relabel at m
 obtain ⟨⟨n, k'⟩, hm, e⟩ := List.mem_map.mp m
 dsimp only at e
 split at e
 ·rename_i z
  have e1 : n = y := congrArg Prod.fst e
  have z1 : k' = NameKind.free := by
   simp only [Bool.and_eq_true] at z
   simpa using z.1.1
  subst e1 z1
  exact hm
 ·have e1 : n = y := congrArg Prod.fst e
  have e2 : k' = k := congrArg Prod.snd e
  subst e1 e2
  rcases hk with z | z
  ·exact absurd z (hc _ hm)
  ·rw [z] at hm; exact hm
theorem relab_free {env : Env} (hf : env.scope.kind = .function) : ∀ {names : List (Str × NameKind)} {y : Str}, names.lookup y = some .free -> env.kindOf y = some .cell ->
  (names.map fun (n, k) => if (k == NameKind.free && env.scope.kind == .function && env.kindOf n == some .cell) then (n, NameKind.cell) else (n, k)).lookup y = some .cell
 | [], _, h, _ => by simp at h
 | (n, k) :: r, y, h, hk => by
  have ih := @relab_free env hf r y
  rw [List.map_cons]
  cases hy : y == n with
  | true =>
   have e : y = n := by simpa using hy
   subst e
   rw [List.lookup_cons, hy] at h
   have h' : k = NameKind.free := Option.some.inj h
   subst h'
   simp [hf, hk, List.lookup_cons]
  | false =>
   rw [List.lookup_cons, hy] at h
   show List.lookup y ((if (k == NameKind.free && env.scope.kind == .function && env.kindOf n == some .cell) = true then (n, NameKind.cell) else (n, k)) :: _) = _
   by_cases z : (k == NameKind.free && env.scope.kind == .function && env.kindOf n == some .cell) = true
   ·rw [if_pos z, List.lookup_cons, hy]; exact ih h hk
   ·rw [if_neg z, List.lookup_cons, hy]; exact ih h hk
structure ScB (N : List Str) (sc scope : Scope) (x : Str) (frees : List Str) (js : List Nat) : Prop where
 kind : scope.kind = .function
 fk : sc.kind = .function
 cells : ∀ y ∈ scope.names, y.2 ≠ .cell
 locs : ∀ y ∈ scope.names, y.2 = .local -> scope.names.lookup y.1 = some .local
 own : scope.names.lookup x = some .local
 fr : ∀ y ∈ scope.names, y.2 = .free -> sc.names.lookup y.1 = some .cell
 nd : (x :: frees).Nodup
 ln : frees.length = js.length
 zp : ∀ p ∈ frees.zip js, N[p.2]? = some p.1 /\ sc.names.lookup p.1 = some .cell /\ scope.names.lookup p.1 = some .free
noncomputable def cxB (X : Cx) (N : List Str) (scope : Scope) (s : Shared) (H : Hp) (C : Addr) (fp : List Addr) : Cx where
 prog := X.prog
 w := X.w
 K := X.K
 mg := X.mg
 base := X.base
 A := X.A
 N := N
 s₀ := s
 H₀ := H
 env := compEnvC scope (clOf X.env.cells scope.names []) C X.env
 outer := X.stack
 stack := X.stack
 ex := fp
 fn := fun _ => false
 calm := X.calm
 pn := []
 xe := fun _ _ => False
noncomputable def frv (σ : St) (js : List Nat) : St := js.map fun j => (σ[j]?).join
noncomputable def PTs (X : Cx) (ifs : List Expr) (t : TT) : Prop :=
 ∀ (pins : List (Addr × Obj)) (s : Shared) (σ : St) (H : Hp) (Q : Bool -> Hp -> Prop), Inv X pins σ H s -> t σ H Q ->
  wpAny (model X.prog X.w) X.A (forIn ifs true fun c r => if r = true then do let ok <- isTrue c X.env (eval c X.env); pure (ForInStep.yield ok) else pure (ForInStep.yield r)) (TP X pins σ Q) X.xe s
noncomputable def tYes : TT := fun _ H Q => Q true H
theorem pts_nil {X : Cx} : PTs X [] tYes := fun _ _ _ H _ I h => wpAny_tests_nil ⟨H, I, h⟩
theorem pts_one {X : Cx} {c : Expr} {t : TT} (h : PT X c t) : PTs X [c] t := fun pins s σ H Q I q => wpAny_tests_one (h pins s σ H Q I q)
noncomputable def LcW (js : List Nat) (tt : TT) (te : TE) (σ : St) (Q : List V -> Hp -> Prop) (J : It) (H1 : Hp) : Prop :=
 ∃ W : Nat -> Nat -> List V -> Hp -> Prop, (∃ m, W 0 m [] H1) /\ ∀ i m ys H, W i m ys H ->
  (J.stop i H /\ ys.length <= sizeLine /\ Q ys H) \/
  (J.go i H /\ ys.length < sizeLine /\ ∀ x H', J.yld i H x H' -> tt (some x :: frv σ js) H' fun b H2 =>
   if b = true then te (some x :: frv σ js) H2 fun v H3 => ∃ m', m' < m /\ W (i + 1) m' (ys ++ [v]) H3 else ∃ m', m' < m /\ W (i + 1) m' ys H2)
section
variable {X : Cx} {pins : List (Addr × Obj)} {σ : St} {H : Hp} {s : Shared} {x : Str} {scope sc : Scope} {frees : List Str} {js : List Nat}
theorem lcells (I : Inv X pins σ H s) (hsc : X.env.scope = sc) (B : ScB X.N sc scope x frees js) : ∀ y ∈ scope.names, y.2 = .free -> ∃ c, X.env.cells.lookup y.1 = some c := fun y hy hf =>
 I.ok.has y.1 (.inl (show X.env.scope.names.lookup y.1 = some .cell by rw [hsc]; exact B.fr y hy hf))
theorem zip_get {α β : Type} : ∀ {l : List α} {r : List β} {k : Nat} {a : α}, l.length = r.length -> l[k]? = some a -> ∃ b, r[k]? = some b /\ (a, b) ∈ l.zip r
 | [], _, _, _, _, h => by simp at h
 | _ :: _, [], _, _, hl, _ => by simp at hl
 | a' :: l, b' :: r, 0, a, _, h => by
  simp at h; subst h
  exact ⟨b', rfl, by simp⟩
 | a' :: l, b' :: r, k + 1, a, hl, h => by
  obtain ⟨b, h1, h2⟩ := zip_get (l := l) (r := r) (k := k) (a := a) (by simpa using hl) (by simpa using h)
  exact ⟨b, by simpa using h1, by rw [List.zip_cons_cons]; exact List.mem_cons_of_mem _ h2⟩
theorem blk_start {fp : List Addr} {h₁ : Heap} {C D : Addr} {tk : Nat} {mC : Str -> Option Value} {oD : Obj} (I : Inv X pins σ H s) (hsc : X.env.scope = sc) (B : ScB X.N sc scope x frees js) (hf : ∀ b ∈ fp, FpOk X pins H b) (hfo : ∀ b ∈ fp, b < s.heap.objs.size)
  (hC : s.heap.objs.size <= C) (hD : s.heap.objs.size <= D) (hDC : D ≠ C) (old : ∀ b o, s.heap.get? b = some o -> h₁.get? b = some o) (ns : h₁.Ns C mC) (gD : h₁.get? D = some oD) (nD : ∀ v, oD.data ≠ .cell v) :
  Inv (cxB X (x :: frees) scope s H C fp) (pins ++ [(D, oD)]) (none :: frv σ js) H { s with heap := h₁, toks := tk } := by
 have lc := lcells I hsc B
 have sub : ∀ y c, (clOf X.env.cells scope.names []).lookup y = some c -> X.env.cells.lookup y = some c := fun y c e => by
  rcases clOf_sub scope.names [] lc e with q | q
  ·exact q
  ·cases q
 have cold : ∀ y c, X.env.cells.lookup y = some c -> c < s.heap.objs.size := fun y c e => by
  obtain ⟨v, q⟩ := I.cell y c e
  exact q.lt
 have fpC : ∀ b ∈ fp, (b ∈ X.ex \/ X.s₀.heap.objs.size <= b) := fun b hb => (hf b hb).2.2.2.1
 obtain ⟨m, hn, hl⟩ := I.loc
 refine ⟨⟨I.ok.mod, B.kind, I.ok.glob, I.ok.blt, hC, ?_, ?_, ?_, I.ok.hd, I.ok.frames, .inl rfl, ?_, ?_, Nat.le_trans I.ok.bsz I.sz, ?_, ?_, I.stack, I.stkFree⟩, rfl, I.bare, Un.kept old, ⟨mC, ns, ?_⟩, ?_, I.hok.fresh hC, ?_, ?_, I.hok.kept old, ?_⟩
 ·exact fun y z c e1 e2 => I.ok.inj y z c (sub y c e1) (sub z c e2)
 ·intro y hy
  have hm : (y, NameKind.free) ∈ scope.names := by
   rcases hy with q | q
   ·exact relab_mem (env := X.env) B.cells q (.inl rfl)
   ·exact relab_mem (env := X.env) B.cells q (.inr rfl)
  exact clOf_has scope.names [] (.inl hm)
 ·exact fun y c z _ => absurd z Bool.false_ne_true
 ·intro b hb
  refine ⟨fun z => ?_, fun y c e z => (hf b hb).2.2.2.2.1 y c (sub y c e) z⟩
  have z' : b = C := z
  exact absurd (Nat.lt_of_lt_of_le (hfo b hb) hC) (by rw [z']; exact Nat.lt_irrefl _)
 ·exact fun b o e => I.bs b o e
 ·intro b o e hb
  rcases fpC b hb with z | z
  ·exact I.ok.noex b o e z
  ·exact absurd (Nat.lt_of_lt_of_le (Heap.lt_size (I.ok.bs b o e).1) z) (Nat.lt_irrefl _)
 ·intro b hb z
  rcases List.mem_cons.mp (I.stkSub b z) with e | e
  ·exact (hf b hb).2.1 e
  ·exact (hf b hb).2.2.1 e
 ·intro i y v e1 e2 e3
  cases i with
  | zero => simp at e2
  | succ k =>
   have e1' : frees[k]? = some y := by
    have e0 : (x :: frees)[k + 1]? = some y := e1
    simpa using e0
   obtain ⟨j, hj, hz⟩ := zip_get B.ln e1'
   obtain ⟨z1, z2, z3⟩ := B.zp _ hz
   have e2' : (frv σ js)[k]? = some (some v) := by simpa using e2
   have e4 : σ[j]? = some (some v) := by
    unfold frv at e2'
    rw [List.getElem?_map, hj] at e2'
    have e5 : (σ[j]?).join = some v := Option.some.inj e2'
    cases q : σ[j]? with
    | none => rw [q] at e5; cases e5
    | some w' => rw [q] at e5; cases w' with
     | none => cases e5
     | some w2 => cases e5; rfl
   have kX : X.env.kindOf y = some .cell := by show X.env.scope.names.lookup y = _; rw [hsc]; exact z2
   obtain ⟨u, r, q⟩ := hl j y v z1 e4 (.inr (.inl kX))
   refine ⟨u, r, ?_⟩
   rcases q with ⟨q, _⟩ | ⟨_, c, ec, ic⟩
   ·rw [kX] at q; cases q
   ·have kY : (compEnvC scope (clOf X.env.cells scope.names []) C X.env).kindOf y = some .cell := relab_free (env := X.env) (by rw [hsc]; exact B.fk) z3 kX
    refine .inr ⟨.inl kY, c, ?_, ?_⟩
    ·obtain ⟨c', ec'⟩ := clOf_has (cells := X.env.cells) scope.names [] (.inl (PySem.mem_of_lookup z3))
     have := sub y c' ec'
     rw [ec] at this
     cases this
     exact ec'
    ·obtain ⟨o, ho, hd⟩ := ic
     exact ⟨o, old c o ho, hd⟩
 ·intro y c e
  obtain ⟨v, o, ho, hd⟩ := I.cell y c (sub y c e)
  exact ⟨v, o, old c o ho, hd⟩
 ·exact fun y c e => I.freeC y c (sub y c e)
 ·intro p hp
  have hp' : p ∈ pins ++ [(D, oD)] := by simpa [cxB] using hp
  rcases List.mem_append.mp hp' with z | z
  ·obtain ⟨a1, a2, a3, a4, a5⟩ := I.pin p (List.mem_append_right _ z)
   refine ⟨old _ _ a1, a2, fun e => ?_, fun e => ?_, a5⟩
   ·exact absurd (Nat.lt_of_lt_of_le (Heap.lt_size a1) hC) (by rw [show p.1 = C from e]; exact Nat.lt_irrefl _)
   ·rcases List.mem_cons.mp (I.stkSub p.1 e) with e | e
    ·exact a3 e
    ·exact a4 e
  ·have z' : p = (D, oD) := by simpa using z
   subst z'
   refine ⟨gD, I.hok.fresh hD, hDC, fun e => ?_, nD⟩
   rcases List.mem_cons.mp (I.stkSub D e) with e | e
   ·exact absurd (Nat.lt_of_lt_of_le I.lt hD) (by rw [show D = X.env.locals from e]; exact Nat.lt_irrefl _)
   ·exact I.nofs hD e
 ·show (none :: frv σ js).length = (x :: frees).length
  rw [List.length_cons, List.length_cons, B.ln, frv, List.length_map]
end
theorem comp_turns {prog : Program} {w : World} {A : Around} {R : Result -> Shared -> Prop} {s : Shared} {elt target iter : Expr} {ifs : List Expr} {scope : Scope} {pos : Pos} {it acc : Value} {env : Env} (I : Nat -> Shared -> Prop)
  (turn : ∀ n s, I n s -> wpAny (model prog w) A (pyNext it) (fun r s1 => match r with
   | none => R (.ok .next) s1
   | some v => wpAny (model prog w) A (letOwnedTupleGo target it v) (fun _ s2 => wpAny (model prog w) A (assign target env v) (fun _ s3 =>
     wpAny (model prog w) A (forIn ifs true fun c r => if r = true then do let ok <- isTrue c env (eval c env); pure (ForInStep.yield ok) else pure (ForInStep.yield r)) (fun ok s4 =>
      if ok = true then wpAny (model prog w) A (eval elt env) (fun y s5 => wpAny (model prog w) A (call (.builtin "list.append") [acc, y]) (fun _ s6 => ∃ m, m < n ∧ I m s6) (fun _ _ => False) s5) (fun _ _ => False) s4
      else ∃ m, m < n /\ I m s4) (fun _ _ => False) s3) (fun _ _ => False) s2) (fun _ _ => False) s1) (fun _ _ => False) s)
  (n : Nat) (h : I n s) : codeAny (model prog w) A (.compLoop (.ListComp elt [⟨target, iter, ifs, 0⟩] scope pos) 0 it acc env) R s := by
 refine codeAny_loop rfl I (fun n s hI => ?_) n h
 show wpAny _ A ((compTurn (.ListComp elt [⟨target, iter, ifs, 0⟩] scope pos) 0 it acc env).onRaise (fun x => do noteFrame x env; theTreesLotGoes x)) _ _ s
 refine wpAny_noted ?_
 rw [compTurn_list]
 refine wpAny_bind (wpAny_standAt (wpAny_bind (wpAny_mono (turn n s hI) (fun r s1 h1 => ?_) fun _ _ z => z.elim)))
 cases r with
 | none => exact wpAny_pure h1
 | some v =>
  refine wpAny_bind (wpAny_mono h1 (fun _ s2 h2 => ?_) fun _ _ z => z.elim)
  refine wpAny_bind (wpAny_mono h2 (fun _ s3 h3 => ?_) fun _ _ z => z.elim)
  refine wpAny_bind (wpAny_mono h3 (fun ok s4 h4 => ?_) fun _ _ z => z.elim)
  cases ok with
  | false => exact wpAny_pure ⟨rfl, h4⟩
  | true =>
   refine wpAny_bind (wpAny_bind (wpAny_mono h4 (fun y s5 h5 => ?_) fun _ _ z => z.elim))
   exact wpAny_bind (wpAny_mono h5 (fun _ s6 h6 => wpAny_pure (wpAny_pure ⟨rfl, h6⟩)) fun _ _ z => z.elim)
section
variable {X : Cx} {pins : List (Addr × Obj)} {σ : St} {H : Hp} {s : Shared} {x : Str} {scope sc : Scope} {frees : List Str} {js : List Nat} {elt iter : Expr} {ifs : List Expr} {px pos : Pos} {tt : TT} {te : TE} {E : Value -> Shared -> Prop}
noncomputable abbrev lobj (its : List Value) (n : Nat) : Obj := { cls := .type "list", data := .seq its.toArray n }
theorem lc_run {it : Addr} {fp : List Addr} {tn : Nat -> Heap -> Prop} {J : It} {Qe : List V -> Hp -> Prop} {RR : Value -> Addr -> Result -> Shared -> Prop} (I : Inv X pins σ H s) (hc : X.calm = true) (hsc : X.env.scope = sc) (B : ScB X.N sc scope x frees js)
  (T : Turn X.prog X.w X.K (.Name x px) J fp it tn) (st : tn 0 s.heap) (f : ∀ b ∈ fp, FpOk X pins H b) (hW : LcW js tt te σ Qe J H)
  (ht : ∀ s H C fp, PTs (cxB X (x :: frees) scope s H C fp) ifs tt) (he : ∀ s H C fp, PE (cxB X (x :: frees) scope s H C fp) elt te)
  (hR : ∀ (D C : Addr) (s' : Shared) (H' : Hp) (ys : List V) (its : List Value) (n : Nat), s.heap.objs.size <= D -> s.heap.objs.size <= C -> D ≠ C -> Inv (cxB X (x :: frees) scope s H C fp) pins (none :: frv σ js) H' s' -> H' D = none ->
   Vals ys its -> s'.heap.get? D = some (lobj its n) -> ys.length <= sizeLine -> Qe ys H' -> RR (.ref D) C (.ok .next) s') :
  wpAny (model X.prog X.w) X.A (newList []) (fun acc s3 => wpAny (model X.prog X.w) X.A (newFunctionEnv scope X.env.globals (clOf X.env.cells scope.names []) [] X.env.qual none .none (some X.env)) (fun cenv s4 =>
   codeAny (model X.prog X.w) X.A (.compStart (.ListComp elt [⟨.Name x px, iter, ifs, 0⟩] scope pos) 0 (.ref it) acc { cenv with scope := relabel scope X.env }) (RR acc cenv.locals) s4) E s3) E s := by
 obtain ⟨W, ⟨m0, w0⟩, turn⟩ := hW
 refine wpAny_newObj_type (wpAny_newFunctionEnv B.cells (by intro y hy; simp at hy) (fun h₁ hns₁ hsb₁ => ?_) B.kind)
 dsimp only at hns₁ hsb₁ ⊢
 generalize hG : s.heap.push { cls := .type "list", dict := none, data := .seq ([] : List Value).toArray } = G at hns₁ hsb₁ ⊢
 have hC0 : G.objs.size = s.heap.objs.size + 1 := by rw [<- hG, Heap.size_push]
 have hCs0 : s.heap.objs.size <= G.objs.size := by rw [hC0]; exact Nat.le_succ _
 have hDC0 : s.heap.objs.size ≠ G.objs.size := by rw [hC0]; exact Nat.ne_of_lt (Nat.lt_succ_self _)
 obtain ⟨C, hCe⟩ : ∃ C : Addr, C = G.objs.size := ⟨_, rfl⟩
 obtain ⟨D, hDe⟩ : ∃ D : Addr, D = s.heap.objs.size := ⟨_, rfl⟩
 rw [<- hCe] at hns₁ hsb₁ hDC0 hCs0 ⊢
 have hDs : s.heap.objs.size <= D := by rw [hDe]; exact Nat.le_refl _
 have hCs : s.heap.objs.size <= C := hCs0
 have hDC : D ≠ C := by rw [hDe]; exact hDC0
 have old : ∀ b o, s.heap.get? b = some o -> h₁.get? b = some o := fun b o e => by
  refine hsb₁.extBut b o (ne_lt (Heap.lt_size e) hCs) (Heap.get?_push_of_some _ ?_)
  rw [<- hG]
  exact Heap.get?_push_of_some _ e
 have gD : h₁.get? D = some (lobj [] 0) := by
  refine hsb₁.extBut D _ hDC (Heap.get?_push_of_some _ ?_)
  rw [<- hG, hDe]
  exact Heap.get?_push_size _ rfl
 have hfo : ∀ b ∈ fp, b < s.heap.objs.size := fun b hb => by
  obtain ⟨o, e, _⟩ := T.obj 0 _ st b hb
  exact Heap.lt_size e
 show codeAny (model X.prog X.w) X.A (.compStart (.ListComp elt [⟨.Name x px, iter, ifs, 0⟩] scope pos) 0 (.ref it) (.ref s.heap.objs.size) (compEnvC scope (clOf X.env.cells scope.names []) C X.env)) (RR (.ref s.heap.objs.size) C) _
 rw [<- hDe]
 have nDf : D ∉ fp := fun z => ne_lt (hfo D z) hDs rfl
 have Y0 := blk_start (tk := s.toks + ([] : List (Str × Value)).length) (x := x) I hsc B f hfo hCs hDs hDC old hns₁ gD (fun v z => nomatch z)
 have tn0 : tn 0 h₁ := T.keep 0 _ _ st fun b _ o e => old b o e
 have sub : ∀ y c, (clOf X.env.cells scope.names []).lookup y = some c -> X.env.cells.lookup y = some c := fun y c e => by
  rcases clOf_sub scope.names [] (lcells I hsc B) e with q | q
  ·exact q
  ·cases q
 have pOld : ∀ p ∈ pins, p.1 < s.heap.objs.size := fun p hp => Heap.lt_size (I.pin p (List.mem_append_right _ hp)).1
 have stat : ∀ {H' : Hp} {o : Obj}, (∀ b ∈ fp, H' b = none) -> ∀ b ∈ fp, FpOk (cxB X (x :: frees) scope s H C fp) (pins ++ [(D, o)]) H' b := fun {H' o} hn b hb => by
  obtain ⟨_, a2, a3, a4, a5, a6⟩ := f b hb
  have lt := hfo b hb
  refine ⟨hn b hb, ?_, fun z => ?_, .inl hb, fun y c e => a5 y c (sub y c e), fun p hp => ?_⟩
  ·exact ne_lt lt hCs
  ·rcases List.mem_cons.mp (I.stkSub b z) with e | e
   ·exact a2 e
   ·exact a3 e
  ·have hp' : p ∈ pins ++ [(D, o)] := by simpa [cxB] using hp
   rcases List.mem_append.mp hp' with z | z
   ·exact a6 p (List.mem_append_right _ z)
   ·have z' : p = (D, o) := by simpa using z
    subst z'
    exact ne_lt' lt hDs
 have loop : ∀ s3 : Shared, s3 = { s with heap := h₁, toks := s.toks + ([] : List (Str × Value)).length } ->
   codeAny (model X.prog X.w) X.A (.compLoop (.ListComp elt [⟨.Name x px, iter, ifs, 0⟩] scope pos) 0 (.ref it) (.ref D) (compEnvC scope (clOf X.env.cells scope.names []) C X.env)) (RR (.ref D) C) s3 := by
  rintro s3 rfl
  refine comp_turns (fun n s' => ∃ i ys its k H', Inv (cxB X (x :: frees) scope s H C fp) (pins ++ [(D, lobj its k)]) (none :: frv σ js) H' s' /\ tn i s'.heap /\ (∀ b ∈ fp, H' b = none) /\ Vals ys its /\ W i n ys H') ?_ m0
   ⟨0, [], [], 0, H, Y0, tn0, fun b hb => (f b hb).1, .nil, w0⟩
  rintro n s4 ⟨i, ys, its, k, H4, I4, tn4, fr4, rv, w4⟩
  have pD : ∀ {pl : List (Addr × Obj)} {σ' : St} {H' : Hp} {s' : Shared}, Inv (cxB X (x :: frees) scope s H C fp) (pins ++ [(D, lobj its k)] ++ pl) σ' H' s' -> s'.heap.get? D = some (lobj its k) /\ H' D = none := fun I' => by
   have q := I'.pin (D, lobj its k) (List.mem_append_right _ (List.mem_append_left _ (List.mem_append_right _ List.mem_cons_self)))
   exact ⟨q.1, q.2.1⟩
  have pins_only : ∀ {pl : List (Addr × Obj)} {σ' : St} {H' : Hp} {s' : Shared}, Inv (cxB X (x :: frees) scope s H C fp) (pins ++ pl) σ' H' s' -> Inv (cxB X (x :: frees) scope s H C fp) pins σ' H' s' := fun I' => I'.unpinned
  rcases turn i n ys H4 w4 with ⟨stop, lz, qe⟩ | ⟨go, lz, step⟩
  ·refine thn (T.done (cxB X (x :: frees) scope s H C fp) rfl rfl rfl hc i _ s4 _ H4 (fun _ _ => False) I4 (stat fr4) tn4 stop) fun r s5 hh0_ => ?_
   obtain ⟨hr, I5⟩ := hh0_
   subst hr
   have I5' : Inv (cxB X (x :: frees) scope s H C fp) (pins ++ [(D, lobj its k)] ++ []) (none :: frv σ js) H4 s5 := by simpa using I5
   exact hR D C s5 H4 ys its k hDs hCs hDC (pins_only I5) (pD I5').2 rv (pD I5').1 lz qe
  ·refine thn (T.item (cxB X (x :: frees) scope s H C fp) rfl rfl rfl hc i _ s4 _ H4 (fun _ _ => False) I4 (stat fr4) tn4 go) fun r s5 hh0_ => ?_
   obtain ⟨u, hr, h5⟩ := hh0_
   subst hr
   refine thn h5 fun _ s6 hh0_ => ?_
   obtain ⟨y, H6, I6, r6, y6, tn6, fr6⟩ := hh0_
   have I6' := I6.pinned (stat fr6) (T.obj _ _ tn6)
   have hx : Loc (cxB X (x :: frees) scope s H C fp).env.scope x := .inl (lookup_relabel_local B.own)
   have dfs : D ∉ (cxB X (x :: frees) scope s H C fp).fs := fun z => by
    rcases List.mem_cons.mp (I.stkSub D z) with e | e
    ·exact ne_lt I.lt hDs e.symm
    ·exact I.nofs hDs e
   refine thn (pg_name (X := cxB X (x :: frees) scope s H C fp) (i := 0) B.nd rfl hx (.inr (lookup_relabel_local B.own)) _ s6 _ H6 y u (fun σ' H' => σ' = some y :: frv σ js /\ tt σ' H' fun b H2 =>
    if b = true then te (some y :: frv σ js) H2 fun v H3 => ∃ m', m' < n /\ W (i + 1) m' (ys ++ [v]) H3 else ∃ m', m' < n /\ W (i + 1) m' ys H2) I6' r6 ⟨rfl, step y H6 y6⟩) fun _ s7 ⟨σ7, H7, I7, e7, q7⟩ => ?_
   subst e7
   have back : ∀ {σ' : St} {H' : Hp} {s' : Shared}, Inv (cxB X (x :: frees) scope s H C fp) (pins ++ [(D, lobj its k)] ++ pinsAt fp s6.heap) σ' H' s' -> (∀ b ∈ fp, ∀ o, s6.heap.get? b = some o -> s'.heap.get? b = some o) /\ ∀ b ∈ fp, H' b = none := fun {σ' H' s'} I' =>
    ⟨fun b hb o e => (I'.pin (b, o) (List.mem_append_right _ (List.mem_append_right _ (mem_pinsAt hb e)))).1, fun b hb => by
     obtain ⟨o, e, _⟩ := T.obj _ _ tn6 b hb
     exact (I'.pin (b, o) (List.mem_append_right _ (List.mem_append_right _ (mem_pinsAt hb e)))).2.1⟩
   have forget : ∀ {pl : List (Addr × Obj)} {H' : Hp} {s' : Shared}, Inv (cxB X (x :: frees) scope s H C fp) pl (some y :: frv σ js) H' s' -> Inv (cxB X (x :: frees) scope s H C fp) pl (none :: frv σ js) H' s' := fun I' =>
    I'.weak rfl fun j v e => by
     cases j with
     | zero => simp at e
     | succ j => simpa using e
   refine thn (ht s H C fp _ s7 _ H7 _ I7 q7) fun ok s8 hh0_ => ?_
   obtain ⟨H8, I8, q8⟩ := hh0_
   cases ok with
   | false =>
    rw [if_neg Bool.false_ne_true] at q8 ⊢
    obtain ⟨m', hm, w8⟩ := q8
    obtain ⟨b1, b2⟩ := back I8
    exact ⟨m', hm, i + 1, ys, its, k, H8, forget I8.unpinned, T.keep _ _ _ tn6 b1, b2, rv, w8⟩
   | true =>
    rw [if_pos rfl] at q8 ⊢
    refine thn (he s H C fp _ s8 _ H8 _ I8 q8) fun v s9 hh0_ => ?_
    obtain ⟨vv, H9, I9, r9, m', hm, w9⟩ := hh0_
    obtain ⟨gD9, nD9⟩ := pD I9
    obtain ⟨b1, b2⟩ := back I9
    have hlen := rv.length
    refine call_meets F.slot_list_append ⟨_, gD9, rfl⟩ F.entry_list_append (F.args_list_append_2 _ _) (PySem.list_append D its.toArray k v (by rw [List.size_toArray]; omega)) ⟨gD9, ?_⟩
    have ea : its.toArray.push v = (its ++ [v]).toArray := by simp
    obtain ⟨k', q⟩ : ∃ k', (s9.heap.update D (Obj.mapSeq (·.push v))).get? D = some (lobj (its ++ [v]) k') := by
     have q0 := PySem.IsL.update gD9 (·.push v)
     rw [ea] at q0
     exact ⟨_, q0⟩
    have oth : ∀ b o, b ≠ D -> s9.heap.get? b = some o -> (s9.heap.update D (Obj.mapSeq (·.push v))).get? b = some o := fun b o hb e => (Heap.get?_update_other s9.heap (Obj.mapSeq (·.push v)) (Ne.symm hb)).trans e
    have I10 : Inv (cxB X (x :: frees) scope s H C fp) pins (some y :: frv σ js) H9 { s9 with heap := s9.heap.update D (Obj.mapSeq (·.push v)) } :=
     (pins_only I9.unpinned).turned (t' := s9.toks) (it := D) oth nD9 hDC (.inr hDs) (fun y' c e z => by
      obtain ⟨w', q'⟩ := I.cell y' c (sub y' c e)
      exact ne_lt q'.lt hDs z) (fun p hp z => by
      have hp' : p ∈ pins := by simpa [cxB] using hp
      exact ne_lt (pOld p hp') hDs z)
    refine ⟨m', hm, i + 1, ys ++ [vv], its ++ [v], k', H9, forget (I10.pins_of fun p hp => ?_), T.keep _ _ _ tn6 fun b hb o e => oth b o (fun z => nDf (z ▸ hb)) (b1 b hb o e), b2, rv.append (.cons r9 .nil), w9⟩
    rcases List.mem_append.mp hp with z | z
    ·exact I10.pin p (List.mem_append_right _ z)
    ·have z' : p = (D, lobj (its ++ [v]) k') := List.mem_singleton.mp z
     subst z'
     exact ⟨q, nD9, hDC, dfs, fun w' z2 => nomatch z2⟩
 exact codeAny_compStart_list (loop _ rfl) (T.self _ 0 _ _ _ tn0 (loop _ rfl))
theorem lc_after {fp : List Addr} {D C : Addr} {s' : Shared} {H' : Hp} {ys : List V} {its : List Value} {n : Nat} (I : Inv X pins σ H s) (f : ∀ b ∈ fp, FpOk X pins H b) (hD : s.heap.objs.size <= D) (J : Inv (cxB X (x :: frees) scope s H C fp) pins (none :: frv σ js) H' s') (nD : H' D = none) (rv : Vals ys its)
  (gD : s'.heap.get? D = some (lobj its n)) (hz : ys.length <= sizeLine) : Inv X pins σ (upd H' D (.lst ys)) s' := by
 have u : Un (frs X.stack) fp H H' s.heap s'.heap := J.base
 have hk : HOk X.prog X.w H' s'.heap := J.hok
 refine I.call' (ch := fp) J.os ⟨u.keep, u.slot, fun b o e n' hx => ?_, u.there, fun b xs e => ?_, fun b o v e => ?_, fun b ps e => ?_⟩ (fun b o e => ?_) J.bare fun b hb => ?_
 ·rw [upd_ne (ne_lt (Heap.lt_size e) hD)]
  exact u.free b o e n' hx
 ·have q := u.tups b xs e
  rw [upd_ne (ne_of_none q nD)]
  exact q
 ·have q := u.frzs b o v e
  rw [upd_ne (ne_of_none q nD)]
  exact q
 ·obtain ⟨more, q⟩ := u.tbls b ps e
  exact ⟨more, by rw [upd_ne (ne_of_none q nD)]; exact q⟩
 ·by_cases hb : b = D
  ·subst hb
   rw [upd_same] at e
   cases e
   exact ⟨hz, its, n, rv, gD⟩
  ·rw [upd_ne hb] at e
   exact (hk b o e).stay (fun c v _ q => q) (fun c q => by rw [upd_ne (ne_of_none q nD)]; exact q) fun c xs q => by rw [upd_ne (ne_of_none q nD)]; exact q
 ·obtain ⟨_, a2, a3, a4, a5, a6⟩ := f b hb
  exact ⟨a4, a2, a5, a6⟩
theorem lc_go {C : Addr} {s' : Shared} {H' : Hp} {σ' : St} {h' : Heap} (I : Inv X pins σ H s) (J : Inv X pins σ' H' s') (hC : s.heap.objs.size <= C) (nC : H' C = none) (hs : Heap.SameBut C s'.heap h') : Inv X pins σ' H' { s' with heap := h' } := by
 refine J.turned (t' := s'.toks) (it := C) (fun b o hb e => (hs.2 b hb).trans e) nC (fun z => ?_) (.inr (Nat.le_trans I.sz hC)) (fun y c e z => ?_) fun p hp z => ?_
 ·exact ne_lt I.lt hC z.symm
 ·obtain ⟨v, q⟩ := I.cell y c e
  exact ne_lt q.lt hC z
 ·exact ne_lt (Heap.lt_size (I.pin p hp).1) hC z
noncomputable def tLC (wi : TI) (js : List Nat) (tt : TT) (te : TE) : TE := fun σ H Q => wi σ H (LcW js tt te σ fun ys H' => ∀ D, H' D = none -> Q (.ref D) (upd H' D (.lst ys)))
theorem pe_lc {wi : TI} (hc : X.calm = true) (hsc : X.env.scope = sc) (B : ScB X.N sc scope x frees js) (hi : PI X (.Name x px) iter wi) (ht : ∀ s H C fp, PTs (cxB X (x :: frees) scope s H C fp) ifs tt) (he : ∀ s H C fp, PE (cxB X (x :: frees) scope s H C fp) elt te)
  (hs : ∀ v, foldedSetIterable iter X.env v = pure v) : PE X (.ListComp elt [⟨.Name x px, iter, ifs, 0⟩] scope pos) (tLC wi js tt te) := by
 intro pins s σ H Q I h
 rw [eval_ListComp]
 refine wpAny_comprehension_free (use := none) rfl hs (closure_eq (lcells I hsc B)) B.kind B.locs (thn (hi pins s σ H _ I h) fun v s1 h1 => thn h1 fun itv s2 h2 => ?_)
 obtain ⟨it, fp, tn, J, H2, e, I2, T, st2, f2, hW⟩ := h2
 subst e
 refine lc_run (RR := fun acc C => compPost (model X.prog X.w) X.A X.xe none (EP X pins σ Q) acc C) I2 hc hsc B T st2 f2 hW ht he ?_
 intro D C s' H' ys its n hD hC hDC J' nD rv gD hz q
 obtain ⟨m, hn, _⟩ := J'.loc
 refine ⟨m, hn, fun h' hs' => ?_⟩
 have A1 := lc_after I2 f2 hD J' nD rv gD hz
 have nC : (upd H' D (.lst ys)) C = none := by rw [upd_ne (Ne.symm hDC)]; exact J'.free
 exact ⟨.ref D, _, lc_go I2 A1 hC nC hs', rfl, q D nD⟩
noncomputable def tSetLC (i : Nat) (wi : TI) (js : List Nat) (tt : TT) (te : TE) : TS := fun D σ H => wi σ H (LcW js tt te σ fun ys H' => ∀ a, H' a = none -> D.nx (σ.set i (some (.ref a))) (upd H' a (.lst ys)))
theorem ps_setLC {wi : TI} {i : Nat} {y : Str} {py spos : Pos} (hN : X.N.Nodup) (hi' : X.N[i]? = some y) (hy : X.env.scope.names.lookup y = some .local) (hc : X.calm = true) (hsc : X.env.scope = sc) (B : ScB X.N sc scope x frees js) (hi : PI X (.Name x px) iter wi)
  (ht : ∀ s H C fp, PTs (cxB X (x :: frees) scope s H C fp) ifs tt) (he : ∀ s H C fp, PE (cxB X (x :: frees) scope s H C fp) elt te)
  (hsw : swapsWith (.ListComp elt [⟨.Name x px, iter, ifs, 0⟩] scope pos) (some (.Name y py)) spos.line X.env = pure true)
  (hs : ∀ v, foldedSetIterable iter X.env v = pure v) : PS X (.Assign [.Name y py] (.ListComp elt [⟨.Name x px, iter, ifs, 0⟩] scope pos) spos) (tSetLC i wi js tt te) := by
 intro pins s σ H D I h
 rw [exec_Assign_Name_used _ _ _ _ hsw]
 refine wpAny_bind (wpAny_standAt (wpAny_bind ?_))
 show wpAny _ X.A (do let _ <- comprehension (.ListComp elt [⟨.Name x px, iter, ifs, 0⟩] scope pos) scope X.env _ (newList []) false (eval iter X.env) (some (assign (.Name y py) X.env))) _ _ s
 refine wpAny_bind (wpAny_mono (wpAny_comprehension_free (use := some (assign (.Name y py) X.env)) (Q := fun _ s' => SP X pins D .next s') rfl hs (closure_eq (lcells I hsc B)) B.kind B.locs
  (thn (hi pins s σ H _ I h) fun v s1 h1 => thn h1 fun itv s2 h2 => ?_)) (fun _ s' q => wpAny_pure (wpAny_pure q)) fun _ _ z => z)
 obtain ⟨it, fp, tn, J, H2, e, I2, T, st2, f2, hW⟩ := h2
 subst e
 refine lc_run (RR := fun acc C => compPost (model X.prog X.w) X.A X.xe (some (assign (.Name y py) X.env)) (fun _ s' => SP X pins D .next s') acc C) I2 hc hsc B T st2 f2 hW ht he ?_
 intro a C s' H' ys its n hD hC hDC J' nD rv gD hz q
 have A1 := lc_after I2 f2 hD J' nD rv gD hz
 have nC : (upd H' a (.lst ys)) C = none := by rw [upd_ne (Ne.symm hDC)]; exact J'.free
 obtain ⟨m, hn, _⟩ := J'.loc
 have hL : C ≠ X.env.locals := ne_lt' I2.lt hC
 show wpAny _ X.A (assign (.Name y py) X.env (.ref a)) _ _ s'
 refine wpAny_assign_Name (store_ok2 A1 hN hi' (.inl hy) (v := .ref a) rfl (fun s3 I3 hh0_ => ?_) (.inr hy))
 obtain ⟨b, sb, hb⟩ := hh0_
 have nb : C ≠ b := by
  rcases hb with z | z
  ·rw [z]; exact hL
  ·intro e
   obtain ⟨v, q'⟩ := I2.cell y b z
   exact ne_lt q'.lt hC e.symm
 obtain ⟨o, es, ep, ho, r⟩ := hn
 refine ⟨m, ⟨o, es, ep, (sb.2 C nb).trans ho, r⟩, fun h' hs' => ?_⟩
 exact ⟨_, _, lc_go I2 I3 hC nC hs', q a nD⟩
end
end L2
set_option maxRecDepth 100000
namespace Fx
open PySem PySem.Spec PyProof.Rows L2
mutual
noncomputable def Rep (K : PySem.W.Frag) (H : Hp) : D -> V -> Prop
 | .non, v => v = .non
 | .bl b, v => v = .bl b
 | .int i, v => v = .int i
 | .str x, v => v = .str x
 | .tup ds, v => ∃ a vs, v = .ref a /\ SqT K H a vs /\ Reps K H ds vs
 | .lst ds, v => ∃ a vs, v = .ref a /\ SqL K H a vs /\ Reps K H ds vs
noncomputable def Reps (K : PySem.W.Frag) (H : Hp) : List D -> List V -> Prop
 | [], vs => vs = []
 | d :: ds, vs => ∃ v r, vs = v :: r /\ Rep K H d v /\ Reps K H ds r
end
theorem Same.rd {H H' : Hp} {a : Addr} {u : HO} (e : Same H H') (h : Rd H a u) : Rd H' a u := by
 rcases h with h | ⟨o, h⟩
 ·exact .inl (e _ _ h)
 ·exact .inr ⟨o, e _ _ h⟩
theorem Same.seqT {K : PySem.W.Frag} {H H' : Hp} {a : Addr} {xs : List V} (e : Same H H') (h : SqT K H a xs) : SqT K H' a xs := by
 rcases h with h | h
 ·exact .inl (Same.rd e h)
 ·exact .inr h
section
variable {K : PySem.W.Frag} {H H' : Hp}
mutual
theorem Rep.mono (e : Same H H') : ∀ (d : D) {v : V}, Rep K H d v -> Rep K H' d v
 | .non, _, h => h
 | .bl _, _, h => h
 | .int _, _, h => h
 | .str _, _, h => h
 | .tup ds, _, h => by
  unfold Rep at h ⊢
  obtain ⟨a, vs, q, s, r⟩ := h
  exact ⟨a, vs, q, Same.seqT e s, Reps.mono e ds r⟩
 | .lst ds, _, h => by
  unfold Rep at h ⊢
  obtain ⟨a, vs, q, s, r⟩ := h
  exact ⟨a, vs, q, Same.seq e s, Reps.mono e ds r⟩
theorem Reps.mono (e : Same H H') : ∀ (ds : List D) {vs : List V}, Reps K H ds vs -> Reps K H' ds vs
 | [], _, h => h
 | d :: ds, _, h => by
  unfold Reps at h ⊢
  obtain ⟨v, r, q, s, t⟩ := h
  exact ⟨v, r, q, Rep.mono e d s, Reps.mono e ds t⟩
end
theorem Reps.length : ∀ {ds : List D} {vs : List V}, Reps K H ds vs -> ds.length = vs.length
 | [], _, h => by unfold Reps at h; rw [h]; rfl
 | d :: ds, _, h => by
  unfold Reps at h
  obtain ⟨v, r, q, _, t⟩ := h
  rw [q, List.length_cons, List.length_cons, Reps.length t]
theorem Reps.get : ∀ {ds : List D} {vs : List V} {i : Nat} {d : D}, Reps K H ds vs -> ds[i]? = some d -> ∃ v, vs[i]? = some v /\ Rep K H d v
 | [], _, _, _, _, e => by simp at e
 | d :: ds, _, 0, _, h, e => by
  unfold Reps at h
  obtain ⟨v, r, rfl, s, _⟩ := h
  simp at e; subst e
  exact ⟨v, rfl, s⟩
 | d :: ds, _, i + 1, d', h, e => by
  unfold Reps at h
  obtain ⟨v, r, rfl, _, t⟩ := h
  obtain ⟨w, a, b⟩ := Reps.get (i := i) (d := d') t (by simpa using e)
  exact ⟨w, by simpa using a, b⟩
theorem Reps.app : ∀ {ds es : List D} {vs ws : List V}, Reps K H ds vs -> Reps K H es ws -> Reps K H (ds ++ es) (vs ++ ws)
 | [], _, _, _, h, h' => by unfold Reps at h; rw [h]; exact h'
 | d :: ds, es, _, ws, h, h' => by
  unfold Reps at h
  obtain ⟨v, r, rfl, s, t⟩ := h
  show Reps K H (d :: (ds ++ es)) (v :: (r ++ ws))
  unfold Reps
  exact ⟨v, r ++ ws, rfl, s, Reps.app t h'⟩
theorem Reps.take : ∀ {ds : List D} {vs : List V} (n : Nat), Reps K H ds vs -> Reps K H (ds.take n) (vs.take n)
 | [], _, n, h => by unfold Reps at h; rw [h]; simp [Reps]
 | d :: ds, vs, 0, h => by simp [Reps]
 | d :: ds, _, n + 1, h => by
  unfold Reps at h
  obtain ⟨v, r, rfl, s, t⟩ := h
  show Reps K H (d :: ds.take n) (v :: r.take n)
  unfold Reps
  exact ⟨v, r.take n, rfl, s, Reps.take n t⟩
theorem Reps.drop : ∀ {ds : List D} {vs : List V} (n : Nat), Reps K H ds vs -> Reps K H (ds.drop n) (vs.drop n)
 | [], _, n, h => by unfold Reps at h; rw [h]; simp [Reps]
 | d :: ds, vs, 0, h => by simpa using h
 | d :: ds, _, n + 1, h => by
  unfold Reps at h
  obtain ⟨v, r, rfl, s, t⟩ := h
  simpa using Reps.drop n t
theorem Reps.one {d : D} {v : V} (h : Rep K H d v) : Reps K H [d] [v] := by
 unfold Reps Reps
 exact ⟨v, [], rfl, h, rfl⟩
theorem Reps.cons {d : D} {ds : List D} {v : V} {vs : List V} (h : Rep K H d v) (t : Reps K H ds vs) : Reps K H (d :: ds) (v :: vs) := by
 unfold Reps
 exact ⟨v, vs, rfl, h, t⟩
theorem Reps.nil_ : Reps K H [] [] := by unfold Reps; rfl
end
structure FC where
 Hi : Hp
 He : Hp
 Ap : List Addr
noncomputable def OwOk (K : PySem.W.Frag) (H0 H : Hp) (a : Addr) : MO -> Prop
 | .lst ds => ∃ vs, H a = some (.lst vs) /\ Reps K H0 ds vs
 | .dic kds => ∃ ks vs, H a = some (.dK ((ks.map Sum.inr).zip vs)) /\ ks = kds.map (·.1) /\ Reps K H0 (kds.map (·.2)) vs
structure RS (K : PySem.W.Frag) (c : FC) (H0 H : Hp) (ρ : En) (σ : L2.St) : Prop where
 same : Same H0 H
 init : Same c.Hi H0
 fresh : ∀ b o, H0 b = some o -> c.Hi b = some o \/ c.He b = none
 keep : ∀ b o, c.He b = some o -> b ∉ c.Ap -> H b = some o
 apt : ∀ a ∈ c.Ap, H a ≠ none
 len : ρ.length = σ.length
 im : ∀ (i : Nat) (d : D), ρ[i]? = some (.im d) -> ∃ v, σ[i]? = some (some v) /\ Rep K H0 d v
 ow : ∀ (i : Nat) (b : Bool) (o : MO), ρ[i]? = some (.ow b o) -> ∃ a, σ[i]? = some (some (.ref a)) /\ H0 a = none /\ (if b = true then a ∈ c.Ap else c.He a = none) /\ OwOk K H0 H a o
 ne : ∀ (i j : Nat) (b b' : Bool) (o o' : MO) (a : Addr), ρ[i]? = some (.ow b o) -> ρ[j]? = some (.ow b' o') -> σ[i]? = some (some (.ref a)) -> σ[j]? = some (some (.ref a)) -> i = j
section
variable {K : PySem.W.Frag} {c : FC} {H0 H H0' H' : Hp} {ρ : En} {σ : L2.St}
theorem OwOk.some {a : Addr} {o : MO} (h : OwOk K H0 H a o) : ∃ u, H a = Option.some u := by
 cases o with
 | lst ds => obtain ⟨vs, e, _⟩ := h; exact ⟨_, e⟩
 | dic ds => obtain ⟨ks, vs, e, _⟩ := h; exact ⟨_, e⟩
theorem OwOk.step {a : Addr} {o : MO} (h : OwOk K H0 H a o) (s0 : Same H0 H0') (s : ∀ u, H a = Option.some u -> H' a = Option.some u) : OwOk K H0' H' a o := by
 cases o with
 | lst ds => obtain ⟨vs, e, r⟩ := h; exact ⟨vs, s _ e, Reps.mono s0 ds r⟩
 | dic ds => obtain ⟨ks, vs, e, q, r⟩ := h; exact ⟨ks, vs, s _ e, q, Reps.mono s0 _ r⟩
structure Step (H0 H H0' H' : Hp) : Prop where
 s0 : Same H0 H0'
 s : Same H H'
 s' : Same H0' H'
 fr : ∀ b o, H0' b = some o -> H0 b = some o \/ H b = none
theorem RS.after (R : RS K c H0 H ρ σ) (S : Step H0 H H0' H') : RS K c H0' H' ρ σ := by
 refine ⟨S.s', R.init.trans S.s0, fun b o e => ?_, fun b o e n => S.s _ _ (R.keep b o e n), fun a ha e => ?_, R.len, fun i d e => ?_, fun i b o e => ?_, R.ne⟩
 ·rcases S.fr b o e with h | h
  ·exact R.fresh b o h
  ·refine .inr ?_
   cases q : c.He b with
   | none => rfl
   | some u =>
    by_cases hb : b ∈ c.Ap
    ·exact absurd h (R.apt b hb)
    ·rw [R.keep b u q hb] at h; cases h
 ·cases q : H a with
  | none => exact R.apt a ha q
  | some u => rw [S.s _ _ q] at e; cases e
 ·obtain ⟨v, a, b⟩ := R.im i d e
  exact ⟨v, a, Rep.mono S.s0 d b⟩
 ·obtain ⟨a, x, y, z, w⟩ := R.ow i b o e
  refine ⟨a, x, ?_, z, w.step S.s0 fun u q => S.s _ _ q⟩
  obtain ⟨u, q⟩ := w.some
  cases t : H0' a with
  | none => rfl
  | some o' =>
   rcases S.fr a o' t with h | h
   ·rw [y] at h; cases h
   ·rw [q] at h; cases h
theorem Step.refl (s : Same H0 H) : Step H0 H H0 H := ⟨Same.refl _, Same.refl _, s, fun _ _ e => .inl e⟩
theorem Step.trans {A B : Hp} (x : Step H0 H H0' H') (y : Step H0' H' A B) : Step H0 H A B := by
 refine ⟨x.s0.trans y.s0, x.s.trans y.s, y.s', fun b o e => ?_⟩
 rcases y.fr b o e with h | h
 ·exact x.fr b o h
 ·exact .inr (x.s.free h)
theorem Step.alloc {p : Addr} {o : HO} (s : Same H0 H) (hp : H p = none) : Step H0 H (upd H0 p o) (upd H p o) := by
 have h0 : H0 p = none := s.free hp
 refine ⟨fun b u e => by rw [upd_ne (ne_of_none e h0)]; exact e, fun b u e => by rw [upd_ne (ne_of_none e hp)]; exact e, fun b u e => ?_, fun b u e => ?_⟩
 ·by_cases hb : b = p
  ·subst hb; rw [upd_same] at e ⊢; exact e
  ·rw [upd_ne hb] at e ⊢; exact s _ _ e
 ·by_cases hb : b = p
  ·subst hb; exact .inr hp
  ·rw [upd_ne hb] at e; exact .inl e
end
noncomputable def tE (K : PySem.W.Frag) (F : FE) : TE := fun σ H Q => ∃ c H0 ρ d ρ', RS K c H0 H ρ σ /\ F ρ = some (d, ρ') /\ ∀ v H0' H', Same H0 H0' -> RS K c H0' H' ρ' σ -> Rep K H0' d v -> Q v H'
noncomputable def tTt (K : PySem.W.Frag) (F : FT) : TT := fun σ H Q => ∃ c H0 ρ b ρ', RS K c H0 H ρ σ /\ F ρ = some (b, ρ') /\ ∀ H0' H', Same H0 H0' -> RS K c H0' H' ρ' σ -> Q b H'
noncomputable def tAa (K : PySem.W.Frag) (F : FA) : TA := fun σ H Q => ∃ c H0 ρ ds ρ', RS K c H0 H ρ σ /\ F ρ = some (ds, ρ') /\ ∀ vs H0' H', Same H0 H0' -> RS K c H0' H' ρ' σ -> Reps K H0' ds vs -> Q vs H'
noncomputable def tOo (K : PySem.W.Frag) (F : FO) : TO := fun σ H Q => ∃ c H0 ρ o ρ', RS K c H0 H ρ σ /\ F ρ = some (o, ρ') /\ ∀ H0' H', Same H0 H0' -> RS K c H0' H' ρ' σ -> Q o H'
noncomputable def XE (X : Cx) (e : Expr) (F : FE) : Prop := PE X e (tE X.K F)
noncomputable def XT (X : Cx) (e : Expr) (F : FT) : Prop := PT X e (tTt X.K F)
noncomputable def XW (X : Cx) (e : Expr) (F : FT) : Prop := PW X e (tTt X.K F)
noncomputable def XA (X : Cx) (es : List Expr) (F : FA) : Prop := PA X es (tAa X.K F)
noncomputable def XO (X : Cx) (e : Option Expr) (F : FO) : Prop := PO X e (tOo X.K F)
theorem bnd_eq {α β : Type} {x : Option α} {f : α -> Option β} {b : β} (h : bnd x f = some b) : ∃ a, x = some a /\ f a = some b := by
 cases x with
 | none => cases h
 | some a => exact ⟨a, rfl, h⟩
theorem PE.wk {X : Cx} {e : Expr} {t t' : TE} (h : PE X e t) (w : ∀ σ H Q, t' σ H Q -> t σ H Q) : PE X e t' := fun pins s σ H Q I q => h pins s σ H Q I (w σ H Q q)
theorem PT.wk {X : Cx} {e : Expr} {t t' : TT} (h : PT X e t) (w : ∀ σ H Q, t' σ H Q -> t σ H Q) : PT X e t' := fun pins s σ H Q I q => h pins s σ H Q I (w σ H Q q)
theorem PW.wk {X : Cx} {e : Expr} {t t' : TT} (h : PW X e t) (w : ∀ σ H Q, t' σ H Q -> t σ H Q) : PW X e t' := fun wh pins s σ H Q I q => h wh pins s σ H Q I (w σ H Q q)
theorem PA.wk {X : Cx} {e : List Expr} {t t' : TA} (h : PA X e t) (w : ∀ σ H Q, t' σ H Q -> t σ H Q) : PA X e t' := fun pos pins s σ H Q I q => h pos pins s σ H Q I (w σ H Q q)
theorem PS.wk {X : Cx} {e : Stmt} {t t' : TS} (h : PS X e t) (w : ∀ D σ H, t' D σ H -> t D σ H) : PS X e t' := fun pins s σ H D I q => h pins s σ H D I (w D σ H q)
theorem PSs.wk {X : Cx} {e : List Stmt} {t t' : TS} (h : PSs X e t) (w : ∀ D σ H, t' D σ H -> t D σ H) : PSs X e t' := fun pins s σ H D I q => h pins s σ H D I (w D σ H q)
section
variable {X : Cx} {pos : Pos} {a b e : Expr} {F G L : FE} {T U : FT}
theorem xv (i : Nat) {x : Str} (hN : X.N[i]? = some x := by rfl) (hv : Vis X.env.scope x := by first | exact Or.inl rfl | exact Or.inr (Or.inl rfl) | exact Or.inr (Or.inr rfl)) (hd : (x == ("__debug__" : Str)) = false := by decide)
  (hcd : (x == ("__classdict__" : Str)) = false := by decide) : XE X (.Name x pos) (eV i) :=
 PE.wk (pe_var hN hv hd hcd) fun σ H Q hh0_ => by
  obtain ⟨c, H0, ρ, d, ρ', R, f, q⟩ := hh0_
  unfold eV at f
  cases z : ρ[i]? with
  | none => rw [z] at f; cases f
  | some sl =>
   rw [z] at f
   cases sl with
   | no => cases f
   | ow b o => cases f
   | im d' =>
    have f' : some (d', ρ) = some (d, ρ') := f
    cases f'
    obtain ⟨v, e1, e2⟩ := R.im i _ z
    exact ⟨v, e1, q v H0 H (Same.refl _) R e2⟩
theorem xnever : XE X e eNever := fun pins s σ H Q I hh0_ => by obtain ⟨c, H0, ρ, d, ρ', R, f, q⟩ := hh0_; cases f
theorem eC_inv {d d' : D} {ρ ρ' : En} (h : eC d ρ = some (d', ρ')) : d' = d /\ ρ' = ρ := by
 have h' : some (d, ρ) = some (d', ρ') := h
 cases h'; exact ⟨rfl, rfl⟩
theorem xint {i : Int} {j} : XE X (.Constant (.int i) j pos) (eC (.int i)) := PE.wk pe_int fun σ H Q hh0_ => by
 obtain ⟨c, H0, ρ, d, ρ', R, f, q⟩ := hh0_
 obtain ⟨rfl, rfl⟩ := eC_inv f
 exact q _ H0 H (Same.refl _) R (by unfold Rep; rfl)
theorem xbl {i : Bool} {j} : XE X (.Constant (.bool i) j pos) (eC (.bl i)) := PE.wk pe_bl fun σ H Q hh0_ => by
 obtain ⟨c, H0, ρ, d, ρ', R, f, q⟩ := hh0_
 obtain ⟨rfl, rfl⟩ := eC_inv f
 exact q _ H0 H (Same.refl _) R (by unfold Rep; rfl)
theorem xnon {j} : XE X (.Constant .none j pos) (eC .non) := PE.wk pe_non fun σ H Q hh0_ => by
 obtain ⟨c, H0, ρ, d, ρ', R, f, q⟩ := hh0_
 obtain ⟨rfl, rfl⟩ := eC_inv f
 exact q _ H0 H (Same.refl _) R (by unfold Rep; rfl)
theorem xstr {x : Str} {j} : XE X (.Constant (.str x) j pos) (eC (.str x)) := PE.wk pe_str fun σ H Q hh0_ => by
 obtain ⟨c, H0, ρ, d, ρ', R, f, q⟩ := hh0_
 obtain ⟨rfl, rfl⟩ := eC_inv f
 exact q _ H0 H (Same.refl _) R (by unfold Rep; rfl)
noncomputable abbrev Aft (K : PySem.W.Frag) (c : FC) (H0 : Hp) (ρ : En) (σ : L2.St) (d : D) (Q : VK) : Prop := ∀ v H0' H', Same H0 H0' -> RS K c H0' H' ρ σ -> Rep K H0' d v -> Q v H'
noncomputable def OpD (K : PySem.W.Frag) (r : R2) (op : D -> D -> Option D) : Prop := ∀ (c : FC) (H0 H : Hp) (ρ : En) (σ : L2.St) (x y d : D) (vx vy : V) (Q : VK), RS K c H0 H ρ σ -> Rep K H0 x vx -> Rep K H0 y vy -> op x y = some d -> Aft K c H0 ρ σ d Q -> r vx vy H Q
noncomputable def BinOk (X : Cx) (op : Operator) (f : D -> D -> Option D) : Prop := ∃ r, OpR X (binaryOp op) r /\ OpD X.K r f
noncomputable def CmpOk (X : Cx) (op : CmpOp) (f : D -> D -> Option D) : Prop := ∃ r, OpR X (compareOp op) r /\ OpD X.K r f
theorem e2_inv {op : D -> D -> Option D} {ρ ρ' : En} {d : D} (h : e2 op F G ρ = some (d, ρ')) : ∃ x ρ1 y, F ρ = some (x, ρ1) /\ G ρ1 = some (y, ρ') /\ op x y = some d := by
 unfold e2 at h
 obtain ⟨⟨x, ρ1⟩, h1, h⟩ := bnd_eq h
 obtain ⟨⟨y, ρ2⟩, h2, h⟩ := bnd_eq h
 obtain ⟨z, h3, h⟩ := bnd_eq h
 have h' : some (z, ρ2) = some (d, ρ') := h
 cases h'
 exact ⟨x, ρ1, y, h1, h2, h3⟩
theorem two_of {K : PySem.W.Frag} {op : D -> D -> Option D} {r : R2} (o : OpD K r op) {σ : L2.St} {H : Hp} {Q : VK} (h : tE K (e2 op F G) σ H Q) : tOp r (tE K F) (tE K G) σ H Q := by
 obtain ⟨c, H0, ρ, d, ρ', R, f, q⟩ := h
 obtain ⟨x, ρ1, y, h1, h2, h3⟩ := e2_inv f
 refine ⟨c, H0, ρ, x, ρ1, R, h1, fun vx H1 Hh s1 R1 r1 => ?_⟩
 refine ⟨c, H1, ρ1, y, ρ', R1, h2, fun vy H2 Hh2 s2 R2 r2 => ?_⟩
 exact o c H2 Hh2 ρ' σ x y d vx vy Q R2 (Rep.mono s2 x r1) r2 h3 fun v H3 Hh3 s3 R3 r3 => q v H3 Hh3 (s1.trans (s2.trans s3)) R3 r3
theorem xb {op : Operator} {f : D -> D -> Option D} (o : BinOk X op f) (ha : XE X a F) (hb : XE X b G) : XE X (.BinOp a op b pos) (e2 f F G) := by
 obtain ⟨r, h1, h2⟩ := o
 exact PE.wk (pe_op h1 ha hb) fun σ H Q h => two_of h2 h
theorem xcmp {op : CmpOp} {f : D -> D -> Option D} (o : CmpOk X op f) (ha : XE X a F) (hb : XE X b G) (hm : behindInMarks op b = false := by first | exact nomark _ | with_unfolding_all rfl) : XE X (.Compare a [op] [b] pos) (e2 f F G) := by
 obtain ⟨r, h1, h2⟩ := o
 exact PE.wk (pe_cmpR h1 ha hb hm) fun σ H Q h => two_of h2 h
theorem tB_of {K : PySem.W.Frag} {t : TE} {σ : L2.St} {H : Hp} {Q : Bool -> Hp -> Prop} (w : ∀ Q, tE K F σ H Q -> t σ H Q) (h : tTt K (tB F) σ H Q) : tTest t σ H Q := by
 obtain ⟨c, H0, ρ, b, ρ', R, f, q⟩ := h
 unfold tB at f
 obtain ⟨⟨d, ρ1⟩, h1, f⟩ := bnd_eq f
 obtain ⟨b', h2, f⟩ := bnd_eq f
 have f' : some (b', ρ1) = some (b, ρ') := f
 cases f'
 refine w _ ⟨c, H0, ρ, d, _, R, h1, fun v H1 Hh s1 R1 r1 => ?_⟩
 cases d with
 | bl k =>
  have e : k = b := Option.some.inj h2
  unfold Rep at r1
  exact ⟨k, r1, by rw [e]; exact q H1 Hh s1 R1⟩
 | _ => cases h2
theorem xt {op : CmpOp} {f : D -> D -> Option D} (o : CmpOk X op f) (ha : XE X a F) (hb : XE X b G) (hm : behindInMarks op b = false := by first | exact nomark _ | with_unfolding_all rfl) : XT X (.Compare a [op] [b] pos) (tB (e2 f F G)) := by
 obtain ⟨r, h1, h2⟩ := o
 exact PT.wk (pt_cmpR h1 ha hb hm) fun σ H Q h => tB_of (fun Q h => two_of h2 h) h
theorem three_of {K : PySem.W.Frag} {op op' : D -> D -> Option D} {r r' : R2} (o : OpD K r op) (o' : OpD K r' op') {σ : L2.St} {H : Hp} {Q : VK} (h : tE K (e3 op op' F G L) σ H Q) : tChain r r' (tE K F) (tE K G) (tE K L) σ H Q := by
 obtain ⟨c, H0, ρ, d, ρ', R, f, q⟩ := h
 unfold e3 at f
 obtain ⟨⟨x, ρ1⟩, h1, f⟩ := bnd_eq f
 obtain ⟨⟨y, ρ2⟩, h2, f⟩ := bnd_eq f
 obtain ⟨z, h3, f⟩ := bnd_eq f
 obtain ⟨k, h4, f⟩ := bnd_eq f
 dsimp only at h2 h3 h4 f
 refine ⟨c, H0, ρ, x, ρ1, R, h1, fun vx H1 Hh s1 R1 r1 => ?_⟩
 refine ⟨c, H1, ρ1, y, ρ2, R1, h2, fun vy H2 Hh2 s2 R2 r2 => ?_⟩
 refine o c H2 Hh2 ρ2 σ x y z vx vy _ R2 (Rep.mono s2 x r1) r2 h3 fun v H3 Hh3 s3 R3 r3 => ?_
 cases z with
 | bl k' =>
  have e : k' = k := Option.some.inj h4
  subst e
  unfold Rep at r3
  refine ⟨k', r3, ?_⟩
  cases k' with
  | false =>
   rw [if_neg Bool.false_ne_true] at f ⊢
   have f' : some (D.bl false, ρ2) = some (d, ρ') := f
   cases f'
   exact q _ H3 Hh3 (s1.trans (s2.trans s3)) R3 (by unfold Rep; rfl)
  | true =>
   rw [if_pos rfl] at f ⊢
   obtain ⟨⟨w, ρ3⟩, h5, f⟩ := bnd_eq f
   obtain ⟨d', h6, f⟩ := bnd_eq f
   dsimp only at h6 f
   have f' : some (d', ρ3) = some (d, ρ') := f
   cases f'
   refine ⟨c, H3, ρ2, w, _, R3, h5, fun vw H4 Hh4 s4 R4 r4 => ?_⟩
   exact o' c H4 Hh4 _ σ y w d vy vw Q R4 (Rep.mono s4 y (Rep.mono s3 y r2)) r4 h6 fun v H5 Hh5 s5 R5 r5 => q v H5 Hh5 (s1.trans (s2.trans (s3.trans (s4.trans s5)))) R5 r5
 | _ => cases h4
theorem xt3 {op op' : CmpOp} {f f' : D -> D -> Option D} {m : Expr} (o : CmpOk X op f) (o' : CmpOk X op' f') (ha : XE X a F) (hb : XE X b G) (hc : XE X m L) (hm : lastMarks [op, op'] [b, m] = false := by with_unfolding_all rfl) : XT X (.Compare a [op, op'] [b, m] pos) (tB (e3 f f' F G L)) := by
 obtain ⟨r, h1, h2⟩ := o
 obtain ⟨r', h1', h2'⟩ := o'
 exact PT.wk (pt_chain h1 h1' ha hb hc hm) fun σ H Q h => tB_of (fun Q h => three_of h2 h2' h) h
theorem xif {c : Expr} (hc : XT X c T) (ha : XE X a F) (hb : XE X b G) : XE X (.IfExp c a b pos) (eIf T F G) := PE.wk (pe_ifExp hc ha hb) fun σ H Q hh0_ => by
 obtain ⟨c, H0, ρ, d, ρ', R, f, q⟩ := hh0_
 unfold eIf at f
 obtain ⟨⟨k, ρ1⟩, h1, f⟩ := bnd_eq f
 dsimp only at f
 refine ⟨c, H0, ρ, k, ρ1, R, h1, fun H1 Hh s1 R1 => ?_⟩
 cases k with
 | true =>
  rw [if_pos rfl] at f ⊢
  exact ⟨c, H1, ρ1, d, ρ', R1, f, fun v H2 Hh2 s2 R2 r2 => q v H2 Hh2 (s1.trans s2) R2 r2⟩
 | false =>
  rw [if_neg Bool.false_ne_true] at f ⊢
  exact ⟨c, H1, ρ1, d, ρ', R1, f, fun v H2 Hh2 s2 R2 r2 => q v H2 Hh2 (s1.trans s2) R2 r2⟩
theorem xone {op} (h : XE X a F) : XE X (.BoolOp op [a] pos) F := pe_one h
variable {rest : List Expr}
theorem xand (ha : XE X a F) (hb : XE X (.BoolOp .And (b :: rest) pos) G) : XE X (.BoolOp .And (a :: b :: rest) pos) (eAnd F G) := PE.wk (pe_and ha hb) fun σ H Q hh0_ => by
 obtain ⟨c, H0, ρ, d, ρ', R, f, q⟩ := hh0_
 unfold eAnd at f
 obtain ⟨⟨z, ρ1⟩, h1, f⟩ := bnd_eq f
 obtain ⟨k, h2, f⟩ := bnd_eq f
 dsimp only at h2 f
 refine ⟨c, H0, ρ, z, ρ1, R, h1, fun v H1 Hh s1 R1 r1 => ?_⟩
 cases z with
 | bl k' =>
  have e : k' = k := Option.some.inj h2
  subst e
  unfold Rep at r1
  refine ⟨k', r1, ?_⟩
  cases k' with
  | true =>
   rw [if_pos rfl] at f ⊢
   exact ⟨c, H1, ρ1, d, ρ', R1, f, fun v H2 Hh2 s2 R2 r2 => q v H2 Hh2 (s1.trans s2) R2 r2⟩
  | false =>
   rw [if_neg Bool.false_ne_true] at f ⊢
   have f' : some (D.bl false, ρ1) = some (d, ρ') := f
   cases f'
   exact q _ H1 Hh s1 R1 (by unfold Rep; rfl)
 | _ => cases h2
theorem xor (ha : XE X a F) (hb : XE X (.BoolOp .Or (b :: rest) pos) G) : XE X (.BoolOp .Or (a :: b :: rest) pos) (eOr F G) := PE.wk (pe_or ha hb) fun σ H Q hh0_ => by
 obtain ⟨c, H0, ρ, d, ρ', R, f, q⟩ := hh0_
 unfold eOr at f
 obtain ⟨⟨z, ρ1⟩, h1, f⟩ := bnd_eq f
 obtain ⟨k, h2, f⟩ := bnd_eq f
 dsimp only at h2 f
 refine ⟨c, H0, ρ, z, ρ1, R, h1, fun v H1 Hh s1 R1 r1 => ?_⟩
 cases z with
 | bl k' =>
  have e : k' = k := Option.some.inj h2
  subst e
  unfold Rep at r1
  refine ⟨k', r1, ?_⟩
  cases k' with
  | true =>
   rw [if_pos rfl] at f ⊢
   have f' : some (D.bl true, ρ1) = some (d, ρ') := f
   cases f'
   exact q _ H1 Hh s1 R1 (by unfold Rep; rfl)
  | false =>
   rw [if_neg Bool.false_ne_true] at f ⊢
   exact ⟨c, H1, ρ1, d, ρ', R1, f, fun v H2 Hh2 s2 R2 r2 => q v H2 Hh2 (s1.trans s2) R2 r2⟩
 | _ => cases h2
theorem xw (h : XW X a T) : XT X a T := PW.pt h
theorem xwand1 (ha : XT X a T) : XW X (.BoolOp .And [a] pos) T := pw_and1 ha
theorem xwor1 (ha : XT X a T) : XW X (.BoolOp .Or [a] pos) T := pw_or1 ha
theorem xwand (ha : XT X a T) (hb : XW X (.BoolOp .And (b :: rest) pos) U) : XW X (.BoolOp .And (a :: b :: rest) pos) (tAnd T U) := PW.wk (pw_and ha hb) fun σ H Q hh0_ => by
 obtain ⟨c, H0, ρ, k, ρ', R, f, q⟩ := hh0_
 unfold tAnd at f
 obtain ⟨⟨k', ρ1⟩, h1, f⟩ := bnd_eq f
 dsimp only at f
 refine ⟨c, H0, ρ, k', ρ1, R, h1, fun H1 Hh s1 R1 => ?_⟩
 cases k' with
 | true =>
  rw [if_pos rfl] at f ⊢
  exact ⟨c, H1, ρ1, k, ρ', R1, f, fun H2 Hh2 s2 R2 => q H2 Hh2 (s1.trans s2) R2⟩
 | false =>
  rw [if_neg Bool.false_ne_true] at f ⊢
  have f' : some (false, ρ1) = some (k, ρ') := f
  cases f'
  exact q H1 Hh s1 R1
theorem xwor (ha : XT X a T) (hb : XW X (.BoolOp .Or (b :: rest) pos) U) : XW X (.BoolOp .Or (a :: b :: rest) pos) (tOr T U) := PW.wk (pw_or ha hb) fun σ H Q hh0_ => by
 obtain ⟨c, H0, ρ, k, ρ', R, f, q⟩ := hh0_
 unfold tOr at f
 obtain ⟨⟨k', ρ1⟩, h1, f⟩ := bnd_eq f
 dsimp only at f
 refine ⟨c, H0, ρ, k', ρ1, R, h1, fun H1 Hh s1 R1 => ?_⟩
 cases k' with
 | true =>
  rw [if_pos rfl] at f ⊢
  have f' : some (true, ρ1) = some (k, ρ') := f
  cases f'
  exact q H1 Hh s1 R1
 | false =>
  rw [if_neg Bool.false_ne_true] at f ⊢
  exact ⟨c, H1, ρ1, k, ρ', R1, f, fun H2 Hh2 s2 R2 => q H2 Hh2 (s1.trans s2) R2⟩
theorem xtnot (ha : XT X a T) : XT X (.UnaryOp .Not a pos) (tNot T) := PT.wk (pt_not ha) fun σ H Q hh0_ => by
 obtain ⟨c, H0, ρ, k, ρ', R, f, q⟩ := hh0_
 unfold tNot at f
 obtain ⟨⟨k', ρ1⟩, h1, f⟩ := bnd_eq f
 have f' : some (!k', ρ1) = some (k, ρ') := f
 cases f'
 exact ⟨c, H0, ρ, k', _, R, h1, fun H1 Hh s1 R1 => q H1 Hh s1 R1⟩
theorem tru_of {K : PySem.W.Frag} {H0 H : Hp} {d : D} {v : V} {k : Bool} (s : Same H0 H) (r : Rep K H0 d v) (h : dTru d = some k) : TruV K v H k := by
 cases d with
 | non => unfold Rep at r; subst r; cases h; rfl
 | bl b => unfold Rep at r; subst r; cases h; rfl
 | int i => unfold Rep at r; subst r; cases h; rfl
 | str x => cases h
 | tup ds =>
  unfold Rep at r
  obtain ⟨p, vs, rfl, q, t⟩ := r
  have e : (!ds.isEmpty) = k := Option.some.inj h
  have e2 : ds.isEmpty = vs.isEmpty := by rw [Bool.eq_iff_iff, List.isEmpty_iff_length_eq_zero, List.isEmpty_iff_length_eq_zero, t.length]
  exact .inr (.inl ⟨vs, Same.seqT s q, by rw [<- e2]; exact e.symm⟩)
 | lst ds =>
  unfold Rep at r
  obtain ⟨p, vs, rfl, q, t⟩ := r
  have e : (!ds.isEmpty) = k := Option.some.inj h
  have e2 : ds.isEmpty = vs.isEmpty := by rw [Bool.eq_iff_iff, List.isEmpty_iff_length_eq_zero, List.isEmpty_iff_length_eq_zero, t.length]
  exact .inl ⟨vs, Same.seq s q, by rw [<- e2]; exact e.symm⟩
theorem xtv (ha : XE X a F) (he : ∀ whole, isTrue a X.env whole = (do let v <- whole; standAt a.pos; holding [v] (truthy v))) : XT X a (tV F) := PT.wk (pt_truth ha he) fun σ H Q hh0_ => by
 obtain ⟨c, H0, ρ, k, ρ', R, f, q⟩ := hh0_
 unfold tV at f
 obtain ⟨⟨d, ρ1⟩, h1, f⟩ := bnd_eq f
 obtain ⟨k', h2, f⟩ := bnd_eq f
 have f' : some (k', ρ1) = some (k, ρ') := f
 cases f'
 exact ⟨c, H0, ρ, d, _, R, h1, fun v H1 Hh s1 R1 r1 => ⟨k, tru_of R1.same r1 h2, q H1 Hh s1 R1⟩⟩
theorem xaN : XA X [] aN := PA.wk pa_nil fun σ H Q hh0_ => by
 obtain ⟨c, H0, ρ, ds, ρ', R, f, q⟩ := hh0_
 have f' : some (([] : List D), ρ) = some (ds, ρ') := f
 cases f'
 exact q [] H0 H (Same.refl _) R Reps.nil_
theorem xaC {es : List Expr} {A : FA} (ha : XE X e F) (hr : XA X es A) (hs : starEach (e :: es) X.env = (false, eval e X.env) :: starEach es X.env := by rfl) : XA X (e :: es) (aC F A) := PA.wk (pa_cons ha hr hs) fun σ H Q hh0_ => by
 obtain ⟨c, H0, ρ, ds, ρ', R, f, q⟩ := hh0_
 unfold aC at f
 obtain ⟨⟨d, ρ1⟩, h1, f⟩ := bnd_eq f
 obtain ⟨⟨r, ρ2⟩, h2, f⟩ := bnd_eq f
 have f' : some (d :: r, ρ2) = some (ds, ρ') := f
 cases f'
 refine ⟨c, H0, ρ, d, ρ1, R, h1, fun v H1 Hh s1 R1 r1 => ?_⟩
 refine ⟨c, H1, ρ1, r, _, R1, h2, fun vs H2 Hh2 s2 R2 r2 => ?_⟩
 exact q _ H2 Hh2 (s1.trans s2) R2 (Reps.cons (Rep.mono s2 d r1) r2)
theorem t1000 {n : Nat} (h : n <= 1000) : n <= sizeLine := Nat.le_of_lt (small1000 h)
theorem xtup {es : List Expr} {A : FA} {x1} (h : XA X es A) : XE X (.Tuple es x1 pos) (eTup A) := PE.wk (pe_tup h) fun σ H Q hh0_ => by
 obtain ⟨c, H0, ρ, d, ρ', R, f, q⟩ := hh0_
 unfold eTup at f
 obtain ⟨⟨ds, ρ1⟩, h1, f⟩ := bnd_eq f
 dsimp only at f
 split at f
 ·rename_i hl
  cases f
  refine ⟨c, H0, ρ, ds, _, R, h1, fun vs H1 Hh s1 R1 r1 => ⟨by rw [<- r1.length]; exact t1000 hl, fun p hp => ?_⟩⟩
  have S := Step.alloc (o := .tup vs) R1.same hp
  refine q _ _ _ (s1.trans S.s0) (R1.after S) ?_
  unfold Rep
  exact ⟨p, vs, rfl, .inl (.inl upd_same), Reps.mono S.s0 ds r1⟩
 ·cases f
theorem xlst {es : List Expr} {A : FA} (h : XA X es A) : XE X (.List es pos) (eLst A) := PE.wk (pe_lst h) fun σ H Q hh0_ => by
 obtain ⟨c, H0, ρ, d, ρ', R, f, q⟩ := hh0_
 unfold eLst at f
 obtain ⟨⟨ds, ρ1⟩, h1, f⟩ := bnd_eq f
 dsimp only at f
 split at f
 ·rename_i hl
  cases f
  refine ⟨c, H0, ρ, ds, _, R, h1, fun vs H1 Hh s1 R1 r1 => ⟨by rw [<- r1.length]; exact t1000 hl, fun p hp => ?_⟩⟩
  have S := Step.alloc (o := .lst vs) R1.same hp
  refine q _ _ _ (s1.trans S.s0) (R1.after S) ?_
  unfold Rep
  exact ⟨p, vs, rfl, .inl (.inl upd_same), Reps.mono S.s0 ds r1⟩
 ·cases f
theorem dPl_eq : @dPl = @ixN := rfl
theorem at_of {K : PySem.W.Frag} {H : Hp} {ds : List D} {vs : List V} {i : Int} {d : D} (r : Reps K H ds vs) (h : atD ds i = some d) : ∃ v, atI vs i = some v /\ Rep K H d v := by
 unfold atD at h
 obtain ⟨j, h1, h2⟩ := bnd_eq (x := dPl ds.length i) (f := fun j => ds[j]?) h
 obtain ⟨v, e1, e2⟩ := r.get h2
 refine ⟨v, ?_, e2⟩
 unfold atI
 rw [<- r.length, <- dPl_eq, h1]
 exact e1
theorem PO.wk {X : Cx} {e : Option Expr} {t t' : TO} (h : PO X e t) (w : ∀ σ H Q, t' σ H Q -> t σ H Q) : PO X e t' := fun pins s σ H Q I q => h pins s σ H Q I (w σ H Q q)
theorem xoN : XO X none oN := PO.wk po_none fun σ H Q hh0_ => by
 obtain ⟨c, H0, ρ, o, ρ', R, f, q⟩ := hh0_
 have f' : some ((none : Option Int), ρ) = some (o, ρ') := f
 cases f'
 exact q H0 H (Same.refl _) R
theorem xoS (h : XE X e F) : XO X (some e) (oS F) := PO.wk (po_some h) fun σ H Q hh0_ => by
 obtain ⟨c, H0, ρ, o, ρ', R, f, q⟩ := hh0_
 unfold oS at f
 obtain ⟨⟨d, ρ1⟩, h1, f⟩ := bnd_eq f
 obtain ⟨i, h2, f⟩ := bnd_eq f
 dsimp only at h2 f
 have f' : some (some i, ρ1) = some (o, ρ') := f
 cases f'
 refine ⟨c, H0, ρ, d, _, R, h1, fun v H1 Hh s1 R1 r1 => ?_⟩
 cases d with
 | int j =>
  have e : j = i := Option.some.inj h2
  subst e
  unfold Rep at r1
  exact ⟨j, r1, q H1 Hh s1 R1⟩
 | _ => cases h2
theorem dEnd_eq (n d : Nat) (o : Option Int) : dEnd n d o = HT.sIx n d o := by
 cases o with
 | none => rfl
 | some v =>
  show (if v < 0 then max (v + (n : Int)) 0 else min v (n : Int)).toNat = if v < 0 then (v + (n : Int)).toNat else min v.toNat n
  split <;> omega
theorem cut_of {K : PySem.W.Frag} {H : Hp} {ds : List D} {vs : List V} (r : Reps K H ds vs) (lo hi : Option Int) : Reps K H (dCut ds lo hi) (cutV vs lo hi) := by
 unfold dCut cutV
 rw [dEnd_eq, dEnd_eq, r.length]
 exact (r.drop _).take _
end
end Fx
set_option maxRecDepth 100000
namespace Fx
open PySem PySem.Spec PyProof.Rows L2
section
variable {X : Cx} {K : PySem.W.Frag}
theorem opD_int {C : Int -> Int -> Prop} {g : Int -> Int -> V} {f : D -> D -> Option D} (h : ∀ x y d, f x y = some d -> ∃ i j, x = .int i /\ y = .int j /\ C i j /\ ∀ H, Rep K H d (g i j)) : OpD K (rI C g) f := fun c H0 H ρ σ x y d vx vy Q R r1 r2 e q => by
 obtain ⟨i, j, rfl, rfl, hc, hr⟩ := h x y d e
 unfold Rep at r1 r2
 exact ⟨i, j, r1, r2, hc, q _ H0 H (Same.refl _) R (hr H0)⟩
theorem opD_int0 {g : Int -> Int -> V} {f : D -> D -> Option D} (h : ∀ x y d, f x y = some d -> ∃ i j, x = .int i /\ y = .int j /\ ∀ H, Rep K H d (g i j)) : OpD K (rI0 g) f := fun c H0 H ρ σ x y d vx vy Q R r1 r2 e q => by
 obtain ⟨i, j, rfl, rfl, hr⟩ := h x y d e
 unfold Rep at r1 r2
 exact ⟨i, j, r1, r2, q _ H0 H (Same.refl _) R (hr H0)⟩
theorem rep_int (H : Hp) (i : Int) : Rep K H (.int i) (.int i) := by unfold Rep; rfl
theorem rep_bl (H : Hp) (i : Bool) : Rep K H (.bl i) (.bl i) := by unfold Rep; rfl
theorem ifs {c : Prop} [Decidable c] {α : Type} {a d : α} (h : (if c then some a else none) = some d) : c /\ a = d := by
 by_cases hc : c
 ·rw [if_pos hc] at h; exact ⟨hc, Option.some.inj h⟩
 ·rw [if_neg hc] at h; cases h
theorem oSub : BinOk X .Sub dSub := ⟨_, op_sub, opD_int0 fun x y d e => by
 cases x <;> cases y <;> cases e
 exact ⟨_, _, rfl, rfl, fun H => rep_int H _⟩⟩
noncomputable def CMulD (i j : Int) : Prop := okMul i j = true
theorem intBits_1000 {i : Int} (h : bigM i = true) : Builtin.Int.intBits i <= 1000 := by
 have h : i.natAbs < 2 ^ 1000 := of_decide_eq_true h
 unfold Builtin.Int.intBits
 split
 ·exact Nat.zero_le _
 ·rename_i hz
  have hz : i ≠ 0 := by simpa using hz
  have h0 : i.natAbs ≠ 0 := by omega
  have := (Nat.log2_lt h0).mpr h
  omega
theorem CMulD.ok {i j : Int} (h : CMulD i j) : IntMulOk i j := by
 unfold CMulD okMul at h
 simp only [Bool.or_eq_true, Bool.and_eq_true, decide_eq_true_eq] at h
 rcases h with (h | h) | ⟨h1, h2⟩
 ·exact IntMulOk.of_left (intBits_le_64 (by omega) (by omega))
 ·exact IntMulOk.of_right (intBits_le_64 (by omega) (by omega))
 ·unfold IntMulOk
  have b1 := intBits_1000 h1
  have b2 := intBits_1000 h2
  have : Builtin.Int.intTooBig ((Builtin.Int.intBits i : Int) + (Builtin.Int.intBits j : Int)) = false := by
   unfold Builtin.Int.intTooBig
   refine decide_eq_false ?_
   have : (2000 : Int) <= bitsLine := by decide
   omega
  simp [this]
theorem oMul : BinOk X .Mult dMul := ⟨rI CMulD fun i j => .int (i * j), opI fun _ _ _ _ _ _ _ hc q => mul_int q hc.ok, opD_int fun x y d e => by
 cases x with
 | int i =>
  cases y with
  | int j =>
   obtain ⟨h, rfl⟩ := ifs (c := okMul i j = true) e
   exact ⟨_, _, rfl, rfl, h, fun H => rep_int H _⟩
  | _ => cases e
 | _ => cases y <;> cases e⟩
noncomputable def CDivD (i j : Int) : Prop := okDiv j = true
theorem oDiv : BinOk X .FloorDiv dDiv := ⟨rI CDivD fun i j => .int (i.fdiv j), opI fun i j _ _ _ _ _ hc q => by
  unfold CDivD okDiv at hc
  simp only [Bool.and_eq_true, decide_eq_true_eq] at hc
  refine floordiv_int hc.1 q (.inl (PyProof.noPylong_of_log2 ?_))
  have h0 : j.natAbs ≠ 0 := by have := hc.1; omega
  have := (Nat.log2_lt h0).mpr hc.2
  omega, opD_int fun x y d e => by
 cases x with
 | int i =>
  cases y with
  | int j =>
   obtain ⟨h, rfl⟩ := ifs (c := okDiv j = true) e
   exact ⟨_, _, rfl, rfl, h, fun H => rep_int H _⟩
  | _ => cases e
 | _ => cases y <;> cases e⟩
theorem oMod : BinOk X .Mod dMod := ⟨_, op_modN, opD_int fun x y d e => by
 cases x with
 | int i =>
  cases y with
  | int j =>
   obtain ⟨h, rfl⟩ := ifs (c := j ≠ 0) e
   exact ⟨_, _, rfl, rfl, h, fun H => rep_int H _⟩
  | _ => cases e
 | _ => cases y <;> cases e⟩
theorem oPow : BinOk X .Pow dPow := ⟨_, op_pow, opD_int fun x y d e => by
 cases x with
 | int i =>
  cases y with
  | int j =>
   obtain ⟨h, rfl⟩ := ifs (c := 0 <= j /\ j <= 64 /\ i.natAbs < 2 ^ 64) e
   exact ⟨_, _, rfl, rfl, ⟨h.1, by omega, h.2.2⟩, fun H => rep_int H _⟩
  | _ => cases e
 | _ => cases y <;> cases e⟩
noncomputable def rCatR (K : PySem.W.Frag) : R2 := fun x y H Q => ∃ l b xs zs, x = .ref l /\ y = .ref b /\ SqL K H l xs /\ SqL K H b zs /\ xs.length + zs.length <= sizeLine /\ ∀ p, H p = none -> Q (.ref p) (upd H p (.lst (xs ++ zs)))
theorem op_catR : OpR X (binaryOp .Add) (rCatR X.K) := by
 intro pins s σ H x y v u Q I rx ry h
 obtain ⟨l, b, xs, zs, rfl, rfl, hH, hB, hz, q⟩ := h
 cases rx
 cases ry
 obtain ⟨its, r, pl, _⟩ := I.list hH
 obtain ⟨its2, r2, pl2, _⟩ := I.list hB
 have hl := r.length
 have hl2 := r2.length
 obtain ⟨⟨cls, dd, data, sl⟩, ho, hc, n, hd⟩ := pl.isList
 obtain ⟨⟨cls2, dd2, data2, sl2⟩, ho2, hc2, n2, hd2⟩ := pl2.isList
 simp only at hc hd hc2 hd2
 subst hc hd hc2 hd2
 have e : its.toArray ++ its2.toArray = (its ++ its2).toArray := by simp
 refine concat_meets ⟨_, ho, rfl⟩ ⟨_, ho2, rfl⟩ noFill_list_add seq_list_add PySem.F.slot_list_add PySem.F.entry_list_add (PySem.F.args_list_add_2 _ _) (list_addW l b its.toArray its2.toArray n n2 dd dd2 sl sl2 (by rw [List.size_toArray, List.size_toArray]; omega)) ⟨ho, ho2, ?_⟩
 rw [e]
 exact ⟨.ref _, _, I.lnew (t' := s.toks) (r.append r2) (by rw [List.length_append]; omega), rfl, q _ I.fresh⟩
noncomputable def rAddD (K : PySem.W.Frag) : R2 := fun x y H Q => rI0 (fun i j => .int (i + j)) x y H Q \/ ((∃ i j, x = .str i /\ y = .str j /\ i.length + j.length <= sizeLine /\ Q (.str (i ++ j)) H) \/ rCatR K x y H Q)
theorem oAdd : BinOk X .Add dAdd := ⟨rAddD X.K, op_add.or (op_add_str.or op_catR), fun c H0 H ρ σ x y d vx vy Q R r1 r2 e q => by
 cases x with
 | int i =>
  cases y with
  | int j =>
   cases e
   unfold Rep at r1 r2
   exact .inl ⟨_, _, r1, r2, q _ H0 H (Same.refl _) R (rep_int H0 _)⟩
  | _ => cases e
 | str i =>
  cases y with
  | str j =>
   obtain ⟨h, rfl⟩ := ifs (c := i.length + j.length <= sizeLine) e
   unfold Rep at r1 r2
   exact .inr (.inl ⟨_, _, r1, r2, h, q _ H0 H (Same.refl _) R (by unfold Rep; rfl)⟩)
  | _ => cases e
 | lst ds =>
  cases y with
  | lst es =>
   obtain ⟨h, rfl⟩ := ifs (c := ds.length + es.length <= sizeLine) e
   unfold Rep at r1 r2
   obtain ⟨p, vs, rfl, s, t⟩ := r1
   obtain ⟨p2, vs2, rfl, s2, t2⟩ := r2
   refine .inr (.inr ⟨p, p2, vs, vs2, rfl, rfl, Same.seq R.same s, Same.seq R.same s2, by rw [<- t.length, <- t2.length]; exact h, fun p' hp => ?_⟩)
   have S := Step.alloc (o := .lst (vs ++ vs2)) R.same hp
   refine q _ _ _ S.s0 (R.after S) ?_
   unfold Rep
   exact ⟨p', _, rfl, .inl (.inl upd_same), Reps.mono S.s0 _ (t.app t2)⟩
  | _ => cases e
 | _ => cases y <;> cases e⟩
theorem xneg {a : Expr} {F : FE} {pos : Pos} (ha : XE X a F) : XE X (.UnaryOp .USub a pos) (e1 dNeg F) := PE.wk (pe_un un_neg ha) fun σ H Q hh0_ => by
 obtain ⟨c, H0, ρ, d, ρ', R, f, q⟩ := hh0_
 unfold e1 at f
 obtain ⟨⟨x, ρ1⟩, h1, f⟩ := bnd_eq f
 obtain ⟨d', h2, f⟩ := bnd_eq f
 dsimp only at h2 f
 have f' : some (d', ρ1) = some (d, ρ') := f
 cases f'
 refine ⟨c, H0, ρ, x, _, R, h1, fun v H1 Hh s1 R1 r1 => ?_⟩
 cases x with
 | int i =>
  have e : D.int (-i) = d := Option.some.inj h2
  subst e
  unfold Rep at r1
  exact ⟨i, r1, q _ H1 Hh s1 R1 (rep_int _ _)⟩
 | _ => cases h2
theorem cmpD {p : Int -> Int -> Bool} : OpD K (rI0 fun i j => .bl (p i j)) (dCmp p) := opD_int0 fun x y d e => by
 cases x <;> cases y <;> cases e
 exact ⟨_, _, rfl, rfl, fun H => rep_bl H _⟩
theorem cLt : CmpOk X .Lt dLt := ⟨_, op_lt, cmpD⟩
theorem cLe : CmpOk X .LtE dLe := ⟨_, op_le, cmpD⟩
theorem cGt : CmpOk X .Gt dGt := ⟨_, op_gt, cmpD⟩
theorem cGe : CmpOk X .GtE dGe := ⟨_, op_ge, cmpD⟩
theorem isN_of {H : Hp} {x : D} {v : V} (r : Rep K H x v) : isN x = decide (v = .non) := by
 cases x with
 | non => unfold Rep at r; subst r; rfl
 | bl b => unfold Rep at r; subst r; rfl
 | int b => unfold Rep at r; subst r; rfl
 | str b => unfold Rep at r; subst r; rfl
 | tup ds => unfold Rep at r; obtain ⟨p, vs, rfl, _⟩ := r; rfl
 | lst ds => unfold Rep at r; obtain ⟨p, vs, rfl, _⟩ := r; rfl
theorem cIs : CmpOk X .Is dIs := ⟨_, op_isN, fun c H0 H ρ σ x y d vx vy Q R r1 r2 e q => by
 cases y with
 | non =>
  have e' : D.bl (isN x) = d := by cases x <;> exact Option.some.inj e
  subst e'
  unfold Rep at r2
  exact ⟨r2, by rw [<- isN_of r1]; exact q _ H0 H (Same.refl _) R (rep_bl _ _)⟩
 | _ => cases x <;> cases e⟩
theorem cIsNot : CmpOk X .IsNot dIsNot := ⟨_, op_notN, fun c H0 H ρ σ x y d vx vy Q R r1 r2 e q => by
 cases y with
 | non =>
  have e' : D.bl (!isN x) = d := by cases x <;> exact Option.some.inj e
  subst e'
  unfold Rep at r2
  exact ⟨r2, by rw [<- isN_of r1]; exact q _ H0 H (Same.refl _) R (rep_bl _ _)⟩
 | _ => cases x <;> cases e⟩
end
end Fx
set_option maxRecDepth 100000
namespace Fx
open PySem PySem.Spec PyProof.Rows L2
theorem eqDs_all : ∀ (ds es : List D), eqDs ds es = ((List.range (min ds.length es.length)).all (fun j => eqD (ds.getD j .non) (es.getD j .non)) && ds.length == es.length)
 | [], [] => by simp [eqDs]
 | [], e :: es => by simp [eqDs]
 | d :: ds, [] => by simp [eqDs]
 | d :: ds, e :: es => by
  rw [eqDs, eqDs_all ds es]
  have h : min (d :: ds).length (e :: es).length = min ds.length es.length + 1 := by simp only [List.length_cons]; omega
  rw [h, List.range_succ_eq_map, List.all_cons, List.all_map]
  have h2 : ((d :: ds).length == (e :: es).length) = (ds.length == es.length) := by simp
  rw [h2, Bool.and_assoc]
  rfl
theorem dpDs_le : ∀ {ds : List D} {n : Nat} {j : Nat} {d : D}, dpDs ds <= n -> ds[j]? = some d -> dpD d <= n
 | [], _, _, _, _, e => by simp at e
 | d :: ds, n, 0, _, h, e => by
  rw [dpDs_cons] at h
  simp at e; subst e; omega
 | d :: ds, n, j + 1, d', h, e => by
  rw [dpDs_cons] at h
  exact dpDs_le (ds := ds) (n := n) (j := j) (by omega) (by simpa using e)
section
variable {X : Cx} {pins : List (Addr × Obj)} {σ : L2.St} {H : Hp} {s : Shared}
theorem eqDs_of {ds es : List D} {vs : List V} (hd : Reps X.K H ds vs) (he : Reps X.K H es vs) (h : ∀ (j : Nat) (d e : D) (v : V), ds[j]? = some d -> es[j]? = some e -> Rep X.K H d v -> Rep X.K H e v -> eqD d e = true) : eqDs ds es = true := by
 rw [eqDs_all]
 have l1 := hd.length
 have l2 := he.length
 rw [Bool.and_eq_true, List.all_eq_true]
 refine ⟨fun j hj => ?_, by simp; omega⟩
 have hj' : j < ds.length := by have := List.mem_range.mp hj; omega
 have hk' : j < es.length := by omega
 obtain ⟨v, a1, a2⟩ := hd.get (i := j) (d := ds[j]) (by simp [hj'])
 obtain ⟨v', b1, b2⟩ := he.get (i := j) (d := es[j]) (by simp [hk'])
 rw [a1] at b1; cases b1
 have := h j ds[j] es[j] v (by simp [hj']) (by simp [hk']) a2 b2
 simpa [List.getD, hj', hk'] using this
theorem no_tl (I : Inv X pins σ H s) {a : Addr} {xs ys : List V} (h : SqT X.K H a xs) (h' : SqL X.K H a ys) : False := by
 obtain ⟨_, _, ⟨o, e, c, _⟩, _⟩ := I.tuple h
 obtain ⟨_, _, ⟨o', n, e', c', _⟩, _⟩ := I.list h'
 rw [e] at e'; cases e'
 have z := c.symm.trans c'
 injection z with z
 exact absurd z (by decide)
theorem rep_one (I : Inv X pins σ H s) : ∀ (n : Nat) (d e : D) (v : V), dpD d <= n -> dpD d < 1000 -> dpD e < 1000 -> Rep X.K H d v -> Rep X.K H e v -> eqD d e = true
 | n, d, e, v, hn, hz1, hz2, r1, r2 => by
  cases d with
  | non =>
   cases e with
   | non => unfold Rep at r1 r2; rw [r1] at r2; first | (cases r2; simp [eqD]) | cases r2
   | bl b2 => unfold Rep at r1 r2; rw [r1] at r2; first | (cases r2; simp [eqD]) | cases r2
   | int b2 => unfold Rep at r1 r2; rw [r1] at r2; first | (cases r2; simp [eqD]) | cases r2
   | str b2 => unfold Rep at r1 r2; rw [r1] at r2; first | (cases r2; simp [eqD]) | cases r2
   | tup es => unfold Rep at r1 r2; obtain ⟨p, vs, z, _⟩ := r2; rw [r1] at z; cases z
   | lst es => unfold Rep at r1 r2; obtain ⟨p, vs, z, _⟩ := r2; rw [r1] at z; cases z
  | bl b1 =>
   cases e with
   | non => unfold Rep at r1 r2; rw [r1] at r2; first | (cases r2; simp [eqD]) | cases r2
   | bl b2 => unfold Rep at r1 r2; rw [r1] at r2; first | (cases r2; simp [eqD]) | cases r2
   | int b2 => unfold Rep at r1 r2; rw [r1] at r2; first | (cases r2; simp [eqD]) | cases r2
   | str b2 => unfold Rep at r1 r2; rw [r1] at r2; first | (cases r2; simp [eqD]) | cases r2
   | tup es => unfold Rep at r1 r2; obtain ⟨p, vs, z, _⟩ := r2; rw [r1] at z; cases z
   | lst es => unfold Rep at r1 r2; obtain ⟨p, vs, z, _⟩ := r2; rw [r1] at z; cases z
  | int b1 =>
   cases e with
   | non => unfold Rep at r1 r2; rw [r1] at r2; first | (cases r2; simp [eqD]) | cases r2
   | bl b2 => unfold Rep at r1 r2; rw [r1] at r2; first | (cases r2; simp [eqD]) | cases r2
   | int b2 => unfold Rep at r1 r2; rw [r1] at r2; first | (cases r2; simp [eqD]) | cases r2
   | str b2 => unfold Rep at r1 r2; rw [r1] at r2; first | (cases r2; simp [eqD]) | cases r2
   | tup es => unfold Rep at r1 r2; obtain ⟨p, vs, z, _⟩ := r2; rw [r1] at z; cases z
   | lst es => unfold Rep at r1 r2; obtain ⟨p, vs, z, _⟩ := r2; rw [r1] at z; cases z
  | str b1 =>
   cases e with
   | non => unfold Rep at r1 r2; rw [r1] at r2; first | (cases r2; simp [eqD]) | cases r2
   | bl b2 => unfold Rep at r1 r2; rw [r1] at r2; first | (cases r2; simp [eqD]) | cases r2
   | int b2 => unfold Rep at r1 r2; rw [r1] at r2; first | (cases r2; simp [eqD]) | cases r2
   | str b2 => unfold Rep at r1 r2; rw [r1] at r2; first | (cases r2; simp [eqD]) | cases r2
   | tup es => unfold Rep at r1 r2; obtain ⟨p, vs, z, _⟩ := r2; rw [r1] at z; cases z
   | lst es => unfold Rep at r1 r2; obtain ⟨p, vs, z, _⟩ := r2; rw [r1] at z; cases z
  | tup ds =>
   cases e with
   | non => unfold Rep at r1 r2; obtain ⟨p, vs, z, _⟩ := r1; rw [r2] at z; cases z
   | bl b2 => unfold Rep at r1 r2; obtain ⟨p, vs, z, _⟩ := r1; rw [r2] at z; cases z
   | int b2 => unfold Rep at r1 r2; obtain ⟨p, vs, z, _⟩ := r1; rw [r2] at z; cases z
   | str b2 => unfold Rep at r1 r2; obtain ⟨p, vs, z, _⟩ := r1; rw [r2] at z; cases z
   | tup es =>
    unfold Rep at r1 r2
    obtain ⟨p, vs, z, s1, q1⟩ := r1
    obtain ⟨p', vs', z', s2, q2⟩ := r2
    rw [z] at z'; cases z'
    have e := I.tuple_inj s1 s2
    subst e
    cases n with
    | zero => rw [dpD_tup] at hn; omega
    | succ n =>
     rw [dpD_tup] at hn
     rw [eqD]
     exact eqDs_of q1 q2 fun j d e v h1 h2 => rep_one I n d e v (dpDs_le (by omega) h1) (by have z := dpDs_le (n := 998) (by first | (rw [dpD_tup] at hz1; omega) | (rw [dpD_lst] at hz1; omega)) h1; omega) (by have z := dpDs_le (n := 998) (by first | (rw [dpD_tup] at hz2; omega) | (rw [dpD_lst] at hz2; omega)) h2; omega)
   | lst es => unfold Rep at r1 r2; obtain ⟨p, vs, z, s1, _⟩ := r1; obtain ⟨p', vs', z', s2, _⟩ := r2; rw [z] at z'; cases z'; exact (no_tl I s1 s2).elim
  | lst ds =>
   cases e with
   | non => unfold Rep at r1 r2; obtain ⟨p, vs, z, _⟩ := r1; rw [r2] at z; cases z
   | bl b2 => unfold Rep at r1 r2; obtain ⟨p, vs, z, _⟩ := r1; rw [r2] at z; cases z
   | int b2 => unfold Rep at r1 r2; obtain ⟨p, vs, z, _⟩ := r1; rw [r2] at z; cases z
   | str b2 => unfold Rep at r1 r2; obtain ⟨p, vs, z, _⟩ := r1; rw [r2] at z; cases z
   | tup es => unfold Rep at r1 r2; obtain ⟨p, vs, z, s1, _⟩ := r1; obtain ⟨p', vs', z', s2, _⟩ := r2; rw [z] at z'; cases z'; exact (no_tl I s2 s1).elim
   | lst es =>
    unfold Rep at r1 r2
    obtain ⟨p, vs, z, s1, q1⟩ := r1
    obtain ⟨p', vs', z', s2, q2⟩ := r2
    rw [z] at z'; cases z'
    have e := I.list_inj s1 s2
    subst e
    cases n with
    | zero => rw [dpD_lst] at hn; omega
    | succ n =>
     rw [dpD_lst] at hn
     rw [eqD]
     exact eqDs_of q1 q2 fun j d e v h1 h2 => rep_one I n d e v (dpDs_le (by omega) h1) (by have z := dpDs_le (n := 998) (by first | (rw [dpD_tup] at hz1; omega) | (rw [dpD_lst] at hz1; omega)) h1; omega) (by have z := dpDs_le (n := 998) (by first | (rw [dpD_tup] at hz2; omega) | (rw [dpD_lst] at hz2; omega)) h2; omega)
noncomputable def RcN (X : Cx) (H : Hp) (s : Shared) (n : Nat) : Prop := ∀ (A : Around) (d e : D) (x y : V) (u v : Value), dpD d <= n -> dpD d < 1000 -> dpD e < 1000 -> A.units + n < cLine -> Rep X.K H d x -> RelV x u -> Rep X.K H e y -> RelV y v -> SeqAt.RcAt A s u v (eqD d e)
noncomputable def EqN (X : Cx) (H : Hp) (s : Shared) (n : Nat) : Prop := ∀ (A : Around) (d e : D) (x y : V) (u v : Value), dpD d <= n -> dpD d < 1000 -> dpD e < 1000 -> A.units + n < cLine -> Rep X.K H d x -> RelV x u -> Rep X.K H e y -> RelV y v -> SeqAt.EqAt A s u v (eqD d e)
theorem eqN_of (I : Inv X pins σ H s) {n : Nat} (rc : RcN X H s n) : EqN X H s n := by
 intro A d e x y u v hn hz1 hz2 hA r1 w1 r2 w2
 have hu : A.units < cLine := by omega
 have key := rc A d e x y u v hn hz1 hz2 hA r1 w1 r2 w2
 have one : x = y -> eqD d e = true := fun z => rep_one I _ d e x (Nat.le_refl _) hz1 hz2 r1 (z ▸ r2)
 cases d with
 | non =>
  cases e with
  | non => unfold Rep at r1; subst r1; cases (show u = Value.none from w1); unfold Rep at r2; subst r2; cases (show v = Value.none from w2); exact SeqAt.EqAt.same _
  | bl b2 => unfold Rep at r1; subst r1; cases (show u = Value.none from w1); unfold Rep at r2; subst r2; cases (show v = Value.bool _ from w2); exact SeqAt.EqAt.none_bool _
  | int b2 => unfold Rep at r1; subst r1; cases (show u = Value.none from w1); unfold Rep at r2; subst r2; obtain ⟨t2, z2⟩ := w2; subst z2; exact SeqAt.EqAt.none_int _ _
  | str b2 => unfold Rep at r1; subst r1; cases (show u = Value.none from w1); unfold Rep at r2; subst r2; obtain ⟨t2, z2⟩ := w2; subst z2; exact SeqAt.EqAt.none_str _ _
  | tup es => unfold Rep at r1; subst r1; cases (show u = Value.none from w1); unfold Rep at r2; obtain ⟨p2, vs2, y2, s2, q2⟩ := r2; subst y2; cases (show v = Value.ref _ from w2); obtain ⟨its2, rv2, tp2, _⟩ := I.tuple s2; exact SeqAt.EqAt.none_tuple tp2 hu
  | lst es => unfold Rep at r1; subst r1; cases (show u = Value.none from w1); unfold Rep at r2; obtain ⟨p2, vs2, y2, s2, q2⟩ := r2; subst y2; cases (show v = Value.ref _ from w2); obtain ⟨its2, rv2, tp2, _⟩ := I.list s2; have tp2 := tp2.isList; exact SeqAt.EqAt.none_list tp2 hu
 | bl b1 =>
  cases e with
  | non => unfold Rep at r1; subst r1; cases (show u = Value.bool _ from w1); unfold Rep at r2; subst r2; cases (show v = Value.none from w2); exact SeqAt.EqAt.bool_none _
  | bl b2 => unfold Rep at r1; subst r1; cases (show u = Value.bool _ from w1); unfold Rep at r2; subst r2; cases (show v = Value.bool _ from w2); exact SeqAt.EqAt.bool_bool _ _
  | int b2 => unfold Rep at r1; subst r1; cases (show u = Value.bool _ from w1); unfold Rep at r2; subst r2; obtain ⟨t2, z2⟩ := w2; subst z2; exact SeqAt.EqAt.bool_int _ _ _
  | str b2 => unfold Rep at r1; subst r1; cases (show u = Value.bool _ from w1); unfold Rep at r2; subst r2; obtain ⟨t2, z2⟩ := w2; subst z2; exact SeqAt.EqAt.bool_str _ _ _
  | tup es => unfold Rep at r1; subst r1; cases (show u = Value.bool _ from w1); unfold Rep at r2; obtain ⟨p2, vs2, y2, s2, q2⟩ := r2; subst y2; cases (show v = Value.ref _ from w2); obtain ⟨its2, rv2, tp2, _⟩ := I.tuple s2; exact SeqAt.EqAt.bool_tuple _ tp2 hu
  | lst es => unfold Rep at r1; subst r1; cases (show u = Value.bool _ from w1); unfold Rep at r2; obtain ⟨p2, vs2, y2, s2, q2⟩ := r2; subst y2; cases (show v = Value.ref _ from w2); obtain ⟨its2, rv2, tp2, _⟩ := I.list s2; have tp2 := tp2.isList; exact SeqAt.EqAt.bool_list _ tp2 hu
 | int b1 =>
  cases e with
  | non => unfold Rep at r1; subst r1; obtain ⟨t1, z1⟩ := w1; subst z1; unfold Rep at r2; subst r2; cases (show v = Value.none from w2); exact SeqAt.EqAt.int_none _ _
  | bl b2 => unfold Rep at r1; subst r1; obtain ⟨t1, z1⟩ := w1; subst z1; unfold Rep at r2; subst r2; cases (show v = Value.bool _ from w2); exact SeqAt.EqAt.int_bool _ _ _
  | int b2 => unfold Rep at r1; subst r1; obtain ⟨t1, z1⟩ := w1; subst z1; unfold Rep at r2; subst r2; obtain ⟨t2, z2⟩ := w2; subst z2; exact SeqAt.EqAt.int_int _ _ _ _
  | str b2 => unfold Rep at r1; subst r1; obtain ⟨t1, z1⟩ := w1; subst z1; unfold Rep at r2; subst r2; obtain ⟨t2, z2⟩ := w2; subst z2; exact SeqAt.EqAt.int_str _ _ _ _
  | tup es => unfold Rep at r1; subst r1; obtain ⟨t1, z1⟩ := w1; subst z1; unfold Rep at r2; obtain ⟨p2, vs2, y2, s2, q2⟩ := r2; subst y2; cases (show v = Value.ref _ from w2); obtain ⟨its2, rv2, tp2, _⟩ := I.tuple s2; exact SeqAt.EqAt.int_tuple _ _ tp2 hu
  | lst es => unfold Rep at r1; subst r1; obtain ⟨t1, z1⟩ := w1; subst z1; unfold Rep at r2; obtain ⟨p2, vs2, y2, s2, q2⟩ := r2; subst y2; cases (show v = Value.ref _ from w2); obtain ⟨its2, rv2, tp2, _⟩ := I.list s2; have tp2 := tp2.isList; exact SeqAt.EqAt.int_list _ _ tp2 hu
 | str b1 =>
  cases e with
  | non => unfold Rep at r1; subst r1; obtain ⟨t1, z1⟩ := w1; subst z1; unfold Rep at r2; subst r2; cases (show v = Value.none from w2); exact SeqAt.EqAt.str_none _ _
  | bl b2 => unfold Rep at r1; subst r1; obtain ⟨t1, z1⟩ := w1; subst z1; unfold Rep at r2; subst r2; cases (show v = Value.bool _ from w2); exact SeqAt.EqAt.str_bool _ _ _
  | int b2 => unfold Rep at r1; subst r1; obtain ⟨t1, z1⟩ := w1; subst z1; unfold Rep at r2; subst r2; obtain ⟨t2, z2⟩ := w2; subst z2; exact SeqAt.EqAt.str_int _ _ _ _
  | str b2 => unfold Rep at r1; subst r1; obtain ⟨t1, z1⟩ := w1; subst z1; unfold Rep at r2; subst r2; obtain ⟨t2, z2⟩ := w2; subst z2; exact SeqAt.EqAt.str_str _ _ _ _
  | tup es => unfold Rep at r1; subst r1; obtain ⟨t1, z1⟩ := w1; subst z1; unfold Rep at r2; obtain ⟨p2, vs2, y2, s2, q2⟩ := r2; subst y2; cases (show v = Value.ref _ from w2); obtain ⟨its2, rv2, tp2, _⟩ := I.tuple s2; exact SeqAt.EqAt.str_tuple _ _ tp2 hu
  | lst es => unfold Rep at r1; subst r1; obtain ⟨t1, z1⟩ := w1; subst z1; unfold Rep at r2; obtain ⟨p2, vs2, y2, s2, q2⟩ := r2; subst y2; cases (show v = Value.ref _ from w2); obtain ⟨its2, rv2, tp2, _⟩ := I.list s2; have tp2 := tp2.isList; exact SeqAt.EqAt.str_list _ _ tp2 hu
 | tup ds =>
  cases e with
  | non => unfold Rep at r1; obtain ⟨p1, vs1, y1, s1, q1⟩ := r1; subst y1; cases (show u = Value.ref _ from w1); obtain ⟨its1, rv1, tp1, _⟩ := I.tuple s1; unfold Rep at r2; subst r2; cases (show v = Value.none from w2); exact SeqAt.EqAt.tuple_none tp1 hu
  | bl b2 => unfold Rep at r1; obtain ⟨p1, vs1, y1, s1, q1⟩ := r1; subst y1; cases (show u = Value.ref _ from w1); obtain ⟨its1, rv1, tp1, _⟩ := I.tuple s1; unfold Rep at r2; subst r2; cases (show v = Value.bool _ from w2); exact SeqAt.EqAt.tuple_bool _ tp1 hu
  | int b2 => unfold Rep at r1; obtain ⟨p1, vs1, y1, s1, q1⟩ := r1; subst y1; cases (show u = Value.ref _ from w1); obtain ⟨its1, rv1, tp1, _⟩ := I.tuple s1; unfold Rep at r2; subst r2; obtain ⟨t2, z2⟩ := w2; subst z2; exact SeqAt.EqAt.tuple_int _ _ tp1 hu
  | str b2 => unfold Rep at r1; obtain ⟨p1, vs1, y1, s1, q1⟩ := r1; subst y1; cases (show u = Value.ref _ from w1); obtain ⟨its1, rv1, tp1, _⟩ := I.tuple s1; unfold Rep at r2; subst r2; obtain ⟨t2, z2⟩ := w2; subst z2; exact SeqAt.EqAt.tuple_str _ _ tp1 hu
  | tup es =>
   unfold Rep at r1 r2
   obtain ⟨p1, vs1, y1, _⟩ := r1
   obtain ⟨p2, vs2, y2, _⟩ := r2
   subst y1 y2
   cases (show u = Value.ref _ from w1)
   cases (show v = Value.ref _ from w2)
   by_cases h : p1 = p2
   ·rw [one (by rw [h]), h]; exact SeqAt.EqAt.same _
   ·exact SeqAt.EqAt.of_refs h key
  | lst es => unfold Rep at r1; obtain ⟨p1, vs1, y1, s1, q1⟩ := r1; subst y1; cases (show u = Value.ref _ from w1); obtain ⟨its1, rv1, tp1, _⟩ := I.tuple s1; unfold Rep at r2; obtain ⟨p2, vs2, y2, s2, q2⟩ := r2; subst y2; cases (show v = Value.ref _ from w2); obtain ⟨its2, rv2, tp2, _⟩ := I.list s2; have tp2 := tp2.isList; exact SeqAt.EqAt.tuple_list tp1 tp2 hu
 | lst ds =>
  cases e with
  | non => unfold Rep at r1; obtain ⟨p1, vs1, y1, s1, q1⟩ := r1; subst y1; cases (show u = Value.ref _ from w1); obtain ⟨its1, rv1, tp1, _⟩ := I.list s1; have tp1 := tp1.isList; unfold Rep at r2; subst r2; cases (show v = Value.none from w2); exact SeqAt.EqAt.list_none tp1 hu
  | bl b2 => unfold Rep at r1; obtain ⟨p1, vs1, y1, s1, q1⟩ := r1; subst y1; cases (show u = Value.ref _ from w1); obtain ⟨its1, rv1, tp1, _⟩ := I.list s1; have tp1 := tp1.isList; unfold Rep at r2; subst r2; cases (show v = Value.bool _ from w2); exact SeqAt.EqAt.list_bool _ tp1 hu
  | int b2 => unfold Rep at r1; obtain ⟨p1, vs1, y1, s1, q1⟩ := r1; subst y1; cases (show u = Value.ref _ from w1); obtain ⟨its1, rv1, tp1, _⟩ := I.list s1; have tp1 := tp1.isList; unfold Rep at r2; subst r2; obtain ⟨t2, z2⟩ := w2; subst z2; exact SeqAt.EqAt.list_int _ _ tp1 hu
  | str b2 => unfold Rep at r1; obtain ⟨p1, vs1, y1, s1, q1⟩ := r1; subst y1; cases (show u = Value.ref _ from w1); obtain ⟨its1, rv1, tp1, _⟩ := I.list s1; have tp1 := tp1.isList; unfold Rep at r2; subst r2; obtain ⟨t2, z2⟩ := w2; subst z2; exact SeqAt.EqAt.list_str _ _ tp1 hu
  | tup es => unfold Rep at r1; obtain ⟨p1, vs1, y1, s1, q1⟩ := r1; subst y1; cases (show u = Value.ref _ from w1); obtain ⟨its1, rv1, tp1, _⟩ := I.list s1; have tp1 := tp1.isList; unfold Rep at r2; obtain ⟨p2, vs2, y2, s2, q2⟩ := r2; subst y2; cases (show v = Value.ref _ from w2); obtain ⟨its2, rv2, tp2, _⟩ := I.tuple s2; exact SeqAt.EqAt.list_tuple tp1 tp2 hu
  | lst es =>
   unfold Rep at r1 r2
   obtain ⟨p1, vs1, y1, _⟩ := r1
   obtain ⟨p2, vs2, y2, _⟩ := r2
   subst y1 y2
   cases (show u = Value.ref _ from w1)
   cases (show v = Value.ref _ from w2)
   by_cases h : p1 = p2
   ·rw [one (by rw [h]), h]; exact SeqAt.EqAt.same _
   ·exact SeqAt.EqAt.of_refs h key
theorem arr_get {its : List Value} {j : Nat} (h : j < its.toArray.size) : its[j]? = some its.toArray[j] := by
 have h' : j < its.length := by simpa using h
 simp [h']
theorem item_eq {A : Around} {n : Nat} (eqn : EqN X H s n) {ds es : List D} {vs vs' : List V} {its its' : List Value} (hn : dpDs ds <= n) (hz1 : dpDs ds < 1000) (hz2 : dpDs es < 1000) (hA : A.in1.units + n < cLine) (q1 : Reps X.K H ds vs) (q2 : Reps X.K H es vs') (rv : Vals vs its) (rv' : Vals vs' its')
  (j : Nat) (h1 : j < its.toArray.size) (h2 : j < its'.toArray.size) : SeqAt.EqAt A.in1 s its.toArray[j] its'.toArray[j] (eqD (ds.getD j .non) (es.getD j .non)) := by
 have l1 := q1.length
 have l2 := q2.length
 have m1 := rv.length
 have m2 := rv'.length
 have k1 : j < ds.length := by rw [List.size_toArray] at h1; omega
 have k2 : j < es.length := by rw [List.size_toArray] at h2; omega
 have e1 : ds[j]? = some ds[j] := by simp [k1]
 have e2 : es[j]? = some es[j] := by simp [k2]
 obtain ⟨v, a1, a2⟩ := q1.get e1
 obtain ⟨v', b1, b2⟩ := q2.get e2
 obtain ⟨u, c1, c2⟩ := rv.get a1
 obtain ⟨u', d1, d2⟩ := rv'.get b1
 rw [arr_get h1] at c1
 rw [arr_get h2] at d1
 have g1 : ds.getD j .non = ds[j] := by simp [List.getD, k1]
 have g2 : es.getD j .non = es[j] := by simp [List.getD, k2]
 rw [g1, g2, Option.some.inj c1, Option.some.inj d1]
 exact eqn A.in1 ds[j] es[j] v v' u u' (dpDs_le hn e1) (by have z := dpDs_le (n := 999) (by omega) e1; omega) (by have z := dpDs_le (n := 999) (by omega) e2; omega) hA a2 c2 b2 d2
theorem rcS (I : Inv X pins σ H s) (n : Nat) (ih : ∀ m, m < n -> EqN X H s m) : RcN X H s n := by
  intro A d e x y u v hn hz1 hz2 hA r1 w1 r2 w2
  have hu : A.units < cLine := by omega
  cases d with
  | non =>
   cases e with
   | non => unfold Rep at r1; subst r1; cases (show u = Value.none from w1); unfold Rep at r2; subst r2; cases (show v = Value.none from w2); exact SeqAt.RcAt.none_none
   | bl b2 => unfold Rep at r1; subst r1; cases (show u = Value.none from w1); unfold Rep at r2; subst r2; cases (show v = Value.bool _ from w2); exact SeqAt.RcAt.none_bool _
   | int b2 => unfold Rep at r1; subst r1; cases (show u = Value.none from w1); unfold Rep at r2; subst r2; obtain ⟨t2, z2⟩ := w2; subst z2; exact SeqAt.RcAt.none_int _ _
   | str b2 => unfold Rep at r1; subst r1; cases (show u = Value.none from w1); unfold Rep at r2; subst r2; obtain ⟨t2, z2⟩ := w2; subst z2; exact SeqAt.RcAt.none_str _ _
   | tup es => unfold Rep at r1; subst r1; cases (show u = Value.none from w1); unfold Rep at r2; obtain ⟨p2, vs2, y2, s2, q2⟩ := r2; subst y2; cases (show v = Value.ref _ from w2); obtain ⟨its2, rv2, tp2, _⟩ := I.tuple s2; exact SeqAt.RcAt.none_tuple tp2 hu
   | lst es => unfold Rep at r1; subst r1; cases (show u = Value.none from w1); unfold Rep at r2; obtain ⟨p2, vs2, y2, s2, q2⟩ := r2; subst y2; cases (show v = Value.ref _ from w2); obtain ⟨its2, rv2, tp2, _⟩ := I.list s2; have tp2 := tp2.isList; exact SeqAt.RcAt.none_list tp2 hu
  | bl b1 =>
   cases e with
   | non => unfold Rep at r1; subst r1; cases (show u = Value.bool _ from w1); unfold Rep at r2; subst r2; cases (show v = Value.none from w2); exact SeqAt.RcAt.bool_none _
   | bl b2 => unfold Rep at r1; subst r1; cases (show u = Value.bool _ from w1); unfold Rep at r2; subst r2; cases (show v = Value.bool _ from w2); exact SeqAt.RcAt.bool_bool _ _
   | int b2 => unfold Rep at r1; subst r1; cases (show u = Value.bool _ from w1); unfold Rep at r2; subst r2; obtain ⟨t2, z2⟩ := w2; subst z2; exact SeqAt.RcAt.bool_int _ _ _
   | str b2 => unfold Rep at r1; subst r1; cases (show u = Value.bool _ from w1); unfold Rep at r2; subst r2; obtain ⟨t2, z2⟩ := w2; subst z2; exact SeqAt.RcAt.bool_str _ _ _
   | tup es => unfold Rep at r1; subst r1; cases (show u = Value.bool _ from w1); unfold Rep at r2; obtain ⟨p2, vs2, y2, s2, q2⟩ := r2; subst y2; cases (show v = Value.ref _ from w2); obtain ⟨its2, rv2, tp2, _⟩ := I.tuple s2; exact SeqAt.RcAt.bool_tuple _ tp2 hu
   | lst es => unfold Rep at r1; subst r1; cases (show u = Value.bool _ from w1); unfold Rep at r2; obtain ⟨p2, vs2, y2, s2, q2⟩ := r2; subst y2; cases (show v = Value.ref _ from w2); obtain ⟨its2, rv2, tp2, _⟩ := I.list s2; have tp2 := tp2.isList; exact SeqAt.RcAt.bool_list _ tp2 hu
  | int b1 =>
   cases e with
   | non => unfold Rep at r1; subst r1; obtain ⟨t1, z1⟩ := w1; subst z1; unfold Rep at r2; subst r2; cases (show v = Value.none from w2); exact SeqAt.RcAt.int_none _ _
   | bl b2 => unfold Rep at r1; subst r1; obtain ⟨t1, z1⟩ := w1; subst z1; unfold Rep at r2; subst r2; cases (show v = Value.bool _ from w2); exact SeqAt.RcAt.int_bool _ _ _
   | int b2 => unfold Rep at r1; subst r1; obtain ⟨t1, z1⟩ := w1; subst z1; unfold Rep at r2; subst r2; obtain ⟨t2, z2⟩ := w2; subst z2; exact SeqAt.RcAt.int_int _ _ _ _
   | str b2 => unfold Rep at r1; subst r1; obtain ⟨t1, z1⟩ := w1; subst z1; unfold Rep at r2; subst r2; obtain ⟨t2, z2⟩ := w2; subst z2; exact SeqAt.RcAt.int_str _ _ _ _
   | tup es => unfold Rep at r1; subst r1; obtain ⟨t1, z1⟩ := w1; subst z1; unfold Rep at r2; obtain ⟨p2, vs2, y2, s2, q2⟩ := r2; subst y2; cases (show v = Value.ref _ from w2); obtain ⟨its2, rv2, tp2, _⟩ := I.tuple s2; exact SeqAt.RcAt.int_tuple _ _ tp2 hu
   | lst es => unfold Rep at r1; subst r1; obtain ⟨t1, z1⟩ := w1; subst z1; unfold Rep at r2; obtain ⟨p2, vs2, y2, s2, q2⟩ := r2; subst y2; cases (show v = Value.ref _ from w2); obtain ⟨its2, rv2, tp2, _⟩ := I.list s2; have tp2 := tp2.isList; exact SeqAt.RcAt.int_list _ _ tp2 hu
  | str b1 =>
   cases e with
   | non => unfold Rep at r1; subst r1; obtain ⟨t1, z1⟩ := w1; subst z1; unfold Rep at r2; subst r2; cases (show v = Value.none from w2); exact SeqAt.RcAt.str_none _ _
   | bl b2 => unfold Rep at r1; subst r1; obtain ⟨t1, z1⟩ := w1; subst z1; unfold Rep at r2; subst r2; cases (show v = Value.bool _ from w2); exact SeqAt.RcAt.str_bool _ _ _
   | int b2 => unfold Rep at r1; subst r1; obtain ⟨t1, z1⟩ := w1; subst z1; unfold Rep at r2; subst r2; obtain ⟨t2, z2⟩ := w2; subst z2; exact SeqAt.RcAt.str_int _ _ _ _
   | str b2 => unfold Rep at r1; subst r1; obtain ⟨t1, z1⟩ := w1; subst z1; unfold Rep at r2; subst r2; obtain ⟨t2, z2⟩ := w2; subst z2; exact SeqAt.RcAt.str_str _ _ _ _
   | tup es => unfold Rep at r1; subst r1; obtain ⟨t1, z1⟩ := w1; subst z1; unfold Rep at r2; obtain ⟨p2, vs2, y2, s2, q2⟩ := r2; subst y2; cases (show v = Value.ref _ from w2); obtain ⟨its2, rv2, tp2, _⟩ := I.tuple s2; exact SeqAt.RcAt.str_tuple _ _ tp2 hu
   | lst es => unfold Rep at r1; subst r1; obtain ⟨t1, z1⟩ := w1; subst z1; unfold Rep at r2; obtain ⟨p2, vs2, y2, s2, q2⟩ := r2; subst y2; cases (show v = Value.ref _ from w2); obtain ⟨its2, rv2, tp2, _⟩ := I.list s2; have tp2 := tp2.isList; exact SeqAt.RcAt.str_list _ _ tp2 hu
  | tup ds =>
   cases e with
   | non => unfold Rep at r1; obtain ⟨p1, vs1, y1, s1, q1⟩ := r1; subst y1; cases (show u = Value.ref _ from w1); obtain ⟨its1, rv1, tp1, _⟩ := I.tuple s1; unfold Rep at r2; subst r2; cases (show v = Value.none from w2); exact SeqAt.RcAt.tuple_none tp1 hu
   | bl b2 => unfold Rep at r1; obtain ⟨p1, vs1, y1, s1, q1⟩ := r1; subst y1; cases (show u = Value.ref _ from w1); obtain ⟨its1, rv1, tp1, _⟩ := I.tuple s1; unfold Rep at r2; subst r2; cases (show v = Value.bool _ from w2); exact SeqAt.RcAt.tuple_bool _ tp1 hu
   | int b2 => unfold Rep at r1; obtain ⟨p1, vs1, y1, s1, q1⟩ := r1; subst y1; cases (show u = Value.ref _ from w1); obtain ⟨its1, rv1, tp1, _⟩ := I.tuple s1; unfold Rep at r2; subst r2; obtain ⟨t2, z2⟩ := w2; subst z2; exact SeqAt.RcAt.tuple_int _ _ tp1 hu
   | str b2 => unfold Rep at r1; obtain ⟨p1, vs1, y1, s1, q1⟩ := r1; subst y1; cases (show u = Value.ref _ from w1); obtain ⟨its1, rv1, tp1, _⟩ := I.tuple s1; unfold Rep at r2; subst r2; obtain ⟨t2, z2⟩ := w2; subst z2; exact SeqAt.RcAt.tuple_str _ _ tp1 hu
   | tup es =>
     rw [dpD_tup] at hn
     unfold Rep at r1; obtain ⟨p1, vs1, y1, s1, q1⟩ := r1; subst y1; cases (show u = Value.ref _ from w1); obtain ⟨its1, rv1, tp1, _⟩ := I.tuple s1
     unfold Rep at r2; obtain ⟨p2, vs2, y2, s2, q2⟩ := r2; subst y2; cases (show v = Value.ref _ from w2); obtain ⟨its2, rv2, tp2, _⟩ := I.tuple s2
     have hi : A.in1.units + (n - 1) < cLine := by show A.units + 1 + (n - 1) < cLine; omega
     have z := SeqAt.RcAt.tuples (e := fun j => eqD (ds.getD j .non) (es.getD j .non)) tp1 tp2 hu (item_eq (A := A) (ih (n - 1) (by omega)) (by omega) (by first | (rw [dpD_tup] at hz1; omega) | (rw [dpD_lst] at hz1; omega)) (by first | (rw [dpD_tup] at hz2; omega) | (rw [dpD_lst] at hz2; omega)) hi q1 q2 rv1 rv2)
     rw [List.size_toArray, List.size_toArray, <- rv1.length, <- rv2.length, <- q1.length, <- q2.length] at z
     rw [eqD, eqDs_all]
     exact z
   | lst es => unfold Rep at r1; obtain ⟨p1, vs1, y1, s1, q1⟩ := r1; subst y1; cases (show u = Value.ref _ from w1); obtain ⟨its1, rv1, tp1, _⟩ := I.tuple s1; unfold Rep at r2; obtain ⟨p2, vs2, y2, s2, q2⟩ := r2; subst y2; cases (show v = Value.ref _ from w2); obtain ⟨its2, rv2, tp2, _⟩ := I.list s2; have tp2 := tp2.isList; exact SeqAt.RcAt.tuple_list tp1 tp2 hu
  | lst ds =>
   cases e with
   | non => unfold Rep at r1; obtain ⟨p1, vs1, y1, s1, q1⟩ := r1; subst y1; cases (show u = Value.ref _ from w1); obtain ⟨its1, rv1, tp1, _⟩ := I.list s1; have tp1 := tp1.isList; unfold Rep at r2; subst r2; cases (show v = Value.none from w2); exact SeqAt.RcAt.list_none tp1 hu
   | bl b2 => unfold Rep at r1; obtain ⟨p1, vs1, y1, s1, q1⟩ := r1; subst y1; cases (show u = Value.ref _ from w1); obtain ⟨its1, rv1, tp1, _⟩ := I.list s1; have tp1 := tp1.isList; unfold Rep at r2; subst r2; cases (show v = Value.bool _ from w2); exact SeqAt.RcAt.list_bool _ tp1 hu
   | int b2 => unfold Rep at r1; obtain ⟨p1, vs1, y1, s1, q1⟩ := r1; subst y1; cases (show u = Value.ref _ from w1); obtain ⟨its1, rv1, tp1, _⟩ := I.list s1; have tp1 := tp1.isList; unfold Rep at r2; subst r2; obtain ⟨t2, z2⟩ := w2; subst z2; exact SeqAt.RcAt.list_int _ _ tp1 hu
   | str b2 => unfold Rep at r1; obtain ⟨p1, vs1, y1, s1, q1⟩ := r1; subst y1; cases (show u = Value.ref _ from w1); obtain ⟨its1, rv1, tp1, _⟩ := I.list s1; have tp1 := tp1.isList; unfold Rep at r2; subst r2; obtain ⟨t2, z2⟩ := w2; subst z2; exact SeqAt.RcAt.list_str _ _ tp1 hu
   | tup es => unfold Rep at r1; obtain ⟨p1, vs1, y1, s1, q1⟩ := r1; subst y1; cases (show u = Value.ref _ from w1); obtain ⟨its1, rv1, tp1, _⟩ := I.list s1; have tp1 := tp1.isList; unfold Rep at r2; obtain ⟨p2, vs2, y2, s2, q2⟩ := r2; subst y2; cases (show v = Value.ref _ from w2); obtain ⟨its2, rv2, tp2, _⟩ := I.tuple s2; exact SeqAt.RcAt.list_tuple tp1 tp2 hu
   | lst es =>
     rw [dpD_lst] at hn
     unfold Rep at r1; obtain ⟨p1, vs1, y1, s1, q1⟩ := r1; subst y1; cases (show u = Value.ref _ from w1); obtain ⟨its1, rv1, tp1, _⟩ := I.list s1; have tp1 := tp1.isList
     unfold Rep at r2; obtain ⟨p2, vs2, y2, s2, q2⟩ := r2; subst y2; cases (show v = Value.ref _ from w2); obtain ⟨its2, rv2, tp2, _⟩ := I.list s2; have tp2 := tp2.isList
     have hi : A.in1.units + (n - 1) < cLine := by show A.units + 1 + (n - 1) < cLine; omega
     have l1 : its1.toArray.size = ds.length := by rw [List.size_toArray, <- rv1.length, <- q1.length]
     have l2 : its2.toArray.size = es.length := by rw [List.size_toArray, <- rv2.length, <- q2.length]
     rw [eqD, eqDs_all]
     by_cases hl : ds.length = es.length
     ·have z := SeqAt.RcAt.lists (e := fun j => eqD (ds.getD j .non) (es.getD j .non)) tp1 tp2 (by rw [l1, l2]; exact hl) hu (item_eq (A := A) (ih (n - 1) (by omega)) (by omega) (by first | (rw [dpD_tup] at hz1; omega) | (rw [dpD_lst] at hz1; omega)) (by first | (rw [dpD_tup] at hz2; omega) | (rw [dpD_lst] at hz2; omega)) hi q1 q2 rv1 rv2)
      rw [l1] at z
      rw [show min ds.length es.length = ds.length by omega, show (ds.length == es.length) = true by simp [hl], Bool.and_true]
      exact z
     ·rw [show (ds.length == es.length) = false by simp [hl], Bool.and_false]
      exact SeqAt.RcAt.lists_lengths tp1 tp2 (by rw [l1, l2]; simp [hl]) hu
theorem eqNall (I : Inv X pins σ H s) (n : Nat) : EqN X H s n := by
 induction n using Nat.strongRecOn with
 | ind n ih => exact eqN_of I (rcS I n ih)
theorem rcN (I : Inv X pins σ H s) (n : Nat) : RcN X H s n := rcS I n fun m _ => eqNall I m
noncomputable def rEqD (K : PySem.W.Frag) : R2 := fun x y H Q => ∃ d e, Rep K H d x /\ Rep K H e y /\ dpD d <= 30 /\ dpD e <= 30 /\ Q (.bl (eqD d e)) H
theorem op_eqD (hu : X.A.units + 64 < cLine) : OpR X (compareOp .Eq) (rEqD X.K) := by
 intro pins s σ H x y v u Q I rx ry h
 obtain ⟨d, e, r1, r2, hd, hd2, q⟩ := h
 exact rcN I 30 X.A d e x y v u hd (by omega) (by omega) (by omega) r1 rx r2 ry X.prog X.w X.xe _ ⟨.bl _, H, I, rfl, q⟩
theorem eqOpD {K : PySem.W.Frag} : OpD K (rEqD K) dEq := fun c H0 H ρ σ x y d vx vy Q R r1 r2 e q => by
 unfold dEq at e
 split at e
 ·rename_i hd
  cases e
  exact ⟨x, y, Rep.mono R.same x r1, Rep.mono R.same y r2, hd.1, hd.2, q _ H0 H (Same.refl _) R (rep_bl _ _)⟩
 ·cases e
theorem cEq (hu : X.A.units + 64 < cLine) : CmpOk X .Eq dEq := ⟨_, op_eqD hu, eqOpD⟩
theorem neN (I : Inv X pins σ H s) (n : Nat) (A : Around) (d e : D) (x y : V) (u v : Value) (hn : dpD d <= n) (hz1 : dpD d < 1000) (hz2 : dpD e < 1000) (hA : A.units + n < cLine) (r1 : Rep X.K H d x) (w1 : RelV x u) (r2 : Rep X.K H e y) (w2 : RelV y v) : SeqAt.RcNeAt A s u v (!eqD d e) := by
  have hu : A.units < cLine := by omega
  cases d with
  | non =>
   cases e with
   | non => unfold Rep at r1; subst r1; cases (show u = Value.none from w1); unfold Rep at r2; subst r2; cases (show v = Value.none from w2); exact SeqAt.RcNeAt.none_none
   | bl b2 => unfold Rep at r1; subst r1; cases (show u = Value.none from w1); unfold Rep at r2; subst r2; cases (show v = Value.bool _ from w2); exact SeqAt.RcNeAt.none_bool _
   | int b2 => unfold Rep at r1; subst r1; cases (show u = Value.none from w1); unfold Rep at r2; subst r2; obtain ⟨t2, z2⟩ := w2; subst z2; exact SeqAt.RcNeAt.none_int _ _
   | str b2 => unfold Rep at r1; subst r1; cases (show u = Value.none from w1); unfold Rep at r2; subst r2; obtain ⟨t2, z2⟩ := w2; subst z2; exact SeqAt.RcNeAt.none_str _ _
   | tup es => unfold Rep at r1; subst r1; cases (show u = Value.none from w1); unfold Rep at r2; obtain ⟨p2, vs2, y2, s2, q2⟩ := r2; subst y2; cases (show v = Value.ref _ from w2); obtain ⟨its2, rv2, tp2, _⟩ := I.tuple s2; exact SeqAt.RcNeAt.none_tuple tp2 hu
   | lst es => unfold Rep at r1; subst r1; cases (show u = Value.none from w1); unfold Rep at r2; obtain ⟨p2, vs2, y2, s2, q2⟩ := r2; subst y2; cases (show v = Value.ref _ from w2); obtain ⟨its2, rv2, tp2, _⟩ := I.list s2; have tp2 := tp2.isList; exact SeqAt.RcNeAt.none_list tp2 hu
  | bl b1 =>
   cases e with
   | non => unfold Rep at r1; subst r1; cases (show u = Value.bool _ from w1); unfold Rep at r2; subst r2; cases (show v = Value.none from w2); exact SeqAt.RcNeAt.bool_none _
   | bl b2 => unfold Rep at r1; subst r1; cases (show u = Value.bool _ from w1); unfold Rep at r2; subst r2; cases (show v = Value.bool _ from w2); exact SeqAt.RcNeAt.bool_bool _ _
   | int b2 => unfold Rep at r1; subst r1; cases (show u = Value.bool _ from w1); unfold Rep at r2; subst r2; obtain ⟨t2, z2⟩ := w2; subst z2; exact SeqAt.RcNeAt.bool_int _ _ _
   | str b2 => unfold Rep at r1; subst r1; cases (show u = Value.bool _ from w1); unfold Rep at r2; subst r2; obtain ⟨t2, z2⟩ := w2; subst z2; exact SeqAt.RcNeAt.bool_str _ _ _
   | tup es => unfold Rep at r1; subst r1; cases (show u = Value.bool _ from w1); unfold Rep at r2; obtain ⟨p2, vs2, y2, s2, q2⟩ := r2; subst y2; cases (show v = Value.ref _ from w2); obtain ⟨its2, rv2, tp2, _⟩ := I.tuple s2; exact SeqAt.RcNeAt.bool_tuple _ tp2 hu
   | lst es => unfold Rep at r1; subst r1; cases (show u = Value.bool _ from w1); unfold Rep at r2; obtain ⟨p2, vs2, y2, s2, q2⟩ := r2; subst y2; cases (show v = Value.ref _ from w2); obtain ⟨its2, rv2, tp2, _⟩ := I.list s2; have tp2 := tp2.isList; exact SeqAt.RcNeAt.bool_list _ tp2 hu
  | int b1 =>
   cases e with
   | non => unfold Rep at r1; subst r1; obtain ⟨t1, z1⟩ := w1; subst z1; unfold Rep at r2; subst r2; cases (show v = Value.none from w2); exact SeqAt.RcNeAt.int_none _ _
   | bl b2 => unfold Rep at r1; subst r1; obtain ⟨t1, z1⟩ := w1; subst z1; unfold Rep at r2; subst r2; cases (show v = Value.bool _ from w2); exact SeqAt.RcNeAt.int_bool _ _ _
   | int b2 => unfold Rep at r1; subst r1; obtain ⟨t1, z1⟩ := w1; subst z1; unfold Rep at r2; subst r2; obtain ⟨t2, z2⟩ := w2; subst z2; exact SeqAt.RcNeAt.int_int _ _ _ _
   | str b2 => unfold Rep at r1; subst r1; obtain ⟨t1, z1⟩ := w1; subst z1; unfold Rep at r2; subst r2; obtain ⟨t2, z2⟩ := w2; subst z2; exact SeqAt.RcNeAt.int_str _ _ _ _
   | tup es => unfold Rep at r1; subst r1; obtain ⟨t1, z1⟩ := w1; subst z1; unfold Rep at r2; obtain ⟨p2, vs2, y2, s2, q2⟩ := r2; subst y2; cases (show v = Value.ref _ from w2); obtain ⟨its2, rv2, tp2, _⟩ := I.tuple s2; exact SeqAt.RcNeAt.int_tuple _ _ tp2 hu
   | lst es => unfold Rep at r1; subst r1; obtain ⟨t1, z1⟩ := w1; subst z1; unfold Rep at r2; obtain ⟨p2, vs2, y2, s2, q2⟩ := r2; subst y2; cases (show v = Value.ref _ from w2); obtain ⟨its2, rv2, tp2, _⟩ := I.list s2; have tp2 := tp2.isList; exact SeqAt.RcNeAt.int_list _ _ tp2 hu
  | str b1 =>
   cases e with
   | non => unfold Rep at r1; subst r1; obtain ⟨t1, z1⟩ := w1; subst z1; unfold Rep at r2; subst r2; cases (show v = Value.none from w2); exact SeqAt.RcNeAt.str_none _ _
   | bl b2 => unfold Rep at r1; subst r1; obtain ⟨t1, z1⟩ := w1; subst z1; unfold Rep at r2; subst r2; cases (show v = Value.bool _ from w2); exact SeqAt.RcNeAt.str_bool _ _ _
   | int b2 => unfold Rep at r1; subst r1; obtain ⟨t1, z1⟩ := w1; subst z1; unfold Rep at r2; subst r2; obtain ⟨t2, z2⟩ := w2; subst z2; exact SeqAt.RcNeAt.str_int _ _ _ _
   | str b2 => unfold Rep at r1; subst r1; obtain ⟨t1, z1⟩ := w1; subst z1; unfold Rep at r2; subst r2; obtain ⟨t2, z2⟩ := w2; subst z2; exact SeqAt.RcNeAt.str_str _ _ _ _
   | tup es => unfold Rep at r1; subst r1; obtain ⟨t1, z1⟩ := w1; subst z1; unfold Rep at r2; obtain ⟨p2, vs2, y2, s2, q2⟩ := r2; subst y2; cases (show v = Value.ref _ from w2); obtain ⟨its2, rv2, tp2, _⟩ := I.tuple s2; exact SeqAt.RcNeAt.str_tuple _ _ tp2 hu
   | lst es => unfold Rep at r1; subst r1; obtain ⟨t1, z1⟩ := w1; subst z1; unfold Rep at r2; obtain ⟨p2, vs2, y2, s2, q2⟩ := r2; subst y2; cases (show v = Value.ref _ from w2); obtain ⟨its2, rv2, tp2, _⟩ := I.list s2; have tp2 := tp2.isList; exact SeqAt.RcNeAt.str_list _ _ tp2 hu
  | tup ds =>
   cases e with
   | non => unfold Rep at r1; obtain ⟨p1, vs1, y1, s1, q1⟩ := r1; subst y1; cases (show u = Value.ref _ from w1); obtain ⟨its1, rv1, tp1, _⟩ := I.tuple s1; unfold Rep at r2; subst r2; cases (show v = Value.none from w2); exact SeqAt.RcNeAt.tuple_none tp1 hu
   | bl b2 => unfold Rep at r1; obtain ⟨p1, vs1, y1, s1, q1⟩ := r1; subst y1; cases (show u = Value.ref _ from w1); obtain ⟨its1, rv1, tp1, _⟩ := I.tuple s1; unfold Rep at r2; subst r2; cases (show v = Value.bool _ from w2); exact SeqAt.RcNeAt.tuple_bool _ tp1 hu
   | int b2 => unfold Rep at r1; obtain ⟨p1, vs1, y1, s1, q1⟩ := r1; subst y1; cases (show u = Value.ref _ from w1); obtain ⟨its1, rv1, tp1, _⟩ := I.tuple s1; unfold Rep at r2; subst r2; obtain ⟨t2, z2⟩ := w2; subst z2; exact SeqAt.RcNeAt.tuple_int _ _ tp1 hu
   | str b2 => unfold Rep at r1; obtain ⟨p1, vs1, y1, s1, q1⟩ := r1; subst y1; cases (show u = Value.ref _ from w1); obtain ⟨its1, rv1, tp1, _⟩ := I.tuple s1; unfold Rep at r2; subst r2; obtain ⟨t2, z2⟩ := w2; subst z2; exact SeqAt.RcNeAt.tuple_str _ _ tp1 hu
   | tup es =>
     rw [dpD_tup] at hn
     unfold Rep at r1; obtain ⟨p1, vs1, y1, s1, q1⟩ := r1; subst y1; cases (show u = Value.ref _ from w1); obtain ⟨its1, rv1, tp1, _⟩ := I.tuple s1
     unfold Rep at r2; obtain ⟨p2, vs2, y2, s2, q2⟩ := r2; subst y2; cases (show v = Value.ref _ from w2); obtain ⟨its2, rv2, tp2, _⟩ := I.tuple s2
     have hi : A.in1.units + (n - 1) < cLine := by show A.units + 1 + (n - 1) < cLine; omega
     have z := SeqAt.RcNeAt.tuples (e := fun j => eqD (ds.getD j .non) (es.getD j .non)) tp1 tp2 hu (item_eq (A := A) (eqNall I (n - 1)) (by omega) (by first | (rw [dpD_tup] at hz1; omega) | (rw [dpD_lst] at hz1; omega)) (by first | (rw [dpD_tup] at hz2; omega) | (rw [dpD_lst] at hz2; omega)) hi q1 q2 rv1 rv2)
     rw [List.size_toArray, List.size_toArray, <- rv1.length, <- rv2.length, <- q1.length, <- q2.length] at z
     rw [eqD, eqDs_all]
     exact z
   | lst es => unfold Rep at r1; obtain ⟨p1, vs1, y1, s1, q1⟩ := r1; subst y1; cases (show u = Value.ref _ from w1); obtain ⟨its1, rv1, tp1, _⟩ := I.tuple s1; unfold Rep at r2; obtain ⟨p2, vs2, y2, s2, q2⟩ := r2; subst y2; cases (show v = Value.ref _ from w2); obtain ⟨its2, rv2, tp2, _⟩ := I.list s2; have tp2 := tp2.isList; exact SeqAt.RcNeAt.tuple_list tp1 tp2 hu
  | lst ds =>
   cases e with
   | non => unfold Rep at r1; obtain ⟨p1, vs1, y1, s1, q1⟩ := r1; subst y1; cases (show u = Value.ref _ from w1); obtain ⟨its1, rv1, tp1, _⟩ := I.list s1; have tp1 := tp1.isList; unfold Rep at r2; subst r2; cases (show v = Value.none from w2); exact SeqAt.RcNeAt.list_none tp1 hu
   | bl b2 => unfold Rep at r1; obtain ⟨p1, vs1, y1, s1, q1⟩ := r1; subst y1; cases (show u = Value.ref _ from w1); obtain ⟨its1, rv1, tp1, _⟩ := I.list s1; have tp1 := tp1.isList; unfold Rep at r2; subst r2; cases (show v = Value.bool _ from w2); exact SeqAt.RcNeAt.list_bool _ tp1 hu
   | int b2 => unfold Rep at r1; obtain ⟨p1, vs1, y1, s1, q1⟩ := r1; subst y1; cases (show u = Value.ref _ from w1); obtain ⟨its1, rv1, tp1, _⟩ := I.list s1; have tp1 := tp1.isList; unfold Rep at r2; subst r2; obtain ⟨t2, z2⟩ := w2; subst z2; exact SeqAt.RcNeAt.list_int _ _ tp1 hu
   | str b2 => unfold Rep at r1; obtain ⟨p1, vs1, y1, s1, q1⟩ := r1; subst y1; cases (show u = Value.ref _ from w1); obtain ⟨its1, rv1, tp1, _⟩ := I.list s1; have tp1 := tp1.isList; unfold Rep at r2; subst r2; obtain ⟨t2, z2⟩ := w2; subst z2; exact SeqAt.RcNeAt.list_str _ _ tp1 hu
   | tup es => unfold Rep at r1; obtain ⟨p1, vs1, y1, s1, q1⟩ := r1; subst y1; cases (show u = Value.ref _ from w1); obtain ⟨its1, rv1, tp1, _⟩ := I.list s1; have tp1 := tp1.isList; unfold Rep at r2; obtain ⟨p2, vs2, y2, s2, q2⟩ := r2; subst y2; cases (show v = Value.ref _ from w2); obtain ⟨its2, rv2, tp2, _⟩ := I.tuple s2; exact SeqAt.RcNeAt.list_tuple tp1 tp2 hu
   | lst es =>
     rw [dpD_lst] at hn
     unfold Rep at r1; obtain ⟨p1, vs1, y1, s1, q1⟩ := r1; subst y1; cases (show u = Value.ref _ from w1); obtain ⟨its1, rv1, tp1, _⟩ := I.list s1; have tp1 := tp1.isList
     unfold Rep at r2; obtain ⟨p2, vs2, y2, s2, q2⟩ := r2; subst y2; cases (show v = Value.ref _ from w2); obtain ⟨its2, rv2, tp2, _⟩ := I.list s2; have tp2 := tp2.isList
     have hi : A.in1.units + (n - 1) < cLine := by show A.units + 1 + (n - 1) < cLine; omega
     have l1 : its1.toArray.size = ds.length := by rw [List.size_toArray, <- rv1.length, <- q1.length]
     have l2 : its2.toArray.size = es.length := by rw [List.size_toArray, <- rv2.length, <- q2.length]
     rw [eqD, eqDs_all]
     by_cases hl : ds.length = es.length
     ·have z := SeqAt.RcNeAt.lists (e := fun j => eqD (ds.getD j .non) (es.getD j .non)) tp1 tp2 (by rw [l1, l2]; exact hl) hu (item_eq (A := A) (eqNall I (n - 1)) (by omega) (by first | (rw [dpD_tup] at hz1; omega) | (rw [dpD_lst] at hz1; omega)) (by first | (rw [dpD_tup] at hz2; omega) | (rw [dpD_lst] at hz2; omega)) hi q1 q2 rv1 rv2)
      rw [l1] at z
      rw [show min ds.length es.length = ds.length by omega, show (ds.length == es.length) = true by simp [hl], Bool.and_true]
      exact z
     ·rw [show (ds.length == es.length) = false by simp [hl], Bool.and_false]
      exact SeqAt.RcNeAt.lists_lengths tp1 tp2 (by rw [l1, l2]; simp [hl]) hu
noncomputable def rNeD (K : PySem.W.Frag) : R2 := fun x y H Q => ∃ d e, Rep K H d x /\ Rep K H e y /\ dpD d <= 30 /\ dpD e <= 30 /\ Q (.bl (!eqD d e)) H
theorem op_neD (hu : X.A.units + 64 < cLine) : OpR X (compareOp .NotEq) (rNeD X.K) := by
 intro pins s σ H x y v u Q I rx ry h
 obtain ⟨d, e, r1, r2, hd, hd2, q⟩ := h
 exact neN I 30 X.A d e x y v u hd (by omega) (by omega) (by omega) r1 rx r2 ry X.prog X.w X.xe _ ⟨.bl _, H, I, rfl, q⟩
theorem neOpD {K : PySem.W.Frag} : OpD K (rNeD K) dNe := fun c H0 H ρ σ x y d vx vy Q R r1 r2 e q => by
 unfold dNe at e
 split at e
 ·rename_i hd
  cases e
  exact ⟨x, y, Rep.mono R.same x r1, Rep.mono R.same y r2, hd.1, hd.2, q _ H0 H (Same.refl _) R (rep_bl _ _)⟩
 ·cases e
theorem cNe (hu : X.A.units + 64 < cLine) : CmpOk X .NotEq dNe := ⟨_, op_neD hu, neOpD⟩
end
end Fx
set_option maxRecDepth 100000
namespace Fx
open PySem PySem.Spec PyProof.Rows L2
section
variable {X : Cx}
noncomputable def BOk (X : Cx) (f : Value) (g : List D -> Option D) : Prop := ∃ r, CallR X f r /\ ∀ (c : FC) (H0 H : Hp) (ρ : En) (σ : L2.St) (ds : List D) (d : D) (vs : List V) (Q : VK), RS X.K c H0 H ρ σ -> Reps X.K H0 ds vs -> g ds = some d -> Aft X.K c H0 ρ σ d Q -> r vs H Q
theorem eF_of {g : List D -> Option D} {A : FA} {r : List V -> Hp -> VK -> Prop} (o : ∀ (c : FC) (H0 H : Hp) (ρ : En) (σ : L2.St) (ds : List D) (d : D) (vs : List V) (Q : VK), RS X.K c H0 H ρ σ -> Reps X.K H0 ds vs -> g ds = some d -> Aft X.K c H0 ρ σ d Q -> r vs H Q)
  {σ : L2.St} {H : Hp} {Q : VK} (h : tE X.K (eF g A) σ H Q) : tCB r (tAa X.K A) σ H Q := by
 obtain ⟨c, H0, ρ, d, ρ', R, f, q⟩ := h
 unfold eF at f
 obtain ⟨⟨ds, ρ1⟩, h1, f⟩ := bnd_eq f
 obtain ⟨d', h2, f⟩ := bnd_eq f
 have f' : some (d', ρ1) = some (d, ρ') := f
 cases f'
 exact ⟨c, H0, ρ, ds, _, R, h1, fun vs H1 Hh s1 R1 r1 => o c H1 Hh _ σ ds d vs Q R1 r1 h2 fun v H2 Hh2 s2 R2 r2 => q v H2 Hh2 (s1.trans s2) R2 r2⟩
theorem xB {id : String} {g : List D → Option D} {A : FA} {x : Str} {p pos : Pos} {e : Expr} {es : List Expr} (o : BOk X (.builtin id) g) (hg : Gl X x) (hm : X.mg x = none) (hv : bootBuiltins x = some (.builtin id)) (ha : XA X (e :: es) A) (hn : x ≠ "__name__" := by decide) (hdb : (x == ("__debug__" : Str)) = false := by decide)
  (he : starEach (e :: es) X.env = (false, eval e X.env) :: starEach es X.env := by rfl) (hpl : (backTo pos (starEach es X.env)).any (·.1) = false := by rfl) : XE X (.Call (.Name x p) (e :: es) [] pos) (eF g A) := by
 obtain ⟨r, h1, h2⟩ := o
 exact PE.wk (pe_callB h1 hg hm hv ha hn hdb he hpl) fun σ H Q h => eF_of h2 h
theorem Reps.v1 {K : PySem.W.Frag} {H : Hp} {d : D} {vs : List V} (h : Reps K H [d] vs) : ∃ v, vs = [v] /\ Rep K H d v := by
 unfold Reps at h
 obtain ⟨v, r, e, a, b⟩ := h
 unfold Reps at b
 exact ⟨v, by rw [e, b], a⟩
theorem Reps.v2 {K : PySem.W.Frag} {H : Hp} {d d' : D} {vs : List V} (h : Reps K H [d, d'] vs) : ∃ v v', vs = [v, v'] /\ Rep K H d v /\ Rep K H d' v' := by
 unfold Reps at h
 obtain ⟨v, r, e, a, b⟩ := h
 obtain ⟨v', e', b'⟩ := Reps.v1 b
 exact ⟨v, v', by rw [e, e'], a, b'⟩
theorem bAbs_inv {ds : List D} {d : D} (h : bAbs ds = some d) : ∃ i, ds = [.int i] /\ d = .int (if i < 0 then -i else i) := by
 unfold bAbs at h
 split at h
 ·cases h; exact ⟨_, rfl, rfl⟩
 ·cases h
theorem callAbs : BOk X (.builtin "abs") bAbs := ⟨_, call_abs, fun c H0 H ρ σ ds d vs Q R r e q => by
 obtain ⟨i, rfl, rfl⟩ := bAbs_inv e
 obtain ⟨v, rfl, rv⟩ := Reps.v1 r
 unfold Rep at rv; subst rv
 exact ⟨i, rfl, q _ H0 H (Same.refl _) R (rep_int _ _)⟩⟩
theorem ints_rep {K : PySem.W.Frag} {H : Hp} : ∀ {ds : List D} {is : List Int} {vs : List V}, intsOf ds = some is -> Reps K H ds vs -> vs = is.map V.int
 | [], _, _, e, r => by
  have e' : ([] : List Int) = _ := Option.some.inj e
  unfold Reps at r; rw [r, <- e']; rfl
 | d :: ds, _, _, e, r => by
  cases d with
  | int i =>
   rw [intsOf_cons] at e
   obtain ⟨is, e1, e2⟩ := bnd_eq e
   cases e2
   unfold Reps at r
   obtain ⟨v, r', rfl, a, t⟩ := r
   unfold Rep at a
   rw [a, ints_rep e1 t]; rfl
  | _ => cases e
theorem intsAre_of : ∀ {is : List Int} {us : List Value}, Vals (is.map V.int) us -> IntsAre us is := by
 intro is
 induction is with
 | nil => intro us h; cases h; exact .nil
 | cons b r ih =>
  intro us h
  cases h with
  | cons a t => obtain ⟨tk, rfl⟩ := (show ∃ t, _ = Value.int b t from a); exact .cons b tk (ih t)
theorem minI_spec : ∀ (r : List Int) (m : Int), (minI m r = m \/ minI m r ∈ r) /\ minI m r <= m /\ ∀ a ∈ r, minI m r <= a
 | [], m => ⟨.inl rfl, Int.le_refl _, fun a h => by cases h⟩
 | x :: r, m => by
  obtain ⟨h1, h2, h3⟩ := minI_spec r (if x < m then x else m)
  rw [show minI m (x :: r) = minI (if x < m then x else m) r from rfl]
  by_cases h : x < m
  ·rw [if_pos h] at h1 h2 h3 ⊢
   refine ⟨.inr ?_, by omega, fun a ha => ?_⟩
   ·rcases h1 with e | e
    ·rw [e]; exact List.mem_cons_self
    ·exact List.mem_cons_of_mem _ e
   ·rcases List.mem_cons.mp ha with rfl | ha
    ·exact h2
    ·exact h3 a ha
  ·rw [if_neg h] at h1 h2 h3 ⊢
   refine ⟨?_, h2, fun a ha => ?_⟩
   ·rcases h1 with e | e
    ·exact .inl e
    ·exact .inr (List.mem_cons_of_mem _ e)
   ·rcases List.mem_cons.mp ha with rfl | ha
    ·omega
    ·exact h3 a ha
theorem maxI_spec : ∀ (r : List Int) (m : Int), (maxI m r = m \/ maxI m r ∈ r) /\ m <= maxI m r /\ ∀ a ∈ r, a <= maxI m r
 | [], m => ⟨.inl rfl, Int.le_refl _, fun a h => by cases h⟩
 | x :: r, m => by
  obtain ⟨h1, h2, h3⟩ := maxI_spec r (if m < x then x else m)
  rw [show maxI m (x :: r) = maxI (if m < x then x else m) r from rfl]
  by_cases h : m < x
  ·rw [if_pos h] at h1 h2 h3 ⊢
   refine ⟨.inr ?_, by omega, fun a ha => ?_⟩
   ·rcases h1 with e | e
    ·rw [e]; exact List.mem_cons_self
    ·exact List.mem_cons_of_mem _ e
   ·rcases List.mem_cons.mp ha with rfl | ha
    ·exact h2
    ·exact h3 a ha
  ·rw [if_neg h] at h1 h2 h3 ⊢
   refine ⟨?_, h2, fun a ha => ?_⟩
   ·rcases h1 with e | e
    ·exact .inl e
    ·exact .inr (List.mem_cons_of_mem _ e)
   ·rcases List.mem_cons.mp ha with rfl | ha
    ·omega
    ·exact h3 a ha
theorem minI_uniq {i M : Int} {r : List Int} (h : M ∈ i :: r) (h' : ∀ a ∈ i :: r, M <= a) : M = minI i r := by
 obtain ⟨h1, h2, h3⟩ := minI_spec r i
 have a1 : minI i r <= M := by
  rcases List.mem_cons.mp h with rfl | h
  ·exact h2
  ·exact h3 _ h
 have a2 : M <= minI i r := by
  rcases h1 with e | e
  ·rw [e]; exact h' _ List.mem_cons_self
  ·exact h' _ (List.mem_cons_of_mem _ e)
 omega
theorem maxI_uniq {i M : Int} {r : List Int} (h : M ∈ i :: r) (h' : ∀ a ∈ i :: r, a <= M) : M = maxI i r := by
 obtain ⟨h1, h2, h3⟩ := maxI_spec r i
 have a1 : M <= maxI i r := by
  rcases List.mem_cons.mp h with rfl | h
  ·exact h2
  ·exact h3 _ h
 have a2 : maxI i r <= M := by
  rcases h1 with e | e
  ·rw [e]; exact h' _ List.mem_cons_self
  ·exact h' _ (List.mem_cons_of_mem _ e)
 omega
theorem call_minL (hc : X.calm = true) : CallR X (.builtin "min") (fun xs H Q => ∃ (p : Addr) (i : Int) (r : List Int), xs = [.ref p] ∧ SqL X.K H p ((i :: r).map V.int) ∧ Q (.int (minI i r)) H) := by
 intro pins s σ H xs us Q I r h
 obtain ⟨l, i, is, rfl, hl, q⟩ := h
 obtain ⟨u, rfl, ru⟩ := vals1 r
 cases ru
 obtain ⟨its, rv, pl, hz⟩ := I.list hl
 have hi := intsAre_of rv
 have hL := pl.isList
 obtain ⟨ys, e⟩ := hi.allInts.items
 have hns : i :: is = ys.toList.map (·.1) := by rw [<- hi.numsOf, <- nums_intItems, <- e]
 have hsz : 0 < ys.size := by
  have h3 : 0 < (i :: is).length := Nat.succ_pos _
  rw [hns, List.length_map, Array.length_toList] at h3; exact h3
 rw [e] at hL
 refine min_intList (I.ok.hd hc) hL hsz fun v h' tk hv hk => ?_
 obtain ⟨t, rfl⟩ := intItems_at hv
 obtain ⟨h1, h2⟩ := argBest_lt (numAt ys) (ys.size - 1)
 refine ⟨_, H, I.kept hk, ?_, q⟩
 have : numAt ys (argBest (fun i j => decide (numAt ys i < numAt ys j)) (ys.size - 1)) = minI i is := minI_uniq (by rw [hns, numAt_eq]; exact getD_mem (by rw [List.length_map, Array.length_toList]; omega)) fun a ha => by
  rw [hns] at ha
  obtain ⟨j, hj, rfl⟩ := mem_getD ha
  rw [List.length_map, Array.length_toList] at hj
  rw [<- numAt_eq]; exact h2 j (by omega)
 rw [this]
 exact ⟨_, rfl⟩
theorem call_maxL (hc : X.calm = true) : CallR X (.builtin "max") (fun xs H Q => ∃ (p : Addr) (i : Int) (r : List Int), xs = [.ref p] ∧ SqL X.K H p ((i :: r).map V.int) ∧ Q (.int (maxI i r)) H) := by
 intro pins s σ H xs us Q I r h
 obtain ⟨l, i, is, rfl, hl, q⟩ := h
 obtain ⟨u, rfl, ru⟩ := vals1 r
 cases ru
 obtain ⟨its, rv, pl, hz⟩ := I.list hl
 have hi := intsAre_of rv
 have hL := pl.isList
 obtain ⟨ys, e⟩ := hi.allInts.items
 have hns : i :: is = ys.toList.map (·.1) := by rw [<- hi.numsOf, <- nums_intItems, <- e]
 have hsz : 0 < ys.size := by
  have h3 : 0 < (i :: is).length := Nat.succ_pos _
  rw [hns, List.length_map, Array.length_toList] at h3; exact h3
 rw [e] at hL
 refine max_intList (I.ok.hd hc) hL hsz fun v h' tk hv hk => ?_
 obtain ⟨t, rfl⟩ := intItems_at hv
 obtain ⟨h1, h2⟩ := argBest_gt (numAt ys) (ys.size - 1)
 refine ⟨_, H, I.kept hk, ?_, q⟩
 have : numAt ys (argBest (fun i j => decide (numAt ys i > numAt ys j)) (ys.size - 1)) = maxI i is := maxI_uniq (by rw [hns, numAt_eq]; exact getD_mem (by rw [List.length_map, Array.length_toList]; omega)) fun a ha => by
  rw [hns] at ha
  obtain ⟨j, hj, rfl⟩ := mem_getD ha
  rw [List.length_map, Array.length_toList] at hj
  rw [<- numAt_eq]; exact h2 j (by omega)
 rw [this]
 exact ⟨_, rfl⟩
theorem CallR.or {X : Cx} {f : Value} {r r' : List V -> Hp -> VK -> Prop} (h : CallR X f r) (h' : CallR X f r') : CallR X f (fun xs H Q => r xs H Q \/ r' xs H Q) :=
 fun pins s σ H xs us Q I v z => z.elim (fun a => h pins s σ H xs us Q I v a) (fun a => h' pins s σ H xs us Q I v a)
theorem bestI_inv {f : Int -> List Int -> Int} {is : List Int} {d : D} (h : bestI f is = some d) : ∃ i r, is = i :: r /\ d = .int (f i r) := by
 cases is with
 | nil => cases h
 | cons i r => cases h; exact ⟨i, r, rfl, rfl⟩
theorem callMax (hc : X.calm = true) : BOk X (.builtin "max") bMax := ⟨_, (call_max2 hc).or (call_maxL hc), fun c H0 H ρ σ ds d vs Q R r e q => by
 unfold bMax at e
 split at e
 ·cases e
  obtain ⟨v, v', rfl, r1, r2⟩ := Reps.v2 r
  unfold Rep at r1 r2; subst r1 r2
  exact .inl ⟨_, _, rfl, q _ H0 H (Same.refl _) R (rep_int _ _)⟩
 ·obtain ⟨is, e1, e2⟩ := bnd_eq e
  obtain ⟨i, is, rfl, rfl⟩ := bestI_inv e2
  obtain ⟨v, rfl, rv⟩ := Reps.v1 r
  unfold Rep at rv
  obtain ⟨p, ws, rfl, s, t⟩ := rv
  have := ints_rep e1 t
  subst this
  exact .inr ⟨p, i, is, rfl, Same.seq R.same s, q _ H0 H (Same.refl _) R (rep_int _ _)⟩
 ·cases e⟩
theorem callMin (hc : X.calm = true) : BOk X (.builtin "min") bMin := ⟨_, (call_min2 hc).or (call_minL hc), fun c H0 H ρ σ ds d vs Q R r e q => by
 unfold bMin at e
 split at e
 ·cases e
  obtain ⟨v, v', rfl, r1, r2⟩ := Reps.v2 r
  unfold Rep at r1 r2; subst r1 r2
  exact .inl ⟨_, _, rfl, q _ H0 H (Same.refl _) R (rep_int _ _)⟩
 ·obtain ⟨is, e1, e2⟩ := bnd_eq e
  obtain ⟨i, is, rfl, rfl⟩ := bestI_inv e2
  obtain ⟨v, rfl, rv⟩ := Reps.v1 r
  unfold Rep at rv
  obtain ⟨p, ws, rfl, s, t⟩ := rv
  have := ints_rep e1 t
  subst this
  exact .inr ⟨p, i, is, rfl, Same.seq R.same s, q _ H0 H (Same.refl _) R (rep_int _ _)⟩
 ·cases e⟩
theorem bools_rep {K : PySem.W.Frag} {H : Hp} : ∀ {ds : List D} {bs : List Bool} {vs : List V}, bools ds = some bs -> Reps K H ds vs -> vs = bs.map V.bl
 | [], _, _, e, r => by
  have e' : ([] : List Bool) = _ := Option.some.inj e
  unfold Reps at r; rw [r, <- e']; rfl
 | d :: ds, _, _, e, r => by
  cases d with
  | bl b =>
   rw [bools_cons] at e
   obtain ⟨bs, e1, e2⟩ := bnd_eq e
   cases e2
   unfold Reps at r
   obtain ⟨v, r', rfl, a, t⟩ := r
   unfold Rep at a
   rw [a, bools_rep e1 t]; rfl
  | _ => cases e
theorem boolsAre_of : ∀ {bs : List Bool} {us : List Value}, Vals (bs.map V.bl) us -> LSm.BoolsAre us bs := by
 intro bs
 induction bs with
 | nil => intro us h; cases h; exact .nil
 | cons b r ih =>
  intro us h
  cases h with
  | cons a t => cases (show _ = Value.bool b from a); exact .cons b (ih t)
theorem call_anyD (hc : X.calm = true) : CallR X (.builtin "any") (fun xs H Q => ∃ (p : Addr) (bs : List Bool), xs = [.ref p] ∧ SqL X.K H p (bs.map V.bl) ∧ Q (.bl (bs.any id)) H) := by
 intro pins s σ H xs us Q I r h
 obtain ⟨l, bs, rfl, hl, q⟩ := h
 obtain ⟨u, rfl, ru⟩ := vals1 r
 cases ru
 obtain ⟨its, rv, pl, hz⟩ := I.list hl
 have hb := boolsAre_of rv
 have hl := pl.isList
 have hlt : l < s.heap.objs.size := by obtain ⟨_, e, _⟩ := hl; exact Heap.lt_size e
 refine call_any_walk (wpAny_pyIter_list hl ?_)
 refine ⟨s.heap.objs.size, [s.heap.objs.size, l], [s.heap.objs.size], its.toArray.size, _, _, fun i => (bs[i]?).getD false, rfl, Walks.list (A := X.A.in1) (I.ok.hd hc) _ l (Nat.ne_of_lt hlt) its.toArray,
  ⟨⟨_, Heap.get?_push_size _ rfl, rfl, rfl⟩, hl.push _⟩, fun i v s' Q' E' hP hQ => ?_, fun h' tk hk => ?_⟩
 ·obtain ⟨b, e, rfl⟩ := hb.get i v (by simpa using hP)
  simp only [e, Option.getD_some] at hQ
  exact wpAny_truthy_bool hQ
 ·have e : ((List.range its.toArray.size).any fun i => (bs[i]?).getD false) = bs.any id := by
   rw [List.size_toArray, hb.length]; exact LSm.range_any bs
  rw [e]
  exact ⟨.bl _, H, I.kept (t' := tk) (LSm.kept_iter hk), rfl, q⟩
theorem callAny (hc : X.calm = true) : BOk X (.builtin "any") bAny := ⟨_, call_anyD hc, fun c H0 H ρ σ ds d vs Q R r e q => by
 unfold bAny at e
 split at e
 ·obtain ⟨bs, e1, e2⟩ := bnd_eq e
  cases e2
  obtain ⟨v, rfl, rv⟩ := Reps.v1 r
  unfold Rep at rv
  obtain ⟨p, ws, rfl, s, t⟩ := rv
  have := bools_rep e1 t
  subst this
  exact ⟨p, bs, rfl, Same.seq R.same s, q _ H0 H (Same.refl _) R (rep_bl _ _)⟩
 ·cases e⟩
noncomputable def tyN : Ty -> String
 | .int => "int" | .bool => "bool" | .str => "str" | .tuple => "tuple" | .list => "list"
noncomputable def tyV (d : D) : Value := match d with
 | .non => .type "NoneType" | .bl _ => .type "bool" | .int _ => .type "int" | .str _ => .type "str" | .tup _ => .type "tuple" | .lst _ => .type "list"
theorem kit_eq (K : PySem.W.Frag) (t : Ty) (d : D) : PySem.W.kitOne K (tyV d) (.type (tyN t)) = some (isTy t d) := by
 cases t <;> cases d <;> rfl
theorem call_isi (t : Ty) : CallR X (.builtin "isinstance") (fun xs H Q => ∃ d x, xs = [x, .ty (tyN t)] ∧ Rep X.K H d x ∧ Q (.bl (isTy t d)) H) := by
 intro pins s σ H xs us Q I r h
 obtain ⟨d, x, rfl, rx, q⟩ := h
 obtain ⟨u, w, rfl, ru, rw'⟩ := vals2 r
 cases (show w = Value.type _ from rw')
 have k := kit_eq X.K t d
 have fin : ∀ tk, EP X pins σ Q (.bool (isTy t d)) { s with toks := tk } := fun tk => ⟨.bl _, H, I.tok tk, rfl, q⟩
 cases d with
 | non => unfold Rep at rx; subst rx; cases (show u = Value.none from ru); exact PySem.W.kia_one PySem.W.kitx_none I.kIn True.intro k (fun z => nomatch z) fin
 | bl y => unfold Rep at rx; subst rx; cases (show u = Value.bool y from ru); exact PySem.W.kia_one PySem.W.kitx_bool I.kIn True.intro k (fun z => nomatch z) fin
 | int i => unfold Rep at rx; subst rx; obtain ⟨t, z⟩ := (show ∃ t, u = Value.int i t from ru); cases z; exact PySem.W.kia_one PySem.W.kitx_int I.kIn True.intro k (fun z => nomatch z) fin
 | str y => unfold Rep at rx; subst rx; obtain ⟨t, z⟩ := (show ∃ t, u = Value.str y t from ru); cases z; exact PySem.W.kia_one PySem.W.kitx_str I.kIn True.intro k (fun z => nomatch z) fin
 | tup ds =>
  unfold Rep at rx
  obtain ⟨a, vs, rfl, s1, _⟩ := rx
  cases (show u = Value.ref a from ru)
  obtain ⟨_, _, ⟨o, h1, h2, _⟩, _⟩ := I.tuple s1
  exact PySem.W.kia_one PySem.W.kitx_tuple I.kIn ⟨o, h1, h2⟩ k (fun z => nomatch z) fin
 | lst ds =>
  unfold Rep at rx
  obtain ⟨a, vs, rfl, s1, _⟩ := rx
  cases (show u = Value.ref a from ru)
  obtain ⟨_, _, ⟨o, n, h1, h2, _⟩, _⟩ := I.list s1
  exact PySem.W.kia_one PySem.W.kitx_list I.kIn ⟨o, h1, h2⟩ k (fun z => nomatch z) fin
theorem xty {t : Ty} {T : Str} {p p' pos : Pos} {e : Expr} {F : FE} (hi : X.mg "isinstance" = none) (hm : X.mg T = none) (hT : bootBuiltins T = some (.type (tyN t))) (ha : XE X e F) (hg : Gl X "isinstance" := by rfl) (hg' : Gl X T := by rfl)
  (hn : T ≠ "__name__" := by decide) (hd : (T == ("__debug__" : Str)) = false := by decide) (hs : starEach [e, .Name T p'] X.env = (false, eval e X.env) :: starEach [.Name T p'] X.env := by rfl) (hs' : starEach [.Name T p'] X.env = [(false, eval (.Name T p') X.env)] := by rfl)
  (hpl : (backTo pos (starEach [.Name T p'] X.env)).any (·.1) = false := by rfl) : XE X (.Call (.Name "isinstance" p) [e, .Name T p'] [] pos) (eTy t F) :=
 PE.wk (pe_callB (call_isi t) hg hi PyProof.Rows.boot_isinstance (pa_cons ha (pa_cons (pe_bltn (v := .ty (tyN t)) hg' hm hT rfl hn hd) pa_nil hs') hs) (by decide) (by decide) hs hpl) fun σ H Q hh0_ => by
  obtain ⟨c, H0, ρ, d, ρ', R, f, q⟩ := hh0_
  unfold eTy at f
  obtain ⟨⟨x, ρ1⟩, h1, f⟩ := bnd_eq f
  have f' : some (D.bl (isTy t x), ρ1) = some (d, ρ') := f
  cases f'
  exact ⟨c, H0, ρ, x, _, R, h1, fun v H1 Hh s1 R1 r1 => ⟨x, v, rfl, Rep.mono R1.same x r1, q _ H1 Hh s1 R1 (rep_bl _ _)⟩⟩
noncomputable def spP (K : PySem.W.Frag) (g : List D -> Option D) : Sp := fun vs H Q _ => ∃ Hi ds d, Same Hi H /\ Reps K Hi ds vs /\ g ds = some d /\ ∀ v Hi' H', Step Hi H Hi' H' -> Rep K Hi' d v -> Q v H'
structure DefOk (P : Program) (w : World) (K : PySem.W.Frag) (mg : Str -> Option Value) (base : Heap) (k : Nat) (x : Str) (g : List D -> Option D) : Prop where
 ex : ∃ f fd ps, FnOk P w K mg base CX0 k f fd ps (spP K g) /\ Binds K fd ps [] /\ PySem.W.keepIn K (.ref f) = true /\ mg x = some (.ref f)
theorem xF {k : Nat} {x : Str} {g : List D → Option D} {A : FA} {p pos : Pos} {e : Expr} {es : List Expr} (G : DefOk X.prog X.w X.K X.mg X.base k x g) (hr : Room k X.A) (ha : XA X (e :: es) A) (hg : Gl X x := by rfl) (hdb : (x == ("__debug__" : Str)) = false := by decide)
  (he : starEach (e :: es) X.env = (false, eval e X.env) :: starEach es X.env := by rfl) (hpl : (backTo pos (starEach es X.env)).any (·.1) = false := by rfl) : XE X (.Call (.Name x p) (e :: es) [] pos) (eF g A) := by
 obtain ⟨f, fd, ps, F, hb, hk, hm⟩ := G.ex
 refine PE.wk (pe_call F hr hg hm hk hb .nil pass0 ha hdb he hpl) fun σ H Q hh0_ => ?_
 obtain ⟨c, H0, ρ, d, ρ', R, z, q⟩ := hh0_
 unfold eF at z
 obtain ⟨⟨ds, ρ1⟩, h1, z⟩ := bnd_eq z
 obtain ⟨d', h2, z⟩ := bnd_eq z
 have z' : some (d', ρ1) = some (d, ρ') := z
 cases z'
 exact ⟨c, H0, ρ, ds, _, R, h1, fun vs H1 Hh s1 R1 r1 => ⟨H1, ds, d, R1.same, by rw [List.append_nil]; exact r1, h2, fun v Hi' H' S rv => q v Hi' H' (s1.trans S.s0) (R1.after S) rv⟩⟩
end
end Fx
set_option maxRecDepth 100000
namespace Fx
open PySem PySem.Spec PyProof.Rows L2
noncomputable def Yields (K : PySem.W.Frag) (J : It) (H1 : Hp) (xs : List D) : Prop := ∀ (H0 H : Hp) (i : Nat), Same H1 H0 -> Same H0 H ->
 (∀ d, xs[i]? = some d -> J.go i H /\ ∀ x H', J.yld i H x H' -> H' = H /\ Rep K H0 d x) /\ (xs.length <= i -> J.stop i H)
theorem yields_list {K : PySem.W.Frag} {H1 : Hp} {a : Addr} {vs : List V} {xs : List D} (rd : SqL K H1 a vs) (r : Reps K H1 xs vs) : Yields K (Itl K a) H1 xs := fun H0 H i s s' => by
 have sq : SqL K H a vs := Same.seq (s.trans s') rd
 refine ⟨fun d e => ?_, fun h => ⟨vs, sq, by rw [<- r.length]; exact h⟩⟩
 obtain ⟨v, e1, e2⟩ := r.get e
 refine ⟨⟨vs, v, sq, e1⟩, fun x H' ⟨h1, h2⟩ => ⟨h1, ?_⟩⟩
 have := h2 vs sq
 rw [e1] at this; cases this
 exact Rep.mono s d e2
theorem yields_tup {K : PySem.W.Frag} {H1 : Hp} {a : Addr} {vs : List V} {xs : List D} (rd : SqT K H1 a vs) (r : Reps K H1 xs vs) : Yields K (Itt K a) H1 xs := fun H0 H i s s' => by
 have sq : SqT K H a vs := Same.seqT (s.trans s') rd
 refine ⟨fun d e => ?_, fun h => ⟨vs, sq, by rw [<- r.length]; exact h⟩⟩
 obtain ⟨v, e1, e2⟩ := r.get e
 refine ⟨⟨vs, v, sq, e1⟩, fun x H' ⟨h1, h2⟩ => ⟨h1, ?_⟩⟩
 have := h2 vs sq
 rw [e1] at this; cases this
 exact Rep.mono s d e2
theorem rngD_length : ∀ (n : Nat) (lo : Int), (rngD lo n).length = n
 | 0, _ => rfl
 | n + 1, lo => by show (rngD (lo + 1) n).length + 1 = n + 1; rw [rngD_length n]
theorem rngD_get : ∀ (n : Nat) (lo : Int) (i : Nat) (d : D), (rngD lo n)[i]? = some d -> d = .int (lo + i) /\ i < n
 | 0, lo, i, d, h => by simp [rngD] at h
 | n + 1, lo, 0, d, h => by
  simp [rngD] at h
  exact ⟨by rw [<- h]; simp, by omega⟩
 | n + 1, lo, i + 1, d, h => by
  have h' : (rngD (lo + 1) n)[i]? = some d := by simpa [rngD] using h
  obtain ⟨a, b⟩ := rngD_get n (lo + 1) i d h'
  refine ⟨by rw [a]; congr 1; push_cast; omega, by omega⟩
theorem yields_rng {K : PySem.W.Frag} {H1 : Hp} (lo : Int) (n : Nat) : Yields K (Itr lo n) H1 (rngD lo n) := fun H0 H i s s' => by
 refine ⟨fun d e => ?_, fun h => by rw [rngD_length] at h; exact h⟩
 obtain ⟨rfl, hi⟩ := rngD_get n lo i d e
 refine ⟨hi, fun x H' ⟨h1, h2⟩ => ⟨h1, ?_⟩⟩
 unfold Rep; exact h2
noncomputable def Its (z : Str) : It := ⟨fun i _ => i < z.cps.size, fun i H x H' => H' = H /\ ∃ c, z.cps[i]? = some c /\ x = .str (chS c), fun i _ => z.cps.size <= i⟩
theorem turn_str {P : Program} {w : World} {K : PySem.W.Frag} {tg : Expr} {n : String} (z : Str) (t : Tok) (it : Addr) (hn : ["enumerate", "zip", "dict_itemiterator", "dict_reverseitemiterator", "odict_iterator", "itertools.zip_longest", "itertools.pairwise"].contains n = false)
  (W : ∀ A : Around, A.handled = none -> Walks P w A it [it] [it] z.cps.size (SignAt z) (fun i h => h.IsStrIter it n z t i)) (fin : ∀ (A : Around) (s : Shared) (i : Nat) (Q : Option Value -> Shared -> Prop) (E : Value -> Shared -> Prop), A.handled = none -> s.heap.IsStrIter it n z t i -> z.cps[i]? = none -> (∀ h', Heap.ExtBut it s.heap h' -> Q none { s with heap := h' }) -> wpAny (model P w) A (pyNext (.ref it)) Q E s)
  (slf : ∀ (A : Around) (i : Nat) (s : Shared) (Q : Value -> Shared -> Prop) (E : Value -> Shared -> Prop), s.heap.IsStrIter it n z t i -> Q (.ref it) s -> wpAny (model P w) A (pyIter (.ref it)) Q E s) :
  Turn P w K tg (Its z) [it] it (fun i h => h.IsStrIter it n z t i) where
 mem := by simp
 obj := fun i h st b hb => by
  have e : b = it := by simpa using hb
  subst e
  obtain ⟨o, e, c, d⟩ := st
  exact ⟨o, e, fun v z => by rw [d] at z; cases z⟩
 keep := fun i h h' st k => let ⟨o, e, r⟩ := st; ⟨o, k it (by simp) o e, r⟩
 item := by
  intro X hP hw hK hc i pins s σ H E I hf st hg
  subst hP hw hK
  obtain ⟨f0, f1, f2, f3, f4, f5⟩ := hf it (by simp)
  refine (W X.A (I.ok.hd hc)).item i s _ _ hg st fun v h' tk hv st' kk => ?_
  obtain ⟨ch, u, e1, rfl⟩ := hv
  have I1 : Inv X pins σ H { s with heap := h', toks := tk } := I.turned (fun b o hb e => kk b o (by simpa using hb) e) f0 f1 f3 f4 f5
  obtain ⟨o, e, c, d⟩ := id st'
  exact ⟨_, rfl, go_of (s := { s with heap := h', toks := tk }) e c d hn ⟨.str (chS ch), H, I1, ⟨u, rfl⟩, ⟨rfl, ch, e1, rfl⟩, st', fun b hb => (hf b hb).1⟩⟩
 done := by
  intro X hP hw hK hc i pins s σ H E I hf st hg
  subst hP hw hK
  obtain ⟨f0, f1, f2, f3, f4, f5⟩ := hf it (by simp)
  have hg : z.cps.size <= i := hg
  exact fin X.A s i _ _ (I.ok.hd hc) st (by simp [hg]) fun h' eb => ⟨rfl, I.turned (t' := s.toks) (fun b o hb e => eb b o hb e) f0 f1 f3 f4 f5⟩
 self := fun A i s Q E st h => slf A i s Q E st h
noncomputable def iStr (t : TE) : TI := fun σ H R => t σ H fun x H1 => ∃ z, x = .str z /\ R (Its z) H1
noncomputable def iSq (K : PySem.W.Frag) (t : TE) : TI := fun σ H R => iList K t σ H R \/ iTup K t σ H R \/ iStr t σ H R
theorem pi_str {X : Cx} {tg l : Expr} {tl : TE} (hl : PE X l tl) : PI X tg l (iStr tl) := by
 intro pins s σ H R I h
 refine thn (hl pins s σ H _ I h) fun v s1 hh0_ => ?_
 obtain ⟨x, H1, I1, r1, q1⟩ := hh0_
 obtain ⟨z, e, q⟩ := q1
 subst e
 obtain ⟨t, rfl⟩ := r1
 have fp : ∀ (o : Obj), ∀ b ∈ [s1.heap.objs.size], FpOk X pins H1 b := fun o b hb => by
  have e : b = s1.heap.objs.size := by simpa using hb
  subst e
  exact I1.fpOk (Nat.le_refl _) (I1.hok.fresh (Nat.le_refl _))
 cases ha : z.cps.all (· < 128)
 ·refine wpAny_pyIter_wide ha ?_
  exact ⟨s1.heap.objs.size, [s1.heap.objs.size], _, _, H1, rfl, I1.kept (t' := s1.toks) fun b o e => Heap.get?_push_of_some _ e, turn_str (n := "str_iterator") z t _ (by decide) (fun A hA => Walks.strWide hA _ z t) (fun A s i Q E hA st hx hQ => wpAny_pyNext_wide_end hA st hx hQ) (fun _ _ _ _ _ st h => wpAny_pyIter_striter_wide st h), ⟨_, Heap.get?_push_size _ rfl, rfl, rfl⟩, fp { cls := .none, data := .fields #[] }, q⟩
 ·refine wpAny_pyIter_ascii ha ?_
  exact ⟨s1.heap.objs.size, [s1.heap.objs.size], _, _, H1, rfl, I1.kept (t' := s1.toks) fun b o e => Heap.get?_push_of_some _ e, turn_str (n := "str_ascii_iterator") z t _ (by decide) (fun A hA => Walks.strAscii hA _ z t) (fun A s i Q E hA st hx hQ => wpAny_pyNext_ascii_end hA st hx hQ) (fun _ _ _ _ _ st h => wpAny_pyIter_striter_ascii st h), ⟨_, Heap.get?_push_size _ rfl, rfl, rfl⟩, fp { cls := .none, data := .fields #[] }, q⟩
theorem yields_str {K : PySem.W.Frag} {H1 : Hp} (z : Str) : Yields K (Its z) H1 (chs z) := fun H0 H i s s' => by
 have hl : (chs z).length = z.cps.size := by unfold chs; rw [List.length_map, Array.length_toList]
 refine ⟨fun d e => ?_, fun h => by rw [hl] at h; exact h⟩
 have hi : i < z.cps.size := by rw [<- hl]; exact (List.getElem?_eq_some_iff.mp e).1
 refine ⟨hi, fun x H' ⟨h1, ch, h2, h3⟩ => ⟨h1, ?_⟩⟩
 unfold chs at e
 rw [List.getElem?_map, Array.getElem?_toList, h2] at e
 have e' : D.str (chS ch) = d := Option.some.inj e
 subst e'
 unfold Rep; exact h3
theorem pi_sq {X : Cx} {tg l : Expr} {tl : TE} (hl : PE X l tl) : PI X tg l (iSq X.K tl) := fun pins s σ H R I h => by
 rcases h with h | h | h
 ·exact pi_list hl pins s σ H R I h
 ·exact pi_tup hl pins s σ H R I h
 ·exact pi_str hl pins s σ H R I h
theorem walk_of_data {K : PySem.W.Frag} {F : FE} {σ : L2.St} {H : Hp} {R : It -> Hp -> Prop} {c : FC} {H0 : Hp} {ρ ρ' : En} {d : D} {xs : List D} (rs : RS K c H0 H ρ σ) (f : F ρ = some (d, ρ')) (hx : items d = some xs)
  (h : ∀ J H1 Hh, Same H0 H1 -> RS K c H1 Hh ρ' σ -> Yields K J H1 xs -> R J Hh) : iSq K (tE K F) σ H R := by
 cases d with
 | lst ds =>
  have e : ds = xs := Option.some.inj hx
  subst e
  refine .inl ⟨c, H0, ρ, _, ρ', rs, f, fun v H1 Hh s1 R1 r1 => ?_⟩
  unfold Rep at r1
  obtain ⟨a, vs, rfl, rd, r⟩ := r1
  exact ⟨a, rfl, ⟨vs, Same.seq R1.same rd⟩, h _ H1 Hh s1 R1 (yields_list rd r)⟩
 | tup ds =>
  have e : ds = xs := Option.some.inj hx
  subst e
  refine .inr (.inl ⟨c, H0, ρ, _, ρ', rs, f, fun v H1 Hh s1 R1 r1 => ?_⟩)
  unfold Rep at r1
  obtain ⟨a, vs, rfl, rd, r⟩ := r1
  exact ⟨a, rfl, ⟨vs, Same.seqT R1.same rd⟩, h _ H1 Hh s1 R1 (yields_tup rd r)⟩
 | str z =>
  have e : chs z = xs := Option.some.inj hx
  subst e
  refine .inr (.inr ⟨c, H0, ρ, _, ρ', rs, f, fun v H1 Hh s1 R1 r1 => ?_⟩)
  unfold Rep at r1
  exact ⟨z, r1, h _ H1 Hh s1 R1 (yields_str z)⟩
 | _ => cases hx
theorem imAt_get {ρ : En} : ∀ {js : List Nat} {fr : En}, imAt ρ js = some fr -> fr.length = js.length /\ ∀ (k : Nat) (s : Sl), fr[k]? = some s -> ∃ j d, js[k]? = some j /\ ρ[j]? = some (.im d) /\ s = .im d
 | [], _, h => by
  have h' : ([] : En) = _ := Option.some.inj h
  subst h'
  exact ⟨rfl, fun k s e => by simp at e⟩
 | j :: js, _, h => by
  rw [imAt_cons] at h
  obtain ⟨s, h1, h⟩ := bnd_eq h
  obtain ⟨r, h2, h⟩ := bnd_eq h
  cases h
  obtain ⟨a, b⟩ := imAt_get h2
  refine ⟨by rw [List.length_cons, List.length_cons, a], fun k s' e => ?_⟩
  cases k with
  | zero =>
   simp at e; subst e
   cases z : ρ[j]? with
   | none => rw [z] at h1; cases h1
   | some sl =>
    rw [z] at h1
    cases sl with
    | im d => exact ⟨j, d, rfl, z, (Option.some.inj h1).symm⟩
    | _ => cases h1
  | succ k =>
   obtain ⟨j', d, x1, x2, x3⟩ := b k s' (by simpa using e)
   exact ⟨j', d, by simpa using x1, x2, x3⟩
theorem RS.block {K : PySem.W.Frag} {c : FC} {H0 H : Hp} {ρ : En} {σ : L2.St} {js : List Nat} {fr : En} {d : D} {x : V} (R : RS K c H0 H ρ σ) (hf : imAt ρ js = some fr) (rx : Rep K H0 d x) : RS K ⟨H0, H, []⟩ H0 H (.im d :: fr) (some x :: frv σ js) := by
 obtain ⟨l, g⟩ := imAt_get hf
 refine ⟨R.same, Same.refl _, fun b o e => .inl e, fun b o e _ => e, fun a h => (by cases h), ?_, fun i d' e => ?_, fun i b o e => ?_, fun i j b b' o o' a e => ?_⟩
 ·rw [List.length_cons, List.length_cons, l, frv, List.length_map]
 ·cases i with
  | zero => simp at e; subst e; exact ⟨x, rfl, rx⟩
  | succ k =>
   obtain ⟨j, d2, x1, x2, x3⟩ := g k _ (by simpa using e)
   cases x3
   obtain ⟨v, y1, y2⟩ := R.im j d' x2
   refine ⟨v, ?_, y2⟩
   show (frv σ js)[k]? = some (some v)
   unfold frv
   rw [List.getElem?_map, x1]
   show some (σ[j]?).join = some (some v)
   rw [y1]; rfl
 ·cases i with
  | zero => simp at e
  | succ k =>
   obtain ⟨j, d2, _, _, x3⟩ := g k _ (by simpa using e)
   cases x3
 ·cases i with
  | zero => simp at e
  | succ k =>
   obtain ⟨j, d2, _, _, x3⟩ := g k _ (by simpa using e)
   cases x3
theorem RS.step {K : PySem.W.Frag} {Hi He H0 H : Hp} {ρ : En} {σ : L2.St} (R : RS K ⟨Hi, He, []⟩ H0 H ρ σ) : Step Hi He H0 H :=
 ⟨R.init, fun b o e => R.keep b o e (by simp), R.same, R.fresh⟩
theorem drop_of {α : Type} {xs : List α} {i : Nat} {d : α} (h : xs[i]? = some d) : xs.drop i = d :: xs.drop (i + 1) := by
 obtain ⟨hi, e⟩ := List.getElem?_eq_some_iff.mp h
 rw [<- e]; exact List.drop_eq_getElem_cons hi
theorem lc_of {K : PySem.W.Frag} {c : FC} {H1 Hh : Hp} {ρ : En} {σ : L2.St} {js : List Nat} {fr : En} {T : FT} {F : FE} {xs out : List D} {J : It} {Qf : List V -> Hp -> Prop} (R : RS K c H1 Hh ρ σ) (hf : imAt ρ js = some fr) (hc : cGo T F fr xs = some out) (hz : xs.length <= sizeLine) (hy : Yields K J H1 xs)
  (q : ∀ ys H0 H, Same H1 H0 -> RS K c H0 H ρ σ -> Reps K H0 out ys -> Qf ys H) : LcW js (tTt K T) (tE K F) σ Qf J Hh := by
 refine ⟨fun i m ys H => m = xs.length - i /\ i <= xs.length /\ ∃ H0, Same H1 H0 /\ RS K c H0 H ρ σ /\ ∃ pre rest, Reps K H0 pre ys /\ pre.length <= i /\ cGo T F fr (xs.drop i) = some rest /\ pre ++ rest = out, ⟨xs.length, by simp, Nat.zero_le _, H1, Same.refl _, R, [], out, Reps.nil_, Nat.zero_le _, by simpa using hc, rfl⟩, ?_⟩
 rintro i m ys H ⟨rfl, hi, H0, s0, R0, pre, rest, rp, lp, hg, e⟩
 obtain ⟨y1, y2⟩ := hy H0 H i s0 R0.same
 by_cases hlt : i < xs.length
 ·have hd : xs[i]? = some xs[i] := by simp [hlt]
  obtain ⟨go, yl⟩ := y1 _ hd
  refine .inr ⟨go, by rw [<- rp.length]; omega, fun x H' hx => ?_⟩
  obtain ⟨rfl, rx⟩ := yl x H' hx
  rw [drop_of hd, cGo_cons] at hg
  obtain ⟨⟨b, ρb⟩, g1, hg⟩ := bnd_eq hg
  dsimp only at hg
  refine ⟨⟨H0, H', []⟩, H0, _, b, ρb, R0.block hf rx, g1, fun H2 Hh2 s2 R2 => ?_⟩
  cases b with
  | false =>
   rw [if_neg Bool.false_ne_true] at hg ⊢
   have S := R2.step
   exact ⟨xs.length - (i + 1), by omega, rfl, hlt, H2, s0.trans S.s0, R0.after S, pre, rest, Reps.mono S.s0 _ rp, by omega, hg, e⟩
  | true =>
   rw [if_pos rfl] at hg ⊢
   obtain ⟨⟨z, ρz⟩, g2, hg⟩ := bnd_eq hg
   obtain ⟨t, g3, hg⟩ := bnd_eq hg
   dsimp only at hg
   have hg' : some (z :: t) = some rest := hg
   cases hg'
   refine ⟨⟨H0, H', []⟩, H2, ρb, z, ρz, R2, g2, fun v H3 Hh3 s3 R3 r3 => ?_⟩
   have S := R3.step
   refine ⟨xs.length - (i + 1), by omega, rfl, hlt, H3, s0.trans S.s0, R0.after S, pre ++ [z], t, (Reps.mono S.s0 _ rp).app (Reps.one r3), ?_, g3, ?_⟩
   ·rw [List.length_append, List.length_singleton]; omega
   ·rw [List.append_assoc]; exact e
 ·have ei : i = xs.length := by omega
  have hn : xs.drop i = [] := List.drop_eq_nil_of_le (by omega)
  rw [hn, cGo_nil] at hg
  have hg' : ([] : List D) = rest := Option.some.inj hg
  subst hg'
  rw [List.append_nil] at e
  subst e
  exact .inl ⟨y2 (by omega), by rw [<- rp.length]; omega, q ys H0 H s0 R0 rp⟩
noncomputable def XTs (X : Cx) (ifs : List Expr) (T : FT) : Prop := PTs X ifs (tTt X.K T)
theorem PTs.wk {X : Cx} {e : List Expr} {t t' : TT} (h : PTs X e t) (w : ∀ σ H Q, t' σ H Q -> t σ H Q) : PTs X e t' := fun pins s σ H Q I q => h pins s σ H Q I (w σ H Q q)
theorem xts_nil {X : Cx} : XTs X [] Fx.tYes := PTs.wk pts_nil fun σ H Q hh0_ => by
 obtain ⟨c, H0, ρ, b, ρ', R, f, q⟩ := hh0_
 have f' : some (true, ρ) = some (b, ρ') := f
 cases f'
 exact q H0 H (Same.refl _) R
theorem xts_one {X : Cx} {c : Expr} {T : FT} (h : XT X c T) : XTs X [c] T := pts_one h
section
variable {X : Cx} {scope sc : Scope} {x : Str} {frees : List Str} {js : List Nat} {px pos : Pos} {elt iter : Expr} {ifs : List Expr} {I F : FE} {T : FT}
theorem eLC_inv {ρ ρ' : En} {d : D} (h : eLC js I T F ρ = some (d, ρ')) : ∃ z xs fr ys, I ρ = some (z, ρ') /\ items z = some xs /\ imAt ρ' js = some fr /\ cGo T F fr xs = some ys /\ xs.length <= sizeLine /\ d = .lst ys := by
 unfold eLC at h
 obtain ⟨⟨z, ρ1⟩, h1, h⟩ := bnd_eq h
 obtain ⟨xs, h2, h⟩ := bnd_eq h
 obtain ⟨fr, h3, h⟩ := bnd_eq h
 obtain ⟨ys, h4, h⟩ := bnd_eq h
 dsimp only at h2 h3 h4 h
 split at h
 ·rename_i hz
  cases h
  exact ⟨z, xs, fr, ys, h1, h2, h3, h4, hz, rfl⟩
 ·cases h
theorem xlc (hc : X.calm = true) (hsc : X.env.scope = sc) (B : ScB X.N sc scope x frees js) (hi : XE X iter I) (ht : ∀ s H C fp, XTs (cxB X (x :: frees) scope s H C fp) ifs T) (he : ∀ s H C fp, XE (cxB X (x :: frees) scope s H C fp) elt F)
  (hs : ∀ v, foldedSetIterable iter X.env v = pure v := by intro _; rfl) : XE X (.ListComp elt [⟨.Name x px, iter, ifs, 0⟩] scope pos) (eLC js I T F) :=
 PE.wk (pe_lc (tt := tTt X.K T) (te := tE X.K F) hc hsc B (pi_sq hi) ht he hs) fun σ H Q hh0_ => by
  obtain ⟨c, H0, ρ, d, ρ', R, f, q⟩ := hh0_
  obtain ⟨z, xs, fr, ys, h1, h2, h3, h4, hz, rfl⟩ := eLC_inv f
  refine walk_of_data R h1 h2 fun J H1 Hh s1 R1 hy => ?_
  refine lc_of R1 h3 h4 hz hy fun vs H2 Hh2 s2 R2 r2 => fun p hp => ?_
  have S := Step.alloc (o := .lst vs) R2.same hp
  refine q _ _ _ (s1.trans (s2.trans S.s0)) (R2.after S) ?_
  unfold Rep
  exact ⟨p, vs, rfl, .inl (.inl upd_same), Reps.mono S.s0 _ r2⟩
end
noncomputable def Post (K : PySem.W.Frag) (c : FC) (Dn : Ends) (H0 : Hp) : Res -> Prop
 | .nx ρ' => ∀ σ' H0' H', Same H0 H0' -> RS K c H0' H' ρ' σ' -> Dn.nx σ' H'
 | .rt d ρ' => ∀ v σ' H0' H', Same H0 H0' -> RS K c H0' H' ρ' σ' -> Rep K H0' d v -> Dn.rt v H'
 | .bk ρ' => ∀ σ' H0' H', Same H0 H0' -> RS K c H0' H' ρ' σ' -> Dn.bk σ' H'
 | .ct ρ' => ∀ σ' H0' H', Same H0 H0' -> RS K c H0' H' ρ' σ' -> Dn.ct σ' H'
noncomputable def tS (K : PySem.W.Frag) (F : FS) : TS := fun Dn σ H => ∃ c H0 ρ r, RS K c H0 H ρ σ /\ F ρ = some r /\ Post K c Dn H0 r
noncomputable def XS (X : Cx) (st : Stmt) (F : FS) : Prop := PS X st (tS X.K F)
noncomputable def XSs (X : Cx) (sts : List Stmt) (F : FS) : Prop := PSs X sts (tS X.K F)
theorem Post.mono {K : PySem.W.Frag} {c : FC} {Dn : Ends} {H0 H1 : Hp} (s : Same H0 H1) : ∀ {r : Res}, Post K c Dn H0 r -> Post K c Dn H1 r
 | .nx _, h => fun σ' H0' H' z => h σ' H0' H' (s.trans z)
 | .rt _ _, h => fun v σ' H0' H' z => h v σ' H0' H' (s.trans z)
 | .bk _, h => fun σ' H0' H' z => h σ' H0' H' (s.trans z)
 | .ct _, h => fun σ' H0' H' z => h σ' H0' H' (s.trans z)
theorem RS.set {K : PySem.W.Frag} {c : FC} {H0 H : Hp} {ρ : En} {σ : L2.St} {d : D} {v : V} (R : RS K c H0 H ρ σ) (i : Nat) (r : Rep K H0 d v) : RS K c H0 H (ρ.set i (.im d)) (σ.set i (some v)) := by
 have hl := R.len
 have other : ∀ (j : Nat) (sl : Sl), j ≠ i -> (ρ.set i (.im d))[j]? = some sl -> ρ[j]? = some sl := fun j sl hj e => by rwa [List.getElem?_set_ne (Ne.symm hj)] at e
 have otherS : ∀ (j : Nat), j ≠ i -> (σ.set i (some v))[j]? = σ[j]? := fun j hj => List.getElem?_set_ne (Ne.symm hj)
 have same : ∀ (sl : Sl), (ρ.set i (.im d))[i]? = some sl -> sl = .im d /\ i < ρ.length := fun sl e => by
  by_cases hi : i < ρ.length
  ·rw [List.getElem?_set_self hi] at e; exact ⟨(Option.some.inj e).symm, hi⟩
  ·rw [List.getElem?_eq_none (by rw [List.length_set]; omega)] at e; cases e
 refine ⟨R.same, R.init, R.fresh, R.keep, R.apt, by rw [List.length_set, List.length_set, hl], fun j d' e => ?_, fun j bb o e => ?_, fun j k b1 b2 o o' a e1 e2 e3 e4 => ?_⟩
 ·by_cases hj : j = i
  ·subst hj
   obtain ⟨e', hi⟩ := same _ e
   cases e'
   exact ⟨v, by rw [List.getElem?_set_self (by omega)], r⟩
  ·rw [otherS j hj]; exact R.im j d' (other j _ hj e)
 ·by_cases hj : j = i
  ·subst hj; obtain ⟨e', _⟩ := same _ e; cases e'
  ·rw [otherS j hj]; exact R.ow j bb o (other j _ hj e)
 ·by_cases hj : j = i
  ·subst hj; obtain ⟨e', _⟩ := same _ e1; cases e'
  ·by_cases hk : k = i
   ·subst hk; obtain ⟨e', _⟩ := same _ e2; cases e'
   ·rw [otherS j hj] at e3; rw [otherS k hk] at e4
    exact R.ne j k b1 b2 o o' a (other j _ hj e1) (other k _ hk e2) e3 e4
section
variable {X : Cx} {pos : Pos} {e : Expr} {F : FE} {T : FT} {A B : FS}
theorem xsN : XSs X [] sN := PSs.wk pss_nil fun Dn σ H hh0_ => by
 obtain ⟨c, H0, ρ, r, R, f, q⟩ := hh0_
 have f' : some (Res.nx ρ) = some r := f
 cases f'
 exact q σ H0 H (Same.refl _) R
theorem xs1 {st : Stmt} (h : XS X st A) : XSs X [st] A := pss_one h
theorem xsC {st : Stmt} {rest : List Stmt} (h1 : XS X st A) (h2 : XSs X rest B) : XSs X (st :: rest) (sSeq A B) := PSs.wk (pss_cons h1 h2) fun Dn σ H hh0_ => by
 obtain ⟨c, H0, ρ, r, R, f, q⟩ := hh0_
 unfold sSeq at f
 obtain ⟨z, h, f⟩ := bnd_eq f
 refine ⟨c, H0, ρ, z, R, h, ?_⟩
 cases z with
 | nx ρ1 => exact fun σ' H0' H' s R' => ⟨c, H0', ρ1, r, R', f, q.mono s⟩
 | rt d ρ1 => have f' : some (Res.rt d ρ1) = some r := f; cases f'; exact q
 | bk ρ1 => have f' : some (Res.bk ρ1) = some r := f; cases f'; exact q
 | ct ρ1 => have f' : some (Res.ct ρ1) = some r := f; cases f'; exact q
theorem xset (i : Nat) {x : Str} {pos' : Pos} (hN : X.N.Nodup) (he : XE X e F) (hi : X.N[i]? = some x := by rfl) (hx : Loc X.env.scope x := by first | exact Or.inl rfl | exact Or.inr rfl) (hs : swapsWith e (some (.Name x pos')) pos.line X.env = pure false := by rfl)
  (hf : X.fn x = true \/ X.env.scope.names.lookup x = some .local := by first | exact .inl rfl | exact .inr rfl) : XS X (.Assign [.Name x pos'] e pos) (sSet i F) := PS.wk (ps_set hN hi hx he hs hf) fun Dn σ H hh0_ => by
 obtain ⟨c, H0, ρ, r, R, f, q⟩ := hh0_
 unfold sSet at f
 obtain ⟨⟨d, ρ1⟩, h1, f⟩ := bnd_eq f
 have f' : some (Res.nx (ρ1.set i (.im d))) = some r := f
 cases f'
 exact ⟨c, H0, ρ, d, ρ1, R, h1, fun v H1 Hh s1 R1 r1 => q _ H1 Hh s1 (R1.set i r1)⟩
theorem xsetlc (i : Nat) {y x : Str} {py px spos : Pos} {scope sc : Scope} {frees : List Str} {js : List Nat} {elt iter : Expr} {ifs : List Expr} {I : FE} (hN : X.N.Nodup) (hc : X.calm = true) (hsc : X.env.scope = sc) (Bk : ScB X.N sc scope x frees js) (hi : XE X iter I)
  (ht : ∀ s H C fp, XTs (cxB X (x :: frees) scope s H C fp) ifs T) (he : ∀ s H C fp, XE (cxB X (x :: frees) scope s H C fp) elt F) (hi' : X.N[i]? = some y := by rfl) (hy : X.env.scope.names.lookup y = some .local := by rfl)
  (hsw : swapsWith (.ListComp elt [⟨.Name x px, iter, ifs, 0⟩] scope pos) (some (.Name y py)) spos.line X.env = pure true := by rfl)
  (hs : ∀ v, foldedSetIterable iter X.env v = pure v := by intro _; rfl) : XS X (.Assign [.Name y py] (.ListComp elt [⟨.Name x px, iter, ifs, 0⟩] scope pos) spos) (sSet i (eLC js I T F)) :=
 PS.wk (ps_setLC (tt := tTt X.K T) (te := tE X.K F) hN hi' hy hc hsc Bk (pi_sq hi) ht he hsw hs) fun Dn σ H hh0_ => by
  obtain ⟨c, H0, ρ, r, R, f, q⟩ := hh0_
  unfold sSet at f
  obtain ⟨⟨d, ρ1⟩, h1, f⟩ := bnd_eq f
  have f' : some (Res.nx (ρ1.set i (.im d))) = some r := f
  cases f'
  obtain ⟨z, xs, fr, ys, h0, h2, h3, h4, hz, rfl⟩ := eLC_inv h1
  refine walk_of_data R h0 h2 fun J H1 Hh s1 R1 hy => ?_
  refine lc_of R1 h3 h4 hz hy fun vs H2 Hh2 s2 R2 r2 => fun p hp => ?_
  have S := Step.alloc (o := .lst vs) R2.same hp
  refine q _ _ _ (s1.trans (s2.trans S.s0)) ((R2.after S).set i ?_)
  unfold Rep
  exact ⟨p, vs, rfl, .inl (.inl upd_same), Reps.mono S.s0 _ r2⟩
theorem xsif {c : Expr} {a b : List Stmt} (hc : XT X c T) (ha : XSs X a A) (hb : XSs X b B) : XS X (.If c a b pos) (sIf T A B) := PS.wk (ps_if hc ha hb) fun Dn σ H hh0_ => by
 obtain ⟨c, H0, ρ, r, R, f, q⟩ := hh0_
 unfold sIf at f
 obtain ⟨⟨k, ρ1⟩, h1, f⟩ := bnd_eq f
 dsimp only at f
 refine ⟨c, H0, ρ, k, ρ1, R, h1, fun H1 Hh s1 R1 => ?_⟩
 cases k with
 | true =>
  rw [if_pos rfl] at f ⊢
  exact ⟨c, H1, ρ1, r, R1, f, q.mono s1⟩
 | false =>
  rw [if_neg Bool.false_ne_true] at f ⊢
  exact ⟨c, H1, ρ1, r, R1, f, q.mono s1⟩
theorem xret (he : XE X e F) : XS X (.Return (some e) pos) (sRet F) := PS.wk (ps_ret he) fun Dn σ H hh0_ => by
 obtain ⟨c, H0, ρ, r, R, f, q⟩ := hh0_
 unfold sRet at f
 obtain ⟨⟨d, ρ1⟩, h1, f⟩ := bnd_eq f
 have f' : some (Res.rt d ρ1) = some r := f
 cases f'
 exact ⟨c, H0, ρ, d, ρ1, R, h1, fun v H1 Hh s1 R1 r1 => q v σ H1 Hh s1 R1 r1⟩
noncomputable abbrev GD := D -> En -> Option En
noncomputable def tG (K : PySem.W.Frag) (g : GD) : TG := fun v σ H Q => ∃ c H0 ρ d ρ', RS K c H0 H ρ σ /\ Rep K H0 d v /\ g d ρ = some ρ' /\ ∀ σ' H0' H', Same H0 H0' -> RS K c H0' H' ρ' σ' -> Q σ' H'
noncomputable def tGs (K : PySem.W.Frag) (is : List Nat) : TGs := fun vs σ H Q => ∃ c H0 ρ ds, RS K c H0 H ρ σ /\ Reps K H0 ds vs /\ ds.length = is.length /\ ∀ σ' H0' H', Same H0 H0' -> RS K c H0' H' (setAll is ds ρ) σ' -> Q σ' H'
noncomputable def XG (X : Cx) (tg : Expr) (g : GD) : Prop := PG X tg (tG X.K g)
noncomputable def XGs (X : Cx) (tgs : List Expr) (is : List Nat) : Prop := PGs X tgs (tGs X.K is)
theorem xgN (i : Nat) {x : Str} (hN : X.N.Nodup) (hi : X.N[i]? = some x := by rfl) (hx : Loc X.env.scope x := by first | exact Or.inl rfl | exact Or.inr rfl) (hf : X.fn x = true \/ X.env.scope.names.lookup x = some .local := by first | exact .inl rfl | exact .inr rfl) : XG X (.Name x pos) (gN i) :=
 fun pins s σ H v u Q I rv hh0_ => by obtain ⟨c, H0, ρ, d, ρ', R, r, f, q⟩ := hh0_; exact pg_name hN hi hx hf pins s σ H v u Q I rv (by
  have f' : some (ρ.set i (.im d)) = some ρ' := f
  cases f'
  exact q _ H0 H (Same.refl _) (R.set i r))
theorem xgs0 : XGs X [] [] := fun pins s σ H vs us Q I rv hh0_ => by obtain ⟨c, H0, ρ, ds, R, r, l, q⟩ := hh0_; exact pgs_nil pins s σ H vs us Q I rv (by
 have e : ds = [] := List.length_eq_zero_iff.mp l
 subst e
 unfold Reps at r
 exact ⟨r, q σ H0 H (Same.refl _) (by simpa [setAll_nil] using R)⟩)
theorem xgsC {e : Expr} {es : List Expr} {i : Nat} {is : List Nat} (h1 : XG X e (gN i)) (h2 : XGs X es is) (hs : (assignEach (e :: es) X.env).map (·.2) = assign e X.env :: (assignEach es X.env).map (·.2) := by rfl) : XGs X (e :: es) (i :: is) :=
 fun pins s σ H vs us Q I rv hh0_ => by obtain ⟨c, H0, ρ, ds, R, r, l, q⟩ := hh0_; exact pgs_cons h1 h2 hs pins s σ H vs us Q I rv (by
  cases ds with
  | nil => simp at l
  | cons d ds =>
   unfold Reps at r
   obtain ⟨v, vr, rfl, r1, r2⟩ := r
   refine ⟨v, vr, rfl, c, H0, ρ, d, _, R, r1, rfl, fun σ1 H1 Hh s1 R1 => ?_⟩
   exact ⟨c, H1, _, ds, R1, Reps.mono s1 _ r2, by simpa using l, fun σ2 H2 Hh2 s2 R2 => q σ2 H2 Hh2 (s1.trans s2) (by simpa [setAll_cons] using R2)⟩)
theorem assign_Tuple_list {X : Cx} {s : Shared} {E : Value -> Shared -> Prop} {elts : List Expr} {k : Nat} {l : Addr} {items : Array Value} {Q : Unit -> Shared -> Prop} (hh : X.A.handled = none) (hl : s.heap.IsList l items)
  (hn : (assignEach elts X.env).length = items.size) (hstar : (assignEach elts X.env).findIdx? (·.1) = none)
  (h : ∀ h', Heap.ExtBut s.heap.objs.size s.heap h' -> wpAny (model X.prog X.w) X.A (assignInOrder ((assignEach elts X.env).map (·.2)) items.toList) Q E { s with heap := h' }) :
  wpAny (model X.prog X.w) X.A (assign (.Tuple elts k pos) X.env (.ref l)) Q E s := by
 rw [assign_Tuple]
 refine wpAny_bind (wpAny_standAt ?_)
 unfold unpack
 rw [hn, hstar]
 exact wpAny_bind (wpAny_holding (PySem.W.kun_itemsOf hh hl h))
noncomputable def gLst (K : PySem.W.Frag) (n : Nat) (t : TGs) : TG := fun v σ H Q => ∃ a xs, v = .ref a /\ SqL K H a xs /\ xs.length = n /\ t xs σ H Q
theorem pg_lst {es : List Expr} {k : Nat} {t : TGs} {n : Nat} (hc : X.calm = true) (h : PGs X es t)
  (hn : (assignEach es X.env).length = n) (hst : (assignEach es X.env).findIdx? (·.1) = none) : PG X (.Tuple es k pos) (gLst X.K n t) := by
 intro pins s σ H v u Q I r hw
 obtain ⟨a, xs, e1, hq, hl, hw⟩ := hw
 subst e1
 cases r
 obtain ⟨its, rv, pl, hz⟩ := I.list hq
 refine assign_Tuple_list (I.ok.hd hc) pl.isList (by simp [hn, <- hl, rv.length]) hst fun h' hx => ?_
 have I1 : Inv X pins σ H { s with heap := h' } := I.kept (t' := s.toks) fun b o e => hx b o (Nat.ne_of_lt (Heap.lt_size e)) e
 exact h pins _ σ H xs _ Q I1 (by simpa using rv) hw
theorem xgT {es : List Expr} {k : Nat} {is : List Nat} (h : XGs X es is) (hc : X.calm = true := by rfl) (hn : (assignEach es X.env).length = is.length := by rfl) (hst : (assignEach es X.env).findIdx? (·.1) = none := by rfl) : XG X (.Tuple es k pos) (gT is) :=
 fun pins s σ H v u Q I rv hh0_ => by
  obtain ⟨c, H0, ρ, d, ρ', R, r, f, q⟩ := hh0_
  unfold gT at f
  obtain ⟨xs, h1, f⟩ := bnd_eq f
  split at f
  ·rename_i hl
   cases f
   cases d with
   | tup ds =>
    refine pg_tup hc h hn hst pins s σ H v u Q I rv ?_
    have e : ds = xs := Option.some.inj h1
    subst e
    unfold Rep at r
    obtain ⟨a, vs, rfl, sq, r⟩ := r
    exact ⟨a, vs, rfl, Same.seqT R.same sq, by rw [<- r.length]; exact hl, c, H0, ρ, ds, R, r, hl, q⟩
   | lst ds =>
    refine pg_lst hc h hn hst pins s σ H v u Q I rv ?_
    have e : ds = xs := Option.some.inj h1
    subst e
    unfold Rep at r
    obtain ⟨a, vs, rfl, sq, r⟩ := r
    exact ⟨a, vs, rfl, Same.seq R.same sq, by rw [<- r.length]; exact hl, c, H0, ρ, ds, R, r, hl, q⟩
   | _ => cases h1
  ·cases f
theorem xtupset {tg : Expr} {is : List Nat} (hg : XG X tg (gT is)) (he : XE X e F) (hs : swapsWithSole [tg] e pos.line X.env = pure false := by rfl) (hw : swappedStores [tg] e X.env = pure none := by rfl)
  (h1 : (assignEach [tg] X.env).map (·.2) = [assign tg X.env] := by rfl) : XS X (.Assign [tg] e pos) (sTup is F) := PS.wk (ps_asg he hg hs hw h1) fun Dn σ H hh0_ => by
 obtain ⟨c, H0, ρ, r, R, f, q⟩ := hh0_
 unfold sTup at f
 obtain ⟨⟨d, ρ1⟩, h1, f⟩ := bnd_eq f
 obtain ⟨ρ2, h2, f⟩ := bnd_eq f
 have f' : some (Res.nx ρ2) = some r := f
 cases f'
 exact ⟨c, H0, ρ, d, ρ1, R, h1, fun v H1 Hh s1 R1 r1 => ⟨c, H1, ρ1, d, ρ2, R1, r1, h2, fun σ' H2 Hh2 s2 R2 => q σ' H2 Hh2 (s1.trans s2) R2⟩⟩
theorem for_of {K : PySem.W.Frag} {c : FC} {H1 Hh : Hp} {ρ : En} {σ : L2.St} {g : GD} {B : FS} {xs : List D} {J : It} {Dn : Ends} {r : Res} (R : RS K c H1 Hh ρ σ) (hf : fGo g B xs ρ = some r) (hy : Yields K J H1 xs) (q : Post K c Dn H1 r) :
  ∃ W : Nat -> Nat -> L2.St -> Hp -> Prop, (∃ m, W 0 m σ Hh) /\ ∀ i m σ H, W i m σ H ->
   (J.stop i H /\ Dn.nx σ H) \/ (J.go i H /\ ∃ N : L2.St -> Hp -> Prop, (∀ σ' H', N σ' H' -> ∃ m', m' < m /\ W (i + 1) m' σ' H') /\ ∀ x H', J.yld i H x H' -> tG K g x σ H' fun σ2 H2 => tS K B { Dn with nx := N, ct := N, bk := Dn.nx } σ2 H2) := by
 refine ⟨fun i m σ H => m = xs.length - i /\ i <= xs.length /\ ∃ H0 ρ, Same H1 H0 /\ RS K c H0 H ρ σ /\ fGo g B (xs.drop i) ρ = some r, ⟨xs.length, by simp, Nat.zero_le _, H1, ρ, Same.refl _, R, by simpa using hf⟩, ?_⟩
 rintro i m σ H ⟨rfl, hi, H0, ρ, s0, R0, hg⟩
 obtain ⟨y1, y2⟩ := hy H0 H i s0 R0.same
 by_cases hlt : i < xs.length
 ·have hd : xs[i]? = some xs[i] := by simp [hlt]
  obtain ⟨go, yl⟩ := y1 _ hd
  refine .inr ⟨go, fun σ' H' => ∃ m', m' < xs.length - i /\ m' = xs.length - (i + 1) /\ i + 1 <= xs.length /\ ∃ H0 ρ, Same H1 H0 /\ RS K c H0 H' ρ σ' /\ fGo g B (xs.drop (i + 1)) ρ = some r, fun σ' H' ⟨m', a, b⟩ => ⟨m', a, b⟩, fun x H' hx => ?_⟩
  obtain ⟨rfl, rx⟩ := yl x H' hx
  rw [drop_of hd, fGo_cons] at hg
  obtain ⟨ρ1, g1, hg⟩ := bnd_eq hg
  obtain ⟨z, g2, hg⟩ := bnd_eq hg
  refine ⟨c, H0, ρ, _, ρ1, R0, rx, g1, fun σ1 H2 Hh2 s2 R2 => ⟨c, H2, ρ1, z, R2, g2, ?_⟩⟩
  cases z with
  | nx ρ2 => exact fun σ' H3 Hh3 s3 R3 => ⟨_, by omega, rfl, hlt, H3, ρ2, s0.trans (s2.trans s3), R3, hg⟩
  | ct ρ2 => exact fun σ' H3 Hh3 s3 R3 => ⟨_, by omega, rfl, hlt, H3, ρ2, s0.trans (s2.trans s3), R3, hg⟩
  | bk ρ2 =>
   have hg' : some (Res.nx ρ2) = some r := hg
   cases hg'
   exact fun σ' H3 Hh3 s3 R3 => q σ' H3 Hh3 (s0.trans (s2.trans s3)) R3
  | rt d ρ2 =>
   have hg' : some (Res.rt d ρ2) = some r := hg
   cases hg'
   exact fun v σ' H3 Hh3 s3 R3 r3 => q v σ' H3 Hh3 (s0.trans (s2.trans s3)) R3 r3
 ·have hn : xs.drop i = [] := List.drop_eq_nil_of_le (by omega)
  rw [hn, fGo_nil] at hg
  have hg' : some (Res.nx ρ) = some r := hg
  cases hg'
  exact .inl ⟨y2 (by omega), q σ H0 H s0 R0⟩
theorem xfor {tg iter : Expr} {body : List Stmt} {g : GD} (hg : XG X tg g) (hi : XE X iter F) (hb : XSs X body B) (hp : PassesOwn (model X.prog X.w) X.A X.env X.xe) (hc : X.calm = true) (hs : ∀ x, foldedSetIterable iter X.env x = pure x) :
  XS X (.For tg iter body [] pos) (sFor g F B) := PS.wk (ps_for hp hc (pi_sq hi) hg hb hs) fun Dn σ H hh0_ => by
 obtain ⟨c, H0, ρ, r, R, f, q⟩ := hh0_
 unfold sFor at f
 obtain ⟨⟨d, ρ1⟩, h1, f⟩ := bnd_eq f
 obtain ⟨xs, h2, f⟩ := bnd_eq f
 exact walk_of_data R h1 h2 fun J H1 Hh s1 R1 hy => for_of R1 f hy (q.mono s1)
theorem xforR1 {tg a : Expr} {body : List Stmt} {g : GD} {p pos' : Pos} (hm : X.mg "range" = none) (hg : XG X tg g) (ha : XE X a F) (hb : XSs X body B) (hgl : Gl X "range") (hp : PassesOwn (model X.prog X.w) X.A X.env X.xe) (hc : X.calm = true)
  (hst : starEach [a] X.env = [(false, eval a X.env)]) (hs : ∀ x, foldedSetIterable (.Call (.Name "range" p) [a] [] pos') X.env x = pure x) :
  XS X (.For tg (.Call (.Name "range" p) [a] [] pos') body [] pos) (sForR g (rng1 F) B) := PS.wk (ps_for hp hc (pi_range1 hgl hm (pa_cons ha pa_nil hst) hst) hg hb hs) fun Dn σ H hh0_ => by
 obtain ⟨c, H0, ρ, r, R, f, q⟩ := hh0_
 unfold sForR rng1 at f
 obtain ⟨⟨xs, ρ1⟩, h1, f⟩ := bnd_eq f
 obtain ⟨⟨d, ρ2⟩, h2, h1⟩ := bnd_eq h1
 obtain ⟨j, h3, h1⟩ := bnd_eq h1
 dsimp only at h1 h3 f
 split at h1
 ·rename_i hj
  cases h1
  refine ⟨c, H0, ρ, d, _, R, h2, fun v H1 Hh s1 R1 r1 => ?_⟩
  cases d with
  | int k =>
   have e : k = j := Option.some.inj h3
   subst e
   unfold Rep at r1; subst r1
   exact ⟨k, rfl, hj.1, hj.2, for_of R1 f (yields_rng 0 k.toNat) (q.mono s1)⟩
  | _ => cases h3
 ·cases h1
theorem xwhile {c : Expr} {body : List Stmt} {fuel : En -> Nat} (hc : XT X c T) (hb : XSs X body B) (hp : PassesOwn (model X.prog X.w) X.A X.env X.xe) : XS X (.While c body [] pos) (sWhile fuel T B) := PS.wk (ps_while hp hc hb) fun Dn σ H hh0_ => by
 obtain ⟨c, H0, ρ, r, R, f, q⟩ := hh0_
 refine ⟨fun m σ H => ∃ H1 ρ, Same H0 H1 /\ RS X.K c H1 H ρ σ /\ wGo T B m ρ = some r, ⟨fuel ρ, H0, ρ, Same.refl _, R, f⟩, ?_⟩
 rintro m σ1 Hh ⟨H1, ρ1, s1, R1, hw⟩
 cases m with
 | zero => cases hw
 | succ m =>
  rw [wGo_succ] at hw
  obtain ⟨⟨b, ρ2⟩, h1, hw⟩ := bnd_eq hw
  dsimp only at hw
  refine ⟨c, H1, ρ1, b, ρ2, R1, h1, fun H2 Hh2 s2 R2 => ?_⟩
  cases b with
  | false =>
   rw [if_neg Bool.false_ne_true] at hw ⊢
   have hw' : some (Res.nx ρ2) = some r := hw
   cases hw'
   exact q σ1 H2 Hh2 (s1.trans s2) R2
  | true =>
   rw [if_pos rfl] at hw ⊢
   obtain ⟨z, h2, hw⟩ := bnd_eq hw
   refine ⟨fun σ' H' => ∃ m', m' < m + 1 /\ ∃ H1 ρ, Same H0 H1 /\ RS X.K c H1 H' ρ σ' /\ wGo T B m' ρ = some r, fun σ' H' h => h, ⟨c, H2, ρ2, z, R2, h2, ?_⟩⟩
   cases z with
   | nx ρ3 => exact fun σ' H3 Hh3 s3 R3 => ⟨m, by omega, H3, ρ3, s1.trans (s2.trans s3), R3, hw⟩
   | ct ρ3 => exact fun σ' H3 Hh3 s3 R3 => ⟨m, by omega, H3, ρ3, s1.trans (s2.trans s3), R3, hw⟩
   | bk ρ3 =>
    have hw' : some (Res.nx ρ3) = some r := hw
    cases hw'
    exact fun σ' H3 Hh3 s3 R3 => q σ' H3 Hh3 (s1.trans (s2.trans s3)) R3
   | rt d ρ3 =>
    have hw' : some (Res.rt d ρ3) = some r := hw
    cases hw'
    exact fun v σ' H3 Hh3 s3 R3 r3 => q v σ' H3 Hh3 (s1.trans (s2.trans s3)) R3 r3
end
theorem RS.start {K : PySem.W.Frag} {Hi H : Hp} {ds : List D} {vs : List V} {m n : Nat} (s : Same Hi H) (r : Reps K Hi ds vs) (hn : n - vs.length = m) : RS K ⟨Hi, H, []⟩ Hi H (ds.map .im ++ List.replicate m .no) (vs.map some ++ List.replicate (n - vs.length) none) := by
 have hl := r.length
 refine ⟨s, Same.refl _, fun b o e => .inl e, fun b o e _ => e, fun a h => (by cases h), ?_, fun i d e => ?_, fun i b o e => ?_, fun i j b b' o o' a e => ?_⟩
 ·rw [List.length_append, List.length_append, List.length_map, List.length_map, List.length_replicate, List.length_replicate, hl, hn]
 ·by_cases hi : i < ds.length
  ·rw [List.getElem?_append_left (by simpa using hi), List.getElem?_map] at e
   cases z : ds[i]? with
   | none => rw [z] at e; cases e
   | some d' =>
    rw [z] at e
    have e' : d' = d := by have := Option.some.inj e; injection this
    subst e'
    obtain ⟨v, a, b⟩ := r.get z
    exact ⟨v, by rw [List.getElem?_append_left (by simp; omega), List.getElem?_map, a]; rfl, b⟩
  ·rw [List.getElem?_append_right (by simpa using Nat.le_of_not_lt hi), List.getElem?_replicate] at e
   split at e <;> cases e
 ·by_cases hi : i < ds.length
  ·rw [List.getElem?_append_left (by simpa using hi), List.getElem?_map] at e
   cases z : ds[i]? with
   | none => rw [z] at e; cases e
   | some d' => rw [z] at e; cases e
  ·rw [List.getElem?_append_right (by simpa using Nat.le_of_not_lt hi), List.getElem?_replicate] at e
   split at e <;> cases e
 ·by_cases hi : i < ds.length
  ·rw [List.getElem?_append_left (by simpa using hi), List.getElem?_map] at e
   cases z : ds[i]? with
   | none => rw [z] at e; cases e
   | some d' => rw [z] at e; cases e
  ·rw [List.getElem?_append_right (by simpa using Nat.le_of_not_lt hi), List.getElem?_replicate] at e
   split at e <;> cases e
theorem fn_ok {P : Program} {w : World} {K : PySem.W.Frag} {mg : Str -> Option Value} {base : Heap} {x qual : Str} {st : Stmt} {f : Addr} {fd : FuncData} {N ps : List Str} {k n m : Nat} {B : FS} (F : Fun K x qual st f fd) (S : FnScope N ps (defScope st)) (hn : ps.length = n) (hN : N.length = n + m)
  (hb : ∀ (cdv : Value) (A : Around) (outer : List Env) (s : Shared) (H : Hp) (E : XK), Room k (A.deeper (envOfC qual (defScope st) s.heap.objs.size f cdv)) -> XSs (cxOf CX0 P w K mg base N qual (defScope st) f cdv A outer s H E).nox (defBody st) B) :
  FnOk P w K mg base CX0 (k + 1) f fd ps (spP K (fnD n m B)) := by
 have inv : ∀ {ds : List D} {d : D}, fnD n m B ds = some d -> ds.length = n /\ ∃ r, B (ds.map .im ++ List.replicate m .no) = some r /\ retR r = some d := fun {ds d} h => by
  unfold fnD at h
  split at h
  ·rename_i hl
   obtain ⟨r, h1, h2⟩ := bnd_eq h
   exact ⟨hl, r, h1, h2⟩
  ·cases h
 refine F.ok S (fun vs H Q E h => ?_) (fun cdv A outer s H vs Q E hr h => ?_)
 ·obtain ⟨Hi, ds, d, _, r, e, _⟩ := h
  rw [hn, <- r.length]; exact (inv e).1
 ·obtain ⟨Hi, ds, d, hs, r, e, q⟩ := h
  obtain ⟨hl, res, h1, h2⟩ := inv e
  refine ⟨_, hb cdv A outer s H E hr, ⟨Hi, H, []⟩, Hi, _, res, RS.start (n := N.length) (m := m) hs r (by rw [<- r.length]; omega), h1, ?_⟩
  cases res with
  | nx ρ' =>
   have e' : D.non = d := Option.some.inj h2
   subst e'
   exact fun σ' H0' H' s0 R => q .non H0' H' R.step (by unfold Rep; rfl)
  | rt d' ρ' =>
   have e' : d' = d := Option.some.inj h2
   subst e'
   exact fun v σ' H0' H' s0 R rv => q v H0' H' R.step rv
  | bk ρ' => cases h2
  | ct ρ' => cases h2
end Fx
set_option maxRecDepth 100000
namespace Fx
open PySem PySem.Spec PyProof.Rows L2
theorem RS.heNone {K : PySem.W.Frag} {c : FC} {H0 H : Hp} {ρ : En} {σ : L2.St} (R : RS K c H0 H ρ σ) {p : Addr} (hp : H p = none) : c.He p = none := by
 cases q : c.He p with
 | none => rfl
 | some u =>
  by_cases hb : p ∈ c.Ap
  ·exact absurd hp (R.apt p hb)
  ·rw [R.keep p u q hb] at hp; cases hp
theorem RS.setOwn {K : PySem.W.Frag} {c : FC} {H0 H : Hp} {ρ : En} {σ : L2.St} {p : Addr} {u : HO} {o : MO} (R : RS K c H0 H ρ σ) (i : Nat) (hp : H p = none) (r : OwOk K H0 (upd H p u) p o) :
  RS K c H0 (upd H p u) (ρ.set i (.ow false o)) (σ.set i (some (.ref p))) := by
 have hl := R.len
 have h0 : H0 p = none := R.same.free hp
 have he := R.heNone hp
 have up : ∀ b v, H b = some v -> (upd H p u) b = some v := fun b v e => by rw [upd_ne (ne_of_none e hp)]; exact e
 have other : ∀ (j : Nat) (sl : Sl), j ≠ i -> (ρ.set i (.ow false o))[j]? = some sl -> ρ[j]? = some sl := fun j sl hj e => by rwa [List.getElem?_set_ne (Ne.symm hj)] at e
 have otherS : ∀ (j : Nat), j ≠ i -> (σ.set i (some (V.ref p)))[j]? = σ[j]? := fun j hj => List.getElem?_set_ne (Ne.symm hj)
 have same : ∀ (sl : Sl), (ρ.set i (.ow false o))[i]? = some sl -> sl = .ow false o /\ i < ρ.length := fun sl e => by
  by_cases hi : i < ρ.length
  ·rw [List.getElem?_set_self hi] at e; exact ⟨(Option.some.inj e).symm, hi⟩
  ·rw [List.getElem?_eq_none (by rw [List.length_set]; omega)] at e; cases e
 have ownNe : ∀ (j : Nat) (b : Bool) (o : MO) (a : Addr), ρ[j]? = some (.ow b o) -> σ[j]? = some (some (.ref a)) -> a ≠ p := fun j b o a e1 e2 => by
  obtain ⟨a', x, _, _, w⟩ := R.ow j b o e1
  rw [x] at e2; cases e2
  obtain ⟨u, q⟩ := w.some
  exact ne_of_none q hp
 refine ⟨fun b u e => up b u (R.same b u e), R.init, R.fresh, fun b o e n => up b o (R.keep b o e n), fun a ha e => ?_, by rw [List.length_set, List.length_set, hl], fun j d' e => ?_, fun j bb o' e => ?_, fun j k b1 b2 o1 o2 a e1 e2 e3 e4 => ?_⟩
 ·cases q : H a with
  | none => exact R.apt a ha q
  | some v => rw [up a v q] at e; cases e
 ·by_cases hj : j = i
  ·subst hj; obtain ⟨e', _⟩ := same _ e; cases e'
  ·rw [otherS j hj]; exact R.im j d' (other j _ hj e)
 ·by_cases hj : j = i
  ·subst hj
   obtain ⟨e', hi⟩ := same _ e
   cases e'
   exact ⟨p, by rw [List.getElem?_set_self (by omega)], h0, he, r⟩
  ·rw [otherS j hj]
   obtain ⟨a, x, y, z, w⟩ := R.ow j bb o' (other j _ hj e)
   exact ⟨a, x, y, z, w.step (Same.refl _) fun v q => up a v q⟩
 ·by_cases hj : j = i
  ·by_cases hk : k = i
   ·omega
   ·subst hj
    obtain ⟨_, hi⟩ := same _ e1
    rw [List.getElem?_set_self (by omega)] at e3
    cases e3
    rw [otherS k hk] at e4
    exact absurd rfl (ownNe k b2 o2 _ (other k _ hk e2) e4)
  ·by_cases hk : k = i
   ·subst hk
    obtain ⟨_, hi⟩ := same _ e2
    rw [List.getElem?_set_self (by omega)] at e4
    cases e4
    rw [otherS j hj] at e3
    exact absurd rfl (ownNe j b1 o1 _ (other j _ hj e1) e3)
   ·rw [otherS j hj] at e3; rw [otherS k hk] at e4
    exact R.ne j k b1 b2 o1 o2 a (other j _ hj e1) (other k _ hk e2) e3 e4
theorem RS.lent {K : PySem.W.Frag} {c : FC} {H0 H H0' H' : Hp} {ρ : En} {σ : L2.St} {a : Addr} {b : Bool} {o o' : MO} (R : RS K c H0 H ρ σ) {i : Nat} (hi : ρ[i]? = some (.ow b o)) (ha : σ[i]? = some (some (.ref a)))
  (s0 : Same H0 H0') (s' : Same H0' H') (kp : ∀ x u, H x = some u -> x ≠ a -> H' x = some u) (fr : ∀ x u, H0' x = some u -> H0 x = some u \/ H x = none) (r : OwOk K H0' H' a o') :
  RS K c H0' H' (ρ.set i (.ow b o')) σ := by
 obtain ⟨a', x, y, z, w⟩ := R.ow i b o hi
 rw [ha] at x; cases x
 obtain ⟨ua, qa⟩ := w.some
 have il : i < ρ.length := (List.getElem?_eq_some_iff.mp hi).1
 have n0 : ∀ x, H0 x = none -> H x ≠ none -> H0' x = none := fun x h1 h2 => by
  cases q : H0' x with
  | none => rfl
  | some u =>
   rcases fr x u q with h | h
   ·rw [h1] at h; cases h
   ·exact absurd h h2
 have other : ∀ (j : Nat) (sl : Sl), j ≠ i -> (ρ.set i (.ow b o'))[j]? = some sl -> ρ[j]? = some sl := fun j sl hj e => by rwa [List.getElem?_set_ne (Ne.symm hj)] at e
 have same : ∀ (sl : Sl), (ρ.set i (.ow b o'))[i]? = some sl -> sl = .ow b o' := fun sl e => by
  rw [List.getElem?_set_self il] at e; exact (Option.some.inj e).symm
 have was : ∀ (j : Nat) (bb : Bool) (oo : MO), (ρ.set i (.ow b o'))[j]? = some (.ow bb oo) -> ∃ bb o'', ρ[j]? = some (.ow bb o'') := fun j bb oo e => by
  by_cases hj : j = i
  ·exact ⟨b, o, by rw [hj]; exact hi⟩
  ·exact ⟨bb, oo, other j _ hj e⟩
 refine ⟨s', R.init.trans s0, fun x u e => ?_, fun x u e n => ?_, fun x hx e => ?_, by rw [List.length_set]; exact R.len, fun j d' e => ?_, fun j bb oo e => ?_, fun j k b1 b2 o1 o2 x e1 e2 e3 e4 => ?_⟩
 ·rcases fr x u e with h | h
  ·exact R.fresh x u h
  ·exact .inr (R.heNone h)
 ·have : x ≠ a := fun h => by
   cases b with
   | true => exact n (h ▸ z)
   | false =>
    have z' : c.He a = none := z
    rw [h, z'] at e; cases e
  exact kp x u (R.keep x u e n) this
 ·by_cases h : x = a
  ·obtain ⟨u, q⟩ := r.some
   rw [h, q] at e; cases e
  ·cases q : H x with
   | none => exact R.apt x hx q
   | some u => rw [kp x u q h] at e; cases e
 ·by_cases hj : j = i
  ·subst hj; cases same _ e
  ·obtain ⟨v, a1, a2⟩ := R.im j d' (other j _ hj e)
   exact ⟨v, a1, Rep.mono s0 _ a2⟩
 ·by_cases hj : j = i
  ·subst hj
   cases same _ e
   exact ⟨a, ha, n0 a y (by rw [qa]; intro h; cases h), z, r⟩
  ·have q' := other j _ hj e
   obtain ⟨x, x1, y1, z1, w1⟩ := R.ow j bb oo q'
   have nx : x ≠ a := fun h => hj (R.ne j i bb b oo o x q' hi x1 (by rw [h]; exact ha))
   obtain ⟨u, qu⟩ := w1.some
   exact ⟨x, x1, n0 x y1 (by rw [qu]; intro h; cases h), z1, w1.step s0 fun v q => kp x v q nx⟩
 ·obtain ⟨_, p, e1⟩ := was j b1 o1 e1
  obtain ⟨_, q, e2⟩ := was k b2 o2 e2
  exact R.ne j k _ _ p q x e1 e2 e3 e4
theorem RS.mutOwn {K : PySem.W.Frag} {c : FC} {H0 H : Hp} {ρ : En} {σ : L2.St} {a : Addr} {b : Bool} {o o' : MO} {u : HO} (R : RS K c H0 H ρ σ) {i : Nat} (hi : ρ[i]? = some (.ow b o)) (ha : σ[i]? = some (some (.ref a))) (r : OwOk K H0 (upd H a u) a o') :
  RS K c H0 (upd H a u) (ρ.set i (.ow b o')) σ := by
 obtain ⟨a', x, y, z, w⟩ := R.ow i b o hi
 rw [ha] at x; cases x
 refine R.lent hi ha (Same.refl _) (fun x v e => ?_) (fun x v e n => by rw [upd_ne n]; exact e) (fun x v e => .inl e) r
 have : x ≠ a := fun h => by rw [h, y] at e; cases e
 rw [upd_ne this]; exact R.same x v e
section
variable {X : Cx} {pos : Pos} {e : Expr} {F : FE} {T : FT} {A B : FA}
end
section
variable {X : Cx} {scope sc : Scope} {x : Str} {frees : List Str} {js : List Nat} {px pos p pos' : Pos} {elt a b : Expr} {ifs : List Expr} {F G I : FE} {T : FT}
end
end Fx
set_option maxRecDepth 100000
namespace Fx
open PySem PySem.Spec PyProof.Rows L2
section
variable {X : Cx} {K : PySem.W.Frag}
theorem rep_str (H : Hp) (x : Str) : Rep K H (.str x) (.str x) := by unfold Rep; rfl
theorem ixD2 : OpD K (rIx K) dIx2 := fun c H0 H ρ σ x y d vx vy Q R r1 r2 e q => by
 cases y with
 | int i =>
  unfold Rep at r2; subst r2
  cases x with
  | tup ds =>
   unfold Rep at r1
   obtain ⟨p, vs, rfl, s, t⟩ := r1
   obtain ⟨v, e1, e2⟩ := at_of t e
   exact .inr (.inl ⟨p, vs, i, v, rfl, rfl, Same.seqT R.same s, e1, q v H0 H (Same.refl _) R e2⟩)
  | lst ds =>
   unfold Rep at r1
   obtain ⟨p, vs, rfl, s, t⟩ := r1
   obtain ⟨v, e1, e2⟩ := at_of t e
   exact .inl ⟨p, vs, i, v, rfl, rfl, Same.seq R.same s, e1, q v H0 H (Same.refl _) R e2⟩
  | str z =>
   unfold Rep at r1; subst r1
   have e : atS z i = some d := e
   unfold atS at e
   by_cases hz : z.length <= sizeLine
   ·rw [if_pos hz] at e
    obtain ⟨ch, e1, e2⟩ := bnd_eq e
    have e2 : some (D.str (chS ch)) = some d := e2
    cases e2
    exact .inr (.inr ⟨z, i, ch, rfl, rfl, hz, e1, q _ H0 H (Same.refl _) R (rep_str H0 (chS ch))⟩)
   ·rw [if_neg hz] at e; cases e
  | _ => cases e
 | _ => cases x <;> cases e
variable {a b : Expr} {F G : FE} {pos : Pos}
theorem xix2 (ha : XE X a F) (hb : XE X b G) (hs : PlainIx b := by intro _ _; rfl) : XE X (.Subscript a b pos) (e2 dIx2 F G) := PE.wk (pe_ix ix_seq ha hb hs) fun σ H Q h => two_of ixD2 h
theorem callLen2 : BOk X (.builtin "len") bLen2 := ⟨_, call_len_seq.or call_len_str, fun c H0 H ρ σ ds d vs Q R r e q => by
 unfold bLen2 at e
 split at e
 ·cases e
  obtain ⟨v, rfl, rv⟩ := Reps.v1 r
  unfold Rep at rv
  obtain ⟨p, ws, rfl, s, t⟩ := rv
  exact .inl ⟨p, ws, rfl, .inl (Same.seq R.same s), by rw [<- t.length]; exact q _ H0 H (Same.refl _) R (rep_int _ _)⟩
 ·cases e
  obtain ⟨v, rfl, rv⟩ := Reps.v1 r
  unfold Rep at rv
  obtain ⟨p, ws, rfl, s, t⟩ := rv
  exact .inl ⟨p, ws, rfl, .inr (Same.seqT R.same s), by rw [<- t.length]; exact q _ H0 H (Same.refl _) R (rep_int _ _)⟩
 ·rename_i z
  obtain ⟨hz, rfl⟩ := ifs e
  obtain ⟨v, rfl, rv⟩ := Reps.v1 r
  unfold Rep at rv; subst rv
  exact .inr ⟨z, rfl, hz, q _ H0 H (Same.refl _) R (rep_int _ _)⟩
 ·cases e⟩
theorem xTy {T : String} {g : List D → Option D} {A : FA} {x : Str} {p : Pos} {e : Expr} {es : List Expr} (o : BOk X (.type T) g) (hg : Gl X x) (hm : X.mg x = none) (hv : bootBuiltins x = some (.type T)) (ha : XA X (e :: es) A) (hn : x ≠ "__name__" := by decide) (hdb : (x == ("__debug__" : Str)) = false := by decide)
  (he : starEach (e :: es) X.env = (false, eval e X.env) :: starEach es X.env := by rfl) (hpl : (backTo pos (starEach es X.env)).any (·.1) = false := by rfl) : XE X (.Call (.Name x p) (e :: es) [] pos) (eF g A) := by
 obtain ⟨r, h1, h2⟩ := o
 exact PE.wk (pe_callTy h1 hg hm hv ha hn hdb he hpl) fun σ H Q h => eF_of h2 h
theorem callTuple : BOk X (.type "tuple") bTuple := ⟨_, call_tuple_of, fun c H0 H ρ σ ds d vs Q R r e q => by
 unfold bTuple at e
 split at e
 ·cases e
  obtain ⟨v, rfl, rv⟩ := Reps.v1 r
  unfold Rep at rv
  obtain ⟨p, ws, rfl, s, t⟩ := rv
  refine ⟨p, ws, rfl, .inl ⟨Same.seq R.same s, fun l hl => ?_⟩⟩
  have S := Step.alloc (o := .tup ws) R.same hl
  refine q _ _ _ S.s0 (R.after S) ?_
  unfold Rep
  exact ⟨l, _, rfl, .inl (.inl upd_same), Reps.mono S.s0 _ t⟩
 ·cases e
  obtain ⟨v, rfl, rv⟩ := Reps.v1 r
  have rv' := rv
  unfold Rep at rv
  obtain ⟨p, ws, rfl, s, t⟩ := rv
  exact ⟨p, ws, rfl, .inr ⟨Same.seqT R.same s, q _ H0 H (Same.refl _) R rv'⟩⟩
 ·cases e⟩
theorem flat_rep {H : Hp} {d : D} {v : V} (h : flatD d = true) (r : Rep K H d v) : flatV v = true /\ ∀ d' v', flatD d' = true -> Rep K H d' v' -> eqV v v' = eqD d d' := by
 cases d with
 | tup xs => cases h
 | lst xs => cases h
 | _ =>
  unfold Rep at r
  subst r
  refine ⟨rfl, fun d' v' h' r' => ?_⟩
  cases d' with
  | tup xs => cases h'
  | lst xs => cases h'
  | _ =>
   unfold Rep at r'
   subst r'
   first
    | (simp [eqV]; done)
    | (simp [eqV, eqD]; done)
    | (simp [eqV, eqD, Bool.beq_eq_decide_eq]; done)
    | (unfold eqV; simp)
theorem in_rep {H : Hp} {x : D} {v : V} (hx : flatD x = true) (r : Rep K H x v) : ∀ {ds : List D} {vs : List V}, ds.all flatD = true -> Reps K H ds vs -> vs.all flatV = true /\ inV v vs = inD x ds
 | [], vs, _, t => by
  unfold Reps at t; subst t; exact ⟨rfl, rfl⟩
 | d :: ds, vs, h, t => by
  unfold Reps at t
  obtain ⟨u, us, rfl, t1, t2⟩ := t
  rw [List.all_cons, Bool.and_eq_true] at h
  obtain ⟨i1, i2⟩ := in_rep hx r h.2 t2
  obtain ⟨f1, f2⟩ := flat_rep h.1 t1
  refine ⟨by rw [List.all_cons, f1, i1]; rfl, ?_⟩
  unfold inV inD at *
  rw [List.any_cons, List.any_cons, f2 x v hx r, i2]
theorem inD_op {neg : Bool} {f : D -> D -> Option D} (hf : ∀ x y d, f x y = some d -> ∃ xs, (y = .tup xs \/ y = .lst xs) /\ okIn x xs = true /\ d = .bl (if neg then !inD x xs else inD x xs)) : OpD K (rIn K neg) f := fun c H0 H ρ σ x y d vx vy Q R r1 r2 e q => by
 obtain ⟨xs, hy, ok, rfl⟩ := hf x y d e
 unfold okIn at ok
 rw [Bool.and_eq_true] at ok
 rcases hy with rfl | rfl
 ·unfold Rep at r2
  obtain ⟨p, ws, rfl, s, t⟩ := r2
  obtain ⟨i1, i2⟩ := in_rep ok.1 r1 ok.2 t
  exact ⟨p, ws, rfl, .inr (Same.seqT R.same s), (flat_rep ok.1 r1).1, i1, by rw [i2]; exact q _ H0 H (Same.refl _) R (rep_bl _ _)⟩
 ·unfold Rep at r2
  obtain ⟨p, ws, rfl, s, t⟩ := r2
  obtain ⟨i1, i2⟩ := in_rep ok.1 r1 ok.2 t
  exact ⟨p, ws, rfl, .inl (Same.seq R.same s), (flat_rep ok.1 r1).1, i1, by rw [i2]; exact q _ H0 H (Same.refl _) R (rep_bl _ _)⟩
end
end Fx
set_option maxRecDepth 100000
namespace Fx
open PySem PySem.Spec PyProof.Rows L2
noncomputable def zipD (ks : List Str) (vs : List V) : List (Key × V) := (ks.map Sum.inr).zip vs
theorem zipD_cons (k : Str) (ks : List Str) (v : V) (vs : List V) : zipD (k :: ks) (v :: vs) = (Sum.inr k, v) :: zipD ks vs := rfl
section
variable {K : PySem.W.Frag} {H : Hp}
theorem val_of {k : Str} {d : D} : ∀ {kds : List (Str × D)} {vs : List V}, Reps K H (kds.map (·.2)) vs -> getK k kds = some d -> ∃ v, valV (zipD (kds.map (·.1)) vs) (.inr k) = some v /\ Rep K H d v
 | [], _, _, e => by cases e
 | q :: r, vs, t, e => by
  rw [List.map_cons] at t
  unfold Reps at t
  obtain ⟨v, vr, rfl, t1, t2⟩ := t
  rw [List.map_cons, zipD_cons]
  unfold getK at e
  by_cases hk : q.1 = k
  ·rw [if_pos hk] at e
   cases e
   exact ⟨v, valV_pos (by rw [hk]), t1⟩
  ·rw [if_neg hk] at e
   obtain ⟨u, e1, e2⟩ := val_of t2 e
   exact ⟨u, by rw [valV_neg fun z => hk (Sum.inr.inj z)]; exact e1, e2⟩
theorem map_of {k : Str} {d : D} {v : V} (rv : Rep K H d v) : ∀ {kds : List (Str × D)} {vs : List V}, Reps K H (kds.map (·.2)) vs -> ∃ vs', (zipD (kds.map (·.1)) vs).map (fun kv => if kv.1 = Sum.inr k then (kv.1, v) else kv) = zipD ((setK k d kds).map (·.1)) vs' /\ Reps K H ((setK k d kds).map (·.2)) vs'
 | [], vs, t => ⟨[], rfl, Reps.nil_⟩
 | q :: r, vs, t => by
  rw [List.map_cons] at t
  unfold Reps at t
  obtain ⟨u, ur, rfl, t1, t2⟩ := t
  obtain ⟨vs', e1, e2⟩ := map_of rv t2
  unfold setK
  rw [List.map_cons, zipD_cons, List.map_cons, e1]
  by_cases hk : q.1 = k
  ·refine ⟨v :: vs', ?_, ?_⟩
   ·rw [if_pos (show (Sum.inr q.1 : Key) = Sum.inr k by rw [hk]), if_pos hk]; rfl
   ·rw [if_pos hk]; exact Reps.cons rv e2
  ·refine ⟨u :: vs', ?_, ?_⟩
   ·rw [if_neg (show ¬ (Sum.inr q.1 : Key) = Sum.inr k from fun z => hk (Sum.inr.inj z)), if_neg hk]; rfl
   ·rw [if_neg hk]; exact Reps.cons t1 e2
theorem put_of {k : Str} {d d0 : D} {v : V} {kds : List (Str × D)} {vs : List V} (rv : Rep K H d v) (t : Reps K H (kds.map (·.2)) vs) (h : getK k kds = some d0) :
  ∃ vs', putK (zipD (kds.map (·.1)) vs) (.inr k) v = zipD ((setK k d kds).map (·.1)) vs' /\ Reps K H ((setK k d kds).map (·.2)) vs' := by
 obtain ⟨u, e, _⟩ := val_of t h
 obtain ⟨vs', e1, e2⟩ := map_of (k := k) rv t
 refine ⟨vs', ?_, e2⟩
 unfold putK
 rw [valV_any, e, if_pos (show (some u).isSome = true from rfl)]
 exact e1
end
theorem owD_eq {o : Option Sl} {q : Bool × List (Str × D)} (h : owD o = some q) : o = some (.ow q.1 (.dic q.2)) := by
 unfold owD at h
 split at h
 ·cases h; rfl
 ·cases h
theorem owO_eq {o : Option Sl} {q : Bool × MO} (h : owO o = some q) : o = some (.ow q.1 q.2) := by
 unfold owO at h
 split at h
 ·cases h; rfl
 ·cases h
section
variable {X : Cx} {pos : Pos} {e : Expr} {F : FE} {A : FA}
theorem xdg (i : Nat) {x k : Str} {j : Nat} {p p2 : Pos} (hu : X.A.units + 1 < cLine) (hN : X.N[i]? = some x := by rfl) (hv : Vis X.env.scope x := by first | exact Or.inl rfl | exact Or.inr (Or.inl rfl) | exact Or.inr (Or.inr rfl)) (hd : (x == ("__debug__" : Str)) = false := by decide)
  (hcd : (x == ("__classdict__" : Str)) = false := by decide) : XE X (.Subscript (.Name x p) (.Constant (.str k) j p2) pos) (eDG i k) :=
 PE.wk (pe_dget hu (pe_var hN hv hd hcd) pe_str (fun _ _ => rfl)) fun σ H Q hh0_ => by
  obtain ⟨c, H0, ρ, d, ρ', R, f, q⟩ := hh0_
  unfold eDG at f
  obtain ⟨⟨b, kds⟩, h1, f⟩ := bnd_eq f
  obtain ⟨d', h2, f⟩ := bnd_eq f
  have f' : some (d', ρ) = some (d, ρ') := f
  cases f'
  obtain ⟨a, e1, e2, e3, ks, vs, e4, rfl, r⟩ := R.ow i b _ (owD_eq h1)
  obtain ⟨v, w1, w2⟩ := val_of r h2
  refine ⟨_, e1, a, v, rfl, ?_, q v H0 H (Same.refl _) R w2⟩
  rw [<- w1]
  exact DGet.k (k := .inr k) e4
theorem lt100 {n : Nat} (h : n < 100) : n < sizeLine := small1000 (by omega)
theorem zipD_len {K : PySem.W.Frag} {H : Hp} {kds : List (Str × D)} {vs : List V} (t : Reps K H (kds.map (·.2)) vs) : (zipD (kds.map (·.1)) vs).length = kds.length := by
 have hl := t.length
 rw [List.length_map] at hl
 unfold zipD
 rw [List.length_zip, List.length_map, List.length_map, <- hl, Nat.min_self]
theorem xdp (i : Nat) {x k : Str} {j : Nat} {p p2 p3 : Pos} (hu : X.A.units + 1 < cLine) (he : XE X e F) (hN : X.N[i]? = some x := by rfl) (hv : Vis X.env.scope x := by first | exact Or.inl rfl | exact Or.inr (Or.inl rfl) | exact Or.inr (Or.inr rfl)) (hd : (x == ("__debug__" : Str)) = false := by decide)
  (hcd : (x == ("__classdict__" : Str)) = false := by decide) (hs : swapsWith e (some (.Subscript (.Name x p) (.Constant (.str k) j p2) p3)) pos.line X.env = pure false := by rfl) :
  XS X (.Assign [.Subscript (.Name x p) (.Constant (.str k) j p2) p3] e pos) (sDP i k F) :=
 PS.wk (ps_dput hu (pe_var hN hv hd hcd) pe_str he hs) fun Dn σ H hh0_ => by
  obtain ⟨c, H0, ρ, r, R, f, q⟩ := hh0_
  unfold sDP at f
  obtain ⟨⟨d, ρ1⟩, h1, f⟩ := bnd_eq f
  obtain ⟨⟨b, kds⟩, h2, f⟩ := bnd_eq f
  obtain ⟨d0, h3, f⟩ := bnd_eq f
  obtain ⟨h4, rfl⟩ := ifs f
  refine ⟨c, H0, ρ, d, ρ1, R, h1, fun v H1 Hh s1 R1 r1 => ?_⟩
  have z := owD_eq h2
  obtain ⟨a, e1, e2, e3, ks, vs, e4, rfl, t⟩ := R1.ow i b _ z
  obtain ⟨vs', w1, w2⟩ := put_of r1 t h3
  refine ⟨_, e1, a, _, rfl, DPut.k (k := .inr k) e4 (by have := zipD_len t; unfold zipD at this; rw [this]; exact lt100 h4), ?_⟩
  exact q σ H1 _ s1 (R1.mutOwn z e1 ⟨_, vs', by rw [upd_same]; exact congrArg (fun y => some (HO.dK y)) w1, rfl, w2⟩)
noncomputable def spB (K : PySem.W.Frag) (g : MO -> List D -> Option (D × MO)) : Sp := fun vs H Q _ => ∃ Hi a o vr ds d o', vs = .ref a :: vr /\ Same Hi H /\ Hi a = none /\ OwOk K Hi H a o /\ Reps K Hi ds vr /\ g o ds = some (d, o') /\
 ∀ v Hi' H', Same Hi Hi' -> Same Hi' H' -> (∀ b u, H b = some u -> b ≠ a -> H' b = some u) -> (∀ b u, Hi' b = some u -> Hi b = some u \/ H b = none) -> OwOk K Hi' H' a o' -> Rep K Hi' d v -> Q v H'
structure DefB (P : Program) (w : World) (K : PySem.W.Frag) (mg : Str -> Option Value) (base : Heap) (k : Nat) (x : Str) (g : MO -> List D -> Option (D × MO)) : Prop where
 ex : ∃ f fd ps, FnOk P w K mg base CX0 k f fd ps (spB K g) /\ Binds K fd ps [] /\ PySem.W.keepIn K (.ref f) = true /\ mg x = some (.ref f)
theorem xFb (i : Nat) {k : Nat} {x y : Str} {g : MO -> List D -> Option (D × MO)} {p py pos : Pos} {es : List Expr} (G : DefB X.prog X.w X.K X.mg X.base k x g) (hr : Room k X.A) (ha : XA X es A) (hN : X.N[i]? = some y := by rfl) (hg : Gl X x := by rfl)
  (hv : Vis X.env.scope y := by first | exact Or.inl rfl | exact Or.inr (Or.inl rfl) | exact Or.inr (Or.inr rfl)) (hdb : (x == ("__debug__" : Str)) = false := by decide) (hd : (y == ("__debug__" : Str)) = false := by decide) (hcd : (y == ("__classdict__" : Str)) = false := by decide)
  (hpl : (backTo pos (starEach es X.env)).any (·.1) = false := by rfl) : XE X (.Call (.Name x p) (.Name y py :: es) [] pos) (eFb i g A) := by
 obtain ⟨f, fd, ps, F, hb, hk, hm⟩ := G.ex
 refine PE.wk (pe_call F hr hg hm hk hb .nil pass0 (pa_cons (pe_var hN hv hd hcd) ha rfl) hdb rfl hpl) fun σ H Q hh0_ => ?_
 obtain ⟨c, H0, ρ, d, ρ', R, z, q⟩ := hh0_
 unfold eFb at z
 obtain ⟨⟨b0, o0⟩, h0, z⟩ := bnd_eq z
 obtain ⟨⟨ds, ρ1⟩, h1, z⟩ := bnd_eq z
 obtain ⟨⟨b, o⟩, h2, z⟩ := bnd_eq z
 obtain ⟨⟨d', o'⟩, h3, z⟩ := bnd_eq z
 have z' : some (d', ρ1.set i (.ow b o')) = some (d, ρ') := z
 cases z'
 obtain ⟨a, e1, _⟩ := R.ow i b0 o0 (owO_eq h0)
 refine ⟨_, e1, c, H0, ρ, ds, ρ1, R, h1, fun vs H1 Hh s1 R1 r1 => ?_⟩
 have y2 := owO_eq h2
 obtain ⟨a', e1', e2', e3', w'⟩ := R1.ow i b o y2
 rw [e1] at e1'; cases e1'
 refine ⟨H1, a, o, vs, ds, d, o', by rw [List.append_nil], R1.same, e2', w', r1, h3, fun v Hi' H' s2 s3 kp fr ok rv => ?_⟩
 exact q v Hi' H' (s1.trans s2) (R1.lent y2 e1 s2 s3 kp fr ok) rv
end
theorem RS.startB {K : PySem.W.Frag} {Hi H : Hp} {ds : List D} {vs : List V} {a : Addr} {o : MO} {m n : Nat} (s : Same Hi H) (h0 : Hi a = none) (ok : OwOk K Hi H a o) (r : Reps K Hi ds vs) (hn : n - (vs.length + 1) = m) :
  RS K ⟨Hi, H, [a]⟩ Hi H (.ow true o :: (ds.map .im ++ List.replicate m .no)) (some (.ref a) :: (vs.map some ++ List.replicate (n - (vs.length + 1)) none)) := by
 have R := RS.start (n := n - 1) (m := m) s r (by omega)
 have hnn : n - 1 - vs.length = n - (vs.length + 1) := by omega
 rw [hnn] at R
 have now : ∀ (i : Nat) (b : Bool) (o : MO), ¬ (ds.map Sl.im ++ List.replicate m Sl.no)[i]? = some (.ow b o) := fun i b o e => by
  by_cases hi : i < ds.length
  ·rw [List.getElem?_append_left (by simpa using hi), List.getElem?_map] at e
   cases z : ds[i]? with
   | none => rw [z] at e; cases e
   | some d' => rw [z] at e; cases e
  ·rw [List.getElem?_append_right (by simpa using Nat.le_of_not_lt hi), List.getElem?_replicate] at e
   split at e <;> cases e
 refine ⟨s, Same.refl _, fun b o e => .inl e, fun b o e _ => e, fun b hb e => ?_, ?_, fun i d e => ?_, fun i b o' e => ?_, fun i j b b' o1 o2 x e1 e2 e3 e4 => ?_⟩
 ·obtain ⟨u, hu⟩ := ok.some
  have : b = a := by simpa using hb
  have e : H b = none := e
  rw [this, hu] at e; cases e
 ·rw [List.length_cons, List.length_cons, R.len]
 ·cases i with
  | zero => cases e
  | succ i => exact R.im i d e
 ·cases i with
  | zero =>
   have e' : Sl.ow true o = Sl.ow b o' := Option.some.inj e
   cases e'
   exact ⟨a, rfl, h0, by rw [if_pos rfl]; exact List.mem_singleton.mpr rfl, ok⟩
  | succ i => exact absurd e (now i b o')
 ·cases i with
  | zero =>
   cases j with
   | zero => rfl
   | succ j => exact absurd e2 (now j _ _)
  | succ i => exact absurd e1 (now i _ _)
theorem fnB_ok {P : Program} {w : World} {K : PySem.W.Frag} {mg : Str -> Option Value} {base : Heap} {x qual : Str} {st : Stmt} {f : Addr} {fd : FuncData} {N ps : List Str} {k n m : Nat} {B : FS} (F : Fun K x qual st f fd) (S : FnScope N ps (defScope st)) (hn : ps.length = n + 1) (hN : N.length = n + 1 + m)
  (hb : ∀ (cdv : Value) (A : Around) (outer : List Env) (s : Shared) (H : Hp) (E : XK), Room k (A.deeper (envOfC qual (defScope st) s.heap.objs.size f cdv)) -> XSs (cxOf CX0 P w K mg base N qual (defScope st) f cdv A outer s H E).nox (defBody st) B) :
  FnOk P w K mg base CX0 (k + 1) f fd ps (spB K (fnB n m B)) := by
 have inv : ∀ {o : MO} {ds : List D} {z : D × MO}, fnB n m B o ds = some z -> ds.length = n /\ ∃ r, B (.ow true o :: (ds.map .im ++ List.replicate m .no)) = some r /\ retB r = some z := fun {o ds z} h => by
  unfold fnB at h
  split at h
  ·rename_i hl
   obtain ⟨r, h1, h2⟩ := bnd_eq h
   exact ⟨hl, r, h1, h2⟩
  ·cases h
 have fin : ∀ {Hi H H0' H' : Hp} {a : Addr} {o' : MO} {ρ' : En} {σ' : L2.St}, RS K ⟨Hi, H, [a]⟩ H0' H' ρ' σ' -> ρ'[0]? = some (.ow true o') -> Same Hi H0' /\ Same H0' H' /\ (∀ b u, H b = some u -> b ≠ a -> H' b = some u) /\ (∀ b u, H0' b = some u -> Hi b = some u \/ H b = none) /\ OwOk K H0' H' a o' :=
  fun {Hi H H0' H' a o' ρ' σ'} R e => by
   obtain ⟨a', _, _, z, ok⟩ := R.ow 0 true o' e
   rw [if_pos rfl] at z
   have za : a' = a := by simpa using z
   subst za
   exact ⟨R.init, R.same, fun b u h n => R.keep b u h (by simpa using n), R.fresh, ok⟩
 refine F.ok S (fun vs H Q E h => ?_) (fun cdv A outer s H vs Q E hr h => ?_)
 ·obtain ⟨Hi, a, o, vr, ds, d, o', rfl, _, _, _, r, e, _⟩ := h
  rw [hn, List.length_cons, <- r.length, (inv e).1]
 ·obtain ⟨Hi, a, o, vr, ds, d, o', rfl, hs, h0, ok, r, e, q⟩ := h
  obtain ⟨hl, res, h1, h2⟩ := inv e
  have hlen := r.length
  have R := RS.startB (n := N.length) (m := m) hs h0 ok r (by omega)
  refine ⟨_, hb cdv A outer s H E hr, ⟨Hi, H, [a]⟩, Hi, _, res, R, h1, ?_⟩
  cases res with
  | nx ρ' =>
   obtain ⟨⟨b, oo⟩, z1, z2⟩ := bnd_eq (show bnd (owO ρ'[0]?) (fun q => if q.1 = true then some (D.non, q.2) else none) = some (d, o') from h2)
   obtain ⟨hbt, z3⟩ := ifs z2
   cases z3
   have hbt : b = true := hbt
   subst hbt
   exact fun σ' H0' H' s0 R => let ⟨x1, x2, x3, x4, x5⟩ := fin R (owO_eq z1); q .non H0' H' x1 x2 x3 x4 x5 (by unfold Rep; rfl)
  | rt d' ρ' =>
   obtain ⟨⟨b, oo⟩, z1, z2⟩ := bnd_eq (show bnd (owO ρ'[0]?) (fun q => if q.1 = true then some (d', q.2) else none) = some (d, o') from h2)
   obtain ⟨hbt, z3⟩ := ifs z2
   cases z3
   have hbt : b = true := hbt
   subst hbt
   exact fun v σ' H0' H' s0 R rv => let ⟨x1, x2, x3, x4, x5⟩ := fin R (owO_eq z1); q v H0' H' x1 x2 x3 x4 x5 rv
  | bk ρ' => cases h2
  | ct ρ' => cases h2
end Fx
set_option maxRecDepth 100000
namespace Fx
open PySem PySem.Spec PyProof.Rows L2
noncomputable def NewAt (K : PySem.W.Frag) (Hi H : Hp) (o : MO) (a : Addr) (Hi' H' : Hp) : Prop :=
 Same Hi Hi' /\ Same Hi' H' /\ Same H H' /\ (∀ b u, Hi' b = some u -> Hi b = some u \/ H b = none) /\ Hi' a = none /\ H a = none /\ OwOk K Hi' H' a o
noncomputable def spN (K : PySem.W.Frag) (g : List D -> Option MO) : Sp := fun vs H Q _ => ∃ Hi ds o, Same Hi H /\ Reps K Hi ds vs /\ g ds = some o /\ ∀ a Hi' H', NewAt K Hi H o a Hi' H' -> Q (.ref a) H'
structure DefN (P : Program) (w : World) (K : PySem.W.Frag) (mg : Str -> Option Value) (base : Heap) (k : Nat) (x : Str) (g : List D -> Option MO) : Prop where
 ex : ∃ f fd ps, FnOk P w K mg base CX0 k f fd ps (spN K g) /\ Binds K fd ps [] /\ PySem.W.keepIn K (.ref f) = true /\ mg x = some (.ref f)
theorem RS.got {K : PySem.W.Frag} {c : FC} {H0 H H0' H' : Hp} {ρ : En} {σ : L2.St} {a : Addr} {o : MO} (R : RS K c H0 H ρ σ) (i : Nat) (h : NewAt K H0 H o a H0' H') : RS K c H0' H' (ρ.set i (.ow false o)) (σ.set i (some (.ref a))) := by
 obtain ⟨s0, s', s, fr, a0, aH, ok⟩ := h
 obtain ⟨u, hu⟩ := ok.some
 have R2 : RS K c H0' (fun b => if b = a then none else H' b) ρ σ := R.after ⟨s0, fun b v e => by
  have : b ≠ a := fun z => by rw [z, aH] at e; cases e
  show (if b = a then none else H' b) = some v
  rw [if_neg this]; exact s b v e, fun b v e => by
  have : b ≠ a := fun z => by rw [z, a0] at e; cases e
  show (if b = a then none else H' b) = some v
  rw [if_neg this]; exact s' b v e, fr⟩
 have hup : upd (fun b => if b = a then none else H' b) a u = H' := by
  funext b
  by_cases hb : b = a
  ·rw [hb, upd_same, hu]
  ·rw [upd_ne hb]; exact if_neg hb
 have := R2.setOwn (u := u) (o := o) (p := a) i (if_pos rfl) (by rw [hup]; exact ok)
 rw [hup] at this
 exact this
section
variable {X : Cx} {pos : Pos} {e : Expr} {F : FE} {A : FA}
theorem xnew (i : Nat) {k : Nat} {x y : Str} {g : List D -> Option MO} {p pos' cpos : Pos} {es : List Expr} (hN : X.N.Nodup) (G : DefN X.prog X.w X.K X.mg X.base k x g) (hr : Room k X.A) (ha : XA X (e :: es) A) (hi : X.N[i]? = some y := by rfl) (hx : Loc X.env.scope y := by first | exact Or.inl rfl | exact Or.inr rfl)
  (hs : swapsWith (.Call (.Name x p) (e :: es) [] cpos) (some (.Name y pos')) pos.line X.env = pure false := by rfl) (hf : X.fn y = true \/ X.env.scope.names.lookup y = some .local := by first | exact .inl rfl | exact .inr rfl)
  (hg : Gl X x := by rfl) (hdb : (x == ("__debug__" : Str)) = false := by decide) (he : starEach (e :: es) X.env = (false, eval e X.env) :: starEach es X.env := by rfl) (hpl : (backTo cpos (starEach es X.env)).any (·.1) = false := by rfl) :
  XS X (.Assign [.Name y pos'] (.Call (.Name x p) (e :: es) [] cpos) pos) (sNew i g A) := by
 obtain ⟨f, fd, ps, F, hb, hk, hm⟩ := G.ex
 refine PS.wk (ps_set hN hi hx (pe_call F hr hg hm hk hb .nil pass0 ha hdb he hpl) hs hf) fun Dn σ H hh0_ => ?_
 obtain ⟨c, H0, ρ, r, R, f, q⟩ := hh0_
 unfold sNew at f
 obtain ⟨⟨ds, ρ1⟩, h1, f⟩ := bnd_eq f
 obtain ⟨o, h2, f⟩ := bnd_eq f
 have f' : some (Res.nx (ρ1.set i (.ow false o))) = some r := f
 cases f'
 exact ⟨c, H0, ρ, ds, ρ1, R, h1, fun vs H1 Hh s1 R1 r1 => ⟨H1, ds, o, R1.same, by rw [List.append_nil]; exact r1, h2, fun a Hi' H' nw => q _ Hi' H' (s1.trans nw.1) (R1.got i nw)⟩⟩
noncomputable def tN (K : PySem.W.Frag) (F : En -> Option MO) : TS := fun Dn σ H => ∃ Hi He H0 ρ o, RS K ⟨Hi, He, []⟩ H0 H ρ σ /\ F ρ = some o /\ ∀ a H0' H', NewAt K Hi He o a H0' H' -> Dn.rt (.ref a) H'
noncomputable def XN (X : Cx) (sts : List Stmt) (F : En -> Option MO) : Prop := PSs X sts (tN X.K F)
theorem xnC {st : Stmt} {rest : List Stmt} {B : FS} {N : En -> Option MO} (h1 : PS X st (fun Dn σ H => ∃ Hi He H0 ρ r, RS X.K ⟨Hi, He, []⟩ H0 H ρ σ /\ B ρ = some r /\ Post X.K ⟨Hi, He, []⟩ Dn H0 r)) (h2 : XN X rest N) : XN X (st :: rest) (nSeq B N) :=
 PSs.wk (pss_cons h1 h2) fun Dn σ H hh0_ => by
  obtain ⟨Hi, He, H0, ρ, o, R, f, q⟩ := hh0_
  unfold nSeq at f
  obtain ⟨z, h, f⟩ := bnd_eq f
  refine ⟨Hi, He, H0, ρ, z, R, h, ?_⟩
  cases z with
  | nx ρ1 => exact fun σ' H0' H' s R' => ⟨Hi, He, H0', ρ1, o, R', f, q⟩
  | rt d ρ1 => cases f
  | bk ρ1 => cases f
  | ct ρ1 => cases f
theorem xnS {st : Stmt} {B : FS} (h : XS X st B) : PS X st (fun Dn σ H => ∃ Hi He H0 ρ r, RS X.K ⟨Hi, He, []⟩ H0 H ρ σ /\ B ρ = some r /\ Post X.K ⟨Hi, He, []⟩ Dn H0 r) :=
 PS.wk h fun Dn σ H ⟨Hi, He, H0, ρ, r, R, f, q⟩ => ⟨⟨Hi, He, []⟩, H0, ρ, r, R, f, q⟩
noncomputable def XPs (X : Cx) (pos : Pos) (ks : List Str) (keys : List (Option Expr)) (values : List Expr) (A : FA) : Prop := ∃ trs, PPs X pos keys values trs /\ ks.length = keys.length /\ keys.length = values.length /\ keys.all (·.isSome) = true /\
 ∀ (c : FC) (H0 H : Hp) (ρ ρ' : En) (ds : List D) (σ : L2.St) (Q : List (V × V) -> Hp -> Prop), RS X.K c H0 H ρ σ -> A ρ = some (ds, ρ') -> (∀ vs H0' H', Same H0 H0' -> RS X.K c H0' H' ρ' σ -> Reps X.K H0' ds vs -> Q ((ks.map V.str).zip vs) H') -> tPairs trs σ H Q
theorem xp0 : XPs X pos [] [] [] aN := ⟨[], pps_nil, rfl, rfl, rfl, fun c H0 H ρ ρ' ds σ Q R f q => by
 have f' : some (([] : List D), ρ) = some (ds, ρ') := f
 cases f'
 exact q [] H0 H (Same.refl _) R Reps.nil_⟩
theorem xpC {k : Str} {ks : List Str} {keys : List (Option Expr)} {values : List Expr} {j : Nat} {p2 : Pos} (he : XE X e F) (hr : XPs X pos ks keys values A) : XPs X pos (k :: ks) (some (.Constant (.str k) j p2) :: keys) (e :: values) (aC F A) := by
 obtain ⟨trs, h1, h2, h3, h4, h5⟩ := hr
 refine ⟨(tC (.str k), tE X.K F) :: trs, pps_cons pe_str he h1, by rw [List.length_cons, List.length_cons, h2], by rw [List.length_cons, List.length_cons, h3], by rw [List.all_cons, h4]; rfl, fun c H0 H ρ ρ' ds σ Q R f q => ?_⟩
 unfold aC at f
 obtain ⟨⟨d, ρ1⟩, g1, f⟩ := bnd_eq f
 obtain ⟨⟨r, ρ2⟩, g2, f⟩ := bnd_eq f
 have f' : some (d :: r, ρ2) = some (ds, ρ') := f
 cases f'
 refine ⟨c, H0, ρ, d, ρ1, R, g1, fun v H1 Hh s1 R1 r1 => ?_⟩
 exact h5 c H1 Hh ρ1 _ r σ _ R1 g2 fun vs H2 Hh2 s2 R2 r2 => q (v :: vs) H2 Hh2 (s1.trans s2) R2 (Reps.cons (Rep.mono s2 d r1) r2)
theorem merge_nd : ∀ (more kvs : List (Key × V)), ((kvs ++ more).map (·.1)).Nodup -> mergeK kvs more = kvs ++ more
 | [], kvs, _ => by rw [List.append_nil]; rfl
 | p :: r, kvs, h => by
  have hn : valV kvs p.1 = none := by
   cases q : valV kvs p.1 with
   | none => rfl
   | some v =>
    have hm := valV_in q
    rw [List.map_append, List.map_cons, List.nodup_append] at h
    exact absurd rfl (h.2.2 _ hm _ (List.mem_cons_self ..))
  show mergeK (putK kvs p.1 p.2) r = _
  rw [putK_new p.2 hn, merge_nd r _ (by simpa using h)]
  simp
theorem zipD_kv : ∀ (ks : List Str) (vs : List V), (ks.map V.str).zip vs = (zipD ks vs).map fun kv => (kV kv.1, kv.2)
 | [], _ => rfl
 | _ :: _, [] => rfl
 | k :: ks, v :: vs => by
  rw [zipD_cons, List.map_cons, List.map_cons, List.zip_cons_cons, zipD_kv ks vs]; rfl
theorem RS.fence {K : PySem.W.Frag} {c : FC} {H0 H : Hp} {ρ : En} {σ : L2.St} {p : Addr} {u : HO} (R : RS K c H0 H ρ σ) (no : ρ.all noOw = true) (hp : H p = none) : RS K ⟨H0, upd H p u, []⟩ H0 (upd H p u) ρ σ := by
 have now : ∀ (i : Nat) (b : Bool) (o : MO), ¬ ρ[i]? = some (.ow b o) := fun i b o e => by
  have := List.all_eq_true.mp no _ (List.mem_of_getElem? e)
  cases this
 refine ⟨fun b v e => ?_, Same.refl _, fun b o e => .inl e, fun b o e _ => e, fun a h => (by cases h), R.len, R.im, fun i b o e => absurd e (now i b o), fun i j b b' o o' a e => absurd e (now i b o)⟩
 have : b ≠ p := fun z => by rw [z, R.same.free hp] at e; cases e
 rw [upd_ne this]; exact R.same b v e
theorem xn1 {ks : List Str} {keys : List (Option Expr)} {values : List Expr} {rpos : Pos} (h : XPs X pos ks keys values A) (h0 : keys ≠ [] := by simp) (h15 : keys.length <= 15 := by simp) : XN X [.Return (some (.Dict keys values pos)) rpos] (nRet ks A) := by
 obtain ⟨trs, h1, h2, h3, h4, h5⟩ := h
 refine PSs.wk (pss_one (ps_ret (pe_disp h1 h4 h3 h0 h15))) fun Dn σ H hh0_ => ?_
 obtain ⟨Hi, He, H0, ρ, o, R, f, q⟩ := hh0_
 unfold nRet at f
 by_cases no : ρ.all noOw = true
 ·rw [if_pos no] at f
  obtain ⟨⟨ds, ρ1⟩, g1, f⟩ := bnd_eq f
  obtain ⟨⟨l1, l2, l3⟩, rfl⟩ := ifs f
  have l1 : ds.length = ks.length := l1
  show ∀ p, H p = none -> _
  intro p hp
  refine h5 _ H0 _ ρ ρ1 ds σ _ (R.fence no hp) g1 fun vs H1 Hh s1 R1 r1 => ?_
  have hl := r1.length
  have kp : Hh p = some (.dK []) := R1.keep p _ upd_same (by simp)
  refine ⟨kp, zipD ks vs, ?_, ?_, ?_⟩
  ·exact zipD_kv ks vs
  ·unfold zipD; rw [List.length_zip, List.length_map]; omega
  ·have nd : mergeK [] (zipD ks vs) = zipD ks vs := by
    rw [merge_nd]
    ·rfl
    ·rw [List.nil_append]
     unfold zipD
     rw [List.map_fst_zip (by rw [List.length_map]; omega)]
     exact List.pairwise_map.mpr (l3.imp fun hab z => hab (Sum.inr.inj z))
   rw [nd]
   have S1 := R.step
   have S2 := R1.step
   have p1 : H1 p = none := by
    cases z : H1 p with
    | none => rfl
    | some v =>
     rcases S2.fr p v z with y | y
     ·rw [R.same.free hp] at y; cases y
     ·rw [upd_same] at y; cases y
   refine q p H1 _ ⟨S1.s0.trans S2.s0, fun b v e => ?_, fun b v e => ?_, fun b v e => ?_, p1, S1.s.free hp, ?_⟩
   ·have : b ≠ p := fun z => by rw [z, p1] at e; cases e
    rw [upd_ne this]; exact S2.s' b v e
   ·have e1 := S1.s b v e
    have : b ≠ p := fun z => by rw [z, hp] at e1; cases e1
    rw [upd_ne this]; exact S2.s b v (by rw [upd_ne this]; exact e1)
   ·rcases S2.fr b v e with y | y
    ·exact S1.fr b v y
    ·have : b ≠ p := fun z => by rw [z, upd_same] at y; cases y
     rw [upd_ne this] at y
     exact .inr (S1.s.free y)
   ·have e1 : (ks.zip ds).map (·.1) = ks := List.map_fst_zip (by omega)
    have e2 : (ks.zip ds).map (·.2) = ds := List.map_snd_zip (by omega)
    exact ⟨ks, vs, by rw [upd_same]; rfl, e1.symm, by rw [e2]; exact r1⟩
 ·rw [if_neg no] at f; cases f
end
theorem fnN_ok {P : Program} {w : World} {K : PySem.W.Frag} {mg : Str -> Option Value} {base : Heap} {x qual : Str} {st : Stmt} {f : Addr} {fd : FuncData} {N ps : List Str} {k n m : Nat} {B : En -> Option MO} (F : Fun K x qual st f fd) (S : FnScope N ps (defScope st)) (hn : ps.length = n) (hN : N.length = n + m)
  (hb : ∀ (cdv : Value) (A : Around) (outer : List Env) (s : Shared) (H : Hp) (E : XK), Room k (A.deeper (envOfC qual (defScope st) s.heap.objs.size f cdv)) -> XN (cxOf CX0 P w K mg base N qual (defScope st) f cdv A outer s H E).nox (defBody st) B) :
  FnOk P w K mg base CX0 (k + 1) f fd ps (spN K (fnN n m B)) := by
 refine F.ok S (fun vs H Q E h => ?_) (fun cdv A outer s H vs Q E hr h => ?_)
 ·obtain ⟨Hi, ds, o, _, r, e, _⟩ := h
  unfold fnN at e
  split at e
  ·rename_i hl; rw [hn, <- r.length]; exact hl
  ·cases e
 ·obtain ⟨Hi, ds, o, hs, r, e, q⟩ := h
  unfold fnN at e
  split at e
  ·rename_i hl
   exact ⟨_, hb cdv A outer s H E hr, Hi, H, Hi, _, o, RS.start (n := N.length) (m := m) hs r (by rw [<- r.length]; omega), e, q⟩
  ·cases e
end Fx
set_option maxRecDepth 100000
namespace Fx
open PySem PySem.Spec PyProof.Rows L2
section
variable {X : Cx} {K : PySem.W.Frag} {pos : Pos} {e : Expr} {F : FE}
noncomputable def rSlS : V -> Option Int -> Option Int -> Hp -> VK -> Prop := fun x lo hi H Q => ∃ z, x = .str z /\ z.length <= sizeLine /\ Q (.str (Txt.slice z lo hi)) H
theorem part_ {v : Value} {o : Option Int} (p : IsPart v o) : ∃ l : Option (Int × Tok), v = partValue l /\ l.map (·.1) = o := by
 cases p with
 | none => exact ⟨none, rfl, rfl⟩
 | int i t => exact ⟨some (i, t), rfl, rfl⟩
theorem sl_str : SlR X rSlS := by
 intro pins s σ H x v vl vu lo hi sl Q I rx hs pl pu h
 obtain ⟨z, rfl, hz, q⟩ := h
 obtain ⟨t, rfl⟩ := rx
 obtain ⟨l, rfl, rfl⟩ := part_ pl
 obtain ⟨u, rfl, rfl⟩ := part_ pu
 refine ⟨"str", _, slot_str_getitem.lookup, typeIs_str _ _ _, wpAny_getItem_str_slice (l := l) (u := u) (st := none) hs rfl ?_⟩
 exact post_val_or_str ⟨Nat.le_trans (Txt.slice_le z _ _) hz, fun t' k => ⟨.str (Txt.slice z (l.map (·.1)) (u.map (·.1))), H, I.tok _, ⟨_, rfl⟩, q⟩⟩
theorem xsl2 {lo hi : Option Expr} {A B : FO} {p2 : Pos} (he : XE X e F) (hl : XO X lo A) (hh : XO X hi B) : XE X (.Subscript e (.Slice lo hi none p2) pos) (eSl2 F A B) := PE.wk (pe_slice ((sl_list.or sl_tup).or sl_str) he hl hh) fun σ H Q hh0_ => by
 obtain ⟨c, H0, ρ, d, ρ', R, f, q⟩ := hh0_
 unfold eSl2 at f
 obtain ⟨⟨x, ρ1⟩, h1, f⟩ := bnd_eq f
 obtain ⟨⟨l, ρ2⟩, h2, f⟩ := bnd_eq f
 obtain ⟨⟨u, ρ3⟩, h3, f⟩ := bnd_eq f
 obtain ⟨d', h4, f⟩ := bnd_eq f
 dsimp only at h2 h3 h4 f
 have f' : some (d', ρ3) = some (d, ρ') := f
 cases f'
 refine ⟨c, H0, ρ, x, ρ1, R, h1, fun v H1 Hh s1 R1 r1 => ?_⟩
 refine ⟨c, H1, ρ1, l, ρ2, R1, h2, fun H2 Hh2 s2 R2 => ?_⟩
 refine ⟨c, H2, ρ2, u, _, R2, h3, fun H3 Hh3 s3 R3 => ?_⟩
 have r3 := Rep.mono s3 x (Rep.mono s2 x r1)
 cases x with
 | lst ds =>
  have e : D.lst (dCut ds l u) = d := Option.some.inj h4
  subst e
  unfold Rep at r3
  obtain ⟨p, vs, rfl, s, t⟩ := r3
  refine .inl (.inl ⟨p, vs, rfl, Same.seq R3.same s, fun p' hp => ?_⟩)
  have S := Step.alloc (o := .lst (cutV vs l u)) R3.same hp
  refine q _ _ _ (s1.trans (s2.trans (s3.trans S.s0))) (R3.after S) ?_
  unfold Rep
  exact ⟨p', _, rfl, .inl (.inl upd_same), Reps.mono S.s0 _ (cut_of t l u)⟩
 | tup ds =>
  have h5 : (if dEnd ds.length 0 l = 0 /\ dEnd ds.length ds.length u = ds.length then none else some (D.tup (dCut ds l u))) = some d := h4
  by_cases hn : dEnd ds.length 0 l = 0 /\ dEnd ds.length ds.length u = ds.length
  ·rw [if_pos hn] at h5; cases h5
  ·rw [if_neg hn] at h5
   cases h5
   unfold Rep at r3
   obtain ⟨p, vs, rfl, s, t⟩ := r3
   refine .inl (.inr ⟨p, vs, rfl, Same.seqT R3.same s, ?_, fun p' hp => ?_⟩)
   ·rw [<- dEnd_eq, <- dEnd_eq, <- t.length]; exact hn
   have S := Step.alloc (o := .tup (cutV vs l u)) R3.same hp
   refine q _ _ _ (s1.trans (s2.trans (s3.trans S.s0))) (R3.after S) ?_
   unfold Rep
   exact ⟨p', _, rfl, .inl (.inl upd_same), Reps.mono S.s0 _ (cut_of t l u)⟩
 | str z =>
  obtain ⟨hz, rfl⟩ := ifs (c := z.length <= sizeLine) h4
  unfold Rep at r3
  exact .inr ⟨z, r3, hz, q _ H3 Hh3 (s1.trans (s2.trans s3)) R3 (rep_str H3 _)⟩
 | _ => cases h4
theorem OpR.or {f : Value -> Value -> Sem Value} {r r' : R2} (h : OpR X f r) (h' : OpR X f r') : OpR X f (fun x y H Q => r x y H Q \/ r' x y H Q) := by
 intro pins s σ H x y v u Q I rx ry q
 rcases q with q | q
 ·exact h pins s σ H x y v u Q I rx ry q
 ·exact h' pins s σ H x y v u Q I rx ry q
theorem inOpD : OpD K (rIn K false) dIn := inD_op fun x y d e => by
 cases y with
 | tup xs => obtain ⟨h, rfl⟩ := ifs (c := okIn x xs = true) e; exact ⟨xs, .inl rfl, h, rfl⟩
 | lst xs => obtain ⟨h, rfl⟩ := ifs (c := okIn x xs = true) e; exact ⟨xs, .inr rfl, h, rfl⟩
 | _ => cases e
theorem notInOpD : OpD K (rIn K true) dNotIn := inD_op fun x y d e => by
 cases y with
 | tup xs => obtain ⟨h, rfl⟩ := ifs (c := okIn x xs = true) e; exact ⟨xs, .inl rfl, h, rfl⟩
 | lst xs => obtain ⟨h, rfl⟩ := ifs (c := okIn x xs = true) e; exact ⟨xs, .inr rfl, h, rfl⟩
 | _ => cases e
theorem cIn2 : CmpOk X .In dIn2 := ⟨_, OpR.or op_in_seq op_in_str, fun c H0 H ρ σ x y d vx vy Q R r1 r2 e q => by
 cases y with
 | tup xs => rw [dIn2_t] at e; exact .inl (inOpD c H0 H ρ σ x (.tup xs) d vx vy Q R r1 r2 e q)
 | lst xs => rw [dIn2_l] at e; exact .inl (inOpD c H0 H ρ σ x (.lst xs) d vx vy Q R r1 r2 e q)
 | str b =>
  cases x with
  | str a =>
   have e' : some (D.bl (inS a b)) = some d := e
   cases e'
   unfold Rep at r1 r2; subst r1 r2
   exact .inr ⟨a, b, rfl, rfl, q _ H0 H (Same.refl _) R (rep_bl _ _)⟩
  | _ => cases e
 | _ => cases x <;> cases e⟩
theorem cNotIn2 : CmpOk X .NotIn dNotIn2 := ⟨_, OpR.or op_notIn_seq op_notIn_str, fun c H0 H ρ σ x y d vx vy Q R r1 r2 e q => by
 cases y with
 | tup xs => rw [dNotIn2_t] at e; exact .inl (notInOpD c H0 H ρ σ x (.tup xs) d vx vy Q R r1 r2 e q)
 | lst xs => rw [dNotIn2_l] at e; exact .inl (notInOpD c H0 H ρ σ x (.lst xs) d vx vy Q R r1 r2 e q)
 | str b =>
  cases x with
  | str a =>
   have e' : some (D.bl (!inS a b)) = some d := e
   cases e'
   unfold Rep at r1 r2; subst r1 r2
   exact .inr ⟨a, b, rfl, rfl, q _ H0 H (Same.refl _) R (rep_bl _ _)⟩
  | _ => cases e
 | _ => cases x <;> cases e⟩
end
end Fx
set_option maxRecDepth 100000
namespace Fx
open PySem PySem.Spec PyProof.Rows L2
theorem owT_eq {s : Option Sl} {o : MO} (h : owT s = some o) : s = some (.ow true o) := by
 unfold owT at h
 split at h
 ·cases h; rfl
 ·cases h
theorem frAt_get {ρ : En} {i : Nat} {o : MO} : ∀ {js : List Nat} {fr : En}, frAt ρ i o js = some fr -> fr.length = js.length /\ ∀ (k : Nat) (s : Sl), fr[k]? = some s -> ∃ j, js[k]? = some j /\ ((j = i /\ s = .ow true o) \/ ∃ d, ρ[j]? = some (.im d) /\ s = .im d)
 | [], _, h => by
  have h' : ([] : En) = _ := Option.some.inj h
  subst h'
  exact ⟨rfl, fun k s e => by simp at e⟩
 | j :: js, _, h => by
  unfold frAt at h
  obtain ⟨s, h1, h⟩ := bnd_eq h
  obtain ⟨r, h2, h⟩ := bnd_eq h
  cases h
  obtain ⟨a, b⟩ := frAt_get h2
  refine ⟨by rw [List.length_cons, List.length_cons, a], fun k s' e => ?_⟩
  cases k with
  | zero =>
   simp at e; subst e
   refine ⟨j, rfl, ?_⟩
   by_cases hj : j = i
   ·rw [if_pos hj] at h1; cases h1; exact .inl ⟨hj, rfl⟩
   ·rw [if_neg hj] at h1
    cases z : ρ[j]? with
    | none => rw [z] at h1; cases h1
    | some sl =>
     rw [z] at h1
     cases sl with
     | im d => exact .inr ⟨d, rfl, (Option.some.inj h1).symm⟩
     | _ => cases h1
  | succ k =>
   obtain ⟨j', x1, x2⟩ := b k s' (by simpa using e)
   exact ⟨j', by simpa using x1, x2⟩
theorem frAt_set {ρ : En} {i : Nat} {o : MO} {s : Sl} : ∀ js : List Nat, frAt (ρ.set i s) i o js = frAt ρ i o js
 | [] => rfl
 | j :: js => by
  unfold frAt
  rw [frAt_set js]
  by_cases hj : j = i
  ·rw [if_pos hj, if_pos hj]
  ·rw [if_neg hj, if_neg hj, List.getElem?_set_ne (Ne.symm hj)]
theorem nodup_at {js : List Nat} (h : js.Nodup) {k l i : Nat} (a : js[k]? = some i) (b : js[l]? = some i) : k = l := by
 obtain ⟨hk, ek⟩ := List.getElem?_eq_some_iff.mp a
 obtain ⟨hl, el⟩ := List.getElem?_eq_some_iff.mp b
 exact (List.getElem_inj h).mp (ek.trans el.symm)
theorem RS.blockB {K : PySem.W.Frag} {c : FC} {H0 H : Hp} {ρ : En} {σ : L2.St} {js : List Nat} {fr : En} {d : D} {x : V} {i : Nat} {b : Bool} {o : MO} {a : Addr} (R : RS K c H0 H ρ σ) (hi : ρ[i]? = some (.ow b o)) (ha : σ[i]? = some (some (.ref a))) (nd : js.Nodup) (hf : frAt ρ i o js = some fr) (rx : Rep K H0 d x) :
  RS K ⟨H0, H, [a]⟩ H0 H (.im d :: fr) (some x :: frv σ js) := by
 obtain ⟨l, g⟩ := frAt_get hf
 obtain ⟨a', y1, y2, y3, y4⟩ := R.ow i b o hi
 rw [ha] at y1; cases y1
 refine ⟨R.same, Same.refl _, fun b o e => .inl e, fun b o e _ => e, fun z hz e => ?_, ?_, fun k d' e => ?_, fun k b' o' e => ?_, fun k k' b1 b2 o1 o2 z e1 e2 e3 e4 => ?_⟩
 ·obtain ⟨u, hu⟩ := y4.some
  have hz' : z = a := by simpa using hz
  have e : H z = none := e
  rw [hz', hu] at e; cases e
 ·rw [List.length_cons, List.length_cons, l, frv, List.length_map]
 ·cases k with
  | zero => simp at e; subst e; exact ⟨x, rfl, rx⟩
  | succ k =>
   obtain ⟨j, x1, x2⟩ := g k _ (by simpa using e)
   rcases x2 with ⟨_, x3⟩ | ⟨d2, x2, x3⟩
   ·cases x3
   ·cases x3
    obtain ⟨v, w1, w2⟩ := R.im j d' x2
    refine ⟨v, ?_, w2⟩
    show (frv σ js)[k]? = some (some v)
    unfold frv
    rw [List.getElem?_map, x1]
    show some (σ[j]?).join = some (some v)
    rw [w1]; rfl
 ·cases k with
  | zero => simp at e
  | succ k =>
   obtain ⟨j, x1, x2⟩ := g k _ (by simpa using e)
   rcases x2 with ⟨hj, x3⟩ | ⟨d2, _, x3⟩
   ·cases x3
    subst hj
    refine ⟨a, ?_, y2, by rw [if_pos rfl]; exact List.mem_singleton.mpr rfl, y4⟩
    show (frv σ js)[k]? = some (some (.ref a))
    unfold frv
    rw [List.getElem?_map, x1]
    show some (σ[j]?).join = some (some (.ref a))
    rw [ha]; rfl
   ·cases x3
 ·cases k with
  | zero => simp at e1
  | succ k =>
   cases k' with
   | zero => simp at e2
   | succ k' =>
    obtain ⟨j, x1, x2⟩ := g k _ (by simpa using e1)
    obtain ⟨j', x1', x2'⟩ := g k' _ (by simpa using e2)
    rcases x2 with ⟨hj, _⟩ | ⟨_, _, x3⟩
    ·rcases x2' with ⟨hj', _⟩ | ⟨_, _, x3'⟩
     ·rw [hj] at x1; rw [hj'] at x1'
      rw [nodup_at nd x1 x1']
     ·cases x3'
    ·cases x3
theorem RS.unblock {K : PySem.W.Frag} {c : FC} {H0 H H2 Hh2 : Hp} {ρ ρz : En} {σ : L2.St} {js : List Nat} {x : V} {i q : Nat} {b : Bool} {o o' : MO} {a : Addr} (R : RS K c H0 H ρ σ) (hi : ρ[i]? = some (.ow b o)) (ha : σ[i]? = some (some (.ref a)))
  (R2 : RS K ⟨H0, H, [a]⟩ H2 Hh2 ρz (some x :: frv σ js)) (hq : owT ρz[q + 1]? = some o') : RS K c H2 Hh2 (ρ.set i (.ow b o')) σ := by
 obtain ⟨a', _, _, z3, z4⟩ := R2.ow (q + 1) true o' (owT_eq hq)
 rw [if_pos rfl] at z3
 have e : a' = a := by simpa using z3
 subst e
 exact R.lent hi ha R2.init R2.same (fun y u e n => R2.keep y u e (by simpa using n)) R2.fresh z4
theorem lcB_of {K : PySem.W.Frag} {c : FC} {H1 Hh : Hp} {ρ : En} {σ : L2.St} {js : List Nat} {i q : Nat} {b : Bool} {o o' : MO} {T : FT} {F : FE} {xs out : List D} {J : It} {Qf : List V -> Hp -> Prop} (R : RS K c H1 Hh ρ σ) (hi : ρ[i]? = some (.ow b o)) (nd : js.Nodup) (hc : cGoB T F ρ i js q o xs = some (out, o')) (hz : xs.length <= sizeLine) (hy : Yields K J H1 xs)
  (qf : ∀ ys H0 H, Same H1 H0 -> RS K c H0 H (ρ.set i (.ow b o')) σ -> Reps K H0 out ys -> Qf ys H) : LcW js (tTt K T) (tE K F) σ Qf J Hh := by
 have il : i < ρ.length := (List.getElem?_eq_some_iff.mp hi).1
 obtain ⟨a, ha, _⟩ := R.ow i b o hi
 have at' : ∀ o, (ρ.set i (.ow b o))[i]? = some (.ow b o) := fun o => List.getElem?_set_self il
 have e0 : ρ.set i (.ow b o) = ρ := by
  obtain ⟨_, e⟩ := List.getElem?_eq_some_iff.mp hi
  rw [<- e]; exact List.set_getElem_self il
 refine ⟨fun n m ys H => m = xs.length - n /\ n <= xs.length /\ ∃ H0 on, Same H1 H0 /\ RS K c H0 H (ρ.set i (.ow b on)) σ /\ ∃ pre rest, Reps K H0 pre ys /\ pre.length <= n /\ cGoB T F ρ i js q on (xs.drop n) = some (rest, o') /\ pre ++ rest = out,
  ⟨xs.length, by simp, Nat.zero_le _, H1, o, Same.refl _, by rw [e0]; exact R, [], out, Reps.nil_, Nat.zero_le _, by simpa using hc, rfl⟩, ?_⟩
 rintro n m ys H ⟨rfl, hn, H0, on, s0, R0, pre, rest, rp, lp, hg, e⟩
 obtain ⟨y1, y2⟩ := hy H0 H n s0 R0.same
 by_cases hlt : n < xs.length
 ·have hd : xs[n]? = some xs[n] := by simp [hlt]
  obtain ⟨go, yl⟩ := y1 _ hd
  refine .inr ⟨go, by rw [<- rp.length]; omega, fun x H' hx => ?_⟩
  obtain ⟨rfl, rx⟩ := yl x H' hx
  rw [drop_of hd, cGoB_cons] at hg
  obtain ⟨fr, g0, hg⟩ := bnd_eq hg
  obtain ⟨⟨bb, ρb⟩, g1, hg⟩ := bnd_eq hg
  dsimp only at hg
  have Rb := R0.blockB (at' on) ha nd (by rw [frAt_set]; exact g0) rx
  refine ⟨⟨H0, H', [a]⟩, H0, _, bb, ρb, Rb, g1, fun H2 Hh2 s2 R2 => ?_⟩
  cases bb with
  | false =>
   rw [if_neg Bool.false_ne_true] at hg ⊢
   obtain ⟨o2, g4, hg⟩ := bnd_eq hg
   have R3 := R0.unblock (at' on) ha R2 g4
   rw [List.set_set] at R3
   exact ⟨xs.length - (n + 1), by omega, rfl, hlt, H2, o2, s0.trans s2, R3, pre, rest, Reps.mono s2 _ rp, by omega, hg, e⟩
  | true =>
   rw [if_pos rfl] at hg ⊢
   obtain ⟨⟨z, ρz⟩, g2, hg⟩ := bnd_eq hg
   obtain ⟨o2, g4, hg⟩ := bnd_eq hg
   obtain ⟨⟨t, ot⟩, g3, hg⟩ := bnd_eq hg
   dsimp only at hg
   have hg' : some (z :: t, ot) = some (rest, o') := hg
   cases hg'
   refine ⟨⟨H0, H', [a]⟩, H2, ρb, z, ρz, R2, g2, fun v H3 Hh3 s3 R3 r3 => ?_⟩
   have R4 := R0.unblock (at' on) ha R3 g4
   rw [List.set_set] at R4
   refine ⟨xs.length - (n + 1), by omega, rfl, hlt, H3, o2, s0.trans (s2.trans s3), R4, pre ++ [z], t, (Reps.mono (s2.trans s3) _ rp).app (Reps.one r3), ?_, g3, ?_⟩
   ·rw [List.length_append, List.length_singleton]; omega
   ·rw [List.append_assoc]; exact e
 ·have ei : n = xs.length := by omega
  have hn : xs.drop n = [] := List.drop_eq_nil_of_le (by omega)
  rw [hn, cGoB_nil] at hg
  have hg' : some (([] : List D), on) = some (rest, o') := hg
  cases hg'
  rw [List.append_nil] at e
  subst e
  exact .inl ⟨y2 (by omega), by rw [<- rp.length]; omega, qf ys H0 H s0 R0 rp⟩
theorem lcB_inv {js : List Nat} {i q : Nat} {T : FT} {F : FE} {xs : List D} {ρ ρ' : En} {d : D} (h : lcB js i q T F xs ρ = some (d, ρ')) : ∃ b o ys o', ρ[i]? = some (.ow b o) /\ cGoB T F ρ i js q o xs = some (ys, o') /\ xs.length <= sizeLine /\ js.Nodup /\ d = .lst ys /\ ρ' = ρ.set i (.ow b o') := by
 unfold lcB at h
 obtain ⟨⟨b, o⟩, h1, h⟩ := bnd_eq h
 obtain ⟨⟨ys, o'⟩, h2, h⟩ := bnd_eq h
 obtain ⟨⟨l1, l2, l3⟩, h⟩ := ifs h
 cases h
 exact ⟨b, o, ys, o', owO_eq h1, h2, l1, l3, rfl, rfl⟩
section
variable {X : Cx} {scope sc : Scope} {x : Str} {frees : List Str} {js : List Nat} {px pos p pos' : Pos} {elt iter a : Expr} {ifs : List Expr} {I F : FE} {T : FT}
theorem xlrB1 (i q : Nat) (hm : X.mg "range" = none) (hc : X.calm = true) (hsc : X.env.scope = sc) (B : ScB X.N sc scope x frees js) (ha : XE X a F) (ht : ∀ s H C fp, XTs (cxB X (x :: frees) scope s H C fp) ifs T) (he : ∀ s H C fp, XE (cxB X (x :: frees) scope s H C fp) elt I)
  (hgl : Gl X "range" := by rfl) (hst : starEach [a] X.env = [(false, eval a X.env)] := by rfl)
  (hs : ∀ v, foldedSetIterable (.Call (.Name "range" p) [a] [] pos') X.env v = pure v := by intro _; rfl) : XE X (.ListComp elt [⟨.Name x px, .Call (.Name "range" p) [a] [] pos', ifs, 0⟩] scope pos) (eLRB js i q (rng1 F) T I) :=
 PE.wk (pe_lc (tt := tTt X.K T) (te := tE X.K I) hc hsc B (pi_range1 hgl hm (pa_cons ha pa_nil hst) hst) ht he hs) fun σ H Q hh0_ => by
  obtain ⟨c, H0, ρ, d, ρ', R, f, qq⟩ := hh0_
  unfold eLRB at f
  obtain ⟨⟨xs, ρ0⟩, h1, f⟩ := bnd_eq f
  obtain ⟨b, o, ys, o', k1, k2, k3, k4, rfl, rfl⟩ := lcB_inv f
  unfold rng1 at h1
  obtain ⟨⟨d1, ρ1⟩, g1, h1⟩ := bnd_eq h1
  obtain ⟨j, g3, h1⟩ := bnd_eq h1
  dsimp only at g3 h1
  obtain ⟨hj, h1⟩ := Fx.ifs h1
  cases h1
  refine ⟨c, H0, ρ, d1, _, R, g1, fun v H1 Hh s1 R1 r1 => ?_⟩
  cases d1 with
  | int k =>
   have e : k = j := Option.some.inj g3
   subst e
   unfold Rep at r1; subst r1
   refine ⟨k, rfl, hj.1, hj.2, lcB_of R1 k1 k4 k2 k3 (yields_rng 0 k.toNat) fun vs H3 Hh3 s3 R3 r3 => fun p hp => ?_⟩
   have S := Step.alloc (o := .lst vs) R3.same hp
   refine qq _ _ _ (s1.trans (s3.trans S.s0)) (R3.after S) ?_
   unfold Rep
   exact ⟨p, vs, rfl, .inl (.inl upd_same), Reps.mono S.s0 _ r3⟩
  | _ => cases g3
end
end Fx
set_option maxRecDepth 100000
namespace Fx
open PySem PySem.Spec PyProof.Rows L2
section
variable {X : Cx} {pos : Pos}
end
section
variable {X : Cx} {scope sc : Scope} {x y : Str} {frees : List Str} {js : List Nat} {px py pos spos p pos' : Pos} {elt iter a : Expr} {ifs : List Expr} {I F : FE} {T : FT}
theorem xsetlcB (n : Nat) (hN : X.N.Nodup) (i q : Nat) (hc : X.calm = true) (hsc : X.env.scope = sc) (Bk : ScB X.N sc scope x frees js) (hi : XE X iter I)
  (ht : ∀ s H C fp, XTs (cxB X (x :: frees) scope s H C fp) ifs T) (he : ∀ s H C fp, XE (cxB X (x :: frees) scope s H C fp) elt F) (hi' : X.N[n]? = some y := by rfl) (hy : X.env.scope.names.lookup y = some .local := by rfl)
  (hsw : swapsWith (.ListComp elt [⟨.Name x px, iter, ifs, 0⟩] scope pos) (some (.Name y py)) spos.line X.env = pure true := by rfl)
  (hs : ∀ v, foldedSetIterable iter X.env v = pure v := by intro _; rfl) : XS X (.Assign [.Name y py] (.ListComp elt [⟨.Name x px, iter, ifs, 0⟩] scope pos) spos) (sSet n (eLCB js i q I T F)) :=
 PS.wk (ps_setLC (tt := tTt X.K T) (te := tE X.K F) hN hi' hy hc hsc Bk (pi_sq hi) ht he hsw hs) fun Dn σ H hh0_ => by
  obtain ⟨c, H0, ρ, r, R, f, qq⟩ := hh0_
  unfold sSet at f
  obtain ⟨⟨d, ρ1⟩, h1, f⟩ := bnd_eq f
  have f' : some (Res.nx (ρ1.set n (.im d))) = some r := f
  cases f'
  unfold eLCB at h1
  obtain ⟨⟨z, ρ2⟩, h0, h1⟩ := bnd_eq h1
  obtain ⟨xs, h2, h1⟩ := bnd_eq h1
  obtain ⟨b, o, ys, o', k1, k2, k3, k4, rfl, rfl⟩ := lcB_inv h1
  refine walk_of_data R h0 h2 fun J H1 Hh s1 R1 hy => ?_
  refine lcB_of R1 k1 k4 k2 k3 hy fun vs H2 Hh2 s2 R2 r2 => fun p hp => ?_
  have S := Step.alloc (o := .lst vs) R2.same hp
  refine qq _ _ _ (s1.trans (s2.trans S.s0)) ((R2.after S).set n ?_)
  unfold Rep
  exact ⟨p, vs, rfl, .inl (.inl upd_same), Reps.mono S.s0 _ r2⟩
end
end Fx
set_option maxRecDepth 100000
namespace Fx
open PySem PySem.Spec PyProof.Rows L2
noncomputable def KV1 (K : PySem.W.Frag) (d : D) (u : Value) : Prop := ∃ v, RelV v u /\ ∀ H, Rep K H d v
noncomputable def KVs (K : PySem.W.Frag) (ds : List D) (us : List Value) : Prop := ∃ vs, Vals vs us /\ ∀ H, Reps K H ds vs
section
variable {K : PySem.W.Frag}
theorem k1_non : KV1 K .non .none := ⟨.non, rfl, fun H => by unfold Rep; rfl⟩
theorem k1_int {i : Int} {t : Tok} : KV1 K (.int i) (.int i t) := ⟨.int i, ⟨t, rfl⟩, fun H => rep_int H i⟩
theorem kvs_nil : KVs K [] [] := ⟨[], .nil, fun H => Reps.nil_⟩
theorem kvs_cons {d : D} {ds : List D} {u : Value} {us : List Value} (a : KV1 K d u) (b : KVs K ds us) : KVs K (d :: ds) (u :: us) := by
 obtain ⟨v, r, p⟩ := a
 obtain ⟨vs, rs, ps⟩ := b
 exact ⟨v :: vs, .cons r rs, fun H => Reps.cons (p H) (ps H)⟩
theorem k1_tup {a : Addr} {us : List Value} {n : Nat} {sl : Array (Option Value)} {ds : List D} (l : K.lookup a = some ⟨.type "tuple", none, .seq us.toArray n, sl⟩) (hz : us.length ≤ 1000) (h : KVs K ds us) : KV1 K (.tup ds) (.ref a) := by
 obtain ⟨vs, rs, ps⟩ := h
 refine ⟨.ref a, rfl, fun H => ?_⟩
 unfold Rep
 refine ⟨a, vs, rfl, .inr ⟨_, us.toArray, n, l, rfl, rfl, rfl, ?_, ?_⟩, ps H⟩
 ·rw [List.size_toArray]; exact Nat.le_of_lt (small1000 hz)
 ·exact rs
end
theorem strs_inv : ∀ {xs : List D} {ss : List Str}, txts xs = some ss -> xs = ss.map .str
 | [], ss, h => by cases h; rfl
 | .str x :: r, ss, h => by
  rw [strs_cons] at h
  obtain ⟨t, e, f⟩ := bnd_eq h
  cases f
  rw [strs_inv e]; rfl
 | .non :: _, _, h => by cases h
 | .bl _ :: _, _, h => by cases h
 | .int _ :: _, _, h => by cases h
 | .tup _ :: _, _, h => by cases h
 | .lst _ :: _, _, h => by cases h
theorem reps_strs {K : PySem.W.Frag} {H : Hp} : ∀ ss : List Str, Reps K H (ss.map D.str) (ss.map V.str)
 | [] => Reps.nil_
 | x :: r => Reps.cons (rep_str H x) (reps_strs r)
theorem reps_strs_inv {K : PySem.W.Frag} {H : Hp} : ∀ {ss : List Str} {vs : List V}, Reps K H (ss.map D.str) vs -> vs = ss.map V.str
 | [], vs, h => by rw [List.map_nil] at h; unfold Reps at h; exact h
 | x :: r, vs, h => by
  rw [List.map_cons] at h
  unfold Reps at h
  obtain ⟨v, t, rfl, a, b⟩ := h
  unfold Rep at a
  rw [a, reps_strs_inv b]; rfl
theorem strsAre_of : ∀ {ss : List Str} {us : List Value}, Vals (ss.map V.str) us -> StrsAre us ss
 | [], us, h => by rw [List.map_nil] at h; cases h; exact .nil
 | x :: r, us, h => by
  rw [List.map_cons] at h
  cases h with
  | cons a b => obtain ⟨t, rfl⟩ := a; exact .cons x t (strsAre_of b)
theorem vals_of_strs : ∀ {us : List Value} {ss : List Str}, StrsAre us ss -> Vals (ss.map V.str) us
 | _, _, .nil => .nil
 | _, _, .cons x t h => .cons ⟨t, rfl⟩ (vals_of_strs h)
section
variable {X : Cx}
end
inductive PV (K : PySem.W.Frag) (H : Hp) : List V -> List (Key × V) -> Prop
 | nil : PV K H [] []
 | cons {a : Addr} {k : Str} {v : V} {vs : List V} {kvs : List (Key × V)} (p : SqT K H a [.str k, v]) (r : PV K H vs kvs) : PV K H (.ref a :: vs) ((.inr k, v) :: kvs)
section
variable {X : Cx}
end
section
variable {X : Cx}
end
section
variable {X : Cx} {scope sc : Scope} {x y : Str} {frees : List Str} {js : List Nat} {px py spos pos p pos' : Pos} {elt a : Expr} {ifs : List Expr} {F I : FE} {T : FT}
end
end Fx
set_option maxRecDepth 100000
namespace Fx
open PySem PySem.Spec PyProof.Rows L2
noncomputable def setO (P : Program) (w : World) (a : Addr) (ss : List Str) : HO := .ext fun h => SetS P w (byT w) h a ss
theorem setO_ok {P : Program} {w : World} {H : Hp} {h : Heap} {a : Addr} {ss : List Str} (q : SetS P w (byT w) h a ss) : ObjOk P w H h a (setO P w a ss) := by
 refine ⟨q, ?_, fun h1 h2 q1 k => ?_⟩
 ·obtain ⟨o, es, ep, t, ho, _⟩ := q
  exact ⟨o, ho⟩
 ·obtain ⟨o, es, ep, t, ho, r⟩ := q1
  exact ⟨o, es, ep, t, k _ ho, r⟩
theorem Inv.drawn {X : Cx} {pins : List (Addr × Obj)} {σ : List (Option V)} {H : Hp} {s : Shared} (dr : Drawn) (I : Inv X pins σ H s) : Inv X pins σ H { s with drawn := dr } :=
 ⟨I.ok, I.os, I.bare, I.base, I.loc, I.cell, I.free, I.freeC, I.pin, I.hok, I.len⟩
theorem Step.side {H0 H : Hp} {p : Addr} {o : HO} (s : Same H0 H) (hp : H p = none) : Step H0 H H0 (upd H p o) := by
 refine ⟨Same.refl _, fun b u e => by rw [upd_ne (ne_of_none e hp)]; exact e, fun b u e => ?_, fun b u e => .inl e⟩
 have e' := s _ _ e
 rw [upd_ne (ne_of_none e' hp)]; exact e'
section
variable {X : Cx}
theorem sq_of {pins : List (Addr × Obj)} {σ : L2.St} {H : Hp} {s : Shared} {p : Addr} {xs : List V} (I : Inv X pins σ H s) (hq : SqL X.K H p xs \/ SqT X.K H p xs) : ∃ (T : Bool) (its : List Value), Vals xs its /\ SqAt T s.heap p its.toArray := by
 rcases hq with hq | hq
 ·obtain ⟨its, rv, pl, _⟩ := I.list hq
  exact ⟨false, its, rv, pl.isList⟩
 ·obtain ⟨its, rv, tp, _⟩ := I.tuple hq
  exact ⟨true, its, rv, tp⟩
theorem call_set_S (hc : X.calm = true) : CallR X (.type "set") (fun xs H Q => ∃ p ss, xs = [.ref p] ∧ (SqL X.K H p (ss.map V.str) ∨ SqT X.K H p (ss.map V.str)) ∧ ss.length < 1000 ∧ ∀ l, H l = none → Q (.ref l) (upd H l (setO X.prog X.w l (addAll [] ss)))) := by
 intro pins s σ H xs us Q I r h
 obtain ⟨p, ss, rfl, hq, hz, q⟩ := h
 obtain ⟨u, rfl, ru⟩ := vals1 r
 cases ru
 obtain ⟨T, its, rv, sq⟩ := sq_of I hq
 refine call_setS (I.ok.hd hc) sq (strsAre_of rv) (by unfold scanBound; omega) fun h' tk kp hS => ?_
 exact ⟨.ref s.heap.objs.size, _, I.laid (o := setO X.prog X.w s.heap.objs.size (addAll [] ss)) kp (Nat.le_refl _) (setO_ok hS), rfl, q _ (I.hok.fresh (Nat.le_refl _))⟩
theorem call_sorted_S (hc : X.calm = true) : CallR X (.builtin "sorted") (fun xs H Q => ∃ p ss, xs = [.ref p] ∧ H p = some (setO X.prog X.w p ss) ∧ ss.length < 64 ∧ ∀ l, H l = none → Q (.ref l) (upd H l (.lst ((sortS ss).map V.str)))) := by
 intro pins s σ H xs us Q I r h
 obtain ⟨p, ss, rfl, hq, h64, q⟩ := h
 obtain ⟨u, rfl, ru⟩ := vals1 r
 cases ru
 have hS : SetS X.prog X.w (byT X.w) s.heap p ss := (I.hok p _ hq).1
 refine sorted_setS (I.ok.hd hc) hS h64 fun h1 h2 tk dr out e k1 k2 at1 so => ?_
 have I1 : Inv X pins σ H { s with heap := h1, toks := tk, drawn := dr } := Inv.drawn dr (I.kept (t' := tk) k1)
 have hz : ((sortS ss).map V.str).length <= sizeLine := by
  rw [List.length_map, (sortS_perm ss).length_eq, sizeLine_eq]; omega
 refine ⟨.ref h1.objs.size, _, I1.laid (t' := tk) (o := .lst ((sortS ss).map V.str)) k2 (Nat.le_refl _) ⟨hz, out.toList, e, vals_of_strs so, ?_⟩, rfl, q _ (I1.hok.fresh (Nat.le_refl _))⟩
 rw [at1]
theorem addAll_64 {ss : List Str} (h : ss.length < 64) : (addAll [] ss).length < 64 := by
 have := addAll_len ss []
 rw [List.length_nil] at this; omega
theorem xsortset {a : Expr} {F : FE} {p p2 dpos pos : Pos} (hm : X.mg "set" = none) (hm2 : X.mg "sorted" = none) (he : XE X a F) (hc : X.calm = true := by rfl) (hg : Gl X "set" := by rfl) (hg2 : Gl X "sorted" := by rfl)
  (h1 : starEach [a] X.env = [(false, eval a X.env)] := by rfl) (h2 : starEach [.Call (.Name "set" p) [a] [] dpos] X.env = [(false, eval (.Call (.Name "set" p) [a] [] dpos) X.env)] := by rfl) :
  XE X (.Call (.Name "sorted" p2) [.Call (.Name "set" p) [a] [] dpos] [] pos) (eF bSortSet (aC F aN)) :=
 PE.wk (pe_callB (call_sorted_S hc) hg2 hm2 PyProof.Rows.boot_sorted (pa_cons (pe_callTy (call_set_S hc) hg hm PyProof.Rows.boot_set (xaC he xaN h1) (by decide) (by decide) h1 rfl) pa_nil h2) (by decide) (by decide) h2 rfl) fun σ H Q hh0_ => by
  obtain ⟨c, H0, ρ, d, ρ', R, f, q⟩ := hh0_
  unfold eF at f
  obtain ⟨⟨ds, ρ1⟩, g1, f⟩ := bnd_eq f
  obtain ⟨d', g2, f⟩ := bnd_eq f
  have f' : some (d', ρ1) = some (d, ρ') := f
  cases f'
  refine ⟨c, H0, ρ, ds, _, R, g1, fun vs H1 Hh s1 R1 r1 => ?_⟩
  have main : ∀ (ad : Addr) (ss : List Str), vs = [.ref ad] -> ss.length < 64 -> d = .lst ((sortS (addAll [] ss)).map .str) -> (SqL X.K Hh ad (ss.map V.str) \/ SqT X.K Hh ad (ss.map V.str)) ->
    ∃ p ss, vs = [.ref p] /\ (SqL X.K Hh p (ss.map V.str) \/ SqT X.K Hh p (ss.map V.str)) /\ ss.length < 1000 /\ ∀ l, Hh l = none -> ∃ p ss', [V.ref l] = [.ref p] /\ upd Hh l (setO X.prog X.w l (addAll [] ss)) p = some (setO X.prog X.w p ss') /\ ss'.length < 64 /\
     ∀ l2, upd Hh l (setO X.prog X.w l (addAll [] ss)) l2 = none -> Q (.ref l2) (upd (upd Hh l (setO X.prog X.w l (addAll [] ss))) l2 (.lst ((sortS ss').map V.str))) := fun ad ss ev l64 ed sq => by
   refine ⟨ad, ss, ev, sq, by omega, fun l hl => ⟨l, addAll [] ss, rfl, upd_same, addAll_64 l64, fun l2 hl2 => ?_⟩⟩
   have S1 := Step.side (o := setO X.prog X.w l (addAll [] ss)) R1.same hl
   have S2 := Step.alloc (o := .lst ((sortS (addAll [] ss)).map V.str)) S1.s' hl2
   refine q _ _ _ (s1.trans (S1.trans S2).s0) (R1.after (S1.trans S2)) ?_
   rw [ed]
   unfold Rep
   exact ⟨l2, _, rfl, .inl (.inl upd_same), reps_strs _⟩
  have inv : ∀ {xs : List D}, sortSetL xs = some d -> ∃ ss : List Str, xs = ss.map .str /\ ss.length < 64 /\ d = .lst ((sortS (addAll [] ss)).map .str) := fun {xs} h => by
   unfold sortSetL at h
   obtain ⟨ss, e, f⟩ := bnd_eq h
   obtain ⟨l, rfl⟩ := ifs f
   exact ⟨ss, strs_inv e, l, rfl⟩
  have g2 : bSortSet ds = some d := g2
  unfold bSortSet at g2
  split at g2
  ·obtain ⟨ss, rfl, l64, ed⟩ := inv g2
   obtain ⟨v, rfl, rv⟩ := Reps.v1 r1
   unfold Rep at rv
   obtain ⟨ad, ws, rfl, sq, t⟩ := rv
   rw [reps_strs_inv t] at sq
   exact main ad ss rfl l64 ed (.inr (Same.seqT R1.same sq))
  ·obtain ⟨ss, rfl, l64, ed⟩ := inv g2
   obtain ⟨v, rfl, rv⟩ := Reps.v1 r1
   unfold Rep at rv
   obtain ⟨ad, ws, rfl, sq, t⟩ := rv
   rw [reps_strs_inv t] at sq
   exact main ad ss rfl l64 ed (.inl (Same.seq R1.same sq))
  ·cases g2
end
end Fx
set_option maxRecDepth 100000
namespace Fx
open PySem PySem.Spec PyProof.Rows L2
section
variable {X : Cx}
end
end Fx
set_option maxRecDepth 100000
namespace Fx
open PySem PySem.Spec PyProof.Rows L2
structure YE (X : Cx) (e : Expr) (F : FE) : Prop where
 go : XE X e F
structure YA (X : Cx) (es : List Expr) (F : FA) : Prop where
 go : XA X es F
structure YS (X : Cx) (st : Stmt) (F : FS) : Prop where
 go : XS X st F
structure YSs (X : Cx) (st : List Stmt) (F : FS) : Prop where
 go : XSs X st F
section
variable {X : Cx} {a b e : Expr} {es : List Expr} {F G : FE} {A : FA} {pos : Pos} {st : Stmt} {ss body : List Stmt} {B C : FS} {T : FT}
theorem ye (h : XE X e F) : YE X e F := ⟨h⟩
theorem yb {op : Operator} {f : D -> D -> Option D} (o : BinOk X op f) (ha : YE X a F) (hb : YE X b G) : YE X (.BinOp a op b pos) (e2 f F G) := ⟨xb o ha.go hb.go⟩
theorem yix (ha : YE X a F) (hb : YE X b G) (hs : PlainIx b := by intro _ _; rfl) : YE X (.Subscript a b pos) (e2 dIx2 F G) := ⟨xix2 ha.go hb.go hs⟩
theorem ylst (h : YA X es A) : YE X (.List es pos) (eLst A) := ⟨xlst h.go⟩
theorem ytup {x1} (h : YA X es A) : YE X (.Tuple es x1 pos) (eTup A) := ⟨xtup h.go⟩
theorem yaN : YA X [] aN := ⟨xaN⟩
theorem yaC (ha : YE X e F) (hr : YA X es A) (hs : starEach (e :: es) X.env = (false, eval e X.env) :: starEach es X.env := by rfl) : YA X (e :: es) (aC F A) := ⟨xaC ha.go hr.go hs⟩
theorem yx (h : XS X st B) : YS X st B := ⟨h⟩
theorem ysN : YSs X [] sN := ⟨xsN⟩
theorem ys1 (h : YS X st B) : YSs X [st] B := ⟨xs1 h.go⟩
theorem ysC (h : YS X st B) (k : YSs X ss C) : YSs X (st :: ss) (sSeq B C) := ⟨xsC h.go k.go⟩
theorem yset (i : Nat) {x : Str} {pos' : Pos} (hN : X.N.Nodup) (he : YE X e F) (hi : X.N[i]? = some x := by rfl) (hx : Loc X.env.scope x := by first | exact Or.inl rfl | exact Or.inr rfl) (hs : swapsWith e (some (.Name x pos')) pos.line X.env = pure false := by rfl)
  (hf : X.fn x = true \/ X.env.scope.names.lookup x = some .local := by first | exact .inl rfl | exact .inr rfl) : YS X (.Assign [.Name x pos'] e pos) (sSet i F) := ⟨xset i hN he.go hi hx hs hf⟩
theorem yret (he : YE X e F) : YS X (.Return (some e) pos) (sRet F) := ⟨xret he.go⟩
theorem yif (hc : XT X e T) (ha : YSs X ss B) (hb : YSs X body C) : YS X (.If e ss body pos) (sIf T B C) := ⟨xsif hc ha.go hb.go⟩
theorem yfor {g : GD} (hg : XG X a g) (hi : YE X b F) (hb : YSs X body B) (hp : PassesOwn (model X.prog X.w) X.A X.env X.xe := by exact PassesOwn.never) (hc : X.calm = true := by rfl) (hs : ∀ x, foldedSetIterable b X.env x = pure x := by intro _; rfl) :
  YS X (.For a b body [] pos) (sFor g F B) := ⟨xfor hg hi.go hb.go hp hc hs⟩
theorem yforR1 {g : GD} {p pos' : Pos} (hm : X.mg "range" = none) (hg : XG X b g) (ha : XE X a F) (hb : YSs X body B) (hgl : Gl X "range" := by rfl) (hp : PassesOwn (model X.prog X.w) X.A X.env X.xe := by exact PassesOwn.never) (hc : X.calm = true := by rfl)
  (hst : starEach [a] X.env = [(false, eval a X.env)] := by rfl) (hs : ∀ x, foldedSetIterable (.Call (.Name "range" p) [a] [] pos') X.env x = pure x := by intro _; rfl) : YS X (.For b (.Call (.Name "range" p) [a] [] pos') body [] pos) (sForR g (rng1 F) B) := ⟨xforR1 hm hg ha hb.go hgl hp hc hst hs⟩
theorem ywhile {fuel : En -> Nat} (hc : XT X e T) (hb : YSs X body B) (hp : PassesOwn (model X.prog X.w) X.A X.env X.xe := by exact PassesOwn.never) : YS X (.While e body [] pos) (sWhile fuel T B) := ⟨xwhile hc hb.go hp⟩
end
end Fx
set_option maxRecDepth 100000
namespace Fx
open PySem PySem.Spec PyProof.Rows L2
section
variable {K : PySem.W.Frag} {c : FC} {H0 H H' : Hp} {ρ : En} {σ : L2.St} {l : Addr} {o : HO}
theorem RS.holdF (R : RS K c H0 H ρ σ) (hl : H l = none) : l ∉ c.Ap /\ c.He l = none /\ H0 l = none := by
 have n1 : l ∉ c.Ap := fun m => R.apt l m hl
 refine ⟨n1, ?_, ?_⟩
 ·cases z : c.He l with
  | none => rfl
  | some u => have := R.keep l u z n1; rw [hl] at this; cases this
 ·cases z : H0 l with
  | none => rfl
  | some u => have := R.same l u z; rw [hl] at this; cases this
theorem RS.hold (R : RS K c H0 H ρ σ) (hl : H l = none) : RS K ⟨c.Hi, upd c.He l o, c.Ap⟩ H0 (upd H l o) ρ σ := by
 obtain ⟨n1, n2, n3⟩ := R.holdF hl
 have ne_of : ∀ {b : Addr} {u : HO}, H b = some u -> b ≠ l := fun e z => by rw [z, hl] at e; cases e
 refine ⟨fun b u e => ?_, R.init, fun b u e => ?_, fun b u e n => ?_, fun a ha => ?_, R.len, R.im, fun i b o e => ?_, R.ne⟩
 ·have h := R.same b u e
  rw [upd_ne (ne_of h)]; exact h
 ·have h := R.same b u e
  rcases R.fresh b u e with q | q
  ·exact .inl q
  ·exact .inr (by show upd c.He l _ b = none; rw [upd_ne (ne_of h)]; exact q)
 ·by_cases z : b = l
  ·subst z
   have e : upd c.He b _ b = some u := e
   rw [upd_same] at e ⊢
   exact e
  ·have e : upd c.He l _ b = some u := e
   rw [upd_ne z] at e ⊢
   exact R.keep b u e n
 ·by_cases z : a = l
  ·subst z; exact absurd ha n1
  ·rw [upd_ne z]; exact R.apt a ha
 ·obtain ⟨a, e1, e2, e3, e4⟩ := R.ow i b o e
  obtain ⟨u, hu⟩ := e4.some
  refine ⟨a, e1, e2, ?_, e4.step (Same.refl _) fun u h => by rw [upd_ne (ne_of h)]; exact h⟩
  cases b with
  | true => exact e3
  | false =>
   have e3 : c.He a = none := e3
   show upd c.He l _ a = none
   rw [upd_ne (ne_of hu)]; exact e3
theorem RS.unhold (R : RS K ⟨c.Hi, upd c.He l o, c.Ap⟩ H0 H ρ σ) (n1 : l ∉ c.Ap) (n2 : c.He l = none) : RS K c H0 H ρ σ /\ H l = some o := by
 have hl : H l = some o := R.keep l o upd_same n1
 refine ⟨⟨R.same, R.init, fun b u e => ?_, fun b u e n => ?_, R.apt, R.len, R.im, fun i b o e => ?_, R.ne⟩, hl⟩
 ·rcases R.fresh b u e with q | q
  ·exact .inl q
  ·have q : upd c.He l _ b = none := q
   by_cases z : b = l
   ·subst z; rw [upd_same] at q; cases q
   ·rw [upd_ne z] at q; exact .inr q
 ·have z : b ≠ l := fun z => by rw [z, n2] at e; cases e
  exact R.keep b u (by show upd c.He l _ b = some u; rw [upd_ne z]; exact e) n
 ·obtain ⟨a, e1, e2, e3, e4⟩ := R.ow i b o e
  refine ⟨a, e1, e2, ?_, e4⟩
  cases b with
  | true => exact e3
  | false =>
   have e3 : upd c.He l _ a = none := e3
   by_cases z : a = l
   ·subst z; rw [upd_same] at e3; cases e3
   ·rw [upd_ne z] at e3; exact e3
end
section
variable {X : Cx}
theorem op_or_S : OpR X (binaryOp .BitOr) (fun x y H Q => ∃ p q ss ys, x = .ref p /\ y = .ref q /\ p ≠ q /\ H p = some (setO X.prog X.w p ss) /\ H q = some (setO X.prog X.w q ys) /\ ss.length + ys.length <= 60 /\ ∀ l, H l = none -> Q (.ref l) (upd H l (setO X.prog X.w l (addAll ss ys)))) := by
 intro pins s σ H x y v u Q I rx ry h
 obtain ⟨p, q, ss, ys, rfl, rfl, hne, hp, hq, hz, k⟩ := h
 cases rx
 cases ry
 refine or_S hne (I.hok p _ hp).1 (I.hok q _ hq).1 hz fun h' dr kp hS => ?_
 exact ⟨.ref s.heap.objs.size, _, Inv.drawn dr (I.laid (t' := s.toks) (o := setO X.prog X.w s.heap.objs.size (addAll ss ys)) kp (Nat.le_refl _) (setO_ok hS)), rfl, k _ (I.hok.fresh (Nat.le_refl _))⟩
theorem sqA_rep {K : PySem.W.Frag} {H0 H : Hp} {d : D} {v : V} {ss : List Str} (s : Same H0 H) (h : sqA d = some (ss.map .str)) (r : Rep K H0 d v) : ∃ ad, v = .ref ad /\ (SqL K H ad (ss.map V.str) \/ SqT K H ad (ss.map V.str)) := by
 unfold sqA at h
 split at h
 ·cases h
  unfold Rep at r
  obtain ⟨ad, ws, rfl, sq, t⟩ := r
  rw [reps_strs_inv t] at sq
  exact ⟨ad, rfl, .inr (Same.seqT s sq)⟩
 ·cases h
  unfold Rep at r
  obtain ⟨ad, ws, rfl, sq, t⟩ := r
  rw [reps_strs_inv t] at sq
  exact ⟨ad, rfl, .inl (Same.seq s sq)⟩
 ·cases h
theorem sortS_or (ss ys : List Str) : sortS (addAll (addAll [] ss) (addAll [] ys)) = sortS (addAll [] (ss ++ ys)) :=
 sortS_eq_of_perm ((List.perm_ext_iff_of_nodup (nodup_addAll _ _ (nodup_addAll _ _ List.nodup_nil)) (nodup_addAll _ _ List.nodup_nil)).mpr fun y => by
  rw [mem_addAll, mem_addAll, mem_addAll, mem_addAll, List.mem_append]; simp)
theorem xsortor {a b : Expr} {F G : FE} {p p' p2 dpos dpos' bpos pos : Pos} (hm : X.mg "set" = none) (hm2 : X.mg "sorted" = none) (ha : XE X a F) (hb : XE X b G) (hc : X.calm = true := by rfl) (hg : Gl X "set" := by rfl) (hg2 : Gl X "sorted" := by rfl)
  (h1 : starEach [a] X.env = [(false, eval a X.env)] := by rfl) (h1' : starEach [b] X.env = [(false, eval b X.env)] := by rfl)
  (h2 : starEach [.BinOp (.Call (.Name "set" p) [a] [] dpos) .BitOr (.Call (.Name "set" p') [b] [] dpos') bpos] X.env = [(false, eval (.BinOp (.Call (.Name "set" p) [a] [] dpos) .BitOr (.Call (.Name "set" p') [b] [] dpos') bpos) X.env)] := by rfl) :
  XE X (.Call (.Name "sorted" p2) [.BinOp (.Call (.Name "set" p) [a] [] dpos) .BitOr (.Call (.Name "set" p') [b] [] dpos') bpos] [] pos) (eF bSortOr (aC F (aC G aN))) :=
 PE.wk (pe_callB (call_sorted_S hc) hg2 hm2 PyProof.Rows.boot_sorted (pa_cons (pe_op op_or_S (pe_callTy (call_set_S hc) hg hm PyProof.Rows.boot_set (xaC ha xaN h1) (by decide) (by decide) h1 rfl) (pe_callTy (call_set_S hc) hg hm PyProof.Rows.boot_set (xaC hb xaN h1') (by decide) (by decide) h1' rfl)) pa_nil h2) (by decide) (by decide) h2 rfl) fun σ H Q hh0_ => by
  obtain ⟨c, H0, ρ, d, ρ', R, f, q⟩ := hh0_
  unfold eF at f
  obtain ⟨⟨ds, ρ1⟩, g1, f⟩ := bnd_eq f
  obtain ⟨d', g2, f⟩ := bnd_eq f
  have f' : some (d', ρ1) = some (d, ρ') := f
  cases f'
  unfold aC at g1
  obtain ⟨⟨d1, ρa⟩, e1, g1⟩ := bnd_eq g1
  obtain ⟨⟨dr, ρr⟩, g1', g1⟩ := bnd_eq g1
  obtain ⟨⟨d2, ρb⟩, e2, g1'⟩ := bnd_eq g1'
  obtain ⟨⟨dn, ρn⟩, g1'', g1'⟩ := bnd_eq g1'
  unfold aN at g1''
  cases g1''
  cases g1'
  cases g1
  have e2 : G ρa = some (d2, ρb) := e2
  have one : ∀ {F : FE} {ρ ρ' : En} {d : D}, F ρ = some (d, ρ') -> aC F aN ρ = some ([d], ρ') := fun {F ρ ρ' d} e => by unfold aC; rw [e]; rfl
  have g2 : bSortOr [d1, d2] = some d := g2
  rw [bSortOr_eq] at g2
  obtain ⟨xs, x1, g2⟩ := bnd_eq g2
  obtain ⟨ys, y1, g2⟩ := bnd_eq g2
  have l60 : xs.length + ys.length <= 60 := Classical.byContradiction fun z => by rw [if_neg z] at g2; cases g2
  rw [if_pos l60] at g2
  unfold sortSetL at g2
  obtain ⟨zs, ez, g2⟩ := bnd_eq g2
  obtain ⟨z64, ed⟩ := ifs g2
  have ea := strs_inv ez
  obtain ⟨l1, l2, rfl, ex, ey⟩ := List.append_eq_map_iff.mp ea
  subst ex; subst ey
  rw [List.length_map, List.length_map] at l60
  have k1 := addAll_len l1 []
  have k2 := addAll_len l2 []
  have k3 := addAll_len (addAll [] l2) (addAll [] l1)
  rw [List.length_nil] at k1 k2
  refine ⟨c, H0, ρ, [d1], ρa, R, one e1, fun vs H1 Hh s1 R1 r1 => ?_⟩
  obtain ⟨v, rfl, rv⟩ := Reps.v1 r1
  obtain ⟨ad, rfl, sq⟩ := sqA_rep R1.same x1 rv
  refine ⟨ad, l1, rfl, sq, by omega, fun l hl => ?_⟩
  obtain ⟨n1, n2, n3⟩ := R1.holdF hl
  refine ⟨⟨c.Hi, upd c.He l (setO X.prog X.w l (addAll [] l1)), c.Ap⟩, H1, ρa, [d2], ρb, R1.hold hl, one e2, fun vs2 H2 Hh2 s2 R2 r2 => ?_⟩
  obtain ⟨v2, rfl, rv2⟩ := Reps.v1 r2
  obtain ⟨ad2, rfl, sq2⟩ := sqA_rep R2.same y1 rv2
  obtain ⟨R2', hl2⟩ := R2.unhold n1 n2
  refine ⟨ad2, l2, rfl, sq2, by omega, fun m hm => ?_⟩
  have lm : l ≠ m := fun z => by rw [<- z, hl2] at hm; cases hm
  refine ⟨l, m, addAll [] l1, addAll [] l2, rfl, rfl, lm, by rw [upd_ne lm]; exact hl2, upd_same, by omega, fun r hr => ?_⟩
  refine ⟨r, _, rfl, upd_same, by omega, fun t ht => ?_⟩
  have S1 := Step.side (o := setO X.prog X.w m (addAll [] l2)) R2'.same hm
  have S2 := Step.side (o := setO X.prog X.w r (addAll (addAll [] l1) (addAll [] l2))) S1.s' hr
  have S3 := Step.alloc (o := .lst ((sortS (addAll (addAll [] l1) (addAll [] l2))).map V.str)) S2.s' ht
  refine q _ _ _ (s1.trans (s2.trans ((S1.trans S2).trans S3).s0)) (R2'.after ((S1.trans S2).trans S3)) ?_
  rw [<- ed, <- sortS_or]
  unfold Rep
  exact ⟨t, _, rfl, .inl (.inl upd_same), reps_strs _⟩
end
end Fx
set_option maxRecDepth 100000
namespace Fx
open PySem PySem.Spec PyProof.Rows L2
noncomputable def spC (K : PySem.W.Frag) (g : MO -> List D -> Option (D × MO)) : Sp := fun vs H Q _ => ∃ Hi a o v0 d0 d o', vs = [v0, .ref a] /\ Same Hi H /\ Hi a = none /\ OwOk K Hi H a o /\ Rep K Hi d0 v0 /\ g o [d0] = some (d, o') /\
 ∀ v Hi' H', Same Hi Hi' -> Same Hi' H' -> (∀ b u, H b = some u -> b ≠ a -> H' b = some u) -> (∀ b u, Hi' b = some u -> Hi b = some u \/ H b = none) -> OwOk K Hi' H' a o' -> Rep K Hi' d v -> Q v H'
structure DefC (P : Program) (w : World) (K : PySem.W.Frag) (mg : Str -> Option Value) (base : Heap) (k : Nat) (x : Str) (g : MO -> List D -> Option (D × MO)) : Prop where
 ex : ∃ f fd ps, FnOk P w K mg base CX0 k f fd ps (spC K g) /\ Binds K fd ps [] /\ PySem.W.keepIn K (.ref f) = true /\ mg x = some (.ref f)
section
variable {X : Cx}
theorem xFc (i : Nat) {k : Nat} {x y : Str} {g : MO -> List D -> Option (D × MO)} {p py pos : Pos} {e : Expr} {F : FE} (G : DefC X.prog X.w X.K X.mg X.base k x g) (hr : Room k X.A) (ha : XE X e F) (hN : X.N[i]? = some y := by rfl) (hg : Gl X x := by rfl)
  (hv : Vis X.env.scope y := by first | exact Or.inl rfl | exact Or.inr (Or.inl rfl) | exact Or.inr (Or.inr rfl)) (hdb : (x == ("__debug__" : Str)) = false := by decide) (hd : (y == ("__debug__" : Str)) = false := by decide) (hcd : (y == ("__classdict__" : Str)) = false := by decide)
  (hs : starEach [e, .Name y py] X.env = (false, eval e X.env) :: starEach [.Name y py] X.env := by rfl) (hpl : (backTo pos (starEach [.Name y py] X.env)).any (·.1) = false := by rfl) : XE X (.Call (.Name x p) [e, .Name y py] [] pos) (eFb i g (aC F aN)) := by
 obtain ⟨f, fd, ps, Fo, hb, hk, hm⟩ := G.ex
 refine PE.wk (pe_call Fo hr hg hm hk hb .nil pass0 (pa_cons ha (pa_cons (pe_var hN hv hd hcd) pa_nil rfl) hs) hdb hs hpl) fun σ H Q hh0_ => ?_
 obtain ⟨c, H0, ρ, d, ρ', R, z, q⟩ := hh0_
 unfold eFb at z
 obtain ⟨⟨b0, o0⟩, h0, z⟩ := bnd_eq z
 obtain ⟨⟨ds, ρ1⟩, h1, z⟩ := bnd_eq z
 obtain ⟨⟨b, o⟩, h2, z⟩ := bnd_eq z
 obtain ⟨⟨d', o'⟩, h3, z⟩ := bnd_eq z
 have z' : some (d', ρ1.set i (.ow b o')) = some (d, ρ') := z
 cases z'
 unfold aC at h1
 obtain ⟨⟨d0, ρa⟩, e1, h1⟩ := bnd_eq h1
 obtain ⟨⟨dn, ρn⟩, g1, h1⟩ := bnd_eq h1
 unfold aN at g1
 cases g1
 cases h1
 have e1 : F ρ = some (d0, ρa) := e1
 refine ⟨c, H0, ρ, d0, ρa, R, e1, fun v0 H1 Hh s1 R1 r1 => ?_⟩
 have y2 := owO_eq h2
 obtain ⟨a, f1, f2, f3, w'⟩ := R1.ow i b o y2
 refine ⟨_, f1, ?_⟩
 refine ⟨H1, a, o, v0, d0, d, o', rfl, R1.same, f2, w', r1, h3, fun v Hi' H' s2 s3 kp fr ok rv => ?_⟩
 exact q v Hi' H' (s1.trans s2) (R1.lent y2 f1 s2 s3 kp fr ok) rv
end
theorem RS.startC {K : PySem.W.Frag} {Hi H : Hp} {d0 : D} {v0 : V} {a : Addr} {o : MO} {m : Nat} (s : Same Hi H) (h0 : Hi a = none) (ok : OwOk K Hi H a o) (r : Rep K Hi d0 v0) :
  RS K ⟨Hi, H, [a]⟩ Hi H (.im d0 :: .ow true o :: List.replicate m .no) (some v0 :: some (.ref a) :: List.replicate m none) := by
 have no : ∀ (i : Nat) (u : Sl), (List.replicate m Sl.no)[i]? = some u -> u = .no := fun i u e => by
  rw [List.getElem?_replicate] at e
  split at e <;> cases e
  rfl
 refine ⟨s, Same.refl _, fun b o e => .inl e, fun b o e _ => e, fun b hb e => ?_, ?_, fun i d e => ?_, fun i b o' e => ?_, fun i j b b' o1 o2 x e1 e2 e3 e4 => ?_⟩
 ·obtain ⟨u, hu⟩ := ok.some
  have : b = a := by simpa using hb
  have e : H b = none := e
  rw [this, hu] at e; cases e
 ·simp
 ·match i with
  | 0 =>
   have e' : Sl.im d0 = Sl.im d := Option.some.inj e
   cases e'
   exact ⟨v0, rfl, r⟩
  | 1 => cases e
  | i + 2 => cases no i _ e
 ·match i with
  | 0 => cases e
  | 1 =>
   have e' : Sl.ow true o = Sl.ow b o' := Option.some.inj e
   cases e'
   exact ⟨a, rfl, h0, by rw [if_pos rfl]; exact List.mem_singleton.mpr rfl, ok⟩
  | i + 2 => cases no i _ e
 ·have only : ∀ (i : Nat) (b : Bool) (o2 : MO), (Sl.im d0 :: Sl.ow true o :: List.replicate m Sl.no)[i]? = some (.ow b o2) -> i = 1 := fun i b o2 e => by
   match i with
   | 0 => cases e
   | 1 => rfl
   | i + 2 => cases no i _ e
  rw [only i _ _ e1, only j _ _ e2]
theorem fnC_ok {P : Program} {w : World} {K : PySem.W.Frag} {mg : Str -> Option Value} {base : Heap} {x qual : Str} {st : Stmt} {f : Addr} {fd : FuncData} {N ps : List Str} {k m : Nat} {B : FS} (F : Fun K x qual st f fd) (S : FnScope N ps (defScope st)) (hn : ps.length = 2) (hN : N.length = 2 + m)
  (hb : ∀ (cdv : Value) (A : Around) (outer : List Env) (s : Shared) (H : Hp) (E : XK), Room k (A.deeper (envOfC qual (defScope st) s.heap.objs.size f cdv)) -> XSs (cxOf CX0 P w K mg base N qual (defScope st) f cdv A outer s H E).nox (defBody st) B) :
  FnOk P w K mg base CX0 (k + 1) f fd ps (spC K (fnC m B)) := by
 have fin : ∀ {Hi H H0' H' : Hp} {a : Addr} {o' : MO} {ρ' : En} {σ' : L2.St}, RS K ⟨Hi, H, [a]⟩ H0' H' ρ' σ' -> ρ'[1]? = some (.ow true o') -> Same Hi H0' /\ Same H0' H' /\ (∀ b u, H b = some u -> b ≠ a -> H' b = some u) /\ (∀ b u, H0' b = some u -> Hi b = some u \/ H b = none) /\ OwOk K H0' H' a o' :=
  fun {Hi H H0' H' a o' ρ' σ'} R e => by
   obtain ⟨a', _, _, z, ok⟩ := R.ow 1 true o' e
   rw [if_pos rfl] at z
   have za : a' = a := by simpa using z
   subst za
   exact ⟨R.init, R.same, fun b u h n => R.keep b u h (by simpa using n), R.fresh, ok⟩
 refine F.ok S (fun vs H Q E h => ?_) (fun cdv A outer s H vs Q E hr h => ?_)
 ·obtain ⟨Hi, a, o, v0, d0, d, o', rfl, _⟩ := h
  rw [hn]; rfl
 ·obtain ⟨Hi, a, o, v0, d0, d, o', rfl, hs, h0, ok, r, e, q⟩ := h
  obtain ⟨res, h1, h2⟩ := bnd_eq (show bnd (B (.im d0 :: .ow true o :: List.replicate m .no)) (fun r => retC r) = some (d, o') from e)
  have R := RS.startC (m := m) hs h0 ok r
  have hm : N.length - [v0, V.ref a].length = m := by rw [hN]; show 2 + m - 2 = m; omega
  have st0 : L2.start N [v0, V.ref a] = some v0 :: some (.ref a) :: List.replicate m none := by
   unfold L2.start
   rw [hm]; rfl
  refine ⟨_, hb cdv A outer s H E hr, ⟨Hi, H, [a]⟩, Hi, _, res, by rw [st0]; exact R, h1, ?_⟩
  cases res with
  | nx ρ' =>
   obtain ⟨⟨b, oo⟩, z1, z2⟩ := bnd_eq (show bnd (owO ρ'[1]?) (fun q => if q.1 = true then some (D.non, q.2) else none) = some (d, o') from h2)
   obtain ⟨hbt, z3⟩ := ifs z2
   cases z3
   have hbt : b = true := hbt
   subst hbt
   exact fun σ' H0' H' s0 R => let ⟨x1, x2, x3, x4, x5⟩ := fin R (owO_eq z1); q .non H0' H' x1 x2 x3 x4 x5 (by unfold Rep; rfl)
  | rt d' ρ' =>
   obtain ⟨⟨b, oo⟩, z1, z2⟩ := bnd_eq (show bnd (owO ρ'[1]?) (fun q => if q.1 = true then some (d', q.2) else none) = some (d, o') from h2)
   obtain ⟨hbt, z3⟩ := ifs z2
   cases z3
   have hbt : b = true := hbt
   subst hbt
   exact fun v σ' H0' H' s0 R rv => let ⟨x1, x2, x3, x4, x5⟩ := fin R (owO_eq z1); q v H0' H' x1 x2 x3 x4 x5 rv
  | bk ρ' => cases h2
  | ct ρ' => cases h2
end Fx
namespace Fx
open PySem
theorem fGo_rng {g : D -> En -> Option En} {B : FS} (P : En -> Prop) : ∀ (n : Nat) (lo : Int) (ρ : En), (∀ (i : Nat) ρ, i < n -> P ρ -> ∃ ρ1 ρ2, g (.int (lo + i)) ρ = some ρ1 /\ B ρ1 = some (.nx ρ2) /\ P ρ2) -> P ρ -> ∃ ρ', fGo g B (rngD lo n) ρ = some (.nx ρ') /\ P ρ'
 | 0, lo, ρ, _, p => ⟨ρ, rfl, p⟩
 | n + 1, lo, ρ, h, p => by
  obtain ⟨ρ1, ρ2, h1, h2, p2⟩ := h 0 ρ (by omega) p
  have h1' : g (.int lo) ρ = some ρ1 := by simpa using h1
  obtain ⟨ρ', e, p'⟩ := fGo_rng P n (lo + 1) ρ2 (fun i ρ hi q => by
   obtain ⟨a, b, c, d, e⟩ := h (i + 1) ρ (by omega) q
   refine ⟨a, b, ?_, d, e⟩
   rw [show lo + 1 + (i : Int) = lo + ((i + 1 : Nat) : Int) by push_cast; omega]; exact c) p2
  refine ⟨ρ', ?_, p'⟩
  rw [show rngD lo (n + 1) = .int lo :: rngD (lo + 1) n from rfl, fGo_c, h1', fGa_s, h2, fGb_n]
  exact e
theorem okMul_r {i j : Int} (h : j.natAbs < 2 ^ 64) : okMul i j = true := by
 unfold okMul
 rw [decide_eq_true h]; simp
theorem okMul_l {i j : Int} (h : i.natAbs < 2 ^ 64) : okMul i j = true := by
 unfold okMul
 rw [decide_eq_true h]; simp
theorem okDiv_s {j : Int} (h0 : j ≠ 0) (h : j.natAbs < 2 ^ 64) : okDiv j = true := by
 unfold okDiv
 rw [decide_eq_true h0, decide_eq_true (Nat.lt_trans h (Nat.pow_lt_pow_right (by decide) (by decide)))]; rfl
end Fx
namespace Fx
open PySem
noncomputable def b_keys_hold : FS :=
 (sRet (e2 dEq (e2 dIn2 (eV 1) (e2 dIx2 (eV 0) (eC (.int 1)))) (e2 dEq (e2 dIx2 (eV 0) (eC (.int 0))) (eC (.str (Str.ofString "only"))))))
noncomputable def m_keys_hold : List D -> Option D := fnD 2 0 b_keys_hold
noncomputable def m_keys_meet_0 : List D -> Option D := fnD 2 1 fun _ => none
noncomputable def b_keys_meet_1 : FS :=
 (sSeq (sIf (tAnd (tB (e2 dEq (e2 dIx2 (eV 0) (eC (.int 0))) (eC (.str (Str.ofString "but"))))) (tB (e2 dEq (e2 dIx2 (eV 1) (eC (.int 0))) (eC (.str (Str.ofString "but"))))))
 (sRet (eTup (aC (eC (.str (Str.ofString "but"))) (aC (eF bTuple (aC (eF bSortOr (aC (e2 dIx2 (eV 0) (eC (.int 1))) (aC (e2 dIx2 (eV 1) (eC (.int 1))) aN))) aN)) aN))))
 sN)
 (sSeq (sIf (tB (e2 dEq (e2 dIx2 (eV 0) (eC (.int 0))) (eC (.str (Str.ofString "but")))))
 (sRet (eF m_keys_meet_0 (aC (eV 1) (aC (eV 0) aN))))
 sN)
 (sSeq (sSet 2 (eF bTuple (aC (eLC [1] (e2 dIx2 (eV 0) (eC (.int 1))) (tV (eF m_keys_hold (aC (eV 1) (aC (eV 0) aN)))) (eV 0)) aN)))
 (sRet (eIf (tV (eV 2)) (eTup (aC (eC (.str (Str.ofString "only"))) (aC (eV 2) aN))) (eC .non))))))
noncomputable def m_keys_meet_1 : List D -> Option D := fnD 2 1 b_keys_meet_1
noncomputable def b_keys_meet : FS :=
 (sSeq (sIf (tAnd (tB (e2 dEq (e2 dIx2 (eV 0) (eC (.int 0))) (eC (.str (Str.ofString "but"))))) (tB (e2 dEq (e2 dIx2 (eV 1) (eC (.int 0))) (eC (.str (Str.ofString "but"))))))
 (sRet (eTup (aC (eC (.str (Str.ofString "but"))) (aC (eF bTuple (aC (eF bSortOr (aC (e2 dIx2 (eV 0) (eC (.int 1))) (aC (e2 dIx2 (eV 1) (eC (.int 1))) aN))) aN)) aN))))
 sN)
 (sSeq (sIf (tB (e2 dEq (e2 dIx2 (eV 0) (eC (.int 0))) (eC (.str (Str.ofString "but")))))
 (sRet (eF m_keys_meet_1 (aC (eV 1) (aC (eV 0) aN))))
 sN)
 (sSeq (sSet 2 (eF bTuple (aC (eLC [1] (e2 dIx2 (eV 0) (eC (.int 1))) (tV (eF m_keys_hold (aC (eV 1) (aC (eV 0) aN)))) (eV 0)) aN)))
 (sRet (eIf (tV (eV 2)) (eTup (aC (eC (.str (Str.ofString "only"))) (aC (eV 2) aN))) (eC .non))))))
noncomputable def m_keys_meet : List D -> Option D := fnD 2 1 b_keys_meet
noncomputable def b_keys_inside : FS :=
 (sRet (e2 dEq (eF m_keys_meet (aC (eV 0) (aC (eV 1) aN))) (eV 0)))
noncomputable def m_keys_inside : List D -> Option D := fnD 2 0 b_keys_inside
noncomputable def b_stretch_made : FS :=
 (sSeq (sIf (tNot (tB (e3 dLe dLt (eC (.int 0)) (eV 3) (eV 2))))
 (sRet (eC .non))
 sN)
 (sSeq (sSet 4 (eIf (tB (e2 dIs (eV 0) (eC .non))) (eC .non) (e2 dAdd (eV 0) (e2 dMod (e2 dSub (eV 3) (eV 0)) (eV 2)))))
 (sSeq (sSet 5 (eIf (tB (e2 dIs (eV 1) (eC .non))) (eC .non) (e2 dSub (eV 1) (e2 dMod (e2 dSub (eV 1) (eV 3)) (eV 2)))))
 (sSeq (sIf (tOr (tB (e2 dIs (eV 4) (eC .non))) (tB (e2 dIs (eV 5) (eC .non))))
 (sRet (eTup (aC (eV 4) (aC (eV 5) (aC (eV 2) (aC (eV 3) aN))))))
 sN)
 (sSeq (sIf (tB (e2 dGt (eV 4) (eV 5)))
 (sRet (eC .non))
 sN)
 (sSeq (sIf (tB (e2 dEq (eV 4) (eV 5)))
 (sRet (eTup (aC (eV 4) (aC (eV 5) (aC (eC (.int 1)) (aC (eC (.int 0)) aN))))))
 sN)
 (sRet (eTup (aC (eV 4) (aC (eV 5) (aC (eV 2) (aC (eV 3) aN))))))))))))
noncomputable def m_stretch_made : List D -> Option D := fnD 4 2 b_stretch_made
noncomputable def b_is_between : FS :=
 (sRet (eAnd (eOr (e2 dIs (eV 1) (eC .non)) (e2 dLe (eV 1) (eV 0))) (eOr (e2 dIs (eV 2) (eC .non)) (e2 dLe (eV 0) (eV 2)))))
noncomputable def m_is_between : List D -> Option D := fnD 3 0 b_is_between
noncomputable def b_stretch_has : FS :=
 (sRet (eAnd (eF m_is_between (aC (eV 1) (aC (e2 dIx2 (eV 0) (eC (.int 0))) (aC (e2 dIx2 (eV 0) (eC (.int 1))) aN)))) (e2 dEq (e2 dMod (eV 1) (e2 dIx2 (eV 0) (eC (.int 2)))) (e2 dIx2 (eV 0) (eC (.int 3))))))
noncomputable def m_stretch_has : List D -> Option D := fnD 2 0 b_stretch_has
noncomputable def b_lower_bound : FS :=
 (sSeq (sIf (tOr (tB (e2 dIs (eV 0) (eC .non))) (tB (e2 dIs (eV 1) (eC .non))))
 (sRet (eIf (tB (e2 dIs (eV 0) (eC .non))) (eV 1) (eV 0)))
 sN)
 (sRet (eF bMax (aC (eV 0) (aC (eV 1) aN)))))
noncomputable def m_lower_bound : List D -> Option D := fnD 2 0 b_lower_bound
noncomputable def b_upper_bound : FS :=
 (sSeq (sIf (tOr (tB (e2 dIs (eV 0) (eC .non))) (tB (e2 dIs (eV 1) (eC .non))))
 (sRet (eIf (tB (e2 dIs (eV 0) (eC .non))) (eV 1) (eV 0)))
 sN)
 (sRet (eF bMin (aC (eV 0) (aC (eV 1) aN)))))
noncomputable def m_upper_bound : List D -> Option D := fnD 2 0 b_upper_bound
noncomputable def b_stretch_between : FS :=
 (sRet (eF m_stretch_made (aC (eF m_lower_bound (aC (e2 dIx2 (eV 0) (eC (.int 0))) (aC (eV 1) aN))) (aC (eF m_upper_bound (aC (e2 dIx2 (eV 0) (eC (.int 1))) (aC (eV 2) aN))) (aC (e2 dIx2 (eV 0) (eC (.int 2))) (aC (e2 dIx2 (eV 0) (eC (.int 3))) aN))))))
noncomputable def m_stretch_between : List D -> Option D := fnD 3 0 b_stretch_between
noncomputable def b_stretch_moved : FS :=
 (sSeq (sSet 3 (eLC [2, 1] (eSl2 (eV 0) oN (oS (eC (.int 2)))) tYes (eIf (tB (e2 dIs (eV 0) (eC .non))) (eC .non) (e2 dAdd (e2 dMul (eV 2) (eV 0)) (eV 1)))))
 (sSeq (sIf (tB (e2 dLt (eV 1) (eC (.int 0))))
 (sSet 3 (eLst (aC (e2 dIx2 (eV 3) (eC (.int 1))) (aC (e2 dIx2 (eV 3) (eC (.int 0))) aN))))
 sN)
 (sSeq (sSet 4 (e2 dMul (eF bAbs (aC (eV 1) aN)) (e2 dIx2 (eV 0) (eC (.int 2)))))
 (sRet (eF m_stretch_made (aC (e2 dIx2 (eV 3) (eC (.int 0))) (aC (e2 dIx2 (eV 3) (eC (.int 1))) (aC (eV 4) (aC (e2 dMod (e2 dAdd (e2 dMul (eV 1) (e2 dIx2 (eV 0) (eC (.int 3)))) (eV 2)) (eV 4)) aN)))))))))
noncomputable def m_stretch_moved : List D -> Option D := fnD 3 2 b_stretch_moved
noncomputable abbrev l_divisor_and_factor_1 : FS :=
 (sSeq (sSet 6 (e2 dDiv (eV 2) (eV 4)))
 (sSeq (sSet 7 (e2 dSub (eV 2) (e2 dMul (eV 6) (eV 4))))
 (sSeq (sSet 2 (eV 4))
 (sSeq (sSet 4 (eV 7))
 (sSeq (sSet 7 (e2 dSub (eV 3) (e2 dMul (eV 6) (eV 5))))
 (sSeq (sSet 3 (eV 5))
 (sSet 5 (eV 7))))))))
noncomputable abbrev l_divisor_and_factor_2 : FT :=
 (tB (e2 dNe (eV 4) (eC (.int 0))))
noncomputable def b_divisor_and_factor : FS :=
 (sSeq (sSet 2 (e2 dMod (eV 0) (eV 1)))
 (sSeq (sSet 3 (eC (.int 1)))
 (sSeq (sSet 4 (eV 1))
 (sSeq (sSet 5 (eC (.int 0)))
 (sSeq (sWhile (fun ρ => match ρ[1]? with | some (Sl.im (D.int m)) => m.toNat + 2 | _ => 0) l_divisor_and_factor_2
 l_divisor_and_factor_1)
 (sRet (eTup (aC (eV 2) (aC (eV 3) aN)))))))))
noncomputable def m_divisor_and_factor : List D -> Option D := fnD 2 6 b_divisor_and_factor
noncomputable def b_stretch_back : FS :=
 (sSeq (sIf (tB (e2 dEq (eV 1) (eC (.int 0))))
 (sRet eNever)
 sN)
 (sSeq (sSet 3 (eF m_divisor_and_factor (aC (eV 1) (aC (e2 dIx2 (eV 0) (eC (.int 2))) aN))))
 (sSeq (sSet 4 (e2 dIx2 (eV 3) (eC (.int 0))))
 (sSeq (sSet 5 (e2 dSub (e2 dIx2 (eV 0) (eC (.int 3))) (eV 2)))
 (sSeq (sIf (tB (e2 dNe (e2 dMod (eV 5) (eV 4)) (eC (.int 0))))
 (sRet (eC .non))
 sN)
 (sSeq (sSet 6 (e2 dDiv (e2 dIx2 (eV 0) (eC (.int 2))) (eV 4)))
 (sSeq (sSet 7 (eIf (tB (e2 dGt (eV 1) (eC (.int 0)))) (eLst (aC (e2 dIx2 (eV 0) (eC (.int 0))) (aC (e2 dIx2 (eV 0) (eC (.int 1))) aN))) (eLst (aC (e2 dIx2 (eV 0) (eC (.int 1))) (aC (e2 dIx2 (eV 0) (eC (.int 0))) aN)))))
 (sSeq (sSet 8 (eIf (tB (e2 dIs (e2 dIx2 (eV 7) (eC (.int 0))) (eC .non))) (eC .non) (e1 dNeg (e2 dDiv (e2 dSub (eV 2) (e2 dIx2 (eV 7) (eC (.int 0)))) (eV 1)))))
 (sSeq (sSet 9 (eIf (tB (e2 dIs (e2 dIx2 (eV 7) (eC (.int 1))) (eC .non))) (eC .non) (e2 dDiv (e2 dSub (e2 dIx2 (eV 7) (eC (.int 1))) (eV 2)) (eV 1))))
 (sRet (eF m_stretch_made (aC (eV 8) (aC (eV 9) (aC (eV 6) (aC (e2 dMod (e2 dMul (e2 dDiv (eV 5) (eV 4)) (e2 dIx2 (eV 3) (eC (.int 1)))) (eV 6)) aN)))))))))))))))
noncomputable def m_stretch_back : List D -> Option D := fnD 3 7 b_stretch_back
noncomputable def b_stretch_meet : FS :=
 (sSeq (sSet 2 (eF m_stretch_back (aC (eV 1) (aC (e2 dIx2 (eV 0) (eC (.int 2))) (aC (e2 dIx2 (eV 0) (eC (.int 3))) aN)))))
 (sSeq (sIf (tB (e2 dIs (eV 2) (eC .non)))
 (sRet (eC .non))
 sN)
 (sRet (eF m_stretch_between (aC (eF m_stretch_moved (aC (eV 2) (aC (e2 dIx2 (eV 0) (eC (.int 2))) (aC (e2 dIx2 (eV 0) (eC (.int 3))) aN)))) (aC (e2 dIx2 (eV 0) (eC (.int 0))) (aC (e2 dIx2 (eV 0) (eC (.int 1))) aN)))))))
noncomputable def m_stretch_meet : List D -> Option D := fnD 2 1 b_stretch_meet
noncomputable def b_stretch_inside : FS :=
 (sRet (e2 dEq (eF m_stretch_meet (aC (eV 0) (aC (eV 1) aN))) (eV 0)))
noncomputable def m_stretch_inside : List D -> Option D := fnD 2 0 b_stretch_inside
noncomputable def b_box_made : FS :=
 (sSeq (sIf (tOr (tB (e2 dIs (eV 0) (eC .non))) (tB (e2 dIs (eV 3) (eC .non))))
 (sRet (eC .non))
 sN)
 (sSeq (sSet 1 (eF bMax (aC (eV 1) (aC (eC (.int 0)) aN))))
 (sSeq (sIf (tAnd (tB (e2 dIsNot (eV 2) (eC .non))) (tB (e2 dLe (eV 2) (eV 1))))
 (sRet (eC .non))
 sN)
 (sRet (eTup (aC (eV 0) (aC (eV 1) (aC (eV 2) (aC (eV 3) aN)))))))))
noncomputable def m_box_made : List D -> Option D := fnD 4 0 b_box_made
noncomputable def b_box_has : FS :=
 (sSeq (sSet 2 (e2 dIx2 (eV 1) (eC (.int 0))))
 (sSeq (sIf (tOr (tB (e2 dLt (eV 2) (e2 dIx2 (eV 0) (eC (.int 1))))) (tAnd (tB (e2 dIsNot (e2 dIx2 (eV 0) (eC (.int 2))) (eC .non))) (tB (e2 dGe (eV 2) (e2 dIx2 (eV 0) (eC (.int 2)))))))
 (sRet (eC (.bl false)))
 sN)
 (sRet (eAnd (eF m_keys_hold (aC (e2 dIx2 (eV 0) (eC (.int 0))) (aC (e2 dIx2 (eV 1) (eC (.int 1))) aN))) (eF m_stretch_has (aC (e2 dIx2 (eV 0) (eC (.int 3))) (aC (e2 dIx2 (eV 1) (eC (.int 2))) aN)))))))
noncomputable def m_box_has : List D -> Option D := fnD 2 1 b_box_has
noncomputable def b_box_meet : FS :=
 (sSeq (sSet 2 (eF m_keys_meet (aC (e2 dIx2 (eV 0) (eC (.int 0))) (aC (e2 dIx2 (eV 1) (eC (.int 0))) aN))))
 (sSeq (sSet 3 (eF m_stretch_meet (aC (e2 dIx2 (eV 0) (eC (.int 3))) (aC (e2 dIx2 (eV 1) (eC (.int 3))) aN))))
 (sRet (eF m_box_made (aC (eV 2) (aC (eF bMax (aC (e2 dIx2 (eV 0) (eC (.int 1))) (aC (e2 dIx2 (eV 1) (eC (.int 1))) aN))) (aC (eF m_upper_bound (aC (e2 dIx2 (eV 0) (eC (.int 2))) (aC (e2 dIx2 (eV 1) (eC (.int 2))) aN))) (aC (eV 3) aN))))))))
noncomputable def m_box_meet : List D -> Option D := fnD 2 2 b_box_meet
noncomputable def b_box_inside : FS :=
 (sSeq (sIf (tOr (tB (e2 dLt (e2 dIx2 (eV 0) (eC (.int 1))) (e2 dIx2 (eV 1) (eC (.int 1))))) (tB (e2 dNe (eF m_upper_bound (aC (e2 dIx2 (eV 0) (eC (.int 2))) (aC (e2 dIx2 (eV 1) (eC (.int 2))) aN))) (e2 dIx2 (eV 0) (eC (.int 2))))))
 (sRet (eC (.bl false)))
 sN)
 (sRet (eAnd (eF m_keys_inside (aC (e2 dIx2 (eV 0) (eC (.int 0))) (aC (e2 dIx2 (eV 1) (eC (.int 0))) aN))) (eF m_stretch_inside (aC (e2 dIx2 (eV 0) (eC (.int 3))) (aC (e2 dIx2 (eV 1) (eC (.int 3))) aN))))))
noncomputable def m_box_inside : List D -> Option D := fnD 2 0 b_box_inside
noncomputable def b_law_cell_at : FS :=
 (sSeq (sIf (tB (e2 dLt (eV 1) (eF bLen2 (aC (eV 0) aN))))
 (sRet (e2 dIx2 (eV 0) (eV 1)))
 sN)
 (sRet (eC (.int 0))))
noncomputable def m_law_cell_at : List D -> Option D := fnD 2 0 b_law_cell_at
noncomputable def b_law_mixed : FS :=
 (sSeq (sSet 2 (e2 dMod (e2 dMul (e2 dAdd (e2 dAdd (eV 0) (e2 dMul (eC (.int 7919)) (eV 1))) (eC (.int 1))) (eC (.int 48271))) (eC (.int 2147483647))))
 (sRet (e2 dMod (e2 dMul (eV 2) (e2 dAdd (e2 dDiv (eV 2) (eC (.int 1009))) (eC (.int 69621)))) (eC (.int 2147483647)))))
noncomputable def m_law_mixed : List D -> Option D := fnD 2 1 b_law_mixed
noncomputable def b_law_draws : En -> Option MO :=
 (nSeq (sSet 1 (eF m_law_cell_at (aC (eV 0) (aC (eC (.int 0)) aN)))) (nRet [(Str.ofString "script"), (Str.ofString "way"), (Str.ofString "left"), (Str.ofString "at"), (Str.ofString "number"), (Str.ofString "k")] (aC (eV 0) (aC (e2 dMod (eV 1) (eC (.int 2))) (aC (eC (.int 0)) (aC (eC (.int 1)) (aC (eV 1) (aC (eC (.int 0)) aN))))))))
noncomputable def m_law_draws : List D -> Option MO := fnN 1 1 b_law_draws
noncomputable abbrev l_law_next_1 : FS :=
 (sSeq (sDP 0 (Str.ofString "left") (eF bAbs (aC (e2 dIx2 (eDG 0 (Str.ofString "script")) (eDG 0 (Str.ofString "at"))) aN)))
 (sDP 0 (Str.ofString "at") (e2 dAdd (eDG 0 (Str.ofString "at")) (eC (.int 1)))))
noncomputable abbrev l_law_next_2 : FT :=
 (tAnd (tB (e2 dEq (eDG 0 (Str.ofString "way")) (eC (.int 1)))) (tAnd (tB (e2 dEq (eDG 0 (Str.ofString "left")) (eC (.int 0)))) (tB (e2 dLt (eDG 0 (Str.ofString "at")) (eF bLen2 (aC (eDG 0 (Str.ofString "script")) aN))))))
noncomputable def b_law_next : FS :=
 (sSeq (sWhile (fun _ => 200) l_law_next_2
 l_law_next_1)
 (sSeq (sIf (tB (e2 dGt (eDG 0 (Str.ofString "left")) (eC (.int 0))))
 (sSeq (sSet 2 (e2 dMod (eDG 0 (Str.ofString "left")) (eC (.int 1000003))))
 (sSeq (sDP 0 (Str.ofString "left") (e2 dDiv (eDG 0 (Str.ofString "left")) (eC (.int 1000003))))
 (sRet (eV 2))))
 sN)
 (sSeq (sDP 0 (Str.ofString "k") (e2 dAdd (eDG 0 (Str.ofString "k")) (eC (.int 1))))
 (sSeq (sSet 1 (e2 dAdd (eDG 0 (Str.ofString "number")) (eF m_law_cell_at (aC (eDG 0 (Str.ofString "script")) (aC (eDG 0 (Str.ofString "k")) aN)))))
 (sSeq (sDP 0 (Str.ofString "number") (eF m_law_mixed (aC (eV 1) (aC (eDG 0 (Str.ofString "k")) aN))))
 (sRet (eF m_law_mixed (aC (eDG 0 (Str.ofString "number")) (aC (eC (.int 7)) aN)))))))))
noncomputable def m_law_next : MO -> List D -> Option (D × MO) := fnB 0 2 b_law_next
noncomputable abbrev l_law_pool_1 : FS :=
 (sSet 2 (e2 dAdd (eV 2) (e2 dIx2 (eV 1) (e2 dMod (eFb 0 m_law_next aN) (eC (.int 26))))))
noncomputable def b_law_pool : FS :=
 (sSeq (sSet 1 (eC (.str (Str.ofString "abcdefghijklmnopqrstuvwxyz"))))
 (sSeq (sSet 2 (eC (.str (Str.ofString ""))))
 (sSeq (sForR (gN 3) (rng1 (e2 dAdd (eC (.int 1)) (e2 dMod (eFb 0 m_law_next aN) (eC (.int 8))))) l_law_pool_1)
 (sSeq (sIf (tB (e2 dEq (e2 dMod (eFb 0 m_law_next aN) (eC (.int 3))) (eC (.int 1))))
 (sRet (eLst (aC (eC (.str (Str.ofString "a"))) (aC (eC (.str (Str.ofString "b"))) (aC (eC (.str (Str.ofString "z"))) (aC (eC (.str (Str.ofString "aa"))) (aC (eC (.str (Str.ofString "ab"))) (aC (eC (.str (Str.ofString "az"))) (aC (eC (.str (Str.ofString "ba"))) (aC (eC (.str (Str.ofString "zz"))) (aC (eC (.str (Str.ofString "aaa"))) aN)))))))))))
 sN)
 (sSeq (sSet 4 (e2 dMod (eFb 0 m_law_next aN) (eF bLen2 (aC (eV 2) aN))))
 (sRet (eLC [2, 4] (eC (.str (Str.ofString "abcdefghz"))) tYes (e2 dAdd (e2 dAdd (eSl2 (eV 1) oN (oS (eV 2))) (eV 0)) (eSl2 (eV 1) (oS (e2 dAdd (eV 2) (eC (.int 1)))) oN)))))))))
noncomputable def m_law_pool : MO -> List D -> Option (D × MO) := fnB 0 4 b_law_pool
noncomputable def b_law_keys : FS :=
 (sSeq (sSet 2 (eLCB [0] 0 0 (eV 1) (tB (e2 dEq (e2 dMod (eFb 1 m_law_next aN) (eC (.int 3))) (eC (.int 1)))) (eV 0)))
 (sSeq (sIf (tOr (tB (e2 dEq (eV 2) (eLst aN))) (tB (e2 dEq (e2 dMod (eFb 0 m_law_next aN) (eC (.int 2))) (eC (.int 1)))))
 (sRet (eTup (aC (eC (.str (Str.ofString "but"))) (aC (eF bTuple (aC (eF bSortSet (aC (eV 2) aN)) aN)) aN))))
 sN)
 (sRet (eTup (aC (eC (.str (Str.ofString "only"))) (aC (eF bTuple (aC (eF bSortSet (aC (eV 2) aN)) aN)) aN))))))
noncomputable def m_law_keys : MO -> List D -> Option (D × MO) := fnB 1 1 b_law_keys
noncomputable def b_law_in : FS :=
 (sSeq (sIf (tB (e2 dEq (e2 dIx2 (eV 0) (eC (.int 0))) (eC (.str (Str.ofString "only")))))
 (sRet (e2 dIn2 (eV 1) (e2 dIx2 (eV 0) (eC (.int 1)))))
 sN)
 (sRet (e2 dNotIn2 (eV 1) (e2 dIx2 (eV 0) (eC (.int 1))))))
noncomputable def m_law_in : List D -> Option D := fnD 2 0 b_law_in
noncomputable def b_law_great : FS :=
 (sSeq (sSet 1 (e2 dMod (eFb 0 m_law_next aN) (eC (.int 4))))
 (sSeq (sSet 2 (e2 dSub (e2 dMod (eFb 0 m_law_next aN) (eC (.int 41))) (eC (.int 20))))
 (sSeq (sIf (tB (e2 dEq (eV 1) (eC (.int 1))))
 (sSet 2 (e2 dAdd (e2 dMul (eFb 0 m_law_next aN) (e2 dPow (eC (.int 10)) (eC (.int 20)))) (eFb 0 m_law_next aN)))
 sN)
 (sSeq (sIf (tB (e2 dEq (eV 1) (eC (.int 2))))
 (sSet 2 (e2 dSub (e2 dSub (eC (.int 0)) (e2 dMul (eFb 0 m_law_next aN) (e2 dPow (eC (.int 10)) (eC (.int 20))))) (eFb 0 m_law_next aN)))
 sN)
 (sRet (eV 2))))))
noncomputable def m_law_great : MO -> List D -> Option (D × MO) := fnB 0 2 b_law_great
noncomputable def b_law_stretch : FS :=
 (sSeq (sSet 1 (eC .non))
 (sSeq (sSet 2 (eC .non))
 (sSeq (sSet 3 (eFb 0 m_law_great aN))
 (sSeq (sSet 4 (e2 dMod (eFb 0 m_law_next aN) (eC (.int 5))))
 (sSeq (sIf (tB (e2 dNe (eV 4) (eC (.int 1))))
 (sSet 1 (eV 3))
 sN)
 (sSeq (sIf (tB (e2 dNe (eV 4) (eC (.int 2))))
 (sSeq (sSet 2 (e2 dAdd (eV 3) (e2 dMod (eFb 0 m_law_next aN) (eC (.int 30)))))
 (sIf (tB (e2 dEq (eV 4) (eC (.int 3))))
 (sSet 2 (e2 dAdd (eV 3) (eF bAbs (aC (eFb 0 m_law_great aN) aN))))
 sN))
 sN)
 (sSeq (sSet 5 (e2 dIx2 (eLst (aC (eC (.int 1)) (aC (eC (.int 1)) (aC (eC (.int 2)) (aC (eC (.int 3)) (aC (eC (.int 5)) (aC (eC (.int 12)) aN))))))) (e2 dMod (eFb 0 m_law_next aN) (eC (.int 6)))))
 (sRet (eF m_stretch_made (aC (eV 1) (aC (eV 2) (aC (eV 5) (aC (e2 dMod (eFb 0 m_law_next aN) (eV 5)) aN)))))))))))))
noncomputable def m_law_stretch : MO -> List D -> Option (D × MO) := fnB 0 5 b_law_stretch
noncomputable def b_law_time : FS :=
 (sSeq (sIf (tB (e2 dEq (e2 dMod (eFb 0 m_law_next aN) (eC (.int 4))) (eC (.int 1))))
 (sRet (e2 dAdd (e2 dMul (eFb 0 m_law_next aN) (e2 dPow (eC (.int 10)) (eC (.int 20)))) (eFb 0 m_law_next aN)))
 sN)
 (sRet (e2 dMod (eFb 0 m_law_next aN) (eC (.int 30)))))
noncomputable def m_law_time : MO -> List D -> Option (D × MO) := fnB 0 0 b_law_time
noncomputable def b_law_box : FS :=
 (sSeq (sSet 2 (eFb 0 m_law_keys (aC (eV 1) aN)))
 (sSeq (sSet 3 (eFb 0 m_law_time aN))
 (sSeq (sSet 4 (e2 dAdd (e2 dAdd (eV 3) (eC (.int 1))) (e2 dMod (eFb 0 m_law_next aN) (eC (.int 12)))))
 (sSeq (sIf (tB (e2 dEq (e2 dMod (eFb 0 m_law_next aN) (eC (.int 3))) (eC (.int 1))))
 (sSet 4 (eC .non))
 sN)
 (sRet (eF m_box_made (aC (eV 2) (aC (eV 3) (aC (eV 4) (aC (eFb 0 m_law_stretch aN) aN))))))))))
noncomputable def m_law_box : MO -> List D -> Option (D × MO) := fnB 1 3 b_law_box
noncomputable def b_law_value_in : FS :=
 (sSeq (sIf (tOr (tAnd (tB (e2 dIsNot (e2 dIx2 (eV 0) (eC (.int 0))) (eC .non))) (tB (e2 dLt (eV 1) (e2 dIx2 (eV 0) (eC (.int 0)))))) (tAnd (tB (e2 dIsNot (e2 dIx2 (eV 0) (eC (.int 1))) (eC .non))) (tB (e2 dGt (eV 1) (e2 dIx2 (eV 0) (eC (.int 1)))))))
 (sRet (eC (.bl false)))
 sN)
 (sRet (e2 dEq (e2 dMod (eV 1) (e2 dIx2 (eV 0) (eC (.int 2)))) (e2 dIx2 (eV 0) (eC (.int 3))))))
noncomputable def m_law_value_in : List D -> Option D := fnD 2 0 b_law_value_in
noncomputable def b_law_has : FS :=
 (sSeq (sIf (tOr (tB (e2 dIs (eV 0) (eC .non))) (tOr (tB (e2 dLt (e2 dIx2 (eV 1) (eC (.int 0))) (e2 dIx2 (eV 0) (eC (.int 1))))) (tAnd (tB (e2 dIsNot (e2 dIx2 (eV 0) (eC (.int 2))) (eC .non))) (tB (e2 dGe (e2 dIx2 (eV 1) (eC (.int 0))) (e2 dIx2 (eV 0) (eC (.int 2))))))))
 (sRet (eC (.bl false)))
 sN)
 (sRet (eAnd (eF m_law_in (aC (e2 dIx2 (eV 0) (eC (.int 0))) (aC (e2 dIx2 (eV 1) (eC (.int 1))) aN))) (eF m_law_value_in (aC (e2 dIx2 (eV 0) (eC (.int 3))) (aC (e2 dIx2 (eV 1) (eC (.int 2))) aN))))))
noncomputable def m_law_has : List D -> Option D := fnD 2 0 b_law_has
noncomputable def b_law_near : FS :=
 (sSeq (sSet 3 (e2 dSub (e2 dAdd (e2 dIx2 (eV 1) (eC (.int 1))) (e2 dMod (eFb 0 m_law_next aN) (eC (.int 5)))) (eC (.int 2))))
 (sSeq (sIf (tAnd (tB (e2 dEq (e2 dMod (eFb 0 m_law_next aN) (eC (.int 2))) (eC (.int 1)))) (tB (e2 dIsNot (e2 dIx2 (eV 1) (eC (.int 2))) (eC .non))))
 (sSet 3 (e2 dSub (e2 dAdd (e2 dIx2 (eV 1) (eC (.int 2))) (e2 dMod (eFb 0 m_law_next aN) (eC (.int 5)))) (eC (.int 3))))
 sN)
 (sSeq (sSet 4 (eC (.int 0)))
 (sSeq (sSet 5 (e2 dIx2 (e2 dIx2 (eV 1) (eC (.int 3))) (e2 dMod (eFb 0 m_law_next aN) (eC (.int 2)))))
 (sSeq (sIf (tB (e2 dIsNot (eV 5) (eC .non)))
 (sSet 4 (eV 5))
 sN)
 (sSeq (sSet 4 (e2 dSub (e2 dAdd (eV 4) (e2 dMod (eFb 0 m_law_next aN) (eC (.int 13)))) (eC (.int 6))))
 (sRet (eTup (aC (eF bMax (aC (eV 3) (aC (eC (.int 0)) aN))) (aC (e2 dIx2 (e2 dAdd (eV 2) (eLst (aC (eC (.str (Str.ofString "q"))) aN))) (e2 dMod (eFb 0 m_law_next aN) (eC (.int 10)))) (aC (eV 4) aN)))))))))))
noncomputable def m_law_near : MO -> List D -> Option (D × MO) := fnB 2 3 b_law_near
noncomputable def b_law_made_right : FS :=
 (sSeq (sTup [3, 4, 5, 6] (eV 0))
 (sSeq (sSet 2 (e2 dMod (eFb 1 m_law_next aN) (eC (.int 9))))
 (sSeq (sIf (tOr (tB (e2 dNe (eF m_box_made (aC (eV 3) (aC (eV 4) (aC (eV 5) (aC (eV 6) aN))))) (eV 0))) (tB (e2 dIsNot (eF m_box_made (aC (eC .non) (aC (eV 4) (aC (eV 5) (aC (eV 6) aN))))) (eC .non))))
 (sRet (eC (.bl false)))
 sN)
 (sSeq (sIf (tOr (tB (e2 dIsNot (eF m_box_made (aC (eV 3) (aC (eV 4) (aC (eV 5) (aC (eC .non) aN))))) (eC .non))) (tB (e2 dIsNot (eF m_box_made (aC (eV 3) (aC (e2 dAdd (eV 4) (eV 2)) (aC (eV 4) (aC (eV 6) aN))))) (eC .non))))
 (sRet (eC (.bl false)))
 sN)
 (sSeq (sIf (tB (e2 dIsNot (eF m_box_made (aC (eV 3) (aC (e2 dSub (eC (.int 0)) (eV 2)) (aC (eC (.int 0)) (aC (eV 6) aN))))) (eC .non)))
 (sRet (eC (.bl false)))
 sN)
 (sRet (e2 dEq (eF m_box_made (aC (eV 3) (aC (e2 dSub (eC (.int 0)) (eV 2)) (aC (eV 5) (aC (eV 6) aN))))) (eTup (aC (eV 3) (aC (eC (.int 0)) (aC (eV 5) (aC (eV 6) aN))))))))))))
noncomputable def m_law_made_right : MO -> List D -> Option (D × MO) := fnC 5 b_law_made_right
noncomputable def b_law_inside_due : FS :=
 (sSeq (sSet 2 (eAnd (e2 dGe (e2 dIx2 (eV 0) (eC (.int 1))) (e2 dIx2 (eV 1) (eC (.int 1)))) (eOr (e2 dIs (e2 dIx2 (eV 1) (eC (.int 2))) (eC .non)) (eAnd (e2 dIsNot (e2 dIx2 (eV 0) (eC (.int 2))) (eC .non)) (e2 dLe (e2 dIx2 (eV 0) (eC (.int 2))) (e2 dIx2 (eV 1) (eC (.int 2))))))))
 (sRet (eAnd (eV 2) (eAnd (eF m_keys_inside (aC (e2 dIx2 (eV 0) (eC (.int 0))) (aC (e2 dIx2 (eV 1) (eC (.int 0))) aN))) (eF m_stretch_inside (aC (e2 dIx2 (eV 0) (eC (.int 3))) (aC (e2 dIx2 (eV 1) (eC (.int 3))) aN)))))))
noncomputable def m_law_inside_due : List D -> Option D := fnD 2 1 b_law_inside_due
noncomputable abbrev l_law_1 : FS :=
 (sSeq (sSet 15 (eF m_box_has (aC (eV 12) (aC (eV 11) aN))))
 (sIf (tOr (tNot (tV (eTy .bool (eV 15)))) (tB (e2 dNe (eV 15) (eF m_law_has (aC (eV 12) (aC (eV 11) aN))))))
 (sRet (eC (.bl false)))
 sN))
noncomputable abbrev l_law_2 : FS :=
 (sSeq (sSet 11 (eFb 1 m_law_near (aC (e2 dIx2 (eV 3) (e2 dMod (eV 5) (eC (.int 2)))) (aC (eV 2) aN))))
 (sSeq (sFor (gN 12) (eV 3)
 l_law_1)
 (sIf (tB (e2 dNe (eF m_law_has (aC (eV 4) (aC (eV 11) aN))) (eAnd (eF m_law_has (aC (eV 6) (aC (eV 11) aN))) (eF m_law_has (aC (eV 7) (aC (eV 11) aN))))))
 (sRet (eC (.bl false)))
 sN)))
noncomputable abbrev l_law_3 : FS :=
 (sSeq (sSet 15 (eF m_box_inside (aC (eV 13) (aC (eV 14) aN))))
 (sIf (tOr (tNot (tV (eTy .bool (eV 15)))) (tB (e2 dNe (eV 15) (eF m_law_inside_due (aC (eV 13) (aC (eV 14) aN))))))
 (sRet (eC (.bl false)))
 sN))
noncomputable def b_law : FS :=
 (sSeq (sNew 1 m_law_draws (aC (eV 0) aN))
 (sSeq (sSet 2 (eFb 1 m_law_pool aN))
 (sSeq (sSet 3 (eSl2 (eLC [] (eLRB [1, 2] 1 0 (rng1 (eC (.int 4))) tYes (eFb 1 m_law_box (aC (eV 2) aN))) (tB (e2 dIsNot (eV 0) (eC .non))) (eV 0)) oN (oS (eC (.int 2)))))
 (sSeq (sIf (tB (e2 dLt (eF bLen2 (aC (eV 3) aN)) (eC (.int 2))))
 (sRet (eOr (e2 dEq (eV 3) (eLst aN)) (eFb 1 m_law_made_right (aC (e2 dIx2 (eV 3) (eC (.int 0))) aN))))
 sN)
 (sSeq (sTup [6, 7] (eV 3))
 (sSeq (sSet 4 (eF m_box_meet (aC (eV 6) (aC (eV 7) aN))))
 (sSeq (sIf (tB (e2 dIs (eV 4) (eC .non)))
 (sSeq (sSet 8 (eF bMax (aC (e2 dIx2 (eV 6) (eC (.int 1))) (aC (e2 dIx2 (eV 7) (eC (.int 1))) aN))))
 (sSeq (sSet 9 (eLC [] (eLst (aC (e2 dIx2 (eV 6) (eC (.int 2))) (aC (e2 dIx2 (eV 7) (eC (.int 2))) aN))) (tB (e2 dIsNot (eV 0) (eC .non))) (eV 0)))
 (sSeq (sSet 10 (eOr (e2 dIs (eF m_keys_meet (aC (e2 dIx2 (eV 6) (eC (.int 0))) (aC (e2 dIx2 (eV 7) (eC (.int 0))) aN))) (eC .non)) (e2 dIs (eF m_stretch_meet (aC (e2 dIx2 (eV 6) (eC (.int 3))) (aC (e2 dIx2 (eV 7) (eC (.int 3))) aN))) (eC .non))))
 (sIf (tAnd (tNot (tV (eV 10))) (tOr (tB (e2 dEq (eV 9) (eLst aN))) (tB (e2 dGt (eF bMin (aC (eV 9) aN)) (eV 8)))))
 (sRet (eC (.bl false)))
 sN))))
 (sIf (tOr (tNot (tV (eTy .tuple (eV 4)))) (tB (e2 dNe (eF bLen2 (aC (eV 4) aN)) (eC (.int 4)))))
 (sRet (eC (.bl false)))
 sN))
 (sSeq (sForR (gN 5) (rng1 (eC (.int 40))) l_law_2)
 (sSeq (sFor (gT [13, 14]) (eLst (aC (eTup (aC (eV 6) (aC (eV 7) aN))) (aC (eTup (aC (eV 7) (aC (eV 6) aN))) (aC (eTup (aC (eV 6) (aC (eV 6) aN))) aN))))
 l_law_3)
 (sRet (eFb 1 m_law_made_right (aC (eV 6) aN))))))))))))
noncomputable def m_law : List D -> Option D := fnD 1 15 b_law
end Fx
namespace Fx
open PySem
noncomputable def fnBa (o : Option Res) : Option (D × MO) := bnd o fun r => retB r
noncomputable def retBa (d : D) (o : Option (Bool × MO)) : Option (D × MO) := bnd o fun q => if q.1 = true then some (d, q.2) else none
@[simp] theorem fnB_ (n k : Nat) (B : FS) (o : MO) (ds : List D) : fnB n k B o ds = if ds.length = n then fnBa (B (.ow true o :: (ds.map .im ++ List.replicate k .no))) else none := Eq.trans rfl rfl
@[simp] theorem fnBa_r (d : D) (ρ : En) : fnBa (some (.rt d ρ)) = retBa d (owO ρ[0]?) := Eq.trans rfl rfl
@[simp] theorem fnBa_n (ρ : En) : fnBa (some (.nx ρ)) = retBa .non (owO ρ[0]?) := Eq.trans rfl rfl
@[simp] theorem retBa_s (d : D) (o : MO) : retBa d (some (true, o)) = some (d, o) := Eq.trans rfl rfl
@[simp] theorem fnN_ (n k : Nat) (F : En -> Option MO) (ds : List D) : fnN n k F ds = if ds.length = n then F (ds.map .im ++ List.replicate k .no) else none := Eq.trans rfl rfl
noncomputable def nSeqa (F : En -> Option MO) (o : Option Res) : Option MO := bnd o fun r => match r with
 | .nx ρ' => F ρ'
 | _ => none
@[simp] theorem nSeq_ (A : FS) (F : En -> Option MO) (ρ : En) : nSeq A F ρ = nSeqa F (A ρ) := Eq.trans rfl rfl
@[simp] theorem nSeqa_n (F : En -> Option MO) (ρ : En) : nSeqa F (some (.nx ρ)) = F ρ := Eq.trans rfl rfl
noncomputable def nReta (ks : List Str) (o : Option (List D × En)) : Option MO := bnd o fun p => if p.1.length = ks.length /\ ks.length <= 15 /\ ks.Nodup then some (.dic (ks.zip p.1)) else none
@[simp] theorem nRet_ (ks : List Str) (A : FA) (ρ : En) : nRet ks A ρ = if ρ.all noOw = true then nReta ks (A ρ) else none := Eq.trans rfl rfl
@[simp] theorem nReta_s (ks : List Str) (ds : List D) (ρ : En) : nReta ks (some (ds, ρ)) = if ds.length = ks.length /\ ks.length <= 15 /\ ks.Nodup then some (.dic (ks.zip ds)) else none := Eq.trans rfl rfl
noncomputable def lcBb (js : List Nat) (i q : Nat) (ρ : En) (b : Bool) (xs : List D) (o : Option (List D × MO)) : Option (D × En) := bnd o fun t => if xs.length <= sizeLine /\ js[q]? = some i /\ js.Nodup then some (.lst t.1, ρ.set i (.ow b t.2)) else none
noncomputable def lcBa (js : List Nat) (i q : Nat) (T : FT) (F : FE) (xs : List D) (ρ : En) (o : Option (Bool × MO)) : Option (D × En) := bnd o fun w => lcBb js i q ρ w.1 xs (cGoB T F ρ i js q w.2 xs)
@[simp] theorem lcB_ (js : List Nat) (i q : Nat) (T : FT) (F : FE) (xs : List D) (ρ : En) : lcB js i q T F xs ρ = lcBa js i q T F xs ρ (owO ρ[i]?) := Eq.trans rfl rfl
@[simp] theorem lcBa_s (js : List Nat) (i q : Nat) (T : FT) (F : FE) (xs : List D) (ρ : En) (b : Bool) (o : MO) : lcBa js i q T F xs ρ (some (b, o)) = lcBb js i q ρ b xs (cGoB T F ρ i js q o xs) := Eq.trans rfl rfl
@[simp] theorem lcBb_s (js : List Nat) (i q : Nat) (ρ : En) (b : Bool) (xs ys : List D) (o : MO) : lcBb js i q ρ b xs (some (ys, o)) = if xs.length <= sizeLine /\ js[q]? = some i /\ js.Nodup then some (.lst ys, ρ.set i (.ow b o)) else none := Eq.trans rfl rfl
noncomputable def eLCBb (js : List Nat) (i q : Nat) (T : FT) (F : FE) (ρ : En) (o : Option (List D)) : Option (D × En) := bnd o fun xs => lcB js i q T F xs ρ
noncomputable def eLCBa (js : List Nat) (i q : Nat) (T : FT) (F : FE) (o : Option (D × En)) : Option (D × En) := bnd o fun p => eLCBb js i q T F p.2 (items p.1)
@[simp] theorem eLCB_ (js : List Nat) (i q : Nat) (I : FE) (T : FT) (F : FE) (ρ : En) : eLCB js i q I T F ρ = eLCBa js i q T F (I ρ) := Eq.trans rfl rfl
@[simp] theorem eLCBa_s (js : List Nat) (i q : Nat) (T : FT) (F : FE) (x : D) (ρ : En) : eLCBa js i q T F (some (x, ρ)) = eLCBb js i q T F ρ (items x) := Eq.trans rfl rfl
@[simp] theorem eLCBb_s (js : List Nat) (i q : Nat) (T : FT) (F : FE) (ρ : En) (xs : List D) : eLCBb js i q T F ρ (some xs) = lcB js i q T F xs ρ := Eq.trans rfl rfl
end Fx
namespace Fx
open PySem
noncomputable def drD (ns : List Int) (wy l a nb kk : Int) : List (Str × D) := [(Str.ofString "script", .lst (ns.map .int)), (Str.ofString "way", .int wy), (Str.ofString "left", .int l), (Str.ofString "at", .int a), (Str.ofString "number", .int nb), (Str.ofString "k", .int kk)]
section
variable (ns : List Int) (wy l a nb kk : Int) (d : Int)
theorem drS : getK (Str.ofString "script") (drD ns wy l a nb kk) = some (.lst (ns.map .int)) := rfl
theorem drW : getK (Str.ofString "way") (drD ns wy l a nb kk) = some (.int wy) := rfl
theorem drL : getK (Str.ofString "left") (drD ns wy l a nb kk) = some (.int l) := rfl
theorem drA : getK (Str.ofString "at") (drD ns wy l a nb kk) = some (.int a) := rfl
theorem drN : getK (Str.ofString "number") (drD ns wy l a nb kk) = some (.int nb) := rfl
theorem drK : getK (Str.ofString "k") (drD ns wy l a nb kk) = some (.int kk) := rfl
theorem stL : setK (Str.ofString "left") (.int d) (drD ns wy l a nb kk) = drD ns wy d a nb kk := rfl
theorem stA : setK (Str.ofString "at") (.int d) (drD ns wy l a nb kk) = drD ns wy l d nb kk := rfl
theorem stN : setK (Str.ofString "number") (.int d) (drD ns wy l a nb kk) = drD ns wy l a d kk := rfl
theorem stK : setK (Str.ofString "k") (.int d) (drD ns wy l a nb kk) = drD ns wy l a nb d := rfl
theorem drlen : (drD ns wy l a nb kk).length = 6 := rfl
end
theorem at_ints (ns : List Int) {i : Int} (h0 : 0 <= i) (h1 : i < ns.length) : ∃ x : Int, atD (ns.map D.int) i = some (.int x) := by
 have hi : i.toNat < ns.length := by omega
 refine ⟨ns[i.toNat], ?_⟩
 unfold atD dPl
 rw [List.length_map, if_pos h0, if_pos h1]
 show (ns.map D.int)[i.toNat]? = _
 rw [List.getElem?_map, List.getElem?_eq_getElem hi]; rfl
theorem cell_eq (ns : List Int) {k : Int} (h0 : 0 <= k) : ∃ x : Int, m_law_cell_at [.lst (ns.map .int), .int k] = some (.int x) := by
 by_cases h : k < ns.length
 ·obtain ⟨x, e⟩ := at_ints ns h0 h
  exact ⟨x, by simp [m_law_cell_at, b_law_cell_at, h, e]⟩
 ·exact ⟨0, by simp [m_law_cell_at, b_law_cell_at, h]⟩
theorem mixed_eq (c k : Int) : ∃ r : Int, m_law_mixed [.int c, .int k] = some (.int r) /\ 0 <= r := by
 have a : ∀ x : Int, 0 <= Int.fmod x 2147483647 /\ Int.fmod x 2147483647 < 2147483647 := fun x => ⟨Int.fmod_nonneg_of_pos _ (by decide), Int.fmod_lt_of_pos _ (by decide)⟩
 have m1 : ∀ x : Int, okMul x 48271 = true := fun x => okMul_r (by decide)
 have m2 : okMul 7919 k = true := okMul_l (by decide)
 have m4 : ∀ x y : Int, okMul (Int.fmod x 2147483647) y = true := fun x y => okMul_l (by have := a x; omega)
 have d1 : okDiv 1009 = true := okDiv_s (by decide) (by decide)
 exact ⟨_, by simp [m_law_mixed, b_law_mixed, m1, m2, m4, d1]; rfl, (a _).1⟩
noncomputable abbrev drE (ns : List Int) (wy l a nb kk : Int) (s1 s2 : Sl) : En := [.ow true (.dic (drD ns wy l a nb kk)), s1, s2]
theorem cond_no {ns : List Int} {wy l a nb kk : Int} {s1 s2 : Sl} (h : ¬ (wy = 1 /\ l = 0 /\ a < ns.length)) : l_law_next_2 (drE ns wy l a nb kk s1 s2) = some (false, drE ns wy l a nb kk s1 s2) := by
 by_cases h1 : wy = 1
 ·by_cases h2 : l = 0
  ·have h3 : ¬ a < ns.length := fun z => h ⟨h1, h2, z⟩
   simp [l_law_next_2, drW, drL, drA, drS, h1, h2, h3]
  ·simp [l_law_next_2, drW, drL, drA, drS, h1, h2]
 ·simp [l_law_next_2, drW, drL, drA, drS, h1]
theorem cond_yes {ns : List Int} {wy l a nb kk : Int} {s1 s2 : Sl} (h1 : wy = 1) (h2 : l = 0) (h3 : a < ns.length) : l_law_next_2 (drE ns wy l a nb kk s1 s2) = some (true, drE ns wy l a nb kk s1 s2) := by
 simp [l_law_next_2, drW, drL, drA, drS, h1, h2, h3]
theorem turn_next {ns : List Int} {wy l a nb kk : Int} {s1 s2 : Sl} (h0 : 0 <= a) (h3 : a < ns.length) : ∃ l' : Int, l_law_next_1 (drE ns wy l a nb kk s1 s2) = some (.nx (drE ns wy l' (a + 1) nb kk s1 s2)) /\ 0 <= l' := by
 obtain ⟨x, e⟩ := at_ints ns h0 h3
 refine ⟨(x.natAbs : Int), ?_, by omega⟩
 simp [l_law_next_1, drW, drL, drA, drS, e, drlen, stL, stA]
theorem while_next (ns : List Int) (wy nb kk : Int) (s1 s2 : Sl) : ∀ (m : Nat) (l a : Int), 0 <= l -> 1 <= a -> (ns.length : Int) - a < m -> ∀ f, m < f ->
  ∃ l' a' : Int, wGo l_law_next_2 l_law_next_1 f (drE ns wy l a nb kk s1 s2) = some (.nx (drE ns wy l' a' nb kk s1 s2)) /\ 0 <= l' /\ 1 <= a'
 | m, l, a, hl, ha, hm, f, hf => by
  obtain ⟨f, rfl⟩ : ∃ g, f = g + 1 := ⟨f - 1, by omega⟩
  rw [wGo_s]
  by_cases h : wy = 1 /\ l = 0 /\ a < ns.length
  ·obtain ⟨l', e, hl'⟩ := turn_next (wy := wy) (l := l) (nb := nb) (kk := kk) (s1 := s1) (s2 := s2) (show (0 : Int) <= a by omega) h.2.2
   rw [cond_yes h.1 h.2.1 h.2.2, wGa_t, e, wGb_n]
   match m, hm, hf with
   | 0, hm, _ => omega
   | m + 1, hm, hf => exact while_next ns wy nb kk s1 s2 m l' (a + 1) hl' (by omega) (by omega) f (by omega)
  ·rw [cond_no h, wGa_f]
   exact ⟨l, a, rfl, hl, ha⟩
noncomputable def DrOk (ns : List Int) (o : MO) : Prop := ∃ wy l a nb kk : Int, o = .dic (drD ns wy l a nb kk) /\ 0 <= l /\ 1 <= a /\ 0 <= kk
theorem next_ok {ns : List Int} (hn : ns.length <= 63) {o : MO} (h : DrOk ns o) : ∃ (r : Int) (o' : MO), m_law_next o [] = some (.int r, o') /\ 0 <= r /\ DrOk ns o' := by
 obtain ⟨wy, l, a, nb, kk, rfl, hl, ha, hk⟩ := h
 obtain ⟨l', a', e, hl', ha'⟩ := while_next ns wy nb kk .no .no 64 l a hl ha (by omega) 200 (by decide)
 by_cases hp : 0 < l'
 ·have d1 : okDiv 1000003 = true := okDiv_s (by decide) (by decide)
  have f0 := Int.fmod_nonneg_of_pos l' (b := 1000003) (by decide)
  have q : l'.fdiv 1000003 = l' / 1000003 := Int.fdiv_eq_ediv_of_nonneg _ (by decide)
  refine ⟨l'.fmod 1000003, .dic (drD ns wy (l' / 1000003) a' nb kk), ?_, f0, wy, l' / 1000003, a', nb, kk, rfl, Int.ediv_nonneg hl' (by decide), ha', hk⟩
  simp [m_law_next, b_law_next, List.replicate, e, drL, hp, d1, q, drlen, stL]
 ·obtain ⟨x, ex⟩ := cell_eq ns (k := kk + 1) (by omega)
  obtain ⟨r1, e1, _⟩ := mixed_eq (nb + x) (kk + 1)
  obtain ⟨r2, e2, h2⟩ := mixed_eq r1 7
  refine ⟨r2, .dic (drD ns wy l' a' r1 (kk + 1)), ?_, h2, wy, l', a', r1, kk + 1, rfl, hl', ha', by omega⟩
  simp [m_law_next, b_law_next, List.replicate, e, drL, hp, drK, drN, drS, drlen, stK, stN, ex, e1, e2]
end Fx
namespace Fx
open PySem
noncomputable abbrev alpha : Str := Str.ofString "abcdefghijklmnopqrstuvwxyz"
theorem alpha_len : alpha.length = 26 := by decide +kernel
theorem alpha_at : ∀ j : Nat, j < 26 -> alpha.cps.toList[j]? = some (97 + j) := by
 have e : alpha.cps.toList = List.range' 97 26 := by decide +kernel
 intro j hj
 rw [e, List.getElem?_range' hj]
 simp
theorem small_line {n : Nat} (h : n <= 1000) : n <= sizeLine := Nat.le_trans h (by decide)
theorem letter_ix {i : Int} (h0 : 0 <= i) (h1 : i < 26) : atS alpha i = some (.str (chS (97 + i.toNat))) := by
 unfold atS
 rw [if_pos (by rw [alpha_len]; exact small_line (by decide))]
 have l : alpha.cps.toList.length = 26 := by decide +kernel
 unfold dPl
 rw [l, if_pos h0, if_pos (by exact_mod_cast h1), bnd_some, alpha_at _ (by omega), bnd_some]
theorem fm26 (x : Int) : 0 <= x.fmod 26 /\ x.fmod 26 < 26 := ⟨Int.fmod_nonneg_of_pos _ (by decide), Int.fmod_lt_of_pos _ (by decide)⟩
noncomputable def ltr (x : Int) : Str := chS (97 + (x.fmod 26).toNat)
theorem ltr_ix (x : Int) : atS alpha (x.fmod 26) = some (.str (ltr x)) := letter_ix (fm26 x).1 (fm26 x).2
theorem ltr_len (x : Int) : (ltr x).length = 1 := rfl
theorem app_len (a b : Str) : (a ++ b).length = a.length + b.length := by
 show (a.cps ++ b.cps).size = _
 rw [Array.size_append]; rfl
theorem fGo_rngI {g : D -> En -> Option En} {B : FS} (P : Nat -> En -> Prop) : ∀ (n : Nat) (lo : Int) (k : Nat) (ρ : En), (∀ (i : Nat) (v : Int) ρ, i < k + n -> P i ρ -> ∃ ρ1 ρ2, g (.int v) ρ = some ρ1 /\ B ρ1 = some (.nx ρ2) /\ P (i + 1) ρ2) -> P k ρ -> ∃ ρ', fGo g B (rngD lo n) ρ = some (.nx ρ') /\ P (k + n) ρ'
 | 0, lo, k, ρ, _, p => ⟨ρ, rfl, p⟩
 | n + 1, lo, k, ρ, h, p => by
  obtain ⟨ρ1, ρ2, h1, h2, p2⟩ := h k lo ρ (by omega) p
  obtain ⟨ρ', e, p'⟩ := fGo_rngI P n (lo + 1) (k + 1) ρ2 (fun i v ρ hi q => h i v ρ (by omega) q) p2
  refine ⟨ρ', ?_, by rw [show k + (n + 1) = k + 1 + n by omega]; exact p'⟩
  rw [show rngD lo (n + 1) = .int lo :: rngD (lo + 1) n from rfl, fGo_c, h1, fGa_s, h2, fGb_n]
  exact e
theorem at_map {α : Type} (f : α -> D) (xs : List α) {i : Int} (h0 : 0 <= i) (h1 : i < xs.length) : ∃ x, x ∈ xs /\ atD (xs.map f) i = some (f x) := by
 have hi : i.toNat < xs.length := by omega
 refine ⟨xs[i.toNat], List.getElem_mem hi, ?_⟩
 unfold atD dPl
 rw [List.length_map, if_pos h0, if_pos h1]
 show (xs.map f)[i.toNat]? = _
 rw [List.getElem?_map, List.getElem?_eq_getElem hi]; rfl
end Fx
namespace Fx
open PySem
theorem pool_turn {ns : List Int} (hn : ns.length <= 63) (s4 : Sl) (i : Nat) (v : Int) (ρ : En) (hi : i < 100) (p : ∃ o wd s3, DrOk ns o /\ wd.length = i /\ ρ = [.ow true o, .im (.str alpha), .im (.str wd), s3, s4]) :
  ∃ ρ1 ρ2, gN 3 (.int v) ρ = some ρ1 /\ l_law_pool_1 ρ1 = some (.nx ρ2) /\ ∃ o wd s3, DrOk ns o /\ wd.length = i + 1 /\ ρ2 = [.ow true o, .im (.str alpha), .im (.str wd), s3, s4] := by
 obtain ⟨o, wd, s3, ho, hl, rfl⟩ := p
 obtain ⟨r, o', e, hr, ho'⟩ := next_ok hn ho
 have lz : wd.length + (ltr r).length <= sizeLine := small_line (by rw [ltr_len]; omega)
 refine ⟨_, [.ow true o', .im (.str alpha), .im (.str (wd ++ ltr r)), .im (.int v), s4], rfl, ?_, o', wd ++ ltr r, _, ho', by rw [app_len, ltr_len, hl], rfl⟩
 simp [l_law_pool_1, e, ltr_ix, lz]
theorem signs_go (wd : Str) (hw : wd.length <= 100) (at_ : Int) : ∀ cs : List Nat, ∃ ks : List Str, cGo tYes (e2 dAdd (e2 dAdd (eSl2 (eV 1) oN (oS (eV 2))) (eV 0)) (eSl2 (eV 1) (oS (e2 dAdd (eV 2) (eC (.int 1)))) oN)) [.im (.str wd), .im (.int at_)] (cs.map fun c => .str (chS c)) = some (ks.map .str) /\ ks.length = cs.length /\ (∀ k ∈ ks, k.length <= 300 /\ ∃ c ∈ cs, c ∈ k.cps.toList)
 | [] => ⟨[], rfl, rfl, fun k h => by cases h⟩
 | c :: r => by
  obtain ⟨ks, e, l, m⟩ := signs_go wd hw at_ r
  have wz : wd.length <= sizeLine := small_line (by omega)
  have s1 := Txt.slice_le wd none (some at_)
  have s2 := Txt.slice_le wd (some (at_ + 1)) none
  have cl : (chS c).length = 1 := rfl
  have z1 : (Txt.slice wd none (some at_)).length + (chS c).length <= sizeLine := small_line (by omega)
  have z2 : (Txt.slice wd none (some at_) ++ chS c).length + (Txt.slice wd (some (at_ + 1)) none).length <= sizeLine := small_line (by rw [app_len]; omega)
  refine ⟨(Txt.slice wd none (some at_) ++ chS c ++ Txt.slice wd (some (at_ + 1)) none) :: ks, ?_, by rw [List.length_cons, List.length_cons, l], fun k hk => ?_⟩
  rotate_left
  ·rcases List.mem_cons.mp hk with rfl | hk
   ·refine ⟨by rw [app_len, app_len]; omega, c, by simp, ?_⟩
    show c ∈ ((Txt.slice wd none (some at_)).cps ++ #[c] ++ (Txt.slice wd (some (at_ + 1)) none).cps).toList
    simp
   ·obtain ⟨m1, c', m2, m3⟩ := m k hk
    exact ⟨m1, c', by simp [m2], m3⟩
  rw [List.map_cons, cGo_c]
  show cGa _ _ _ _ (some (true, _)) = _
  have st : e2 dAdd (e2 dAdd (eSl2 (eV 1) oN (oS (eV 2))) (eV 0)) (eSl2 (eV 1) (oS (e2 dAdd (eV 2) (eC (.int 1)))) oN) [.im (.str (chS c)), .im (.str wd), .im (.int at_)]
    = some (.str (Txt.slice wd none (some at_) ++ chS c ++ Txt.slice wd (some (at_ + 1)) none), [.im (.str (chS c)), .im (.str wd), .im (.int at_)]) := by
   simp [wz, z1, z2]
  rw [cGa_t, st, cGb_s, e, cnsO_s]; rfl
noncomputable abbrev poolS : List Str := [Str.ofString "a", Str.ofString "b", Str.ofString "z", Str.ofString "aa", Str.ofString "ab", Str.ofString "az", Str.ofString "ba", Str.ofString "zz", Str.ofString "aaa"]
theorem pool_ok {ns : List Int} (hn : ns.length ≤ 63) {o : MO} (ho : DrOk ns o) : ∃ (ks : List Str) (o' : MO), m_law_pool o [] = some (.lst (ks.map .str), o') ∧ ks.length = 9 ∧ (∀ k ∈ ks, k.length ≤ 300) ∧ Str.ofString "q" ∉ ks ∧ DrOk ns o' := by
 obtain ⟨r1, o1, e1, h1, ho1⟩ := next_ok hn ho
 have f0 := Int.fmod_nonneg_of_pos r1 (b := 8) (by decide)
 have f1 := Int.fmod_lt_of_pos r1 (b := 8) (by decide)
 have el : (Str.ofString "").length = 0 := by decide +kernel
 obtain ⟨ρ', el', o2, wd, s3, ho2, hl, rfl⟩ := fGo_rngI (g := gN 3) (B := l_law_pool_1) (fun i ρ => ∃ o wd s3, DrOk ns o /\ wd.length = i /\ ρ = [.ow true o, .im (.str alpha), .im (.str wd), s3, .no]) (1 + r1.fmod 8).toNat 0 0
  [.ow true o1, .im (.str alpha), .im (.str (Str.ofString "")), .no, .no] (fun i v ρ hi p => pool_turn hn .no i v ρ (by omega) p) ⟨o1, _, _, ho1, el, rfl⟩
 obtain ⟨r2, o3, e3, h3, ho3⟩ := next_ok hn ho2
 have wz : wd.length <= sizeLine := small_line (by omega)
 have q1 : -4611686018427387904 <= 1 + r1.fmod 8 := by omega
 have q2 : 1 + r1.fmod 8 < 4611686018427387904 := by omega
 by_cases h : r2.fmod 3 = 1
 ·refine ⟨poolS, o3, ?_, rfl, by decide +kernel, by decide +kernel, ho3⟩
  simp [m_law_pool, b_law_pool, List.replicate, e1, q1, q2, el', e3, h]
 ·obtain ⟨r3, o4, e4, h4, ho4⟩ := next_ok hn ho3
  have nz : ¬ (wd.length : Int) = 0 := by omega
  have nz' : ¬ wd.length = 0 := by omega
  obtain ⟨ks, ek, lk, mk⟩ := signs_go wd (by omega) (r3.fmod (wd.length : Int)) (Str.ofString "abcdefghz").cps.toList
  have sl : (Str.ofString "abcdefghz").cps.toList.length = 9 := by decide +kernel
  have cl : (chs (Str.ofString "abcdefghz")).length ≤ sizeLine := by
   unfold chs
   rw [List.length_map, sl]; exact small_line (by decide)
  have ek' : cGo tYes (e2 dAdd (e2 dAdd (eSl2 (eV 1) oN (oS (eV 2))) (eV 0)) (eSl2 (eV 1) (oS (e2 dAdd (eV 2) (eC (.int 1)))) oN)) [.im (.str wd), .im (.int (r3.fmod (wd.length : Int)))] (chs (Str.ofString "abcdefghz")) = some (ks.map .str) := ek
  refine ⟨ks, o4, ?_, by rw [lk, sl], fun k hk => (mk k hk).1, fun hq => ?_, ho4⟩
  rotate_left
  ·obtain ⟨_, c, c1, c2⟩ := mk _ hq
   have d : ∀ c ∈ (Str.ofString "abcdefghz").cps.toList, ¬ c ∈ (Str.ofString "q").cps.toList := by decide +kernel
   exact d c c1 c2
  simp [m_law_pool, b_law_pool, List.replicate, e1, q1, q2, el', e3, h, e4, wz, nz, nz', ek', cl]
end Fx
namespace Fx
open PySem
theorem names_go {ns : List Int} (hn : ns.length <= 63) (ρ : En) : ∀ (ks : List Str) (o : MO), DrOk ns o -> ∃ (ks' : List Str) (o' : MO), cGoB (tB (e2 dEq (e2 dMod (eFb 1 m_law_next aN) (eC (.int 3))) (eC (.int 1)))) (eV 0) ρ 0 [0] 0 o (ks.map .str) = some (ks'.map .str, o') /\ ks'.length <= ks.length /\ (∀ k ∈ ks', k ∈ ks) /\ DrOk ns o'
 | [], o, ho => ⟨[], o, rfl, Nat.le_refl _, fun k h => h, ho⟩
 | k :: r, o, ho => by
  obtain ⟨v, o1, e, _, ho1⟩ := next_ok hn ho
  obtain ⟨ks', o', e', l', m', ho'⟩ := names_go hn ρ r o1 ho1
  have fr : frAt ρ 0 o [0] = some [.ow true o] := rfl
  rw [List.map_cons, cGoB_cons, fr, bnd_some]
  by_cases h : v.fmod 3 = 1
  ·have t : tB (e2 dEq (e2 dMod (eFb 1 m_law_next aN) (eC (.int 3))) (eC (.int 1))) [.im (.str k), .ow true o] = some (true, [.im (.str k), .ow true o1]) := by simp [e, h]
   have f : eV 0 [.im (.str k), .ow true o1] = some (.str k, [.im (.str k), .ow true o1]) := rfl
   rw [t, bnd_some]
   refine ⟨k :: ks', o', ?_, by rw [List.length_cons, List.length_cons]; omega, fun x hx => by rcases List.mem_cons.mp hx with rfl | hx; exact List.mem_cons_self; exact List.mem_cons_of_mem _ (m' x hx), ho'⟩
   show (if true = true then bnd (eV 0 [.im (.str k), .ow true o1]) _ else _) = _
   rw [if_pos rfl, f, bnd_some]
   show bnd (some o1) _ = _
   rw [bnd_some, e', bnd_some]; rfl
  ·have t : tB (e2 dEq (e2 dMod (eFb 1 m_law_next aN) (eC (.int 3))) (eC (.int 1))) [.im (.str k), .ow true o] = some (false, [.im (.str k), .ow true o1]) := by simp [e, h]
   rw [t, bnd_some]
   refine ⟨ks', o', ?_, by rw [List.length_cons]; omega, fun x hx => List.mem_cons_of_mem _ (m' x hx), ho'⟩
   show (if false = true then _ else bnd (some o1) _) = _
   rw [if_neg (by simp), bnd_some, e']
theorem dpDs_strs : ∀ ks : List Str, dpDs (ks.map .str) = 0
 | [] => rfl
 | k :: r => by rw [List.map_cons, dpDs_cons, dpD_str, dpDs_strs r]; rfl
theorem eqDs_nil_strs (ks : List Str) : eqDs (ks.map .str) [] = ks.isEmpty := by
 cases ks <;> simp
theorem keys_ok {ns : List Int} (hn : ns.length ≤ 63) {o : MO} (ho : DrOk ns o) {ks : List Str} (hk : ks.length = 9) : ∃ (w : Str) (ts : List Str) (o' : MO), m_law_keys o [.lst (ks.map .str)] = some (.tup [.str w, .tup (ts.map .str)], o') ∧ (w = Str.ofString "only" ∧ ts ≠ [] ∨ w = Str.ofString "but") ∧ (∃ ks', ts = sortS (addAll [] ks') ∧ (∀ k ∈ ks', k ∈ ks) ∧ ks'.length ≤ 9) ∧ DrOk ns o' := by
 obtain ⟨ks', o1, e1, l1, m1, ho1⟩ := names_go hn [.ow true o, .im (.lst (ks.map .str)), .no] ks o ho
 have lz : ks.length <= sizeLine := small_line (by omega)
 have ss := sortSetL_strs ks' (by omega)
 have dp := dpDs_strs ks'
 have q0 := eqDs_nil_strs ks'
 cases hE : ks'.isEmpty with
 | true =>
  rw [hE] at q0
  exact ⟨Str.ofString "but", sortS (addAll [] ks'), o1, by simp [m_law_keys, b_law_keys, List.replicate, e1, lz, dp, q0, ss], .inr rfl, ⟨ks', rfl, m1, by omega⟩, ho1⟩
 | false =>
  rw [hE] at q0
  obtain ⟨r, o2, e2', _, ho2⟩ := next_ok hn ho1
  have ne : sortS (addAll [] ks') ≠ [] := fun z => by
   cases ks' with
   | nil => cases hE
   | cons y r =>
    have : y ∈ sortS (addAll [] (y :: r)) := (sortS_perm _).mem_iff.mpr (mem_addAll.mpr (.inr List.mem_cons_self))
    rw [z] at this; cases this
  by_cases h : r.fmod 2 = 1
  ·exact ⟨Str.ofString "but", sortS (addAll [] ks'), o2, by simp [m_law_keys, b_law_keys, List.replicate, e1, lz, dp, q0, ss, e2', h], .inr rfl, ⟨ks', rfl, m1, by omega⟩, ho2⟩
  ·exact ⟨Str.ofString "only", sortS (addAll [] ks'), o2, by simp [m_law_keys, b_law_keys, List.replicate, e1, lz, dp, q0, ss, e2', h], .inl ⟨rfl, ne⟩, ⟨ks', rfl, m1, by omega⟩, ho2⟩
end Fx
namespace Fx
open PySem
noncomputable abbrev wO (o : Bool) : Str := if o then Str.ofString "only" else Str.ofString "but"
noncomputable def KK (o : Bool) (ts : List Str) : D := .tup [.str (wO o), .tup (ts.map .str)]
noncomputable def inK (o : Bool) (ts : List Str) (k : Str) : Bool := decide (k ∈ ts) == o
theorem inD_str (k : Str) : ∀ ts : List Str, inD (.str k) (ts.map .str) = decide (k ∈ ts)
 | [] => rfl
 | t :: r => by
  have ih := inD_str k r
  unfold inD at ih ⊢
  rw [List.map_cons, List.any_cons, ih, eqD_str_str]
  by_cases h : t = k
  ·simp [h]
  ·have : ¬ k = t := fun e => h e.symm
   simp [h, this]
theorem eqDs_strs : ∀ xs ys : List Str, eqDs (xs.map .str) (ys.map .str) = decide (xs = ys)
 | [], [] => by simp
 | [], y :: r => by simp
 | x :: r, [] => by simp
 | x :: r, y :: t => by
  have ih := eqDs_strs r t
  simp [ih]
theorem okIn_strs (k : Str) : ∀ ks : List Str, okIn (.str k) (ks.map .str) = true := fun ks => by
 unfold okIn
 rw [show flatD (.str k) = true from rfl, Bool.true_and, List.all_eq_true]
 intro x hx
 obtain ⟨y, _, rfl⟩ := List.mem_map.mp hx
 rfl
theorem ix2_0 (a b : D) : atD [a, b] 0 = some a := rfl
theorem ix2_1 (a b : D) : atD [a, b] 1 = some b := rfl
theorem only_but : ¬ (Str.ofString "but" = Str.ofString "only") := by decide +kernel
theorem but_only : ¬ (Str.ofString "only" = Str.ofString "but") := by decide +kernel
theorem hold_eq (o : Bool) (ts : List Str) (k : Str) : m_keys_hold [KK o ts, .str k] = some (.bl (inK o ts k)) := by
 have ok := okIn_strs k ts
 have e := inD_str k ts
 cases o <;> by_cases h : k ∈ ts <;> simp [KK, inK, m_keys_hold, b_keys_hold, ix2_0, ix2_1, ok, e, h, only_but]
theorem in_eq (o : Bool) (ts : List Str) (k : Str) : m_law_in [KK o ts, .str k] = some (.bl (inK o ts k)) := by
 have ok := okIn_strs k ts
 have e := inD_str k ts
 cases o <;> by_cases h : k ∈ ts <;> simp [KK, inK, m_law_in, b_law_in, ix2_0, ix2_1, ok, e, h, only_but]
theorem hold_go (o : Bool) (ts : List Str) : ∀ ks : List Str, cGo (tV (eF m_keys_hold (aC (eV 1) (aC (eV 0) aN)))) (eV 0) [.im (KK o ts)] (ks.map .str) = some ((ks.filter (inK o ts)).map .str)
 | [] => rfl
 | k :: r => by
  have ih := hold_go o ts r
  have h := hold_eq o ts k
  rw [List.map_cons, cGo_c]
  cases hb : inK o ts k with
  | false =>
   rw [hb] at h
   have t : tV (eF m_keys_hold (aC (eV 1) (aC (eV 0) aN))) [.im (.str k), .im (KK o ts)] = some (false, [.im (.str k), .im (KK o ts)]) := by simp [h]
   rw [t, cGa_f, ih, List.filter_cons_of_neg (by simp [hb])]
  | true =>
   rw [hb] at h
   have t : tV (eF m_keys_hold (aC (eV 1) (aC (eV 0) aN))) [.im (.str k), .im (KK o ts)] = some (true, [.im (.str k), .im (KK o ts)]) := by simp [h]
   have f : eV 0 [.im (.str k), .im (KK o ts)] = some (.str k, [.im (.str k), .im (KK o ts)]) := rfl
   rw [t, cGa_t, f, cGb_s, ih, cnsO_s, List.filter_cons_of_pos (by simp [hb]), List.map_cons]
noncomputable def meetD (o : Bool) (t1 t2 : List Str) : D := if t1.filter (inK o t2) = [] then .non else KK true (t1.filter (inK o t2))
theorem meet_only_1 (o : Bool) (t1 t2 : List Str) (h1 : t1.length <= 100) : m_keys_meet_1 [KK true t1, KK o t2] = some (meetD o t1 t2) := by
 have g := hold_go o t2 t1
 have lz : t1.length <= sizeLine := small_line (by omega)
 have l2 : (t1.filter (inK o t2)).length <= sizeLine := small_line (Nat.le_trans (List.length_filter_le _ _) (by omega))
 unfold meetD
 unfold KK at g
 by_cases z : t1.filter (inK o t2) = []
 ·rw [z] at g
  rw [if_pos z]
  cases o <;> simp [KK, m_keys_meet_1, b_keys_meet_1, List.replicate, ix2_0, ix2_1, but_only, only_but, lz, g]
 ·rw [if_neg z]
  have ze : (t1.filter (inK o t2)).isEmpty = false := List.isEmpty_eq_false_iff.mpr z
  cases o <;> simp [KK, m_keys_meet_1, b_keys_meet_1, List.replicate, ix2_0, ix2_1, but_only, only_but, lz, l2, g, ze]
theorem meet_only (o : Bool) (t1 t2 : List Str) (h1 : t1.length <= 100) : m_keys_meet [KK true t1, KK o t2] = some (meetD o t1 t2) := by
 have g := hold_go o t2 t1
 have lz : t1.length <= sizeLine := small_line (by omega)
 have l2 : (t1.filter (inK o t2)).length <= sizeLine := small_line (Nat.le_trans (List.length_filter_le _ _) (by omega))
 unfold meetD
 unfold KK at g
 by_cases z : t1.filter (inK o t2) = []
 ·rw [z] at g
  rw [if_pos z]
  cases o <;> simp [KK, m_keys_meet, b_keys_meet, List.replicate, ix2_0, ix2_1, but_only, only_but, lz, g]
 ·rw [if_neg z]
  have ze : (t1.filter (inK o t2)).isEmpty = false := List.isEmpty_eq_false_iff.mpr z
  cases o <;> simp [KK, m_keys_meet, b_keys_meet, List.replicate, ix2_0, ix2_1, but_only, only_but, lz, l2, g, ze]
theorem meet_but_only (t1 t2 : List Str) (h2 : t2.length <= 100) : m_keys_meet [KK false t1, KK true t2] = some (meetD false t2 t1) := by
 have g := meet_only_1 false t2 t1 h2
 unfold KK at g
 simp [KK, m_keys_meet, b_keys_meet, List.replicate, ix2_0, ix2_1, but_only, only_but, g]
noncomputable def uni (t1 t2 : List Str) : List Str := sortS (addAll [] (t1 ++ t2))
theorem meet_buts (t1 t2 : List Str) (h : t1.length + t2.length <= 60) : m_keys_meet [KK false t1, KK false t2] = some (KK false (uni t1 t2)) := by
 have e := sortSetL_strs (t1 ++ t2) (by rw [List.length_append]; omega)
 rw [List.map_append] at e
 have l3 : (sortS (addAll [] (t1 ++ t2))).length <= sizeLine := small_line (by
  rw [(sortS_perm _).length_eq]
  have := addAll_len (t1 ++ t2) []
  rw [List.length_append, List.length_nil] at this; omega)
 have eb : bSortOr [.tup (t1.map .str), .tup (t2.map .str)] = some (.lst ((sortS (addAll [] (t1 ++ t2))).map .str)) := by
  rw [bSortOr_eq, sqA_t, bnd_some, sqA_t, bnd_some, if_pos (by rw [List.length_map, List.length_map]; exact h), e]
 simp [KK, uni, m_keys_meet, b_keys_meet, List.replicate, ix2_0, ix2_1, but_only, only_but, eb, l3]
end Fx
namespace St
structure S where
 lo : Option Int
 hi : Option Int
 st : Int
 re : Int
 deriving DecidableEq
noncomputable def leO (lo : Option Int) (v : Int) : Prop := ∀ l, lo = some l -> l <= v
noncomputable def geO (hi : Option Int) (v : Int) : Prop := ∀ h, hi = some h -> v <= h
structure mem (s : S) (v : Int) : Prop where
 l : leO s.lo v
 h : geO s.hi v
 r : v % s.st = s.re
structure Canon (s : S) : Prop where
 pos : 0 < s.st
 r0 : 0 <= s.re
 r1 : s.re < s.st
 lo : ∀ l, s.lo = some l -> l % s.st = s.re
 hi : ∀ h, s.hi = some h -> h % s.st = s.re
 lh : ∀ l h, s.lo = some l -> s.hi = some h -> l < h \/ (l = h /\ s.st = 1 /\ s.re = 0)
theorem cong {st x y : Int} : x % st = y % st ↔ st ∣ x - y := by
 rw [Int.emod_eq_emod_iff_emod_sub_eq_zero]
 exact ⟨Int.dvd_of_emod_eq_zero, Int.emod_eq_zero_of_dvd⟩
theorem cong' {st re x : Int} (h0 : 0 <= re) (h1 : re < st) : x % st = re ↔ st ∣ x - re := by
 rw [<- cong, Int.emod_eq_of_lt h0 h1]
theorem far {st x y : Int} (h : x % st = y % st) (hl : x < y) : x + st <= y := by
 have d := cong.mp h.symm
 have := Int.le_of_dvd (by omega) d
 omega
theorem up {l st re : Int} (hp : 0 < st) (h0 : 0 <= re) (h1 : re < st) :
  (l + (re - l) % st) % st = re /\ l <= l + (re - l) % st /\ ∀ v, v % st = re -> l <= v -> l + (re - l) % st <= v := by
 have a := Int.emod_nonneg (re - l) (Int.ne_of_gt hp)
 have b := Int.emod_lt_of_pos (re - l) hp
 have e : (l + (re - l) % st) % st = re := by
  rw [Int.add_emod_emod, show l + (re - l) = re by omega, Int.emod_eq_of_lt h0 h1]
 refine ⟨e, by omega, fun v hv hl => ?_⟩
 by_cases hh : v < l + (re - l) % st
 ·have := far (hv.trans e.symm) hh
  omega
 ·omega
theorem down {h st re : Int} (hp : 0 < st) (h0 : 0 <= re) (h1 : re < st) :
  (h - (h - re) % st) % st = re /\ h - (h - re) % st <= h /\ ∀ v, v % st = re -> v <= h -> v <= h - (h - re) % st := by
 have a := Int.emod_nonneg (h - re) (Int.ne_of_gt hp)
 have b := Int.emod_lt_of_pos (h - re) hp
 have e : (h - (h - re) % st) % st = re := by
  rw [Int.sub_emod_emod, show h - (h - re) = re by omega, Int.emod_eq_of_lt h0 h1]
 refine ⟨e, by omega, fun v hv hl => ?_⟩
 by_cases hh : h - (h - re) % st < v
 ·have := far (e.trans hv.symm) hh
  omega
 ·omega
noncomputable def first (lo : Option Int) (st re : Int) : Option Int := lo.map fun l => l + (re - l) % st
noncomputable def last (hi : Option Int) (st re : Int) : Option Int := hi.map fun h => h - (h - re) % st
noncomputable def made2 (f l : Option Int) (st re : Int) : Option S :=
 match f, l with
 | some a, some b => if b < a then none else if a = b then some ⟨some a, some b, 1, 0⟩ else some ⟨some a, some b, st, re⟩
 | f, l => some ⟨f, l, st, re⟩
noncomputable def made (lo hi : Option Int) (st re : Int) : Option S :=
 if 0 <= re /\ re < st then made2 (first lo st re) (last hi st re) st re else none
structure Between (lo hi : Option Int) (st re v : Int) : Prop where
 l : leO lo v
 h : geO hi v
 r : v % st = re
noncomputable def Tells (r : Option S) (p : Int -> Prop) : Prop :=
 match r with
 | none => ∀ v, ¬ p v
 | some s => Canon s /\ ∀ v, mem s v ↔ p v
theorem leO_first {lo : Option Int} {st re v : Int} (hp : 0 < st) (h0 : 0 <= re) (h1 : re < st) (hv : v % st = re) : leO (first lo st re) v ↔ leO lo v := by
 cases lo with
 | none => exact ⟨fun _ l e => (nomatch e), fun _ l e => (nomatch e)⟩
 | some l =>
  obtain ⟨_, a, b⟩ := up (l := l) hp h0 h1
  constructor
  ·intro h x e; cases e; exact Int.le_trans a (h _ rfl)
  ·intro h x e; cases e; exact b v hv (h _ rfl)
theorem geO_last {hi : Option Int} {st re v : Int} (hp : 0 < st) (h0 : 0 <= re) (h1 : re < st) (hv : v % st = re) : geO (last hi st re) v ↔ geO hi v := by
 cases hi with
 | none => exact ⟨fun _ l e => (nomatch e), fun _ l e => (nomatch e)⟩
 | some l =>
  obtain ⟨_, a, b⟩ := down (h := l) hp h0 h1
  constructor
  ·intro h x e; cases e; exact Int.le_trans (h _ rfl) a
  ·intro h x e; cases e; exact b v hv (h _ rfl)
theorem first_mod {lo : Option Int} {st re l : Int} (hp : 0 < st) (h0 : 0 <= re) (h1 : re < st) (e : first lo st re = some l) : l % st = re := by
 cases lo with
 | none => cases e
 | some x => cases e; exact (up hp h0 h1).1
theorem last_mod {hi : Option Int} {st re l : Int} (hp : 0 < st) (h0 : 0 <= re) (h1 : re < st) (e : last hi st re = some l) : l % st = re := by
 cases hi with
 | none => cases e
 | some x => cases e; exact (down hp h0 h1).1
theorem made_ok {lo hi : Option Int} {st re : Int} (hp : 0 < st) (h0 : 0 <= re) (h1 : re < st) : Tells (made lo hi st re) (Between lo hi st re) := by
 unfold made
 rw [if_pos ⟨h0, h1⟩]
 have key : ∀ v, v % st = re -> ((leO (first lo st re) v /\ geO (last hi st re) v) ↔ (leO lo v /\ geO hi v)) := fun v hv => by
  rw [leO_first hp h0 h1 hv, geO_last hp h0 h1 hv]
 have fm := fun l => first_mod (lo := lo) (l := l) hp h0 h1
 have lm := fun l => last_mod (hi := hi) (l := l) hp h0 h1
 generalize first lo st re = f at key fm
 generalize last hi st re = g at key lm
 have plain : (∀ a b, f = some a -> g = some b -> a < b) -> Tells (some ⟨f, g, st, re⟩) (Between lo hi st re) := fun hlt => by
  refine ⟨⟨hp, h0, h1, fm, lm, fun l h e1 e2 => .inl (hlt l h e1 e2)⟩, fun v => ⟨fun m => ?_, fun m => ?_⟩⟩
  ·have := (key v m.r).mp ⟨m.l, m.h⟩
   exact ⟨this.1, this.2, m.r⟩
  ·have := (key v m.r).mpr ⟨m.l, m.h⟩
   exact ⟨this.1, this.2, m.r⟩
 cases f with
 | none => exact plain fun a b e => nomatch e
 | some a =>
  cases g with
  | none => exact plain fun a b _ e => nomatch e
  | some b =>
   unfold made2
   dsimp only
   by_cases h2 : b < a
   ·rw [if_pos h2]
    intro v m
    obtain ⟨x, y⟩ := (key v m.r).mpr ⟨m.l, m.h⟩
    have := x a rfl; have := y b rfl
    omega
   ·rw [if_neg h2]
    by_cases h3 : a = b
    ·rw [if_pos h3]
     subst h3
     refine ⟨⟨Int.zero_lt_one, Int.le_refl _, Int.zero_lt_one, fun l _ => by simp, fun l _ => by simp, fun l h e1 e2 => .inr ⟨by cases e1; cases e2; rfl, rfl, rfl⟩⟩, fun v => ⟨fun m => ?_, fun m => ?_⟩⟩
     ·have e : v = a := by
       have := m.l a rfl; have := m.h a rfl; omega
      have hv : v % st = re := by rw [e]; exact fm a rfl
      have := (key v hv).mp ⟨m.l, m.h⟩
      exact ⟨this.1, this.2, hv⟩
     ·have := (key v m.r).mpr ⟨m.l, m.h⟩
      exact ⟨this.1, this.2, by simp⟩
    ·rw [if_neg h3]
     exact plain fun x y e1 e2 => by cases e1; cases e2; omega
theorem made_none {lo hi : Option Int} {st re : Int} (h : ¬ (0 <= re /\ re < st)) : made lo hi st re = none := by
 unfold made; rw [if_neg h]
theorem made_st {lo hi : Option Int} {st re : Int} {s : S} (h : made lo hi st re = some s) : s.st = st \/ s.st = 1 := by
 unfold made at h
 split at h
 ·unfold made2 at h
  split at h
  ·split at h
   ·cases h
   ·split at h
    ·cases h; exact .inr rfl
    ·cases h; exact .inl rfl
  ·cases h; exact .inl rfl
 ·cases h
theorem Canon.some {s : S} (c : Canon s) : ∃ v, mem s v := by
 cases e : s.lo with
 | some l =>
  refine ⟨l, fun x h => by rw [e] at h; cases h; omega, fun h hh => ?_, c.lo l e⟩
  rcases c.lh l h e hh with z | ⟨z, _⟩ <;> omega
 | none =>
  cases e2 : s.hi with
  | some h => exact ⟨h, ⟨fun x q => (by rw [e] at q; cases q), fun x q => (by rw [e2] at q; cases q; omega), c.hi h e2⟩⟩
  | none => exact ⟨s.re, ⟨fun x q => (by rw [e] at q; cases q), fun x q => (by rw [e2] at q; cases q), Int.emod_eq_of_lt c.r0 c.r1⟩⟩
theorem Canon.memLo {s : S} (c : Canon s) {l : Int} (e : s.lo = Option.some l) : mem s l := by
 refine ⟨fun x h => by rw [e] at h; cases h; omega, fun h hh => ?_, c.lo l e⟩
 rcases c.lh l h e hh with z | ⟨z, _⟩ <;> omega
theorem Canon.memHi {s : S} (c : Canon s) {h : Int} (e : s.hi = Option.some h) : mem s h := by
 refine ⟨fun x hh => ?_, fun x q => by rw [e] at q; cases q; omega, c.hi h e⟩
 rcases c.lh x h hh e with z | ⟨z, _⟩ <;> omega
theorem Canon.down {s : S} (c : Canon s) {v : Int} (m : mem s v) (h : leO s.lo (v - s.st)) : mem s (v - s.st) := by
 have := c.pos
 refine ⟨h, fun x e => by have := m.h x e; omega, ?_⟩
 rw [Int.sub_emod_right]; exact m.r
theorem Canon.up {s : S} (c : Canon s) {v : Int} (m : mem s v) (h : geO s.hi (v + s.st)) : mem s (v + s.st) := by
 have := c.pos
 refine ⟨fun x e => by have := m.l x e; omega, h, ?_⟩
 rw [Int.add_emod_right]; exact m.r
theorem Canon.lo_of {s : S} (c : Canon s) {l : Int} : s.lo = Option.some l ↔ (mem s l /\ ∀ v, mem s v -> l <= v) := by
 constructor
 ·exact fun e => ⟨c.memLo e, fun v m => m.l l e⟩
 ·rintro ⟨m, h⟩
  cases e : s.lo with
  | none =>
   have := h _ (c.down m fun x q => by rw [e] at q; cases q)
   have := c.pos
   omega
  | some x =>
   have a := h _ (c.memLo e)
   have b := m.l x e
   rw [show x = l by omega]
theorem Canon.hi_of {s : S} (c : Canon s) {l : Int} : s.hi = Option.some l ↔ (mem s l /\ ∀ v, mem s v -> v <= l) := by
 constructor
 ·exact fun e => ⟨c.memHi e, fun v m => m.h l e⟩
 ·rintro ⟨m, h⟩
  cases e : s.hi with
  | none =>
   have := h _ (c.up m fun x q => by rw [e] at q; cases q)
   have := c.pos
   omega
  | some x =>
   have a := h _ (c.memHi e)
   have b := m.h x e
   rw [show x = l by omega]
theorem opt_ext {a b : Option Int} (h : ∀ l, a = some l ↔ b = some l) : a = b := by
 cases a with
 | none => cases b with
  | none => rfl
  | some y => exact ((h y).mpr rfl)
 | some x => exact ((h x).mp rfl).symm
theorem step_le {s t : S} (cs : Canon s) (ct : Canon t) (h : ∀ v, mem s v ↔ mem t v) (hlo : s.lo = t.lo) (hhi : s.hi = t.hi)
  (two : ∀ l h, s.lo = some l -> s.hi = some h -> l < h) : t.st ∣ s.st /\ s.re % t.st = t.re := by
 have p := cs.pos
 have ex : ∃ v, mem s v /\ mem s (v + s.st) := by
  cases e : s.lo with
  | some l =>
   refine ⟨l, cs.memLo e, cs.up (cs.memLo e) fun x q => ?_⟩
   have hlt := two l x e q
   have := far ((cs.lo l e).trans (cs.hi x q).symm) hlt
   omega
  | none =>
   obtain ⟨v, m⟩ := cs.some
   refine ⟨v - s.st, cs.down m (fun x q => by rw [e] at q; cases q), ?_⟩
   rw [show v - s.st + s.st = v by omega]; exact m
 obtain ⟨v, m1, m2⟩ := ex
 have n1 := (h _).mp m1
 have n2 := (h _).mp m2
 have d : t.st ∣ s.st := by
  have := cong.mp (n2.r.trans n1.r.symm)
  rw [show v + s.st - v = s.st by omega] at this
  exact this
 refine ⟨d, ?_⟩
 have e1 : t.st ∣ v - s.re := Int.dvd_trans d ((cong' cs.r0 cs.r1).mp m1.r)
 have e2 := cong.mpr e1
 rw [<- e2]; exact n1.r
theorem Canon.ext {s t : S} (cs : Canon s) (ct : Canon t) (h : ∀ v, mem s v ↔ mem t v) : s = t := by
 have hlo : s.lo = t.lo := opt_ext fun l => by
  rw [cs.lo_of, ct.lo_of, h]
  exact ⟨fun ⟨a, b⟩ => ⟨a, fun v m => b v ((h v).mpr m)⟩, fun ⟨a, b⟩ => ⟨a, fun v m => b v ((h v).mp m)⟩⟩
 have hhi : s.hi = t.hi := opt_ext fun l => by
  rw [cs.hi_of, ct.hi_of, h]
  exact ⟨fun ⟨a, b⟩ => ⟨a, fun v m => b v ((h v).mpr m)⟩, fun ⟨a, b⟩ => ⟨a, fun v m => b v ((h v).mp m)⟩⟩
 have fin : s.st = t.st -> s.re = t.re -> s = t := fun a b => by
  cases s; cases t
  simp only [S.mk.injEq] at *
  exact ⟨hlo, hhi, a, b⟩
 by_cases one : ∃ l, s.lo = Option.some l /\ s.hi = Option.some l
 ·obtain ⟨l, e1, e2⟩ := one
  have z1 := cs.lh l l e1 e2
  have z2 := ct.lh l l (hlo ▸ e1) (hhi ▸ e2)
  rcases z1 with z | ⟨_, a, b⟩
  ·omega
  rcases z2 with z | ⟨_, a', b'⟩
  ·omega
  exact fin (by omega) (by omega)
 ·have twos : ∀ l h, s.lo = Option.some l -> s.hi = Option.some h -> l < h := fun l x e1 e2 => by
   rcases cs.lh l x e1 e2 with z | ⟨z, _⟩
   ·exact z
   ·exact absurd ⟨l, e1, by rw [e2, z]⟩ one
  obtain ⟨a, b⟩ := step_le cs ct h hlo hhi twos
  obtain ⟨a', b'⟩ := step_le ct cs (fun v => (h v).symm) hlo.symm hhi.symm fun l x e1 e2 => twos l x (hlo.trans e1) (hhi.trans e2)
  have p := cs.pos; have p' := ct.pos
  have l1 := Int.le_of_dvd p a
  have l2 := Int.le_of_dvd p' a'
  have e : s.st = t.st := by omega
  refine fin e ?_
  rw [<- e] at b
  rw [<- b, Int.emod_eq_of_lt cs.r0 cs.r1]
theorem Tells.inj {r r' : Option S} {p : Int -> Prop} (h : Tells r p) (h' : Tells r' p) : r = r' := by
 cases r with
 | none =>
  cases r' with
  | none => rfl
  | some t => obtain ⟨v, m⟩ := h'.1.some; exact absurd ((h'.2 v).mp m) (h v)
 | some s =>
  cases r' with
  | none => obtain ⟨v, m⟩ := h.1.some; exact absurd ((h.2 v).mp m) (h' v)
  | some t => rw [h.1.ext h'.1 fun v => (h.2 v).trans (h'.2 v).symm]
theorem Tells.imp {r : Option S} {p q : Int -> Prop} (h : Tells r p) (e : ∀ v, p v ↔ q v) : Tells r q := by
 cases r with
 | none => exact fun v m => h v ((e v).mpr m)
 | some s => exact ⟨h.1, fun v => (h.2 v).trans (e v)⟩
theorem Canon.tells {s : S} (c : Canon s) : Tells (Option.some s) (mem s) := ⟨c, fun _ => Iff.rfl⟩
noncomputable def ab (a : Int) : Int := if a < 0 then -a else a
noncomputable def mv (a b : Int) (o : Option Int) : Option Int := o.map fun e => a * e + b
noncomputable def moved (s : S) (a b : Int) : Option S :=
 if a < 0 then made (mv a b s.hi) (mv a b s.lo) (ab a * s.st) ((a * s.re + b) % (ab a * s.st))
 else made (mv a b s.lo) (mv a b s.hi) (ab a * s.st) ((a * s.re + b) % (ab a * s.st))
theorem ab_pos {a : Int} (h : a ≠ 0) : 0 < ab a := by unfold ab; split <;> omega
theorem mul_le_iff {a x y : Int} (h : 0 < a) : a * x <= a * y ↔ x <= y := Int.mul_le_mul_left h
theorem mul_le_iff' {a x y : Int} (h : a < 0) : a * x <= a * y ↔ y <= x := by
 have := Int.mul_le_mul_left (a := -a) (b := y) (c := x) (by omega)
 rw [<- this, Int.neg_mul, Int.neg_mul]; omega
theorem leO_mv {a b v : Int} {o : Option Int} (h : 0 < a) : leO (mv a b o) (a * v + b) ↔ leO o v := by
 cases o with
 | none => exact ⟨fun _ l e => (nomatch e), fun _ l e => (nomatch e)⟩
 | some l =>
  have k := mul_le_iff (x := l) (y := v) h
  constructor
  ·intro z x e; cases e; have z' : a * l + b <= a * v + b := z _ rfl; exact k.mp (by omega)
  ·intro z x e; cases e; have := k.mpr (z _ rfl); show a * l + b <= a * v + b; omega
theorem geO_mv {a b v : Int} {o : Option Int} (h : 0 < a) : geO (mv a b o) (a * v + b) ↔ geO o v := by
 cases o with
 | none => exact ⟨fun _ l e => (nomatch e), fun _ l e => (nomatch e)⟩
 | some l =>
  have k := mul_le_iff (x := v) (y := l) h
  constructor
  ·intro z x e; cases e; have z' : a * v + b <= a * l + b := z _ rfl; exact k.mp (by omega)
  ·intro z x e; cases e; have := k.mpr (z _ rfl); show a * v + b <= a * l + b; omega
theorem leO_mv' {a b v : Int} {o : Option Int} (h : a < 0) : leO (mv a b o) (a * v + b) ↔ geO o v := by
 cases o with
 | none => exact ⟨fun _ l e => (nomatch e), fun _ l e => (nomatch e)⟩
 | some l =>
  have k := mul_le_iff' (x := l) (y := v) h
  constructor
  ·intro z x e; cases e; have z' : a * l + b <= a * v + b := z _ rfl; exact k.mp (by omega)
  ·intro z x e; cases e; have := k.mpr (z _ rfl); show a * l + b <= a * v + b; omega
theorem geO_mv' {a b v : Int} {o : Option Int} (h : a < 0) : geO (mv a b o) (a * v + b) ↔ leO o v := by
 cases o with
 | none => exact ⟨fun _ l e => (nomatch e), fun _ l e => (nomatch e)⟩
 | some l =>
  have k := mul_le_iff' (x := v) (y := l) h
  constructor
  ·intro z x e; cases e; have z' : a * v + b <= a * l + b := z _ rfl; exact k.mp (by omega)
  ·intro z x e; cases e; have := k.mpr (z _ rfl); show a * v + b <= a * l + b; omega
theorem class_mv {a b st re w : Int} (hp : 0 < st) (ha : a ≠ 0) (h0 : 0 <= re) (h1 : re < st) :
  w % (ab a * st) = (a * re + b) % (ab a * st) ↔ ∃ v, v % st = re /\ w = a * v + b := by
 rw [cong]
 constructor
 ·rintro ⟨k, e⟩
  refine ⟨re + st * (if a < 0 then -k else k), by rw [Int.add_mul_emod_self_left, Int.emod_eq_of_lt h0 h1], ?_⟩
  have e2 : a * (st * (if a < 0 then -k else k)) = ab a * st * k := by
   unfold ab
   split
   ·simp only [Int.neg_mul, Int.mul_neg, Int.mul_assoc]
   ·simp only [Int.mul_assoc]
  rw [Int.mul_add, e2, <- e]; omega
 ·rintro ⟨v, hv, rfl⟩
  obtain ⟨k, e⟩ := (cong' h0 h1).mp hv
  refine ⟨(if a < 0 then -k else k), ?_⟩
  have e2 : a * v + b - (a * re + b) = a * (st * k) := by
   rw [<- e, Int.mul_sub]; omega
  rw [e2]
  unfold ab
  split
  ·simp only [Int.neg_mul, Int.mul_neg, Int.mul_assoc, Int.neg_neg]
  ·simp only [Int.mul_assoc]
theorem moved_ok {s : S} {a b : Int} (c : Canon s) (ha : a ≠ 0) : Tells (moved s a b) (fun w => ∃ v, mem s v /\ w = a * v + b) := by
 have hS : 0 < ab a * s.st := Int.mul_pos (ab_pos ha) c.pos
 have r0 := Int.emod_nonneg (a * s.re + b) (Int.ne_of_gt hS)
 have r1 := Int.emod_lt_of_pos (a * s.re + b) hS
 unfold moved
 split
 ·rename_i hn
  refine (made_ok hS r0 r1).imp fun w => ⟨fun m => ?_, ?_⟩
  ·obtain ⟨v, hv, rfl⟩ := (class_mv c.pos ha c.r0 c.r1).mp m.r
   exact ⟨v, ⟨(geO_mv' hn).mp m.h, (leO_mv' hn).mp m.l, hv⟩, rfl⟩
  ·rintro ⟨v, m, rfl⟩
   exact ⟨(leO_mv' hn).mpr m.h, (geO_mv' hn).mpr m.l, (class_mv c.pos ha c.r0 c.r1).mpr ⟨v, m.r, rfl⟩⟩
 ·have hn : 0 < a := by omega
  refine (made_ok hS r0 r1).imp fun w => ⟨fun m => ?_, ?_⟩
  ·obtain ⟨v, hv, rfl⟩ := (class_mv c.pos ha c.r0 c.r1).mp m.r
   exact ⟨v, ⟨(leO_mv hn).mp m.l, (geO_mv hn).mp m.h, hv⟩, rfl⟩
  ·rintro ⟨v, m, rfl⟩
   exact ⟨(leO_mv hn).mpr m.l, (geO_mv hn).mpr m.h, (class_mv c.pos ha c.r0 c.r1).mpr ⟨v, m.r, rfl⟩⟩
theorem Tells.some {r : Option S} {p : Int -> Prop} (h : Tells r p) {v : Int} (hv : p v) : ∃ t, r = Option.some t /\ Canon t /\ ∀ v, mem t v ↔ p v := by
 cases r with
 | none => exact absurd hv (h v)
 | some t => exact ⟨t, rfl, h.1, h.2⟩
theorem moved_some {s : S} {a b : Int} (c : Canon s) (ha : a ≠ 0) : ∃ t, moved s a b = some t /\ Canon t /\ (∀ w, mem t w ↔ ∃ v, mem s v /\ w = a * v + b) /\ (t.st = ab a * s.st \/ t.st = 1) := by
 obtain ⟨v, m⟩ := c.some
 obtain ⟨t, e, ct, h⟩ := (moved_ok (b := b) c ha).some ⟨v, m, rfl⟩
 refine ⟨t, e, ct, h, ?_⟩
 unfold moved at e
 split at e <;> exact made_st e
structure Euc (a m g f : Int) : Prop where
 pos : 0 < g
 da : g ∣ a
 dm : g ∣ m
 inv : m ∣ a * f - g
noncomputable def bkLo (s : S) (a b : Int) : Option Int := (if 0 < a then s.lo else s.hi).map fun e => -((b - e).fdiv a)
noncomputable def bkHi (s : S) (a b : Int) : Option Int := (if 0 < a then s.hi else s.lo).map fun e => (e - b).fdiv a
noncomputable def back2 (s : S) (a b g f : Int) : Option S :=
 if (s.re - b) % g = 0 then made (bkLo s a b) (bkHi s a b) (s.st / g) ((s.re - b) / g * f % (s.st / g)) else none
theorem le_fdiv {v x a : Int} (h : 0 < a) : v <= x.fdiv a ↔ a * v <= x := by
 rw [Int.fdiv_eq_ediv_of_nonneg _ (by omega), Int.le_ediv_iff_mul_le h, Int.mul_comm]
theorem le_fdiv' {v x a : Int} (h : a < 0) : v <= x.fdiv a ↔ x <= a * v := by
 rw [<- Int.neg_fdiv_neg, Int.fdiv_eq_ediv_of_nonneg _ (by omega), Int.le_ediv_iff_mul_le (by omega), Int.mul_neg, Int.mul_comm]; omega
theorem leO_map {o : Option Int} {f : Int -> Int} {v : Int} {p : Prop} {u : Int} (hp : ∀ e, f e <= v ↔ e <= u) : leO (o.map f) v ↔ leO o u := by
 cases o with
 | none => exact ⟨fun _ l e => (nomatch e), fun _ l e => (nomatch e)⟩
 | some l =>
  constructor
  ·intro z x e; cases e; exact (hp l).mp (z _ rfl)
  ·intro z x e; cases e; exact (hp l).mpr (z _ rfl)
theorem leO_map' {o : Option Int} {f : Int -> Int} {v : Int} {u : Int} (hp : ∀ e, f e <= v ↔ u <= e) : leO (o.map f) v ↔ geO o u := by
 cases o with
 | none => exact ⟨fun _ l e => (nomatch e), fun _ l e => (nomatch e)⟩
 | some l =>
  constructor
  ·intro z x e; cases e; exact (hp l).mp (z _ rfl)
  ·intro z x e; cases e; exact (hp l).mpr (z _ rfl)
theorem geO_map {o : Option Int} {f : Int -> Int} {v : Int} {u : Int} (hp : ∀ e, v <= f e ↔ u <= e) : geO (o.map f) v ↔ geO o u := by
 cases o with
 | none => exact ⟨fun _ l e => (nomatch e), fun _ l e => (nomatch e)⟩
 | some l =>
  constructor
  ·intro z x e; cases e; exact (hp l).mp (z _ rfl)
  ·intro z x e; cases e; exact (hp l).mpr (z _ rfl)
theorem geO_map' {o : Option Int} {f : Int -> Int} {v : Int} {u : Int} (hp : ∀ e, v <= f e ↔ e <= u) : geO (o.map f) v ↔ leO o u := by
 cases o with
 | none => exact ⟨fun _ l e => (nomatch e), fun _ l e => (nomatch e)⟩
 | some l =>
  constructor
  ·intro z x e; cases e; exact (hp l).mp (z _ rfl)
  ·intro z x e; cases e; exact (hp l).mpr (z _ rfl)
theorem bk_bounds {s : S} {a b v : Int} (ha : a ≠ 0) : (leO (bkLo s a b) v /\ geO (bkHi s a b) v) ↔ (leO s.lo (a * v + b) /\ geO s.hi (a * v + b)) := by
 unfold bkLo bkHi
 by_cases h : 0 < a
 ·rw [if_pos h, if_pos h]
  have e : a * -v = -(a * v) := Int.mul_neg _ _
  have k1 := leO_map (o := s.lo) (f := fun e => -((b - e).fdiv a)) (v := v) (u := a * v + b) (p := True) fun e => by
   have := le_fdiv (v := -v) (x := b - e) h; omega
  have k2 := geO_map (o := s.hi) (f := fun e => (e - b).fdiv a) (v := v) (u := a * v + b) fun e => by
   have := le_fdiv (v := v) (x := e - b) h; omega
  rw [k1, k2]
 ·have h' : a < 0 := by omega
  rw [if_neg h, if_neg h]
  have e : a * -v = -(a * v) := Int.mul_neg _ _
  have k1 := leO_map' (o := s.hi) (f := fun e => -((b - e).fdiv a)) (v := v) (u := a * v + b) fun e => by
   have := le_fdiv' (v := -v) (x := b - e) h'; omega
  have k2 := geO_map' (o := s.lo) (f := fun e => (e - b).fdiv a) (v := v) (u := a * v + b) fun e => by
   have := le_fdiv' (v := v) (x := e - b) h'; omega
  rw [k1, k2]; exact And.comm
theorem back_ok {s : S} {a b g f : Int} (c : Canon s) (ha : a ≠ 0) (E : Euc a s.st g f) : Tells (back2 s a b g f) (fun v => mem s (a * v + b)) := by
 obtain ⟨gp, ⟨a', ea⟩, ⟨m', em⟩, hi⟩ := E
 unfold back2
 by_cases h : (s.re - b) % g = 0
 ·rw [if_pos h]
  obtain ⟨w, ew⟩ := Int.dvd_of_emod_eq_zero h
  have e1 : s.st / g = m' := by rw [em]; exact Int.mul_ediv_cancel_left _ (by omega)
  have e2 : (s.re - b) / g = w := by rw [ew]; exact Int.mul_ediv_cancel_left _ (by omega)
  rw [e1, e2]
  have mp : 0 < m' := by
   have := c.pos; rw [em] at this
   exact Int.pos_of_mul_pos_right this (by omega)
  have d1 : m' ∣ a' * f - 1 := by
   obtain ⟨k, e⟩ := hi
   refine ⟨k, ?_⟩
   have : g * (a' * f - 1) = g * (m' * k) := by
    rw [Int.mul_sub, <- Int.mul_assoc, <- ea, Int.mul_one, e, em, Int.mul_assoc]
   exact Int.eq_of_mul_eq_mul_left (by omega) this
  have cls : ∀ v, v % m' = w * f % m' ↔ (a * v + b) % s.st = s.re := fun v => by
   rw [cong, cong' c.r0 c.r1]
   have e3 : a * v + b - s.re = g * (a' * v - w) := by
    rw [Int.mul_sub, <- ew, <- Int.mul_assoc, <- ea]; omega
   rw [e3, em]
   constructor
   ·intro d
    refine Int.mul_dvd_mul_left g ?_
    have e4 : a' * v - w = a' * (v - w * f) + w * (a' * f - 1) := by
     rw [Int.mul_sub, Int.mul_sub, Int.mul_one, show a' * (w * f) = w * (a' * f) by rw [<- Int.mul_assoc, <- Int.mul_assoc, Int.mul_comm a' w]]; omega
    rw [e4]
    exact Int.dvd_add (Int.dvd_trans d (Int.dvd_mul_left _ _)) (Int.dvd_trans d1 (Int.dvd_mul_left _ _))
   ·intro d
    have d : m' ∣ a' * v - w := Int.dvd_of_mul_dvd_mul_left (by omega) d
    have e4 : v - w * f = f * (a' * v - w) - v * (a' * f - 1) := by
     rw [Int.mul_sub, Int.mul_sub, Int.mul_one, show v * (a' * f) = f * (a' * v) by rw [Int.mul_comm v, Int.mul_assoc, Int.mul_left_comm], Int.mul_comm w f]; omega
    rw [e4]
    exact Int.dvd_sub (Int.dvd_trans d (Int.dvd_mul_left _ _)) (Int.dvd_trans d1 (Int.dvd_mul_left _ _))
  refine (made_ok mp (Int.emod_nonneg _ (by omega)) (Int.emod_lt_of_pos _ mp)).imp fun v => ⟨fun m => ?_, fun m => ?_⟩
  ·obtain ⟨x, y⟩ := (bk_bounds ha).mp ⟨m.l, m.h⟩
   exact ⟨x, y, (cls v).mp m.r⟩
  ·obtain ⟨x, y⟩ := (bk_bounds ha).mpr ⟨m.l, m.h⟩
   exact ⟨x, y, (cls v).mpr m.r⟩
 ·rw [if_neg h]
  intro v m
  refine h (Int.emod_eq_zero_of_dvd ?_)
  have d : g ∣ a * v + b - s.re := Int.dvd_trans ⟨m', em⟩ ((cong' c.r0 c.r1).mp m.r)
  have d2 : g ∣ a * v := ⟨a' * v, by rw [ea, Int.mul_assoc]⟩
  have := Int.dvd_sub d2 d
  rw [show a * v - (a * v + b - s.re) = s.re - b by omega] at this
  exact this
structure EI (a m g o s t : Int) : Prop where
 g0 : 0 <= g
 o0 : 0 <= o
 gm : g <= m
 om : o <= m
 go : 0 < g + o
 cs : m ∣ a * s - g
 ct : m ∣ a * t - o
 dv : ∀ d, d ∣ g -> d ∣ o -> d ∣ a % m /\ d ∣ m
 sm : s.natAbs <= m.toNat
 tm : t.natAbs <= m.toNat
 pr : s.natAbs * o.toNat + t.natAbs * g.toNat <= m.toNat
theorem EI.start {a m : Int} (hm : 0 < m) : EI a m (a % m) m 1 0 := by
 have h0 := Int.emod_nonneg a (Int.ne_of_gt hm)
 have h1 := Int.emod_lt_of_pos a hm
 refine ⟨h0, by omega, by omega, Int.le_refl _, by omega, ?_, ?_, fun d x y => ⟨x, y⟩, ?_, by simp, by simp⟩
 ·rw [Int.mul_one]; exact Int.dvd_self_sub_emod
 ·rw [Int.mul_zero]; exact ⟨-1, by omega⟩
 ·show (1 : Nat) <= _; omega
theorem EI.turn {a m g o s t : Int} (E : EI a m g o s t) (h : o ≠ 0) : EI a m o (g - g / o * o) t (s - g / o * t) /\ (g - g / o * o).toNat < o.toNat := by
 have := E.o0
 have op : 0 < o := by omega
 have e : g - g / o * o = g % o := by rw [Int.emod_def, Int.mul_comm]
 have r0 := Int.emod_nonneg g (Int.ne_of_gt op)
 have r1 := Int.emod_lt_of_pos g op
 have q0 : 0 <= g / o := Int.ediv_nonneg E.g0 E.o0
 have prod : t.natAbs * (g % o).toNat + (s - g / o * t).natAbs * o.toNat <= m.toNat := by
  have h1 : (s - g / o * t).natAbs <= s.natAbs + (g / o).toNat * t.natAbs := by
   refine Nat.le_trans (Int.natAbs_sub_le _ _) ?_
   rw [Int.natAbs_mul, show (g / o).natAbs = (g / o).toNat by omega]
   exact Nat.le_refl _
  have h2 : g.toNat = o.toNat * (g / o).toNat + (g % o).toNat := by
   have := Int.mul_ediv_add_emod g o
   have e1 : ((o.toNat * (g / o).toNat : Nat) : Int) = o * (g / o) := by
    rw [Int.natCast_mul, Int.toNat_of_nonneg E.o0, Int.toNat_of_nonneg q0]
   omega
  have h3 := E.pr
  rw [h2] at h3
  have h4 := Nat.mul_le_mul_right o.toNat h1
  rw [Nat.add_mul] at h4
  rw [Nat.mul_add] at h3
  have h5 : (g / o).toNat * t.natAbs * o.toNat = t.natAbs * (o.toNat * (g / o).toNat) := by
   rw [Nat.mul_comm _ t.natAbs, Nat.mul_assoc, Nat.mul_comm o.toNat]
  omega
 rw [e]
 refine ⟨⟨E.o0, r0, E.om, by have := E.om; omega, by omega, E.ct, ?_, fun d x y => ?_, E.tm, ?_, prod⟩, by omega⟩
 ·rw [show a * (s - g / o * t) - g % o = (a * s - g) - g / o * (a * t - o) by
   rw [<- e, Int.mul_sub, Int.mul_sub, show a * (g / o * t) = g / o * (a * t) by rw [Int.mul_left_comm]]; omega]
  exact Int.dvd_sub E.cs (Int.dvd_trans E.ct (Int.dvd_mul_left _ _))
 ·refine E.dv d ?_ x
  have := Int.mul_ediv_add_emod g o
  rw [<- this]
  exact Int.dvd_add (Int.dvd_trans x (Int.dvd_mul_right _ _)) y
 ·have : (s - g / o * t).natAbs * o.toNat <= m.toNat := Nat.le_trans (Nat.le_add_left _ _) prod
  exact Nat.le_trans (Nat.le_mul_of_pos_right _ (by omega)) this
theorem EI.fin {a m g s t : Int} (hm : 0 < m) (E : EI a m g 0 s t) : Euc a m g s := by
 obtain ⟨h1, h2⟩ := E.dv g (Int.dvd_refl g) (Int.dvd_zero g)
 have := E.g0; have := E.go
 refine ⟨by omega, ?_, h2, E.cs⟩
 have := Int.mul_ediv_add_emod a m
 rw [<- this]
 exact Int.dvd_add (Int.dvd_trans h2 (Int.dvd_mul_right _ _)) h1
end St
namespace St
structure Bd (s : S) (n : Nat) : Prop where
 st : s.st.natAbs <= n
 re : s.re.natAbs <= n
 lo : ∀ l, s.lo = some l -> l.natAbs <= n
 hi : ∀ l, s.hi = some l -> l.natAbs <= n
noncomputable def BdO (r : Option S) (n : Nat) : Prop := ∀ s, r = some s -> Bd s n
theorem Bd.mono {s : S} {n m : Nat} (b : Bd s n) (h : n <= m) : Bd s m := ⟨Nat.le_trans b.st h, Nat.le_trans b.re h, fun l e => Nat.le_trans (b.lo l e) h, fun l e => Nat.le_trans (b.hi l e) h⟩
noncomputable def OB (o : Option Int) (n : Nat) : Prop := ∀ l, o = some l -> l.natAbs <= n
theorem made_bd {lo hi : Option Int} {st re : Int} {n m : Nat} (h1 : OB lo n) (h2 : OB hi n) (h3 : st.natAbs <= m) (hp : 0 < st) : BdO (made lo hi st re) (n + m) := fun s e => by
 unfold made at e
 by_cases h : 0 <= re /\ re < st
 ·rw [if_pos h] at e
  have f1 : OB (first lo st re) (n + m) := fun l q => by
   cases lo with
   | none => cases q
   | some x =>
    cases q
    have := h1 x rfl
    have a := Int.emod_nonneg (re - x) (Int.ne_of_gt hp)
    have b := Int.emod_lt_of_pos (re - x) hp
    show (x + (re - x) % st).natAbs <= n + m
    omega
  have f2 : OB (last hi st re) (n + m) := fun l q => by
   cases hi with
   | none => cases q
   | some x =>
    cases q
    have := h2 x rfl
    have a := Int.emod_nonneg (x - re) (Int.ne_of_gt hp)
    have b := Int.emod_lt_of_pos (x - re) hp
    show (x - (x - re) % st).natAbs <= n + m
    omega
  generalize first lo st re = f at e f1
  generalize last hi st re = g at e f2
  have fin : ∀ st' re', st'.natAbs <= n + m -> re'.natAbs <= n + m -> Bd ⟨f, g, st', re'⟩ (n + m) := fun st' re' a b => ⟨a, b, f1, f2⟩
  unfold made2 at e
  split at e
  ·split at e
   ·cases e
   ·split at e
    ·cases e; exact fin 1 0 (by show 1 <= n + m; omega) (by show 0 <= n + m; omega)
    ·cases e; exact fin st re (by omega) (by omega)
  ·cases e; exact fin st re (by omega) (by omega)
 ·rw [if_neg h] at e; cases e
theorem fdiv_abs {x a : Int} (h : a ≠ 0) : (x.fdiv a).natAbs <= x.natAbs := by
 by_cases hp : 0 < a
 ·rw [Int.fdiv_eq_ediv_of_nonneg _ (by omega)]; exact Int.natAbs_ediv_le_natAbs _ _
 ·rw [<- Int.neg_fdiv_neg, Int.fdiv_eq_ediv_of_nonneg _ (by omega)]
  exact Nat.le_trans (Int.natAbs_ediv_le_natAbs _ _) (by rw [Int.natAbs_neg]; exact Nat.le_refl _)
theorem back_bd {s : S} {a b g f : Int} {n : Nat} (c : Canon s) (E : Euc a s.st g f) (ha : a ≠ 0) (bs : Bd s n) (hb : b.natAbs <= n) : BdO (back2 s a b g f) (n + n + n) := by
 unfold back2
 split
 ·have gp := E.pos
  have sp : 0 < s.st / g := by
   obtain ⟨m', em⟩ := E.dm
   rw [em, Int.mul_ediv_cancel_left _ (by omega)]
   have := c.pos; rw [em] at this
   exact Int.pos_of_mul_pos_right this (by omega)
  refine made_bd (n := n + n) (fun l e => ?_) (fun l e => ?_) ?_ sp
  ·unfold bkLo at e
   cases q : (if 0 < a then s.lo else s.hi) with
   | none => rw [q] at e; cases e
   | some x =>
    rw [q] at e; cases e
    have hx : x.natAbs <= n := by
     split at q
     ·exact bs.lo x q
     ·exact bs.hi x q
    have := fdiv_abs (x := b - x) ha
    show (-(b - x).fdiv a).natAbs <= n + n
    omega
  ·unfold bkHi at e
   cases q : (if 0 < a then s.hi else s.lo) with
   | none => rw [q] at e; cases e
   | some x =>
    rw [q] at e; cases e
    have hx : x.natAbs <= n := by
     split at q
     ·exact bs.hi x q
     ·exact bs.lo x q
    have := fdiv_abs (x := x - b) ha
    show ((x - b).fdiv a).natAbs <= n + n
    omega
  ·exact Nat.le_trans (Int.natAbs_ediv_le_natAbs _ _) bs.st
 ·intro s e; cases e
theorem mv_ob {a b : Int} {o : Option Int} {m n : Nat} (h : OB o n) (ha : a.natAbs <= m) (hb : b.natAbs <= m) : OB (mv a b o) (m * n + m) := fun l e => by
 cases o with
 | none => cases e
 | some x =>
  cases e
  have h1 := h x rfl
  have h2 := Int.natAbs_add_le (a * x) b
  rw [Int.natAbs_mul] at h2
  have h3 := Nat.mul_le_mul ha h1
  show (a * x + b).natAbs <= m * n + m
  omega
theorem ab_abs (a : Int) : (ab a).natAbs = a.natAbs := by unfold ab; split <;> omega
theorem moved_bd {s : S} {a b : Int} {m n : Nat} (c : Canon s) (ha : a ≠ 0) (bs : Bd s n) (h1 : a.natAbs <= m) (h2 : b.natAbs <= m) : BdO (moved s a b) (m * n + m + m * n) := by
 have hS : 0 < ab a * s.st := Int.mul_pos (ab_pos ha) c.pos
 have hst : (ab a * s.st).natAbs <= m * n := by rw [Int.natAbs_mul, ab_abs]; exact Nat.mul_le_mul h1 bs.st
 unfold moved
 split
 ·exact made_bd (mv_ob bs.hi h1 h2) (mv_ob bs.lo h1 h2) hst hS
 ·exact made_bd (mv_ob bs.lo h1 h2) (mv_ob bs.hi h1 h2) hst hS
noncomputable def lowB (a b : Option Int) : Option Int := match a, b with
 | none, b => b
 | a, none => a
 | some x, some y => some (if y > x then y else x)
noncomputable def uppB (a b : Option Int) : Option Int := match a, b with
 | none, b => b
 | a, none => a
 | some x, some y => some (if y < x then y else x)
theorem lowB_iff {a b : Option Int} {v : Int} : leO (lowB a b) v ↔ leO a v /\ leO b v := by
 cases a with
 | none => exact ⟨fun h => ⟨fun l e => (nomatch e), h⟩, fun h => h.2⟩
 | some x =>
  cases b with
  | none => exact ⟨fun h => ⟨h, fun l e => (nomatch e)⟩, fun h => h.1⟩
  | some y =>
   constructor
   ·intro h
    have := h _ rfl
    refine ⟨fun l e => ?_, fun l e => ?_⟩ <;> cases e <;> split at this <;> omega
   ·rintro ⟨h1, h2⟩ l e
    cases e
    have := h1 x rfl; have := h2 y rfl
    split <;> omega
theorem uppB_iff {a b : Option Int} {v : Int} : geO (uppB a b) v ↔ geO a v /\ geO b v := by
 cases a with
 | none => exact ⟨fun h => ⟨fun l e => (nomatch e), h⟩, fun h => h.2⟩
 | some x =>
  cases b with
  | none => exact ⟨fun h => ⟨h, fun l e => (nomatch e)⟩, fun h => h.1⟩
  | some y =>
   constructor
   ·intro h
    have := h _ rfl
    refine ⟨fun l e => ?_, fun l e => ?_⟩ <;> cases e <;> split at this <;> omega
   ·rintro ⟨h1, h2⟩ l e
    cases e
    have := h1 x rfl; have := h2 y rfl
    split <;> omega
theorem lowB_ob {a b : Option Int} {n : Nat} (h1 : OB a n) (h2 : OB b n) : OB (lowB a b) n := fun l e => by
 cases a with
 | none => exact h2 l e
 | some x =>
  cases b with
  | none => exact h1 l e
  | some y =>
   cases e
   have := h1 x rfl; have := h2 y rfl
   split <;> omega
theorem uppB_ob {a b : Option Int} {n : Nat} (h1 : OB a n) (h2 : OB b n) : OB (uppB a b) n := fun l e => by
 cases a with
 | none => exact h2 l e
 | some x =>
  cases b with
  | none => exact h1 l e
  | some y =>
   cases e
   have := h1 x rfl; have := h2 y rfl
   split <;> omega
noncomputable def between (s : S) (lo hi : Option Int) : Option S := made (lowB s.lo lo) (uppB s.hi hi) s.st s.re
theorem between_ok {s : S} {lo hi : Option Int} (c : Canon s) : Tells (between s lo hi) (fun v => mem s v /\ leO lo v /\ geO hi v) := by
 refine (made_ok c.pos c.r0 c.r1).imp fun v => ⟨fun m => ?_, fun ⟨m, a, b⟩ => ?_⟩
 ·obtain ⟨a, b⟩ := lowB_iff.mp m.l
  obtain ⟨a', b'⟩ := uppB_iff.mp m.h
  exact ⟨⟨a, a', m.r⟩, b, b'⟩
 ·exact ⟨lowB_iff.mpr ⟨m.l, a⟩, uppB_iff.mpr ⟨m.h, b⟩, m.r⟩
theorem between_bd {s : S} {lo hi : Option Int} {n : Nat} (c : Canon s) (bs : Bd s n) (h1 : OB lo n) (h2 : OB hi n) : BdO (between s lo hi) (n + n) :=
 made_bd (lowB_ob bs.lo h1) (uppB_ob bs.hi h2) bs.st c.pos
noncomputable def meet2 (one other : S) (g f : Int) : Option S := match back2 other one.st one.re g f with
 | none => none
 | some t => match moved t one.st one.re with
  | none => none
  | some u => between u one.lo one.hi
theorem meet_ok {one other : S} {g f : Int} (c1 : Canon one) (c2 : Canon other) (E : Euc one.st other.st g f) : Tells (meet2 one other g f) (fun v => mem one v /\ mem other v) := by
 have hb := back_ok (b := one.re) c2 (by have := c1.pos; omega) E
 have cls : ∀ v, v % one.st = one.re ↔ ∃ k, v = one.st * k + one.re := fun v => by
  constructor
  ·intro h
   refine ⟨v / one.st, ?_⟩
   have := Int.mul_ediv_add_emod v one.st
   omega
  ·rintro ⟨k, rfl⟩
   rw [Int.mul_add_emod_self_left, Int.emod_eq_of_lt c1.r0 c1.r1]
 unfold meet2
 cases e : back2 other one.st one.re g f with
 | none =>
  rw [e] at hb
  intro v ⟨m1, m2⟩
  obtain ⟨k, rfl⟩ := (cls v).mp m1.r
  exact hb k m2
 | some t =>
  rw [e] at hb
  obtain ⟨u, eu, cu, hu, _⟩ := moved_some (b := one.re) hb.1 (show one.st ≠ 0 by have := c1.pos; omega)
  dsimp only
  rw [eu]
  dsimp only
  refine (between_ok cu).imp fun v => ⟨fun ⟨m, a, b⟩ => ?_, fun ⟨m1, m2⟩ => ?_⟩
  ·obtain ⟨k, mk, rfl⟩ := (hu v).mp m
   exact ⟨⟨a, b, (cls _).mpr ⟨k, rfl⟩⟩, (hb.2 k).mp mk⟩
  ·obtain ⟨k, rfl⟩ := (cls v).mp m1.r
   exact ⟨(hu _).mpr ⟨k, (hb.2 k).mpr m2, rfl⟩, m1.l, m1.h⟩
theorem meet_bd {one other : S} {g f : Int} {n : Nat} (c1 : Canon one) (c2 : Canon other) (E : Euc one.st other.st g f) (h1 : 1 <= n) (b1 : Bd one n) (b2 : Bd other n) : BdO (meet2 one other g f) (16 * (n * n)) := by
 have ha : one.st ≠ 0 := by have := c1.pos; omega
 have hb := back_ok (b := one.re) c2 ha E
 have hbb := back_bd c2 E ha b2 b1.re
 have nn : n <= n * n := Nat.le_mul_of_pos_left n h1
 intro s e
 unfold meet2 at e
 cases q : back2 other one.st one.re g f with
 | none => rw [q] at e; cases e
 | some t =>
  rw [q] at e hb
  have bt := hbb t q
  dsimp only at e
  cases q2 : moved t one.st one.re with
  | none => rw [q2] at e; cases e
  | some u =>
   rw [q2] at e
   have bu := moved_bd hb.1 ha bt b1.st b1.re u q2
   have cu : Canon u := by
    have := moved_ok (b := one.re) hb.1 ha
    rw [q2] at this; exact this.1
   have e1 : n * (n + n + n) = n * n + n * n + n * n := by rw [Nat.mul_add, Nat.mul_add]
   have bu' := bu.mono (m := 8 * (n * n)) (by omega)
   refine (between_bd cu bu' (fun l z => Nat.le_trans (b1.lo l z) (by omega)) (fun l z => Nat.le_trans (b1.hi l z) (by omega)) s e).mono (by omega)
theorem Tells.self_iff {one : S} {r : Option S} {p : Int -> Prop} (c : Canon one) (h : Tells r p) : r = Option.some one ↔ ∀ v, p v ↔ mem one v := by
 constructor
 ·intro e v; subst e; exact (h.2 v).symm
 ·intro q; exact h.inj (c.tells.imp fun v => (q v).symm)
end St
namespace Fx
open PySem
noncomputable def dO : Option Int -> D
 | none => .non
 | some i => .int i
noncomputable def dS (s : St.S) : D := .tup [dO s.lo, dO s.hi, .int s.st, .int s.re]
noncomputable def dOS : Option St.S -> D
 | none => .non
 | some s => dS s
@[simp] theorem dO_none : dO none = .non := rfl
@[simp] theorem dO_some (i : Int) : dO (some i) = .int i := rfl
@[simp] theorem dOS_none : dOS none = .non := rfl
@[simp] theorem dOS_some (s : St.S) : dOS (some s) = dS s := rfl
@[simp] theorem dS_mk (lo hi : Option Int) (st re : Int) : dS ⟨lo, hi, st, re⟩ = .tup [dO lo, dO hi, .int st, .int re] := rfl
@[simp] theorem isN_dS (s : St.S) : isN (dS s) = false := rfl
theorem fmod_pos {a b : Int} (h : 0 < b) : a.fmod b = a % b := Int.fmod_eq_emod_of_nonneg a (by omega)
theorem made_eq (lo hi : Option Int) (st re : Int) : m_stretch_made [dO lo, dO hi, .int st, .int re] = some (dOS (St.made lo hi st re)) := by
 by_cases h : 0 <= re /\ re < st
 ·have hp : 0 < st := by omega
  have hn : ¬ st = 0 := by omega
  unfold St.made
  rw [if_pos h]
  simp [m_stretch_made, b_stretch_made, h.1, h.2, hn, fmod_pos hp]
  cases lo with
  | none =>
   cases hi with
   | none => simp [hn, St.made2, St.first, St.last]
   | some y => simp [hn, St.made2, St.first, St.last, fmod_pos hp]
  | some x =>
   cases hi with
   | none => simp [hn, St.made2, St.first, St.last, fmod_pos hp]
   | some y =>
    simp only [St.made2, St.first, St.last, Option.map_some]
    by_cases h1 : y - (y - re) % st < x + (re - x) % st
    ·simp [hn, fmod_pos hp, h1]
    ·by_cases h2 : x + (re - x) % st = y - (y - re) % st
     ·simp [hn, fmod_pos hp, h2]
     ·simp [hn, fmod_pos hp, h1, h2]
 ·rw [St.made_none h]
  by_cases h1 : 0 <= re
  ·have h2 : ¬ re < st := fun z => h ⟨h1, z⟩
   simp [m_stretch_made, b_stretch_made, h1, h2]
  ·simp [m_stretch_made, b_stretch_made, h1]
end Fx
namespace Fx
open PySem
noncomputable def leB (lo : Option Int) (v : Int) : Bool := match lo with | none => true | some l => decide (l <= v)
noncomputable def geB (hi : Option Int) (v : Int) : Bool := match hi with | none => true | some h => decide (v <= h)
noncomputable def hasB (s : St.S) (v : Int) : Bool := leB s.lo v && geB s.hi v && decide (v % s.st = s.re)
theorem leB_iff {lo : Option Int} {v : Int} : leB lo v = true ↔ St.leO lo v := by
 cases lo with
 | none => exact ⟨fun _ l e => (nomatch e), fun _ => rfl⟩
 | some l => exact ⟨fun h x e => by cases e; exact of_decide_eq_true h, fun h => decide_eq_true (h l rfl)⟩
theorem geB_iff {lo : Option Int} {v : Int} : geB lo v = true ↔ St.geO lo v := by
 cases lo with
 | none => exact ⟨fun _ l e => (nomatch e), fun _ => rfl⟩
 | some l => exact ⟨fun h x e => by cases e; exact of_decide_eq_true h, fun h => decide_eq_true (h l rfl)⟩
theorem hasB_iff {s : St.S} {v : Int} : hasB s v = true ↔ St.mem s v := by
 unfold hasB
 rw [Bool.and_eq_true, Bool.and_eq_true, leB_iff, geB_iff, decide_eq_true_iff]
 exact ⟨fun ⟨⟨a, b⟩, c⟩ => ⟨a, b, c⟩, fun m => ⟨⟨m.l, m.h⟩, m.r⟩⟩
theorem has_eq {s : St.S} (hp : 0 < s.st) (v : Int) : m_stretch_has [dS s, .int v] = some (.bl (hasB s v)) := by
 obtain ⟨lo, hi, st, re⟩ := s
 have hp : 0 < st := hp
 have hn : ¬ st = 0 := by omega
 unfold hasB
 simp [m_stretch_has, b_stretch_has, hn, fmod_pos hp, atD, dPl]
 cases lo with
 | none =>
  cases hi with
  | none => simp [m_is_between, b_is_between, hn, fmod_pos hp, leB, geB, atD, dPl]
  | some y =>
   by_cases h : v <= y
   ·have h' : ¬ y < v := by omega
    simp [m_is_between, b_is_between, hn, fmod_pos hp, leB, geB, atD, dPl, h, h']
   ·have h' : y < v := by omega
    simp [m_is_between, b_is_between, hn, fmod_pos hp, leB, geB, atD, dPl, h, h']
 | some x =>
  by_cases g : x <= v
  ·have g' : ¬ v < x := by omega
   cases hi with
   | none => simp [m_is_between, b_is_between, hn, fmod_pos hp, leB, geB, atD, dPl, g, g']
   | some y =>
    by_cases h : v <= y
    ·have h' : ¬ y < v := by omega
     simp [m_is_between, b_is_between, hn, fmod_pos hp, leB, geB, atD, dPl, h, h', g, g']
    ·have h' : y < v := by omega
     simp [m_is_between, b_is_between, hn, fmod_pos hp, leB, geB, atD, dPl, h, h', g, g']
  ·have g' : v < x := by omega
   simp [m_is_between, b_is_between, leB, atD, dPl, g, g']
end Fx
namespace Fx
open PySem
theorem ab_eq (a : Int) : (a.natAbs : Int) = St.ab a := by unfold St.ab; split <;> omega
theorem moved_eq' {s : St.S} (hp : 0 < s.st) {a b : Int} (ha : a ≠ 0) (ok : ∀ x, (x = s.re \/ s.lo = some x \/ s.hi = some x) -> okMul a x = true) (ok' : okMul (St.ab a) s.st = true) : m_stretch_moved [dS s, .int a, .int b] = some (dOS (St.moved s a b)) := by
 obtain ⟨lo, hi, st, re⟩ := s
 have hp : 0 < st := hp
 have okr : okMul a re = true := ok re (.inl rfl)
 have ok' : okMul (St.ab a) st = true := ok'
 have hS : 0 < St.ab a * st := Int.mul_pos (St.ab_pos ha) hp
 have hn : ¬ St.ab a * st = 0 := by omega
 have two : (2 : Nat) <= sizeLine := by decide
 have four : (4 : Nat) <= sizeLine := by decide
 have md : ∀ lo hi, m_stretch_made [dO lo, dO hi, .int (St.ab a * st), .int ((a * re + b) % (St.ab a * st))] = some (dOS (St.made lo hi (St.ab a * st) ((a * re + b) % (St.ab a * st)))) := fun lo hi => made_eq _ _ _ _
 unfold St.moved
 have ix0 : ∀ x y : D, atD [x, y] 0 = some x := fun _ _ => rfl
 have ix1 : ∀ x y : D, atD [x, y] 1 = some y := fun _ _ => rfl
 have ix2 : ∀ x y z w : D, atD [x, y, z, w] 2 = some z := fun _ _ _ _ => rfl
 have ix3 : ∀ x y z w : D, atD [x, y, z, w] 3 = some w := fun _ _ _ _ => rfl
 have cut : ∀ x y z w : D, dCut [x, y, z, w] none (some 2) = [x, y] := fun _ _ _ _ => rfl
 have e2 : ¬ (dEnd 4 0 none = 0 /\ dEnd 4 4 (some 2) = 4) := by decide
 simp [m_stretch_moved, b_stretch_moved, cut, e2, two]
 generalize hR : sSeq (sSet 4 _) _ = RR
 have T : ∀ u w : Option Int, fnA (RR [.im (.tup [dO lo, dO hi, .int st, .int re]), .im (.int a), .im (.int b), .im (.lst [dO u, dO w]), .no]) = some (dOS (St.made u w (St.ab a * st) ((a * re + b) % (St.ab a * st)))) := fun u w => by
  rw [<- hR]
  simp [ix0, ix1, ix2, ix3, okr, ok', ab_eq, hn, fmod_pos hS, md]
 cases lo with
 | none =>
  cases hi with
  | none =>
   have q := T none none
   simp only [dO_none] at q
   by_cases h : a < 0 <;> simp [ix0, ix1, two, h, St.mv, q]
  | some y =>
   have oky : okMul a y = true := ok y (.inr (.inr rfl))
   have q1 := T (some (a * y + b)) none
   have q2 := T none (some (a * y + b))
   simp only [dO_none, dO_some] at q1 q2
   by_cases h : a < 0 <;> simp [ix0, ix1, two, h, oky, St.mv, q1, q2]
 | some x =>
  have okx : okMul a x = true := ok x (.inr (.inl rfl))
  cases hi with
  | none =>
   have q1 := T (some (a * x + b)) none
   have q2 := T none (some (a * x + b))
   simp only [dO_none, dO_some] at q1 q2
   by_cases h : a < 0 <;> simp [ix0, ix1, two, h, okx, St.mv, q1, q2]
  | some y =>
   have oky : okMul a y = true := ok y (.inr (.inr rfl))
   have q1 := T (some (a * x + b)) (some (a * y + b))
   have q2 := T (some (a * y + b)) (some (a * x + b))
   simp only [dO_some] at q1 q2
   by_cases h : a < 0 <;> simp [ix0, ix1, two, h, okx, oky, St.mv, q1, q2]
end Fx
namespace Fx
open PySem
theorem fdiv_pos {a b : Int} (h : 0 < b) : a.fdiv b = a / b := Int.fdiv_eq_ediv_of_nonneg a (by omega)
theorem big_of {i : Int} {m : Nat} (h : i.natAbs <= m) (hm : m < 2 ^ 1000) : bigM i = true := decide_eq_true (Nat.lt_of_le_of_lt h hm)
theorem okMul_big {i j : Int} (h : bigM i = true) (h' : bigM j = true) : okMul i j = true := by unfold okMul; rw [h, h']; simp
theorem okDiv_of {j : Int} (h : j ≠ 0) (h' : bigM j = true) : okDiv j = true := by
 unfold okDiv; unfold bigM at h'; rw [h', decide_eq_true h]; rfl
noncomputable abbrev eT : FT := l_divisor_and_factor_2
noncomputable abbrev eB : FS := l_divisor_and_factor_1
noncomputable abbrev eE (a m g s o t : Int) (x y : Sl) : En := [.im (.int a), .im (.int m), .im (.int g), .im (.int s), .im (.int o), .im (.int t), x, y]
theorem euclid {a m : Int} (hb : m.toNat < 2 ^ 1000) : ∀ (n : Nat) (g o s t : Int) (x y : Sl), St.EI a m g o s t -> o.toNat < n ->
  ∃ g' s' t' x' y', wGo eT eB n (eE a m g s o t x y) = some (.nx (eE a m g' s' 0 t' x' y')) /\ St.EI a m g' 0 s' t'
 | 0, _, _, _, _, _, _, _, h => by omega
 | n + 1, g, o, s, t, x, y, E, h => by
  rw [wGo_s]
  by_cases ho : o = 0
  ·subst ho
   refine ⟨g, s, t, x, y, ?_, E⟩
   simp
  ·have := E.o0; have := E.g0; have := E.gm; have := E.om
   have op : 0 < o := by omega
   have bo : bigM o = true := big_of (m := m.toNat) (by omega) hb
   have q0 : 0 <= g / o := Int.ediv_nonneg E.g0 E.o0
   have q1 : g / o <= g := Int.ediv_le_self _ E.g0
   have bq : bigM (g / o) = true := big_of (m := m.toNat) (by omega) hb
   have bt : bigM t = true := big_of E.tm hb
   have k1 := okMul_big bq bo
   have k2 := okMul_big bq bt
   have k3 := okDiv_of ho bo
   obtain ⟨E', l⟩ := E.turn ho
   obtain ⟨g', s', t', x', y', e, E2⟩ := euclid hb n o (g - g / o * o) t (s - g / o * t) (.im (.int (g / o))) (.im (.int (s - g / o * t))) E' (by omega)
   refine ⟨g', s', t', x', y', ?_, E2⟩
   rw [<- e]
   simp [ho, k1, k2, k3, fdiv_pos op]
theorem euc_eq {a m : Int} (hm : 0 < m) (hb : m.toNat < 2 ^ 1000) : ∃ g f, m_divisor_and_factor [.int a, .int m] = some (.tup [.int g, .int f]) /\ St.Euc a m g f /\ f.natAbs <= m.toNat := by
 obtain ⟨g, f, t, x, y, e, E⟩ := euclid hb (m.toNat + 2) (a % m) m 1 0 .no .no (St.EI.start hm) (by omega)
 refine ⟨g, f, ?_, E.fin hm, E.sm⟩
 have hn : ¬ m = 0 := by omega
 have e' : wGo eT eB (m.toNat + 2) [.im (.int a), .im (.int m), .im (.int (a % m)), .im (.int 1), .im (.int m), .im (.int 0), .no, .no] = _ := e
 simp [m_divisor_and_factor, b_divisor_and_factor, hn, fmod_pos hm, List.replicate, e']
theorem p900 : (2 : Nat) ^ 900 + 2 ^ 900 < 2 ^ 1000 := by
 have h1 : (2 : Nat) ^ 901 = 2 ^ 900 * 2 := Nat.pow_succ 2 900
 have h2 : (2 : Nat) ^ 901 < 2 ^ 1000 := Nat.pow_lt_pow_right (by decide) (by decide)
 omega
theorem back_eq {s : St.S} (hp : 0 < s.st) (hb : s.st.toNat < 2 ^ 900) (r0 : 0 <= s.re) (r1 : s.re < s.st) {a b : Int} (ha : a ≠ 0) (ba : a.natAbs < 2 ^ 900) (bb : b.natAbs < 2 ^ 900) :
  ∃ g f, St.Euc a s.st g f /\ m_stretch_back [dS s, .int a, .int b] = some (dOS (St.back2 s a b g f)) := by
 obtain ⟨lo, hi, st, re⟩ := s
 have hp : 0 < st := hp
 have hb : st.toNat < 2 ^ 900 := hb
 have r0 : 0 <= re := r0
 have r1 : re < st := r1
 have p9 : (2 : Nat) ^ 900 + 2 ^ 900 < 2 ^ 1000 := p900
 obtain ⟨g, f, e, E, fm⟩ := euc_eq (a := a) hp (m := st) (by omega)
 refine ⟨g, f, E, ?_⟩
 have gp := E.pos
 have gl : g <= st := Int.le_of_dvd hp E.dm
 have gn : ¬ g = 0 := by omega
 have kg := okDiv_of (j := g) (by omega) (big_of (m := st.toNat) (by omega) (by omega))
 have ka := okDiv_of (j := a) ha (big_of (m := a.natAbs) (Nat.le_refl _) (by omega))
 have aw : ((re - b) / g).natAbs <= 2 ^ 900 + 2 ^ 900 := by
  have h1 : (re - b).natAbs <= 2 ^ 900 + 2 ^ 900 := by omega
  refine Nat.le_trans ?_ h1
  exact Int.natAbs_ediv_le_natAbs _ _
 have k1 := okMul_big (i := (re - b) / g) (j := f) (big_of aw (by omega)) (big_of fm (by omega))
 have sp : 0 < st / g := by
  obtain ⟨m', em⟩ := E.dm
  rw [em, Int.mul_ediv_cancel_left _ gn]
  rw [em] at hp
  exact Int.pos_of_mul_pos_right hp (by omega)
 have sn : ¬ st / g = 0 := by omega
 have ix0 : ∀ x y : D, atD [x, y] 0 = some x := fun _ _ => rfl
 have ix1 : ∀ x y : D, atD [x, y] 1 = some y := fun _ _ => rfl
 have iy0 : ∀ x y z w : D, atD [x, y, z, w] 0 = some x := fun _ _ _ _ => rfl
 have iy1 : ∀ x y z w : D, atD [x, y, z, w] 1 = some y := fun _ _ _ _ => rfl
 have ix2 : ∀ x y z w : D, atD [x, y, z, w] 2 = some z := fun _ _ _ _ => rfl
 have ix3 : ∀ x y z w : D, atD [x, y, z, w] 3 = some w := fun _ _ _ _ => rfl
 have md : ∀ lo hi, m_stretch_made [dO lo, dO hi, .int (st / g), .int ((re - b) / g * f % (st / g))] = some (dOS (St.made lo hi (st / g) ((re - b) / g * f % (st / g)))) := fun lo hi => made_eq _ _ _ _
 unfold St.back2 St.bkLo St.bkHi
 dsimp only
 by_cases hd : (re - b) % g = 0
 ·rw [if_pos hd]
  simp [m_stretch_back, b_stretch_back, ha, e, ix0, ix1, ix2, ix3, iy0, iy1, gn, fmod_pos gp, fdiv_pos gp, hd, kg, ka, k1, sn, fmod_pos sp]
  generalize hR : sSeq (sSet 8 _) _ = RR
  have T : ∀ u w : Option Int, fnA (RR [.im (.tup [dO lo, dO hi, .int st, .int re]), .im (.int a), .im (.int b), .im (.tup [.int g, .int f]), .im (.int g), .im (.int (re - b)), .im (.int (st / g)), .im (.lst [dO u, dO w]), .no, .no]) = some (dOS (St.made (u.map fun e => -((b - e).fdiv a)) (w.map fun e => (e - b).fdiv a) (st / g) ((re - b) / g * f % (st / g)))) := fun u w => by
   have q := md (u.map fun e => -((b - e).fdiv a)) (w.map fun e => (e - b).fdiv a)
   rw [<- hR]
   cases u <;> cases w <;> simp only [Option.map_none, Option.map_some, dO_none, dO_some] at q ⊢ <;> simp [ha, ix0, ix1, ix2, ix3, iy0, iy1, gn, fmod_pos gp, fdiv_pos gp, kg, ka, k1, sn, fmod_pos sp, q]
  by_cases h : 0 < a <;> simp [h, ix0, ix1, ix2, ix3, iy0, iy1, T]
 ·rw [if_neg hd]
  simp [m_stretch_back, b_stretch_back, ha, e, ix0, ix1, ix2, ix3, iy0, iy1, gn, fmod_pos gp, hd]
end Fx
namespace Fx
open PySem
theorem ix4_0 (x y z w : D) : atD [x, y, z, w] 0 = some x := rfl
theorem ix4_1 (x y z w : D) : atD [x, y, z, w] 1 = some y := rfl
theorem ix4_2 (x y z w : D) : atD [x, y, z, w] 2 = some z := rfl
theorem ix4_3 (x y z w : D) : atD [x, y, z, w] 3 = some w := rfl
@[simp] theorem dpD_dO (o : Option Int) : dpD (dO o) = 0 := by cases o <;> rfl
end Fx
namespace Fx
open PySem
@[simp] theorem isN_dO (o : Option Int) : isN (dO o) = o.isNone := by cases o <;> rfl
theorem low_eq (a b : Option Int) : m_lower_bound [dO a, dO b] = some (dO (St.lowB a b)) := by
 cases a with
 | none => cases b <;> simp [m_lower_bound, b_lower_bound, St.lowB]
 | some x => cases b <;> simp [m_lower_bound, b_lower_bound, St.lowB]
theorem upp_eq (a b : Option Int) : m_upper_bound [dO a, dO b] = some (dO (St.uppB a b)) := by
 cases a with
 | none => cases b <;> simp [m_upper_bound, b_upper_bound, St.uppB]
 | some x => cases b <;> simp [m_upper_bound, b_upper_bound, St.uppB]
theorem between_eq (s : St.S) (lo hi : Option Int) : m_stretch_between [dS s, dO lo, dO hi] = some (dOS (St.between s lo hi)) := by
 obtain ⟨l, h, st, re⟩ := s
 simp [m_stretch_between, b_stretch_between, ix4_0, ix4_1, ix4_2, ix4_3, low_eq, upp_eq, made_eq, St.between]
theorem bigM_le {i : Int} {k : Nat} (h : i.natAbs <= 2 ^ k) (hk : k < 1000) : bigM i = true := big_of h (Nat.pow_lt_pow_right (by decide) hk)
theorem lt900 {n k : Nat} (h : n <= 2 ^ k) (hk : k < 900) : n < 2 ^ 900 := Nat.lt_of_le_of_lt h (Nat.pow_lt_pow_right (by decide) hk)
theorem meet_eq {one other : St.S} (c1 : St.Canon one) (c2 : St.Canon other) {k : Nat} (hk : k <= 450) (b1 : St.Bd one (2 ^ k)) (b2 : St.Bd other (2 ^ k)) :
  ∃ r, m_stretch_meet [dS one, dS other] = some (dOS r) /\ St.Tells r (fun v => St.mem one v /\ St.mem other v) /\ St.BdO r (2 ^ (2 * k + 4)) := by
 have ha : one.st ≠ 0 := by have := c1.pos; omega
 have p2 := c2.pos
 have s2 := b2.st
 obtain ⟨g, f, E, e1⟩ := back_eq (a := one.st) (b := one.re) c2.pos (lt900 (k := k) (by omega) (by omega)) c2.r0 c2.r1 ha (lt900 b1.st (by omega)) (lt900 b1.re (by omega))
 have n1 : 1 <= 2 ^ k := Nat.one_le_two_pow
 refine ⟨St.meet2 one other g f, ?_, St.meet_ok c1 c2 E, ?_⟩
 ·have hb := St.back_ok (b := one.re) c2 ha E
  have hbb := St.back_bd c2 E ha b2 b1.re
  unfold St.meet2
  cases q : St.back2 other one.st one.re g f with
  | none =>
   rw [q] at e1
   obtain ⟨l, h, st, re⟩ := one
   simp only [dOS_none, dS_mk] at e1 ⊢
   simp [m_stretch_meet, b_stretch_meet, ix4_2, ix4_3, e1]
  | some t =>
   rw [q] at e1 hb
   have bt := (hbb t q).mono (m := 2 ^ (k + 2)) (by rw [Nat.pow_add]; omega)
   have e2 := moved_eq' (b := one.re) hb.1.pos ha (fun x hx => okMul_big (bigM_le b1.st (by omega)) (by
     rcases hx with z | z | z
     ·rw [z]; exact bigM_le bt.re (by omega)
     ·exact bigM_le (bt.lo x z) (by omega)
     ·exact bigM_le (bt.hi x z) (by omega))) (okMul_big (by
     have : (St.ab one.st).natAbs <= 2 ^ k := by rw [St.ab_abs]; exact b1.st
     exact bigM_le this (by omega)) (bigM_le bt.st (by omega)))
   dsimp only
   obtain ⟨u, eu, _⟩ := St.moved_some (b := one.re) hb.1 ha
   rw [eu] at e2 ⊢
   dsimp only
   have e3 := between_eq u one.lo one.hi
   obtain ⟨l, h, st, re⟩ := one
   simp only [dOS_some, dS_mk] at e1 e2 e3 ⊢
   simp [m_stretch_meet, b_stretch_meet, ix4_0, ix4_1, ix4_2, ix4_3, e1, e2, e3]
 ·intro s e
  refine (St.meet_bd c1 c2 E n1 b1 b2 s e).mono ?_
  rw [Nat.pow_add, Nat.two_mul, Nat.pow_add]
  omega
theorem eqD_dS (s t : St.S) : eqD (dS s) (dS t) = decide (s = t) := by
 have o : ∀ a b : Option Int, eqD (dO a) (dO b) = decide (a = b) := fun a b => by cases a <;> cases b <;> simp
 obtain ⟨l, h, st, re⟩ := s
 obtain ⟨l', h', st', re'⟩ := t
 simp only [dS_mk, eqD_tup_tup, eqDs_cc, eqDs_nn, o, eqD_int_int, St.S.mk.injEq, Bool.and_true]
 rw [Bool.eq_iff_iff]
 simp
theorem eqD_dOS (r r' : Option St.S) : eqD (dOS r) (dOS r') = decide (r = r') := by
 cases r with
 | none => cases r' with
  | none => simp
  | some t => obtain ⟨l, h, st, re⟩ := t; simp
 | some s => cases r' with
  | none => obtain ⟨l, h, st, re⟩ := s; simp
  | some t => simp [eqD_dS]
theorem eqD_dOS_dS (r : Option St.S) (s : St.S) : eqD (dOS r) (dS s) = decide (r = some s) := eqD_dOS r (some s)
@[simp] theorem dp_dS (s : St.S) : dpD (dS s) <= 30 := by obtain ⟨l, h, st, re⟩ := s; simp
@[simp] theorem dp_dOS (r : Option St.S) : dpD (dOS r) <= 30 := by cases r <;> simp
theorem inside_eq {one other : St.S} (c1 : St.Canon one) (c2 : St.Canon other) {k : Nat} (hk : k <= 450) (b1 : St.Bd one (2 ^ k)) (b2 : St.Bd other (2 ^ k)) :
  ∃ b : Bool, m_stretch_inside [dS one, dS other] = some (.bl b) /\ (b = true ↔ ∀ v, St.mem one v -> St.mem other v) := by
 obtain ⟨r, e, ht, _⟩ := meet_eq c1 c2 hk b1 b2
 refine ⟨decide (r = some one), ?_, ?_⟩
 ·simp [m_stretch_inside, b_stretch_inside, e, eqD_dOS_dS]
 ·rw [decide_eq_true_iff, St.Tells.self_iff c1 ht]
  exact ⟨fun h v m => ((h v).mpr m).2, fun h v => ⟨fun m => m.1, fun m => ⟨m, h v m⟩⟩⟩
end Fx
namespace Fx
open PySem
theorem inK_t (ts : List Str) (k : Str) : inK true ts k = decide (k ∈ ts) := by unfold inK; cases decide (k ∈ ts) <;> rfl
theorem inK_f (ts : List Str) (k : Str) : inK false ts k = !decide (k ∈ ts) := by unfold inK; cases decide (k ∈ ts) <;> rfl
theorem mem_uni {t1 t2 : List Str} {x : Str} : x ∈ uni t1 t2 ↔ x ∈ t1 \/ x ∈ t2 := by
 unfold uni
 rw [(sortS_perm _).mem_iff, mem_addAll, List.mem_append]; simp
theorem dpK (o : Bool) (ts : List Str) : dpD (KK o ts) <= 2 := by
 have dp := dpDs_strs ts
 simp [KK, dp]
noncomputable def dK : Option (Bool × List Str) -> D
 | none => .non
 | some (o, ts) => KK o ts
noncomputable def inR : Option (Bool × List Str) -> Str -> Bool
 | none, _ => false
 | some (o, ts), k => inK o ts k
theorem dp_dK (r : Option (Bool × List Str)) : dpD (dK r) <= 2 := by
 cases r with
 | none => exact Nat.zero_le _
 | some q => exact dpK _ _
theorem meetD_eq (o : Bool) (t1 t2 : List Str) : ∃ r, meetD o t1 t2 = dK r /\ ∀ k, inR r k = (inK true t1 k && inK o t2 k) := by
 unfold meetD
 by_cases z : t1.filter (inK o t2) = []
 ·refine ⟨none, by rw [if_pos z]; rfl, fun k => ?_⟩
  rw [inK_t]
  by_cases c : k ∈ t1
  ·have := List.filter_eq_nil_iff.mp z k c
   have f : inK o t2 k = false := by simpa using this
   rw [f, Bool.and_false]; rfl
  ·simp [c, inR]
 ·refine ⟨some (true, t1.filter (inK o t2)), by rw [if_neg z]; rfl, fun k => ?_⟩
  show inK true _ k = _
  rw [inK_t, inK_t, Bool.eq_iff_iff]
  simp [List.mem_filter]
theorem kmeet (o1 o2 : Bool) (t1 t2 : List Str) (h1 : t1.length <= 9) (h2 : t2.length <= 9) :
  ∃ r, m_keys_meet [KK o1 t1, KK o2 t2] = some (dK r) /\ ∀ k, inR r k = (inK o1 t1 k && inK o2 t2 k) := by
 cases o1 with
 | true =>
  obtain ⟨r, e, h⟩ := meetD_eq o2 t1 t2
  exact ⟨r, by rw [meet_only o2 t1 t2 (by omega), e], h⟩
 | false =>
  cases o2 with
  | true =>
   obtain ⟨r, e, h⟩ := meetD_eq false t2 t1
   exact ⟨r, by rw [meet_but_only t1 t2 (by omega), e], fun k => by rw [h k, Bool.and_comm]⟩
  | false =>
   refine ⟨some (false, uni t1 t2), meet_buts t1 t2 (by omega), fun k => ?_⟩
   show inK false _ k = _
   rw [inK_f, inK_f, inK_f, Bool.eq_iff_iff]
   simp [mem_uni]
theorem kinside (o1 o2 : Bool) (t1 t2 : List Str) (h1 : t1.length <= 9) (h2 : t2.length <= 9) : ∃ b : Bool, m_keys_inside [KK o1 t1, KK o2 t2] = some (.bl b) := by
 obtain ⟨r, e, _⟩ := kmeet o1 o2 t1 t2 h1 h2
 have d30 : dpD (dK r) <= 30 := Nat.le_trans (dp_dK r) (by decide)
 have k30 : dpD (KK o1 t1) <= 30 := Nat.le_trans (dpK o1 t1) (by decide)
 exact ⟨eqD (dK r) (KK o1 t1), by simp [m_keys_inside, b_keys_inside, e, d30, k30]⟩
theorem valin_eq {s : St.S} (hp : 0 < s.st) (v : Int) : m_law_value_in [dS s, .int v] = some (.bl (hasB s v)) := by
 obtain ⟨lo, hi, st, re⟩ := s
 have hp : 0 < st := hp
 have hn : ¬ st = 0 := by omega
 unfold hasB
 simp [m_law_value_in, b_law_value_in, hn, fmod_pos hp, ix4_0, ix4_1, ix4_2, ix4_3]
 cases lo with
 | none =>
  cases hi with
  | none => simp [hn, fmod_pos hp, leB, geB, ix4_0, ix4_1, ix4_2, ix4_3]
  | some y =>
   by_cases h : v <= y
   ·have h' : ¬ y < v := by omega
    simp [hn, fmod_pos hp, leB, geB, ix4_0, ix4_1, ix4_2, ix4_3, h, h']
   ·have h' : y < v := by omega
    simp [hn, fmod_pos hp, leB, geB, ix4_0, ix4_1, ix4_2, ix4_3, h, h']
 | some x =>
  by_cases g : x <= v
  ·have g' : ¬ v < x := by omega
   cases hi with
   | none => simp [hn, fmod_pos hp, leB, geB, ix4_0, ix4_1, ix4_2, ix4_3, g, g']
   | some y =>
    by_cases h : v <= y
    ·have h' : ¬ y < v := by omega
     simp [hn, fmod_pos hp, leB, geB, ix4_0, ix4_1, ix4_2, ix4_3, h, h', g, g']
    ·have h' : y < v := by omega
     simp [hn, fmod_pos hp, leB, geB, ix4_0, ix4_1, ix4_2, ix4_3, h, h', g, g']
  ·have g' : v < x := by omega
   simp [leB, ix4_0, ix4_1, ix4_2, ix4_3, g, g']
end Fx
namespace Fx
open PySem
structure Bx where
 o : Bool
 ts : List Str
 bg : Int
 en : Option Int
 s : St.S
noncomputable def dB (b : Bx) : D := .tup [KK b.o b.ts, .int b.bg, dO b.en, dS b.s]
noncomputable def dBO : Option Bx -> D
 | none => .non
 | some b => dB b
structure GB (b : Bx) : Prop where
 l : b.ts.length <= 9
 t0 : 0 <= b.bg
 te : ∀ e, b.en = some e -> b.bg < e
 c : St.Canon b.s
 bd : St.Bd b.s (2 ^ 100)
noncomputable def endB (en : Option Int) (t : Int) : Bool := match en with
 | none => true
 | some e => decide (t < e)
noncomputable def hasX (b : Bx) (t : Int) (k : Str) (v : Int) : Bool := decide (b.bg <= t) && endB b.en t && inK b.o b.ts k && hasB b.s v
noncomputable def hasXO : Option Bx -> Int -> Str -> Int -> Bool
 | none, _, _, _ => false
 | some b, t, k, v => hasX b t k v
noncomputable def dTh (t : Int) (k : Str) (v : Int) : D := .tup [.int t, .str k, .int v]
theorem ix3_0 (x y z : D) : atD [x, y, z] 0 = some x := rfl
theorem ix3_1 (x y z : D) : atD [x, y, z] 1 = some y := rfl
theorem ix3_2 (x y z : D) : atD [x, y, z] 2 = some z := rfl
theorem isN_KK (o : Bool) (ts : List Str) : isN (KK o ts) = false := rfl
theorem isN_dB (b : Bx) : isN (dB b) = false := rfl
theorem box_has_eq {b : Bx} (hp : 0 < b.s.st) (t : Int) (k : Str) (v : Int) : m_box_has [dB b, dTh t k v] = some (.bl (hasX b t k v)) := by
 obtain ⟨o, ts, bg, en, s⟩ := b
 have h1 := hold_eq o ts k
 have h2 := has_eq (s := s) hp v
 unfold hasX dB dTh
 dsimp only
 simp [m_box_has, b_box_has, List.replicate, ix3_0, ix3_1, ix3_2, ix4_0, ix4_1, ix4_2, ix4_3]
 by_cases h : t < bg
 ·have h' : ¬ bg <= t := by omega
  simp [ix3_0, ix3_1, ix3_2, ix4_0, ix4_1, ix4_2, ix4_3, h, h']
 ·have h' : bg <= t := by omega
  cases en with
  | none => cases hk : inK o ts k <;> rw [hk] at h1 <;> simp [ix3_0, ix3_1, ix3_2, ix4_0, ix4_1, ix4_2, ix4_3, h, h', h1, h2, endB]
  | some e =>
   by_cases q : e <= t
   ·have q' : ¬ t < e := by omega
    simp [ix3_0, ix3_1, ix3_2, ix4_0, ix4_1, ix4_2, ix4_3, h, h', q, q', endB]
   ·have q' : t < e := by omega
    cases hk : inK o ts k <;> rw [hk] at h1 <;> simp [ix3_0, ix3_1, ix3_2, ix4_0, ix4_1, ix4_2, ix4_3, h, h', h1, h2, q, q', endB]
theorem law_has_eq {b : Bx} (hp : 0 < b.s.st) (t : Int) (k : Str) (v : Int) : m_law_has [dB b, dTh t k v] = some (.bl (hasX b t k v)) := by
 obtain ⟨o, ts, bg, en, s⟩ := b
 have h1 := in_eq o ts k
 have h2 := valin_eq (s := s) hp v
 unfold hasX dB dTh
 dsimp only
 simp [m_law_has, b_law_has, ix3_0, ix3_1, ix3_2, ix4_0, ix4_1, ix4_2, ix4_3]
 by_cases h : t < bg
 ·have h' : ¬ bg <= t := by omega
  simp [List.replicate, ix3_0, ix3_1, ix3_2, ix4_0, ix4_1, ix4_2, ix4_3, h, h']
 ·have h' : bg <= t := by omega
  cases en with
  | none => cases hk : inK o ts k <;> rw [hk] at h1 <;> simp [List.replicate, ix3_0, ix3_1, ix3_2, ix4_0, ix4_1, ix4_2, ix4_3, h, h', h1, h2, endB]
  | some e =>
   by_cases q : e <= t
   ·have q' : ¬ t < e := by omega
    simp [List.replicate, ix3_0, ix3_1, ix3_2, ix4_0, ix4_1, ix4_2, ix4_3, h, h', q, q', endB]
   ·have q' : t < e := by omega
    cases hk : inK o ts k <;> rw [hk] at h1 <;> simp [List.replicate, ix3_0, ix3_1, ix3_2, ix4_0, ix4_1, ix4_2, ix4_3, h, h', h1, h2, q, q', endB]
theorem law_has_O {r : Option Bx} (hp : ∀ b, r = some b -> 0 < b.s.st) (t : Int) (k : Str) (v : Int) : m_law_has [dBO r, dTh t k v] = some (.bl (hasXO r t k v)) := by
 cases r with
 | none => simp [m_law_has, b_law_has, List.replicate, dBO, hasXO]
 | some b => exact law_has_eq (hp b rfl) t k v
noncomputable def mkX (o : Bool) (ts : List Str) (bg : Int) (en : Option Int) (s : St.S) : Option Bx := match en with
 | none => some ⟨o, ts, if 0 > bg then 0 else bg, none, s⟩
 | some e => if e <= (if 0 > bg then 0 else bg) then none else some ⟨o, ts, if 0 > bg then 0 else bg, some e, s⟩
theorem made_box (o : Bool) (ts : List Str) (bg : Int) (en : Option Int) (s : St.S) : m_box_made [KK o ts, .int bg, dO en, dS s] = some (dBO (mkX o ts bg en s)) := by
 cases en with
 | none => simp [m_box_made, b_box_made, isN_KK, mkX, dBO, dB]
 | some e =>
  unfold mkX
  dsimp only
  by_cases h : e <= (if 0 > bg then 0 else bg)
  ·simp only [h, if_true]
   simp at h
   simp [m_box_made, b_box_made, isN_KK, dBO, dB, h]
  ·simp only [h, if_false]
   simp at h
   have h' : ¬ (e <= if bg < 0 then 0 else bg) := by omega
   simp [m_box_made, b_box_made, isN_KK, dBO, dB, h, h']
theorem made_nk (x y z : D) : m_box_made [.non, x, y, z] = some .non := by simp [m_box_made, b_box_made]
theorem made_ns (o : Bool) (ts : List Str) (x y : D) : m_box_made [KK o ts, x, y, .non] = some .non := by simp [m_box_made, b_box_made, isN_KK]
end Fx
namespace Fx
open PySem
noncomputable def mxI (a b : Int) : Int := if b > a then b else a
noncomputable def mk2 (kr : Option (Bool × List Str)) (bg : Int) (en : Option Int) (sr : Option St.S) : Option Bx := match kr with
 | none => none
 | some q => match sr with
  | none => none
  | some s => mkX q.1 q.2 bg en s
theorem made_any (kr : Option (Bool × List Str)) (bg : Int) (en : Option Int) (sr : Option St.S) : m_box_made [dK kr, .int bg, dO en, dOS sr] = some (dBO (mk2 kr bg en sr)) := by
 cases kr with
 | none => exact made_nk _ _ _
 | some q =>
  cases sr with
  | none => exact made_ns _ _ _ _
  | some s => exact made_box _ _ _ _ _
theorem endB_upp (a b : Option Int) (t : Int) : endB (St.uppB a b) t = (endB a t && endB b t) := by
 cases a with
 | none => cases b <;> simp [St.uppB, endB]
 | some x =>
  cases b with
  | none => simp [St.uppB, endB]
  | some y =>
   simp only [St.uppB, endB]
   rw [Bool.eq_iff_iff]
   simp only [decide_eq_true_iff, Bool.and_eq_true]
   split <;> omega
theorem hasX_mk {o : Bool} {ts : List Str} {bg : Int} {en : Option Int} {s : St.S} (h0 : 0 <= bg) (t : Int) (k : Str) (v : Int) : hasXO (mkX o ts bg en s) t k v = (decide (bg <= t) && endB en t && inK o ts k && hasB s v) := by
 have e : (if 0 > bg then 0 else bg) = bg := if_neg (by omega)
 cases en with
 | none => simp only [mkX, e]; rfl
 | some x =>
  simp only [mkX, e]
  by_cases h : x <= bg
  ·rw [if_pos h]
   show false = _
   symm
   by_cases q : bg <= t
   ·have : ¬ t < x := by omega
    simp [endB, this]
   ·simp [q]
  ·rw [if_neg h]; rfl
theorem mkX_s {o : Bool} {ts : List Str} {bg : Int} {en : Option Int} {s : St.S} {m : Bx} (h : mkX o ts bg en s = some m) : m.s = s := by
 cases en with
 | none => cases h; rfl
 | some e =>
  simp only [mkX] at h
  by_cases c : e <= (if 0 > bg then 0 else bg)
  ·rw [if_pos c] at h; cases h
  ·rw [if_neg c] at h; cases h; rfl
theorem box_meet_eq {a b : Bx} (ga : GB a) (gb : GB b) : ∃ kr sr, m_keys_meet [KK a.o a.ts, KK b.o b.ts] = some (dK kr) /\ m_stretch_meet [dS a.s, dS b.s] = some (dOS sr) /\
  m_box_meet [dB a, dB b] = some (dBO (mk2 kr (mxI a.bg b.bg) (St.uppB a.en b.en) sr)) /\
  (∀ t k v, hasXO (mk2 kr (mxI a.bg b.bg) (St.uppB a.en b.en) sr) t k v = (hasX a t k v && hasX b t k v)) /\ (∀ m, mk2 kr (mxI a.bg b.bg) (St.uppB a.en b.en) sr = some m -> 0 < m.s.st) := by
 obtain ⟨kr, ek, hk⟩ := kmeet a.o b.o a.ts b.ts ga.l gb.l
 obtain ⟨sr, es, hs, _⟩ := meet_eq ga.c gb.c (k := 100) (by decide) ga.bd gb.bd
 refine ⟨kr, sr, ek, es, ?_, fun t k v => ?_, fun m em => ?_⟩
 ·have em := made_any kr (mxI a.bg b.bg) (St.uppB a.en b.en) sr
  have eu := upp_eq a.en b.en
  unfold mxI at em ⊢
  obtain ⟨o, ts, bg, en, s⟩ := a
  obtain ⟨o', ts', bg', en', s'⟩ := b
  simp only [gt_iff_lt] at em ⊢
  simp [m_box_meet, b_box_meet, dB, List.replicate, ix4_0, ix4_1, ix4_2, ix4_3, ek, es, eu, em]
 ·have h0 : 0 <= mxI a.bg b.bg := by
   have := ga.t0
   have := gb.t0
   unfold mxI; split <;> omega
  have mx : decide (mxI a.bg b.bg <= t) = (decide (a.bg <= t) && decide (b.bg <= t)) := by
   rw [Bool.eq_iff_iff]
   simp only [decide_eq_true_iff, Bool.and_eq_true]
   unfold mxI; split <;> omega
  have hk := hk k
  have hv : ∀ s, sr = some s -> hasB s v = (hasB a.s v && hasB b.s v) := fun s e => by
   subst e
   rw [Bool.eq_iff_iff, Bool.and_eq_true, hasB_iff, hasB_iff, hasB_iff]
   exact hs.2 v
  have hn : sr = none -> (hasB a.s v && hasB b.s v) = false := fun e => by
   subst e
   rw [<- Bool.not_eq_true, Bool.and_eq_true, hasB_iff, hasB_iff]
   exact hs v
  unfold hasX
  cases kr with
  | none =>
   have hk : false = (inK a.o a.ts k && inK b.o b.ts k) := hk
   show false = _
   symm
   cases h1 : inK a.o a.ts k
   ·simp
   ·rw [h1, Bool.true_and] at hk
    rw [<- hk]; simp
  | some q =>
   have hk : inK q.1 q.2 k = (inK a.o a.ts k && inK b.o b.ts k) := hk
   cases sr with
   | none =>
    have hn := hn rfl
    show false = _
    symm
    cases h1 : hasB a.s v
    ·simp
    ·rw [h1, Bool.true_and] at hn
     rw [hn]; simp
   | some s =>
    show hasXO (mkX q.1 q.2 _ _ s) t k v = _
    rw [hasX_mk h0, mx, endB_upp, hk, hv s rfl]
    generalize decide (a.bg <= t) = x1
    generalize decide (b.bg <= t) = x2
    generalize endB a.en t = x3
    generalize endB b.en t = x4
    generalize inK a.o a.ts k = x5
    generalize inK b.o b.ts k = x6
    generalize hasB a.s v = x7
    generalize hasB b.s v = x8
    revert x1 x2 x3 x4 x5 x6 x7 x8
    decide
 ·cases kr with
  | none => cases em
  | some q =>
   cases sr with
   | none => cases em
   | some s =>
    have em : mkX q.1 q.2 (mxI a.bg b.bg) (St.uppB a.en b.en) s = some m := em
    have : m.s = s := mkX_s em
    rw [this]
    exact hs.1.pos
theorem eqD_dO' (a b : Option Int) : eqD (dO a) (dO b) = decide (a = b) := by cases a <;> cases b <;> simp
theorem box_inside_eq {a b : Bx} (ga : GB a) (gb : GB b) : ∃ z : Bool, m_box_inside [dB a, dB b] = some (.bl z) /\ m_law_inside_due [dB a, dB b] = some (.bl z) := by
 obtain ⟨z1, e1⟩ := kinside a.o b.o a.ts b.ts ga.l gb.l
 obtain ⟨z2, e2, _⟩ := inside_eq ga.c gb.c (k := 100) (by decide) ga.bd gb.bd
 have eu := upp_eq a.en b.en
 obtain ⟨o, ts, bg, en, s⟩ := a
 obtain ⟨o', ts', bg', en', s'⟩ := b
 dsimp only at e1 e2 eu
 unfold dB
 dsimp only
 generalize hm1 : m_box_inside _ = R1
 generalize hm2 : m_law_inside_due _ = R2
 simp [m_box_inside, b_box_inside, ix4_0, ix4_1, ix4_2, ix4_3] at hm1
 simp [m_law_inside_due, b_law_inside_due, List.replicate, ix4_0, ix4_1, ix4_2, ix4_3] at hm2
 subst hm1 hm2
 by_cases h : bg < bg'
 ·have h' : ¬ bg' <= bg := by omega
  exact ⟨false, by simp [ix4_0, ix4_1, ix4_2, ix4_3, h], by simp [ix4_0, ix4_1, ix4_2, ix4_3, h']⟩
 ·have h' : bg' <= bg := by omega
  cases en' with
  | none =>
   have u : St.uppB en none = en := by cases en <;> rfl
   rw [u] at eu
   have q := eqD_dO' en en
   simp only [dO_none] at eu
   refine ⟨z1 && z2, ?_, ?_⟩
   ·cases z1 <;> simp [ix4_0, ix4_1, ix4_2, ix4_3, h, eu, q, e1, e2]
   ·cases z1 <;> simp [ix4_0, ix4_1, ix4_2, ix4_3, h', e1, e2]
  | some y =>
   cases en with
   | none =>
    have u : St.uppB none (some y) = some y := rfl
    rw [u] at eu
    simp only [dO_none, dO_some] at eu
    exact ⟨false, by simp [ix4_0, ix4_1, ix4_2, ix4_3, h, eu], by simp [ix4_0, ix4_1, ix4_2, ix4_3, h']⟩
   | some x =>
    have u : St.uppB (some x) (some y) = some (if y < x then y else x) := rfl
    rw [u] at eu
    simp only [dO_some] at eu
    by_cases c : x <= y
    ·rw [if_neg (by omega)] at eu
     refine ⟨z1 && z2, ?_, ?_⟩
     ·cases z1 <;> simp [ix4_0, ix4_1, ix4_2, ix4_3, h, eu, e1, e2]
     ·cases z1 <;> simp [ix4_0, ix4_1, ix4_2, ix4_3, h', e1, e2, c]
    ·have c' : ¬ y = x := by omega
     rw [if_pos (by omega)] at eu
     exact ⟨false, by simp [ix4_0, ix4_1, ix4_2, ix4_3, h, eu, c'], by simp [ix4_0, ix4_1, ix4_2, ix4_3, h', c]⟩
end Fx
namespace Fx
open PySem
noncomputable def retCa (d : D) (o : Option (Bool × MO)) : Option (D × MO) := bnd o fun q => if q.1 = true then some (d, q.2) else none
noncomputable def fnCa (o : Option Res) : Option (D × MO) := bnd o fun r => retC r
@[simp] theorem fnC_ (k : Nat) (B : FS) (o : MO) (d : D) : fnC k B o [d] = fnCa (B (.im d :: .ow true o :: List.replicate k .no)) := Eq.trans rfl rfl
@[simp] theorem fnCa_r (d : D) (ρ : En) : fnCa (some (.rt d ρ)) = retCa d (owO ρ[1]?) := Eq.trans rfl rfl
@[simp] theorem fnCa_n (ρ : En) : fnCa (some (.nx ρ)) = retCa .non (owO ρ[1]?) := Eq.trans rfl rfl
@[simp] theorem retCa_s (d : D) (o : MO) : retCa d (some (true, o)) = some (d, o) := Eq.trans rfl rfl
theorem mixed_eqB (c k : Int) : ∃ r : Int, m_law_mixed [.int c, .int k] = some (.int r) /\ 0 <= r /\ r < 2147483647 := by
 have a : ∀ x : Int, 0 <= Int.fmod x 2147483647 /\ Int.fmod x 2147483647 < 2147483647 := fun x => ⟨Int.fmod_nonneg_of_pos _ (by decide), Int.fmod_lt_of_pos _ (by decide)⟩
 have m1 : ∀ x : Int, okMul x 48271 = true := fun x => okMul_r (by decide)
 have m2 : okMul 7919 k = true := okMul_l (by decide)
 have m4 : ∀ x y : Int, okMul (Int.fmod x 2147483647) y = true := fun x y => okMul_l (by have := a x; omega)
 have d1 : okDiv 1009 = true := okDiv_s (by decide) (by decide)
 exact ⟨_, by simp [m_law_mixed, b_law_mixed, m1, m2, m4, d1]; rfl, (a _).1, (a _).2⟩
theorem nextB {ns : List Int} (hn : ns.length <= 63) {o : MO} (h : DrOk ns o) : ∃ (r : Int) (o' : MO), m_law_next o [] = some (.int r, o') /\ 0 <= r /\ r < 2147483647 /\ DrOk ns o' := by
 obtain ⟨wy, l, a, nb, kk, rfl, hl, ha, hk⟩ := h
 obtain ⟨l', a', e, hl', ha'⟩ := while_next ns wy nb kk .no .no 64 l a hl ha (by omega) 200 (by decide)
 by_cases hp : 0 < l'
 ·have d1 : okDiv 1000003 = true := okDiv_s (by decide) (by decide)
  have f0 := Int.fmod_nonneg_of_pos l' (b := 1000003) (by decide)
  have f1 := Int.fmod_lt_of_pos l' (b := 1000003) (by decide)
  have q : l'.fdiv 1000003 = l' / 1000003 := Int.fdiv_eq_ediv_of_nonneg _ (by decide)
  refine ⟨l'.fmod 1000003, .dic (drD ns wy (l' / 1000003) a' nb kk), ?_, f0, by omega, wy, l' / 1000003, a', nb, kk, rfl, Int.ediv_nonneg hl' (by decide), ha', hk⟩
  simp [m_law_next, b_law_next, List.replicate, e, drL, hp, d1, q, drlen, stL]
 ·obtain ⟨x, ex⟩ := cell_eq ns (k := kk + 1) (by omega)
  obtain ⟨r1, e1, _⟩ := mixed_eqB (nb + x) (kk + 1)
  obtain ⟨r2, e2, h2, h3⟩ := mixed_eqB r1 7
  refine ⟨r2, .dic (drD ns wy l' a' r1 (kk + 1)), ?_, h2, h3, wy, l', a', r1, kk + 1, rfl, hl', ha', by omega⟩
  simp [m_law_next, b_law_next, List.replicate, e, drL, hp, drK, drN, drS, drlen, stK, stN, ex, e1, e2]
theorem ten20 : (10 : Int) ^ 20 = 100000000000000000000 := by decide
theorem fm_pos (x : Int) {m : Int} (h : 0 < m) : 0 <= x.fmod m /\ x.fmod m < m := ⟨Int.fmod_nonneg_of_pos _ h, Int.fmod_lt_of_pos _ h⟩
theorem great_ok {ns : List Int} (hn : ns.length <= 63) {o : MO} (h : DrOk ns o) : ∃ (r : Int) (o' : MO), m_law_great o [] = some (.int r, o') /\ -214748364700000000002147483647 <= r /\ r <= 214748364700000000002147483647 /\ DrOk ns o' := by
 obtain ⟨r1, o1, e1, _, _, h1⟩ := nextB hn h
 obtain ⟨r2, o2, e2, _, _, h2⟩ := nextB hn h1
 have f4 := fm_pos r1 (m := 4) (by decide)
 have f41 := fm_pos r2 (m := 41) (by decide)
 have p10 : (10 : Int).natAbs < 2 ^ 64 := by decide
 have k1 : ∀ x : Int, 0 <= x -> x < 2147483647 -> okMul x 100000000000000000000 = true := fun x _ _ => okMul_l (by omega)
 generalize hm : m_law_great o [] = R
 simp [m_law_great, b_law_great, List.replicate, e1] at hm
 subst hm
 by_cases c1 : r1.fmod 4 = 1
 ·obtain ⟨r3, o3, e3, l3, u3, h3⟩ := nextB hn h2
  obtain ⟨r4, o4, e4, l4, u4, h4⟩ := nextB hn h3
  refine ⟨r3 * 100000000000000000000 + r4, o4, ?_, by omega, by omega, h4⟩
  simp [e2, c1, e3, e4, p10, ten20, k1 r3 l3 u3]
 ·by_cases c2 : r1.fmod 4 = 2
  ·obtain ⟨r3, o3, e3, l3, u3, h3⟩ := nextB hn h2
   obtain ⟨r4, o4, e4, l4, u4, h4⟩ := nextB hn h3
   refine ⟨0 - r3 * 100000000000000000000 - r4, o4, ?_, by omega, by omega, h4⟩
   simp [e2, c1, c2, e3, e4, p10, ten20, k1 r3 l3 u3]
  ·refine ⟨r2.fmod 41 - 20, o2, ?_, by omega, by omega, h2⟩
   simp [e2, c1, c2]
theorem steps_ix {i : Int} (h0 : 0 <= i) (h1 : i < 6) : ∃ st : Int, atD [.int 1, .int 1, .int 2, .int 3, .int 5, .int 12] i = some (.int st) /\ 1 <= st /\ st <= 12 := by
 have : i = 0 \/ i = 1 \/ i = 2 \/ i = 3 \/ i = 4 \/ i = 5 := by omega
 rcases this with rfl | rfl | rfl | rfl | rfl | rfl <;> exact ⟨_, rfl, by decide, by decide⟩
theorem p99' : (2 : Nat) ^ 99 = 633825300114114700748351602688 := by decide
structure GSt (s : St.S) : Prop where
 c : St.Canon s
 bd : St.Bd s (2 ^ 100)
theorem made_good {lo hi : Option Int} {st re : Int} (s1 : 1 <= st) (s2 : st <= 12) (r0 : 0 <= re) (r1 : re < st) (o1 : St.OB lo (2 ^ 99)) (o2 : St.OB hi (2 ^ 99)) (s : St.S) (es : St.made lo hi st re = some s) : GSt s := by
 have hb := St.made_bd (re := re) o1 o2 (m := 2 ^ 99) (show st.natAbs <= 2 ^ 99 by rw [p99']; omega) (by omega) s es
 have p100 : (2 : Nat) ^ 100 = 2 ^ 99 + 2 ^ 99 := by rw [Nat.pow_succ, Nat.mul_two]
 have := St.made_ok (lo := lo) (hi := hi) (by omega) r0 r1
 rw [es] at this
 exact ⟨this.1, by rw [p100]; exact hb⟩
theorem ob_none : St.OB none (2 ^ 99) := fun l e => by cases e
theorem ob_some {x : Int} (h : -600000000000000000000000000000 <= x) (h' : x <= 600000000000000000000000000000) : St.OB (some x) (2 ^ 99) := fun l e => by cases e; rw [p99']; omega
end Fx
namespace Fx
open PySem
theorem stretch_ok {ns : List Int} (hn : ns.length <= 63) {o : MO} (h : DrOk ns o) : ∃ (r : Option St.S) (o' : MO), m_law_stretch o [] = some (dOS r, o') /\ (∀ s, r = some s -> GSt s) /\ DrOk ns o' := by
 obtain ⟨g, o1, e1, l1, u1, h1⟩ := great_ok hn h
 obtain ⟨r2, o2, e2, _, _, h2⟩ := nextB hn h1
 have fin : ∀ o, DrOk ns o -> ∃ (r5 : Int) (o5 : MO) (r6 : Int) (o6 : MO) (st : Int), m_law_next o [] = some (.int r5, o5) /\ m_law_next o5 [] = some (.int r6, o6) /\ atD [.int 1, .int 1, .int 2, .int 3, .int 5, .int 12] (r5.fmod 6) = some (.int st) /\ 1 <= st /\ st <= 12 /\ 0 <= r6.fmod st /\ r6.fmod st < st /\ DrOk ns o6 := fun o ho => by
  obtain ⟨r5, o5, e5, _, _, h5⟩ := nextB hn ho
  obtain ⟨r6, o6, e6, _, _, h6⟩ := nextB hn h5
  have f6 := fm_pos r5 (m := 6) (by decide)
  obtain ⟨st, es, s1, s2⟩ := steps_ix f6.1 f6.2
  have fs := fm_pos r6 (m := st) (by omega)
  exact ⟨r5, o5, r6, o6, st, e5, e6, es, s1, s2, fs.1, fs.2, h6⟩
 generalize hm : m_law_stretch o [] = R
 simp [m_law_stretch, b_law_stretch, List.replicate, e1, e2] at hm
 subst hm
 generalize hR : sSeq (sSet 5 _) _ = RR
 have T : ∀ (o : MO) {r5 r6 st : Int} {o5 o6 : MO} (_ : m_law_next o [] = some (.int r5, o5)) (_ : m_law_next o5 [] = some (.int r6, o6)) (_ : atD [.int 1, .int 1, .int 2, .int 3, .int 5, .int 12] (r5.fmod 6) = some (.int st)) (_ : ¬ st = 0) (lo hi : Option Int) (x3 x4 : Sl),
   fnBa (RR [.ow true o, .im (dO lo), .im (dO hi), x3, x4, .no]) = some (dOS (St.made lo hi st (r6.fmod st)), o6) := fun o {r5 r6 st o5 o6} e5 e6 es sn lo hi x3 x4 => by
  rw [<- hR]
  simp [e5, e6, es, sn, made_eq]
 by_cases c2 : r2.fmod 5 = 2
 ·have c1 : ¬ r2.fmod 5 = 1 := by omega
  obtain ⟨r5, o5, r6, o6, st, e5, e6, es, s1, s2, f0, f1, h6⟩ := fin o2 h2
  have sn : ¬ st = 0 := by omega
  have em := T _ e5 e6 es sn (some g) none
  simp only [dO_none, dO_some] at em
  refine ⟨St.made (some g) none st (r6.fmod st), o6, ?_, made_good s1 s2 f0 f1 (ob_some (by omega) (by omega)) ob_none, h6⟩
  simp [c2, em]
 ·obtain ⟨r3, o3, e3, _, _, h3⟩ := nextB hn h2
  have f30 := fm_pos r3 (m := 30) (by decide)
  by_cases c3 : r2.fmod 5 = 3
  ·have c1 : ¬ r2.fmod 5 = 1 := by omega
   obtain ⟨g4, o4, e4, l4, u4, h4⟩ := great_ok hn h3
   obtain ⟨r5, o5, r6, o6, st, e5, e6, es, s1, s2, f0, f1, h6⟩ := fin o4 h4
   have sn : ¬ st = 0 := by omega
   have em := T _ e5 e6 es sn (some g) (some (g + (g4.natAbs : Int)))
   simp only [dO_none, dO_some] at em
   refine ⟨St.made (some g) (some (g + (g4.natAbs : Int))) st (r6.fmod st), o6, ?_, made_good s1 s2 f0 f1 (ob_some (by omega) (by omega)) (ob_some (by omega) (by omega)), h6⟩
   simp [c3, e3, e4, em]
  ·obtain ⟨r5, o5, r6, o6, st, e5, e6, es, s1, s2, f0, f1, h6⟩ := fin o3 h3
   have sn : ¬ st = 0 := by omega
   by_cases c1 : r2.fmod 5 = 1
   ·have em := T _ e5 e6 es sn none (some (g + r3.fmod 30))
    simp only [dO_none, dO_some] at em
    refine ⟨St.made none (some (g + r3.fmod 30)) st (r6.fmod st), o6, ?_, made_good s1 s2 f0 f1 ob_none (ob_some (by omega) (by omega)), h6⟩
    simp [c1, e3, em]
   ·have em := T _ e5 e6 es sn (some g) (some (g + r3.fmod 30))
    simp only [dO_none, dO_some] at em
    refine ⟨St.made (some g) (some (g + r3.fmod 30)) st (r6.fmod st), o6, ?_, made_good s1 s2 f0 f1 (ob_some (by omega) (by omega)) (ob_some (by omega) (by omega)), h6⟩
    simp [c1, c2, c3, e3, em]
theorem time_ok {ns : List Int} (hn : ns.length <= 63) {o : MO} (h : DrOk ns o) : ∃ (r : Int) (o' : MO), m_law_time o [] = some (.int r, o') /\ 0 <= r /\ DrOk ns o' := by
 obtain ⟨r1, o1, e1, _, _, h1⟩ := nextB hn h
 obtain ⟨r2, o2, e2, l2, u2, h2⟩ := nextB hn h1
 have p10 : (10 : Int).natAbs < 2 ^ 64 := by decide
 by_cases c : r1.fmod 4 = 1
 ·obtain ⟨r3, o3, e3, l3, u3, h3⟩ := nextB hn h2
  have k1 : okMul r2 100000000000000000000 = true := okMul_l (by omega)
  refine ⟨r2 * 100000000000000000000 + r3, o3, ?_, by omega, h3⟩
  simp [m_law_time, b_law_time, List.replicate, e1, c, e2, e3, p10, ten20, k1]
 ·have f30 := fm_pos r2 (m := 30) (by decide)
  refine ⟨r2.fmod 30, o2, ?_, f30.1, h2⟩
  simp [m_law_time, b_law_time, List.replicate, e1, c, e2]
theorem keys_len {ns : List Int} (hn : ns.length <= 63) {o : MO} (ho : DrOk ns o) {ks : List Str} (hk : ks.length = 9) :
  ∃ (b : Bool) (ts : List Str) (o' : MO), m_law_keys o [.lst (ks.map .str)] = some (KK b ts, o') /\ ts.length <= 9 /\ DrOk ns o' := by
 obtain ⟨w, ts, o', e, hw, ⟨ks', rfl, sub, len⟩, ho'⟩ := keys_ok hn ho hk
 have l9 : (sortS (addAll [] ks')).length <= 9 := by
  rw [(sortS_perm _).length_eq]
  have := addAll_len ks' []
  rw [List.length_nil] at this; omega
 rcases hw with ⟨rfl, ne⟩ | rfl
 ·exact ⟨true, _, o', e, l9, ho'⟩
 ·exact ⟨false, _, o', e, l9, ho'⟩
theorem mk_good {o : Bool} {ts : List Str} {bg : Int} {en : Option Int} {s : St.S} (l : ts.length <= 9) (h0 : 0 <= bg) (te : ∀ e, en = some e -> bg < e) (g : GSt s) : mkX o ts bg en s = some ⟨o, ts, bg, en, s⟩ /\ GB ⟨o, ts, bg, en, s⟩ := by
 have e : (if 0 > bg then 0 else bg) = bg := if_neg (by omega)
 refine ⟨?_, l, h0, te, g.c, g.bd⟩
 cases en with
 | none => simp only [mkX, e]
 | some x =>
  have := te x rfl
  simp only [mkX, e]
  rw [if_neg (by omega)]
theorem box_ok {ns : List Int} (hn : ns.length <= 63) {o : MO} (ho : DrOk ns o) {ks : List Str} (hk : ks.length = 9) : ∃ (r : Option Bx) (o' : MO), m_law_box o [.lst (ks.map .str)] = some (dBO r, o') /\ (∀ b, r = some b -> GB b) /\ DrOk ns o' := by
 obtain ⟨kb, ts, o1, e1, l1, h1⟩ := keys_len hn ho hk
 obtain ⟨bg, o2, e2, b0, h2⟩ := time_ok hn h1
 obtain ⟨r3, o3, e3, _, _, h3⟩ := nextB hn h2
 obtain ⟨r4, o4, e4, _, _, h4⟩ := nextB hn h3
 obtain ⟨sr, o5, e5, g5, h5⟩ := stretch_ok hn h4
 have f12 := fm_pos r3 (m := 12) (by decide)
 have key : ∀ en : Option Int, (∀ e, en = some e -> bg < e) -> ∃ r : Option Bx, m_box_made [KK kb ts, .int bg, dO en, dOS sr] = some (dBO r) /\ ∀ b, r = some b -> GB b := fun en te => by
  cases sr with
  | none => exact ⟨none, made_ns _ _ _ _, fun b e => by cases e⟩
  | some s =>
   obtain ⟨em, gm⟩ := mk_good (o := kb) l1 b0 te (g5 s rfl)
   refine ⟨some ⟨kb, ts, bg, en, s⟩, ?_, fun b e => by cases e; exact gm⟩
   show m_box_made [KK kb ts, .int bg, dO en, dS s] = _
   rw [made_box, em]
 by_cases c : r4.fmod 3 = 1
 ·obtain ⟨r, er, hr⟩ := key none fun e z => by cases z
  simp only [dO_none] at er
  refine ⟨r, o5, ?_, hr, h5⟩
  simp [m_law_box, b_law_box, List.replicate, e1, e2, e3, e4, e5, c, er]
 ·obtain ⟨r, er, hr⟩ := key (some (bg + 1 + r3.fmod 12)) fun e z => by cases z; omega
  simp only [dO_some] at er
  refine ⟨r, o5, ?_, hr, h5⟩
  simp [m_law_box, b_law_box, List.replicate, e1, e2, e3, e4, e5, c, er]
theorem near_tail {ks : List Str} {o o4 o5 o6 : MO} {r4 r5 r6 : Int} {lo hi eg : Option Int} {st re t bg : Int} {k : Str} {kk en : D} (lz : ks.length + 1 <= sizeLine) (e4 : m_law_next o [] = some (.int r4, o4)) (e5 : m_law_next o4 [] = some (.int r5, o5)) (e6 : m_law_next o5 [] = some (.int r6, o6))
  (ee : atD [dO lo, dO hi, .int st, .int re] (r4.fmod 2) = some (dO eg)) (ek : atD (ks.map D.str ++ [.str (Str.ofString "q")]) (r6.fmod 10) = some (.str k)) :
  fnBa (sSeqa
 (sSeq (sSet 4 (eC (.int 0)))
 (sSeq (sSet 5 (e2 dIx2 (e2 dIx2 (eV 1) (eC (.int 3))) (e2 dMod (eFb 0 m_law_next aN) (eC (.int 2)))))
 (sSeq (sIf (tB (e2 dIsNot (eV 5) (eC .non)))
 (sSet 4 (eV 5))
 sN)
 (sSeq (sSet 4 (e2 dSub (e2 dAdd (eV 4) (e2 dMod (eFb 0 m_law_next aN) (eC (.int 13)))) (eC (.int 6))))
 (sRet (eTup (aC (eF bMax (aC (eV 3) (aC (eC (.int 0)) aN))) (aC (e2 dIx2 (e2 dAdd (eV 2) (eLst (aC (eC (.str (Str.ofString "q"))) aN))) (e2 dMod (eFb 0 m_law_next aN) (eC (.int 10)))) (aC (eV 4) aN)))))))))
  (some (.nx [.ow true o, .im (.tup [kk, .int bg, en, .tup [dO lo, dO hi, .int st, .int re]]), .im (.lst (ks.map .str)), .im (.int t), .no, .no]))) = some (.tup [.int (if t < 0 then 0 else t), .str k, .int (eg.getD 0 + r5.fmod 13 - 6)], o6) := by
 cases eg <;> simp [ix4_0, ix4_1, ix4_2, ix4_3, e4, e5, e6, ee, ek, lz]
theorem near_ok {ns : List Int} (hn : ns.length <= 63) {o : MO} (ho : DrOk ns o) {ks : List Str} (hk : ks.length = 9) (b : Bx) : ∃ (t : Int) (k : Str) (v : Int) (o' : MO), m_law_near o [dB b, .lst (ks.map .str)] = some (dTh t k v, o') /\ DrOk ns o' := by
 obtain ⟨kb, ts, bg, en, s⟩ := b
 obtain ⟨lo, hi, st, re⟩ := s
 obtain ⟨r1, o1, e1, _, _, h1⟩ := nextB hn ho
 obtain ⟨r2, o2, e2, _, _, h2⟩ := nextB hn h1
 have lz : ks.length + 1 <= sizeLine := small_line (by omega)
 have tail : ∀ (o : MO), DrOk ns o -> ∃ (r4 : Int) (o4 : MO) (r5 : Int) (o5 : MO) (r6 : Int) (o6 : MO) (eg : Option Int) (k : Str), m_law_next o [] = some (.int r4, o4) /\ m_law_next o4 [] = some (.int r5, o5) /\ m_law_next o5 [] = some (.int r6, o6) /\
   atD [dO lo, dO hi, .int st, .int re] (r4.fmod 2) = some (dO eg) ∧ atD (ks.map D.str ++ [.str (Str.ofString "q")]) (r6.fmod 10) = some (.str k) ∧ DrOk ns o6 := fun o ho => by
  obtain ⟨r4, o4, e4, _, _, h4⟩ := nextB hn ho
  obtain ⟨r5, o5, e5, _, _, h5⟩ := nextB hn h4
  obtain ⟨r6, o6, e6, _, _, h6⟩ := nextB hn h5
  have f2 := fm_pos r4 (m := 2) (by decide)
  have f10 := fm_pos r6 (m := 10) (by decide)
  obtain ⟨k, _, ek⟩ := at_map D.str (ks ++ [Str.ofString "q"]) (i := r6.fmod 10) f10.1 (by rw [List.length_append, hk]; exact f10.2)
  rw [List.map_append] at ek
  have : r4.fmod 2 = 0 \/ r4.fmod 2 = 1 := by omega
  rcases this with z | z
  ·exact ⟨r4, o4, r5, o5, r6, o6, lo, k, e4, e5, e6, by rw [z]; rfl, ek, h6⟩
  ·exact ⟨r4, o4, r5, o5, r6, o6, hi, k, e4, e5, e6, by rw [z]; rfl, ek, h6⟩
 unfold dB dTh
 dsimp only
 generalize hm : m_law_near o _ = R
 simp [m_law_near, b_law_near, List.replicate, ix4_0, ix4_1, ix4_2, ix4_3, e1, e2, lz] at hm
 subst hm
 by_cases c : r2.fmod 2 = 1 /\ ∃ e, en = some e
 ·obtain ⟨c, e, rfl⟩ := c
  obtain ⟨r3, o3, e3, _, _, h3⟩ := nextB hn h2
  obtain ⟨r4, o4, r5, o5, r6, o6, eg, k, e4, e5, e6, ee, ek, h6⟩ := tail o3 h3
  have T := fun kk en t => near_tail (bg := bg) (kk := kk) (en := en) (t := t) lz e4 e5 e6 ee ek
  refine ⟨if e + r3.fmod 5 - 3 < 0 then 0 else e + r3.fmod 5 - 3, k, eg.getD 0 + r5.fmod 13 - 6, o6, ?_, h6⟩
  simp [ix4_0, ix4_1, ix4_2, ix4_3, c, e3, -sSeqa_n, T]
 ·obtain ⟨r4, o4, r5, o5, r6, o6, eg, k, e4, e5, e6, ee, ek, h6⟩ := tail o2 h2
  have T := fun kk en t => near_tail (bg := bg) (kk := kk) (en := en) (t := t) lz e4 e5 e6 ee ek
  refine ⟨if bg + r1.fmod 5 - 2 < 0 then 0 else bg + r1.fmod 5 - 2, k, eg.getD 0 + r5.fmod 13 - 6, o6, ?_, h6⟩
  by_cases c1 : r2.fmod 2 = 1
  ·have : en = none := by
    cases en with
    | none => rfl
    | some e => exact absurd ⟨c1, e, rfl⟩ c
   subst this
   simp [ix4_0, ix4_1, ix4_2, ix4_3, c1, -sSeqa_n, T]
  ·simp [ix4_0, ix4_1, ix4_2, ix4_3, c1, -sSeqa_n, T]
end Fx
namespace Fx
open PySem
theorem dpKe (o : Bool) (ts : List Str) : dpD (KK o ts) = 2 := by
 have dp := dpDs_strs ts
 simp [KK, dp]
theorem dpSe (s : St.S) : dpD (dS s) = 1 := by
 obtain ⟨l, h, st, re⟩ := s
 simp
theorem eqKr (o : Bool) (ts : List Str) : eqD (KK o ts) (KK o ts) = true := by
 have e := eqDs_strs ts ts
 simp [KK, e]
theorem eqSr (s : St.S) : eqD (dS s) (dS s) = true := by rw [eqD_dS]; simp
theorem eqOr (o : Option Int) : eqD (dO o) (dO o) = true := by rw [eqD_dO']; simp
theorem dpB (b : Bx) : dpD (dB b) = 3 := by simp [dB, dpKe, dpSe]
theorem made_none {o : Bool} {ts : List Str} {bg e : Int} {s : St.S} (h : e <= (if 0 > bg then 0 else bg)) : m_box_made [KK o ts, .int bg, .int e, dS s] = some .non := by
 have := made_box o ts bg (some e) s
 simp only [mkX, if_pos h] at this
 exact this
theorem right_ok {ns : List Int} (hn : ns.length <= 63) {o : MO} (ho : DrOk ns o) {b : Bx} (g : GB b) : ∃ o', m_law_made_right o [dB b] = some (.bl true, o') /\ DrOk ns o' := by
 obtain ⟨r, o1, e1, l1, _, h1⟩ := nextB hn ho
 have f9 := fm_pos r (m := 9) (by decide)
 obtain ⟨kb, ts, bg, en, s⟩ := b
 have t0 : 0 <= bg := g.t0
 have te : ∀ e, en = some e -> bg < e := g.te
 have gs : GSt s := ⟨g.c, g.bd⟩
 have q1 : m_box_made [KK kb ts, .int bg, dO en, dS s] = some (.tup [KK kb ts, .int bg, dO en, dS s]) := by
  rw [made_box, (mk_good g.l t0 te gs).1]; rfl
 have q2 : m_box_made [KK kb ts, .int (bg + r.fmod 9), .int bg, dS s] = some .non := made_none (by split <;> omega)
 have q3 : m_box_made [KK kb ts, .int (0 - r.fmod 9), .int 0, dS s] = some .non := made_none (by split <;> omega)
 have q4 : m_box_made [KK kb ts, .int (0 - r.fmod 9), dO en, dS s] = some (.tup [KK kb ts, .int 0, dO en, dS s]) := by
  rw [made_box]
  have z : (if 0 > 0 - r.fmod 9 then 0 else 0 - r.fmod 9) = 0 := by split <;> omega
  cases en with
  | none => simp only [mkX, z]; rfl
  | some x =>
   have := te x rfl
   simp only [mkX, z]
   rw [if_neg (by omega)]; rfl
 have n1 := made_nk (.int bg) (dO en) (dS s)
 have n2 := made_ns kb ts (.int bg) (dO en)
 refine ⟨o1, ?_, h1⟩
 have zs : (0 : Int) - r.fmod 9 = -(r.fmod 9) := by omega
 rw [zs] at q3 q4
 simp [m_law_made_right, b_law_made_right, List.replicate, dB, e1, q1, q2, q3, q4, n1, n2, dpKe, dpSe, eqKr, eqSr, eqOr]
noncomputable def eLRBa (js : List Nat) (i q : Nat) (T : FT) (F : FE) (o : Option (List D × En)) : Option (D × En) := bnd o fun p => lcB js i q T F p.1 p.2
@[simp] theorem eLRB_ (js : List Nat) (i q : Nat) (R : FA) (T : FT) (F : FE) (ρ : En) : eLRB js i q R T F ρ = eLRBa js i q T F (R ρ) := Eq.trans rfl rfl
@[simp] theorem eLRBa_s (js : List Nat) (i q : Nat) (T : FT) (F : FE) (xs : List D) (ρ : En) : eLRBa js i q T F (some (xs, ρ)) = lcB js i q T F xs ρ := Eq.trans rfl rfl
theorem boxes_go {ns : List Int} (hn : ns.length <= 63) {ks : List Str} (hk : ks.length = 9) {ρ : En} (h2 : ρ[2]? = some (.im (.lst (ks.map .str)))) : ∀ (ds : List D) (o : MO), DrOk ns o ->
  ∃ (rs : List (Option Bx)) (o' : MO), cGoB tYes (eFb 1 m_law_box (aC (eV 2) aN)) ρ 1 [1, 2] 0 o ds = some (rs.map dBO, o') /\ rs.length = ds.length /\ (∀ r ∈ rs, ∀ b, r = some b -> GB b) /\ DrOk ns o'
 | [], o, ho => ⟨[], o, rfl, rfl, fun r h => (by cases h), ho⟩
 | d :: ds, o, ho => by
  obtain ⟨r, o1, e1, g1, ho1⟩ := box_ok hn ho hk
  obtain ⟨rs, o2, e2', l2, g2, ho2⟩ := boxes_go hn hk h2 ds o1 ho1
  refine ⟨r :: rs, o2, ?_, by rw [List.length_cons, List.length_cons, l2], fun x hx => ?_, ho2⟩
  ·have fr : frAt ρ 1 o [1, 2] = some [.ow true o, .im (.lst (ks.map .str))] := by
    show bnd (some (Sl.ow true o)) (fun s => bnd (bnd (slI ρ[2]?) fun s => bnd (some []) fun r => some (s :: r)) fun r => some (s :: r)) = _
    rw [h2]; rfl
   have ev : eFb 1 m_law_box (aC (eV 2) aN) [.im d, .ow true o, .im (.lst (ks.map .str))] = some (dBO r, [.im d, .ow true o1, .im (.lst (ks.map .str))]) := by simp [e1]
   rw [cGoB_cons, fr, bnd_some]
   show bnd (some (true, _)) _ = _
   rw [bnd_some]
   show (if true = true then bnd (eFb 1 m_law_box (aC (eV 2) aN) [.im d, .ow true o, .im (.lst (ks.map .str))]) _ else _) = _
   rw [if_pos rfl, ev, bnd_some]
   show bnd (some o1) _ = _
   rw [bnd_some, e2', bnd_some]; rfl
  ·rcases List.mem_cons.mp hx with rfl | hx
   ·exact g1
   ·exact g2 x hx
theorem some_go : ∀ rs : List (Option Bx), cGo (tB (e2 dIsNot (eV 0) (eC .non))) (eV 0) [] (rs.map dBO) = some ((rs.filterMap id).map dB)
 | [] => rfl
 | none :: rs => by
  have ih := some_go rs
  have t : tB (e2 dIsNot (eV 0) (eC .non)) [.im .non] = some (false, [.im .non]) := by simp
  rw [List.map_cons, cGo_c]
  show cGa _ _ _ _ (tB (e2 dIsNot (eV 0) (eC .non)) [.im .non]) = _
  rw [t, cGa_f, ih]; rfl
 | some b :: rs => by
  have ih := some_go rs
  have t : tB (e2 dIsNot (eV 0) (eC .non)) [.im (dB b)] = some (true, [.im (dB b)]) := by simp [isN_dB]
  have f : eV 0 [.im (dB b)] = some (dB b, [.im (dB b)]) := rfl
  rw [List.map_cons, cGo_c]
  show cGa _ _ _ _ (tB (e2 dIsNot (eV 0) (eC .non)) [.im (dB b)]) = _
  rw [t, cGa_t, f, cGb_s, ih, cnsO_s]; rfl
theorem cut_take (n : Nat) (xs : List D) : dCut xs none (some (n : Int)) = xs.take n := by
 unfold dCut
 show (xs.drop 0).take _ = _
 rw [List.drop_zero]
 show xs.take (((if (n : Int) < 0 then max ((n : Int) + (xs.length : Int)) 0 else min (n : Int) (xs.length : Int))).toNat - 0) = _
 rw [if_neg (by omega), Nat.sub_zero]
 by_cases h : xs.length <= n
 ·rw [List.take_of_length_le (by omega), List.take_of_length_le h]
 ·rw [show (min (n : Int) (xs.length : Int)).toNat = n by omega]
end Fx
namespace Fx
open PySem
noncomputable abbrev E14 (sc : D) (o : MO) (pl : D) (a b : Bx) (r : Option Bx) (x5 x8 x9 x10 x11 x12 x13 x14 x15 : Sl) : En :=
 [.im sc, .ow false o, .im pl, .im (.lst [dB a, dB b]), .im (dBO r), x5, .im (dB a), .im (dB b), x8, x9, x10, x11, x12, x13, x14, x15]
theorem turn1 {sc pl : D} {o : MO} {a b c : Bx} {r : Option Bx} {x5 x8 x9 x10 x12 x13 x14 x15 : Sl} {t v : Int} {k : Str} (hc : 0 < c.s.st) (ds : List D) :
  fGo (gN 12) l_law_1 (dB c :: ds) (E14 sc o pl a b r x5 x8 x9 x10 (.im (dTh t k v)) x12 x13 x14 x15) = fGo (gN 12) l_law_1 ds (E14 sc o pl a b r x5 x8 x9 x10 (.im (dTh t k v)) (.im (dB c)) x13 x14 (.im (.bl (hasX c t k v)))) := by
 have h1 := box_has_eq hc t k v
 have h2 := law_has_eq hc t k v
 have e : l_law_1 (E14 sc o pl a b r x5 x8 x9 x10 (.im (dTh t k v)) (.im (dB c)) x13 x14 x15) = some (.nx (E14 sc o pl a b r x5 x8 x9 x10 (.im (dTh t k v)) (.im (dB c)) x13 x14 (.im (.bl (hasX c t k v))))) := by
  simp [l_law_1, h1, h2, isTy]
 rw [fGo_c]
 show fGa (gN 12) l_law_1 ds (some (E14 sc o pl a b r x5 x8 x9 x10 (.im (dTh t k v)) (.im (dB c)) x13 x14 x15)) = _
 rw [fGa_s, e, fGb_n]
theorem ix2s (a b : D) {i : Int} (h0 : 0 <= i) (h1 : i < 2) : atD [a, b] i = some a \/ atD [a, b] i = some b := by
 have : i = 0 \/ i = 1 := by omega
 rcases this with rfl | rfl
 ·exact .inl rfl
 ·exact .inr rfl
noncomputable def P14 (ns : List Int) (sc pl : D) (a b : Bx) (r : Option Bx) (x8 x9 x10 : Sl) (ρ : En) : Prop := ∃ o x5 x11 x12 x15, DrOk ns o /\ ρ = E14 sc o pl a b r x5 x8 x9 x10 x11 x12 .no .no x15
theorem turn2 {ns : List Int} (hn : ns.length <= 63) {sc : D} {ks : List Str} (hk : ks.length = 9) {a b : Bx} {r : Option Bx} (ha : 0 < a.s.st) (hb : 0 < b.s.st) (hr : ∀ m, r = some m -> 0 < m.s.st) (hm : ∀ t k v, hasXO r t k v = (hasX a t k v && hasX b t k v)) {x8 x9 x10 : Sl} (i : Nat) (ρ : En) (p : P14 ns sc (.lst (ks.map .str)) a b r x8 x9 x10 ρ) :
  ∃ ρ1 ρ2, gN 5 (.int (0 + i)) ρ = some ρ1 /\ l_law_2 ρ1 = some (.nx ρ2) /\ P14 ns sc (.lst (ks.map .str)) a b r x8 x9 x10 ρ2 := by
 obtain ⟨o, x5, x11, x12, x15, ho, rfl⟩ := p
 have f2 := fm_pos (0 + (i : Int)) (m := 2) (by decide)
 obtain ⟨c, hc⟩ : ∃ c : Bx, atD [dB a, dB b] ((0 + (i : Int)).fmod 2) = some (dB c) := by
  rcases ix2s (dB a) (dB b) f2.1 f2.2 with z | z
  ·exact ⟨a, z⟩
  ·exact ⟨b, z⟩
 obtain ⟨t, k, v, o', e1, ho'⟩ := near_ok hn ho hk c
 refine ⟨_, E14 sc o' (.lst (ks.map .str)) a b r (.im (.int (0 + i))) x8 x9 x10 (.im (dTh t k v)) (.im (dB b)) .no .no (.im (.bl (hasX b t k v))), rfl, ?_, o', _, _, _, _, ho', rfl⟩
 have lo : fGo (gN 12) l_law_1 [dB a, dB b] (E14 sc o' (.lst (ks.map .str)) a b r (.im (.int (0 + i))) x8 x9 x10 (.im (dTh t k v)) x12 .no .no x15)
   = some (.nx (E14 sc o' (.lst (ks.map .str)) a b r (.im (.int (0 + i))) x8 x9 x10 (.im (dTh t k v)) (.im (dB b)) .no .no (.im (.bl (hasX b t k v))))) := by
  rw [turn1 ha, turn1 hb, fGo_n]
 have h1 := law_has_eq ha t k v
 have h2 := law_has_eq hb t k v
 have h3 := law_has_O hr t k v
 have hm := hm t k v
 rw [hm] at h3
 generalize hasX a t k v = z1 at h1 h3
 generalize hz : hasX b t k v = z2 at h2 h3 lo ⊢
 generalize (0 + (i : Int)) = ii at hc lo ⊢
 simp only [E14] at lo
 cases z1 <;> simp [l_law_2, E14, hc, e1, lo, h1, h2, h3]
theorem turn3 {sc pl : D} {o : MO} {a b c d : Bx} {r : Option Bx} {x5 x8 x9 x10 x11 x12 x13 x14 x15 : Sl} (gc : GB c) (gd : GB d) (ds : List D) :
  ∃ z : Bool, fGo (gT [13, 14]) l_law_3 (.tup [dB c, dB d] :: ds) (E14 sc o pl a b r x5 x8 x9 x10 x11 x12 x13 x14 x15) = fGo (gT [13, 14]) l_law_3 ds (E14 sc o pl a b r x5 x8 x9 x10 x11 x12 (.im (dB c)) (.im (dB d)) (.im (.bl z))) := by
 obtain ⟨z, h1, h2⟩ := box_inside_eq gc gd
 refine ⟨z, ?_⟩
 have e : l_law_3 (E14 sc o pl a b r x5 x8 x9 x10 x11 x12 (.im (dB c)) (.im (dB d)) x15) = some (.nx (E14 sc o pl a b r x5 x8 x9 x10 x11 x12 (.im (dB c)) (.im (dB d)) (.im (.bl z)))) := by
  simp [l_law_3, h1, h2, isTy]
 rw [fGo_c]
 show fGa (gT [13, 14]) l_law_3 ds (some (E14 sc o pl a b r x5 x8 x9 x10 x11 x12 (.im (dB c)) (.im (dB d)) x15)) = _
 rw [fGa_s, e, fGb_n]
theorem len_dB (b : Bx) : bLen2 [dB b] = some (.int 4) := rfl
theorem ty_dB (b : Bx) : isTy .tuple (dB b) = true := rfl
theorem dxB1 (b : Bx) : dIx2 (dB b) (.int 1) = some (.int b.bg) := rfl
theorem dxB2 (b : Bx) : dIx2 (dB b) (.int 2) = some (dO b.en) := rfl
theorem dxB0 (b : Bx) : dIx2 (dB b) (.int 0) = some (KK b.o b.ts) := rfl
theorem dxB3 (b : Bx) : dIx2 (dB b) (.int 3) = some (dS b.s) := rfl
noncomputable def endsL (x y : Option Int) : List Int := [x, y].filterMap id
theorem ends_go (x y : Option Int) : cGo (tB (e2 dIsNot (eV 0) (eC .non))) (eV 0) [] [dO x, dO y] = some ((endsL x y).map .int) := by
 cases x <;> cases y <;> simp [endsL]
theorem mk2_none {kr : Option (Bool × List Str)} {bg : Int} {en : Option Int} {sr : Option St.S} (h0 : 0 <= bg) (h : mk2 kr bg en sr = none) : kr = none \/ sr = none \/ ∃ e, en = some e /\ e <= bg := by
 cases kr with
 | none => exact .inl rfl
 | some q =>
  cases sr with
  | none => exact .inr (.inl rfl)
  | some s =>
   refine .inr (.inr ?_)
   have h : mkX q.1 q.2 bg en s = none := h
   have z : (if 0 > bg then 0 else bg) = bg := if_neg (by omega)
   cases en with
   | none => cases h
   | some e =>
    refine ⟨e, rfl, ?_⟩
    simp only [mkX, z] at h
    by_cases c : e <= bg
    ·exact c
    ·rw [if_neg c] at h; cases h
theorem ends_min {x y : Option Int} {e : Int} (h : St.uppB x y = some e) : endsL x y ≠ [] /\ bMin [.lst ((endsL x y).map .int)] = some (.int e) := by
 cases x with
 | none =>
  cases y with
  | none => cases h
  | some y => cases h; exact ⟨by simp [endsL], rfl⟩
 | some x =>
  cases y with
  | none => cases h; exact ⟨by simp [endsL], rfl⟩
  | some y =>
   have h : some (if y < x then y else x) = some e := h
   cases h
   exact ⟨by simp [endsL], rfl⟩
theorem law_true (ns : List Int) (hl : ns.length <= 63) : m_law [.lst (ns.map .int)] = some (.bl true) := by
 obtain ⟨x, ex⟩ := cell_eq ns (k := 0) (by decide)
 have ed : m_law_draws [.lst (ns.map .int)] = some (.dic (drD ns (x.fmod 2) 0 1 x 0)) := by
  simp [m_law_draws, b_law_draws, List.replicate, ex, drD]
  decide +kernel
 obtain ⟨pool, o1, e1, hp, hlen, hq, ho1⟩ := pool_ok hl (o := .dic (drD ns (x.fmod 2) 0 1 x 0)) ⟨x.fmod 2, 0, 1, x, 0, rfl, by decide, by decide, by decide⟩
 obtain ⟨rs, o2, e2', l2, g2, ho2⟩ := boxes_go (ρ := [.im (.lst (ns.map .int)), .ow false o1, .im (.lst (pool.map .str)), .no, .no, .no, .no, .no, .no, .no, .no, .no, .no, .no, .no, .no]) hl hp rfl (rngD 0 4) o1 ho1
 have e3 := some_go rs
 have gs : ∀ b ∈ (rs.filterMap id).take 2, GB b := fun b hb => by
  have := List.mem_of_mem_take hb
  obtain ⟨r, hr, e⟩ := List.mem_filterMap.mp this
  exact g2 r hr b e
 have l4 : (4 : Nat) <= sizeLine := small_line (by decide)
 have lr : rs.length <= sizeLine := by rw [l2]; exact l4
 have cut := cut_take 2 ((rs.filterMap id).map dB)
 rw [<- List.map_take] at cut
 have lb : ((rs.filterMap id).take 2).length <= 2 := List.length_take_le _ _
 have cut' : dCut ((rs.filterMap id).map dB) none (some 2) = ((rs.filterMap id).take 2).map dB := cut
 have r4 : (rngD 0 4).length = 4 := rfl
 have r40 : (rngD 0 40).length = 40 := rfl
 generalize (rs.filterMap id).take 2 = bs at gs cut' lb
 simp [m_law, b_law, List.replicate, ed, e1, e2', e3, l4, lr, r4, cut']
 cases bs with
 | nil => simp
 | cons a bs =>
 cases bs with
 | nil =>
  obtain ⟨o3, e4, _⟩ := right_ok hl ho2 (gs a (by simp))
  have i0 : atD [dB a] 0 = some (dB a) := rfl
  simp [dpB, i0, e4]
 | cons b bs =>
  have hbs : bs = [] := by
   cases bs with
   | nil => rfl
   | cons c r => simp at lb
  subst hbs
  have ga := gs a (by simp)
  have gb := gs b (by simp)
  obtain ⟨kr, sr, ek, es, em, hm, hpos⟩ := box_meet_eq ga gb
  have h0 : 0 <= mxI a.bg b.bg := by
   have := ga.t0
   have := gb.t0
   unfold mxI; split <;> omega
  have hno := fun h => mk2_none (kr := kr) (en := St.uppB a.en b.en) (sr := sr) h0 h
  generalize hr : mk2 kr (mxI a.bg b.bg) (St.uppB a.en b.en) sr = r at em hm hpos hno
  have loops : ∀ (x8 x9 x10 : Sl), ∃ (o5 : MO) (y5 y11 y12 y13 y14 y15 z11 z12 z15 : Sl) (o4 : MO), fGo (gN 5) l_law_2 (rngD 0 40) (E14 (.lst (ns.map .int)) o2 (.lst (pool.map .str)) a b r .no x8 x9 x10 .no .no .no .no .no) = some (.nx (E14 (.lst (ns.map .int)) o4 (.lst (pool.map .str)) a b r y5 x8 x9 x10 y11 y12 .no .no y15)) /\
    fGo (gT [13, 14]) l_law_3 [.tup [dB a, dB b], .tup [dB b, dB a], .tup [dB a, dB a]] (E14 (.lst (ns.map .int)) o4 (.lst (pool.map .str)) a b r y5 x8 x9 x10 y11 y12 .no .no y15) = some (.nx (E14 (.lst (ns.map .int)) o4 (.lst (pool.map .str)) a b r y5 x8 x9 x10 y11 y12 (.im (dB a)) (.im (dB a)) z15)) /\
    m_law_made_right o4 [dB a] = some (.bl true, o5) := fun x8 x9 x10 => by
   obtain ⟨ρ', el, o4, y5, y11, y12, y15, ho4, rfl⟩ := fGo_rng (P14 ns (.lst (ns.map .int)) (.lst (pool.map .str)) a b r x8 x9 x10) 40 0 (E14 (.lst (ns.map .int)) o2 (.lst (pool.map .str)) a b r .no x8 x9 x10 .no .no .no .no .no)
    (fun i ρ _ p => turn2 hl hp ga.c.pos gb.c.pos hpos hm i ρ p) ⟨o2, .no, .no, .no, .no, ho2, rfl⟩
   obtain ⟨z1, t1⟩ := turn3 (sc := .lst (ns.map .int)) (o := o4) (pl := .lst (pool.map .str)) (a := a) (b := b) (r := r) (x5 := y5) (x8 := x8) (x9 := x9) (x10 := x10) (x11 := y11) (x12 := y12) (x13 := .no) (x14 := .no) (x15 := y15) ga gb [.tup [dB b, dB a], .tup [dB a, dB a]]
   obtain ⟨z2, t2⟩ := turn3 (sc := .lst (ns.map .int)) (o := o4) (pl := .lst (pool.map .str)) (a := a) (b := b) (r := r) (x5 := y5) (x8 := x8) (x9 := x9) (x10 := x10) (x11 := y11) (x12 := y12) (x13 := .im (dB a)) (x14 := .im (dB b)) (x15 := .im (.bl z1)) gb ga [.tup [dB a, dB a]]
   obtain ⟨z3, t3⟩ := turn3 (sc := .lst (ns.map .int)) (o := o4) (pl := .lst (pool.map .str)) (a := a) (b := b) (r := r) (x5 := y5) (x8 := x8) (x9 := x9) (x10 := x10) (x11 := y11) (x12 := y12) (x13 := .im (dB b)) (x14 := .im (dB a)) (x15 := .im (.bl z2)) ga ga []
   obtain ⟨o5, e5, _⟩ := right_ok hl ho4 ga
   exact ⟨o5, y5, y11, y12, .no, .no, y15, .no, .no, .im (.bl z3), o4, el, by rw [t1, t2, t3, fGo_n], e5⟩
  generalize hR : sSeq (sForR _ _ _) _ = RR
  have T : ∀ x8 x9 x10 : Sl, fnA (RR [.im (.lst (ns.map .int)), .ow false o2, .im (.lst (pool.map .str)), .im (.lst [dB a, dB b]), .im (dBO r), .no, .im (dB a), .im (dB b), x8, x9, x10, .no, .no, .no, .no, .no]) = some (.bl true) := fun x8 x9 x10 => by
   obtain ⟨o5, y5, y11, y12, y13, y14, y15, z11, z12, z15, o4, f1, f2, f3⟩ := loops x8 x9 x10
   simp only [E14] at f1 f2
   rw [<- hR]
   simp [r40, f1, f2, f3]
  cases r with
  | some m =>
   simp only [dBO] at T
   have em : m_box_meet [dB a, dB b] = some (dB m) := em
   simp [em, isN_dB, len_dB, ty_dB, T]
  | none =>
   simp only [dBO] at T
   have em : m_box_meet [dB a, dB b] = some .non := em
   have eg := ends_go a.en b.en
   have mx : ∀ p q : Int, bMax [.int p, .int q] = some (.int (mxI p q)) := fun p q => rfl
   have lz : (2 : Nat) <= sizeLine := small_line (by decide)
   simp [em, dxB0, dxB1, dxB2, dxB3, mx, -bMax_, eg, lz]
   cases kr with
   | none =>
    simp only [dK] at ek
    simp [ek, T]
   | some q =>
    cases sr with
    | none =>
     simp only [dOS] at es
     have nk : isN (dK (some q)) = false := rfl
     simp [ek, dxB3, es, nk, T]
    | some s =>
     have nk : isN (dK (some q)) = false := rfl
     have nd : isN (dOS (some s)) = false := rfl
     obtain ⟨e, eu, le⟩ : ∃ e, St.uppB a.en b.en = some e /\ e <= mxI a.bg b.bg := by
      rcases hno rfl with z | z | z
      ·cases z
      ·cases z
      ·exact z
     obtain ⟨ne, mn⟩ := ends_min eu
     have nlt : ¬ mxI a.bg b.bg < e := by omega
     have dpi : ∀ is : List Int, dpDs (is.map D.int) = 0 := fun is => by induction is with
      | nil => rfl
      | cons i r ih => rw [List.map_cons, dpDs_cons, ih]; rfl
     have eqn : eqDs ((endsL a.en b.en).map D.int) [] = false := by
      cases q : endsL a.en b.en with
      | nil => exact absurd q ne
      | cons i r => simp
     simp [ek, dxB3, es, nk, nd, dpi, eqn, mn, nlt, T]
end Fx
set_option maxRecDepth 100000
set_option maxHeartbeats 4000000
namespace Fx
open PySem PySem.Spec PyProof.Rows L2
noncomputable def top (i : Nat) : Stmt := PySem.Challenge.pw_latewell_k14_boxes_of_things.main.body.getD i (.Pass ⟨0, 0, 0, 0⟩)
structure Blt (K : PySem.W.Frag) (mg : Str -> Option Value) : Prop where
 z_abs : mg "abs" = none
 z_len : mg "len" = none
 z_max : mg "max" = none
 z_min : mg "min" = none
 z_any : mg "any" = none
 z_all : mg "all" = none
 z_range : mg "range" = none
 z_isinstance : mg "isinstance" = none
 z_int : mg "int" = none
 z_bool : mg "bool" = none
 z_str : mg "str" = none
 z_tuple : mg "tuple" = none
 z_list : mg "list" = none
 z_sorted : mg "sorted" = none
 z_dict : mg "dict" = none
 z_set : mg "set" = none
 c_EVERY_VALUE : ∃ a, mg "EVERY_VALUE" = some (.ref a) ∧ KV1 K (.tup [.non, .non, (.int 1), (.int 0)]) (.ref a)
section
variable {P : Program} {w : World} {K : PySem.W.Frag} {mg : Str -> Option Value} {base : Heap}
noncomputable abbrev s_keys_hold : Stmt := top 1
theorem sc_keys_hold : FnScope ["keys", "key"] ["keys", "key"] (defScope s_keys_hold) := ⟨rfl, rfl, rfl, by decide +kernel, rfl, by decide +kernel, by decide +kernel⟩
theorem ok_keys_hold {f : Addr} {fd : FuncData} (F : Fun K "keys_hold" "keys_hold" s_keys_hold f fd) (bF : Binds K fd ["keys", "key"] []) (mF : mg "keys_hold" = some (.ref f)) (T : Blt K mg)  : DefOk P w K mg base 1 "keys_hold" m_keys_hold :=
 ⟨f, fd, ["keys", "key"], fn_ok F sc_keys_hold rfl rfl (fun cdv A outer s H E hr =>
 (YSs.go (ys1 (yret (ye (xcmp (cEq hr.units) (xcmp cIn2 (xv 1) (xix2 (xv 0) xint)) (xcmp (cEq hr.units) (xix2 (xv 0) xint) xstr))))))), bF, F.kp, mF⟩
noncomputable abbrev s_keys_meet : Stmt := top 2
theorem sc_keys_meet : FnScope ["one", "other", "names"] ["one", "other"] (defScope s_keys_meet) := ⟨rfl, rfl, rfl, by decide +kernel, rfl, by decide +kernel, by decide +kernel⟩
theorem ok_keys_meet_0 {f : Addr} {fd : FuncData} (F : Fun K "keys_meet" "keys_meet" s_keys_meet f fd) (bF : Binds K fd ["one", "other"] []) (mF : mg "keys_meet" = some (.ref f)) (T : Blt K mg) : DefOk P w K mg base 2 "keys_meet" m_keys_meet_0 :=
 ⟨f, fd, ["one", "other"], fn_ok F sc_keys_meet rfl rfl (fun cdv A outer s H E hr => fun _ _ _ _ _ _ hh0_ => by obtain ⟨_, _, _, _, _, e, _⟩ := hh0_; exact nomatch e), bF, F.kp, mF⟩
theorem ok_keys_meet_1 {f : Addr} {fd : FuncData} (F : Fun K "keys_meet" "keys_meet" s_keys_meet f fd) (bF : Binds K fd ["one", "other"] []) (mF : mg "keys_meet" = some (.ref f)) (T : Blt K mg) (G_keys_meet : DefOk P w K mg base 2 "keys_meet" m_keys_meet_0) (G_keys_hold : DefOk P w K mg base 1 "keys_hold" m_keys_hold) : DefOk P w K mg base 3 "keys_meet" m_keys_meet_1 :=
 ⟨f, fd, ["one", "other"], fn_ok F sc_keys_meet rfl rfl (fun cdv A outer s H E hr =>
 (YSs.go (ysC (yif (xw (xwand (xt (cEq hr.units) (xix2 (xv 0) xint) xstr) (xwand1 (xt (cEq hr.units) (xix2 (xv 1) xint) xstr))))
 (ys1 (yret (ytup (yaC (ye xstr) (yaC (ye (xTy callTuple rfl T.z_tuple PyProof.Rows.boot_tuple (xaC (xsortor T.z_set T.z_sorted (xix2 (xv 0) xint) (xix2 (xv 1) xint)) xaN))) yaN)))))
 ysN) (ysC (yif (xt (cEq hr.units) (xix2 (xv 0) xint) xstr)
 (ys1 (yret (ye (xF G_keys_meet (hr.mono (by decide)) (xaC (xv 1) (xaC (xv 0) xaN))))))
 ysN) (ysC (yset 2 sc_keys_meet.nd (ye (xTy callTuple rfl T.z_tuple PyProof.Rows.boot_tuple (xaC (xlc (sc := defScope s_keys_meet) rfl rfl (by show ScB ["one", "other", "names"] (defScope s_keys_meet) _ "name" ["other"] [1]; exact ⟨rfl, rfl, by decide +kernel, by decide +kernel, rfl, by decide +kernel, by decide +kernel, rfl, by decide +kernel⟩) (xix2 (xv 0) xint) (fun _ _ _ _ => (xts_one (xtv (xF G_keys_hold (hr.mono (by decide)) (xaC (xv 1) (xaC (xv 0) xaN))) (fun _ => rfl)))) (fun _ _ _ _ => (xv 0))) xaN)))) (ys1 (yret (ye (xif (xtv (xv 2) (fun _ => rfl)) (xtup (xaC xstr (xaC (xv 2) xaN))) xnon))))))))), bF, F.kp, mF⟩
theorem okr_keys_meet {f : Addr} {fd : FuncData} (F : Fun K "keys_meet" "keys_meet" s_keys_meet f fd) (bF : Binds K fd ["one", "other"] []) (mF : mg "keys_meet" = some (.ref f)) (T : Blt K mg) (G_keys_meet : DefOk P w K mg base 3 "keys_meet" m_keys_meet_1) (G_keys_hold : DefOk P w K mg base 1 "keys_hold" m_keys_hold) : DefOk P w K mg base 4 "keys_meet" m_keys_meet :=
 ⟨f, fd, ["one", "other"], fn_ok F sc_keys_meet rfl rfl (fun cdv A outer s H E hr =>
 (YSs.go (ysC (yif (xw (xwand (xt (cEq hr.units) (xix2 (xv 0) xint) xstr) (xwand1 (xt (cEq hr.units) (xix2 (xv 1) xint) xstr))))
 (ys1 (yret (ytup (yaC (ye xstr) (yaC (ye (xTy callTuple rfl T.z_tuple PyProof.Rows.boot_tuple (xaC (xsortor T.z_set T.z_sorted (xix2 (xv 0) xint) (xix2 (xv 1) xint)) xaN))) yaN)))))
 ysN) (ysC (yif (xt (cEq hr.units) (xix2 (xv 0) xint) xstr)
 (ys1 (yret (ye (xF G_keys_meet (hr.mono (by decide)) (xaC (xv 1) (xaC (xv 0) xaN))))))
 ysN) (ysC (yset 2 sc_keys_meet.nd (ye (xTy callTuple rfl T.z_tuple PyProof.Rows.boot_tuple (xaC (xlc (sc := defScope s_keys_meet) rfl rfl (by show ScB ["one", "other", "names"] (defScope s_keys_meet) _ "name" ["other"] [1]; exact ⟨rfl, rfl, by decide +kernel, by decide +kernel, rfl, by decide +kernel, by decide +kernel, rfl, by decide +kernel⟩) (xix2 (xv 0) xint) (fun _ _ _ _ => (xts_one (xtv (xF G_keys_hold (hr.mono (by decide)) (xaC (xv 1) (xaC (xv 0) xaN))) (fun _ => rfl)))) (fun _ _ _ _ => (xv 0))) xaN)))) (ys1 (yret (ye (xif (xtv (xv 2) (fun _ => rfl)) (xtup (xaC xstr (xaC (xv 2) xaN))) xnon))))))))), bF, F.kp, mF⟩
theorem ok_keys_meet {f : Addr} {fd : FuncData} (F : Fun K "keys_meet" "keys_meet" s_keys_meet f fd) (bF : Binds K fd ["one", "other"] []) (mF : mg "keys_meet" = some (.ref f)) (T : Blt K mg) (G_keys_hold : DefOk P w K mg base 1 "keys_hold" m_keys_hold) : DefOk P w K mg base 4 "keys_meet" m_keys_meet := okr_keys_meet F bF mF T (ok_keys_meet_1 F bF mF T (ok_keys_meet_0 F bF mF T) G_keys_hold) G_keys_hold
noncomputable abbrev s_keys_inside : Stmt := top 3
theorem sc_keys_inside : FnScope ["one", "other"] ["one", "other"] (defScope s_keys_inside) := ⟨rfl, rfl, rfl, by decide +kernel, rfl, by decide +kernel, by decide +kernel⟩
theorem ok_keys_inside {f : Addr} {fd : FuncData} (F : Fun K "keys_inside" "keys_inside" s_keys_inside f fd) (bF : Binds K fd ["one", "other"] []) (mF : mg "keys_inside" = some (.ref f)) (T : Blt K mg) (G_keys_meet : DefOk P w K mg base 4 "keys_meet" m_keys_meet) : DefOk P w K mg base 5 "keys_inside" m_keys_inside :=
 ⟨f, fd, ["one", "other"], fn_ok F sc_keys_inside rfl rfl (fun cdv A outer s H E hr =>
 (YSs.go (ys1 (yret (ye (xcmp (cEq hr.units) (xF G_keys_meet (hr.mono (by decide)) (xaC (xv 0) (xaC (xv 1) xaN))) (xv 0))))))), bF, F.kp, mF⟩
noncomputable abbrev s_stretch_made : Stmt := top 6
theorem sc_stretch_made : FnScope ["low", "high", "step", "rest", "first", "last"] ["low", "high", "step", "rest"] (defScope s_stretch_made) := ⟨rfl, rfl, rfl, by decide +kernel, rfl, by decide +kernel, by decide +kernel⟩
theorem ok_stretch_made {f : Addr} {fd : FuncData} (F : Fun K "stretch_made" "stretch_made" s_stretch_made f fd) (bF : Binds K fd ["low", "high", "step", "rest"] []) (mF : mg "stretch_made" = some (.ref f)) (T : Blt K mg)  : DefOk P w K mg base 1 "stretch_made" m_stretch_made :=
 ⟨f, fd, ["low", "high", "step", "rest"], fn_ok F sc_stretch_made rfl rfl (fun cdv A outer s H E hr =>
 (YSs.go (ysC (yif (xtnot (xt3 cLe cLt xint (xv 3) (xv 2)))
 (ys1 (yret (ye xnon)))
 ysN) (ysC (yset 4 sc_stretch_made.nd (ye (xif (xt cIs (xv 0) xnon) xnon (xb oAdd (xv 0) (xb oMod (xb oSub (xv 3) (xv 0)) (xv 2)))))) (ysC (yset 5 sc_stretch_made.nd (ye (xif (xt cIs (xv 1) xnon) xnon (xb oSub (xv 1) (xb oMod (xb oSub (xv 1) (xv 3)) (xv 2)))))) (ysC (yif (xw (xwor (xt cIs (xv 4) xnon) (xwor1 (xt cIs (xv 5) xnon))))
 (ys1 (yret (ytup (yaC (ye (xv 4)) (yaC (ye (xv 5)) (yaC (ye (xv 2)) (yaC (ye (xv 3)) yaN)))))))
 ysN) (ysC (yif (xt cGt (xv 4) (xv 5))
 (ys1 (yret (ye xnon)))
 ysN) (ysC (yif (xt (cEq hr.units) (xv 4) (xv 5))
 (ys1 (yret (ytup (yaC (ye (xv 4)) (yaC (ye (xv 5)) (yaC (ye xint) (yaC (ye xint) yaN)))))))
 ysN) (ys1 (yret (ytup (yaC (ye (xv 4)) (yaC (ye (xv 5)) (yaC (ye (xv 2)) (yaC (ye (xv 3)) yaN))))))))))))))), bF, F.kp, mF⟩
noncomputable abbrev s_is_between : Stmt := top 7
theorem sc_is_between : FnScope ["v", "low", "high"] ["v", "low", "high"] (defScope s_is_between) := ⟨rfl, rfl, rfl, by decide +kernel, rfl, by decide +kernel, by decide +kernel⟩
theorem ok_is_between {f : Addr} {fd : FuncData} (F : Fun K "is_between" "is_between" s_is_between f fd) (bF : Binds K fd ["v", "low", "high"] []) (mF : mg "is_between" = some (.ref f)) (T : Blt K mg)  : DefOk P w K mg base 1 "is_between" m_is_between :=
 ⟨f, fd, ["v", "low", "high"], fn_ok F sc_is_between rfl rfl (fun cdv A outer s H E hr =>
 (YSs.go (ys1 (yret (ye (xand (xor (xcmp cIs (xv 1) xnon) (xone (xcmp cLe (xv 1) (xv 0)))) (xone (xor (xcmp cIs (xv 2) xnon) (xone (xcmp cLe (xv 0) (xv 2))))))))))), bF, F.kp, mF⟩
noncomputable abbrev s_stretch_has : Stmt := top 8
theorem sc_stretch_has : FnScope ["one", "v"] ["one", "v"] (defScope s_stretch_has) := ⟨rfl, rfl, rfl, by decide +kernel, rfl, by decide +kernel, by decide +kernel⟩
theorem ok_stretch_has {f : Addr} {fd : FuncData} (F : Fun K "stretch_has" "stretch_has" s_stretch_has f fd) (bF : Binds K fd ["one", "v"] []) (mF : mg "stretch_has" = some (.ref f)) (T : Blt K mg) (G_is_between : DefOk P w K mg base 1 "is_between" m_is_between) : DefOk P w K mg base 2 "stretch_has" m_stretch_has :=
 ⟨f, fd, ["one", "v"], fn_ok F sc_stretch_has rfl rfl (fun cdv A outer s H E hr =>
 (YSs.go (ys1 (yret (ye (xand (xF G_is_between (hr.mono (by decide)) (xaC (xv 1) (xaC (xix2 (xv 0) xint) (xaC (xix2 (xv 0) xint) xaN)))) (xone (xcmp (cEq hr.units) (xb oMod (xv 1) (xix2 (xv 0) xint)) (xix2 (xv 0) xint))))))))), bF, F.kp, mF⟩
noncomputable abbrev s_lower_bound : Stmt := top 9
theorem sc_lower_bound : FnScope ["one", "other"] ["one", "other"] (defScope s_lower_bound) := ⟨rfl, rfl, rfl, by decide +kernel, rfl, by decide +kernel, by decide +kernel⟩
theorem ok_lower_bound {f : Addr} {fd : FuncData} (F : Fun K "lower_bound" "lower_bound" s_lower_bound f fd) (bF : Binds K fd ["one", "other"] []) (mF : mg "lower_bound" = some (.ref f)) (T : Blt K mg)  : DefOk P w K mg base 1 "lower_bound" m_lower_bound :=
 ⟨f, fd, ["one", "other"], fn_ok F sc_lower_bound rfl rfl (fun cdv A outer s H E hr =>
 (YSs.go (ysC (yif (xw (xwor (xt cIs (xv 0) xnon) (xwor1 (xt cIs (xv 1) xnon))))
 (ys1 (yret (ye (xif (xt cIs (xv 0) xnon) (xv 1) (xv 0)))))
 ysN) (ys1 (yret (ye (xB (callMax rfl) rfl T.z_max PyProof.Rows.boot_max (xaC (xv 0) (xaC (xv 1) xaN))))))))), bF, F.kp, mF⟩
noncomputable abbrev s_upper_bound : Stmt := top 10
theorem sc_upper_bound : FnScope ["one", "other"] ["one", "other"] (defScope s_upper_bound) := ⟨rfl, rfl, rfl, by decide +kernel, rfl, by decide +kernel, by decide +kernel⟩
theorem ok_upper_bound {f : Addr} {fd : FuncData} (F : Fun K "upper_bound" "upper_bound" s_upper_bound f fd) (bF : Binds K fd ["one", "other"] []) (mF : mg "upper_bound" = some (.ref f)) (T : Blt K mg)  : DefOk P w K mg base 1 "upper_bound" m_upper_bound :=
 ⟨f, fd, ["one", "other"], fn_ok F sc_upper_bound rfl rfl (fun cdv A outer s H E hr =>
 (YSs.go (ysC (yif (xw (xwor (xt cIs (xv 0) xnon) (xwor1 (xt cIs (xv 1) xnon))))
 (ys1 (yret (ye (xif (xt cIs (xv 0) xnon) (xv 1) (xv 0)))))
 ysN) (ys1 (yret (ye (xB (callMin rfl) rfl T.z_min PyProof.Rows.boot_min (xaC (xv 0) (xaC (xv 1) xaN))))))))), bF, F.kp, mF⟩
noncomputable abbrev s_stretch_between : Stmt := top 11
theorem sc_stretch_between : FnScope ["one", "low", "high"] ["one", "low", "high"] (defScope s_stretch_between) := ⟨rfl, rfl, rfl, by decide +kernel, rfl, by decide +kernel, by decide +kernel⟩
theorem ok_stretch_between {f : Addr} {fd : FuncData} (F : Fun K "stretch_between" "stretch_between" s_stretch_between f fd) (bF : Binds K fd ["one", "low", "high"] []) (mF : mg "stretch_between" = some (.ref f)) (T : Blt K mg) (G_lower_bound : DefOk P w K mg base 1 "lower_bound" m_lower_bound) (G_stretch_made : DefOk P w K mg base 1 "stretch_made" m_stretch_made) (G_upper_bound : DefOk P w K mg base 1 "upper_bound" m_upper_bound) : DefOk P w K mg base 2 "stretch_between" m_stretch_between :=
 ⟨f, fd, ["one", "low", "high"], fn_ok F sc_stretch_between rfl rfl (fun cdv A outer s H E hr =>
 (YSs.go (ys1 (yret (ye (xF G_stretch_made (hr.mono (by decide)) (xaC (xF G_lower_bound (hr.mono (by decide)) (xaC (xix2 (xv 0) xint) (xaC (xv 1) xaN))) (xaC (xF G_upper_bound (hr.mono (by decide)) (xaC (xix2 (xv 0) xint) (xaC (xv 2) xaN))) (xaC (xix2 (xv 0) xint) (xaC (xix2 (xv 0) xint) xaN)))))))))), bF, F.kp, mF⟩
noncomputable abbrev s_stretch_moved : Stmt := top 12
theorem sc_stretch_moved : FnScope ["one", "a", "b", "ends", "step"] ["one", "a", "b"] (defScope s_stretch_moved) := ⟨rfl, rfl, rfl, by decide +kernel, rfl, by decide +kernel, by decide +kernel⟩
theorem ok_stretch_moved {f : Addr} {fd : FuncData} (F : Fun K "stretch_moved" "stretch_moved" s_stretch_moved f fd) (bF : Binds K fd ["one", "a", "b"] []) (mF : mg "stretch_moved" = some (.ref f)) (T : Blt K mg) (G_stretch_made : DefOk P w K mg base 1 "stretch_made" m_stretch_made) : DefOk P w K mg base 2 "stretch_moved" m_stretch_moved :=
 ⟨f, fd, ["one", "a", "b"], fn_ok F sc_stretch_moved rfl rfl (fun cdv A outer s H E hr =>
 (YSs.go (ysC (yx (xsetlc 3 sc_stretch_moved.nd (sc := defScope s_stretch_moved) rfl rfl (by show ScB ["one", "a", "b", "ends", "step"] (defScope s_stretch_moved) _ "end" ["b", "a"] [2, 1]; exact ⟨rfl, rfl, by decide +kernel, by decide +kernel, rfl, by decide +kernel, by decide +kernel, rfl, by decide +kernel⟩) (xsl2 (xv 0) xoN (xoS xint)) (fun _ _ _ _ => xts_nil) (fun _ _ _ _ => (xif (xt cIs (xv 0) xnon) xnon (xb oAdd (xb oMul (xv 2) (xv 0)) (xv 1)))))) (ysC (yif (xt cLt (xv 1) xint)
 (ys1 (yset 3 sc_stretch_moved.nd (ylst (yaC (yix (ye (xv 3)) (ye xint)) (yaC (yix (ye (xv 3)) (ye xint)) yaN)))))
 ysN) (ysC (yset 4 sc_stretch_moved.nd (yb oMul (ye (xB callAbs rfl T.z_abs PyProof.Rows.boot_abs (xaC (xv 1) xaN))) (yix (ye (xv 0)) (ye xint)))) (ys1 (yret (ye (xF G_stretch_made (hr.mono (by decide)) (xaC (xix2 (xv 3) xint) (xaC (xix2 (xv 3) xint) (xaC (xv 4) (xaC (xb oMod (xb oAdd (xb oMul (xv 1) (xix2 (xv 0) xint)) (xv 2)) (xv 4)) xaN))))))))))))), bF, F.kp, mF⟩
noncomputable abbrev s_divisor_and_factor : Stmt := top 13
theorem sc_divisor_and_factor : FnScope ["a", "m", "g", "s", "other", "t", "times", "less"] ["a", "m"] (defScope s_divisor_and_factor) := ⟨rfl, rfl, rfl, by decide +kernel, rfl, by decide +kernel, by decide +kernel⟩
theorem ok_divisor_and_factor {f : Addr} {fd : FuncData} (F : Fun K "divisor_and_factor" "divisor_and_factor" s_divisor_and_factor f fd) (bF : Binds K fd ["a", "m"] []) (mF : mg "divisor_and_factor" = some (.ref f)) (T : Blt K mg)  : DefOk P w K mg base 1 "divisor_and_factor" m_divisor_and_factor :=
 ⟨f, fd, ["a", "m"], fn_ok F sc_divisor_and_factor rfl rfl (fun cdv A outer s H E hr =>
 (YSs.go (ysC (yset 2 sc_divisor_and_factor.nd (yb oMod (ye (xv 0)) (ye (xv 1)))) (ysC (yset 3 sc_divisor_and_factor.nd (ye xint)) (ysC (yset 4 sc_divisor_and_factor.nd (ye (xv 1))) (ysC (yset 5 sc_divisor_and_factor.nd (ye xint)) (ysC (ywhile (xt (cNe hr.units) (xv 4) xint)
 (ysC (yset 6 sc_divisor_and_factor.nd (yb oDiv (ye (xv 2)) (ye (xv 4)))) (ysC (yset 7 sc_divisor_and_factor.nd (yb oSub (ye (xv 2)) (yb oMul (ye (xv 6)) (ye (xv 4))))) (ysC (yset 2 sc_divisor_and_factor.nd (ye (xv 4))) (ysC (yset 4 sc_divisor_and_factor.nd (ye (xv 7))) (ysC (yset 7 sc_divisor_and_factor.nd (yb oSub (ye (xv 3)) (yb oMul (ye (xv 6)) (ye (xv 5))))) (ysC (yset 3 sc_divisor_and_factor.nd (ye (xv 5))) (ys1 (yset 5 sc_divisor_and_factor.nd (ye (xv 7))))))))))) (ys1 (yret (ytup (yaC (ye (xv 2)) (yaC (ye (xv 3)) yaN)))))))))))), bF, F.kp, mF⟩
noncomputable abbrev s_stretch_back : Stmt := top 14
theorem sc_stretch_back : FnScope ["one", "a", "b", "found", "divisor", "away", "step", "ends", "low", "high"] ["one", "a", "b"] (defScope s_stretch_back) := ⟨rfl, rfl, rfl, by decide +kernel, rfl, by decide +kernel, by decide +kernel⟩
theorem ok_stretch_back {f : Addr} {fd : FuncData} (F : Fun K "stretch_back" "stretch_back" s_stretch_back f fd) (bF : Binds K fd ["one", "a", "b"] []) (mF : mg "stretch_back" = some (.ref f)) (T : Blt K mg) (G_divisor_and_factor : DefOk P w K mg base 1 "divisor_and_factor" m_divisor_and_factor) (G_stretch_made : DefOk P w K mg base 1 "stretch_made" m_stretch_made) : DefOk P w K mg base 2 "stretch_back" m_stretch_back :=
 ⟨f, fd, ["one", "a", "b"], fn_ok F sc_stretch_back rfl rfl (fun cdv A outer s H E hr =>
 (YSs.go (ysC (yif (xt (cEq hr.units) (xv 1) xint)
 (ys1 (yret (ye xnever)))
 ysN) (ysC (yset 3 sc_stretch_back.nd (ye (xF G_divisor_and_factor (hr.mono (by decide)) (xaC (xv 1) (xaC (xix2 (xv 0) xint) xaN))))) (ysC (yset 4 sc_stretch_back.nd (yix (ye (xv 3)) (ye xint))) (ysC (yset 5 sc_stretch_back.nd (yb oSub (yix (ye (xv 0)) (ye xint)) (ye (xv 2)))) (ysC (yif (xt (cNe hr.units) (xb oMod (xv 5) (xv 4)) xint)
 (ys1 (yret (ye xnon)))
 ysN) (ysC (yset 6 sc_stretch_back.nd (yb oDiv (yix (ye (xv 0)) (ye xint)) (ye (xv 4)))) (ysC (yset 7 sc_stretch_back.nd (ye (xif (xt cGt (xv 1) xint) (xlst (xaC (xix2 (xv 0) xint) (xaC (xix2 (xv 0) xint) xaN))) (xlst (xaC (xix2 (xv 0) xint) (xaC (xix2 (xv 0) xint) xaN)))))) (ysC (yset 8 sc_stretch_back.nd (ye (xif (xt cIs (xix2 (xv 7) xint) xnon) xnon (xneg (xb oDiv (xb oSub (xv 2) (xix2 (xv 7) xint)) (xv 1)))))) (ysC (yset 9 sc_stretch_back.nd (ye (xif (xt cIs (xix2 (xv 7) xint) xnon) xnon (xb oDiv (xb oSub (xix2 (xv 7) xint) (xv 2)) (xv 1))))) (ys1 (yret (ye (xF G_stretch_made (hr.mono (by decide)) (xaC (xv 8) (xaC (xv 9) (xaC (xv 6) (xaC (xb oMod (xb oMul (xb oDiv (xv 5) (xv 4)) (xix2 (xv 3) xint)) (xv 6)) xaN))))))))))))))))))), bF, F.kp, mF⟩
noncomputable abbrev s_stretch_meet : Stmt := top 15
theorem sc_stretch_meet : FnScope ["one", "other", "turns"] ["one", "other"] (defScope s_stretch_meet) := ⟨rfl, rfl, rfl, by decide +kernel, rfl, by decide +kernel, by decide +kernel⟩
theorem ok_stretch_meet {f : Addr} {fd : FuncData} (F : Fun K "stretch_meet" "stretch_meet" s_stretch_meet f fd) (bF : Binds K fd ["one", "other"] []) (mF : mg "stretch_meet" = some (.ref f)) (T : Blt K mg) (G_stretch_back : DefOk P w K mg base 2 "stretch_back" m_stretch_back) (G_stretch_between : DefOk P w K mg base 2 "stretch_between" m_stretch_between) (G_stretch_moved : DefOk P w K mg base 2 "stretch_moved" m_stretch_moved) : DefOk P w K mg base 3 "stretch_meet" m_stretch_meet :=
 ⟨f, fd, ["one", "other"], fn_ok F sc_stretch_meet rfl rfl (fun cdv A outer s H E hr =>
 (YSs.go (ysC (yset 2 sc_stretch_meet.nd (ye (xF G_stretch_back (hr.mono (by decide)) (xaC (xv 1) (xaC (xix2 (xv 0) xint) (xaC (xix2 (xv 0) xint) xaN)))))) (ysC (yif (xt cIs (xv 2) xnon)
 (ys1 (yret (ye xnon)))
 ysN) (ys1 (yret (ye (xF G_stretch_between (hr.mono (by decide)) (xaC (xF G_stretch_moved (hr.mono (by decide)) (xaC (xv 2) (xaC (xix2 (xv 0) xint) (xaC (xix2 (xv 0) xint) xaN)))) (xaC (xix2 (xv 0) xint) (xaC (xix2 (xv 0) xint) xaN))))))))))), bF, F.kp, mF⟩
noncomputable abbrev s_stretch_inside : Stmt := top 16
theorem sc_stretch_inside : FnScope ["one", "other"] ["one", "other"] (defScope s_stretch_inside) := ⟨rfl, rfl, rfl, by decide +kernel, rfl, by decide +kernel, by decide +kernel⟩
theorem ok_stretch_inside {f : Addr} {fd : FuncData} (F : Fun K "stretch_inside" "stretch_inside" s_stretch_inside f fd) (bF : Binds K fd ["one", "other"] []) (mF : mg "stretch_inside" = some (.ref f)) (T : Blt K mg) (G_stretch_meet : DefOk P w K mg base 3 "stretch_meet" m_stretch_meet) : DefOk P w K mg base 4 "stretch_inside" m_stretch_inside :=
 ⟨f, fd, ["one", "other"], fn_ok F sc_stretch_inside rfl rfl (fun cdv A outer s H E hr =>
 (YSs.go (ys1 (yret (ye (xcmp (cEq hr.units) (xF G_stretch_meet (hr.mono (by decide)) (xaC (xv 0) (xaC (xv 1) xaN))) (xv 0))))))), bF, F.kp, mF⟩
noncomputable abbrev s_box_made : Stmt := top 18
theorem sc_box_made : FnScope ["keys", "begin", "end", "stretch"] ["keys", "begin", "end", "stretch"] (defScope s_box_made) := ⟨rfl, rfl, rfl, by decide +kernel, rfl, by decide +kernel, by decide +kernel⟩
theorem ok_box_made {f : Addr} {fd : FuncData} (F : Fun K "box_made" "box_made" s_box_made f fd) (bF : Binds K fd ["keys", "begin", "end", "stretch"] []) (mF : mg "box_made" = some (.ref f)) (T : Blt K mg)  : DefOk P w K mg base 1 "box_made" m_box_made :=
 ⟨f, fd, ["keys", "begin", "end", "stretch"], fn_ok F sc_box_made rfl rfl (fun cdv A outer s H E hr =>
 (YSs.go (ysC (yif (xw (xwor (xt cIs (xv 0) xnon) (xwor1 (xt cIs (xv 3) xnon))))
 (ys1 (yret (ye xnon)))
 ysN) (ysC (yset 1 sc_box_made.nd (ye (xB (callMax rfl) rfl T.z_max PyProof.Rows.boot_max (xaC (xv 1) (xaC xint xaN))))) (ysC (yif (xw (xwand (xt cIsNot (xv 2) xnon) (xwand1 (xt cLe (xv 2) (xv 1)))))
 (ys1 (yret (ye xnon)))
 ysN) (ys1 (yret (ytup (yaC (ye (xv 0)) (yaC (ye (xv 1)) (yaC (ye (xv 2)) (yaC (ye (xv 3)) yaN)))))))))))), bF, F.kp, mF⟩
noncomputable abbrev s_box_has : Stmt := top 19
theorem sc_box_has : FnScope ["box", "thing", "time"] ["box", "thing"] (defScope s_box_has) := ⟨rfl, rfl, rfl, by decide +kernel, rfl, by decide +kernel, by decide +kernel⟩
theorem ok_box_has {f : Addr} {fd : FuncData} (F : Fun K "box_has" "box_has" s_box_has f fd) (bF : Binds K fd ["box", "thing"] []) (mF : mg "box_has" = some (.ref f)) (T : Blt K mg) (G_keys_hold : DefOk P w K mg base 1 "keys_hold" m_keys_hold) (G_stretch_has : DefOk P w K mg base 2 "stretch_has" m_stretch_has) : DefOk P w K mg base 3 "box_has" m_box_has :=
 ⟨f, fd, ["box", "thing"], fn_ok F sc_box_has rfl rfl (fun cdv A outer s H E hr =>
 (YSs.go (ysC (yset 2 sc_box_has.nd (yix (ye (xv 1)) (ye xint))) (ysC (yif (xw (xwor (xt cLt (xv 2) (xix2 (xv 0) xint)) (xwor1 (xw (xwand (xt cIsNot (xix2 (xv 0) xint) xnon) (xwand1 (xt cGe (xv 2) (xix2 (xv 0) xint))))))))
 (ys1 (yret (ye xbl)))
 ysN) (ys1 (yret (ye (xand (xF G_keys_hold (hr.mono (by decide)) (xaC (xix2 (xv 0) xint) (xaC (xix2 (xv 1) xint) xaN))) (xone (xF G_stretch_has (hr.mono (by decide)) (xaC (xix2 (xv 0) xint) (xaC (xix2 (xv 1) xint) xaN)))))))))))), bF, F.kp, mF⟩
noncomputable abbrev s_box_meet : Stmt := top 20
theorem sc_box_meet : FnScope ["one", "other", "keys", "stretch"] ["one", "other"] (defScope s_box_meet) := ⟨rfl, rfl, rfl, by decide +kernel, rfl, by decide +kernel, by decide +kernel⟩
theorem ok_box_meet {f : Addr} {fd : FuncData} (F : Fun K "box_meet" "box_meet" s_box_meet f fd) (bF : Binds K fd ["one", "other"] []) (mF : mg "box_meet" = some (.ref f)) (T : Blt K mg) (G_box_made : DefOk P w K mg base 1 "box_made" m_box_made) (G_keys_meet : DefOk P w K mg base 4 "keys_meet" m_keys_meet) (G_stretch_meet : DefOk P w K mg base 3 "stretch_meet" m_stretch_meet) (G_upper_bound : DefOk P w K mg base 1 "upper_bound" m_upper_bound) : DefOk P w K mg base 5 "box_meet" m_box_meet :=
 ⟨f, fd, ["one", "other"], fn_ok F sc_box_meet rfl rfl (fun cdv A outer s H E hr =>
 (YSs.go (ysC (yset 2 sc_box_meet.nd (ye (xF G_keys_meet (hr.mono (by decide)) (xaC (xix2 (xv 0) xint) (xaC (xix2 (xv 1) xint) xaN))))) (ysC (yset 3 sc_box_meet.nd (ye (xF G_stretch_meet (hr.mono (by decide)) (xaC (xix2 (xv 0) xint) (xaC (xix2 (xv 1) xint) xaN))))) (ys1 (yret (ye (xF G_box_made (hr.mono (by decide)) (xaC (xv 2) (xaC (xB (callMax rfl) rfl T.z_max PyProof.Rows.boot_max (xaC (xix2 (xv 0) xint) (xaC (xix2 (xv 1) xint) xaN))) (xaC (xF G_upper_bound (hr.mono (by decide)) (xaC (xix2 (xv 0) xint) (xaC (xix2 (xv 1) xint) xaN))) (xaC (xv 3) xaN)))))))))))), bF, F.kp, mF⟩
noncomputable abbrev s_box_inside : Stmt := top 21
theorem sc_box_inside : FnScope ["one", "other"] ["one", "other"] (defScope s_box_inside) := ⟨rfl, rfl, rfl, by decide +kernel, rfl, by decide +kernel, by decide +kernel⟩
theorem ok_box_inside {f : Addr} {fd : FuncData} (F : Fun K "box_inside" "box_inside" s_box_inside f fd) (bF : Binds K fd ["one", "other"] []) (mF : mg "box_inside" = some (.ref f)) (T : Blt K mg) (G_keys_inside : DefOk P w K mg base 5 "keys_inside" m_keys_inside) (G_stretch_inside : DefOk P w K mg base 4 "stretch_inside" m_stretch_inside) (G_upper_bound : DefOk P w K mg base 1 "upper_bound" m_upper_bound) : DefOk P w K mg base 6 "box_inside" m_box_inside :=
 ⟨f, fd, ["one", "other"], fn_ok F sc_box_inside rfl rfl (fun cdv A outer s H E hr =>
 (YSs.go (ysC (yif (xw (xwor (xt cLt (xix2 (xv 0) xint) (xix2 (xv 1) xint)) (xwor1 (xt (cNe hr.units) (xF G_upper_bound (hr.mono (by decide)) (xaC (xix2 (xv 0) xint) (xaC (xix2 (xv 1) xint) xaN))) (xix2 (xv 0) xint)))))
 (ys1 (yret (ye xbl)))
 ysN) (ys1 (yret (ye (xand (xF G_keys_inside (hr.mono (by decide)) (xaC (xix2 (xv 0) xint) (xaC (xix2 (xv 1) xint) xaN))) (xone (xF G_stretch_inside (hr.mono (by decide)) (xaC (xix2 (xv 0) xint) (xaC (xix2 (xv 1) xint) xaN))))))))))), bF, F.kp, mF⟩
noncomputable abbrev s_law_cell_at : Stmt := top 23
theorem sc_law_cell_at : FnScope ["_law_script", "_law_k"] ["_law_script", "_law_k"] (defScope s_law_cell_at) := ⟨rfl, rfl, rfl, by decide +kernel, rfl, by decide +kernel, by decide +kernel⟩
theorem ok_law_cell_at {f : Addr} {fd : FuncData} (F : Fun K "_law_cell_at" "_law_cell_at" s_law_cell_at f fd) (bF : Binds K fd ["_law_script", "_law_k"] []) (mF : mg "_law_cell_at" = some (.ref f)) (T : Blt K mg)  : DefOk P w K mg base 1 "_law_cell_at" m_law_cell_at :=
 ⟨f, fd, ["_law_script", "_law_k"], fn_ok F sc_law_cell_at rfl rfl (fun cdv A outer s H E hr =>
 (YSs.go (ysC (yif (xt cLt (xv 1) (xB callLen2 rfl T.z_len PySem.boot_len (xaC (xv 0) xaN)))
 (ys1 (yret (yix (ye (xv 0)) (ye (xv 1)))))
 ysN) (ys1 (yret (ye xint)))))), bF, F.kp, mF⟩
noncomputable abbrev s_law_mixed : Stmt := top 24
theorem sc_law_mixed : FnScope ["_law_cell", "_law_k", "_law_number"] ["_law_cell", "_law_k"] (defScope s_law_mixed) := ⟨rfl, rfl, rfl, by decide +kernel, rfl, by decide +kernel, by decide +kernel⟩
theorem ok_law_mixed {f : Addr} {fd : FuncData} (F : Fun K "_law_mixed" "_law_mixed" s_law_mixed f fd) (bF : Binds K fd ["_law_cell", "_law_k"] []) (mF : mg "_law_mixed" = some (.ref f)) (T : Blt K mg)  : DefOk P w K mg base 1 "_law_mixed" m_law_mixed :=
 ⟨f, fd, ["_law_cell", "_law_k"], fn_ok F sc_law_mixed rfl rfl (fun cdv A outer s H E hr =>
 (YSs.go (ysC (yset 2 sc_law_mixed.nd (yb oMod (yb oMul (yb oAdd (yb oAdd (ye (xv 0)) (yb oMul (ye xint) (ye (xv 1)))) (ye xint)) (ye xint)) (ye xint))) (ys1 (yret (yb oMod (yb oMul (ye (xv 2)) (yb oAdd (yb oDiv (ye (xv 2)) (ye xint)) (ye xint))) (ye xint))))))), bF, F.kp, mF⟩
noncomputable abbrev s_law_draws : Stmt := top 25
theorem sc_law_draws : FnScope ["_law_script", "_law_first"] ["_law_script"] (defScope s_law_draws) := ⟨rfl, rfl, rfl, by decide +kernel, rfl, by decide +kernel, by decide +kernel⟩
theorem ok_law_draws {f : Addr} {fd : FuncData} (F : Fun K "_law_draws" "_law_draws" s_law_draws f fd) (bF : Binds K fd ["_law_script"] []) (mF : mg "_law_draws" = some (.ref f)) (T : Blt K mg) (G_law_cell_at : DefOk P w K mg base 1 "_law_cell_at" m_law_cell_at) : DefN P w K mg base 2 "_law_draws" m_law_draws :=
 ⟨f, fd, ["_law_script"], fnN_ok F sc_law_draws rfl rfl (fun cdv A outer s H E hr =>
 (xnC (xnS (xset 1 sc_law_draws.nd (xF G_law_cell_at (hr.mono (by decide)) (xaC (xv 0) (xaC xint xaN))))) (xn1 (xpC (xv 0) (xpC (xb oMod (xv 1) xint) (xpC xint (xpC xint (xpC (xv 1) (xpC xint xp0))))))))), bF, F.kp, mF⟩
noncomputable abbrev s_law_next : Stmt := top 26
theorem sc_law_next : FnScope ["_law_draws_here", "_law_number", "_law_found"] ["_law_draws_here"] (defScope s_law_next) := ⟨rfl, rfl, rfl, by decide +kernel, rfl, by decide +kernel, by decide +kernel⟩
theorem ok_law_next {f : Addr} {fd : FuncData} (F : Fun K "_law_next" "_law_next" s_law_next f fd) (bF : Binds K fd ["_law_draws_here"] []) (mF : mg "_law_next" = some (.ref f)) (T : Blt K mg) (G_law_cell_at : DefOk P w K mg base 1 "_law_cell_at" m_law_cell_at) (G_law_mixed : DefOk P w K mg base 1 "_law_mixed" m_law_mixed) : DefB P w K mg base 2 "_law_next" m_law_next :=
 ⟨f, fd, ["_law_draws_here"], fnB_ok F sc_law_next rfl rfl (fun cdv A outer s H E hr =>
 (YSs.go (ysC (ywhile (xw (xwand (xt (cEq hr.units) (xdg 0 (hu_of hr)) xint) (xwand (xt (cEq hr.units) (xdg 0 (hu_of hr)) xint) (xwand1 (xt cLt (xdg 0 (hu_of hr)) (xB callLen2 rfl T.z_len PySem.boot_len (xaC (xdg 0 (hu_of hr)) xaN)))))))
 (ysC (yx (xdp 0 (hu_of hr) (xB callAbs rfl T.z_abs PyProof.Rows.boot_abs (xaC (xix2 (xdg 0 (hu_of hr)) (xdg 0 (hu_of hr))) xaN)))) (ys1 (yx (xdp 0 (hu_of hr) (xb oAdd (xdg 0 (hu_of hr)) xint)))))) (ysC (yif (xt cGt (xdg 0 (hu_of hr)) xint)
 (ysC (yset 2 sc_law_next.nd (yb oMod (ye (xdg 0 (hu_of hr))) (ye xint))) (ysC (yx (xdp 0 (hu_of hr) (xb oDiv (xdg 0 (hu_of hr)) xint))) (ys1 (yret (ye (xv 2))))))
 ysN) (ysC (yx (xdp 0 (hu_of hr) (xb oAdd (xdg 0 (hu_of hr)) xint))) (ysC (yset 1 sc_law_next.nd (yb oAdd (ye (xdg 0 (hu_of hr))) (ye (xF G_law_cell_at (hr.mono (by decide)) (xaC (xdg 0 (hu_of hr)) (xaC (xdg 0 (hu_of hr)) xaN)))))) (ysC (yx (xdp 0 (hu_of hr) (xF G_law_mixed (hr.mono (by decide)) (xaC (xv 1) (xaC (xdg 0 (hu_of hr)) xaN))))) (ys1 (yret (ye (xF G_law_mixed (hr.mono (by decide)) (xaC (xdg 0 (hu_of hr)) (xaC xint xaN))))))))))))), bF, F.kp, mF⟩
noncomputable abbrev s_law_pool : Stmt := top 27
theorem sc_law_pool : FnScope ["_law_draws_here", "_law_some", "_law_word", "_law_k", "_law_at"] ["_law_draws_here"] (defScope s_law_pool) := ⟨rfl, rfl, rfl, by decide +kernel, rfl, by decide +kernel, by decide +kernel⟩
theorem ok_law_pool {f : Addr} {fd : FuncData} (F : Fun K "_law_pool" "_law_pool" s_law_pool f fd) (bF : Binds K fd ["_law_draws_here"] []) (mF : mg "_law_pool" = some (.ref f)) (T : Blt K mg) (G_law_next : DefB P w K mg base 2 "_law_next" m_law_next) : DefB P w K mg base 3 "_law_pool" m_law_pool :=
 ⟨f, fd, ["_law_draws_here"], fnB_ok F sc_law_pool rfl rfl (fun cdv A outer s H E hr =>
 (YSs.go (ysC (yset 1 sc_law_pool.nd (ye xstr)) (ysC (yset 2 sc_law_pool.nd (ye xstr)) (ysC (yforR1 T.z_range (xgN 3 sc_law_pool.nd) (xb oAdd xint (xb oMod (xFb 0 G_law_next (hr.mono (by decide)) xaN) xint))
 (ys1 (yset 2 sc_law_pool.nd (yb oAdd (ye (xv 2)) (yix (ye (xv 1)) (yb oMod (ye (xFb 0 G_law_next (hr.mono (by decide)) xaN)) (ye xint))))))) (ysC (yif (xt (cEq hr.units) (xb oMod (xFb 0 G_law_next (hr.mono (by decide)) xaN) xint) xint)
 (ys1 (yret (ylst (yaC (ye xstr) (yaC (ye xstr) (yaC (ye xstr) (yaC (ye xstr) (yaC (ye xstr) (yaC (ye xstr) (yaC (ye xstr) (yaC (ye xstr) (yaC (ye xstr) yaN))))))))))))
 ysN) (ysC (yset 4 sc_law_pool.nd (yb oMod (ye (xFb 0 G_law_next (hr.mono (by decide)) xaN)) (ye (xB callLen2 rfl T.z_len PySem.boot_len (xaC (xv 2) xaN))))) (ys1 (yret (ye (xlc (sc := defScope s_law_pool) rfl rfl (by show ScB ["_law_draws_here", "_law_some", "_law_word", "_law_k", "_law_at"] (defScope s_law_pool) _ "_law_sign" ["_law_word", "_law_at"] [2, 4]; exact ⟨rfl, rfl, by decide +kernel, by decide +kernel, rfl, by decide +kernel, by decide +kernel, rfl, by decide +kernel⟩) xstr (fun _ _ _ _ => xts_nil) (fun _ _ _ _ => (xb oAdd (xb oAdd (xsl2 (xv 1) xoN (xoS (xv 2))) (xv 0)) (xsl2 (xv 1) (xoS (xb oAdd (xv 2) xint)) xoN)))))))))))))), bF, F.kp, mF⟩
noncomputable abbrev s_law_keys : Stmt := top 28
theorem sc_law_keys : FnScope ["_law_draws_here", "_law_pool_here", "_law_names"] ["_law_draws_here", "_law_pool_here"] (defScope s_law_keys) := ⟨rfl, rfl, rfl, by decide +kernel, rfl, by decide +kernel, by decide +kernel⟩
theorem ok_law_keys {f : Addr} {fd : FuncData} (F : Fun K "_law_keys" "_law_keys" s_law_keys f fd) (bF : Binds K fd ["_law_draws_here", "_law_pool_here"] []) (mF : mg "_law_keys" = some (.ref f)) (T : Blt K mg) (G_law_next : DefB P w K mg base 2 "_law_next" m_law_next) : DefB P w K mg base 3 "_law_keys" m_law_keys :=
 ⟨f, fd, ["_law_draws_here", "_law_pool_here"], fnB_ok F sc_law_keys rfl rfl (fun cdv A outer s H E hr =>
 (YSs.go (ysC (yx (xsetlcB 2 sc_law_keys.nd 0 0 (sc := defScope s_law_keys) rfl rfl (by show ScB ["_law_draws_here", "_law_pool_here", "_law_names"] (defScope s_law_keys) _ "_law_name" ["_law_draws_here"] [0]; exact ⟨rfl, rfl, by decide +kernel, by decide +kernel, rfl, by decide +kernel, by decide +kernel, rfl, by decide +kernel⟩) (xv 1) (fun _ _ _ _ => (xts_one (xt (cEq hr.units) (xb oMod (xFb 1 G_law_next (hr.mono (by decide)) xaN) xint) xint))) (fun _ _ _ _ => (xv 0)))) (ysC (yif (xw (xwor (xt (cEq hr.units) (xv 2) (xlst xaN)) (xwor1 (xt (cEq hr.units) (xb oMod (xFb 0 G_law_next (hr.mono (by decide)) xaN) xint) xint))))
 (ys1 (yret (ytup (yaC (ye xstr) (yaC (ye (xTy callTuple rfl T.z_tuple PyProof.Rows.boot_tuple (xaC (xsortset T.z_set T.z_sorted (xv 2)) xaN))) yaN)))))
 ysN) (ys1 (yret (ytup (yaC (ye xstr) (yaC (ye (xTy callTuple rfl T.z_tuple PyProof.Rows.boot_tuple (xaC (xsortset T.z_set T.z_sorted (xv 2)) xaN))) yaN))))))))), bF, F.kp, mF⟩
noncomputable abbrev s_law_in : Stmt := top 29
theorem sc_law_in : FnScope ["_law_keys_here", "_law_key"] ["_law_keys_here", "_law_key"] (defScope s_law_in) := ⟨rfl, rfl, rfl, by decide +kernel, rfl, by decide +kernel, by decide +kernel⟩
theorem ok_law_in {f : Addr} {fd : FuncData} (F : Fun K "_law_in" "_law_in" s_law_in f fd) (bF : Binds K fd ["_law_keys_here", "_law_key"] []) (mF : mg "_law_in" = some (.ref f)) (T : Blt K mg)  : DefOk P w K mg base 1 "_law_in" m_law_in :=
 ⟨f, fd, ["_law_keys_here", "_law_key"], fn_ok F sc_law_in rfl rfl (fun cdv A outer s H E hr =>
 (YSs.go (ysC (yif (xt (cEq hr.units) (xix2 (xv 0) xint) xstr)
 (ys1 (yret (ye (xcmp cIn2 (xv 1) (xix2 (xv 0) xint)))))
 ysN) (ys1 (yret (ye (xcmp cNotIn2 (xv 1) (xix2 (xv 0) xint)))))))), bF, F.kp, mF⟩
noncomputable abbrev s_law_great : Stmt := top 31
theorem sc_law_great : FnScope ["_law_draws_here", "_law_form", "_law_number"] ["_law_draws_here"] (defScope s_law_great) := ⟨rfl, rfl, rfl, by decide +kernel, rfl, by decide +kernel, by decide +kernel⟩
theorem ok_law_great {f : Addr} {fd : FuncData} (F : Fun K "_law_great" "_law_great" s_law_great f fd) (bF : Binds K fd ["_law_draws_here"] []) (mF : mg "_law_great" = some (.ref f)) (T : Blt K mg) (G_law_next : DefB P w K mg base 2 "_law_next" m_law_next) : DefB P w K mg base 3 "_law_great" m_law_great :=
 ⟨f, fd, ["_law_draws_here"], fnB_ok F sc_law_great rfl rfl (fun cdv A outer s H E hr =>
 (YSs.go (ysC (yset 1 sc_law_great.nd (yb oMod (ye (xFb 0 G_law_next (hr.mono (by decide)) xaN)) (ye xint))) (ysC (yset 2 sc_law_great.nd (yb oSub (yb oMod (ye (xFb 0 G_law_next (hr.mono (by decide)) xaN)) (ye xint)) (ye xint))) (ysC (yif (xt (cEq hr.units) (xv 1) xint)
 (ys1 (yset 2 sc_law_great.nd (yb oAdd (yb oMul (ye (xFb 0 G_law_next (hr.mono (by decide)) xaN)) (yb oPow (ye xint) (ye xint))) (ye (xFb 0 G_law_next (hr.mono (by decide)) xaN)))))
 ysN) (ysC (yif (xt (cEq hr.units) (xv 1) xint)
 (ys1 (yset 2 sc_law_great.nd (yb oSub (yb oSub (ye xint) (yb oMul (ye (xFb 0 G_law_next (hr.mono (by decide)) xaN)) (yb oPow (ye xint) (ye xint)))) (ye (xFb 0 G_law_next (hr.mono (by decide)) xaN)))))
 ysN) (ys1 (yret (ye (xv 2)))))))))), bF, F.kp, mF⟩
noncomputable abbrev s_law_stretch : Stmt := top 32
theorem sc_law_stretch : FnScope ["_law_draws_here", "_law_low", "_law_high", "_law_one", "_law_form", "_law_step"] ["_law_draws_here"] (defScope s_law_stretch) := ⟨rfl, rfl, rfl, by decide +kernel, rfl, by decide +kernel, by decide +kernel⟩
theorem ok_law_stretch {f : Addr} {fd : FuncData} (F : Fun K "_law_stretch" "_law_stretch" s_law_stretch f fd) (bF : Binds K fd ["_law_draws_here"] []) (mF : mg "_law_stretch" = some (.ref f)) (T : Blt K mg) (G_law_great : DefB P w K mg base 3 "_law_great" m_law_great) (G_law_next : DefB P w K mg base 2 "_law_next" m_law_next) (G_stretch_made : DefOk P w K mg base 1 "stretch_made" m_stretch_made) : DefB P w K mg base 4 "_law_stretch" m_law_stretch :=
 ⟨f, fd, ["_law_draws_here"], fnB_ok F sc_law_stretch rfl rfl (fun cdv A outer s H E hr =>
 (YSs.go (ysC (yset 1 sc_law_stretch.nd (ye xnon)) (ysC (yset 2 sc_law_stretch.nd (ye xnon)) (ysC (yset 3 sc_law_stretch.nd (ye (xFb 0 G_law_great (hr.mono (by decide)) xaN))) (ysC (yset 4 sc_law_stretch.nd (yb oMod (ye (xFb 0 G_law_next (hr.mono (by decide)) xaN)) (ye xint))) (ysC (yif (xt (cNe hr.units) (xv 4) xint)
 (ys1 (yset 1 sc_law_stretch.nd (ye (xv 3))))
 ysN) (ysC (yif (xt (cNe hr.units) (xv 4) xint)
 (ysC (yset 2 sc_law_stretch.nd (yb oAdd (ye (xv 3)) (yb oMod (ye (xFb 0 G_law_next (hr.mono (by decide)) xaN)) (ye xint)))) (ys1 (yif (xt (cEq hr.units) (xv 4) xint)
 (ys1 (yset 2 sc_law_stretch.nd (yb oAdd (ye (xv 3)) (ye (xB callAbs rfl T.z_abs PyProof.Rows.boot_abs (xaC (xFb 0 G_law_great (hr.mono (by decide)) xaN) xaN))))))
 ysN)))
 ysN) (ysC (yset 5 sc_law_stretch.nd (yix (ylst (yaC (ye xint) (yaC (ye xint) (yaC (ye xint) (yaC (ye xint) (yaC (ye xint) (yaC (ye xint) yaN))))))) (yb oMod (ye (xFb 0 G_law_next (hr.mono (by decide)) xaN)) (ye xint)))) (ys1 (yret (ye (xF G_stretch_made (hr.mono (by decide)) (xaC (xv 1) (xaC (xv 2) (xaC (xv 5) (xaC (xb oMod (xFb 0 G_law_next (hr.mono (by decide)) xaN) (xv 5)) xaN))))))))))))))))), bF, F.kp, mF⟩
noncomputable abbrev s_law_time : Stmt := top 33
theorem sc_law_time : FnScope ["_law_draws_here"] ["_law_draws_here"] (defScope s_law_time) := ⟨rfl, rfl, rfl, by decide +kernel, rfl, by decide +kernel, by decide +kernel⟩
theorem ok_law_time {f : Addr} {fd : FuncData} (F : Fun K "_law_time" "_law_time" s_law_time f fd) (bF : Binds K fd ["_law_draws_here"] []) (mF : mg "_law_time" = some (.ref f)) (T : Blt K mg) (G_law_next : DefB P w K mg base 2 "_law_next" m_law_next) : DefB P w K mg base 3 "_law_time" m_law_time :=
 ⟨f, fd, ["_law_draws_here"], fnB_ok F sc_law_time rfl rfl (fun cdv A outer s H E hr =>
 (YSs.go (ysC (yif (xt (cEq hr.units) (xb oMod (xFb 0 G_law_next (hr.mono (by decide)) xaN) xint) xint)
 (ys1 (yret (yb oAdd (yb oMul (ye (xFb 0 G_law_next (hr.mono (by decide)) xaN)) (yb oPow (ye xint) (ye xint))) (ye (xFb 0 G_law_next (hr.mono (by decide)) xaN)))))
 ysN) (ys1 (yret (yb oMod (ye (xFb 0 G_law_next (hr.mono (by decide)) xaN)) (ye xint))))))), bF, F.kp, mF⟩
noncomputable abbrev s_law_box : Stmt := top 34
theorem sc_law_box : FnScope ["_law_draws_here", "_law_pool_here", "_law_keys_here", "_law_begin", "_law_end"] ["_law_draws_here", "_law_pool_here"] (defScope s_law_box) := ⟨rfl, rfl, rfl, by decide +kernel, rfl, by decide +kernel, by decide +kernel⟩
theorem ok_law_box {f : Addr} {fd : FuncData} (F : Fun K "_law_box" "_law_box" s_law_box f fd) (bF : Binds K fd ["_law_draws_here", "_law_pool_here"] []) (mF : mg "_law_box" = some (.ref f)) (T : Blt K mg) (G_law_keys : DefB P w K mg base 3 "_law_keys" m_law_keys) (G_law_next : DefB P w K mg base 2 "_law_next" m_law_next) (G_law_stretch : DefB P w K mg base 4 "_law_stretch" m_law_stretch) (G_law_time : DefB P w K mg base 3 "_law_time" m_law_time) (G_box_made : DefOk P w K mg base 1 "box_made" m_box_made) : DefB P w K mg base 5 "_law_box" m_law_box :=
 ⟨f, fd, ["_law_draws_here", "_law_pool_here"], fnB_ok F sc_law_box rfl rfl (fun cdv A outer s H E hr =>
 (YSs.go (ysC (yset 2 sc_law_box.nd (ye (xFb 0 G_law_keys (hr.mono (by decide)) (xaC (xv 1) xaN)))) (ysC (yset 3 sc_law_box.nd (ye (xFb 0 G_law_time (hr.mono (by decide)) xaN))) (ysC (yset 4 sc_law_box.nd (yb oAdd (yb oAdd (ye (xv 3)) (ye xint)) (yb oMod (ye (xFb 0 G_law_next (hr.mono (by decide)) xaN)) (ye xint)))) (ysC (yif (xt (cEq hr.units) (xb oMod (xFb 0 G_law_next (hr.mono (by decide)) xaN) xint) xint)
 (ys1 (yset 4 sc_law_box.nd (ye xnon)))
 ysN) (ys1 (yret (ye (xF G_box_made (hr.mono (by decide)) (xaC (xv 2) (xaC (xv 3) (xaC (xv 4) (xaC (xFb 0 G_law_stretch (hr.mono (by decide)) xaN) xaN)))))))))))))), bF, F.kp, mF⟩
noncomputable abbrev s_law_value_in : Stmt := top 35
theorem sc_law_value_in : FnScope ["_law_stretch_here", "_law_value"] ["_law_stretch_here", "_law_value"] (defScope s_law_value_in) := ⟨rfl, rfl, rfl, by decide +kernel, rfl, by decide +kernel, by decide +kernel⟩
theorem ok_law_value_in {f : Addr} {fd : FuncData} (F : Fun K "_law_value_in" "_law_value_in" s_law_value_in f fd) (bF : Binds K fd ["_law_stretch_here", "_law_value"] []) (mF : mg "_law_value_in" = some (.ref f)) (T : Blt K mg)  : DefOk P w K mg base 1 "_law_value_in" m_law_value_in :=
 ⟨f, fd, ["_law_stretch_here", "_law_value"], fn_ok F sc_law_value_in rfl rfl (fun cdv A outer s H E hr =>
 (YSs.go (ysC (yif (xw (xwor (xw (xwand (xt cIsNot (xix2 (xv 0) xint) xnon) (xwand1 (xt cLt (xv 1) (xix2 (xv 0) xint))))) (xwor1 (xw (xwand (xt cIsNot (xix2 (xv 0) xint) xnon) (xwand1 (xt cGt (xv 1) (xix2 (xv 0) xint))))))))
 (ys1 (yret (ye xbl)))
 ysN) (ys1 (yret (ye (xcmp (cEq hr.units) (xb oMod (xv 1) (xix2 (xv 0) xint)) (xix2 (xv 0) xint)))))))), bF, F.kp, mF⟩
noncomputable abbrev s_law_has : Stmt := top 36
theorem sc_law_has : FnScope ["_law_box_here", "_law_thing"] ["_law_box_here", "_law_thing"] (defScope s_law_has) := ⟨rfl, rfl, rfl, by decide +kernel, rfl, by decide +kernel, by decide +kernel⟩
theorem ok_law_has {f : Addr} {fd : FuncData} (F : Fun K "_law_has" "_law_has" s_law_has f fd) (bF : Binds K fd ["_law_box_here", "_law_thing"] []) (mF : mg "_law_has" = some (.ref f)) (T : Blt K mg) (G_law_in : DefOk P w K mg base 1 "_law_in" m_law_in) (G_law_value_in : DefOk P w K mg base 1 "_law_value_in" m_law_value_in) : DefOk P w K mg base 2 "_law_has" m_law_has :=
 ⟨f, fd, ["_law_box_here", "_law_thing"], fn_ok F sc_law_has rfl rfl (fun cdv A outer s H E hr =>
 (YSs.go (ysC (yif (xw (xwor (xt cIs (xv 0) xnon) (xwor (xt cLt (xix2 (xv 1) xint) (xix2 (xv 0) xint)) (xwor1 (xw (xwand (xt cIsNot (xix2 (xv 0) xint) xnon) (xwand1 (xt cGe (xix2 (xv 1) xint) (xix2 (xv 0) xint)))))))))
 (ys1 (yret (ye xbl)))
 ysN) (ys1 (yret (ye (xand (xF G_law_in (hr.mono (by decide)) (xaC (xix2 (xv 0) xint) (xaC (xix2 (xv 1) xint) xaN))) (xone (xF G_law_value_in (hr.mono (by decide)) (xaC (xix2 (xv 0) xint) (xaC (xix2 (xv 1) xint) xaN))))))))))), bF, F.kp, mF⟩
noncomputable abbrev s_law_near : Stmt := top 37
theorem sc_law_near : FnScope ["_law_draws_here", "_law_box_here", "_law_pool_here", "_law_time_here", "_law_value", "_law_edge"] ["_law_draws_here", "_law_box_here", "_law_pool_here"] (defScope s_law_near) := ⟨rfl, rfl, rfl, by decide +kernel, rfl, by decide +kernel, by decide +kernel⟩
theorem ok_law_near {f : Addr} {fd : FuncData} (F : Fun K "_law_near" "_law_near" s_law_near f fd) (bF : Binds K fd ["_law_draws_here", "_law_box_here", "_law_pool_here"] []) (mF : mg "_law_near" = some (.ref f)) (T : Blt K mg) (G_law_next : DefB P w K mg base 2 "_law_next" m_law_next) : DefB P w K mg base 3 "_law_near" m_law_near :=
 ⟨f, fd, ["_law_draws_here", "_law_box_here", "_law_pool_here"], fnB_ok F sc_law_near rfl rfl (fun cdv A outer s H E hr =>
 (YSs.go (ysC (yset 3 sc_law_near.nd (yb oSub (yb oAdd (yix (ye (xv 1)) (ye xint)) (yb oMod (ye (xFb 0 G_law_next (hr.mono (by decide)) xaN)) (ye xint))) (ye xint))) (ysC (yif (xw (xwand (xt (cEq hr.units) (xb oMod (xFb 0 G_law_next (hr.mono (by decide)) xaN) xint) xint) (xwand1 (xt cIsNot (xix2 (xv 1) xint) xnon))))
 (ys1 (yset 3 sc_law_near.nd (yb oSub (yb oAdd (yix (ye (xv 1)) (ye xint)) (yb oMod (ye (xFb 0 G_law_next (hr.mono (by decide)) xaN)) (ye xint))) (ye xint))))
 ysN) (ysC (yset 4 sc_law_near.nd (ye xint)) (ysC (yset 5 sc_law_near.nd (yix (yix (ye (xv 1)) (ye xint)) (yb oMod (ye (xFb 0 G_law_next (hr.mono (by decide)) xaN)) (ye xint)))) (ysC (yif (xt cIsNot (xv 5) xnon)
 (ys1 (yset 4 sc_law_near.nd (ye (xv 5))))
 ysN) (ysC (yset 4 sc_law_near.nd (yb oSub (yb oAdd (ye (xv 4)) (yb oMod (ye (xFb 0 G_law_next (hr.mono (by decide)) xaN)) (ye xint))) (ye xint))) (ys1 (yret (ytup (yaC (ye (xB (callMax rfl) rfl T.z_max PyProof.Rows.boot_max (xaC (xv 3) (xaC xint xaN)))) (yaC (yix (yb oAdd (ye (xv 2)) (ylst (yaC (ye xstr) yaN))) (yb oMod (ye (xFb 0 G_law_next (hr.mono (by decide)) xaN)) (ye xint))) (yaC (ye (xv 4)) yaN)))))))))))))), bF, F.kp, mF⟩
noncomputable abbrev s_law_made_right : Stmt := top 38
theorem sc_law_made_right : FnScope ["_law_box_here", "_law_draws_here", "_law_more", "_law_keys_here", "_law_begin", "_law_end", "_law_stretch_here"] ["_law_box_here", "_law_draws_here"] (defScope s_law_made_right) := ⟨rfl, rfl, rfl, by decide +kernel, rfl, by decide +kernel, by decide +kernel⟩
theorem ok_law_made_right {f : Addr} {fd : FuncData} (F : Fun K "_law_made_right" "_law_made_right" s_law_made_right f fd) (bF : Binds K fd ["_law_box_here", "_law_draws_here"] []) (mF : mg "_law_made_right" = some (.ref f)) (T : Blt K mg) (G_law_next : DefB P w K mg base 2 "_law_next" m_law_next) (G_box_made : DefOk P w K mg base 1 "box_made" m_box_made) : DefC P w K mg base 3 "_law_made_right" m_law_made_right :=
 ⟨f, fd, ["_law_box_here", "_law_draws_here"], fnC_ok F sc_law_made_right rfl rfl (fun cdv A outer s H E hr =>
 (YSs.go (ysC (yx (xtupset (xgT (xgsC (xgN 3 sc_law_made_right.nd) (xgsC (xgN 4 sc_law_made_right.nd) (xgsC (xgN 5 sc_law_made_right.nd) (xgsC (xgN 6 sc_law_made_right.nd) xgs0))))) (xv 0))) (ysC (yset 2 sc_law_made_right.nd (yb oMod (ye (xFb 1 G_law_next (hr.mono (by decide)) xaN)) (ye xint))) (ysC (yif (xw (xwor (xt (cNe hr.units) (xF G_box_made (hr.mono (by decide)) (xaC (xv 3) (xaC (xv 4) (xaC (xv 5) (xaC (xv 6) xaN))))) (xv 0)) (xwor1 (xt cIsNot (xF G_box_made (hr.mono (by decide)) (xaC xnon (xaC (xv 4) (xaC (xv 5) (xaC (xv 6) xaN))))) xnon))))
 (ys1 (yret (ye xbl)))
 ysN) (ysC (yif (xw (xwor (xt cIsNot (xF G_box_made (hr.mono (by decide)) (xaC (xv 3) (xaC (xv 4) (xaC (xv 5) (xaC xnon xaN))))) xnon) (xwor1 (xt cIsNot (xF G_box_made (hr.mono (by decide)) (xaC (xv 3) (xaC (xb oAdd (xv 4) (xv 2)) (xaC (xv 4) (xaC (xv 6) xaN))))) xnon))))
 (ys1 (yret (ye xbl)))
 ysN) (ysC (yif (xt cIsNot (xF G_box_made (hr.mono (by decide)) (xaC (xv 3) (xaC (xb oSub xint (xv 2)) (xaC xint (xaC (xv 6) xaN))))) xnon)
 (ys1 (yret (ye xbl)))
 ysN) (ys1 (yret (ye (xcmp (cEq hr.units) (xF G_box_made (hr.mono (by decide)) (xaC (xv 3) (xaC (xb oSub xint (xv 2)) (xaC (xv 5) (xaC (xv 6) xaN))))) (xtup (xaC (xv 3) (xaC xint (xaC (xv 5) (xaC (xv 6) xaN)))))))))))))))), bF, F.kp, mF⟩
noncomputable abbrev s_law_inside_due : Stmt := top 39
theorem sc_law_inside_due : FnScope ["_law_one", "_law_other", "_law_times"] ["_law_one", "_law_other"] (defScope s_law_inside_due) := ⟨rfl, rfl, rfl, by decide +kernel, rfl, by decide +kernel, by decide +kernel⟩
theorem ok_law_inside_due {f : Addr} {fd : FuncData} (F : Fun K "_law_inside_due" "_law_inside_due" s_law_inside_due f fd) (bF : Binds K fd ["_law_one", "_law_other"] []) (mF : mg "_law_inside_due" = some (.ref f)) (T : Blt K mg) (G_keys_inside : DefOk P w K mg base 5 "keys_inside" m_keys_inside) (G_stretch_inside : DefOk P w K mg base 4 "stretch_inside" m_stretch_inside) : DefOk P w K mg base 6 "_law_inside_due" m_law_inside_due :=
 ⟨f, fd, ["_law_one", "_law_other"], fn_ok F sc_law_inside_due rfl rfl (fun cdv A outer s H E hr =>
 (YSs.go (ysC (yset 2 sc_law_inside_due.nd (ye (xand (xcmp cGe (xix2 (xv 0) xint) (xix2 (xv 1) xint)) (xone (xor (xcmp cIs (xix2 (xv 1) xint) xnon) (xone (xand (xcmp cIsNot (xix2 (xv 0) xint) xnon) (xone (xcmp cLe (xix2 (xv 0) xint) (xix2 (xv 1) xint)))))))))) (ys1 (yret (ye (xand (xv 2) (xand (xF G_keys_inside (hr.mono (by decide)) (xaC (xix2 (xv 0) xint) (xaC (xix2 (xv 1) xint) xaN))) (xone (xF G_stretch_inside (hr.mono (by decide)) (xaC (xix2 (xv 0) xint) (xaC (xix2 (xv 1) xint) xaN)))))))))))), bF, F.kp, mF⟩
noncomputable abbrev s_law : Stmt := top 40
theorem sc_law : FnScope ["_law_script", "_law_draws_here", "_law_pool_here", "_law_boxes", "_law_meet", "_law_k", "_law_one", "_law_other", "_law_begin", "_law_ends", "_law_apart", "_law_thing", "_law_box_here", "_law_left", "_law_right", "_law_found"] ["_law_script"] (defScope s_law) := ⟨rfl, rfl, rfl, by decide +kernel, rfl, by decide +kernel, by decide +kernel⟩
theorem fn_law {f : Addr} {fd : FuncData} (F : Fun K "law" "law" s_law f fd) (T : Blt K mg) (G_law_box : DefB P w K mg base 5 "_law_box" m_law_box) (G_law_draws : DefN P w K mg base 2 "_law_draws" m_law_draws) (G_law_has : DefOk P w K mg base 2 "_law_has" m_law_has) (G_law_inside_due : DefOk P w K mg base 6 "_law_inside_due" m_law_inside_due) (G_law_made_right : DefC P w K mg base 3 "_law_made_right" m_law_made_right) (G_law_near : DefB P w K mg base 3 "_law_near" m_law_near) (G_law_pool : DefB P w K mg base 3 "_law_pool" m_law_pool) (G_box_has : DefOk P w K mg base 3 "box_has" m_box_has) (G_box_inside : DefOk P w K mg base 6 "box_inside" m_box_inside) (G_box_meet : DefOk P w K mg base 5 "box_meet" m_box_meet) (G_keys_meet : DefOk P w K mg base 4 "keys_meet" m_keys_meet) (G_stretch_meet : DefOk P w K mg base 3 "stretch_meet" m_stretch_meet) : FnOk P w K mg base CX0 7 f fd ["_law_script"] (spP K m_law) :=
 fn_ok F sc_law rfl rfl (fun cdv A outer s H E hr =>
 (YSs.go (ysC (yx (xnew 1 sc_law.nd G_law_draws (hr.mono (by decide)) (xaC (xv 0) xaN))) (ysC (yset 2 sc_law.nd (ye (xFb 1 G_law_pool (hr.mono (by decide)) xaN))) (ysC (yset 3 sc_law.nd (ye (xsl2 (xlc (sc := defScope s_law) rfl rfl (by show ScB ["_law_script", "_law_draws_here", "_law_pool_here", "_law_boxes", "_law_meet", "_law_k", "_law_one", "_law_other", "_law_begin", "_law_ends", "_law_apart", "_law_thing", "_law_box_here", "_law_left", "_law_right", "_law_found"] (defScope s_law) _ "_law_box_here" [] []; exact ⟨rfl, rfl, by decide +kernel, by decide +kernel, rfl, by decide +kernel, by decide +kernel, rfl, by decide +kernel⟩) (xlrB1 1 0 T.z_range (sc := defScope s_law) rfl rfl (by show ScB ["_law_script", "_law_draws_here", "_law_pool_here", "_law_boxes", "_law_meet", "_law_k", "_law_one", "_law_other", "_law_begin", "_law_ends", "_law_apart", "_law_thing", "_law_box_here", "_law_left", "_law_right", "_law_found"] (defScope s_law) _ "_law_k" ["_law_draws_here", "_law_pool_here"] [1, 2]; exact ⟨rfl, rfl, by decide +kernel, by decide +kernel, rfl, by decide +kernel, by decide +kernel, rfl, by decide +kernel⟩) xint (fun _ _ _ _ => xts_nil) (fun _ _ _ _ => (xFb 1 G_law_box (hr.mono (by decide)) (xaC (xv 2) xaN)))) (fun _ _ _ _ => (xts_one (xt cIsNot (xv 0) xnon))) (fun _ _ _ _ => (xv 0))) xoN (xoS xint)))) (ysC (yif (xt cLt (xB callLen2 rfl T.z_len PySem.boot_len (xaC (xv 3) xaN)) xint)
 (ys1 (yret (ye (xor (xcmp (cEq hr.units) (xv 3) (xlst xaN)) (xone (xFc 1 G_law_made_right (hr.mono (by decide)) (xix2 (xv 3) xint)))))))
 ysN) (ysC (yx (xtupset (xgT (xgsC (xgN 6 sc_law.nd) (xgsC (xgN 7 sc_law.nd) xgs0))) (xv 3))) (ysC (yset 4 sc_law.nd (ye (xF G_box_meet (hr.mono (by decide)) (xaC (xv 6) (xaC (xv 7) xaN))))) (ysC (yif (xt cIs (xv 4) xnon)
 (ysC (yset 8 sc_law.nd (ye (xB (callMax rfl) rfl T.z_max PyProof.Rows.boot_max (xaC (xix2 (xv 6) xint) (xaC (xix2 (xv 7) xint) xaN))))) (ysC (yx (xsetlc 9 sc_law.nd (sc := defScope s_law) rfl rfl (by show ScB ["_law_script", "_law_draws_here", "_law_pool_here", "_law_boxes", "_law_meet", "_law_k", "_law_one", "_law_other", "_law_begin", "_law_ends", "_law_apart", "_law_thing", "_law_box_here", "_law_left", "_law_right", "_law_found"] (defScope s_law) _ "_law_end" [] []; exact ⟨rfl, rfl, by decide +kernel, by decide +kernel, rfl, by decide +kernel, by decide +kernel, rfl, by decide +kernel⟩) (xlst (xaC (xix2 (xv 6) xint) (xaC (xix2 (xv 7) xint) xaN))) (fun _ _ _ _ => (xts_one (xt cIsNot (xv 0) xnon))) (fun _ _ _ _ => (xv 0)))) (ysC (yset 10 sc_law.nd (ye (xor (xcmp cIs (xF G_keys_meet (hr.mono (by decide)) (xaC (xix2 (xv 6) xint) (xaC (xix2 (xv 7) xint) xaN))) xnon) (xone (xcmp cIs (xF G_stretch_meet (hr.mono (by decide)) (xaC (xix2 (xv 6) xint) (xaC (xix2 (xv 7) xint) xaN))) xnon))))) (ys1 (yif (xw (xwand (xtnot (xtv (xv 10) (fun _ => rfl))) (xwand1 (xw (xwor (xt (cEq hr.units) (xv 9) (xlst xaN)) (xwor1 (xt cGt (xB (callMin rfl) rfl T.z_min PyProof.Rows.boot_min (xaC (xv 9) xaN)) (xv 8))))))))
 (ys1 (yret (ye xbl)))
 ysN)))))
 (ys1 (yif (xw (xwor (xtnot (xtv (xty (t := .tuple) T.z_isinstance T.z_tuple PyProof.Rows.boot_tuple (xv 4)) (fun _ => rfl))) (xwor1 (xt (cNe hr.units) (xB callLen2 rfl T.z_len PySem.boot_len (xaC (xv 4) xaN)) xint))))
 (ys1 (yret (ye xbl)))
 ysN))) (ysC (yforR1 T.z_range (xgN 5 sc_law.nd) xint
 (ysC (yset 11 sc_law.nd (ye (xFb 1 G_law_near (hr.mono (by decide)) (xaC (xix2 (xv 3) (xb oMod (xv 5) xint)) (xaC (xv 2) xaN))))) (ysC (yfor (xgN 12 sc_law.nd) (ye (xv 3))
 (ysC (yset 15 sc_law.nd (ye (xF G_box_has (hr.mono (by decide)) (xaC (xv 12) (xaC (xv 11) xaN))))) (ys1 (yif (xw (xwor (xtnot (xtv (xty (t := .bool) T.z_isinstance T.z_bool PyProof.Rows.boot_bool (xv 15)) (fun _ => rfl))) (xwor1 (xt (cNe hr.units) (xv 15) (xF G_law_has (hr.mono (by decide)) (xaC (xv 12) (xaC (xv 11) xaN)))))))
 (ys1 (yret (ye xbl)))
 ysN)))) (ys1 (yif (xt (cNe hr.units) (xF G_law_has (hr.mono (by decide)) (xaC (xv 4) (xaC (xv 11) xaN))) (xand (xF G_law_has (hr.mono (by decide)) (xaC (xv 6) (xaC (xv 11) xaN))) (xone (xF G_law_has (hr.mono (by decide)) (xaC (xv 7) (xaC (xv 11) xaN))))))
 (ys1 (yret (ye xbl)))
 ysN))))) (ysC (yfor (xgT (xgsC (xgN 13 sc_law.nd) (xgsC (xgN 14 sc_law.nd) xgs0))) (ylst (yaC (ytup (yaC (ye (xv 6)) (yaC (ye (xv 7)) yaN))) (yaC (ytup (yaC (ye (xv 7)) (yaC (ye (xv 6)) yaN))) (yaC (ytup (yaC (ye (xv 6)) (yaC (ye (xv 6)) yaN))) yaN))))
 (ysC (yset 15 sc_law.nd (ye (xF G_box_inside (hr.mono (by decide)) (xaC (xv 13) (xaC (xv 14) xaN))))) (ys1 (yif (xw (xwor (xtnot (xtv (xty (t := .bool) T.z_isinstance T.z_bool PyProof.Rows.boot_bool (xv 15)) (fun _ => rfl))) (xwor1 (xt (cNe hr.units) (xv 15) (xF G_law_inside_due (hr.mono (by decide)) (xaC (xv 13) (xaC (xv 14) xaN)))))))
 (ys1 (yret (ye xbl)))
 ysN)))) (ys1 (yret (ye (xFc 1 G_law_made_right (hr.mono (by decide)) (xv 6))))))))))))))))
end
end Fx
set_option maxRecDepth 100000
set_option maxHeartbeats 4000000
namespace Fx
open PySem PySem.Spec PyProof.Rows L2
theorem reps_ints {K : PySem.W.Frag} {H : Hp} : ∀ ns : List Int, Reps K H (ns.map D.int) (ns.map V.int)
 | [] => Reps.nil_
 | n :: r => Reps.cons (rep_int H n) (reps_ints r)
theorem us1 {P : List Value -> Prop} (h : ∀ a0, P [a0]) : ∀ us : List Value, us.length = 1 -> P us := fun us hl => by
 cases us with
 | nil => exact absurd hl (by simp)
 | cons a0 us =>
 cases us with
 | nil => exact h _
 | cons b us => exact absurd hl (by simp)
theorem us2 {P : List Value -> Prop} (h : ∀ a0 a1, P [a0, a1]) : ∀ us : List Value, us.length = 2 -> P us := fun us hl => by
 cases us with
 | nil => exact absurd hl (by simp)
 | cons a0 us =>
 cases us with
 | nil => exact absurd hl (by simp)
 | cons a1 us =>
 cases us with
 | nil => exact h _ _
 | cons b us => exact absurd hl (by simp)
theorem us3 {P : List Value -> Prop} (h : ∀ a0 a1 a2, P [a0, a1, a2]) : ∀ us : List Value, us.length = 3 -> P us := fun us hl => by
 cases us with
 | nil => exact absurd hl (by simp)
 | cons a0 us =>
 cases us with
 | nil => exact absurd hl (by simp)
 | cons a1 us =>
 cases us with
 | nil => exact absurd hl (by simp)
 | cons a2 us =>
 cases us with
 | nil => exact h _ _ _
 | cons b us => exact absurd hl (by simp)
theorem us4 {P : List Value -> Prop} (h : ∀ a0 a1 a2 a3, P [a0, a1, a2, a3]) : ∀ us : List Value, us.length = 4 -> P us := fun us hl => by
 cases us with
 | nil => exact absurd hl (by simp)
 | cons a0 us =>
 cases us with
 | nil => exact absurd hl (by simp)
 | cons a1 us =>
 cases us with
 | nil => exact absurd hl (by simp)
 | cons a2 us =>
 cases us with
 | nil => exact absurd hl (by simp)
 | cons a3 us =>
 cases us with
 | nil => exact h _ _ _ _
 | cons b us => exact absurd hl (by simp)
theorem us5 {P : List Value -> Prop} (h : ∀ a0 a1 a2 a3 a4, P [a0, a1, a2, a3, a4]) : ∀ us : List Value, us.length = 5 -> P us := fun us hl => by
 cases us with
 | nil => exact absurd hl (by simp)
 | cons a0 us =>
 cases us with
 | nil => exact absurd hl (by simp)
 | cons a1 us =>
 cases us with
 | nil => exact absurd hl (by simp)
 | cons a2 us =>
 cases us with
 | nil => exact absurd hl (by simp)
 | cons a3 us =>
 cases us with
 | nil => exact absurd hl (by simp)
 | cons a4 us =>
 cases us with
 | nil => exact h _ _ _ _ _
 | cons b us => exact absurd hl (by simp)
theorem all_mk {l : PySem.W.OpenLaw} {w : World} {K : PySem.W.Frag} {h : Heap} {mg : Str → Option Value} {fa f1 f2 f3 f4 f5 f6 f7 f8 f9 f10 f11 f12 f13 f14 f15 f16 f17 f18 f19 f20 f21 f22 f23 f24 f25 f26 f27 f28 f29 f30 f31 f32 f33 f34 f35 : Addr} (X : K.In h) (G : h.Ns mainGlobals mg) (hfa : mg "law" = some (.ref fa))
  {od1 an1 : Option Addr} {sl1 : Array (Option Value)} {oc1 kV1 dc1 pm1 cd1 ct1 : Value}
  (a1 : PySem.W.nsIn K mainGlobals "keys_hold" = some (some (.ref f1))) (l1 : K.lookup f1 = some ⟨oc1, od1, .func (PySem.W.fnOf "keys_hold" "keys_hold" (defArgs s_keys_hold) (defBody s_keys_hold) (defScope s_keys_hold) .none kV1 dc1 pm1 an1 cd1 ct1), sl1⟩) (c1 : PySem.W.codeIn K cd1 "keys_hold" = true) (k1 : PySem.W.keepIn K (.ref f1) = true)
  {od2 an2 : Option Addr} {sl2 : Array (Option Value)} {oc2 kV2 dc2 pm2 cd2 ct2 : Value}
  (a2 : PySem.W.nsIn K mainGlobals "keys_meet" = some (some (.ref f2))) (l2 : K.lookup f2 = some ⟨oc2, od2, .func (PySem.W.fnOf "keys_meet" "keys_meet" (defArgs s_keys_meet) (defBody s_keys_meet) (defScope s_keys_meet) .none kV2 dc2 pm2 an2 cd2 ct2), sl2⟩) (c2 : PySem.W.codeIn K cd2 "keys_meet" = true) (k2 : PySem.W.keepIn K (.ref f2) = true)
  {od3 an3 : Option Addr} {sl3 : Array (Option Value)} {oc3 kV3 dc3 pm3 cd3 ct3 : Value}
  (a3 : PySem.W.nsIn K mainGlobals "keys_inside" = some (some (.ref f3))) (l3 : K.lookup f3 = some ⟨oc3, od3, .func (PySem.W.fnOf "keys_inside" "keys_inside" (defArgs s_keys_inside) (defBody s_keys_inside) (defScope s_keys_inside) .none kV3 dc3 pm3 an3 cd3 ct3), sl3⟩) (c3 : PySem.W.codeIn K cd3 "keys_inside" = true) (k3 : PySem.W.keepIn K (.ref f3) = true)
  {od4 an4 : Option Addr} {sl4 : Array (Option Value)} {oc4 kV4 dc4 pm4 cd4 ct4 : Value}
  (a4 : PySem.W.nsIn K mainGlobals "stretch_made" = some (some (.ref f4))) (l4 : K.lookup f4 = some ⟨oc4, od4, .func (PySem.W.fnOf "stretch_made" "stretch_made" (defArgs s_stretch_made) (defBody s_stretch_made) (defScope s_stretch_made) .none kV4 dc4 pm4 an4 cd4 ct4), sl4⟩) (c4 : PySem.W.codeIn K cd4 "stretch_made" = true) (k4 : PySem.W.keepIn K (.ref f4) = true)
  {od5 an5 : Option Addr} {sl5 : Array (Option Value)} {oc5 kV5 dc5 pm5 cd5 ct5 : Value}
  (a5 : PySem.W.nsIn K mainGlobals "is_between" = some (some (.ref f5))) (l5 : K.lookup f5 = some ⟨oc5, od5, .func (PySem.W.fnOf "is_between" "is_between" (defArgs s_is_between) (defBody s_is_between) (defScope s_is_between) .none kV5 dc5 pm5 an5 cd5 ct5), sl5⟩) (c5 : PySem.W.codeIn K cd5 "is_between" = true) (k5 : PySem.W.keepIn K (.ref f5) = true)
  {od6 an6 : Option Addr} {sl6 : Array (Option Value)} {oc6 kV6 dc6 pm6 cd6 ct6 : Value}
  (a6 : PySem.W.nsIn K mainGlobals "stretch_has" = some (some (.ref f6))) (l6 : K.lookup f6 = some ⟨oc6, od6, .func (PySem.W.fnOf "stretch_has" "stretch_has" (defArgs s_stretch_has) (defBody s_stretch_has) (defScope s_stretch_has) .none kV6 dc6 pm6 an6 cd6 ct6), sl6⟩) (c6 : PySem.W.codeIn K cd6 "stretch_has" = true) (k6 : PySem.W.keepIn K (.ref f6) = true)
  {od7 an7 : Option Addr} {sl7 : Array (Option Value)} {oc7 kV7 dc7 pm7 cd7 ct7 : Value}
  (a7 : PySem.W.nsIn K mainGlobals "lower_bound" = some (some (.ref f7))) (l7 : K.lookup f7 = some ⟨oc7, od7, .func (PySem.W.fnOf "lower_bound" "lower_bound" (defArgs s_lower_bound) (defBody s_lower_bound) (defScope s_lower_bound) .none kV7 dc7 pm7 an7 cd7 ct7), sl7⟩) (c7 : PySem.W.codeIn K cd7 "lower_bound" = true) (k7 : PySem.W.keepIn K (.ref f7) = true)
  {od8 an8 : Option Addr} {sl8 : Array (Option Value)} {oc8 kV8 dc8 pm8 cd8 ct8 : Value}
  (a8 : PySem.W.nsIn K mainGlobals "upper_bound" = some (some (.ref f8))) (l8 : K.lookup f8 = some ⟨oc8, od8, .func (PySem.W.fnOf "upper_bound" "upper_bound" (defArgs s_upper_bound) (defBody s_upper_bound) (defScope s_upper_bound) .none kV8 dc8 pm8 an8 cd8 ct8), sl8⟩) (c8 : PySem.W.codeIn K cd8 "upper_bound" = true) (k8 : PySem.W.keepIn K (.ref f8) = true)
  {od9 an9 : Option Addr} {sl9 : Array (Option Value)} {oc9 kV9 dc9 pm9 cd9 ct9 : Value}
  (a9 : PySem.W.nsIn K mainGlobals "stretch_between" = some (some (.ref f9))) (l9 : K.lookup f9 = some ⟨oc9, od9, .func (PySem.W.fnOf "stretch_between" "stretch_between" (defArgs s_stretch_between) (defBody s_stretch_between) (defScope s_stretch_between) .none kV9 dc9 pm9 an9 cd9 ct9), sl9⟩) (c9 : PySem.W.codeIn K cd9 "stretch_between" = true) (k9 : PySem.W.keepIn K (.ref f9) = true)
  {od10 an10 : Option Addr} {sl10 : Array (Option Value)} {oc10 kV10 dc10 pm10 cd10 ct10 : Value}
  (a10 : PySem.W.nsIn K mainGlobals "stretch_moved" = some (some (.ref f10))) (l10 : K.lookup f10 = some ⟨oc10, od10, .func (PySem.W.fnOf "stretch_moved" "stretch_moved" (defArgs s_stretch_moved) (defBody s_stretch_moved) (defScope s_stretch_moved) .none kV10 dc10 pm10 an10 cd10 ct10), sl10⟩) (c10 : PySem.W.codeIn K cd10 "stretch_moved" = true) (k10 : PySem.W.keepIn K (.ref f10) = true)
  {od11 an11 : Option Addr} {sl11 : Array (Option Value)} {oc11 kV11 dc11 pm11 cd11 ct11 : Value}
  (a11 : PySem.W.nsIn K mainGlobals "divisor_and_factor" = some (some (.ref f11))) (l11 : K.lookup f11 = some ⟨oc11, od11, .func (PySem.W.fnOf "divisor_and_factor" "divisor_and_factor" (defArgs s_divisor_and_factor) (defBody s_divisor_and_factor) (defScope s_divisor_and_factor) .none kV11 dc11 pm11 an11 cd11 ct11), sl11⟩) (c11 : PySem.W.codeIn K cd11 "divisor_and_factor" = true) (k11 : PySem.W.keepIn K (.ref f11) = true)
  {od12 an12 : Option Addr} {sl12 : Array (Option Value)} {oc12 kV12 dc12 pm12 cd12 ct12 : Value}
  (a12 : PySem.W.nsIn K mainGlobals "stretch_back" = some (some (.ref f12))) (l12 : K.lookup f12 = some ⟨oc12, od12, .func (PySem.W.fnOf "stretch_back" "stretch_back" (defArgs s_stretch_back) (defBody s_stretch_back) (defScope s_stretch_back) .none kV12 dc12 pm12 an12 cd12 ct12), sl12⟩) (c12 : PySem.W.codeIn K cd12 "stretch_back" = true) (k12 : PySem.W.keepIn K (.ref f12) = true)
  {od13 an13 : Option Addr} {sl13 : Array (Option Value)} {oc13 kV13 dc13 pm13 cd13 ct13 : Value}
  (a13 : PySem.W.nsIn K mainGlobals "stretch_meet" = some (some (.ref f13))) (l13 : K.lookup f13 = some ⟨oc13, od13, .func (PySem.W.fnOf "stretch_meet" "stretch_meet" (defArgs s_stretch_meet) (defBody s_stretch_meet) (defScope s_stretch_meet) .none kV13 dc13 pm13 an13 cd13 ct13), sl13⟩) (c13 : PySem.W.codeIn K cd13 "stretch_meet" = true) (k13 : PySem.W.keepIn K (.ref f13) = true)
  {od14 an14 : Option Addr} {sl14 : Array (Option Value)} {oc14 kV14 dc14 pm14 cd14 ct14 : Value}
  (a14 : PySem.W.nsIn K mainGlobals "stretch_inside" = some (some (.ref f14))) (l14 : K.lookup f14 = some ⟨oc14, od14, .func (PySem.W.fnOf "stretch_inside" "stretch_inside" (defArgs s_stretch_inside) (defBody s_stretch_inside) (defScope s_stretch_inside) .none kV14 dc14 pm14 an14 cd14 ct14), sl14⟩) (c14 : PySem.W.codeIn K cd14 "stretch_inside" = true) (k14 : PySem.W.keepIn K (.ref f14) = true)
  {od15 an15 : Option Addr} {sl15 : Array (Option Value)} {oc15 kV15 dc15 pm15 cd15 ct15 : Value}
  (a15 : PySem.W.nsIn K mainGlobals "box_made" = some (some (.ref f15))) (l15 : K.lookup f15 = some ⟨oc15, od15, .func (PySem.W.fnOf "box_made" "box_made" (defArgs s_box_made) (defBody s_box_made) (defScope s_box_made) .none kV15 dc15 pm15 an15 cd15 ct15), sl15⟩) (c15 : PySem.W.codeIn K cd15 "box_made" = true) (k15 : PySem.W.keepIn K (.ref f15) = true)
  {od16 an16 : Option Addr} {sl16 : Array (Option Value)} {oc16 kV16 dc16 pm16 cd16 ct16 : Value}
  (a16 : PySem.W.nsIn K mainGlobals "box_has" = some (some (.ref f16))) (l16 : K.lookup f16 = some ⟨oc16, od16, .func (PySem.W.fnOf "box_has" "box_has" (defArgs s_box_has) (defBody s_box_has) (defScope s_box_has) .none kV16 dc16 pm16 an16 cd16 ct16), sl16⟩) (c16 : PySem.W.codeIn K cd16 "box_has" = true) (k16 : PySem.W.keepIn K (.ref f16) = true)
  {od17 an17 : Option Addr} {sl17 : Array (Option Value)} {oc17 kV17 dc17 pm17 cd17 ct17 : Value}
  (a17 : PySem.W.nsIn K mainGlobals "box_meet" = some (some (.ref f17))) (l17 : K.lookup f17 = some ⟨oc17, od17, .func (PySem.W.fnOf "box_meet" "box_meet" (defArgs s_box_meet) (defBody s_box_meet) (defScope s_box_meet) .none kV17 dc17 pm17 an17 cd17 ct17), sl17⟩) (c17 : PySem.W.codeIn K cd17 "box_meet" = true) (k17 : PySem.W.keepIn K (.ref f17) = true)
  {od18 an18 : Option Addr} {sl18 : Array (Option Value)} {oc18 kV18 dc18 pm18 cd18 ct18 : Value}
  (a18 : PySem.W.nsIn K mainGlobals "box_inside" = some (some (.ref f18))) (l18 : K.lookup f18 = some ⟨oc18, od18, .func (PySem.W.fnOf "box_inside" "box_inside" (defArgs s_box_inside) (defBody s_box_inside) (defScope s_box_inside) .none kV18 dc18 pm18 an18 cd18 ct18), sl18⟩) (c18 : PySem.W.codeIn K cd18 "box_inside" = true) (k18 : PySem.W.keepIn K (.ref f18) = true)
  {od19 an19 : Option Addr} {sl19 : Array (Option Value)} {oc19 kV19 dc19 pm19 cd19 ct19 : Value}
  (a19 : PySem.W.nsIn K mainGlobals "_law_cell_at" = some (some (.ref f19))) (l19 : K.lookup f19 = some ⟨oc19, od19, .func (PySem.W.fnOf "_law_cell_at" "_law_cell_at" (defArgs s_law_cell_at) (defBody s_law_cell_at) (defScope s_law_cell_at) .none kV19 dc19 pm19 an19 cd19 ct19), sl19⟩) (c19 : PySem.W.codeIn K cd19 "_law_cell_at" = true) (k19 : PySem.W.keepIn K (.ref f19) = true)
  {od20 an20 : Option Addr} {sl20 : Array (Option Value)} {oc20 kV20 dc20 pm20 cd20 ct20 : Value}
  (a20 : PySem.W.nsIn K mainGlobals "_law_mixed" = some (some (.ref f20))) (l20 : K.lookup f20 = some ⟨oc20, od20, .func (PySem.W.fnOf "_law_mixed" "_law_mixed" (defArgs s_law_mixed) (defBody s_law_mixed) (defScope s_law_mixed) .none kV20 dc20 pm20 an20 cd20 ct20), sl20⟩) (c20 : PySem.W.codeIn K cd20 "_law_mixed" = true) (k20 : PySem.W.keepIn K (.ref f20) = true)
  {od21 an21 : Option Addr} {sl21 : Array (Option Value)} {oc21 kV21 dc21 pm21 cd21 ct21 : Value}
  (a21 : PySem.W.nsIn K mainGlobals "_law_draws" = some (some (.ref f21))) (l21 : K.lookup f21 = some ⟨oc21, od21, .func (PySem.W.fnOf "_law_draws" "_law_draws" (defArgs s_law_draws) (defBody s_law_draws) (defScope s_law_draws) .none kV21 dc21 pm21 an21 cd21 ct21), sl21⟩) (c21 : PySem.W.codeIn K cd21 "_law_draws" = true) (k21 : PySem.W.keepIn K (.ref f21) = true)
  {od22 an22 : Option Addr} {sl22 : Array (Option Value)} {oc22 kV22 dc22 pm22 cd22 ct22 : Value}
  (a22 : PySem.W.nsIn K mainGlobals "_law_next" = some (some (.ref f22))) (l22 : K.lookup f22 = some ⟨oc22, od22, .func (PySem.W.fnOf "_law_next" "_law_next" (defArgs s_law_next) (defBody s_law_next) (defScope s_law_next) .none kV22 dc22 pm22 an22 cd22 ct22), sl22⟩) (c22 : PySem.W.codeIn K cd22 "_law_next" = true) (k22 : PySem.W.keepIn K (.ref f22) = true)
  {od23 an23 : Option Addr} {sl23 : Array (Option Value)} {oc23 kV23 dc23 pm23 cd23 ct23 : Value}
  (a23 : PySem.W.nsIn K mainGlobals "_law_pool" = some (some (.ref f23))) (l23 : K.lookup f23 = some ⟨oc23, od23, .func (PySem.W.fnOf "_law_pool" "_law_pool" (defArgs s_law_pool) (defBody s_law_pool) (defScope s_law_pool) .none kV23 dc23 pm23 an23 cd23 ct23), sl23⟩) (c23 : PySem.W.codeIn K cd23 "_law_pool" = true) (k23 : PySem.W.keepIn K (.ref f23) = true)
  {od24 an24 : Option Addr} {sl24 : Array (Option Value)} {oc24 kV24 dc24 pm24 cd24 ct24 : Value}
  (a24 : PySem.W.nsIn K mainGlobals "_law_keys" = some (some (.ref f24))) (l24 : K.lookup f24 = some ⟨oc24, od24, .func (PySem.W.fnOf "_law_keys" "_law_keys" (defArgs s_law_keys) (defBody s_law_keys) (defScope s_law_keys) .none kV24 dc24 pm24 an24 cd24 ct24), sl24⟩) (c24 : PySem.W.codeIn K cd24 "_law_keys" = true) (k24 : PySem.W.keepIn K (.ref f24) = true)
  {od25 an25 : Option Addr} {sl25 : Array (Option Value)} {oc25 kV25 dc25 pm25 cd25 ct25 : Value}
  (a25 : PySem.W.nsIn K mainGlobals "_law_in" = some (some (.ref f25))) (l25 : K.lookup f25 = some ⟨oc25, od25, .func (PySem.W.fnOf "_law_in" "_law_in" (defArgs s_law_in) (defBody s_law_in) (defScope s_law_in) .none kV25 dc25 pm25 an25 cd25 ct25), sl25⟩) (c25 : PySem.W.codeIn K cd25 "_law_in" = true) (k25 : PySem.W.keepIn K (.ref f25) = true)
  {od26 an26 : Option Addr} {sl26 : Array (Option Value)} {oc26 kV26 dc26 pm26 cd26 ct26 : Value}
  (a26 : PySem.W.nsIn K mainGlobals "_law_great" = some (some (.ref f26))) (l26 : K.lookup f26 = some ⟨oc26, od26, .func (PySem.W.fnOf "_law_great" "_law_great" (defArgs s_law_great) (defBody s_law_great) (defScope s_law_great) .none kV26 dc26 pm26 an26 cd26 ct26), sl26⟩) (c26 : PySem.W.codeIn K cd26 "_law_great" = true) (k26 : PySem.W.keepIn K (.ref f26) = true)
  {od27 an27 : Option Addr} {sl27 : Array (Option Value)} {oc27 kV27 dc27 pm27 cd27 ct27 : Value}
  (a27 : PySem.W.nsIn K mainGlobals "_law_stretch" = some (some (.ref f27))) (l27 : K.lookup f27 = some ⟨oc27, od27, .func (PySem.W.fnOf "_law_stretch" "_law_stretch" (defArgs s_law_stretch) (defBody s_law_stretch) (defScope s_law_stretch) .none kV27 dc27 pm27 an27 cd27 ct27), sl27⟩) (c27 : PySem.W.codeIn K cd27 "_law_stretch" = true) (k27 : PySem.W.keepIn K (.ref f27) = true)
  {od28 an28 : Option Addr} {sl28 : Array (Option Value)} {oc28 kV28 dc28 pm28 cd28 ct28 : Value}
  (a28 : PySem.W.nsIn K mainGlobals "_law_time" = some (some (.ref f28))) (l28 : K.lookup f28 = some ⟨oc28, od28, .func (PySem.W.fnOf "_law_time" "_law_time" (defArgs s_law_time) (defBody s_law_time) (defScope s_law_time) .none kV28 dc28 pm28 an28 cd28 ct28), sl28⟩) (c28 : PySem.W.codeIn K cd28 "_law_time" = true) (k28 : PySem.W.keepIn K (.ref f28) = true)
  {od29 an29 : Option Addr} {sl29 : Array (Option Value)} {oc29 kV29 dc29 pm29 cd29 ct29 : Value}
  (a29 : PySem.W.nsIn K mainGlobals "_law_box" = some (some (.ref f29))) (l29 : K.lookup f29 = some ⟨oc29, od29, .func (PySem.W.fnOf "_law_box" "_law_box" (defArgs s_law_box) (defBody s_law_box) (defScope s_law_box) .none kV29 dc29 pm29 an29 cd29 ct29), sl29⟩) (c29 : PySem.W.codeIn K cd29 "_law_box" = true) (k29 : PySem.W.keepIn K (.ref f29) = true)
  {od30 an30 : Option Addr} {sl30 : Array (Option Value)} {oc30 kV30 dc30 pm30 cd30 ct30 : Value}
  (a30 : PySem.W.nsIn K mainGlobals "_law_value_in" = some (some (.ref f30))) (l30 : K.lookup f30 = some ⟨oc30, od30, .func (PySem.W.fnOf "_law_value_in" "_law_value_in" (defArgs s_law_value_in) (defBody s_law_value_in) (defScope s_law_value_in) .none kV30 dc30 pm30 an30 cd30 ct30), sl30⟩) (c30 : PySem.W.codeIn K cd30 "_law_value_in" = true) (k30 : PySem.W.keepIn K (.ref f30) = true)
  {od31 an31 : Option Addr} {sl31 : Array (Option Value)} {oc31 kV31 dc31 pm31 cd31 ct31 : Value}
  (a31 : PySem.W.nsIn K mainGlobals "_law_has" = some (some (.ref f31))) (l31 : K.lookup f31 = some ⟨oc31, od31, .func (PySem.W.fnOf "_law_has" "_law_has" (defArgs s_law_has) (defBody s_law_has) (defScope s_law_has) .none kV31 dc31 pm31 an31 cd31 ct31), sl31⟩) (c31 : PySem.W.codeIn K cd31 "_law_has" = true) (k31 : PySem.W.keepIn K (.ref f31) = true)
  {od32 an32 : Option Addr} {sl32 : Array (Option Value)} {oc32 kV32 dc32 pm32 cd32 ct32 : Value}
  (a32 : PySem.W.nsIn K mainGlobals "_law_near" = some (some (.ref f32))) (l32 : K.lookup f32 = some ⟨oc32, od32, .func (PySem.W.fnOf "_law_near" "_law_near" (defArgs s_law_near) (defBody s_law_near) (defScope s_law_near) .none kV32 dc32 pm32 an32 cd32 ct32), sl32⟩) (c32 : PySem.W.codeIn K cd32 "_law_near" = true) (k32 : PySem.W.keepIn K (.ref f32) = true)
  {od33 an33 : Option Addr} {sl33 : Array (Option Value)} {oc33 kV33 dc33 pm33 cd33 ct33 : Value}
  (a33 : PySem.W.nsIn K mainGlobals "_law_made_right" = some (some (.ref f33))) (l33 : K.lookup f33 = some ⟨oc33, od33, .func (PySem.W.fnOf "_law_made_right" "_law_made_right" (defArgs s_law_made_right) (defBody s_law_made_right) (defScope s_law_made_right) .none kV33 dc33 pm33 an33 cd33 ct33), sl33⟩) (c33 : PySem.W.codeIn K cd33 "_law_made_right" = true) (k33 : PySem.W.keepIn K (.ref f33) = true)
  {od34 an34 : Option Addr} {sl34 : Array (Option Value)} {oc34 kV34 dc34 pm34 cd34 ct34 : Value}
  (a34 : PySem.W.nsIn K mainGlobals "_law_inside_due" = some (some (.ref f34))) (l34 : K.lookup f34 = some ⟨oc34, od34, .func (PySem.W.fnOf "_law_inside_due" "_law_inside_due" (defArgs s_law_inside_due) (defBody s_law_inside_due) (defScope s_law_inside_due) .none kV34 dc34 pm34 an34 cd34 ct34), sl34⟩) (c34 : PySem.W.codeIn K cd34 "_law_inside_due" = true) (k34 : PySem.W.keepIn K (.ref f34) = true)
  {od35 an35 : Option Addr} {sl35 : Array (Option Value)} {oc35 kV35 dc35 pm35 cd35 ct35 : Value}
  (a35 : PySem.W.nsIn K mainGlobals "law" = some (some (.ref f35))) (l35 : K.lookup f35 = some ⟨oc35, od35, .func (PySem.W.fnOf "law" "law" (defArgs s_law) (defBody s_law) (defScope s_law) .none kV35 dc35 pm35 an35 cd35 ct35), sl35⟩) (c35 : PySem.W.codeIn K cd35 "law" = true) (k35 : PySem.W.keepIn K (.ref f35) = true)
  {tec12 : _} {tec13 : _} {ec1 : Addr} {nec1 : Nat} {slec1 : Array (Option Value)} (lec1 : K.lookup ec1 = some ⟨.type "tuple", none, .seq #[.none, .none, .int 1 tec12, .int 0 tec13] nec1, slec1⟩) (y1 : PySem.W.nsIn K mainGlobals "EVERY_VALUE" = some (some (.ref ec1)))
  (z1 : PySem.W.nsIn K mainGlobals "abs" = some none) (z2 : PySem.W.nsIn K mainGlobals "len" = some none) (z3 : PySem.W.nsIn K mainGlobals "max" = some none) (z4 : PySem.W.nsIn K mainGlobals "min" = some none) (z5 : PySem.W.nsIn K mainGlobals "any" = some none) (z6 : PySem.W.nsIn K mainGlobals "all" = some none) (z7 : PySem.W.nsIn K mainGlobals "range" = some none) (z8 : PySem.W.nsIn K mainGlobals "isinstance" = some none) (z9 : PySem.W.nsIn K mainGlobals "int" = some none) (z10 : PySem.W.nsIn K mainGlobals "bool" = some none) (z11 : PySem.W.nsIn K mainGlobals "str" = some none) (z12 : PySem.W.nsIn K mainGlobals "tuple" = some none) (z13 : PySem.W.nsIn K mainGlobals "list" = some none) (z14 : PySem.W.nsIn K mainGlobals "sorted" = some none) (z15 : PySem.W.nsIn K mainGlobals "dict" = some none) (z16 : PySem.W.nsIn K mainGlobals "set" = some none) :
  ∃ fd : FuncData, (∀ (s : Shared) (v : Value), BindsTo s fd ⟨[v], []⟩ [("_law_script", v)]) ∧ ∀ base : Heap, K.In base → base.Ns mainGlobals mg → FnOk l.prog w K mg base CX0 7 fa fd ["_law_script"] (spP K m_law) := by
 have e := hfa.symm.trans (PySem.W.mg_of X G a35)
 cases e
 have T : Blt K mg := ⟨PySem.W.mg_none_of X G z1, PySem.W.mg_none_of X G z2, PySem.W.mg_none_of X G z3, PySem.W.mg_none_of X G z4, PySem.W.mg_none_of X G z5, PySem.W.mg_none_of X G z6, PySem.W.mg_none_of X G z7, PySem.W.mg_none_of X G z8, PySem.W.mg_none_of X G z9, PySem.W.mg_none_of X G z10, PySem.W.mg_none_of X G z11, PySem.W.mg_none_of X G z12, PySem.W.mg_none_of X G z13, PySem.W.mg_none_of X G z14, PySem.W.mg_none_of X G z15, PySem.W.mg_none_of X G z16, ⟨_, PySem.W.mg_of X G y1, (k1_tup lec1 (by simp) (kvs_cons k1_non (kvs_cons k1_non (kvs_cons k1_int (kvs_cons k1_int kvs_nil)))))⟩⟩
 have F1 := fun_mk (st := s_keys_hold) l1 c1 k1
 have b1 := F1.binds (ps := ["keys", "key"]) fun _ _ _ _ _ _ => us2 fun _ _ => rfl
 have F2 := fun_mk (st := s_keys_meet) l2 c2 k2
 have b2 := F2.binds (ps := ["one", "other"]) fun _ _ _ _ _ _ => us2 fun _ _ => rfl
 have F3 := fun_mk (st := s_keys_inside) l3 c3 k3
 have b3 := F3.binds (ps := ["one", "other"]) fun _ _ _ _ _ _ => us2 fun _ _ => rfl
 have F4 := fun_mk (st := s_stretch_made) l4 c4 k4
 have b4 := F4.binds (ps := ["low", "high", "step", "rest"]) fun _ _ _ _ _ _ => us4 fun _ _ _ _ => rfl
 have F5 := fun_mk (st := s_is_between) l5 c5 k5
 have b5 := F5.binds (ps := ["v", "low", "high"]) fun _ _ _ _ _ _ => us3 fun _ _ _ => rfl
 have F6 := fun_mk (st := s_stretch_has) l6 c6 k6
 have b6 := F6.binds (ps := ["one", "v"]) fun _ _ _ _ _ _ => us2 fun _ _ => rfl
 have F7 := fun_mk (st := s_lower_bound) l7 c7 k7
 have b7 := F7.binds (ps := ["one", "other"]) fun _ _ _ _ _ _ => us2 fun _ _ => rfl
 have F8 := fun_mk (st := s_upper_bound) l8 c8 k8
 have b8 := F8.binds (ps := ["one", "other"]) fun _ _ _ _ _ _ => us2 fun _ _ => rfl
 have F9 := fun_mk (st := s_stretch_between) l9 c9 k9
 have b9 := F9.binds (ps := ["one", "low", "high"]) fun _ _ _ _ _ _ => us3 fun _ _ _ => rfl
 have F10 := fun_mk (st := s_stretch_moved) l10 c10 k10
 have b10 := F10.binds (ps := ["one", "a", "b"]) fun _ _ _ _ _ _ => us3 fun _ _ _ => rfl
 have F11 := fun_mk (st := s_divisor_and_factor) l11 c11 k11
 have b11 := F11.binds (ps := ["a", "m"]) fun _ _ _ _ _ _ => us2 fun _ _ => rfl
 have F12 := fun_mk (st := s_stretch_back) l12 c12 k12
 have b12 := F12.binds (ps := ["one", "a", "b"]) fun _ _ _ _ _ _ => us3 fun _ _ _ => rfl
 have F13 := fun_mk (st := s_stretch_meet) l13 c13 k13
 have b13 := F13.binds (ps := ["one", "other"]) fun _ _ _ _ _ _ => us2 fun _ _ => rfl
 have F14 := fun_mk (st := s_stretch_inside) l14 c14 k14
 have b14 := F14.binds (ps := ["one", "other"]) fun _ _ _ _ _ _ => us2 fun _ _ => rfl
 have F15 := fun_mk (st := s_box_made) l15 c15 k15
 have b15 := F15.binds (ps := ["keys", "begin", "end", "stretch"]) fun _ _ _ _ _ _ => us4 fun _ _ _ _ => rfl
 have F16 := fun_mk (st := s_box_has) l16 c16 k16
 have b16 := F16.binds (ps := ["box", "thing"]) fun _ _ _ _ _ _ => us2 fun _ _ => rfl
 have F17 := fun_mk (st := s_box_meet) l17 c17 k17
 have b17 := F17.binds (ps := ["one", "other"]) fun _ _ _ _ _ _ => us2 fun _ _ => rfl
 have F18 := fun_mk (st := s_box_inside) l18 c18 k18
 have b18 := F18.binds (ps := ["one", "other"]) fun _ _ _ _ _ _ => us2 fun _ _ => rfl
 have F19 := fun_mk (st := s_law_cell_at) l19 c19 k19
 have b19 := F19.binds (ps := ["_law_script", "_law_k"]) fun _ _ _ _ _ _ => us2 fun _ _ => rfl
 have F20 := fun_mk (st := s_law_mixed) l20 c20 k20
 have b20 := F20.binds (ps := ["_law_cell", "_law_k"]) fun _ _ _ _ _ _ => us2 fun _ _ => rfl
 have F21 := fun_mk (st := s_law_draws) l21 c21 k21
 have b21 := F21.binds (ps := ["_law_script"]) fun _ _ _ _ _ _ => us1 fun _ => rfl
 have F22 := fun_mk (st := s_law_next) l22 c22 k22
 have b22 := F22.binds (ps := ["_law_draws_here"]) fun _ _ _ _ _ _ => us1 fun _ => rfl
 have F23 := fun_mk (st := s_law_pool) l23 c23 k23
 have b23 := F23.binds (ps := ["_law_draws_here"]) fun _ _ _ _ _ _ => us1 fun _ => rfl
 have F24 := fun_mk (st := s_law_keys) l24 c24 k24
 have b24 := F24.binds (ps := ["_law_draws_here", "_law_pool_here"]) fun _ _ _ _ _ _ => us2 fun _ _ => rfl
 have F25 := fun_mk (st := s_law_in) l25 c25 k25
 have b25 := F25.binds (ps := ["_law_keys_here", "_law_key"]) fun _ _ _ _ _ _ => us2 fun _ _ => rfl
 have F26 := fun_mk (st := s_law_great) l26 c26 k26
 have b26 := F26.binds (ps := ["_law_draws_here"]) fun _ _ _ _ _ _ => us1 fun _ => rfl
 have F27 := fun_mk (st := s_law_stretch) l27 c27 k27
 have b27 := F27.binds (ps := ["_law_draws_here"]) fun _ _ _ _ _ _ => us1 fun _ => rfl
 have F28 := fun_mk (st := s_law_time) l28 c28 k28
 have b28 := F28.binds (ps := ["_law_draws_here"]) fun _ _ _ _ _ _ => us1 fun _ => rfl
 have F29 := fun_mk (st := s_law_box) l29 c29 k29
 have b29 := F29.binds (ps := ["_law_draws_here", "_law_pool_here"]) fun _ _ _ _ _ _ => us2 fun _ _ => rfl
 have F30 := fun_mk (st := s_law_value_in) l30 c30 k30
 have b30 := F30.binds (ps := ["_law_stretch_here", "_law_value"]) fun _ _ _ _ _ _ => us2 fun _ _ => rfl
 have F31 := fun_mk (st := s_law_has) l31 c31 k31
 have b31 := F31.binds (ps := ["_law_box_here", "_law_thing"]) fun _ _ _ _ _ _ => us2 fun _ _ => rfl
 have F32 := fun_mk (st := s_law_near) l32 c32 k32
 have b32 := F32.binds (ps := ["_law_draws_here", "_law_box_here", "_law_pool_here"]) fun _ _ _ _ _ _ => us3 fun _ _ _ => rfl
 have F33 := fun_mk (st := s_law_made_right) l33 c33 k33
 have b33 := F33.binds (ps := ["_law_box_here", "_law_draws_here"]) fun _ _ _ _ _ _ => us2 fun _ _ => rfl
 have F34 := fun_mk (st := s_law_inside_due) l34 c34 k34
 have b34 := F34.binds (ps := ["_law_one", "_law_other"]) fun _ _ _ _ _ _ => us2 fun _ _ => rfl
 have F35 := fun_mk (st := s_law) l35 c35 k35
 have b35 := F35.binds (ps := ["_law_script"]) fun _ _ _ _ _ _ => us1 fun _ => rfl
 refine ⟨PySem.W.fnOf "law" "law" (defArgs s_law) (defBody s_law) (defScope s_law) .none kV35 dc35 pm35 an35 cd35 ct35, fun s v => .of_eq rfl, fun base _ _ => ?_⟩
 have G1 : DefOk l.prog w K mg base 1 "keys_hold" m_keys_hold := ok_keys_hold F1 b1 (PySem.W.mg_of X G a1) T
 have G4 : DefOk l.prog w K mg base 1 "stretch_made" m_stretch_made := ok_stretch_made F4 b4 (PySem.W.mg_of X G a4) T
 have G5 : DefOk l.prog w K mg base 1 "is_between" m_is_between := ok_is_between F5 b5 (PySem.W.mg_of X G a5) T
 have G7 : DefOk l.prog w K mg base 1 "lower_bound" m_lower_bound := ok_lower_bound F7 b7 (PySem.W.mg_of X G a7) T
 have G8 : DefOk l.prog w K mg base 1 "upper_bound" m_upper_bound := ok_upper_bound F8 b8 (PySem.W.mg_of X G a8) T
 have G11 : DefOk l.prog w K mg base 1 "divisor_and_factor" m_divisor_and_factor := ok_divisor_and_factor F11 b11 (PySem.W.mg_of X G a11) T
 have G15 : DefOk l.prog w K mg base 1 "box_made" m_box_made := ok_box_made F15 b15 (PySem.W.mg_of X G a15) T
 have G19 : DefOk l.prog w K mg base 1 "_law_cell_at" m_law_cell_at := ok_law_cell_at F19 b19 (PySem.W.mg_of X G a19) T
 have G20 : DefOk l.prog w K mg base 1 "_law_mixed" m_law_mixed := ok_law_mixed F20 b20 (PySem.W.mg_of X G a20) T
 have G25 : DefOk l.prog w K mg base 1 "_law_in" m_law_in := ok_law_in F25 b25 (PySem.W.mg_of X G a25) T
 have G30 : DefOk l.prog w K mg base 1 "_law_value_in" m_law_value_in := ok_law_value_in F30 b30 (PySem.W.mg_of X G a30) T
 have G6 : DefOk l.prog w K mg base 2 "stretch_has" m_stretch_has := ok_stretch_has F6 b6 (PySem.W.mg_of X G a6) T G5
 have G9 : DefOk l.prog w K mg base 2 "stretch_between" m_stretch_between := ok_stretch_between F9 b9 (PySem.W.mg_of X G a9) T G7 G4 G8
 have G10 : DefOk l.prog w K mg base 2 "stretch_moved" m_stretch_moved := ok_stretch_moved F10 b10 (PySem.W.mg_of X G a10) T G4
 have G12 : DefOk l.prog w K mg base 2 "stretch_back" m_stretch_back := ok_stretch_back F12 b12 (PySem.W.mg_of X G a12) T G11 G4
 have G21 : DefN l.prog w K mg base 2 "_law_draws" m_law_draws := ok_law_draws F21 b21 (PySem.W.mg_of X G a21) T G19
 have G22 : DefB l.prog w K mg base 2 "_law_next" m_law_next := ok_law_next F22 b22 (PySem.W.mg_of X G a22) T G19 G20
 have G31 : DefOk l.prog w K mg base 2 "_law_has" m_law_has := ok_law_has F31 b31 (PySem.W.mg_of X G a31) T G25 G30
 have G13 : DefOk l.prog w K mg base 3 "stretch_meet" m_stretch_meet := ok_stretch_meet F13 b13 (PySem.W.mg_of X G a13) T G12 G9 G10
 have G16 : DefOk l.prog w K mg base 3 "box_has" m_box_has := ok_box_has F16 b16 (PySem.W.mg_of X G a16) T G1 G6
 have G23 : DefB l.prog w K mg base 3 "_law_pool" m_law_pool := ok_law_pool F23 b23 (PySem.W.mg_of X G a23) T G22
 have G24 : DefB l.prog w K mg base 3 "_law_keys" m_law_keys := ok_law_keys F24 b24 (PySem.W.mg_of X G a24) T G22
 have G26 : DefB l.prog w K mg base 3 "_law_great" m_law_great := ok_law_great F26 b26 (PySem.W.mg_of X G a26) T G22
 have G28 : DefB l.prog w K mg base 3 "_law_time" m_law_time := ok_law_time F28 b28 (PySem.W.mg_of X G a28) T G22
 have G32 : DefB l.prog w K mg base 3 "_law_near" m_law_near := ok_law_near F32 b32 (PySem.W.mg_of X G a32) T G22
 have G33 : DefC l.prog w K mg base 3 "_law_made_right" m_law_made_right := ok_law_made_right F33 b33 (PySem.W.mg_of X G a33) T G22 G15
 have G2 : DefOk l.prog w K mg base 4 "keys_meet" m_keys_meet := ok_keys_meet F2 b2 (PySem.W.mg_of X G a2) T G1
 have G14 : DefOk l.prog w K mg base 4 "stretch_inside" m_stretch_inside := ok_stretch_inside F14 b14 (PySem.W.mg_of X G a14) T G13
 have G27 : DefB l.prog w K mg base 4 "_law_stretch" m_law_stretch := ok_law_stretch F27 b27 (PySem.W.mg_of X G a27) T G26 G22 G4
 have G3 : DefOk l.prog w K mg base 5 "keys_inside" m_keys_inside := ok_keys_inside F3 b3 (PySem.W.mg_of X G a3) T G2
 have G17 : DefOk l.prog w K mg base 5 "box_meet" m_box_meet := ok_box_meet F17 b17 (PySem.W.mg_of X G a17) T G15 G2 G13 G8
 have G29 : DefB l.prog w K mg base 5 "_law_box" m_law_box := ok_law_box F29 b29 (PySem.W.mg_of X G a29) T G24 G22 G27 G28 G15
 have G18 : DefOk l.prog w K mg base 6 "box_inside" m_box_inside := ok_box_inside F18 b18 (PySem.W.mg_of X G a18) T G3 G14 G8
 have G34 : DefOk l.prog w K mg base 6 "_law_inside_due" m_law_inside_due := ok_law_inside_due F34 b34 (PySem.W.mg_of X G a34) T G3 G14
 exact fn_law F35 T G29 G21 G31 G34 G33 G32 G23 G16 G18 G17 G2 G13
theorem walk {l : PySem.W.OpenLaw} {q : Program} {loose : List Str} {XP : (Str -> Option Value) -> Heap -> Prop} {YP : World -> Heap -> Prop} {d : DefRec} {K : Params -> PySem.W.Frag} (hn : l.most = some 63) (hdf : d.params.defaults = [])
  (hY : ∀ (w : World) (h : Heap), YP w h -> (K w.params).In h)
  (F : ∀ (w : World) (mg : Str -> Option Value) (fa : Addr) (h : Heap), (K w.params).In h -> h.Ns mainGlobals mg -> mg d.name = some (.ref fa) ->
   ∃ fd : FuncData, (∀ (s : Shared) (u : Value), BindsTo s fd ⟨[u], []⟩ [("_law_script", u)]) ∧ ∀ base : Heap, (K w.params).In base → base.Ns mainGlobals mg → FnOk l.prog w (K w.params) mg base CX0 7 fa fd ["_law_script"] (spP (K w.params) m_law)) :
  PySem.W.WalkO q loose XP YP l.row.toRowW d [] (fun f vs => PySem.call f vs) :=
 L2.walk_of (n := 63) (k := 7) (x := "_law_script") (CX := fun _ => CX0) (sp := fun w => spP (K w.params) m_law) hn (by decide) hdf ⟨rfl, by decide, by decide⟩ hY F
  (fun w H a ns hl _ hS => ⟨H, [.lst (ns.map .int)], .bl true, Same.refl _, Reps.one (by unfold Rep; exact ⟨a, _, rfl, hS, reps_ints ns⟩), law_true ns hl, fun v Hi' H' S r => by unfold Rep at r; exact r⟩) fun _ _ _ _ _ z => z
end Fx
open PySem PySem.W PyProof.Rows
set_option maxRecDepth 100000 in
set_option maxHeartbeats 0 in
theorem PySem.Challenge.cw_latewell_k14_boxes_of_things_holds : PySem.Challenge.rw_latewell_k14_boxes_of_things.Holds := by
 w_on; o_law; k_head; (case hw => w_witness2)
 k_fill
 refine Fx.walk (l := PySem.Challenge.rw_latewell_k14_boxes_of_things) rfl rfl (fun w h Y => PySem.W.kIn_of Y) ?F
 case F =>
  intro w mg fa h KX G hmg
  refine' Fx.all_mk KX G hmg ?a1 ?l1 ?c1 ?k1 ?a2 ?l2 ?c2 ?k2 ?a3 ?l3 ?c3 ?k3 ?a4 ?l4 ?c4 ?k4 ?a5 ?l5 ?c5 ?k5 ?a6 ?l6 ?c6 ?k6 ?a7 ?l7 ?c7 ?k7 ?a8 ?l8 ?c8 ?k8 ?a9 ?l9 ?c9 ?k9 ?a10 ?l10 ?c10 ?k10 ?a11 ?l11 ?c11 ?k11 ?a12 ?l12 ?c12 ?k12 ?a13 ?l13 ?c13 ?k13 ?a14 ?l14 ?c14 ?k14 ?a15 ?l15 ?c15 ?k15 ?a16 ?l16 ?c16 ?k16 ?a17 ?l17 ?c17 ?k17 ?a18 ?l18 ?c18 ?k18 ?a19 ?l19 ?c19 ?k19 ?a20 ?l20 ?c20 ?k20 ?a21 ?l21 ?c21 ?k21 ?a22 ?l22 ?c22 ?k22 ?a23 ?l23 ?c23 ?k23 ?a24 ?l24 ?c24 ?k24 ?a25 ?l25 ?c25 ?k25 ?a26 ?l26 ?c26 ?k26 ?a27 ?l27 ?c27 ?k27 ?a28 ?l28 ?c28 ?k28 ?a29 ?l29 ?c29 ?k29 ?a30 ?l30 ?c30 ?k30 ?a31 ?l31 ?c31 ?k31 ?a32 ?l32 ?c32 ?k32 ?a33 ?l33 ?c33 ?k33 ?a34 ?l34 ?c34 ?k34 ?a35 ?l35 ?c35 ?k35 ?lec1 ?y1 ?z1 ?z2 ?z3 ?z4 ?z5 ?z6 ?z7 ?z8 ?z9 ?z10 ?z11 ?z12 ?z13 ?z14 ?z15 ?z16
  (case a1 => k_is)
  (case l1 => k_is)
  (case c1 => k_is)
  (case k1 => k_is)
  (case a2 => k_is)
  (case l2 => k_is)
  (case c2 => k_is)
  (case k2 => k_is)
  (case a3 => k_is)
  (case l3 => k_is)
  (case c3 => k_is)
  (case k3 => k_is)
  (case a4 => k_is)
  (case l4 => k_is)
  (case c4 => k_is)
  (case k4 => k_is)
  (case a5 => k_is)
  (case l5 => k_is)
  (case c5 => k_is)
  (case k5 => k_is)
  (case a6 => k_is)
  (case l6 => k_is)
  (case c6 => k_is)
  (case k6 => k_is)
  (case a7 => k_is)
  (case l7 => k_is)
  (case c7 => k_is)
  (case k7 => k_is)
  (case a8 => k_is)
  (case l8 => k_is)
  (case c8 => k_is)
  (case k8 => k_is)
  (case a9 => k_is)
  (case l9 => k_is)
  (case c9 => k_is)
  (case k9 => k_is)
  (case a10 => k_is)
  (case l10 => k_is)
  (case c10 => k_is)
  (case k10 => k_is)
  (case a11 => k_is)
  (case l11 => k_is)
  (case c11 => k_is)
  (case k11 => k_is)
  (case a12 => k_is)
  (case l12 => k_is)
  (case c12 => k_is)
  (case k12 => k_is)
  (case a13 => k_is)
  (case l13 => k_is)
  (case c13 => k_is)
  (case k13 => k_is)
  (case a14 => k_is)
  (case l14 => k_is)
  (case c14 => k_is)
  (case k14 => k_is)
  (case a15 => k_is)
  (case l15 => k_is)
  (case c15 => k_is)
  (case k15 => k_is)
  (case a16 => k_is)
  (case l16 => k_is)
  (case c16 => k_is)
  (case k16 => k_is)
  (case a17 => k_is)
  (case l17 => k_is)
  (case c17 => k_is)
  (case k17 => k_is)
  (case a18 => k_is)
  (case l18 => k_is)
  (case c18 => k_is)
  (case k18 => k_is)
  (case a19 => k_is)
  (case l19 => k_is)
  (case c19 => k_is)
  (case k19 => k_is)
  (case a20 => k_is)
  (case l20 => k_is)
  (case c20 => k_is)
  (case k20 => k_is)
  (case a21 => k_is)
  (case l21 => k_is)
  (case c21 => k_is)
  (case k21 => k_is)
  (case a22 => k_is)
  (case l22 => k_is)
  (case c22 => k_is)
  (case k22 => k_is)
  (case a23 => k_is)
  (case l23 => k_is)
  (case c23 => k_is)
  (case k23 => k_is)
  (case a24 => k_is)
  (case l24 => k_is)
  (case c24 => k_is)
  (case k24 => k_is)
  (case a25 => k_is)
  (case l25 => k_is)
  (case c25 => k_is)
  (case k25 => k_is)
  (case a26 => k_is)
  (case l26 => k_is)
  (case c26 => k_is)
  (case k26 => k_is)
  (case a27 => k_is)
  (case l27 => k_is)
  (case c27 => k_is)
  (case k27 => k_is)
  (case a28 => k_is)
  (case l28 => k_is)
  (case c28 => k_is)
  (case k28 => k_is)
  (case a29 => k_is)
  (case l29 => k_is)
  (case c29 => k_is)
  (case k29 => k_is)
  (case a30 => k_is)
  (case l30 => k_is)
  (case c30 => k_is)
  (case k30 => k_is)
  (case a31 => k_is)
  (case l31 => k_is)
  (case c31 => k_is)
  (case k31 => k_is)
  (case a32 => k_is)
  (case l32 => k_is)
  (case c32 => k_is)
  (case k32 => k_is)
  (case a33 => k_is)
  (case l33 => k_is)
  (case c33 => k_is)
  (case k33 => k_is)
  (case a34 => k_is)
  (case l34 => k_is)
  (case c34 => k_is)
  (case k34 => k_is)
  (case a35 => k_is)
  (case l35 => k_is)
  (case c35 => k_is)
  (case k35 => k_is)
  (case y1 => k_is)
  (case lec1 => k_is)
  (case z1 => k_is)
  (case z2 => k_is)
  (case z3 => k_is)
  (case z4 => k_is)
  (case z5 => k_is)
  (case z6 => k_is)
  (case z7 => k_is)
  (case z8 => k_is)
  (case z9 => k_is)
  (case z10 => k_is)
  (case z11 => k_is)
  (case z12 => k_is)
  (case z13 => k_is)
  (case z14 => k_is)
  (case z15 => k_is)
  (case z16 => k_is)
