import PyProof.Rows.All
import Wide.All
import OpenK.AllK
import Wide.FinOn
import Lean
import PyProof.EqAt
import PyProof.EqKinds
import PyProof.TupleCall
import PyProof.NeKinds
import PyProof.Rows.Range3
import KE.KDictOf
import KE.KMinBuiltin
import PyProof.Rows.CallKwBuiltin
import KE.KRevIter
import KE.KDictList
import PyProof.DictWalks
import KE.KSortTup
import KE.KDictSum
import PySem.Challenge.RW_toll_k52_bound_told_ahead
set_option Elab.async false
set_option linter.all false
set_option maxRecDepth 100000
set_option compiler.extract_closed false
set_option bootstrap.genMatcherCode false
namespace L2
open PySem PySem.Spec PyProof.Rows

/-- a key: an int or a str -/
noncomputable abbrev Key := Sum Int Str
noncomputable def keyIs : Key → Value → Bool
  | .inl k, v => Value.isInt k v
  | .inr x, v => Value.isStrOf x v
noncomputable def keyH (w : World) : Key → Int
  | .inl k => hashInt k
  | .inr x => hashStr w x
theorem keyIs_shape : ∀ {k : Key} {v : Value}, keyIs k v = true → (∃ i t, k = Sum.inl i ∧ v = Value.int i t) ∨ (∃ x t, k = Sum.inr x ∧ v = Value.str x t)
  | .inl i, v, h => by
    obtain ⟨t, e⟩ := Value.isInt_shape (k := i) (v := v) h
    exact .inl ⟨i, t, rfl, e⟩
  | .inr x, v, h => by
    obtain ⟨t, e⟩ := Value.isStrOf_shape (x := x) (v := v) h
    exact .inr ⟨x, t, rfl, e⟩
theorem keyIs_int (i : Int) (t : Tok) : keyIs (.inl i) (.int i t) = true := by simp [keyIs, Value.isInt]
theorem keyIs_str (x : Str) (t : Tok) : keyIs (.inr x) (.str x t) = true := by simp [keyIs, Value.isStrOf]
theorem key_ll (a b : Int) : decide ((Sum.inl a : Key) = Sum.inl b) = (a == b) := by
  by_cases e : a = b
  · subst e; simp
  · have h : ¬ (Sum.inl a : Key) = Sum.inl b := fun q => e (Sum.inl.inj q)
    rw [decide_eq_false h]
    exact (beq_eq_false_iff_ne.mpr e).symm
theorem key_rr (a b : Str) : decide ((Sum.inr a : Key) = Sum.inr b) = decide (a = b) := by
  by_cases e : a = b
  · subst e; simp
  · have h : ¬ (Sum.inr a : Key) = Sum.inr b := fun q => e (Sum.inr.inj q)
    rw [decide_eq_false h, decide_eq_false e]
theorem key_lr (a : Int) (b : Str) : decide ((Sum.inl a : Key) = Sum.inr b) = false := decide_eq_false (fun q => nomatch q)
theorem key_rl (a : Str) (b : Int) : decide ((Sum.inr a : Key) = Sum.inl b) = false := decide_eq_false (fun q => nomatch q)

noncomputable def mixKind (prog : Program) (w : World) : PySem.KeyKind prog w Key where
  is := keyIs
  hash := keyH w
  inj := fun v a b ha hb => by
    rcases keyIs_shape ha with ⟨i, t, rfl, rfl⟩ | ⟨x, t, rfl, rfl⟩
    · rcases keyIs_shape hb with ⟨j, u, rfl, e⟩ | ⟨y, u, rfl, e⟩
      · injection e with e1 _; rw [e1]
      · exact nomatch e
    · rcases keyIs_shape hb with ⟨j, u, rfl, e⟩ | ⟨y, u, rfl, e⟩
      · exact nomatch e
      · injection e with e1 _; rw [e1]
  byValue := fun k v h => by
    rcases keyIs_shape h with ⟨i, t, rfl, rfl⟩ | ⟨x, t, rfl, rfl⟩ <;> rfl
  pyHash := fun hv h => by
    rcases keyIs_shape hv with ⟨i, t, rfl, rfl⟩ | ⟨x, t, rfl, rfl⟩
    · exact wpAny_pyHash_int h
    · exact wpAny_pyHash_str h
  eqBool := fun hu hv h => by
    rcases keyIs_shape hu with ⟨i, t, rfl, rfl⟩ | ⟨x, t, rfl, rfl⟩
    · rcases keyIs_shape hv with ⟨j, u, rfl, rfl⟩ | ⟨y, u, rfl, rfl⟩
      · rw [key_ll] at h; exact wpAny_eqBool_int h
      · rw [key_lr] at h; exact SeqAt.EqAt.int_str i t y u _ _ _ _ h
    · rcases keyIs_shape hv with ⟨j, u, rfl, rfl⟩ | ⟨y, u, rfl, rfl⟩
      · rw [key_rl] at h; exact SeqAt.EqAt.str_int x t j u _ _ _ _ h
      · rw [key_rr] at h; exact wpAny_eqBool_str h
  «strs» := fun k x t v h => by
    rcases keyIs_shape h with ⟨i, u, rfl, e⟩ | ⟨y, u, rfl, e⟩
    · exact nomatch e
    · injection e with e1 _
      subst e1
      cases v <;> rfl

theorem mixKind_int (prog : Program) (w : World) (i : Int) (t : Tok) : (mixKind prog w).is (.inl i) (.int i t) = true := keyIs_int i t
theorem mixKind_str (prog : Program) (w : World) (x : Str) (t : Tok) : (mixKind prog w).is (.inr x) (.str x t) = true := keyIs_str x t
end L2

namespace L2
open PySem PySem.Spec PyProof.Rows

/-- a value, without the heap -/
inductive V where
  | non | bl (b : Bool) | int (i : Int) | str (x : Str) | byt (b : Array UInt8) | flt (b : UInt64) | ref (a : Addr) | ty (n : String)
  deriving DecidableEq

noncomputable def RelV : V → Value → Prop
  | .non, u => u = Value.none
  | .bl b, u => u = Value.bool b
  | .int i, u => ∃ t, u = Value.int i t
  | .str x, u => ∃ t, u = Value.str x t
  | .byt b, u => ∃ t, u = Value.bytes b t
  | .flt b, u => ∃ t, u = Value.float b t
  | .ref a, u => u = Value.ref a
  | .ty n, u => u = Value.type n

noncomputable abbrev Vals : List V → List Value → Prop := Paired RelV
theorem Vals.length {xs : List V} {us : List Value} (r : Vals xs us) : xs.length = us.length := Paired.length r
theorem Vals.get : ∀ {xs : List V} {us : List Value} {i : Nat} {x : V}, Vals xs us → xs[i]? = some x → ∃ u, us[i]? = some u ∧ RelV x u
  | _, _, _, _, .nil, e => by simp at e
  | _, _, 0, _, .cons r _, e => by simp at e; subst e; exact ⟨_, rfl, r⟩
  | _, _, i + 1, x, .cons _ t, e => by
    obtain ⟨u, h1, h2⟩ := Vals.get (i := i) (x := x) t (by simpa using e)
    exact ⟨u, by simpa using h1, h2⟩
theorem Vals.set {x : V} {u : Value} (r : RelV x u) : ∀ {xs : List V} {us : List Value} (i : Nat), Vals xs us → Vals (xs.set i x) (us.set i u)
  | _, _, _, .nil => .nil
  | _, _, 0, .cons _ t => .cons r t
  | _, _, i + 1, .cons q t => .cons q (Vals.set r i t)
theorem Vals.append : ∀ {xs ys : List V} {us ws : List Value}, Vals xs us → Vals ys ws → Vals (xs ++ ys) (us ++ ws)
  | _, _, _, _, .nil, s => s
  | _, _, _, _, .cons r t, s => .cons r (Vals.append t s)
theorem Vals.take : ∀ {xs : List V} {us : List Value} (n : Nat), Vals xs us → Vals (xs.take n) (us.take n)
  | _, _, 0, _ => .nil
  | _, _, _ + 1, .nil => .nil
  | _, _, n + 1, .cons r t => .cons r (Vals.take n t)
theorem Vals.drop : ∀ {xs : List V} {us : List Value} (n : Nat), Vals xs us → Vals (xs.drop n) (us.drop n)
  | _, _, 0, r => r
  | _, _, _ + 1, .nil => .nil
  | _, _, n + 1, .cons _ t => Vals.drop n t
theorem Vals.none_of : ∀ {xs : List V} {us : List Value} {i : Nat}, Vals xs us → xs[i]? = none → us[i]? = none := fun {xs us i} r e => by
  have h1 := r.length
  have h2 : xs.length ≤ i := List.getElem?_eq_none_iff.mp e
  exact List.getElem?_eq_none_iff.mpr (by omega)

noncomputable def RelO : Option V → Option Value → Prop
  | some v, some u => RelV v u
  | none, none => True
  | _, _ => False
noncomputable def KV {κ : Type} : List (κ × V) → List (κ × Value) → Prop := Paired fun (p : κ × V) (q : κ × Value) => p.1 = q.1 ∧ RelV p.2 q.2

/-- a key of a dict (00_mix): an int or a text -/
noncomputable def kV : Key → V
  | .inl i => .int i
  | .inr x => .str x

/-- what stands at a tracked address -/
inductive HO where
  /-- a list -/
  | lst (xs : List V)
  /-- a tuple (never changes) -/
  | tup (xs : List V)
  /-- a dict whose keys are ints and texts; one whose keys are tuples of ints and texts (the empty one is both) -/
  | dK (kvs : List (Key × V)) | dT (kvs : List (List Key × V))
  /-- a set of ints: its members, its size -/
  | set (S : Int → Bool) (n : Nat)
  /-- an instance of the class at C, its dict at dx, its attributes -/
  | ins (C dx : Addr) (fs : List (Str × V))
  /-- the dict of the instance at x -/
  | own (x : Addr)
  /-- the dict of an exception -/
  | xd (fs : List (Str × V))
  /-- a bound method, f of x -/
  | met (f x : Addr)
  /-- a range object lo, lo + 1, .. below hi -/
  | rng (lo hi : Int)
  /-- a thing that is known to the object (the script; a dict while a loop walks it): read, never written while it is so -/
  | frz (o : Obj) (u : HO)
  /-- a code object's table -/
  | tbl (ps : Array Value)
  /-- any other thing, by what is true of its one object (a def of one's own: SetO a S n := HO.ext fun h => ..) -/
  | ext (φ : Heap → Prop)

noncomputable abbrev Hp := Addr → Option HO
noncomputable def upd (H : Hp) (a : Addr) (o : HO) : Hp := fun b => if b = a then some o else H b
theorem upd_same {H : Hp} {a : Addr} {o : HO} : upd H a o a = some o := by unfold upd; rw [if_pos rfl]
theorem upd_ne {H : Hp} {a b : Addr} {o : HO} (h : b ≠ a) : upd H a o b = H b := by unfold upd; rw [if_neg h]
/-- two objects of different content stand apart -/
theorem ne_of {H : Hp} {a b : Addr} {o u : HO} (h : H a = some o) (h' : H b = some u) (d : o ≠ u) : a ≠ b := by
  intro e; subst e; rw [h] at h'; exact d (Option.some.inj h')
theorem ne_of_none {H : Hp} {a b : Addr} {o : HO} (h : H a = some o) (h' : H b = none) : a ≠ b := by
  intro e; subst e; rw [h] at h'; cases h'

section
variable (P : Program) (w : World)
noncomputable def ObjOk (H : Hp) (h : Heap) (a : Addr) : HO → Prop
  | .lst xs => xs.length ≤ sizeLine ∧ ∃ (its : List Value) (n : Nat), Vals xs its ∧ h.get? a = some { cls := .type "list", data := .seq its.toArray n }
  | .tup xs => xs.length ≤ sizeLine ∧ ∃ its : List Value, Vals xs its ∧ IsTup h a its.toArray ∧ ∃ o, h.get? a = some o ∧ o.dict = none
  | .dK kvs => kvs.length ≤ sizeLine ∧ (a == sysModules) = false ∧ ∃ vs, KV kvs vs ∧ h.DictOf (mixKind P w) a vs
  | .dT kvs => kvs.length ≤ sizeLine ∧ (a == sysModules) = false ∧ ∃ xs : List (List Key × Addr × Value),
      Paired (fun (p : List Key × V) (q : List Key × Addr × Value) => p.1 = q.1 ∧ H q.2.1 = some (.tup (p.1.map kV)) ∧ RelV p.2 q.2.2) kvs xs ∧
      ∃ o es ep, h.get? a = some o ∧ o.ExactDict ∧ o.data = .dict es ep ∧ es.toList = xs.map (entryOfKey (tupleKind (mixKind P w))) ∧ (xs.map (·.1)).Nodup
  | .set S n => h.SetOf (intKind P w) a S n
  | .ins C dx fs => H dx = some (.own a) ∧ fs.length ≤ 1000 ∧ dx ≠ a ∧ h.get? a = some (PySem.W.instObj C dx) ∧
      ∃ mA, h.Ns1 dx mA ∧ (∀ f, RelO (fs.lookup f) (mA f)) ∧ PySem.Within mA (fs.map (·.1))
  | .own _ => ∃ o, h.get? a = some o
  | .xd fs => ∃ mA, h.Ns1 a mA ∧ ∀ f, RelO (fs.lookup f) (mA f)
  | .rng lo hi => ∃ t u v, h.get? a = some { cls := .type "range", data := .fields #[.int lo t, .int hi u, .int 1 v] }
  | .frz o u => h.get? a = some o ∧ ObjOk H h a u
  | .tbl ps => h.get? a = some { cls := .none, data := .fields ps }
  | .met f x => h.get? a = some (PySem.W.methodObj (.ref f) (.ref x))
  | .ext φ => φ h ∧ (∃ o, h.get? a = some o) ∧ ∀ h1 h2 : Heap, φ h1 → (∀ o, h1.get? a = some o → h2.get? a = some o) → φ h2
/-- the abstract heap is held -/
noncomputable def HOk (H : Hp) (h : Heap) : Prop := ∀ a o, H a = some o → ObjOk P w H h a o
end

section
variable {P : Program} {w : World} {H H' : Hp} {h h' : Heap} {a : Addr} {o : HO}
theorem ObjOk.lt (x : ObjOk P w H h a o) : a < h.objs.size := by
  cases o with
  | lst xs => obtain ⟨_, _, _, _, e⟩ := x; exact Heap.lt_size e
  | tup xs => obtain ⟨_, _, _, p⟩ := x; exact p.1.lt
  | dK kvs => obtain ⟨_, _, _, _, o, _, _, e, _⟩ := x; exact Heap.lt_size e
  | dT kvs => obtain ⟨_, _, _, _, o, _, _, e, _⟩ := x; exact Heap.lt_size e
  | set S n => obtain ⟨o, _, _, _, e, _⟩ := x; exact Heap.lt_size e
  | ins C dx fs => obtain ⟨_, _, _, e, _⟩ := x; exact Heap.lt_size e
  | own y => obtain ⟨_, e⟩ := x; exact Heap.lt_size e
  | xd fs => obtain ⟨_, ⟨_, _, _, e, _⟩, _⟩ := x; exact Heap.lt_size e
  | rng lo hi => obtain ⟨_, _, _, e⟩ := x; exact Heap.lt_size e
  | frz ob u => obtain ⟨e, _⟩ := x; exact Heap.lt_size e
  | tbl ps => exact Heap.lt_size (show h.get? a = some _ from x)
  | met f y => exact Heap.lt_size (show h.get? a = some _ from x)
  | ext φ => obtain ⟨_, ⟨_, e⟩, _⟩ := x; exact Heap.lt_size e
theorem Paired.mapP {α β : Type} {F G : α → β → Prop} : ∀ {l₁ : List α} {l₂ : List β}, Paired F l₁ l₂ → (∀ a b, F a b → G a b) → Paired G l₁ l₂
  | _, _, .nil, _ => .nil
  | _, _, .cons r t, f => .cons (f _ _ r) (Paired.mapP t f)
/-- what an object's description leans on: its own object, its own dict, the tuples -/
theorem ObjOk.stay (x : ObjOk P w H h a o) (k : ∀ b u, (b = a ∨ H b = some (.own a)) → h.get? b = some u → h'.get? b = some u)
    (ho : ∀ b, H b = some (.own a) → H' b = some (.own a)) (ht : ∀ b xs, H b = some (.tup xs) → H' b = some (.tup xs)) : ObjOk P w H' h' a o := by
  induction o with
  | lst xs => obtain ⟨z, its, n, r, e⟩ := x; exact ⟨z, its, n, r, k _ _ (.inl rfl) e⟩
  | tup xs => obtain ⟨z, its, r, ⟨ob, e, c⟩, od, ed, cd⟩ := x; exact ⟨z, its, r, ⟨ob, k _ _ (.inl rfl) e, c⟩, od, k _ _ (.inl rfl) ed, cd⟩
  | dK kvs => obtain ⟨z, y, vs, r, ob, es, ep, e, c⟩ := x; exact ⟨z, y, vs, r, ob, es, ep, k _ _ (.inl rfl) e, c⟩
  | dT kvs =>
    obtain ⟨z, y, xs, r, ob, es, ep, e, c⟩ := x
    exact ⟨z, y, xs, Paired.mapP r fun p q z => ⟨z.1, ht _ _ z.2.1, z.2.2⟩, ob, es, ep, k _ _ (.inl rfl) e, c⟩
  | set S n => obtain ⟨ob, es, ep, t, e, c⟩ := x; exact ⟨ob, es, ep, t, k _ _ (.inl rfl) e, c⟩
  | ins C dx fs =>
    obtain ⟨d, z, ne, e, mA, ⟨od, es, ep, e2, c⟩, r⟩ := x
    exact ⟨ho _ d, z, ne, k _ _ (.inl rfl) e, mA, ⟨od, es, ep, k _ _ (.inr d) e2, c⟩, r⟩
  | own y => obtain ⟨ob, e⟩ := x; exact ⟨ob, k _ _ (.inl rfl) e⟩
  | xd fs => obtain ⟨mA, ⟨od, es, ep, e, c⟩, r⟩ := x; exact ⟨mA, ⟨od, es, ep, k _ _ (.inl rfl) e, c⟩, r⟩
  | rng lo hi => obtain ⟨t, u, v, e⟩ := x; exact ⟨t, u, v, k _ _ (.inl rfl) e⟩
  | frz ob u ih => obtain ⟨e, q⟩ := x; exact ⟨k _ _ (.inl rfl) e, ih q⟩
  | tbl ps =>
    have e : h.get? a = some { cls := .none, data := .fields ps } := x
    show h'.get? a = some { cls := .none, data := .fields ps }
    exact k a _ (.inl rfl) e
  | met f y =>
    have e : h.get? a = some (PySem.W.methodObj (.ref f) (.ref y)) := x
    show h'.get? a = some (PySem.W.methodObj (.ref f) (.ref y))
    exact k a _ (.inl rfl) e
  | ext φ => obtain ⟨p, ⟨o, e⟩, st⟩ := x; exact ⟨st _ _ p fun o q => k _ _ (.inl rfl) q, ⟨o, k _ _ (.inl rfl) e⟩, st⟩
theorem HOk.lt (x : HOk P w H h) (e : H a = some o) : a < h.objs.size := (x a o e).lt
theorem HOk.fresh (x : HOk P w H h) (e : h.objs.size ≤ a) : H a = none := by
  cases q : H a with
  | none => rfl
  | some u => exact absurd (Nat.lt_of_lt_of_le (x.lt q) e) (Nat.lt_irrefl _)
/-- every object of the heap is kept -/
theorem HOk.kept (x : HOk P w H h) (k : ∀ b u, h.get? b = some u → h'.get? b = some u) : HOk P w H h' := fun a o e =>
  (x a o e).stay (fun b u _ q => k b u q) (fun _ q => q) fun _ _ q => q
/-- a new object is laid and tracked -/
theorem HOk.laid (x : HOk P w H h) (k : ∀ b u, h.get? b = some u → h'.get? b = some u) (hp : h.objs.size ≤ a) (new : ObjOk P w (upd H a o) h' a o) : HOk P w (upd H a o) h' := fun b u e => by
  have hn := x.fresh hp
  by_cases hb : b = a
  · subst hb; rw [upd_same] at e; cases e; exact new
  · rw [upd_ne hb] at e
    exact (x b u e).stay (fun c v _ q => k c v q) (fun c q => by rw [upd_ne (ne_of_none q hn)]; exact q) fun c xs q => by rw [upd_ne (ne_of_none q hn)]; exact q
end

/-- what may be read as u: it is u, or a known u -/
noncomputable def Rd (H : Hp) (a : Addr) (u : HO) : Prop := H a = some u ∨ ∃ o, H a = some (.frz o u)
theorem Rd.ok {P : Program} {w : World} {H : Hp} {h : Heap} {a : Addr} {u : HO} (r : Rd H a u) (x : HOk P w H h) : ObjOk P w H h a u := by
  rcases r with r | ⟨o, r⟩
  · exact x a u r
  · obtain ⟨_, q⟩ := x a _ r
    exact q
/-- what may be written -/
noncomputable def Mut : Option HO → Prop
  | some (.lst _) => True
  | some (.dK _) => True
  | some (.dT _) => True
  | some (.set _ _) => True
  | some (.ins _ _ _) => True
  | some (.ext _) => True
  | _ => False
section
variable {P : Program} {w : World} {H : Hp} {h h' : Heap} {x e : Addr} {o' : HO}
/-- the object at e is changed: x itself, or the dict of the instance x -/
theorem HOk.write (ok : HOk P w H h) (mu : Mut (H x)) (he : e = x ∨ H e = some (.own x)) (k : ∀ b u, b ≠ e → h.get? b = some u → h'.get? b = some u) (heo : ∃ u, h'.get? e = some u)
    (new : ObjOk P w (upd H x o') h' x o') : HOk P w (upd H x o') h' := fun b u q => by
  have nown : ∀ c y, H c = some (.own y) → c ≠ x := fun c y r z => by subst z; rw [r] at mu; exact mu
  have ntup : ∀ c xs, H c = some (.tup xs) → c ≠ x := fun c xs r z => by subst z; rw [r] at mu; exact mu
  by_cases hb : b = x
  · subst hb; rw [upd_same] at q; cases q; exact new
  · rw [upd_ne hb] at q
    by_cases hbe : b = e
    · have q' : H b = some (.own x) := by
        rcases he with z | z
        · exact absurd (hbe.trans z) hb
        · rw [hbe]; exact z
      rw [q] at q'; cases q'
      obtain ⟨v, hv⟩ := heo
      exact ⟨v, by rw [hbe]; exact hv⟩
    · refine (ok b u q).stay (fun c v hc r => k c v ?_ r) (fun c r => by rw [upd_ne (nown c b r)]; exact r) fun c xs r => by rw [upd_ne (ntup c xs r)]; exact r
      rcases hc with rfl | hc
      · exact hbe
      · rintro rfl
        rcases he with z | z
        · exact nown c b hc z
        · rw [hc] at z; cases z; exact hb rfl
end

structure Un (fs ex : List Addr) (H H' : Hp) (h h' : Heap) : Prop where
  keep : ∀ b o, h.get? b = some o → H b = none → b ∉ fs → b ∉ ex → h'.get? b = some o
  slot : ∀ b o, h.get? b = some o → H b = none → b ∈ fs → b ∉ ex → ∃ sl, h'.get? b = some { o with slots := sl }
  free : ∀ b o, h.get? b = some o → H b = none → b ∉ ex → H' b = none
  there : ∀ b o, h.get? b = some o → b ∉ ex → ∃ o', h'.get? b = some o'
  tups : ∀ b xs, H b = some (.tup xs) → H' b = some (.tup xs)
  frzs : ∀ b o u, H b = some (.frz o u) → H' b = some (.frz o u)
  tbls : ∀ b ps, H b = some (.tbl ps) → ∃ more, H' b = some (.tbl (ps ++ more))
section
variable {fs fs' ex ex' : List Addr} {H H1 H2 : Hp} {h h1 h2 h' : Heap} {a x e : Addr} {o : HO}
theorem Un.any (u : Un fs ex H H1 h h1) {b : Addr} {ob : Obj} (q : h.get? b = some ob) (n : H b = none) (hx : b ∉ ex) : ∃ sl, h1.get? b = some { ob with slots := sl } := by
  by_cases hb : b ∈ fs
  · exact u.slot b ob q n hb hx
  · exact ⟨ob.slots, u.keep b ob q n hb hx⟩
theorem Un.kept (k : ∀ b u, h.get? b = some u → h'.get? b = some u) : Un fs ex H H h h' :=
  ⟨fun b ob q _ _ _ => k b ob q, fun b ob q _ _ _ => ⟨ob.slots, k b ob q⟩, fun _ _ _ n _ => n, fun b ob q _ => ⟨ob, k b ob q⟩, fun _ _ q => q, fun _ _ _ q => q, fun _ ps q => ⟨#[], by rw [q]; simp⟩⟩
theorem Un.refl : Un fs ex H H h h := Un.kept fun _ _ q => q
theorem Un.laid (k : ∀ b u, h.get? b = some u → h'.get? b = some u) (hp : h.objs.size ≤ a) (hn : H a = none) : Un fs ex H (upd H a o) h h' where
  keep := fun b u q _ _ _ => k b u q
  slot := fun b u q _ _ _ => ⟨u.slots, k b u q⟩
  free := fun b u q n _ => by rw [upd_ne (Nat.ne_of_lt (Nat.lt_of_lt_of_le (Heap.lt_size q) hp))]; exact n
  there := fun b u q _ => ⟨u, k b u q⟩
  tups := fun b xs q => by rw [upd_ne (ne_of_none q hn)]; exact q
  frzs := fun b u xs q => by rw [upd_ne (ne_of_none q hn)]; exact q
  tbls := fun b ps q => ⟨#[], by rw [upd_ne (ne_of_none q hn), q]; simp⟩
theorem Un.write (mu : Mut (H x)) (he : e = x ∨ H e = some (.own x)) (k : ∀ b u, b ≠ e → h.get? b = some u → h'.get? b = some u) (heo : ∃ u, h'.get? e = some u) : Un fs ex H (upd H x o) h h' := by
  have hx : ∀ b, H b = none → b ≠ x := fun b n z => by subst z; rw [n] at mu; exact mu
  have hb : ∀ b, H b = none → b ≠ e := fun b n z => by
    subst z
    rcases he with r | r
    · exact hx b n r
    · rw [n] at r; cases r
  have hm : ∀ b u, H b = some u → ¬ Mut (some u) → b ≠ x := fun b u q nm z => by subst z; rw [q] at mu; exact nm mu
  refine ⟨fun b u q n _ _ => k b u (hb b n) q, fun b u q n _ _ => ⟨u.slots, k b u (hb b n) q⟩, fun b u q n _ => by rw [upd_ne (hx b n)]; exact n, fun b u q _ => ?_,
    fun b xs q => by rw [upd_ne (hm b _ q fun z => z)]; exact q, fun b u xs q => by rw [upd_ne (hm b _ q fun z => z)]; exact q, fun b ps q => ⟨#[], by rw [upd_ne (hm b _ q fun z => z), q]; simp⟩⟩
  by_cases hbe : b = e
  · subst hbe; exact heo
  · exact ⟨u, k b u hbe q⟩
end

noncomputable def trk (h : Heap) (H : Hp) : List Addr := (List.range h.objs.size).filter fun a => (H a).isSome
noncomputable def hidT (h : Heap) (H : Hp) : Heap := PySem.W.hideAll h (trk h H)
theorem hidT_size (h : Heap) (H : Hp) : (hidT h H).objs.size = h.objs.size := PySem.W.hideAll_size _ _
theorem hidT_get {h : Heap} {H : Hp} {b : Addr} {o : Obj} (e : h.get? b = some o) (n : H b = none) : (hidT h H).get? b = some o :=
  PySem.W.hideAll_get _ e fun hm => by
    have q : (H b).isSome = true := (List.mem_filter.mp hm).2
    rw [n] at q; simp at q
theorem of_hidT {h : Heap} {H : Hp} {b : Addr} {o : Obj} (e : (hidT h H).get? b = some o) : h.get? b = some o ∧ H b = none := by
  have e' : h.get? b = some o := PySem.W.of_hideAll (trk h H) e
  refine ⟨e', ?_⟩
  cases q : H b with
  | none => rfl
  | some x =>
    have hm : b ∈ trk h H := List.mem_filter.mpr ⟨List.mem_range.mpr (Heap.lt_size e'), by simp [q]⟩
    have z : (hidT h H).get? b = none := PySem.W.hideAll_none (trk h H) hm
    rw [z] at e; cases e

noncomputable def allNews (g h : Heap) (L : Addr) : List (Addr × Obj) := (List.range h.objs.size).filterMap fun a => if a = L ∨ (g.get? a).isSome = true then none else (h.get? a).map fun o => (a, o)
noncomputable def rest (g h : Heap) (L d : Addr) : List (Addr × Obj) := (allNews g h L).filter fun p => decide (p.1 ≠ d)
end L2

namespace L2
open PySem PySem.Spec PyProof.Rows

/-- the module's facts, over the base: the heap at the law's entry without what is tracked there -/
structure Mod (K : PySem.W.Frag) (mg : Str → Option Value) (base : Heap) : Prop where
  kin : K.In base
  glob : base.Ns mainGlobals mg
  blt : ∃ mb, base.Ns builtinsNs mb ∧ ∀ x : Str, x ≠ "__name__" → mb x = bootBuiltins x
  nolimit : base.NoLimit

/-- the context: a def's body (or a comprehension's block) running. base: fixed through the whole law; s₀, H₀: the entry; outer: the frames whose slots others may change (a def's callers); stack: all frames that run;
   ex: iterators that were made ahead of the entry and are walked here (a comprehension's); fn: the names whose cells were made at the entry (a def: all; a comprehension's block: its own); calm: not within an except suite; pn: pins that every state bears; xe: what is wanted of an exception that leaves the code -/
structure Cx where
  prog : Program
  w : World
  K : PySem.W.Frag
  mg : Str → Option Value
  base : Heap
  A : Around
  N : List Str
  s₀ : Shared
  H₀ : Hp
  env : Env
  outer : List Env
  stack : List Env
  ex : List Addr
  fn : Str → Bool
  calm : Bool
  pn : List (Addr × Obj)
  xe : Value → Shared → Prop
/-- the callers' frames -/
noncomputable def frs (l : List Env) : List Addr := l.filterMap (·.frame)
noncomputable abbrev Cx.fs (X : Cx) : List Addr := frs X.outer

noncomputable def Vis (sc : Scope) (x : Str) : Prop := sc.names.lookup x = some .local ∨ sc.names.lookup x = some .cell ∨ sc.names.lookup x = some .free
noncomputable def Loc (sc : Scope) (x : Str) : Prop := sc.names.lookup x = some .local ∨ sc.names.lookup x = some .cell
noncomputable def Look (env : Env) (h : Heap) (m : Str → Option Value) (x : Str) (u : Value) : Prop :=
  (env.kindOf x = some .local ∧ m x = some u) ∨ ((env.kindOf x = some .cell ∨ env.kindOf x = some .free) ∧ ∃ c, env.cells.lookup x = some c ∧ h.IsCell c (some u))

structure Cx.Ok (X : Cx) : Prop where
  mod : Mod X.K X.mg X.base
  kind : X.env.scope.kind = .function
  glob : X.env.globals = mainGlobals
  blt : X.env.builtins = builtinsNs
  above : X.s₀.heap.objs.size ≤ X.env.locals
  inj : ∀ x y c, X.env.cells.lookup x = some c → X.env.cells.lookup y = some c → x = y
  has : ∀ x, (X.env.kindOf x = some .cell ∨ X.env.kindOf x = some .free) → ∃ c, X.env.cells.lookup x = some c
  cab : ∀ x c, X.fn x = true → X.env.cells.lookup x = some c → X.s₀.heap.objs.size ≤ c
  hd : X.calm = true → X.A.handled = none
  frames : X.A.frames = some X.stack
  stk : X.stack = X.outer ∨ (X.stack = X.env :: X.outer ∧ X.env.frame = some X.env.locals)
  exf : ∀ b ∈ X.ex, b ≠ X.env.locals ∧ ∀ x c, X.env.cells.lookup x = some c → c ≠ b
  bs : ∀ b o, X.base.get? b = some o → X.s₀.heap.get? b = some o ∧ X.H₀ b = none
  bsz : X.base.objs.size ≤ X.s₀.heap.objs.size
  noex : ∀ b o, X.base.get? b = some o → b ∉ X.ex
  exfs : ∀ b ∈ X.ex, b ∉ X.fs
  funs : X.s₀.heap.FunFrames X.base X.outer
  frf : ∀ b ∈ X.fs, X.H₀ b = none

structure Inv (X : Cx) (pins : List (Addr × Obj)) (σ : List (Option V)) (H : Hp) (s : Shared) : Prop where
  ok : X.Ok
  os : s.os = X.s₀.os
  bare : AllBare s.gens
  base : Un X.fs X.ex X.H₀ H X.s₀.heap s.heap
  loc : ∃ m, s.heap.Ns X.env.locals m ∧ ∀ (i : Nat) (x : Str) (v : V), X.N[i]? = some x → σ[i]? = some (some v) → Vis X.env.scope x → ∃ u, RelV v u ∧ Look X.env s.heap m x u
  cell : ∀ x c, X.env.cells.lookup x = some c → ∃ v, s.heap.IsCell c v
  free : H X.env.locals = none
  freeC : ∀ x c, X.env.cells.lookup x = some c → H c = none
  pin : ∀ p ∈ X.pn ++ pins, s.heap.get? p.1 = some p.2 ∧ H p.1 = none ∧ p.1 ≠ X.env.locals ∧ p.1 ∉ X.fs ∧ ∀ v, p.2.data ≠ .cell v
  hok : HOk X.prog X.w H s.heap
  len : σ.length = X.N.length

section
variable {X : Cx} {pins : List (Addr × Obj)} {σ : List (Option V)} {H H' : Hp} {s : Shared} {h' : Heap}

theorem Cx.Ok.nofr (ok : X.Ok) {b : Addr} {o : Obj} (e : X.base.get? b = some o) : b ∉ X.fs := fun hb => by
  have := (ok.funs.mem hb).1
  rw [e] at this; cases this
theorem Inv.bs (I : Inv X pins σ H s) : ∀ b o, X.base.get? b = some o → s.heap.get? b = some o ∧ H b = none := fun b o e =>
  ⟨I.base.keep b o (I.ok.bs b o e).1 (I.ok.bs b o e).2 (I.ok.nofr e) (I.ok.noex b o e), I.base.free b o (I.ok.bs b o e).1 (I.ok.bs b o e).2 (I.ok.noex b o e)⟩
theorem Inv.bk (I : Inv X pins σ H s) : ∀ b o, X.base.get? b = some o → s.heap.get? b = some o := fun b o e => (I.bs b o e).1
theorem Inv.mod (I : Inv X pins σ H s) : Mod X.K X.mg X.base := I.ok.mod
theorem Inv.kIn (I : Inv X pins σ H s) : X.K.In s.heap := I.ok.mod.kin.keeps I.bk
/-- the frame over the base: for OpenK's rules (K.In X.base is I.mod.kin) -/
theorem Inv.fr (I : Inv X pins σ H s) : ∃ m, Fr X.base X.env.locals s.heap m :=
  let ⟨m, hn, _⟩ := I.loc
  ⟨m, hn, I.bk, Nat.le_trans I.ok.bsz I.ok.above⟩
theorem Inv.lt (I : Inv X pins σ H s) : X.env.locals < s.heap.objs.size := let ⟨_, hn, _⟩ := I.loc; hn.lt
theorem Inv.sz (I : Inv X pins σ H s) : X.s₀.heap.objs.size ≤ s.heap.objs.size := Nat.le_trans I.ok.above (Nat.le_of_lt I.lt)
theorem Inv.nofs (I : Inv X pins σ H s) {a : Addr} (h : s.heap.objs.size ≤ a) : a ∉ X.fs := fun hb => by
  obtain ⟨_, o, ho, _⟩ := I.ok.funs.mem hb
  exact absurd (Nat.lt_of_lt_of_le (Heap.lt_size ho) (Nat.le_trans I.sz h)) (Nat.lt_irrefl _)
theorem Inv.cne (I : Inv X pins σ H s) : ∀ x c, X.env.cells.lookup x = some c → c ≠ X.env.locals := fun x c e z => by
  obtain ⟨v, o, ho, hd⟩ := I.cell x c e
  obtain ⟨m, ⟨o', es, ep, ho', hd', _⟩, _⟩ := I.loc
  rw [z, ho'] at ho; cases ho; rw [hd'] at hd; cases hd
theorem Inv.funs (I : Inv X pins σ H s) : s.heap.FunFrames X.base X.outer := by
  have all : ∀ (l : List Env), (∀ b ∈ frs l, b ∈ X.fs) → X.s₀.heap.FunFrames X.base l → s.heap.FunFrames X.base l := by
    intro l
    induction l with
    | nil => intro _ _; trivial
    | cons env r ih =>
      intro hs hl
      obtain ⟨hk, ⟨L, o, hf, hn, ho, hd⟩, hr⟩ := hl
      have hL : L ∈ X.fs := hs L (by unfold frs; rw [List.filterMap_cons, hf]; exact List.mem_cons_self)
      obtain ⟨sl, e⟩ := I.base.slot L o ho (I.ok.frf L hL) hL fun z => I.ok.exfs L z hL
      exact ⟨hk, ⟨L, _, hf, hn, e, hd⟩, ih (fun b hb => hs b (by unfold frs; rw [List.filterMap_cons, hf]; exact List.mem_cons_of_mem _ hb)) hr⟩
  exact all X.outer (fun _ hb => hb) I.ok.funs

/-- the frames that run, for a call -/
theorem Inv.stack (I : Inv X pins σ H s) : s.heap.FunFrames X.base X.stack := by
  rcases I.ok.stk with e | ⟨e, hf⟩
  · rw [e]; exact I.funs
  · rw [e]
    obtain ⟨m, hn, _⟩ := I.loc
    refine .cons (by rw [I.ok.kind]; decide) hf hn ?_ I.funs
    exact Heap.get?_none_of_le (Nat.le_trans I.ok.bsz I.ok.above)
theorem Inv.stkSub (I : Inv X pins σ H s) : ∀ b ∈ frs X.stack, b ∈ X.env.locals :: X.fs := fun b hb => by
  rcases I.ok.stk with e | ⟨e, hf⟩
  · rw [e] at hb; exact List.mem_cons_of_mem _ hb
  · rw [e] at hb
    unfold frs at hb
    rw [List.filterMap_cons, hf] at hb
    exact hb
theorem Inv.stkFree (I : Inv X pins σ H s) : ∀ b ∈ frs X.stack, H b = none := fun b hb => by
  rcases List.mem_cons.mp (I.stkSub b hb) with e | hb
  · rw [e]; exact I.free
  · obtain ⟨_, o, ho, _⟩ := I.ok.funs.mem hb
    exact I.base.free b o ho (I.ok.frf b hb) fun z => I.ok.exfs b z hb

/-- THE STEP: the untracked objects but the frame and the records at ch are kept (the callers' frames up to slots), the frame's map is kept, the new abstract heap is held -/
theorem Inv.step {g' : Array GenState} {t' : Nat} {d' : Drawn} {ch : List Addr} (I : Inv X pins σ H s)
    (hch : ∀ b ∈ ch, (b ∈ X.ex ∨ X.s₀.heap.objs.size ≤ b) ∧ b ≠ X.env.locals ∧ (∀ x c, X.env.cells.lookup x = some c → c ≠ b) ∧ ∀ p ∈ X.pn ++ pins, p.1 ≠ b)
    (keep : ∀ b o, b ≠ X.env.locals → b ∉ X.fs → b ∉ ch → s.heap.get? b = some o → H b = none → h'.get? b = some o)
    (slot : ∀ b o, b ≠ X.env.locals → b ∈ X.fs → b ∉ ch → s.heap.get? b = some o → H b = none → ∃ sl, h'.get? b = some { o with slots := sl }) (free : ∀ b o, b ∉ ch → s.heap.get? b = some o → H b = none → H' b = none)
    (there : ∀ b o, b ∉ ch → s.heap.get? b = some o → ∃ o', h'.get? b = some o')
    (tups : ∀ b xs, H b = some (.tup xs) → H' b = some (.tup xs)) (frzs : ∀ b o u, H b = some (.frz o u) → H' b = some (.frz o u)) (tbls : ∀ b ps, H b = some (.tbl ps) → ∃ more, H' b = some (.tbl (ps ++ more)))
    (ns : ∀ m, s.heap.Ns X.env.locals m → h'.Ns X.env.locals m) (hok : HOk X.prog X.w H' h') (hg : AllBare g') :
    Inv X pins σ H' { s with heap := h', gens := g', drawn := d', toks := t' } := by
  have neL : ∀ b o, X.s₀.heap.get? b = some o → b ≠ X.env.locals := fun b o e => Nat.ne_of_lt (Nat.lt_of_lt_of_le (Heap.lt_size e) I.ok.above)
  have neC : ∀ b o, X.s₀.heap.get? b = some o → b ∉ X.ex → b ∉ ch := fun b o e hx hb => by
    rcases (hch b hb).1 with z | z
    · exact hx z
    · exact absurd (Nat.lt_of_lt_of_le (Heap.lt_size e) z) (Nat.lt_irrefl _)
  have cellK : ∀ x c, X.env.cells.lookup x = some c → ∀ v, s.heap.IsCell c v → h'.IsCell c v := fun x c e v ⟨o, ho, hd⟩ => by
    have nch : c ∉ ch := fun z => (hch c z).2.2.1 x c e rfl
    by_cases hc : c ∈ X.fs
    · obtain ⟨sl, q⟩ := slot c o (I.cne x c e) hc nch ho (I.freeC x c e)
      exact ⟨_, q, hd⟩
    · exact ⟨o, keep c o (I.cne x c e) hc nch ho (I.freeC x c e), hd⟩
  refine ⟨I.ok, I.os, hg, ⟨fun b o e n hb hx => ?_, fun b o e n hb hx => ?_, fun b o e n hx => ?_, fun b o e hx => ?_, fun b xs e => tups b xs (I.base.tups b xs e), fun b o xs e => frzs b o xs (I.base.frzs b o xs e), fun b ps e => ?_⟩, ?_, fun x c e => ?_, ?_, fun x c e => ?_, fun p hp => ?_, hok, I.len⟩
  · exact keep b o (neL b o e) hb (neC b o e hx) (I.base.keep b o e n hb hx) (I.base.free b o e n hx)
  · obtain ⟨sl, e1⟩ := I.base.slot b o e n hb hx
    obtain ⟨sl', e2⟩ := slot b _ (neL b o e) hb (neC b o e hx) e1 (I.base.free b o e n hx)
    exact ⟨sl', e2⟩
  · obtain ⟨o', e1⟩ := I.base.there b o e hx
    exact free b o' (neC b o e hx) e1 (I.base.free b o e n hx)
  · obtain ⟨o', e1⟩ := I.base.there b o e hx
    exact there b o' (neC b o e hx) e1
  · obtain ⟨m1, e1⟩ := I.base.tbls b ps e
    obtain ⟨m2, e2⟩ := tbls b _ e1
    exact ⟨m1 ++ m2, by rw [e2, Array.append_assoc]⟩
  · obtain ⟨m, hn, hl⟩ := I.loc
    refine ⟨m, ns m hn, fun i x v e1 e2 e3 => ?_⟩
    obtain ⟨u, r, l⟩ := hl i x v e1 e2 e3
    refine ⟨u, r, ?_⟩
    rcases l with l | ⟨k, c, e, z⟩
    · exact .inl l
    · exact .inr ⟨k, c, e, cellK x c e _ z⟩
  · obtain ⟨v, z⟩ := I.cell x c e
    exact ⟨v, cellK x c e v z⟩
  · obtain ⟨m, ⟨o, _, _, ho, _⟩, _⟩ := I.loc
    exact free _ o (fun z => (hch _ z).2.1 rfl) ho I.free
  · obtain ⟨v, o, ho, hd⟩ := I.cell x c e
    exact free c o (fun z => (hch c z).2.2.1 x c e rfl) ho (I.freeC x c e)
  · obtain ⟨e, n, ne, nf, d⟩ := I.pin p hp
    have nch : p.1 ∉ ch := fun z => (hch p.1 z).2.2.2 p hp rfl
    exact ⟨keep p.1 p.2 ne nf nch e n, free p.1 p.2 nch e n, ne, nf, d⟩
/-- .. where the frame's own object is kept too -/
theorem Inv.un {t' : Nat} (I : Inv X pins σ H s) (u : Un X.fs [] H H' s.heap h') (hok : HOk X.prog X.w H' h') : Inv X pins σ H' { s with heap := h', toks := t' } := by
  obtain ⟨m, ⟨o, es, ep, ho, r⟩, _⟩ := id I.loc
  obtain ⟨sl, hL⟩ := u.any ho I.free (by simp)
  exact I.step (g' := s.gens) (d' := s.drawn) (ch := []) (fun _ z => nomatch z) (fun b o _ hb _ e n => u.keep b o e n hb (by simp)) (fun b o _ hb _ e n => u.slot b o e n hb (by simp)) (fun b o _ e n => u.free b o e n (by simp)) (fun b o _ e => u.there b o e (by simp)) u.tups u.frzs u.tbls (fun m' hm => by
    obtain ⟨o', es', ep', ho', r'⟩ := hm
    rw [ho] at ho'; cases ho'
    exact ⟨_, es', ep', hL, r'⟩) hok I.bare
/-- behind a call (or a comprehension's block): the slots of this frame may have changed too, the records at ch may have turned -/
theorem Inv.call {g' : Array GenState} {t' : Nat} {d' : Drawn} {ch : List Addr} (I : Inv X pins σ H s) (u : Un (frs X.stack) ch H H' s.heap h') (hok : HOk X.prog X.w H' h') (hg : AllBare g')
    (hch : ∀ b ∈ ch, (b ∈ X.ex ∨ X.s₀.heap.objs.size ≤ b) ∧ b ≠ X.env.locals ∧ (∀ x c, X.env.cells.lookup x = some c → c ≠ b) ∧ ∀ p ∈ X.pn ++ pins, p.1 ≠ b) :
    Inv X pins σ H' { s with heap := h', gens := g', drawn := d', toks := t' } := by
  obtain ⟨m, ⟨o, es, ep, ho, r⟩, _⟩ := id I.loc
  obtain ⟨sl, hL⟩ := u.any ho I.free fun z => (hch _ z).2.1 rfl
  exact I.step (ch := ch) hch (fun b o hL hb hc e n => u.keep b o e n (fun z => (List.mem_cons.mp (I.stkSub b z)).elim hL hb) hc) (fun b o _ _ hc e n => u.any e n hc) (fun b o hc e n => u.free b o e n hc) (fun b o hc e => u.there b o e hc) u.tups u.frzs u.tbls (fun m' hm => by
    obtain ⟨o', es', ep', ho', r'⟩ := hm
    rw [ho] at ho'; cases ho'
    exact ⟨_, es', ep', hL, r'⟩) hok hg
/-- an untracked record of ours (an iterator) has turned -/
theorem Inv.turned {t' : Nat} {it : Addr} (I : Inv X pins σ H s) (k : ∀ b o, b ≠ it → s.heap.get? b = some o → h'.get? b = some o) (hn : H it = none) (hL : it ≠ X.env.locals)
    (h1 : it ∈ X.ex ∨ X.s₀.heap.objs.size ≤ it) (h2 : ∀ x c, X.env.cells.lookup x = some c → c ≠ it) (h3 : ∀ p ∈ X.pn ++ pins, p.1 ≠ it) : Inv X pins σ H { s with heap := h', toks := t' } := by
  have nit : ∀ b u, H b = some u → b ≠ it := fun b u e z => by rw [z, hn] at e; cases e
  refine I.step (g' := s.gens) (d' := s.drawn) (ch := [it]) (fun b hb => ?_) (fun b o _ _ hc e _ => k b o (fun z => hc (by simp [z])) e) (fun b o _ _ hc e _ => ⟨o.slots, k b o (fun z => hc (by simp [z])) e⟩) (fun _ _ _ _ n => n)
    (fun b o hc e => ⟨o, k b o (fun z => hc (by simp [z])) e⟩) (fun _ _ e => e) (fun _ _ _ e => e) (fun b ps e => ⟨#[], by rw [e]; simp⟩) (fun m hm => ?_) (fun b u e => ?_) I.bare
  · have e : b = it := by simpa using hb
    subst e
    exact ⟨h1, hL, h2, h3⟩
  · obtain ⟨o, es, ep, ho, r⟩ := hm
    exact ⟨o, es, ep, k _ o (Ne.symm hL) ho, r⟩
  · refine (I.hok b u e).stay (fun c v hc q => k c v ?_ q) (fun _ q => q) fun _ _ q => q
    rcases hc with z | z
    · rw [z]; exact nit b u e
    · exact nit c _ z
theorem Inv.tok (I : Inv X pins σ H s) (t : Nat) : Inv X pins σ H { s with toks := t } := I.un (h' := s.heap) (t' := t) Un.refl I.hok
/-- all objects kept -/
theorem Inv.kept {t' : Nat} (I : Inv X pins σ H s) (k : ∀ b u, s.heap.get? b = some u → h'.get? b = some u) : Inv X pins σ H { s with heap := h', toks := t' } := I.un (Un.kept k) (I.hok.kept k)
/-- a new object laid and tracked -/
theorem Inv.laid {a : Addr} {o : HO} {t' : Nat} (I : Inv X pins σ H s) (k : ∀ b u, s.heap.get? b = some u → h'.get? b = some u) (hp : s.heap.objs.size ≤ a) (new : ObjOk X.prog X.w (upd H a o) h' a o) :
    Inv X pins σ (upd H a o) { s with heap := h', toks := t' } := I.un (Un.laid k hp (I.hok.fresh hp)) (I.hok.laid k hp new)
/-- an object written -/
theorem Inv.write {x e : Addr} {o : HO} {t' : Nat} (I : Inv X pins σ H s) (mu : Mut (H x)) (he : e = x ∨ H e = some (.own x)) (k : ∀ b u, b ≠ e → s.heap.get? b = some u → h'.get? b = some u) (heo : ∃ u, h'.get? e = some u)
    (new : ObjOk X.prog X.w (upd H x o) h' x o) : Inv X pins σ (upd H x o) { s with heap := h', toks := t' } := I.un (Un.write mu he k heo) (I.hok.write mu he k heo new)
/-- forgetting slots, pins -/
theorem Inv.weak {σ' : List (Option V)} (I : Inv X pins σ H s) (hl : σ'.length = σ.length) (w : ∀ (i : Nat) v, σ'[i]? = some (some v) → σ[i]? = some (some v)) : Inv X pins σ' H s :=
  ⟨I.ok, I.os, I.bare, I.base, let ⟨m, hn, hl'⟩ := I.loc; ⟨m, hn, fun i x v e1 e2 e3 => hl' i x v e1 (w i v e2) e3⟩, I.cell, I.free, I.freeC, I.pin, I.hok, hl.trans I.len⟩
theorem Inv.pins_of {pins' : List (Addr × Obj)} (I : Inv X pins σ H s) (h : ∀ p ∈ pins', s.heap.get? p.1 = some p.2 ∧ H p.1 = none ∧ p.1 ≠ X.env.locals ∧ p.1 ∉ X.fs ∧ ∀ v, p.2.data ≠ .cell v) : Inv X pins' σ H s :=
  ⟨I.ok, I.os, I.bare, I.base, I.loc, I.cell, I.free, I.freeC, fun p hp => (List.mem_append.mp hp).elim (fun z => I.pin p (List.mem_append_left _ z)) (h p), I.hok, I.len⟩

theorem nodup_ix {N : List Str} (hN : N.Nodup) {i j : Nat} {x : Str} (a : N[i]? = some x) (b : N[j]? = some x) : i = j := by
  obtain ⟨h1, e1⟩ := List.getElem?_eq_some_iff.mp a
  obtain ⟨h2, e2⟩ := List.getElem?_eq_some_iff.mp b
  exact (List.getElem_inj hN).mp (e1.trans e2.symm)

/-- a name is stored; what changed -/
theorem store_ok2 {M : Model} {A : Around} {E : Value → Shared → Prop} {i : Nat} {x : Str} {v : V} {u : Value} {Q : Unit → Shared → Prop} (I : Inv X pins σ H s) (hN : X.N.Nodup) (hi : X.N[i]? = some x) (hx : Loc X.env.scope x) (r : RelV v u)
    (h : ∀ s', Inv X pins (σ.set i (some v)) H s' → (∃ a, Heap.SameBut a s.heap s'.heap ∧ (a = X.env.locals ∨ X.env.cells.lookup x = some a)) → Q () s') (hf : X.fn x = true ∨ X.env.scope.names.lookup x = some .local := by first | exact .inl rfl | exact .inr rfl | assumption) : wpAny M A (storeName X.env x u) Q E s := by
  obtain ⟨m, hn, hl⟩ := id I.loc
  have hcls : (X.env.scope.kind == .class || (X.env.scope.kind == .module && X.env.locals != X.env.globals)) = false := by rw [I.ok.kind]; rfl
  have hiσ : i < σ.length := by rw [I.len]; exact (List.getElem?_eq_some_iff.mp hi).1
  have cne := I.cne
  have tracked : ∀ {a : Addr} {h' : Heap}, (∃ o, s.heap.get? a = some o ∧ H a = none) → Heap.SameBut a s.heap h' → HOk X.prog X.w H h' := fun {a h'} ha hs b ob e => by
    obtain ⟨_, _, hfree⟩ := ha
    refine (I.hok b ob e).stay (fun c w' hc q => (hs.2 c ?_).trans q) (fun _ q => q) fun _ _ q => q
    rintro rfl
    rcases hc with rfl | hc
    · rw [hfree] at e; cases e
    · rw [hfree] at hc; cases hc
  rcases hx with hk | hk
  · refine wpAny_storeName_local hk hn (fun h' hn' hs => ?_) hcls
    obtain ⟨oL, _, _, hoL, _⟩ := id hn
    refine h _ ⟨I.ok, I.os, I.bare, ⟨fun b o e n hb hx => ?_, fun b o e n hb hx => ?_, I.base.free, fun b o e hx => ?_, I.base.tups, I.base.frzs, I.base.tbls⟩, ⟨_, hn', fun j y v' e1 e2 e3 => ?_⟩, fun y c e => ?_, I.free, I.freeC, fun p hp => ?_, tracked ⟨oL, hoL, I.free⟩ hs, by simpa using I.len⟩ ⟨_, hs, .inl rfl⟩
    · exact (hs.2 b (Nat.ne_of_lt (Nat.lt_of_lt_of_le (Heap.lt_size e) I.ok.above))).trans (I.base.keep b o e n hb hx)
    · obtain ⟨sl, e1⟩ := I.base.slot b o e n hb hx
      exact ⟨sl, (hs.2 b (Nat.ne_of_lt (Nat.lt_of_lt_of_le (Heap.lt_size e) I.ok.above))).trans e1⟩
    · obtain ⟨o', e1⟩ := I.base.there b o e hx
      exact ⟨o', (hs.2 b (Nat.ne_of_lt (Nat.lt_of_lt_of_le (Heap.lt_size e) I.ok.above))).trans e1⟩
    · by_cases hj : j = i
      · subst hj
        rw [hi] at e1; cases e1
        rw [List.getElem?_set_self hiσ] at e2
        cases e2
        exact ⟨u, r, .inl ⟨hk, by simp⟩⟩
      · rw [List.getElem?_set_ne (Ne.symm hj)] at e2
        obtain ⟨u', r', q⟩ := hl j y v' e1 e2 e3
        refine ⟨u', r', ?_⟩
        rcases q with ⟨k, e⟩ | ⟨k, c, e, z⟩
        · refine .inl ⟨k, ?_⟩
          have : y ≠ x := fun e => hj (nodup_ix hN e1 (e ▸ hi))
          simp [this, e]
        · exact .inr ⟨k, c, e, z.sameBut hs (cne y c e)⟩
    · obtain ⟨w', z⟩ := I.cell y c e
      exact ⟨w', z.sameBut hs (cne y c e)⟩
    · obtain ⟨e, n, ne, nf, d⟩ := I.pin p hp
      exact ⟨(hs.2 p.1 ne).trans e, n, ne, nf, d⟩
  · have hfn : X.fn x = true := by
      rcases hf with z | z
      · exact z
      · rw [z] at hk; cases hk
    obtain ⟨c, hc⟩ := I.ok.has x (.inl hk)
    obtain ⟨w', z⟩ := I.cell x c hc
    refine wpAny_storeName_cell I.ok.kind hk hc z (fun h' hc' hs => ?_)
    obtain ⟨oc, hoc, hocd⟩ := id z
    refine h { s with heap := h' } ⟨I.ok, I.os, I.bare, ⟨fun b o e n hb hx => ?_, fun b o e n hb hx => ?_, I.base.free, fun b o e hx => ?_, I.base.tups, I.base.frzs, I.base.tbls⟩, ⟨m, hn.sameBut hs (Ne.symm (cne x c hc)), fun j y v' e1 e2 e3 => ?_⟩, fun y c' e => ?_, I.free, I.freeC, fun p hp => ?_, tracked ⟨oc, hoc, I.freeC x c hc⟩ hs, by simpa using I.len⟩ ⟨c, hs, .inr hc⟩
    · exact (hs.2 b (Nat.ne_of_lt (Nat.lt_of_lt_of_le (Heap.lt_size e) (I.ok.cab x c hfn hc)))).trans (I.base.keep b o e n hb hx)
    · obtain ⟨sl, e1⟩ := I.base.slot b o e n hb hx
      exact ⟨sl, (hs.2 b (Nat.ne_of_lt (Nat.lt_of_lt_of_le (Heap.lt_size e) (I.ok.cab x c hfn hc)))).trans e1⟩
    · obtain ⟨o', e1⟩ := I.base.there b o e hx
      exact ⟨o', (hs.2 b (Nat.ne_of_lt (Nat.lt_of_lt_of_le (Heap.lt_size e) (I.ok.cab x c hfn hc)))).trans e1⟩
    · by_cases hj : j = i
      · subst hj
        rw [hi] at e1; cases e1
        rw [List.getElem?_set_self hiσ] at e2
        cases e2
        exact ⟨u, r, .inr ⟨.inl hk, c, hc, hc'⟩⟩
      · rw [List.getElem?_set_ne (Ne.symm hj)] at e2
        obtain ⟨u', r', q⟩ := hl j y v' e1 e2 e3
        refine ⟨u', r', ?_⟩
        rcases q with q | ⟨k, c', e, z'⟩
        · exact .inl q
        · refine .inr ⟨k, c', e, z'.sameBut hs ?_⟩
          rintro rfl
          exact hj (nodup_ix hN e1 (I.ok.inj _ _ _ e hc ▸ hi))
    · by_cases hcc : c' = c
      · subst hcc; exact ⟨_, hc'⟩
      · obtain ⟨w2, z2⟩ := I.cell y c' e
        exact ⟨w2, z2.sameBut hs hcc⟩
    · obtain ⟨e, n, ne, nf, d⟩ := I.pin p hp
      refine ⟨(hs.2 p.1 ?_).trans e, n, ne, nf, d⟩
      intro q
      rw [q, hoc] at e
      have q' : oc = p.2 := Option.some.inj e
      exact d w' (by rw [← q']; exact hocd)
theorem store_ok {M : Model} {A : Around} {E : Value → Shared → Prop} {i : Nat} {x : Str} {v : V} {u : Value} {Q : Unit → Shared → Prop} (I : Inv X pins σ H s) (hN : X.N.Nodup) (hi : X.N[i]? = some x) (hx : Loc X.env.scope x) (r : RelV v u)
    (h : ∀ s', Inv X pins (σ.set i (some v)) H s' → Q () s') (hf : X.fn x = true ∨ X.env.scope.names.lookup x = some .local := by first | exact .inl rfl | exact .inr rfl | assumption) : wpAny M A (storeName X.env x u) Q E s :=
  store_ok2 I hN hi hx r (fun s' I' _ => h s' I') hf
/-- behind a call or a block, the state as it is -/
theorem Inv.call' {s' : Shared} {ch : List Addr} (I : Inv X pins σ H s) (ho : s'.os = s.os) (u : Un (frs X.stack) ch H H' s.heap s'.heap) (hok : HOk X.prog X.w H' s'.heap) (hg : AllBare s'.gens)
    (hch : ∀ b ∈ ch, (b ∈ X.ex ∨ X.s₀.heap.objs.size ≤ b) ∧ b ≠ X.env.locals ∧ (∀ x c, X.env.cells.lookup x = some c → c ≠ b) ∧ ∀ p ∈ X.pn ++ pins, p.1 ≠ b) : Inv X pins σ H' s' := by
  obtain ⟨h', g', d', t', o'⟩ := s'
  have e : o' = s.os := ho
  subst e
  exact I.call (g' := g') (t' := t') (d' := d') u hok hg hch
end

/-- an exception: its class, its own dict's address (where it has one), the abstract heap behind it -/
noncomputable abbrev XK := Value → Option Addr → Hp → Prop
noncomputable abbrev St := List (Option V)
noncomputable abbrev VK := V → Hp → Prop
/-- an expression's reading; a test's; an argument list's -/
noncomputable abbrev TE := St → Hp → VK → Prop
noncomputable abbrev TT := St → Hp → (Bool → Hp → Prop) → Prop
noncomputable abbrev TA := St → Hp → (List V → Hp → Prop) → Prop
/-- what is wanted behind a statement -/
structure Ends where
  nx : St → Hp → Prop
  rt : VK
  bk : St → Hp → Prop := fun _ _ => False
  ct : St → Hp → Prop := fun _ _ => False
noncomputable abbrev TS := Ends → St → Hp → Prop

noncomputable def EP (X : Cx) (pins : List (Addr × Obj)) (σ : St) (Q : VK) (u : Value) (s' : Shared) : Prop := ∃ v H', Inv X pins σ H' s' ∧ RelV v u ∧ Q v H'
noncomputable def TP (X : Cx) (pins : List (Addr × Obj)) (σ : St) (Q : Bool → Hp → Prop) (b : Bool) (s' : Shared) : Prop := ∃ H', Inv X pins σ H' s' ∧ Q b H'
noncomputable def AP (X : Cx) (pins : List (Addr × Obj)) (σ : St) (Q : List V → Hp → Prop) (us : List Value) (s' : Shared) : Prop := ∃ vs H', Inv X pins σ H' s' ∧ Vals vs us ∧ Q vs H'
noncomputable def SP (X : Cx) (pins : List (Addr × Obj)) (D : Ends) (f : Flow) (s' : Shared) : Prop :=
  match f with
  | .next => ∃ σ' H', Inv X pins σ' H' s' ∧ D.nx σ' H'
  | .brk => ∃ σ' H', Inv X pins σ' H' s' ∧ D.bk σ' H'
  | .cont => ∃ σ' H', Inv X pins σ' H' s' ∧ D.ct σ' H'
  | .ret u => ∃ v σ' H', Inv X pins σ' H' s' ∧ RelV v u ∧ D.rt v H'

noncomputable def PE (X : Cx) (e : Expr) (t : TE) : Prop :=
  ∀ (pins : List (Addr × Obj)) (s : Shared) (σ : St) (H : Hp) (Q : VK), Inv X pins σ H s → t σ H Q → wpAny (model X.prog X.w) X.A (eval e X.env) (EP X pins σ Q) X.xe s
noncomputable def PT (X : Cx) (e : Expr) (t : TT) : Prop :=
  ∀ (pins : List (Addr × Obj)) (s : Shared) (σ : St) (H : Hp) (Q : Bool → Hp → Prop), Inv X pins σ H s → t σ H Q → wpAny (model X.prog X.w) X.A (isTrue e X.env (eval e X.env)) (TP X pins σ Q) X.xe s
/-- a test whatever its 'whole' is (and, or) -/
noncomputable def PW (X : Cx) (e : Expr) (t : TT) : Prop :=
  ∀ (whole : Sem Value) (pins : List (Addr × Obj)) (s : Shared) (σ : St) (H : Hp) (Q : Bool → Hp → Prop), Inv X pins σ H s → t σ H Q → wpAny (model X.prog X.w) X.A (isTrue e X.env whole) (TP X pins σ Q) X.xe s
theorem PW.pt {X : Cx} {e : Expr} {t : TT} (h : PW X e t) : PT X e t := h _
/-- an argument list (no star), from the left -/
noncomputable def PA (X : Cx) (es : List Expr) (t : TA) : Prop :=
  ∀ (pos : Pos) (pins : List (Addr × Obj)) (s : Shared) (σ : St) (H : Hp) (Q : List V → Hp → Prop), Inv X pins σ H s → t σ H Q → wpAny (model X.prog X.w) X.A (spliced (backTo pos (starEach es X.env))) (AP X pins σ Q) X.xe s
noncomputable def PS (X : Cx) (st : Stmt) (t : TS) : Prop :=
  ∀ (pins : List (Addr × Obj)) (s : Shared) (σ : St) (H : Hp) (D : Ends), Inv X pins σ H s → t D σ H → wpAny (model X.prog X.w) X.A (exec st X.env) (SP X pins D) X.xe s
noncomputable def PSs (X : Cx) (st : List Stmt) (t : TS) : Prop :=
  ∀ (pins : List (Addr × Obj)) (s : Shared) (σ : St) (H : Hp) (D : Ends), Inv X pins σ H s → t D σ H → wpAny (model X.prog X.w) X.A (execs st X.env) (SP X pins D) X.xe s
/-- weaken the end -/
theorem thn {α : Type} {t : Sem α} {Q Q' : α → Shared → Prop} {M : Model} {A : Around} {E : Value → Shared → Prop} {s : Shared} (h : wpAny M A t Q E s) (hQ : ∀ a s, Q a s → Q' a s) : wpAny M A t Q' E s := wpAny_mono h hQ fun _ _ x => x
end L2

namespace L2
open PySem PySem.Spec PyProof.Rows
section
variable {X : Cx}

noncomputable def tVar (i : Nat) : TE := fun σ H Q => ∃ v, σ[i]? = some (some v) ∧ Q v H
noncomputable def tC (v : V) : TE := fun _ H Q => Q v H
theorem pe_var {i : Nat} {x : Str} {pos : Pos} (hN : X.N[i]? = some x) (hv : Vis X.env.scope x) (hd : (x == ("__debug__" : Str)) = false := by decide) (hcd : (x == ("__classdict__" : Str)) = false := by decide) : PE X (.Name x pos) (tVar i) := by
  intro pins s σ H Q I h
  obtain ⟨v, e, h⟩ := h
  obtain ⟨m, hn, hl⟩ := I.loc
  obtain ⟨u, r, l⟩ := hl i x v hN e hv
  have fin : EP X pins σ Q u s := ⟨v, H, I, r, h⟩
  rcases l with ⟨hk, hm⟩ | ⟨hk, c, hc, hcell⟩
  · exact wpAny_Name (wpAny_loadName_local I.ok.kind hk hn hm fin) hd
  · rcases hk with hk | hk
    · exact wpAny_Name (wpAny_loadName_cell I.ok.kind hk hc hcell fin) hd
    · exact wpAny_Name (wpAny_loadName_free I.ok.kind hk hc hcell fin hcd) hd
theorem pe_int {i j pos} : PE X (.Constant (.int i) j pos) (tC (.int i)) := fun _ _ _ H _ I h => wpAny_Constant_int ⟨.int i, H, I.tok _, ⟨_, rfl⟩, h⟩
theorem pe_bl {b j pos} : PE X (.Constant (.bool b) j pos) (tC (.bl b)) := fun _ _ _ H _ I h => Constant_bool ⟨.bl b, H, I, rfl, h⟩
theorem pe_non {j pos} : PE X (.Constant .none j pos) (tC .non) := fun _ _ _ H _ I h => Constant_none ⟨.non, H, I, rfl, h⟩
theorem pe_str {x j pos} : PE X (.Constant (.str x) j pos) (tC (.str x)) := fun _ _ _ H _ I h => Calls.Constant_str ⟨.str x, H, I.tok _, ⟨_, rfl⟩, h⟩

/-- a global name of the def -/
noncomputable def Gl (X : Cx) (x : Str) : Prop := X.env.kindOf x = some .globalImplicit
theorem ld_glob {E : Value → Shared → Prop} {pins : List (Addr × Obj)} {s : Shared} {σ : St} {H : Hp} {x : Str} {u : Value} {pos : Pos} {Q : Value → Shared → Prop} (I : Inv X pins σ H s) (hg : Gl X x) (hm : X.mg x = some u) (h : Q u s)
    (hd : (x == ("__debug__" : Str)) = false := by decide) : wpAny (model X.prog X.w) X.A (eval (.Name x pos) X.env) Q E s :=
  Calls.Name_function_global I.ok.kind hg (Calls.loadGlobal_global (by rw [I.ok.glob]; exact I.mod.glob.keeps I.bk) hm h) hd
theorem ld_blt {E : Value → Shared → Prop} {pins : List (Addr × Obj)} {s : Shared} {σ : St} {H : Hp} {x : Str} {u : Value} {pos : Pos} {Q : Value → Shared → Prop} (I : Inv X pins σ H s) (hg : Gl X x) (hm : X.mg x = none) (hv : bootBuiltins x = some u) (h : Q u s)
    (hn : x ≠ "__name__" := by decide) (hd : (x == ("__debug__" : Str)) = false := by decide) : wpAny (model X.prog X.w) X.A (eval (.Name x pos) X.env) Q E s := by
  obtain ⟨mb, h1, h2⟩ := I.mod.blt
  exact Calls.Name_function_global I.ok.kind hg (Calls.loadGlobal_builtin (by rw [I.ok.glob]; exact I.mod.glob.keeps I.bk) hm (by rw [I.ok.blt]; exact h1.keeps I.bk) ((h2 x hn).trans hv) h) hd
theorem pe_bltn {x : Str} {v : V} {u : Value} {pos : Pos} (hg : Gl X x) (hm : X.mg x = none) (hv : bootBuiltins x = some u) (r : RelV v u) (hn : x ≠ "__name__" := by decide) (hd : (x == ("__debug__" : Str)) = false := by decide) : PE X (.Name x pos) (tC v) :=
  fun _ _ _ H _ I h => ld_blt I hg hm hv ⟨v, H, I, r, h⟩ hn hd

variable {a b : Expr} {ta tb : TE} {pos : Pos}
variable {tA tB' : TT} {rest : List Expr}
noncomputable def tOr (t u : TT) : TT := fun σ H Q => t σ H fun c H1 => if c = true then Q true H1 else u σ H1 Q
noncomputable def tNot (t : TT) : TT := fun σ H Q => t σ H fun c H1 => Q (!c) H1
theorem pw_or1 (ha : PT X a tA) : PW X (.BoolOp .Or [a] pos) tA := by
  intro wh pins s σ H Q I h
  refine isTrue_or (thn (ha pins s σ H Q I h) fun c s1 e => ?_)
  cases c with
  | false => exact isTrue_or_nil e
  | true => exact e
theorem pw_or (ha : PT X a tA) (hb : PW X (.BoolOp .Or (b :: rest) pos) tB') : PW X (.BoolOp .Or (a :: b :: rest) pos) (tOr tA tB') := by
  intro wh pins s σ H Q I h
  refine isTrue_or (thn (ha pins s σ H _ I h) fun c s1 ⟨H1, I1, q1⟩ => ?_)
  cases c with
  | true => exact ⟨H1, I1, q1⟩
  | false => exact hb wh pins s1 σ H1 Q I1 q1
theorem pt_not (ha : PT X a tA) : PT X (.UnaryOp .Not a pos) (tNot tA) := by
  intro pins s σ H Q I h
  exact isTrue_not (ha pins s σ H (fun c H1 => Q (!c) H1) I h)
/-- .. as values (bools) -/
noncomputable def tAndV (ta tb : TE) : TE := fun σ H Q => ta σ H fun x H1 => ∃ c, x = .bl c ∧ if c = true then tb σ H1 Q else Q (.bl false) H1
noncomputable def tNotV (ta : TE) : TE := fun σ H Q => ta σ H fun x H1 => ∃ c, x = .bl c ∧ Q (.bl (!c)) H1
theorem pe_one {op} {t : TE} (h : PE X a t) : PE X (.BoolOp op [a] pos) t := fun pins s σ H Q I hw => BoolOp_one (h pins s σ H Q I hw)
theorem pe_and (ha : PE X a ta) (hb : PE X (.BoolOp .And (b :: rest) pos) tb) : PE X (.BoolOp .And (a :: b :: rest) pos) (tAndV ta tb) := by
  intro pins s σ H Q I h
  refine BoolOp_and (thn (ha pins s σ H _ I h) fun v s1 ⟨x, H1, I1, r1, q1⟩ => ?_)
  obtain ⟨c, rfl, q1⟩ := q1
  cases r1
  refine wpAny_truthy_bool ?_
  cases c with
  | true => exact hb pins s1 σ H1 Q I1 q1
  | false => exact ⟨.bl false, H1, I1, rfl, q1⟩
theorem pe_not (ha : PE X a ta) : PE X (.UnaryOp .Not a pos) (tNotV ta) := by
  intro pins s σ H Q I h
  refine UnaryOp_ (thn (ha pins s σ H _ I h) fun v s1 ⟨x, H1, I1, r1, q1⟩ => ?_)
  obtain ⟨c, rfl, q1⟩ := q1
  cases r1
  exact not_of (wpAny_truthy_bool ⟨.bl (!c), H1, I1, rfl, q1⟩)
end
end L2

namespace L2
open PySem PySem.Spec PyProof.Rows

noncomputable def SqL (K : PySem.W.Frag) (H : Hp) (a : Addr) (xs : List V) : Prop :=
  Rd H a (.lst xs) ∨
    ∃ (o : Obj) (its : Array Value) (n : Nat), K.lookup a = some o ∧ o.cls = .type "list" ∧ o.dict = none ∧ o.data = .seq its n ∧ its.size ≤ sizeLine ∧ Vals xs its.toList
noncomputable def SqT (K : PySem.W.Frag) (H : Hp) (a : Addr) (xs : List V) : Prop :=
  Rd H a (.tup xs) ∨
    ∃ (o : Obj) (its : Array Value) (n : Nat), K.lookup a = some o ∧ o.cls = .type "tuple" ∧ o.data = .seq its n ∧ its.size ≤ sizeLine ∧ Vals xs its.toList
noncomputable def absV : Value → Option V
  | .none => some .non
  | .bool b => some (.bl b)
  | .int i _ => some (.int i)
  | .str x _ => some (.str x)
  | .bytes b _ => some (.byt b)
  | .float b _ => some (.flt b)
  | .ref a => some (.ref a)
  | .type n => some (.ty n)
  | _ => none
theorem RelV.abs {x : V} {u : Value} (r : RelV x u) : absV u = some x := by
  cases x with
  | non => cases r; rfl
  | bl _ => cases r; rfl
  | int _ => obtain ⟨t, rfl⟩ := r; rfl
  | str _ => obtain ⟨t, rfl⟩ := r; rfl
  | byt _ => obtain ⟨t, rfl⟩ := r; rfl
  | flt _ => obtain ⟨t, rfl⟩ := r; rfl
  | ref _ => cases r; rfl
  | ty _ => cases r; rfl
theorem RelV.inj {x y : V} {u : Value} (r : RelV x u) (q : RelV y u) : x = y := Option.some.inj (r.abs.symm.trans q.abs)
theorem Vals.inj : ∀ {xs ys : List V} {us : List Value}, Vals xs us → Vals ys us → xs = ys
  | _, _, _, .nil, .nil => rfl
  | _, _, _, .cons r t, .cons r' t' => by rw [r.inj r', Vals.inj t t']
section
variable {X : Cx} {pins : List (Addr × Obj)} {σ : St} {H : Hp} {s : Shared} {a : Addr} {xs ys : List V}
theorem SqL.of {K : PySem.W.Frag} (h : H a = some (.lst xs)) : SqL K H a xs := .inl (.inl h)
theorem SqT.of {K : PySem.W.Frag} (h : H a = some (.tup xs)) : SqT K H a xs := .inl (.inl h)
theorem Inv.list (I : Inv X pins σ H s) (h : SqL X.K H a xs) : ∃ its : List Value, Vals xs its ∧ PlainL s.heap a its.toArray ∧ xs.length ≤ sizeLine := by
  rcases h with h | ⟨o, its, n, hk, hc, hd, hs, hz, r⟩
  · obtain ⟨z, its, n, r, e⟩ := h.ok I.hok
    exact ⟨its, r, ⟨_, n, e, rfl, rfl, rfl⟩, z⟩
  · refine ⟨its.toList, r, ⟨o, n, I.kIn a o hk, hc, hd, by simpa using hs⟩, ?_⟩
    have e := r.length
    simp only [Array.length_toList] at e
    omega
theorem Inv.tuple (I : Inv X pins σ H s) (h : SqT X.K H a xs) : ∃ its : List Value, Vals xs its ∧ IsTup s.heap a its.toArray ∧ xs.length ≤ sizeLine := by
  rcases h with h | ⟨o, its, n, hk, hc, hs, hz, r⟩
  · obtain ⟨z, its, r, p⟩ := h.ok I.hok
    exact ⟨its, r, p.1, z⟩
  · refine ⟨its.toList, r, ⟨o, I.kIn a o hk, hc, n, by simpa using hs⟩, ?_⟩
    have e := r.length
    simp only [Array.length_toList] at e
    omega
theorem Inv.list_inj (I : Inv X pins σ H s) (h : SqL X.K H a xs) (h' : SqL X.K H a ys) : xs = ys := by
  obtain ⟨its, r, ⟨o, n, e, _, _, d⟩, _⟩ := I.list h
  obtain ⟨its', r', ⟨o', n', e', _, _, d'⟩, _⟩ := I.list h'
  rw [e] at e'; cases e'
  rw [d] at d'
  injection d' with d1 _
  have : its = its' := by simpa using congrArg Array.toList d1
  subst this
  exact r.inj r'
theorem Inv.tuple_inj (I : Inv X pins σ H s) (h : SqT X.K H a xs) (h' : SqT X.K H a ys) : xs = ys := by
  obtain ⟨its, r, ⟨o, e, _, n, d⟩, _⟩ := I.tuple h
  obtain ⟨its', r', ⟨o', e', _, n', d'⟩, _⟩ := I.tuple h'
  rw [e] at e'; cases e'
  rw [d] at d'
  injection d' with d1 _
  have : its = its' := by simpa using congrArg Array.toList d1
  subst this
  exact r.inj r'
end

noncomputable abbrev Cx.wish (X : Cx) (E : Value → Shared → Prop) : Cx := { X with xe := E }
/-- no exception leaves -/
noncomputable abbrev Cx.nox (X : Cx) : Cx := X.wish fun _ _ => False
theorem Cx.Ok.wish {X : Cx} (ok : X.Ok) (E : Value → Shared → Prop) : (X.wish E).Ok :=
  ⟨ok.mod, ok.kind, ok.glob, ok.blt, ok.above, ok.inj, ok.has, ok.cab, ok.hd, ok.frames, ok.stk, ok.exf, ok.bs, ok.bsz, ok.noex, ok.exfs, ok.funs, ok.frf⟩
theorem Cx.Ok.unwish {X : Cx} {E : Value → Shared → Prop} (ok : (X.wish E).Ok) : X.Ok :=
  ⟨ok.mod, ok.kind, ok.glob, ok.blt, ok.above, ok.inj, ok.has, ok.cab, ok.hd, ok.frames, ok.stk, ok.exf, ok.bs, ok.bsz, ok.noex, ok.exfs, ok.funs, ok.frf⟩
section
variable {X : Cx} {pins : List (Addr × Obj)} {σ : St} {H : Hp} {s : Shared} {E : Value → Shared → Prop}
theorem Inv.wish (I : Inv X pins σ H s) (E : Value → Shared → Prop) : Inv (X.wish E) pins σ H s := ⟨I.ok.wish E, I.os, I.bare, I.base, I.loc, I.cell, I.free, I.freeC, I.pin, I.hok, I.len⟩
theorem Inv.unwish (I : Inv (X.wish E) pins σ H s) : Inv X pins σ H s := ⟨I.ok.unwish, I.os, I.bare, I.base, I.loc, I.cell, I.free, I.freeC, I.pin, I.hok, I.len⟩
theorem SP.unwish {D : Ends} {f : Flow} {s' : Shared} (h : SP (X.wish E) pins D f s') : SP X pins D f s' := by
  cases f with
  | next => obtain ⟨σ', H', I, q⟩ := h; exact ⟨σ', H', I.unwish, q⟩
  | brk => obtain ⟨σ', H', I, q⟩ := h; exact ⟨σ', H', I.unwish, q⟩
  | cont => obtain ⟨σ', H', I, q⟩ := h; exact ⟨σ', H', I.unwish, q⟩
  | ret u => obtain ⟨v, σ', H', I, r, q⟩ := h; exact ⟨v, σ', H', I.unwish, r, q⟩
theorem PSs.nox {st : List Stmt} {t : TS} (h : PSs X.nox st t) : PSs X st t := fun pins s σ H D I hw =>
  wpAny_mono (h pins s σ H D (I.wish _) hw) (fun _ _ q => q.unwish) fun _ _ z => False.elim z
end

section
variable {X : Cx} {st : Stmt} {rest : List Stmt} {t u : TS} {e : Expr} {te : TE} {pos : Pos}
noncomputable def tNext : TS := fun D σ H => D.nx σ H
noncomputable def tSeq (t u : TS) : TS := fun D σ H => t { D with nx := u D } σ H
theorem pss_nil : PSs X [] tNext := fun _ _ σ H _ I h => wpAny_execs_nil ⟨σ, H, I, h⟩
theorem pss_cons (h1 : PS X st t) (h2 : PSs X rest u) : PSs X (st :: rest) (tSeq t u) := by
  intro pins s σ H D I h
  refine wpAny_execs_cons (thn (h1 pins s σ H { D with nx := u D } I h) fun f s1 q => ?_)
  cases f with
  | next =>
    obtain ⟨σ', H', I', q⟩ := q
    exact h2 pins s1 σ' H' D I' q
  | ret v => exact q
  | brk => exact q
  | cont => exact q
theorem pss_one (h1 : PS X st t) : PSs X [st] t := by
  intro pins s σ H D I h
  refine wpAny_execs_cons (thn (h1 pins s σ H D I h) fun f s1 q => ?_)
  cases f with
  | next => exact wpAny_execs_nil q
  | ret v => exact q
  | brk => exact q
  | cont => exact q
/-- in a def's body nothing is shown -/
theorem Inv.quiet {pins : List (Addr × Obj)} {σ : St} {H : Hp} {s : Shared} (I : Inv X pins σ H s) : interactive X.env = false := by simp [interactive, I.ok.kind]
/-- an expression whose value is dropped -/
noncomputable def tDrop (te : TE) : TS := fun D σ H => te σ H fun _ H1 => D.nx σ H1
theorem ps_expr (he : PE X e te) (hs : swapsWith e none pos.line X.env = pure false := by rfl) : PS X (.Expr e pos) (tDrop te) := by
  intro pins s σ H D I h
  exact wpAny_Expr_any (thn (he pins s σ H _ I h) fun v s1 ⟨x, H1, I1, r1, q1⟩ => ⟨σ, H1, I1, q1⟩) I.quiet hs
noncomputable def tRet (te : TE) : TS := fun D σ H => te σ H D.rt
theorem ps_ret (he : PE X e te) : PS X (.Return (some e) pos) (tRet te) := by
  intro pins s σ H D I h
  exact wpAny_Return_some (thn (he pins s σ H _ I h) fun v s1 ⟨x, H1, I1, r1, q1⟩ => ⟨x, σ, H1, I1, r1, q1⟩)
noncomputable def tIfS (c : TT) (t u : TS) : TS := fun D σ H => c σ H fun b H1 => if b = true then t D σ H1 else u D σ H1
theorem ps_if {c : Expr} {a b : List Stmt} {tc : TT} (hc : PT X c tc) (ha : PSs X a t) (hb : PSs X b u) : PS X (.If c a b pos) (tIfS tc t u) := by
  intro pins s σ H D I h
  refine wpAny_If (thn (hc pins s σ H _ I h) fun d s1 ⟨H1, I1, q1⟩ => ?_)
  cases d with
  | true => exact ha pins s1 σ H1 D I1 q1
  | false => exact hb pins s1 σ H1 D I1 q1
/-- code that the proof never comes to -/
noncomputable def tNever : TS := fun _ _ _ => False
theorem ps_never : PS X st tNever := fun _ _ _ _ _ _ h => h.elim
end

noncomputable abbrev TG := V → St → Hp → (St → Hp → Prop) → Prop
noncomputable abbrev TGs := List V → St → Hp → (St → Hp → Prop) → Prop
noncomputable def PG (X : Cx) (target : Expr) (t : TG) : Prop :=
  ∀ (pins : List (Addr × Obj)) (s : Shared) (σ : St) (H : Hp) (v : V) (u : Value) (Q : St → Hp → Prop), Inv X pins σ H s → RelV v u → t v σ H Q →
    wpAny (model X.prog X.w) X.A (assign target X.env u) (fun _ s' => ∃ σ' H', Inv X pins σ' H' s' ∧ Q σ' H') X.xe s
/-- several targets, one after another -/
noncomputable def PGs (X : Cx) (ts : List Expr) (t : TGs) : Prop :=
  ∀ (pins : List (Addr × Obj)) (s : Shared) (σ : St) (H : Hp) (vs : List V) (us : List Value) (Q : St → Hp → Prop), Inv X pins σ H s → Vals vs us → t vs σ H Q →
    wpAny (model X.prog X.w) X.A (assignInOrder ((assignEach ts X.env).map (·.2)) us) (fun _ s' => ∃ σ' H', Inv X pins σ' H' s' ∧ Q σ' H') X.xe s
/-- a op= b, by values -/
noncomputable abbrev TIp := V → V → Hp → VK → Prop
noncomputable def PIp (X : Cx) (op : Operator) (t : TIp) : Prop :=
  ∀ (pins : List (Addr × Obj)) (s : Shared) (σ : St) (H : Hp) (x y : V) (v u : Value) (Q : VK), Inv X pins σ H s → RelV x v → RelV y u → t x y H Q →
    wpAny (model X.prog X.w) X.A (inplaceOp op v u) (EP X pins σ Q) X.xe s
section
variable {X : Cx} {pos : Pos}
noncomputable def gName (i : Nat) : TG := fun v σ H Q => Q (σ.set i (some v)) H
theorem pg_name {i : Nat} {x : Str} (hN : X.N.Nodup) (hi : X.N[i]? = some x) (hx : Loc X.env.scope x) (hf : X.fn x = true ∨ X.env.scope.names.lookup x = some .local := by first | exact .inl rfl | exact .inr rfl | assumption) : PG X (.Name x pos) (gName i) := by
  intro pins s σ H v u Q I r h
  exact wpAny_assign_Name (store_ok I hN hi hx r (fun s' I' => ⟨_, H, I', h⟩) hf)
noncomputable def gNil : TGs := fun vs σ H Q => vs = [] ∧ Q σ H
noncomputable def gCons (t : TG) (u : TGs) : TGs := fun vs σ H Q => ∃ v r, vs = v :: r ∧ t v σ H fun σ' H' => u r σ' H' Q
theorem pgs_nil : PGs X [] gNil := by
  intro pins s σ H vs us Q I r h
  obtain ⟨e, h⟩ := h
  subst e
  cases r
  exact assignInOrder_nil ⟨σ, H, I, h⟩
theorem pgs_cons {e : Expr} {es : List Expr} {t : TG} {u : TGs} (h1 : PG X e t) (h2 : PGs X es u)
    (hs : (assignEach (e :: es) X.env).map (·.2) = assign e X.env :: (assignEach es X.env).map (·.2) := by rfl) : PGs X (e :: es) (gCons t u) := by
  intro pins s σ H vs us Q I r h
  obtain ⟨v, vr, e1, h⟩ := h
  subst e1
  cases r with
  | cons r rr =>
    rw [hs]
    refine assignInOrder_cons (thn (h1 pins s σ H _ _ _ I r h) fun _ s1 ⟨σ1, H1, I1, q1⟩ => ?_)
    exact h2 pins s1 σ1 H1 _ _ Q I1 rr q1
/-- (a, b, ..) = a tuple of that length -/
noncomputable def gTup (K : PySem.W.Frag) (n : Nat) (t : TGs) : TG := fun v σ H Q => ∃ a xs, v = .ref a ∧ SqT K H a xs ∧ xs.length = n ∧ t xs σ H Q
theorem pg_tup {es : List Expr} {k : Nat} {t : TGs} {n : Nat} (hc : X.calm = true) (h : PGs X es t)
    (hn : (assignEach es X.env).length = n := by rfl) (hst : (assignEach es X.env).findIdx? (·.1) = none := by rfl) : PG X (.Tuple es k pos) (gTup X.K n t) := by
  intro pins s σ H v u Q I r hw
  obtain ⟨a, xs, e1, hq, hl, hw⟩ := hw
  subst e1
  cases r
  obtain ⟨its, rv, ht, hz⟩ := I.tuple hq
  refine assign_Tuple_tuple (I.ok.hd hc) ht (by simp [hn, ← hl, rv.length]) hst fun h' hx => ?_
  have I1 : Inv X pins σ H { s with heap := h' } := I.kept (t' := s.toks) fun b o e => hx b o (Nat.ne_of_lt (Heap.lt_size e)) e
  exact h pins _ σ H xs _ Q I1 (by simpa using rv) hw
/-- target = value -/
noncomputable def tAsg (te : TE) (g : TG) : TS := fun D σ H => te σ H fun x H1 => g x σ H1 D.nx
theorem ps_asg {tg e : Expr} {te : TE} {g : TG} (he : PE X e te) (hg : PG X tg g) (hs : swapsWithSole [tg] e pos.line X.env = pure false := by rfl) (hw : swappedStores [tg] e X.env = pure none := by rfl)
    (h1 : (assignEach [tg] X.env).map (·.2) = [assign tg X.env] := by rfl) : PS X (.Assign [tg] e pos) (tAsg te g) := by
  intro pins s σ H D I h
  refine wpAny_Assign_stores (thn (he pins s σ H _ I h) fun v s1 ⟨x, H1, I1, r1, q1⟩ => ?_) hs hw
  rw [h1]
  exact thn (hg pins s1 σ H1 x v _ I1 r1 q1) fun _ s2 q => q
/-- name = value -/
theorem ps_set {i : Nat} {x : Str} {e : Expr} {te : TE} {pos' : Pos} (hN : X.N.Nodup) (hi : X.N[i]? = some x) (hx : Loc X.env.scope x) (he : PE X e te) (hs : swapsWith e (some (.Name x pos')) pos.line X.env = pure false := by rfl) (hf : X.fn x = true ∨ X.env.scope.names.lookup x = some .local := by first | exact .inl rfl | exact .inr rfl | assumption) :
    PS X (.Assign [.Name x pos'] e pos) (tAsg te (gName i)) := by
  intro pins s σ H D I h
  refine wpAny_Assign_Name (thn (he pins s σ H _ I h) fun v s1 ⟨y, H1, I1, r1, q1⟩ => ?_) hs
  exact store_ok I1 hN hi hx r1 (fun s2 I2 => ⟨_, H1, I2, q1⟩) hf
/-- a, b = x, y with plain local names: stored from the right; the pair itself is not tracked (the opening rows as in PyProof/Rows/TupAssign.lean:23) -/
noncomputable def tPar (i j : Nat) (ta : TA) : TS := fun D σ H => ta σ H fun vs H1 => ∃ v w, vs = [v, w] ∧ D.nx ((σ.set i (some v)).set j (some w)) H1
theorem ps_par {i j : Nat} {x y : Str} {a b : Expr} {ta : TA} {px py pt : Pos} {kt k2 pt2} (hc : X.calm = true) (hN : X.N.Nodup) (hi : X.N[i]? = some x) (hj : X.N[j]? = some y) (hij : i ≠ j)
    (hx : X.env.scope.names.lookup x = some .local) (hy : X.env.scope.names.lookup y = some .local) (ha : PA X [a, b] ta)
    (hw : swappedStores [.Tuple [.Name x px, .Name y py] kt pt] (.Tuple [a, b] k2 pt2) X.env = pure (some [x, y]))
    (hs : swapsWithSole [.Tuple [.Name x px, .Name y py] kt pt] (.Tuple [a, b] k2 pt2) pos.line X.env = pure false := by rfl) :
    PS X (.Assign [.Tuple [.Name x px, .Name y py] kt pt] (.Tuple [a, b] k2 pt2) pos) (tPar i j ta) := by
  intro pins s σ H D I h
  rw [exec_Assign_arm]
  refine wpAny_bind (wpAny_standAt ?_)
  rw [hs]
  refine wpAny_bind (wpAny_pure ?_)
  rw [if_neg (by decide)]
  refine wpAny_bind (Tuple_ (thn (ha _ pins s σ H _ I h) fun us s1 ⟨vs, H1, I1, r1, q1⟩ => ?_))
  obtain ⟨v, w, e1, q1⟩ := q1
  subst e1
  obtain ⟨u1, u2, rfl, rv, rw'⟩ : ∃ u1 u2, us = [u1, u2] ∧ RelV v u1 ∧ RelV w u2 := by
    cases r1 with
    | cons p q =>
      cases q with
      | cons p' q' =>
        cases q'
        exact ⟨_, _, rfl, p, p'⟩
  refine wpAny_newObj_type ?_ (by show 2 ≤ sizeLine; decide)
  have I2 : Inv X pins σ H1 { s1 with heap := s1.heap.push { cls := .type "tuple", data := .seq [u1, u2].toArray } } := I1.kept (t' := s1.toks) fun b o e => Heap.get?_push_of_some _ e
  rw [hw]
  refine wpAny_bind (wpAny_pure ?_)
  show wpAny (model X.prog X.w) X.A (do rule "assign.swapped-stores"; let items ← unpackItems (.ref s1.heap.objs.size) 2 none; assignInOrder [fun v => bindName X.env y v, fun v => bindName X.env x v] items.reverse; pure Flow.next) _ _ _
  refine wpAny_bind (wpAny_rule (wpAny_bind (unpackItems_tuple (items := #[u1, u2]) (I.ok.hd hc) (IsTup.new s1.heap _) fun h' hx' => ?_)))
  have I3 := I2.kept (h' := h') (t' := s1.toks) fun b o e => hx' b o (Nat.ne_of_lt (Heap.lt_size e)) e
  show wpAny _ _ (assignInOrder [fun v => bindName X.env y v, fun v => bindName X.env x v] [u2, u1] >>= fun _ => pure Flow.next) _ _ _
  refine wpAny_bind (assignInOrder_cons (wpAny_bindName (store_ok I3 hN hj (.inl hy) rw' (fun s2 I4 => ?_) (.inr hy))))
  refine assignInOrder_cons (wpAny_bindName (store_ok I4 hN hi (.inl hx) rv (fun s3 I5 => assignInOrder_nil (wpAny_pure ?_)) (.inr hx)))
  rw [List.set_comm _ _ (Ne.symm hij)] at I5
  exact ⟨_, H1, I5, q1⟩
/-- name op= e -/
noncomputable def tAug (i : Nat) (te : TE) (ti : TIp) : TS := fun D σ H => ∃ x, σ[i]? = some (some x) ∧ te σ H fun y H1 => ti x y H1 fun z H2 => D.nx (σ.set i (some z)) H2
theorem ps_aug {i : Nat} {x : Str} {e : Expr} {te : TE} {op : Operator} {ti : TIp} {pos' : Pos} (hN : X.N.Nodup) (hi : X.N[i]? = some x) (hx : Loc X.env.scope x) (he : PE X e te) (ho : PIp X op ti) (hf : X.fn x = true ∨ X.env.scope.names.lookup x = some .local := by first | exact .inl rfl | exact .inr rfl | assumption) :
    PS X (.AugAssign (.Name x pos') op e pos) (tAug i te ti) := by
  intro pins s σ H D I h
  obtain ⟨v, e1, h⟩ := h
  obtain ⟨m, hn, hl⟩ := I.loc
  have vis : Vis X.env.scope x := by rcases hx with k | k; exact .inl k; exact .inr (.inl k)
  obtain ⟨u, r, l⟩ := hl i x v hi e1 vis
  refine wpAny_AugAssign_Name ?_
  have go : wpAny (model X.prog X.w) X.A (eval e X.env) (fun w s₂ => wpAny (model X.prog X.w) X.A (inplaceOp op u w) (fun r s₃ => wpAny (model X.prog X.w) X.A (storeName X.env x r) (fun _ => SP X pins D .next) X.xe s₃) X.xe s₂) X.xe s := by
    refine thn (he pins s σ H _ I h) fun w s1 ⟨y, H1, I1, r1, q1⟩ => ?_
    refine thn (ho pins s1 σ H1 v y u w _ I1 r r1 q1) fun z s2 ⟨zv, H2, I2, r2, q2⟩ => ?_
    exact store_ok I2 hN hi hx r2 (fun s3 I3 => ⟨_, H2, I3, q2⟩) hf
  rcases l with ⟨hk, hm⟩ | ⟨hk, c, hc, hcell⟩
  · exact wpAny_loadName_local I.ok.kind hk hn hm go
  · rcases hk with hk | hk
    · exact wpAny_loadName_cell I.ok.kind hk hc hcell go
    · rcases hx with k | k
      · have : X.env.scope.names.lookup x = some .free := hk
        rw [k] at this; cases this
      · have : X.env.scope.names.lookup x = some .free := hk
        rw [k] at this; cases this
/-- ints -/
noncomputable def ipI (f : Int → Int → Int) : TIp := fun x y H Q => ∃ i j, x = .int i ∧ y = .int j ∧ Q (.int (f i j)) H
theorem ip_add : PIp X .Add (ipI fun i j => i + j) := by
  intro pins s σ H x y v u Q I r1 r2 h
  obtain ⟨i, j, e1, e2, q⟩ := h
  subst e1; subst e2
  obtain ⟨t, rfl⟩ := r1
  obtain ⟨t', rfl⟩ := r2
  exact iadd_int ⟨.int _, H, I.tok _, ⟨_, rfl⟩, q⟩
end

section
variable {X : Cx} {pos : Pos}
/-- the invariant W with its measure -/
noncomputable def tWhile (c : TT) (tb : TS) : TS := fun D σ H => ∃ W : Nat → St → Hp → Prop, (∃ m, W m σ H) ∧ ∀ m σ H, W m σ H →
  c σ H fun b H1 => if b = true then ∃ N : St → Hp → Prop, (∀ σ' H', N σ' H' → ∃ m', m' < m ∧ W m' σ' H') ∧ tb { D with nx := N, ct := N, bk := D.nx } σ H1 else D.nx σ H1
theorem ps_while {c : Expr} {body : List Stmt} {tc : TT} {tb : TS} (hp : PassesOwn (model X.prog X.w) X.A X.env X.xe) (hc : PT X c tc) (hb : PSs X body tb) : PS X (.While c body [] pos) (tWhile tc tb) := by
  intro pins s σ H D I h
  obtain ⟨W, ⟨m0, w0⟩, turn⟩ := h
  refine wpAny_While (codeAny_whileLoop (fun n s' => ∃ σ' H', Inv X pins σ' H' s' ∧ W n σ' H') ?_ m0 ⟨σ, H, I, w0⟩)
  rintro n s1 ⟨σ1, H1, I1, w1⟩
  refine wpAny_passesOwn hp (thn (hc pins s1 σ1 H1 _ I1 (turn n σ1 H1 w1)) fun b s2 ⟨H2, I2, q2⟩ => ?_)
  cases b with
  | true =>
    obtain ⟨N, hN, q2⟩ := q2
    rw [if_pos rfl]
    refine wpAny_passesOwn hp (thn (hb pins s2 σ1 H2 _ I2 q2) fun f s3 q3 => ?_)
    cases f with
    | next =>
      obtain ⟨σ3, H3, I3, n3⟩ := q3
      obtain ⟨m', hm, w3⟩ := hN σ3 H3 n3
      exact ⟨m', hm, σ3, H3, I3, w3⟩
    | cont =>
      obtain ⟨σ3, H3, I3, n3⟩ := q3
      obtain ⟨m', hm, w3⟩ := hN σ3 H3 n3
      exact ⟨m', hm, σ3, H3, I3, w3⟩
    | brk => exact q3
    | ret v => exact q3
  | false =>
    rw [if_neg Bool.false_ne_true]
    exact wpAny_execs_nil ⟨σ1, H2, I2, q2⟩
end

/-- at turn i: it yields x (the heap may grow), or it stops -/
structure It where
  go : Nat → Hp → Prop
  yld : Nat → Hp → V → Hp → Prop
  stop : Nat → Hp → Prop
/-- the iterator's own objects may turn: they are not the frame's, not pinned, younger than the entry (or a comprehension's own) -/
noncomputable def FpOk (X : Cx) (pins : List (Addr × Obj)) (H : Hp) (b : Addr) : Prop :=
  H b = none ∧ b ≠ X.env.locals ∧ b ∉ X.fs ∧ (b ∈ X.ex ∨ X.s₀.heap.objs.size ≤ b) ∧ (∀ x c, X.env.cells.lookup x = some c → c ≠ b) ∧ ∀ p ∈ X.pn ++ pins, p.1 ≠ b
theorem Inv.fpOk {X : Cx} {pins : List (Addr × Obj)} {σ : St} {H H' : Hp} {s : Shared} {b : Addr} (I : Inv X pins σ H s) (hb : s.heap.objs.size ≤ b) (hn : H' b = none) : FpOk X pins H' b := by
  refine ⟨hn, Nat.ne_of_gt (Nat.lt_of_lt_of_le I.lt hb), I.nofs hb, .inr (Nat.le_trans I.sz hb), fun x c e z => ?_, fun p hp z => ?_⟩
  · obtain ⟨v, q⟩ := I.cell x c e
    exact absurd (Nat.lt_of_lt_of_le q.lt (by rw [z]; exact hb)) (Nat.lt_irrefl _)
  · exact absurd (Nat.lt_of_lt_of_le (Heap.lt_size (I.pin p hp).1) (by rw [z]; exact hb)) (Nat.lt_irrefl _)
structure Turn (P : Program) (w : World) (K : PySem.W.Frag) (tg : Expr) (J : It) (fp : List Addr) (it : Addr) (tn : Nat → Heap → Prop) : Prop where
  mem : it ∈ fp
  obj : ∀ i h, tn i h → ∀ b ∈ fp, ∃ o, h.get? b = some o ∧ ∀ v, o.data ≠ .cell v
  keep : ∀ i h h', tn i h → (∀ b ∈ fp, ∀ o, h.get? b = some o → h'.get? b = some o) → tn i h'
  item : ∀ (X : Cx), X.prog = P → X.w = w → X.K = K → X.calm = true → ∀ (i : Nat) (pins : List (Addr × Obj)) (s : Shared) (σ : St) (H : Hp) (E : Value → Shared → Prop), Inv X pins σ H s → (∀ b ∈ fp, FpOk X pins H b) → tn i s.heap → J.go i H →
    wpAny (model P w) X.A (pyNext (.ref it)) (fun r s1 => ∃ u, r = some u ∧
      wpAny (model P w) X.A (letOwnedTupleGo tg (.ref it) u) (fun _ s2 => ∃ x H', Inv X pins σ H' s2 ∧ RelV x u ∧ J.yld i H x H' ∧ tn (i + 1) s2.heap ∧ ∀ b ∈ fp, H' b = none) E s1) E s
  done : ∀ (X : Cx), X.prog = P → X.w = w → X.K = K → X.calm = true → ∀ (i : Nat) (pins : List (Addr × Obj)) (s : Shared) (σ : St) (H : Hp) (E : Value → Shared → Prop), Inv X pins σ H s → (∀ b ∈ fp, FpOk X pins H b) → tn i s.heap → J.stop i H →
    wpAny (model P w) X.A (pyNext (.ref it)) (fun r s1 => r = none ∧ Inv X pins σ H s1) E s
  self : ∀ (A : Around) (i : Nat) (s : Shared) (Q : Value → Shared → Prop) (E : Value → Shared → Prop), tn i s.heap → Q (.ref it) s → wpAny (model P w) A (pyIter (.ref it)) Q E s
noncomputable abbrev TI := St → Hp → (It → Hp → Prop) → Prop
/-- an iterator has come -/
noncomputable def PIE (X : Cx) (pins : List (Addr × Obj)) (σ : St) (tg : Expr) (R : It → Hp → Prop) (itv : Value) (s2 : Shared) : Prop :=
  ∃ (it : Addr) (fp : List Addr) (tn : Nat → Heap → Prop) (J : It) (H' : Hp), itv = .ref it ∧ Inv X pins σ H' s2 ∧ Turn X.prog X.w X.K tg J fp it tn ∧ tn 0 s2.heap ∧ (∀ b ∈ fp, FpOk X pins H' b) ∧ R J H'
noncomputable def PI (X : Cx) (tg iter : Expr) (wi : TI) : Prop :=
  ∀ (pins : List (Addr × Obj)) (s : Shared) (σ : St) (H : Hp) (R : It → Hp → Prop), Inv X pins σ H s → wi σ H R →
    wpAny (model X.prog X.w) X.A (eval iter X.env) (fun v s1 => wpAny (model X.prog X.w) X.A (pyIter v) (PIE X pins σ tg R) X.xe s1) X.xe s

/-- the step ahead of the store is nothing for an iterator that keeps no tuple -/
theorem go_of {M : Model} {A : Around} {E : Value → Shared → Prop} {s : Shared} {tg : Expr} {it : Addr} {u : Value} {o : Obj} {n : String} {vs : Array Value} {Q : Unit → Shared → Prop} (ho : s.heap.get? it = some o) (hc : o.cls = .type n) (hd : o.data = .fields vs)
    (hn : ["enumerate", "zip", "dict_itemiterator", "dict_reverseitemiterator", "odict_iterator", "itertools.zip_longest", "itertools.pairwise"].contains n = false) (hQ : Q () s) : wpAny M A (letOwnedTupleGo tg (.ref it) u) Q E s := by
  unfold letOwnedTupleGo
  cases tg <;> first
    | exact wpAny_pure hQ
    | (cases u <;> first
        | exact wpAny_pure hQ
        | (refine wpAny_bind (wpAny_load ho ?_)
           rw [hc, hd]
           show wpAny M A (if (["enumerate", "zip", "dict_itemiterator", "dict_reverseitemiterator", "odict_iterator", "itertools.zip_longest", "itertools.pairwise"].contains n && vs[0]? == some (rawInt _)) = true then _ else _) Q E s
           rw [if_neg (by intro h; rw [hn, Bool.false_and] at h; cases h)]
           exact wpAny_pure hQ))

/-- the list at a, as it stands at each turn (a loop may append to it) -/
noncomputable def Itl (K : PySem.W.Frag) (a : Addr) : It :=
  ⟨fun i H => ∃ xs x, SqL K H a xs ∧ xs[i]? = some x, fun i H x H' => H' = H ∧ ∀ xs, SqL K H a xs → xs[i]? = some x, fun i H => ∃ xs, SqL K H a xs ∧ xs.length ≤ i⟩
noncomputable def Itt (K : PySem.W.Frag) (a : Addr) : It :=
  ⟨fun i H => ∃ xs x, SqT K H a xs ∧ xs[i]? = some x, fun i H x H' => H' = H ∧ ∀ xs, SqT K H a xs → xs[i]? = some x, fun i H => ∃ xs, SqT K H a xs ∧ xs.length ≤ i⟩
/-- lo, lo + 1, .. (n of them) -/
noncomputable def Itr (lo : Int) (n : Nat) : It := ⟨fun i _ => i < n, fun i H x H' => H' = H ∧ x = .int (lo + i), fun i _ => n ≤ i⟩
theorem turn_list {P : Program} {w : World} {K : PySem.W.Frag} {tg : Expr} (a it : Addr) : Turn P w K tg (Itl K a) [it] it (fun i h => h.IsListIter it a i) where
  mem := by simp
  obj := fun i h st b hb => by
    have e : b = it := by simpa using hb
    subst e
    obtain ⟨o, e, c, d⟩ := st
    exact ⟨o, e, fun v z => by rw [d] at z; cases z⟩
  keep := fun i h h' st k => st.at fun o e => k it (by simp) o e
  item := by
    intro X hP hw hK hc i pins s σ H E I hf st hg
    subst hP hw hK
    obtain ⟨xs, x, hq, hx⟩ := hg
    obtain ⟨its, rv, p, hz⟩ := I.list hq
    obtain ⟨u, hu, ru⟩ := rv.get hx
    obtain ⟨f0, f1, f2, f3, f4, f5⟩ := hf it (by simp)
    refine wpAny_pyNext_list_item st p.isList (x := u) (by simpa using hu) fun h' st' sb => ?_
    have I1 : Inv X pins σ H { s with heap := h' } := I.turned (t' := s.toks) (fun b o hb e => (sb.2 b hb).trans e) f0 f1 f3 f4 f5
    obtain ⟨o, e, c, d⟩ := id st'
    exact ⟨u, rfl, go_of (s := { s with heap := h' }) e c d (by decide) ⟨x, H, I1, ru, ⟨rfl, fun ys hy => by rw [I.list_inj hy hq]; exact hx⟩, st', fun b hb => (hf b hb).1⟩⟩
  done := by
    intro X hP hw hK hc i pins s σ H E I hf st hg
    subst hP hw hK
    obtain ⟨xs, hq, hx⟩ := hg
    obtain ⟨its, rv, p, hz⟩ := I.list hq
    obtain ⟨f0, f1, f2, f3, f4, f5⟩ := hf it (by simp)
    have hl := rv.length
    exact wpAny_pyNext_list_end (I.ok.hd hc) st p.isList (by simp; omega) fun h' eb => ⟨rfl, I.turned (t' := s.toks) (fun b o hb e => eb b o hb e) f0 f1 f3 f4 f5⟩
  self := fun _ _ _ _ _ st h => wpAny_pyIter_listiter st h
theorem turn_tuple {P : Program} {w : World} {K : PySem.W.Frag} {tg : Expr} (a it : Addr) : Turn P w K tg (Itt K a) [it] it (fun i h => h.IsTupleIter it a i) where
  mem := by simp
  obj := fun i h st b hb => by
    have e : b = it := by simpa using hb
    subst e
    obtain ⟨o, e, c, d⟩ := st
    exact ⟨o, e, fun v z => by rw [d] at z; cases z⟩
  keep := fun i h h' st k => st.at fun o e => k it (by simp) o e
  item := by
    intro X hP hw hK hc i pins s σ H E I hf st hg
    subst hP hw hK
    obtain ⟨xs, x, hq, hx⟩ := hg
    obtain ⟨its, rv, p, hz⟩ := I.tuple hq
    obtain ⟨u, hu, ru⟩ := rv.get hx
    obtain ⟨f0, f1, f2, f3, f4, f5⟩ := hf it (by simp)
    refine wpAny_pyNext_tuple_item st (show s.heap.IsTuple a its.toArray from p) (x := u) (by simpa using hu) fun h' st' sb => ?_
    have I1 : Inv X pins σ H { s with heap := h' } := I.turned (t' := s.toks) (fun b o hb e => (sb.2 b hb).trans e) f0 f1 f3 f4 f5
    obtain ⟨o, e, c, d⟩ := id st'
    exact ⟨u, rfl, go_of (s := { s with heap := h' }) e c d (by decide) ⟨x, H, I1, ru, ⟨rfl, fun ys hy => by rw [I.tuple_inj hy hq]; exact hx⟩, st', fun b hb => (hf b hb).1⟩⟩
  done := by
    intro X hP hw hK hc i pins s σ H E I hf st hg
    subst hP hw hK
    obtain ⟨xs, hq, hx⟩ := hg
    obtain ⟨its, rv, p, hz⟩ := I.tuple hq
    obtain ⟨f0, f1, f2, f3, f4, f5⟩ := hf it (by simp)
    have hl := rv.length
    exact wpAny_pyNext_tuple_end (I.ok.hd hc) st (show s.heap.IsTuple a its.toArray from p) (by simp; omega) fun h' eb => ⟨rfl, I.turned (t' := s.toks) (fun b o hb e => eb b o hb e) f0 f1 f3 f4 f5⟩
  self := fun _ _ _ _ _ st h => wpAny_pyIter_tupleiter st h
theorem turn_range {P : Program} {w : World} {K : PySem.W.Frag} {tg : Expr} (it : Addr) (lo : Int) (n : Nat) : Turn P w K tg (Itr lo n) [it] it (fun i h => IsRangeIter h it (lo + (i : Nat) * 1) ((n : Int) - (i : Nat)) 1) where
  mem := by simp
  obj := fun i h st b hb => by
    have e : b = it := by simpa using hb
    subst e
    exact ⟨_, st, fun v z => by
      have z' : Data.fields _ = Data.cell v := z
      cases z'⟩
  keep := fun i h h' st k => k it (by simp) _ st
  item := by
    intro X hP hw hK hc i pins s σ H E I hf st hg
    subst hP hw hK
    obtain ⟨f0, f1, f2, f3, f4, f5⟩ := hf it (by simp)
    have W := Walks.range (prog := X.prog) (w := X.w) (I.ok.hd hc) it lo 1 n
    refine W.item i s _ _ hg st fun v h' tk hv st' kk => ?_
    obtain ⟨t, rfl⟩ := hv
    have I1 : Inv X pins σ H { s with heap := h', toks := tk } := I.turned (fun b o hb e => kk b o (by simpa using hb) e) f0 f1 f3 f4 f5
    refine ⟨_, rfl, go_of (s := { s with heap := h', toks := tk }) (n := "range_iterator") st' rfl rfl (by decide) ⟨.int (lo + i), H, I1, ⟨t, ?_⟩, ⟨rfl, rfl⟩, st', fun b hb => (hf b hb).1⟩⟩
    rw [Int.mul_one]
  done := by
    intro X hP hw hK hc i pins s σ H E I hf st hg
    subst hP hw hK
    obtain ⟨f0, f1, f2, f3, f4, f5⟩ := hf it (by simp)
    exact wpAny_pyNext_range_end (I.ok.hd hc) st (by have : n ≤ i := hg; omega) fun h' eb => ⟨rfl, I.turned (t' := s.toks) (fun b o hb e => eb b o hb e) f0 f1 f3 f4 f5⟩
  self := fun _ _ _ _ _ st h => wpAny_pyIter_rangeiter st h
end L2

namespace L2
open PySem PySem.Spec PyProof.Rows
section
variable {X : Cx} {tg : Expr}
/-- a range object just made, walked -/
theorem range_it {pins : List (Addr × Obj)} {σ : St} {H : Hp} {s : Shared} {R : It → Hp → Prop} {E : Value → Shared → Prop} {lo hi : Int} {t u v : Tok} {tk : Nat} (I : Inv X pins σ H s) (h1 : -(2 ^ 62) ≤ lo) (h2 : lo < 2 ^ 62) (h3 : -(2 ^ 62) ≤ hi) (h4 : hi < 2 ^ 62)
    (q : R (Itr lo (hi - lo).toNat) H) : wpAny (model X.prog X.w) X.A (pyIter (.ref s.heap.objs.size)) (PIE X pins σ tg R) E { s with heap := s.heap.push { cls := .type "range", data := .fields #[.int lo t, .int hi u, .int 1 v] }, toks := tk } := by
  refine wpAny_pyIter_range (IsRange.new ..) (small_one h1 h2 h3 h4) ?_
  have I1 : Inv X pins σ H { s with heap := s.heap.push { cls := .type "range", data := .fields #[.int lo t, .int hi u, .int 1 v] }, toks := tk } := I.kept fun b o e => Heap.get?_push_of_some _ e
  refine ⟨(s.heap.push { cls := .type "range", data := .fields #[.int lo t, .int hi u, .int 1 v] }).objs.size, [(s.heap.push { cls := .type "range", data := .fields #[.int lo t, .int hi u, .int 1 v] }).objs.size], _, _, H, rfl,
    I1.kept (t' := tk) fun b o e => Heap.get?_push_of_some _ e, turn_range _ lo (hi - lo).toNat, ?_, fun b hb => ?_, q⟩
  · have e1 : lo + ((0 : Nat) : Int) * 1 = lo := by simp
    have e2 : (((hi - lo).toNat : Nat) : Int) - ((0 : Nat) : Int) = Builtin.Range.rangeSize lo hi 1 := by rw [rangeSize_one]; split <;> omega
    show IsRangeIter _ _ (lo + ((0 : Nat) : Int) * 1) ((((hi - lo).toNat : Nat) : Int) - ((0 : Nat) : Int)) 1
    rw [e1, e2]
    exact Heap.get?_push_size _ rfl
  · have e : b = (s.heap.push { cls := .type "range", data := .fields #[.int lo t, .int hi u, .int 1 v] }).objs.size := by simpa using hb
    subst e
    exact I1.fpOk (Nat.le_refl _) (I1.hok.fresh (Nat.le_refl _))
noncomputable def iRng1 (ta : TA) : TI := fun σ H R => ta σ H fun vs H1 => ∃ j : Int, vs = [.int j] ∧ -(2 ^ 62) ≤ j ∧ j < 2 ^ 62 ∧ R (Itr 0 j.toNat) H1
theorem pi_range1 {a : Expr} {ta : TA} {p pos : Pos} (hg : Gl X "range") (hm : X.mg "range" = none) (ha : PA X [a] ta) (hs : starEach [a] X.env = [(false, eval a X.env)] := by rfl) : PI X tg (.Call (.Name "range" p) [a] [] pos) (iRng1 ta) := by
  intro pins s σ H R I h
  refine Call_ (ld_blt I hg hm boot_range (PyProof.Rows.callWith_type1 (thn (ha pos pins s σ H _ I h) fun us s1 ⟨vs, H1, I1, r1, q1⟩ => ?_) hs rfl))
  obtain ⟨j, e, q1, q2, q⟩ := q1
  subst e
  cases r1 with
  | cons r rr =>
    cases rr
    obtain ⟨t, rfl⟩ := r
    exact call_range_1 (range_it I1 (by omega) (by omega) q1 q2 (by simpa using q))
/-- W: the invariant by the turn and a measure; N: what the body is to reach -/
noncomputable def tFor (wi : TI) (g : TG) (tb : TS) : TS := fun D σ H => wi σ H fun J H1 => ∃ W : Nat → Nat → St → Hp → Prop, (∃ m, W 0 m σ H1) ∧ ∀ i m σ H, W i m σ H →
  (J.stop i H ∧ D.nx σ H) ∨ (J.go i H ∧ ∃ N : St → Hp → Prop, (∀ σ' H', N σ' H' → ∃ m', m' < m ∧ W (i + 1) m' σ' H') ∧ ∀ x H', J.yld i H x H' → g x σ H' fun σ2 H2 => tb { D with nx := N, ct := N, bk := D.nx } σ2 H2)
/-- the records at fp as they stand -/
noncomputable def pinsAt (fp : List Addr) (h : Heap) : List (Addr × Obj) := fp.filterMap fun b => (h.get? b).map fun o => (b, o)
theorem mem_pinsAt {fp : List Addr} {h : Heap} {b : Addr} {o : Obj} (hb : b ∈ fp) (e : h.get? b = some o) : (b, o) ∈ pinsAt fp h := List.mem_filterMap.mpr ⟨b, hb, by rw [e]; rfl⟩
theorem of_pinsAt {fp : List Addr} {h : Heap} {p : Addr × Obj} (hp : p ∈ pinsAt fp h) : p.1 ∈ fp ∧ h.get? p.1 = some p.2 := by
  obtain ⟨b, hb, e⟩ := List.mem_filterMap.mp hp
  cases q : h.get? b with
  | none => rw [q] at e; cases e
  | some o =>
    rw [q] at e
    have e' : (b, o) = p := Option.some.inj e
    subst e'
    exact ⟨hb, q⟩
theorem Inv.pinned {pins : List (Addr × Obj)} {σ : St} {H : Hp} {s : Shared} {fp : List Addr} (I : Inv X pins σ H s) (hf : ∀ b ∈ fp, FpOk X pins H b) (ho : ∀ b ∈ fp, ∃ o, s.heap.get? b = some o ∧ ∀ v, o.data ≠ .cell v) : Inv X (pins ++ pinsAt fp s.heap) σ H s :=
  I.pins_of fun p hp => (List.mem_append.mp hp).elim (fun z => I.pin p (List.mem_append_right _ z)) fun z => by
    obtain ⟨hb, e⟩ := of_pinsAt z
    obtain ⟨f0, f1, f2, _⟩ := hf p.1 hb
    obtain ⟨o, e', d⟩ := ho p.1 hb
    rw [e] at e'; cases e'
    exact ⟨e, f0, f1, f2, d⟩
theorem Inv.unpinned {pins pl : List (Addr × Obj)} {σ : St} {H : Hp} {s : Shared} (I : Inv X (pins ++ pl) σ H s) : Inv X pins σ H s := I.pins_of fun p hp => I.pin p (List.mem_append_right _ (List.mem_append_left _ hp))
theorem ps_for {iter : Expr} {body : List Stmt} {wi : TI} {g : TG} {tb : TS} {pos : Pos} (hp : PassesOwn (model X.prog X.w) X.A X.env X.xe) (hc : X.calm = true) (hi : PI X tg iter wi) (hg : PG X tg g) (hb : PSs X body tb)
    (hs : ∀ x, foldedSetIterable iter X.env x = pure x := by intro _; rfl) : PS X (.For tg iter body [] pos) (tFor wi g tb) := by
  intro pins s σ H D I h
  refine wpAny_For (thn (hi pins s σ H _ I h) fun v s1 h1 => thn h1 fun itv s2 h2 => ?_) hs
  obtain ⟨it, fp, tn, J, H2, e, I2, T, st2, f2, W, ⟨m0, w0⟩, turn⟩ := h2
  subst e
  -- what stays true of the iterator's objects through the loop
  have stat : ∀ {H' : Hp}, (∀ b ∈ fp, H' b = none) → ∀ b ∈ fp, FpOk X pins H' b := fun hn b hb => ⟨hn b hb, (f2 b hb).2⟩
  refine codeAny_forLoop_any (fun n s' => ∃ i σ' H', Inv X pins σ' H' s' ∧ tn i s'.heap ∧ (∀ b ∈ fp, H' b = none) ∧ W i n σ' H') ?_ m0 ⟨0, σ, H2, I2, st2, fun b hb => (f2 b hb).1, w0⟩
  rintro n s3 ⟨i, σ3, H3, I3, st3, fr3, w3⟩
  rcases turn i n σ3 H3 w3 with ⟨stop, qn⟩ | ⟨go, N, hN, step⟩
  · refine wpAny_passesOwn hp (thn (T.done X rfl rfl rfl hc i pins s3 σ3 H3 X.xe I3 (stat fr3) st3 stop) fun r s4 ⟨hr, I4⟩ => ?_)
    subst hr
    exact wpAny_execs_nil ⟨σ3, H3, I4, qn⟩
  · refine wpAny_passesOwn hp (thn (T.item X rfl rfl rfl hc i pins s3 σ3 H3 X.xe I3 (stat fr3) st3 go) fun r s4 ⟨u, hr, h4⟩ => ?_)
    subst hr
    refine wpAny_passesOwn hp (thn h4 fun _ s5 ⟨x, H5, I5, r5, y5, st5, fr5⟩ => ?_)
    have I5' := I5.pinned (stat fr5) (T.obj _ _ st5)
    refine wpAny_passesOwn hp (thn (hg _ s5 σ3 H5 x u _ I5' r5 (step x H5 y5)) fun _ s6 ⟨σ6, H6, I6, q6⟩ => ?_)
    refine wpAny_passesOwn hp (thn (hb _ s6 σ6 H6 _ I6 q6) fun f s7 q7 => ?_)
    have again : ∀ {σ7 : St} {H7 : Hp}, Inv X (pins ++ pinsAt fp s5.heap) σ7 H7 s7 → N σ7 H7 → ∃ m, m < n ∧ ∃ i σ' H', Inv X pins σ' H' s7 ∧ tn i s7.heap ∧ (∀ b ∈ fp, H' b = none) ∧ W i m σ' H' := fun {σ7 H7} I7 n7 => by
      obtain ⟨m', hm, w7⟩ := hN σ7 H7 n7
      refine ⟨m', hm, i + 1, σ7, H7, I7.unpinned, T.keep _ _ _ st5 fun b hb o e => (I7.pin (b, o) (List.mem_append_right _ (List.mem_append_right _ (mem_pinsAt hb e)))).1, fun b hb => ?_, w7⟩
      obtain ⟨o, e, d⟩ := T.obj _ _ st5 b hb
      exact (I7.pin (b, o) (List.mem_append_right _ (List.mem_append_right _ (mem_pinsAt hb e)))).2.1
    cases f with
    | next => obtain ⟨σ7, H7, I7, n7⟩ := q7; exact again I7 n7
    | cont => obtain ⟨σ7, H7, I7, n7⟩ := q7; exact again I7 n7
    | brk => obtain ⟨σ7, H7, I7, q7⟩ := q7; exact ⟨σ7, H7, I7.unpinned, q7⟩
    | ret v => obtain ⟨x7, σ7, H7, I7, r7, q7⟩ := q7; exact ⟨x7, σ7, H7, I7.unpinned, r7, q7⟩
end

end L2

namespace L2
open PySem PySem.Spec PyProof.Rows

noncomputable abbrev R2 := V → V → Hp → VK → Prop
/-- a two-place operation on values: f is binaryOp op, inplaceOp op or compareOp op -/
noncomputable def OpR (X : Cx) (f : Value → Value → Sem Value) (r : R2) : Prop :=
  ∀ (pins : List (Addr × Obj)) (s : Shared) (σ : St) (H : Hp) (x y : V) (v u : Value) (Q : VK), Inv X pins σ H s → RelV x v → RelV y u → r x y H Q →
    wpAny (model X.prog X.w) X.A (f v u) (EP X pins σ Q) X.xe s
/-- a one-place operation -/
noncomputable def UnR (X : Cx) (f : Value → Sem Value) (r : V → Hp → VK → Prop) : Prop :=
  ∀ (pins : List (Addr × Obj)) (s : Shared) (σ : St) (H : Hp) (x : V) (v : Value) (Q : VK), Inv X pins σ H s → RelV x v → r x H Q →
    wpAny (model X.prog X.w) X.A (f v) (EP X pins σ Q) X.xe s
/-- a call of a value that is known (a builtin, a type) with values -/
noncomputable def CallR (X : Cx) (f : Value) (r : List V → Hp → VK → Prop) : Prop :=
  ∀ (pins : List (Addr × Obj)) (s : Shared) (σ : St) (H : Hp) (xs : List V) (us : List Value) (Q : VK), Inv X pins σ H s → Vals xs us → r xs H Q →
    wpAny (model X.prog X.w) X.A (call f us) (EP X pins σ Q) X.xe s
/-- a value's truth -/
noncomputable def TruR (X : Cx) (r : V → Hp → (Bool → Hp → Prop) → Prop) : Prop :=
  ∀ (pins : List (Addr × Obj)) (s : Shared) (σ : St) (H : Hp) (x : V) (v : Value) (Q : Bool → Hp → Prop), Inv X pins σ H s → RelV x v → r x H Q →
    wpAny (model X.prog X.w) X.A (truthy v) (TP X pins σ Q) X.xe s

noncomputable def tOp (r : R2) (ta tb : TE) : TE := fun σ H Q => ta σ H fun x H1 => tb σ H1 fun y H2 => r x y H2 Q
noncomputable def tUn (r : V → Hp → VK → Prop) (ta : TE) : TE := fun σ H Q => ta σ H fun x H1 => r x H1 Q
/-- ints in, under C, and a value out -/
noncomputable def rI (C : Int → Int → Prop) (g : Int → Int → V) : R2 := fun x y H Q => ∃ i j, x = .int i ∧ y = .int j ∧ C i j ∧ Q (g i j) H
noncomputable def rI0 (g : Int → Int → V) : R2 := fun x y H Q => ∃ i j, x = .int i ∧ y = .int j ∧ Q (g i j) H
noncomputable def rU (g : Int → V) : V → Hp → VK → Prop := fun x H Q => ∃ i, x = .int i ∧ Q (g i) H

section
variable {X : Cx} {a b c : Expr} {ta tb tc : TE} {pos : Pos}

theorem binT (ha : PE X a ta) (hb : PE X b tb) {pins : List (Addr × Obj)} {s : Shared} {σ : St} {H : Hp} {R : V → V → Hp → Prop} (I : Inv X pins σ H s)
    (h : ta σ H fun x H1 => tb σ H1 fun y H2 => R x y H2) {Q : Value → Shared → Prop} {f : Value → Value → Sem Value}
    (hf : ∀ v u s2 x y H2, Inv X pins σ H2 s2 → RelV x v → RelV y u → R x y H2 → wpAny (model X.prog X.w) X.A (f v u) Q X.xe s2) :
    wpAny (model X.prog X.w) X.A (eval a X.env) (fun v s₁ => wpAny (model X.prog X.w) X.A (eval b X.env) (fun u s₂ => wpAny (model X.prog X.w) X.A (f v u) Q X.xe s₂) X.xe s₁) X.xe s := by
  refine thn (ha pins s σ H _ I h) fun v s1 ⟨x, H1, I1, r1, q1⟩ => ?_
  refine thn (hb pins s1 σ H1 _ I1 q1) fun u s2 ⟨y, H2, I2, r2, q2⟩ => ?_
  exact hf v u s2 x y H2 I2 r1 r2 q2

theorem pe_op {op : Operator} {r : R2} (ho : OpR X (binaryOp op) r) (ha : PE X a ta) (hb : PE X b tb) : PE X (.BinOp a op b pos) (tOp r ta tb) := by
  intro pins s σ H Q I h
  exact wpAny_BinOp (binT ha hb I h fun v u s2 x y H2 I2 rx ry q => ho pins s2 σ H2 x y v u Q I2 rx ry q)
theorem pe_un {op : UnaryOp} {r : V → Hp → VK → Prop} (ho : UnR X (unaryOp op) r) (ha : PE X a ta) : PE X (.UnaryOp op a pos) (tUn r ta) := by
  intro pins s σ H Q I h
  exact UnaryOp_ (thn (ha pins s σ H _ I h) fun v s1 ⟨x, H1, I1, r1, q1⟩ => ho pins s1 σ H1 x v Q I1 r1 q1)
theorem opI {f : Value → Value → Sem Value} {C : Int → Int → Prop} {g : Int → Int → Int}
    (rule : ∀ (i j : Int) (t u : Tok) (s : Shared) (Q : Value → Shared → Prop) (E : Value → Shared → Prop), C i j → Q (.int (g i j) s.toks) { s with toks := s.toks + 1 } → wpAny (model X.prog X.w) X.A (f (.int i t) (.int j u)) Q E s) :
    OpR X f (rI C fun i j => .int (g i j)) := by
  intro pins s σ H x y v u Q I rx ry h
  obtain ⟨i, j, rfl, rfl, hc, q⟩ := h
  obtain ⟨t, rfl⟩ := rx
  obtain ⟨t', rfl⟩ := ry
  exact rule i j t t' s _ _ hc ⟨.int (g i j), H, I.tok _, ⟨_, rfl⟩, q⟩
theorem opI0 {f : Value → Value → Sem Value} {g : Int → Int → Int}
    (rule : ∀ (i j : Int) (t u : Tok) (s : Shared) (Q : Value → Shared → Prop) (E : Value → Shared → Prop), Q (.int (g i j) s.toks) { s with toks := s.toks + 1 } → wpAny (model X.prog X.w) X.A (f (.int i t) (.int j u)) Q E s) :
    OpR X f (rI0 fun i j => .int (g i j)) := by
  intro pins s σ H x y v u Q I rx ry h
  obtain ⟨i, j, rfl, rfl, q⟩ := h
  obtain ⟨t, rfl⟩ := rx
  obtain ⟨t', rfl⟩ := ry
  exact rule i j t t' s _ _ ⟨.int (g i j), H, I.tok _, ⟨_, rfl⟩, q⟩
theorem opB0 {f : Value → Value → Sem Value} {g : Int → Int → Bool}
    (rule : ∀ (i j : Int) (t u : Tok) (s : Shared) (Q : Value → Shared → Prop) (E : Value → Shared → Prop), Q (.bool (g i j)) s → wpAny (model X.prog X.w) X.A (f (.int i t) (.int j u)) Q E s) :
    OpR X f (rI0 fun i j => .bl (g i j)) := by
  intro pins s σ H x y v u Q I rx ry h
  obtain ⟨i, j, rfl, rfl, q⟩ := h
  obtain ⟨t, rfl⟩ := rx
  obtain ⟨t', rfl⟩ := ry
  exact rule i j t t' s _ _ ⟨.bl (g i j), H, I, rfl, q⟩

noncomputable def CPow (i j : Int) : Prop := 0 ≤ j ∧ j ≤ 1000000 ∧ i.natAbs < 2 ^ 64
theorem op_add : OpR X (binaryOp .Add) (rI0 fun i j => .int (i + j)) := opI0 fun _ _ _ _ _ _ _ q => add_int q
theorem op_sub : OpR X (binaryOp .Sub) (rI0 fun i j => .int (i - j)) := opI0 fun _ _ _ _ _ _ _ q => sub_int q
theorem op_modN : OpR X (binaryOp .Mod) (rI (fun _ j => j ≠ 0) fun i j => .int (i.fmod j)) := opI fun _ _ _ _ _ _ _ hc q => mod_int' hc q
theorem op_pow : OpR X (binaryOp .Pow) (rI CPow fun i j => .int (i ^ j.toNat)) := opI fun _ _ _ _ _ _ _ hc q => pow_int_small hc.1 hc.2.1 hc.2.2 q
theorem unI {f : Value → Sem Value} {g : Int → Int}
    (rule : ∀ (i : Int) (t : Tok) (s : Shared) (Q : Value → Shared → Prop) (E : Value → Shared → Prop), Q (.int (g i) s.toks) { s with toks := s.toks + 1 } → wpAny (model X.prog X.w) X.A (f (.int i t)) Q E s) :
    UnR X f (rU fun i => .int (g i)) := by
  intro pins s σ H x v Q I rx h
  obtain ⟨i, rfl, q⟩ := h
  obtain ⟨t, rfl⟩ := rx
  exact rule i t s _ _ ⟨.int (g i), H, I.tok _, ⟨_, rfl⟩, q⟩
theorem un_neg : UnR X (unaryOp .USub) (rU fun i => .int (-i)) := unI fun _ _ _ _ _ q => neg_int q
end

section
variable {X : Cx} {a b c : Expr} {ta tb tc : TE} {pos : Pos}
theorem fin_bl {pins : List (Addr × Obj)} {σ : St} {H : Hp} {s : Shared} {Q : VK} {k k' : Bool} (I : Inv X pins σ H s) (q : Q (.bl k) H) (e : k = k') : EP X pins σ Q (.bool k') s := by
  subst e
  exact ⟨.bl k, H, I, rfl, q⟩
theorem op_lt : OpR X (compareOp .Lt) (rI0 fun i j => .bl (decide (i < j))) := opB0 fun _ _ _ _ _ _ _ q => lt_int q
theorem op_gt : OpR X (compareOp .Gt) (rI0 fun i j => .bl (decide (j < i))) := opB0 fun _ _ _ _ _ _ _ q => gt_int q
theorem op_notN : OpR X (compareOp .IsNot) (fun x y H Q => y = .non ∧ Q (.bl (!decide (x = .non))) H) := by
  intro pins s σ H x y v u Q I rx ry h
  obtain ⟨rfl, q⟩ := h
  cases ry
  refine isnot_none_gen (fin_bl I q ?_)
  cases x <;> first
    | (cases rx; rfl)
    | (obtain ⟨t, rfl⟩ := rx; rfl)

/-- two rules for one operation: by cases -/
theorem OpR.or {f : Value → Value → Sem Value} {r r' : R2} (h : OpR X f r) (h' : OpR X f r') : OpR X f (fun x y H Q => r x y H Q ∨ r' x y H Q) := by
  intro pins s σ H x y v u Q I rx ry q
  rcases q with q | q
  · exact h pins s σ H x y v u Q I rx ry q
  · exact h' pins s σ H x y v u Q I rx ry q

theorem nomark (b : Expr) {op : CmpOp} (h : op ≠ .In := by decide) (h2 : op ≠ .NotIn := by decide) : behindInMarks op b = false := by
  have e1 : (op == CmpOp.In) = false := by cases op <;> first | rfl | exact absurd rfl h
  have e2 : (op == CmpOp.NotIn) = false := by cases op <;> first | rfl | exact absurd rfl h2
  cases b <;> simp [behindInMarks, e1, e2]
/-- a comparison as a value; hm: nomark b, or (for in, not in) by with_unfolding_all rfl -/
theorem pe_cmpR {op : CmpOp} {r : R2} (ho : OpR X (compareOp op) r) (ha : PE X a ta) (hb : PE X b tb) (hm : behindInMarks op b = false) : PE X (.Compare a [op] [b] pos) (tOp r ta tb) := by
  intro pins s σ H Q I h
  exact wpAny_Compare1 (binT ha hb I h fun v u s2 x y H2 I2 rx ry q => ho pins s2 σ H2 x y v u Q I2 rx ry q) hm
/-- a reading of a value as a test -/
noncomputable def tTest (t : TE) : TT := fun σ H Q => t σ H fun x H' => ∃ k, x = .bl k ∧ Q k H'
theorem pt_cmpR {op : CmpOp} {r : R2} (ho : OpR X (compareOp op) r) (ha : PE X a ta) (hb : PE X b tb) (hm : behindInMarks op b = false) : PT X (.Compare a [op] [b] pos) (tTest (tOp r ta tb)) := by
  intro pins s σ H Q I h
  refine wpAny_isTrue_Compare1 (thn (ha pins s σ H _ I h) fun v s1 ⟨x, H1, I1, r1, q1⟩ => thn (hb pins s1 σ H1 _ I1 q1) fun u s2 ⟨y, H2, I2, r2, q2⟩ =>
    thn (ho pins s2 σ H2 x y v u _ I2 r1 r2 q2) fun c s3 ⟨z, H3, I3, r3, k, e, q3⟩ => ?_) hm
  subst e
  cases r3
  exact wpAny_truthy_bool ⟨H3, I3, q3⟩
/-- a value's truth by the abstract heap -/
noncomputable def TruV (K : PySem.W.Frag) (x : V) (H : Hp) (k : Bool) : Prop :=
  match x with
  | .non => k = false
  | .bl b => k = b
  | .int i => k = (i != 0)
  | .str y => y.length ≤ sizeLine ∧ k = ((y.length : Int) != 0)
  | .byt y => y.size ≤ sizeLine ∧ k = ((y.size : Int) != 0)
  | .ref p => (∃ xs, SqL K H p xs ∧ k = !xs.isEmpty) ∨ (∃ xs, SqT K H p xs ∧ k = !xs.isEmpty) ∨ ∃ kvs, H p = some (.dK kvs) ∧ k = !kvs.isEmpty
  | _ => False
theorem isEmpty_kv {κ : Type} {kvs : List (κ × V)} {vs : List (κ × Value)} (r : KV kvs vs) : (!vs.isEmpty) = !kvs.isEmpty := by
  cases r <;> rfl
theorem isEmpty_of {xs : List V} {its : List Value} (r : Vals xs its) : (!its.toArray.isEmpty) = !xs.isEmpty := by
  cases r <;> simp
theorem line63 : (sizeLine : Nat) < 2 ^ 63 := by rw [sizeLine_eq]; decide
theorem tru_ok : TruR X (fun x H Q => ∃ k, TruV X.K x H k ∧ Q k H) := by
  intro pins s σ H x v Q I rx h
  obtain ⟨k, e, q⟩ := h
  have hl := line63
  have hs : sizeLine = 16777216 := sizeLine_eq
  cases x with
  | non =>
    cases rx
    have e' : k = false := e
    subst e'
    exact truthy_none ⟨H, I, q⟩
  | bl b =>
    cases rx
    have e' : k = b := e
    subst e'
    exact wpAny_truthy_bool ⟨H, I, q⟩
  | int i =>
    obtain ⟨t, rfl⟩ := rx
    have e' : k = (i != 0) := e
    subst e'
    exact PySem.P.truthy_int ⟨H, I, q⟩
  | str y =>
    obtain ⟨t, rfl⟩ := rx
    obtain ⟨hy, e'⟩ : y.length ≤ sizeLine ∧ k = ((y.length : Int) != 0) := e
    subst e'
    exact PySem.P.truthy_str (by omega) ⟨H, I.tok _, q⟩
  | byt y =>
    obtain ⟨t, rfl⟩ := rx
    obtain ⟨hy, e'⟩ : y.size ≤ sizeLine ∧ k = ((y.size : Int) != 0) := e
    subst e'
    exact PySem.W.truthy_bytes (by omega) ⟨H, I.tok _, q⟩
  | ref p =>
    cases rx
    have e' : (∃ xs, SqL X.K H p xs ∧ k = !xs.isEmpty) ∨ (∃ xs, SqT X.K H p xs ∧ k = !xs.isEmpty) ∨ ∃ kvs, H p = some (.dK kvs) ∧ k = !kvs.isEmpty := e
    rcases e' with ⟨xs, hx, e'⟩ | ⟨xs, hx, e'⟩ | ⟨kvs, hx, e'⟩
    · subst e'
      obtain ⟨its, r, pl, hz⟩ := I.list hx
      have hlen := r.length
      exact wpAny_truthy_list pl.isList (by simp only [List.size_toArray]; omega) ⟨H, I.tok _, by rw [isEmpty_of r]; exact q⟩
    · subst e'
      obtain ⟨its, r, pl, hz⟩ := I.tuple hx
      have hlen := r.length
      exact truthy_tuple pl (by simp only [List.size_toArray]; omega) ⟨H, I.tok _, by rw [isEmpty_of r]; exact q⟩
    · subst e'
      obtain ⟨hz, hS, vs, r, m⟩ : kvs.length ≤ sizeLine ∧ (p == sysModules) = false ∧ ∃ vs, KV kvs vs ∧ s.heap.DictOf (mixKind X.prog X.w) p vs := I.hok p _ hx
      have hlen : kvs.length = vs.length := Paired.length r
      exact wpAny_truthy_dict hS m (by omega) ⟨H, I.tok _, by rw [isEmpty_kv r]; exact q⟩
  | _ => exact (show False from e).elim
/-- any expression whose test is its value's truth (a name, a call, a subscript, a field ..: he by fun _ => rfl) -/
theorem pt_truth (ha : PE X a ta) (he : ∀ whole, isTrue a X.env whole = (do let v ← whole; standAt a.pos; holding [v] (truthy v))) :
    PT X a (fun σ H Q => ta σ H fun x H' => ∃ k, TruV X.K x H' k ∧ Q k H') := by
  intro pins s σ H Q I h
  exact isTrue_plain (thn (ha pins s σ H _ I h) fun v s1 ⟨x, H1, I1, r1, q1⟩ => tru_ok pins s1 σ H1 x v Q I1 r1 q1) (he _)

theorem op_add_str : OpR X (binaryOp .Add) (fun x y H Q => ∃ i j, x = .str i ∧ y = .str j ∧ i.length + j.length ≤ sizeLine ∧ Q (.str (i ++ j)) H) := by
  intro pins s σ H x y v u Q I rx ry h
  obtain ⟨i, j, rfl, rfl, hz, q⟩ := h
  obtain ⟨t, rfl⟩ := rx
  obtain ⟨t', rfl⟩ := ry
  exact add_str (fun t' tk => ⟨.str (i ++ j), H, I.tok _, ⟨_, rfl⟩, q⟩) hz
theorem vals1 {x : V} {us : List Value} (r : Vals [x] us) : ∃ u, us = [u] ∧ RelV x u := by
  cases r with
  | cons r1 r2 => cases r2; exact ⟨_, rfl, r1⟩
theorem vals2 {x y : V} {us : List Value} (r : Vals [x, y] us) : ∃ u w', us = [u, w'] ∧ RelV x u ∧ RelV y w' := by
  cases r with
  | cons r1 r2 =>
    cases r2 with
    | cons r3 r4 => cases r4; exact ⟨_, _, rfl, r1, r3⟩
theorem call_abs : CallR X (.builtin "abs") (fun xs H Q => ∃ i, xs = [.int i] ∧ Q (.int (if i < 0 then -i else i)) H) := by
  intro pins s σ H xs us Q I r h
  obtain ⟨i, rfl, q⟩ := h
  obtain ⟨u, rfl, t, rfl⟩ := vals1 r
  exact call_abs_int fun u tk => ⟨.int (if i < 0 then -i else i), H, I.tok _, ⟨_, rfl⟩, q⟩
theorem call_int1 : CallR X (.type "int") (fun xs H Q => (∃ i, xs = [.int i] ∧ Q (.int i) H) ∨ ∃ k, xs = [.bl k] ∧ Q (.int (if k then 1 else 0)) H) := by
  intro pins s σ H xs us Q I r h
  rcases h with ⟨i, rfl, q⟩ | ⟨k, rfl, q⟩
  · obtain ⟨u, rfl, t, rfl⟩ := vals1 r
    exact call_int_int ⟨.int i, H, I, ⟨_, rfl⟩, q⟩
  · obtain ⟨u, rfl, r1⟩ := vals1 r
    cases r1
    exact call_int_bool ⟨.int (if k then 1 else 0), H, I.tok _, ⟨_, rfl⟩, q⟩
end
end L2

namespace L2
open PySem PySem.Spec PyProof.Rows

structure ObjM (h : Heap) (x dx C : Addr) (mA : Str → Option Value) : Prop where
  obj : h.get? x = some (PySem.W.instObj C dx)
  ns : h.Ns1 dx mA
  ne : dx ≠ x

theorem lookIn_ns {h : Heap} {dx : Addr} {mA : Str → Option Value} (n : h.Ns1 dx mA) : ∃ od, h.get? dx = some od ∧ ∀ name, PySem.W.lookIn name od = some (mA name) := by
  obtain ⟨o, es, ep, ho, hd, hk, _, hm⟩ := n
  refine ⟨o, ho, fun name => ?_⟩
  have e := hm name
  unfold nsFind findBy at e
  rw [← Array.find?_toList] at e
  unfold PySem.W.lookIn
  rw [hd]
  dsimp only
  split
  · rename_i y q
    rw [q] at e
    exact congrArg some e
  · rename_i q
    rw [q] at e
    have a : es.toList.any (·.refKey) = false := by
      rw [List.any_eq_false]
      intro y hy
      obtain ⟨z, t, hkey⟩ := hk y (Array.mem_toList_iff.mp hy)
      simp [DictEntry.refKey, hkey]
    have a' : ¬ es.toList.any (·.refKey) = true := by rw [a]; exact Bool.false_ne_true
    rw [if_neg a']
    exact congrArg some e

theorem ObjM.look {h : Heap} {x dx C : Addr} {mA : Str → Option Value} (I : ObjM h x dx C mA) : ∃ od, PySem.W.InstAt h x (PySem.W.instObj C dx) C (some od) ∧ ∀ name, PySem.W.lookIn name od = some (mA name) :=
  let ⟨od, ho, hl⟩ := lookIn_ns I.ns
  ⟨od, ⟨I.obj, rfl, rfl, ho⟩, hl⟩

section
variable {prog : Program} {w : World} {A : Around} {E : Value → Shared → Prop} {s : Shared} {K : PySem.W.Frag} {x dx C f : Addr} {mA : Str → Option Value} {name : Str} {v : Value}

end

theorem RelO.some_of {v : V} {o : Option Value} (r : RelO (some v) o) : ∃ u, o = some u ∧ RelV v u := by
  cases o with
  | none => exact (show False from r).elim
  | some u => exact ⟨u, rfl, r⟩
section
variable {P : Program} {w : World} {H H' : Hp} {h h' : Heap} {a C dx : Addr} {fs fs' : List (Str × V)}
theorem ins_get (hok : HOk P w H h) (e : H a = some (.ins C dx fs)) : ∃ mA, ObjM h a dx C mA ∧ (∀ f, RelO (fs.lookup f) (mA f)) ∧ PySem.Within mA (fs.map (·.1)) ∧ fs.length ≤ 1000 ∧ H dx = some (.own a) := by
  obtain ⟨d, z, ne, ob, mA, n, r, q⟩ := (show ObjOk P w H h a (.ins C dx fs) from hok a _ e)
  exact ⟨mA, ⟨ob, n, ne⟩, r, q, z, d⟩
end

structure Cls (K : PySem.W.Frag) (C : Addr) : Prop where
  pg : PySem.W.plainGet K C Str.empty = true
  hd : PySem.W.hasDictIn K C = true
  po : PySem.W.plainOver K C = true
  sa : PySem.W.findIn K (.ref C) "__setattr__" = some (some (.builtin "object.__setattr__"))
theorem Cls.get {K : PySem.W.Frag} {C : Addr} (c : Cls K C) (f : Str) : PySem.W.plainGet K C f = true := c.pg
/-- a constant of the class -/
structure Con (K : PySem.W.Frag) (C : Addr) (f : Str) (v : V) (u : Value) : Prop where
  at_ : PySem.W.findIn K (.ref C) f = some (some u)
  rel : RelV v u
  get : PySem.W.specialIn K u "__get__" = some none
  cp : PySem.W.copiedNames.contains f = false
section
variable {X : Cx} {pins : List (Addr × Obj)} {σ : St} {H : Hp} {s : Shared} {a C dx : Addr} {fs : List (Str × V)} {f : Str} {v : V} {A : Around} {E : Value → Shared → Prop}

end

section
variable {X : Cx} {o e value : Expr} {f : Str} {pos pos' tpos : Pos} {ta tv : TE}
end

section
variable {X : Cx} {pins : List (Addr × Obj)} {σ : St} {H : Hp} {s : Shared} {A : Around} {E : Value → Shared → Prop} {Q : Value → Shared → Prop} {c : Value} {b : Bool}
/-- the type of a value, as the fragment's deciders take it; for an instance its class -/
inductive TyOf (K : PySem.W.Frag) (H : Hp) : V → Value → Prop where
  | non : TyOf K H .non (.type "NoneType")
  | bl (x : Bool) : TyOf K H (.bl x) (.type "bool")
  | int (i : Int) : TyOf K H (.int i) (.type "int")
  | str (x : Str) : TyOf K H (.str x) (.type "str")
  | flt (x : UInt64) : TyOf K H (.flt x) (.type "float")
  | lst {a : Addr} {xs : List V} (e : H a = some (.lst xs)) : TyOf K H (.ref a) (.type "list")
  | frz {a : Addr} {o : Obj} {xs : List V} (e : H a = some (.frz o (.lst xs))) : TyOf K H (.ref a) (.type "list")
  | tup {a : Addr} {xs : List V} (e : H a = some (.tup xs)) : TyOf K H (.ref a) (.type "tuple")
  | dK {a : Addr} {kvs : List (Key × V)} (e : H a = some (.dK kvs)) : TyOf K H (.ref a) (.type "dict")
  | dT {a : Addr} {kvs : List (List Key × V)} (e : H a = some (.dT kvs)) : TyOf K H (.ref a) (.type "dict")
  | ins {a C dx : Addr} {fs : List (Str × V)} (e : H a = some (.ins C dx fs)) (cl : Cls K C) (ha : PySem.W.findIn K (.ref C) "__class__" = some (some (.builtin "object.__class__")))
      (hn : PySem.W.specialIn K (.builtin "object.__class__") "__get__" = some (some (.builtin "getset_descriptor.__get__"))) (htk : PySem.W.takesIn K (.builtin "object.__class__") = some true)
      (hm : PySem.W.mroIn K C (.type "object") = some true) : TyOf K H (.ref a) (.ref C)
/-- isinstance(x, c) for one class c, a built-in or an own one: kitOne's answer -/
theorem isinst_ok {x : V} {u t : Value} (I : Inv X pins σ H s) (rx : RelV x u) (ty : TyOf X.K H x t) (e : PySem.W.kitOne X.K t c = some b) (h : ∀ tk, Q (.bool b) { s with toks := tk }) :
    wpAny (model X.prog X.w) A (call (.builtin "isinstance") [u, c]) Q E s := by
  cases ty with
  | non => cases (show u = Value.none from rx); exact PySem.W.kia_one PySem.W.kitx_none I.kIn True.intro e (fun z => nomatch z) h
  | bl y => cases (show u = Value.bool y from rx); exact PySem.W.kia_one PySem.W.kitx_bool I.kIn True.intro e (fun z => nomatch z) h
  | int i => obtain ⟨t, q⟩ := (show ∃ t, u = Value.int i t from rx); cases q; exact PySem.W.kia_one PySem.W.kitx_int I.kIn True.intro e (fun z => nomatch z) h
  | str y => obtain ⟨t, q⟩ := (show ∃ t, u = Value.str y t from rx); cases q; exact PySem.W.kia_one PySem.W.kitx_str I.kIn True.intro e (fun z => nomatch z) h
  | flt y => obtain ⟨t, q⟩ := (show ∃ t, u = Value.float y t from rx); cases q; exact PySem.W.kia_one PySem.W.kitx_float I.kIn True.intro e (fun z => nomatch z) h
  | @lst a xs ea =>
    cases (show u = Value.ref a from rx)
    obtain ⟨_, _, n, _, h1⟩ := (show ObjOk X.prog X.w H s.heap a (.lst xs) from I.hok a _ ea)
    exact PySem.W.kia_one PySem.W.kitx_list I.kIn ⟨_, h1, rfl⟩ e (fun z => nomatch z) h
  | @frz a ob xs ea =>
    cases (show u = Value.ref a from rx)
    obtain ⟨_, _, _, n, _, h1⟩ := (show ObjOk X.prog X.w H s.heap a (.frz ob (.lst xs)) from I.hok a _ ea)
    exact PySem.W.kia_one PySem.W.kitx_list I.kIn ⟨_, h1, rfl⟩ e (fun z => nomatch z) h
  | @tup a xs ea =>
    cases (show u = Value.ref a from rx)
    obtain ⟨_, _, _, p⟩ := (show ObjOk X.prog X.w H s.heap a (.tup xs) from I.hok a _ ea)
    obtain ⟨o, h1, h2, _⟩ := p.1
    exact PySem.W.kia_one PySem.W.kitx_tuple I.kIn ⟨o, h1, h2⟩ e (fun z => nomatch z) h
  | @dK a kvs ea =>
    cases (show u = Value.ref a from rx)
    obtain ⟨_, _, vs, _, p⟩ := (show ObjOk X.prog X.w H s.heap a (.dK kvs) from I.hok a _ ea)
    obtain ⟨o, es, ep, h1, h2, _⟩ := p
    exact PySem.W.kia_one PySem.W.kitx_dict I.kIn ⟨o, h1, h2.1⟩ e (fun z => nomatch z) h
  | @dT a kvs ea =>
    cases (show u = Value.ref a from rx)
    obtain ⟨_, _, xs, _, o, es, ep, h1, h2, _⟩ := (show ObjOk X.prog X.w H s.heap a (.dT kvs) from I.hok a _ ea)
    exact PySem.W.kia_one PySem.W.kitx_dict I.kIn ⟨o, h1, h2.1⟩ e (fun z => nomatch z) h
  | @ins a C dx fs ea cl ha hn htk hm =>
    cases (show u = Value.ref a from rx)
    obtain ⟨mA, O, _⟩ := ins_get I.hok ea
    obtain ⟨od, J, _⟩ := O.look
    exact PySem.W.kia_one (PySem.W.kitx_own (cl.get _) cl.hd ha hn htk hm) I.kIn J e (fun z => nomatch z) h
end
end L2

namespace L2
open PySem PySem.Spec PyProof.Rows

structure Room (k : Nat) (A : Around) : Prop where
  hd : A.handled = none
  dp : A.depth + 3 * k + 5 < recursionLimit
  un : A.units + 16 * k + 200 < cLine
theorem Room.mono {j k : Nat} {A : Around} (r : Room k A) (h : j ≤ k) : Room j A := ⟨r.hd, by have := r.dp; omega, by have := r.un; omega⟩
theorem Room.deeper {k : Nat} {A : Around} (r : Room (k + 1) A) (env : Env) : Room k (A.deeper env) :=
  ⟨r.hd, by have := r.dp; show A.depth + 1 + 3 * k + 5 < _; omega, by have := r.un; show A.units + 3 + 16 * k + 200 < _; omega⟩
theorem Room.depth {k : Nat} {A : Around} (r : Room k A) : A.depth < recursionLimit := by have := r.dp; omega
theorem Room.units {k : Nat} {A : Around} (r : Room k A) : A.units + 64 < cLine := by have := r.un; omega
noncomputable def tNil : TA := fun _ H Q => Q [] H
noncomputable def tCons (ta : TE) (tr : TA) : TA := fun σ H Q => ta σ H fun x H1 => tr σ H1 fun xs H2 => Q (x :: xs) H2
section
variable {X : Cx} {e : Expr} {es : List Expr} {te : TE} {t : TA} {pos : Pos}
theorem pa_nil : PA X [] tNil := fun _ _ _ _ H Q I h => Calls.spliced_nil ⟨[], H, I, .nil, h⟩
theorem pa_cons (ha : PE X e te) (hr : PA X es t) (hs : starEach (e :: es) X.env = (false, eval e X.env) :: starEach es X.env := by rfl) : PA X (e :: es) (tCons te t) := by
  intro pos pins s σ H Q I h
  rw [hs]
  show wpAny _ _ (spliced ((false, eval e X.env) :: backTo pos (starEach es X.env))) _ _ s
  refine Calls.spliced_cons (thn (ha pins s σ H _ I h) fun u s1 ⟨x, H1, I1, r1, q1⟩ => ?_)
  exact thn (hr pos pins s1 σ H1 _ I1 q1) fun us s2 ⟨xs, H2, I2, r2, q2⟩ => ⟨x :: xs, H2, I2, .cons r1 r2, q2⟩

/-- a tuple, a list of written items -/
noncomputable def tTup (t : TA) : TE := fun σ H Q => t σ H fun xs H1 => xs.length ≤ sizeLine ∧ ∀ p, H1 p = none → Q (.ref p) (upd H1 p (.tup xs))
noncomputable def tLst (t : TA) : TE := fun σ H Q => t σ H fun xs H1 => xs.length ≤ sizeLine ∧ ∀ p, H1 p = none → Q (.ref p) (upd H1 p (.lst xs))
theorem pe_tup {x1} (h : PA X es t) : PE X (.Tuple es x1 pos) (tTup t) := by
  intro pins s σ H Q I hq
  refine wpAny_Tuple_spliced (thn (h pos pins s σ H _ I hq) fun us s1 ⟨xs, H1, I1, r, z, q⟩ => ⟨by rw [← r.length]; exact z, ?_⟩)
  have hf : H1 s1.heap.objs.size = none := I1.hok.fresh (Nat.le_refl _)
  refine ⟨.ref s1.heap.objs.size, upd H1 s1.heap.objs.size (.tup xs), I1.laid (t' := s1.toks) (fun b u e => Heap.get?_push_of_some _ e) (Nat.le_refl _) ?_, rfl, q _ hf⟩
  exact ⟨z, us, r, ⟨_, Heap.get?_push_size _ rfl, rfl, _, rfl⟩, _, Heap.get?_push_size _ rfl, rfl⟩
theorem pe_lst (h : PA X es t) : PE X (.List es pos) (tLst t) := by
  intro pins s σ H Q I hq
  refine wpAny_List_spliced (thn (h pos pins s σ H _ I hq) fun us s1 ⟨xs, H1, I1, r, z, q⟩ => ⟨by rw [← r.length]; exact z, ?_⟩)
  have hf : H1 s1.heap.objs.size = none := I1.hok.fresh (Nat.le_refl _)
  refine ⟨.ref s1.heap.objs.size, upd H1 s1.heap.objs.size (.lst xs), I1.laid (t' := s1.toks) (fun b u e => Heap.get?_push_of_some _ e) (Nat.le_refl _) ?_, rfl, q _ hf⟩
  exact ⟨z, us, 0, r, Heap.get?_push_size _ rfl⟩
end

/-- a def's promise: the bound arguments in the parameters' order, the heap, the wanted end, the wanted exception -/
noncomputable abbrev Sp := List V → Hp → VK → XK → Prop
/-- how an exception lies behind a call (file 08 gives it): the callers' frames, abstract heap and state ahead of the call, the wish, the exception, the state -/
noncomputable abbrev CXT := List Env → Hp → Shared → XK → Value → Shared → Prop

/-- the state at a call -/
structure Env0 (P : Program) (w : World) (K : PySem.W.Frag) (mg : Str → Option Value) (base : Heap) (A : Around) (outer : List Env) (s : Shared) (H : Hp) : Prop where
  frames : A.frames = some outer
  mod : Mod K mg base
  bs : ∀ b o, base.get? b = some o → s.heap.get? b = some o ∧ H b = none
  bsz : base.objs.size ≤ s.heap.objs.size
  funs : s.heap.FunFrames base outer
  frf : ∀ b ∈ frs outer, H b = none
  hok : HOk P w H s.heap
  bare : AllBare s.gens
/-- a call's end -/
noncomputable def CE (outer : List Env) (P : Program) (w : World) (H : Hp) (s : Shared) (Q : VK) (u : Value) (s' : Shared) : Prop :=
  ∃ v H', s'.os = s.os ∧ AllBare s'.gens ∧ Un (frs outer) [] H H' s.heap s'.heap ∧ HOk P w H' s'.heap ∧ RelV v u ∧ Q v H'
noncomputable def CR (CX : CXT) (outer : List Env) (P : Program) (w : World) (H : Hp) (s : Shared) (Q : VK) (E : XK) (r : Result) (s' : Shared) : Prop :=
  match r with
  | .ok (.ret u) => CE outer P w H s Q u s'
  | .ok _ => False
  | .error e => CX outer H s E e s'
structure FnOk (P : Program) (w : World) (K : PySem.W.Frag) (mg : Str → Option Value) (base : Heap) (CX : CXT) (k : Nat) (f : Addr) (fd : FuncData) (ps : List Str) (sp : Sp) : Prop where
  len : ∀ vs H Q E, sp vs H Q E → vs.length = ps.length
  run : ∀ (A : Around) (outer : List Env) (s : Shared) (H : Hp) (args : Args) (us : List Value) (vs : List V) (Q : VK) (E : XK), Room k A → Env0 P w K mg base A outer s H → BindsTo s fd args (ps.zip us) → Vals vs us → sp vs H Q E →
    codeAny (model P w) A (.call (.ref f) args) (CR CX outer P w H s Q E) s
section
variable {X : Cx} {pins : List (Addr × Obj)} {σ : St} {H : Hp} {s s' : Shared}
/-- from a body: what a callee wants -/
theorem Inv.env0 (I : Inv X pins σ H s) : Env0 X.prog X.w X.K X.mg X.base X.A X.stack s H :=
  ⟨I.ok.frames, I.ok.mod, I.bs, Nat.le_trans I.ok.bsz I.sz, I.stack, I.stkFree, I.hok, I.bare⟩
/-- behind a call -/
theorem Inv.after {Q : VK} {u : Value} (I : Inv X pins σ H s) (h : CE X.stack X.prog X.w H s Q u s') : EP X pins σ Q u s' := by
  obtain ⟨v, H', os, bare, un, hok, r, q⟩ := h
  obtain ⟨hh, g, d, t, os'⟩ := s'
  obtain rfl : os' = s.os := os
  exact ⟨v, H', I.call (h' := hh) (g' := g) (d' := d) (t' := t) (ch := []) un hok bare (fun b z => absurd z (by simp)), r, q⟩
end

/-- f(..): the written arguments, then the defaults dvs; E: what is wanted of an exception -/
noncomputable def tCall (sp : Sp) (dvs : List V) (E : XK) (t : TA) : TE := fun σ H Q => t σ H fun vs H1 => sp (vs ++ dvs) H1 Q E
/-- how the parameters are bound: us the positional arguments, kw the keywords' values by name, ds the defaults that fill up -/
noncomputable def Binds (K : PySem.W.Frag) (fd : FuncData) (ps : List Str) (ds : List Value) : Prop :=
  ∀ (s : Shared) (us : List Value), K.In s.heap → (us ++ ds).length = ps.length → BindsTo s fd ⟨us, []⟩ (ps.zip (us ++ ds))
/-- every parameter is given -/
theorem Binds.all {K : PySem.W.Frag} {fd : FuncData} {ps : List Str} (h : ∀ us : List Value, us.length = ps.length → bindArgs fd ⟨us, []⟩ = pure (ps.zip us)) : Binds K fd ps [] := fun s us _ hl => by
  rw [List.append_nil] at hl ⊢
  exact .of_eq (h us hl)

/-- an exception of a callee reaches what this body wants of exceptions -/
noncomputable def Passes (CX : CXT) (X : Cx) (E : XK) : Prop := ∀ (pins : List (Addr × Obj)) (σ : St) (H : Hp) (s : Shared) (e : Value) (s' : Shared), Inv X pins σ H s → CX X.stack H s E e s' → X.xe e s'

section
variable {X : Cx} {CX : CXT} {k : Nat} {f C : Addr} {fd : FuncData} {ps : List Str} {sp : Sp} {dvs : List V} {ds : List Value} {E : XK} {x m : Str} {p pos apos : Pos} {e o : Expr} {es : List Expr} {ta : TE} {t : TA}

/-- the callee runs -/
theorem run_fn {pins : List (Addr × Obj)} {σ : St} {H : Hp} {s : Shared} {Q : VK} {us : List Value} {vs : List V} (F : FnOk X.prog X.w X.K X.mg X.base CX k f fd ps sp) (hr : Room k X.A) (hb : Binds X.K fd ps ds) (hd : Vals dvs ds) (hx : Passes CX X E)
    (I : Inv X pins σ H s) (r : Vals vs us) (h : sp (vs ++ dvs) H Q E) : wpAny (model X.prog X.w) X.A (call (.ref f) us) (EP X pins σ Q) X.xe s := by
  have r2 : Vals (vs ++ dvs) (us ++ ds) := r.append hd
  have hl : (us ++ ds).length = ps.length := by rw [← r2.length]; exact F.len _ _ _ _ h
  refine wpAny_call (codeAny_mono (F.run X.A X.stack s H ⟨us, []⟩ (us ++ ds) (vs ++ dvs) Q E hr I.env0 (hb s us I.kIn hl) r2 h) fun r s' hq => ?_)
  cases r with
  | error e => exact hx pins σ H s e s' I hq
  | ok fl =>
    cases fl with
    | ret u => exact I.after hq
    | next => exact False.elim hq
    | brk => exact False.elim hq
    | cont => exact False.elim hq

theorem pe_call (F : FnOk X.prog X.w X.K X.mg X.base CX k f fd ps sp) (hr : Room k X.A) (hg : Gl X x) (hm : X.mg x = some (.ref f)) (hk : PySem.W.keepIn X.K (.ref f) = true) (hb : Binds X.K fd ps ds) (hd : Vals dvs ds) (hx : Passes CX X E)
    (ha : PA X (e :: es) t) (hdb : (x == ("__debug__" : Str)) = false := by decide) (he : starEach (e :: es) X.env = (false, eval e X.env) :: starEach es X.env := by rfl) (hpl : (backTo pos (starEach es X.env)).any (·.1) = false := by rfl) :
    PE X (.Call (.Name x p) (e :: es) [] pos) (tCall sp dvs E t) := by
  intro pins s σ H Q I h
  refine wpAny_Call_Name_kw (ld_glob I hg hm ?_ hdb)
  refine PySem.W.callWith_K (h₀ := X.base) I.ok.mod.kin hk (thn (ha pos pins s σ H _ I h) fun us s1 ⟨vs, H1, I1, r, q⟩ => ⟨I1.kIn, ?_⟩) he hpl
  exact run_fn F hr hb hd hx I1 r q
end

section
variable {X : Cx} {CX : CXT} {k : Nat} {f C : Addr} {fd : FuncData} {ps ks : List Str} {sp : Sp} {E : XK} {x m : Str} {p pos apos kpos : Pos} {e o : Expr} {es : List Expr} {kws : List Keyword} {te ta : TE} {t tk : TA} {nm : Option Str}
variable {g : List Value → List Value → List Value} {gV : List V → List V → List V}
end

/-- names: the parameters first -/
structure FnScope (N P : List Str) (sc : Scope) : Prop where
  kind : sc.kind = .function
  co : sc.isCoroutine = false
  gen : sc.isGenerator = false
  nd : N.Nodup
  pre : N.take P.length = P
  par : ∀ x ∈ P, sc.names.lookup x = some .local ∨ sc.names.lookup x = some .cell
  nofree : ∀ y ∈ sc.names, y.2 ≠ .free

theorem bindL_out {kindOf : Str → Option NameKind} {x : Str} : ∀ {binds : List (Str × Value)} {m : Str → Option Value}, (∀ v, (x, v) ∉ binds) → bindL kindOf binds m x = m x
  | [], _, _ => rfl
  | (n, v) :: r, m, h => by
    unfold bindL
    rw [bindL_out fun w hw => h w (List.mem_cons_of_mem _ hw)]
    split
    · have : x ≠ n := by rintro rfl; exact h v List.mem_cons_self
      simp [this]
    · rfl
theorem bindC_out {kindOf : Str → Option NameKind} {x : Str} : ∀ {binds : List (Str × Value)} {m : Str → Option Value}, (∀ v, (x, v) ∉ binds) → bindC kindOf binds m x = m x
  | [], _, _ => rfl
  | (n, v) :: r, m, h => by
    unfold bindC
    rw [bindC_out fun w hw => h w (List.mem_cons_of_mem _ hw)]
    split
    · rfl
    · have : x ≠ n := by rintro rfl; exact h v List.mem_cons_self
      simp [this]
theorem bindL_get {kindOf : Str → Option NameKind} {x : Str} {v : Value} : ∀ {P : List Str} {vs : List Value} {i : Nat} {m : Str → Option Value}, P.Nodup → P[i]? = some x → vs[i]? = some v → kindOf x = some .local →
    bindL kindOf (P.zip vs) m x = some v
  | [], _, _, _, _, h, _, _ => by simp at h
  | _ :: _, [], _, _, _, _, h, _ => by simp at h
  | p :: P, w :: vs, 0, m, nd, h1, h2, hk => by
    simp at h1 h2; subst h1; subst h2
    show bindL kindOf ((p, w) :: P.zip vs) m p = _
    unfold bindL
    rw [bindL_out fun v hv => (List.nodup_cons.mp nd).1 (List.of_mem_zip hv).1, if_pos hk]
    simp
  | p :: P, w :: vs, i + 1, m, nd, h1, h2, hk => by
    show bindL kindOf ((p, w) :: P.zip vs) m x = _
    unfold bindL
    exact bindL_get (i := i) (List.nodup_cons.mp nd).2 (by simpa using h1) (by simpa using h2) hk
theorem bindC_get {kindOf : Str → Option NameKind} {x : Str} {v : Value} : ∀ {P : List Str} {vs : List Value} {i : Nat} {m : Str → Option Value}, P.Nodup → P[i]? = some x → vs[i]? = some v → kindOf x ≠ some .local →
    bindC kindOf (P.zip vs) m x = some v
  | [], _, _, _, _, h, _, _ => by simp at h
  | _ :: _, [], _, _, _, _, h, _ => by simp at h
  | p :: P, w :: vs, 0, m, nd, h1, h2, hk => by
    simp at h1 h2; subst h1; subst h2
    show bindC kindOf ((p, w) :: P.zip vs) m p = _
    unfold bindC
    rw [bindC_out fun v hv => (List.nodup_cons.mp nd).1 (List.of_mem_zip hv).1, if_neg hk]
    simp
  | p :: P, w :: vs, i + 1, m, nd, h1, h2, hk => by
    show bindC kindOf ((p, w) :: P.zip vs) m x = _
    unfold bindC
    exact bindC_get (i := i) (List.nodup_cons.mp nd).2 (by simpa using h1) (by simpa using h2) hk

/-- the names' values at the entry -/
noncomputable def start (N : List Str) (vs : List V) : St := vs.map some ++ List.replicate (N.length - vs.length) none

/-- the context of a def's body, at its entry; an exception leaves the frame, then lies as CX says -/
noncomputable def cxOf (CX : CXT) (P : Program) (w : World) (K : PySem.W.Frag) (mg : Str → Option Value) (base : Heap) (N : List Str) (qual : Str) (scope : Scope) (f : Addr) (cd : Value) (A : Around) (outer : List Env) (s : Shared) (H : Hp) (E : XK) : Cx where
  prog := P
  w := w
  K := K
  mg := mg
  base := base
  A := A.deeper (envOfC qual scope s.heap.objs.size f cd)
  N := N
  s₀ := s
  H₀ := H
  env := envOfC qual scope s.heap.objs.size f cd
  outer := outer
  stack := envOfC qual scope s.heap.objs.size f cd :: outer
  ex := []
  calm := true
  fn := fun _ => true
  pn := []
  xe := fun e s' => wpAny (model P w) (A.deeper (envOfC qual scope s.heap.objs.size f cd)) (leaving (envOfC qual scope s.heap.objs.size f cd) e) (fun _ s'' => CX outer H s E e s'') (fun e' s'' => CX outer H s E e' s'') s'

theorem cell_has {sc : Scope} {n : Nat} {x : Str} (h : sc.names.lookup x = some .cell) : ∃ c, (cellsFrom n sc.names []).lookup x = some c := by
  have q := PySem.W.cellsFrom_some sc.names n [] (.inl h)
  exact Option.isSome_iff_exists.mp q

theorem inv_start {CX : CXT} {P : Program} {w : World} {K : PySem.W.Frag} {mg : Str → Option Value} {base : Heap} {N ps : List Str} {qual : Str} {scope : Scope} {f : Addr} {cd : Value} {A : Around} {outer : List Env} {s s1 : Shared} {H : Hp} {E : XK} {us : List Value} {vs : List V}
    (S : FnScope N ps scope) (hd : A.handled = none) (e0 : Env0 P w K mg base A outer s H) (hl : vs.length = ps.length) (r : Vals vs us)
    (x : InCallC s s.heap.objs.size (bindL (envOfC qual scope s.heap.objs.size f cd).kindOf (ps.zip us) fun _ => none) (cellsFrom (s.heap.objs.size + 1) scope.names []) (bindC (envOfC qual scope s.heap.objs.size f cd).kindOf (ps.zip us) fun _ => none) s1) :
    Inv (cxOf CX P w K mg base N qual scope f cd A outer s H E) [] (start N vs) H s1 := by
  have hpl : ps.length ≤ N.length := by have := congrArg List.length S.pre; rw [List.length_take] at this; omega
  obtain ⟨h1, tk, rfl, hk⟩ := x.done
  have noA : ∀ b : Addr, b ∉ (cxOf CX P w K mg base N qual scope f cd A outer s H E).ex := fun b z => absurd (show b ∈ ([] : List Addr) from z) (by simp)
  refine ⟨⟨e0.mod, S.kind, rfl, rfl, Nat.le_refl _, fun y z c h1 h2 => ?_, fun y hy => ?_, fun y c _ h => ?_, fun _ => hd, Around.frames_deeper e0.frames, .inr ⟨rfl, rfl⟩, fun b z => absurd z (noA b), e0.bs, e0.bsz, fun b _ _ => noA b, fun b z => absurd z (noA b), e0.funs, e0.frf⟩,
    rfl, e0.bare, Un.kept hk, ⟨_, x.toInCall.ns, fun i y v h1 h2 h3 => ?_⟩, fun y c h => ⟨_, x.cell y c h⟩, e0.hok.fresh (Nat.le_refl _), fun y c h => ?_, fun p hp => absurd (show p ∈ ([] : List (Addr × Obj)) from hp) (by simp), e0.hok.kept hk, ?_⟩
  · exact name_of_addr x.apart (PySem.mem_of_lookup h1) (PySem.mem_of_lookup h2)
  · have hy : scope.names.lookup y = some .cell ∨ scope.names.lookup y = some .free := hy
    rcases hy with hy | hy
    · exact cell_has hy
    · exact absurd rfl (S.nofree _ (PySem.mem_of_lookup hy))
  · exact Nat.le_of_lt (x.above y c (PySem.mem_of_lookup h))
  · have hi : i < vs.length := by
      unfold start at h2
      by_cases hi : i < vs.length
      · exact hi
      · rw [List.getElem?_append_right (by simpa using hi)] at h2
        rw [List.getElem?_replicate] at h2
        split at h2 <;> cases h2
    have ha : vs[i]? = some v := by
      unfold start at h2
      rw [List.getElem?_append_left (by simpa using hi), List.getElem?_map] at h2
      cases e : vs[i]? with
      | none => rw [e] at h2; cases h2
      | some a => rw [e] at h2; cases h2; rfl
    obtain ⟨u, hu, rv⟩ := r.get ha
    have hp : ps[i]? = some y := by
      rw [← S.pre, List.getElem?_take_of_lt (by omega)]; exact h1
    have ndP : ps.Nodup := by rw [← S.pre]; exact S.nd.sublist (List.take_sublist _ _)
    refine ⟨u, rv, ?_⟩
    rcases S.par y (List.mem_of_getElem? hp) with k | k
    · exact .inl ⟨k, bindL_get ndP hp hu k⟩
    · obtain ⟨c, e⟩ := cell_has (n := s.heap.objs.size + 1) k
      refine .inr ⟨.inl k, c, e, ?_⟩
      have q := x.cell y c e
      rw [bindC_get ndP hp hu (by show scope.names.lookup y ≠ _; rw [k]; decide)] at q
      exact q
  · exact e0.hok.fresh (Nat.le_of_lt (x.above y c (PySem.mem_of_lookup h)))
  · unfold start
    show _ = N.length
    rw [List.length_append, List.length_map, List.length_replicate]
    omega

/-- THE RULE: a def (or a method) of the text, by its body. The body's reading t is chosen for each entry; it is run at the parameters' values -/
theorem fn_of {CX : CXT} {P : Program} {w : World} {K : PySem.W.Frag} {mg : Str → Option Value} {base : Heap} {k : Nat} {f : Addr} {name qual : Str} {params : Arguments} {body : List Stmt} {scope : Scope} {dV kV doc pm cdv ct oc : Value} {an od : Option Addr}
    {osl : Array (Option Value)} {N ps : List Str} {sp : Sp} (lk : K.lookup f = some ⟨oc, od, .func (PySem.W.fnOf name qual params body scope dV kV doc pm an cdv ct), osl⟩) (hcd : PySem.W.codeIn K cdv qual = true) (S : FnScope N ps scope)
    (len : ∀ vs H Q E, sp vs H Q E → vs.length = ps.length)
    (hbody : ∀ (A : Around) (outer : List Env) (s : Shared) (H : Hp) (vs : List V) (Q : VK) (E : XK), Room k (A.deeper (envOfC qual scope s.heap.objs.size f cdv)) → sp vs H Q E →
      ∃ t, PSs (cxOf CX P w K mg base N qual scope f cdv A outer s H E) body t ∧ t { nx := fun _ H' => Q .non H', rt := Q } (start N vs) H) :
    FnOk P w K mg base CX (k + 1) f (PySem.W.fnOf name qual params body scope dV kV doc pm an cdv ct) ps sp := by
  refine ⟨len, fun A outer s H args us vs Q E hr e0 hb r hsp => ?_⟩
  have hl := len _ _ _ _ hsp
  have KX : K.In s.heap := e0.mod.kin.keeps fun b o e => (e0.bs b o e).1
  have lim : s.heap.NoLimit := e0.mod.nolimit.keeps fun b o e => (e0.bs b o e).1
  have hkind : ∀ y ∈ ps.zip us, scope.names.lookup y.1 = some .local ∨ (scope.names.lookup y.1 = some .cell ∧ ((cellsFrom (s.heap.objs.size + 1) scope.names []).lookup y.1).isSome = true) := fun ⟨n, v⟩ hy => by
    rcases S.par n (List.of_mem_zip hy).1 with q | q
    · exact .inl q
    · exact .inr ⟨q, PySem.W.cellsFrom_some _ _ _ (.inl q)⟩
  refine codeAny_call_function hr.depth (KX _ _ lk) rfl S.co S.gen rfl (PySem.W.codeRec_of KX hcd) (hb _ _ _ _ ?_)
  refine wpAny_newFunctionEnv_cells S.kind hkind fun env he s1 x => ?_
  subst he
  refine ⟨lim.keeps x.toInCall.keep, codeAny_func ?_⟩
  obtain ⟨t, ht, hq⟩ := hbody A outer s H vs Q E (hr.deeper _) hsp
  have I : Inv (cxOf CX P w K mg base N qual scope f cdv A outer s H E) [] (start N vs) H s1 := inv_start S hr.hd e0 hl r x
  refine wpAny_mono (ht [] s1 (start N vs) H _ I hq) (fun fl s' hs => ?_) fun e s' hs => hs
  have fin : ∀ {σ' : St} {H' : Hp} {v : V} {u : Value}, Inv (cxOf CX P w K mg base N qual scope f cdv A outer s H E) [] σ' H' s' → RelV v u → Q v H' → CE outer P w H s Q u s' :=
    fun {σ' H' v u} J rv q => ⟨v, H', J.os, J.bare, J.base, J.hok, rv, q⟩
  cases fl with
  | ret u =>
    obtain ⟨v, σ', H', J, rv, q⟩ := hs
    exact fin J rv q
  | next =>
    obtain ⟨σ', H', J, q⟩ := hs
    exact fin (v := V.non) (u := Value.none) J rfl q
  | brk =>
    obtain ⟨_, _, _, q⟩ := hs
    exact False.elim q
  | cont =>
    obtain ⟨_, _, _, q⟩ := hs
    exact False.elim q
end L2

namespace L2
open PySem PySem.Spec PyProof.Rows
section
variable {X : Cx} {x : Str} {p pos : Pos} {e : Expr} {es : List Expr} {t : TA} {id T : String} {r : List V → Hp → VK → Prop}

noncomputable def tCB (r : List V → Hp → VK → Prop) (t : TA) : TE := fun σ H Q => t σ H fun vs H1 => r vs H1 Q
/-- f(e, ..), f a built-in function -/
theorem pe_callB (hc : CallR X (.builtin id) r) (hg : Gl X x) (hm : X.mg x = none) (hv : bootBuiltins x = some (.builtin id)) (ha : PA X (e :: es) t) (hn : x ≠ "__name__" := by decide) (hdb : (x == ("__debug__" : Str)) = false := by decide)
    (he : starEach (e :: es) X.env = (false, eval e X.env) :: starEach es X.env := by rfl) (hpl : (backTo pos (starEach es X.env)).any (·.1) = false := by rfl) : PE X (.Call (.Name x p) (e :: es) [] pos) (tCB r t) := by
  intro pins s σ H Q I h
  refine wpAny_Call_Name_kw (ld_blt I hg hm hv ?_ hn hdb)
  exact PyProof.Rows.callWith_builtin1 (thn (ha pos pins s σ H _ I h) fun us s1 ⟨vs, H1, I1, r1, q1⟩ => hc pins s1 σ H1 vs us Q I1 r1 q1) he hpl
/-- T(e, ..), T a built-in type -/
theorem pe_callTy (hc : CallR X (.type T) r) (hg : Gl X x) (hm : X.mg x = none) (hv : bootBuiltins x = some (.type T)) (ha : PA X (e :: es) t) (hn : x ≠ "__name__" := by decide) (hdb : (x == ("__debug__" : Str)) = false := by decide)
    (he : starEach (e :: es) X.env = (false, eval e X.env) :: starEach es X.env := by rfl) (hpl : (backTo pos (starEach es X.env)).any (·.1) = false := by rfl) : PE X (.Call (.Name x p) (e :: es) [] pos) (tCB r t) := by
  intro pins s σ H Q I h
  refine wpAny_Call_Name_kw (ld_blt I hg hm hv ?_ hn hdb)
  exact PyProof.Rows.callWith_type1 (thn (ha pos pins s σ H _ I h) fun us s1 ⟨vs, H1, I1, r1, q1⟩ => hc pins s1 σ H1 vs us Q I1 r1 q1) he hpl
end
end L2

namespace HT
open PySem PyProof.Rows

section
open PySem.SeqAt
open PySem.AutoSeq1 (wpAny_loadPart')
open PySem.MeetsSeq PySem.MeetsSeq2 PySem.MeetsSeq3

end

section
variable {prog : Program} {w : World} {A : Around} {E : Value → Shared → Prop} {s : Shared}

/-- t + u, t not empty -/
theorem cat_tup {t b : Addr} {vs ws : List Value} {Q : Value → Shared → Prop} (ht : IsTup s.heap t vs.toArray) (hb : IsTup s.heap b ws.toArray) (hv : vs ≠ [])
    (h1 : ws = [] → Q (.ref t) s) (h2 : ws ≠ [] → Q (.ref s.heap.objs.size) { s with heap := s.heap.push { cls := .type "tuple", data := .seq (vs ++ ws).toArray } })
    (hsz : vs.length + ws.length ≤ sizeLine) : wpAny (model prog w) A (binaryOp .Add (.ref t) (.ref b)) Q E s := by
  obtain ⟨⟨cls, dd, data, sl⟩, ho, hc, n, hd⟩ := id ht
  obtain ⟨⟨cls2, dd2, data2, sl2⟩, ho2, hc2, n2, hd2⟩ := id hb
  simp only at hc hd hc2 hd2
  subst hc hd hc2 hd2
  have e : vs.toArray ++ ws.toArray = (vs ++ ws).toArray := by simp
  by_cases hw : ws = []
  · exact concat_meets ⟨_, ho, rfl⟩ ⟨_, ho2, rfl⟩ noFill_tuple_add seq_tuple_add PySem.F.slot_tuple_add PySem.F.entry_tuple_add (PySem.F.args_tuple_add_2 _ _)
      (tuple_addW1 t b vs.toArray ws.toArray n n2 dd dd2 sl sl2 (by simpa using hv) (by simp [hw])) ⟨ho, ho2, h1 hw⟩
  · refine concat_meets ⟨_, ho, rfl⟩ ⟨_, ho2, rfl⟩ noFill_tuple_add seq_tuple_add PySem.F.slot_tuple_add PySem.F.entry_tuple_add (PySem.F.args_tuple_add_2 _ _)
      (tuple_addW2 t b vs.toArray ws.toArray n n2 dd dd2 sl sl2 (by simpa using hv) (by simpa using hw) (by rw [List.size_toArray, List.size_toArray]; exact hsz)) ⟨ho, ho2, ?_⟩
    rw [e]
    exact h2 hw

/-- a slice's bound as a place among n (d where it is left out) -/
noncomputable def sIx (n d : Nat) : Option Int → Nat
  | none => d
  | some v => if v < 0 then (v + (n : Int)).toNat else min v.toNat n
theorem sIx_nat (n d k : Nat) : sIx n d (some (k : Int)) = min k n := by
  show (if (k : Int) < 0 then ((k : Int) + (n : Int)).toNat else min (k : Int).toNat n) = min k n
  rw [if_neg (by omega), Int.toNat_natCast]
theorem sIx_le (n d : Nat) (hd : d ≤ n) (o : Option Int) : sIx n d o ≤ n := by
  cases o with
  | none => exact hd
  | some v =>
    show (if v < 0 then (v + (n : Int)).toNat else min v.toNat n) ≤ n
    by_cases hv : v < 0
    · rw [if_pos hv]; omega
    · rw [if_neg hv]; exact Nat.min_le_right _ _
theorem clip_eq (v : Int) (n d : Nat) : (if v < 0 then max (v + (n : Int)) 0 else min v (n : Int)) = ((sIx n d (some v) : Nat) : Int) := by
  show (if v < 0 then max (v + (n : Int)) 0 else min v (n : Int)) = (((if v < 0 then (v + (n : Int)).toNat else min v.toNat n) : Nat) : Int)
  by_cases hv : v < 0
  · simp only [if_pos hv]; omega
  · simp only [if_neg hv]; omega
theorem adjust_gen (lo hi : Option Int) (n : Nat) : Builtin.Slice.sliceAdjust lo hi 1 (n : Int) = (((sIx n 0 lo : Nat) : Int), ((sIx n n hi : Nat) : Int)) := by
  have h1 : ¬ ((1 : Int) < 0) := by omega
  unfold Builtin.Slice.sliceAdjust
  simp only [h1, if_false]
  refine Prod.ext ?_ ?_
  · cases lo with
    | none => rfl
    | some v => exact clip_eq v n 0
  · cases hi with
    | none => rfl
    | some v => exact clip_eq v n n
theorem places_gen (i j : Nat) : Builtin.Slice.slicePlaces (i : Int) (j : Int) 1 = j - i := by
  unfold Builtin.Slice.slicePlaces
  have h1 : (1 : Int) > 0 := by omega
  simp only [h1, if_true, Int.ediv_one]
  split <;> omega
theorem slicePart_ {v : Value} {o : Option Int} {Q : Option Int → Shared → Prop} (p : IsPart v o) (h : Q o s) : wpAny (model prog w) A (Builtin.Slice.slicePartIndex v) Q E s := by
  cases p with
  | none => exact slicePart_none h
  | int i t => exact slicePart_int h
theorem sliceApplied_gen {sl : Addr} {vl vu : Value} {lo hi : Option Int} {n : Nat} {Q : Int × Int × Nat → Shared → Prop} (hs : s.heap.IsSliceOf sl vl vu .none) (pl : IsPart vl lo) (pu : IsPart vu hi)
    (h : Q (((sIx n 0 lo : Nat) : Int), 1, sIx n n hi - sIx n 0 lo) s) : wpAny (model prog w) A (Builtin.Slice.sliceApplied (.ref sl) (pure (n : Int))) Q E s := by
  obtain ⟨os, hos, hcs, hds⟩ := id hs
  unfold Builtin.Slice.sliceApplied Builtin.Slice.sliceFields
  refine wpAny_bind (wpAny_bind (wpAny_field hos hds (x := vl) rfl (wpAny_bind (wpAny_field hos hds (x := vu) rfl (wpAny_bind (wpAny_field hos hds (x := .none) rfl (wpAny_pure ?_)))))))
  refine wpAny_bind (slicePart_none ?_)
  show wpAny _ _ (if ((1 : Int) == 0) = true then _ else _) _ _ s
  rw [if_neg (by decide)]
  refine wpAny_bind (slicePart_ pl (wpAny_bind (slicePart_ pu (wpAny_bind (wpAny_pure ?_)))))
  show wpAny _ _ (match Builtin.Slice.sliceAdjust lo hi 1 (n : Int) with | (lo, hi) => pure (lo, (1 : Int), Builtin.Slice.slicePlaces lo hi 1)) _ _ s
  rw [adjust_gen lo hi n]
  show wpAny _ _ (pure (((sIx n 0 lo : Nat) : Int), (1 : Int), Builtin.Slice.slicePlaces ((sIx n 0 lo : Nat) : Int) ((sIx n n hi : Nat) : Int) 1)) _ _ s
  rw [places_gen]
  exact wpAny_pure h
theorem pick_gen (xs : Array Value) (i k : Nat) : ((List.range k).filterMap fun (m : Nat) => xs[((i : Int) + (m : Int) * 1).toNat]?).toArray = ((xs.toList.drop i).take k).toArray := by
  have e : (fun (m : Nat) => xs[((i : Int) + (m : Int) * 1).toNat]?) = fun m => xs[i + m]? := by
    funext m
    have : ((i : Int) + (m : Int) * 1).toNat = i + m := by omega
    rw [this]
  rw [e]
  have := pick_run xs i k
  rw [List.filterMap_map] at this
  have e2 : ((fun x => xs[x]?) ∘ fun x => i + x) = fun m => xs[i + m]? := rfl
  rw [e2] at this
  rw [this]

theorem getItem_tuple_cut {t sl : Addr} {items : Array Value} {vl vu : Value} {lo hi : Option Int} {Q : Value → Shared → Prop} (ht : IsTup s.heap t items) (hs : s.heap.IsSliceOf sl vl vu .none) (pl : IsPart vl lo) (pu : IsPart vu hi)
    (hw : ¬ (sIx items.size 0 lo = 0 ∧ sIx items.size items.size hi = items.size))
    (h : Q (.ref s.heap.objs.size) { s with heap := s.heap.push { cls := .type "tuple", data := .seq ((items.toList.drop (sIx items.size 0 lo)).take (sIx items.size items.size hi - sIx items.size 0 lo)).toArray } })
    (hsz : items.size ≤ sizeLine) : wpAny (model prog w) A (getItem (.ref t) (.ref sl)) Q E s := by
  have htake : sizeOk (.seq ((items.toList.drop (sIx items.size 0 lo)).take (sIx items.size items.size hi - sIx items.size 0 lo)).toArray) := by
    show ((items.toList.drop (sIx items.size 0 lo)).take (sIx items.size items.size hi - sIx items.size 0 lo)).toArray.size ≤ sizeLine
    rw [List.size_toArray, List.length_take, List.length_drop, Array.length_toList]
    omega
  have hj : sIx items.size items.size hi ≤ items.size := sIx_le _ _ (Nat.le_refl _) hi
  obtain ⟨os, hos, hcs, hds⟩ := id hs
  have hTs : s.TypeIs (.ref sl) "slice" := ⟨os, hos, hcs⟩
  unfold getItem
  try with_reducible refine wpAny_holding ?_
  first | refine wpAny_bind (wpAny_pure ?_) | skip
  refine wpAny_bind (wpAny_sequenceKey ht.typeIs (by decide) ?_)
  refine wpAny_bind (wpAny_callSpecial?_slot (name := Str.ofString "__getitem__") ht.typeIs PyProof.Rows.slot_tuple_getitem
    (wpAny_call_entry PyProof.Rows.slot_tuple_getitem ht.typeIs entry_tuple_getitem ?_ (args_tuple_getitem _ _)))
  show wpAny _ _ (Builtin.Tuple.tupleItemsOf (.ref t) >>= _) _ _ s
  refine wpAny_bind (tupleItemsOf_ ht ?_)
  refine wpAny_bind (wpAny_typeOf hTs ?_)
  rw [if_pos (by decide)]
  refine wpAny_bind (sliceApplied_gen hs pl pu ?_)
  have hno : ¬ ((((sIx items.size 0 lo : Nat) : Int) == 0 && (1 : Int) == 1 && (sIx items.size items.size hi - sIx items.size 0 lo) == items.size) = true) := by
    intro q
    rw [Bool.and_eq_true, Bool.and_eq_true] at q
    have q1 : ((sIx items.size 0 lo : Nat) : Int) = 0 := eq_of_beq q.1.1
    have q2 : sIx items.size items.size hi - sIx items.size 0 lo = items.size := eq_of_beq q.2
    exact hw ⟨by omega, by omega⟩
  show wpAny _ _ (if (((sIx items.size 0 lo : Nat) : Int) == 0 && (1 : Int) == 1 && (sIx items.size items.size hi - sIx items.size 0 lo) == items.size) = true then _ else _) _ _ s
  rw [if_neg hno, pick_gen]
  first
    | exact wpAny_bind (m := Builtin.Tuple.tupleExact _) (wpAny_newObj_type (wpAny_pure ⟨_, rfl, wpAny_pure h⟩) htake)
    | exact wpAny_bind (m := Builtin.Tuple.tupleExact _) (wpAny_newObj_type (wpAny_bind (wpAny_pure (wpAny_pure ⟨_, rfl, wpAny_pure h⟩))) htake)
    | exact wpAny_bind (wpAny_bind (m := Builtin.Tuple.tupleExact _) (wpAny_newObj_type (wpAny_pure (wpAny_pure ⟨_, rfl, wpAny_pure h⟩)) htake))
    | exact wpAny_bind (wpAny_bind (m := Builtin.Tuple.tupleExact _) (wpAny_newObj_type (wpAny_pure ⟨_, rfl, wpAny_pure h⟩) htake))
end
end HT

namespace L2
open PySem PySem.Spec PyProof.Rows

noncomputable abbrev TO := St → Hp → (Option Int → Hp → Prop) → Prop
/-- a slice's part (left out, or an int) -/
noncomputable def PO (X : Cx) (e : Option Expr) (t : TO) : Prop :=
  ∀ (pins : List (Addr × Obj)) (s : Shared) (σ : St) (H : Hp) (Q : Option Int → Hp → Prop), Inv X pins σ H s → t σ H Q →
    wpAny (model X.prog X.w) X.A (evalPart e X.env) (fun u s' => ∃ o H', Inv X pins σ H' s' ∧ IsPart u o ∧ Q o H') X.xe s
noncomputable def tNoPart : TO := fun _ H Q => Q none H
noncomputable def tPart (t : TE) : TO := fun σ H Q => t σ H fun x H1 => ∃ i, x = .int i ∧ Q (some i) H1

section
variable {X : Cx} {e : Expr} {te : TE} {lo hi : Option Expr} {tl th : TO} {pos p2 : Pos}

theorem po_none : PO X none tNoPart := by
  intro pins s σ H Q I h
  rw [evalPart_none]
  exact wpAny_pure ⟨none, H, I, .none, h⟩
theorem po_some (h : PE X e te) : PO X (some e) (tPart te) := by
  intro pins s σ H Q I hw
  rw [evalPart_some]
  refine thn (h pins s σ H _ I hw) fun u s1 ⟨x, H1, I1, r1, q1⟩ => ?_
  obtain ⟨i, rfl, q⟩ := q1
  obtain ⟨t, rfl⟩ := r1
  exact ⟨some i, H1, I1, .int i t, q⟩

/-- what a slice of a value is, by values: the slice object stands at sl -/
noncomputable def SlR (X : Cx) (r : V → Option Int → Option Int → Hp → VK → Prop) : Prop :=
  ∀ (pins : List (Addr × Obj)) (s : Shared) (σ : St) (H : Hp) (x : V) (v vl vu : Value) (lo hi : Option Int) (sl : Addr) (Q : VK), Inv X pins σ H s → RelV x v → s.heap.IsSliceOf sl vl vu .none → IsPart vl lo → IsPart vu hi → r x lo hi H Q →
    ∃ T id, typeLookup (.type T) "__getitem__" = pure (some (.builtin id)) ∧ s.TypeIs v T ∧ wpAny (model X.prog X.w) X.A (getItem v (.ref sl)) (EP X pins σ Q) X.xe s
theorem SlR.or {r r' : V → Option Int → Option Int → Hp → VK → Prop} (h : SlR X r) (h' : SlR X r') : SlR X (fun x lo hi H Q => r x lo hi H Q ∨ r' x lo hi H Q) := by
  intro pins s σ H x v vl vu lo hi sl Q I rx hs pl pu q
  rcases q with q | q
  · exact h pins s σ H x v vl vu lo hi sl Q I rx hs pl pu q
  · exact h' pins s σ H x v vl vu lo hi sl Q I rx hs pl pu q
noncomputable def tSl (r : V → Option Int → Option Int → Hp → VK → Prop) (te : TE) (tl th : TO) : TE := fun σ H Q => te σ H fun x H1 => tl σ H1 fun l H2 => th σ H2 fun u H3 => r x l u H3 Q
/-- a[lo:hi], any a -/
theorem pe_slice {r : V → Option Int → Option Int → Hp → VK → Prop} (hr : SlR X r) (he : PE X e te) (hl : PO X lo tl) (hu : PO X hi th) : PE X (.Subscript e (.Slice lo hi none p2) pos) (tSl r te tl th) := by
  intro pins s σ H Q I h
  refine Subscript_ (thn (he pins s σ H _ I h) fun v s1 ⟨x, H1, I1, r1, q1⟩ => ?_)
  refine wpAny_Slice (thn (hl pins s1 σ H1 _ I1 q1) fun vl s2 ⟨l, H2, I2, pl, q2⟩ => thn (hu pins s2 σ H2 _ I2 q2) fun vu s3 ⟨u, H3, I3, pu, q3⟩ => ?_)
  rw [evalPart_none]
  refine wpAny_pure ?_
  have I4 : Inv X pins σ H3 { s3 with heap := s3.heap.push { cls := .type "slice", data := .fields #[vl, vu, .none] } } := I3.kept (t' := s3.toks) fun b ob q => Heap.get?_push_of_some _ q
  obtain ⟨T, id, hT, ht, hg⟩ := hr pins { s3 with heap := s3.heap.push { cls := .type "slice", data := .fields #[vl, vu, .none] } } σ H3 x v vl vu l u s3.heap.objs.size Q I4 r1 (Heap.IsSliceOf.new ..) pl pu q3
  show wpAny (model X.prog X.w) X.A (subscriptTail e (.Slice lo hi none p2) v (.ref s3.heap.objs.size)) (EP X pins σ Q) X.xe { s3 with heap := s3.heap.push { cls := .type "slice", data := .fields #[vl, vu, .none] } }
  exact tail_any (ops := [.ref s3.heap.objs.size, v]) ht hT hg (by with_unfolding_all rfl)

/-- the items of xs[lo:hi] -/
noncomputable def cutV (xs : List V) (lo hi : Option Int) : List V := (xs.drop (HT.sIx xs.length 0 lo)).take (HT.sIx xs.length xs.length hi - HT.sIx xs.length 0 lo)
theorem cutV_length (xs : List V) (lo hi : Option Int) : (cutV xs lo hi).length ≤ xs.length := by
  unfold cutV
  rw [List.length_take, List.length_drop]
  omega
/-- t[lo:hi], not the whole of it (the whole would be t itself) -/
noncomputable def rSlT (K : PySem.W.Frag) : V → Option Int → Option Int → Hp → VK → Prop := fun x lo hi H Q => ∃ a xs, x = .ref a ∧ SqT K H a xs ∧
  ¬ (HT.sIx xs.length 0 lo = 0 ∧ HT.sIx xs.length xs.length hi = xs.length) ∧ ∀ p, H p = none → Q (.ref p) (upd H p (.tup (cutV xs lo hi)))
theorem sl_tup : SlR X (rSlT X.K) := by
  intro pins s σ H x v vl vu lo hi sl Q I rx hs pl pu h
  obtain ⟨a, xs, rfl, hx, hw, q⟩ := h
  cases rx
  obtain ⟨its, r, ht, hz⟩ := I.tuple hx
  have hlen : its.toArray.size = xs.length := by rw [List.size_toArray]; exact r.length.symm
  refine ⟨"tuple", _, PyProof.Rows.slot_tuple_getitem.lookup, ht.typeIs, ?_⟩
  refine HT.getItem_tuple_cut ht hs pl pu (by rw [hlen]; exact hw) ?_ (by rw [hlen]; exact hz)
  rw [hlen]
  refine ⟨.ref s.heap.objs.size, _, I.laid (t' := s.toks) (o := .tup (cutV xs lo hi)) (fun b ob q => Heap.get?_push_of_some _ q) (Nat.le_refl _) ?_, rfl, q _ (I.hok.fresh (Nat.le_refl _))⟩
  exact ⟨Nat.le_trans (cutV_length xs lo hi) hz, _, (r.drop (HT.sIx xs.length 0 lo)).take (HT.sIx xs.length xs.length hi - HT.sIx xs.length 0 lo), IsTup.new _ _, _, Heap.get?_push_size _ rfl, rfl⟩

/-- t + u, t not empty: u empty gives t itself -/
noncomputable def rCatT (K : PySem.W.Frag) : R2 := fun x y H Q => ∃ a b xs ys, x = .ref a ∧ y = .ref b ∧ SqT K H a xs ∧ SqT K H b ys ∧ xs ≠ [] ∧ xs.length + ys.length ≤ sizeLine ∧
  (ys = [] → Q (.ref a) H) ∧ (ys ≠ [] → ∀ p, H p = none → Q (.ref p) (upd H p (.tup (xs ++ ys))))
theorem Vals.nil_iff {xs : List V} {us : List Value} (r : Vals xs us) : us = [] ↔ xs = [] := by
  cases r with
  | nil => simp
  | cons _ _ => simp
theorem op_catT : OpR X (binaryOp .Add) (rCatT X.K) := by
  intro pins s σ H x y v u Q I rx ry h
  obtain ⟨a, b, xs, ys, rfl, rfl, ha, hb, hx, hz, q1, q2⟩ := h
  cases rx
  cases ry
  obtain ⟨its, r1, p1, _⟩ := I.tuple ha
  obtain ⟨its2, r2, p2, _⟩ := I.tuple hb
  refine HT.cat_tup p1 p2 (fun z => hx (r1.nil_iff.mp z)) (fun z => ⟨.ref a, H, I, rfl, q1 (r2.nil_iff.mp z)⟩) (fun z => ?_) (by rw [← r1.length, ← r2.length]; exact hz)
  refine ⟨.ref s.heap.objs.size, _, I.laid (t' := s.toks) (o := .tup (xs ++ ys)) (fun b ob q => Heap.get?_push_of_some _ q) (Nat.le_refl _) ?_, rfl, q2 (fun w => z (r2.nil_iff.mpr w)) _ (I.hok.fresh (Nat.le_refl _))⟩
  exact ⟨by rw [List.length_append]; exact hz, _, r1.append r2, IsTup.new _ _, _, Heap.get?_push_size _ rfl, rfl⟩
end
end L2

namespace L2
open PySem PySem.Spec PyProof.Rows

/-- the place that an index of any sign means -/
noncomputable def ixN (n : Nat) (i : Int) : Option Nat := if 0 ≤ i then (if i < n then some i.toNat else none) else if -(n : Int) ≤ i then some (i + n).toNat else none
noncomputable def atI {α : Type} (xs : List α) (i : Int) : Option α := (ixN xs.length i).bind fun j => xs[j]?
theorem ixN_seq {n : Nat} {i : Int} {j : Nat} (h : ixN n i = some j) : seqIndex? i n = some j ∧ j < n ∧ -(n : Int) ≤ i ∧ i < n := by
  unfold ixN at h
  by_cases h0 : 0 ≤ i
  · rw [if_pos h0] at h
    by_cases h1 : i < n
    · rw [if_pos h1] at h
      have e : i.toNat = j := Option.some.inj h
      exact ⟨by rw [seqIndex_of h0 h1, e], by omega, by omega, h1⟩
    · rw [if_neg h1] at h; cases h
  · rw [if_neg h0] at h
    by_cases h1 : -(n : Int) ≤ i
    · rw [if_pos h1] at h
      have e : (i + n).toNat = j := Option.some.inj h
      exact ⟨by rw [seqIndex_neg (by omega) h1, e], by omega, h1, by omega⟩
    · rw [if_neg h1] at h; cases h
theorem atI_get {α : Type} {xs : List α} {i : Int} {v : α} (h : atI xs i = some v) : ∃ j, seqIndex? i xs.length = some j ∧ xs[j]? = some v ∧ j < xs.length ∧ -(xs.length : Int) ≤ i ∧ i < xs.length := by
  unfold atI at h
  cases e : ixN xs.length i with
  | none => rw [e] at h; cases h
  | some j =>
    rw [e] at h
    obtain ⟨h1, h2, h3, h4⟩ := ixN_seq e
    exact ⟨j, h1, h, h2, h3, h4⟩
theorem atI_nat {α : Type} {xs : List α} {j : Nat} {v : α} (h : xs[j]? = some v) : atI xs (j : Int) = some v := by
  have hj : j < xs.length := (List.getElem?_eq_some_iff.mp h).1
  have e : ixN xs.length (j : Int) = some j := by
    unfold ixN
    rw [if_pos (by omega), if_pos (by omega)]; simp
  unfold atI; rw [e]; exact h
/-- what stands as an index of a plain subscript -/
noncomputable def PlainIx (b : Expr) : Prop := ∀ o i, subscripted b false o i = operate [o, i] (getItem o i)
/-- a subscript by values -/
noncomputable def IxR (X : Cx) (r : R2) : Prop :=
  ∀ (value slice : Expr) (pins : List (Addr × Obj)) (s : Shared) (σ : St) (H : Hp) (x y : V) (v u : Value) (Q : VK), Inv X pins σ H s → RelV x v → RelV y u → r x y H Q →
    subscripted slice false v u = operate [v, u] (getItem v u) → wpAny (model X.prog X.w) X.A (subscriptTail value slice v u) (EP X pins σ Q) X.xe s
/-- a call of a builtin's method by values: the receiver, the arguments -/
noncomputable def MtR (X : Cx) (id : String) (r : V → List V → Hp → VK → Prop) : Prop :=
  ∀ (pins : List (Addr × Obj)) (s : Shared) (σ : St) (H : Hp) (x : V) (xs : List V) (v : Value) (us : List Value) (Q : VK), Inv X pins σ H s → RelV x v → Vals xs us → r x xs H Q →
    wpAny (model X.prog X.w) X.A (call (.builtin id) (v :: us)) (EP X pins σ Q) X.xe s
section
variable {X : Cx} {a b : Expr} {ta tb : TE} {pos : Pos}
theorem IxR.or {r r' : R2} (h : IxR X r) (h' : IxR X r') : IxR X (fun x y H Q => r x y H Q ∨ r' x y H Q) := by
  intro value slice pins s σ H x y v u Q I rx ry q hs
  rcases q with q | q
  · exact h value slice pins s σ H x y v u Q I rx ry q hs
  · exact h' value slice pins s σ H x y v u Q I rx ry q hs
/-- a[b] -/
theorem pe_ix {r : R2} (hr : IxR X r) (ha : PE X a ta) (hb : PE X b tb) (hs : PlainIx b) : PE X (.Subscript a b pos) (tOp r ta tb) := by
  intro pins s σ H Q I h
  exact Subscript_ (binT ha hb I h fun v u s2 x y H2 I2 rx ry q => hr a b pins s2 σ H2 x y v u Q I2 rx ry q (hs _ _))

noncomputable def rIxL (K : PySem.W.Frag) : R2 := fun x y H Q => ∃ p xs i v, x = .ref p ∧ y = .int i ∧ SqL K H p xs ∧ atI xs i = some v ∧ Q v H
noncomputable def rIxT (K : PySem.W.Frag) : R2 := fun x y H Q => ∃ p xs i v, x = .ref p ∧ y = .int i ∧ SqT K H p xs ∧ atI xs i = some v ∧ Q v H
noncomputable def rIxS : R2 := fun x y H Q => ∃ z i c, x = .str z ∧ y = .int i ∧ z.length ≤ sizeLine ∧ atI z.cps.toList i = some c ∧ Q (.str ⟨#[c]⟩) H
theorem ix_list : IxR X (rIxL X.K) := by
  intro value slice pins s σ H x y v u Q I rx ry h hs
  obtain ⟨p, xs, i, z, rfl, rfl, hq, he, q⟩ := h
  cases rx
  obtain ⟨t, rfl⟩ := ry
  obtain ⟨its, r, pl, hz⟩ := I.list hq
  obtain ⟨j, h1, h2, h3, h4, h5⟩ := atI_get he
  obtain ⟨w, ew, rw'⟩ := r.get h2
  have hl := r.length
  have hn := line63
  have fin : EP X pins σ Q w s := ⟨z, H, I, rw', q⟩
  by_cases h0 : 0 ≤ i
  · have hj : i.toNat = j := by
      rw [seqIndex_of h0 h5] at h1
      exact Option.some.inj h1
    exact item_listR pl.isList h0 (by omega) (by rw [hj]; simpa using ew) fin hs
  · have hj : (i + (its.toArray.size : Int)).toNat = j := by
      rw [seqIndex_neg (by omega) h4] at h1
      rw [List.size_toArray, ← hl]
      exact Option.some.inj h1
    exact subscriptTail_builtinR (x := w) pl.isList.typeIs slot_list_getitem.lookup
      (wpAny_getItem_list_neg (Q := fun r s' => r = w ∧ EP X pins σ Q r s') pl.isList (by omega) (by rw [List.size_toArray] <;> omega) (by omega) (by rw [hj]; simpa using ew) ⟨rfl, fin⟩) hs
theorem ix_tup : IxR X (rIxT X.K) := by
  intro value slice pins s σ H x y v u Q I rx ry h hs
  obtain ⟨p, xs, i, z, rfl, rfl, hq, he, q⟩ := h
  cases rx
  obtain ⟨t, rfl⟩ := ry
  obtain ⟨its, r, pl, hz⟩ := I.tuple hq
  obtain ⟨j, h1, h2, h3, h4, h5⟩ := atI_get he
  obtain ⟨w, ew, rw'⟩ := r.get h2
  have hl := r.length
  have hn := line63
  have fin : EP X pins σ Q w s := ⟨z, H, I, rw', q⟩
  exact subscriptTail_builtinR (x := w) pl.typeIs slot_tuple_getitem.lookup
    (getItem_tuple (j := j) (Q := fun r s' => r = w ∧ EP X pins σ Q r s') pl (by omega) (by omega) (by rw [List.size_toArray, ← hl]; exact h1) (by simpa using ew) ⟨rfl, fin⟩) hs
theorem ix_str : IxR X rIxS := by
  intro value slice pins s σ H x y v u Q I rx ry h hs
  obtain ⟨z, i, c, rfl, rfl, hz, he, q⟩ := h
  obtain ⟨t, rfl⟩ := rx
  obtain ⟨t', rfl⟩ := ry
  obtain ⟨j, h1, h2, h3, h4, h5⟩ := atI_get he
  have hl : z.cps.toList.length = z.length := by simp [Str.length]
  rw [hl] at h1 h4 h5
  have hn := line63
  exact tail_any (typeIs_str s z t) slot_str_getitem.lookup (getItem_str (c := c) (by
    have e1 : decide (i < -(2 ^ 63 : Int)) = false := decide_eq_false (by omega)
    have e2 : decide (i ≥ 2 ^ 63) = false := decide_eq_false (by omega)
    rw [e1, e2, Bool.or_false]) (by rw [h1]; simpa using h2) ⟨.str ⟨#[c]⟩, H, I.tok _, ⟨_, rfl⟩, q⟩) hs
/-- list, tuple or str -/
noncomputable def rIx (K : PySem.W.Frag) : R2 := fun x y H Q => rIxL K x y H Q ∨ rIxT K x y H Q ∨ rIxS x y H Q
theorem ix_seq : IxR X (rIx X.K) := ix_list.or (ix_tup.or ix_str)

theorem slice_bounds (lo hi : Option Int) (n : Nat) : (sliceBounds lo hi none n).1 = ((HT.sIx n 0 lo : Nat) : Int) ∧ (sliceBounds lo hi none n).2.1 = ((HT.sIx n n hi : Nat) : Int) ∧ (sliceBounds lo hi none n).2.2 = 1 := by
  refine ⟨?_, ?_, rfl⟩
  · cases lo with
    | none => simp [sliceBounds, HT.sIx]
    | some i =>
      simp only [sliceBounds, HT.sIx, Option.getD_none, show (1 : Int) > 0 by decide, if_true]
      by_cases h : i < 0
      · simp only [h, if_true] <;> omega
      · simp only [h, if_false] <;> omega
  · cases hi with
    | none => simp [sliceBounds, HT.sIx]
    | some i =>
      simp only [sliceBounds, HT.sIx, Option.getD_none, show (1 : Int) > 0 by decide, if_true]
      by_cases h : i < 0
      · simp only [h, if_true] <;> omega
      · simp only [h, if_false] <;> omega
theorem slicePick_cut (its : List Value) (lo hi : Option Int) : slicePick its.toArray lo hi none = ((its.drop (HT.sIx its.length 0 lo)).take (HT.sIx its.length its.length hi - HT.sIx its.length 0 lo)).toArray := by
  obtain ⟨h1, h2, h3⟩ := slice_bounds lo hi its.toArray.size
  unfold slicePick
  rw [h1, h2, h3]
  simp only [sliceRange_one, pick_run, List.size_toArray] <;> rfl
/-- xs[lo:hi] of a list: a new list -/
noncomputable def rSlL (K : PySem.W.Frag) : V → Option Int → Option Int → Hp → VK → Prop := fun x lo hi H Q => ∃ a xs, x = .ref a ∧ SqL K H a xs ∧ ∀ p, H p = none → Q (.ref p) (upd H p (.lst (cutV xs lo hi)))
theorem sl_list : SlR X (rSlL X.K) := by
  intro pins s σ H x v vl vu lo hi sl Q I rx hs pl pu h
  obtain ⟨a, xs, rfl, hx, q⟩ := h
  cases rx
  obtain ⟨its, r, ht, hz⟩ := I.list hx
  have hlen := r.length
  refine ⟨"list", _, slot_list_getitem.lookup, ht.isList.typeIs, ?_⟩
  refine wpAny_getItem_list_slice ht.isList hs pl pu .none (by simp) ?_ (by rw [List.size_toArray] <;> omega)
  rw [slicePick_cut, ← hlen]
  refine ⟨.ref s.heap.objs.size, _, I.laid (t' := s.toks) (o := .lst (cutV xs lo hi)) (fun b ob q => Heap.get?_push_of_some _ q) (Nat.le_refl _) ?_, rfl, q _ (I.hok.fresh (Nat.le_refl _))⟩
  exact ⟨Nat.le_trans (cutV_length xs lo hi) hz, _, 0, (r.drop (HT.sIx xs.length 0 lo)).take (HT.sIx xs.length xs.length hi - HT.sIx xs.length 0 lo), Heap.get?_push_size _ rfl⟩

theorem call_len_seq : CallR X (.builtin "len") (fun xs H Q => ∃ p ys, xs = [.ref p] ∧ (SqL X.K H p ys ∨ SqT X.K H p ys) ∧ Q (.int ys.length) H) := by
  intro pins s σ H xs us Q I r h
  obtain ⟨p, ys, rfl, hq, q⟩ := h
  obtain ⟨u, rfl, rx⟩ := vals1 r
  cases rx
  have hn := line63
  rcases hq with hq | hq
  · obtain ⟨its, r', pl, hz⟩ := I.list hq
    have hlen := r'.length
    exact Calls.call_len_list pl.isList (by simp only [List.size_toArray] <;> omega) ⟨.int ys.length, H, I.tok _, ⟨s.toks + 1, by rw [List.size_toArray, hlen]⟩, q⟩
  · obtain ⟨its, r', pl, hz⟩ := I.tuple hq
    have hlen := r'.length
    exact len_tuple pl (by simp only [List.size_toArray] <;> omega) ⟨.int ys.length, H, I.tok _, ⟨s.toks + 1, by rw [List.size_toArray, hlen]⟩, q⟩
theorem call_len_str : CallR X (.builtin "len") (fun xs H Q => ∃ z, xs = [.str z] ∧ z.length ≤ sizeLine ∧ Q (.int z.length) H) := by
  intro pins s σ H xs us Q I r h
  obtain ⟨z, rfl, hz, q⟩ := h
  obtain ⟨u, rfl, t, rfl⟩ := vals1 r
  have hn := line63
  exact len_str (by omega) ⟨.int z.length, H, I.tok _, ⟨_, rfl⟩, q⟩
theorem CallR.or {f : Value} {r r' : List V → Hp → VK → Prop} (h : CallR X f r) (h' : CallR X f r') : CallR X f (fun xs H Q => r xs H Q ∨ r' xs H Q) := by
  intro pins s σ H xs us Q I rs q
  rcases q with q | q
  · exact h pins s σ H xs us Q I rs q
  · exact h' pins s σ H xs us Q I rs q
theorem call_list_of : CallR X (.type "list") (fun xs H Q => ∃ p ys, xs = [.ref p] ∧ (SqL X.K H p ys ∨ SqT X.K H p ys) ∧ ∀ l, H l = none → Q (.ref l) (upd H l (.lst ys))) := by
  intro pins s σ H xs us Q I r h
  obtain ⟨p, ys, rfl, hq, q⟩ := h
  obtain ⟨u, rfl, rx⟩ := vals1 r
  cases rx
  have fin : ∀ (its : List Value), Vals ys its → ys.length ≤ sizeLine → ∀ (h' : Heap) (c' : Nat), (∀ b o', s.heap.get? b = some o' → h'.get? b = some o') →
      h'.get? s.heap.objs.size = some { cls := .type "list", dict := none, data := .seq its.toArray c', slots := #[] } → EP X pins σ Q (.ref s.heap.objs.size) { s with heap := h' } := fun its r' hz h' c' kp e =>
    ⟨.ref s.heap.objs.size, _, I.laid (t' := s.toks) kp (Nat.le_refl _) (show ObjOk X.prog X.w _ h' _ (.lst ys) from ⟨hz, its, c', r', e⟩), rfl, q _ (I.hok.fresh (Nat.le_refl _))⟩
  rcases hq with hq | hq
  · obtain ⟨its, r', pl, hz⟩ := I.list hq
    have hlen := r'.length
    obtain ⟨o, ho, hc, n, hd⟩ := pl.isList
    exact call_list_seq p (.inl rfl) ho hc hd (fun h' c' kp e => fin its r' hz h' c' kp e) (by simp only [List.size_toArray] <;> omega)
  · obtain ⟨its, r', pl, hz⟩ := I.tuple hq
    have hlen := r'.length
    obtain ⟨o, ho, hc, n, hd⟩ := pl
    exact call_list_seq p (.inr rfl) ho hc hd (fun h' c' kp e => fin its r' hz h' c' kp e) (by simp only [List.size_toArray] <;> omega)
theorem call_tuple_of : CallR X (.type "tuple") (fun xs H Q => ∃ p ys, xs = [.ref p] ∧ ((SqL X.K H p ys ∧ ∀ l, H l = none → Q (.ref l) (upd H l (.tup ys))) ∨ (SqT X.K H p ys ∧ Q (.ref p) H))) := by
  intro pins s σ H xs us Q I r h
  obtain ⟨p, ys, rfl, h⟩ := h
  obtain ⟨u, rfl, rx⟩ := vals1 r
  cases rx
  rcases h with ⟨hq, q⟩ | ⟨hq, q⟩
  · obtain ⟨its, r', pl, hz⟩ := I.list hq
    have hlen := r'.length
    refine call_tuple_list pl.isList (fun h' kp => ?_) (by simp only [List.size_toArray] <;> omega)
    have I1 : Inv X pins σ H { s with heap := h' } := I.kept (t' := s.toks) kp
    have I2 : Inv X pins σ (upd H h'.objs.size (.tup ys)) { s with heap := h'.push { cls := .type "tuple", data := .seq its.toArray } } :=
      I1.laid (t' := s.toks) (fun b o e => Heap.get?_push_of_some _ e) (Nat.le_refl _) (show ObjOk X.prog X.w _ _ _ (.tup ys) from ⟨hz, its, r', IsTup.new _ _, _, Heap.get?_push_size _ rfl, rfl⟩)
    exact ⟨.ref h'.objs.size, _, I2, rfl, q _ (I1.hok.fresh (Nat.le_refl _))⟩
  · obtain ⟨its, r', pl, hz⟩ := I.tuple hq
    exact call_tuple_same pl ⟨.ref p, H, I, rfl, q⟩

/-- the value is of that builtin type -/
noncomputable def tyV (K : PySem.W.Frag) (T : String) (x : V) (H : Hp) : Prop := match x with
  | .str _ => T = "str"
  | .int _ => T = "int"
  | .ref p => (T = "list" ∧ ∃ xs, SqL K H p xs) ∨ (T = "tuple" ∧ ∃ o, K.lookup p = some o ∧ o.cls = .type "tuple" ∧ o.dict = none) ∨
      (T = "dict" ∧ ((∃ kvs, H p = some (.dK kvs)) ∨ ∃ kvs, H p = some (.dT kvs))) ∨ (T = "set" ∧ ∃ S n, H p = some (.set S n))
  | _ => False
theorem tyV_is {pins : List (Addr × Obj)} {σ : St} {H : Hp} {s : Shared} {T : String} {x : V} {v : Value} (I : Inv X pins σ H s) (r : RelV x v) (ty : tyV X.K T x H) :
    s.TypeIs v T ∧ ∀ a, v = .ref a → ∃ ob, s.heap.get? a = some ob ∧ ob.dict = none := by
  cases x with
  | str z =>
    obtain ⟨t, rfl⟩ := r
    cases (show T = "str" from ty)
    exact ⟨typeIs_str s z t, fun _ e => nomatch e⟩
  | int i =>
    obtain ⟨t, rfl⟩ := r
    cases (show T = "int" from ty)
    exact ⟨typeIs_int s i t, fun _ e => nomatch e⟩
  | ref p =>
    cases r
    rcases ty with ⟨rfl, xs, hq⟩ | ⟨rfl, o, hk, hc, hd⟩ | ⟨rfl, hk⟩ | ⟨rfl, S, n, hk⟩
    · obtain ⟨its, _, pl, _⟩ := I.list hq
      refine ⟨pl.isList.typeIs, fun a e => ?_⟩
      cases e
      obtain ⟨o, n, e, c, hd, _⟩ := pl
      exact ⟨o, e, hd⟩
    · refine ⟨⟨o, I.kIn p o hk, hc⟩, fun a e => ?_⟩
      cases e
      exact ⟨o, I.kIn _ o hk, hd⟩
    · have z : ∃ o, s.heap.get? p = some o ∧ o.ExactDict := by
        rcases hk with ⟨kvs, hk⟩ | ⟨kvs, hk⟩
        · obtain ⟨_, _, _, _, o, _, _, e, ex, _⟩ := I.hok p _ hk
          exact ⟨o, e, ex⟩
        · obtain ⟨_, _, _, _, o, _, _, e, ex, _⟩ := I.hok p _ hk
          exact ⟨o, e, ex⟩
      obtain ⟨o, e, ex⟩ := z
      refine ⟨⟨o, e, ex.1⟩, fun a e2 => ?_⟩
      cases e2
      exact ⟨o, e, ex.2.1⟩
    · obtain ⟨o, _, _, _, e, ex, _⟩ := I.hok p _ hk
      refine ⟨⟨o, e, ex.1⟩, fun a e2 => ?_⟩
      cases e2
      exact ⟨o, e, ex.2.1⟩
  | _ => exact False.elim ty
noncomputable def tBM0 (K : PySem.W.Frag) (T : String) (r : V → List V → Hp → VK → Prop) (to : TE) : TE := fun σ H Q => to σ H fun x H1 => tyV K T x H1 ∧ r x [] H1 Q
noncomputable def tBM (K : PySem.W.Frag) (T : String) (r : V → List V → Hp → VK → Prop) (to : TE) (t : TA) : TE := fun σ H Q => to σ H fun x H1 => tyV K T x H1 ∧ t σ H1 fun xs H2 => r x xs H2 Q
variable {o e : Expr} {es : List Expr} {to : TE} {t : TA} {name : Str} {apos cpos : Pos} {T id : String} {r : V → List V → Hp → VK → Prop}
theorem pe_bm0 (pa : PlainAttrs T) (slot : Slot T name id) (hty : typeOf (.builtin id) = pure (.type "method_descriptor")) (hm : MtR X id r) (ho : PE X o to)
    (hbase : attributeBase o name X.env (eval o X.env) = eval o X.env := by rfl) (hline : (apos.endLine == cpos.line) = true := by rfl) : PE X (.Call (.Attribute o name apos) [] [] cpos) (tBM0 X.K T r to) := by
  intro pins s σ H Q I h
  refine wpAny_Call_method0_late hbase hline (thn (ho pins s σ H _ I h) fun v s1 ⟨x, H1, I1, r1, ty, q1⟩ => ?_)
  obtain ⟨h1, h2⟩ := tyV_is I1 r1 ty
  exact ⟨T, id, pa, slot, hty, h1, h2, Calls.callWith_builtin rfl (PySem.evalArgs_none (hm pins s1 σ H1 x [] v [] Q I1 r1 .nil q1))⟩
theorem pe_bm (pa : PlainAttrs T) (slot : Slot T name id) (hty : typeOf (.builtin id) = pure (.type "method_descriptor")) (hm : MtR X id r) (ho : PE X o to) (ha : PA X (e :: es) t)
    (hbase : attributeBase o name X.env (eval o X.env) = eval o X.env := by rfl)
    (hfew : ((backTo cpos (starEach (e :: es) X.env)).all (fun x => !x.1) && (backToKw cpos (keywordEach [] X.env)).all (fun x => x.1.isSome)
      && decide ((e :: es).length + ([] : List Keyword).length + (if ([] : List Keyword).isEmpty then 0 else 1) < 30)) = true := by rfl)
    (hline : (apos.endLine == cpos.line) = true := by rfl) (hs : starEach (e :: es) X.env = (false, eval e X.env) :: starEach es X.env := by rfl) (hplain : (backTo cpos (starEach es X.env)).any (·.1) = false := by rfl) :
    PE X (.Call (.Attribute o name apos) (e :: es) [] cpos) (tBM X.K T r to t) := by
  intro pins s σ H Q I h
  refine wpAny_Call_method_late hbase hfew hline rfl (thn (ho pins s σ H _ I h) fun v s1 ⟨x, H1, I1, r1, ty, q1⟩ => ?_)
  obtain ⟨h1, h2⟩ := tyV_is I1 r1 ty
  refine ⟨T, id, pa, slot, hty, h1, h2, ?_⟩
  have hA := ha cpos pins s1 σ H1 _ I1 q1
  rw [hs] at hA ⊢
  refine Calls.callWith_builtin (by show (false || (backTo cpos (starEach es X.env)).any (·.1)) = false; rw [hplain] <;> rfl) (Calls.evalArgs_plain ?_)
  exact thn hA fun us s2 ⟨vs, H2, I2, r2, q2⟩ => hm pins s2 σ H2 x vs v us Q I2 r1 r2 q2
/- xs.append(e), list.index on a module's tuple .. are MtR facts of 06m -/
end
end L2

namespace L2
open PySem PySem.Spec PyProof.Rows

noncomputable def MtM (X : Cx) (id : String) (r : V → List V → Hp → VK → Prop) : Prop :=
  ∀ (pins : List (Addr × Obj)) (s : Shared) (σ : St) (H : Hp) (x : V) (xs : List V) (v : Value) (us : List Value) (Q : VK), Inv X pins σ H s → RelV x v → Vals xs us → r x xs H Q →
    wpAny (model X.prog X.w) X.A (call (.builtin id) (v :: us)) (EP X pins σ Q) X.xe s

theorem Vals.one : ∀ {x : V} {us : List Value}, Vals [x] us → ∃ u, us = [u] ∧ RelV x u
  | _, _, .cons r .nil => ⟨_, rfl, r⟩
theorem Vals.zero : ∀ {us : List Value}, Vals [] us → us = []
  | _, .nil => rfl
theorem Vals.dropLast {xs : List V} {us : List Value} (h : Vals xs us) : Vals xs.dropLast us.dropLast := by
  induction h with
  | nil => exact .nil
  | cons r t ih =>
    cases t with
    | nil => exact .nil
    | cons q t' => exact .cons r ih
theorem Vals.eraseIdx : ∀ {xs : List V} {us : List Value} (i : Nat), Vals xs us → Vals (xs.eraseIdx i) (us.eraseIdx i)
  | _, _, _, .nil => .nil
  | _, _, 0, .cons _ t => t
  | _, _, i + 1, .cons r t => .cons r (Vals.eraseIdx i t)
theorem Vals.rep {xs : List V} {us : List Value} (h : Vals xs us) : ∀ k : Nat, Vals (List.replicate k xs).flatten (List.replicate k us).flatten
  | 0 => .nil
  | k + 1 => by
    rw [List.replicate_succ, List.replicate_succ, List.flatten_cons, List.flatten_cons]
    exact Vals.append h (Vals.rep h k)
theorem erase_last {α : Type} (l : List α) : l.eraseIdx (l.length - 1) = l.dropLast := by
  induction l with
  | nil => rfl
  | cons a r ih =>
    cases r with
    | nil => rfl
    | cons b r =>
      have e : (a :: b :: r).length - 1 = ((b :: r).length - 1) + 1 := by
        have h1 : (a :: b :: r).length = r.length + 2 := rfl
        have h2 : (b :: r).length = r.length + 1 := rfl
        omega
      rw [e, List.eraseIdx_cons_succ, ih]
      all_goals rfl
theorem len_erase {α : Type} : ∀ (l : List α) (i : Nat), (l.eraseIdx i).length ≤ l.length
  | [], _ => Nat.le_refl _
  | _ :: _, 0 => Nat.le_succ _
  | _ :: r, i + 1 => Nat.succ_le_succ (len_erase r i)
theorem foldl_rep (its : List Value) : ∀ (k : Nat) (acc : List Value),
    List.foldl (fun x1 x2 => x1 ++ x2) acc.toArray (List.replicate k its.toArray) = (acc ++ (List.replicate k its).flatten).toArray
  | 0, acc => by simp
  | k + 1, acc => by
    have e : acc.toArray ++ its.toArray = (acc ++ its).toArray := by simp
    have e2 : (acc ++ its) ++ (List.replicate k its).flatten = acc ++ (List.replicate (k + 1) its).flatten := by
      rw [List.replicate_succ, List.flatten_cons, List.append_assoc]
    rw [← e2, ← foldl_rep its k (acc ++ its), ← e, List.replicate_succ, List.foldl_cons]

section
variable {X : Cx} {pins : List (Addr × Obj)} {σ : St} {H : Hp} {s : Shared} {l b : Addr} {xs ys zs : List V}

theorem Inv.lset {its its' : List Value} {n : Nat} {f : Array Value → Array Value} {t' : Nat} (I : Inv X pins σ H s) (hH : H l = some (.lst xs))
    (e : s.heap.get? l = some { cls := .type "list", data := .seq its.toArray n }) (hf : f its.toArray = its'.toArray) (hv : Vals ys its') (hz : ys.length ≤ sizeLine) :
    Inv X pins σ (upd H l (.lst ys)) { s with heap := s.heap.update l (Obj.mapSeq f), toks := t' } := by
  have q := PySem.IsL.update e f
  rw [hf] at q
  refine I.write (x := l) (e := l) (by rw [hH]; exact trivial) (.inl rfl) (fun b' u hb hu => (Heap.get?_update_other s.heap (Obj.mapSeq f) (Ne.symm hb)).trans hu) ⟨_, q⟩ ?_
  exact ⟨hz, its', _, hv, q⟩
theorem Inv.lnew {its : List Value} {t' : Nat} (I : Inv X pins σ H s) (hv : Vals ys its) (hz : ys.length ≤ sizeLine) :
    Inv X pins σ (upd H s.heap.objs.size (.lst ys)) { s with heap := s.heap.push { cls := .type "list", data := .seq its.toArray }, toks := t' } :=
  I.laid (fun _ _ q => Heap.get?_push_of_some _ q) (Nat.le_refl _) ⟨hz, its, 0, hv, Heap.get?_push_size _ rfl⟩
theorem Inv.fresh (I : Inv X pins σ H s) : H s.heap.objs.size = none := I.hok.fresh (Nat.le_refl _)
theorem Inv.lstM (I : Inv X pins σ H s) (hH : H l = some (.lst xs)) : xs.length ≤ sizeLine ∧ ∃ (its : List Value) (n : Nat), Vals xs its ∧ xs.length = its.length ∧ s.heap.get? l = some { cls := .type "list", data := .seq its.toArray n } := by
  obtain ⟨z, its, n, r, e⟩ := I.hok l _ hH
  exact ⟨z, its, n, r, r.length, e⟩

theorem notLongL {n : Nat} (h : n ≤ sizeLine) : Builtin.List.listTooLong n = false := by
  unfold Builtin.List.listTooLong
  exact decide_eq_false (by omega)
end

section
variable {X : Cx}

noncomputable def rAppend : V → List V → Hp → VK → Prop := fun x vs H Q => ∃ l xs y, x = .ref l ∧ vs = [y] ∧ H l = some (.lst xs) ∧ xs.length < sizeLine ∧ Q .non (upd H l (.lst (xs ++ [y])))
theorem mt_append : MtM X "list.append" rAppend := by
  intro pins s σ H x vs v us Q I rx rv h
  obtain ⟨l, xs, y, rfl, rfl, hH, hz, q⟩ := h
  cases rx
  obtain ⟨u, rfl, ru⟩ := rv.one
  obtain ⟨z, its, n, r, hl, e⟩ := I.lstM hH
  refine call_meets F.slot_list_append ⟨_, e, rfl⟩ F.entry_list_append (F.args_list_append_2 _ _) (PySem.list_append l its.toArray n u (by rw [List.size_toArray]; omega)) ⟨e, ?_⟩
  refine ⟨.non, _, I.lset (its' := its ++ [u]) hH e (by simp) (r.append (.cons ru .nil)) ?_, rfl, q⟩
  rw [List.length_append, List.length_singleton]
  omega

noncomputable def rExtend : V → List V → Hp → VK → Prop := fun x vs H Q => ∃ l b xs zs, x = .ref l ∧ vs = [.ref b] ∧ H l = some (.lst xs) ∧ H b = some (.lst zs) ∧ xs.length + zs.length ≤ sizeLine ∧ Q .non (upd H l (.lst (xs ++ zs)))
theorem mt_extend : MtM X "list.extend" rExtend := by
  intro pins s σ H x vs v us Q I rx rv h
  obtain ⟨l, b, xs, zs, rfl, rfl, hH, hB, hz, q⟩ := h
  cases rx
  obtain ⟨u, rfl, ru⟩ := rv.one
  cases ru
  obtain ⟨z, its, n, r, hl, e⟩ := I.lstM hH
  obtain ⟨z2, its2, n2, r2, hl2, e2⟩ := I.lstM hB
  have hsz : its.toArray.size + its2.toArray.size ≤ sizeLine := by rw [List.size_toArray, List.size_toArray]; omega
  have hlong : ¬ (!its.toArray.isEmpty && Builtin.List.listTooLong (its.toArray.size + its2.toArray.size)) = true := by
    rw [notLongL hsz, Bool.and_false]
    exact Bool.false_ne_true
  refine call_meets F.slot_list_extend ⟨_, e, rfl⟩ F.entry_list_extend (F.args_list_extend_2 _ _)
    (AutoSeq1.list_extend_list_list_0 l its.toArray n b its2.toArray n2 hlong (by rw [List.size_toArray]; omega) (by omega)) ⟨e, e2, ?_⟩
  refine ⟨.non, _, I.lset (its' := its ++ its2) hH e (by simp) (r.append r2) ?_, rfl, q⟩
  rw [List.length_append]
  omega

noncomputable def rPop : V → List V → Hp → VK → Prop := fun x vs H Q => ∃ l xs y, x = .ref l ∧ vs = [] ∧ H l = some (.lst xs) ∧ xs[xs.length - 1]? = some y ∧ Q y (upd H l (.lst xs.dropLast))
theorem mt_pop : MtM X "list.pop" rPop := by
  intro pins s σ H x vs v us Q I rx rv h
  obtain ⟨l, xs, y, rfl, rfl, hH, hy, q⟩ := h
  cases rx
  have hus := rv.zero
  subst hus
  obtain ⟨z, its, n, r, hl, e⟩ := I.lstM hH
  obtain ⟨u, hu, ru⟩ := r.get hy
  have hy' : its.toArray[its.toArray.size - 1]? = some u := by
    show its.toArray[its.length - 1]? = some u
    rw [← Array.getElem?_toList, ← hl]
    exact hu
  refine call_meets F.slot_list_pop ⟨_, e, rfl⟩ F.entry_list_pop (F.args_list_pop_1 _) (MeetsSeq.list_pop_last l its.toArray n u hy' (by rw [List.size_toArray]; omega)) ⟨e, ?_⟩
  refine ⟨y, _, I.lset (its' := its.dropLast) hH e ?_ r.dropLast ?_, ru, q⟩
  · show its.toArray.eraseIdxIfInBounds (its.toArray.size - 1) = its.dropLast.toArray
    rw [List.size_toArray, List.eraseIdxIfInBounds_toArray, erase_last]
  · rw [List.length_dropLast]
    omega

noncomputable def rPopAt : V → List V → Hp → VK → Prop := fun x vs H Q => ∃ l xs i k y, x = .ref l ∧ vs = [.int i] ∧ H l = some (.lst xs) ∧ -(2 ^ 63) ≤ i ∧ i < 2 ^ 63 ∧ seqIndex? i xs.length = some k ∧ xs[k]? = some y ∧ Q y (upd H l (.lst (xs.eraseIdx k)))
theorem mt_popAt : MtM X "list.pop" rPopAt := by
  intro pins s σ H x vs v us Q I rx rv h
  obtain ⟨l, xs, i, k, y, rfl, rfl, hH, h1, h2, hk, hy, q⟩ := h
  cases rx
  obtain ⟨u, rfl, ru⟩ := rv.one
  obtain ⟨t, rfl⟩ := ru
  obtain ⟨z, its, n, r, hl, e⟩ := I.lstM hH
  obtain ⟨w, hw, rw'⟩ := r.get hy
  refine call_meets F.slot_list_pop ⟨_, e, rfl⟩ F.entry_list_pop (F.args_list_pop_2 _ _)
    (MeetsSeq.list_pop_at l its.toArray n i t k w (fitsIndex_both h1 h2) (by rw [List.size_toArray, ← hl]; exact hk) (by rw [← Array.getElem?_toList]; exact hw) (by rw [List.size_toArray]; omega)) ⟨e, ?_⟩
  refine ⟨y, _, I.lset (its' := its.eraseIdx k) hH e ?_ (r.eraseIdx k) ?_, rw', q⟩
  · show its.toArray.eraseIdxIfInBounds k = (its.eraseIdx k).toArray
    rw [List.eraseIdxIfInBounds_toArray]
  · have := len_erase xs k
    omega

noncomputable def rCat : R2 := fun x y H Q => ∃ l b xs zs, x = .ref l ∧ y = .ref b ∧ H l = some (.lst xs) ∧ H b = some (.lst zs) ∧ xs.length + zs.length ≤ sizeLine ∧ ∀ p, H p = none → Q (.ref p) (upd H p (.lst (xs ++ zs)))
theorem op_cat : OpR X (binaryOp .Add) rCat := by
  intro pins s σ H x y v u Q I rx ry h
  obtain ⟨l, b, xs, zs, rfl, rfl, hH, hB, hz, q⟩ := h
  cases rx
  cases ry
  obtain ⟨z, its, n, r, hl, e⟩ := I.lstM hH
  obtain ⟨z2, its2, n2, r2, hl2, e2⟩ := I.lstM hB
  refine PySem.P.add_list e e2 ?_ (by rw [List.size_toArray, List.size_toArray]; omega)
  have ea : its.toArray ++ its2.toArray = (its ++ its2).toArray := by simp
  rw [ea]
  exact ⟨.ref _, _, I.lnew (t' := s.toks) (r.append r2) (by rw [List.length_append]; omega), rfl, q _ I.fresh⟩
/-- a list times an int (a negative one is nothing) -/
noncomputable def rRep : R2 := fun x y H Q => ∃ l k xs, x = .ref l ∧ y = .int k ∧ H l = some (.lst xs) ∧ -(2 ^ 63) ≤ k ∧ k < 2 ^ 63 ∧ xs.length * k.toNat ≤ sizeLine ∧
  ∀ p, H p = none → Q (.ref p) (upd H p (.lst (List.replicate k.toNat xs).flatten))
theorem len_rep {α : Type} (xs : List α) (k : Nat) : (List.replicate k xs).flatten.length = k * xs.length := by
  induction k with
  | zero => simp
  | succ k ih => rw [List.replicate_succ, List.flatten_cons, List.length_append, ih, Nat.succ_mul, Nat.add_comm]
theorem op_rep : OpR X (binaryOp .Mult) rRep := by
  intro pins s σ H x y v u Q I rx ry h
  obtain ⟨l, k, xs, rfl, rfl, hH, h1, h2, hz, q⟩ := h
  cases rx
  obtain ⟨t, rfl⟩ := ry
  obtain ⟨z, its, n, r, hl, e⟩ := I.lstM hH
  have hlen : its.toArray.size * k.toNat ≤ sizeLine := by rw [List.size_toArray, ← hl]; exact hz
  have hcap : ¬ its.toArray.size * k.toNat > (2 ^ 63 - 1) / 8 := by
    have : (sizeLine : Nat) ≤ (2 ^ 63 - 1) / 8 := by decide
    omega
  have hfit : ¬ (!Builtin.List.listFitsIndex k) = true := by
    rw [fitsIndex_both h1 h2]
    exact Bool.false_ne_true
  have hlong : ¬ Builtin.List.listTooLong (its.toArray.size * k.toNat) = true := by
    rw [notLongL hlen]
    exact Bool.false_ne_true
  have hnew : List.foldl (fun x1 x2 => x1 ++ x2) #[] (List.replicate (if its.toArray.isEmpty = true then 0 else k.toNat) its.toArray) = (List.replicate k.toNat its).flatten.toArray := by
    have f0 : ∀ m : Nat, List.foldl (fun x1 x2 => x1 ++ x2) #[] (List.replicate m its.toArray) = (List.replicate m its).flatten.toArray := fun m => by
      have := foldl_rep its m []
      rw [List.nil_append] at this
      exact this
    rw [f0]
    cases its with
    | nil => simp
    | cons a r' => rw [if_neg (by simp)]
  refine wpAny_binaryOp_repeat_ref (T := "list") (U := "int") (by decide) ⟨_, e, rfl⟩ (fun s' => typeIs_int s' k t) noFill_list_mul F.fills_int_mul F.slot_int_rmul repeat_list F.slot_int_index.lookup
    (call_meets F.slot_int_rmul (typeIs_int s k t) F.entry_int_rmul (F.args_int_rmul_2 _ _) (int___rmul___int_list k t l its.toArray n)
      ⟨e, rfl, ⟨_, e, rfl⟩, call_meets F.slot_list_mul ⟨_, e, rfl⟩ F.entry_list_mul (F.args_list_mul_2 _ _) (AutoListH.list___mul___list_int_3 l its.toArray n k t hfit hcap hlong) ⟨e, ?_⟩⟩)
  rw [hnew]
  exact ⟨.ref _, _, I.lnew (t' := s.toks) (r.rep k.toNat) (by rw [len_rep, Nat.mul_comm]; exact hz), rfl, q _ I.fresh⟩

end

section
variable {prog : Program} {w : World} {A : Around} {E : Value → Shared → Prop} {s : Shared}
end

section
variable {X : Cx}
end
end L2

namespace Att
open PySem PySem.W PySem.Calls PyProof.Rows

theorem ints_of_wellAll {P : Params} {h : Heap} : ∀ (ns : List Int) (vs : List Value), WellAll P h vs (ns.map WData.int) → IntsAre vs ns := by
  intro ns
  induction ns with
  | nil =>
    intro vs w
    rw [List.map_nil] at w
    cases w
    exact .nil
  | cons n ns ih =>
    intro vs w
    rw [List.map_cons] at w
    cases w with
    | cons a b =>
      cases a
      exact .cons _ _ (ih _ b)

theorem script_of {l : OpenLaw} {n : Nat} (hn : l.most = some n) {P : Params} {h : Heap} {args : List WData} {vals : List Value}
    (hpre : l.row.toRowW.claim.pre args = true) (hwl : WellAll P h vals args) :
    ∃ a vs ns, vals = [Value.ref a] ∧ args = [WData.list (ns.map WData.int)] ∧ h.get? a = some { cls := .type "list", data := .seq vs.toArray } ∧ IntsAre vs ns ∧ ns.length ≤ n := by
  have hsh : WShape.hasAll [] args [.list .int] = true := (pre_splitW hpre).1
  have hc : l.pre.holds [] { args := args } = true := (pre_splitW hpre).2
  obtain ⟨d, r, rfl, h1, h2⟩ := hasAllW_cons hsh
  obtain rfl := hasAllW_nil h2
  obtain ⟨xs, rfl, h3⟩ := hasW_list h1
  obtain ⟨ns, rfl⟩ := items_int h3
  have hlen : ns.length ≤ n := by
    unfold OpenLaw.pre at hc
    have h4 : (WTm.not (.lt (.lit (.int (n : Int))) (.len (.arg 0)))).holds [] { args := [.list (ns.map .int)] } = true := by
      have h4 := (holds_andW hc).1
      rw [hn] at h4
      exact h4
    have h5 := condW_of h4 (w_not (w_lt w_lit (w_len_list (w_arg rfl))))
    rw [List.length_map] at h5
    refine Nat.le_of_not_lt fun q => ?_
    have q' : (n : Int) < ((ns.length : Nat) : Int) := by omega
    first
      | (rw [decide_eq_true q'] at h5; exact absurd h5 (by decide))
      | (simp at h5; omega)
  cases hwl with
  | cons w1 w2 =>
    cases w2
    cases w1 with
    | list ho hall => exact ⟨_, _, ns, rfl, rfl, ho, ints_of_wellAll ns _ hall, hlen⟩

theorem post_true (l : OpenLaw) (args : List WData) : l.row.toRowW.claim.post args (.bool true) args = true :=
  postW_of (r := l.row.toRowW) (X := (true == true))
    (show WShape.has [] (.bool true) .bool = true by first | rfl | decide | simp [WShape.has, WShape.arms, WShape.armsAll])
    (show (WTm.eq .res (.lit (.bool true))).value [] { args := args, res := some (.bool true), after := args } = some (.bool (true == true)) from w_eq_bool (w_res rfl) w_lit) rfl

/-- the same from a codeAny of the CALL (for a layer whose function contracts speak of calls) -/
theorem attach_call {l : OpenLaw} {n : Nat} {q : Program} {loose : List Str} {XP : (Str → Option Value) → Heap → Prop} {YP : World → Heap → Prop} {d : DefRec}
    (hn : l.most = some n) (hdf : d.params.defaults = [])
    (call : ∀ (w : World) (s₀ s₁ : Shared) (mg mb : Str → Option Value) (fa : Addr) (o : Obj) (pm cd doc : Value) (a : Addr) (vs : List Value) (ns : List Int),
      Ground q loose [] XP w s₀ mg mb s₁.heap → YP w s₁.heap →
      s₁.heap.get? fa = some o → o.data = .func (docDef d.name d.params d.body d.scope pm cd doc) → s₁.heap.CodeRec cd d.name → mg d.name = some (.ref fa) →
      s₁.heap.get? a = some { cls := .type "list", data := .seq vs.toArray } → IntsAre vs ns → ns.length ≤ n → s₁.gens = #[] →
      codeAny (model l.prog w) callerA (.call (.ref fa) ⟨[.ref a], []⟩) (fun r s' => r = .ok (.ret (.bool true)) ∧ OldK s₁.heap s'.heap ∧ s'.os = s₁.os ∧ AllBare s'.gens) s₁) :
    WalkO q loose XP YP l.row.toRowW d [] (fun f vs => PySem.call f vs) := by
  intro w s₀ s₁ mg mb G Y fa o pm cd doc dV kV ho hd hcd hD hmg hg args vals as hpre hlay hrd hwl hlo
  obtain rfl : dV = .none := Dflts.none hD hdf
  obtain rfl : kV = .none := Dflts.noKw hD
  obtain ⟨a, vs, ns, rfl, rfl, hobj, hints, hlen⟩ := script_of hn hpre hwl
  refine enter_call (codeAny_mono (call w s₀ s₁ mg mb fa o pm cd doc a vs ns G Y ho (fd_plain hd) hcd hmg hobj hints hlen hg) fun r s' hq => ?_)
  obtain ⟨rfl, h2, h3, h4⟩ := hq
  exact ⟨.inl ⟨.bool true, .bool true, [], rfl, fun _ => rfl, .bool true, post_true l _, fun _ => ⟨List.Pairwise.nil, fun _ hm => (nomatch hm)⟩⟩, h2, h3, h4⟩

section
variable {prog : Program} {w : World} {A : Around} {E : Value → Shared → Prop} {s : Shared} {K : Frag}

end
end Att

namespace L2
open PySem PySem.Spec PyProof.Rows

theorem vals_ints : ∀ {vs : List Value} {ns : List Int}, IntsAre vs ns → Vals (ns.map V.int) vs
  | _, _, .nil => .nil
  | _, _, .cons n t h => .cons ⟨t, rfl⟩ (vals_ints h)

/-- nothing is tracked but the script, known to the object (or it is an object of the module) -/
noncomputable def Only (H : Hp) : Prop := ∀ b, H b = none ∨ ∃ o xs, H b = some (.frz o (.lst xs))

/-- THE HEAD: the law's promise, at the heap behind the top. F, the promise of the law's def, may use that base is part of the heap (so K.In base, base.Ns mainGlobals mg stand in Mod) -/
theorem law_call {P : Program} {w : World} {K : PySem.W.Frag} {mg mb : Str → Option Value} {CX : CXT} {k : Nat} {fa a : Addr} {fd : FuncData} {x : Str} {sp : Sp} {s₁ : Shared} {vs : List Value} {ns : List Int}
    (KX : K.In s₁.heap) (hns : s₁.heap.Ns mainGlobals mg) (hb : s₁.heap.Ns builtinsNs mb) (hbb : ∀ x : Str, x ≠ "__name__" → mb x = bootBuiltins x) (hlim : s₁.heap.NoLimit) (hg : s₁.gens = #[])
    (ha : s₁.heap.get? a = some { cls := .type "list", data := .seq vs.toArray }) (hi : IntsAre vs ns) (hl : ns.length ≤ sizeLine) (hr : Room k callerA)
    (F : ∀ base : Heap, K.In base → base.Ns mainGlobals mg → FnOk P w K mg base CX k fa fd [x] sp) (hbind : ∀ (s : Shared) (u : Value), BindsTo s fd ⟨[u], []⟩ [(x, u)])
    (hsp : ∀ H : Hp, Only H → SqL K H a (ns.map V.int) → sp [.ref a] H (fun v _ => v = .bl true) fun _ _ _ => False)
    (hCX : ∀ H e s', CX [] H s₁ (fun _ _ _ => False) e s' → False) :
    codeAny (model P w) callerA (.call (.ref fa) ⟨[.ref a], []⟩) (fun r s' => r = .ok (.ret (.bool true)) ∧ OldK s₁.heap s'.heap ∧ s'.os = s₁.os ∧ AllBare s'.gens) s₁ := by
  have rv := vals_ints hi
  have lenV := hi.length
  -- from an abstract heap in which nothing but the script may be tracked
  have core : ∀ H : Hp, Only H → SqL K H a (ns.map V.int) → HOk P w H s₁.heap → (∀ b, H b ≠ none → b = a) → (H a ≠ none → K.lookup a = none) →
      codeAny (model P w) callerA (.call (.ref fa) ⟨[.ref a], []⟩) (fun r s' => r = .ok (.ret (.bool true)) ∧ OldK s₁.heap s'.heap ∧ s'.os = s₁.os ∧ AllBare s'.gens) s₁ := by
    intro H hO hS hok hA hK
    have base_of : ∀ {b : Addr} {o : Obj}, s₁.heap.get? b = some o → H b = none → (hidT s₁.heap H).get? b = some o := fun e n => hidT_get e n
    have noA : ∀ {b : Addr} {o : Obj} {es : Array DictEntry} {ep : Nat}, s₁.heap.get? b = some o → o.data = .dict es ep → H b = none := fun {b o es ep} e d => by
      cases q : H b with
      | none => rfl
      | some u =>
        have e' : b = a := hA b (by rw [q]; simp)
        subst e'
        rw [ha] at e; cases e
        have d' : Data.seq vs.toArray _ = Data.dict es ep := d
        cases d'
    have nsK : ∀ {b : Addr} {m : Str → Option Value}, s₁.heap.Ns b m → (hidT s₁.heap H).Ns b m := fun {b m} ⟨o, es, ep, e, d, r⟩ => ⟨o, es, ep, base_of e (noA e d), d, r⟩
    have hKb : K.In (hidT s₁.heap H) := fun b o e => base_of (KX b o e) (by
      cases q : H b with
      | none => rfl
      | some u =>
        have e' : b = a := hA b (by rw [q]; simp)
        subst e'
        rw [hK (by rw [q]; simp)] at e; cases e)
    have hM : Mod K mg (hidT s₁.heap H) := ⟨hKb, nsK hns, ⟨mb, nsK hb, hbb⟩, let ⟨mc, h1, h2⟩ := hlim; ⟨mc, nsK h1, h2⟩⟩
    have e0 : Env0 P w K mg (hidT s₁.heap H) callerA [] s₁ H := ⟨rfl, hM, fun b o e => of_hidT e, Nat.le_of_eq (hidT_size _ _), trivial, fun b hb => absurd (show b ∈ ([] : List Addr) from hb) (by simp), hok, .of_eq hg⟩
    refine codeAny_mono ((F _ hKb (nsK hns)).run callerA [] s₁ H ⟨[.ref a], []⟩ [.ref a] [.ref a] _ _ hr e0 (hbind s₁ (.ref a)) (.cons rfl .nil) (hsp H hO hS)) fun r s' h => ?_
    cases r with
    | error e => exact (hCX H e s' h).elim
    | ok fl =>
      cases fl with
      | next => exact False.elim h
      | brk => exact False.elim h
      | cont => exact False.elim h
      | ret u =>
        obtain ⟨v, H', os, bare, un, hok', r', q⟩ := h
        have q' : v = .bl true := q
        subst q'
        obtain rfl : u = Value.bool true := r'
        refine ⟨rfl, OldK.of_keep fun b o e => ?_, os, bare⟩
        cases q : H b with
        | none => exact un.keep b o e q (by intro z; exact absurd (show b ∈ ([] : List Addr) from z) (by simp)) (by simp)
        | some u =>
          rcases hO b with z | ⟨ob, xs, z⟩
          · rw [q] at z; cases z
          · have z2 := un.frzs b ob _ z
            obtain ⟨e1, _⟩ := hok b _ z
            obtain ⟨e2, _⟩ := hok' b _ z2
            rw [e] at e1; cases e1
            exact e2
  cases hk : K.lookup a with
  | some o =>
    -- the script is one of the module's own objects
    have e := KX a o hk
    rw [ha] at e
    cases e
    refine core (fun _ => none) (fun _ => .inl rfl) (.inr ⟨_, vs.toArray, _, hk, rfl, rfl, rfl, by rw [List.size_toArray, lenV]; exact hl, by simpa using rv⟩) (fun b u z => by have z' : (none : Option HO) = some u := z; cases z') (fun b z => absurd rfl z) fun z => absurd rfl z
  | none =>
    refine core (fun b => if b = a then some (.frz { cls := .type "list", data := .seq vs.toArray } (.lst (ns.map V.int))) else none) (fun b => ?_) (.inl (.inr ⟨{ cls := .type "list", data := .seq vs.toArray }, if_pos rfl⟩)) (fun b u z => ?_) (fun b z => ?_) fun _ => hk
    · by_cases hb : b = a
      · exact .inr ⟨_, _, if_pos hb⟩
      · exact .inl (if_neg hb)
    · by_cases hb : b = a
      · have z' := (if_pos hb).symm.trans z
        cases z'
        subst hb
        exact ⟨ha, by rw [List.length_map]; exact hl, vs, _, rv, ha⟩
      · have z' := (if_neg hb).symm.trans z
        cases z'
    · by_cases hb : b = a
      · exact hb
      · exact absurd (if_neg hb) z
end L2

namespace L2
open PySem PySem.Spec PyProof.Rows

noncomputable abbrev KOf {K : PySem.W.Frag} {h : Heap} (_ : K.In h) : PySem.W.Frag := K

/-- the goal that k_head leaves (case hc), from the law's promise. F gives the function object fd (K's own) once, then the promise over every base -/
theorem walk_of {l : PySem.W.OpenLaw} {n k : Nat} {q : Program} {loose : List Str} {XP : (Str → Option Value) → Heap → Prop} {YP : World → Heap → Prop} {d : DefRec} {K : Params → PySem.W.Frag} {CX : World → CXT} {sp : World → Sp} {x : Str}
    (hn : l.most = some n) (hn2 : n ≤ sizeLine) (hdf : d.params.defaults = []) (hr : Room k callerA)
    (hY : ∀ (w : World) (h : Heap), YP w h → (K w.params).In h)
    (F : ∀ (w : World) (mg : Str → Option Value) (fa : Addr) (h : Heap), (K w.params).In h → h.Ns mainGlobals mg → mg d.name = some (.ref fa) →
      ∃ fd : FuncData, (∀ (s : Shared) (u : Value), BindsTo s fd ⟨[u], []⟩ [(x, u)]) ∧
        ∀ base : Heap, (K w.params).In base → base.Ns mainGlobals mg → FnOk l.prog w (K w.params) mg base (CX w) k fa fd [x] (sp w))
    (hsp : ∀ (w : World) (H : Hp) (a : Addr) (ns : List Int), ns.length ≤ n → Only H → SqL (K w.params) H a (ns.map V.int) → sp w [.ref a] H (fun v _ => v = .bl true) fun _ _ _ => False)
    (hCX : ∀ (w : World) (H : Hp) (s : Shared) (e : Value) (s' : Shared), CX w [] H s (fun _ _ _ => False) e s' → False) :
    PySem.W.WalkO q loose XP YP l.row.toRowW d [] (fun f vs => PySem.call f vs) := by
  refine Att.attach_call hn hdf fun w s₀ s₁ mg mb fa o pm cd doc a vs ns G Y ho hd hcd hmg hobj hints hlen hg => ?_
  have KX := hY w _ Y
  obtain ⟨fd, hb, hF⟩ := F w mg fa _ KX G.T.g hmg
  exact law_call KX G.T.g G.T.b G.T.builtins G.T.nolimit hg hobj hints (Nat.le_trans hlen hn2) hr hF hb (fun H hO hS => hsp w H a ns hlen hO hS) fun H e s' => hCX w H s₁ e s'
end L2

/- THE LAST THEOREM (shape; LID, My.* are yours):
   My.Adr: a structure of the addresses that your layer names (classes, functions); My.Txt K t: a structure (Prop) of the equations over K;
   My.txt_mk : {K} {implicit addresses ..} (e1 : nsIn K mainGlobals "law" = some (some (.ref f))) (e2 : K.lookup f = some ⟨oc, od, .func (fnOf "law" "law" params body scope dV kV doc pm an cdv ct), sl⟩) (e3 : codeIn K cdv "law" = true) .. : ∃ t, My.Txt K t

set_option maxRecDepth 100000 in
set_option maxHeartbeats 0 in
theorem PySem.Challenge.cw_LID_holds : PySem.Challenge.rw_LID.Holds := by
  w_on; o_law; k_head; (case hw => w_witness2)
  k_fill
  refine L2.walk_of (l := PySem.Challenge.rw_LID) (n := 63) (k := 40) (x := "script") (CX := fun w => ..) (sp := fun _ => My.sp_law) rfl (by decide) rfl ⟨rfl, by decide, by decide⟩ (fun w h Y => PySem.W.kIn_of Y) ?F ?S ?C
  case F =>
    intro w mg fa h KX G hmg
    have T : ∃ t, My.Txt (L2.KOf KX) t := by
      dsimp only [L2.KOf]                          -- K must stand as «<heap const> w.params» for k_is
      refine' My.txt_mk ?e1 ?e2 ?e3 ..
      (case e1 => PySem.W.k_is)                    -- in the order: a name -> its address -> its object -> its parts
      (case e2 => PySem.W.k_is)
      ..
    obtain ⟨t, T⟩ := T
    have e0 := hmg.symm.trans (PySem.W.mg_of KX G T.law)
    cases e0                                       -- fa is the law's own address
    exact ⟨_, fun s u => .of_eq rfl, fun base kb nb => My.law_fn T kb nb⟩     -- if «.of_eq rfl» comes too early: refine' ⟨_, ?b, fun base kb nb => My.law_fn T kb nb⟩; exact fun s u => .of_eq rfl
  case S => exact fun w H a ns hl hO hS => ..
  case C => exact ..
(the tactic k_is has no namespace: write k_is) -/

namespace L2
open PySem PySem.Spec PyProof.Rows

noncomputable def defArgs (s : Stmt) : Arguments := match s with
  | .FunctionDef _ a _ _ _ _ _ _ _ _ => a
  | _ => { posonlyargs := [], args := [], vararg := none, kwonlyargs := [], kw_defaults := [], kwarg := none, defaults := [] }
noncomputable def defBody (s : Stmt) : List Stmt := match s with
  | .FunctionDef _ _ b _ _ _ _ _ _ _ => b
  | _ => []
noncomputable def defScope (s : Stmt) : Scope := match s with
  | .FunctionDef _ _ _ _ _ _ sc _ _ _ => sc
  | _ => { kind := .function, names := [], isGenerator := false, isCoroutine := false }

noncomputable abbrev CX0 : CXT := fun _ _ _ _ _ _ => False
noncomputable abbrev E0 : XK := fun _ _ _ => False
theorem pass0 {X : Cx} : Passes CX0 X E0 := fun _ _ _ _ _ _ _ h => h.elim

structure Fun (K : PySem.W.Frag) (x qual : Str) (st : Stmt) (f : Addr) (fd : FuncData) : Prop where
  ex : ∃ (oc : Value) (od : Option Addr) (kV doc pm : Value) (an : Option Addr) (cdv ct : Value) (osl : Array (Option Value)),
    fd = PySem.W.fnOf x qual (defArgs st) (defBody st) (defScope st) .none kV doc pm an cdv ct ∧ K.lookup f = some ⟨oc, od, .func fd, osl⟩ ∧ PySem.W.codeIn K cdv qual = true
  kp : PySem.W.keepIn K (.ref f) = true
section
variable {P : Program} {w : World} {K : PySem.W.Frag} {mg : Str → Option Value} {base : Heap}
/-- THE RULE for a def: its body as a term of rules, and the reading of that term -/
theorem Fun.ok {x qual : Str} {st : Stmt} {f : Addr} {fd : FuncData} {N ps : List Str} {k : Nat} {sp : Sp} (F : Fun K x qual st f fd) (S : FnScope N ps (defScope st)) (len : ∀ vs H Q E, sp vs H Q E → vs.length = ps.length)
    (hbody : ∀ (cdv : Value) (A : Around) (outer : List Env) (s : Shared) (H : Hp) (vs : List V) (Q : VK) (E : XK), Room k (A.deeper (envOfC qual (defScope st) s.heap.objs.size f cdv)) → sp vs H Q E →
      ∃ t, PSs (cxOf CX0 P w K mg base N qual (defScope st) f cdv A outer s H E).nox (defBody st) t ∧ t { nx := fun _ H' => Q .non H', rt := Q } (start N vs) H) : FnOk P w K mg base CX0 (k + 1) f fd ps sp := by
  obtain ⟨oc, od, kV, doc, pm, an, cdv, ct, osl, rfl, lk, hcd⟩ := F.ex
  refine fn_of lk hcd S len fun A outer s H vs Q E hr hsp => ?_
  obtain ⟨t, h, q⟩ := hbody cdv A outer s H vs Q E hr hsp
  exact ⟨t, h.nox, q⟩
/-- how its arguments bind (no defaults): h is «fun _ _ _ _ _ _ us hl => match us, hl with | [_, _], _ => rfl», one _ a parameter -/
theorem Fun.binds {x qual : Str} {st : Stmt} {f : Addr} {fd : FuncData} {ps : List Str} (F : Fun K x qual st f fd)
    (h : ∀ (kV doc pm : Value) (an : Option Addr) (cdv ct : Value) (us : List Value), us.length = ps.length → bindArgs (PySem.W.fnOf x qual (defArgs st) (defBody st) (defScope st) .none kV doc pm an cdv ct) ⟨us, []⟩ = pure (ps.zip us)) : Binds K fd ps [] := by
  obtain ⟨oc, od, kV, doc, pm, an, cdv, ct, osl, rfl, lk, hcd⟩ := F.ex
  exact .all (h kV doc pm an cdv ct)
theorem fun_mk {x qual : Str} {st : Stmt} {f : Addr} {oc : Value} {od an : Option Addr} {osl : Array (Option Value)} {kV doc pm cdv ct : Value} (l : K.lookup f = some ⟨oc, od, .func (PySem.W.fnOf x qual (defArgs st) (defBody st) (defScope st) .none kV doc pm an cdv ct), osl⟩)
    (c : PySem.W.codeIn K cdv qual = true) (k : PySem.W.keepIn K (.ref f) = true) : Fun K x qual st f (PySem.W.fnOf x qual (defArgs st) (defBody st) (defScope st) .none kV doc pm an cdv ct) := ⟨⟨oc, od, kV, doc, pm, an, cdv, ct, osl, rfl, l, c⟩, k⟩
end
section
variable {X : Cx}
end

theorem iteF {A B : Prop} (h : B) : if false = true then A else B := by
  rw [if_neg Bool.false_ne_true]
  exact h
theorem iteT {A B : Prop} (h : A) : if true = true then A else B := by
  rw [if_pos rfl]
  exact h
/-- all that was tracked is as it was -/
noncomputable def Same (H H' : Hp) : Prop := ∀ b o, H b = some o → H' b = some o
theorem Same.refl (H : Hp) : Same H H := fun _ _ h => h
theorem Same.trans {H H1 H2 : Hp} (a : Same H H1) (b : Same H1 H2) : Same H H2 := fun c o h => b c o (a c o h)
theorem Same.free {H H' : Hp} (e : Same H H') {l : Addr} (h : H' l = Option.none) : H l = Option.none := by
  cases q : H l with
  | none => rfl
  | some o =>
    rw [e l o q] at h
    cases h
end L2

set_option Elab.async false
set_option linter.all false
set_option maxRecDepth 100000
set_option maxHeartbeats 4000000
namespace L3
open PySem PySem.Spec L2
open PyProof.Rows hiding St

theorem forIn_R {α β : Type} {f : α → β → Sem (ForInStep β)} (R : List α → β → Prop) (h : ∀ x l c, R (x :: l) c → ∃ c', f x c = pure (.yield c') ∧ R l c') :
    ∀ (l : List α) (c : β), R l c → ∃ c', forIn l c f = pure c' ∧ R [] c'
  | [], c, r => ⟨c, rfl, r⟩
  | x :: l, c, r => by
    obtain ⟨c1, e, r1⟩ := h x l c r
    obtain ⟨c2, e2, r2⟩ := forIn_R R h l c1 r1
    exact ⟨c2, by rw [List.forIn_cons, e, pure_bind]; exact e2, r2⟩

theorem cellOf_some {env : Env} {x : Str} {c : Addr} (h : env.cells.lookup x = some c) : cellOf env x = pure c := by
  unfold cellOf
  rw [h]

theorem closure_ok {scope : Scope} {env : Env} (h : ∀ y ∈ scope.names, y.2 = .free → ∃ c, env.cells.lookup y.1 = some c) :
    ∃ cl, closureFor scope env = pure cl ∧ (∀ x c, cl.lookup x = some c → env.cells.lookup x = some c) ∧ ∀ y ∈ scope.names, y.2 = .free → ∃ c, cl.lookup y.1 = some c := by
  let f : Str × NameKind → List (Str × Addr) → Sem (ForInStep (List (Str × Addr))) := fun x r => match x with
    | (name, kind) => if (kind == .free) = true then (do let a ← cellOf env name; pure (.yield ((name, a) :: r))) else pure (.yield r)
  have q := forIn_R (f := f) (fun rem cs => (∀ x c, cs.lookup x = some c → env.cells.lookup x = some c) ∧ (∀ y ∈ scope.names, y.2 = .free → (∃ c, cs.lookup y.1 = some c) ∨ y ∈ rem) ∧ ∀ y ∈ rem, y ∈ scope.names) ?_ scope.names []
    ⟨fun x c e => (by cases e), fun y hy _ => .inr hy, fun _ hy => hy⟩
  · obtain ⟨cl, e, p1, p2, _⟩ := q
    refine ⟨cl, ?_, p1, fun y hy hf => (p2 y hy hf).elim (fun z => z) fun z => (by cases z)⟩
    have e1 : closureFor scope env = (forIn scope.names [] f >>= fun r => pure r) := rfl
    rw [e1, e, pure_bind]
  · rintro ⟨n, k⟩ l cs ⟨p1, p2, p3⟩
    have hm := p3 _ (List.mem_cons_self ..)
    by_cases hk : k = .free
    · subst hk
      obtain ⟨c, hc⟩ := h _ hm rfl
      refine ⟨(n, c) :: cs, ?_, fun x c' e => ?_, fun y hy hf => ?_, fun y hy => p3 y (List.mem_cons_of_mem _ hy)⟩
      · show (if ((NameKind.free == NameKind.free) = true) then _ else _) = _
        rw [if_pos (by decide), cellOf_some hc, pure_bind]
      · rw [List.lookup_cons] at e
        cases hx : x == n with
        | true =>
          rw [hx] at e
          have ex : x = n := eq_of_beq hx
          subst ex
          cases e
          exact hc
        | false =>
          rw [hx] at e
          exact p1 x c' e
      · rcases p2 y hy hf with ⟨c', e⟩ | z
        · refine .inl ?_
          rw [List.lookup_cons]
          cases hx : y.1 == n with
          | true => exact ⟨c, rfl⟩
          | false => exact ⟨c', e⟩
        · rcases List.mem_cons.mp z with rfl | z
          · exact .inl ⟨c, by rw [List.lookup_cons]; simp⟩
          · exact .inr z
    · refine ⟨cs, ?_, p1, fun y hy hf => ?_, fun y hy => p3 y (List.mem_cons_of_mem _ hy)⟩
      · show (if ((k == NameKind.free) = true) then _ else _) = _
        rw [if_neg (by simpa using hk)]
      · rcases p2 y hy hf with z | z
        · exact .inl z
        · rcases List.mem_cons.mp z with rfl | z
          · exact absurd hf hk
          · exact .inr z

theorem lookup_relabel_free {env : Env} : ∀ {names : List (Str × NameKind)} {x : Str}, names.lookup x = some .free →
    (names.map fun (n, k) => if (k == NameKind.free && env.scope.kind == .function && env.kindOf n == some .cell) then (n, NameKind.cell) else (n, k)).lookup x = some .cell ∨
    (names.map fun (n, k) => if (k == NameKind.free && env.scope.kind == .function && env.kindOf n == some .cell) then (n, NameKind.cell) else (n, k)).lookup x = some .free
  | [], _, h => by cases h
  | (n, k) :: r, x, h => by
    have ih := @lookup_relabel_free env r x
    rw [List.map_cons]
    cases hx : x == n with
    | true =>
      rw [List.lookup_cons, hx] at h
      cases h
      by_cases hc : (NameKind.free == NameKind.free && env.scope.kind == .function && env.kindOf n == some .cell) = true
      · refine .inl ?_
        show List.lookup x ((if (NameKind.free == NameKind.free && env.scope.kind == .function && env.kindOf n == some .cell) = true then (n, NameKind.cell) else (n, NameKind.free)) :: _) = _
        rw [if_pos hc, List.lookup_cons, hx]
      · refine .inr ?_
        show List.lookup x ((if (NameKind.free == NameKind.free && env.scope.kind == .function && env.kindOf n == some .cell) = true then (n, NameKind.cell) else (n, NameKind.free)) :: _) = _
        rw [if_neg hc, List.lookup_cons, hx]
    | false =>
      rw [List.lookup_cons, hx] at h
      have e : ∀ (b : Bool) (l : List (Str × NameKind)), List.lookup x ((if b = true then (n, NameKind.cell) else (n, k)) :: l) = l.lookup x := fun b l => by
        cases b with
        | true => rw [if_pos rfl, List.lookup_cons, hx]
        | false => rw [if_neg Bool.false_ne_true, List.lookup_cons, hx]
      rcases ih h with q | q
      · exact .inl ((e _ _).trans q)
      · exact .inr ((e _ _).trans q)

/-- what lookups in the relabelled table come from -/
theorem relabel_from {scope : Scope} {env : Env} (hnc : ∀ y ∈ scope.names, y.2 ≠ .cell) {x : Str} {k : NameKind} (h : (relabel scope env).names.lookup x = some k) (hk : k = .cell ∨ k = .free) :
    ∃ y ∈ scope.names, y.1 = x ∧ y.2 = .free := by
  have hm := PySem.mem_of_lookup h
  obtain ⟨⟨n, k0⟩, hy, e⟩ := List.mem_map.mp hm
  refine ⟨(n, k0), hy, ?_⟩
  have e' : (if (k0 == NameKind.free && env.scope.kind == .function && env.kindOf n == some .cell) = true then (n, NameKind.cell) else (n, k0)) = (x, k) := e
  by_cases hc : (k0 == NameKind.free && env.scope.kind == .function && env.kindOf n == some .cell) = true
  · rw [if_pos hc] at e'
    cases e'
    refine ⟨rfl, ?_⟩
    rw [Bool.and_eq_true, Bool.and_eq_true] at hc
    exact eq_of_beq hc.1.1
  · rw [if_neg hc] at e'
    cases e'
    rcases hk with rfl | rfl
    · exact absurd rfl (hnc _ hy)
    · exact ⟨rfl, rfl⟩

noncomputable abbrev cxComp (X : Cx) (N' : List Str) (scope : Scope) (cl : List (Str × Addr)) (C : Addr) (fp : List Addr) (s₀ : Shared) (H₀ : Hp) : Cx :=
  { X with N := N', s₀ := s₀, H₀ := H₀, env := compEnvC scope cl C X.env, outer := X.stack, ex := fp, fn := fun _ => false, pn := [], xe := fun _ _ => False }

structure CompScope (psc scope : Scope) (T F : List Str) : Prop where
  kind : scope.kind = .function
  nocell : ∀ y ∈ scope.names, y.2 ≠ .cell
  loc : ∀ y ∈ scope.names, y.2 = .local → scope.names.lookup y.1 = some .local
  fr : ∀ y ∈ scope.names, y.2 = .free → psc.names.lookup y.1 = some .cell ∨ psc.names.lookup y.1 = some .free
  nd : (T ++ F).Nodup
  ffree : ∀ x ∈ F, scope.names.lookup x = some .free

section
variable {X : Cx} {pins : List (Addr × Obj)} {σ : St} {H H' : Hp} {s s' : Shared} {scope : Scope} {T F : List Str} {cl : List (Str × Addr)} {C : Addr} {fp : List Addr} {js : List Nat}

theorem cells_there (I : Inv X pins σ H s) (S : CompScope X.env.scope scope T F) : ∀ y ∈ scope.names, y.2 = .free → ∃ c, X.env.cells.lookup y.1 = some c := fun y hy hf => I.ok.has y.1 (S.fr y hy hf)

theorem ok_comp (I : Inv X pins σ H s) (S : CompScope X.env.scope scope T F) (p1 : ∀ x c, cl.lookup x = some c → X.env.cells.lookup x = some c)
    (p2 : ∀ y ∈ scope.names, y.2 = .free → ∃ c, cl.lookup y.1 = some c) (hC : s.heap.objs.size ≤ C) (hf : ∀ b ∈ fp, FpOk X pins H b) (hfl : ∀ b ∈ fp, b < s.heap.objs.size) :
    (cxComp X (T ++ F) scope cl C fp s H).Ok where
  mod := I.ok.mod
  kind := S.kind
  glob := I.ok.glob
  blt := I.ok.blt
  above := hC
  inj := fun x y c hx hy => I.ok.inj x y c (p1 x c hx) (p1 y c hy)
  has := fun x hx => by
    have q : ∃ y ∈ scope.names, y.1 = x ∧ y.2 = .free := by
      rcases hx with hx | hx
      · exact relabel_from (env := X.env) S.nocell (show (relabel scope X.env).names.lookup x = some .cell from hx) (.inl rfl)
      · exact relabel_from (env := X.env) S.nocell (show (relabel scope X.env).names.lookup x = some .free from hx) (.inr rfl)
    obtain ⟨y, hy, rfl, hf⟩ := q
    exact p2 y hy hf
  cab := fun x c h => by cases h
  hd := I.ok.hd
  frames := I.ok.frames
  stk := .inl rfl
  exf := fun b hb => ⟨Nat.ne_of_lt (Nat.lt_of_lt_of_le (hfl b hb) hC), fun x c e => (hf b hb).2.2.2.2.1 x c (p1 x c e)⟩
  bs := I.bs
  bsz := Nat.le_trans I.ok.bsz I.sz
  noex := fun b o e hb => by
    rcases (hf b hb).2.2.2.1 with z | z
    · exact I.ok.noex b o e z
    · exact absurd (Nat.lt_of_lt_of_le (Heap.lt_size (I.ok.bs b o e).1) z) (Nat.lt_irrefl _)
  exfs := fun b hb z => by
    rcases List.mem_cons.mp (I.stkSub b z) with q | q
    · exact (hf b hb).2.1 q
    · exact (hf b hb).2.2.1 q
  funs := I.stack
  frf := I.stkFree

/-- the names at the block's entry: the targets unbound, the free names as outside -/
noncomputable def st0 (T : List Str) (js : List Nat) (σ : St) : St := List.replicate T.length none ++ js.map fun j => (σ[j]?).join

theorem paired_get {α β : Type} {R : α → β → Prop} : ∀ {l : List α} {r : List β} {i : Nat} {b : β}, Paired R l r → r[i]? = some b → ∃ a, l[i]? = some a ∧ R a b
  | _, _, _, _, .nil, e => by simp at e
  | _, _, 0, _, .cons h _, e => by simp at e; subst e; exact ⟨_, rfl, h⟩
  | _, _, i + 1, b, .cons _ t, e => by
    obtain ⟨a, q1, q2⟩ := paired_get (i := i) (b := b) t (by simpa using e)
    exact ⟨a, by simpa using q1, q2⟩

theorem inv_comp {h₁ : Heap} {m : Str → Option Value} {t' : Nat} (I : Inv X pins σ H s) (S : CompScope X.env.scope scope T F) (p1 : ∀ x c, cl.lookup x = some c → X.env.cells.lookup x = some c)
    (p2 : ∀ y ∈ scope.names, y.2 = .free → ∃ c, cl.lookup y.1 = some c) (hjs : Paired (fun x j => X.N[j]? = some x) F js) (hC : s.heap.objs.size ≤ C) (hf : ∀ b ∈ fp, FpOk X pins H b) (hfl : ∀ b ∈ fp, b < s.heap.objs.size)
    (hn : h₁.Ns C m) (hk : ∀ b o, s.heap.get? b = some o → h₁.get? b = some o) : Inv (cxComp X (T ++ F) scope cl C fp s H) [] (st0 T js σ) H { s with heap := h₁, toks := t' } := by
  refine ⟨ok_comp I S p1 p2 hC hf hfl, rfl, I.bare, Un.kept hk, ⟨m, hn, fun i x v h1 h2 h3 => ?_⟩, fun x c e => ?_, I.hok.fresh hC, fun x c e => I.freeC x c (p1 x c e), fun p hp => (by cases hp), I.hok.kept hk, ?_⟩
  · have hi : T.length ≤ i := by
      rcases Nat.lt_or_ge i T.length with z | z
      · exfalso
        unfold st0 at h2
        rw [List.getElem?_append_left (by simpa using z), List.getElem?_replicate] at h2
        split at h2 <;> cases h2
      · exact z
    unfold st0 at h2
    rw [List.getElem?_append_right (by simpa using hi), List.getElem?_map, List.length_replicate] at h2
    cases ej : js[i - T.length]? with
    | none => rw [ej] at h2; cases h2
    | some j =>
      rw [ej] at h2
      have hσ : (σ[j]?).join = some v := Option.some.inj h2
      obtain ⟨x', hx', hX⟩ := paired_get hjs ej
      have h1' : (T ++ F)[i]? = some x := h1
      rw [List.getElem?_append_right hi, hx'] at h1'
      cases h1'
      have hσ' : σ[j]? = some (some v) := by
        cases e : σ[j]? with
        | none => rw [e] at hσ; cases hσ
        | some o => rw [e] at hσ; cases hσ; rfl
      have hxF : x ∈ F := List.mem_of_getElem? hx'
      have hfree := S.ffree x hxF
      have hpsc := S.fr _ (PySem.mem_of_lookup hfree) rfl
      obtain ⟨m0, _, look⟩ := I.loc
      obtain ⟨u, ru, lk⟩ := look j x v hX hσ' (.inr hpsc)
      refine ⟨u, ru, ?_⟩
      rcases lk with ⟨k, _⟩ | ⟨_, c, hc, hcell⟩
      · exfalso
        have k' : X.env.scope.names.lookup x = some .local := k
        rcases hpsc with z | z
        · rw [k'] at z; cases z
        · rw [k'] at z; cases z
      · obtain ⟨c', hc'⟩ := p2 _ (PySem.mem_of_lookup hfree) rfl
        have e2 := p1 x c' hc'
        rw [hc] at e2
        cases e2
        refine .inr ⟨?_, c, hc', hcell.keeps hk⟩
        exact lookup_relabel_free (env := X.env) hfree
  · obtain ⟨v, q⟩ := I.cell x c (p1 x c e)
    exact ⟨v, q.keeps hk⟩
  · show (st0 T js σ).length = (T ++ F).length
    unfold st0
    rw [List.length_append, List.length_append, List.length_replicate, List.length_map, (Paired.length hjs)]

/-- behind the block -/
theorem inv_back {N' : List Str} {σ' : St} (I : Inv X pins σ H s) (J : Inv (cxComp X N' scope cl C fp s H) [] σ' H' s') (hf : ∀ b ∈ fp, FpOk X pins H b) : Inv X pins σ H' s' :=
  I.call' (ch := fp) (show s'.os = s.os from J.os) J.base J.hok J.bare fun b hb => ⟨(hf b hb).2.2.2.1, (hf b hb).2.1, (hf b hb).2.2.2.2.1, (hf b hb).2.2.2.2.2⟩
end
end L3

set_option Elab.async false
set_option linter.all false
set_option maxRecDepth 100000
set_option maxHeartbeats 4000000
namespace L3
open PySem PySem.Spec L2
open PyProof.Rows hiding St

section
variable {prog : Program} {w : World} {A : Around} {R : Result → Shared → Prop} {s : Shared}
/-- the turns of a list comprehension with one clause; nothing raises -/
theorem comp_turns {elt target iter : Expr} {ifs : List Expr} {scope : Scope} {pos : Pos} {it acc : Value} {env : Env} (I : Nat → Shared → Prop)
    (turn : ∀ n s, I n s → wpAny (model prog w) A (pyNext it) (fun r s₁ => match r with
      | none => R (.ok .next) s₁
      | some v => wpAny (model prog w) A (letOwnedTupleGo target it v) (fun _ s₂ => wpAny (model prog w) A (assign target env v) (fun _ s₃ =>
          wpAny (model prog w) A (forIn ifs true fun c r => if r = true then do let ok ← isTrue c env (eval c env); pure (ForInStep.yield ok) else pure (ForInStep.yield r)) (fun ok s₄ =>
            if ok = true then wpAny (model prog w) A (eval elt env) (fun x s₅ => wpAny (model prog w) A (call (.builtin "list.append") [acc, x]) (fun _ s₆ => ∃ m, m < n ∧ I m s₆) (fun _ _ => False) s₅) (fun _ _ => False) s₄
            else ∃ m, m < n ∧ I m s₄) (fun _ _ => False) s₃) (fun _ _ => False) s₂) (fun _ _ => False) s₁) (fun _ _ => False) s)
    (n : Nat) (h : I n s) : codeAny (model prog w) A (.compLoop (.ListComp elt [⟨target, iter, ifs, 0⟩] scope pos) 0 it acc env) R s := by
  refine codeAny_loop rfl I (fun n s hI => ?_) n h
  show wpAny _ A ((compTurn (.ListComp elt [⟨target, iter, ifs, 0⟩] scope pos) 0 it acc env).onRaise (fun x => do noteFrame x env; theTreesLotGoes x)) _ _ s
  refine wpAny_noted (wpAny_noRaise ?_)
  rw [compTurn_list]
  refine wpAny_bind (wpAny_standAt (wpAny_bind (thn (turn n s hI) fun r s₁ h₁ => ?_)))
  cases r with
  | none => exact wpAny_pure h₁
  | some v =>
    refine wpAny_bind (thn h₁ fun _ s₂ h₂ => wpAny_bind (thn h₂ fun _ s₃ h₃ => wpAny_bind (thn h₃ fun ok s₄ h₄ => ?_)))
    cases ok with
    | false => exact wpAny_pure ⟨rfl, h₄⟩
    | true => exact wpAny_bind (wpAny_bind (thn h₄ fun x s₅ h₅ => wpAny_bind (thn h₅ fun _ s₆ h₆ => wpAny_pure (wpAny_pure ⟨rfl, h₆⟩))))
end

/-- a clause's tests -/
noncomputable def PIf (X : Cx) (ifs : List Expr) (t : TT) : Prop :=
  ∀ (pins : List (Addr × Obj)) (s : Shared) (σ : St) (H : Hp) (Q : Bool → Hp → Prop), Inv X pins σ H s → t σ H Q →
    wpAny (model X.prog X.w) X.A (forIn ifs true fun c r => if r = true then do let ok ← isTrue c X.env (eval c X.env); pure (ForInStep.yield ok) else pure (ForInStep.yield r)) (TP X pins σ Q) X.xe s
noncomputable def tYes : TT := fun _ H Q => Q true H
theorem pif_nil {X : Cx} : PIf X [] tYes := fun _ _ _ H _ I h => wpAny_tests_nil ⟨H, I, h⟩
/-- a target that binds names below n alone -/
noncomputable def KeepFrom (n : Nat) (σ σ' : St) : Prop := σ'.length = σ.length ∧ ∀ i, n ≤ i → σ'[i]? = σ[i]?
theorem KeepFrom.refl (n : Nat) (σ : St) : KeepFrom n σ σ := ⟨rfl, fun _ _ => rfl⟩
theorem KeepFrom.trans {n : Nat} {a b c : St} (x : KeepFrom n a b) (y : KeepFrom n b c) : KeepFrom n a c := ⟨y.1.trans x.1, fun i h => (y.2 i h).trans (x.2 i h)⟩
theorem KeepFrom.set {n i : Nat} {σ : St} {v : V} (h : i < n) : KeepFrom n σ (σ.set i (some v)) := ⟨by simp, fun j hj => by rw [List.getElem?_set_ne (by omega)]⟩
noncomputable def GKeep (n : Nat) (g : TG) : Prop := ∀ v σ H Q, g v σ H Q → g v σ H fun σ' H' => Q σ' H' ∧ KeepFrom n σ σ'
noncomputable def GKeeps (n : Nat) (g : TGs) : Prop := ∀ vs σ H Q, g vs σ H Q → g vs σ H fun σ' H' => Q σ' H' ∧ KeepFrom n σ σ'
theorem gk_name {n i : Nat} (h : i < n) : GKeep n (gName i) := fun v σ H Q q => ⟨q, KeepFrom.set h⟩
theorem gk_nil {n : Nat} : GKeeps n gNil := fun vs σ H Q q => ⟨q.1, q.2, KeepFrom.refl n σ⟩
theorem gk_cons {n : Nat} {t : TG} {u : TGs} (mono : ∀ v σ H Q Q', (∀ σ' H', Q σ' H' → Q' σ' H') → t v σ H Q → t v σ H Q') (monos : ∀ v σ H Q Q', (∀ σ' H', Q σ' H' → Q' σ' H') → u v σ H Q → u v σ H Q') (h1 : GKeep n t) (h2 : GKeeps n u) : GKeeps n (gCons t u) := fun vs σ H Q q => by
  obtain ⟨v, r, e, q⟩ := q
  refine ⟨v, r, e, mono _ _ _ _ _ (fun σ' H' z => ?_) (h1 v σ H _ q)⟩
  exact monos _ _ _ _ _ (fun σ2 H2 y => ⟨y.1, z.2.trans y.2⟩) (h2 r σ' H' Q z.1)
theorem gk_tup {K : PySem.W.Frag} {n k : Nat} {t : TGs} (h : GKeeps n t) : GKeep n (gTup K k t) := fun v σ H Q q => by
  obtain ⟨a, xs, e, hq, hl, q⟩ := q
  exact ⟨a, xs, e, hq, hl, h xs σ H Q q⟩
theorem gm_name {i : Nat} : ∀ v σ H (Q Q' : St → Hp → Prop), (∀ σ' H', Q σ' H' → Q' σ' H') → gName i v σ H Q → gName i v σ H Q' := fun _ _ _ _ _ f q => f _ _ q
theorem gm_nil : ∀ v σ H (Q Q' : St → Hp → Prop), (∀ σ' H', Q σ' H' → Q' σ' H') → gNil v σ H Q → gNil v σ H Q' := fun _ _ _ _ _ f q => ⟨q.1, f _ _ q.2⟩
theorem gm_cons {t : TG} {u : TGs} (mono : ∀ v σ H Q Q', (∀ σ' H', Q σ' H' → Q' σ' H') → t v σ H Q → t v σ H Q') (monos : ∀ v σ H Q Q', (∀ σ' H', Q σ' H' → Q' σ' H') → u v σ H Q → u v σ H Q') :
    ∀ v σ H (Q Q' : St → Hp → Prop), (∀ σ' H', Q σ' H' → Q' σ' H') → gCons t u v σ H Q → gCons t u v σ H Q' := fun vs σ H Q Q' f q => by
  obtain ⟨v, r, e, q⟩ := q
  exact ⟨v, r, e, mono _ _ _ _ _ (fun σ' H' z => monos _ _ _ _ _ f z) q⟩

/-- the loop's reading: W by the turn, a measure, what has been gathered at D -/
noncomputable def tLoop (J : It) (g : TG) (tc : TT) (te : TE) (σ0 : St) (D : Addr) (Z : Hp → Prop) (H : Hp) : Prop :=
  ∃ W : Nat → Nat → List V → Hp → Prop, (∃ m, W 0 m [] H) ∧ ∀ i m ys H, W i m ys H → H D = some (.lst ys) ∧ ((J.stop i H ∧ Z H) ∨ (J.go i H ∧ ∃ N : List V → Hp → Prop, (∀ zs H', N zs H' → ∃ m', m' < m ∧ W (i + 1) m' zs H') ∧ ∀ x H', J.yld i H x H' →
    g x σ0 H' fun σ2 H2 => tc σ2 H2 fun b H3 => if b = true then te σ2 H3 fun y H4 => H4 D = some (.lst ys) ∧ ys.length < sizeLine ∧ N (ys ++ [y]) (upd H4 D (.lst (ys ++ [y]))) else N ys H3))
noncomputable def tComp (wi : TI) (T : List Str) (js : List Nat) (g : TG) (tc : TT) (te : TE) : TE := fun σ H Q => wi σ H fun J H1 => ∀ D, H1 D = none → tLoop J g tc te (st0 T js σ) D (Q (.ref D)) (upd H1 D (.lst []))

section
variable {X : Cx} {pins : List (Addr × Obj)} {σ : St} {H2 : Hp} {s2 : Shared} {scope : Scope} {T F : List Str} {cl : List (Str × Addr)} {fp : List Addr} {js : List Nat} {tg iter elt : Expr} {ifs : List Expr} {pos : Pos}
  {g : TG} {tc : TT} {te : TE} {J : It} {it : Addr} {tn : Nat → Heap → Prop} {E : Value → Shared → Prop} {RR : Value → Addr → Result → Shared → Prop}

theorem comp_block (hc : X.calm = true) (S : CompScope X.env.scope scope T F) (hjs : Paired (fun x j => X.N[j]? = some x) F js)
    (hg : ∀ cl C fp s H, PG (cxComp X (T ++ F) scope cl C fp s H) tg g) (hk : GKeep T.length g)
    (ht : ∀ cl C fp s H, PIf (cxComp X (T ++ F) scope cl C fp s H) ifs tc) (he : ∀ cl C fp s H, PE (cxComp X (T ++ F) scope cl C fp s H) elt te)
    (p1 : ∀ x c, cl.lookup x = some c → X.env.cells.lookup x = some c) (p2 : ∀ y ∈ scope.names, y.2 = .free → ∃ c, cl.lookup y.1 = some c)
    (I2 : Inv X pins σ H2 s2) (Tn : Turn X.prog X.w X.K tg J fp it tn) (st2 : tn 0 s2.heap) (f2 : ∀ b ∈ fp, FpOk X pins H2 b) (Z : Addr → Hp → Prop)
    (loop : ∀ D, H2 D = none → tLoop J g tc te (st0 T js σ) D (Z D) (upd H2 D (.lst [])))
    (hRR : ∀ D C H' s' m', s'.heap.Ns C m' → FpOk X pins H' C → Inv X pins σ H' s' → Z D H' → RR (.ref D) C (.ok .next) s') :
    wpAny (model X.prog X.w) X.A (newList []) (fun acc s₃ => wpAny (model X.prog X.w) X.A (newFunctionEnv scope X.env.globals cl [] X.env.qual none .none (some X.env)) (fun cenv s₄ =>
      codeAny (model X.prog X.w) X.A (.compStart (.ListComp elt [⟨tg, iter, ifs, 0⟩] scope pos) 0 (.ref it) acc { cenv with scope := relabel scope X.env }) (RR acc cenv.locals) s₄) E s₃) E s2 := by
  refine wpAny_newObj_type (wpAny_newFunctionEnv S.nocell (by intro y hy; cases hy) (fun h₁ hns hsb => ?_) S.kind)
  dsimp only at hns hsb ⊢
  have I3 : Inv X pins σ (upd H2 s2.heap.objs.size (.lst [])) { s2 with heap := s2.heap.push { cls := .type "list", data := .seq ([] : List Value).toArray } } := I2.lnew (its := []) (t' := s2.toks) .nil (Nat.zero_le _)
  have hobj : ∀ b ∈ fp, b < s2.heap.objs.size := fun b hb => by
    obtain ⟨o, e, _⟩ := Tn.obj _ _ st2 b hb
    exact Heap.lt_size e
  have f3 : ∀ b ∈ fp, FpOk X pins (upd H2 s2.heap.objs.size (.lst [])) b := fun b hb => ⟨by rw [upd_ne (Nat.ne_of_lt (hobj b hb))]; exact (f2 b hb).1, (f2 b hb).2⟩
  obtain ⟨W, ⟨m0, w0⟩, turn⟩ := loop s2.heap.objs.size I2.fresh
  generalize hs3 : ({ s2 with heap := s2.heap.push { cls := .type "list", data := .seq ([] : List Value).toArray } } : Shared) = s3 at I3
  have e3 : s2.heap.push { cls := .type "list", dict := none, data := .seq ([] : List Value).toArray } = s3.heap := by rw [← hs3]
  rw [e3] at hns hsb ⊢
  have sz3 : s3.heap.objs.size = s2.heap.objs.size + 1 := by rw [← e3, Heap.size_push]
  have hold : ∀ b o, s3.heap.get? b = some o → h₁.get? b = some o := fun b o e => hsb.extBut b o (Nat.ne_of_lt (Heap.lt_size e)) (Heap.get?_push_of_some _ e)
  have hobj3 : ∀ b ∈ fp, b < s3.heap.objs.size := fun b hb => by rw [sz3]; exact Nat.lt_succ_of_lt (hobj b hb)
  have J0 : Inv (cxComp X (T ++ F) scope cl s3.heap.objs.size fp s3 (upd H2 s2.heap.objs.size (.lst []))) [] (st0 T js σ) (upd H2 s2.heap.objs.size (.lst [])) { s3 with heap := h₁, toks := s2.toks + ([] : List (Str × Value)).length } :=
    inv_comp I3 S p1 p2 hjs (Nat.le_refl _) f3 hobj3 hns hold
  have stL : tn 0 h₁ := Tn.keep _ _ _ st2 fun b _ o e => hold b o (by rw [← e3]; exact Heap.get?_push_of_some _ e)
  have es : ({ s2 with heap := h₁, toks := s2.toks + ([] : List (Str × Value)).length } : Shared) = { s3 with heap := h₁, toks := s2.toks + ([] : List (Str × Value)).length } := by rw [← hs3]
  have main : codeAny (model X.prog X.w) X.A (.compLoop (.ListComp elt [⟨tg, iter, ifs, 0⟩] scope pos) 0 (.ref it) (.ref s2.heap.objs.size) (compEnvC scope cl s3.heap.objs.size X.env)) (RR (.ref s2.heap.objs.size) s3.heap.objs.size)
      { s3 with heap := h₁, toks := s2.toks + ([] : List (Str × Value)).length } := by
    have stat : ∀ {H' : Hp}, (∀ b ∈ fp, H' b = none) → ∀ b ∈ fp, FpOk (cxComp X (T ++ F) scope cl s3.heap.objs.size fp s3 (upd H2 s2.heap.objs.size (.lst []))) [] H' b := fun hn b hb =>
      ⟨hn b hb, Nat.ne_of_lt (hobj3 b hb), J0.ok.exfs b hb, .inl hb, (J0.ok.exf b hb).2, fun p hp => (by cases hp)⟩
    refine comp_turns (fun n s' => ∃ i ys H', Inv (cxComp X (T ++ F) scope cl s3.heap.objs.size fp s3 (upd H2 s2.heap.objs.size (.lst []))) [] (st0 T js σ) H' s' ∧ tn i s'.heap ∧ (∀ b ∈ fp, H' b = none) ∧ W i n ys H') ?_ m0
      ⟨0, [], _, J0, stL, fun b hb => (f3 b hb).1, w0⟩
    rintro n s4 ⟨i, ys, H4, I4, st4, fr4, w4⟩
    obtain ⟨hD, alt⟩ := turn i n ys H4 w4
    rcases alt with ⟨stop, z⟩ | ⟨go, N, hN, step⟩
    · refine thn (Tn.done (cxComp X (T ++ F) scope cl s3.heap.objs.size fp s3 (upd H2 s2.heap.objs.size (.lst []))) rfl rfl rfl hc i [] s4 _ H4 (fun _ _ => False) I4 (stat fr4) st4 stop) fun r s5 ⟨hr, I5⟩ => ?_
      subst hr
      obtain ⟨m5, n5, _⟩ := I5.loc
      have fC : FpOk X pins H4 s3.heap.objs.size := I2.fpOk (by rw [sz3]; exact Nat.le_succ _) I5.free
      exact hRR _ _ H4 s5 m5 n5 fC ((inv_back I3 I5 f3)) z
    · refine thn (Tn.item (cxComp X (T ++ F) scope cl s3.heap.objs.size fp s3 (upd H2 s2.heap.objs.size (.lst []))) rfl rfl rfl hc i [] s4 _ H4 (fun _ _ => False) I4 (stat fr4) st4 go) fun r s5 ⟨u, hr, h5⟩ => ?_
      subst hr
      refine thn h5 fun _ s6 ⟨x, H6, I6, r6, y6, st6, fr6⟩ => ?_
      have I6' := I6.pinned (stat fr6) (Tn.obj _ _ st6)
      refine thn (hg _ _ _ _ _ _ s6 _ H6 x u _ I6' r6 (hk x _ H6 _ (step x H6 y6))) fun _ s7 ⟨σ7, H7, I7, q7, kp⟩ => ?_
      refine thn (ht _ _ _ _ _ _ s7 σ7 H7 _ I7 q7) fun ok s8 ⟨H8, I8, q8⟩ => ?_
      have again : ∀ {s9 : Shared} {H9 : Hp}, Inv (cxComp X (T ++ F) scope cl s3.heap.objs.size fp s3 (upd H2 s2.heap.objs.size (.lst []))) ([] ++ pinsAt fp s6.heap) σ7 H9 s9 → ∀ {zs : List V}, (∃ m', m' < n ∧ W (i + 1) m' zs H9) →
          ∃ m, m < n ∧ ∃ i ys H', Inv (cxComp X (T ++ F) scope cl s3.heap.objs.size fp s3 (upd H2 s2.heap.objs.size (.lst []))) [] (st0 T js σ) H' s9 ∧ tn i s9.heap ∧ (∀ b ∈ fp, H' b = none) ∧ W i m ys H' := fun {s9 H9} I9 {zs} q9 => by
        obtain ⟨m', hm, w9⟩ := q9
        have I9' := I9.unpinned
        refine ⟨m', hm, i + 1, zs, H9, I9'.weak kp.1.symm (fun a v ea => ?_), Tn.keep _ _ _ st6 fun b hb o e => (I9.pin (b, o) (List.mem_append_right _ (List.mem_append_right _ (mem_pinsAt hb e)))).1, fun b hb => ?_, w9⟩
        · have ha : T.length ≤ a := by
            rcases Nat.lt_or_ge a T.length with z | z
            · exfalso
              unfold st0 at ea
              rw [List.getElem?_append_left (by simpa using z), List.getElem?_replicate] at ea
              split at ea <;> cases ea
            · exact z
          rw [kp.2 a ha]
          exact ea
        · obtain ⟨o, e, d⟩ := Tn.obj _ _ st6 b hb
          exact (I9.pin (b, o) (List.mem_append_right _ (List.mem_append_right _ (mem_pinsAt hb e)))).2.1
      cases ok with
      | false =>
        rw [if_neg Bool.false_ne_true] at q8 ⊢
        exact again I8 (hN _ _ q8)
      | true =>
        rw [if_pos rfl] at q8 ⊢
        refine thn (he _ _ _ _ _ _ s8 σ7 H8 _ I8 q8) fun y s9 ⟨v9, H9, I9, r9, hD9, hl9, q9⟩ => ?_
        refine thn (mt_append _ s9 σ7 H9 (.ref s2.heap.objs.size) [v9] (.ref s2.heap.objs.size) [y] (fun _ H10 => H10 = upd H9 s2.heap.objs.size (.lst (ys ++ [v9]))) I9 rfl (.cons r9 .nil) ⟨_, _, _, rfl, rfl, hD9, hl9, rfl⟩) fun _ s10 ⟨_, H10, I10, _, e10⟩ => ?_
        subst e10
        exact again I10 (hN _ _ q9)
  show codeAny _ _ _ _ ({ s2 with heap := h₁, toks := s2.toks + ([] : List (Str × Value)).length } : Shared)
  rw [es]
  exact codeAny_compStart_list main (Tn.self _ 0 _ _ _ stL main)

/-- [elt for tg in iter if ..] -/
theorem pe_comp {wi : TI} (hc : X.calm = true) (hi : PI X tg iter wi) (S : CompScope X.env.scope scope T F) (hjs : Paired (fun x j => X.N[j]? = some x) F js)
    (hg : ∀ cl C fp s H, PG (cxComp X (T ++ F) scope cl C fp s H) tg g) (hk : GKeep T.length g)
    (ht : ∀ cl C fp s H, PIf (cxComp X (T ++ F) scope cl C fp s H) ifs tc) (he : ∀ cl C fp s H, PE (cxComp X (T ++ F) scope cl C fp s H) elt te)
    (hs : ∀ x, foldedSetIterable iter X.env x = pure x := by intro _; rfl) : PE X (.ListComp elt [⟨tg, iter, ifs, 0⟩] scope pos) (tComp wi T js g tc te) := by
  intro pins s σ H Q I h
  obtain ⟨cl, hcl, p1, p2⟩ := closure_ok (cells_there I S)
  rw [eval_ListComp]
  refine wpAny_comprehension_free (use := none) rfl hs hcl S.kind S.loc (thn (hi pins s σ H _ I h) fun v s1 h1 => thn h1 fun itv s2 h2 => ?_)
  obtain ⟨it, fp, tn, J, H2, e, I2, Tn, st2, f2, loop⟩ := h2
  subst e
  refine comp_block (RR := fun acc C => compPost (model X.prog X.w) X.A X.xe none (EP X pins σ Q) acc C) hc S hjs hg hk ht he p1 p2 I2 Tn st2 f2 (fun D H' => Q (.ref D) H') loop ?_
  intro D C H' s' m' hn fC I' z
  obtain ⟨f0, f1, f2, f3, f4, f5⟩ := fC
  exact ⟨m', hn, fun h' sb => ⟨.ref D, H', I'.turned (t' := s'.toks) (fun b o hb e => (sb.2 b hb).trans e) f0 f1 f3 f4 f5, rfl, z⟩⟩

/-- x = [elt for tg in iter if ..] -/
theorem ps_setComp {wi : TI} {i : Nat} {y : Str} {py spos : Pos} (hc : X.calm = true) (hN : X.N.Nodup) (hy : X.N[i]? = some y) (hl : X.env.scope.names.lookup y = some .local ∨ X.env.scope.names.lookup y = some .cell) (hi : PI X tg iter wi) (S : CompScope X.env.scope scope T F) (hjs : Paired (fun x j => X.N[j]? = some x) F js)
    (hg : ∀ cl C fp s H, PG (cxComp X (T ++ F) scope cl C fp s H) tg g) (hk : GKeep T.length g)
    (ht : ∀ cl C fp s H, PIf (cxComp X (T ++ F) scope cl C fp s H) ifs tc) (he : ∀ cl C fp s H, PE (cxComp X (T ++ F) scope cl C fp s H) elt te)
    (hsw : swapsWith (.ListComp elt [⟨tg, iter, ifs, 0⟩] scope pos) (some (.Name y py)) spos.line X.env = pure true := by rfl)
    (hs : ∀ x, foldedSetIterable iter X.env x = pure x := by intro _; rfl) (hfn : X.fn y = true ∨ X.env.scope.names.lookup y = some .local := by first | exact .inl rfl | exact .inr rfl | assumption) :
    PS X (.Assign [.Name y py] (.ListComp elt [⟨tg, iter, ifs, 0⟩] scope pos) spos) (fun D σ H => tComp wi T js g tc te σ H fun v H1 => D.nx (σ.set i (some v)) H1) := by
  intro pins s σ H D I h
  obtain ⟨cl, hcl, p1, p2⟩ := closure_ok (cells_there I S)
  rw [exec_Assign_Name_used _ _ _ _ hsw]
  refine wpAny_bind (wpAny_standAt (wpAny_bind ?_))
  show wpAny _ X.A (do let _ ← comprehension (.ListComp elt [⟨tg, iter, ifs, 0⟩] scope pos) scope X.env _ (newList []) false (eval iter X.env) (some (assign (.Name y py) X.env))) _ _ s
  refine wpAny_bind (thn (wpAny_comprehension_free (use := some (assign (.Name y py) X.env)) (Q := fun _ s' => SP X pins D .next s') rfl hs hcl S.kind S.loc (thn (hi pins s σ H _ I h) fun v s1 h1 => thn h1 fun itv s2 h2 => ?_)) fun _ s' hq => wpAny_pure (wpAny_pure hq))
  obtain ⟨it, fp, tn, J, H2, e, I2, Tn, st2, f2, loop⟩ := h2
  subst e
  refine comp_block (RR := fun acc C => compPost (model X.prog X.w) X.A X.xe (some (assign (.Name y py) X.env)) (fun _ s' => SP X pins D .next s') acc C) hc S hjs hg hk ht he p1 p2 I2 Tn st2 f2 (fun D0 H' => D.nx (σ.set i (some (.ref D0))) H') loop ?_
  intro D0 C H' s' m' hn fC I' z
  obtain ⟨f0, f1, f2, f3, f4, f5⟩ := fC
  show wpAny _ X.A (assign (.Name y py) X.env (.ref D0)) _ _ s'
  refine wpAny_assign_Name (store_ok2 (v := .ref D0) I' hN hy hl rfl (fun s'' I'' ch => ?_) hfn)
  obtain ⟨a, sb, ha⟩ := ch
  have hCa : C ≠ a := by
    rcases ha with rfl | ha
    · exact f1
    · exact fun z => f4 y a ha z.symm
  exact ⟨m', hn.sameBut sb hCa, fun h' sb' => ⟨_, H', I''.turned (t' := s''.toks) (fun b o hb e => (sb'.2 b hb).trans e) f0 f1 f3 f4 f5, z⟩⟩
end
end L3

set_option Elab.async false
set_option linter.all false
set_option maxRecDepth 100000
set_option maxHeartbeats 4000000
namespace L3
open PySem PySem.Spec L2
open PyProof.Rows hiding St

noncomputable def Itv (n : Nat) (val : Nat → V → Prop) : It := ⟨fun i _ => i < n, fun i H x H' => H' = H ∧ val i x, fun i _ => i = n⟩
/-- the sign at a place -/
noncomputable def SignV (x : Str) (i : Nat) (v : V) : Prop := ∃ c, x.cps[i]? = some c ∧ v = .str ⟨#[c]⟩

theorem turn_str {P : Program} {w : World} {K : PySem.W.Frag} {tg : Expr} {it : Addr} {x : Str} {t : Tok} {T : String}
    (W : ∀ A : Around, A.handled = none → Walks P w A it [it] [it] x.cps.size (SignAt x) (fun i h => h.IsStrIter it T x t i))
    (hs : ∀ (A : Around) (i : Nat) (s : Shared) (Q : Value → Shared → Prop) (E : Value → Shared → Prop), s.heap.IsStrIter it T x t i → Q (.ref it) s → wpAny (model P w) A (pyIter (.ref it)) Q E s)
    (hT : ["enumerate", "zip", "dict_itemiterator", "dict_reverseitemiterator", "odict_iterator", "itertools.zip_longest", "itertools.pairwise"].contains T = false) :
    Turn P w K tg (Itv x.cps.size (SignV x)) [it] it (fun i h => h.IsStrIter it T x t i) where
  mem := by simp
  obj := fun i h st b hb => by
    have e : b = it := by simpa using hb
    subst e
    obtain ⟨o, e, c, d⟩ := st
    exact ⟨o, e, fun v z => by rw [d] at z; cases z⟩
  keep := fun i h h' st k => let ⟨o, e, r⟩ := st; ⟨o, k it (by simp) o e, r⟩
  item := by
    intro X hP hw hK hc i pins s σ H E I hf st hg
    subst hP hw hK
    obtain ⟨f0, f1, f2, f3, f4, f5⟩ := hf it (by simp)
    refine (W X.A (I.ok.hd hc)).item i s _ _ hg st fun v h' tk hv st' kk => ?_
    obtain ⟨c, u, hx, rfl⟩ := hv
    have I1 : Inv X pins σ H { s with heap := h', toks := tk } := I.turned (fun b o hb e => kk b o (by simpa using hb) e) f0 f1 f3 f4 f5
    obtain ⟨o, e, c', d⟩ := id st'
    exact ⟨_, rfl, go_of (s := { s with heap := h', toks := tk }) e c' d hT ⟨.str ⟨#[c]⟩, H, I1, ⟨u, rfl⟩, ⟨rfl, c, hx, rfl⟩, st', fun b hb => (hf b hb).1⟩⟩
  done := by
    intro X hP hw hK hc i pins s σ H E I hf st hg
    subst hP hw hK
    obtain ⟨f0, f1, f2, f3, f4, f5⟩ := hf it (by simp)
    have e : i = x.cps.size := hg
    subst e
    exact (W X.A (I.ok.hd hc)).done s _ _ st fun h' tk kk => ⟨rfl, I.turned (fun b o hb e => kk b o (by simpa using hb) e) f0 f1 f3 f4 f5⟩
  self := fun A i s Q E st h => hs A i s Q E st h

section
variable {X : Cx}
end
end L3

set_option Elab.async false
set_option linter.all false
set_option maxRecDepth 100000
set_option maxHeartbeats 4000000
namespace DL
open PySem PySem.Spec L2 L3
open PyProof.Rows hiding St

/-- a constant of the module: it lies outside what changes -/
inductive Cst where
  | int (i : Int) | str (x : Str) | tup (cs : List Cst)
mutual
noncomputable def CRep (K : PySem.W.Frag) : Cst → V → Prop
  | .int i, v => v = .int i
  | .str x, v => v = .str x
  | .tup cs, v => ∃ (a : Addr) (o : Obj) (its : Array Value) (n : Nat) (xs : List V), v = .ref a ∧ K.lookup a = some o ∧ o.cls = .type "tuple" ∧ o.data = .seq its n ∧ its.size ≤ sizeLine ∧ Vals xs its.toList ∧ CReps K cs xs
noncomputable def CReps (K : PySem.W.Frag) : List Cst → List V → Prop
  | [], xs => xs = []
  | c :: cs, xs => ∃ v r, xs = v :: r ∧ CRep K c v ∧ CReps K cs r
end
/-- a value with all that it holds -/
inductive D where
  | non | bl (b : Bool) | int (i : Int) | str (x : Str) | ty (n : String)
  | tup (ds : List D) | lst (ds : List D) | dk (ks : List Key) (ds : List D) | dt (ks : List (List Key)) (ds : List D)
  /-- the script -/
  | scr (ns : List Int)
  /-- an exception of the class at C -/
  | exc (C : Addr)
  /-- a list of whole numbers (below m, where 0 < m), no matter which -/
  | fd (m : Int)
  | cn (c : Cst)

/-- the script at a -/
noncomputable def Scr (K : PySem.W.Frag) (H : Hp) (a : Addr) (ns : List Int) : Prop :=
  (∃ o, H a = some (.frz o (.lst (ns.map V.int)))) ∨
    ∃ (o : Obj) (its : Array Value) (n : Nat), K.lookup a = some o ∧ o.cls = .type "list" ∧ o.dict = none ∧ o.data = .seq its n ∧ its.size ≤ sizeLine ∧ Vals (ns.map V.int) its.toList
theorem Scr.seq {K : PySem.W.Frag} {H : Hp} {a : Addr} {ns : List Int} (h : Scr K H a ns) : SqL K H a (ns.map V.int) := by
  rcases h with ⟨o, h⟩ | h
  · exact .inl (.inr ⟨o, h⟩)
  · exact .inr h

/-- a tuple that is tracked -/
noncomputable def SqR (K : PySem.W.Frag) (H : Hp) (a : Addr) (xs : List V) : Prop := SqT K H a xs ∧ H a = some (.tup xs)
/-- an exception of the class at C, known by its class alone -/
noncomputable def ExcO (a C : Addr) : HO := .ext fun h => ∃ o, h.get? a = some o ∧ o.cls = .ref C ∧ PySem.W.notCls o = true
/-- a list of whole numbers, from 0 on and below m where 0 < m, and not empty where not: what it holds may change -/
noncomputable def FeedO (a : Addr) (m : Int) : HO := .ext fun h => ∃ (its : Array Value) (n : Nat), h.get? a = some { cls := .type "list", dict := none, data := .seq its n, slots := #[] } ∧ its.size ≤ 1000 ∧ (m ≤ 0 → 1 ≤ its.size) ∧ ∀ v ∈ its, ∃ (i : Int) (t : Tok), v = .int i t ∧ (0 < m → 0 ≤ i ∧ i < m)
mutual
/-- the value v stands for d; none of its lists and dicts lies in O -/
noncomputable def Rep (K : PySem.W.Frag) (H : Hp) (O : List Addr) : D → V → Prop
  | .non, v => v = .non
  | .bl b, v => v = .bl b
  | .int i, v => v = .int i
  | .str x, v => v = .str x
  | .ty n, v => v = .ty n
  | .cn c, v => CRep K c v
  | .tup ds, v => ∃ a xs, v = .ref a ∧ SqR K H a xs ∧ Reps K H O ds xs
  | .lst ds, v => ∃ a xs, v = .ref a ∧ H a = some (.lst xs) ∧ a ∉ O ∧ Reps K H O ds xs
  | .scr ns, v => ∃ a, v = .ref a ∧ Scr K H a ns
  | .exc C, v => ∃ a, v = .ref a ∧ H a = some (ExcO a C) ∧ a ∉ O
  | .fd m, v => ∃ a, v = .ref a ∧ H a = some (FeedO a m) ∧ a ∉ O
  | .dk ks ds, v => ∃ a xs, v = .ref a ∧ H a = some (.dK (ks.zip xs)) ∧ a ∉ O ∧ ks.length = ds.length ∧ ks.Nodup ∧ Reps K H O ds xs
  | .dt ks ds, v => ∃ a xs, v = .ref a ∧ H a = some (.dT (ks.zip xs)) ∧ a ∉ O ∧ ks.length = ds.length ∧ ks.Nodup ∧ Reps K H O ds xs
noncomputable def Reps (K : PySem.W.Frag) (H : Hp) (O : List Addr) : List D → List V → Prop
  | [], xs => xs = []
  | d :: ds, xs => ∃ v r, xs = v :: r ∧ Rep K H O d v ∧ Reps K H O ds r
end

/-- what stands outside O is kept -/
structure Grow (O O' : List Addr) (H H' : Hp) : Prop where
  keep : ∀ b u, H b = some u → b ∉ O → H' b = some u ∧ b ∉ O'
  tups : ∀ b xs, H b = some (.tup xs) → H' b = some (.tup xs)
  frzs : ∀ b o u, H b = some (.frz o u) → H' b = some (.frz o u)
theorem Grow.same {O : List Addr} {H H' : Hp} (s : Same H H') : Grow O O H H' := ⟨fun b u h n => ⟨s b u h, n⟩, fun b xs h => s b _ h, fun b o u h => s b _ h⟩
theorem Grow.refl {O : List Addr} {H : Hp} : Grow O O H H := Grow.same (Same.refl H)
theorem Grow.trans {O O' O'' : List Addr} {H H' H'' : Hp} (a : Grow O O' H H') (b : Grow O' O'' H' H'') : Grow O O'' H H'' :=
  ⟨fun c u h n => let ⟨h', n'⟩ := a.keep c u h n; b.keep c u h' n', fun c xs h => b.tups c xs (a.tups c xs h), fun c o u h => b.frzs c o u (a.frzs c o u h)⟩

theorem sqT_grow {K : PySem.W.Frag} {O O' : List Addr} {H H' : Hp} {a : Addr} {xs : List V} (g : Grow O O' H H') (h : SqT K H a xs) : SqT K H' a xs := by
  rcases h with (h | ⟨o, h⟩) | h
  · exact .inl (.inl (g.tups _ _ h))
  · exact .inl (.inr ⟨o, g.frzs _ _ _ h⟩)
  · exact .inr h
theorem sqR_grow {K : PySem.W.Frag} {O O' : List Addr} {H H' : Hp} {a : Addr} {xs : List V} (g : Grow O O' H H') (h : SqR K H a xs) : SqR K H' a xs := ⟨sqT_grow g h.1, g.tups _ _ h.2⟩
theorem scr_grow {K : PySem.W.Frag} {O O' : List Addr} {H H' : Hp} {a : Addr} {ns : List Int} (g : Grow O O' H H') (h : Scr K H a ns) : Scr K H' a ns := by
  rcases h with ⟨o, h⟩ | h
  · exact .inl ⟨o, g.frzs _ _ _ h⟩
  · exact .inr h
mutual
theorem Rep.grow {K : PySem.W.Frag} {O O' : List Addr} {H H' : Hp} (g : Grow O O' H H') : ∀ (d : D) (v : V), Rep K H O d v → Rep K H' O' d v
  | .non, _, h => h
  | .bl _, _, h => h
  | .int _, _, h => h
  | .str _, _, h => h
  | .ty _, _, h => h
  | .cn _, _, h => h
  | .tup ds, v, h => by
    obtain ⟨a, xs, e, q, r⟩ := h
    exact ⟨a, xs, e, sqR_grow g q, Reps.grow g ds xs r⟩
  | .lst ds, v, h => by
    obtain ⟨a, xs, e, q, n, r⟩ := h
    exact ⟨a, xs, e, (g.keep _ _ q n).1, (g.keep _ _ q n).2, Reps.grow g ds xs r⟩
  | .scr ns, v, h => by
    obtain ⟨a, e, q⟩ := h
    exact ⟨a, e, scr_grow g q⟩
  | .exc C, v, h => by
    obtain ⟨a, e, q, n⟩ := h
    exact ⟨a, e, (g.keep _ _ q n).1, (g.keep _ _ q n).2⟩
  | .fd m, v, h => by
    obtain ⟨a, e, q, n⟩ := h
    exact ⟨a, e, (g.keep _ _ q n).1, (g.keep _ _ q n).2⟩
  | .dk ks ds, v, h => by
    obtain ⟨a, xs, e, q, n, l, nd, r⟩ := h
    exact ⟨a, xs, e, (g.keep _ _ q n).1, (g.keep _ _ q n).2, l, nd, Reps.grow g ds xs r⟩
  | .dt ks ds, v, h => by
    obtain ⟨a, xs, e, q, n, l, nd, r⟩ := h
    exact ⟨a, xs, e, (g.keep _ _ q n).1, (g.keep _ _ q n).2, l, nd, Reps.grow g ds xs r⟩
theorem Reps.grow {K : PySem.W.Frag} {O O' : List Addr} {H H' : Hp} (g : Grow O O' H H') : ∀ (ds : List D) (xs : List V), Reps K H O ds xs → Reps K H' O' ds xs
  | [], _, h => h
  | d :: ds, xs, h => by
    obtain ⟨v, r, e, q, t⟩ := h
    exact ⟨v, r, e, Rep.grow g d v q, Reps.grow g ds r t⟩
end
mutual
theorem Rep.sub {K : PySem.W.Frag} {O O' : List Addr} {H : Hp} (g : ∀ a ∈ O', a ∈ O) : ∀ (d : D) (v : V), Rep K H O d v → Rep K H O' d v
  | .non, _, h => h
  | .bl _, _, h => h
  | .int _, _, h => h
  | .str _, _, h => h
  | .ty _, _, h => h
  | .cn _, _, h => h
  | .tup ds, v, h => by
    obtain ⟨a, xs, e, q, r⟩ := h
    exact ⟨a, xs, e, q, Reps.sub g ds xs r⟩
  | .lst ds, v, h => by
    obtain ⟨a, xs, e, q, n, r⟩ := h
    exact ⟨a, xs, e, q, fun z => n (g a z), Reps.sub g ds xs r⟩
  | .scr _, _, h => h
  | .exc _, _, h => by
    obtain ⟨a, e, q, n⟩ := h
    exact ⟨a, e, q, fun z => n (g a z)⟩
  | .fd _, _, h => by
    obtain ⟨a, e, q, n⟩ := h
    exact ⟨a, e, q, fun z => n (g a z)⟩
  | .dk ks ds, v, h => by
    obtain ⟨a, xs, e, q, n, l, nd, r⟩ := h
    exact ⟨a, xs, e, q, fun z => n (g a z), l, nd, Reps.sub g ds xs r⟩
  | .dt ks ds, v, h => by
    obtain ⟨a, xs, e, q, n, l, nd, r⟩ := h
    exact ⟨a, xs, e, q, fun z => n (g a z), l, nd, Reps.sub g ds xs r⟩
theorem Reps.sub {K : PySem.W.Frag} {O O' : List Addr} {H : Hp} (g : ∀ a ∈ O', a ∈ O) : ∀ (ds : List D) (xs : List V), Reps K H O ds xs → Reps K H O' ds xs
  | [], _, h => h
  | d :: ds, xs, h => by
    obtain ⟨v, r, e, q, t⟩ := h
    exact ⟨v, r, e, Rep.sub g d v q, Reps.sub g ds r t⟩
end
mutual
noncomputable def pureD : D → Prop
  | .tup ds => pureDs ds
  | .lst _ => False
  | .dk _ _ => False
  | .dt _ _ => False
  | .scr _ => True
  | .exc _ => False
  | .fd _ => False
  | .non => True
  | .bl _ => True
  | .int _ => True
  | .str _ => True
  | .ty _ => True
  | .cn _ => True
noncomputable def pureDs : List D → Prop
  | [] => True
  | d :: ds => pureD d ∧ pureDs ds
end
theorem pureDs_iff : ∀ {ds : List D}, pureDs ds ↔ ∀ d ∈ ds, pureD d
  | [] => by simp [pureDs]
  | d :: ds => by
    rw [pureDs, pureDs_iff]
    simp
mutual
theorem Rep.pure {K : PySem.W.Frag} {O O' : List Addr} {H : Hp} : ∀ (d : D) (v : V), pureD d → Rep K H O d v → Rep K H O' d v
  | .non, _, _, h => h
  | .bl _, _, _, h => h
  | .int _, _, _, h => h
  | .str _, _, _, h => h
  | .ty _, _, _, h => h
  | .cn _, _, _, h => h
  | .tup ds, v, p, h => by
    obtain ⟨a, xs, e, q, r⟩ := h
    exact ⟨a, xs, e, q, Reps.pure ds xs p r⟩
  | .scr _, _, _, h => h
  | .exc _, _, p, _ => p.elim
  | .fd _, _, p, _ => p.elim
  | .lst ds, v, p, h => p.elim
  | .dk ks ds, v, p, h => p.elim
  | .dt ks ds, v, p, h => p.elim
theorem Reps.pure {K : PySem.W.Frag} {O O' : List Addr} {H : Hp} : ∀ (ds : List D) (xs : List V), pureDs ds → Reps K H O ds xs → Reps K H O' ds xs
  | [], _, _, h => h
  | d :: ds, xs, p, h => by
    obtain ⟨v, r, e, q, t⟩ := h
    exact ⟨v, r, e, Rep.pure d v p.1 q, Reps.pure ds r p.2 t⟩
end

mutual
noncomputable def RepN (K : PySem.W.Frag) (H : Hp) (P : Addr → Prop) : D → V → Prop
  | .non, v => v = .non
  | .bl b, v => v = .bl b
  | .int i, v => v = .int i
  | .str x, v => v = .str x
  | .ty n, v => v = .ty n
  | .cn c, v => CRep K c v
  | .tup ds, v => ∃ a xs, v = .ref a ∧ SqR K H a xs ∧ RepNs K H P ds xs
  | .lst ds, v => ∃ a xs, v = .ref a ∧ H a = some (.lst xs) ∧ P a ∧ RepNs K H P ds xs
  | .scr ns, v => ∃ a, v = .ref a ∧ Scr K H a ns
  | .exc C, v => ∃ a, v = .ref a ∧ H a = some (ExcO a C) ∧ P a
  | .fd m, v => ∃ a, v = .ref a ∧ H a = some (FeedO a m) ∧ P a
  | .dk ks ds, v => ∃ a xs, v = .ref a ∧ H a = some (.dK (ks.zip xs)) ∧ P a ∧ ks.length = ds.length ∧ ks.Nodup ∧ RepNs K H P ds xs
  | .dt ks ds, v => ∃ a xs, v = .ref a ∧ H a = some (.dT (ks.zip xs)) ∧ P a ∧ ks.length = ds.length ∧ ks.Nodup ∧ RepNs K H P ds xs
noncomputable def RepNs (K : PySem.W.Frag) (H : Hp) (P : Addr → Prop) : List D → List V → Prop
  | [], xs => xs = []
  | d :: ds, xs => ∃ v r, xs = v :: r ∧ RepN K H P d v ∧ RepNs K H P ds r
end
mutual
theorem RepN.to {K : PySem.W.Frag} {P P' : Addr → Prop} {H H' : Hp} (s : Same H H') (g : ∀ a, P a → P' a) : ∀ (d : D) (v : V), RepN K H P d v → RepN K H' P' d v
  | .non, _, h => h
  | .bl _, _, h => h
  | .int _, _, h => h
  | .str _, _, h => h
  | .ty _, _, h => h
  | .cn _, _, h => h
  | .tup ds, v, h => by
    obtain ⟨a, xs, e, q, r⟩ := h
    exact ⟨a, xs, e, sqR_grow (Grow.same (O := []) s) q, RepNs.to s g ds xs r⟩
  | .lst ds, v, h => by
    obtain ⟨a, xs, e, q, n, r⟩ := h
    exact ⟨a, xs, e, s _ _ q, g a n, RepNs.to s g ds xs r⟩
  | .scr ns, v, h => by
    obtain ⟨a, e, q⟩ := h
    exact ⟨a, e, scr_grow (Grow.same (O := []) s) q⟩
  | .exc C, v, h => by
    obtain ⟨a, e, q, n⟩ := h
    exact ⟨a, e, s _ _ q, g a n⟩
  | .fd m, v, h => by
    obtain ⟨a, e, q, n⟩ := h
    exact ⟨a, e, s _ _ q, g a n⟩
  | .dk ks ds, v, h => by
    obtain ⟨a, xs, e, q, n, l, nd, r⟩ := h
    exact ⟨a, xs, e, s _ _ q, g a n, l, nd, RepNs.to s g ds xs r⟩
  | .dt ks ds, v, h => by
    obtain ⟨a, xs, e, q, n, l, nd, r⟩ := h
    exact ⟨a, xs, e, s _ _ q, g a n, l, nd, RepNs.to s g ds xs r⟩
theorem RepNs.to {K : PySem.W.Frag} {P P' : Addr → Prop} {H H' : Hp} (s : Same H H') (g : ∀ a, P a → P' a) : ∀ (ds : List D) (xs : List V), RepNs K H P ds xs → RepNs K H' P' ds xs
  | [], _, h => h
  | d :: ds, xs, h => by
    obtain ⟨v, r, e, q, t⟩ := h
    exact ⟨v, r, e, RepN.to s g d v q, RepNs.to s g ds r t⟩
end
mutual
theorem RepN.rep {K : PySem.W.Frag} {P : Addr → Prop} {H : Hp} {O : List Addr} (g : ∀ a, P a → a ∉ O) : ∀ (d : D) (v : V), RepN K H P d v → Rep K H O d v
  | .non, _, h => h
  | .bl _, _, h => h
  | .int _, _, h => h
  | .str _, _, h => h
  | .ty _, _, h => h
  | .cn _, _, h => h
  | .tup ds, v, h => by
    obtain ⟨a, xs, e, q, r⟩ := h
    exact ⟨a, xs, e, q, RepNs.reps g ds xs r⟩
  | .lst ds, v, h => by
    obtain ⟨a, xs, e, q, n, r⟩ := h
    exact ⟨a, xs, e, q, g a n, RepNs.reps g ds xs r⟩
  | .scr _, _, h => h
  | .exc C, v, h => by
    obtain ⟨a, e, q, n⟩ := h
    exact ⟨a, e, q, g a n⟩
  | .fd m, v, h => by
    obtain ⟨a, e, q, n⟩ := h
    exact ⟨a, e, q, g a n⟩
  | .dk ks ds, v, h => by
    obtain ⟨a, xs, e, q, n, l, nd, r⟩ := h
    exact ⟨a, xs, e, q, g a n, l, nd, RepNs.reps g ds xs r⟩
  | .dt ks ds, v, h => by
    obtain ⟨a, xs, e, q, n, l, nd, r⟩ := h
    exact ⟨a, xs, e, q, g a n, l, nd, RepNs.reps g ds xs r⟩
theorem RepNs.reps {K : PySem.W.Frag} {P : Addr → Prop} {H : Hp} {O : List Addr} (g : ∀ a, P a → a ∉ O) : ∀ (ds : List D) (xs : List V), RepNs K H P ds xs → Reps K H O ds xs
  | [], _, h => h
  | d :: ds, xs, h => by
    obtain ⟨v, r, e, q, t⟩ := h
    exact ⟨v, r, e, RepN.rep g d v q, RepNs.reps g ds r t⟩
end
section
variable {K : PySem.W.Frag} {H : Hp} {O : List Addr}
theorem Reps.length : ∀ {ds : List D} {xs : List V}, Reps K H O ds xs → xs.length = ds.length
  | [], _, h => by cases h; rfl
  | d :: ds, xs, h => by
    obtain ⟨v, r, e, _, t⟩ := h
    subst e
    simp [Reps.length t]
theorem Reps.get : ∀ {ds : List D} {xs : List V} {i : Nat} {d : D}, Reps K H O ds xs → ds[i]? = some d → ∃ v, xs[i]? = some v ∧ Rep K H O d v
  | [], _, _, _, _, e => by simp at e
  | d :: ds, xs, 0, d', h, e => by
    obtain ⟨v, r, rfl, q, _⟩ := h
    simp at e
    subst e
    exact ⟨v, rfl, q⟩
  | d :: ds, xs, i + 1, d', h, e => by
    obtain ⟨v, r, rfl, _, t⟩ := h
    obtain ⟨v', e', q'⟩ := Reps.get (i := i) t (by simpa using e)
    exact ⟨v', by simpa using e', q'⟩
theorem Reps.at : ∀ {ds : List D} {xs : List V} {i : Nat} {v : V}, Reps K H O ds xs → xs[i]? = some v → ∃ d, ds[i]? = some d ∧ Rep K H O d v := fun {ds xs i v} h e => by
  have hl := h.length
  have hi := (List.getElem?_eq_some_iff.mp e).1
  have hd : ds[i]? = some (ds[i]'(by omega)) := by simp [show i < ds.length by omega]
  obtain ⟨v', e', q⟩ := h.get hd
  rw [e] at e'
  cases e'
  exact ⟨_, hd, q⟩
theorem Reps.append : ∀ {ds es : List D} {xs ys : List V}, Reps K H O ds xs → Reps K H O es ys → Reps K H O (ds ++ es) (xs ++ ys)
  | [], es, xs, ys, h, h' => by cases h; exact h'
  | d :: ds, es, xs, ys, h, h' => by
    obtain ⟨v, r, rfl, q, t⟩ := h
    exact ⟨v, r ++ ys, rfl, q, Reps.append t h'⟩
theorem Reps.one {d : D} {v : V} (h : Rep K H O d v) : Reps K H O [d] [v] := ⟨v, [], rfl, h, rfl⟩
theorem Reps.take : ∀ {ds : List D} {xs : List V} (n : Nat), Reps K H O ds xs → Reps K H O (ds.take n) (xs.take n)
  | _, _, 0, _ => rfl
  | [], _, n + 1, h => by cases h; rfl
  | d :: ds, xs, n + 1, h => by
    obtain ⟨v, r, rfl, q, t⟩ := h
    exact ⟨v, r.take n, rfl, q, Reps.take n t⟩
theorem Reps.drop : ∀ {ds : List D} {xs : List V} (n : Nat), Reps K H O ds xs → Reps K H O (ds.drop n) (xs.drop n)
  | _, _, 0, h => h
  | [], _, n + 1, h => by cases h; rfl
  | d :: ds, xs, n + 1, h => by
    obtain ⟨v, r, rfl, q, t⟩ := h
    exact Reps.drop n t
theorem Reps.ints : ∀ (ns : List Int), Reps K H O (ns.map D.int) (ns.map V.int)
  | [] => rfl
  | n :: ns => ⟨_, _, rfl, rfl, Reps.ints ns⟩
theorem Reps.dropLast {ds : List D} {xs : List V} (h : Reps K H O ds xs) : Reps K H O ds.dropLast xs.dropLast := by
  rw [List.dropLast_eq_take, List.dropLast_eq_take, h.length]
  exact h.take _
theorem Reps.rep {ds : List D} {xs : List V} (h : Reps K H O ds xs) : ∀ k : Nat, Reps K H O (List.replicate k ds).flatten (List.replicate k xs).flatten
  | 0 => rfl
  | k + 1 => by
    rw [List.replicate_succ, List.replicate_succ, List.flatten_cons, List.flatten_cons]
    exact h.append (Reps.rep h k)
end

/-- v as it is read: d, whatever its own place -/
noncomputable def View (K : PySem.W.Frag) (H : Hp) (O : List Addr) (d : D) (v : V) : Prop := match d with
  | .lst ds => ∃ a xs, v = .ref a ∧ H a = some (.lst xs) ∧ Reps K H O ds xs
  | .dk ks ds => ∃ a xs, v = .ref a ∧ H a = some (.dK (ks.zip xs)) ∧ ks.length = ds.length ∧ ks.Nodup ∧ Reps K H O ds xs
  | .dt ks ds => ∃ a xs, v = .ref a ∧ H a = some (.dT (ks.zip xs)) ∧ ks.length = ds.length ∧ ks.Nodup ∧ Reps K H O ds xs
  | d => Rep K H O d v
/-- a list or dict that is ours, at a -/
noncomputable def Con (K : PySem.W.Frag) (H : Hp) (O : List Addr) (d : D) (a : Addr) : Prop := match d with
  | .lst ds => ∃ xs, H a = some (.lst xs) ∧ Reps K H O ds xs
  | .dk ks ds => ∃ xs, H a = some (.dK (ks.zip xs)) ∧ ks.length = ds.length ∧ ks.Nodup ∧ Reps K H O ds xs
  | .dt ks ds => ∃ xs, H a = some (.dT (ks.zip xs)) ∧ ks.length = ds.length ∧ ks.Nodup ∧ Reps K H O ds xs
  | _ => False
theorem Rep.view {K : PySem.W.Frag} {H : Hp} {O : List Addr} {d : D} {v : V} (h : Rep K H O d v) : View K H O d v := by
  cases d with
  | lst ds => obtain ⟨a, xs, e, q, _, r⟩ := h; exact ⟨a, xs, e, q, r⟩
  | dk ks ds => obtain ⟨a, xs, e, q, _, r⟩ := h; exact ⟨a, xs, e, q, r⟩
  | dt ks ds => obtain ⟨a, xs, e, q, _, r⟩ := h; exact ⟨a, xs, e, q, r⟩
  | _ => exact h
theorem Con.view {K : PySem.W.Frag} {H : Hp} {O : List Addr} {d : D} {a : Addr} (h : Con K H O d a) : View K H O d (.ref a) := by
  cases d with
  | lst ds => obtain ⟨xs, q, r⟩ := h; exact ⟨a, xs, rfl, q, r⟩
  | dk ks ds => obtain ⟨xs, q, r⟩ := h; exact ⟨a, xs, rfl, q, r⟩
  | dt ks ds => obtain ⟨xs, q, r⟩ := h; exact ⟨a, xs, rfl, q, r⟩
  | _ => exact h.elim
theorem Con.rep {K : PySem.W.Frag} {H : Hp} {O : List Addr} {d : D} {a : Addr} (h : Con K H O d a) (n : a ∉ O) : Rep K H O d (.ref a) := by
  cases d with
  | lst ds => obtain ⟨xs, q, r⟩ := h; exact ⟨a, xs, rfl, q, n, r⟩
  | dk ks ds => obtain ⟨xs, q, r⟩ := h; exact ⟨a, xs, rfl, q, n, r⟩
  | dt ks ds => obtain ⟨xs, q, r⟩ := h; exact ⟨a, xs, rfl, q, n, r⟩
  | _ => exact h.elim
theorem Con.same {K : PySem.W.Frag} {H H' : Hp} {O : List Addr} {d : D} {a : Addr} (h : Con K H O d a) (s : Same H H') : Con K H' O d a := by
  cases d with
  | lst ds => obtain ⟨xs, q, r⟩ := h; exact ⟨xs, s _ _ q, Reps.grow (Grow.same s) _ _ r⟩
  | dk ks ds => obtain ⟨xs, q, l, n, r⟩ := h; exact ⟨xs, s _ _ q, l, n, Reps.grow (Grow.same s) _ _ r⟩
  | dt ks ds => obtain ⟨xs, q, l, n, r⟩ := h; exact ⟨xs, s _ _ q, l, n, Reps.grow (Grow.same s) _ _ r⟩
  | _ => exact h.elim
theorem Con.sub {K : PySem.W.Frag} {H : Hp} {O O' : List Addr} {d : D} {a : Addr} (h : Con K H O d a) (g : ∀ a ∈ O', a ∈ O) : Con K H O' d a := by
  cases d with
  | lst ds => obtain ⟨xs, q, r⟩ := h; exact ⟨xs, q, Reps.sub g _ _ r⟩
  | dk ks ds => obtain ⟨xs, q, l, n, r⟩ := h; exact ⟨xs, q, l, n, Reps.sub g _ _ r⟩
  | dt ks ds => obtain ⟨xs, q, l, n, r⟩ := h; exact ⟨xs, q, l, n, Reps.sub g _ _ r⟩
  | _ => exact h.elim
theorem View.sub {K : PySem.W.Frag} {H : Hp} {O O' : List Addr} {d : D} {v : V} (h : View K H O d v) (g : ∀ a ∈ O', a ∈ O) : View K H O' d v := by
  cases d with
  | lst ds => obtain ⟨a, xs, e, q, r⟩ := h; exact ⟨a, xs, e, q, Reps.sub g _ _ r⟩
  | dk ks ds => obtain ⟨a, xs, e, q, l, n, r⟩ := h; exact ⟨a, xs, e, q, l, n, Reps.sub g _ _ r⟩
  | dt ks ds => obtain ⟨a, xs, e, q, l, n, r⟩ := h; exact ⟨a, xs, e, q, l, n, Reps.sub g _ _ r⟩
  | _ => exact Rep.sub g _ _ h
theorem View.rep0 {K : PySem.W.Frag} {H : Hp} {O : List Addr} {d : D} {v : V} (h : View K H O d v) : Rep K H [] d v := by
  have h := h.sub (O' := []) (fun _ z => nomatch z)
  cases d with
  | lst ds => obtain ⟨a, xs, e, q, r⟩ := h; exact ⟨a, xs, e, q, by simp, r⟩
  | dk ks ds => obtain ⟨a, xs, e, q, l, n, r⟩ := h; exact ⟨a, xs, e, q, by simp, l, n, r⟩
  | dt ks ds => obtain ⟨a, xs, e, q, l, n, r⟩ := h; exact ⟨a, xs, e, q, by simp, l, n, r⟩
  | _ => exact h

/-- val: a thing that stays; own: the frame's own list or dict; fre: a new list or dict; new: a thing all whose lists and dicts are new -/
inductive Kd where | val | own | fre | new
  deriving DecidableEq
structure EV where
  k : Kd
  d : D
noncomputable abbrev DE := List (Option EV)
noncomputable abbrev dv (d : D) : EV := ⟨.val, d⟩
noncomputable abbrev df (d : D) : EV := ⟨.fre, d⟩
noncomputable abbrev dO (d : D) : EV := ⟨.own, d⟩
/-- H0: the heap at the expression's start -/
noncomputable def RV (K : PySem.W.Frag) (H0 H : Hp) (O : List Addr) (r : EV) (v : V) : Prop := match r.k with
  | .val => Rep K H O r.d v
  | .own => ∃ a, v = .ref a ∧ a ∈ O ∧ Con K H O r.d a
  | .fre => ∃ a, v = .ref a ∧ H0 a = none ∧ a ∉ O ∧ Con K H (a :: O) r.d a
  | .new => RepN K H (fun a => a ∉ O ∧ H0 a = none) r.d v
section
variable {K : PySem.W.Frag} {H0 H1 H H' : Hp} {O : List Addr} {r : EV} {v : V}
theorem RV.val {d : D} (h : Rep K H O d v) : RV K H0 H O (dv d) v := h
theorem RV.same (h : RV K H0 H O r v) (s : Same H H') : RV K H0 H' O r v := by
  obtain ⟨k, d⟩ := r
  cases k with
  | val => exact Rep.grow (Grow.same s) _ _ h
  | own => obtain ⟨a, e, m, c⟩ := h; exact ⟨a, e, m, c.same s⟩
  | fre => obtain ⟨a, e, m, n, c⟩ := h; exact ⟨a, e, m, n, c.same s⟩
  | new => exact RepN.to s (fun _ z => z) _ _ h
theorem RV.start (h : RV K H0 H O r v) (s : Same H1 H0) : RV K H1 H O r v := by
  obtain ⟨k, d⟩ := r
  cases k with
  | val => exact h
  | own => exact h
  | fre => obtain ⟨a, e, m, n, c⟩ := h; exact ⟨a, e, s.free m, n, c⟩
  | new => exact RepN.to (Same.refl H) (fun a z => ⟨z.1, s.free z.2⟩) _ _ h
theorem RV.view (h : RV K H0 H O r v) : View K H O r.d v := by
  obtain ⟨k, d⟩ := r
  cases k with
  | val => exact Rep.view h
  | own => obtain ⟨a, e, m, c⟩ := h; subst e; exact c.view
  | fre => obtain ⟨a, e, m, n, c⟩ := h; subst e; exact (c.sub fun b hb => List.mem_cons_of_mem _ hb).view
  | new => exact (RepN.rep (fun a z => z.1) _ _ h).view
theorem RV.solid (h : RV K H0 H O r v) (hk : r.k ≠ .own) : Rep K H O r.d v := by
  obtain ⟨k, d⟩ := r
  cases k with
  | val => exact h
  | own => exact absurd rfl hk
  | fre => obtain ⟨a, e, m, n, c⟩ := h; subst e; exact (c.sub fun b hb => List.mem_cons_of_mem _ hb).rep n
  | new => exact RepN.rep (fun a z => z.1) _ _ h
end

/-- the frame: own lists and dicts by slot and place -/
structure REnv (K : PySem.W.Frag) (H₀ H : Hp) (σ : St) (ρ : DE) (o : List (Nat × Addr)) : Prop where
  same : Same H₀ H
  fresh : ∀ p ∈ o, H₀ p.2 = none
  trk : ∀ p ∈ o, ∃ u, H p.2 = some u
  mtb : ∀ p ∈ o, (∀ xs, H p.2 ≠ some (.tup xs)) ∧ ∀ ob u, H p.2 ≠ some (.frz ob u)
  nda : (o.map Prod.snd).Nodup
  slots : ∀ i r, ρ[i]? = some (some r) → ∃ v, σ[i]? = some (some v) ∧ ((r.k = .val ∧ Rep K H (o.map Prod.snd) r.d v) ∨ (r.k = .own ∧ ∃ a, v = .ref a ∧ (i, a) ∈ o ∧ Con K H (o.map Prod.snd) r.d a))
  len : σ.length = ρ.length
section
variable {K : PySem.W.Frag} {H₀ H H' : Hp} {σ : St} {ρ : DE} {o : List (Nat × Addr)}
theorem REnv.to (R : REnv K H₀ H σ ρ o) (s : Same H H') : REnv K H₀ H' σ ρ o where
  same := R.same.trans s
  fresh := R.fresh
  trk := fun p hp => let ⟨u, e⟩ := R.trk p hp; ⟨u, s _ _ e⟩
  mtb := fun p hp => by
    obtain ⟨u, e⟩ := R.trk p hp
    obtain ⟨m1, m2⟩ := R.mtb p hp
    refine ⟨fun xs z => ?_, fun ob w z => ?_⟩
    · rw [s _ _ e] at z; rw [← e] at z; exact m1 xs z
    · rw [s _ _ e] at z; rw [← e] at z; exact m2 ob w z
  nda := R.nda
  slots := fun i r e => by
    obtain ⟨v, ev, h⟩ := R.slots i r e
    refine ⟨v, ev, ?_⟩
    rcases h with ⟨k, h⟩ | ⟨k, a, e1, m, c⟩
    · exact .inl ⟨k, Rep.grow (Grow.same s) _ _ h⟩
    · exact .inr ⟨k, a, e1, m, c.same s⟩
  len := R.len
theorem REnv.ofree (R : REnv K H₀ H σ ρ o) {a : Addr} (h : H a = none) : a ∉ o.map Prod.snd := fun z => by
  obtain ⟨p, hp, e⟩ := List.mem_map.mp z
  obtain ⟨u, q⟩ := R.trk p hp
  rw [e, h] at q
  cases q
end

noncomputable abbrev TD := DE → (EV → Prop) → Prop
noncomputable abbrev TDb := DE → (Bool → Prop) → Prop
noncomputable abbrev TDs := DE → (List EV → Prop) → Prop
structure DZ where
  nx : DE → Prop
  rt : EV → Prop
  bk : DE → Prop := fun _ => False
  ct : DE → Prop := fun _ => False
noncomputable abbrev TDS := DE → DZ → Prop
noncomputable def RVs (K : PySem.W.Frag) (H0 H : Hp) (O : List Addr) : List EV → List V → Prop
  | [], vs => vs = []
  | r :: rs, vs => ∃ v ws, vs = v :: ws ∧ RV K H0 H O r v ∧ RVs K H0 H O rs ws
theorem RVs.same {K : PySem.W.Frag} {H0 H H' : Hp} {O : List Addr} (s : Same H H') : ∀ {rs : List EV} {vs : List V}, RVs K H0 H O rs vs → RVs K H0 H' O rs vs
  | [], _, h => h
  | r :: rs, vs, h => by
    obtain ⟨v, ws, e, q, t⟩ := h
    exact ⟨v, ws, e, q.same s, t.same s⟩
theorem RVs.start {K : PySem.W.Frag} {H0 H1 H : Hp} {O : List Addr} (s : Same H1 H0) : ∀ {rs : List EV} {vs : List V}, RVs K H0 H O rs vs → RVs K H1 H O rs vs
  | [], _, h => h
  | r :: rs, vs, h => by
    obtain ⟨v, ws, e, q, t⟩ := h
    exact ⟨v, ws, e, q.start s, t.start s⟩
theorem RVs.reps {K : PySem.W.Frag} {H0 H : Hp} {O : List Addr} : ∀ {rs : List EV} {vs : List V}, RVs K H0 H O rs vs → (∀ r ∈ rs, r.k ≠ .own) → Reps K H O (rs.map EV.d) vs
  | [], _, h, _ => h
  | r :: rs, vs, h, n => by
    obtain ⟨v, ws, e, q, t⟩ := h
    exact ⟨v, ws, e, q.solid (n r (List.mem_cons_self ..)), t.reps fun r' h' => n r' (List.mem_cons_of_mem _ h')⟩
theorem RVs.reps0 {K : PySem.W.Frag} {H0 H : Hp} {O : List Addr} : ∀ {rs : List EV} {vs : List V}, RVs K H0 H O rs vs → Reps K H [] (rs.map EV.d) vs
  | [], _, h => h
  | r :: rs, vs, h => by
    obtain ⟨v, ws, e, q, t⟩ := h
    exact ⟨v, ws, e, q.view.rep0, t.reps0⟩

noncomputable def liftE (K : PySem.W.Frag) (H₀ : Hp) (t : TD) : TE := fun σ H Q => ∃ ρ o, REnv K H₀ H σ ρ o ∧ ∃ φ, t ρ φ ∧ ∀ v r H', Same H H' → RV K H H' (o.map Prod.snd) r v → φ r → Q v H'
noncomputable def liftT (K : PySem.W.Frag) (H₀ : Hp) (t : TDb) : TT := fun σ H Q => ∃ ρ o, REnv K H₀ H σ ρ o ∧ ∃ φ, t ρ φ ∧ ∀ b H', Same H H' → φ b → Q b H'
noncomputable def liftA (K : PySem.W.Frag) (H₀ : Hp) (t : TDs) : TA := fun σ H Q => ∃ ρ o, REnv K H₀ H σ ρ o ∧ ∃ φ, t ρ φ ∧ ∀ vs rs H', Same H H' → RVs K H H' (o.map Prod.snd) rs vs → φ rs → Q vs H'
noncomputable def liftS (K : PySem.W.Frag) (H₀ : Hp) (t : TDS) : TS := fun D σ H => ∃ ρ o, REnv K H₀ H σ ρ o ∧ ∃ Z, t ρ Z ∧
  (∀ ρ' σ' H' o', Grow (o.map Prod.snd) (o'.map Prod.snd) H H' → REnv K H₀ H' σ' ρ' o' → Z.nx ρ' → D.nx σ' H') ∧
  (∀ ρ' σ' H' o', Grow (o.map Prod.snd) (o'.map Prod.snd) H H' → REnv K H₀ H' σ' ρ' o' → Z.bk ρ' → D.bk σ' H') ∧
  (∀ ρ' σ' H' o', Grow (o.map Prod.snd) (o'.map Prod.snd) H H' → REnv K H₀ H' σ' ρ' o' → Z.ct ρ' → D.ct σ' H') ∧
  (∀ v r H', Same H₀ H' → RV K H₀ H' [] r v → Z.rt r → D.rt v H')
noncomputable def ED (G : Hp → Prop) (X : Cx) (e : Expr) (t : TD) : Prop := ∀ H₀ : {H : Hp // G H}, PE X e (liftE X.K H₀.1 t)
noncomputable def ET (G : Hp → Prop) (X : Cx) (e : Expr) (t : TDb) : Prop := ∀ H₀ : {H : Hp // G H}, PT X e (liftT X.K H₀.1 t)
noncomputable def EW (G : Hp → Prop) (X : Cx) (e : Expr) (t : TDb) : Prop := ∀ H₀ : {H : Hp // G H}, PW X e (liftT X.K H₀.1 t)
noncomputable def EA (G : Hp → Prop) (X : Cx) (es : List Expr) (t : TDs) : Prop := ∀ H₀ : {H : Hp // G H}, PA X es (liftA X.K H₀.1 t)
noncomputable def SD (G : Hp → Prop) (X : Cx) (st : Stmt) (t : TDS) : Prop := ∀ H₀ : {H : Hp // G H}, PS X st (liftS X.K H₀.1 t)
noncomputable def SDs (G : Hp → Prop) (X : Cx) (st : List Stmt) (t : TDS) : Prop := ∀ H₀ : {H : Hp // G H}, PSs X st (liftS X.K H₀.1 t)
theorem impE {X : Cx} {e : Expr} {t t' : TE} (h : PE X e t) (i : ∀ σ H Q, t' σ H Q → t σ H Q) : PE X e t' := fun pins s σ H Q I q => h pins s σ H Q I (i σ H Q q)
theorem impT {X : Cx} {e : Expr} {t t' : TT} (h : PT X e t) (i : ∀ σ H Q, t' σ H Q → t σ H Q) : PT X e t' := fun pins s σ H Q I q => h pins s σ H Q I (i σ H Q q)
theorem impW {X : Cx} {e : Expr} {t t' : TT} (h : PW X e t) (i : ∀ σ H Q, t' σ H Q → t σ H Q) : PW X e t' := fun wh pins s σ H Q I q => h wh pins s σ H Q I (i σ H Q q)
theorem impA {X : Cx} {es : List Expr} {t t' : TA} (h : PA X es t) (i : ∀ σ H Q, t' σ H Q → t σ H Q) : PA X es t' := fun pos pins s σ H Q I q => h pos pins s σ H Q I (i σ H Q q)
theorem impS {X : Cx} {st : Stmt} {t t' : TS} (h : PS X st t) (i : ∀ D σ H, t' D σ H → t D σ H) : PS X st t' := fun pins s σ H D I q => h pins s σ H D I (i D σ H q)
theorem impSs {X : Cx} {st : List Stmt} {t t' : TS} (h : PSs X st t) (i : ∀ D σ H, t' D σ H → t D σ H) : PSs X st t' := fun pins s σ H D I q => h pins s σ H D I (i D σ H q)
end DL

set_option Elab.async false
set_option linter.all false
set_option maxRecDepth 100000
set_option maxHeartbeats 4000000
namespace DL
open PySem PySem.Spec L2 L3
open PyProof.Rows hiding St
variable {Γ : Hp → Prop}

noncomputable def slot : DE → Nat → Option EV
  | [], _ => none
  | x :: _, 0 => x
  | _ :: r, i + 1 => slot r i
theorem slot_eq : ∀ {ρ : DE} {i : Nat} {r : EV}, slot ρ i = some r → ρ[i]? = some (some r)
  | [], _, _, h => by cases h
  | x :: _, 0, _, h => by cases h; rfl
  | _ :: l, i + 1, r, h => by rw [List.getElem?_cons_succ]; exact slot_eq (ρ := l) h
noncomputable def dName (i : Nat) : TD := fun ρ φ => match slot ρ i with
  | some r => φ r
  | none => False
noncomputable def dC (d : D) : TD := fun _ φ => φ (dv d)
section
variable {X : Cx} {a b c e : Expr} {ta tb tc te : TD} {pos : Pos}
theorem ed_name (i : Nat) {x : Str} (hN : X.N[i]? = some x := by rfl) (hv : Vis X.env.scope x := by first | exact Or.inl rfl | exact Or.inr (Or.inl rfl) | exact Or.inr (Or.inr rfl)) (hd : (x == ("__debug__" : Str)) = false := by decide)
    (hcd : (x == ("__classdict__" : Str)) = false := by decide) : ED Γ X (.Name x pos) (dName i) := fun H₀ => impE (pe_var hN hv hd hcd) fun σ H Q h => by
  obtain ⟨ρ, o, R, φ, hφ, k⟩ := h
  cases e : slot ρ i with
  | none =>
    simp only [dName, e] at hφ
  | some r =>
    simp only [dName, e] at hφ
    obtain ⟨v, ev, h⟩ := R.slots i r (slot_eq e)
    refine ⟨v, ev, k v r H (Same.refl H) ?_ hφ⟩
    obtain ⟨kd, d⟩ := r
    rcases h with ⟨rfl, h⟩ | ⟨rfl, a, e1, m, c⟩
    · exact h
    · exact ⟨a, e1, List.mem_map.mpr ⟨_, m, rfl⟩, c⟩
theorem ed_c {x : Expr} {v : V} {d : D} (h : PE X x (tC v)) (hr : ∀ H O, Rep X.K H O d v) : ED Γ X x (dC d) := fun H₀ => impE h fun σ H Q h => by
  obtain ⟨ρ, o, R, φ, hφ, k⟩ := h
  exact k v (dv d) H (Same.refl H) (hr H _) hφ
theorem ed_int {i : Int} {j pos} : ED Γ X (.Constant (.int i) j pos) (dC (.int i)) := ed_c pe_int fun _ _ => rfl
theorem ed_bl {b : Bool} {j pos} : ED Γ X (.Constant (.bool b) j pos) (dC (.bl b)) := ed_c pe_bl fun _ _ => rfl
theorem ed_non {j pos} : ED Γ X (.Constant .none j pos) (dC .non) := ed_c pe_non fun _ _ => rfl
theorem ed_str {x : Str} {j pos} : ED Γ X (.Constant (.str x) j pos) (dC (.str x)) := ed_c pe_str fun _ _ => rfl
theorem ed_ty {x : Str} {n : String} (hm : X.mg x = none) (hv : bootBuiltins x = some (.type n)) (hg : Gl X x := by rfl) (hn : x ≠ "__name__" := by decide) (hd : (x == ("__debug__" : Str)) = false := by decide) : ED Γ X (.Name x pos) (dC (.ty n)) :=
  ed_c (pe_bltn hg hm hv (v := .ty n) rfl hn hd) fun _ _ => rfl

noncomputable def Link2 (K : PySem.W.Frag) (rr : R2) (s : D → D → (EV → Prop) → Prop) : Prop :=
  ∀ (H : Hp) (O : List Addr) (x y : D) (vx vy : V) (φ : EV → Prop) (Q : VK), (∀ a, H a = none → a ∉ O) → View K H O x vx → View K H O y vy → s x y φ →
    (∀ v r H', Same H H' → RV K H H' O r v → φ r → Q v H') → rr vx vy H Q
noncomputable def d2 (s : D → D → (EV → Prop) → Prop) (ta tb : TD) : TD := fun ρ φ => ta ρ fun x => tb ρ fun y => s x.d y.d φ
theorem lift2 {rr : R2} {s : D → D → (EV → Prop) → Prop} {H₀ : Hp} (hl : Link2 X.K rr s) : ∀ σ H Q, liftE X.K H₀ (d2 s ta tb) σ H Q → tOp rr (liftE X.K H₀ ta) (liftE X.K H₀ tb) σ H Q := fun σ H Q h => by
  obtain ⟨ρ, o, R, φ, hφ, k⟩ := h
  refine ⟨ρ, o, R, _, hφ, fun v1 r1 H1 s1 rv1 h1 => ⟨ρ, o, R.to s1, _, h1, fun v2 r2 H2 s2 rv2 h2 => ?_⟩⟩
  exact hl H2 _ r1.d r2.d v1 v2 φ Q (fun a e => R.ofree ((s1.trans s2).free e)) (rv1.same s2).view rv2.view h2 fun v r H' s3 rv h => k v r H' (s1.trans (s2.trans s3)) (rv.start (s1.trans s2)) h
theorem ed_bin {op : Operator} {rr : R2} {s : D → D → (EV → Prop) → Prop} (ho : OpR X (binaryOp op) rr) (hl : Link2 X.K rr s) (ha : ED Γ X a ta) (hb : ED Γ X b tb) : ED Γ X (.BinOp a op b pos) (d2 s ta tb) := fun H₀ =>
  impE (pe_op ho (ha H₀) (hb H₀)) (lift2 hl)
theorem ed_cmp {op : CmpOp} {rr : R2} {s : D → D → (EV → Prop) → Prop} (ho : OpR X (compareOp op) rr) (hl : Link2 X.K rr s) (ha : ED Γ X a ta) (hb : ED Γ X b tb) (hm : behindInMarks op b = false) : ED Γ X (.Compare a [op] [b] pos) (d2 s ta tb) := fun H₀ =>
  impE (pe_cmpR ho (ha H₀) (hb H₀) hm) (lift2 hl)

theorem op_mulG : OpR X (binaryOp .Mult) (rI IntMulOk fun i j => .int (i * j)) := opI fun _ _ _ _ _ _ _ hc q => PyProof.Rows.mul_int q hc
noncomputable def FdOk (i j : Int) : Prop := j ≠ 0 ∧ j.natAbs.log2 < 9000
theorem op_fdivG : OpR X (binaryOp .FloorDiv) (rI FdOk fun i j => .int (i.fdiv j)) := opI fun _ _ _ _ _ _ _ hc q => floordiv_int hc.1 q (.inl (PyProof.noPylong_of_log2 hc.2))
noncomputable def sI (C : Int → Int → Prop) (g : Int → Int → D) : D → D → (EV → Prop) → Prop := fun x y φ => match x, y with
  | .int i, .int j => C i j ∧ φ (dv (g i j))
  | _, _ => False
theorem link_I {K : PySem.W.Frag} {C : Int → Int → Prop} {g : Int → Int → D} {gv : Int → Int → V} (hg : ∀ i j H O, Rep K H O (g i j) (gv i j)) : Link2 K (rI C gv) (sI C g) := by
  intro H O x y vx vy φ Q ho hx hy h k
  unfold sI at h
  split at h
  · exact ⟨_, _, hx, hy, h.1, k _ _ H (Same.refl H) (by exact hg _ _ H O) h.2⟩
  · exact h.elim
noncomputable def sI0 (g : Int → Int → D) : D → D → (EV → Prop) → Prop := fun x y φ => match x, y with
  | .int i, .int j => φ (dv (g i j))
  | _, _ => False
theorem link_I0 {K : PySem.W.Frag} {g : Int → Int → D} {gv : Int → Int → V} (hg : ∀ i j H O, Rep K H O (g i j) (gv i j)) : Link2 K (rI0 gv) (sI0 g) := by
  intro H O x y vx vy φ Q ho hx hy h k
  unfold sI0 at h
  split at h
  · exact ⟨_, _, hx, hy, k _ _ H (Same.refl H) (by exact hg _ _ H O) h⟩
  · exact h.elim
noncomputable abbrev sSub := sI0 fun i j => .int (i - j)
noncomputable abbrev sFd := sI FdOk fun i j => .int (i.fdiv j)
noncomputable abbrev sMod := sI (fun _ j => j ≠ 0) fun i j => .int (i.fmod j)
noncomputable abbrev sPow := sI CPow fun i j => .int (i ^ j.toNat)
noncomputable abbrev sLt := sI0 fun i j => .bl (decide (i < j))
noncomputable abbrev sGt := sI0 fun i j => .bl (decide (j < i))
theorem ed_sub (ha : ED Γ X a ta) (hb : ED Γ X b tb) : ED Γ X (.BinOp a .Sub b pos) (d2 sSub ta tb) := ed_bin op_sub (link_I0 fun _ _ _ _ => rfl) ha hb
theorem ed_fd (ha : ED Γ X a ta) (hb : ED Γ X b tb) : ED Γ X (.BinOp a .FloorDiv b pos) (d2 sFd ta tb) := ed_bin op_fdivG (link_I fun _ _ _ _ => rfl) ha hb
theorem ed_mod (ha : ED Γ X a ta) (hb : ED Γ X b tb) : ED Γ X (.BinOp a .Mod b pos) (d2 sMod ta tb) := ed_bin op_modN (link_I fun _ _ _ _ => rfl) ha hb
theorem ed_pow (ha : ED Γ X a ta) (hb : ED Γ X b tb) : ED Γ X (.BinOp a .Pow b pos) (d2 sPow ta tb) := ed_bin op_pow (link_I fun _ _ _ _ => rfl) ha hb
noncomputable def sAdd : D → D → (EV → Prop) → Prop := fun x y φ => match x, y with
  | .int i, .int j => φ (dv (.int (i + j)))
  | .str p, .str q => p.length + q.length ≤ sizeLine ∧ φ (dv (.str (p ++ q)))
  | .lst p, .lst q => p.length + q.length ≤ sizeLine ∧ φ (df (.lst (p ++ q)))
  | .tup p, .tup q => p ≠ [] ∧ q ≠ [] ∧ p.length + q.length ≤ sizeLine ∧ φ (dv (.tup (p ++ q)))
  | _, _ => False
theorem same_new {H : Hp} {p : Addr} (h : H p = none) (o : HO) : Same H (upd H p o) := fun b u q => by rw [upd_ne (ne_of_none q h)]; exact q
theorem reps_new {K : PySem.W.Frag} {H : Hp} {O : List Addr} {p : Addr} {o : HO} {ds : List D} {xs : List V} (hp : H p = none) (r : Reps K H O ds xs) : Reps K (upd H p o) O ds xs := Reps.grow (Grow.same (same_new hp o)) _ _ r
theorem grow_new {H : Hp} {O : List Addr} {p : Addr} {o : HO} (hp : H p = none) : Grow O (p :: O) H (upd H p o) :=
  ⟨fun b u h n => ⟨same_new hp o b u h, fun z => (List.mem_cons.mp z).elim (fun e => ne_of_none h hp e) n⟩, fun b xs h => same_new hp o b _ h, fun b ob u h => same_new hp o b _ h⟩
theorem rv_lst {K : PySem.W.Frag} {H : Hp} {O : List Addr} {p : Addr} {ds : List D} {xs : List V} (ho : ∀ a, H a = none → a ∉ O) (hp : H p = none) (r : Reps K H O ds xs) : RV K H (upd H p (.lst xs)) O (df (.lst ds)) (.ref p) :=
  ⟨p, rfl, hp, ho p hp, xs, upd_same, Reps.grow (grow_new hp) _ _ r⟩
theorem rv_tup {K : PySem.W.Frag} {H : Hp} {O : List Addr} {p : Addr} {ds : List D} {xs : List V} (hp : H p = none) (r : Reps K H O ds xs) : RV K H (upd H p (.tup xs)) O (dv (.tup ds)) (.ref p) :=
  ⟨p, xs, rfl, ⟨SqT.of upd_same, upd_same⟩, reps_new hp r⟩
theorem link_add : Link2 X.K (fun x y H Q => rI0 (fun i j => .int (i + j)) x y H Q ∨ (∃ i j, x = .str i ∧ y = .str j ∧ i.length + j.length ≤ sizeLine ∧ Q (.str (i ++ j)) H) ∨ rCat x y H Q ∨ rCatT X.K x y H Q) sAdd := by
  intro H O x y vx vy φ Q ho hx hy h k
  unfold sAdd at h
  split at h
  · exact .inl ⟨_, _, hx, hy, k _ _ H (Same.refl H) (by exact rfl) h⟩
  · exact .inr (.inl ⟨_, _, hx, hy, h.1, k _ _ H (Same.refl H) (by exact rfl) h.2⟩)
  · obtain ⟨a1, xs, rfl, q1, r1⟩ := hx
    obtain ⟨a2, ys, rfl, q2, r2⟩ := hy
    refine .inr (.inr (.inl ⟨a1, a2, xs, ys, rfl, rfl, q1, q2, by rw [r1.length, r2.length]; exact h.1, fun p hp => ?_⟩))
    exact k _ _ _ (same_new hp _) (rv_lst ho hp (r1.append r2)) h.2
  · obtain ⟨n1, n2, hz, hp⟩ := h
    obtain ⟨a1, xs, rfl, q1, r1⟩ := hx
    obtain ⟨a2, ys, rfl, q2, r2⟩ := hy
    refine .inr (.inr (.inr ⟨a1, a2, xs, ys, rfl, rfl, q1.1, q2.1, ?_, by rw [r1.length, r2.length]; exact hz, fun z => ?_, fun _ p hpn => ?_⟩))
    · intro z
      have e := r1.length
      rw [z] at e
      exact n1 (List.eq_nil_of_length_eq_zero e.symm)
    · exfalso
      have e := r2.length
      rw [z] at e
      exact n2 (List.eq_nil_of_length_eq_zero e.symm)
    · exact k _ _ _ (same_new hpn _) (rv_tup hpn (r1.append r2)) hp
  · exact h.elim
theorem ed_add (ha : ED Γ X a ta) (hb : ED Γ X b tb) : ED Γ X (.BinOp a .Add b pos) (d2 sAdd ta tb) := ed_bin (op_add.or (op_add_str.or (op_cat.or op_catT))) link_add ha hb
noncomputable def sMul : D → D → (EV → Prop) → Prop := fun x y φ => match x, y with
  | .int i, .int j => IntMulOk i j ∧ φ (dv (.int (i * j)))
  | .lst p, .int k => -(2 ^ 63) ≤ k ∧ k < 2 ^ 63 ∧ p.length * k.toNat ≤ sizeLine ∧ φ (df (.lst (List.replicate k.toNat p).flatten))
  | _, _ => False
end
end DL

set_option Elab.async false
set_option linter.all false
set_option maxRecDepth 100000
set_option maxHeartbeats 4000000
namespace DL
open PySem PySem.Spec L2 L3
open PyProof.Rows hiding St
variable {Γ : Hp → Prop}

mutual
noncomputable def eqD : D → D → Bool
  | .non, .non => true
  | .bl a, .bl b => a == b
  | .bl a, .int b => (if a then 1 else 0) == b
  | .int a, .bl b => a == (if b then 1 else 0)
  | .int a, .int b => a == b
  | .str a, .str b => a == b
  | .tup a, .tup b => eqDs a b
  | .lst a, .lst b => eqDs a b
  | _, _ => false
noncomputable def eqDs : List D → List D → Bool
  | [], [] => true
  | a :: as, b :: bs => eqD a b && eqDs as bs
  | _, _ => false
end
noncomputable def okD : Nat → D → Prop
  | 0, d => match d with
    | .non => True
    | .bl _ => True
    | .int _ => True
    | .str _ => True
    | _ => False
  | n + 1, d => match d with
    | .non => True
    | .bl _ => True
    | .int _ => True
    | .str _ => True
    | .tup ds => ∀ x ∈ ds, okD n x
    | .lst ds => ∀ x ∈ ds, okD n x
    | _ => False
theorem eqDs_true : ∀ {ds es : List D}, eqDs ds es = true ↔ ds.length = es.length ∧ ∀ (j : Nat) (x y : D), ds[j]? = some x → es[j]? = some y → eqD x y = true
  | [], [] => by simp [eqDs]
  | [], y :: es => by simp [eqDs]
  | x :: ds, [] => by simp [eqDs]
  | x :: ds, y :: es => by
    rw [eqDs, Bool.and_eq_true, eqDs_true]
    constructor
    · rintro ⟨h, hl, q⟩
      refine ⟨by simp [hl], fun j a b ha hb => ?_⟩
      cases j with
      | zero => simp at ha hb; subst ha hb; exact h
      | succ j => exact q j a b (by simpa using ha) (by simpa using hb)
    · rintro ⟨hl, q⟩
      exact ⟨q 0 x y rfl rfl, by simpa using hl, fun j a b ha hb => q (j + 1) a b (by simpa using ha) (by simpa using hb)⟩
theorem eqDs_range (ds es : List D) : eqDs ds es = ((List.range (min ds.length es.length)).all (fun j => eqD (ds.getD j .non) (es.getD j .non)) && ds.length == es.length) := by
  rw [Bool.eq_iff_iff, eqDs_true, Bool.and_eq_true, List.all_eq_true]
  constructor
  · rintro ⟨hl, q⟩
    refine ⟨fun j hj => ?_, by simp [hl]⟩
    have hj' := List.mem_range.mp hj
    have h1 : j < ds.length := by omega
    have h2 : j < es.length := by omega
    have e1 : ds[j]? = some ds[j] := by simp [h1]
    have e2 : es[j]? = some es[j] := by simp [h2]
    have := q j _ _ e1 e2
    simpa [List.getD, e1, e2] using this
  · rintro ⟨q, hl⟩
    have hl' : ds.length = es.length := by simpa using hl
    refine ⟨hl', fun j x y hx hy => ?_⟩
    have h1 := (List.getElem?_eq_some_iff.mp hx).1
    have := q j (List.mem_range.mpr (by omega))
    simpa [List.getD, hx, hy] using this
theorem eqD_refl : ∀ (n : Nat) (d : D), okD n d → eqD d d = true := by
  intro n
  induction n with
  | zero => intro d h; cases d <;> first | exact h.elim | simp [eqD]
  | succ n ih =>
    intro d h
    cases d with
    | tup ds =>
      show eqDs ds ds = true
      refine eqDs_true.mpr ⟨rfl, fun j x y hx hy => ?_⟩
      rw [hx] at hy
      cases hy
      exact ih x (h x (List.mem_of_getElem? hx))
    | lst ds =>
      show eqDs ds ds = true
      refine eqDs_true.mpr ⟨rfl, fun j x y hx hy => ?_⟩
      rw [hx] at hy
      cases hy
      exact ih x (h x (List.mem_of_getElem? hx))
    | dk _ _ => exact h.elim
    | dt _ _ => exact h.elim
    | ty _ => exact h.elim
    | cn _ => exact h.elim
    | scr _ => exact h.elim
    | exc _ => exact h.elim
    | fd _ => exact h.elim
    | _ => simp [eqD]

section
variable {X : Cx} {pins : List (Addr × Obj)} {σ : St} {H : Hp} {s : Shared}
/-- one value at one place is one thing -/
theorem Rep.inj (I : Inv X pins σ H s) : ∀ (n : Nat) (d e : D) (v : V), okD n d → okD n e → Rep X.K H [] d v → Rep X.K H [] e v → d = e := by
  intro n
  induction n with
  | zero =>
    intro d e v hd he h1 h2
    cases d <;> first | exact hd.elim | (cases e <;> first | exact he.elim | (have z := (show v = _ from h1).symm.trans (show v = _ from h2); first | rfl | (injection z with z; rw [z]) | cases z))
  | succ n ih =>
    have lists : ∀ (ds es : List D) (xs : List V), (∀ x ∈ ds, okD n x) → (∀ x ∈ es, okD n x) → Reps X.K H [] ds xs → Reps X.K H [] es xs → ds = es := by
      intro ds
      induction ds with
      | nil =>
        intro es xs _ _ r1 r2
        have := r1.length
        have h2 := r2.length
        rw [this] at h2
        exact (List.eq_nil_of_length_eq_zero h2.symm).symm
      | cons d ds ih2 =>
        intro es xs h1 h2 r1 r2
        obtain ⟨v, r, rfl, q, t⟩ := r1
        cases es with
        | nil => cases r2
        | cons e es =>
          obtain ⟨v', r', e1, q', t'⟩ := r2
          cases e1
          rw [ih d e v (h1 d (List.mem_cons_self ..)) (h2 e (List.mem_cons_self ..)) q q', ih2 es r (fun x hx => h1 x (List.mem_cons_of_mem _ hx)) (fun x hx => h2 x (List.mem_cons_of_mem _ hx)) t t']
    intro d e v hd he h1 h2
    have noTL : ∀ (a : Addr) (xs ys : List V), SqT X.K H a xs → H a = some (.lst ys) → False := fun a xs ys q1 q2 => by
      obtain ⟨its, _, p1, _⟩ := I.tuple q1
      obtain ⟨its2, _, p2, _⟩ := I.list (SqL.of q2)
      exact SeqAt.ne_of_list_tuple p2.isList (show s.heap.IsTuple a its.toArray from p1) rfl
    cases d with
    | tup ds =>
      obtain ⟨a, xs, rfl, q1, r1⟩ := h1
      cases e with
      | tup es =>
        obtain ⟨a', ys, e1, q2, r2⟩ := h2
        cases e1
        have := I.tuple_inj q1.1 q2.1
        subst this
        rw [lists ds es xs hd he r1 r2]
      | lst es =>
        obtain ⟨a', ys, e1, q2, _, r2⟩ := h2
        cases e1
        exact (noTL _ _ _ q1.1 q2).elim
      | dk _ _ => exact he.elim
      | dt _ _ => exact he.elim
      | scr _ => exact he.elim
      | exc _ => exact he.elim
      | fd _ => exact he.elim
      | ty _ => exact he.elim
      | cn _ => exact he.elim
      | _ => cases (show V.ref a = _ from h2)
    | lst ds =>
      obtain ⟨a, xs, rfl, q1, _, r1⟩ := h1
      cases e with
      | tup es =>
        obtain ⟨a', ys, e1, q2, r2⟩ := h2
        cases e1
        exact (noTL _ _ _ q2.1 q1).elim
      | lst es =>
        obtain ⟨a', ys, e1, q2, _, r2⟩ := h2
        cases e1
        have := I.list_inj (SqL.of q1) (SqL.of q2)
        subst this
        rw [lists ds es xs hd he r1 r2]
      | dk _ _ => exact he.elim
      | dt _ _ => exact he.elim
      | scr _ => exact he.elim
      | exc _ => exact he.elim
      | fd _ => exact he.elim
      | ty _ => exact he.elim
      | cn _ => exact he.elim
      | _ => cases (show V.ref a = _ from h2)
    | dk _ _ => exact hd.elim
    | dt _ _ => exact hd.elim
    | scr _ => exact hd.elim
    | exc _ => exact hd.elim
    | fd _ => exact hd.elim
    | ty _ => exact hd.elim
    | cn _ => exact hd.elim
    | non =>
      cases e with
      | tup es => obtain ⟨a', ys, e1, _⟩ := h2; cases (show v = _ from h1); cases e1
      | lst es => obtain ⟨a', ys, e1, _⟩ := h2; cases (show v = _ from h1); cases e1
      | dk _ _ => exact he.elim
      | dt _ _ => exact he.elim
      | scr _ => exact he.elim
      | exc _ => exact he.elim
      | fd _ => exact he.elim
      | ty _ => exact he.elim
      | cn _ => exact he.elim
      | non => rfl
      | _ => cases (show v = _ from h1); cases (show V.non = _ from h2)
    | bl b =>
      cases e with
      | tup es => obtain ⟨a', ys, e1, _⟩ := h2; cases (show v = _ from h1); cases e1
      | lst es => obtain ⟨a', ys, e1, _⟩ := h2; cases (show v = _ from h1); cases e1
      | dk _ _ => exact he.elim
      | dt _ _ => exact he.elim
      | scr _ => exact he.elim
      | exc _ => exact he.elim
      | fd _ => exact he.elim
      | ty _ => exact he.elim
      | cn _ => exact he.elim
      | _ => cases (show v = _ from h1); cases (show V.bl b = _ from h2) <;> rfl
    | int b =>
      cases e with
      | tup es => obtain ⟨a', ys, e1, _⟩ := h2; cases (show v = _ from h1); cases e1
      | lst es => obtain ⟨a', ys, e1, _⟩ := h2; cases (show v = _ from h1); cases e1
      | dk _ _ => exact he.elim
      | dt _ _ => exact he.elim
      | scr _ => exact he.elim
      | exc _ => exact he.elim
      | fd _ => exact he.elim
      | ty _ => exact he.elim
      | cn _ => exact he.elim
      | _ => cases (show v = _ from h1); cases (show V.int b = _ from h2) <;> rfl
    | str b =>
      cases e with
      | tup es => obtain ⟨a', ys, e1, _⟩ := h2; cases (show v = _ from h1); cases e1
      | lst es => obtain ⟨a', ys, e1, _⟩ := h2; cases (show v = _ from h1); cases e1
      | dk _ _ => exact he.elim
      | dt _ _ => exact he.elim
      | scr _ => exact he.elim
      | exc _ => exact he.elim
      | fd _ => exact he.elim
      | ty _ => exact he.elim
      | cn _ => exact he.elim
      | _ => cases (show v = _ from h1); cases (show V.str b = _ from h2) <;> rfl

/-- a value's look in the heap -/
inductive Sh (K : PySem.W.Frag) (H : Hp) (s : Shared) : D → Value → Prop where
  | non : Sh K H s .non .none
  | bl (b : Bool) : Sh K H s (.bl b) (.bool b)
  | int (i : Int) (t : Tok) : Sh K H s (.int i) (.int i t)
  | str (x : Str) (t : Tok) : Sh K H s (.str x) (.str x t)
  | tup {a : Addr} {ds : List D} {xs : List V} {its : List Value} (p : s.heap.IsTuple a its.toArray) (r : Vals xs its) (q : Reps K H [] ds xs) : Sh K H s (.tup ds) (.ref a)
  | lst {a : Addr} {ds : List D} {xs : List V} {its : List Value} (p : s.heap.IsList a its.toArray) (r : Vals xs its) (q : Reps K H [] ds xs) : Sh K H s (.lst ds) (.ref a)
theorem sh_of (I : Inv X pins σ H s) {n : Nat} {d : D} {x : V} {u : Value} (hd : okD n d) (h : Rep X.K H [] d x) (r : RelV x u) : Sh X.K H s d u := by
  cases d with
  | non => cases (show x = _ from h); cases r; exact .non
  | bl b => cases (show x = _ from h); cases r; exact .bl b
  | int b => cases (show x = _ from h); obtain ⟨t, rfl⟩ := r; exact .int b t
  | str b => cases (show x = _ from h); obtain ⟨t, rfl⟩ := r; exact .str b t
  | ty _ => cases n <;> exact hd.elim
  | cn _ => cases n <;> exact hd.elim
  | dk _ _ => cases n <;> exact hd.elim
  | dt _ _ => cases n <;> exact hd.elim
  | scr _ => cases n <;> exact hd.elim
  | exc _ => cases n <;> exact hd.elim
  | fd _ => cases n <;> exact hd.elim
  | tup ds =>
    obtain ⟨a, xs, rfl, q, t⟩ := h
    cases r
    obtain ⟨its, rv, p, _⟩ := I.tuple q.1
    exact .tup (show s.heap.IsTuple a its.toArray from p) rv t
  | lst ds =>
    obtain ⟨a, xs, rfl, q, _, t⟩ := h
    cases r
    obtain ⟨its, rv, p, _⟩ := I.list (SqL.of q)
    exact .lst p.isList rv t
theorem eq_main (I : Inv X pins σ H s) : ∀ (n : Nat) (d e : D) (x y : V) (u v : Value) (A : Around), okD n d → okD n e → Rep X.K H [] d x → Rep X.K H [] e y → RelV x u → RelV y v → A.units + n < cLine →
    SeqAt.RcAt A s u v (eqD d e) ∧ SeqAt.RcNeAt A s u v (!eqD d e) ∧ SeqAt.EqAt A s u v (eqD d e) := by
  intro n
  induction n with
  | zero =>
    intro d e x y u v A hd he h1 h2 r1 r2 hu
    have hu' : A.units < cLine := by omega
    cases sh_of I hd h1 r1 with
    | tup => exact hd.elim
    | lst => exact hd.elim
    | non =>
      cases sh_of I he h2 r2 with
      | non => exact ⟨SeqAt.RcAt.none_none, SeqAt.RcNeAt.none_none, SeqAt.EqAt.same _⟩
      | bl b => exact ⟨SeqAt.RcAt.none_bool b, SeqAt.RcNeAt.none_bool b, SeqAt.EqAt.none_bool b⟩
      | int i t => exact ⟨SeqAt.RcAt.none_int i t, SeqAt.RcNeAt.none_int i t, SeqAt.EqAt.none_int i t⟩
      | str i t => exact ⟨SeqAt.RcAt.none_str i t, SeqAt.RcNeAt.none_str i t, SeqAt.EqAt.none_str i t⟩
      | tup => exact he.elim
      | lst => exact he.elim
    | bl a =>
      cases sh_of I he h2 r2 with
      | non => exact ⟨SeqAt.RcAt.bool_none a, SeqAt.RcNeAt.bool_none a, SeqAt.EqAt.bool_none a⟩
      | bl b => exact ⟨SeqAt.RcAt.bool_bool a b, SeqAt.RcNeAt.bool_bool a b, SeqAt.EqAt.bool_bool a b⟩
      | int i t => exact ⟨SeqAt.RcAt.bool_int a i t, SeqAt.RcNeAt.bool_int a i t, SeqAt.EqAt.bool_int a i t⟩
      | str i t => exact ⟨SeqAt.RcAt.bool_str a i t, SeqAt.RcNeAt.bool_str a i t, SeqAt.EqAt.bool_str a i t⟩
      | tup => exact he.elim
      | lst => exact he.elim
    | int a t =>
      cases sh_of I he h2 r2 with
      | non => exact ⟨SeqAt.RcAt.int_none a t, SeqAt.RcNeAt.int_none a t, SeqAt.EqAt.int_none a t⟩
      | bl b => exact ⟨SeqAt.RcAt.int_bool a t b, SeqAt.RcNeAt.int_bool a t b, SeqAt.EqAt.int_bool a t b⟩
      | int i t' => exact ⟨SeqAt.RcAt.int_int a t i t', SeqAt.RcNeAt.int_int a t i t', SeqAt.EqAt.int_int a t i t'⟩
      | str i t' => exact ⟨SeqAt.RcAt.int_str a t i t', SeqAt.RcNeAt.int_str a t i t', SeqAt.EqAt.int_str a t i t'⟩
      | tup => exact he.elim
      | lst => exact he.elim
    | str a t =>
      cases sh_of I he h2 r2 with
      | non => exact ⟨SeqAt.RcAt.str_none a t, SeqAt.RcNeAt.str_none a t, SeqAt.EqAt.str_none a t⟩
      | bl b => exact ⟨SeqAt.RcAt.str_bool a t b, SeqAt.RcNeAt.str_bool a t b, SeqAt.EqAt.str_bool a t b⟩
      | int i t' => exact ⟨SeqAt.RcAt.str_int a t i t', SeqAt.RcNeAt.str_int a t i t', SeqAt.EqAt.str_int a t i t'⟩
      | str i t' => exact ⟨SeqAt.RcAt.str_str a t i t', SeqAt.RcNeAt.str_str a t i t', SeqAt.EqAt.str_str a t i t'⟩
      | tup => exact he.elim
      | lst => exact he.elim
  | succ n ih =>
    intro d e x y u v A hd he h1 h2 r1 r2 hu
    have hu' : A.units < cLine := by omega
    have hin : A.in1.units + n < cLine := by
      have : A.in1.units = A.units + 1 := rfl
      omega
    have refs : ∀ {l b : Addr} {k : Bool}, u = .ref l → v = .ref b → k = eqD d e → SeqAt.RcAt A s (.ref l) (.ref b) k → SeqAt.EqAt A s (.ref l) (.ref b) k := fun {l b k} e1 e2 ek h => by
      by_cases hlb : l = b
      · subst hlb
        have hv : x = y := by
          have z1 : x = .ref l := by
            cases x <;> subst e1 <;> first | (have := (show Value.ref l = Value.ref _ from r1); cases this; rfl) | (obtain ⟨t, z⟩ := r1; cases z) | cases r1
          have z2 : y = .ref l := by
            cases y <;> subst e2 <;> first | (have := (show Value.ref l = Value.ref _ from r2); cases this; rfl) | (obtain ⟨t, z⟩ := r2; cases z) | cases r2
          rw [z1, z2]
        subst hv
        have hde := Rep.inj I (n + 1) d e x hd he h1 h2
        subst hde
        rw [ek, eqD_refl (n + 1) d hd]
        exact SeqAt.EqAt.same _
      · exact SeqAt.EqAt.of_refs hlb h
    have items : ∀ {ds es : List D} {xs ys : List V} {its its2 : List Value}, (∀ z ∈ ds, okD n z) → (∀ z ∈ es, okD n z) → Reps X.K H [] ds xs → Reps X.K H [] es ys → Vals xs its → Vals ys its2 →
        ∀ j (h1 : j < its.toArray.size) (h2 : j < its2.toArray.size), SeqAt.EqAt A.in1 s its.toArray[j] its2.toArray[j] (eqD (ds.getD j .non) (es.getD j .non)) := fun {ds es xs ys its its2} o1 o2 q1 q2 w1 w2 j h1 h2 => by
      have l1 := w1.length
      have l2 := w2.length
      have k1 := q1.length
      have k2 := q2.length
      have g1 : j < ds.length := by simp at h1; omega
      have g2 : j < es.length := by simp at h2; omega
      have e1 : ds[j]? = some ds[j] := by simp [g1]
      have e2 : es[j]? = some es[j] := by simp [g2]
      obtain ⟨x', ex, rx⟩ := q1.get e1
      obtain ⟨y', ey, ry⟩ := q2.get e2
      obtain ⟨u', eu, ru⟩ := w1.get ex
      obtain ⟨v', ev, rv⟩ := w2.get ey
      have f1 : its.toArray[j] = u' := by
        have := (List.getElem?_eq_some_iff.mp eu).2
        simpa using this
      have f2 : its2.toArray[j] = v' := by
        have := (List.getElem?_eq_some_iff.mp ev).2
        simpa using this
      rw [f1, f2, show ds.getD j .non = ds[j] by simp [List.getD, e1], show es.getD j .non = es[j] by simp [List.getD, e2]]
      exact (ih ds[j] es[j] x' y' u' v' A.in1 (o1 _ (List.getElem_mem g1)) (o2 _ (List.getElem_mem g2)) rx ry ru rv hin).2.2
    cases sh_of I hd h1 r1 with
    | non =>
      cases sh_of I he h2 r2 with
      | non => exact ⟨SeqAt.RcAt.none_none, SeqAt.RcNeAt.none_none, SeqAt.EqAt.same _⟩
      | bl b => exact ⟨SeqAt.RcAt.none_bool b, SeqAt.RcNeAt.none_bool b, SeqAt.EqAt.none_bool b⟩
      | int i t => exact ⟨SeqAt.RcAt.none_int i t, SeqAt.RcNeAt.none_int i t, SeqAt.EqAt.none_int i t⟩
      | str i t => exact ⟨SeqAt.RcAt.none_str i t, SeqAt.RcNeAt.none_str i t, SeqAt.EqAt.none_str i t⟩
      | tup p _ _ => exact ⟨SeqAt.RcAt.none_tuple p hu', SeqAt.RcNeAt.none_tuple p hu', SeqAt.EqAt.none_tuple p hu'⟩
      | lst p _ _ => exact ⟨SeqAt.RcAt.none_list p hu', SeqAt.RcNeAt.none_list p hu', SeqAt.EqAt.none_list p hu'⟩
    | bl a =>
      cases sh_of I he h2 r2 with
      | non => exact ⟨SeqAt.RcAt.bool_none a, SeqAt.RcNeAt.bool_none a, SeqAt.EqAt.bool_none a⟩
      | bl b => exact ⟨SeqAt.RcAt.bool_bool a b, SeqAt.RcNeAt.bool_bool a b, SeqAt.EqAt.bool_bool a b⟩
      | int i t => exact ⟨SeqAt.RcAt.bool_int a i t, SeqAt.RcNeAt.bool_int a i t, SeqAt.EqAt.bool_int a i t⟩
      | str i t => exact ⟨SeqAt.RcAt.bool_str a i t, SeqAt.RcNeAt.bool_str a i t, SeqAt.EqAt.bool_str a i t⟩
      | tup p _ _ => exact ⟨SeqAt.RcAt.bool_tuple a p hu', SeqAt.RcNeAt.bool_tuple a p hu', SeqAt.EqAt.bool_tuple a p hu'⟩
      | lst p _ _ => exact ⟨SeqAt.RcAt.bool_list a p hu', SeqAt.RcNeAt.bool_list a p hu', SeqAt.EqAt.bool_list a p hu'⟩
    | int a t =>
      cases sh_of I he h2 r2 with
      | non => exact ⟨SeqAt.RcAt.int_none a t, SeqAt.RcNeAt.int_none a t, SeqAt.EqAt.int_none a t⟩
      | bl b => exact ⟨SeqAt.RcAt.int_bool a t b, SeqAt.RcNeAt.int_bool a t b, SeqAt.EqAt.int_bool a t b⟩
      | int i t' => exact ⟨SeqAt.RcAt.int_int a t i t', SeqAt.RcNeAt.int_int a t i t', SeqAt.EqAt.int_int a t i t'⟩
      | str i t' => exact ⟨SeqAt.RcAt.int_str a t i t', SeqAt.RcNeAt.int_str a t i t', SeqAt.EqAt.int_str a t i t'⟩
      | tup p _ _ => exact ⟨SeqAt.RcAt.int_tuple a t p hu', SeqAt.RcNeAt.int_tuple a t p hu', SeqAt.EqAt.int_tuple a t p hu'⟩
      | lst p _ _ => exact ⟨SeqAt.RcAt.int_list a t p hu', SeqAt.RcNeAt.int_list a t p hu', SeqAt.EqAt.int_list a t p hu'⟩
    | str a t =>
      cases sh_of I he h2 r2 with
      | non => exact ⟨SeqAt.RcAt.str_none a t, SeqAt.RcNeAt.str_none a t, SeqAt.EqAt.str_none a t⟩
      | bl b => exact ⟨SeqAt.RcAt.str_bool a t b, SeqAt.RcNeAt.str_bool a t b, SeqAt.EqAt.str_bool a t b⟩
      | int i t' => exact ⟨SeqAt.RcAt.str_int a t i t', SeqAt.RcNeAt.str_int a t i t', SeqAt.EqAt.str_int a t i t'⟩
      | str i t' => exact ⟨SeqAt.RcAt.str_str a t i t', SeqAt.RcNeAt.str_str a t i t', SeqAt.EqAt.str_str a t i t'⟩
      | tup p _ _ => exact ⟨SeqAt.RcAt.str_tuple a t p hu', SeqAt.RcNeAt.str_tuple a t p hu', SeqAt.EqAt.str_tuple a t p hu'⟩
      | lst p _ _ => exact ⟨SeqAt.RcAt.str_list a t p hu', SeqAt.RcNeAt.str_list a t p hu', SeqAt.EqAt.str_list a t p hu'⟩
    | @tup l ds xs its p r q =>
      cases sh_of I he h2 r2 with
      | non => exact ⟨SeqAt.RcAt.tuple_none p hu', SeqAt.RcNeAt.tuple_none p hu', SeqAt.EqAt.tuple_none p hu'⟩
      | bl b => exact ⟨SeqAt.RcAt.tuple_bool b p hu', SeqAt.RcNeAt.tuple_bool b p hu', SeqAt.EqAt.tuple_bool b p hu'⟩
      | int i t => exact ⟨SeqAt.RcAt.tuple_int i t p hu', SeqAt.RcNeAt.tuple_int i t p hu', SeqAt.EqAt.tuple_int i t p hu'⟩
      | str i t => exact ⟨SeqAt.RcAt.tuple_str i t p hu', SeqAt.RcNeAt.tuple_str i t p hu', SeqAt.EqAt.tuple_str i t p hu'⟩
      | lst p2 _ _ => exact ⟨SeqAt.RcAt.tuple_list p p2 hu', SeqAt.RcNeAt.tuple_list p p2 hu', SeqAt.EqAt.tuple_list p p2 hu'⟩
      | @tup b es ys its2 p2 r' q' =>
        have e1 : its.toArray.size = ds.length := by rw [List.size_toArray, ← r.length, q.length]
        have e2 : its2.toArray.size = es.length := by rw [List.size_toArray, ← r'.length, q'.length]
        have ek : eqD (.tup ds) (.tup es) = ((List.range (min its.toArray.size its2.toArray.size)).all (fun j => eqD (ds.getD j .non) (es.getD j .non)) && its.toArray.size == its2.toArray.size) := by
          rw [e1, e2]
          exact eqDs_range ds es
        rw [ek]
        have hrc := SeqAt.RcAt.tuples p p2 hu' (items hd he q q' r r')
        exact ⟨hrc, SeqAt.RcNeAt.tuples p p2 hu' (items hd he q q' r r'), refs rfl rfl ek.symm hrc⟩
    | @lst l ds xs its p r q =>
      cases sh_of I he h2 r2 with
      | non => exact ⟨SeqAt.RcAt.list_none p hu', SeqAt.RcNeAt.list_none p hu', SeqAt.EqAt.list_none p hu'⟩
      | bl b => exact ⟨SeqAt.RcAt.list_bool b p hu', SeqAt.RcNeAt.list_bool b p hu', SeqAt.EqAt.list_bool b p hu'⟩
      | int i t => exact ⟨SeqAt.RcAt.list_int i t p hu', SeqAt.RcNeAt.list_int i t p hu', SeqAt.EqAt.list_int i t p hu'⟩
      | str i t => exact ⟨SeqAt.RcAt.list_str i t p hu', SeqAt.RcNeAt.list_str i t p hu', SeqAt.EqAt.list_str i t p hu'⟩
      | tup p2 _ _ => exact ⟨SeqAt.RcAt.list_tuple p p2 hu', SeqAt.RcNeAt.list_tuple p p2 hu', SeqAt.EqAt.list_tuple p p2 hu'⟩
      | @lst b es ys its2 p2 r' q' =>
        have e1 : its.toArray.size = ds.length := by rw [List.size_toArray, ← r.length, q.length]
        have e2 : its2.toArray.size = es.length := by rw [List.size_toArray, ← r'.length, q'.length]
        by_cases hsz : its.toArray.size = its2.toArray.size
        · have ek : eqD (.lst ds) (.lst es) = (List.range its.toArray.size).all (fun j => eqD (ds.getD j .non) (es.getD j .non)) := by
            show eqDs ds es = _
            rw [eqDs_range, ← e1, ← e2, ← hsz]
            simp
          rw [ek]
          have hrc := SeqAt.RcAt.lists p p2 hsz hu' (items hd he q q' r r')
          exact ⟨hrc, SeqAt.RcNeAt.lists p p2 hsz hu' (items hd he q q' r r'), refs rfl rfl ek.symm hrc⟩
        · have ek : eqD (.lst ds) (.lst es) = false := by
            show eqDs ds es = _
            have hb : (its.toArray.size == its2.toArray.size) = false := beq_eq_false_iff_ne.mpr hsz
            rw [eqDs_range, ← e1, ← e2, hb, Bool.and_false]
          rw [ek]
          have hne : (its.toArray.size != its2.toArray.size) = true := by simpa using hsz
          have hrc := SeqAt.RcAt.lists_lengths p p2 hne hu'
          exact ⟨hrc, SeqAt.RcNeAt.lists_lengths p p2 hne hu', refs rfl rfl ek.symm hrc⟩
end
section
variable {X : Cx} {a b : Expr} {ta tb : TD} {pos : Pos}
noncomputable def rEqD (K : PySem.W.Frag) (neg : Bool) : R2 := fun x y H Q => ∃ d e, Rep K H [] d x ∧ Rep K H [] e y ∧ okD 40 d ∧ okD 40 e ∧ Q (.bl (if neg then !eqD d e else eqD d e)) H
theorem op_eqD (hu : X.A.units + 64 < cLine) : OpR X (compareOp .Eq) (rEqD X.K false) := by
  intro pins s σ H x y v u Q I rx ry h
  obtain ⟨d, e, h1, h2, o1, o2, q⟩ := h
  exact (eq_main I 40 d e x y v u X.A o1 o2 h1 h2 rx ry (by omega)).1 X.prog X.w X.xe _ ⟨.bl _, H, I, rfl, q⟩
theorem op_neD (hu : X.A.units + 64 < cLine) : OpR X (compareOp .NotEq) (rEqD X.K true) := by
  intro pins s σ H x y v u Q I rx ry h
  obtain ⟨d, e, h1, h2, o1, o2, q⟩ := h
  exact (eq_main I 40 d e x y v u X.A o1 o2 h1 h2 rx ry (by omega)).2.1 X.prog X.w X.xe _ ⟨.bl _, H, I, rfl, q⟩
noncomputable def sEq : D → D → (EV → Prop) → Prop := fun x y φ => okD 40 x ∧ okD 40 y ∧ φ (dv (.bl (eqD x y)))
noncomputable def sNe : D → D → (EV → Prop) → Prop := fun x y φ => okD 40 x ∧ okD 40 y ∧ φ (dv (.bl (!eqD x y)))
theorem ed_eq (hu : X.A.units + 64 < cLine) (ha : ED Γ X a ta) (hb : ED Γ X b tb) : ED Γ X (.Compare a [.Eq] [b] pos) (d2 sEq ta tb) :=
  ed_cmp (op_eqD hu) (fun H O x y vx vy φ Q ho hx hy h k => ⟨x, y, hx.rep0, hy.rep0, h.1, h.2.1, k _ _ H (Same.refl H) (by exact rfl) h.2.2⟩) ha hb (nomark _)
theorem ed_ne (hu : X.A.units + 64 < cLine) (ha : ED Γ X a ta) (hb : ED Γ X b tb) : ED Γ X (.Compare a [.NotEq] [b] pos) (d2 sNe ta tb) :=
  ed_cmp (op_neD hu) (fun H O x y vx vy φ Q ho hx hy h k => ⟨x, y, hx.rep0, hy.rep0, h.1, h.2.1, k _ _ H (Same.refl H) (by exact rfl) h.2.2⟩) ha hb (nomark _)
end
end DL

set_option Elab.async false
set_option linter.all false
set_option maxRecDepth 100000
set_option maxHeartbeats 4000000
namespace DL
open PySem PySem.Spec L2 L3
open PyProof.Rows hiding St
variable {Γ : Hp → Prop}
section
variable {X : Cx} {a b c e : Expr} {es : List Expr} {ta tb tc te : TD} {t : TDs} {pos : Pos}

theorem link_mul : Link2 X.K (fun x y H Q => rI IntMulOk (fun i j => .int (i * j)) x y H Q ∨ rRep x y H Q) sMul := by
  intro H O x y vx vy φ Q ho hx hy h k
  unfold sMul at h
  split at h
  · exact .inl ⟨_, _, hx, hy, h.1, k _ _ H (Same.refl H) (by exact rfl) h.2⟩
  · obtain ⟨h1, h2, h3, h4⟩ := h
    obtain ⟨a1, xs, rfl, q1, r1⟩ := hx
    refine .inr ⟨a1, _, xs, rfl, hy, q1, h1, h2, by rw [r1.length]; exact h3, fun p hp => ?_⟩
    exact k _ _ _ (same_new hp _) (rv_lst ho hp (r1.rep _)) h4
  · exact h.elim
theorem ed_mul (ha : ED Γ X a ta) (hb : ED Γ X b tb) : ED Γ X (.BinOp a .Mult b pos) (d2 sMul ta tb) := ed_bin (op_mulG.or op_rep) link_mul ha hb

noncomputable def sNeg : D → (EV → Prop) → Prop := fun x φ => match x with
  | .int i => φ (dv (.int (-i)))
  | _ => False
noncomputable def d1 (s : D → (EV → Prop) → Prop) (ta : TD) : TD := fun ρ φ => ta ρ fun x => s x.d φ
theorem ed_neg (ha : ED Γ X a ta) : ED Γ X (.UnaryOp .USub a pos) (d1 sNeg ta) := fun H₀ => impE (pe_un un_neg (ha H₀)) fun σ H Q h => by
  obtain ⟨ρ, o, R, φ, hφ, k⟩ := h
  refine ⟨ρ, o, R, _, hφ, fun v1 r1 H1 s1 rv1 h1 => ?_⟩
  obtain ⟨kd, d⟩ := r1
  have hv := rv1.view
  cases d with
  | int i => exact ⟨i, hv, k _ _ H1 s1 (by exact rfl) h1⟩
  | _ => exact h1.elim

noncomputable def truD : D → Option Bool
  | .non => some false
  | .bl b => some b
  | .int i => some (i != 0)
  | .str x => if x.length ≤ sizeLine then some ((x.length : Int) != 0) else none
  | .lst ds => some (!ds.isEmpty)
  | .scr ns => some (!ns.isEmpty)
  | .tup ds => some (!ds.isEmpty)
  | .dk _ ds => some (!ds.isEmpty)
  | .dt _ _ => none
  | .ty _ => none
  | .cn _ => none
  | .exc _ => none
  | .fd _ => none
theorem isEmpty_reps {K : PySem.W.Frag} {H : Hp} {O : List Addr} {ds : List D} {xs : List V} (r : Reps K H O ds xs) : xs.isEmpty = ds.isEmpty := by
  have := r.length
  cases xs <;> cases ds <;> simp_all
theorem tru_view {K : PySem.W.Frag} {H : Hp} {O : List Addr} {d : D} {v : V} {b : Bool} (h : View K H O d v) (e : truD d = some b) : TruV K v H b := by
  cases d with
  | non => cases (show v = _ from h); cases e; rfl
  | bl i => cases (show v = _ from h); cases e; rfl
  | int i => cases (show v = _ from h); cases e; rfl
  | str x =>
    cases (show v = _ from h)
    have e' : (if x.length ≤ sizeLine then some ((x.length : Int) != 0) else none) = some b := e
    split at e'
    · rename_i hz
      cases e'
      exact ⟨hz, rfl⟩
    · cases e'
  | ty _ => cases e
  | cn _ => cases e
  | exc _ => cases e
  | fd _ => cases e
  | lst ds =>
    obtain ⟨a, xs, rfl, q, r⟩ := h
    cases e
    exact .inl ⟨xs, SqL.of q, by rw [isEmpty_reps r]⟩
  | scr ns =>
    obtain ⟨a, rfl, q⟩ := h
    cases e
    exact .inl ⟨_, q.seq, by cases ns <;> rfl⟩
  | tup ds =>
    obtain ⟨a, xs, rfl, q, r⟩ := h
    cases e
    exact .inr (.inl ⟨xs, q.1, by rw [isEmpty_reps r]⟩)
  | dk ks ds =>
    obtain ⟨a, xs, rfl, q, l, _, r⟩ := h
    cases e
    refine .inr (.inr ⟨_, q, ?_⟩)
    have := r.length
    cases ks <;> cases ds <;> cases xs <;> simp_all
  | dt ks ds => cases e
noncomputable def tTru (t : TD) : TDb := fun ρ φ => t ρ fun r => match truD r.d with
  | some b => φ b
  | none => False
theorem et_val (h : ED Γ X a ta) (he : ∀ whole, isTrue a X.env whole = (do let v ← whole; standAt a.pos; holding [v] (truthy v)) := by intro _; rfl) : ET Γ X a (tTru ta) := fun H₀ => impT (pt_truth (h H₀) he) fun σ H Q q => by
  obtain ⟨ρ, o, R, φ, hφ, k⟩ := q
  refine ⟨ρ, o, R, _, hφ, fun v1 r1 H1 s1 rv1 h1 => ?_⟩
  cases e : truD r1.d with
  | none => simp only [e] at h1
  | some b =>
    simp only [e] at h1
    exact ⟨b, tru_view rv1.view e, k b H1 s1 h1⟩
noncomputable def tBo (t : TD) : TDb := fun ρ φ => t ρ fun r => match r.d with
  | .bl b => φ b
  | _ => False
theorem et_cmp {op : CmpOp} {rr : R2} {s : D → D → (EV → Prop) → Prop} (ho : OpR X (compareOp op) rr) (hl : Link2 X.K rr s) (ha : ED Γ X a ta) (hb : ED Γ X b tb) (hm : behindInMarks op b = false) : ET Γ X (.Compare a [op] [b] pos) (tBo (d2 s ta tb)) := fun H₀ =>
  impT (pt_cmpR ho (ha H₀) (hb H₀) hm) fun σ H Q h => by
    obtain ⟨ρ, o, R, φ, hφ, k⟩ := h
    refine lift2 (ta := ta) (tb := tb) (H₀ := H₀.1) hl σ H _ ⟨ρ, o, R, _, hφ, fun v r H' s1 rv h1 => ?_⟩
    obtain ⟨kd, d⟩ := r
    cases d with
    | bl b => exact ⟨b, rv.view, k b H' s1 h1⟩
    | _ => exact h1.elim
theorem et_lt (ha : ED Γ X a ta) (hb : ED Γ X b tb) : ET Γ X (.Compare a [.Lt] [b] pos) (tBo (d2 sLt ta tb)) := et_cmp op_lt (link_I0 fun _ _ _ _ => rfl) ha hb (nomark _)
theorem et_gt (ha : ED Γ X a ta) (hb : ED Γ X b tb) : ET Γ X (.Compare a [.Gt] [b] pos) (tBo (d2 sGt ta tb)) := et_cmp op_gt (link_I0 fun _ _ _ _ => rfl) ha hb (nomark _)
theorem et_eq (hu : X.A.units + 64 < cLine) (ha : ED Γ X a ta) (hb : ED Γ X b tb) : ET Γ X (.Compare a [.Eq] [b] pos) (tBo (d2 sEq ta tb)) :=
  et_cmp (op_eqD hu) (fun H O x y vx vy φ Q ho hx hy h k => ⟨x, y, hx.rep0, hy.rep0, h.1, h.2.1, k _ _ H (Same.refl H) (by exact rfl) h.2.2⟩) ha hb (nomark _)
theorem et_ne (hu : X.A.units + 64 < cLine) (ha : ED Γ X a ta) (hb : ED Γ X b tb) : ET Γ X (.Compare a [.NotEq] [b] pos) (tBo (d2 sNe ta tb)) :=
  et_cmp (op_neD hu) (fun H O x y vx vy φ Q ho hx hy h k => ⟨x, y, hx.rep0, hy.rep0, h.1, h.2.1, k _ _ H (Same.refl H) (by exact rfl) h.2.2⟩) ha hb (nomark _)
/-- is None, is not None -/
noncomputable def isNon : D → Bool
  | .non => true
  | _ => false
noncomputable def sIsNot : D → D → (EV → Prop) → Prop := fun x y φ => match y with
  | .non => φ (dv (.bl (!isNon x)))
  | _ => False
theorem view_non {K : PySem.W.Frag} {H : Hp} {O : List Addr} {d : D} {v : V} (h : View K H O d v) : decide (v = .non) = isNon d := by
  cases d with
  | tup ds => obtain ⟨a, xs, rfl, _⟩ := h; rfl
  | lst ds => obtain ⟨a, xs, rfl, _⟩ := h; rfl
  | scr ns => obtain ⟨a, rfl, _⟩ := h; rfl
  | exc _ => obtain ⟨a, rfl, _⟩ := h; rfl
  | fd _ => obtain ⟨a, rfl, _⟩ := h; rfl
  | dk ks ds => obtain ⟨a, xs, rfl, _⟩ := h; rfl
  | dt ks ds => obtain ⟨a, xs, rfl, _⟩ := h; rfl
  | cn c =>
    cases c with
    | int i => cases (show v = _ from h); rfl
    | str x => cases (show v = _ from h); rfl
    | tup cs => obtain ⟨a, o, its, n, xs, rfl, _⟩ := (show CRep K (.tup cs) v from h); rfl
  | _ => cases (show v = _ from h); rfl
theorem link_isnot {K : PySem.W.Frag} : Link2 K (fun x y H Q => y = .non ∧ Q (.bl (!decide (x = .non))) H) sIsNot := by
  intro H O x y vx vy φ Q ho hx hy h k
  unfold sIsNot at h
  split at h
  · refine ⟨hy, ?_⟩
    rw [view_non hx]
    exact k _ _ H (Same.refl H) (by exact rfl) h
  · exact h.elim
theorem et_isnot (ha : ED Γ X a ta) (hb : ED Γ X b tb) : ET Γ X (.Compare a [.IsNot] [b] pos) (tBo (d2 sIsNot ta tb)) := et_cmp op_notN link_isnot ha hb (nomark _)

variable {tA tB' : TDb} {rest : List Expr}
noncomputable def bOr (t u : TDb) : TDb := fun ρ φ => t ρ fun c => (c = true → φ true) ∧ (c = false → u ρ φ)
noncomputable def bNot (t : TDb) : TDb := fun ρ φ => t ρ fun c => φ (!c)
theorem ew_or1 (ha : ET Γ X a tA) : EW Γ X (.BoolOp .Or [a] pos) tA := fun H₀ => pw_or1 (ha H₀)
theorem ew_or (ha : ET Γ X a tA) (hb : EW Γ X (.BoolOp .Or (b :: rest) pos) tB') : EW Γ X (.BoolOp .Or (a :: b :: rest) pos) (bOr tA tB') := fun H₀ => impW (pw_or (ha H₀) (hb H₀)) fun σ H Q h => by
  obtain ⟨ρ, o, R, φ, hφ, k⟩ := h
  refine ⟨ρ, o, R, _, hφ, fun c H1 s1 h1 => ?_⟩
  cases c with
  | true => exact iteT (k true H1 s1 (h1.1 rfl))
  | false => exact iteF ⟨ρ, o, R.to s1, φ, h1.2 rfl, fun b H2 s2 q => k b H2 (s1.trans s2) q⟩
theorem EW.et (h : EW Γ X a tA) : ET Γ X a tA := fun H₀ => PW.pt (h H₀)
theorem et_not (ha : ET Γ X a tA) : ET Γ X (.UnaryOp .Not a pos) (bNot tA) := fun H₀ => impT (pt_not (ha H₀)) fun σ H Q h => by
  obtain ⟨ρ, o, R, φ, hφ, k⟩ := h
  exact ⟨ρ, o, R, _, hφ, fun c H1 s1 h1 => k _ H1 s1 h1⟩
/-- .. as values (bools) -/
noncomputable def vAnd (ta tb : TD) : TD := fun ρ φ => ta ρ fun x => match x.d with
  | .bl c => (c = true → tb ρ φ) ∧ (c = false → φ (dv (.bl false)))
  | _ => False
noncomputable def vNot (ta : TD) : TD := fun ρ φ => ta ρ fun x => match x.d with
  | .bl c => φ (dv (.bl (!c)))
  | _ => False
theorem ed_one {op} (h : ED Γ X a ta) : ED Γ X (.BoolOp op [a] pos) ta := fun H₀ => pe_one (h H₀)
theorem ed_and (ha : ED Γ X a ta) (hb : ED Γ X (.BoolOp .And (b :: rest) pos) tb) : ED Γ X (.BoolOp .And (a :: b :: rest) pos) (vAnd ta tb) := fun H₀ => impE (pe_and (ha H₀) (hb H₀)) fun σ H Q h => by
  obtain ⟨ρ, o, R, φ, hφ, k⟩ := h
  refine ⟨ρ, o, R, _, hφ, fun v r H1 s1 rv h1 => ?_⟩
  obtain ⟨kd, d⟩ := r
  cases d with
  | bl c =>
    refine ⟨c, rv.view, ?_⟩
    cases c with
    | true => exact iteT ⟨ρ, o, R.to s1, φ, h1.1 rfl, fun v2 r2 H2 s2 rv2 q => k v2 r2 H2 (s1.trans s2) (rv2.start s1) q⟩
    | false => exact iteF (k _ _ H1 s1 (by exact rfl) (h1.2 rfl))
  | _ => exact h1.elim
theorem ed_not (ha : ED Γ X a ta) : ED Γ X (.UnaryOp .Not a pos) (vNot ta) := fun H₀ => impE (pe_not (ha H₀)) fun σ H Q h => by
  obtain ⟨ρ, o, R, φ, hφ, k⟩ := h
  refine ⟨ρ, o, R, _, hφ, fun v r H1 s1 rv h1 => ?_⟩
  obtain ⟨kd, d⟩ := r
  cases d with
  | bl c => exact ⟨c, rv.view, k _ _ H1 s1 (by exact rfl) h1⟩
  | _ => exact h1.elim
noncomputable def aNil : TDs := fun _ φ => φ []
noncomputable def aCons (te : TD) (t : TDs) : TDs := fun ρ φ => te ρ fun r => t ρ fun rs => φ (r :: rs)
theorem ea_nil : EA Γ X [] aNil := fun H₀ => impA pa_nil fun σ H Q h => by
  obtain ⟨ρ, o, R, φ, hφ, k⟩ := h
  exact k [] [] H (Same.refl H) (by exact rfl) hφ
theorem ea_cons (ha : ED Γ X e te) (hr : EA Γ X es t) (hs : starEach (e :: es) X.env = (false, eval e X.env) :: starEach es X.env := by rfl) : EA Γ X (e :: es) (aCons te t) := fun H₀ => impA (pa_cons (ha H₀) (hr H₀) hs) fun σ H Q h => by
  obtain ⟨ρ, o, R, φ, hφ, k⟩ := h
  refine ⟨ρ, o, R, _, hφ, fun v r H1 s1 rv h1 => ⟨ρ, o, R.to s1, _, h1, fun vs rs H2 s2 rvs h2 => ?_⟩⟩
  exact k (v :: vs) (r :: rs) H2 (s1.trans s2) ⟨v, vs, rfl, rv.same s2, rvs.start s1⟩ h2
noncomputable def solidB : List EV → Bool
  | [] => true
  | r :: rs => (match r.k with | .own => false | _ => true) && solidB rs
theorem solidB_iff : ∀ {rs : List EV}, solidB rs = true → ∀ r ∈ rs, r.k ≠ .own
  | [], _ => fun r h => nomatch h
  | ⟨k, d⟩ :: rs, h => fun r hr => by
    rw [solidB, Bool.and_eq_true] at h
    rcases List.mem_cons.mp hr with rfl | hr
    · intro z
      have z' : k = .own := z
      subst z'
      exact absurd h.1 (by simp)
    · exact solidB_iff h.2 r hr
noncomputable def dTup (t : TDs) : TD := fun ρ φ => t ρ fun rs => solidB rs = true ∧ Nat.ble rs.length 1000 = true ∧ φ (dv (.tup (rs.map EV.d)))
noncomputable def dLst (t : TDs) : TD := fun ρ φ => t ρ fun rs => solidB rs = true ∧ Nat.ble rs.length 1000 = true ∧ φ (df (.lst (rs.map EV.d)))
theorem le_line {n : Nat} (h : Nat.ble n 1000 = true) : n ≤ sizeLine := Nat.le_trans (Nat.le_of_ble_eq_true h) (by decide)
theorem RVs.length {K : PySem.W.Frag} {H0 H : Hp} {O : List Addr} : ∀ {rs : List EV} {vs : List V}, RVs K H0 H O rs vs → vs.length = rs.length
  | [], _, h => by cases h; rfl
  | r :: rs, vs, h => by
    obtain ⟨v, ws, rfl, _, t⟩ := h
    simp [RVs.length t]
theorem ed_tup {x1} (h : EA Γ X es t) : ED Γ X (.Tuple es x1 pos) (dTup t) := fun H₀ => impE (pe_tup (h H₀)) fun σ H Q q => by
  obtain ⟨ρ, o, R, φ, hφ, k⟩ := q
  refine ⟨ρ, o, R, _, hφ, fun vs rs H1 s1 rvs h1 => ⟨by rw [rvs.length]; exact le_line h1.2.1, fun p hp => ?_⟩⟩
  exact k _ _ _ (s1.trans (same_new hp _)) (RV.start (rv_tup hp (rvs.reps (solidB_iff h1.1))) s1) h1.2.2
theorem ed_lst (h : EA Γ X es t) : ED Γ X (.List es pos) (dLst t) := fun H₀ => impE (pe_lst (h H₀)) fun σ H Q q => by
  obtain ⟨ρ, o, R, φ, hφ, k⟩ := q
  refine ⟨ρ, o, R, _, hφ, fun vs rs H1 s1 rvs h1 => ⟨by rw [rvs.length]; exact le_line h1.2.1, fun p hp => ?_⟩⟩
  exact k _ _ _ (s1.trans (same_new hp _)) (RV.start (rv_lst (fun a e => R.ofree (s1.free e)) hp (rvs.reps (solidB_iff h1.1))) s1) h1.2.2

noncomputable def sIx : D → D → (EV → Prop) → Prop := fun x y φ => match x, y with
  | .lst ds, .int i => match atI ds i with
    | some d => φ (dv d)
    | none => False
  | .tup ds, .int i => match atI ds i with
    | some d => φ (dv d)
    | none => False
  | .scr ns, .int i => match atI ns i with
    | some n => φ (dv (.int n))
    | none => False
  | .str z, .int i => z.length ≤ sizeLine ∧ match atI z.cps.toList i with
    | some c => φ (dv (.str ⟨#[c]⟩))
    | none => False
  | _, _ => False
theorem atI_reps {K : PySem.W.Frag} {H : Hp} {O : List Addr} {ds : List D} {xs : List V} {i : Int} {d : D} (r : Reps K H O ds xs) (h : atI ds i = some d) : ∃ v, atI xs i = some v ∧ Rep K H O d v := by
  unfold atI at h ⊢
  rw [r.length]
  cases e : ixN ds.length i with
  | none => rw [e] at h; cases h
  | some j =>
    rw [e] at h
    exact r.get h
theorem link_ix : Link2 X.K (rIx X.K) sIx := by
  intro H O x y vx vy φ Q ho hx hy h k
  unfold sIx at h
  split at h
  · obtain ⟨a, xs, rfl, q, r⟩ := hx
    split at h
    · rename_i d e
      obtain ⟨v, ev, rv⟩ := atI_reps r e
      exact .inl ⟨a, xs, _, v, rfl, hy, SqL.of q, ev, k _ _ H (Same.refl H) (RV.val rv) h⟩
    · exact h.elim
  · obtain ⟨a, xs, rfl, q, r⟩ := hx
    split at h
    · rename_i d e
      obtain ⟨v, ev, rv⟩ := atI_reps r e
      exact .inr (.inl ⟨a, xs, _, v, rfl, hy, q.1, ev, k _ _ H (Same.refl H) (RV.val rv) h⟩)
    · exact h.elim
  · obtain ⟨a, rfl, q⟩ := hx
    split at h
    · rename_i n e
      refine .inl ⟨a, _, _, .int n, rfl, hy, q.seq, ?_, k _ _ H (Same.refl H) (by exact rfl) h⟩
      unfold atI at e ⊢
      rw [List.length_map]
      cases e2 : ixN _ _ with
      | none => rw [e2] at e; cases e
      | some j =>
        rw [e2] at e
        exact (List.getElem?_map ..).trans (congrArg (Option.map V.int) e)
    · exact h.elim
  · obtain ⟨hz, h⟩ := h
    split at h
    · rename_i c e
      exact .inr (.inr ⟨_, _, c, hx, hy, hz, e, k _ _ H (Same.refl H) (by exact rfl) h⟩)
    · exact h.elim
  · exact h.elim
noncomputable abbrev TDo := DE → (Option Int → Prop) → Prop
noncomputable def liftO (K : PySem.W.Frag) (H₀ : Hp) (t : TDo) : TO := fun σ H Q => ∃ ρ o, REnv K H₀ H σ ρ o ∧ ∃ φ, t ρ φ ∧ ∀ b H', Same H H' → φ b → Q b H'
noncomputable def EO (G : Hp → Prop) (X : Cx) (e : Option Expr) (t : TDo) : Prop := ∀ H₀ : {H : Hp // G H}, PO X e (liftO X.K H₀.1 t)
noncomputable def oNone : TDo := fun _ φ => φ none
noncomputable def oSome (t : TD) : TDo := fun ρ φ => t ρ fun r => match r.d with
  | .int i => φ (some i)
  | _ => False
theorem impO {e : Option Expr} {t t' : TO} (h : PO X e t) (i : ∀ σ H Q, t' σ H Q → t σ H Q) : PO X e t' := fun pins s σ H Q I q => h pins s σ H Q I (i σ H Q q)
theorem eo_none : EO Γ X none oNone := fun H₀ => impO po_none fun σ H Q h => by
  obtain ⟨ρ, o, R, φ, hφ, k⟩ := h
  exact k none H (Same.refl H) hφ
theorem eo_some (h : ED Γ X e te) : EO Γ X (some e) (oSome te) := fun H₀ => impO (po_some (h H₀)) fun σ H Q q => by
  obtain ⟨ρ, o, R, φ, hφ, k⟩ := q
  refine ⟨ρ, o, R, _, hφ, fun v r H1 s1 rv h1 => ?_⟩
  obtain ⟨kd, d⟩ := r
  cases d with
  | int i => exact ⟨i, rv.view, k _ H1 s1 h1⟩
  | _ => exact h1.elim
noncomputable def cutD (xs : List D) (lo hi : Option Int) : List D := (xs.drop (HT.sIx xs.length 0 lo)).take (HT.sIx xs.length xs.length hi - HT.sIx xs.length 0 lo)
theorem reps_cut {K : PySem.W.Frag} {H : Hp} {O : List Addr} {ds : List D} {xs : List V} (r : Reps K H O ds xs) (lo hi : Option Int) : Reps K H O (cutD ds lo hi) (cutV xs lo hi) := by
  unfold cutD cutV
  rw [r.length]
  exact (r.drop _).take _
noncomputable def sSl : D → Option Int → Option Int → (EV → Prop) → Prop := fun x lo hi φ => match x with
  | .lst ds => φ (df (.lst (cutD ds lo hi)))
  | .scr ns => φ (df (.lst (cutD (ns.map D.int) lo hi)))
  | .tup ds => ¬ (HT.sIx ds.length 0 lo = 0 ∧ HT.sIx ds.length ds.length hi = ds.length) ∧ φ (dv (.tup (cutD ds lo hi)))
  | _ => False
noncomputable def dSl (te : TD) (tl th : TDo) : TD := fun ρ φ => te ρ fun x => tl ρ fun l => th ρ fun u => sSl x.d l u φ
theorem ed_slice {lo hi : Option Expr} {tl th : TDo} {p2 : Pos} (he : ED Γ X e te) (hl : EO Γ X lo tl) (hu : EO Γ X hi th) : ED Γ X (.Subscript e (.Slice lo hi none p2) pos) (dSl te tl th) := fun H₀ =>
  impE (pe_slice (sl_list.or sl_tup) (he H₀) (hl H₀) (hu H₀)) fun σ H Q q => by
    obtain ⟨ρ, o, R, φ, hφ, k⟩ := q
    refine ⟨ρ, o, R, _, hφ, fun v r H1 s1 rv h1 => ⟨ρ, o, R.to s1, _, h1, fun l H2 s2 h2 => ⟨ρ, o, R.to (s1.trans s2), _, h2, fun u H3 s3 h3 => ?_⟩⟩⟩
    have s12 := s1.trans s2
    have s13 := s12.trans s3
    have vw := (rv.same (s2.trans s3)).view
    obtain ⟨kd, d⟩ := r
    cases d with
    | lst ds =>
      obtain ⟨a, xs, rfl, q, r⟩ := vw
      refine .inl ⟨a, xs, rfl, SqL.of q, fun p hp => ?_⟩
      exact k _ _ _ (s13.trans (same_new hp _)) (RV.start (rv_lst (fun a e => R.ofree (s13.free e)) hp (reps_cut r l u)) s13) h3
    | scr ns =>
      obtain ⟨a, rfl, q⟩ := vw
      refine .inl ⟨a, _, rfl, q.seq, fun p hp => ?_⟩
      exact k _ _ _ (s13.trans (same_new hp _)) (RV.start (rv_lst (fun a e => R.ofree (s13.free e)) hp (reps_cut (Reps.ints ns) l u)) s13) h3
    | tup ds =>
      obtain ⟨a, xs, rfl, q, r⟩ := vw
      refine .inr ⟨a, xs, rfl, q.1, by rw [r.length]; exact h3.1, fun p hp => ?_⟩
      exact k _ _ _ (s13.trans (same_new hp _)) (RV.start (rv_tup hp (reps_cut r l u)) s13) h3.2
    | _ => exact h3.elim
end
end DL

set_option Elab.async false
set_option linter.all false
set_option maxRecDepth 100000
set_option maxHeartbeats 4000000
namespace DL
open PySem PySem.Spec L2 L3
open PyProof.Rows hiding St
variable {Γ : Hp → Prop}

noncomputable def pureEV (r : EV) : Prop := match r.k with
  | .val => pureD r.d
  | .own => False
  | .fre => match r.d with
    | .lst ds => pureDs ds
    | .dk _ ds => pureDs ds
    | .dt _ ds => pureDs ds
    | _ => False
  | .new => True
theorem RV.lift {K : PySem.W.Frag} {H0 H : Hp} {O : List Addr} {r : EV} {v : V} (h : RV K H0 H [] r v) (p : pureEV r) (ho : ∀ a, H0 a = none → a ∉ O) : RV K H0 H O r v := by
  obtain ⟨k, d⟩ := r
  cases k with
  | val => exact Rep.pure _ _ p h
  | own => exact p.elim
  | fre =>
    obtain ⟨a, e, m, n, c⟩ := h
    refine ⟨a, e, m, ho a m, ?_⟩
    cases d with
    | lst ds => obtain ⟨xs, q, r⟩ := c; exact ⟨xs, q, Reps.pure _ _ p r⟩
    | dk ks ds => obtain ⟨xs, q, l, nd, r⟩ := c; exact ⟨xs, q, l, nd, Reps.pure _ _ p r⟩
    | dt ks ds => obtain ⟨xs, q, l, nd, r⟩ := c; exact ⟨xs, q, l, nd, Reps.pure _ _ p r⟩
    | _ => exact c.elim
  | new => exact RepN.to (Same.refl H) (fun a z => ⟨ho a z.2, z.2⟩) _ _ h
noncomputable abbrev FT := List D → (EV → Prop) → Prop
noncomputable def spD (K : PySem.W.Frag) (n : Nat) (T : FT) : Sp := fun vs H Q _ => ∃ ds φ, ds.length = n ∧ Reps K H [] ds vs ∧ T ds φ ∧ ∀ v r H', Same H H' → RV K H H' [] r v → pureEV r → φ r → Q v H'
structure FD (P : Program) (w : World) (K : PySem.W.Frag) (mg : Str → Option Value) (base : Heap) (k : Nat) (x : Str) (ps : List Str) (T : FT) : Prop where
  ex : ∃ f fd, FnOk P w K mg base CX0 k f fd ps (spD K ps.length T) ∧ Binds K fd ps [] ∧ PySem.W.keepIn K (.ref f) = true ∧ mg x = some (.ref f)
noncomputable def dCall (n : Nat) (T : FT) (t : TDs) : TD := fun ρ φ => t ρ fun rs => Nat.beq rs.length n = true ∧ T (rs.map EV.d) φ
section
variable {X : Cx} {x : Str} {ps : List Str} {T : FT} {k : Nat} {e : Expr} {es : List Expr} {t : TDs} {p pos : Pos}
theorem lift_call {H₀ : Hp} : ∀ σ H Q, liftE X.K H₀ (dCall ps.length T t) σ H Q → tCall (spD X.K ps.length T) [] E0 (liftA X.K H₀ t) σ H Q := fun σ H Q q => by
  obtain ⟨ρ, o, R, φ, hφ, kk⟩ := q
  refine ⟨ρ, o, R, _, hφ, fun vs rs H1 s1 rvs h1 => ?_⟩
  show spD X.K ps.length T (vs ++ []) H1 Q E0
  rw [List.append_nil]
  refine ⟨rs.map EV.d, φ, by rw [List.length_map]; exact Nat.eq_of_beq_eq_true h1.1, rvs.reps0, h1.2, fun v r H2 s2 rv pr h2 => ?_⟩
  exact kk v r H2 (s1.trans s2) (RV.start (rv.lift pr fun a e => R.ofree (s1.free e)) s1) h2
theorem ed_call (F : FD X.prog X.w X.K X.mg X.base k x ps T) (hr : Room k X.A) (ha : EA Γ X (e :: es) t) (hg : Gl X x := by rfl) (hdb : (x == ("__debug__" : Str)) = false := by decide)
    (he : starEach (e :: es) X.env = (false, eval e X.env) :: starEach es X.env := by rfl) (hpl : (backTo pos (starEach es X.env)).any (·.1) = false := by rfl) : ED Γ X (.Call (.Name x p) (e :: es) [] pos) (dCall ps.length T t) := fun H₀ => by
  obtain ⟨f, fd, ok, b, kp, m⟩ := F.ex
  exact impE (pe_call ok hr hg m kp b .nil pass0 (ha H₀) hdb he hpl) lift_call
noncomputable def Views (K : PySem.W.Frag) (H : Hp) (O : List Addr) : List D → List V → Prop
  | [], vs => vs = []
  | d :: ds, vs => ∃ v ws, vs = v :: ws ∧ View K H O d v ∧ Views K H O ds ws
theorem RVs.views {K : PySem.W.Frag} {H0 H : Hp} {O : List Addr} : ∀ {rs : List EV} {vs : List V}, RVs K H0 H O rs vs → Views K H O (rs.map EV.d) vs
  | [], _, h => h
  | r :: rs, vs, h => by
    obtain ⟨v, ws, e, q, t⟩ := h
    exact ⟨v, ws, e, q.view, t.views⟩
noncomputable def LinkC (K : PySem.W.Frag) (r : List V → Hp → VK → Prop) (s : FT) : Prop :=
  ∀ (H : Hp) (O : List Addr) (ds : List D) (vs : List V) (φ : EV → Prop) (Q : VK), (∀ a, H a = none → a ∉ O) → Views K H O ds vs → s ds φ → (∀ v r H', Same H H' → RV K H H' O r v → φ r → Q v H') → r vs H Q
noncomputable def dCB (s : FT) (t : TDs) : TD := fun ρ φ => t ρ fun rs => s (rs.map EV.d) φ
theorem lift_cb {r : List V → Hp → VK → Prop} {s : FT} (hl : LinkC X.K r s) {H₀ : Hp} : ∀ σ H Q, liftE X.K H₀ (dCB s t) σ H Q → tCB r (liftA X.K H₀ t) σ H Q := fun σ H Q q => by
  obtain ⟨ρ, o, R, φ, hφ, kk⟩ := q
  refine ⟨ρ, o, R, _, hφ, fun vs rs H1 s1 rvs h1 => ?_⟩
  exact hl H1 _ _ vs φ Q (fun a e => R.ofree (s1.free e)) rvs.views h1 fun v r H2 s2 rv h2 => kk v r H2 (s1.trans s2) (rv.start s1) h2
theorem ed_callB {id : String} {r : List V → Hp → VK → Prop} {s : FT} (hc : CallR X (.builtin id) r) (hl : LinkC X.K r s) (hm : X.mg x = none) (hv : bootBuiltins x = some (.builtin id)) (ha : EA Γ X (e :: es) t) (hg : Gl X x := by rfl) (hn : x ≠ "__name__" := by decide) (hdb : (x == ("__debug__" : Str)) = false := by decide)
    (he : starEach (e :: es) X.env = (false, eval e X.env) :: starEach es X.env := by rfl) (hpl : (backTo pos (starEach es X.env)).any (·.1) = false := by rfl) : ED Γ X (.Call (.Name x p) (e :: es) [] pos) (dCB s t) := fun H₀ =>
  impE (pe_callB hc hg hm hv (ha H₀) hn hdb he hpl) (lift_cb hl)
theorem ed_callTy {T : String} {r : List V → Hp → VK → Prop} {s : FT} (hc : CallR X (.type T) r) (hl : LinkC X.K r s) (hm : X.mg x = none) (hv : bootBuiltins x = some (.type T)) (ha : EA Γ X (e :: es) t) (hg : Gl X x := by rfl) (hn : x ≠ "__name__" := by decide) (hdb : (x == ("__debug__" : Str)) = false := by decide)
    (he : starEach (e :: es) X.env = (false, eval e X.env) :: starEach es X.env := by rfl) (hpl : (backTo pos (starEach es X.env)).any (·.1) = false := by rfl) : ED Γ X (.Call (.Name x p) (e :: es) [] pos) (dCB s t) := fun H₀ =>
  impE (pe_callTy hc hg hm hv (ha H₀) hn hdb he hpl) (lift_cb hl)
noncomputable def sLen : FT := fun ds φ => match ds with
  | [.lst l] => φ (dv (.int l.length))
  | [.tup l] => φ (dv (.int l.length))
  | [.scr l] => φ (dv (.int l.length))
  | [.str z] => z.length ≤ sizeLine ∧ φ (dv (.int z.length))
  | _ => False
theorem link_len : LinkC X.K (fun xs H Q => (∃ p ys, xs = [.ref p] ∧ (SqL X.K H p ys ∨ SqT X.K H p ys) ∧ Q (.int ys.length) H) ∨ ∃ z, xs = [.str z] ∧ z.length ≤ sizeLine ∧ Q (.int z.length) H) sLen := by
  intro H O ds vs φ Q ho hv h k
  unfold sLen at h
  split at h
  · obtain ⟨v, ws, rfl, ⟨a, xs, rfl, q, r⟩, rfl⟩ := hv
    refine .inl ⟨a, xs, rfl, .inl (SqL.of q), ?_⟩
    rw [r.length]
    exact k _ _ H (Same.refl H) (by exact rfl) h
  · obtain ⟨v, ws, rfl, ⟨a, xs, rfl, q, r⟩, rfl⟩ := hv
    refine .inl ⟨a, xs, rfl, .inr q.1, ?_⟩
    rw [r.length]
    exact k _ _ H (Same.refl H) (by exact rfl) h
  · obtain ⟨v, ws, rfl, ⟨a, rfl, q⟩, rfl⟩ := hv
    refine .inl ⟨a, _, rfl, .inl q.seq, ?_⟩
    rw [List.length_map]
    exact k _ _ H (Same.refl H) (by exact rfl) h
  · obtain ⟨v, ws, rfl, hz, rfl⟩ := hv
    cases (show v = _ from hz)
    exact .inr ⟨_, rfl, h.1, k _ _ H (Same.refl H) (by exact rfl) h.2⟩
  · exact h.elim
theorem ed_len (hm : X.mg "len" = none) (ha : EA Γ X (e :: es) t) (hg : Gl X "len" := by rfl) (he : starEach (e :: es) X.env = (false, eval e X.env) :: starEach es X.env := by rfl) (hpl : (backTo pos (starEach es X.env)).any (·.1) = false := by rfl) : ED Γ X (.Call (.Name "len" p) (e :: es) [] pos) (dCB sLen t) :=
  ed_callB (call_len_seq.or call_len_str) link_len hm PySem.boot_len ha hg (by decide) (by decide) he hpl
noncomputable def sAbs : FT := fun ds φ => match ds with
  | [.int i] => φ (dv (.int (if i < 0 then -i else i)))
  | _ => False
theorem ed_abs (hm : X.mg "abs" = none) (ha : EA Γ X (e :: es) t) (hg : Gl X "abs" := by rfl) (he : starEach (e :: es) X.env = (false, eval e X.env) :: starEach es X.env := by rfl) (hpl : (backTo pos (starEach es X.env)).any (·.1) = false := by rfl) : ED Γ X (.Call (.Name "abs" p) (e :: es) [] pos) (dCB sAbs t) :=
  ed_callB call_abs (fun H O ds vs φ Q ho hv h k => by
    unfold sAbs at h
    split at h
    · obtain ⟨v, ws, rfl, hz, rfl⟩ := hv
      cases (show v = _ from hz)
      exact ⟨_, rfl, k _ _ H (Same.refl H) (by exact rfl) h⟩
    · exact h.elim) hm (by kernel_rfl) ha hg (by decide) (by decide) he hpl
end
end DL

set_option Elab.async false
set_option linter.all false
set_option maxRecDepth 100000
set_option maxHeartbeats 4000000
namespace DL
open PySem PySem.Spec L2 L3
open PyProof.Rows hiding St
variable {Γ : Hp → Prop}

noncomputable def EV.sto (r : EV) : EV := ⟨match r.k with
  | .fre => .own
  | .new => .val
  | k => k, r.d⟩
noncomputable def EV.ret (r : EV) : EV := ⟨match r.k with
  | .own => .fre
  | k => k, r.d⟩
noncomputable def setS : DE → Nat → EV → DE
  | [], _, _ => []
  | _ :: r, 0, v => some v :: r
  | x :: r, i + 1, v => x :: setS r i v
theorem setS_eq : ∀ (ρ : DE) (i : Nat) (v : EV), setS ρ i v = ρ.set i (some v)
  | [], _, _ => rfl
  | _ :: _, 0, _ => rfl
  | x :: r, i + 1, v => by rw [setS, setS_eq r i v, List.set_cons_succ]
theorem Con.grow {K : PySem.W.Frag} {H H' : Hp} {O O' : List Addr} {d : D} {a : Addr} (h : Con K H O d a) (s : ∀ u, H a = some u → H' a = some u) (g : Grow O O' H H') : Con K H' O' d a := by
  cases d with
  | lst ds => obtain ⟨xs, q, r⟩ := h; exact ⟨xs, s _ q, Reps.grow g _ _ r⟩
  | dk ks ds => obtain ⟨xs, q, l, n, r⟩ := h; exact ⟨xs, s _ q, l, n, Reps.grow g _ _ r⟩
  | dt ks ds => obtain ⟨xs, q, l, n, r⟩ := h; exact ⟨xs, s _ q, l, n, Reps.grow g _ _ r⟩
  | _ => exact h.elim
theorem Con.mtb {K : PySem.W.Frag} {H : Hp} {O : List Addr} {d : D} {a : Addr} (h : Con K H O d a) : (∃ u, H a = some u) ∧ (∀ xs, H a ≠ some (.tup xs)) ∧ ∀ ob u, H a ≠ some (.frz ob u) := by
  cases d with
  | lst ds => obtain ⟨xs, q, r⟩ := h; exact ⟨⟨_, q⟩, (fun xs z => by rw [q] at z; cases z), (fun ob u z => by rw [q] at z; cases z)⟩
  | dk ks ds => obtain ⟨xs, q, r⟩ := h; exact ⟨⟨_, q⟩, (fun xs z => by rw [q] at z; cases z), (fun ob u z => by rw [q] at z; cases z)⟩
  | dt ks ds => obtain ⟨xs, q, r⟩ := h; exact ⟨⟨_, q⟩, (fun xs z => by rw [q] at z; cases z), (fun ob u z => by rw [q] at z; cases z)⟩
  | _ => exact h.elim
section
variable {K : PySem.W.Frag} {H₀ H H' : Hp} {σ : St} {ρ : DE} {o : List (Nat × Addr)}
/-- a thing that stays -/
theorem REnv.setV (R : REnv K H₀ H σ ρ o) (i : Nat) {d : D} {v : V} (h : Rep K H (o.map Prod.snd) d v) : REnv K H₀ H (σ.set i (some v)) (setS ρ i (dv d)) o where
  same := R.same
  fresh := R.fresh
  trk := R.trk
  mtb := R.mtb
  nda := R.nda
  len := by rw [setS_eq, List.length_set, List.length_set]; exact R.len
  slots := fun j r e => by
    rw [setS_eq] at e
    by_cases hj : j = i
    · subst hj
      have hl : j < ρ.length := by
        rcases Nat.lt_or_ge j ρ.length with z | z
        · exact z
        · rw [List.getElem?_eq_none (by rw [List.length_set]; exact z)] at e
          cases e
      rw [List.getElem?_set_self hl] at e
      cases e
      exact ⟨v, List.getElem?_set_self (by rw [R.len]; exact hl), .inl ⟨rfl, h⟩⟩
    · rw [List.getElem?_set_ne (Ne.symm hj)] at e
      obtain ⟨w, ew, q⟩ := R.slots j r e
      exact ⟨w, by rw [List.getElem?_set_ne (Ne.symm hj)]; exact ew, q⟩
/-- a new list or dict becomes ours -/
theorem REnv.setO (R : REnv K H₀ H σ ρ o) (s : Same H H') (i : Nat) {d : D} {a : Addr} (ha : H a = none) (c : Con K H' (a :: o.map Prod.snd) d a) :
    REnv K H₀ H' (σ.set i (some (.ref a))) (setS ρ i (dO d)) ((i, a) :: o) ∧ Grow (o.map Prod.snd) (((i, a) :: o).map Prod.snd) H H' := by
  have g : Grow (o.map Prod.snd) (((i, a) :: o).map Prod.snd) H H' := by
    refine ⟨fun b u h n => ⟨s b u h, fun z => ?_⟩, fun b xs h => s b _ h, fun b ob u h => s b _ h⟩
    rw [List.map_cons] at z
    rcases List.mem_cons.mp z with z | z
    · exact ne_of_none h ha z
    · exact n z
  refine ⟨?_, g⟩
  have R' := R.to s
  exact {
    same := R'.same
    fresh := fun p hp => by
      rcases List.mem_cons.mp hp with rfl | hp
      · exact R.same.free ha
      · exact R.fresh p hp
    trk := fun p hp => by
      rcases List.mem_cons.mp hp with rfl | hp
      · exact c.mtb.1
      · exact R'.trk p hp
    mtb := fun p hp => by
      rcases List.mem_cons.mp hp with rfl | hp
      · exact c.mtb.2
      · exact R'.mtb p hp
    nda := by
      rw [List.map_cons, List.nodup_cons]
      exact ⟨fun z => R.ofree ha z, R.nda⟩
    len := by rw [setS_eq, List.length_set, List.length_set]; exact R.len
    slots := fun j r e => by
      rw [setS_eq] at e
      by_cases hj : j = i
      · subst hj
        have hl : j < ρ.length := by
          rcases Nat.lt_or_ge j ρ.length with z | z
          · exact z
          · rw [List.getElem?_eq_none (by rw [List.length_set]; exact z)] at e
            cases e
        rw [List.getElem?_set_self hl] at e
        cases e
        exact ⟨_, List.getElem?_set_self (by rw [R.len]; exact hl), .inr ⟨rfl, a, rfl, List.mem_cons_self .., c⟩⟩
      · rw [List.getElem?_set_ne (Ne.symm hj)] at e
        obtain ⟨w, ew, q⟩ := R.slots j r e
        refine ⟨w, by rw [List.getElem?_set_ne (Ne.symm hj)]; exact ew, ?_⟩
        rcases q with ⟨k, q⟩ | ⟨k, a', e1, m, c'⟩
        · exact .inl ⟨k, Rep.grow g _ _ q⟩
        · exact .inr ⟨k, a', e1, List.mem_cons_of_mem _ m, c'.grow (fun u q => s _ _ q) g⟩ }
/-- either -/
theorem REnv.put (R : REnv K H₀ H σ ρ o) (s : Same H H') (i : Nat) {r : EV} {v : V} (h : RV K H H' (o.map Prod.snd) r v) (hk : r.k ≠ .own) :
    ∃ o', REnv K H₀ H' (σ.set i (some v)) (setS ρ i r.sto) o' ∧ Grow (o.map Prod.snd) (o'.map Prod.snd) H H' := by
  obtain ⟨k, d⟩ := r
  cases k with
  | val => exact ⟨_, (R.to s).setV i h, Grow.same s⟩
  | own => exact absurd rfl hk
  | fre =>
    obtain ⟨a, rfl, m, n, c⟩ := h
    exact ⟨_, R.setO s i m c⟩
  | new => exact ⟨_, (R.to s).setV i (RepN.rep (fun a z => z.1) _ _ h), Grow.same s⟩
theorem inj_snd : ∀ {o : List (Nat × Addr)}, (o.map Prod.snd).Nodup → ∀ {p q : Nat × Addr}, p ∈ o → q ∈ o → p.2 = q.2 → p = q
  | [], _, _, _, h, _, _ => nomatch h
  | x :: o, nd, p, q, hp, hq, e => by
    rw [List.map_cons, List.nodup_cons] at nd
    rcases List.mem_cons.mp hp with h1 | hp
    · rcases List.mem_cons.mp hq with h2 | hq
      · rw [h1, h2]
      · exact absurd (List.mem_map.mpr ⟨q, hq, by rw [← e, h1]⟩) nd.1
    · rcases List.mem_cons.mp hq with h2 | hq
      · exact absurd (List.mem_map.mpr ⟨p, hp, by rw [e, h2]⟩) nd.1
      · exact inj_snd nd.2 hp hq e
/-- our own list or dict at slot i is changed -/
theorem REnv.chg (R : REnv K H₀ H σ ρ o) {i : Nat} {a : Addr} {d d' : D} {ho : HO} (hs : ρ[i]? = some (some (dO d))) (hσ : σ[i]? = some (some (.ref a))) (hm : (i, a) ∈ o) (hho : (∀ xs, ho ≠ .tup xs) ∧ ∀ ob u, ho ≠ .frz ob u)
    (c : (∀ ds xs, Reps K H (o.map Prod.snd) ds xs → Reps K (upd H a ho) (o.map Prod.snd) ds xs) → Con K (upd H a ho) (o.map Prod.snd) d' a) :
    REnv K H₀ (upd H a ho) σ (setS ρ i (dO d')) o ∧ Grow (o.map Prod.snd) (o.map Prod.snd) H (upd H a ho) := by
  have ha : a ∈ o.map Prod.snd := List.mem_map.mpr ⟨_, hm, rfl⟩
  obtain ⟨m1, m2⟩ := R.mtb _ hm
  have g : Grow (o.map Prod.snd) (o.map Prod.snd) H (upd H a ho) :=
    ⟨fun b u h n => ⟨by rw [upd_ne (show b ≠ a from fun z => n (by rw [z]; exact ha))]; exact h, n⟩, fun b xs h => by rw [upd_ne (show b ≠ a from fun z => m1 xs (by rw [← z]; exact h))]; exact h, fun b ob u h => by rw [upd_ne (show b ≠ a from fun z => m2 ob u (by rw [← z]; exact h))]; exact h⟩
  refine ⟨?_, g⟩
  exact {
    same := fun b u h => by
      have : b ≠ a := fun z => by
        have := R.fresh _ hm
        rw [← z, h] at this
        cases this
      rw [upd_ne this]
      exact R.same b u h
    fresh := R.fresh
    trk := fun p hp => by
      by_cases e : p.2 = a
      · exact ⟨ho, by rw [e]; exact upd_same⟩
      · rw [upd_ne e]
        exact R.trk p hp
    mtb := fun p hp => by
      by_cases e : p.2 = a
      · rw [e, upd_same]
        exact ⟨fun xs z => hho.1 xs (Option.some.inj z), fun ob u z => hho.2 ob u (Option.some.inj z)⟩
      · rw [upd_ne e]
        exact R.mtb p hp
    nda := R.nda
    len := by rw [setS_eq, List.length_set]; exact R.len
    slots := fun j r e => by
      rw [setS_eq] at e
      by_cases hj : j = i
      · subst hj
        have hl : j < ρ.length := (List.getElem?_eq_some_iff.mp hs).1
        rw [List.getElem?_set_self hl] at e
        cases e
        obtain ⟨v, ev, q⟩ := R.slots j _ hs
        rcases q with ⟨k, _⟩ | ⟨_, a', e1, m', _⟩
        · cases k
        · have haa : a' = a := by
            rw [hσ] at ev
            cases ev
            cases e1
            rfl
          subst haa
          exact ⟨v, ev, .inr ⟨rfl, a', e1, hm, c fun ds xs q => Reps.grow g _ _ q⟩⟩
      · rw [List.getElem?_set_ne (Ne.symm hj)] at e
        obtain ⟨w, ew, q⟩ := R.slots j r e
        refine ⟨w, ew, ?_⟩
        rcases q with ⟨k, q⟩ | ⟨k, a', e1, m', c'⟩
        · exact .inl ⟨k, Rep.grow g _ _ q⟩
        · refine .inr ⟨k, a', e1, m', c'.grow (fun u q => ?_) g⟩
          have hne : a' ≠ a := fun z => by
            exact hj (congrArg Prod.fst (inj_snd R.nda m' hm z))
          rw [upd_ne hne]
          exact q }
end

section
variable {X : Cx} {st : Stmt} {rest : List Stmt} {t u : TDS} {e : Expr} {te : TD} {tc : TDb} {pos : Pos}
noncomputable def sNil : TDS := fun ρ Z => Z.nx ρ
noncomputable def sSeq (t u : TDS) : TDS := fun ρ Z => t ρ { Z with nx := fun ρ' => u ρ' Z }
theorem ss_nil : SDs Γ X [] sNil := fun H₀ => impSs pss_nil fun D σ H h => by
  obtain ⟨ρ, o, R, Z, hZ, k1, _⟩ := h
  exact k1 ρ σ H o Grow.refl R hZ
theorem ss_cons (h1 : SD Γ X st t) (h2 : SDs Γ X rest u) : SDs Γ X (st :: rest) (sSeq t u) := fun H₀ => impSs (pss_cons (h1 H₀) (h2 H₀)) fun D σ H h => by
  obtain ⟨ρ, o, R, Z, hZ, k1, k2, k3, k4⟩ := h
  refine ⟨ρ, o, R, _, hZ, fun ρ' σ' H' o' g R' q => ?_, k2, k3, k4⟩
  exact ⟨ρ', o', R', Z, q, fun ρ2 σ2 H2 o2 g2 R2 q2 => k1 ρ2 σ2 H2 o2 (g.trans g2) R2 q2, fun ρ2 σ2 H2 o2 g2 R2 q2 => k2 ρ2 σ2 H2 o2 (g.trans g2) R2 q2, fun ρ2 σ2 H2 o2 g2 R2 q2 => k3 ρ2 σ2 H2 o2 (g.trans g2) R2 q2, k4⟩
theorem ss_one (h1 : SD Γ X st t) : SDs Γ X [st] t := fun H₀ => pss_one (h1 H₀)
/-- code that is never come to -/
theorem sd_never : SD Γ X st (fun _ _ => False) := fun H₀ => impS ps_never fun D σ H h => by
  obtain ⟨_, _, _, _, hZ, _⟩ := h
  exact hZ.elim
noncomputable def sRet (te : TD) : TDS := fun ρ Z => te ρ fun r => Z.rt r.ret
theorem RV.ret {K : PySem.W.Frag} {H₀ H H' : Hp} {σ : St} {ρ : DE} {o : List (Nat × Addr)} (R : REnv K H₀ H σ ρ o) {r : EV} {v : V} (h : RV K H H' (o.map Prod.snd) r v) : RV K H₀ H' [] r.ret v := by
  obtain ⟨k, d⟩ := r
  cases k with
  | val => exact Rep.sub (O' := []) (fun _ z => absurd z (by simp)) _ _ h
  | own =>
    obtain ⟨a, e, m, c⟩ := h
    obtain ⟨p, hp, ep⟩ := List.mem_map.mp m
    subst ep
    exact ⟨p.2, e, R.fresh p hp, by simp, c.sub fun b hb => by
      have : b = p.2 := by simpa using hb
      rw [this]
      exact m⟩
  | fre =>
    obtain ⟨a, e, m, n, c⟩ := h
    exact ⟨a, e, R.same.free m, by simp, c.sub fun b hb => by
      have : b = a := by simpa using hb
      rw [this]
      exact List.mem_cons_self ..⟩
  | new => exact RepN.to (Same.refl H') (fun a z => ⟨by simp, R.same.free z.2⟩) _ _ h
theorem sd_ret (he : ED Γ X e te) : SD Γ X (.Return (some e) pos) (sRet te) := fun H₀ => impS (ps_ret (he H₀)) fun D σ H h => by
  obtain ⟨ρ, o, R, Z, hZ, k1, k2, k3, k4⟩ := h
  refine ⟨ρ, o, R, _, hZ, fun v r H1 s1 rv h1 => ?_⟩
  exact k4 v r.ret H1 (R.same.trans s1) (RV.ret R rv) h1
noncomputable def sIf (tc : TDb) (t u : TDS) : TDS := fun ρ Z => tc ρ fun c => (c = true → t ρ Z) ∧ (c = false → u ρ Z)
theorem sd_if {c : Expr} {a b : List Stmt} (hc : ET Γ X c tc) (ha : SDs Γ X a t) (hb : SDs Γ X b u) : SD Γ X (.If c a b pos) (sIf tc t u) := fun H₀ => impS (ps_if (hc H₀) (ha H₀) (hb H₀)) fun D σ H h => by
  obtain ⟨ρ, o, R, Z, hZ, k1, k2, k3, k4⟩ := h
  refine ⟨ρ, o, R, _, hZ, fun c H1 s1 h1 => ?_⟩
  have g : Grow (o.map Prod.snd) (o.map Prod.snd) H H1 := Grow.same s1
  have kk : ∀ {v : TDS}, v ρ Z → liftS X.K H₀.1 v D σ H1 := fun hv => ⟨ρ, o, R.to s1, Z, hv, fun ρ2 σ2 H2 o2 g2 R2 q2 => k1 ρ2 σ2 H2 o2 (g.trans g2) R2 q2, fun ρ2 σ2 H2 o2 g2 R2 q2 => k2 ρ2 σ2 H2 o2 (g.trans g2) R2 q2, fun ρ2 σ2 H2 o2 g2 R2 q2 => k3 ρ2 σ2 H2 o2 (g.trans g2) R2 q2, k4⟩
  cases c with
  | true => exact iteT (kk (h1.1 rfl))
  | false => exact iteF (kk (h1.2 rfl))
/-- behind a statement something is known -/
noncomputable def sCut (t : TDS) : TDS := fun ρ Z => ∃ J : DE → Prop, t ρ { Z with nx := J } ∧ ∀ ρ', J ρ' → Z.nx ρ'
theorem sd_cut (h : SD Γ X st t) : SD Γ X st (sCut t) := fun H₀ => impS (h H₀) fun D σ H h => by
  obtain ⟨ρ, o, R, Z, ⟨J, hZ, hJ⟩, k1, k2, k3, k4⟩ := h
  exact ⟨ρ, o, R, _, hZ, fun ρ2 σ2 H2 o2 g2 R2 q2 => k1 ρ2 σ2 H2 o2 g2 R2 (hJ ρ2 q2), k2, k3, k4⟩
/-- name = e -/
noncomputable def sSet (i : Nat) (te : TD) : TDS := fun ρ Z => te ρ fun r => (match r.k with | .own => False | _ => True) ∧ Z.nx (setS ρ i r.sto)
theorem notOwn {r : EV} (h : match r.k with | .own => False | _ => True) : r.k ≠ .own := by
  obtain ⟨k, d⟩ := r
  cases k with
  | own => exact h.elim
  | val => exact fun z => nomatch z
  | fre => exact fun z => nomatch z
  | new => exact fun z => nomatch z
theorem sd_set (i : Nat) {x : Str} {pos' : Pos} (hN : X.N.Nodup) (he : ED Γ X e te) (hi : X.N[i]? = some x := by rfl) (hx : Loc X.env.scope x := by first | exact Or.inl rfl | exact Or.inr rfl) (hs : swapsWith e (some (.Name x pos')) pos.line X.env = pure false := by rfl)
    (hf : X.fn x = true ∨ X.env.scope.names.lookup x = some .local := by first | exact .inl rfl | exact .inr rfl | assumption) : SD Γ X (.Assign [.Name x pos'] e pos) (sSet i te) := fun H₀ => impS (ps_set hN hi hx (he H₀) hs hf) fun D σ H h => by
  obtain ⟨ρ, o, R, Z, hZ, k1, k2, k3, k4⟩ := h
  refine ⟨ρ, o, R, _, hZ, fun v r H1 s1 rv h1 => ?_⟩
  obtain ⟨o', R', g⟩ := R.put s1 i rv (notOwn h1.1)
  exact k1 _ _ H1 o' g R' h1.2

noncomputable abbrev TGD := D → DE → (DE → Prop) → Prop
noncomputable def GLink (K : PySem.W.Frag) (g2 : TG) (g : TGD) : Prop := ∀ (H₀ H : Hp) (σ : St) (ρ : DE) (o : List (Nat × Addr)) (d : D) (v : V) (ψ : DE → Prop) (Q : St → Hp → Prop), REnv K H₀ H σ ρ o → Rep K H (o.map Prod.snd) d v → g d ρ ψ →
  (∀ ρ' σ', REnv K H₀ H σ' ρ' o → ψ ρ' → Q σ' H) → g2 v σ H Q
noncomputable def gN (i : Nat) : TGD := fun d ρ ψ => ψ (setS ρ i (dv d))
theorem gl_name {K : PySem.W.Frag} (i : Nat) : GLink K (gName i) (gN i) := fun H₀ H σ ρ o d v ψ Q R h hg k => k _ _ (R.setV i h) hg
noncomputable def gT2 (i j : Nat) : TGD := fun d ρ ψ => match d with
  | .tup [a, b] => ψ (setS (setS ρ i (dv a)) j (dv b))
  | _ => False
theorem gl_tup2 {K : PySem.W.Frag} (i j : Nat) : GLink K (gTup K 2 (gCons (gName i) (gCons (gName j) gNil))) (gT2 i j) := fun H₀ H σ ρ o d v ψ Q R h hg k => by
  unfold gT2 at hg
  split at hg
  · rename_i a b
    obtain ⟨p, xs, rfl, q, r⟩ := h
    obtain ⟨v1, r1, rfl, h1, v2, r2, rfl, h2, rfl⟩ := r
    refine ⟨p, _, rfl, q.1, rfl, v1, _, rfl, v2, _, rfl, rfl, ?_⟩
    have R1 := R.setV i h1
    have R2 := R1.setV j h2
    exact k _ _ R2 hg
  · exact hg.elim
/-- a, b = e (e a tuple) -/
noncomputable def sUn (te : TD) (g : TGD) : TDS := fun ρ Z => te ρ fun r => (match r.k with | .own => False | _ => True) ∧ g r.d ρ Z.nx
theorem sd_un {tg : Expr} {g2 : TG} {g : TGD} (he : ED Γ X e te) (hg : PG X tg g2) (hl : GLink X.K g2 g) (hs : swapsWithSole [tg] e pos.line X.env = pure false := by rfl) (hw : swappedStores [tg] e X.env = pure none := by rfl)
    (h1 : (assignEach [tg] X.env).map (·.2) = [assign tg X.env] := by rfl) : SD Γ X (.Assign [tg] e pos) (sUn te g) := fun H₀ => impS (ps_asg (he H₀) hg hs hw h1) fun D σ H h => by
  obtain ⟨ρ, o, R, Z, hZ, k1, k2, k3, k4⟩ := h
  refine ⟨ρ, o, R, _, hZ, fun v r H1 s1 rv h1 => ?_⟩
  exact hl H₀.1 H1 σ ρ o r.d v _ _ (R.to s1) (rv.solid (notOwn h1.1)) h1.2 fun ρ' σ' R' q => k1 ρ' σ' H1 o (Grow.same s1) R' q
/-- a, b = x, y -/
noncomputable def sPar (i j : Nat) (ta : TDs) : TDS := fun ρ Z => ta ρ fun rs => match rs with
  | [⟨.val, a⟩, ⟨.val, b⟩] => Z.nx (setS (setS ρ i (dv a)) j (dv b))
  | _ => False
theorem sd_par {i j : Nat} {a b : Expr} {ta : TDs} (hp : ∀ {ta : TA}, PA X [a, b] ta → PS X st (tPar i j ta)) (ha : EA Γ X [a, b] ta) : SD Γ X st (sPar i j ta) := fun H₀ => impS (hp (ha H₀)) fun D σ H h => by
  obtain ⟨ρ, o, R, Z, hZ, k1, k2, k3, k4⟩ := h
  refine ⟨ρ, o, R, _, hZ, fun vs rs H1 s1 rvs h1 => ?_⟩
  split at h1
  · rename_i da db
    obtain ⟨v1, r1, rfl, q1, v2, r2, rfl, q2, rfl⟩ := rvs
    refine ⟨v1, v2, rfl, ?_⟩
    have R1 := (R.to s1).setV i (show Rep X.K H1 (o.map Prod.snd) da v1 from q1)
    have R2 := R1.setV j (show Rep X.K H1 (o.map Prod.snd) db v2 from q2)
    exact k1 _ _ H1 _ (Grow.same s1) R2 h1
  · exact h1.elim

noncomputable def sWh (tc : TDb) (tb : TDS) : TDS := fun ρ Z => ∃ (P : DE → Prop) (μ : DE → Nat), P ρ ∧ ∀ ρ, P ρ → tc ρ fun c =>
  (c = true → tb ρ { Z with nx := fun ρ' => P ρ' ∧ μ ρ' < μ ρ, ct := fun ρ' => P ρ' ∧ μ ρ' < μ ρ, bk := Z.nx }) ∧ (c = false → Z.nx ρ)
theorem sd_while {c : Expr} {body : List Stmt} {tb : TDS} (hc : ET Γ X c tc) (hb : SDs Γ X body tb) (hp : PassesOwn (model X.prog X.w) X.A X.env X.xe := by exact PassesOwn.never) : SD Γ X (.While c body [] pos) (sWh tc tb) := fun H₀ => impS (ps_while hp (hc H₀) (hb H₀)) fun D σ H h => by
  obtain ⟨ρ, o, R, Z, ⟨P, μ, hP, turn⟩, k1, k2, k3, k4⟩ := h
  refine ⟨fun m σ' H' => ∃ ρ' o', Grow (o.map Prod.snd) (o'.map Prod.snd) H H' ∧ REnv X.K H₀ H' σ' ρ' o' ∧ P ρ' ∧ μ ρ' = m, ⟨_, ρ, o, Grow.refl, R, hP, rfl⟩, ?_⟩
  rintro m σ1 H1 ⟨ρ1, o1, g1, R1, p1, rfl⟩
  refine ⟨ρ1, o1, R1, _, turn ρ1 p1, fun c H2 s2 h2 => ?_⟩
  have g2 := g1.trans (Grow.same (O := o1.map Prod.snd) s2)
  cases c with
  | true =>
    refine iteT ⟨fun σ' H' => ∃ ρ' o', Grow (o.map Prod.snd) (o'.map Prod.snd) H H' ∧ REnv X.K H₀ H' σ' ρ' o' ∧ P ρ' ∧ μ ρ' < μ ρ1, fun σ' H' ⟨ρ', o', g, R', p, l⟩ => ⟨_, l, ρ', o', g, R', p, rfl⟩, ?_⟩
    exact ⟨ρ1, o1, R1.to s2, _, h2.1 rfl, fun ρ' σ' H' o' g R' q => ⟨ρ', o', g2.trans g, R', q.1, q.2⟩, fun ρ' σ' H' o' g R' q => k1 ρ' σ' H' o' (g2.trans g) R' q, fun ρ' σ' H' o' g R' q => ⟨ρ', o', g2.trans g, R', q.1, q.2⟩, k4⟩
  | false => exact iteF (k1 ρ1 σ1 H2 o1 g2 (R1.to s2) (h2.2 rfl))

structure ItD (K : PySem.W.Frag) (J : It) (ds : List D) (P : Hp → List Addr → Prop) : Prop where
  go : ∀ (H : Hp) (O : List Addr) (i : Nat) (d : D), P H O → ds[i]? = some d → J.go i H ∧ ∀ x H', J.yld i H x H' → Same H H' ∧ Rep K H' O d x
  stop : ∀ (H : Hp) (O : List Addr), P H O → J.stop ds.length H
  keep : ∀ (O O' : List Addr) (H H' : Hp), P H O → Grow O O' H H' → P H' O'
noncomputable abbrev TID := DE → (List D → Prop) → Prop
noncomputable def liftI (K : PySem.W.Frag) (H₀ : Hp) (t : TID) : TI := fun σ H R => ∃ ρ o, REnv K H₀ H σ ρ o ∧ ∃ φ, t ρ φ ∧ ∀ J ds P H', Same H H' → ItD K J ds P → P H' (o.map Prod.snd) → φ ds → R J H'
noncomputable def EI (G : Hp → Prop) (X : Cx) (tg iter : Expr) (t : TID) : Prop := ∀ H₀ : {H : Hp // G H}, PI X tg iter (liftI X.K H₀.1 t)
noncomputable def sFor (ti : TID) (g : TGD) (tb : TDS) : TDS := fun ρ Z => ti ρ fun ds => ∃ P : Nat → DE → Prop, P 0 ρ ∧ (∀ i d ρ, ds[i]? = some d → P i ρ → g d ρ fun ρ' => tb ρ' { Z with nx := P (i + 1), ct := P (i + 1), bk := Z.nx }) ∧ ∀ ρ, P ds.length ρ → Z.nx ρ
theorem sd_for {tg iter : Expr} {body : List Stmt} {ti : TID} {g2 : TG} {g : TGD} {tb : TDS} (hi : EI Γ X tg iter ti) (hg : PG X tg g2) (hl : GLink X.K g2 g) (hb : SDs Γ X body tb) (hc : X.calm = true := by rfl) (hp : PassesOwn (model X.prog X.w) X.A X.env X.xe := by exact PassesOwn.never)
    (hs : ∀ x, foldedSetIterable iter X.env x = pure x := by intro _; rfl) : SD Γ X (.For tg iter body [] pos) (sFor ti g tb) := fun H₀ => impS (ps_for hp hc (hi H₀) hg (hb H₀) hs) fun D σ H h => by
  obtain ⟨ρ, o, R, Z, hZ, k1, k2, k3, k4⟩ := h
  refine ⟨ρ, o, R, _, hZ, fun J ds PJ H1 s1 I hP ⟨P, p0, turn, fin⟩ => ?_⟩
  refine ⟨fun i m σ' H' => m = ds.length - i ∧ i ≤ ds.length ∧ ∃ ρ' o', Grow (o.map Prod.snd) (o'.map Prod.snd) H1 H' ∧ REnv X.K H₀ H' σ' ρ' o' ∧ P i ρ', ⟨_, rfl, Nat.zero_le _, ρ, o, Grow.refl, R.to s1, p0⟩, ?_⟩
  rintro i m σ' H' ⟨rfl, hi', ρ', o', g', R', p'⟩
  have hP' := I.keep _ _ _ _ hP g'
  have gg : Grow (o.map Prod.snd) (o'.map Prod.snd) H H' := (Grow.same s1).trans g'
  by_cases hlt : i < ds.length
  · have ed : ds[i]? = some ds[i] := by simp [hlt]
    obtain ⟨j1, j2⟩ := I.go H' _ i _ hP' ed
    refine .inr ⟨j1, fun σ2 H2 => ∃ ρ2 o2, Grow (o.map Prod.snd) (o2.map Prod.snd) H1 H2 ∧ REnv X.K H₀ H2 σ2 ρ2 o2 ∧ P (i + 1) ρ2, fun σ2 H2 ⟨ρ2, o2, g2, R2, p2⟩ => ⟨_, (by omega : ds.length - (i + 1) < ds.length - i), rfl, hlt, ρ2, o2, g2, R2, p2⟩, fun x H2 y => ?_⟩
    obtain ⟨s2, rp⟩ := j2 x H2 y
    refine hl H₀.1 H2 σ' ρ' o' _ x _ _ (R'.to s2) rp (turn i _ ρ' ed p') fun ρ3 σ3 R3 q3 => ?_
    have g13 : Grow (o.map Prod.snd) (o'.map Prod.snd) H1 H2 := g'.trans (Grow.same s2)
    have gg3 : Grow (o.map Prod.snd) (o'.map Prod.snd) H H2 := gg.trans (Grow.same s2)
    exact ⟨ρ3, o', R3, _, q3, fun ρ4 σ4 H4 o4 g4 R4 q4 => ⟨ρ4, o4, g13.trans g4, R4, q4⟩, fun ρ4 σ4 H4 o4 g4 R4 q4 => k1 ρ4 σ4 H4 o4 (gg3.trans g4) R4 q4, fun ρ4 σ4 H4 o4 g4 R4 q4 => ⟨ρ4, o4, g13.trans g4, R4, q4⟩, k4⟩
  · have e : i = ds.length := by omega
    subst e
    exact .inl ⟨I.stop H' _ hP', k1 ρ' σ' H' o' gg R' (fin ρ' p')⟩
end
end DL

set_option Elab.async false
set_option linter.all false
set_option maxRecDepth 100000
set_option maxHeartbeats 4000000
namespace DL
open PySem PySem.Spec L2 L3
open PyProof.Rows hiding St
variable {Γ : Hp → Prop}
section
variable {X : Cx} {tg e : Expr} {te : TD} {t : TDs} {pos : Pos}
theorem impI {iter : Expr} {t t' : TI} (h : PI X tg iter t) (i : ∀ σ H R, t' σ H R → t σ H R) : PI X tg iter t' := fun pins s σ H R I q => h pins s σ H R I (i σ H R q)
/-- a value walked -/
noncomputable def PV (X : Cx) (tg : Expr) (r : V → Hp → (It → Hp → Prop) → Prop) : Prop :=
  ∀ (pins : List (Addr × Obj)) (s : Shared) (σ : St) (H : Hp) (x : V) (v : Value) (R : It → Hp → Prop), Inv X pins σ H s → RelV x v → r x H R → wpAny (model X.prog X.w) X.A (pyIter v) (PIE X pins σ tg R) X.xe s
theorem pi_of {l : Expr} {tl : TE} {r : V → Hp → (It → Hp → Prop) → Prop} (hl : PE X l tl) (hv : PV X tg r) : PI X tg l (fun σ H R => tl σ H fun x H1 => r x H1 R) := fun pins s σ H R I h =>
  thn (hl pins s σ H _ I h) fun v s1 ⟨x, H1, I1, r1, q1⟩ => hv pins s1 σ H1 x v R I1 r1 q1
theorem pv_list : PV X tg (fun x H R => ∃ a, x = .ref a ∧ (∃ xs, SqL X.K H a xs) ∧ R (Itl X.K a) H) := by
  intro pins s1 σ H1 x v R I1 r1 q1
  obtain ⟨a, e, ⟨xs, hq⟩, q⟩ := q1
  subst e
  cases r1
  obtain ⟨its, rv, p, hz⟩ := I1.list hq
  refine wpAny_pyIter_list p.isList ?_
  refine ⟨s1.heap.objs.size, [s1.heap.objs.size], _, _, H1, rfl, I1.kept (t' := s1.toks) fun b o e => Heap.get?_push_of_some _ e, turn_list a _, ⟨_, Heap.get?_push_size _ rfl, rfl, rfl⟩, fun b hb => ?_, q⟩
  have e : b = s1.heap.objs.size := by simpa using hb
  subst e
  exact I1.fpOk (Nat.le_refl _) (I1.hok.fresh (Nat.le_refl _))
theorem pv_tup : PV X tg (fun x H R => ∃ a, x = .ref a ∧ (∃ xs, SqT X.K H a xs) ∧ R (Itt X.K a) H) := by
  intro pins s1 σ H1 x v R I1 r1 q1
  obtain ⟨a, e, ⟨xs, hq⟩, q⟩ := q1
  subst e
  cases r1
  obtain ⟨its, rv, p, hz⟩ := I1.tuple hq
  refine wpAny_pyIter_tuple (show s1.heap.IsTuple a its.toArray from p) ?_
  refine ⟨s1.heap.objs.size, [s1.heap.objs.size], _, _, H1, rfl, I1.kept (t' := s1.toks) fun b o e => Heap.get?_push_of_some _ e, turn_tuple a _, ⟨_, Heap.get?_push_size _ rfl, rfl, rfl⟩, fun b hb => ?_, q⟩
  have e : b = s1.heap.objs.size := by simpa using hb
  subst e
  exact I1.fpOk (Nat.le_refl _) (I1.hok.fresh (Nat.le_refl _))
theorem pv_str : PV X tg (fun x H R => ∃ z, x = .str z ∧ R (Itv z.cps.size (SignV z)) H) := by
  intro pins s1 σ H1 x v R I1 r1 q1
  obtain ⟨z, e, q⟩ := q1
  subst e
  obtain ⟨t, rfl⟩ := r1
  have lay : ∀ (T : String), (∀ A : Around, A.handled = none → Walks X.prog X.w A s1.heap.objs.size [s1.heap.objs.size] [s1.heap.objs.size] z.cps.size (SignAt z) (fun i h => h.IsStrIter s1.heap.objs.size T z t i)) →
      (∀ (A : Around) (i : Nat) (s : Shared) (Q : Value → Shared → Prop) (E : Value → Shared → Prop), s.heap.IsStrIter s1.heap.objs.size T z t i → Q (.ref s1.heap.objs.size) s → wpAny (model X.prog X.w) A (pyIter (.ref s1.heap.objs.size)) Q E s) →
      ["enumerate", "zip", "dict_itemiterator", "dict_reverseitemiterator", "odict_iterator", "itertools.zip_longest", "itertools.pairwise"].contains T = false →
      PIE X pins σ tg R (.ref s1.heap.objs.size) { s1 with heap := s1.heap.push { cls := .type T, data := .fields #[.str z t, .int 0 0] } } := fun T W hs hT => by
    have I2 : Inv X pins σ H1 { s1 with heap := s1.heap.push { cls := .type T, data := .fields #[.str z t, .int 0 0] } } := I1.kept (t' := s1.toks) fun b u e => Heap.get?_push_of_some _ e
    refine ⟨s1.heap.objs.size, [s1.heap.objs.size], _, _, H1, rfl, I2, turn_str W hs hT, ⟨_, Heap.get?_push_size _ rfl, rfl, rfl⟩, fun b hb => ?_, q⟩
    have e : b = s1.heap.objs.size := by simpa using hb
    subst e
    exact I1.fpOk (Nat.le_refl _) I1.fresh
  cases ha : z.cps.all (· < 128)
  · exact wpAny_pyIter_wide ha (lay "str_iterator" (fun A hA => Walks.strWide hA _ z t) (fun A i s Q E st q => wpAny_pyIter_striter_wide st q) (by decide))
  · exact wpAny_pyIter_ascii ha (lay "str_ascii_iterator" (fun A hA => Walks.strAscii hA _ z t) (fun A i s Q E st q => wpAny_pyIter_striter_ascii st q) (by decide))
/-- what a list, a tuple, the script, a text has -/
noncomputable def itemsD : D → Option (List D)
  | .lst ds => some ds
  | .tup ds => some ds
  | .scr ns => some (ns.map D.int)
  | .str z => some (z.cps.toList.map fun c => D.str ⟨#[c]⟩)
  | _ => none
noncomputable def iSeq (te : TD) : TID := fun ρ φ => te ρ fun r => (match r.k with | .own => False | _ => True) ∧ match itemsD r.d with
  | some ds => φ ds
  | none => False
theorem it_lst {K : PySem.W.Frag} {a : Addr} {ds : List D} : ItD K (Itl K a) ds (fun H O => ∃ xs, H a = some (.lst xs) ∧ a ∉ O ∧ Reps K H O ds xs) where
  go := fun H O i d ⟨xs, q, n, r⟩ e => by
    obtain ⟨v, ev, rv⟩ := r.get e
    refine ⟨⟨xs, v, SqL.of q, ev⟩, fun x H' y => ?_⟩
    obtain ⟨e1, y⟩ := y
    subst e1
    have := y xs (SqL.of q)
    rw [ev] at this
    cases this
    exact ⟨Same.refl _, rv⟩
  stop := fun H O ⟨xs, q, n, r⟩ => ⟨xs, SqL.of q, by rw [r.length]; exact Nat.le_refl _⟩
  keep := fun O O' H H' ⟨xs, q, n, r⟩ g => ⟨xs, (g.keep _ _ q n).1, (g.keep _ _ q n).2, Reps.grow g _ _ r⟩
theorem it_tup {K : PySem.W.Frag} {a : Addr} {ds : List D} : ItD K (Itt K a) ds (fun H O => ∃ xs, SqT K H a xs ∧ Reps K H O ds xs) where
  go := fun H O i d ⟨xs, q, r⟩ e => by
    obtain ⟨v, ev, rv⟩ := r.get e
    refine ⟨⟨xs, v, q, ev⟩, fun x H' y => ?_⟩
    obtain ⟨e1, y⟩ := y
    subst e1
    have := y xs q
    rw [ev] at this
    cases this
    exact ⟨Same.refl _, rv⟩
  stop := fun H O ⟨xs, q, r⟩ => ⟨xs, q, by rw [r.length]; exact Nat.le_refl _⟩
  keep := fun O O' H H' ⟨xs, q, r⟩ g => ⟨xs, sqT_grow g q, Reps.grow g _ _ r⟩
theorem it_scr {K : PySem.W.Frag} {a : Addr} {ns : List Int} : ItD K (Itl K a) (ns.map D.int) (fun H _ => Scr K H a ns) where
  go := fun H O i d q e => by
    rw [List.getElem?_map] at e
    cases en : ns[i]? with
    | none => rw [en] at e; cases e
    | some n =>
      rw [en] at e
      cases e
      have ev : (ns.map V.int)[i]? = some (.int n) := by rw [List.getElem?_map, en]; rfl
      refine ⟨⟨_, _, q.seq, ev⟩, fun x H' y => ?_⟩
      obtain ⟨e1, y⟩ := y
      subst e1
      have := y _ q.seq
      rw [ev] at this
      cases this
      exact ⟨Same.refl _, rfl⟩
  stop := fun H O q => ⟨_, q.seq, by rw [List.length_map, List.length_map]; exact Nat.le_refl _⟩
  keep := fun O O' H H' q g => scr_grow g q
theorem it_str {K : PySem.W.Frag} {z : Str} : ItD K (Itv z.cps.size (SignV z)) (z.cps.toList.map fun c => D.str ⟨#[c]⟩) (fun _ _ => True) where
  go := fun H O i d _ e => by
    rw [List.getElem?_map] at e
    cases en : z.cps.toList[i]? with
    | none => rw [en] at e; cases e
    | some n =>
      rw [en] at e
      cases e
      have hl := (List.getElem?_eq_some_iff.mp en).1
      refine ⟨(show i < z.cps.size by simpa using hl), fun x H' y => ?_⟩
      obtain ⟨e1, c, hc, ex⟩ := y
      subst e1 ex
      have : z.cps.toList[i]? = some c := by rw [Array.getElem?_toList]; exact hc
      rw [en] at this
      cases this
      exact ⟨Same.refl _, rfl⟩
  stop := fun H O _ => by show _ = _; simp
  keep := fun _ _ _ _ _ _ => trivial
noncomputable def rngD (lo : Int) (n : Nat) : List D := (List.range n).map fun (i : Nat) => D.int (lo + (i : Int))
theorem it_rng {K : PySem.W.Frag} {lo : Int} {n : Nat} : ItD K (Itr lo n) (rngD lo n) (fun _ _ => True) where
  go := fun H O i d _ e => by
    unfold rngD at e
    rw [List.getElem?_map] at e
    cases en : (List.range n)[i]? with
    | none => rw [en] at e; cases e
    | some m =>
      rw [en] at e
      cases e
      have hl := (List.getElem?_eq_some_iff.mp en).1
      rw [List.length_range] at hl
      have : m = i := by
        rw [List.getElem?_range hl] at en
        exact (Option.some.inj en).symm
      subst this
      refine ⟨hl, fun x H' y => ?_⟩
      obtain ⟨e1, ex⟩ := y
      subst e1 ex
      exact ⟨Same.refl _, rfl⟩
  stop := fun H O _ => by show n ≤ _; unfold rngD; simp
  keep := fun _ _ _ _ _ _ => trivial
theorem PV.or {r r' : V → Hp → (It → Hp → Prop) → Prop} (h : PV X tg r) (h' : PV X tg r') : PV X tg (fun x H R => r x H R ∨ r' x H R) := fun pins s σ H x v R I rx q => q.elim (h pins s σ H x v R I rx) (h' pins s σ H x v R I rx)
theorem ei_seq (he : ED Γ X e te) : EI Γ X tg e (iSeq te) := fun H₀ => impI (pi_of (he H₀) (pv_list.or (pv_tup.or pv_str))) fun σ H R q => by
  obtain ⟨ρ, o, RE, φ, hφ, k⟩ := q
  refine ⟨ρ, o, RE, _, hφ, fun v r H1 s1 rv h1 => ?_⟩
  obtain ⟨h0, h1⟩ := h1
  have rp := rv.solid (notOwn h0)
  obtain ⟨kd, d⟩ := r
  cases d with
  | lst ds =>
    obtain ⟨a, xs, rfl, q, n, r⟩ := rp
    exact .inl ⟨a, rfl, ⟨xs, SqL.of q⟩, k _ _ _ H1 s1 it_lst ⟨xs, q, n, r⟩ h1⟩
  | tup ds =>
    obtain ⟨a, xs, rfl, q, r⟩ := rp
    exact .inr (.inl ⟨a, rfl, ⟨xs, q.1⟩, k _ _ _ H1 s1 it_tup ⟨xs, q.1, r⟩ h1⟩)
  | scr ns =>
    obtain ⟨a, rfl, q⟩ := rp
    exact .inl ⟨a, rfl, ⟨_, q.seq⟩, k _ _ _ H1 s1 it_scr q h1⟩
  | str z =>
    cases (show v = _ from rp)
    exact .inr (.inr ⟨z, rfl, k _ _ _ H1 s1 it_str trivial h1⟩)
  | _ => exact h1.elim
noncomputable def iR1 (t : TDs) : TID := fun ρ φ => t ρ fun rs => match rs with
  | [⟨_, .int j⟩] => -(2 ^ 62) ≤ j ∧ j < 2 ^ 62 ∧ φ (rngD 0 j.toNat)
  | _ => False
theorem ei_range1 {a : Expr} {p : Pos} (hm : X.mg "range" = none) (ha : EA Γ X [a] t) (hg : Gl X "range" := by rfl) (hs : starEach [a] X.env = [(false, eval a X.env)] := by rfl) : EI Γ X tg (.Call (.Name "range" p) [a] [] pos) (iR1 t) := fun H₀ => impI (pi_range1 hg hm (ha H₀) hs) fun σ H R q => by
  obtain ⟨ρ, o, RE, φ, hφ, k⟩ := q
  refine ⟨ρ, o, RE, _, hφ, fun vs rs H1 s1 rvs h1 => ?_⟩
  split at h1
  · rename_i kd j
    obtain ⟨v, ws, rfl, rv, rfl⟩ := rvs
    cases (show v = _ from rv.view)
    exact ⟨j, rfl, h1.1, h1.2.1, k _ _ _ H1 s1 it_rng trivial h1.2.2⟩
  · exact h1.elim
end

section
variable {X : Cx} {σ : St} {scope : Scope} {T F : List Str} {js : List Nat} {tg iter elt : Expr} {ifs : List Expr} {pos : Pos} {ti : TID} {g2 : TG} {g : TGD} {tc : TDb} {te : TD}
/-- the names within: the targets unbound, then those of around -/
noncomputable def ρ0 (n : Nat) (js : List Nat) (ρ : DE) : DE := List.replicate n none ++ js.map fun j => slot ρ j
noncomputable def ixO (n : Nat) (js : List Nat) (j : Nat) : Nat := if j ∈ js then n + js.idxOf j else n + js.length + 1 + j
theorem slot_iff : ∀ {ρ : DE} {i : Nat} {r : EV}, slot ρ i = some r ↔ ρ[i]? = some (some r)
  | [], _, _ => by simp [slot]
  | x :: _, 0, _ => by simp [slot]
  | _ :: l, i + 1, r => by rw [slot, List.getElem?_cons_succ]; exact slot_iff (ρ := l)
/-- the frame of the block, and the list D that is gathered -/
theorem renv_block {K : PySem.W.Frag} {H₀ H H' : Hp} {σ : St} {ρ : DE} {o : List (Nat × Addr)} {n : Nat} {js : List Nat} {D : Addr} {ys : List V} (R : REnv K H₀ H σ ρ o) (nd : js.Nodup) (hD : H D = none) (s : Same H H') (hD' : H' D = some (.lst ys)) (Tn : List Str) (hT : Tn.length = n) :
    REnv K H₀ H' (st0 Tn js σ) (ρ0 n js ρ) ((n + js.length, D) :: o.map fun p => (ixO n js p.1, p.2)) := by
  have hO : ((n + js.length, D) :: o.map fun p => (ixO n js p.1, p.2)).map Prod.snd = D :: o.map Prod.snd := by
    rw [List.map_cons, List.map_map]
    rfl
  have g : Grow (o.map Prod.snd) (D :: o.map Prod.snd) H H' := ⟨fun b u h nb => ⟨s b u h, fun z => (List.mem_cons.mp z).elim (fun e => ne_of_none h hD e) nb⟩, fun b xs h => s b _ h, fun b ob u h => s b _ h⟩
  have R' := R.to s
  exact {
    same := R'.same
    fresh := fun p hp => by
      rcases List.mem_cons.mp hp with rfl | hp
      · exact R.same.free hD
      · obtain ⟨q, hq, rfl⟩ := List.mem_map.mp hp
        exact R.fresh q hq
    trk := fun p hp => by
      rcases List.mem_cons.mp hp with rfl | hp
      · exact ⟨_, hD'⟩
      · obtain ⟨q, hq, rfl⟩ := List.mem_map.mp hp
        exact R'.trk q hq
    mtb := fun p hp => by
      rcases List.mem_cons.mp hp with rfl | hp
      · exact ⟨(fun xs z => by rw [hD'] at z; cases z), (fun ob u z => by rw [hD'] at z; cases z)⟩
      · obtain ⟨q, hq, rfl⟩ := List.mem_map.mp hp
        exact R'.mtb q hq
    nda := by
      rw [hO, List.nodup_cons]
      exact ⟨R.ofree hD, R.nda⟩
    len := by
      unfold st0 ρ0
      simp [hT]
    slots := fun i r e => by
      rw [hO]
      unfold ρ0 at e
      have hi : n ≤ i := by
        rcases Nat.lt_or_ge i n with z | z
        · rw [List.getElem?_append_left (by simpa using z), List.getElem?_replicate] at e
          split at e <;> cases e
        · exact z
      rw [List.getElem?_append_right (by simpa using hi), List.length_replicate, List.getElem?_map] at e
      cases ej : js[i - n]? with
      | none => rw [ej] at e; cases e
      | some j =>
        rw [ej] at e
        have e' : slot ρ j = some r := Option.some.inj e
        obtain ⟨v, ev, q⟩ := R.slots j r (slot_eq e')
        refine ⟨v, ?_, ?_⟩
        · unfold st0
          rw [List.getElem?_append_right (by simpa [hT] using hi), List.length_replicate, List.getElem?_map, hT, ej]
          show some ((σ[j]?).join) = _
          rw [ev]
          rfl
        · rcases q with ⟨k, q⟩ | ⟨k, a, e1, m, c⟩
          · exact .inl ⟨k, Rep.grow g _ _ q⟩
          · refine .inr ⟨k, a, e1, List.mem_cons_of_mem _ (List.mem_map.mpr ⟨_, m, ?_⟩), c.grow (fun u q => s _ _ q) g⟩
            have hmem : j ∈ js := List.mem_of_getElem? ej
            have hidx : js.idxOf j = i - n := by
              have h1 := (List.getElem?_eq_some_iff.mp ej)
              have h2 := List.getElem_idxOf (List.idxOf_lt_length_iff.mpr hmem)
              exact (List.getElem_inj nd).mp (h2.trans h1.2.symm)
            show (ixO n js j, a) = (i, a)
            unfold ixO
            rw [if_pos hmem, hidx]
            congr 1
            omega }
noncomputable def bYes : TDb := fun _ φ => φ true
noncomputable def dComp (ti : TID) (n : Nat) (js : List Nat) (g : TGD) (tc : TDb) (te : TD) : TD := fun ρ φ => ti ρ fun ds => ∃ f : D → Option D, ds.length ≤ 100000 ∧
  (∀ d ∈ ds, g d (ρ0 n js ρ) fun ρ' => tc ρ' fun c => (c = true → te ρ' fun r => (match r.k with | .own => False | _ => True) ∧ f d = some r.d) ∧ (c = false → f d = none)) ∧ φ (df (.lst (ds.filterMap f)))
/-- a clause's tests -/
noncomputable def EIf (G : Hp → Prop) (X : Cx) (ifs : List Expr) (t : TDb) : Prop := ∀ H₀ : {H : Hp // G H}, PIf X ifs (liftT X.K H₀.1 t)
theorem eif_nil : EIf Γ X [] bYes := fun H₀ pins s σ H Q I h => by
  obtain ⟨ρ, o, R, φ, hφ, k⟩ := h
  exact pif_nil pins s σ H Q I (k true H (Same.refl H) hφ)
theorem lift_comp {H₀ : Hp} (nd : js.Nodup) (hl : GLink X.K g2 g) : ∀ σ H Q, liftE X.K H₀ (dComp ti T.length js g tc te) σ H Q → tComp (liftI X.K H₀ ti) T js g2 (liftT X.K H₀ tc) (liftE X.K H₀ te) σ H Q := fun σ H Q q => by
    obtain ⟨ρ, o, R, φ, hφ, k⟩ := q
    refine ⟨ρ, o, R, _, hφ, fun J ds P H1 s1 I hP ⟨f, hlen, turn, fin⟩ Da hDa => ?_⟩
    have R1 := R.to s1
    have gD : ∀ {H' : Hp}, Same H1 H' → Grow (o.map Prod.snd) (Da :: o.map Prod.snd) H1 H' := fun s => ⟨fun b u h nb => ⟨s b u h, fun z => (List.mem_cons.mp z).elim (fun e => ne_of_none h hDa e) nb⟩, fun b xs h => s b _ h, fun b ob u h => s b _ h⟩
    refine ⟨fun i m ys H' => m = ds.length - i ∧ i ≤ ds.length ∧ Same H1 H' ∧ H' Da = some (.lst ys) ∧ Reps X.K H' (Da :: o.map Prod.snd) ((ds.take i).filterMap f) ys,
      ⟨_, rfl, Nat.zero_le _, same_new hDa _, upd_same, rfl⟩, ?_⟩
    rintro i m ys H' ⟨rfl, hi', s2, hD', rp⟩
    refine ⟨hD', ?_⟩
    have hP' := I.keep _ _ _ _ hP (gD s2)
    by_cases hlt : i < ds.length
    · have ed : ds[i]? = some ds[i] := by simp [hlt]
      obtain ⟨j1, j2⟩ := I.go H' _ i _ hP' ed
      refine .inr ⟨j1, fun zs H2 => Same H1 H2 ∧ H2 Da = some (.lst zs) ∧ Reps X.K H2 (Da :: o.map Prod.snd) ((ds.take (i + 1)).filterMap f) zs, fun zs H2 ⟨a1, a2, a3⟩ => ⟨_, (by omega : ds.length - (i + 1) < ds.length - i), rfl, hlt, a1, a2, a3⟩, fun x H2 y => ?_⟩
      obtain ⟨s3, rx⟩ := j2 x H2 y
      have s13 := s2.trans s3
      have hD2 := s3 _ _ hD'
      have RB := renv_block (n := T.length) R1 nd hDa s13 hD2 T rfl
      have hO : ((T.length + js.length, Da) :: o.map fun p => (ixO T.length js p.1, p.2)).map Prod.snd = Da :: o.map Prod.snd := by
        rw [List.map_cons, List.map_map]
        rfl
      have tk : (ds.take (i + 1)).filterMap f = (ds.take i).filterMap f ++ (f ds[i]).toList := by
        rw [List.take_succ, ed, List.filterMap_append]
        cases e : f ds[i] <;> simp [e]
      have rpl : ys.length ≤ 100000 := by
        rw [rp.length]
        refine Nat.le_trans (List.length_filterMap_le _ _) ?_
        rw [List.length_take]
        omega
      refine hl H₀ H2 (st0 T js σ) (ρ0 T.length js ρ) _ _ x _ _ RB (by rw [hO]; exact rx) (turn _ (List.getElem_mem hlt)) fun ρ' σ' R' q' => ?_
      refine ⟨ρ', _, R', _, q', fun c H3 s4 h4 => ?_⟩
      have hD3 := s4 _ _ hD2
      cases c with
      | false =>
        refine iteF ⟨s13.trans s4, hD3, ?_⟩
        rw [tk, h4.2 rfl]
        simpa using Reps.grow (Grow.same (s3.trans s4)) _ _ rp
      | true =>
        refine iteT ⟨ρ', _, R'.to s4, _, h4.1 rfl, fun v r H4 s5 rv h5 => ?_⟩
        have hD4 := s5 _ _ hD3
        have rd := rv.solid (notOwn h5.1)
        rw [hO] at rd
        have ne : ∀ b u, H1 b = some u → b ≠ Da := fun b u h => ne_of_none h hDa
        have gu : Grow (Da :: o.map Prod.snd) (Da :: o.map Prod.snd) H4 (upd H4 Da (.lst (ys ++ [v]))) :=
          ⟨fun b u h n => ⟨by rw [upd_ne (fun z => n (List.mem_cons.mpr (.inl z)))]; exact h, n⟩, fun b xs h => by rw [upd_ne (fun z => by rw [z, hD4] at h; cases h)]; exact h, fun b ob u h => by rw [upd_ne (fun z => by rw [z, hD4] at h; cases h)]; exact h⟩
        refine ⟨hD4, Nat.lt_of_le_of_lt rpl (by decide), ⟨fun b u h => ?_, upd_same, ?_⟩⟩
        · rw [upd_ne (ne b u h)]
          exact s5 _ _ (s4 _ _ (s13 b u h))
        · rw [tk, h5.2]
          exact Reps.grow gu _ _ ((Reps.grow (Grow.same (s3.trans (s4.trans s5))) _ _ rp).append (Reps.one rd))
    · have e : i = ds.length := by omega
      subst e
      rw [List.take_length] at rp
      refine .inl ⟨I.stop H' _ hP', ?_⟩
      exact k (.ref Da) (df (.lst (ds.filterMap f))) H' (s1.trans s2) ⟨Da, rfl, s1.free hDa, R.ofree (s1.free hDa), ys, hD', rp⟩ fin
theorem ed_comp (hi : EI Γ X tg iter ti) (S : CompScope X.env.scope scope T F) (hjs : Paired (fun x j => X.N[j]? = some x) F js) (nd : js.Nodup)
    (hg : ∀ cl C fp s H, PG (cxComp X (T ++ F) scope cl C fp s H) tg g2) (hk : GKeep T.length g2) (hl : GLink X.K g2 g)
    (ht : ∀ cl C fp s H, EIf Γ (cxComp X (T ++ F) scope cl C fp s H) ifs tc) (he : ∀ cl C fp s H, ED Γ (cxComp X (T ++ F) scope cl C fp s H) elt te)
    (hc : X.calm = true := by rfl) (hs : ∀ x, foldedSetIterable iter X.env x = pure x := by intro _; rfl) : ED Γ X (.ListComp elt [⟨tg, iter, ifs, 0⟩] scope pos) (dComp ti T.length js g tc te) := fun H₀ =>
  impE (pe_comp (tc := liftT X.K H₀.1 tc) (te := liftE X.K H₀.1 te) hc (hi H₀) S hjs hg hk (fun cl C fp s H => ht cl C fp s H H₀) (fun cl C fp s H => he cl C fp s H H₀) hs) (lift_comp nd hl)
theorem sd_setComp (i : Nat) {y : Str} {py spos : Pos} (hN : X.N.Nodup) (hi : EI Γ X tg iter ti) (S : CompScope X.env.scope scope T F) (hjs : Paired (fun x j => X.N[j]? = some x) F js) (nd : js.Nodup)
    (hg : ∀ cl C fp s H, PG (cxComp X (T ++ F) scope cl C fp s H) tg g2) (hk : GKeep T.length g2) (hl : GLink X.K g2 g)
    (ht : ∀ cl C fp s H, EIf Γ (cxComp X (T ++ F) scope cl C fp s H) ifs tc) (he : ∀ cl C fp s H, ED Γ (cxComp X (T ++ F) scope cl C fp s H) elt te)
    (hc : X.calm = true := by rfl) (hs : ∀ x, foldedSetIterable iter X.env x = pure x := by intro _; rfl) (hy : X.N[i]? = some y := by rfl) (hlo : X.env.scope.names.lookup y = some .local := by rfl) (hsw : swapsWith (.ListComp elt [⟨tg, iter, ifs, 0⟩] scope pos) (some (.Name y py)) spos.line X.env = pure true := by rfl) : SD Γ X (.Assign [.Name y py] (.ListComp elt [⟨tg, iter, ifs, 0⟩] scope pos) spos) (sSet i (dComp ti T.length js g tc te)) := fun H₀ =>
  impS (ps_setComp (tc := liftT X.K H₀.1 tc) (te := liftE X.K H₀.1 te) hc hN hy (.inl hlo) (hi H₀) S hjs hg hk (fun cl C fp s H => ht cl C fp s H H₀) (fun cl C fp s H => he cl C fp s H H₀) hsw hs (.inr hlo)) fun D σ H h => by
    obtain ⟨ρ, o, R, Z, hZ, k1, k2, k3, k4⟩ := h
    refine lift_comp nd hl σ H _ ⟨ρ, o, R, _, hZ, fun v r H1 s1 rv h1 => ?_⟩
    obtain ⟨o', R', g'⟩ := R.put s1 i rv (notOwn h1.1)
    exact k1 _ _ H1 o' g' R' h1.2
end
end DL

set_option Elab.async false
set_option linter.all false
set_option maxRecDepth 100000
set_option maxHeartbeats 4000000
namespace DL
open PySem PySem.Spec L2 L3
open PyProof.Rows hiding St
variable {Γ : Hp → Prop}
section
variable {X : Cx} {x : Str} {e a b : Expr} {es : List Expr} {t : TDs} {ta tb : TD} {p pos : Pos}
/-- what the module's classes have to do with Python's own: nothing -/
structure Kit (K : PySem.W.Frag) : Prop where
  ne : ∀ q ∈ ([("NoneType", "int"), ("NoneType", "bool"), ("NoneType", "str"), ("NoneType", "tuple"), ("NoneType", "list"), ("NoneType", "dict"), ("bool", "str"), ("bool", "tuple"), ("bool", "list"), ("bool", "dict"),
    ("int", "bool"), ("int", "str"), ("int", "tuple"), ("int", "list"), ("int", "dict"), ("str", "int"), ("str", "bool"), ("str", "tuple"), ("str", "list"), ("str", "dict"),
    ("tuple", "int"), ("tuple", "bool"), ("tuple", "str"), ("tuple", "list"), ("tuple", "dict"), ("list", "int"), ("list", "bool"), ("list", "str"), ("list", "tuple"), ("list", "dict"),
    ("dict", "int"), ("dict", "bool"), ("dict", "str"), ("dict", "tuple"), ("dict", "list")] : List (String × String)), PySem.W.kitOne K (.type q.1) (.type q.2) = some false
  bi : PySem.W.kitOne K (.type "bool") (.type "int") = some true
theorem kit_all {K : PySem.W.Frag} : Kit K := by
  constructor
  · intro q hq
    simp only [List.mem_cons, List.not_mem_nil, or_false] at hq
    rcases hq with rfl | rfl | rfl | rfl | rfl | rfl | rfl | rfl | rfl | rfl | rfl | rfl | rfl | rfl | rfl | rfl | rfl | rfl | rfl | rfl | rfl | rfl | rfl | rfl | rfl | rfl | rfl | rfl | rfl | rfl | rfl | rfl | rfl | rfl | rfl <;> kernel_rfl
  · kernel_rfl
theorem kit_same {K : PySem.W.Frag} {T : String} : PySem.W.kitOne K (.type T) (.type T) = some true := by
  unfold PySem.W.kitOne
  rw [if_pos (by simp)]
theorem boot_int' : bootBuiltins "int" = some (.type "int") := by decide +kernel
theorem boot_bool' : bootBuiltins "bool" = some (.type "bool") := by decide +kernel
theorem boot_tuple' : bootBuiltins "tuple" = some (.type "tuple") := by decide +kernel
theorem boot_list' : bootBuiltins "list" = some (.type "list") := by decide +kernel
theorem boot_dict' : bootBuiltins "dict" = some (.type "dict") := by decide +kernel
theorem boot_isinstance' : bootBuiltins "isinstance" = some (.builtin "isinstance") := by decide +kernel
theorem kit_ne {K : PySem.W.Frag} (a T : String) (h : (a, T) ∈ ([("NoneType", "int"), ("NoneType", "bool"), ("NoneType", "str"), ("NoneType", "tuple"), ("NoneType", "list"), ("NoneType", "dict"), ("bool", "str"), ("bool", "tuple"), ("bool", "list"), ("bool", "dict"),
    ("int", "bool"), ("int", "str"), ("int", "tuple"), ("int", "list"), ("int", "dict"), ("str", "int"), ("str", "bool"), ("str", "tuple"), ("str", "list"), ("str", "dict"),
    ("tuple", "int"), ("tuple", "bool"), ("tuple", "str"), ("tuple", "list"), ("tuple", "dict"), ("list", "int"), ("list", "bool"), ("list", "str"), ("list", "tuple"), ("list", "dict"),
    ("dict", "int"), ("dict", "bool"), ("dict", "str"), ("dict", "tuple"), ("dict", "list")] : List (String × String))) : PySem.W.kitOne K (.type a) (.type T) = some false := kit_all.ne (a, T) h
noncomputable def tyName : D → String
  | .non => "NoneType"
  | .bl _ => "bool"
  | .int _ => "int"
  | .str _ => "str"
  | .tup _ => "tuple"
  | .lst _ => "list"
  | .dk _ _ => "dict"
  | .dt _ _ => "dict"
  | .ty _ => "type"
  | .cn _ => "tuple"
  | .scr _ => "list"
  | .exc _ => "exc"
  | .fd _ => "exc"
noncomputable def kitPairs : List (String × String) := [("NoneType", "int"), ("NoneType", "bool"), ("NoneType", "str"), ("NoneType", "tuple"), ("NoneType", "list"), ("NoneType", "dict"), ("bool", "str"), ("bool", "tuple"), ("bool", "list"), ("bool", "dict"),
    ("int", "bool"), ("int", "str"), ("int", "tuple"), ("int", "list"), ("int", "dict"), ("str", "int"), ("str", "bool"), ("str", "tuple"), ("str", "list"), ("str", "dict"),
    ("tuple", "int"), ("tuple", "bool"), ("tuple", "str"), ("tuple", "list"), ("tuple", "dict"), ("list", "int"), ("list", "bool"), ("list", "str"), ("list", "tuple"), ("list", "dict"),
    ("dict", "int"), ("dict", "bool"), ("dict", "str"), ("dict", "tuple"), ("dict", "list")]
noncomputable def isN (a T : String) : Option Bool := if a = T then some true else if a = "bool" ∧ T = "int" then some true else if (a, T) ∈ kitPairs then some false else none
/-- isinstance(x, T) -/
noncomputable def isT (d : D) (T : String) : Option Bool := match d with
  | .ty _ => none
  | .cn _ => none
  | .scr _ => none
  | .exc _ => none
  | .fd _ => none
  | d => isN (tyName d) T
theorem isN_kit {K : PySem.W.Frag} {a T : String} {b : Bool} (h : isN a T = some b) : PySem.W.kitOne K (.type a) (.type T) = some b := by
  unfold isN at h
  split at h
  · rename_i q
    cases h
    subst q
    exact kit_same
  · split at h
    · rename_i q
      cases h
      obtain ⟨rfl, rfl⟩ := q
      exact kit_all.bi
    · split at h
      · rename_i q
        cases h
        exact kit_ne a T q
      · cases h
theorem isT_kit {K : PySem.W.Frag} {d : D} {T : String} {b : Bool} (h : isT d T = some b) : PySem.W.kitOne K (.type (tyName d)) (.type T) = some b := by
  cases d with
  | ty _ => cases h
  | cn _ => cases h
  | scr _ => cases h
  | exc _ => cases h
  | fd _ => cases h
  | _ => exact isN_kit h
theorem isT_non_int : isT .non "int" = some false := (by decide : isN "NoneType" "int" = some false)
theorem isT_non_bool : isT .non "bool" = some false := (by decide : isN "NoneType" "bool" = some false)
theorem isT_non_tuple : isT .non "tuple" = some false := (by decide : isN "NoneType" "tuple" = some false)
theorem isT_bl_int (b : Bool) : isT (.bl b) "int" = some true := (by decide : isN "bool" "int" = some true)
theorem isT_bl_bool (b : Bool) : isT (.bl b) "bool" = some true := (by decide : isN "bool" "bool" = some true)
theorem isT_bl_tuple (b : Bool) : isT (.bl b) "tuple" = some false := (by decide : isN "bool" "tuple" = some false)
theorem isT_int_int (i : Int) : isT (.int i) "int" = some true := (by decide : isN "int" "int" = some true)
theorem isT_int_bool (i : Int) : isT (.int i) "bool" = some false := (by decide : isN "int" "bool" = some false)
theorem isT_int_str (i : Int) : isT (.int i) "str" = some false := (by decide : isN "int" "str" = some false)
theorem isT_int_tuple (i : Int) : isT (.int i) "tuple" = some false := (by decide : isN "int" "tuple" = some false)
theorem isT_str_int (x : Str) : isT (.str x) "int" = some false := (by decide : isN "str" "int" = some false)
theorem isT_str_bool (x : Str) : isT (.str x) "bool" = some false := (by decide : isN "str" "bool" = some false)
theorem isT_str_str (x : Str) : isT (.str x) "str" = some true := (by decide : isN "str" "str" = some true)
theorem isT_str_tuple (x : Str) : isT (.str x) "tuple" = some false := (by decide : isN "str" "tuple" = some false)
theorem isT_tup_int (l : List D) : isT (.tup l) "int" = some false := (by decide : isN "tuple" "int" = some false)
theorem isT_tup_bool (l : List D) : isT (.tup l) "bool" = some false := (by decide : isN "tuple" "bool" = some false)
theorem isT_tup_tuple (l : List D) : isT (.tup l) "tuple" = some true := (by decide : isN "tuple" "tuple" = some true)
theorem isT_tup_list (l : List D) : isT (.tup l) "list" = some false := (by decide : isN "tuple" "list" = some false)
theorem isT_lst_int (l : List D) : isT (.lst l) "int" = some false := (by decide : isN "list" "int" = some false)
theorem isT_lst_bool (l : List D) : isT (.lst l) "bool" = some false := (by decide : isN "list" "bool" = some false)
theorem isT_lst_tuple (l : List D) : isT (.lst l) "tuple" = some false := (by decide : isN "list" "tuple" = some false)
theorem isT_lst_list (l : List D) : isT (.lst l) "list" = some true := (by decide : isN "list" "list" = some true)
theorem isT_dk_int (k : List Key) (l : List D) : isT (.dk k l) "int" = some false := (by decide : isN "dict" "int" = some false)
theorem isT_dk_bool (k : List Key) (l : List D) : isT (.dk k l) "bool" = some false := (by decide : isN "dict" "bool" = some false)
theorem isT_dk_tuple (k : List Key) (l : List D) : isT (.dk k l) "tuple" = some false := (by decide : isN "dict" "tuple" = some false)
theorem isT_dk_dict (k : List Key) (l : List D) : isT (.dk k l) "dict" = some true := (by decide : isN "dict" "dict" = some true)
theorem call_isD : CallR X (.builtin "isinstance") (fun xs H Q => ∃ d x T b, xs = [x, .ty T] ∧ Rep X.K H [] d x ∧ isT d T = some b ∧ Q (.bl b) H) := by
  intro pins s σ H xs us Q I r h
  obtain ⟨d, x, T, b, rfl, rp, e, q⟩ := h
  obtain ⟨u, v, rfl, ru, rv⟩ := vals2 r
  cases rv
  have ek := isT_kit (K := X.K) e
  have fin : ∀ tk, EP X pins σ Q (.bool b) { s with toks := tk } := fun tk => ⟨.bl b, H, I.tok tk, rfl, q⟩
  cases d with
  | non => cases (show x = _ from rp); exact isinst_ok I ru .non ek fin
  | bl c => cases (show x = _ from rp); exact isinst_ok I ru (.bl c) ek fin
  | int c => cases (show x = _ from rp); exact isinst_ok I ru (.int c) ek fin
  | str c => cases (show x = _ from rp); exact isinst_ok I ru (.str c) ek fin
  | ty _ => cases e
  | cn _ => cases e
  | scr _ => cases e
  | exc _ => cases e
  | fd _ => cases e
  | lst ds => obtain ⟨a, xs, rfl, q1, _⟩ := rp; exact isinst_ok I ru (.lst q1) ek fin
  | dk ks ds => obtain ⟨a, xs, rfl, q1, _⟩ := rp; exact isinst_ok I ru (.dK q1) ek fin
  | dt ks ds => obtain ⟨a, xs, rfl, q1, _⟩ := rp; exact isinst_ok I ru (.dT q1) ek fin
  | tup ds =>
    obtain ⟨a, xs, rfl, q1, _⟩ := rp
    cases (show u = Value.ref a from ru)
    obtain ⟨its, _, p, _⟩ := I.tuple q1.1
    obtain ⟨o, h1, h2, _⟩ := p
    exact PySem.W.kia_one PySem.W.kitx_tuple I.kIn ⟨o, h1, h2⟩ ek (fun z => nomatch z) fin
noncomputable def sIsI : FT := fun ds φ => match ds with
  | [d, .ty T] => match isT d T with
    | some b => φ (dv (.bl b))
    | none => False
  | _ => False
theorem ed_isinst (hm : X.mg "isinstance" = none) (ha : EA Γ X (e :: es) t) (hg : Gl X "isinstance" := by rfl) (he : starEach (e :: es) X.env = (false, eval e X.env) :: starEach es X.env := by rfl) (hpl : (backTo pos (starEach es X.env)).any (·.1) = false := by rfl) : ED Γ X (.Call (.Name "isinstance" p) (e :: es) [] pos) (dCB sIsI t) :=
  ed_callB call_isD (fun H O ds vs φ Q ho hv h k => by
    unfold sIsI at h
    split at h
    · split at h
      · rename_i d T b eb
        obtain ⟨v, ws, rfl, h1, v2, ws2, rfl, h2, rfl⟩ := hv
        cases (show v2 = _ from h2)
        exact ⟨_, v, _, _, rfl, h1.rep0, eb, k _ _ H (Same.refl H) (by exact rfl) h⟩
      · exact h.elim
    · exact h.elim) hm boot_isinstance' ha hg (by decide) (by decide) he hpl
noncomputable def sTupC : FT := fun ds φ => match ds with
  | [.lst l] => φ (dv (.tup l))
  | [.tup l] => φ (dv (.tup l))
  | _ => False
theorem ed_tupleC (hm : X.mg "tuple" = none) (ha : EA Γ X (e :: es) t) (hg : Gl X "tuple" := by rfl) (he : starEach (e :: es) X.env = (false, eval e X.env) :: starEach es X.env := by rfl) (hpl : (backTo pos (starEach es X.env)).any (·.1) = false := by rfl) : ED Γ X (.Call (.Name "tuple" p) (e :: es) [] pos) (dCB sTupC t) :=
  ed_callTy call_tuple_of (fun H O ds vs φ Q ho hv h k => by
    unfold sTupC at h
    split at h
    · obtain ⟨v, ws, rfl, ⟨a, xs, rfl, q, r⟩, rfl⟩ := hv
      exact ⟨a, xs, rfl, .inl ⟨SqL.of q, fun l hl => k _ _ _ (same_new hl _) (rv_tup hl r) h⟩⟩
    · obtain ⟨v, ws, rfl, ⟨a, xs, rfl, q, r⟩, rfl⟩ := hv
      exact ⟨a, xs, rfl, .inr ⟨q.1, k (.ref a) (dv (.tup _)) H (Same.refl H) ⟨a, xs, rfl, q, r⟩ h⟩⟩
    · exact h.elim) hm boot_tuple' ha hg (by decide) (by decide) he hpl
noncomputable def sListC : FT := fun ds φ => match ds with
  | [.lst l] => φ (df (.lst l))
  | [.tup l] => φ (df (.lst l))
  | _ => False
theorem ed_listC (hm : X.mg "list" = none) (ha : EA Γ X (e :: es) t) (hg : Gl X "list" := by rfl) (he : starEach (e :: es) X.env = (false, eval e X.env) :: starEach es X.env := by rfl) (hpl : (backTo pos (starEach es X.env)).any (·.1) = false := by rfl) : ED Γ X (.Call (.Name "list" p) (e :: es) [] pos) (dCB sListC t) :=
  ed_callTy call_list_of (fun H O ds vs φ Q ho hv h k => by
    unfold sListC at h
    split at h
    · obtain ⟨v, ws, rfl, ⟨a, xs, rfl, q, r⟩, rfl⟩ := hv
      exact ⟨a, xs, rfl, .inl (SqL.of q), fun l hl => k _ _ _ (same_new hl _) (rv_lst ho hl r) h⟩
    · obtain ⟨v, ws, rfl, ⟨a, xs, rfl, q, r⟩, rfl⟩ := hv
      exact ⟨a, xs, rfl, .inr q.1, fun l hl => k _ _ _ (same_new hl _) (rv_lst ho hl r) h⟩
    · exact h.elim) hm boot_list' ha hg (by decide) (by decide) he hpl
noncomputable def sIntC : FT := fun ds φ => match ds with
  | [.bl b] => φ (dv (.int (if b then 1 else 0)))
  | [.int i] => φ (dv (.int i))
  | _ => False
theorem ed_intC (hm : X.mg "int" = none) (ha : EA Γ X (e :: es) t) (hg : Gl X "int" := by rfl) (he : starEach (e :: es) X.env = (false, eval e X.env) :: starEach es X.env := by rfl) (hpl : (backTo pos (starEach es X.env)).any (·.1) = false := by rfl) : ED Γ X (.Call (.Name "int" p) (e :: es) [] pos) (dCB sIntC t) :=
  ed_callTy call_int1 (fun H O ds vs φ Q ho hv h k => by
    unfold sIntC at h
    split at h
    · obtain ⟨v, ws, rfl, h1, rfl⟩ := hv
      cases (show v = _ from h1)
      exact .inr ⟨_, rfl, k _ _ H (Same.refl H) (by exact rfl) h⟩
    · obtain ⟨v, ws, rfl, h1, rfl⟩ := hv
      cases (show v = _ from h1)
      exact .inl ⟨_, rfl, k _ _ H (Same.refl H) (by exact rfl) h⟩
    · exact h.elim) hm boot_int' ha hg (by decide) (by decide) he hpl
end

section
variable {X : Cx} {x : Str} {e : Expr} {te : TD} {apos np cpos pos : Pos}
noncomputable def sApp (i : Nat) (te : TD) : TDS := fun ρ Z => match slot ρ i with
  | some ⟨.own, .lst ds⟩ => te ρ fun r => (match r.k with | .own => False | _ => True) ∧ ds.length ≤ 100000 ∧ Z.nx (setS ρ i (dO (.lst (ds ++ [r.d]))))
  | _ => False
theorem sd_append (i : Nat) (he : ED Γ X e te) (hN : X.N[i]? = some x := by rfl) (hv : Vis X.env.scope x := by first | exact Or.inl rfl | exact Or.inr (Or.inl rfl) | exact Or.inr (Or.inr rfl)) (hd : (x == ("__debug__" : Str)) = false := by decide)
    (hcd : (x == ("__classdict__" : Str)) = false := by decide)
    (hp : ∀ {ta tb : TE}, PE X (.Name x np) ta → PE X e tb → PS X (.Expr (.Call (.Attribute (.Name x np) "append" apos) [e] [] cpos) pos) (tDrop (tBM X.K "list" rAppend ta (tCons tb tNil))) := by
      intro ta tb h1 h2
      exact ps_expr (pe_bm PySem.F.plainAttrs_list PySem.F.slot_list_append PySem.F.type_list_append mt_append h1 (pa_cons h2 pa_nil))) :
    SD Γ X (.Expr (.Call (.Attribute (.Name x np) "append" apos) [e] [] cpos) pos) (sApp i te) := fun H₀ => impS (hp (pe_var hN hv hd hcd) (he H₀)) fun D σ H h => by
  obtain ⟨ρ, o, R, Z, hZ, k1, k2, k3, k4⟩ := h
  unfold sApp at hZ
  split at hZ
  · rename_i ds es
    obtain ⟨v0, ev0, q0⟩ := R.slots i _ (slot_eq es)
    rcases q0 with ⟨k, _⟩ | ⟨_, a, rfl, m, c⟩
    · cases k
    obtain ⟨xs, hx, rx⟩ := c
    refine ⟨.ref a, ev0, .inl ⟨rfl, xs, SqL.of hx⟩, ?_⟩
    refine ⟨ρ, o, R, _, hZ, fun v r H1 s1 rv h1 => ?_⟩
    obtain ⟨h0, hl, hn⟩ := h1
    have hx1 := s1 _ _ hx
    have R1 := R.to s1
    have rx1 := Reps.grow (Grow.same s1) _ _ rx
    refine ⟨a, xs, v, rfl, rfl, hx1, ?_, ?_⟩
    · rw [rx.length]
      exact Nat.lt_of_le_of_lt hl (by decide)
    · obtain ⟨R2, g2⟩ := R1.chg (d' := .lst (ds ++ [r.d])) (ho := .lst (xs ++ [v])) (slot_eq es) ev0 m ⟨fun _ z => (by cases z), fun _ _ z => (by cases z)⟩ fun gr => ⟨xs ++ [v], upd_same, gr _ _ (rx1.append (Reps.one (rv.solid (notOwn h0))))⟩
      exact k1 _ σ _ o ((Grow.same s1).trans g2) R2 hn
  · exact hZ.elim
end

section
variable {P : Program} {w : World} {K : PySem.W.Frag} {mg : Str → Option Value} {base : Heap}
noncomputable def startD (n : Nat) (ds : List D) : DE := ds.map (fun d => some (dv d)) ++ List.replicate (n - ds.length) none
theorem fn_okD {x qual : Str} {st : Stmt} {f : Addr} {fd : FuncData} {N ps : List Str} {k : Nat} {T : FT} (F : Fun K x qual st f fd) (S : FnScope N ps (defScope st))
    (hbody : ∀ (cdv : Value) (A : Around) (outer : List Env) (s : Shared) (H : Hp) (E : XK) (ds : List D) (φ : EV → Prop), Room k (A.deeper (envOfC qual (defScope st) s.heap.objs.size f cdv)) → ds.length = ps.length → T ds φ →
      ∃ t, SDs (fun _ => True) (cxOf CX0 P w K mg base N qual (defScope st) f cdv A outer s H E).nox (defBody st) t ∧ t (startD N.length ds) { nx := fun _ => φ (dv .non), rt := fun r => pureEV r ∧ φ r }) : FnOk P w K mg base CX0 (k + 1) f fd ps (spD K ps.length T) := by
  refine F.ok S (fun vs H Q E h => ?_) (fun cdv A outer s H vs Q E hr h => ?_)
  · obtain ⟨ds, φ, hl, r, _⟩ := h
    rw [r.length, hl]
  · obtain ⟨ds, φ, hl, r, hT, kk⟩ := h
    obtain ⟨t, ht, hq⟩ := hbody cdv A outer s H E ds φ hr hl hT
    have rl := r.length
    refine ⟨liftS K H t, ht ⟨H, trivial⟩, startD N.length ds, [], ⟨Same.refl H, (fun _ z => absurd z (by simp)), (fun _ z => absurd z (by simp)), (fun _ z => absurd z (by simp)), List.nodup_nil, fun i r' e => ?_, ?_⟩, _, hq, fun ρ' σ' H' o' g R' q => ?_, fun _ _ _ _ _ _ q => q.elim, fun _ _ _ _ _ _ q => q.elim, fun v r' H' s' rv q => kk v r' H' s' rv q.1 q.2⟩
    · unfold startD at e
      rcases Nat.lt_or_ge i ds.length with hi | hi
      · rw [List.getElem?_append_left (by simpa using hi), List.getElem?_map] at e
        have ed : ds[i]? = some ds[i] := by simp [hi]
        rw [ed] at e
        have e' : some (dv ds[i]) = some r' := Option.some.inj e
        cases e'
        obtain ⟨v, ev, rv⟩ := r.get ed
        refine ⟨v, ?_, .inl ⟨rfl, rv⟩⟩
        unfold L2.start
        rw [List.getElem?_append_left (by rw [List.length_map, rl]; exact hi), List.getElem?_map, ev]
        rfl
      · rw [List.getElem?_append_right (by simpa using hi), List.getElem?_replicate] at e
        split at e <;> cases e
    · unfold L2.start startD
      simp [rl]
    · exact kk .non (dv .non) H' R'.same rfl trivial q
theorem fd_of {x qual : Str} {st : Stmt} {f : Addr} {fd : FuncData} {N ps : List Str} {k : Nat} {T : FT} (F : Fun K x qual st f fd) (S : FnScope N ps (defScope st)) (b : Binds K fd ps []) (m : mg x = some (.ref f))
    (hbody : ∀ (cdv : Value) (A : Around) (outer : List Env) (s : Shared) (H : Hp) (E : XK) (ds : List D) (φ : EV → Prop), Room k (A.deeper (envOfC qual (defScope st) s.heap.objs.size f cdv)) → ds.length = ps.length → T ds φ →
      ∃ t, SDs (fun _ => True) (cxOf CX0 P w K mg base N qual (defScope st) f cdv A outer s H E).nox (defBody st) t ∧ t (startD N.length ds) { nx := fun _ => φ (dv .non), rt := fun r => pureEV r ∧ φ r }) : FD P w K mg base (k + 1) x ps T := ⟨f, fd, fn_okD F S hbody, b, F.kp, m⟩

end
/-- the law: True of every script -/
noncomputable def lawT : FT := fun ds φ => ∃ ns : List Int, ds = [.scr ns] ∧ ns.length ≤ 63 ∧ φ (dv (.bl true))
theorem walkD {l : PySem.W.OpenLaw} {q : Program} {loose : List Str} {XP : (Str → Option Value) → Heap → Prop} {YP : World → Heap → Prop} {d : DefRec} {K : Params → PySem.W.Frag} {x : Str} {k : Nat} (hn : l.most = some 63) (hdf : d.params.defaults = []) (hr : Room k callerA)
    (hY : ∀ (w : World) (h : Heap), YP w h → (K w.params).In h)
    (F : ∀ (w : World) (mg : Str → Option Value) (fa : Addr) (h : Heap), (K w.params).In h → h.Ns mainGlobals mg → mg d.name = some (.ref fa) →
      ∃ fd : FuncData, (∀ (s : Shared) (u : Value), BindsTo s fd ⟨[u], []⟩ [(x, u)]) ∧ ∀ base : Heap, (K w.params).In base → base.Ns mainGlobals mg → FnOk l.prog w (K w.params) mg base CX0 k fa fd [x] (spD (K w.params) 1 lawT)) :
    PySem.W.WalkO q loose XP YP l.row.toRowW d [] (fun f vs => PySem.call f vs) :=
  L2.walk_of (n := 63) (k := k) (x := x) (CX := fun _ => CX0) (sp := fun w => spD (K w.params) 1 lawT) hn (by decide) hdf hr hY F (fun w H a ns hl ho hS => by
    refine ⟨[.scr ns], fun r => r = dv (.bl true), rfl, ⟨.ref a, [], rfl, ⟨a, rfl, ?_⟩, rfl⟩, ⟨ns, rfl, hl, rfl⟩, fun v r H' s rv p e => by subst e; exact rv⟩
    rcases hS with (h | ⟨o, h⟩) | h
    · rcases ho a with z | ⟨o, xs, z⟩
      · rw [z] at h; cases h
      · rw [z] at h; cases h
    · exact .inl ⟨o, h⟩
    · exact .inr h) fun _ _ _ _ _ z => z
end DL

set_option Elab.async false
set_option linter.all false
set_option maxRecDepth 100000
set_option maxHeartbeats 4000000
namespace DL
theorem fmod_lt (a b : Int) (h : b ≠ 0) : (a.fmod b).natAbs < b.natAbs := by
  rcases Int.lt_or_lt_of_ne h with hb | hb
  · have e : a.fmod b = -((-a).fmod (-b)) := by rw [Int.neg_fmod_neg]; omega
    have h1 := Int.fmod_nonneg_of_pos (-a) (show (0 : Int) < -b by omega)
    have h2 := Int.fmod_lt_of_pos (-a) (show (0 : Int) < -b by omega)
    omega
  · have h1 := Int.fmod_nonneg_of_pos a hb
    have h2 := Int.fmod_lt_of_pos a hb
    omega
theorem gcd_fmod (a b : Int) : Int.gcd b (a.fmod b) = Int.gcd a b := by
  rw [Int.fmod_def, Int.gcd_sub_mul_left_right, Int.gcd_comm]
/-- what ratio makes of two numbers -/
noncomputable def sg (t b : Int) : Int := if b < 0 then -(Int.gcd t b : Int) else Int.gcd t b
noncomputable def rt (t b : Int) : Int × Int := (t.fdiv (sg t b), b.fdiv (sg t b))
structure RtOk (t b p q : Int) : Prop where
  cross : p * b = t * q
  pos : 0 < q
  one : Int.gcd p q = 1
  lp : p.natAbs ≤ t.natAbs
  lq : q.natAbs ≤ b.natAbs
theorem gcd_pos {t b : Int} (h : b ≠ 0) : 0 < (Int.gcd t b : Int) := by
  have := Int.gcd_pos_of_ne_zero_right t h
  omega
theorem sg_ne {t b : Int} (h : b ≠ 0) : sg t b ≠ 0 := by
  have := gcd_pos (t := t) h
  unfold sg
  split <;> omega
theorem rt_ok {t b : Int} (h : b ≠ 0) : RtOk t b (rt t b).1 (rt t b).2 := by
  have hg := gcd_pos (t := t) h
  have hs := sg_ne (t := t) h
  have hsa : (sg t b).natAbs = Int.gcd t b := by unfold sg; split <;> omega
  have d1 : sg t b ∣ t := by
    have := Int.gcd_dvd_left t b
    unfold sg
    split
    · exact Int.neg_dvd.mpr this
    · exact this
  have d2 : sg t b ∣ b := by
    have := Int.gcd_dvd_right t b
    unfold sg
    split
    · exact Int.neg_dvd.mpr this
    · exact this
  have e1 : (rt t b).1 * sg t b = t := by
    show t.fdiv (sg t b) * sg t b = t
    rw [Int.fdiv_eq_ediv_of_dvd d1]
    exact Int.ediv_mul_cancel d1
  have e2 : (rt t b).2 * sg t b = b := by
    show b.fdiv (sg t b) * sg t b = b
    rw [Int.fdiv_eq_ediv_of_dvd d2]
    exact Int.ediv_mul_cancel d2
  generalize (rt t b).1 = p at *
  generalize (rt t b).2 = q at *
  have hgcd : Int.gcd p q = 1 := by
    have e : Int.gcd (p * sg t b) (q * sg t b) = Int.gcd p q * (sg t b).natAbs := Int.gcd_mul_right ..
    rw [e1, e2, hsa] at e
    have hp : 0 < Int.gcd t b := by omega
    exact Nat.eq_of_mul_eq_mul_right hp (by omega)
  have hq : 0 < q := by
    rcases Int.lt_trichotomy b 0 with hb | hb | hb
    · have : sg t b < 0 := by unfold sg; rw [if_pos hb]; omega
      rcases Int.lt_trichotomy q 0 with z | z | z
      · have := Int.mul_pos_of_neg_of_neg z this; omega
      · subst z; omega
      · exact z
    · exact absurd hb h
    · have : 0 < sg t b := by unfold sg; rw [if_neg (by omega)]; omega
      rcases Int.lt_trichotomy q 0 with z | z | z
      · have := Int.mul_neg_of_neg_of_pos z this; omega
      · subst z; omega
      · exact z
  refine ⟨?_, hq, hgcd, ?_, ?_⟩
  · calc p * b = p * (q * sg t b) := by rw [e2]
      _ = (p * sg t b) * q := by rw [Int.mul_comm q, Int.mul_assoc]
      _ = t * q := by rw [e1]
  · rw [← e1, Int.natAbs_mul]
    exact Nat.le_mul_of_pos_right _ (by omega)
  · rw [← e2, Int.natAbs_mul]
    exact Nat.le_mul_of_pos_right _ (by omega)
/-- two in lowest terms that are alike are one -/
theorem low_eq {p q p' q' : Int} (h1 : Int.gcd p q = 1) (h2 : Int.gcd p' q' = 1) (hq : 0 < q) (hq' : 0 < q') (h : p * q' = p' * q) : p = p' ∧ q = q' := by
  have dq : q ∣ q' := by
    have : q ∣ q' * p := ⟨p', by rw [Int.mul_comm, h, Int.mul_comm]⟩
    have z := Int.dvd_mul_gcd_iff_dvd_mul.mpr this
    rw [Int.gcd_comm, h1] at z
    simpa using z
  have dq' : q' ∣ q := by
    have : q' ∣ q * p' := ⟨p, by rw [Int.mul_comm, ← h, Int.mul_comm]⟩
    have z := Int.dvd_mul_gcd_iff_dvd_mul.mpr this
    rw [Int.gcd_comm, h2] at z
    simpa using z
  have e : q = q' := Int.le_antisymm (Int.le_of_dvd hq' dq) (Int.le_of_dvd hq dq')
  subst e
  exact ⟨Int.eq_of_mul_eq_mul_right (by omega) h, rfl⟩
end DL
namespace DL
open PySem PySem.Spec L2 L3
open PyProof.Rows hiding St
variable {Γ : Hp → Prop}
open PySem.Builtin.Int (intBits)
theorem fdOk {i j : Int} {m : Nat} (h : j ≠ 0) (hb : intBits j ≤ m) (hm : m ≤ 8999 := by omega) : FdOk i j := by
  refine ⟨h, ?_⟩
  unfold intBits at hb
  rw [if_neg (by simpa using h)] at hb
  omega
end DL
namespace DL
open PySem PySem.Spec L2 L3
open PyProof.Rows hiding St
open PySem.Builtin.Int (intBits)
theorem okD_int {n : Nat} {i : Int} : okD n (.int i) = True := by cases n <;> rfl
theorem okD_bl {n : Nat} {i : Bool} : okD n (.bl i) = True := by cases n <;> rfl
theorem okD_str {n : Nat} {i : Str} : okD n (.str i) = True := by cases n <;> rfl
theorem okD_non {n : Nat} : okD n .non = True := by cases n <;> rfl
theorem eqD_int {a b : Int} : eqD (.int a) (.int b) = (a == b) := rfl
theorem eqD_str {a b : Str} : eqD (.str a) (.str b) = (a == b) := rfl
theorem eqD_bl {a b : Bool} : eqD (.bl a) (.bl b) = (a == b) := rfl
theorem abs_eq (x : Int) : (if x < 0 then -x else x) = (x.natAbs : Int) := by split <;> omega
/-- two numbers -/
noncomputable def w2 (g : Int → Int → (EV → Prop) → Prop) : FT := fun ds φ => match ds with
  | [.int a, .int b] => g a b φ
  | _ => False
theorem w2_of {g : Int → Int → (EV → Prop) → Prop} {ds : List D} {φ : EV → Prop} (h : w2 g ds φ) : ∃ a b, ds = [.int a, .int b] ∧ g a b φ := by
  unfold w2 at h
  split at h
  · exact ⟨_, _, rfl, h⟩
  · exact h.elim
noncomputable def w1 (g : Int → (EV → Prop) → Prop) : FT := fun ds φ => match ds with
  | [.int a] => g a φ
  | _ => False
theorem w1_of {g : Int → (EV → Prop) → Prop} {ds : List D} {φ : EV → Prop} (h : w1 g ds φ) : ∃ a, ds = [.int a] ∧ g a φ := by
  unfold w1 at h
  split at h
  · exact ⟨_, rfl, h⟩
  · exact h.elim
noncomputable def tWhole : FT := w1 fun _ φ => φ (dv (.bl true))
noncomputable def tCommon : FT := w2 fun a b φ => φ (dv (.int (Int.gcd a b)))
noncomputable def tRatio : FT := w2 fun a b φ => b ≠ 0 ∧ intBits b ≤ 8000 ∧ φ (dv (.tup [.int (rt a b).1, .int (rt a b).2]))
/-- two ratios -/
noncomputable def r2 (g : Int → Int → Int → Int → (EV → Prop) → Prop) : FT := fun ds φ => match ds with
  | [.tup [.int a, .int b], .tup [.int c, .int d]] => g a b c d φ
  | _ => False
theorem r2_of {g : Int → Int → Int → Int → (EV → Prop) → Prop} {ds : List D} {φ : EV → Prop} (h : r2 g ds φ) : ∃ a b c d, ds = [.tup [.int a, .int b], .tup [.int c, .int d]] ∧ g a b c d φ := by
  unfold r2 at h
  split at h
  · exact ⟨_, _, _, _, rfl, h⟩
  · exact h.elim
structure Sm (a b c d : Int) : Prop where
  a : intBits a ≤ 3000
  b : intBits b ≤ 3000
  c : intBits c ≤ 3000
  d : intBits d ≤ 3000
theorem mulOk {x y : Int} (hx : intBits x ≤ 3000) (hy : intBits y ≤ 3000) : IntMulOk x y := IntMulOk.of_bits (Nat.le_trans hx (by decide)) (Nat.le_trans hy (by decide))
theorem bitsMul {x y : Int} (hx : intBits x ≤ 3000) (hy : intBits y ≤ 3000) : intBits (x * y) ≤ 6000 := PySem.intBits_mul_le hx hy
noncomputable abbrev eR (t b : Int) : EV := dv (.tup [.int (rt t b).1, .int (rt t b).2])
noncomputable def tPlus : FT := r2 fun a b c d φ => Sm a b c d ∧ b * d ≠ 0 ∧ φ (eR (a * d + c * b) (b * d))
noncomputable def tTimes : FT := r2 fun a b c d φ => Sm a b c d ∧ b * d ≠ 0 ∧ φ (eR (a * c) (b * d))
end DL
namespace DL
open L2
theorem atI_0 {α : Type} {x : α} {l : List α} : atI (x :: l) 0 = some x := by
  rw [show (0 : Int) = ((0 : Nat) : Int) from rfl]
  exact atI_nat rfl
theorem atI_1 {α : Type} {x y : α} {l : List α} : atI (x :: y :: l) 1 = some y := by
  rw [show (1 : Int) = ((1 : Nat) : Int) from rfl]
  exact atI_nat rfl
theorem atI_2 {α : Type} {x y z : α} {l : List α} : atI (x :: y :: z :: l) 2 = some z := by
  rw [show (2 : Int) = ((2 : Nat) : Int) from rfl]
  exact atI_nat rfl
end DL

set_option Elab.async false
set_option linter.all false
set_option maxRecDepth 100000
namespace L2
open PySem PySem.Spec PyProof.Rows

section
variable {κ : Type} [DecidableEq κ]
noncomputable def valV (kvs : List (κ × V)) (k : κ) : Option V := (kvs.find? fun kv => decide (kv.1 = k)).map (·.2)
/-- in its place, or at the end -/
noncomputable def putK (kvs : List (κ × V)) (k : κ) (v : V) : List (κ × V) :=
  if (kvs.any fun kv => decide (kv.1 = k)) = true then kvs.map (fun kv => if kv.1 = k then (kv.1, v) else kv) else kvs ++ [(k, v)]
theorem valV_pos {p : κ × V} {r : List (κ × V)} {k : κ} (e : p.1 = k) : valV (p :: r) k = some p.2 := by simp [valV, List.find?_cons, e]
theorem valV_neg {p : κ × V} {r : List (κ × V)} {k : κ} (e : ¬ p.1 = k) : valV (p :: r) k = valV r k := by simp [valV, List.find?_cons, e]
theorem valV_any (k : κ) : ∀ kvs : List (κ × V), (kvs.any fun kv => decide (kv.1 = k)) = (valV kvs k).isSome
  | [] => rfl
  | p :: r => by
    rw [List.any_cons]
    by_cases e : p.1 = k
    · simp only [valV_pos e, decide_eq_true e, Bool.true_or, Option.isSome_some]
    · rw [valV_neg e, decide_eq_false e, Bool.false_or]; exact valV_any k r
theorem length_putK (kvs : List (κ × V)) (k : κ) (v : V) : (putK kvs k v).length ≤ kvs.length + 1 := by
  unfold putK
  split
  · rw [List.length_map]; omega
  · rw [List.length_append, List.length_cons, List.length_nil]; omega
theorem RelO.isSome_eq {o : Option V} {u : Option Value} (r : RelO o u) : o.isSome = u.isSome := by
  cases o with
  | none => cases u with
    | none => rfl
    | some _ => exact (show False from r).elim
  | some _ => cases u with
    | none => exact (show False from r).elim
    | some _ => rfl
/-- raw tables of the same keys -/
theorem KV.val {kvs : List (κ × V)} {vs : List (κ × Value)} (r : KV kvs vs) (k : κ) : RelO (valV kvs k) (valueAt vs k) := by
  unfold KV at r
  induction r with
  | nil => exact True.intro
  | @cons p q ps qs h t ih =>
    obtain ⟨h1, h2⟩ := h
    by_cases e : p.1 = k
    · have e' : q.1 = k := h1.symm.trans e
      have b : valueAt (q :: qs) k = some q.2 := by simp [valueAt, List.find?_cons, e']
      rw [valV_pos e, b]; exact h2
    · have e' : ¬ q.1 = k := fun z => e (h1.trans z)
      have b : valueAt (q :: qs) k = valueAt qs k := by simp [valueAt, List.find?_cons, e']
      rw [valV_neg e, b]; exact ih
theorem KV.any {kvs : List (κ × V)} {vs : List (κ × Value)} (r : KV kvs vs) (k : κ) : (kvs.any fun kv => decide (kv.1 = k)) = vs.any fun kv => decide (kv.1 = k) := by
  unfold KV at r
  induction r with
  | nil => rfl
  | cons h t ih => rw [List.any_cons, List.any_cons, ih, h.1]
theorem KV.repl {kvs : List (κ × V)} {vs : List (κ × Value)} (r : KV kvs vs) (k : κ) {y : V} {u : Value} (ry : RelV y u) :
    KV (kvs.map fun kv => if kv.1 = k then (kv.1, y) else kv) (vs.map fun kv => if kv.1 = k then (kv.1, u) else kv) := by
  unfold KV at r ⊢
  induction r with
  | nil => exact .nil
  | @cons p q ps qs h t ih =>
    rw [List.map_cons, List.map_cons]
    refine .cons ?_ ih
    obtain ⟨h1, h2⟩ := h
    by_cases e : p.1 = k
    · rw [if_pos e, if_pos (h1.symm.trans e)]; exact ⟨h1, ry⟩
    · rw [if_neg e, if_neg (fun z => e (h1.trans z))]; exact ⟨h1, h2⟩
theorem KV.put {kvs : List (κ × V)} {vs : List (κ × Value)} (r : KV kvs vs) (k : κ) {y : V} {u : Value} (ry : RelV y u) : KV (putK kvs k y) (stored vs k u) := by
  unfold putK stored
  rw [r.any k]
  by_cases e : (vs.any fun kv => decide (kv.1 = k)) = true
  · rw [if_pos e, if_pos e]; exact r.repl k ry
  · rw [if_neg e, if_neg e]; exact Paired.snoc r ⟨rfl, ry⟩
theorem KV.length {kvs : List (κ × V)} {vs : List (κ × Value)} (r : KV kvs vs) : kvs.length = vs.length := Paired.length r
end


theorem kV_is {P : Program} {w : World} {k : Key} {u : Value} (r : RelV (kV k) u) : (mixKind P w).is k u = true := by
  cases k with
  | inl i => obtain ⟨t, e⟩ := (show ∃ t, u = Value.int i t from r); subst e; exact mixKind_int P w i t
  | inr x => obtain ⟨t, e⟩ := (show ∃ t, u = Value.str x t from r); subst e; exact mixKind_str P w x t
theorem items_are {P : Program} {w : World} : ∀ {ks : List Key} {us : List Value}, Vals (ks.map kV) us → ItemsAre (mixKind P w) ks us
  | [], _, r => by rw [List.map_nil] at r; cases r; exact .nil
  | k :: ks, _, r => by
    rw [List.map_cons] at r
    cases r with
    | cons h t => exact .cons (kV_is h) (items_are t)

/-- raw entries of a dict with tuple keys -/
noncomputable abbrev KT (H : Hp) : List (List Key × V) → List (List Key × Addr × Value) → Prop := Paired fun p q => p.1 = q.1 ∧ H q.2.1 = some (.tup (p.1.map kV)) ∧ RelV p.2 q.2.2
theorem KT.val {H : Hp} {kvs : List (List Key × V)} {xs : List (List Key × Addr × Value)} (r : KT H kvs xs) (k : List Key) : RelO (valV kvs k) ((atKey xs k).map (·.2)) := by
  induction r with
  | nil => exact True.intro
  | @cons p q ps qs h t ih =>
    obtain ⟨h1, _, h2⟩ := h
    by_cases e : p.1 = k
    · have e' : q.1 = k := h1.symm.trans e
      have b : atKey (q :: qs) k = some q.2 := by simp [atKey, List.find?_cons, e']
      rw [valV_pos e, b]; exact h2
    · have e' : ¬ q.1 = k := fun z => e (h1.trans z)
      have b : atKey (q :: qs) k = atKey qs k := by simp [atKey, List.find?_cons, e']
      rw [valV_neg e, b]; exact ih
theorem KT.repl {H : Hp} {kvs : List (List Key × V)} {xs : List (List Key × Addr × Value)} (r : KT H kvs xs) (k : List Key) {y : V} {u : Value} (ry : RelV y u) :
    KT H (kvs.map fun kv => if kv.1 = k then (kv.1, y) else kv) (xs.map (putAt k u)) := by
  induction r with
  | nil => exact .nil
  | @cons p q ps qs h t ih =>
    rw [List.map_cons, List.map_cons]
    refine .cons ?_ ih
    obtain ⟨h1, h2, h3⟩ := h
    unfold putAt
    by_cases e : p.1 = k
    · rw [if_pos e, if_pos (h1.symm.trans e)]; exact ⟨h1, h2, ry⟩
    · rw [if_neg e, if_neg (fun z => e (h1.trans z))]; exact ⟨h1, h2, h3⟩
theorem KT.put {H : Hp} {kvs : List (List Key × V)} {xs : List (List Key × Addr × Value)} (r : KT H kvs xs) (k : List Key) {b : Addr} {y : V} {u : Value} (hb : H b = some (.tup (k.map kV))) (ry : RelV y u) :
    KT H (putK kvs k y) (storedH xs k b u) := by
  have e : (kvs.any fun kv => decide (kv.1 = k)) = (atKey xs k).isSome := by
    rw [valV_any, (r.val k).isSome_eq, Option.isSome_map]
  unfold putK storedH
  rw [e]
  by_cases q : (atKey xs k).isSome = true
  · rw [if_pos q, if_pos q]; exact r.repl k ry
  · rw [if_neg q, if_neg q]; exact Paired.snoc r ⟨rfl, hb, ry⟩
theorem KT.keeps {H H' : Hp} {kvs : List (List Key × V)} {xs : List (List Key × Addr × Value)} (r : KT H kvs xs) (ht : ∀ b ys, H b = some (.tup ys) → H' b = some (.tup ys)) : KT H' kvs xs :=
  Paired.mapP r fun _ _ z => ⟨z.1, ht _ _ z.2.1, z.2.2⟩

section
variable {P : Program} {w : World} {H : Hp} {h : Heap} {a : Addr}
theorem rd_of {u : HO} (ok : HOk P w H h) (e : Rd H a u) : ObjOk P w H h a u := e.ok ok
theorem dk_rd {kvs : List (Key × V)} (ok : HOk P w H h) (e : Rd H a (.dK kvs)) : kvs.length ≤ sizeLine ∧ (a == sysModules) = false ∧ ∃ vs, KV kvs vs ∧ h.DictOf (mixKind P w) a vs :=
  show ObjOk P w H h a (.dK kvs) from rd_of ok e
theorem dk_of {kvs : List (Key × V)} (ok : HOk P w H h) (e : H a = some (.dK kvs)) : kvs.length ≤ sizeLine ∧ (a == sysModules) = false ∧ ∃ vs, KV kvs vs ∧ h.DictOf (mixKind P w) a vs := dk_rd ok (.inl e)
/-- a tracked tuple of ints and texts is a key -/
theorem key_of {ks : List Key} (ok : HOk P w H h) (e : H a = some (.tup (ks.map kV))) : (tupleKind (mixKind P w)).is h ks a := by
  obtain ⟨_, its, r, ⟨o, h1, h2, n, h3⟩, _⟩ := (show ObjOk P w H h a (.tup (ks.map kV)) from ok a _ e)
  exact ⟨o, its.toArray, n, h1, h2, h3, by simpa using items_are r⟩
theorem dt_rd {kvs : List (List Key × V)} (ok : HOk P w H h) (e : Rd H a (.dT kvs)) : kvs.length ≤ sizeLine ∧ (a == sysModules) = false ∧
    ∃ xs, KT H kvs xs ∧ h.DictOfH (tupleKind (mixKind P w)) a xs := by
  obtain ⟨z, y, xs, r, o, es, ep, h1, h2, h3, h4, h5⟩ := (show ObjOk P w H h a (.dT kvs) from rd_of ok e)
  refine ⟨z, y, xs, r, o, es, ep, h1, h2, h3, h4, fun x hx => ?_, h5⟩
  have all : ∀ {l : List (List Key × V)} {m : List (List Key × Addr × Value)}, KT H l m → ∀ x ∈ m, (tupleKind (mixKind P w)).is h x.1 x.2.1 := by
    intro l m q
    induction q with
    | nil => intro x hx; exact nomatch hx
    | @cons p q ps qs hq t ih =>
      intro x hx
      rcases List.mem_cons.mp hx with e | hx
      · subst e
        exact key_of ok (by rw [← hq.1]; exact hq.2.1)
      · exact ih x hx
  exact all r x hx
theorem dt_of {kvs : List (List Key × V)} (ok : HOk P w H h) (e : H a = some (.dT kvs)) : kvs.length ≤ sizeLine ∧ (a == sysModules) = false ∧
    ∃ xs, KT H kvs xs ∧ h.DictOfH (tupleKind (mixKind P w)) a xs := dt_rd ok (.inl e)
end

/-- what the dict at a holds at the key y -/
noncomputable def DGet (H : Hp) (a : Addr) (y : V) (r : Option V) : Prop :=
  (∃ kvs k, Rd H a (.dK kvs) ∧ y = kV k ∧ r = valV kvs k) ∨ ∃ kvs k b, Rd H a (.dT kvs) ∧ y = .ref b ∧ H b = some (.tup (k.map kV)) ∧ r = valV kvs k
/-- the heap behind a[y] = v -/
noncomputable def DPut (H : Hp) (a : Addr) (y v : V) (H' : Hp) : Prop :=
  (∃ kvs k, H a = some (.dK kvs) ∧ y = kV k ∧ kvs.length < sizeLine ∧ H' = upd H a (.dK (putK kvs k v))) ∨
  ∃ kvs k b, H a = some (.dT kvs) ∧ y = .ref b ∧ H b = some (.tup (k.map kV)) ∧ kvs.length < sizeLine ∧ H' = upd H a (.dT (putK kvs k v))
theorem DGet.k {H : Hp} {a : Addr} {kvs : List (Key × V)} {k : Key} (e : H a = some (.dK kvs)) : DGet H a (kV k) (valV kvs k) := .inl ⟨kvs, k, .inl e, rfl, rfl⟩
theorem DGet.t {H : Hp} {a b : Addr} {kvs : List (List Key × V)} {k : List Key} (e : H a = some (.dT kvs)) (eb : H b = some (.tup (k.map kV))) : DGet H a (.ref b) (valV kvs k) := .inr ⟨kvs, k, b, .inl e, rfl, eb, rfl⟩
theorem DPut.k {H : Hp} {a : Addr} {kvs : List (Key × V)} {k : Key} {v : V} (e : H a = some (.dK kvs)) (hl : kvs.length < sizeLine) : DPut H a (kV k) v (upd H a (.dK (putK kvs k v))) := .inl ⟨kvs, k, e, rfl, hl, rfl⟩
theorem DPut.t {H : Hp} {a b : Addr} {kvs : List (List Key × V)} {k : List Key} {v : V} (e : H a = some (.dT kvs)) (eb : H b = some (.tup (k.map kV))) (hl : kvs.length < sizeLine) :
    DPut H a (.ref b) v (upd H a (.dT (putK kvs k v))) := .inr ⟨kvs, k, b, e, rfl, eb, hl, rfl⟩


section
variable {X : Cx} {pins : List (Addr × Obj)} {σ : St} {H : Hp} {s : Shared} {a : Addr} {y v : V} {u r : Value} {o : Option V} {A : Around} {E : Value → Shared → Prop}

theorem Inv.big (I : Inv X pins σ H s) : sysModules < s.heap.objs.size := by
  have h : mainGlobals < s.heap.objs.size := (I.mod.glob.keeps I.bk).lt
  exact Nat.lt_trans (by decide) h

/-- d[y], there -/
theorem d_getItem {Q : Value → Shared → Prop} (hu : A.units + 1 < cLine) (I : Inv X pins σ H s) (g : DGet H a y (some v)) (ry : RelV y u) (h : ∀ w' s', Inv X pins σ H s' → RelV v w' → Q w' s') :
    wpAny (model X.prog X.w) A (getItem (.ref a) u) Q E s := by
  rcases g with ⟨kvs, k, e, ey, l⟩ | ⟨kvs, k, b, e, ey, eb, l⟩
  · subst ey
    obtain ⟨z, hd, vs, rel, dd⟩ := dk_rd I.hok e
    obtain ⟨w', hw, rw'⟩ := RelO.some_of (v := v) (o := valueAt vs k) (by rw [l]; exact rel.val k)
    exact wpAny_getItem_of (kV_is ry) dd.mapOf hw (h w' _ (I.tok _) rw')
  · subst ey
    cases (show u = Value.ref b from ry)
    obtain ⟨z, hd, xs, rel, dd⟩ := dt_rd I.hok e
    obtain ⟨w', hw, rw'⟩ := RelO.some_of (v := v) (o := (atKey xs k).map (·.2)) (by rw [l]; exact rel.val k)
    obtain ⟨p, hp, hp2⟩ := Option.map_eq_some_iff.mp hw
    refine wpAny_getItem_heap (tupleKind_room_in1 hu) (key_of I.hok eb) dd hp ?_
    rw [hp2]
    exact h w' _ (I.tok _) rw'
/-- a dict's object is replaced -/
theorem d_write {h' : Heap} {t' : Nat} {ob : HO} (I : Inv X pins σ H s) (mu : Mut (H a)) (hs : Heap.SameBut a s.heap h') (he : ∃ q, h'.get? a = some q) (new : ObjOk X.prog X.w (upd H a ob) h' a ob) :
    Inv X pins σ (upd H a ob) { s with heap := h', toks := t' } :=
  I.write (x := a) (e := a) mu (.inl rfl) (fun b q hb z => (hs.2 b hb).trans z) he new
theorem dk_new {P : Program} {w : World} {H' : Hp} {h' : Heap} {kvs : List (Key × V)} {vs : List (Key × Value)} (z : kvs.length ≤ sizeLine) (hd : (a == sysModules) = false) (rel : KV kvs vs) (dd : h'.DictOf (mixKind P w) a vs) :
    ObjOk P w H' h' a (.dK kvs) := ⟨z, hd, vs, rel, dd⟩
/-- d[y] = v -/
theorem d_setItem {H' : Hp} {Q : Unit → Shared → Prop} (hu : A.units + 1 < cLine) (I : Inv X pins σ H s) (g : DPut H a y v H') (ry : RelV y u) (rv : RelV v r) (h : ∀ s', Inv X pins σ H' s' → Q () s') :
    wpAny (model X.prog X.w) A (setItem (.ref a) u r) Q E s := by
  rcases g with ⟨kvs, k, e, ey, l, eH⟩ | ⟨kvs, k, b, e, ey, eb, l, eH⟩
  · subst ey eH
    obtain ⟨z, hd, vs, rel, dd⟩ := dk_of I.hok e
    have hz : vs.length ≤ sizeLine := by rw [← rel.length]; exact z
    have hl : (putK kvs k v).length ≤ sizeLine := by have := length_putK kvs k v; omega
    refine wpAny_setItem_pairs (hsz := hz) (kV_is ry) dd fun h' dd' hs => h _ ?_
    have he : ∃ q, h'.get? a = some q := let ⟨q, _, _, hq, _⟩ := dd'; ⟨q, hq⟩
    exact d_write I (by rw [e]; exact True.intro) hs he (dk_new hl hd (rel.put k rv) dd')
  · subst ey eH
    cases (show u = Value.ref b from ry)
    obtain ⟨z, hd, xs, rel, dd⟩ := dt_of I.hok e
    have hz : xs.length ≤ sizeLine := by rw [← Paired.length rel]; exact z
    have hl : (putK kvs k v).length ≤ sizeLine := by have := length_putK kvs k v; omega
    refine wpAny_setItem_heap (hsz := hz) (tupleKind_room_in1 hu) (key_of I.hok eb) dd fun h' dd' hs => h _ ?_
    obtain ⟨q, es, ep, hq, h2, h3, h4, _, h5⟩ := dd'
    refine d_write I (by rw [e]; exact True.intro) hs ⟨q, hq⟩ ⟨hl, hd, _, (rel.put k eb rv).keeps fun c ys ec => ?_, q, es, ep, hq, h2, h3, h4, h5⟩
    rw [upd_ne (ne_of ec e (fun z => nomatch z))]
    exact ec
end

section
variable {X : Cx} {pins : List (Addr × Obj)} {σ : St} {H : Hp} {s : Shared} {a : Addr} {kvs : List (Key × V)} {k : Key} {u : Value} {A : Around} {E : Value → Shared → Prop}
end


theorem dict_typeIs {X : Cx} {pins : List (Addr × Obj)} {σ : St} {H : Hp} {s : Shared} {a : Addr} {y : V} {o : Option V} (I : Inv X pins σ H s) (g : DGet H a y o) : s.TypeIs (.ref a) "dict" := by
  rcases g with ⟨kvs, k, e, _, _⟩ | ⟨kvs, k, b, e, _, _, _⟩
  · obtain ⟨_, _, vs, _, dd⟩ := dk_rd I.hok e
    exact dd.typeIs
  · obtain ⟨_, _, xs, _, dd⟩ := dt_rd I.hok e
    exact dd.typeIs
/-- d[y] = v -/
noncomputable def sDPut (td ty tv : TE) : TS := fun D σ H => tv σ H fun v H1 => td σ H1 fun x H2 => ty σ H2 fun y H3 => ∃ a H4, x = .ref a ∧ DPut H3 a y v H4 ∧ D.nx σ H4
section
variable {X : Cx} {o i e value : Expr} {pos pos' tpos : Pos} {td ty tv : TE}
theorem ps_dput (hu : X.A.units + 1 < cLine) (ho : PE X o td) (hi : PE X i ty) (hv : PE X value tv) (hs : swapsWith value (some (.Subscript o i pos')) pos.line X.env = pure false) :
    PS X (.Assign [.Subscript o i pos'] value pos) (sDPut td ty tv) := by
  intro pins s σ H D I h
  refine wpAny_Assign_Subscript (thn (hv pins s σ H _ I h) fun r s1 ⟨v, H1, I1, rv, q1⟩ => thn (ho pins s1 σ H1 _ I1 q1) fun u s2 ⟨x, H2, I2, rx, q2⟩ => thn (hi pins s2 σ H2 _ I2 q2) fun iv s3 ⟨y, H3, I3, ry, a, H4, ex, g, q3⟩ => ?_) hs
  subst ex
  obtain rfl : u = Value.ref a := rx
  exact d_setItem hu I3 g ry rv fun s4 I4 => ⟨σ, H4, I4, q3⟩
end


theorem dk_empty {P : Program} {w : World} {H : Hp} (h : Heap) (hb : sysModules < h.objs.size) : ObjOk P w H (h.push { cls := .type "dict", data := .dict #[] }) h.objs.size (.dK []) :=
  ⟨Nat.zero_le _, beq_eq_false_iff_ne.mpr (Ne.symm (Nat.ne_of_lt hb)), [], .nil, Heap.DictOf.new h⟩
theorem dt_empty {P : Program} {w : World} {H : Hp} (h : Heap) (hb : sysModules < h.objs.size) : ObjOk P w H (h.push { cls := .type "dict", data := .dict #[] }) h.objs.size (.dT []) :=
  ⟨Nat.zero_le _, beq_eq_false_iff_ne.mpr (Ne.symm (Nat.ne_of_lt hb)), [], .nil, _, #[], 0, Heap.get?_push_size _ rfl, ⟨rfl, rfl, rfl⟩, rfl, rfl, List.nodup_nil⟩
/-- {}, to be a dict of the kind that is wanted -/
noncomputable def tDNewK : TE := fun _ H Q => ∀ p, H p = none → Q (.ref p) (upd H p (.dK []))
noncomputable def tDNewT : TE := fun _ H Q => ∀ p, H p = none → Q (.ref p) (upd H p (.dT []))
section
variable {X : Cx} {pos : Pos}
theorem pe_dnewK : PE X (.Dict [] [] pos) tDNewK := fun pins s σ H Q I h =>
  wpAny_Dict_empty ⟨.ref s.heap.objs.size, _, I.laid (a := s.heap.objs.size) (o := .dK []) (t' := s.toks) (fun _ _ q => Heap.get?_push_of_some _ q) (Nat.le_refl _) (dk_empty s.heap I.big), rfl, h _ (I.hok.fresh (Nat.le_refl _))⟩
theorem pe_dnewT : PE X (.Dict [] [] pos) tDNewT := fun pins s σ H Q I h =>
  wpAny_Dict_empty ⟨.ref s.heap.objs.size, _, I.laid (a := s.heap.objs.size) (o := .dT []) (t' := s.toks) (fun _ _ q => Heap.get?_push_of_some _ q) (Nat.le_refl _) (dt_empty s.heap I.big), rfl, h _ (I.hok.fresh (Nat.le_refl _))⟩
end

section
variable {X : Cx} {pins : List (Addr × Obj)} {σ : St} {H : Hp} {s : Shared} {a : Addr} {y d : V} {u r : Value} {o : Option V} {A : Around} {E : Value → Shared → Prop}
end

section
variable {X : Cx} {o e f : Expr} {apos cpos : Pos} {td ty tx : TE}
end

section
variable {X : Cx} {pins : List (Addr × Obj)} {σ : St} {H : Hp} {s : Shared} {a : Addr} {kvs : List (Key × V)} {A : Around} {E : Value → Shared → Prop}
end


section
variable {X : Cx} {pins : List (Addr × Obj)} {σ : St} {H : Hp} {s : Shared} {a : Addr} {y : V} {u : Value} {A : Around} {E : Value → Shared → Prop}
end
end L2

namespace L2
open PySem PySem.Spec PyProof.Rows
section
variable {X : Cx}
end
end L2

set_option Elab.async false
set_option linter.all false
set_option maxRecDepth 100000
set_option maxHeartbeats 4000000
namespace DL
open PySem PySem.Spec L2 L3
open PyProof.Rows hiding St
variable {Γ : Hp → Prop}

noncomputable instance decMemKey (k : Key) (ks : List Key) : Decidable (k ∈ ks) := decidable_of_iff (ks.any (fun x => decide (x = k)) = true) (by simp)
section
variable {α : Type}
noncomputable def lookA : List Key → List α → Key → Option α
  | k' :: ks, d :: ds, k => if k' = k then some d else lookA ks ds k
  | _, _, _ => none
noncomputable def kput (ks : List Key) (k : Key) : List Key := if k ∈ ks then ks else ks ++ [k]
noncomputable def dput : List Key → List α → Key → α → List α
  | k' :: ks, d' :: ds, k, d => if k' = k then d :: ds else d' :: dput ks ds k d
  | _, _, _, d => [d]
end
theorem valV_zip : ∀ (ks : List Key) (xs : List V) (k : Key), valV (ks.zip xs) k = lookA ks xs k
  | [], xs, k => by cases xs <;> rfl
  | k' :: ks, [], k => rfl
  | k' :: ks, x :: xs, k => by
    rw [List.zip_cons_cons, lookA]
    by_cases e : k' = k
    · rw [if_pos e, valV_pos (by exact e)]
    · rw [if_neg e, valV_neg (by exact e), valV_zip ks xs k]
theorem map_off : ∀ (ks : List Key) (xs : List V) (k : Key) (v : V), k ∉ ks → (ks.zip xs).map (fun kv => if kv.1 = k then (kv.1, v) else kv) = ks.zip xs
  | [], xs, k, v, _ => by cases xs <;> rfl
  | k' :: ks, [], k, v, _ => rfl
  | k' :: ks, x :: xs, k, v, h => by
    rw [List.zip_cons_cons, List.map_cons, map_off ks xs k v fun z => h (List.mem_cons_of_mem _ z)]
    rw [if_neg (by intro z; exact h (List.mem_cons.mpr (.inl z.symm)))]
theorem any_zip : ∀ {ks : List Key} {xs : List V} {k : Key}, ks.length = xs.length → (((ks.zip xs).any fun kv => decide (kv.1 = k)) = true ↔ k ∈ ks)
  | [], xs, k, h => by cases xs <;> simp at *
  | k' :: ks, [], k, h => by simp at h
  | k' :: ks, x :: xs, k, h => by
    rw [List.zip_cons_cons, List.any_cons, Bool.or_eq_true, any_zip (by simpa using h)]
    simp [eq_comm]
theorem map_on : ∀ {ks : List Key} {xs : List V} {k : Key} {v : V}, ks.Nodup → ks.length = xs.length → k ∈ ks → (ks.zip xs).map (fun kv => if kv.1 = k then (kv.1, v) else kv) = ks.zip (dput ks xs k v)
  | [], _, _, _, _, _, h => by cases h
  | k' :: ks, [], _, _, _, h, _ => by simp at h
  | k' :: ks, x :: xs, k, v, nd, hl, h => by
    obtain ⟨n1, n2⟩ := List.nodup_cons.mp nd
    rw [List.zip_cons_cons, List.map_cons, dput]
    by_cases e : k' = k
    · subst e
      rw [if_pos rfl, if_pos rfl, map_off ks xs k' v n1, List.zip_cons_cons]
    · rw [if_neg e, if_neg e, List.zip_cons_cons, map_on n2 (by simpa using hl) ((List.mem_cons.mp h).resolve_left (Ne.symm e))]
theorem dput_new {α : Type} : ∀ {ks : List Key} {xs : List α} {k : Key} {v : α}, ks.length = xs.length → k ∉ ks → dput ks xs k v = xs ++ [v]
  | [], xs, k, v, h, _ => by
    cases xs with
    | nil => rfl
    | cons => simp at h
  | k' :: ks, [], _, _, h, _ => by simp at h
  | k' :: ks, x :: xs, k, v, h, hn => by
    rw [dput, if_neg (fun z => hn (List.mem_cons.mpr (.inl z.symm))), dput_new (by simpa using h) fun z => hn (List.mem_cons_of_mem _ z)]
    rfl
theorem putK_zip {ks : List Key} {xs : List V} {k : Key} {v : V} (nd : ks.Nodup) (hl : ks.length = xs.length) : putK (ks.zip xs) k v = (kput ks k).zip (dput ks xs k v) := by
  unfold putK kput
  by_cases h : k ∈ ks
  · rw [if_pos ((any_zip hl).mpr h), if_pos h, map_on nd hl h]
  · rw [if_neg (fun z => h ((any_zip hl).mp z)), if_neg h, dput_new hl h, List.zip_append hl]
    rfl
theorem dput_len {α : Type} : ∀ {ks : List Key} {xs : List α} {k : Key} {v : α}, ks.length = xs.length → (kput ks k).length = (dput ks xs k v).length := fun {ks xs k v} h => by
  by_cases hk : k ∈ ks
  · unfold kput
    rw [if_pos hk]
    induction ks generalizing xs with
    | nil => cases hk
    | cons k' ks ih =>
      cases xs with
      | nil => simp at h
      | cons x xs =>
        rw [dput]
        by_cases e : k' = k
        · rw [if_pos e]; simpa using h
        · rw [if_neg e]
          have := ih (xs := xs) (by simpa using h) ((List.mem_cons.mp hk).resolve_left (Ne.symm e))
          simp [this]
  · rw [dput_new h hk]
    unfold kput
    rw [if_neg hk]
    simp [h]
theorem kput_nodup {ks : List Key} {k : Key} (nd : ks.Nodup) : (kput ks k).Nodup := by
  unfold kput
  split
  · exact nd
  · rename_i h
    exact List.nodup_append.mpr ⟨nd, by simp, by intro a ha b hb e; simp at hb; subst hb; exact h (e ▸ ha)⟩
section
variable {K : PySem.W.Frag} {H : Hp} {O : List Addr}
theorem reps_look : ∀ {ks : List Key} {ds : List D} {xs : List V} {k : Key}, Reps K H O ds xs → (∀ d, lookA ks ds k = some d → ∃ v, lookA ks xs k = some v ∧ Rep K H O d v) ∧ (lookA ks ds k = none → lookA ks xs k = none)
  | [], ds, xs, k, r => ⟨(fun d h => by cases ds <;> cases h), (fun _ => by cases xs <;> rfl)⟩
  | k' :: ks, [], xs, k, r => by
    cases r
    exact ⟨(fun d h => by cases h), fun _ => rfl⟩
  | k' :: ks, d' :: ds, xs, k, r => by
    obtain ⟨v, ws, rfl, q, t⟩ := r
    rw [lookA, lookA]
    by_cases e : k' = k
    · rw [if_pos e, if_pos e]
      exact ⟨(fun d h => by cases h; exact ⟨v, rfl, q⟩), (fun h => by cases h)⟩
    · rw [if_neg e, if_neg e]
      exact reps_look t
theorem reps_dput : ∀ {ks : List Key} {ds : List D} {xs : List V} {k : Key} {d : D} {v : V}, Reps K H O ds xs → Rep K H O d v → Reps K H O (dput ks ds k d) (dput ks xs k v)
  | [], ds, xs, k, d, v, r, q => by
    have e1 : dput ([] : List Key) ds k d = [d] := by cases ds <;> rfl
    have e2 : dput ([] : List Key) xs k v = [v] := by cases xs <;> rfl
    rw [e1, e2]
    exact Reps.one q
  | k' :: ks, [], xs, k, d, v, r, q => by
    cases r
    exact Reps.one q
  | k' :: ks, d' :: ds, xs, k, d, v, r, q => by
    obtain ⟨v', ws, rfl, q', t⟩ := r
    rw [dput, dput]
    by_cases e : k' = k
    · rw [if_pos e, if_pos e]
      exact ⟨v, ws, rfl, q, t⟩
    · rw [if_neg e, if_neg e]
      exact ⟨v', _, rfl, q', reps_dput t q⟩
end
noncomputable def keyD : D → Option Key
  | .int i => some (.inl i)
  | .str x => some (.inr x)
  | _ => none
theorem key_view {K : PySem.W.Frag} {H : Hp} {O : List Addr} {d : D} {v : V} {k : Key} (h : View K H O d v) (e : keyD d = some k) : v = kV k := by
  cases d with
  | int i => cases e; exact h
  | str i => cases e; exact h
  | _ => cases e
section
variable {X : Cx} {a b c e o : Expr} {es : List Expr} {ta tb tc te td : TD} {t : TDs} {pos : Pos}
/-- {} -/
theorem ed_dict0 : ED Γ X (.Dict [] [] pos) (fun _ φ => φ (df (.dk [] []))) := fun H₀ => impE pe_dnewK fun σ H Q q => by
  obtain ⟨ρ, o, R, φ, hφ, k⟩ := q
  intro p hp
  exact k (.ref p) (df (.dk [] [])) _ (same_new hp _) ⟨p, rfl, hp, R.ofree hp, [], upd_same, rfl, List.nodup_nil, rfl⟩ hφ
/-- x in y: y a dict, a list or tuple of flat things, a text -/
noncomputable def flatD : D → Bool
  | .non => true
  | .bl _ => true
  | .int _ => true
  | .str _ => true
  | _ => false
noncomputable def inD (x : D) (l : List D) : Bool := l.any fun y => eqD y x
noncomputable def sIn (neg : Bool) : D → D → (EV → Prop) → Prop := fun x y φ => match y with
  | .dk ks _ => (match keyD x with | some k => φ (dv (.bl (if neg then !decide (k ∈ ks) else decide (k ∈ ks)))) | none => False)
  | .lst l => flatD x = true ∧ l.all flatD = true ∧ φ (dv (.bl (if neg then !inD x l else inD x l)))
  | .tup l => flatD x = true ∧ l.all flatD = true ∧ φ (dv (.bl (if neg then !inD x l else inD x l)))
  | .str z => (match x with | .str p => φ (dv (.bl (if neg then !(!(Builtin.Str.occurrences z p 0 z.length 1).isEmpty) else !(Builtin.Str.occurrences z p 0 z.length 1).isEmpty))) | _ => False)
  | _ => False
/-- a[b], a dict too -/
noncomputable def sIxx : D → D → (EV → Prop) → Prop := fun x y φ => match x with
  | .dk ks ds => (match keyD y with
    | some k => (match lookA ks ds k with
      | some d => φ (dv d)
      | none => False)
    | none => False)
  | x => sIx x y φ
theorem ix_dict (hu : X.A.units + 1 < cLine) : IxR X (fun x y H Q => ∃ a kvs k v, x = .ref a ∧ H a = some (.dK kvs) ∧ y = kV k ∧ valV kvs k = some v ∧ Q v H) := by
  intro value slice pins s σ H x y v u Q I rx ry h hs
  obtain ⟨a, kvs, k, w, rfl, ha, rfl, e, q⟩ := h
  cases rx
  have g : DGet H a (kV k) (some w) := by rw [← e]; exact DGet.k ha
  exact tail_any (dict_typeIs I g) PySem.F.slot_dict_getitem.lookup (d_getItem hu I g ry fun w' s' I' rw' => ⟨w, H, I', rw', q⟩) hs
theorem link_ixx : Link2 X.K (fun x y H Q => rIx X.K x y H Q ∨ ∃ a kvs k v, x = .ref a ∧ H a = some (.dK kvs) ∧ y = kV k ∧ valV kvs k = some v ∧ Q v H) sIxx := by
  intro H O x y vx vy φ Q ho hx hy h k
  cases x with
  | dk ks ds =>
    obtain ⟨a, xs, rfl, q, l, nd, r⟩ := hx
    unfold sIxx at h
    dsimp only at h
    split at h
    · rename_i kk ek
      split at h
      · rename_i d ed
        obtain ⟨v, ev, rv⟩ := (reps_look (ks := ks) (k := kk) r).1 d ed
        exact .inr ⟨a, _, kk, v, rfl, q, key_view hy ek, by rw [valV_zip]; exact ev, k _ _ H (Same.refl H) (RV.val rv) h⟩
      · exact h.elim
    · exact h.elim
  | _ => exact .inl (link_ix H O _ y vx vy φ Q ho hx hy h k)
theorem ed_ixx (hu : X.A.units + 64 < cLine) (ha : ED Γ X a ta) (hb : ED Γ X b tb) (hs : PlainIx b := by intro _ _; rfl) : ED Γ X (.Subscript a b pos) (d2 sIxx ta tb) := fun H₀ => impE (pe_ix (ix_seq.or (ix_dict (by omega))) (ha H₀) (hb H₀) hs) (lift2 link_ixx)
end
section
variable {X : Cx} {x : Str} {e ke : Expr} {te tk : TD} {np pos pos' : Pos}
noncomputable def sDput' (i : Nat) (tk te : TD) : TDS := fun ρ Z => match slot ρ i with
  | some ⟨.own, .dk ks ds⟩ => te ρ fun r => tk ρ fun kr => (match r.k with | .own => False | _ => True) ∧ ds.length ≤ 100000 ∧ (match keyD kr.d with
    | some k => Z.nx (setS ρ i (dO (.dk (kput ks k) (dput ks ds k r.d))))
    | none => False)
  | _ => False
theorem sd_dput (i : Nat) (hu : X.A.units + 64 < cLine) (hk : ED Γ X ke tk) (he : ED Γ X e te) (hN : X.N[i]? = some x := by rfl) (hv : Vis X.env.scope x := by first | exact Or.inl rfl | exact Or.inr (Or.inl rfl) | exact Or.inr (Or.inr rfl)) (hd : (x == ("__debug__" : Str)) = false := by decide)
    (hcd : (x == ("__classdict__" : Str)) = false := by decide) (hs : swapsWith e (some (.Subscript (.Name x np) ke pos')) pos.line X.env = pure false := by rfl) : SD Γ X (.Assign [.Subscript (.Name x np) ke pos'] e pos) (sDput' i tk te) := fun H₀ =>
  impS (ps_dput (by omega) (pe_var hN hv hd hcd) (hk H₀) (he H₀) hs) fun D σ H h => by
    obtain ⟨ρ, o, R, Z, hZ, k1, k2, k3, k4⟩ := h
    unfold sDput' at hZ
    split at hZ
    · rename_i ks ds es
      obtain ⟨v0, ev0, q0⟩ := R.slots i _ (slot_eq es)
      rcases q0 with ⟨k, _⟩ | ⟨_, a, rfl, m, c⟩
      · cases k
      obtain ⟨xs, hx, hl, nd, rx⟩ := c
      refine ⟨ρ, o, R, _, hZ, fun v r H1 s1 rv h1 => ⟨.ref a, ev0, ρ, o, R.to s1, _, h1, fun v2 r2 H2 s2 rv2 h2 => ?_⟩⟩
      obtain ⟨h0, hlen, h2⟩ := h2
      split at h2
      · rename_i k ek
        have hk : v2 = kV k := key_view rv2.view ek
        subst hk
        have s12 := s1.trans s2
        have hx2 := s12 _ _ hx
        have rx2 := Reps.grow (Grow.same s12) _ _ rx
        have xl : ks.length = xs.length := by rw [hl, rx.length]
        refine ⟨a, _, rfl, DPut.k hx2 ?_, ?_⟩
        · rw [List.length_zip, xl, Nat.min_self, rx.length]
          exact Nat.lt_of_le_of_lt hlen (by decide)
        · rw [putK_zip nd xl]
          obtain ⟨R3, g3⟩ := (R.to s12).chg (d' := .dk (kput ks k) (dput ks ds k r.d)) (ho := .dK ((kput ks k).zip (dput ks xs k v))) (slot_eq es) ev0 m ⟨fun _ z => (by cases z), fun _ _ z => (by cases z)⟩ fun gr =>
            ⟨dput ks xs k v, upd_same, dput_len hl, kput_nodup nd, gr _ _ (reps_dput rx2 ((rv.same s2).solid (notOwn h0)))⟩
          exact k1 _ σ _ o ((Grow.same s12).trans g3) R3 h2
      · exact h2.elim
    · exact hZ.elim
end
end DL

set_option Elab.async false
set_option linter.all false
set_option maxRecDepth 100000
set_option maxHeartbeats 4000000
namespace DL
open PySem PySem.Spec L2 L3
open PyProof.Rows hiding St
variable {Γ : Hp → Prop}
section
variable {X : Cx} {e : Expr} {te : TD} {pos : Pos}
end
end DL

set_option Elab.async false
set_option linter.all false
set_option maxRecDepth 100000
set_option maxHeartbeats 4000000
namespace DL
open PySem PySem.Spec L2 L3
open PyProof.Rows hiding St
theorem app_codes (x y : Str) : (x ++ y).cps.toList = x.cps.toList ++ y.cps.toList := by
  show (x.cps ++ y.cps).toList = _
  simp
end DL

set_option Elab.async false
set_option linter.all false
set_option maxRecDepth 100000
set_option maxHeartbeats 4000000
namespace DL
open PySem PySem.Spec L2 L3
open PyProof.Rows hiding St
variable {Γ : Hp → Prop}
open PySem.Builtin.Int (intBits)
theorem cp10 {j : Int} (h0 : 0 ≤ j) (h1 : j ≤ 1000) : CPow 10 j = True := by
  refine eq_true ⟨h0, by omega, by decide⟩
theorem tenpow_ne {k : Nat} : ((10 : Int) ^ k = 0) = False := by
  refine eq_false ?_
  have : (0 : Int) < 10 ^ k := Int.pow_pos (by decide)
  omega
theorem fd_lit {i j : Int} (h : j ≠ 0) (h1 : j.natAbs ≤ 1000000000000) : FdOk i j = True := eq_true (fdOk (m := 64) h (PySem.intBits_le_iff.mpr (by omega)))
theorem cutD_mid (l : List D) (j k : Nat) : cutD l (some (j : Int)) (some (k : Int)) = (l.drop j).take (k - j) := by
  unfold cutD
  rw [HT.sIx_nat, HT.sIx_nat]
  by_cases h : j ≤ l.length
  · rw [Nat.min_eq_left h, List.take_eq_take_iff, List.length_drop]
    omega
  · rw [show min j l.length = l.length by omega, List.drop_of_length_le (Nat.le_refl _), List.drop_of_length_le (by omega)]
    simp
theorem atI_of {α : Type} {l : List α} {i : Int} {x : α} (h0 : 0 ≤ i) (h : l[i.toNat]? = some x) : atI l i = some x := by
  have := atI_nat h
  rwa [Int.toNat_of_nonneg h0] at this
theorem filterMap_map {α β γ : Type} (l : List α) (m : α → β) (f : β → Option γ) (g : α → γ) (h : ∀ a ∈ l, f (m a) = some (g a)) : (l.map m).filterMap f = l.map g := by
  induction l with
  | nil => rfl
  | cons a l ih =>
    rw [List.map_cons, List.filterMap_cons, h a (List.mem_cons_self ..), List.map_cons, ih fun b hb => h b (List.mem_cons_of_mem _ hb)]
theorem mod_bd (x m : Int) (h : 0 < m) : 0 ≤ x.fmod m ∧ x.fmod m < m := ⟨Int.fmod_nonneg_of_pos x h, Int.fmod_lt_of_pos x h⟩
theorem bitsOf {x : Int} {m : Nat} (h : x.natAbs < 2 ^ m) : intBits x ≤ m := PySem.intBits_le_iff.mpr h
theorem len_codes (x : Str) : x.length = x.cps.toList.length := by
  show x.cps.size = _
  simp
theorem app_len (x y : Str) : (x ++ y).length = x.length + y.length := by
  rw [len_codes, app_codes, List.length_append, ← len_codes, ← len_codes]
end DL
namespace DL
open PySem PySem.Spec L2 L3
theorem sFor_at {ti : TID} {g : TGD} {tb : TDS} {ρ : DE} {Z : DZ} (ds : List D) (h : ∀ φ : List D → Prop, φ ds → ti ρ φ) (P : Nat → DE → Prop) (h0 : P 0 ρ)
    (ht : ∀ i d ρ, ds[i]? = some d → P i ρ → g d ρ fun ρ' => tb ρ' { Z with nx := P (i + 1), ct := P (i + 1), bk := Z.nx }) (hd : ∀ ρ, P ds.length ρ → Z.nx ρ) : sFor ti g tb ρ Z := h _ ⟨P, h0, ht, hd⟩
theorem dComp_at {ti : TID} {n : Nat} {js : List Nat} {g : TGD} {tc : TDb} {te : TD} {ρ : DE} {φ : EV → Prop} (ds : List D) (h : ∀ ψ : List D → Prop, ψ ds → ti ρ ψ) (f : D → Option D) (hl : ds.length ≤ 100000)
    (ht : ∀ d ∈ ds, g d (ρ0 n js ρ) fun ρ' => tc ρ' fun c => (c = true → te ρ' fun r => (match r.k with | .own => False | _ => True) ∧ f d = some r.d) ∧ (c = false → f d = none)) (hφ : φ (df (.lst (ds.filterMap f)))) : dComp ti n js g tc te ρ φ := h _ ⟨f, hl, ht, hφ⟩
theorem rng_get {lo : Int} {n i : Nat} {d : D} (h : (rngD lo n)[i]? = some d) : i < n ∧ d = .int (lo + (i : Int)) := by
  unfold rngD at h
  rw [List.getElem?_map] at h
  cases e : (List.range n)[i]? with
  | none => rw [e] at h; cases h
  | some m =>
    rw [e] at h
    have hi := (List.getElem?_eq_some_iff.mp e).1
    rw [List.length_range] at hi
    rw [List.getElem?_range hi] at e
    cases e
    cases h
    exact ⟨hi, rfl⟩
theorem rng_len {lo : Int} {n : Nat} : (rngD lo n).length = n := by unfold rngD; simp
end DL
namespace DL
open PySem PySem.Spec L2 L3
theorem atI_map {α β : Type} (f : α → β) (l : List α) (i : Int) : atI (l.map f) i = (atI l i).map f := by
  unfold atI
  rw [List.length_map]
  cases ixN l.length i with
  | none => rfl
  | some j => simp
end DL

set_option Elab.async false
set_option linter.all false
set_option maxRecDepth 100000
set_option maxHeartbeats 4000000
namespace DL
open PySem PySem.Spec L2 L3
open PyProof.Rows hiding St

/-- from s (with H) to h' (with H'): what is tracked or stood at s lies in B too -/
structure FlyB (P : Program) (w : World) (outer : List Env) (H : Hp) (h : Heap) (H' : Hp) (B : Heap) (h' : Heap) : Prop where
  un : Un (frs outer) [] H H' h h'
  hok : HOk P w H' h'
  cov : ∀ b o, h'.get? b = some o → b ∉ frs outer → (H' b ≠ none ∨ ∃ o0, h.get? b = some o0) → B.get? b = some o
section
variable {P : Program} {w : World} {outer : List Env} {H H' : Hp} {h h1 h2 B B' : Heap}
end

/-- behind a call that raises: an exception e of the class at C -/
noncomputable def CX1 (P : Program) (w : World) : CXT := fun outer H s E e s' => ∃ (a C : Addr) (t : Value) (H' : Hp) (B : Heap), e = .ref a ∧ s'.os = s.os ∧ AllBare s'.gens ∧ FlyB P w outer H s.heap H' B s'.heap ∧
  Heap.FlyingW B outer a (.ref C) t s'.heap ∧ E (.ref C) none H'

section
variable {X : Cx} {pins : List (Addr × Obj)} {σ : St} {H1 H' : Hp} {s1 : Shared} {B h2 : Heap}
end
section
variable {P : Program} {w : World} {K : PySem.W.Frag} {mg : Str → Option Value} {base : Heap} {N : List Str} {qual : Str} {scope : Scope} {f : Addr} {cd : Value} {A : Around} {outer : List Env} {s : Shared} {H : Hp} {E : XK}
end
end DL

set_option Elab.async false
set_option linter.all false
set_option maxRecDepth 100000
set_option maxHeartbeats 4000000
namespace DL
open PySem PySem.Spec L2 L3
open PyProof.Rows hiding St
variable {Γ : Hp → Prop}

noncomputable def XP (Γ : Hp → Prop) (X : Cx) (χ : DE → Addr → Prop) : Prop := ∀ (H₀ : Hp), Γ H₀ → ∀ (ρ : DE) (o : List (Nat × Addr)) (pins : List (Addr × Obj)) (σ : St) (H : Hp) (s : Shared) (e : Value) (s' : Shared), Inv X pins σ H s → REnv X.K H₀ H σ ρ o →
  CX1 X.prog X.w X.stack H s (fun cls _ H' => Same H H' ∧ ∃ C, cls = .ref C ∧ χ ρ C) e s' → X.xe e s'
section
variable {P : Program} {w : World} {K : PySem.W.Frag} {mg : Str → Option Value} {base : Heap}
end

end DL

set_option Elab.async false
set_option linter.all false
set_option maxRecDepth 100000
set_option maxHeartbeats 4000000
namespace DL
open PySem PySem.Spec L2 L3 PySem.W PySem.Builtin PySem.Builtin.ObjectAttr PySem.Builtin.Getset_descriptor
open PyProof.Rows hiding St InstAt

section
variable {prog : Program} {w : World} {A : Around} {E : Value → Shared → Prop} {s : Shared} {K : PySem.W.Frag} {a C : Addr}
end
end DL

set_option Elab.async false
set_option linter.all false
set_option maxRecDepth 100000
set_option maxHeartbeats 4000000
namespace DL
open PySem PySem.Spec L2 L3
open PyProof.Rows hiding St
variable {Γ : Hp → Prop}

section
variable {X : Cx} {p np pos : Pos} {e : Expr} {te : TD} {c : Str} {C0 : Addr}
end

end DL

set_option Elab.async false
set_option linter.all false
set_option maxRecDepth 100000
set_option maxHeartbeats 4000000
namespace DL
open PySem PySem.Spec L2 L3
open PyProof.Rows hiding St
theorem pg_tupK {X : Cx} {K0 : PySem.W.Frag} {es : List Expr} {k : Nat} {t : TGs} {n : Nat} {pos : Pos} (hK : X.K = K0) (hc : X.calm = true) (h : PGs X es t) (hn : (assignEach es X.env).length = n := by rfl) (hst : (assignEach es X.env).findIdx? (·.1) = none := by rfl) : PG X (.Tuple es k pos) (gTup K0 n t) := by
  subst hK
  exact pg_tup hc h hn hst
end DL

set_option Elab.async false
set_option linter.all false
set_option maxRecDepth 100000
set_option maxHeartbeats 4000000
namespace DL
open PySem PySem.Spec L2 L3
open PyProof.Rows hiding St
variable {Γ : Hp → Prop}
section
variable {X : Cx} {p np pos : Pos} {e : Expr} {te : TD} {c : Str} {T : String}
end
end DL

set_option Elab.async false
set_option linter.all false
set_option maxRecDepth 100000
set_option maxHeartbeats 4000000
namespace DL
open PySem PySem.Spec L2 L3
open PyProof.Rows hiding St
variable {Γ : Hp → Prop}
section
variable {X : Cx} {x : Str} {e ke : Expr} {te tk : TD} {np pos pos' : Pos}
end
end DL

set_option Elab.async false
set_option linter.all false
set_option maxRecDepth 100000
set_option maxHeartbeats 4000000
namespace DL
open PySem PySem.Spec L2 L3
open PyProof.Rows hiding St
variable {Γ : Hp → Prop}
section
variable {X : Cx} {e : Expr} {es : List Expr} {t : TDs} {p pos : Pos}
end
end DL

set_option Elab.async false
set_option linter.all false
set_option maxRecDepth 100000
set_option maxHeartbeats 8000000
namespace L3
open PySem PySem.Spec PyProof.Rows
section
variable {P : Program} {w : World} {A : Around} {E : Value → Shared → Prop} {s : Shared}
theorem nextT_item {it l : Addr} {i : Nat} {xs : Array Value} {x : Value} {Q : Value → Shared → Prop} (hi : s.heap.IsTupleIter it l i) (hl : s.heap.IsTuple l xs) (hx : xs[i]? = some x)
    (hQ : ∀ g, g.IsTupleIter it l (i + 1) → Heap.SameBut it s.heap g → Q x { s with heap := g }) : wpAny (model P w) A (Builtin.SmallTypes.nextOf (.ref it)) Q E s := by
  obtain ⟨o, ho, hc, hd⟩ := id hi
  obtain ⟨ol, hol, _, nl, hdl⟩ := hl
  unfold Builtin.SmallTypes.nextOf
  refine wpAny_bind (wpAny_callSpecial?_slot (name := Str.ofString "__next__") hi.typeIs F.slot_tuple_iterator_next (wpAny_call_entry F.slot_tuple_iterator_next hi.typeIs F.entry_tuple_iterator_next ?_ (F.args_tuple_iterator_next_1 _)))
  show wpAny _ _ (field (.ref it) 0 >>= _) _ _ s
  refine wpAny_bind (wpAny_field ho hd (x := .ref l) rfl ?_)
  show wpAny _ _ (if (Value.ref l == Value.none) = true then _ else _) _ _ s
  rw [if_neg (show ¬ ((Value.ref l == Value.none) = true) from Bool.false_ne_true)]
  show wpAny _ _ (field (.ref it) 1 >>= _) _ _ s
  refine wpAny_bind (wpAny_field ho hd (x := .int i 0) rfl ?_)
  show wpAny _ _ (seqItems? (.ref l) >>= _) _ _ s
  refine wpAny_bind (wpAny_seqItems hol hdl ?_)
  simp only [Int.toNat_natCast, hx]
  refine wpAny_bind (wpAny_setField ho hd (by simp) (wpAny_pure ⟨x, rfl, wpAny_pure (hQ _ ⟨_, Heap.get?_update_self _ ho (Obj.isFreed_of_fields (Obj.data_mapFields hd _)), (Obj.cls_mapFields ..).trans hc, ?_⟩ (Heap.SameBut.update ..))⟩))
  rw [Obj.data_mapFields hd]
  simp [rawInt]
theorem nextT_end {it l : Addr} {i : Nat} {xs : Array Value} {Q : Value → Shared → Prop} (hh : A.handled = none) (hi : s.heap.IsTupleIter it l i) (hl : s.heap.IsTuple l xs) (hx : xs[i]? = none)
    (hE : ∀ g e, Heap.ExtBut it s.heap g → (∃ o, g.get? e = some o ∧ o.cls = .type "StopIteration") → E (.ref e) { s with heap := g }) : wpAny (model P w) A (Builtin.SmallTypes.nextOf (.ref it)) Q E s := by
  obtain ⟨o, ho, hc, hd⟩ := id hi
  obtain ⟨ol, hol, _, nl, hdl⟩ := hl
  unfold Builtin.SmallTypes.nextOf
  refine wpAny_bind (wpAny_callSpecial?_slot (name := Str.ofString "__next__") hi.typeIs F.slot_tuple_iterator_next (wpAny_call_entry F.slot_tuple_iterator_next hi.typeIs F.entry_tuple_iterator_next ?_ (F.args_tuple_iterator_next_1 _)))
  show wpAny _ _ (field (.ref it) 0 >>= _) _ _ s
  refine wpAny_bind (wpAny_field ho hd (x := .ref l) rfl ?_)
  show wpAny _ _ (if (Value.ref l == Value.none) = true then _ else _) _ _ s
  rw [if_neg (show ¬ ((Value.ref l == Value.none) = true) from Bool.false_ne_true)]
  show wpAny _ _ (field (.ref it) 1 >>= _) _ _ s
  refine wpAny_bind (wpAny_field ho hd (x := .int i 0) rfl ?_)
  show wpAny _ _ (seqItems? (.ref l) >>= _) _ _ s
  refine wpAny_bind (wpAny_seqItems hol hdl ?_)
  simp only [Int.toNat_natCast, hx]
  refine wpAny_bind (wpAny_rule (wpAny_bind (wpAny_setField ho hd (by simp) ?_)))
  show wpAny _ _ (newExc (.type "StopIteration") [] >>= _) _ _ _
  refine wpAny_bind ?_
  simp only [newExc, newTuple]
  refine wpAny_bind (wpAny_newObj_type ?_ (by size_fits))
  refine wpAny_bind (m := firstArgMember _ _) (wpAny_of_eq (a := Value.none) (by first | rfl | (simp only [firstArgMember]; rfl)) ?_)
  refine wpAny_newObj_type ?_ (by size_fits)
  simp only [raiseNew]
  refine wpAny_bind (wpAny_handled ?_)
  first | rw [show A.in1.handled = none from hh] | rw [hh]
  exact wpAny_bind (wpAny_pure (wpAny_throw (hE _ _ (((Heap.SameBut.update ..).extBut.push _).push _) ⟨_, Heap.get?_push_size _ rfl, rfl⟩)))


/-- b: a tuple; else a list -/
noncomputable def SqAt (b : Bool) (h : Heap) (l : Addr) (xs : Array Value) : Prop := match b with
  | true => h.IsTuple l xs
  | false => h.IsList l xs
noncomputable def ItAt (b : Bool) (h : Heap) (it l : Addr) (i : Nat) : Prop := match b with
  | true => h.IsTupleIter it l i
  | false => h.IsListIter it l i
theorem SqAt.at {b : Bool} {h g : Heap} {l : Addr} {xs : Array Value} (x : SqAt b h l xs) (k : ∀ o, h.get? l = some o → g.get? l = some o) : SqAt b g l xs := by
  cases b with
  | true => exact Heap.IsTuple.at (show h.IsTuple l xs from x) k
  | false => exact Heap.IsList.at (show h.IsList l xs from x) k
theorem ItAt.at {b : Bool} {h g : Heap} {it l : Addr} {i : Nat} (x : ItAt b h it l i) (k : ∀ o, h.get? it = some o → g.get? it = some o) : ItAt b g it l i := by
  cases b with
  | true => exact Heap.IsTupleIter.at (show h.IsTupleIter it l i from x) k
  | false => exact Heap.IsListIter.at (show h.IsListIter it l i from x) k
theorem nextK_item {b : Bool} {it l : Addr} {i : Nat} {xs : Array Value} {x : Value} {Q : Value → Shared → Prop} (hi : ItAt b s.heap it l i) (hl : SqAt b s.heap l xs) (hx : xs[i]? = some x)
    (hQ : ∀ g, ItAt b g it l (i + 1) → Heap.SameBut it s.heap g → Q x { s with heap := g }) : wpAny (model P w) A (Builtin.SmallTypes.nextOf (.ref it)) Q E s := by
  cases b with
  | true => exact nextT_item hi hl hx hQ
  | false => exact wpAny_nextOf_list_item hi hl hx hQ
theorem nextK_end {b : Bool} {it l : Addr} {i : Nat} {xs : Array Value} {Q : Value → Shared → Prop} (hh : A.handled = none) (hi : ItAt b s.heap it l i) (hl : SqAt b s.heap l xs) (hx : xs[i]? = none)
    (hE : ∀ g e, Heap.ExtBut it s.heap g → (∃ o, g.get? e = some o ∧ o.cls = .type "StopIteration") → E (.ref e) { s with heap := g }) : wpAny (model P w) A (Builtin.SmallTypes.nextOf (.ref it)) Q E s := by
  cases b with
  | true => exact nextT_end hh hi hl hx hE
  | false => exact wpAny_nextOf_list_end hh hi hl hx hE
/-- two side by side -/
structure ZAt (b1 b2 : Bool) (g : Heap) (z ti to i1 i2 l1 l2 : Addr) (f : Value) (k : Nat) : Prop where
  zz : IsZip g z ti to f
  its : IsPair g ti (.ref i1) (.ref i2)
  out : ∃ a b, IsPair g to a b
  one : ItAt b1 g i1 l1 k
  two : ItAt b2 g i2 l2 k
structure ZNe (z ti to i1 i2 : Addr) : Prop where
  ab : ti ≠ z
  ac : to ≠ z
  ad : i1 ≠ z
  ae : i2 ≠ z
  bc : ti ≠ to
  bd : ti ≠ i1
  be : ti ≠ i2
  cd : to ≠ i1
  ce : to ≠ i2
  de : i1 ≠ i2
noncomputable def ZOff (z to i1 i2 c : Addr) : Prop := c ≠ z ∧ c ≠ to ∧ c ≠ i1 ∧ c ≠ i2

theorem zip_item {b1 b2 : Bool} {z ti to i1 i2 l1 l2 : Addr} {k : Nat} {xs ys : Array Value} {x y : Value} {Q : Value → Shared → Prop} (D : ZNe z ti to i1 i2) (d1 : ZOff z to i1 i2 l1) (d2 : ZOff z to i1 i2 l2) (Z : ZAt b1 b2 s.heap z ti to i1 i2 l1 l2 .none k)
    (t1 : SqAt b1 s.heap l1 xs) (t2 : SqAt b2 s.heap l2 ys) (hx : xs[k]? = some x) (hy : ys[k]? = some y)
    (hQ : ∀ g, ZAt b1 b2 g z ti to i1 i2 l1 l2 (rawInt s.heap.objs.size) (k + 1) → IsPair g s.heap.objs.size x y → (∀ c o, ZOff z to i1 i2 c → s.heap.get? c = some o → g.get? c = some o) → Q (.ref s.heap.objs.size) { s with heap := g }) :
    wpAny (model P w) A (Builtin.«zip.__next__» ⟨[.ref z], []⟩) (fun fin s' => ∃ v, fin = .done (.ret v) ∧ Q v s') E s := by
  obtain ⟨hz, hti, ⟨a, b, hto⟩, h1, h2⟩ := Z
  show wpAny _ _ (field (.ref z) 2 >>= _) _ _ _
  refine wpAny_bind (wpAny_field hz rfl (x := .bool false) rfl ?_)
  show wpAny _ _ (field (.ref z) 3 >>= _) _ _ _
  refine wpAny_bind (wpAny_field hz rfl (x := .ref ti) rfl ?_)
  refine wpAny_bind (wpAny_seqItems hti rfl ?_)
  show wpAny _ _ (Builtin.SmallTypes.ownedTupleIsFree (.ref z) >>= _) _ _ _
  refine wpAny_bind ?_
  unfold Builtin.SmallTypes.ownedTupleIsFree
  refine wpAny_bind (wpAny_field hz rfl (x := .none) rfl (wpAny_pure ?_))
  simp only [if_true]
  refine wpAny_bind (wpAny_rule ?_)
  refine wpAny_bind (wpAny_field hz rfl (x := .ref to) rfl ?_)
  refine wpAny_bind (wpAny_setField_rec hz (by simp) fun g1 z1 s1 => ?_)
  replace z1 : IsZip g1 z ti to .ellipsis := z1
  refine wpAny_bind ?_
  simp only [List.zipIdx_cons, List.zipIdx_nil, List.forIn_cons, List.forIn_nil]
  refine wpAny_bind (wpAny_bind (wpAny_onRaise ?_))
  show wpAny _ _ (Builtin.SmallTypes.nextOf (.ref i1) >>= _) _ _ _
  refine wpAny_bind (nextK_item (h1.at fun o e => s1.extBut _ o D.ad e) (t1.at fun o e => s1.extBut _ o d1.1 e) hx fun g2 p2 s2 => wpAny_pure ?_)
  have to2 : IsPair g2 to a b := s2.extBut _ _ D.cd (s1.extBut _ _ D.ac hto)
  refine wpAny_bind (wpAny_seqItems to2 rfl (wpAny_bind (wpAny_updateSeq_pair to2 fun g3 to3 s3 => ?_)))
  replace to3 : IsPair g3 to x b := to3
  refine wpAny_bind (wpAny_letGo (wpAny_pure (wpAny_bind (wpAny_bind (wpAny_onRaise ?_)))))
  show wpAny _ _ (Builtin.SmallTypes.nextOf (.ref i2) >>= _) _ _ _
  refine wpAny_bind (nextK_item (h2.at fun o e => s3.extBut _ o D.ce.symm (s2.extBut _ o D.de.symm (s1.extBut _ o D.ae e))) (t2.at fun o e => s3.extBut _ o d2.2.1 (s2.extBut _ o d2.2.2.1 (s1.extBut _ o d2.1 e))) hy fun g4 p4 s4 => wpAny_pure ?_)
  have to4 : IsPair g4 to x b := s4.extBut _ _ D.ce to3
  refine wpAny_bind (wpAny_seqItems to4 rfl (wpAny_bind (wpAny_updateSeq_pair to4 fun g5 to5 s5 => ?_)))
  replace to5 : IsPair g5 to x y := to5
  refine wpAny_bind (wpAny_letGo (wpAny_pure (wpAny_pure (wpAny_bind (wpAny_seqItems to5 rfl (wpAny_bind (wpAny_newTuple ?_)))))))
  have sz : g5.objs.size = s.heap.objs.size := by rw [s5.1, s4.1, s3.1, s2.1, s1.1]
  have z5 : IsZip g5 z ti to .ellipsis := s5.extBut _ _ D.ac.symm (s4.extBut _ _ D.ae.symm (s3.extBut _ _ D.ac.symm (s2.extBut _ _ D.ad.symm z1)))
  have kp5 : ∀ c o, ZOff z to i1 i2 c → s.heap.get? c = some o → g5.get? c = some o := fun c o q e => s5.extBut _ _ q.2.1 (s4.extBut _ _ q.2.2.2 (s3.extBut _ _ q.2.1 (s2.extBut _ _ q.2.2.1 (s1.extBut _ _ q.1 e))))
  have q1 : ItAt b1 g5 i1 l1 (k + 1) := p2.at fun o e => s5.extBut _ o D.cd.symm (s4.extBut _ o D.de (s3.extBut _ o D.cd.symm e))
  have q2 : ItAt b2 g5 i2 l2 (k + 1) := p4.at fun o e => s5.extBut _ o D.ce.symm e
  have lz : z < g5.objs.size := Heap.lt_size z5
  show wpAny _ _ (Builtin.SmallTypes.ownedTupleHandOut (.ref z) (.ref g5.objs.size) >>= _) _ _ _
  refine wpAny_bind ?_
  unfold Builtin.SmallTypes.ownedTupleHandOut
  have z6 : IsZip (g5.push { cls := .type "tuple", data := .seq #[x, y] }) z ti to .ellipsis := Heap.get?_push_of_some _ z5
  refine wpAny_bind (wpAny_setField_rec z6 (by simp) fun g7 z7 s7 => ?_)
  replace z7 : IsZip g7 z ti to (rawInt g5.objs.size) := z7
  refine wpAny_setField_rec z7 (by simp) fun g8 z8 s8 => ?_
  replace z8 : IsZip g8 z ti to (rawInt g5.objs.size) := z8
  have up : ∀ c o, c ≠ z → g5.get? c = some o → g8.get? c = some o := fun c o c1 e => s8.extBut _ _ c1 (s7.extBut _ _ c1 (Heap.get?_push_of_some _ e))
  have pr : IsPair g8 g5.objs.size x y := s8.extBut _ _ (Nat.ne_of_gt lz) (s7.extBut _ _ (Nat.ne_of_gt lz) (Heap.get?_push_size _ rfl))
  rw [sz] at z8 pr
  refine wpAny_pure ⟨_, rfl, ?_⟩
  show Q (.ref g5.objs.size) _
  rw [sz]
  exact hQ g8 ⟨z8, up _ _ D.ab (kp5 _ _ ⟨D.ab, D.bc, D.bd, D.be⟩ hti), ⟨_, _, up _ _ D.ac to5⟩, q1.at fun o e => up _ o D.ad e, q2.at fun o e => up _ o D.ae e⟩ pr fun c o q e => up c o q.1 (kp5 c o q e)

theorem zip_end {b1 b2 : Bool} {z ti to i1 i2 l1 l2 : Addr} {k : Nat} {xs ys : Array Value} {Q : Fin → Shared → Prop} (hh : A.handled = none) (D : ZNe z ti to i1 i2) (d1 : ZOff z to i1 i2 l1) (d2 : ZOff z to i1 i2 l2) (Z : ZAt b1 b2 s.heap z ti to i1 i2 l1 l2 .none k)
    (t1 : SqAt b1 s.heap l1 xs) (t2 : SqAt b2 s.heap l2 ys) (hend : xs[k]? = none ∨ ys[k]? = none)
    (hE : ∀ g e, (∀ c o, ZOff z to i1 i2 c → s.heap.get? c = some o → g.get? c = some o) → (∃ o, g.get? e = some o ∧ o.cls = .type "StopIteration") → E (.ref e) { s with heap := g }) :
    wpAny (model P w) A (Builtin.«zip.__next__» ⟨[.ref z], []⟩) Q E s := by
  obtain ⟨hz, hti, ⟨a, b, hto⟩, h1, h2⟩ := Z
  show wpAny _ _ (field (.ref z) 2 >>= _) _ _ _
  refine wpAny_bind (wpAny_field hz rfl (x := .bool false) rfl ?_)
  show wpAny _ _ (field (.ref z) 3 >>= _) _ _ _
  refine wpAny_bind (wpAny_field hz rfl (x := .ref ti) rfl ?_)
  refine wpAny_bind (wpAny_seqItems hti rfl ?_)
  show wpAny _ _ (Builtin.SmallTypes.ownedTupleIsFree (.ref z) >>= _) _ _ _
  refine wpAny_bind ?_
  unfold Builtin.SmallTypes.ownedTupleIsFree
  refine wpAny_bind (wpAny_field hz rfl (x := .none) rfl (wpAny_pure ?_))
  simp only [if_true]
  refine wpAny_bind (wpAny_rule ?_)
  refine wpAny_bind (wpAny_field hz rfl (x := .ref to) rfl ?_)
  refine wpAny_bind (wpAny_setField_rec hz (by simp) fun g1 z1 s1 => ?_)
  replace z1 : IsZip g1 z ti to .ellipsis := z1
  refine wpAny_bind ?_
  simp only [List.zipIdx_cons, List.zipIdx_nil, List.forIn_cons, List.forIn_nil]
  refine wpAny_bind (wpAny_bind (wpAny_onRaise ?_))
  show wpAny _ _ (Builtin.SmallTypes.nextOf (.ref i1) >>= _) _ _ _
  cases hx : xs[k]? with
  | none =>
    refine wpAny_bind (nextK_end hh (h1.at fun o e => s1.extBut _ o D.ad e) (t1.at fun o e => s1.extBut _ o d1.1 e) hx fun g2 e s2 he => ?_)
    obtain ⟨oe, hoe, hce⟩ := he
    have z2 : IsZip g2 z ti to .ellipsis := s2 _ _ D.ad.symm z1
    have ez : e ≠ z := fun x => by subst x; rw [z2] at hoe; cases hoe; simp at hce
    exact wpAny_setField_rec z2 (by simp) fun g3 _ s3 => hE g3 e (fun c o q x => s3.extBut _ _ q.1 (s2 _ _ q.2.2.1 (s1.extBut _ _ q.1 x))) ⟨oe, s3.extBut _ _ ez hoe, hce⟩
  | some x =>
    have hy : ys[k]? = none := by rcases hend with h | h; rw [hx] at h; cases h; exact h
    refine wpAny_bind (nextK_item (h1.at fun o e => s1.extBut _ o D.ad e) (t1.at fun o e => s1.extBut _ o d1.1 e) hx fun g2 p2 s2 => wpAny_pure ?_)
    have to2 : IsPair g2 to a b := s2.extBut _ _ D.cd (s1.extBut _ _ D.ac hto)
    refine wpAny_bind (wpAny_seqItems to2 rfl (wpAny_bind (wpAny_updateSeq_pair to2 fun g3 to3 s3 => ?_)))
    refine wpAny_bind (wpAny_letGo (wpAny_pure (wpAny_bind (wpAny_bind (wpAny_onRaise ?_)))))
    show wpAny _ _ (Builtin.SmallTypes.nextOf (.ref i2) >>= _) _ _ _
    refine wpAny_bind (nextK_end hh (h2.at fun o e => s3.extBut _ o D.ce.symm (s2.extBut _ o D.de.symm (s1.extBut _ o D.ae e))) (t2.at fun o e => s3.extBut _ o d2.2.1 (s2.extBut _ o d2.2.2.1 (s1.extBut _ o d2.1 e))) hy fun g4 e s4 he => ?_)
    obtain ⟨oe, hoe, hce⟩ := he
    have z4 : IsZip g4 z ti to .ellipsis := s4 _ _ D.ae.symm (s3.extBut _ _ D.ac.symm (s2.extBut _ _ D.ad.symm z1))
    have ez : e ≠ z := fun x => by subst x; rw [z4] at hoe; cases hoe; simp at hce
    exact wpAny_setField_rec z4 (by simp) fun g5 _ s5 => hE g5 e (fun c o q x => s5.extBut _ _ q.1 (s4 _ _ q.2.2.2 (s3.extBut _ _ q.2.1 (s2.extBut _ _ q.2.2.1 (s1.extBut _ _ q.1 x))))) ⟨oe, s5.extBut _ _ ez hoe, hce⟩

theorem next_item {b1 b2 : Bool} {z ti to i1 i2 l1 l2 : Addr} {k : Nat} {xs ys : Array Value} {x y : Value} {Q : Option Value → Shared → Prop} (D : ZNe z ti to i1 i2) (d1 : ZOff z to i1 i2 l1) (d2 : ZOff z to i1 i2 l2) (Z : ZAt b1 b2 s.heap z ti to i1 i2 l1 l2 .none k)
    (t1 : SqAt b1 s.heap l1 xs) (t2 : SqAt b2 s.heap l2 ys) (hx : xs[k]? = some x) (hy : ys[k]? = some y)
    (hQ : ∀ g, ZAt b1 b2 g z ti to i1 i2 l1 l2 (rawInt s.heap.objs.size) (k + 1) → IsPair g s.heap.objs.size x y → (∀ c o, ZOff z to i1 i2 c → s.heap.get? c = some o → g.get? c = some o) → Q (some (.ref s.heap.objs.size)) { s with heap := g }) :
    wpAny (model P w) A (pyNext (.ref z)) Q E s := by
  have ty : s.TypeIs (.ref z) "zip" := ⟨_, Z.zz, rfl⟩
  unfold pyNext
  exact wpAny_bind (wpAny_attempt (wpAny_callSpecial?_slot (name := Str.ofString "__next__") ty F.slot_zip_next (wpAny_call_entry F.slot_zip_next ty F.entry_zip_next (zip_item D d1 d2 Z t1 t2 hx hy fun g a b c => wpAny_pure (hQ g a b c)) (F.args_zip_next_1 _))))
theorem next_end {b1 b2 : Bool} {z ti to i1 i2 l1 l2 : Addr} {k : Nat} {xs ys : Array Value} {Q : Option Value → Shared → Prop} (hh : A.handled = none) (D : ZNe z ti to i1 i2) (d1 : ZOff z to i1 i2 l1) (d2 : ZOff z to i1 i2 l2) (Z : ZAt b1 b2 s.heap z ti to i1 i2 l1 l2 .none k)
    (t1 : SqAt b1 s.heap l1 xs) (t2 : SqAt b2 s.heap l2 ys) (hend : xs[k]? = none ∨ ys[k]? = none)
    (hQ : ∀ g, (∀ c o, ZOff z to i1 i2 c → s.heap.get? c = some o → g.get? c = some o) → Q none { s with heap := g }) : wpAny (model P w) A (pyNext (.ref z)) Q E s := by
  have ty : s.TypeIs (.ref z) "zip" := ⟨_, Z.zz, rfl⟩
  unfold pyNext
  refine wpAny_bind (wpAny_attempt (wpAny_callSpecial?_slot (name := Str.ofString "__next__") ty F.slot_zip_next (wpAny_call_entry F.slot_zip_next ty F.entry_zip_next (zip_end hh D d1 d2 Z t1 t2 hend fun g e kp he => ?_) (F.args_zip_next_1 _))))
  obtain ⟨o, ho, hc⟩ := he
  refine wpAny_bind (wpAny_isInstance (T := "StopIteration") (b := true) ⟨o, ho, hc⟩ isSubtype_stop ?_)
  exact wpAny_pure (hQ _ kp)

noncomputable def itName (b : Bool) : String := match b with
  | true => "tuple_iterator"
  | false => "list_iterator"
noncomputable abbrev zh1 (b1 : Bool) (h : Heap) (l1 : Addr) : Heap := h.push { cls := .type (itName b1), data := .fields #[.ref l1, .int 0 0] }
noncomputable abbrev zh2 (b1 b2 : Bool) (h : Heap) (l1 l2 : Addr) : Heap := (zh1 b1 h l1).push { cls := .type (itName b2), data := .fields #[.ref l2, .int 0 0] }
noncomputable abbrev zh3 (b1 b2 : Bool) (h : Heap) (l1 l2 : Addr) : Heap := (zh2 b1 b2 h l1 l2).push { cls := .type "tuple", data := .seq #[.ref h.objs.size, .ref (zh1 b1 h l1).objs.size] }
noncomputable abbrev zh4 (b1 b2 : Bool) (h : Heap) (l1 l2 : Addr) : Heap := (zh3 b1 b2 h l1 l2).push { cls := .type "tuple", data := .seq #[.none, .none] }
noncomputable abbrev zh5 (b1 b2 : Bool) (h : Heap) (l1 l2 : Addr) : Heap := (zh4 b1 b2 h l1 l2).push { cls := .type "zip", data := .fields #[.none, .bool false, .bool false, .ref (zh2 b1 b2 h l1 l2).objs.size, .ref (zh3 b1 b2 h l1 l2).objs.size] }
theorem zip_new (b1 b2 : Bool) (l1 l2 : Addr) (xs ys : Array Value) :
    Meets (Builtin.«zip.__new__» ⟨[.type "zip", .ref l1, .ref l2], []⟩) (fun _ R s => SqAt b1 s.heap l1 xs ∧ SqAt b2 s.heap l2 ys ∧ R (.ok (.ret (.ref (zh4 b1 b2 s.heap l1 l2).objs.size))) { s with heap := zh5 b1 b2 s.heap l1 l2 }) :=
  .of_wp fun prog w A R s h => by
    obtain ⟨hp, g, d, tk, os⟩ := s
    obtain ⟨a1, a2, h⟩ := h
    have hsub := sub_zip
    cases b1 <;> cases b2
    · have b1 : Heap.IsList (Shared.heap ⟨hp, g, d, tk, os⟩) l1 xs := a1
      have b2 : Heap.IsList (Shared.heap ⟨hp.push { cls := .type "list_iterator", data := .fields #[.ref l1, .int 0 0] }, g, d, tk, os⟩) l2 ys := Heap.IsList.push a2 _
      wp_walk using wpAny_pyIter_list b1, wpAny_pyIter_list b2
      exact ⟨_, rfl, h⟩
    · have b1 : Heap.IsList (Shared.heap ⟨hp, g, d, tk, os⟩) l1 xs := a1
      have b2 : Heap.IsTuple (Shared.heap ⟨hp.push { cls := .type "list_iterator", data := .fields #[.ref l1, .int 0 0] }, g, d, tk, os⟩) l2 ys := Heap.IsTuple.push a2 _
      wp_walk using wpAny_pyIter_list b1, wpAny_pyIter_tuple b2
      exact ⟨_, rfl, h⟩
    · have b1 : Heap.IsTuple (Shared.heap ⟨hp, g, d, tk, os⟩) l1 xs := a1
      have b2 : Heap.IsList (Shared.heap ⟨hp.push { cls := .type "tuple_iterator", data := .fields #[.ref l1, .int 0 0] }, g, d, tk, os⟩) l2 ys := Heap.IsList.push a2 _
      wp_walk using wpAny_pyIter_tuple b1, wpAny_pyIter_list b2
      exact ⟨_, rfl, h⟩
    · have b1 : Heap.IsTuple (Shared.heap ⟨hp, g, d, tk, os⟩) l1 xs := a1
      have b2 : Heap.IsTuple (Shared.heap ⟨hp.push { cls := .type "tuple_iterator", data := .fields #[.ref l1, .int 0 0] }, g, d, tk, os⟩) l2 ys := Heap.IsTuple.push a2 _
      wp_walk using wpAny_pyIter_tuple b1, wpAny_pyIter_tuple b2
      exact ⟨_, rfl, h⟩
theorem zip_call {b1 b2 : Bool} {l1 l2 : Addr} {xs ys : Array Value} {Q : Value → Shared → Prop} (t1 : SqAt b1 s.heap l1 xs) (t2 : SqAt b2 s.heap l2 ys)
    (h : ∀ g, ZAt b1 b2 g (s.heap.objs.size + 4) (s.heap.objs.size + 2) (s.heap.objs.size + 3) s.heap.objs.size (s.heap.objs.size + 1) l1 l2 .none 0 → (∀ c o, s.heap.get? c = some o → g.get? c = some o) → Q (.ref (s.heap.objs.size + 4)) { s with heap := g }) :
    wpAny (model P w) A (call (.type "zip") [.ref l1, .ref l2]) Q E s := by
  refine callType_new F.called_zip (by decide) (F.typeCall_zip_2 _ _) (F.newCall_zip_2 _ _) (fun obj => F.args_object_init_3 obj _ _) F.entry_zip_new (zip_new b1 b2 l1 l2 xs ys) ⟨t1, t2, ?_⟩
  have n1 : (zh1 b1 s.heap l1).objs.size = s.heap.objs.size + 1 := Heap.size_push ..
  have n2 : (zh2 b1 b2 s.heap l1 l2).objs.size = s.heap.objs.size + 2 := by rw [Heap.size_push, n1]
  have n3 : (zh3 b1 b2 s.heap l1 l2).objs.size = s.heap.objs.size + 3 := by rw [Heap.size_push, n2]
  have n4 : (zh4 b1 b2 s.heap l1 l2).objs.size = s.heap.objs.size + 4 := by rw [Heap.size_push, n3]
  have g5 : (zh5 b1 b2 s.heap l1 l2).get? (zh4 b1 b2 s.heap l1 l2).objs.size = some _ := Heap.get?_push_size _ rfl
  have g4 : (zh5 b1 b2 s.heap l1 l2).get? (zh3 b1 b2 s.heap l1 l2).objs.size = some _ := Heap.get?_push_of_some _ (Heap.get?_push_size _ rfl)
  have g3 : (zh5 b1 b2 s.heap l1 l2).get? (zh2 b1 b2 s.heap l1 l2).objs.size = some _ := Heap.get?_push_of_some _ (Heap.get?_push_of_some _ (Heap.get?_push_size _ rfl))
  have g2 : (zh5 b1 b2 s.heap l1 l2).get? (zh1 b1 s.heap l1).objs.size = some _ := Heap.get?_push_of_some _ (Heap.get?_push_of_some _ (Heap.get?_push_of_some _ (Heap.get?_push_size _ rfl)))
  have g1 : (zh5 b1 b2 s.heap l1 l2).get? s.heap.objs.size = some _ := Heap.get?_push_of_some _ (Heap.get?_push_of_some _ (Heap.get?_push_of_some _ (Heap.get?_push_of_some _ (Heap.get?_push_size _ rfl))))
  show _ ∧ _
  rw [n2, n3, n4] at g5
  rw [n1, n2] at g3
  rw [n3] at g4
  rw [n1] at g2
  rw [n4]
  exact ⟨⟨_, g5, rfl⟩, h _ ⟨g5, g3, ⟨_, _, g4⟩, (by cases b1 <;> exact ⟨_, g1, rfl, rfl⟩), (by cases b2 <;> exact ⟨_, g2, rfl, rfl⟩)⟩ fun c o e => Heap.get?_push_of_some _ (Heap.get?_push_of_some _ (Heap.get?_push_of_some _ (Heap.get?_push_of_some _ (Heap.get?_push_of_some _ e))))⟩
end
end L3

set_option Elab.async false
set_option linter.all false
set_option maxRecDepth 100000
set_option maxHeartbeats 8000000
namespace L3
open PySem PySem.Spec L2
open PyProof.Rows hiding St
theorem ItAt.there {b : Bool} {h : Heap} {it l : Addr} {i : Nat} (x : ItAt b h it l i) : ∃ o, h.get? it = some o ∧ ∀ v, o.data ≠ .cell v := by
  cases b with
  | true =>
    obtain ⟨o, e, c, d⟩ := (show h.IsTupleIter it l i from x)
    exact ⟨o, e, fun v q => by rw [d] at q; cases q⟩
  | false =>
    obtain ⟨o, e, c, d⟩ := (show h.IsListIter it l i from x)
    exact ⟨o, e, fun v q => by rw [d] at q; cases q⟩
noncomputable def SqK (b : Bool) (K : PySem.W.Frag) (H : Hp) (l : Addr) (xs : List V) : Prop := match b with
  | true => SqT K H l xs
  | false => SqL K H l xs
theorem sq_at {b : Bool} {X : Cx} {pins : List (Addr × Obj)} {σ : St} {H : Hp} {s : Shared} {l : Addr} {xs : List V} (I : Inv X pins σ H s) (h : SqK b X.K H l xs) : ∃ its, Vals xs its ∧ SqAt b s.heap l its.toArray := by
  cases b with
  | true =>
    obtain ⟨its, r, p, _⟩ := I.tuple h
    exact ⟨its, r, (show s.heap.IsTuple l its.toArray from p)⟩
  | false =>
    obtain ⟨its, r, p, _⟩ := I.list h
    exact ⟨its, r, p.isList⟩
theorem sq_inj {b : Bool} {X : Cx} {pins : List (Addr × Obj)} {σ : St} {H : Hp} {s : Shared} {l : Addr} {xs ys : List V} (I : Inv X pins σ H s) (h : SqK b X.K H l xs) (h' : SqK b X.K H l ys) : xs = ys := by
  cases b with
  | true => exact I.tuple_inj h h'
  | false => exact I.list_inj h h'
theorem sq_off {b : Bool} {X : Cx} {pins : List (Addr × Obj)} {σ : St} {H : Hp} {s : Shared} {l c : Addr} {xs : List V} (I : Inv X pins σ H s) (h : SqK b X.K H l xs) (f : FpOk X pins H c) : l ≠ c := by
  have kc : ∀ {o : Obj}, X.K.lookup l = some o → l ≠ c := fun {o} lk z => by
    subst z
    have e := I.ok.mod.kin _ _ lk
    rcases f.2.2.2.1 with q | q
    · exact I.ok.noex _ _ e q
    · exact absurd (Nat.lt_of_lt_of_le (Heap.lt_size e) I.ok.bsz) (Nat.not_lt.mpr q)
  cases b with
  | true =>
    rcases h with (h | ⟨o, h⟩) | ⟨o, its, n, lk, _⟩
    · exact ne_of_none h f.1
    · exact ne_of_none h f.1
    · exact kc lk
  | false =>
    rcases h with (h | ⟨o, h⟩) | ⟨o, its, n, lk, _⟩
    · exact ne_of_none h f.1
    · exact ne_of_none h f.1
    · exact kc lk

noncomputable def Itz (b1 b2 : Bool) (K : PySem.W.Frag) (l1 l2 : Addr) : It :=
  ⟨fun i H => ∃ xs ys x y, SqK b1 K H l1 xs ∧ SqK b2 K H l2 ys ∧ xs[i]? = some x ∧ ys[i]? = some y,
   fun i H v H' => ∃ T x y, H T = none ∧ v = .ref T ∧ (∀ xs, SqK b1 K H l1 xs → xs[i]? = some x) ∧ (∀ ys, SqK b2 K H l2 ys → ys[i]? = some y) ∧ H' = upd H T (.tup [x, y]),
   fun i H => ∃ xs ys, SqK b1 K H l1 xs ∧ SqK b2 K H l2 ys ∧ (xs.length ≤ i ∨ ys.length ≤ i)⟩
theorem turn_zip {P : Program} {w : World} {K : PySem.W.Frag} {es : List Expr} {kk : Nat} {tp : Pos} {b1 b2 : Bool} {z ti to i1 i2 l1 l2 : Addr} (D : ZNe z ti to i1 i2) :
    Turn P w K (.Tuple es kk tp) (Itz b1 b2 K l1 l2) [z, ti, to, i1, i2] z (fun i h => ZAt b1 b2 h z ti to i1 i2 l1 l2 .none i) where
  mem := by simp
  obj := fun i h Z b hb => by
    obtain ⟨hz, hti, ⟨u, v, hto⟩, h1, h2⟩ := Z
    obtain ⟨o1, e1, d1⟩ := h1.there
    obtain ⟨o2, e2, d2⟩ := h2.there
    simp only [List.mem_cons, List.not_mem_nil, or_false] at hb
    rcases hb with rfl | rfl | rfl | rfl | rfl
    · exact ⟨_, hz, fun v q => (by cases q)⟩
    · exact ⟨_, hti, fun v q => (by cases q)⟩
    · exact ⟨_, hto, fun v q => (by cases q)⟩
    · exact ⟨o1, e1, fun v q => d1 v q⟩
    · exact ⟨o2, e2, fun v q => d2 v q⟩
  keep := fun i h h' Z k => by
    obtain ⟨hz, hti, ⟨u, v, hto⟩, h1, h2⟩ := Z
    exact ⟨k z (by simp) _ hz, k ti (by simp) _ hti, ⟨u, v, k to (by simp) _ hto⟩, h1.at fun o e => k i1 (by simp) o e, h2.at fun o e => k i2 (by simp) o e⟩
  item := by
    intro X hP hw hK hc i pins s σ H E I hf Z hg
    subst hP hw hK
    obtain ⟨xs, ys, x, y, e1, e2, hx, hy⟩ := hg
    obtain ⟨its1, r1, g1⟩ := sq_at I e1
    obtain ⟨its2, r2, g2⟩ := sq_at I e2
    obtain ⟨u, hu, ru⟩ := r1.get hx
    obtain ⟨v, hv, rv⟩ := r2.get hy
    have fz := hf z (by simp)
    have fto := hf to (by simp)
    have f1 := hf i1 (by simp)
    have f2 := hf i2 (by simp)
    have off : ∀ b ho, H b = some ho → ZOff z to i1 i2 b := fun b ho e => ⟨ne_of_none e fz.1, ne_of_none e fto.1, ne_of_none e f1.1, ne_of_none e f2.1⟩
    refine next_item D ⟨sq_off I e1 fz, sq_off I e1 fto, sq_off I e1 f1, sq_off I e1 f2⟩ ⟨sq_off I e2 fz, sq_off I e2 fto, sq_off I e2 f1, sq_off I e2 f2⟩ Z g1 g2 (x := u) (y := v) (by simpa using hu) (by simpa using hv) fun g Z2 pr kp => ?_
    have hn : H s.heap.objs.size = none := I.fresh
    have hout : ∀ b, b ∉ [z, to, i1, i2] → ZOff z to i1 i2 b := fun b hb => by
      simp only [List.mem_cons, List.not_mem_nil, or_false, not_or] at hb
      exact hb
    have un : Un (frs X.stack) [z, to, i1, i2] H (upd H s.heap.objs.size (.tup [x, y])) s.heap g :=
      ⟨fun b o q _ _ hx => kp b o (hout b hx) q, fun b o q _ _ hx => ⟨o.slots, kp b o (hout b hx) q⟩, fun b o q n _ => by rw [upd_ne (Nat.ne_of_lt (Heap.lt_size q))]; exact n, fun b o q hx => ⟨o, kp b o (hout b hx) q⟩,
       fun b zs q => by rw [upd_ne (ne_of_none q hn)]; exact q, fun b o zs q => by rw [upd_ne (ne_of_none q hn)]; exact q, fun b ps q => ⟨#[], by rw [upd_ne (ne_of_none q hn), q]; simp⟩⟩
    have hok : HOk X.prog X.w (upd H s.heap.objs.size (.tup [x, y])) g := fun b o e => by
      by_cases hb : b = s.heap.objs.size
      · subst hb
        rw [upd_same] at e
        cases e
        refine ⟨by simp only [List.length_cons, List.length_nil]; rw [sizeLine_eq]; decide, [u, v], .cons ru (.cons rv .nil), ⟨_, pr, rfl, _, rfl⟩, _, pr, rfl⟩
      · rw [upd_ne hb] at e
        refine (I.hok b o e).stay (fun c ob hc q => kp c ob ?_ q) (fun c q => by rw [upd_ne (ne_of_none q hn)]; exact q) fun c zs q => by rw [upd_ne (ne_of_none q hn)]; exact q
        rcases hc with rfl | hc
        · exact off _ _ e
        · exact off _ _ hc
    have I2 : Inv X pins σ (upd H s.heap.objs.size (.tup [x, y])) { s with heap := g } := I.call' (s' := { s with heap := g }) (ch := [z, to, i1, i2]) rfl un hok I.bare fun b hb => by
      have hb' : b ∈ [z, ti, to, i1, i2] := by
        simp only [List.mem_cons, List.not_mem_nil, or_false] at hb ⊢
        rcases hb with rfl | rfl | rfl | rfl <;> simp
      have q := hf b hb'
      exact ⟨q.2.2.2.1, q.2.1, q.2.2.2.2.1, q.2.2.2.2.2⟩
    have none5 : ∀ b ∈ [z, ti, to, i1, i2], upd H s.heap.objs.size (.tup [x, y]) b = none := fun b hb => by
      have lb : b < s.heap.objs.size := by
        obtain ⟨hz, hti, ⟨u, v, hto⟩, h1, h2⟩ := Z
        obtain ⟨_, q1, _⟩ := h1.there
        obtain ⟨_, q2, _⟩ := h2.there
        simp only [List.mem_cons, List.not_mem_nil, or_false] at hb
        rcases hb with rfl | rfl | rfl | rfl | rfl
        · exact Heap.lt_size hz
        · exact Heap.lt_size hti
        · exact Heap.lt_size hto
        · exact Heap.lt_size q1
        · exact Heap.lt_size q2
      rw [upd_ne (Nat.ne_of_lt lb)]
      exact (hf b hb).1
    refine ⟨_, rfl, wpAny_letOwnedTupleGo_zip Z2.zz fun g2 z3 sb => ?_⟩
    refine ⟨.ref s.heap.objs.size, _, I2.turned (t' := s.toks) (fun b o hb e => sb.extBut b o hb e) (none5 z (by simp)) fz.2.1 fz.2.2.2.1 fz.2.2.2.2.1 fz.2.2.2.2.2, rfl, ⟨_, x, y, hn, rfl, (fun zs q => by rw [← sq_inj I e1 q]; exact hx), (fun zs q => by rw [← sq_inj I e2 q]; exact hy), rfl⟩, ?_, none5⟩
    obtain ⟨_, hti, ⟨u2, v2, hto⟩, h1, h2⟩ := Z2
    exact ⟨z3, sb.extBut _ _ D.ab hti, ⟨u2, v2, sb.extBut _ _ D.ac hto⟩, h1.at fun o e => sb.extBut _ o D.ad e, h2.at fun o e => sb.extBut _ o D.ae e⟩
  done := by
    intro X hP hw hK hc i pins s σ H E I hf Z hg
    subst hP hw hK
    obtain ⟨xs, ys, e1, e2, hend⟩ := hg
    obtain ⟨its1, r1, g1⟩ := sq_at I e1
    obtain ⟨its2, r2, g2⟩ := sq_at I e2
    have fz := hf z (by simp)
    have fto := hf to (by simp)
    have f1 := hf i1 (by simp)
    have f2 := hf i2 (by simp)
    have off : ∀ b ho, H b = some ho → ZOff z to i1 i2 b := fun b ho e => ⟨ne_of_none e fz.1, ne_of_none e fto.1, ne_of_none e f1.1, ne_of_none e f2.1⟩
    have l1' := r1.length
    have l2' := r2.length
    refine next_end (I.ok.hd hc) D ⟨sq_off I e1 fz, sq_off I e1 fto, sq_off I e1 f1, sq_off I e1 f2⟩ ⟨sq_off I e2 fz, sq_off I e2 fto, sq_off I e2 f1, sq_off I e2 f2⟩ Z g1 g2 ?_ fun g kp => ?_
    · rcases hend with q | q
      · exact .inl (by simp; omega)
      · exact .inr (by simp; omega)
    · refine ⟨rfl, ?_⟩
      have hout : ∀ b, b ∉ [z, to, i1, i2] → ZOff z to i1 i2 b := fun b hb => by
        simp only [List.mem_cons, List.not_mem_nil, or_false, not_or] at hb
        exact hb
      have un : Un (frs X.stack) [z, to, i1, i2] H H s.heap g :=
        ⟨fun b o q _ _ hx => kp b o (hout b hx) q, fun b o q _ _ hx => ⟨o.slots, kp b o (hout b hx) q⟩, fun b o q n _ => n, fun b o q hx => ⟨o, kp b o (hout b hx) q⟩,
         fun b zs q => q, fun b o zs q => q, fun b ps q => ⟨#[], by rw [q]; simp⟩⟩
      refine I.call' (s' := { s with heap := g }) (ch := [z, to, i1, i2]) rfl un (fun b o e => (I.hok b o e).stay (fun c ob hc q => kp c ob ?_ q) (fun c q => q) fun c zs q => q) I.bare fun b hb => ?_
      · rcases hc with rfl | hc
        · exact off _ _ e
        · exact off _ _ hc
      · have hb' : b ∈ [z, ti, to, i1, i2] := by
          simp only [List.mem_cons, List.not_mem_nil, or_false] at hb ⊢
          rcases hb with rfl | rfl | rfl | rfl <;> simp
        have q := hf b hb'
        exact ⟨q.2.2.2.1, q.2.1, q.2.2.2.2.1, q.2.2.2.2.2⟩
  self := fun _ _ _ _ _ Z h => wpAny_pyIter_zip Z.zz h

theorem boot_zip' : bootBuiltins "zip" = some (.type "zip") := by kernel_rfl
noncomputable def iZip (K : PySem.W.Frag) (ta : TA) : TI := fun σ H R => ta σ H fun vs H1 => ∃ b1 b2 l1 l2 xs ys, vs = [.ref l1, .ref l2] ∧ SqK b1 K H1 l1 xs ∧ SqK b2 K H1 l2 ys ∧ R (Itz b1 b2 K l1 l2) H1
theorem pi_zip {X : Cx} {es : List Expr} {kk : Nat} {tp : Pos} {a b : Expr} {ta : TA} {p pos : Pos} (hg : Gl X "zip") (hm : X.mg "zip" = none) (ha : PA X [a, b] ta)
    (he : starEach [a, b] X.env = (false, eval a X.env) :: starEach [b] X.env := by rfl) (hpl : (backTo pos (starEach [b] X.env)).any (·.1) = false := by rfl) : PI X (.Tuple es kk tp) (.Call (.Name "zip" p) [a, b] [] pos) (iZip X.K ta) := by
  intro pins s σ H R I h
  refine wpAny_Call_Name_kw (ld_blt I hg hm boot_zip' ?_ (by decide) (by decide))
  refine PyProof.Rows.callWith_type1 (thn (ha pos pins s σ H _ I h) fun us s1 ⟨vs, H1, I1, r1, b1, b2, l1, l2, xs, ys, e, e1, e2, q⟩ => ?_) he hpl
  subst e
  obtain ⟨u, v, rfl, ru, rv⟩ := vals2 r1
  cases ru
  cases rv
  obtain ⟨its1, r1, g1⟩ := sq_at I1 e1
  obtain ⟨its2, r2, g2⟩ := sq_at I1 e2
  refine zip_call (xs := its1.toArray) (ys := its2.toArray) g1 g2 fun g Z kp => wpAny_pyIter_zip Z.zz ?_
  have D : ZNe (s1.heap.objs.size + 4) (s1.heap.objs.size + 2) (s1.heap.objs.size + 3) s1.heap.objs.size (s1.heap.objs.size + 1) := by
    constructor <;> (intro z; exact absurd (show (_ : Nat) = _ from z) (by omega))
  refine ⟨_, _, _, _, H1, rfl, I1.kept (t' := s1.toks) kp, turn_zip D, Z, fun b hb => ?_, q⟩
  have lb : s1.heap.objs.size ≤ b := by
    simp only [List.mem_cons, List.not_mem_nil, or_false] at hb
    rcases hb with rfl | rfl | rfl | rfl | rfl
    · exact Nat.le_add_right _ _
    · exact Nat.le_add_right _ _
    · exact Nat.le_add_right _ _
    · exact Nat.le_refl _
    · exact Nat.le_add_right _ _
  exact I1.fpOk lb (I1.hok.fresh lb)
end L3

set_option Elab.async false
set_option linter.all false
set_option maxRecDepth 100000
set_option maxHeartbeats 4000000
namespace DL
open PySem PySem.Spec L2 L3
open PyProof.Rows hiding St
variable {Γ : Hp → Prop}

noncomputable def zipD (xs ys : List D) : List D := List.zipWith (fun x y => D.tup [x, y]) xs ys
/-- a sequence as it is walked -/
noncomputable def seqD : D → Option (List D)
  | .lst ds => some ds
  | .tup ds => some ds
  | .scr ns => some (ns.map D.int)
  | _ => none
theorem seqD_lst {ds : List D} : seqD (.lst ds) = some ds := rfl
theorem seqD_tup {ds : List D} : seqD (.tup ds) = some ds := rfl
theorem seqD_scr {ns : List Int} : seqD (.scr ns) = some (ns.map D.int) := rfl
/-- at l, of kind b, stand ds -/
noncomputable def SeqP (b : Bool) (K : PySem.W.Frag) (H : Hp) (O : List Addr) (l : Addr) (d : D) : Prop := match d with
  | .lst ds => b = false ∧ ∃ xs, H l = some (.lst xs) ∧ l ∉ O ∧ Reps K H O ds xs
  | .tup ds => b = true ∧ ∃ xs, SqT K H l xs ∧ Reps K H O ds xs
  | .scr ns => b = false ∧ Scr K H l ns
  | _ => False
theorem SeqP.of {K : PySem.W.Frag} {H : Hp} {O : List Addr} {d : D} {v : V} {ds : List D} (h : Rep K H O d v) (e : seqD d = some ds) : ∃ b l, v = .ref l ∧ SeqP b K H O l d := by
  cases d with
  | lst es => obtain ⟨a, xs, rfl, q, n, r⟩ := h; exact ⟨false, a, rfl, rfl, xs, q, n, r⟩
  | tup es => obtain ⟨a, xs, rfl, q, r⟩ := h; exact ⟨true, a, rfl, rfl, xs, q.1, r⟩
  | scr ns => obtain ⟨a, rfl, q⟩ := h; exact ⟨false, a, rfl, rfl, q⟩
  | _ => cases e
theorem SeqP.sq {b : Bool} {K : PySem.W.Frag} {H : Hp} {O : List Addr} {l : Addr} {d : D} {ds : List D} (h : SeqP b K H O l d) (e : seqD d = some ds) : ∃ xs, SqK b K H l xs ∧ Reps K H O ds xs := by
  cases d with
  | lst es => obtain ⟨rfl, xs, q, n, r⟩ := h; cases e; exact ⟨xs, SqL.of q, r⟩
  | tup es => obtain ⟨rfl, xs, q, r⟩ := h; cases e; exact ⟨xs, q, r⟩
  | scr ns => obtain ⟨rfl, q⟩ := h; cases e; exact ⟨_, q.seq, Reps.ints ns⟩
  | _ => cases e
theorem SeqP.grow {b : Bool} {K : PySem.W.Frag} {H H' : Hp} {O O' : List Addr} {l : Addr} {d : D} (h : SeqP b K H O l d) (g : Grow O O' H H') : SeqP b K H' O' l d := by
  cases d with
  | lst es => obtain ⟨rfl, xs, q, n, r⟩ := h; exact ⟨rfl, xs, (g.keep _ _ q n).1, (g.keep _ _ q n).2, Reps.grow g _ _ r⟩
  | tup es => obtain ⟨rfl, xs, q, r⟩ := h; exact ⟨rfl, xs, sqT_grow g q, Reps.grow g _ _ r⟩
  | scr ns => obtain ⟨rfl, q⟩ := h; exact ⟨rfl, scr_grow g q⟩
  | _ => exact h.elim
section
variable {X : Cx} {pins : List (Addr × Obj)} {σ : St} {H : Hp} {s : Shared}
theorem it_zip {K : PySem.W.Frag} {b1 b2 : Bool} {l1 l2 : Addr} {d1 d2 : D} {xs ys : List D} (e1 : seqD d1 = some xs) (e2 : seqD d2 = some ys) : ItD K (Itz b1 b2 K l1 l2) (zipD xs ys) (fun H O => SeqP b1 K H O l1 d1 ∧ SeqP b2 K H O l2 d2) where
  go := fun H O i d ⟨p1, p2⟩ e => by
    obtain ⟨us, q1, r1⟩ := p1.sq e1
    obtain ⟨vs, q2, r2⟩ := p2.sq e2
    unfold zipD at e
    rw [List.getElem?_zipWith] at e
    cases ex : xs[i]? with
    | none => rw [ex] at e; cases e
    | some x =>
      cases ey : ys[i]? with
      | none => rw [ex, ey] at e; cases e
      | some y =>
        rw [ex, ey] at e
        cases e
        obtain ⟨u, eu, ru⟩ := r1.get ex
        obtain ⟨v, ev, rv⟩ := r2.get ey
        refine ⟨⟨us, vs, u, v, q1, q2, eu, ev⟩, fun z H' yl => ?_⟩
        obtain ⟨T, u', v', hT, rfl, eu', ev', rfl⟩ := yl
        have eu' := eu' _ q1
        have ev' := ev' _ q2
        rw [eu] at eu'
        rw [ev] at ev'
        cases eu'
        cases ev'
        have sm : Same H (upd H T (.tup [u, v])) := fun b w hb => by rw [upd_ne (ne_of_none hb hT)]; exact hb
        refine ⟨sm, T, [u, v], rfl, ⟨.inl (.inl upd_same), upd_same⟩, ?_⟩
        exact ⟨u, [v], rfl, Rep.grow (Grow.same sm) _ _ ru, v, [], rfl, Rep.grow (Grow.same sm) _ _ rv, rfl⟩
  stop := fun H O ⟨p1, p2⟩ => by
    obtain ⟨us, q1, r1⟩ := p1.sq e1
    obtain ⟨vs, q2, r2⟩ := p2.sq e2
    refine ⟨us, vs, q1, q2, ?_⟩
    have h1 := r1.length
    have h2 := r2.length
    unfold zipD
    rw [List.length_zipWith, h1, h2]
    omega
  keep := fun O O' H H' ⟨p1, p2⟩ g => ⟨p1.grow g, p2.grow g⟩
noncomputable def iZ (t : TDs) : TID := fun ρ φ => t ρ fun rs => match rs with
  | [⟨k1, d1⟩, ⟨k2, d2⟩] => (match k1 with | .own => False | _ => True) ∧ (match k2 with | .own => False | _ => True) ∧ match seqD d1, seqD d2 with
    | some xs, some ys => φ (zipD xs ys)
    | _, _ => False
  | _ => False
theorem ei_zip {es : List Expr} {kk : Nat} {tp : Pos} {a b : Expr} {t : TDs} {p pos : Pos} (hm : X.mg "zip" = none) (ha : EA Γ X [a, b] t) (hg : Gl X "zip" := by rfl)
    (he : starEach [a, b] X.env = (false, eval a X.env) :: starEach [b] X.env := by rfl) (hpl : (backTo pos (starEach [b] X.env)).any (·.1) = false := by rfl) : EI Γ X (.Tuple es kk tp) (.Call (.Name "zip" p) [a, b] [] pos) (iZ t) := fun H₀ => impI (pi_zip hg hm (ha H₀) he hpl) fun σ H R q => by
  obtain ⟨ρ, o, RE, φ, hφ, k⟩ := q
  refine ⟨ρ, o, RE, _, hφ, fun vs rs H1 s1 rvs h1 => ?_⟩
  split at h1
  · rename_i k1 d1 k2 d2
    obtain ⟨n1, n2, h1⟩ := h1
    obtain ⟨v1, w1, rfl, q1, v2, w2, rfl, q2, rfl⟩ := rvs
    have p1 := q1.solid (notOwn n1)
    have p2 := q2.solid (notOwn n2)
    split at h1
    · rename_i xs ys e1 e2
      obtain ⟨b1, l1, rfl, z1⟩ := SeqP.of p1 e1
      obtain ⟨b2, l2, rfl, z2⟩ := SeqP.of p2 e2
      obtain ⟨us, y1, _⟩ := z1.sq e1
      obtain ⟨ws, y2, _⟩ := z2.sq e2
      exact ⟨b1, b2, l1, l2, us, ws, rfl, y1, y2, k _ _ _ H1 s1 (it_zip e1 e2) ⟨z1, z2⟩ h1⟩
    · exact h1.elim
  · exact h1.elim

/-- the numbers of a list -/
noncomputable def intsD : List D → Option (List Int)
  | [] => some []
  | .int n :: r => (intsD r).map (n :: ·)
  | _ :: _ => none
theorem intsD_map : ∀ (ns : List Int), intsD (ns.map D.int) = some ns
  | [] => rfl
  | n :: ns => by rw [List.map_cons, intsD, intsD_map ns]; rfl
end

noncomputable def frzS : DE → Nat → DE
  | [], _ => []
  | x :: r, 0 => x.map (fun r => dv r.d) :: r
  | x :: r, i + 1 => x :: frzS r i
theorem frzS_get : ∀ (ρ : DE) (i j : Nat), (frzS ρ i)[j]? = if j = i then ρ[j]?.map (fun x => x.map fun r => dv r.d) else ρ[j]?
  | [], i, j => by simp [frzS]
  | x :: r, 0, 0 => rfl
  | x :: r, 0, j + 1 => by simp [frzS]
  | x :: r, i + 1, 0 => by simp [frzS]
  | x :: r, i + 1, j + 1 => by
    have := frzS_get r i j
    simp only [frzS, List.getElem?_cons_succ, this]
    by_cases h : j = i
    · simp [h]
    · rw [if_neg h, if_neg (by omega)]
theorem frzS_len : ∀ (ρ : DE) (i : Nat), (frzS ρ i).length = ρ.length
  | [], _ => rfl
  | _ :: _, 0 => rfl
  | x :: r, i + 1 => by simp [frzS, frzS_len r i]
theorem REnv.frz1 {K : PySem.W.Frag} {H₀ H : Hp} {σ : St} {ρ : DE} {o : List (Nat × Addr)} (R : REnv K H₀ H σ ρ o) (i : Nat) : ∃ o', REnv K H₀ H σ (frzS ρ i) o' ∧ ∀ p ∈ o', p ∈ o := by
  refine ⟨o.filter fun p => decide (p.1 ≠ i), ?_, fun p hp => (List.mem_filter.mp hp).1⟩
  have sub : ∀ p ∈ o.filter (fun p => decide (p.1 ≠ i)), p ∈ o := fun p hp => (List.mem_filter.mp hp).1
  have subA : ∀ a ∈ (o.filter (fun p => decide (p.1 ≠ i))).map Prod.snd, a ∈ o.map Prod.snd := fun a ha => by
    obtain ⟨p, hp, e⟩ := List.mem_map.mp ha
    exact List.mem_map.mpr ⟨p, sub p hp, e⟩
  exact {
    same := R.same
    fresh := fun p hp => R.fresh p (sub p hp)
    trk := fun p hp => R.trk p (sub p hp)
    mtb := fun p hp => R.mtb p (sub p hp)
    nda := List.Nodup.sublist (List.Sublist.map _ List.filter_sublist) R.nda
    len := by rw [frzS_len]; exact R.len
    slots := fun j r e => by
      rw [frzS_get] at e
      by_cases hj : j = i
      · rw [if_pos hj] at e
        cases e1 : ρ[j]? with
        | none => rw [e1] at e; cases e
        | some x =>
          rw [e1] at e
          cases x with
          | none => cases e
          | some r' =>
            have e' : some (dv r'.d) = some r := Option.some.inj e
            cases e'
            obtain ⟨v, ev, q⟩ := R.slots j r' e1
            refine ⟨v, ev, .inl ⟨rfl, ?_⟩⟩
            rcases q with ⟨_, q⟩ | ⟨_, a, rfl, m, c⟩
            · exact Rep.sub subA _ _ q
            · refine (c.sub subA).rep fun z => ?_
              obtain ⟨p, hp, ep⟩ := List.mem_map.mp z
              have := inj_snd R.nda (sub p hp) m ep
              have hne := of_decide_eq_true (List.mem_filter.mp hp).2
              rw [this] at hne
              exact hne hj
      · rw [if_neg hj] at e
        obtain ⟨v, ev, q⟩ := R.slots j r e
        refine ⟨v, ev, ?_⟩
        rcases q with ⟨k, q⟩ | ⟨k, a, e1, m, c⟩
        · exact .inl ⟨k, Rep.sub subA _ _ q⟩
        · exact .inr ⟨k, a, e1, List.mem_filter.mpr ⟨m, decide_eq_true hj⟩, c.sub subA⟩ }
noncomputable def sFrz (i : Nat) (t : TDS) : TDS := fun ρ Z => t (frzS ρ i) Z
theorem sd_frz (i : Nat) {X : Cx} {st : Stmt} {t : TDS} (h : SD Γ X st t) : SD Γ X st (sFrz i t) := fun H₀ => impS (h H₀) fun D σ H h => by
  obtain ⟨ρ, o, R, Z, hZ, k1, k2, k3, k4⟩ := h
  obtain ⟨o', R', sub⟩ := R.frz1 i
  have g : Grow (o.map Prod.snd) (o'.map Prod.snd) H H := ⟨fun b u h n => ⟨h, fun z => n (by
    obtain ⟨p, hp, e⟩ := List.mem_map.mp z
    exact List.mem_map.mpr ⟨p, sub p hp, e⟩)⟩, fun b xs h => h, fun b ob u h => h⟩
  exact ⟨_, o', R', Z, hZ, fun ρ2 σ2 H2 o2 g2 R2 q2 => k1 ρ2 σ2 H2 o2 (g.trans g2) R2 q2, fun ρ2 σ2 H2 o2 g2 R2 q2 => k2 ρ2 σ2 H2 o2 (g.trans g2) R2 q2, fun ρ2 σ2 H2 o2 g2 R2 q2 => k3 ρ2 σ2 H2 o2 (g.trans g2) R2 q2, k4⟩
end DL

set_option Elab.async false
set_option linter.all false
set_option maxRecDepth 100000
set_option maxHeartbeats 4000000
namespace HT
open PySem PyProof.Rows
section
variable {prog : Program} {w : World} {A : Around} {E : Value → Shared → Prop} {s : Shared}
end
end HT
namespace L2
open PySem PySem.Spec PyProof.Rows
section
variable {X : Cx}
end
end L2

set_option Elab.async false
set_option linter.all false
set_option maxRecDepth 100000
set_option maxHeartbeats 4000000
namespace DL
open PySem PySem.Spec L2 L3
open PyProof.Rows hiding St
variable {Γ : Hp → Prop}
section
variable {X : Cx} {a b e ix : Expr} {es : List Expr} {t : TDs} {ta tb te tk : TD} {pos : Pos}
/-- t[lo:hi], the whole or not -/
noncomputable def dSlT (te : TD) (tl th : TDo) : TD := fun ρ φ => te ρ fun x => tl ρ fun l => th ρ fun u => match x.d with
  | .tup ds => φ (dv (.tup (cutD ds l u)))
  | _ => False
noncomputable def popD (ds : List D) : Option (List D × D) := match ds.getLast? with
  | some d => some (ds.dropLast, d)
  | none => none
theorem popD_app (ds : List D) (d : D) : popD (ds ++ [d]) = some (ds, d) := by
  unfold popD
  simp
theorem popD_of {ds ds' : List D} {d : D} (h : popD ds = some (ds', d)) : ds = ds' ++ [d] := by
  unfold popD at h
  split at h
  · rename_i x e
    cases h
    obtain ⟨y, hy⟩ := List.getLast?_eq_some_iff.mp e
    rw [hy]
    simp
  · cases h
theorem reps_pop {K : PySem.W.Frag} {H : Hp} {O : List Addr} {ds ds' : List D} {d : D} {xs : List V} (r : Reps K H O ds xs) (h : popD ds = some (ds', d)) : ∃ y, xs[xs.length - 1]? = some y ∧ Rep K H O d y ∧ Reps K H O ds' xs.dropLast := by
  have e := popD_of h
  subst e
  have l := r.length
  rw [List.length_append] at l
  obtain ⟨y, ey, hy⟩ := r.get (i := ds'.length) (d := d) (by simp)
  refine ⟨y, by rw [l]; simpa using ey, hy, ?_⟩
  have := r.dropLast
  simpa using this
/-- x = xs.pop() -/
noncomputable def sPop (i j : Nat) : TDS := fun ρ Z => match slot ρ i with
  | some ⟨.own, .lst ds⟩ => match popD ds with
    | some (ds', d) => Z.nx (setS (setS ρ i (dO (.lst ds'))) j (dv d))
    | none => False
  | _ => False
theorem sd_pop (i j : Nat) {x y : Str} {np apos cpos pos' : Pos} (hN : X.N.Nodup) (hi : X.N[i]? = some x := by rfl) (hj : X.N[j]? = some y := by rfl) (hy : Loc X.env.scope y := by first | exact Or.inl rfl | exact Or.inr rfl) (hv : Vis X.env.scope x := by first | exact Or.inl rfl | exact Or.inr (Or.inl rfl) | exact Or.inr (Or.inr rfl))
    (hd : (x == ("__debug__" : Str)) = false := by decide) (hcd : (x == ("__classdict__" : Str)) = false := by decide)
    (hp : ∀ {ta : TE}, X.N.Nodup → PE X (.Name x np) ta → PS X (.Assign [.Name y pos'] (.Call (.Attribute (.Name x np) "pop" apos) [] [] cpos) pos) (tAsg (tBM0 X.K "list" rPop ta) (gName j)) := by
      intro ta hN h1
      exact ps_set hN rfl (by first | exact Or.inl rfl | exact Or.inr rfl) (pe_bm0 PySem.F.plainAttrs_list PySem.F.slot_list_pop PySem.F.type_list_pop mt_pop h1)) :
    SD Γ X (.Assign [.Name y pos'] (.Call (.Attribute (.Name x np) "pop" apos) [] [] cpos) pos) (sPop i j) := fun H₀ => impS (hp hN (pe_var hi hv hd hcd)) fun D σ H h => by
  obtain ⟨ρ, o, R, Z, hZ, k1, k2, k3, k4⟩ := h
  unfold sPop at hZ
  split at hZ
  · rename_i ds es
    obtain ⟨v0, ev0, q0⟩ := R.slots i _ (slot_eq es)
    rcases q0 with ⟨k, _⟩ | ⟨_, a, rfl, m, c⟩
    · cases k
    obtain ⟨xs, hx, rx⟩ := c
    split at hZ
    · rename_i ds' d ep
      obtain ⟨yv, ey, hyv, rd⟩ := reps_pop rx ep
      obtain ⟨R2, g2⟩ := R.chg (d' := .lst ds') (ho := .lst xs.dropLast) (slot_eq es) ev0 m ⟨fun _ z => (by cases z), fun _ _ z => (by cases z)⟩ fun gr => ⟨xs.dropLast, upd_same, gr _ _ rd⟩
      refine ⟨.ref a, ev0, .inl ⟨rfl, xs, SqL.of hx⟩, a, xs, yv, rfl, rfl, hx, ey, ?_⟩
      exact k1 _ _ _ o g2 (R2.setV j (Rep.grow g2 _ _ hyv)) hZ
    · exact hZ.elim
  · exact hZ.elim
/-- xs.extend([a, ..]) -/
noncomputable def sExt (i : Nat) (t : TDs) : TDS := fun ρ Z => match slot ρ i with
  | some ⟨.own, .lst ds⟩ => t ρ fun rs => solidB rs = true ∧ Nat.ble rs.length 1000 = true ∧ ds.length ≤ 100000 ∧ Z.nx (setS ρ i (dO (.lst (ds ++ rs.map EV.d))))
  | _ => False
theorem sd_extend (i : Nat) {x : Str} {np apos cpos lpos : Pos} (h : EA Γ X es t) (hi : X.N[i]? = some x := by rfl) (hv : Vis X.env.scope x := by first | exact Or.inl rfl | exact Or.inr (Or.inl rfl) | exact Or.inr (Or.inr rfl))
    (hd : (x == ("__debug__" : Str)) = false := by decide) (hcd : (x == ("__classdict__" : Str)) = false := by decide)
    (hp : ∀ {ta : TE} {tc : TA}, PE X (.Name x np) ta → PA X es tc → PS X (.Expr (.Call (.Attribute (.Name x np) "extend" apos) [.List es lpos] [] cpos) pos)
        (tDrop (tBM X.K "list" rExtend ta (tCons (tLst tc) tNil))) := by
      intro ta tc h1 h3
      exact ps_expr (pe_bm PySem.F.plainAttrs_list PySem.F.slot_list_extend PySem.F.type_list_extend mt_extend h1 (pa_cons (pe_lst h3) pa_nil))) :
    SD Γ X (.Expr (.Call (.Attribute (.Name x np) "extend" apos) [.List es lpos] [] cpos) pos) (sExt i t) := fun H₀ => impS (hp (pe_var hi hv hd hcd) (h H₀)) fun D σ H h => by
  obtain ⟨ρ, o, R, Z, hZ, k1, k2, k3, k4⟩ := h
  unfold sExt at hZ
  split at hZ
  · rename_i ds es'
    obtain ⟨v0, ev0, q0⟩ := R.slots i _ (slot_eq es')
    rcases q0 with ⟨k, _⟩ | ⟨_, a, rfl, m, c⟩
    · cases k
    obtain ⟨xs, hx, rx⟩ := c
    refine ⟨.ref a, ev0, .inl ⟨rfl, xs, SqL.of hx⟩, ?_⟩
    refine ⟨ρ, o, R, _, hZ, fun vs rs H1 s1 rvs h1 => ?_⟩
    obtain ⟨hso, hle, hl, hn⟩ := h1
    have l1 := rvs.length
    have hle' := Nat.le_of_ble_eq_true hle
    refine ⟨by rw [l1]; exact le_line hle, fun p hpn => ?_⟩
    have s2 := same_new hpn (.lst vs)
    have s12 := s1.trans s2
    have R1 := R.to s12
    have rx1 := Reps.grow (Grow.same s12) _ _ rx
    refine ⟨a, p, xs, vs, rfl, rfl, s12 _ _ hx, upd_same, ?_, ?_⟩
    · rw [rx.length, l1]
      exact Nat.le_trans (Nat.add_le_add hl hle') (by decide)
    · obtain ⟨R2, g2⟩ := R1.chg (d' := .lst (ds ++ rs.map EV.d)) (ho := .lst (xs ++ vs)) (slot_eq es') ev0 m ⟨fun _ z => (by cases z), fun _ _ z => (by cases z)⟩ fun gr => ⟨xs ++ vs, upd_same, gr _ _ (rx1.append (Reps.grow (Grow.same s2) _ _ (rvs.reps (solidB_iff hso))))⟩
      exact k1 _ σ _ o ((Grow.same s12).trans g2) R2 hn
  · exact hZ.elim
/-- n += e -/
noncomputable def sAug (i : Nat) (te : TD) : TDS := fun ρ Z => match slot ρ i with
  | some ⟨.val, .int a⟩ => te ρ fun r => match r.d with
    | .int b => Z.nx (setS ρ i (dv (.int (a + b))))
    | _ => False
  | _ => False
theorem sd_aug (i : Nat) {x : Str} {pos' : Pos} (hN : X.N.Nodup) (he : ED Γ X e te) (hi : X.N[i]? = some x := by rfl) (hx : Loc X.env.scope x := by first | exact Or.inl rfl | exact Or.inr rfl)
    (hf : X.fn x = true ∨ X.env.scope.names.lookup x = some .local := by first | exact .inl rfl | exact .inr rfl | assumption) : SD Γ X (.AugAssign (.Name x pos') .Add e pos) (sAug i te) := fun H₀ => impS (ps_aug hN hi hx (he H₀) ip_add hf) fun D σ H h => by
  obtain ⟨ρ, o, R, Z, hZ, k1, k2, k3, k4⟩ := h
  unfold sAug at hZ
  split at hZ
  · rename_i a es'
    obtain ⟨v0, ev0, q0⟩ := R.slots i _ (slot_eq es')
    rcases q0 with ⟨_, q0⟩ | ⟨k, _⟩
    · cases (show v0 = _ from q0)
      refine ⟨.int a, ev0, ρ, o, R, _, hZ, fun v r H1 s1 rv h1 => ?_⟩
      have vw := rv.view
      split at h1
      · rename_i b eb
        rw [eb] at vw
        cases (show v = _ from vw)
        exact ⟨a, b, rfl, rfl, k1 _ _ _ o (Grow.same s1) ((R.to s1).setV i (d := .int (a + b)) (by exact rfl)) h1⟩
      · exact h1.elim
    · cases k
  · exact hZ.elim
end
end DL

set_option Elab.async false
set_option linter.all false
set_option maxRecDepth 100000
set_option maxHeartbeats 4000000
namespace DL
open PySem PySem.Spec L2 L3
open PyProof.Rows hiding St
variable {Γ : Hp → Prop}
section
variable {X : Cx} {p np pos tpos : Pos} {e : Expr} {te : TD} {c : Str} {C0 : Addr} {es : List Expr} {Cs : List Addr}
theorem vals_refs : ∀ {Cs : List Addr} {us : List Value}, Vals (Cs.map V.ref) us → us = Cs.map Value.ref
  | [], _, h => by cases h; rfl
  | C :: Cs, us, h => by
    cases h with
    | cons h1 h2 =>
      rw [vals_refs h2]
      cases h1
      rfl
end
end DL

set_option Elab.async false
set_option linter.all false
set_option maxRecDepth 100000
set_option maxHeartbeats 4000000
namespace DL
open PySem PySem.Spec L2 L3
open PyProof.Rows hiding St
noncomputable def nsD (ns : List Int) : List D := ns.map D.int
noncomputable def g1 (g : D → (EV → Prop) → Prop) : FT := fun ds φ => match ds with
  | [d] => g d φ
  | _ => False
noncomputable def g2 (g : D → D → (EV → Prop) → Prop) : FT := fun ds φ => match ds with
  | [d, e] => g d e φ
  | _ => False
noncomputable def g3 (g : D → D → D → (EV → Prop) → Prop) : FT := fun ds φ => match ds with
  | [d, e, f] => g d e f φ
  | _ => False
theorem f1_of {g : D → (EV → Prop) → Prop} {ds : List D} {φ : EV → Prop} (h : g1 g ds φ) : ∃ d, ds = [d] ∧ g d φ := by
  unfold g1 at h
  split at h
  · exact ⟨_, rfl, h⟩
  · exact h.elim
theorem f2_of {g : D → D → (EV → Prop) → Prop} {ds : List D} {φ : EV → Prop} (h : g2 g ds φ) : ∃ d e, ds = [d, e] ∧ g d e φ := by
  unfold g2 at h
  split at h
  · exact ⟨_, _, rfl, h⟩
  · exact h.elim
theorem cut_seq {t u : TDS} {ρ : DE} {Z : DZ} (J : DE → Prop) (h1 : t ρ { Z with nx := J }) (h2 : ∀ ρ2, J ρ2 → u ρ2 Z) : sSeq (sCut t) u ρ Z := ⟨J, h1, h2⟩
theorem wh_own {i : Nat} {ρ : DE} {ds : List D} {φ : Bool → Prop} (e : slot ρ i = some (dO (.lst ds))) (h : φ (!ds.isEmpty)) : tTru (dName i) ρ φ := by
  unfold tTru dName
  rw [e]
  exact h
theorem sApp_at {i : Nat} {te : TD} {ρ : DE} {Z : DZ} {ds : List D} (e : slot ρ i = some (dO (.lst ds))) (h : te ρ fun r => (match r.k with | .own => False | _ => True) ∧ ds.length ≤ 100000 ∧ Z.nx (setS ρ i (dO (.lst (ds ++ [r.d]))))) : sApp i te ρ Z := by
  unfold sApp
  rw [e]
  exact h
end DL

set_option Elab.async false
set_option linter.all false
set_option maxRecDepth 100000
set_option maxHeartbeats 4000000
namespace L2
open PySem PySem.Spec PyProof.Rows
/-- a dict whose keys are texts -/
noncomputable def StrD (h : Heap) (a : Addr) (kvs : List (Str × Value)) : Prop :=
  ∃ o es ep, h.get? a = some o ∧ o.cls = .type "dict" ∧ o.data = .dict es ep ∧ es.size = kvs.length ∧ (∀ (i : Nat) (e : DictEntry), es[i]? = some e → ∃ k v t, kvs[i]? = some (k, v) ∧ e.key = .str k t ∧ e.val = v) ∧ (kvs.map (·.1)).Nodup
section
variable {prog : Program} {w : World} {A : Around} {E : Value → Shared → Prop} {s : Shared}
theorem StrD.typeIs {a : Addr} {kvs : List (Str × Value)} (h : StrD s.heap a kvs) : s.TypeIs (.ref a) "dict" := by
  obtain ⟨o, es, ep, g, c, _⟩ := h
  exact ⟨o, g, c⟩
theorem wp_showsAll {d : Addr} {Q : Unit → Shared → Prop} (hd : (d == sysModules) = false) (h : Q () s) : wpAny (model prog w) A (Builtin.Dict.showsAll d) Q E s := by
  unfold Builtin.Dict.showsAll
  rw [hd]
  exact wpAny_pure h
theorem wp_find_str {d : Addr} {o : Obj} {es : Array DictEntry} {ep : Nat} {x : Str} {t : Tok} {hs : Int} {i : Nat} {Q : Option Nat → Shared → Prop} (ho : s.heap.get? d = some o) (hd : o.data = .dict es ep)
    (hall : es.all (fun e => isExactStrKey e.key) = true) (hi : i < es.size) (hf : (es.findIdx? fun e => e.key.isStr x) = some i) (hk : ∃ t', es[i].key = .str x t') (h : Q (some i) s) :
    wpAny (model prog w) A (dictFind d (.str x t) hs) Q E s := by
  unfold dictFind
  try with_reducible refine wpAny_holding ?_
  refine wpAny_bind (wpAny_dictEntries ho hd ?_)
  dsimp only
  rw [if_pos hall]
  unfold foundByValue
  rw [hf]
  dsimp only
  rw [show es[i]? = some es[i] by simp [hi]]
  dsimp only
  refine wpAny_bind (wpAny_dictEpoch ho hd ?_)
  obtain ⟨t', hk⟩ := hk
  rw [hk]
  refine wpAny_bind (SeqAt.EqAt.str_str (A := A) (s := s) x t' x t prog w E _ ?_)
  refine wpAny_bind (wpAny_dictEpoch ho hd ?_)
  simp only [bne_self_eq_false, Bool.false_eq_true, if_false, beq_self_eq_true, if_true]
  exact wpAny_bind (wpAny_rule (wpAny_pure h))
theorem isStr_inj {x y : Str} {t : Tok} (h : (Value.str y t).isStr x = true) : y = x := by
  simpa [Value.isStr] using h
end
end L2

set_option Elab.async false
set_option linter.all false
set_option maxRecDepth 100000
set_option maxHeartbeats 4000000
namespace DL
open PySem PySem.Spec L2 L3
open PyProof.Rows hiding St
variable {Γ : Hp → Prop}
theorem pairs_at {prog : Program} {w : World} {K : Type} [DecidableEq K] {knd : KeyKind prog w K} : ∀ {es : List DictEntry} {kvs : List (K × Value)}, Pairs knd es kvs → ∀ {i : Nat} {e : DictEntry}, es[i]? = some e → ∃ kv, kvs[i]? = some kv ∧ knd.is kv.1 e.key = true ∧ e.val = kv.2
  | _, _, .nil, _, _, h => by simp at h
  | _, _, .cons h1 h2 r, 0, e, h => by
    simp at h
    subst h
    exact ⟨_, rfl, h1, h2⟩
  | _, _, .cons h1 h2 r, i + 1, e, h => by
    obtain ⟨kv, a, b⟩ := pairs_at r (i := i) (by simpa using h)
    exact ⟨kv, by simpa using a, b⟩
theorem pairs_len {prog : Program} {w : World} {K : Type} [DecidableEq K] {knd : KeyKind prog w K} {es : List DictEntry} {kvs : List (K × Value)} (h : Pairs knd es kvs) : es.length = kvs.length := by
  induction h with
  | nil => rfl
  | cons _ _ _ ih => simp [ih]
theorem kv_at : ∀ {kvs : List (Key × V)} {vs : List (Key × Value)}, KV kvs vs → ∀ {i : Nat} {p : Key × Value}, vs[i]? = some p → ∃ q, kvs[i]? = some q ∧ q.1 = p.1 ∧ RelV q.2 p.2 := by
  intro kvs vs h
  induction h with
  | nil => intro i p h; simp at h
  | cons h1 _ ih =>
    intro i p h
    cases i with
    | zero =>
      simp at h
      subst h
      exact ⟨_, rfl, h1⟩
    | succ i =>
      obtain ⟨q, e, r⟩ := ih (i := i) (by simpa using h)
      exact ⟨q, by simpa using e, r⟩
section
variable {X : Cx} {pins : List (Addr × Obj)} {σ : St} {H : Hp} {s : Shared}
end
section
variable {X : Cx} {a b : Expr} {ta tb : TD} {pos : Pos}
theorem in1_units {A : Around} (h : A.units + 64 < cLine) : A.in1.units + 40 < cLine := by
  show A.units + 1 + 40 < cLine
  omega
theorem rel_at : ∀ {xs : List V} {us : List Value}, Vals xs us → ∀ {i : Nat} {u : Value}, us[i]? = some u → ∃ x, xs[i]? = some x ∧ RelV x u := by
  intro xs us h
  induction h with
  | nil => intro i u h; simp at h
  | cons h1 _ ih =>
    intro i u h
    cases i with
    | zero => simp at h; subst h; exact ⟨_, rfl, h1⟩
    | succ i =>
      obtain ⟨x, e, r⟩ := ih (i := i) (by simpa using h)
      exact ⟨x, by simpa using e, r⟩
end
end DL

set_option Elab.async false
set_option linter.all false
set_option maxRecDepth 100000
set_option maxHeartbeats 4000000
namespace L2
open PySem PySem.Spec PyProof.Rows
section
variable {X : Cx} {tg : Expr}
theorem call_dictC : CallR X (.type "dict") (fun xs H Q => ∃ a kvs, xs = [.ref a] ∧ H a = some (.dK kvs) ∧ ∀ p, H p = none → Q (.ref p) (upd H p (.dK kvs))) := by
  intro pins s σ H xs us Q I r h
  obtain ⟨a, kvs, rfl, ha, q⟩ := h
  obtain ⟨u, rfl, ru⟩ := vals1 r
  cases ru
  obtain ⟨z, na, va, ka, da⟩ := dk_of I.hok ha
  have hb := I.big
  refine kt_call_dict na da (by rw [← ka.length]; exact z) fun h' hd hs => ?_
  have keep : ∀ b o, s.heap.get? b = some o → h'.get? b = some o := fun b o e => by
    have hne : b ≠ s.heap.objs.size := Nat.ne_of_lt (Heap.lt_size e)
    rw [hs.2 b hne]
    exact Heap.get?_push_of_some _ e
  refine ⟨.ref s.heap.objs.size, _, I.laid (t' := s.toks) (a := s.heap.objs.size) (o := .dK kvs) keep (Nat.le_refl _) ?_, rfl, q _ (I.hok.fresh (Nat.le_refl _))⟩
  exact dk_new z (by simpa using (Nat.ne_of_gt hb)) ka hd
end
end L2
namespace DL
open PySem PySem.Spec L2 L3
open PyProof.Rows hiding St
variable {Γ : Hp → Prop}
section
variable {X : Cx} {a b e : Expr} {es : List Expr} {t : TDs} {ta tb te : TD} {p pos : Pos} {tg : Expr}
noncomputable def sDictC : FT := fun ds φ => match ds with
  | [.dk ks l] => φ (df (.dk ks l))
  | _ => False
theorem ed_dictC (hm : X.mg "dict" = none) (ha : EA Γ X (e :: es) t) (hg : Gl X "dict" := by rfl) (he : starEach (e :: es) X.env = (false, eval e X.env) :: starEach es X.env := by rfl) (hpl : (backTo pos (starEach es X.env)).any (·.1) = false := by rfl) : ED Γ X (.Call (.Name "dict" p) (e :: es) [] pos) (dCB sDictC t) :=
  ed_callTy call_dictC (fun H O ds vs φ Q ho hv h k => by
    unfold sDictC at h
    split at h
    · obtain ⟨v, ws, rfl, ⟨a, xs, rfl, q, l, nd, r⟩, rfl⟩ := hv
      exact ⟨a, _, rfl, q, fun p hp => k _ (df (.dk _ _)) _ (same_new hp _) ⟨p, rfl, hp, ho p hp, xs, upd_same, l, nd, Reps.grow (grow_new hp) _ _ r⟩ h⟩
    · exact h.elim) hm boot_dict' ha hg (by decide) (by decide) he hpl
end
end DL

set_option Elab.async false
set_option linter.all false
set_option maxRecDepth 100000
set_option maxHeartbeats 4000000
namespace DL
open PySem PySem.Spec L2 L3
open PyProof.Rows hiding St
variable {Γ : Hp → Prop}
section
variable {X : Cx} {es : List Expr} {t : TDs} {tpos pos : Pos}
end
end DL

set_option Elab.async false
set_option linter.all false
set_option maxRecDepth 100000
set_option maxHeartbeats 4000000
namespace DL
open PySem PySem.Spec L2 L3
open PyProof.Rows hiding St
section
variable {K : PySem.W.Frag} {H₀ H : Hp} {σ : St} {ρ : DE} {o : List (Nat × Addr)}
end
section
variable {Γ : Hp → Prop} {X : Cx} {st : Stmt} {rest : List Stmt} {t u : TDS} {e ke : Expr} {te tk : TD} {pos : Pos}
end
end DL

set_option Elab.async false
set_option linter.all false
set_option maxRecDepth 100000
set_option maxHeartbeats 4000000
namespace DL
open PySem PySem.Spec L2 L3
open PyProof.Rows hiding St
section
variable {P : Program} {w : World} {K : PySem.W.Frag} {mg : Str → Option Value} {base : Heap}
end
end DL

set_option Elab.async false
set_option linter.all false
set_option maxRecDepth 100000
set_option maxHeartbeats 4000000
namespace L2
open PySem PySem.Spec PyProof.Rows
section
variable {prog : Program} {w : World} {A : Around} {R : Result → Shared → Prop} {I : Addr} {fp wr : List Addr} {n : Nat} {P : Nat → Value → Prop} {St : Nat → Heap → Prop} {kw : List (Str × Value)}
end
section
variable {prog : Program} {w : World} {A : Around} {E : Value → Shared → Prop} {s : Shared} {l : Addr} {xs : Array (Int × Tok)}
end
section
variable {X : Cx}
end
end L2
namespace DL
open PySem PySem.Spec L2 L3
open PyProof.Rows hiding St
variable {Γ : Hp → Prop}
section
variable {X : Cx} {e de : Expr} {es : List Expr} {t : TDs} {te td : TD} {p kp pos : Pos}
end
end DL

set_option Elab.async false
set_option linter.all false
set_option maxRecDepth 100000
set_option maxHeartbeats 4000000
namespace DL
open PySem PySem.Spec L2 L3
open PyProof.Rows hiding St
variable {Γ : Hp → Prop}
section
variable {X : Cx} {a : Expr} {es : List Expr} {t : TDs} {ta : TD} {lp pos : Pos}
end
end DL

set_option Elab.async false
set_option linter.all false
set_option maxRecDepth 100000
set_option maxHeartbeats 4000000
namespace L2
open PySem PySem.Spec PyProof.Rows
section
variable {prog : Program} {w : World} {A : Around} {E : Value → Shared → Prop} {s : Shared}
end
section
variable {prog : Program} {w : World} {K : Type} [DecidableEq K] {knd : KeyKind prog w K} {A : Around} {s : Shared} {R : Result → Shared → Prop}
end
end L2

set_option Elab.async false
set_option linter.all false
set_option maxRecDepth 100000
set_option maxHeartbeats 4000000
namespace L2
open PySem PySem.Spec PyProof.Rows
section
variable {prog : Program} {w : World} {A : Around} {E : Value → Shared → Prop} {s : Shared}
end
end L2

set_option Elab.async false
set_option linter.all false
set_option maxRecDepth 100000
set_option maxHeartbeats 4000000
namespace L2
open PySem PySem.Spec PyProof.Rows
section
variable {X : Cx}
/-- dict(pairs) -/
noncomputable def PairsOf (K : PySem.W.Frag) (H : Hp) : List V → List (Key × V) → Prop := Paired fun p kv => ∃ b, p = V.ref b ∧ SqT K H b [kV kv.1, kv.2]
theorem pairs_at {K : PySem.W.Frag} {H : Hp} : ∀ {ps : List V} {kvs : List (Key × V)}, PairsOf K H ps kvs → ∀ (j : Nat) p, ps[j]? = some p → ∃ kv, kvs[j]? = some kv ∧ ∃ b, p = V.ref b ∧ SqT K H b [kV kv.1, kv.2]
  | _, _, .nil, _, _, e => by simp at e
  | _, _, .cons h _, 0, _, e => by simp at e; subst e; exact ⟨_, rfl, h⟩
  | _, _, .cons _ t, j + 1, p, e => by
    obtain ⟨kv, h1, h2⟩ := pairs_at t j p (by simpa using e)
    exact ⟨kv, by simpa using h1, h2⟩
end
end L2

set_option Elab.async false
set_option linter.all false
set_option maxRecDepth 100000
set_option maxHeartbeats 4000000
namespace DL
open PySem PySem.Spec L2 L3
open PyProof.Rows hiding St
variable {Γ : Hp → Prop}
section
variable {X : Cx} {e ke : Expr} {es : List Expr} {t : TDs} {te tk : TD} {p p2 pos pos2 : Pos}
noncomputable def kD : Key → D
  | .inl i => .int i
  | .inr x => .str x
end
end DL

set_option Elab.async false
set_option linter.all false
set_option maxRecDepth 100000
set_option maxHeartbeats 4000000
namespace L2
open PySem PySem.Spec PyProof.Rows
section
variable {X : Cx} {tg : Expr} {pins : List (Addr × Obj)} {σ : St} {H : Hp} {s : Shared} {a : Addr} {ob : Obj} {kvs : List (Key × V)}
/-- the values of a dict that is held fast -/
noncomputable def Itv (a : Addr) (ob : Obj) (kvs : List (Key × V)) : It := ⟨fun i H => H a = some (.frz ob (.dK kvs)) ∧ i < kvs.length, fun i H x H' => H' = H ∧ ∃ k, kvs[i]? = some (k, x), fun i H => H a = some (.frz ob (.dK kvs)) ∧ i = kvs.length⟩
end
end L2
namespace DL
open PySem PySem.Spec L2 L3
open PyProof.Rows hiding St
section
variable {X : Cx} {tg elt : Expr} {ifs : List Expr} {scope : Scope} {T : List Str} {g2 : TG} {g : TGD} {tc : TDb} {te : TD} {pos : Pos}
end
end DL

set_option Elab.async false
set_option linter.all false
set_option maxRecDepth 100000
set_option maxHeartbeats 4000000
namespace L2
open PySem PySem.Spec PyProof.Rows
section
variable {X : Cx}
noncomputable def ipM : TIp := fun x y H Q => ∃ i j, x = .int i ∧ y = .int j ∧ IntMulOk i j ∧ Q (.int (i * j)) H
theorem ip_mul : PIp X .Mult ipM := by
  intro pins s σ H x y v u Q I r1 r2 h
  obtain ⟨i, j, e1, e2, hm, q⟩ := h
  subst e1; subst e2
  obtain ⟨t, rfl⟩ := r1
  obtain ⟨t', rfl⟩ := r2
  exact PyProof.Rows.imul_int ⟨.int _, H, I.tok _, ⟨_, rfl⟩, q⟩ hm
end
end L2
namespace DL
open PySem PySem.Spec L2 L3
open PyProof.Rows hiding St
variable {Γ : Hp → Prop}
section
variable {X : Cx} {e : Expr} {es : List Expr} {t : TDs} {te : TD} {p pos : Pos}
noncomputable def sAugM (i : Nat) (te : TD) : TDS := fun ρ Z => match slot ρ i with
  | some ⟨.val, .int a⟩ => te ρ fun r => match r.d with
    | .int b => IntMulOk a b ∧ Z.nx (setS ρ i (dv (.int (a * b))))
    | _ => False
  | _ => False
theorem sd_augM (i : Nat) {x : Str} {pos' : Pos} (hN : X.N.Nodup) (he : ED Γ X e te) (hi : X.N[i]? = some x := by rfl) (hx : Loc X.env.scope x := by first | exact Or.inl rfl | exact Or.inr rfl)
    (hf : X.fn x = true ∨ X.env.scope.names.lookup x = some .local := by first | exact .inl rfl | exact .inr rfl | assumption) : SD Γ X (.AugAssign (.Name x pos') .Mult e pos) (sAugM i te) := fun H₀ => impS (ps_aug hN hi hx (he H₀) ip_mul hf) fun D σ H h => by
  obtain ⟨ρ, o, R, Z, hZ, k1, k2, k3, k4⟩ := h
  unfold sAugM at hZ
  split at hZ
  · rename_i a es'
    obtain ⟨v0, ev0, q0⟩ := R.slots i _ (slot_eq es')
    rcases q0 with ⟨_, q0⟩ | ⟨k, _⟩
    · cases (show v0 = _ from q0)
      refine ⟨.int a, ev0, ρ, o, R, _, hZ, fun v r H1 s1 rv h1 => ?_⟩
      have vw := rv.view
      split at h1
      · rename_i b eb
        rw [eb] at vw
        cases (show v = _ from vw)
        exact ⟨a, b, rfl, rfl, h1.1, k1 _ _ _ o (Grow.same s1) ((R.to s1).setV i (d := .int (a * b)) (by exact rfl)) h1.2⟩
      · exact h1.elim
    · cases k
  · exact hZ.elim
end
end DL

set_option Elab.async false
set_option linter.all false
set_option maxRecDepth 100000
set_option maxHeartbeats 8000000
namespace L3
open PySem PySem.Spec L2
open PyProof.Rows hiding St
end L3
namespace DL
open PySem PySem.Spec L2 L3
open PyProof.Rows hiding St
variable {Γ : Hp → Prop}
section
variable {X : Cx}
end
end DL

set_option Elab.async false
set_option linter.all false
set_option maxRecDepth 100000
set_option maxHeartbeats 4000000
namespace L2
open PySem PySem.Spec PyProof.Rows
/-- the items of xs[lo:hi:st] -/
noncomputable def pickBy {α : Type} (xs : List α) (lo hi st : Option Int) : List α :=
  let b := sliceBounds lo hi st xs.length
  (sliceRange b.1 b.2.1 b.2.2).filterMap fun i => xs[i]?
section
variable {X : Cx} {e : Expr} {te : TE} {lo hi : Option Expr} {st : Expr} {tl th ts : TO} {pos p2 : Pos}
theorem vals_pick {xs : List V} {us : List Value} (r : Vals xs us) : ∀ is : List Nat, Vals (is.filterMap fun i => xs[i]?) (is.filterMap fun i => us[i]?)
  | [] => .nil
  | i :: is => by
    rw [List.filterMap_cons, List.filterMap_cons]
    cases ex : xs[i]? with
    | none =>
      rw [r.none_of ex]
      exact vals_pick r is
    | some x =>
      obtain ⟨u, eu, ru⟩ := r.get ex
      rw [eu]
      exact .cons ru (vals_pick r is)
noncomputable def tStep (K : PySem.W.Frag) (te : TE) (tl th ts : TO) : TE := fun σ H Q => te σ H fun x H1 => tl σ H1 fun l H2 => th σ H2 fun u H3 => ts σ H3 fun k H4 => ∃ a xs, x = .ref a ∧ SqL K H4 a xs ∧ k ≠ some 0 ∧ ∀ p, H4 p = none → Q (.ref p) (upd H4 p (.lst (pickBy xs l u k)))
theorem pe_step (he : PE X e te) (hl : PO X lo tl) (hu : PO X hi th) (hs : PO X (some st) ts) : PE X (.Subscript e (.Slice lo hi (some st) p2) pos) (tStep X.K te tl th ts) := by
  intro pins s σ H Q I h
  refine Subscript_ (thn (he pins s σ H _ I h) fun v s1 ⟨x, H1, I1, r1, q1⟩ => ?_)
  refine wpAny_Slice (thn (hl pins s1 σ H1 _ I1 q1) fun vl s2 ⟨l, H2, I2, pl, q2⟩ => thn (hu pins s2 σ H2 _ I2 q2) fun vu s3 ⟨u, H3, I3, pu, q3⟩ => thn (hs pins s3 σ H3 _ I3 q3) fun vk s4 ⟨k, H4, I4, pk, a, xs, e1, sq, k0, q⟩ => ?_)
  subst e1
  cases r1
  have I5 : Inv X pins σ H4 { s4 with heap := s4.heap.push { cls := .type "slice", data := .fields #[vl, vu, vk] } } := I4.kept (t' := s4.toks) fun b ob q => Heap.get?_push_of_some _ q
  obtain ⟨its, r, plain, hz⟩ := I5.list sq
  have hlen : its.length = xs.length := r.length.symm
  show wpAny (model X.prog X.w) X.A (subscriptTail e (.Slice lo hi (some st) p2) (.ref a) (.ref s4.heap.objs.size)) (EP X pins σ Q) X.xe { s4 with heap := s4.heap.push { cls := .type "slice", data := .fields #[vl, vu, vk] } }
  refine tail_any (ops := [.ref a, .ref s4.heap.objs.size]) plain.isList.typeIs list_getitem_lookup ?_ (by with_unfolding_all rfl)
  refine wpAny_getItem_list_slice plain.isList (Heap.IsSliceOf.new ..) pl pu pk k0 ?_ (by simp; omega)
  refine ⟨.ref _, _, I5.laid (t' := s4.toks) (o := .lst (pickBy xs l u k)) (fun b ob q => Heap.get?_push_of_some _ q) (Nat.le_refl _) ?_, rfl, q _ (I5.hok.fresh (Nat.le_refl _))⟩
  have hp : (slicePick its.toArray l u k).toList = pickBy its l u k := by
    unfold slicePick pickBy
    simp
  have hv : Vals (pickBy xs l u k) (pickBy its l u k) := by
    unfold pickBy
    rw [hlen]
    exact vals_pick r _
  have hle : (pickBy its l u k).length ≤ its.length := by
    have := slicePick_size_le its.toArray l u k
    rw [← Array.length_toList, hp] at this
    simpa using this
  refine ⟨by rw [hv.length]; omega, pickBy its l u k, 0, hv, ?_⟩
  rw [Heap.get?_push_size _ rfl, ← hp]
end
end L2
namespace DL
open PySem PySem.Spec L2 L3
open PyProof.Rows hiding St
variable {Γ : Hp → Prop}
section
variable {X : Cx} {e : Expr} {te : TD} {pos : Pos}
noncomputable def dStep (te : TD) (tl th ts : TDo) : TD := fun ρ φ => te ρ fun x => tl ρ fun l => th ρ fun u => ts ρ fun k => k ≠ some 0 ∧ match x.d with
  | .lst ds => φ (df (.lst (pickBy ds l u k)))
  | .scr ns => φ (df (.lst ((pickBy ns l u k).map D.int)))
  | _ => False
theorem reps_pick {K : PySem.W.Frag} {H : Hp} {O : List Addr} {ds : List D} {xs : List V} (r : Reps K H O ds xs) : ∀ is : List Nat, Reps K H O (is.filterMap fun i => ds[i]?) (is.filterMap fun i => xs[i]?)
  | [] => rfl
  | i :: is => by
    rw [List.filterMap_cons, List.filterMap_cons]
    cases ex : ds[i]? with
    | none =>
      have : xs[i]? = none := by
        rw [List.getElem?_eq_none_iff] at ex ⊢
        rw [r.length]
        exact ex
      rw [this]
      exact reps_pick r is
    | some d =>
      obtain ⟨v, ev, rv⟩ := r.get ex
      rw [ev]
      exact ⟨v, _, rfl, rv, reps_pick r is⟩
theorem reps_pickBy {K : PySem.W.Frag} {H : Hp} {O : List Addr} {ds : List D} {xs : List V} (r : Reps K H O ds xs) (l u k : Option Int) : Reps K H O (pickBy ds l u k) (pickBy xs l u k) := by
  unfold pickBy
  rw [r.length]
  exact reps_pick r _
theorem pick_map {α β : Type} (f : α → β) (xs : List α) (l u k : Option Int) : pickBy (xs.map f) l u k = (pickBy xs l u k).map f := by
  unfold pickBy
  rw [List.length_map, List.map_filterMap]
  dsimp only
  congr 1
  funext i
  rw [List.getElem?_map]
theorem ed_step {lo hi : Option Expr} {st : Expr} {tl th ts : TDo} {p2 : Pos} (he : ED Γ X e te) (hl : EO Γ X lo tl) (hu : EO Γ X hi th) (hs : EO Γ X (some st) ts) : ED Γ X (.Subscript e (.Slice lo hi (some st) p2) pos) (dStep te tl th ts) := fun H₀ =>
  impE (pe_step (he H₀) (hl H₀) (hu H₀) (hs H₀)) fun σ H Q q => by
    obtain ⟨ρ, o, R, φ, hφ, kk⟩ := q
    refine ⟨ρ, o, R, _, hφ, fun v r H1 s1 rv h1 => ⟨ρ, o, R.to s1, _, h1, fun l H2 s2 h2 => ⟨ρ, o, R.to (s1.trans s2), _, h2, fun u H3 s3 h3 => ⟨ρ, o, R.to ((s1.trans s2).trans s3), _, h3, fun k H4 s4 h4 => ?_⟩⟩⟩⟩
    have s14 := ((s1.trans s2).trans s3).trans s4
    have vw := (rv.same ((s2.trans s3).trans s4)).view
    obtain ⟨h0, h4⟩ := h4
    obtain ⟨kd, d⟩ := r
    cases d with
    | lst ds =>
      obtain ⟨a, xs, rfl, q, r⟩ := vw
      refine ⟨a, xs, rfl, SqL.of q, h0, fun p hp => ?_⟩
      exact kk _ _ _ (s14.trans (same_new hp _)) (RV.start (rv_lst (fun a e => R.ofree (s14.free e)) hp (reps_pickBy r l u k)) s14) h4
    | scr ns =>
      obtain ⟨a, rfl, q⟩ := vw
      refine ⟨a, _, rfl, q.seq, h0, fun p hp => ?_⟩
      rw [pick_map]
      exact kk _ _ _ (s14.trans (same_new hp _)) (RV.start (rv_lst (fun a e => R.ofree (s14.free e)) hp (Reps.ints _)) s14) h4
    | _ => exact h4.elim
end
end DL

set_option Elab.async false
set_option linter.all false
set_option maxRecDepth 100000
set_option maxHeartbeats 4000000
namespace DL
open PySem PySem.Spec L2 L3
open PyProof.Rows hiding St
variable {Γ : Hp → Prop}
noncomputable abbrev TK := List Key
noncomputable instance decMemTK (k : TK) (ks : List TK) : Decidable (k ∈ ks) := decidable_of_iff (ks.any (fun x => decide (x = k)) = true) (by simp)
section
variable {α : Type}
noncomputable def lookAT : List TK → List α → TK → Option α
  | k' :: ks, d :: ds, k => if k' = k then some d else lookAT ks ds k
  | _, _, _ => none
noncomputable def kputT (ks : List TK) (k : TK) : List TK := if k ∈ ks then ks else ks ++ [k]
noncomputable def dputT : List TK → List α → TK → α → List α
  | k' :: ks, d' :: ds, k, d => if k' = k then d :: ds else d' :: dputT ks ds k d
  | _, _, _, d => [d]
end
theorem valV_zipT : ∀ (ks : List TK) (xs : List V) (k : TK), valV (ks.zip xs) k = lookAT ks xs k
  | [], xs, k => by cases xs <;> rfl
  | k' :: ks, [], k => rfl
  | k' :: ks, x :: xs, k => by
    rw [List.zip_cons_cons, lookAT]
    by_cases e : k' = k
    · rw [if_pos e, valV_pos (by exact e)]
    · rw [if_neg e, valV_neg (by exact e), valV_zipT ks xs k]
theorem map_offT : ∀ (ks : List TK) (xs : List V) (k : TK) (v : V), k ∉ ks → (ks.zip xs).map (fun kv => if kv.1 = k then (kv.1, v) else kv) = ks.zip xs
  | [], xs, k, v, _ => by cases xs <;> rfl
  | k' :: ks, [], k, v, _ => rfl
  | k' :: ks, x :: xs, k, v, h => by
    rw [List.zip_cons_cons, List.map_cons, map_offT ks xs k v fun z => h (List.mem_cons_of_mem _ z)]
    rw [if_neg (by intro z; exact h (List.mem_cons.mpr (.inl z.symm)))]
theorem any_zipT : ∀ {ks : List TK} {xs : List V} {k : TK}, ks.length = xs.length → (((ks.zip xs).any fun kv => decide (kv.1 = k)) = true ↔ k ∈ ks)
  | [], xs, k, h => by cases xs <;> simp at *
  | k' :: ks, [], k, h => by simp at h
  | k' :: ks, x :: xs, k, h => by
    rw [List.zip_cons_cons, List.any_cons, Bool.or_eq_true, any_zipT (by simpa using h)]
    simp [eq_comm]
theorem map_onT : ∀ {ks : List TK} {xs : List V} {k : TK} {v : V}, ks.Nodup → ks.length = xs.length → k ∈ ks → (ks.zip xs).map (fun kv => if kv.1 = k then (kv.1, v) else kv) = ks.zip (dputT ks xs k v)
  | [], _, _, _, _, _, h => by cases h
  | k' :: ks, [], _, _, _, h, _ => by simp at h
  | k' :: ks, x :: xs, k, v, nd, hl, h => by
    obtain ⟨n1, n2⟩ := List.nodup_cons.mp nd
    rw [List.zip_cons_cons, List.map_cons, dputT]
    by_cases e : k' = k
    · subst e
      rw [if_pos rfl, if_pos rfl, map_offT ks xs k' v n1, List.zip_cons_cons]
    · rw [if_neg e, if_neg e, List.zip_cons_cons, map_onT n2 (by simpa using hl) ((List.mem_cons.mp h).resolve_left (Ne.symm e))]
theorem dput_newT {α : Type} : ∀ {ks : List TK} {xs : List α} {k : TK} {v : α}, ks.length = xs.length → k ∉ ks → dputT ks xs k v = xs ++ [v]
  | [], xs, k, v, h, _ => by
    cases xs with
    | nil => rfl
    | cons => simp at h
  | k' :: ks, [], _, _, h, _ => by simp at h
  | k' :: ks, x :: xs, k, v, h, hn => by
    rw [dputT, if_neg (fun z => hn (List.mem_cons.mpr (.inl z.symm))), dput_newT (by simpa using h) fun z => hn (List.mem_cons_of_mem _ z)]
    rfl
theorem putK_zipT {ks : List TK} {xs : List V} {k : TK} {v : V} (nd : ks.Nodup) (hl : ks.length = xs.length) : putK (ks.zip xs) k v = (kputT ks k).zip (dputT ks xs k v) := by
  unfold putK kputT
  by_cases h : k ∈ ks
  · rw [if_pos ((any_zipT hl).mpr h), if_pos h, map_onT nd hl h]
  · rw [if_neg (fun z => h ((any_zipT hl).mp z)), if_neg h, dput_newT hl h, List.zip_append hl]
    rfl
theorem dput_lenT {α : Type} : ∀ {ks : List TK} {xs : List α} {k : TK} {v : α}, ks.length = xs.length → (kputT ks k).length = (dputT ks xs k v).length := fun {ks xs k v} h => by
  by_cases hk : k ∈ ks
  · unfold kputT
    rw [if_pos hk]
    induction ks generalizing xs with
    | nil => cases hk
    | cons k' ks ih =>
      cases xs with
      | nil => simp at h
      | cons x xs =>
        rw [dputT]
        by_cases e : k' = k
        · rw [if_pos e]; simpa using h
        · rw [if_neg e]
          have := ih (xs := xs) (by simpa using h) ((List.mem_cons.mp hk).resolve_left (Ne.symm e))
          simp [this]
  · rw [dput_newT h hk]
    unfold kputT
    rw [if_neg hk]
    simp [h]
theorem kput_nodupT {ks : List TK} {k : TK} (nd : ks.Nodup) : (kputT ks k).Nodup := by
  unfold kputT
  split
  · exact nd
  · rename_i h
    exact List.nodup_append.mpr ⟨nd, by simp, by intro a ha b hb e; simp at hb; subst hb; exact h (e ▸ ha)⟩
section
variable {K : PySem.W.Frag} {H : Hp} {O : List Addr}
theorem reps_lookT : ∀ {ks : List TK} {ds : List D} {xs : List V} {k : TK}, Reps K H O ds xs → (∀ d, lookAT ks ds k = some d → ∃ v, lookAT ks xs k = some v ∧ Rep K H O d v) ∧ (lookAT ks ds k = none → lookAT ks xs k = none)
  | [], ds, xs, k, r => ⟨(fun d h => by cases ds <;> cases h), (fun _ => by cases xs <;> rfl)⟩
  | k' :: ks, [], xs, k, r => by
    cases r
    exact ⟨(fun d h => by cases h), fun _ => rfl⟩
  | k' :: ks, d' :: ds, xs, k, r => by
    obtain ⟨v, ws, rfl, q, t⟩ := r
    rw [lookAT, lookAT]
    by_cases e : k' = k
    · rw [if_pos e, if_pos e]
      exact ⟨(fun d h => by cases h; exact ⟨v, rfl, q⟩), (fun h => by cases h)⟩
    · rw [if_neg e, if_neg e]
      exact reps_lookT t
theorem reps_dputT : ∀ {ks : List TK} {ds : List D} {xs : List V} {k : TK} {d : D} {v : V}, Reps K H O ds xs → Rep K H O d v → Reps K H O (dputT ks ds k d) (dputT ks xs k v)
  | [], ds, xs, k, d, v, r, q => by
    have e1 : dputT ([] : List TK) ds k d = [d] := by cases ds <;> rfl
    have e2 : dputT ([] : List TK) xs k v = [v] := by cases xs <;> rfl
    rw [e1, e2]
    exact Reps.one q
  | k' :: ks, [], xs, k, d, v, r, q => by
    cases r
    exact Reps.one q
  | k' :: ks, d' :: ds, xs, k, d, v, r, q => by
    obtain ⟨v', ws, rfl, q', t⟩ := r
    rw [dputT, dputT]
    by_cases e : k' = k
    · rw [if_pos e, if_pos e]
      exact ⟨v, ws, rfl, q, t⟩
    · rw [if_neg e, if_neg e]
      exact ⟨v', _, rfl, q', reps_dputT t q⟩
end

noncomputable def keysD : List D → Option (List Key)
  | [] => some []
  | d :: ds => match keyD d, keysD ds with
    | some k, some ks => some (k :: ks)
    | _, _ => none
noncomputable def keyT : D → Option TK
  | .tup ds => keysD ds
  | _ => none
theorem keysD_reps {K : PySem.W.Frag} {H : Hp} {O : List Addr} : ∀ {ds : List D} {xs : List V} {k : TK}, Reps K H O ds xs → keysD ds = some k → xs = k.map kV
  | [], xs, k, r, e => by cases r; cases e; rfl
  | d :: ds, xs, k, r, e => by
    obtain ⟨v, ws, rfl, q, t⟩ := r
    rw [keysD] at e
    split at e
    · rename_i k1 k2 e1 e2
      cases e
      rw [List.map_cons, ← keysD_reps t e2, ← key_view q.view e1]
    · cases e
theorem key_viewT {K : PySem.W.Frag} {H : Hp} {O : List Addr} {d : D} {v : V} {k : TK} (h : View K H O d v) (e : keyT d = some k) : ∃ b, v = .ref b ∧ H b = some (.tup (k.map kV)) := by
  cases d with
  | tup ds =>
    obtain ⟨b, xs, rfl, q, r⟩ := h
    exact ⟨b, rfl, by rw [← keysD_reps r e]; exact q.2⟩
  | _ => cases e
section
variable {X : Cx} {a b c e o : Expr} {es : List Expr} {ta tb tc te td : TD} {t : TDs} {pos : Pos}
theorem ed_dict0T : ED Γ X (.Dict [] [] pos) (fun _ φ => φ (df (.dt [] []))) := fun H₀ => impE pe_dnewT fun σ H Q q => by
  obtain ⟨ρ, o, R, φ, hφ, k⟩ := q
  intro p hp
  exact k (.ref p) (df (.dt [] [])) _ (same_new hp _) ⟨p, rfl, hp, R.ofree hp, [], upd_same, rfl, List.nodup_nil, rfl⟩ hφ
noncomputable def sInT (neg : Bool) : D → D → (EV → Prop) → Prop := fun x y φ => match y with
  | .dt ks _ => (match keyT x with | some k => φ (dv (.bl (if neg then !decide (k ∈ ks) else decide (k ∈ ks)))) | none => False)
  | _ => False
noncomputable def sIxT : D → D → (EV → Prop) → Prop := fun x y φ => match x with
  | .dt ks ds => (match keyT y with
    | some k => (match lookAT ks ds k with
      | some d => φ (dv d)
      | none => False)
    | none => False)
  | _ => False
theorem ix_dictT (hu : X.A.units + 1 < cLine) : IxR X (fun x y H Q => ∃ a kvs, ∃ k : TK, ∃ v b, x = .ref a ∧ H a = some (.dT kvs) ∧ y = .ref b ∧ H b = some (.tup (k.map kV)) ∧ valV kvs k = some v ∧ Q v H) := by
  intro value slice pins s σ H x y v u Q I rx ry h hs
  obtain ⟨a, kvs, k, w, b, rfl, ha, rfl, hb, e, q⟩ := h
  cases rx
  have g : DGet H a (.ref b) (some w) := by rw [← e]; exact DGet.t ha hb
  exact tail_any (dict_typeIs I g) PySem.F.slot_dict_getitem.lookup (d_getItem hu I g ry fun w' s' I' rw' => ⟨w, H, I', rw', q⟩) hs
theorem link_ixT : Link2 X.K (fun x y H Q => ∃ a kvs, ∃ k : TK, ∃ v b, x = .ref a ∧ H a = some (.dT kvs) ∧ y = .ref b ∧ H b = some (.tup (k.map kV)) ∧ valV kvs k = some v ∧ Q v H) sIxT := by
  intro H O x y vx vy φ Q ho hx hy h k
  cases x with
  | dt ks ds =>
    obtain ⟨a, xs, rfl, q, l, nd, r⟩ := hx
    unfold sIxT at h
    dsimp only at h
    split at h
    · rename_i kk ek
      split at h
      · rename_i d ed
        obtain ⟨v, ev, rv⟩ := (reps_lookT (ks := ks) (k := kk) r).1 d ed
        obtain ⟨b, rfl, hb⟩ := key_viewT hy ek
        exact ⟨a, _, kk, v, b, rfl, q, rfl, hb, by rw [valV_zipT]; exact ev, k _ _ H (Same.refl H) (RV.val rv) h⟩
      · exact h.elim
    · exact h.elim
  | _ => exact h.elim
theorem ed_ixT (hu : X.A.units + 64 < cLine) (ha : ED Γ X a ta) (hb : ED Γ X b tb) (hs : PlainIx b := by intro _ _; rfl) : ED Γ X (.Subscript a b pos) (d2 sIxT ta tb) := fun H₀ => impE (pe_ix (ix_dictT (by omega)) (ha H₀) (hb H₀) hs) (lift2 link_ixT)
end
section
variable {X : Cx} {x : Str} {e ke : Expr} {te tk : TD} {np pos pos' : Pos}
noncomputable def sDputT (i : Nat) (tk te : TD) : TDS := fun ρ Z => match slot ρ i with
  | some ⟨.own, .dt ks ds⟩ => te ρ fun r => tk ρ fun kr => (match r.k with | .own => False | _ => True) ∧ ds.length ≤ 100000 ∧ (match keyT kr.d with
    | some k => Z.nx (setS ρ i (dO (.dt (kputT ks k) (dputT ks ds k r.d))))
    | none => False)
  | _ => False
theorem sd_dputT (i : Nat) (hu : X.A.units + 64 < cLine) (hk : ED Γ X ke tk) (he : ED Γ X e te) (hN : X.N[i]? = some x := by rfl) (hv : Vis X.env.scope x := by first | exact Or.inl rfl | exact Or.inr (Or.inl rfl) | exact Or.inr (Or.inr rfl)) (hd : (x == ("__debug__" : Str)) = false := by decide)
    (hcd : (x == ("__classdict__" : Str)) = false := by decide) (hs : swapsWith e (some (.Subscript (.Name x np) ke pos')) pos.line X.env = pure false := by rfl) : SD Γ X (.Assign [.Subscript (.Name x np) ke pos'] e pos) (sDputT i tk te) := fun H₀ =>
  impS (ps_dput (by omega) (pe_var hN hv hd hcd) (hk H₀) (he H₀) hs) fun D σ H h => by
    obtain ⟨ρ, o, R, Z, hZ, k1, k2, k3, k4⟩ := h
    unfold sDputT at hZ
    split at hZ
    · rename_i ks ds es
      obtain ⟨v0, ev0, q0⟩ := R.slots i _ (slot_eq es)
      rcases q0 with ⟨k, _⟩ | ⟨_, a, rfl, m, c⟩
      · cases k
      obtain ⟨xs, hx, hl, nd, rx⟩ := c
      refine ⟨ρ, o, R, _, hZ, fun v r H1 s1 rv h1 => ⟨.ref a, ev0, ρ, o, R.to s1, _, h1, fun v2 r2 H2 s2 rv2 h2 => ?_⟩⟩
      obtain ⟨h0, hlen, h2⟩ := h2
      split at h2
      · rename_i k ek
        obtain ⟨b, rfl, hb⟩ := key_viewT rv2.view ek
        have s12 := s1.trans s2
        have hx2 := s12 _ _ hx
        have rx2 := Reps.grow (Grow.same s12) _ _ rx
        have xl : ks.length = xs.length := by rw [hl, rx.length]
        refine ⟨a, _, rfl, DPut.t hx2 hb ?_, ?_⟩
        · rw [List.length_zip, xl, Nat.min_self, rx.length]
          exact Nat.lt_of_le_of_lt hlen (by decide)
        · rw [putK_zipT nd xl]
          obtain ⟨R3, g3⟩ := (R.to s12).chg (d' := .dt (kputT ks k) (dputT ks ds k r.d)) (ho := .dT ((kputT ks k).zip (dputT ks xs k v))) (slot_eq es) ev0 m ⟨fun _ z => (by cases z), fun _ _ z => (by cases z)⟩ fun gr =>
            ⟨dputT ks xs k v, upd_same, dput_lenT hl, kput_nodupT nd, gr _ _ (reps_dputT rx2 ((rv.same s2).solid (notOwn h0)))⟩
          exact k1 _ σ _ o ((Grow.same s12).trans g3) R3 h2
      · exact h2.elim
    · exact hZ.elim
end
end DL

set_option Elab.async false
set_option linter.all false
set_option maxRecDepth 100000
set_option maxHeartbeats 4000000
namespace L2
open PySem PySem.Spec PySem.W PyProof.Rows
/-- a dict by its rows alone -/
noncomputable def RawD (h : Heap) (d : Addr) (rows : Array DictEntry) (ep : Nat) : Prop := ∃ o, h.get? d = some o ∧ o.ExactDict ∧ o.data = .dict rows ep
theorem RawD.ty {s : Shared} {d : Addr} {rows : Array DictEntry} {ep : Nat} (x : RawD s.heap d rows ep) : s.TypeIs (.ref d) "dict" := let ⟨o, g, c, _⟩ := x; ⟨o, g, c.1⟩
theorem RawD.to {h k : Heap} {d : Addr} {rows : Array DictEntry} {ep : Nat} (x : RawD h d rows ep) (f : ∀ o, h.get? d = some o → k.get? d = some o) : RawD k d rows ep := let ⟨o, g, r⟩ := x; ⟨o, f o g, r⟩
theorem RawD.lt {h : Heap} {d : Addr} {rows : Array DictEntry} {ep : Nat} (x : RawD h d rows ep) : d < h.objs.size := let ⟨_, g, _⟩ := x; Heap.lt_size g
section
variable {prog : Program} {w : World} {A : Around} {E : Value → Shared → Prop} {s : Shared} {D J : Addr} {rows : Array DictEntry} {ep i : Nat}
theorem raw_start {Q : Value → Shared → Prop} (nb : (D == sysModules) = false) (x : RawD s.heap D rows ep)
    (q : Q (.ref s.heap.objs.size) { s with heap := s.heap.push { cls := .type "dict_keyiterator", data := .fields #[.ref D, .int 0 0, .int rows.size 0, .int ep 0] } }) :
    wpAny (model prog w) A (pyIter (.ref D)) Q E s := by
  have ty := x.ty
  obtain ⟨o, g, c, e⟩ := id x
  refine wpAny_pyIter_slot ty F.slot_dict_iter (wpAny_call_entry F.slot_dict_iter ty F.entry_dict_iter (?body) (F.args_dict_iter_1 _))
  unfold Builtin.«dict.__iter__»
  apply wpAny_bind
  unfold Builtin.Dict.dictSlotNone
  apply wpAny_bind
  refine wpAny_notOrdered_dict ty (?_ : _)
  show wpAny _ _ (pure (Value.ref D)) _ _ s
  apply wpAny_pure
  show wpAny _ _ (Builtin.Dict.showsAll D >>= _) _ _ s
  unfold Builtin.Dict.showsAll
  rw [if_neg (show ¬ ((D == sysModules) = true) by rw [nb]; decide)]
  apply wpAny_bind; apply wpAny_pure
  apply wpAny_bind; refine wpAny_dictEntries g e ?_
  apply wpAny_bind; refine wpAny_dictEpoch g e ?_
  apply wpAny_bind
  refine wpAny_newObj_type (wpAny_pure ⟨_, rfl, "dict_keyiterator", _, ⟨_, Heap.get?_push_size _ rfl, rfl⟩, F.slot_dict_keyiterator_next.lookup, (?_ : _)⟩)
  simpa [rawInt] using q
theorem raw_item {k : DictEntry} {Q : Option Value → Shared → Prop} (y : s.heap.IsKeyIter J D i rows.size ep) (x : RawD s.heap D rows ep) (ek : rows[i]? = some k)
    (q : ∀ h', h'.IsKeyIter J D (i + 1) rows.size ep → Heap.SameBut J s.heap h' → Q (some k.key) { s with heap := h' }) : wpAny (model prog w) A (pyNext (.ref J)) Q E s := by
  obtain ⟨o, g, c, e⟩ := id y
  obtain ⟨o2, g2, c2, e2⟩ := id x
  have hi : i < rows.size := (Array.getElem?_eq_some_iff.mp ek).1
  have hk : rows[i] = k := (Array.getElem?_eq_some_iff.mp ek).2
  unfold pyNext
  apply wpAny_bind
  refine wpAny_attempt (wpAny_callSpecial?_slot (name := Str.ofString "__next__") y.typeIs F.slot_dict_keyiterator_next (wpAny_call_entry F.slot_dict_keyiterator_next y.typeIs F.entry_dict_keyiterator_next (?_ : _) (F.args_dict_keyiterator_next_1 _)))
  apply wpAny_bind; apply wpAny_pure
  apply wpAny_bind; apply wpAny_bind
  first | refine wpAny_bind (wpAny_typeNameOfWhole_keyiter y.typeIs (wpAny_pure ?_)) | refine wpAny_bind (wpAny_typeNameOf_keyiter y.typeIs (wpAny_pure ?_))
  apply wpAny_bind; refine wpAny_fieldsOf g e ?_
  have ot : Builtin.Dict_items.ownsTuple "dict_keyiterator" = false := by decide
  simp only [ot, Bool.false_eq_true, if_false]
  show wpAny _ _ (if (Value.ref D == Value.none) = true then _ else _) _ _ s
  rw [if_neg (show ¬ ((Value.ref D == Value.none) = true) from fun z => by cases z)]
  apply wpAny_bind; apply wpAny_pure
  apply wpAny_bind; refine wpAny_dictEntries g2 e2 ?_
  rw [if_neg (show ¬ _ by simp)]
  apply wpAny_bind; apply wpAny_pure
  apply wpAny_bind; refine wpAny_dictEpoch g2 e2 ?_
  rw [if_neg (show ¬ _ by simp)]
  apply wpAny_pure
  simp only [show ¬ ((i : Int) < 0) by omega, if_false, Int.toNat_natCast, Array.getElem?_eq_getElem hi]
  apply wpAny_bind
  first | refine wpAny_bind (wpAny_typeNameOfWhole_keyiter y.typeIs (wpAny_pure ?_)) | refine wpAny_bind (wpAny_typeNameOf_keyiter y.typeIs (wpAny_pure ?_))
  apply wpAny_bind; refine wpAny_isOneOf_keyiter y.typeIs ?_
  show wpAny _ _ (setField (.ref J) 1 (rawInt ((i : Int) + 1)) >>= _) _ _ s
  apply wpAny_bind; refine wpAny_setField g e (by simp) ?_
  have y2 : (s.heap.update J (Obj.mapFields (·.setIfInBounds 1 (rawInt ((i : Int) + 1))))).IsKeyIter J D (i + 1) rows.size ep := by
    refine ⟨_, Heap.get?_update_self _ g (Obj.isFreed_of_fields (Obj.data_mapFields e _)), (Obj.cls_mapFields ..).trans c, ?_⟩
    rw [Obj.data_mapFields e]
    simp [rawInt]
  apply wpAny_bind; apply wpAny_holding
  apply wpAny_bind
  refine wpAny_isOneOf_keyiter (s := { s with heap := s.heap.update J (Obj.mapFields (·.setIfInBounds 1 (rawInt ((i : Int) + 1)))) }) y2.typeIs ?_
  show wpAny _ _ (pure rows[i].key) _ _ _
  rw [hk]
  exact wpAny_pure (wpAny_pure ⟨_, rfl, wpAny_pure (q _ y2 (Heap.SameBut.update ..))⟩)
theorem raw_end {Q : Option Value → Shared → Prop} (hh : A.handled = none) (y : s.heap.IsKeyIter J D rows.size rows.size ep) (x : RawD s.heap D rows ep)
    (q : ∀ h', Heap.ExtBut J s.heap h' → Q none { s with heap := h' }) : wpAny (model prog w) A (pyNext (.ref J)) Q E s := by
  obtain ⟨o, g, c, e⟩ := id y
  obtain ⟨o2, g2, c2, e2⟩ := id x
  unfold pyNext
  apply wpAny_bind
  refine wpAny_attempt (wpAny_callSpecial?_slot (name := Str.ofString "__next__") y.typeIs F.slot_dict_keyiterator_next (wpAny_call_entry F.slot_dict_keyiterator_next y.typeIs F.entry_dict_keyiterator_next (?_ : _) (F.args_dict_keyiterator_next_1 _)))
  apply wpAny_bind; apply wpAny_pure
  apply wpAny_bind; apply wpAny_bind
  first | refine wpAny_bind (wpAny_typeNameOfWhole_keyiter y.typeIs (wpAny_pure ?_)) | refine wpAny_bind (wpAny_typeNameOf_keyiter y.typeIs (wpAny_pure ?_))
  apply wpAny_bind; refine wpAny_fieldsOf g e ?_
  have ot : Builtin.Dict_items.ownsTuple "dict_keyiterator" = false := by decide
  simp only [ot, Bool.false_eq_true, if_false]
  show wpAny _ _ (if (Value.ref D == Value.none) = true then _ else _) _ _ s
  rw [if_neg (show ¬ ((Value.ref D == Value.none) = true) from fun z => by cases z)]
  apply wpAny_bind; apply wpAny_pure
  apply wpAny_bind; refine wpAny_dictEntries g2 e2 ?_
  rw [if_neg (show ¬ _ by simp)]
  apply wpAny_bind; apply wpAny_pure
  apply wpAny_bind; refine wpAny_dictEpoch g2 e2 ?_
  rw [if_neg (show ¬ _ by simp)]
  apply wpAny_pure
  simp only [show ¬ ((rows.size : Int) < 0) by omega, if_false, Int.toNat_natCast, Array.getElem?_eq_none (Nat.le_refl rows.size)]
  apply wpAny_bind
  first | refine wpAny_bind (wpAny_typeNameOfWhole_keyiter y.typeIs (wpAny_pure ?_)) | refine wpAny_bind (wpAny_typeNameOf_keyiter y.typeIs (wpAny_pure ?_))
  show wpAny _ _ (setField (.ref J) 0 .none >>= _) _ _ s
  apply wpAny_bind; refine wpAny_setField g e (by simp) ?_
  show wpAny _ _ (newExc (.type "StopIteration") [] >>= _) _ _ _
  apply wpAny_bind
  simp only [newExc, newTuple]
  apply wpAny_bind; refine wpAny_newObj_type ?_ (by size_fits)
  apply wpAny_bind (m := firstArgMember _ _); refine wpAny_of_eq (a := Value.none) (by first | rfl | (simp only [firstArgMember]; rfl)) ?_
  refine wpAny_newObj_type ?_ (by size_fits)
  simp only [raiseNew]
  apply wpAny_bind; apply wpAny_handled
  rw [show A.in1.handled = none from hh]
  refine wpAny_bind (wpAny_pure (wpAny_throw (?_ : _)))
  apply wpAny_bind
  refine wpAny_isInstance (T := "StopIteration") (b := true) ⟨_, Heap.get?_push_size _ rfl, rfl⟩ isSubtype_stop ?_
  exact wpAny_pure (q _ (((Heap.SameBut.update ..).extBut.push _).push _))
theorem raw_walks (hh : A.handled = none) (ne : D ≠ J) : Walks prog w A J [J, D] [J] rows.size (fun i v => ∃ k, rows[i]? = some k ∧ v = k.key) (fun i h => h.IsKeyIter J D i rows.size ep ∧ RawD h D rows ep) where
  sub := fun b m => by simp at m; simp [m]
  frame := fun _ _ _ st f => ⟨st.1.at fun o e => f J (by simp) o e, st.2.to fun o e => f D (by simp) o e⟩
  item := fun i s Q E hi st f => by
    obtain ⟨k, ek⟩ : ∃ k, rows[i]? = some k := ⟨rows[i], by simp [hi]⟩
    refine raw_item st.1 st.2 ek fun h' y' sb => ?_
    exact f _ h' s.toks ⟨k, ek, rfl⟩ ⟨y', st.2.to fun o e => sb.extBut D o ne e⟩ fun b o m e => sb.extBut b o (fun z => m (by simp [z])) e
  done := fun s Q E st f => raw_end hh st.1 st.2 fun h' eb => f h' s.toks fun b o m e => eb b o (fun z => m (by simp [z])) e
  self := fun _ _ _ _ st f => wpAny_pyIter_keyiter st.1 f
theorem raw_src (nb : (D == sysModules) = false) : KdlSrc prog w "dict" D D rows.size (fun i v => ∃ k, rows[i]? = some k ∧ v = k.key) (fun h => RawD h D rows ep) where
  type := fun _ x => x.ty
  there := fun _ x => ⟨x.lt, x.lt⟩
  keep := fun _ _ x f => x.to fun o e => f D (.inl rfl) o e
  notList := by decide
  notTuple := by decide
  hint := fun _ _ _ _ x f => kdl_hint_dict x.ty f
  iter := fun _ _ hh x => ⟨_, _, (fun _ _ f => raw_start nb x f), raw_walks hh (Nat.ne_of_lt x.lt), ⟨⟨_, Heap.get?_push_size _ rfl, rfl, rfl⟩, x.to fun o e => Heap.get?_push_of_some _ e⟩⟩
end
end L2

set_option Elab.async false
set_option linter.all false
set_option maxRecDepth 100000
set_option maxHeartbeats 4000000
namespace L2
open PySem PySem.Spec PySem.W PyProof.Rows
section
variable {n : Nat} {cmp : Nat → Nat → (Bool → Shared → Prop) → Shared → Prop} {s : Shared}
noncomputable abbrev POrd (n : Nat) (p : Array Nat) : Prop := p.Perm (List.toArray (List.range n))
theorem POrd.lt {p : Array Nat} (h : POrd n p) (hn : 0 < n) (i : Nat) : p.getD i 0 < n := by
  by_cases hi : i < p.size
  · have e : p.getD i 0 = p[i] := by simp [Array.getD, hi]
    rw [e]
    have m : p[i] ∈ List.toArray (List.range n) := h.mem_iff.mp (Array.getElem_mem hi)
    simpa using m
  · have e : p.getD i 0 = 0 := by simp [Array.getD, hi]
    omega
theorem POrd.rev {p : Array Nat} (h : POrd n p) (i j : Nat) : POrd n (kas_rev p i j) := (mirror_perm p i j _).trans h
theorem POrd.bub {p : Array Nat} (h : POrd n p) (i j : Nat) : POrd n (bubble p i j) := (bubble_perm p i j).trans h
/-- every question is answered, and nothing changes -/
noncomputable abbrev Asks (n : Nat) (cmp : Nat → Nat → (Bool → Shared → Prop) → Shared → Prop) (s : Shared) : Prop := ∀ i j C, i < n → j < n → (∀ b, C b s) → cmp i j C s
theorem asc_any (hn : 0 < n) (hc : Asks n cmp s) {p : Array Nat} (h : POrd n p) {Q : Nat → Shared → Prop} (q : ∀ m, Q m s) : ∀ f k, (kas_asc p f k).kasWp cmp Q s
  | 0, k => q k
  | f + 1, k => hc _ _ _ (h.lt hn _) (h.lt hn _) fun b => by
    cases b with
    | true => exact q k
    | false => exact asc_any hn hc h q f (k + 1)
theorem desc_any (hn : 0 < n) (hc : Asks n cmp s) {Q : Array Nat × Nat × Nat → Shared → Prop} (q : ∀ p a b, POrd n p → Q (p, a, b) s) : ∀ f (p : Array Nat) k r, POrd n p → (kas_desc f p k r).kasWp cmp Q s
  | 0, p, k, r, h => q p k r h
  | f + 1, p, k, r, h => hc _ _ _ (h.lt hn _) (h.lt hn _) fun b => by
    cases b with
    | true =>
      show (if r > 0 then _ else _ : KasT _).kasWp cmp Q s
      split
      · exact desc_any hn hc q f _ _ _ (h.rev _ _)
      · exact desc_any hn hc q f _ _ _ h
    | false =>
      refine hc _ _ _ (h.lt hn _) (h.lt hn _) fun d => ?_
      cases d with
      | true => exact q p k r h
      | false => exact desc_any hn hc q f _ _ _ h
theorem tail3_any (hn : 0 < n) (hc : Asks n cmp s) {Q : Nat × Array Nat → Shared → Prop} (q : ∀ m p, POrd n p → Q (m, p) s) {p : Array Nat} (h : POrd n p) (a b : Nat) : (kas_tail3 a b p).kasWp cmp Q s := by
  unfold kas_tail3
  rw [KasT.kasWp_bind]
  exact asc_any hn hc (h.rev _ _) (fun m => q m _ (h.rev _ _)) _ _
theorem descPart_any (hn : 0 < n) (hc : Asks n cmp s) {Q : Nat × Array Nat → Shared → Prop} (q : ∀ m p, POrd n p → Q (m, p) s) {p : Array Nat} (h : POrd n p) (a b : Nat) : (kas_descPart a b p).kasWp cmp Q s := by
  unfold kas_descPart
  rw [KasT.kasWp_bind]
  refine desc_any hn hc (fun p x y hp => ?_) _ _ _ _ h
  dsimp only
  split
  · exact tail3_any hn hc q (hp.rev _ _) _ _
  · exact tail3_any hn hc q hp _ _
theorem count_any (hn : 0 < n) (hc : Asks n cmp s) {Q : Nat × Array Nat → Shared → Prop} (q : ∀ m p, POrd n p → Q (m, p) s) {p : Array Nat} (h : POrd n p) (a : Nat) : (kas_count a p).kasWp cmp Q s := by
  unfold kas_count
  rw [KasT.kasWp_bind]
  refine asc_any hn hc h (fun m => ?_) _ _
  split
  · exact q m p h
  · split
    · refine hc _ _ _ (h.lt hn _) (h.lt hn _) fun b => ?_
      cases b with
      | true => exact q m p h
      | false => exact descPart_any hn hc q (h.rev _ _) _ _
    · exact descPart_any hn hc q h _ _
theorem place_any (hn : 0 < n) (hc : Asks n cmp s) {p : Array Nat} (h : POrd n p) {Q : Nat → Shared → Prop} (q : ∀ m, Q m s) (k : Nat) : ∀ f l r, (kas_place p k f l r).kasWp cmp Q s
  | 0, l, _ => q l
  | f + 1, l, r => by
    unfold kas_place
    split
    · exact q l
    · refine hc _ _ _ (h.lt hn _) (h.lt hn _) fun b => ?_
      cases b with
      | true => exact place_any hn hc h q k f _ _
      | false => exact place_any hn hc h q k f _ _
theorem bin_any (hn : 0 < n) (hc : Asks n cmp s) {Q : Array Nat → Shared → Prop} (q : ∀ p, POrd n p → Q p s) : ∀ f (p : Array Nat) k, POrd n p → (kas_bin f p k).kasWp cmp Q s
  | 0, p, k, h => q p h
  | f + 1, p, k, h => by
    unfold kas_bin
    rw [KasT.kasWp_bind]
    exact place_any hn hc h (fun m => bin_any hn hc q f _ _ (h.bub _ _)) _ _ _ _
theorem sort_any (hn : 0 < n) (hc : Asks n cmp s) {Q : Array Nat → Shared → Prop} (q : ∀ p, POrd n p → Q p s) : (kas_sort n).kasWp cmp Q s := by
  unfold kas_sort
  rw [KasT.kasWp_bind]
  refine count_any hn hc (fun m p h => ?_) (Array.Perm.refl _) _
  dsimp only
  split
  · exact bin_any hn hc q _ _ _ h
  · exact q p h
end
/-- at b a tuple of these whole numbers -/
noncomputable def TupZ (h : Heap) (b : Addr) (ns : List Int) : Prop := ∃ o its k, h.get? b = some o ∧ o.cls = .type "tuple" ∧ o.data = .seq its k ∧ Vals (ns.map V.int) its.toList
theorem TupZ.to {h k : Heap} {b : Addr} {ns : List Int} (x : TupZ h b ns) (f : ∀ o, h.get? b = some o → k.get? b = some o) : TupZ k b ns := let ⟨o, its, n, g, r⟩ := x; ⟨o, its, n, f o g, r⟩
section
variable {prog : Program} {w : World} {A : Around} {E : Value → Shared → Prop} {s : Shared}
theorem lex_ints {b fin : Bool} {Q : Bool → Shared → Prop} (q : ∀ c, Q c s) : ∀ (xs ys : List Int) (us vs : List Value) (i : Nat), Vals (xs.map V.int) us → Vals (ys.map V.int) vs → KatLex prog w A b fin Q (us.zip vs) i s
  | [], ys, us, vs, i, h1, h2 => by
    rw [List.map_nil] at h1
    cases h1
    exact kat_nil (q fin)
  | x :: xs, [], us, vs, i, h1, h2 => by
    rw [List.map_nil] at h2
    cases h2
    rw [List.zip_nil_right]
    exact kat_nil (q fin)
  | x :: xs, y :: ys, us, vs, i, h1, h2 => by
    rw [List.map_cons] at h1 h2
    cases h1 with
    | cons r1 t1 =>
      cases h2 with
      | cons r2 t2 =>
        obtain ⟨t, rfl⟩ := r1
        obtain ⟨u, rfl⟩ := r2
        rw [List.zip_cons_cons]
        refine kat_cons (wpAny_eqBool_int ?_)
        refine kat_go (fun _ => kat_yes (lex_ints q xs ys _ _ _ t1 t2)) fun _ => kat_no ?_
        cases hb : (b && i == 0) with
        | true => exact oneLt_int (q _)
        | false => exact kat_one _ _ (lt_int (q _))
theorem tup_lt {x y : Addr} {xs ys : List Int} {b : Bool} {C : Bool → Shared → Prop} (hx : TupZ s.heap x xs) (hy : TupZ s.heap y ys) (q : ∀ c, C c s) : wpAny (model prog w) A (keyLt' (tuples' b) (.ref x) (.ref y)) C E s := by
  obtain ⟨o1, i1, k1, g1, _, d1, v1⟩ := hx
  obtain ⟨o2, i2, k2, g2, _, d2, v2⟩ := hy
  exact kat_lt g1 d1 g2 d2 (lex_ints q xs ys _ _ 0 v1 v2)
theorem tups_kind {Q : SortKind → Shared → Prop} : ∀ (bs : List Addr) (kss : List (List Int)), bs ≠ [] → bs.length = kss.length → (∀ (i : Nat) b ns, bs[i]? = some b → kss[i]? = some ns → TupZ s.heap b ns ∧ ns ≠ []) → Q (tuples' true) s → wpAny (model prog w) A (keyKind' (bs.map Value.ref).toArray) Q E s := by
  intro bs kss hne hl hb q
  have key : ∀ (bs : List Addr) (kss : List (List Int)), bs.length = kss.length → (∀ (i : Nat) b ns, bs[i]? = some b → kss[i]? = some ns → TupZ s.heap b ns ∧ ns ≠ []) → ∃ fs : List Value, fs.length = bs.length ∧ KatTups s.heap (bs.map Value.ref) fs ∧ ∀ v ∈ fs, ∃ n t, v = Value.int n t := by
    intro bs
    induction bs with
    | nil => intro kss _ _; exact ⟨[], rfl, trivial, fun v hv => nomatch hv⟩
    | cons b bs ih =>
      intro kss hl hb
      cases kss with
      | nil => cases hl
      | cons ns kss =>
        obtain ⟨fs, e1, e2, e3⟩ := ih kss (by simpa using hl) fun i b' ns' h1 h2 => hb (i + 1) b' ns' (by simpa using h1) (by simpa using h2)
        obtain ⟨⟨o, its, k, g, c, d, v⟩, nn⟩ := hb 0 b ns rfl rfl
        cases ns with
        | nil => exact absurd rfl nn
        | cons n ns =>
          rw [List.map_cons] at v
          generalize el : its.toList = l at v
          cases v with
          | @cons _ u _ us r1 t1 =>
            obtain ⟨t, rfl⟩ := r1
            refine ⟨Value.int n t :: fs, by simp [e1], KatTups.cons g c d ?_ e2, fun v hv => ?_⟩
            · rw [← Array.getElem?_toList, el]
              rfl
            · rcases List.mem_cons.mp hv with rfl | hv
              · exact ⟨n, t, rfl⟩
              · exact e3 v hv
  obtain ⟨fs, e1, e2, e3⟩ := key bs kss hl hb
  refine kat_kind (T := Value.type "int") e2 ?_ (fun v hv => ?_) (by decide) ?_
  · rw [e1]
    exact List.length_pos_iff.mpr hne
  · obtain ⟨n, t, rfl⟩ := e3 v hv
    exact .now
  · exact q
end
end L2

set_option Elab.async false
set_option linter.all false
set_option maxRecDepth 100000
set_option maxHeartbeats 4000000
namespace L2
open PySem PySem.Spec PySem.W PyProof.Rows
theorem perm_out {n : Nat} {p : Array Nat} (h : POrd n p) (us : List Value) (hn : us.length = n) : (p.toList.map fun i => us.getD i Value.none).Perm us := by
  have h1 : p.toList.Perm (List.range n) := by simpa using h.toList
  have h2 := h1.map fun i => us.getD i Value.none
  have h3 : (List.range n).map (fun i => us.getD i Value.none) = us := by
    apply List.ext_getElem?
    intro i
    rw [List.getElem?_map]
    by_cases hi : i < n
    · rw [List.getElem?_range hi, List.getElem?_eq_getElem (by omega)]
      simp [List.getD_eq_getElem?_getD, List.getElem?_eq_getElem (show i < us.length by omega)]
    · rw [List.getElem?_eq_none (by simp; omega), List.getElem?_eq_none (by omega)]
      rfl
  rw [h3] at h2
  exact h2
theorem zip_snd {α : Type} : ∀ l : List α, (l.zip l).map (fun x => x.2) = l
  | [] => rfl
  | a :: l => by rw [List.zip_cons_cons, List.map_cons, zip_snd l]
section
variable {prog : Program} {w : World} {A : Around} {E : Value → Shared → Prop} {s : Shared}
/-- xs.sort() of tuples of whole numbers: the same tuples in some order -/
theorem sort_tups {l : Addr} {bs : List Addr} {kss : List (List Int)} {n : Nat} {P : PySem.Fin → Shared → Prop} (g : s.heap.get? l = some (seqObj "list" (bs.map Value.ref).toArray n)) (hm : l ∉ bs)
    (hl : bs.length = kss.length) (hb : ∀ (i : Nat) b ns, bs[i]? = some b → kss[i]? = some ns → TupZ s.heap b ns) (hz : 2 ≤ bs.length → ∀ ns ∈ kss, ns ≠ []) (h64 : bs.length < 64)
    (q : ∀ h' (us : List Value) n', us.Perm (bs.map Value.ref) → (∀ b o, b ≠ l → s.heap.get? b = some o → h'.get? b = some o) → h'.get? l = some (seqObj "list" us.toArray n') → P (.done (.ret .none)) { s with heap := h' }) :
    wpAny (model prog w) A (Builtin.«list.sort» ⟨[.ref l], []⟩) P E s := by
  have ll : l < s.heap.objs.size := Heap.lt_size g
  have hlen : (bs.map Value.ref).length = bs.length := List.length_map ..
  obtain ⟨e1, g1⟩ : ∃ e1, (s.heap.update l (Obj.mapSeq fun _ => (#[] : Array Value))).get? l = some (seqObj "list" #[] e1) := ⟨_, get?_update_seq g fun _ => #[]⟩
  have sb1 := Heap.SameBut.update s.heap l (Obj.mapSeq fun _ => (#[] : Array Value))
  rw [list_sort_plain]
  apply wpAny_bind; refine listItems_at g rfl ?_
  apply wpAny_bind; refine listUpdate_at g rfl ?_ (by rw [List.size_toArray, sizeLine_eq, hlen]; omega) (Nat.zero_le _)
  apply wpAny_bind; refine seqEpoch_at g1 rfl ?_
  apply wpAny_bind; refine wpAny_newTuple ?_ (by show (bs.map Value.ref).length ≤ _; rw [sizeLine_eq, hlen]; omega)
  apply wpAny_bind; refine wpAny_newList ?_ (Nat.zero_le _)
  apply wpAny_holding
  show wpAny (model prog w) A _ P E { s with heap := ((s.heap.update l (Obj.mapSeq fun _ => (#[] : Array Value))).push (seqObj "tuple" (bs.map Value.ref).toArray 0)).push (seqObj "list" #[] 0) }
  generalize eh : ((s.heap.update l (Obj.mapSeq fun _ => (#[] : Array Value))).push (seqObj "tuple" (bs.map Value.ref).toArray 0)).push (seqObj "list" #[] 0) = h3
  have k3 : ∀ b o, b ≠ l → s.heap.get? b = some o → h3.get? b = some o := fun b o nb e => by
    rw [← eh]
    exact Heap.get?_push_of_some _ (Heap.get?_push_of_some _ ((sb1.2 b nb).trans e))
  have g3 : h3.get? l = some (seqObj "list" #[] e1) := by
    rw [← eh]
    exact Heap.get?_push_of_some _ (Heap.get?_push_of_some _ g1)
  have fin : ∀ us : List Value, us.Perm (bs.map Value.ref) → P (.done (.ret .none)) { s with heap := h3.update l (Obj.mapSeq fun _ => us.toArray) } := fun us pu => by
    obtain ⟨c2, g4⟩ : ∃ c2, (h3.update l (Obj.mapSeq fun _ => us.toArray)).get? l = some (seqObj "list" us.toArray c2) := ⟨_, get?_update_seq g3 fun _ => us.toArray⟩
    exact q _ us c2 pu (fun b o nb e => ((Heap.SameBut.update h3 l (Obj.mapSeq fun _ => us.toArray)).2 b nb).trans (k3 b o nb e)) g4
  dsimp only
  by_cases h2 : (bs.map Value.ref).toArray.size < 2
  · rw [if_pos h2, if_pos h2]
    apply wpAny_bind; apply wpAny_pure
    rw [StateT.run_pure]
    apply wpAny_bind; apply wpAny_pure
    dsimp only
    have eo : (arrOf (SortSt.mk' general' ((bs.map Value.ref).toArray.zip (bs.map Value.ref).toArray) #[] 7 none)).map (·.2) = (bs.map Value.ref).toArray := by
      show ((bs.map Value.ref).toArray.zip (bs.map Value.ref).toArray).map (·.2) = _
      apply Array.toList_inj.mp
      simp
      exact zip_snd _
    rw [eo]
    apply wpAny_bind; refine seqEpoch_at (s := { s with heap := h3 }) g3 rfl ?_
    apply wpAny_bind; refine listUpdate_at (s := { s with heap := h3 }) g3 rfl ?_ (Nat.zero_le _) (by rw [List.size_toArray, sizeLine_eq, hlen]; omega)
    simp only [bne_self_eq_false, Bool.false_eq_true, if_false]
    exact wpAny_pure (fin _ (List.Perm.refl _))
  · rw [if_neg h2, if_neg h2]
    have h2' : 2 ≤ bs.length := by rw [List.size_toArray, hlen] at h2; omega
    have tz : ∀ (i : Nat) b ns, bs[i]? = some b → kss[i]? = some ns → TupZ h3 b ns := fun i b ns x1 x2 => (hb i b ns x1 x2).to fun o e => k3 b o (fun z => hm (z ▸ List.mem_of_getElem? x1)) e
    apply wpAny_bind
    refine tups_kind (s := { s with heap := h3 }) bs kss (fun z => by rw [z] at h2'; exact absurd h2' (by decide)) hl (fun i b ns x1 x2 => ⟨tz i b ns x1 x2, hz h2' ns (List.mem_of_getElem? x2)⟩) ?_
    apply wpAny_bind
    have hask : Asks bs.length (kas_ask prog w A (tuples' true) (bs.map Value.ref)) { s with heap := h3 } := fun i j C hi hj f => by
      unfold kas_ask
      have ei : (bs.map Value.ref).getD i Value.none = .ref bs[i] := by rw [List.getD_eq_getElem?_getD, List.getElem?_map, List.getElem?_eq_getElem hi]; rfl
      have ej : (bs.map Value.ref).getD j Value.none = .ref bs[j] := by rw [List.getD_eq_getElem?_getD, List.getElem?_map, List.getElem?_eq_getElem hj]; rfl
      rw [ei, ej]
      exact tup_lt (s := { s with heap := h3 }) (tz i _ (kss[i]'(hl ▸ hi)) (List.getElem?_eq_getElem hi) (List.getElem?_eq_getElem _)) (tz j _ (kss[j]'(hl ▸ hj)) (List.getElem?_eq_getElem hj) (List.getElem?_eq_getElem _)) f
    have hrun := kat_run (prog := prog) (w := w) (A := A) (E := E) (s := { s with heap := h3 }) (κ := tuples' true) (ks := bs.map Value.ref) (vs := bs.map Value.ref)
      (Q := fun st' s' => s' = { s with heap := h3 } ∧ failedOf st' = none ∧ ∃ us : List Value, us.Perm (bs.map Value.ref) ∧ (arrOf st').map (·.2) = us.toArray)
      (G := fun p s' => s' = { s with heap := h3 } ∧ POrd bs.length p) rfl (by rw [hlen]; exact h2') (by rw [hlen]; exact h64)
      (fun p st' s' a1 a2 a3 a4 => ⟨a4.1, a3, _, perm_out a4.2 _ hlen, kat_snds rfl a2⟩) (by rw [hlen]; exact sort_any (by omega) hask fun p hp => ⟨rfl, hp⟩)
    refine wpAny_mono hrun ?_ fun _ _ e => e
    rintro ⟨⟨⟩, st'⟩ s' ⟨rfl, hf, us, pu, eu⟩
    dsimp only
    rw [eu]
    apply wpAny_bind; refine seqEpoch_at (s := { s with heap := h3 }) g3 rfl ?_
    apply wpAny_bind; refine listUpdate_at (s := { s with heap := h3 }) g3 rfl ?_ (Nat.zero_le _) (by rw [List.size_toArray, sizeLine_eq, pu.length_eq, hlen]; omega)
    rw [hf]
    simp only [bne_self_eq_false, Bool.false_eq_true, if_false]
    exact wpAny_pure (fin us pu)
end
end L2

set_option Elab.async false
set_option linter.all false
set_option maxRecDepth 100000
set_option maxHeartbeats 4000000
namespace L2
open PySem PySem.Spec PySem.W PyProof.Rows
/-- at bs stand the tuples that are the keys -/
noncomputable def KeyAt (H : Hp) (kvs : List (List Key × V)) (bs : List Addr) : Prop := bs.length = kvs.length ∧ ∀ (i : Nat) b kv, bs[i]? = some b → kvs[i]? = some kv → H b = some (.tup (kv.1.map kV))
theorem dT_raw {X : Cx} {pins : List (Addr × Obj)} {σ : St} {H : Hp} {s : Shared} {a : Addr} {kvs : List (List Key × V)} (I : Inv X pins σ H s) (ha : H a = some (.dT kvs)) :
    ∃ (rows : Array DictEntry) (ep : Nat) (bs : List Addr), RawD s.heap a rows ep ∧ (a == sysModules) = false ∧ rows.size = kvs.length ∧ kvs.length ≤ sizeLine ∧ KeyAt H kvs bs ∧ ∀ (i : Nat) e, rows[i]? = some e → ∃ b, bs[i]? = some b ∧ e.key = .ref b := by
  obtain ⟨z, nb, xs, r, o, es, ep, g, c, d, et, nd⟩ := (show ObjOk X.prog X.w H s.heap a (.dT kvs) from I.hok a _ ha)
  have key : ∀ {l : List (List Key × V)} {m : List (List Key × Addr × Value)}, KT H l m → l.length = m.length ∧ ∀ (i : Nat) q kv, m[i]? = some q → l[i]? = some kv → H q.2.1 = some (.tup (kv.1.map kV)) := by
    intro l m t
    induction t with
    | nil => exact ⟨rfl, fun i q kv e => by simp at e⟩
    | @cons p q ps qs hq t ih =>
      refine ⟨by simp [ih.1], fun i q' kv e1 e2 => ?_⟩
      cases i with
      | zero =>
        have a1 : q = q' := by simpa using e1
        have a2 : p = kv := by simpa using e2
        subst a1 a2
        exact hq.2.1
      | succ i => exact ih.2 i q' kv (by simpa using e1) (by simpa using e2)
  obtain ⟨k1, k2⟩ := key r
  have hsz : es.size = kvs.length := by rw [← Array.length_toList, et, List.length_map, k1]
  refine ⟨es, ep, xs.map (·.2.1), ⟨o, g, c, d⟩, nb, hsz, z, ⟨by rw [List.length_map, k1], fun i b kv e1 e2 => ?_⟩, fun i e he => ?_⟩
  · rw [List.getElem?_map] at e1
    obtain ⟨q, eq, rfl⟩ := Option.map_eq_some_iff.mp e1
    exact k2 i q kv eq e2
  · rw [← Array.getElem?_toList, et, List.getElem?_map] at he
    obtain ⟨q, eq, rfl⟩ := Option.map_eq_some_iff.mp he
    exact ⟨q.2.1, by rw [List.getElem?_map, eq]; rfl, rfl⟩
theorem items_refs {rows : Array DictEntry} {acc : Array Value} {bs : List Addr} {n : Nat} (h : ItemsOf (fun i v => ∃ k, rows[i]? = some k ∧ v = k.key) acc n) (hn : bs.length = n) (hb : ∀ (i : Nat) e, rows[i]? = some e → ∃ b, bs[i]? = some b ∧ e.key = .ref b) : acc.toList = bs.map Value.ref := by
  apply List.ext_getElem?
  intro i
  rw [List.getElem?_map]
  have hs : acc.toList.length = n := by simpa using h.1
  by_cases hi : i < n
  · have e1 : acc[i]? = some (acc[i]'(by simpa using (by omega : i < acc.toList.length))) := Array.getElem?_eq_getElem _
    obtain ⟨k, e2, e3⟩ := h.2 i _ e1
    obtain ⟨b, e4, e5⟩ := hb i k e2
    rw [Array.getElem?_toList, e1, e4, e3, e5]
    rfl
  · rw [List.getElem?_eq_none (by omega), List.getElem?_eq_none (by omega)]
    rfl
theorem vals_refs : ∀ bs : List Addr, Vals (bs.map V.ref) (bs.map Value.ref)
  | [] => .nil
  | b :: bs => .cons rfl (vals_refs bs)
noncomputable def intOf : Key → Option Int
  | .inl i => some i
  | .inr _ => none
theorem int_map : ∀ ns : List Int, (ns.map (Sum.inl : Int → Key)).filterMap intOf = ns
  | [] => rfl
  | n :: ns => by rw [List.map_cons, List.filterMap_cons]; show n :: _ = _; rw [int_map ns]
noncomputable def refOf : Value → Option Addr
  | .ref b => some b
  | _ => none
theorem ref_map : ∀ bs : List Addr, (bs.map Value.ref).filterMap refOf = bs
  | [] => rfl
  | n :: ns => by rw [List.map_cons, List.filterMap_cons]; show n :: _ = _; rw [ref_map ns]
theorem ref_back : ∀ us : List Value, (∀ v ∈ us, ∃ b, v = Value.ref b) → us = (us.filterMap refOf).map Value.ref
  | [], _ => rfl
  | v :: us, h => by
    obtain ⟨b, rfl⟩ := h v List.mem_cons_self
    rw [List.filterMap_cons]
    show _ = Value.ref b :: _
    rw [← ref_back us fun v hv => h v (List.mem_cons_of_mem _ hv)]
theorem perm_refs {us : List Value} {bs : List Addr} (h : us.Perm (bs.map Value.ref)) : ∃ cs : List Addr, cs.Perm bs ∧ us = cs.map Value.ref := by
  refine ⟨us.filterMap refOf, ?_, ref_back us fun v hv => ?_⟩
  · have := h.filterMap refOf
    rw [ref_map] at this
    exact this
  · obtain ⟨b, _, e⟩ := List.mem_map.mp (h.mem_iff.mp hv)
    exact ⟨b, e.symm⟩
section
variable {X : Cx}
/-- sorted(d), the keys tuples of whole numbers: all of them, in some order -/
theorem call_sortedT (hc : X.calm = true) : CallR X (.builtin "sorted") (fun xs H Q => ∃ a kvs, xs = [.ref a] ∧ H a = some (.dT kvs) ∧ kvs.length < 64 ∧ (∀ kv ∈ kvs, ∃ ns : List Int, kv.1 = ns.map Sum.inl) ∧ (2 ≤ kvs.length → ∀ kv ∈ kvs, kv.1 ≠ []) ∧
    ∀ p bs (cs : List Addr), H p = none → KeyAt H kvs bs → cs.Perm bs → Q (.ref p) (upd H p (.lst (cs.map V.ref)))) := by
  intro pins s σ H xs us Q I r h
  obtain ⟨a, kvs, rfl, ha, h64, hint, hne, q⟩ := h
  obtain ⟨u, rfl, ru⟩ := vals1 r
  cases ru
  obtain ⟨rows, ep, bs, rd, nb, sz, z, ka, kb⟩ := dT_raw I ha
  refine Calls.call_function_entry kind_sorted plain_sorted entry_sorted (args_sorted1 _) (?_ : _)
  unfold Builtin.«sorted»
  apply wpAny_bind (m := checkCount "sorted" 1 1 _); apply wpAny_pure
  apply wpAny_bind
  refine kdu_collect (raw_src nb) (I.ok.hd hc) rd (by omega) fun h1 tk acc k1 hacc => ?_
  rw [items_refs hacc (by rw [ka.1, sz]) kb]
  apply wpAny_bind; refine wpAny_newList ?_ (by rw [List.length_map, sizeLine_eq, ka.1]; omega)
  have hb1 : ∀ b ∈ bs, b < h1.objs.size := fun b m => by
    obtain ⟨i, e⟩ := List.getElem?_of_mem m
    have hi := (List.getElem?_eq_some_iff.mp e).1
    obtain ⟨_, its, _, ⟨o, g, _⟩, _⟩ := (show ObjOk X.prog X.w H s.heap b (.tup _) from I.hok b _ (ka.2 i b (kvs[i]'(by rw [← ka.1]; exact hi)) e (List.getElem?_eq_getElem _)))
    exact Heap.lt_size (k1 b o g)
  have I1 : Inv X pins σ H { s with heap := h1, toks := tk } := I.kept k1
  apply wpAny_bind
  refine wpAny_holding (wpAny_call_entry slot_list_sort ⟨_, Heap.get?_push_size _ rfl, rfl⟩ entry_list_sort (?_ : _) (args_list_sort _))
  refine sort_tups (s := { s with heap := h1.push (seqObj "list" (bs.map Value.ref).toArray 0), toks := tk }) (n := 0) (kss := kvs.map fun kv => kv.1.filterMap intOf) (Heap.get?_push_size _ rfl) (fun m => Nat.lt_irrefl _ (hb1 _ m)) (by rw [List.length_map, ka.1]) (fun i b ns e1 e2 => ?_) (fun h2 ns hm => ?_) (by rw [ka.1]; exact h64) fun h' us n' pu keep gl => ?_
  · rw [List.getElem?_map] at e2
    obtain ⟨kv, ek, rfl⟩ := Option.map_eq_some_iff.mp e2
    obtain ⟨ns, en⟩ := hint kv (List.mem_of_getElem? ek)
    have hk := ka.2 i b kv e1 ek
    rw [en] at hk ⊢
    rw [int_map]
    obtain ⟨_, its, rv, ⟨o, g, c, n, d⟩, _⟩ := (show ObjOk X.prog X.w H s.heap b (.tup _) from I.hok b _ hk)
    refine ⟨o, its.toArray, n, Heap.get?_push_of_some _ (k1 b o g), c, d, ?_⟩
    rw [List.map_map] at rv
    exact (show Vals (ns.map V.int) its from rv)
  · obtain ⟨kv, mk, rfl⟩ := List.mem_map.mp hm
    obtain ⟨ns, en⟩ := hint kv mk
    have := hne (by rw [← ka.1]; exact h2) kv mk
    rw [en] at this ⊢
    rw [int_map]
    exact fun z => this (by rw [z]; rfl)
  · obtain ⟨cs, pc, rfl⟩ := perm_refs pu
    refine ⟨_, rfl, wpAny_pure ⟨_, rfl, .ref h1.objs.size, _, I1.laid (h' := h') (t' := tk) (o := .lst (cs.map V.ref)) (fun b u e => ?_) (Nat.le_refl _) ?_, rfl, q _ bs cs (I1.hok.fresh (Nat.le_refl _)) ka pc⟩⟩
    · exact keep b u (Nat.ne_of_lt (Heap.lt_size e)) (Heap.get?_push_of_some _ e)
    · exact ⟨by rw [List.length_map, pc.length_eq, ka.1]; exact z, _, n', vals_refs cs, gl⟩
end
end L2

set_option Elab.async false
set_option linter.all false
set_option maxRecDepth 100000
set_option maxHeartbeats 4000000
namespace DL
open PySem PySem.Spec L2 L3
open PyProof.Rows hiding St
variable {Γ : Hp → Prop}
/-- the tuple that is the key k -/
noncomputable def tkD (k : TK) : D := .tup (k.map kD)
theorem reps_kD {K : PySem.W.Frag} {H : Hp} {O : List Addr} : ∀ k : TK, Reps K H O (k.map kD) (k.map kV)
  | [] => rfl
  | .inl i :: k => ⟨_, _, rfl, rfl, reps_kD k⟩
  | .inr x :: k => ⟨_, _, rfl, rfl, reps_kD k⟩
theorem rep_tk {K : PySem.W.Frag} {H : Hp} {O : List Addr} {k : TK} {b : Addr} (h : H b = some (.tup (k.map kV))) : Rep K H O (tkD k) (.ref b) := ⟨b, _, rfl, ⟨SqT.of h, h⟩, reps_kD k⟩
theorem reps_tks {K : PySem.W.Frag} {H : Hp} {O : List Addr} : ∀ (ps : List (Addr × TK)), (∀ p ∈ ps, H p.1 = some (.tup (p.2.map kV))) → Reps K H O (ps.map fun p => tkD p.2) ((ps.map Prod.fst).map V.ref)
  | [], _ => rfl
  | p :: ps, h => ⟨_, _, rfl, rep_tk (h p List.mem_cons_self), reps_tks ps fun q hq => h q (List.mem_cons_of_mem _ hq)⟩
theorem perm_lift {α β : Type} {f : α → β} {as bs : List β} (h : as.Perm bs) : ∀ l : List α, l.map f = as → ∃ l' : List α, l'.Perm l ∧ l'.map f = bs := by
  induction h with
  | nil => intro l e; exact ⟨l, List.Perm.refl _, e⟩
  | @cons x as bs h ih =>
    intro l e
    cases l with
    | nil => cases e
    | cons a l =>
      rw [List.map_cons] at e
      injection e with e1 e2
      obtain ⟨l', p', e'⟩ := ih l e2
      exact ⟨a :: l', p'.cons a, by rw [List.map_cons, e1, e']⟩
  | @swap x y l0 =>
    intro l e
    match l, e with
    | a :: b :: l, e =>
      rw [List.map_cons, List.map_cons] at e
      injection e with e1 e2
      injection e2 with e2 e3
      exact ⟨b :: a :: l, List.Perm.swap a b l, by rw [List.map_cons, List.map_cons, e1, e2, e3]⟩
  | @trans as bs cs h1 h2 ih1 ih2 =>
    intro l e
    obtain ⟨l1, p1, e1⟩ := ih1 l e
    obtain ⟨l2, p2, e2⟩ := ih2 l1 e1
    exact ⟨l2, p2.trans p1, e2⟩
theorem keyAt_zip {H : Hp} {ks : List TK} {xs : List V} {bs : List Addr} (h : KeyAt H (ks.zip xs) bs) (hl : ks.length = xs.length) : bs.length = ks.length ∧ ∀ p ∈ bs.zip ks, H p.1 = some (.tup (p.2.map kV)) := by
  have e : bs.length = ks.length := by rw [h.1, List.length_zip, hl, Nat.min_self]
  refine ⟨e, fun p hp => ?_⟩
  obtain ⟨i, ei⟩ := List.getElem?_of_mem hp
  obtain ⟨e1, e2⟩ := List.getElem?_zip_eq_some.mp ei
  have hi := (List.getElem?_eq_some_iff.mp e2).1
  exact h.2 i p.1 (p.2, xs[i]'(by omega)) e1 (by rw [List.getElem?_zip_eq_some]; exact ⟨e2, List.getElem?_eq_getElem _⟩)
theorem zip_fst {α β : Type} {as : List α} {bs : List β} (h : as.length = bs.length) : (as.zip bs).map Prod.fst = as := List.map_fst_zip (Nat.le_of_eq h)
theorem zip_sndE {α β : Type} {as : List α} {bs : List β} (h : as.length = bs.length) : (as.zip bs).map Prod.snd = bs := List.map_snd_zip (Nat.le_of_eq h.symm)
section
variable {X : Cx} {e : Expr} {es : List Expr} {t : TDs} {te : TD} {p pos : Pos}
noncomputable def sListT : FT := fun ds φ => match ds with
  | [.dt ks l] => φ (df (.lst (ks.map tkD)))
  | _ => False
/-- a key of whole numbers -/
noncomputable def intK (k : TK) : Prop := ∃ ns : List Int, k = ns.map Sum.inl
noncomputable def sSortedT : FT := fun ds φ => match ds with
  | [.dt ks _] => ks.length < 64 ∧ (∀ k ∈ ks, intK k) ∧ (2 ≤ ks.length → ∀ k ∈ ks, k ≠ []) ∧ ∀ ks' : List TK, ks'.Perm ks → φ (df (.lst (ks'.map tkD)))
  | _ => False
theorem ed_sortedT (hm : X.mg "sorted" = none) (ha : EA Γ X (e :: es) t) (hc : X.calm = true := by rfl) (hg : Gl X "sorted" := by rfl) (he : starEach (e :: es) X.env = (false, eval e X.env) :: starEach es X.env := by rfl) (hpl : (backTo pos (starEach es X.env)).any (·.1) = false := by rfl) : ED Γ X (.Call (.Name "sorted" p) (e :: es) [] pos) (dCB sSortedT t) :=
  ed_callB (call_sortedT hc) (fun H O ds vs φ Q ho hv h k => by
    unfold sSortedT at h
    split at h
    · rename_i ks l
      obtain ⟨v, ws, rfl, ⟨a, xs, rfl, q, l, nd, r⟩, rfl⟩ := hv
      obtain ⟨h1, h2, h3, h4⟩ := h
      have hl : ks.length = xs.length := by rw [l, r.length]
      have hz : (ks.zip xs).length = ks.length := by rw [List.length_zip, hl, Nat.min_self]
      refine ⟨a, _, rfl, q, by rw [hz]; exact h1, fun kv m => h2 _ (List.of_mem_zip m).1, fun z kv m => h3 (by rw [← hz]; exact z) _ (List.of_mem_zip m).1, fun p bs cs hp kb pc => ?_⟩
      obtain ⟨z1, z2⟩ := keyAt_zip kb hl
      obtain ⟨ps, pp, ep⟩ := perm_lift pc.symm (bs.zip ks) (zip_fst z1)
      have rr := reps_tks (K := X.K) (O := O) ps fun p hp => z2 p (pp.mem_iff.mp hp)
      rw [ep] at rr
      have h5 := h4 (ps.map Prod.snd) (by have := pp.map Prod.snd; rw [zip_sndE z1] at this; exact this)
      rw [List.map_map] at h5
      exact k _ _ _ (same_new hp _) (rv_lst ho hp rr) h5
    · exact h.elim) hm (by kernel_rfl) ha hg (by decide) (by decide) he hpl
end
theorem keysD_map : ∀ k : TK, keysD (k.map kD) = some k
  | [] => rfl
  | .inl i :: k => by rw [List.map_cons, keysD, keysD_map k]; rfl
  | .inr i :: k => by rw [List.map_cons, keysD, keysD_map k]; rfl
theorem keyT_tk (k : TK) : keyT (tkD k) = some k := keysD_map k
theorem tk_ints (ns : List Int) : tkD (ns.map Sum.inl) = .tup (ns.map D.int) := by
  unfold tkD
  rw [List.map_map]
  rfl
theorem keyT_ints (ns : List Int) : keyT (.tup (ns.map D.int)) = some (ns.map Sum.inl) := by
  rw [← tk_ints, keyT_tk]
end DL

set_option Elab.async false
set_option linter.all false
set_option maxRecDepth 100000
set_option maxHeartbeats 4000000
namespace L2
open PySem PySem.Spec PySem.W PyProof.Rows
section
variable {n : Nat} {lt : Nat → Nat → Bool} {cmp : Nat → Nat → (Bool → Shared → Prop) → Shared → Prop} {s : Shared}
noncomputable abbrev at0 (p : Array Nat) (i : Nat) : Nat := p.getD i 0
end
end L2

set_option Elab.async false
set_option linter.all false
set_option maxRecDepth 100000
set_option maxHeartbeats 4000000
namespace L2
open PySem PySem.Spec PySem.W PyProof.Rows
section
variable {prog : Program} {w : World} {A : Around} {E : Value → Shared → Prop} {s : Shared}
end
section
variable {X : Cx}
end
end L2

set_option Elab.async false
set_option linter.all false
set_option maxRecDepth 100000
set_option maxHeartbeats 4000000
namespace DL
open PySem PySem.Spec L2 L3
open PyProof.Rows hiding St
variable {Γ : Hp → Prop}
section
variable {X : Cx} {e : Expr} {es : List Expr} {t : TDs} {te : TD} {p pos : Pos}
end
end DL

set_option Elab.async false
set_option linter.all false
set_option maxRecDepth 100000
set_option maxHeartbeats 8000000
namespace L3
open PySem PySem.Spec PyProof.Rows
section
variable {P : Program} {w : World} {A : Around} {E : Value → Shared → Prop} {s : Shared}
end
end L3

set_option Elab.async false
set_option linter.all false
set_option maxRecDepth 100000
set_option maxHeartbeats 8000000
namespace L3
open PySem PySem.Spec L2
open PyProof.Rows hiding St
end L3
namespace DL
open PySem PySem.Spec L2 L3
open PyProof.Rows hiding St
variable {Γ : Hp → Prop}
section
variable {X : Cx} {pins : List (Addr × Obj)} {σ : St} {H : Hp} {s : Shared}
end
end DL

set_option Elab.async false
set_option linter.all false
set_option maxRecDepth 100000
set_option maxHeartbeats 4000000
namespace DL
open PySem PySem.Spec L2 L3
open PyProof.Rows hiding St
variable {Γ : Hp → Prop}
section
variable {X : Cx} {a b c : Expr} {ta tb tc : TD} {pos : Pos}
end
end DL

set_option Elab.async false
set_option linter.all false
set_option maxRecDepth 100000
set_option maxHeartbeats 4000000
namespace DL
open PySem PySem.Spec L2 L3
open PyProof.Rows hiding St
variable {Γ : Hp → Prop}
noncomputable def inR (m : Int) (ns : List Int) : Prop := ns.length ≤ 1000 ∧ (m ≤ 0 → 1 ≤ ns.length) ∧ ∀ n ∈ ns, 0 < m → 0 ≤ n ∧ n < m
section
variable {X : Cx} {pins : List (Addr × Obj)} {σ : St} {H : Hp} {s : Shared} {a : Addr} {m : Int}
theorem feed_ints : ∀ (its : List Value), (∀ v ∈ its, ∃ (i : Int) (t : Tok), v = .int i t ∧ (0 < m → 0 ≤ i ∧ i < m)) → ∃ ns : List Int, ns.length = its.length ∧ (∀ n ∈ ns, 0 < m → 0 ≤ n ∧ n < m) ∧ Vals (ns.map V.int) its
  | [], _ => ⟨[], rfl, (fun _ h => nomatch h), .nil⟩
  | v :: its, h => by
    obtain ⟨i, t, rfl, h1⟩ := h v List.mem_cons_self
    obtain ⟨ns, l, r, vs⟩ := feed_ints its fun w hw => h w (List.mem_cons_of_mem _ hw)
    refine ⟨i :: ns, by simp [l], fun n hn => ?_, .cons ⟨t, rfl⟩ vs⟩
    rcases List.mem_cons.mp hn with rfl | hn
    · exact h1
    · exact r n hn
theorem vals_ints : ∀ {ns : List Int} {its : List Value}, Vals (ns.map V.int) its → (∀ n ∈ ns, 0 < m → 0 ≤ n ∧ n < m) → ∀ v ∈ its, ∃ (i : Int) (t : Tok), v = .int i t ∧ (0 < m → 0 ≤ i ∧ i < m)
  | [], _, .nil, _, v, h => nomatch h
  | n :: ns, _, .cons r t, hr, v, h => by
    obtain ⟨tk, e⟩ := r
    rcases List.mem_cons.mp h with rfl | h
    · exact ⟨n, tk, e, hr n List.mem_cons_self⟩
    · exact vals_ints t (fun k hk => hr k (List.mem_cons_of_mem _ hk)) v h
theorem feed_open (I : Inv X pins σ H s) (h : H a = some (FeedO a m)) : ∃ ns : List Int, inR m ns ∧ Inv X pins σ (upd H a (.lst (ns.map V.int))) s := by
  obtain ⟨⟨its, n, e, sz, sz1, all⟩, _⟩ := (show ObjOk X.prog X.w H s.heap a (FeedO a m) from I.hok a _ h)
  obtain ⟨ns, l, r, vs⟩ := feed_ints its.toList fun v hv => all v (by simpa using hv)
  have ll : ns.length ≤ 1000 := by rw [l, Array.length_toList]; exact sz
  refine ⟨ns, ⟨ll, fun hm => by rw [l, Array.length_toList]; exact sz1 hm, r⟩, ?_⟩
  exact I.write (t' := s.toks) (h' := s.heap) (x := a) (e := a) (o := .lst (ns.map V.int)) (by rw [h]; exact True.intro) (.inl rfl) (fun _ _ _ z => z) ⟨_, e⟩ (show ObjOk X.prog X.w _ s.heap a (.lst _) from ⟨by rw [List.length_map, sizeLine_eq]; omega, its.toList, n, vs, by simpa using e⟩)
theorem feed_ok {P : Program} {w : World} {H' : Hp} {h' : Heap} {its : Array Value} {n : Nat} (e : h'.get? a = some { cls := .type "list", dict := none, data := .seq its n, slots := #[] }) (sz : its.size ≤ 1000) (sz1 : m ≤ 0 → 1 ≤ its.size) (all : ∀ v ∈ its, ∃ (i : Int) (t : Tok), v = .int i t ∧ (0 < m → 0 ≤ i ∧ i < m)) : ObjOk P w H' h' a (FeedO a m) :=
  ⟨⟨its, n, e, sz, sz1, all⟩, ⟨_, e⟩, fun h1 h2 ⟨its', n', e', r⟩ k => ⟨its', n', k _ e', r⟩⟩
theorem feed_close {ns : List Int} (I : Inv X pins σ H s) (h : H a = some (.lst (ns.map V.int))) (r : inR m ns) : Inv X pins σ (upd H a (FeedO a m)) s := by
  obtain ⟨z, its, n, vs, e⟩ := (show ObjOk X.prog X.w H s.heap a (.lst (ns.map V.int)) from I.hok a _ h)
  have l : its.length = ns.length := by have := vs.length; rw [List.length_map] at this; exact this.symm
  exact I.write (t' := s.toks) (h' := s.heap) (x := a) (e := a) (o := FeedO a m) (by rw [h]; exact True.intro) (.inl rfl) (fun _ _ _ z => z) ⟨_, e⟩ (feed_ok (its := its.toArray) e (by rw [List.size_toArray, l]; exact r.1) (fun hm => by rw [List.size_toArray, l]; exact r.2.1 hm) fun v hv => vals_ints vs r.2.2 v (by simpa using hv))
end
section
variable {X : Cx}
noncomputable def sNext (i : Nat) : TDS := fun ρ Z => match slot ρ i with
  | some ⟨.val, .fd m⟩ => 0 < m ∧ ∀ c : Int, 0 ≤ c → c < m → Z.rt (dv (.int c))
  | _ => False
/-- if feed == []: return 0; return feed.pop(0) -/
theorem ss_next (i : Nat) {x : Str} {p1 p2 p3 p4 p5 p6 p7 p8 p9 p10 p11 : Pos} {j1 j2} (hu : X.A.units + 64 < cLine) (hN : X.N[i]? = some x := by rfl) (hv : Vis X.env.scope x := by first | exact Or.inl rfl | exact Or.inr (Or.inl rfl) | exact Or.inr (Or.inr rfl))
    (hd : (x == ("__debug__" : Str)) = false := by decide) (hcd : (x == ("__classdict__" : Str)) = false := by decide) (hm : behindInMarks .Eq (.List [] p2) = false := by with_unfolding_all rfl)
    (hq : ∀ {to : TE}, PE X (.Name x p7) to → PE X (.Call (.Attribute (.Name x p7) "pop" p8) [.Constant (.int 0) j2 p9] [] p10) (tBM X.K "list" rPopAt to (tCons (tC (.int 0)) tNil)) := by
      intro to h1
      exact pe_bm PySem.F.plainAttrs_list PySem.F.slot_list_pop PySem.F.type_list_pop mt_popAt h1 (pa_cons pe_int pa_nil)) :
    SDs Γ X [.If (.Compare (.Name x p1) [.Eq] [.List [] p2] p3) [.Return (some (.Constant (.int 0) j1 p4)) p5] [] p6, .Return (some (.Call (.Attribute (.Name x p7) "pop" p8) [.Constant (.int 0) j2 p9] [] p10)) p11] (sNext i) := fun H₀ pins s σ H EE I h => by
  obtain ⟨ρ, o, R, Z, hZ, k1, k2, k3, k4⟩ := h
  unfold sNext at hZ
  split at hZ
  · rename_i m es
    obtain ⟨m0, hZ⟩ := hZ
    obtain ⟨v, ev, hrep⟩ := R.slots i _ (slot_iff.mp es)
    obtain ⟨a, rfl, ha, na⟩ : ∃ a, v = .ref a ∧ H a = some (FeedO a m) ∧ a ∉ o.map Prod.snd := by
      rcases hrep with ⟨_, h⟩ | ⟨k, _⟩
      · exact h
      · cases k
    obtain ⟨ns, hr, I1⟩ := feed_open I ha
    have body := pss_cons (ps_if (pt_cmpR (op_eqD hu) (pe_var hN hv hd hcd (pos := p1)) (pe_lst pa_nil (pos := p2)) hm (pos := p3)) (pss_one (ps_ret (pe_int (i := 0) (j := j1) (pos := p4)) (pos := p5))) pss_nil (pos := p6)) (pss_one (ps_ret (hq (pe_var hN hv hd hcd (pos := p7))) (pos := p11)))
    let D1 : Ends := { EE with nx := fun _ _ => False, bk := fun _ _ => False, ct := fun _ _ => False, rt := fun v H2 => ∃ (c : Int) (ns' : List Int), v = .int c ∧ 0 ≤ c ∧ c < m ∧ H2 a = some (.lst (ns'.map V.int)) ∧ inR m ns' ∧ ∀ b u, b ≠ a → H b = some u → H2 b = some u }
    refine thn (body pins s σ _ D1 I1 ?_) fun fl s' p => ?_
    · have h1 : upd H a (HO.lst (ns.map V.int)) a = some (.lst (ns.map V.int)) := upd_same
      refine ⟨.ref a, ev, Nat.zero_le _, fun q hq0 => ?_⟩
      have nq : a ≠ q := ne_of_none h1 hq0
      have h2 : upd (upd H a (HO.lst (ns.map V.int))) q (.lst []) a = some (.lst (ns.map V.int)) := by rw [upd_ne nq]; exact h1
      have hk : ∀ b u, b ≠ a → H b = some u → upd (upd H a (HO.lst (ns.map V.int))) q (.lst []) b = some u := fun b u hb hbu => by
        have e : upd H a (HO.lst (ns.map V.int)) b = some u := by rw [upd_ne hb]; exact hbu
        rw [upd_ne (ne_of_none e hq0)]
        exact e
      refine ⟨.lst (ns.map D.int), .lst [], ⟨a, _, rfl, h2, (by simp), Reps.ints ns⟩, ⟨q, [], rfl, upd_same, (by simp), rfl⟩, ?_, ?_, _, rfl, ?_⟩
      · show ∀ x ∈ ns.map D.int, okD 39 x
        intro x hx
        obtain ⟨n, _, rfl⟩ := List.mem_map.mp hx
        simp [okD]
      · show ∀ x ∈ ([] : List D), okD 39 x
        intro x hx
        cases hx
      · cases ns with
        | nil =>
          show if (eqD (.lst []) (.lst []) = true) then _ else _
          rw [if_pos (show eqD (D.lst []) (D.lst []) = true from rfl)]
          exact ⟨0, [], rfl, Int.le_refl _, m0, h2, ⟨Nat.zero_le _, (fun z => absurd m0 (by omega)), fun _ z => nomatch z⟩, hk⟩
        | cons n ns =>
          show if (eqD (.lst (D.int n :: ns.map D.int)) (.lst []) = true) then _ else _
          rw [if_neg (by simp [eqD, eqDs])]
          refine ⟨.ref a, ev, .inl ⟨rfl, _, SqL.of h2⟩, a, _, 0, 0, .int n, rfl, rfl, h2, by decide, by decide, ?_, rfl, ?_⟩
          · simp [seqIndex?]
          · exact ⟨n, ns, rfl, (hr.2.2 n List.mem_cons_self m0).1, (hr.2.2 n List.mem_cons_self m0).2, upd_same, ⟨by have := hr.1; simp at this; omega, (fun z => absurd m0 (by omega)), fun k hk => hr.2.2 k (List.mem_cons_of_mem _ hk)⟩, fun b u hb hbu => by rw [upd_ne hb]; exact hk b u hb hbu⟩
    · cases fl with
      | ret u =>
        obtain ⟨v, σ', H2, I2, rv, c, ns', rfl, c0, c1, e2, r2, kp⟩ := p
        refine ⟨.int c, σ', upd H2 a (FeedO a m), feed_close I2 e2 r2, rv, k4 _ (dv (.int c)) _ (R.same.trans fun b u hb => ?_) (by exact rfl) (hZ c c0 c1)⟩
        by_cases hba : b = a
        · subst hba
          rw [upd_same]
          rw [ha] at hb
          exact hb
        · rw [upd_ne hba]
          exact kp b u hba hb
      | next => obtain ⟨_, _, _, f⟩ := p; exact f.elim
      | brk => obtain ⟨_, _, _, f⟩ := p; exact f.elim
      | cont => obtain ⟨_, _, _, f⟩ := p; exact f.elim
  · exact hZ.elim
end
end DL

set_option Elab.async false
set_option linter.all false
set_option maxRecDepth 100000
set_option maxHeartbeats 4000000
namespace DL
open PySem PySem.Spec L2 L3
open PyProof.Rows hiding St
variable {Γ : Hp → Prop}
theorem reps_intsQ {K : PySem.W.Frag} {H : Hp} {O : List Addr} : ∀ {ns : List Int} {xs : List V}, Reps K H O (ns.map D.int) xs → xs = ns.map V.int
  | [], _, h => h
  | n :: ns, xs, h => by
    obtain ⟨v, r, rfl, q, t⟩ := h
    cases (show v = _ from q)
    rw [reps_intsQ t]
    rfl
theorem REnv.feed {K : PySem.W.Frag} {H₀ H : Hp} {σ : St} {ρ : DE} {o : List (Nat × Addr)} (R : REnv K H₀ H σ ρ o) {i : Nat} {ns : List Int} {m : Int} (e : slot ρ i = some (dO (.lst (ns.map D.int)))) :
    ∃ a o', H a = some (.lst (ns.map V.int)) ∧ REnv K H₀ (upd H a (FeedO a m)) σ (setS ρ i (dv (.fd m))) o' ∧ Grow (o.map Prod.snd) (o'.map Prod.snd) H (upd H a (FeedO a m)) := by
  obtain ⟨v, ev, q⟩ := R.slots i _ (slot_iff.mp e)
  obtain ⟨a, rfl, mem, xs, hx, rp⟩ : ∃ a, v = .ref a ∧ (i, a) ∈ o ∧ ∃ xs, H a = some (.lst xs) ∧ Reps K H (o.map Prod.snd) (ns.map D.int) xs := by
    rcases q with ⟨k, _⟩ | ⟨_, a, e1, m, c⟩
    · cases k
    · exact ⟨a, e1, m, c⟩
  cases reps_intsQ rp
  have sub : ∀ p ∈ o.filter (fun p => decide (p.1 ≠ i)), p ∈ o := fun p hp => (List.mem_filter.mp hp).1
  have ne : ∀ p ∈ o.filter (fun p => decide (p.1 ≠ i)), p.2 ≠ a := fun p hp z => by
    have := inj_snd R.nda (sub p hp) mem z
    have hne := of_decide_eq_true (List.mem_filter.mp hp).2
    rw [this] at hne
    exact hne rfl
  have subA : ∀ b ∈ (o.filter (fun p => decide (p.1 ≠ i))).map Prod.snd, b ∈ o.map Prod.snd := fun b hb => by
    obtain ⟨p, hp, e⟩ := List.mem_map.mp hb
    exact List.mem_map.mpr ⟨p, sub p hp, e⟩
  have ain : a ∈ o.map Prod.snd := List.mem_map.mpr ⟨_, mem, rfl⟩
  have aout : a ∉ (o.filter (fun p => decide (p.1 ≠ i))).map Prod.snd := fun hb => by
    obtain ⟨p, hp, e⟩ := List.mem_map.mp hb
    exact ne p hp e
  have g : Grow (o.map Prod.snd) ((o.filter (fun p => decide (p.1 ≠ i))).map Prod.snd) H (upd H a (FeedO a m)) :=
    ⟨fun b u h n => ⟨by rw [upd_ne (fun z => n (by rw [z]; exact ain))]; exact h, fun z => n (subA b z)⟩, fun b ys h => by rw [upd_ne (fun z => by subst z; rw [hx] at h; cases h)]; exact h, fun b ob u h => by rw [upd_ne (fun z => by subst z; rw [hx] at h; cases h)]; exact h⟩
  refine ⟨a, _, hx, ?_, g⟩
  have hlen := R.len
  exact {
    same := fun b u h => by
      have hb : b ≠ a := fun z => by
        subst z
        have := R.fresh _ mem
        rw [this] at h
        cases h
      rw [upd_ne hb]
      exact R.same b u h
    fresh := fun p hp => R.fresh p (sub p hp)
    trk := fun p hp => by rw [upd_ne (ne p hp)]; exact R.trk p (sub p hp)
    mtb := fun p hp => by rw [upd_ne (ne p hp)]; exact R.mtb p (sub p hp)
    nda := List.Nodup.sublist (List.Sublist.map _ List.filter_sublist) R.nda
    len := by rw [setS_eq, List.length_set]; exact R.len
    slots := fun j r ej => by
      rw [setS_eq, List.getElem?_set] at ej
      by_cases hj : i = j
      · subst hj
        rw [if_pos rfl] at ej
        split at ej
        · cases ej
          exact ⟨.ref a, ev, .inl ⟨rfl, a, rfl, upd_same, aout⟩⟩
        · cases ej
      · rw [if_neg hj] at ej
        obtain ⟨v, evj, q⟩ := R.slots j r ej
        refine ⟨v, evj, ?_⟩
        rcases q with ⟨k, q⟩ | ⟨k, b, e1, mb, c⟩
        · exact .inl ⟨k, Rep.grow g _ _ q⟩
        · have inb : (j, b) ∈ o.filter (fun p => decide (p.1 ≠ i)) := List.mem_filter.mpr ⟨mb, decide_eq_true (Ne.symm hj)⟩
          have nb := ne _ inb
          refine .inr ⟨k, b, e1, inb, ?_⟩
          obtain ⟨kk, d⟩ := r
          cases d with
          | lst ds => obtain ⟨xs, q, r⟩ := c; exact ⟨xs, by rw [upd_ne nb]; exact q, Reps.grow g _ _ r⟩
          | dk ks ds => obtain ⟨xs, q, l, nd, r⟩ := c; exact ⟨xs, by rw [upd_ne nb]; exact q, l, nd, Reps.grow g _ _ r⟩
          | dt ks ds => obtain ⟨xs, q, l, nd, r⟩ := c; exact ⟨xs, by rw [upd_ne nb]; exact q, l, nd, Reps.grow g _ _ r⟩
          | _ => exact c.elim }
/-- from here on the own list at i is one that is drawn from -/
noncomputable def sFeed (i : Nat) (m : Int) (t : TDS) : TDS := fun ρ Z => ∃ ns : List Int, slot ρ i = some (dO (.lst (ns.map D.int))) ∧ inR m ns ∧ t (setS ρ i (dv (.fd m))) Z
theorem sd_feed (i : Nat) (m : Int) {X : Cx} {st : Stmt} {t : TDS} (h : SD Γ X st t) : SD Γ X st (sFeed i m t) := fun H₀ pins s σ H EE I q => by
  obtain ⟨ρ, o, R, Z, ⟨ns, e, r, hZ⟩, k1, k2, k3, k4⟩ := q
  obtain ⟨a, o', ha, R', g⟩ := R.feed (m := m) e
  refine h H₀ pins s σ _ EE (feed_close I ha r) ⟨_, o', R', Z, hZ, fun ρ2 σ2 H2 o2 g2 R2 q2 => k1 ρ2 σ2 H2 o2 (g.trans g2) R2 q2, fun ρ2 σ2 H2 o2 g2 R2 q2 => k2 ρ2 σ2 H2 o2 (g.trans g2) R2 q2, fun ρ2 σ2 H2 o2 g2 R2 q2 => k3 ρ2 σ2 H2 o2 (g.trans g2) R2 q2, k4⟩
end DL

set_option Elab.async false
set_option linter.all false
set_option maxRecDepth 100000
set_option maxHeartbeats 4000000
namespace L2
open PySem PySem.Spec PyProof.Rows
section
variable {prog : Program} {w : World} {A : Around} {E : Value → Shared → Prop} {s : Shared}
/-- so many drawn from a list -/
theorem draw_lst {J l : Addr} {its : Array Value} (ne : l ≠ J) : ∀ (n i : Nat) (s : Shared) (Q : List Value → Shared → Prop), s.heap.IsListIter J l i → s.heap.IsList l its → i + n ≤ its.size →
    (∀ h', h'.IsListIter J l (i + n) → h'.IsList l its → Heap.SameBut J s.heap h' → Q ((its.toList.drop i).take n) { s with heap := h' }) → wpAny (model prog w) A (draw (.ref J) n) Q E s
  | 0, i, s, Q, y, hl, _, q => by
    show wpAny _ _ (pure []) Q E s
    apply wpAny_pure
    have := q s.heap y hl (Heap.SameBut.refl ..)
    simpa using this
  | n + 1, i, s, Q, y, hl, le, q => by
    have lt : i < its.size := by omega
    show wpAny _ _ (pyNext (.ref J) >>= _) Q E s
    apply wpAny_bind
    refine wpAny_pyNext_list_item y hl (x := its[i]) (by simp [lt]) fun h1 y1 s1 => ?_
    have hl1 : h1.IsList l its := hl.at fun o e => s1.extBut l o ne e
    apply wpAny_bind; apply wpAny_holding
    refine draw_lst ne n (i + 1) _ _ y1 hl1 (by omega) fun h2 y2 hl2 s2 => wpAny_pure (?_ : _)
    have e0 : its.toList.drop i = its[i] :: its.toList.drop (i + 1) := by simp [List.drop_eq_getElem_cons, lt]
    have := q h2 (by rw [show i + (n + 1) = i + 1 + n by omega]; exact y2) hl2 (s1.trans s2)
    rw [e0, List.take_succ_cons] at this
    exact this
theorem unpack_lst {env : Env} {elts : List Expr} {x1} {pos : Pos} {l : Addr} {its : Array Value} {Q : Unit → Shared → Prop} (hh : A.handled = none) (hl : s.heap.IsList l its) (hn : (assignEach elts env).length = its.size) (hs : (assignEach elts env).findIdx? (·.1) = none)
    (q : ∀ h', Heap.ExtBut s.heap.objs.size s.heap h' → wpAny (model prog w) A (assignInOrder ((assignEach elts env).map (·.2)) its.toList) Q E { s with heap := h' }) : wpAny (model prog w) A (assign (.Tuple elts x1 pos) env (.ref l)) Q E s := by
  have ne : l ≠ s.heap.objs.size := by obtain ⟨o, e, _⟩ := hl; exact Nat.ne_of_lt (Heap.lt_size e)
  rw [assign_Tuple]
  apply wpAny_bind; apply wpAny_standAt
  unfold unpack
  rw [hn, hs]
  apply wpAny_bind; apply wpAny_holding
  unfold unpackItems
  apply wpAny_bind
  unfold notIterableAtAll
  apply wpAny_bind
  refine wpAny_specialOf hl.typeIs PySem.F.slot_list_iter.lookup (?_ : _)
  apply wpAny_pure
  simp only [Bool.false_eq_true, if_false]
  apply wpAny_bind; apply wpAny_holding
  refine wpAny_pyIter_list hl (?_ : _)
  apply wpAny_bind; apply wpAny_holding
  refine draw_lst ne its.size 0 _ _ ⟨_, Heap.get?_push_size _ rfl, rfl, rfl⟩ (hl.push _) (by omega) fun h1 y1 hl1 s1 => ?_
  rw [show List.take its.size (List.drop 0 its.toList) = its.toList by rw [List.drop_zero]; exact List.take_of_length_le (by simp)]
  rw [if_neg (show ¬ _ by simp)]
  apply wpAny_bind; apply wpAny_holding
  refine wpAny_pyNext_list_end hh y1 hl1 (by simp) fun h2 e2 => ?_
  simp only [Option.isSome_none, Bool.false_eq_true, if_false]
  refine wpAny_pure (q h2 fun b o hb e => e2 b o hb (s1.extBut b o hb (Heap.get?_push_of_some _ e)))
end
section
variable {X : Cx}
/-- (a, b, ..) = a list of that length -/
noncomputable def gLst (K : PySem.W.Frag) (n : Nat) (t : TGs) : TG := fun v σ H Q => ∃ a xs, v = .ref a ∧ SqL K H a xs ∧ xs.length = n ∧ t xs σ H Q
theorem pg_lstK {K0 : PySem.W.Frag} {es : List Expr} {k : Nat} {t : TGs} {n : Nat} {pos : Pos} (hK : X.K = K0) (hc : X.calm = true) (h : PGs X es t) (hn : (assignEach es X.env).length = n := by rfl) (hst : (assignEach es X.env).findIdx? (·.1) = none := by rfl) : PG X (.Tuple es k pos) (gLst K0 n t) := by
  subst hK
  intro pins s σ H v u Q I r hw
  obtain ⟨a, xs, e1, hq, hl, hw⟩ := hw
  subst e1
  cases r
  obtain ⟨its, rv, ht, hz⟩ := I.list hq
  refine unpack_lst (I.ok.hd hc) ht.isList (by simp [hn, ← hl, rv.length]) hst fun h' hx => ?_
  have I1 : Inv X pins σ H { s with heap := h' } := I.kept (t' := s.toks) fun b o e => hx b o (Nat.ne_of_lt (Heap.lt_size e)) e
  exact h pins _ σ H xs _ Q I1 (by simpa using rv) hw
end
end L2
namespace DL
open PySem PySem.Spec L2 L3
open PyProof.Rows hiding St
noncomputable def gL4 (i j l m : Nat) : TGD := fun d ρ ψ => match d with
  | .lst [a, b, c, e] => ψ (setS (setS (setS (setS ρ i (dv a)) j (dv b)) l (dv c)) m (dv e))
  | _ => False
theorem gl_lst4 {K : PySem.W.Frag} (i j l m : Nat) : GLink K (gLst K 4 (gCons (gName i) (gCons (gName j) (gCons (gName l) (gCons (gName m) gNil))))) (gL4 i j l m) := fun H₀ H σ ρ o d v ψ Q R h hg k => by
  unfold gL4 at hg
  split at hg
  · rename_i a b c e
    obtain ⟨p, xs, rfl, q, n, r⟩ := h
    obtain ⟨v1, r1, rfl, h1, v2, r2, rfl, h2, v3, r3, rfl, h3, v4, r4, rfl, h4, rfl⟩ := r
    refine ⟨p, _, rfl, SqL.of q, rfl, v1, _, rfl, v2, _, rfl, v3, _, rfl, v4, _, rfl, rfl, ?_⟩
    exact k _ _ ((((R.setV i h1).setV j h2).setV l h3).setV m h4) hg
  · exact hg.elim
end DL

set_option Elab.async false
set_option linter.all false
set_option maxRecDepth 100000
set_option maxHeartbeats 4000000
namespace L2
open PySem PySem.Spec PyProof.Rows
section
variable {prog : Program} {w : World} {A : Around} {E : Value → Shared → Prop} {s : Shared}
theorem same_pairs2 {a b : Addr} {kvs1 kvs2 : List (Str × Value)} {id : String} {Q : Bool → Shared → Prop} (ha : StrD s.heap a kvs1) (hb : StrD s.heap b kvs2)
    (na : (a == sysModules) = false) (nb : (b == sysModules) = false) (hk : kvs1.map (·.1) = kvs2.map (·.1))
    (hv : ∀ (i : Nat) p q, kvs1[i]? = some p → kvs2[i]? = some q → ∀ (Q : Bool → Shared → Prop), Q true s → wpAny (model prog w) A (eqBool p.2 q.2) Q E s)
    (h : Q true s) : wpAny (model prog w) A (Builtin.Dict.samePairs id a b) Q E s := by
  obtain ⟨o1, es1, ep1, g1, x1, d1, l1, p1, n1⟩ := ha
  obtain ⟨o2, es2, ep2, g2, x2, d2, l2, p2, n2⟩ := hb
  have lk : kvs1.length = kvs2.length := by have := congrArg List.length hk; simpa using this
  have ls : es1.size = es2.size := by omega
  have hall : es2.all (fun e => isExactStrKey e.key) = true := by
    rw [Array.all_eq_true]
    intro i hi
    obtain ⟨k, v, t, _, e, _⟩ := p2 i es2[i] (by simp [hi])
    rw [e]
    rfl
  unfold Builtin.Dict.samePairs
  refine wpAny_bind (wp_showsAll na (wpAny_bind (wp_showsAll nb (wpAny_bind (wpAny_dictEntries g1 d1 (wpAny_bind (wpAny_dictEntries g2 d2 ?_)))))))
  rw [if_neg (by simp [ls])]
  refine wpAny_bind (wpAny_dictEpoch g1 d1 ?_)
  rw [Std.Legacy.Range.forIn_eq_forIn_range']
  refine wpAny_bind (wpAny_forIn_list _ (fun rest r s' => r = (none, ()) ∧ s' = s ∧ ∀ i ∈ rest, i < es1.size) _ ?_ ?_ _ _ ⟨rfl, rfl, fun i hi => ?_⟩)
  · rintro i rest _ _ ⟨rfl, rfl, hi⟩
    have hlt := hi i (List.mem_cons_self ..)
    refine wpAny_bind (wpAny_dictEntries g1 d1 ?_)
    have e1 : es1[i]? = some es1[i] := by simp [hlt]
    rw [e1]
    obtain ⟨k, v, t, q1, q2, q3⟩ := p1 i es1[i] e1
    have h2 : i < es2.size := by omega
    have e2 : es2[i]? = some es2[i] := by simp [h2]
    obtain ⟨k2, v2, t2, r1, r2, r3⟩ := p2 i es2[i] e2
    have ekk : k = k2 := by
      have := congrArg (fun l => l[i]?) hk
      simp [q1, r1] at this
      exact this
    subst ekk
    have hfind : (es2.findIdx? fun e => e.key.isStr k) = some i := by
      rw [Array.findIdx?_eq_some_iff_getElem]
      refine ⟨h2, by rw [r2]; simp [Value.isStr], fun j hj => ?_⟩
      have hj2 : j < es2.size := by omega
      obtain ⟨k3, v3, t3, u1, u2, u3⟩ := p2 j es2[j] (by simp [hj2])
      intro z
      rw [u2] at z
      have e3 := isStr_inj z
      have hj3 : j < (kvs2.map (·.1)).length := by rw [List.length_map]; exact (List.getElem?_eq_some_iff.mp u1).1
      have hi3 : i < (kvs2.map (·.1)).length := by rw [List.length_map]; exact (List.getElem?_eq_some_iff.mp r1).1
      refine List.pairwise_iff_getElem.mp n2 j i hj3 hi3 hj ?_
      have a1 := (List.getElem?_eq_some_iff.mp u1).2
      have a2 := (List.getElem?_eq_some_iff.mp r1).2
      rw [List.getElem_map, List.getElem_map, a1, a2]
      exact e3
    dsimp only
    rw [q2, q3]
    refine wpAny_bind (wpAny_holding (wpAny_bind ?_))
    refine wp_find_str g2 d2 hall h2 hfind ⟨t2, r2⟩ ?_
    refine wpAny_bind (wpAny_dictEntries g2 d2 ?_)
    rw [e2]
    refine wpAny_holding ?_
    rw [r3]
    refine hv i (k, v) (k, v2) q1 r1 _ ?_
    rw [if_neg (by decide)]
    refine wpAny_bind (wpAny_dictEpoch g1 d1 ?_)
    rw [if_neg (by simp)]
    exact wpAny_pure ⟨rfl, rfl, fun j hj => hi j (List.mem_cons_of_mem _ hj)⟩
  · rintro _ _ ⟨rfl, rfl, _⟩
    exact wpAny_pure h
  · have := List.mem_range'.mp hi
    obtain ⟨j, hj, rfl⟩ := this
    simpa using hj
theorem rc_dicts2 {a b : Addr} {kvs1 kvs2 : List (Str × Value)} (ha : StrD s.heap a kvs1) (hb : StrD s.heap b kvs2) (na : (a == sysModules) = false) (nb : (b == sysModules) = false)
    (hk : kvs1.map (·.1) = kvs2.map (·.1)) (hv : ∀ (i : Nat) p q, kvs1[i]? = some p → kvs2[i]? = some q → ∀ A' : Around, A'.units ≤ A.units + 8 → SeqAt.EqAt A' s p.2 q.2 true) (hu : A.units < cLine) : SeqAt.RcAt A s (.ref a) (.ref b) true := fun prog w E Q h => by
  refine wpAny_richCompare_same_room (op := .Eq) ha.typeIs hb.typeIs F.slot_dict_eq ?_ hu
  refine wpAny_call_entry F.slot_dict_eq ha.typeIs F.entry_dict_eq ?_ (F.args_dict_eq_2 _ _)
  unfold Builtin.«dict.__eq__»
  show wpAny _ _ (Builtin.Dict.dictSlotArgs "__eq__" ⟨[.ref a, .ref b], []⟩ >>= _) _ _ _
  refine wpAny_bind ?_
  unfold Builtin.Dict.dictSlotArgs
  refine wpAny_bind (wpAny_notOrdered_dict ha.typeIs ?_)
  show wpAny _ _ (pure (Value.ref a, Value.ref b)) _ _ _
  refine wpAny_pure ?_
  dsimp only
  refine wpAny_bind (wpAny_isInstance hb.typeIs isSubtype_dict_dict ?_)
  simp only [Bool.not_true, Bool.false_eq_true, if_false]
  refine wpAny_bind (wpAny_pure (wpAny_bind (wpAny_pure (wpAny_bind ?_))))
  exact same_pairs2 ha hb na nb hk (fun i p q h1 h2 Q hq => hv i p q h1 h2 _ (by first | exact Nat.le_add_right _ 8 | (show A.units + 1 ≤ _; omega) | (show A.units + 1 + 1 ≤ _; omega) | (show A.units + 1 + 1 + 1 ≤ _; omega)) prog w _ Q hq) (wpAny_pure ⟨_, rfl, (fun z => nomatch z), h⟩)
theorem eq_dicts2 {a b : Addr} {kvs1 kvs2 : List (Str × Value)} (ha : StrD s.heap a kvs1) (hb : StrD s.heap b kvs2) (na : (a == sysModules) = false) (nb : (b == sysModules) = false)
    (hk : kvs1.map (·.1) = kvs2.map (·.1)) (hv : ∀ (i : Nat) p q, kvs1[i]? = some p → kvs2[i]? = some q → ∀ A' : Around, A'.units ≤ A.units + 8 → SeqAt.EqAt A' s p.2 q.2 true) (hu : A.units < cLine) : SeqAt.EqAt A s (.ref a) (.ref b) true := by
  by_cases e : a = b
  · subst e
    exact SeqAt.EqAt.same _
  · intro prog w E Q h
    unfold eqBool
    refine wpAny_holding ?_
    refine wpAny_ite_split (fun hab => absurd (Value.ref.inj (eq_of_beq hab)) e) (fun _ => ?_)
    exact wpAny_bind (rc_dicts2 ha hb na nb hk hv hu prog w E _ (wpAny_truthy_bool h))
end
end L2

set_option Elab.async false
set_option linter.all false
set_option maxRecDepth 100000
set_option maxHeartbeats 4000000
namespace DL
open PySem PySem.Spec L2 L3
open PyProof.Rows hiding St
variable {Γ : Hp → Prop}
noncomputable def okDk (d : D) : Prop := ∃ (ks : List Str) (vs : List D), d = .dk (ks.map Sum.inr) vs ∧ ∀ v ∈ vs, okD 20 v
section
variable {X : Cx} {pins : List (Addr × Obj)} {σ : St} {H : Hp} {s : Shared}
theorem strD_of2 (I : Inv X pins σ H s) {a : Addr} {ks : List Str} {xs : List V} (ha : H a = some (.dK ((ks.map Sum.inr).zip xs))) (l : ks.length = xs.length) (nd : ks.Nodup) :
    (a == sysModules) = false ∧ ∃ vs : List (Str × Value), StrD s.heap a vs ∧ vs.map (·.1) = ks ∧ ∀ (i : Nat) p, vs[i]? = some p → ∃ x, xs[i]? = some x ∧ RelV x p.2 := by
  obtain ⟨_, na, va, ka, o, es, ep, g, x, d, k, p, n⟩ := dk_of I.hok ha
  have l1 : va.length = ks.length := by
    have := ka.length
    rw [List.length_zip, List.length_map] at this
    omega
  have l2 := pairs_len p
  have fact : ∀ (i : Nat) (q : Key × Value), va[i]? = some q → ∃ z x, ks[i]? = some z ∧ xs[i]? = some x ∧ q.1 = Sum.inr z ∧ RelV x q.2 := by
    intro i q hq
    obtain ⟨q', f1, f2, f3⟩ := kv_at ka hq
    rw [List.getElem?_zip_eq_some] at f1
    obtain ⟨f4, f5⟩ := f1
    rw [List.getElem?_map] at f4
    obtain ⟨z, ez, e1⟩ := Option.map_eq_some_iff.mp f4
    exact ⟨z, q'.2, ez, f5, by rw [← f2, ← e1], f3⟩
  refine ⟨na, ks.zip (va.map (·.2)), ⟨o, es, ep, g, x.1, d, ?_, ?_, ?_⟩, ?_, ?_⟩
  · rw [List.length_zip, List.length_map, l1, Nat.min_self]
    have a1 : es.toList.length = es.size := by simp
    omega
  · intro i e he
    obtain ⟨kv, h1, h2, h3⟩ := pairs_at p (i := i) (e := e) (by simpa using he)
    obtain ⟨z, y, f1, f2, f3, f4⟩ := fact i kv h1
    rw [f3] at h2
    have hs := keyIs_shape (k := Sum.inr z) (v := e.key) h2
    rcases hs with ⟨_, _, z0, _⟩ | ⟨y', t', z0, z2⟩
    · cases z0
    · cases z0
      refine ⟨z, kv.2, t', ?_, z2, h3⟩
      rw [List.getElem?_zip_eq_some]
      refine ⟨f1, ?_⟩
      rw [List.getElem?_map, h1]
      rfl
  · rw [List.map_fst_zip (by rw [List.length_map]; omega)]
    exact nd
  · exact List.map_fst_zip (by rw [List.length_map]; omega)
  · intro i q hq
    rw [List.getElem?_zip_eq_some] at hq
    obtain ⟨h1, h2⟩ := hq
    rw [List.getElem?_map] at h2
    obtain ⟨kv, ev, e2⟩ := Option.map_eq_some_iff.mp h2
    obtain ⟨z, y, f1, f2, f3, f4⟩ := fact i kv ev
    exact ⟨y, f2, by rw [← e2]; exact f4⟩
theorem dk_pair2 (I : Inv X pins σ H s) {ks : List Str} {ds : List D} {x y : V} {u v : Value} {A : Around} (ok : ∀ d ∈ ds, okD 20 d) (hu : A.units + 40 < cLine) (h1 : Rep X.K H [] (.dk (ks.map Sum.inr) ds) x) (h2 : Rep X.K H [] (.dk (ks.map Sum.inr) ds) y) (r1 : RelV x u) (r2 : RelV y v) :
    ∃ a b vs1 vs2, u = .ref a ∧ v = .ref b ∧ StrD s.heap a vs1 ∧ StrD s.heap b vs2 ∧ (a == sysModules) = false ∧ (b == sysModules) = false ∧ vs1.map (·.1) = vs2.map (·.1) ∧ ∀ (i : Nat) p q, vs1[i]? = some p → vs2[i]? = some q → ∀ A' : Around, A'.units ≤ A.units + 8 → SeqAt.EqAt A' s p.2 q.2 true := by
  obtain ⟨a, xs, rfl, ha, _, l1, n1, t1⟩ := h1
  obtain ⟨b, ys, rfl, hb, _, l2, n2, t2⟩ := h2
  have nd : ks.Nodup := by
    have := List.pairwise_map.mp n1
    exact this.imp fun h e => h (congrArg Sum.inr e)
  have l : ks.length = ds.length := by simpa using l1
  obtain ⟨na, vs1, s1, m1, f1⟩ := strD_of2 I ha (by rw [l, t1.length]) nd
  obtain ⟨nb, vs2, s2, m2, f2⟩ := strD_of2 I hb (by rw [l, t2.length]) nd
  refine ⟨a, b, vs1, vs2, r1, r2, s1, s2, na, nb, m1.trans m2.symm, fun i p q hp hq A' hA => ?_⟩
  obtain ⟨x', g1, g2⟩ := f1 i p hp
  obtain ⟨y', g3, g4⟩ := f2 i q hq
  obtain ⟨d, e1, w1⟩ := t1.at g1
  obtain ⟨d', e2, w2⟩ := t2.at g3
  rw [e1] at e2
  cases e2
  have od := ok d (List.mem_of_getElem? e1)
  have := (eq_main I 20 d d x' y' p.2 q.2 A' od od w1 w2 g2 g4 (by omega)).2.2
  rw [eqD_refl 20 d od] at this
  exact this
noncomputable def okQ (d : D) : Prop := okD 39 d ∨ okDk d
theorem eqQ_item (I : Inv X pins σ H s) {d : D} {x y : V} {u v : Value} {A : Around} (ok : okQ d) (h1 : Rep X.K H [] d x) (h2 : Rep X.K H [] d y) (r1 : RelV x u) (r2 : RelV y v) (hu : A.units + 40 < cLine) : SeqAt.EqAt A s u v true := by
  rcases ok with ok | ⟨ks, ns, rfl, ok⟩
  · have := (eq_main I 39 d d x y u v A ok ok h1 h2 r1 r2 (by omega)).2.2
    rw [eqD_refl 39 d ok] at this
    exact this
  · obtain ⟨a, b, vs1, vs2, rfl, rfl, s1, s2, na, nb, m, f⟩ := dk_pair2 I ok hu h1 h2 r1 r2
    exact eq_dicts2 s1 s2 na nb m f (by omega)
end
section
variable {X : Cx} {a b : Expr} {ta tb : TD} {pos : Pos}
theorem eqQ_lists {pins : List (Addr × Obj)} {σ : St} {H : Hp} {s : Shared} (I : Inv X pins σ H s) {ds : List D} {x y : V} {u v : Value} {A : Around} (ok : ∀ e ∈ ds, okQ e) (h1 : Rep X.K H [] (.lst ds) x) (h2 : Rep X.K H [] (.lst ds) y) (r1 : RelV x u) (r2 : RelV y v) (hu : A.units + 64 < cLine) :
    SeqAt.RcAt A s u v true ∧ SeqAt.RcNeAt A s u v false := by
  obtain ⟨p, xs, rfl, hx, _, t1⟩ := h1
  obtain ⟨q, ys, rfl, hy, _, t2⟩ := h2
  cases (show u = Value.ref p from r1)
  cases (show v = Value.ref q from r2)
  obtain ⟨its, v1, i1, _⟩ := I.list (SqL.of hx)
  obtain ⟨its2, v2, i2, _⟩ := I.list (SqL.of hy)
  have l1 := t1.length
  have l2 := t2.length
  have m1 := v1.length
  have m2 := v2.length
  have hsz : its.toArray.size = its2.toArray.size := by rw [List.size_toArray, List.size_toArray]; omega
  have items : ∀ j (g1 : j < its.toArray.size) (g2 : j < its2.toArray.size), SeqAt.EqAt A.in1 s its.toArray[j] its2.toArray[j] ((fun _ => true) j) := by
    intro j g1 g2
    have g1' : j < its.length := by simpa using g1
    have g2' : j < its2.length := by simpa using g2
    obtain ⟨x', ex, rx⟩ := rel_at v1 (i := j) (u := its[j]) (by simp [g1'])
    obtain ⟨y', ey, ry⟩ := rel_at v2 (i := j) (u := its2[j]) (by simp [g2'])
    obtain ⟨d, ed, rd⟩ := t1.at ex
    obtain ⟨d', ed', rd'⟩ := t2.at ey
    rw [ed] at ed'
    cases ed'
    have := eqQ_item (A := A.in1) I (ok d (List.mem_of_getElem? ed)) rd rd' rx ry (in1_units hu)
    simpa using this
  have e : (List.range its.toArray.size).all (fun _ => true) = true := by simp
  have a1 := SeqAt.RcAt.lists i1.isList i2.isList hsz (by omega : A.units < cLine) items
  have a2 := SeqAt.RcNeAt.lists i1.isList i2.isList hsz (by omega : A.units < cLine) items
  rw [e] at a1 a2
  exact ⟨a1, a2⟩
noncomputable def rEqQ (K : PySem.W.Frag) (neg : Bool) : R2 := fun x y H Q => ∃ d, Rep K H [] d x ∧ Rep K H [] d y ∧ (∃ ds, d = .lst ds ∧ ∀ e ∈ ds, okQ e) ∧ Q (.bl (!neg)) H
noncomputable def okLQ (d : D) : Prop := ∃ ds, d = .lst ds ∧ ∀ e ∈ ds, okQ e
noncomputable def sEqQ (neg : Bool) : D → D → (EV → Prop) → Prop := fun x y φ => x = y ∧ okLQ x ∧ φ (dv (.bl (!neg)))
theorem op_neQ (hu : X.A.units + 64 < cLine) : OpR X (compareOp .NotEq) (rEqQ X.K true) := by
  intro pins s σ H x y v u Q I rx ry h
  obtain ⟨d, h1, h2, ⟨ds, rfl, ok⟩, q⟩ := h
  exact (eqQ_lists I ok h1 h2 rx ry hu).2 X.prog X.w X.xe _ ⟨.bl _, H, I, rfl, q⟩
theorem link_eqQ {K : PySem.W.Frag} {neg : Bool} : Link2 K (rEqQ K neg) (sEqQ neg) := by
  intro H O x y vx vy φ Q ho hx hy h k
  obtain ⟨rfl, ok, h⟩ := h
  exact ⟨x, hx.rep0, hy.rep0, ok, k _ _ H (Same.refl H) (by exact rfl) h⟩
theorem et_neQ (hu : X.A.units + 64 < cLine) (ha : ED Γ X a ta) (hb : ED Γ X b tb) : ET Γ X (.Compare a [.NotEq] [b] pos) (tBo (d2 (sEqQ true) ta tb)) := et_cmp (op_neQ hu) link_eqQ ha hb (nomark _)
end
end DL

set_option Elab.async false
set_option linter.all false
set_option maxRecDepth 100000
set_option maxHeartbeats 4000000
namespace DL
open PySem PySem.Spec L2 L3
open PyProof.Rows hiding St
variable {Γ : Hp → Prop}
section
variable {X : Cx} {σ : St} {scope : Scope} {T F : List Str} {js : List Nat} {tg iter elt : Expr} {ifs : List Expr} {pos : Pos} {ti : TID} {g2 : TG} {g : TGD} {tc : TDb} {te : TD}
/-- a comprehension whose parts are known by a property alone -/
noncomputable def dCompP (ti : TID) (n : Nat) (js : List Nat) (g : TGD) (tc : TDb) (te : TD) : TD := fun ρ φ => ti ρ fun ds => ∃ P : Nat → List D → Prop, ds.length ≤ 100000 ∧ P 0 [] ∧
  (∀ (i : Nat) (d : D) (es : List D), ds[i]? = some d → es.length ≤ i → P i es → g d (ρ0 n js ρ) fun ρ' => tc ρ' fun c => (c = true → te ρ' fun r => (match r.k with | .own => False | _ => True) ∧ P (i + 1) (es ++ [r.d])) ∧ (c = false → P (i + 1) es)) ∧ ∀ es, P ds.length es → φ (df (.lst es))
theorem lift_compP {H₀ : Hp} (nd : js.Nodup) (hl : GLink X.K g2 g) : ∀ σ H Q, liftE X.K H₀ (dCompP ti T.length js g tc te) σ H Q → tComp (liftI X.K H₀ ti) T js g2 (liftT X.K H₀ tc) (liftE X.K H₀ te) σ H Q := fun σ H Q q => by
    obtain ⟨ρ, o, R, φ, hφ, k⟩ := q
    refine ⟨ρ, o, R, _, hφ, fun J ds P H1 s1 I hP ⟨PP, hlen, P0, turn, fin⟩ Da hDa => ?_⟩
    have R1 := R.to s1
    have gD : ∀ {H' : Hp}, Same H1 H' → Grow (o.map Prod.snd) (Da :: o.map Prod.snd) H1 H' := fun s => ⟨fun b u h nb => ⟨s b u h, fun z => (List.mem_cons.mp z).elim (fun e => ne_of_none h hDa e) nb⟩, fun b xs h => s b _ h, fun b ob u h => s b _ h⟩
    refine ⟨fun i m ys H' => m = ds.length - i ∧ i ≤ ds.length ∧ Same H1 H' ∧ H' Da = some (.lst ys) ∧ ∃ es, es.length ≤ i ∧ PP i es ∧ Reps X.K H' (Da :: o.map Prod.snd) es ys,
      ⟨_, rfl, Nat.zero_le _, same_new hDa _, upd_same, [], Nat.le_refl _, P0, rfl⟩, ?_⟩
    rintro i m ys H' ⟨rfl, hi', s2, hD', es, le, pe, rp⟩
    refine ⟨hD', ?_⟩
    have hP' := I.keep _ _ _ _ hP (gD s2)
    by_cases hlt : i < ds.length
    · have ed : ds[i]? = some ds[i] := by simp [hlt]
      obtain ⟨j1, j2⟩ := I.go H' _ i _ hP' ed
      refine .inr ⟨j1, fun zs H2 => Same H1 H2 ∧ H2 Da = some (.lst zs) ∧ ∃ es, es.length ≤ i + 1 ∧ PP (i + 1) es ∧ Reps X.K H2 (Da :: o.map Prod.snd) es zs, fun zs H2 ⟨a1, a2, a3⟩ => ⟨_, (by omega : ds.length - (i + 1) < ds.length - i), rfl, hlt, a1, a2, a3⟩, fun x H2 y => ?_⟩
      obtain ⟨s3, rx⟩ := j2 x H2 y
      have s13 := s2.trans s3
      have hD2 := s3 _ _ hD'
      have RB := renv_block (n := T.length) R1 nd hDa s13 hD2 T rfl
      have hO : ((T.length + js.length, Da) :: o.map fun p => (ixO T.length js p.1, p.2)).map Prod.snd = Da :: o.map Prod.snd := by
        rw [List.map_cons, List.map_map]
        rfl
      have rpl : ys.length ≤ 100000 := by
        rw [rp.length]
        omega
      refine hl H₀ H2 (st0 T js σ) (ρ0 T.length js ρ) _ _ x _ _ RB (by rw [hO]; exact rx) (turn i _ es ed le pe) fun ρ' σ' R' q' => ?_
      refine ⟨ρ', _, R', _, q', fun c H3 s4 h4 => ?_⟩
      have hD3 := s4 _ _ hD2
      cases c with
      | false =>
        exact iteF ⟨s13.trans s4, hD3, es, Nat.le_succ_of_le le, h4.2 rfl, Reps.grow (Grow.same (s3.trans s4)) _ _ rp⟩
      | true =>
        refine iteT ⟨ρ', _, R'.to s4, _, h4.1 rfl, fun v r H4 s5 rv h5 => ?_⟩
        have hD4 := s5 _ _ hD3
        have rd := rv.solid (notOwn h5.1)
        rw [hO] at rd
        have ne : ∀ b u, H1 b = some u → b ≠ Da := fun b u h => ne_of_none h hDa
        have gu : Grow (Da :: o.map Prod.snd) (Da :: o.map Prod.snd) H4 (upd H4 Da (.lst (ys ++ [v]))) :=
          ⟨fun b u h n => ⟨by rw [upd_ne (fun z => n (List.mem_cons.mpr (.inl z)))]; exact h, n⟩, fun b xs h => by rw [upd_ne (fun z => by rw [z, hD4] at h; cases h)]; exact h, fun b ob u h => by rw [upd_ne (fun z => by rw [z, hD4] at h; cases h)]; exact h⟩
        refine ⟨hD4, Nat.lt_of_le_of_lt rpl (by decide), ⟨fun b u h => ?_, upd_same, es ++ [r.d], by rw [List.length_append]; exact Nat.succ_le_succ le, h5.2, ?_⟩⟩
        · rw [upd_ne (ne b u h)]
          exact s5 _ _ (s4 _ _ (s13 b u h))
        · exact Reps.grow gu _ _ ((Reps.grow (Grow.same (s3.trans (s4.trans s5))) _ _ rp).append (Reps.one rd))
    · have e : i = ds.length := by omega
      subst e
      refine .inl ⟨I.stop H' _ hP', ?_⟩
      exact k (.ref Da) (df (.lst es)) H' (s1.trans s2) ⟨Da, rfl, s1.free hDa, R.ofree (s1.free hDa), ys, hD', rp⟩ (fin es pe)
theorem ed_compP (hi : EI Γ X tg iter ti) (S : CompScope X.env.scope scope T F) (hjs : Paired (fun x j => X.N[j]? = some x) F js) (nd : js.Nodup)
    (hg : ∀ cl C fp s H, PG (cxComp X (T ++ F) scope cl C fp s H) tg g2) (hk : GKeep T.length g2) (hl : GLink X.K g2 g)
    (ht : ∀ cl C fp s H, EIf Γ (cxComp X (T ++ F) scope cl C fp s H) ifs tc) (he : ∀ cl C fp s H, ED Γ (cxComp X (T ++ F) scope cl C fp s H) elt te)
    (hc : X.calm = true := by rfl) (hs : ∀ x, foldedSetIterable iter X.env x = pure x := by intro _; rfl) : ED Γ X (.ListComp elt [⟨tg, iter, ifs, 0⟩] scope pos) (dCompP ti T.length js g tc te) := fun H₀ =>
  impE (pe_comp (tc := liftT X.K H₀.1 tc) (te := liftE X.K H₀.1 te) hc (hi H₀) S hjs hg hk (fun cl C fp s H => ht cl C fp s H H₀) (fun cl C fp s H => he cl C fp s H H₀) hs) (lift_compP nd hl)
theorem dCompP_at {ti : TID} {n : Nat} {js : List Nat} {g : TGD} {tc : TDb} {te : TD} {ρ : DE} {φ : EV → Prop} (ds : List D) (h : ∀ ψ : List D → Prop, ψ ds → ti ρ ψ) (P : Nat → List D → Prop) (hl : ds.length ≤ 100000) (h0 : P 0 [])
    (ht : ∀ (i : Nat) (d : D) (es : List D), ds[i]? = some d → es.length ≤ i → P i es → g d (ρ0 n js ρ) fun ρ' => tc ρ' fun c => (c = true → te ρ' fun r => (match r.k with | .own => False | _ => True) ∧ P (i + 1) (es ++ [r.d])) ∧ (c = false → P (i + 1) es)) (hφ : ∀ es, P ds.length es → φ (df (.lst es))) : dCompP ti n js g tc te ρ φ := h _ ⟨P, hl, h0, ht, hφ⟩
end
theorem lenN1 {α : Type} {us : List α} (h : us.length = 1) : ∃ a0, us = [a0] := match us, h with
  | [a0], _ => ⟨a0, rfl⟩
theorem lenN2 {α : Type} {us : List α} (h : us.length = 2) : ∃ a0 a1, us = [a0, a1] := match us, h with
  | [a0, a1], _ => ⟨a0, a1, rfl⟩
theorem lenN4 {α : Type} {us : List α} (h : us.length = 4) : ∃ a0 a1 a2 a3, us = [a0, a1, a2, a3] := match us, h with
  | [a0, a1, a2, a3], _ => ⟨a0, a1, a2, a3, rfl⟩
theorem lenN6 {α : Type} {us : List α} (h : us.length = 6) : ∃ a0 a1 a2 a3 a4 a5, us = [a0, a1, a2, a3, a4, a5] := match us, h with
  | [a0, a1, a2, a3, a4, a5], _ => ⟨a0, a1, a2, a3, a4, a5, rfl⟩
end DL

set_option Elab.async false
set_option linter.all false
set_option maxRecDepth 100000
set_option maxHeartbeats 8000000
set_option exponentiation.threshold 5000
namespace K52
open PySem PySem.Spec L2 L3 DL
open PyProof.Rows hiding St
open PySem.Builtin.Int (intBits)
noncomputable def ch (x : Int) : Nat → Int
  | 0 => 1
  | k + 1 => (ch x k * (x - k)).fdiv (k + 1)
theorem ch1 (x : Int) : ch x 1 = x := by
  show ((1 : Int) * (x - ((0 : Nat) : Int))).fdiv (((0 : Nat) : Int) + 1) = x
  rw [show (((0 : Nat) : Int) + 1) = 1 from rfl, Int.fdiv_one]
  omega
theorem ch2 (x : Int) : ch x 2 = (x * (x - 1)).fdiv 2 := by
  show (ch x 1 * (x - ((1 : Nat) : Int))).fdiv (((1 : Nat) : Int) + 1) = _
  rw [ch1]
  rfl
theorem ch3 (x : Int) : ch x 3 = (ch x 2 * (x - 2)).fdiv 3 := rfl
theorem ch2_ex (x : Int) : 2 * ch x 2 = x * (x - 1) := by
  rw [ch2, Int.fdiv_eq_ediv_of_nonneg _ (by decide)]
  have h : x % 2 = 0 ∨ x % 2 = 1 := by omega
  refine Int.mul_ediv_cancel' ?_
  rcases h with h | h
  · exact Int.dvd_mul_of_dvd_left (Int.dvd_of_emod_eq_zero h)
  · exact Int.dvd_mul_of_dvd_right (show (2 : Int) ∣ x - 1 from Int.dvd_of_emod_eq_zero (by omega))
theorem ch3_ways (x : Int) : ((1 : Int) * (x - 0) * (x - 1) * (x - 2)).fdiv 6 = ch x 3 := by
  have e : (1 : Int) * (x - 0) * (x - 1) * (x - 2) = 2 * (ch x 2 * (x - 2)) := by
    have := ch2_ex x
    grind
  rw [e, ch3, show (6 : Int) = 2 * 3 from rfl, Int.fdiv_eq_ediv_of_nonneg _ (by decide), Int.fdiv_eq_ediv_of_nonneg _ (by decide), Int.mul_ediv_mul_of_pos _ _ (by decide)]
theorem bits_le {x y : Int} {m : Nat} (h : x.natAbs ≤ y.natAbs) (hy : intBits y ≤ m) : intBits x ≤ m := PySem.intBits_le_iff.mpr (Nat.lt_of_le_of_lt h (PySem.intBits_le_iff.mp hy))
theorem fd_bits {y m : Int} {k : Nat} (h : 0 < m) (hy : intBits y ≤ k) : intBits (y.fdiv m) ≤ k + 1 := by
  refine bitsOf ?_
  have h1 := PySem.intBits_le_iff.mp hy
  rw [Int.fdiv_eq_ediv_of_nonneg _ (Int.le_of_lt h)]
  have h2 : (y / m).natAbs ≤ y.natAbs + 1 := by
    have a1 := Int.mul_ediv_self_le (x := y) (k := m) (by omega)
    have a2 := Int.lt_mul_ediv_self_add (x := y) h
    generalize y / m = d at *
    by_cases hd : 0 ≤ d
    · have := Int.mul_le_mul_of_nonneg_right (show (1 : Int) ≤ m by omega) hd
      omega
    · have := Int.mul_le_mul_of_nonpos_right (show (1 : Int) ≤ m by omega) (show d + 1 ≤ 0 by omega)
      rw [Int.mul_add, Int.mul_one] at this
      omega
  have h3 : 1 ≤ 2 ^ k := Nat.one_le_two_pow
  rw [Nat.pow_succ]
  omega
theorem sub_bits {x : Int} {m : Nat} {k : Nat} (hk : k ≤ 3) (hx : intBits x ≤ m) (hm : 2 ≤ m) : intBits (x - k) ≤ m + 1 := by
  have h : intBits (k : Int) ≤ m := bitsOf (by
    have : 2 ^ 2 ≤ 2 ^ m := Nat.pow_le_pow_right (by decide) hm
    omega)
  have := PySem.intBits_sub_le hx h
  rw [Nat.max_self] at this
  exact this
theorem ch_bits {x : Int} (hx : intBits x ≤ 200) : ∀ k : Nat, k ≤ 3 → intBits (ch x k) ≤ 205 * k + 1
  | 0, _ => (by decide : intBits 1 ≤ 1)
  | k + 1, h => by
    have a := ch_bits hx k (by omega)
    have b := sub_bits (k := k) (by omega) hx (by decide)
    have c := fd_bits (m := (k : Int) + 1) (by omega) (PySem.intBits_mul_le a b)
    exact Nat.le_trans c (by omega)
noncomputable abbrev Part := List Int × (Int × Int)
noncomputable def wyF (acc : Int) (p : Int × Int) : Int := acc * ch p.1 p.2.toNat
noncomputable def wy (l : List (Int × Int)) (a : Int) : Int := l.foldl wyF a
noncomputable def wb : List (Int × Int) → Nat
  | [] => 0
  | p :: l => 205 * p.2.toNat + 1 + wb l
noncomputable def OkZ (p : Int × Int) : Prop := intBits p.1 ≤ 200 ∧ 0 ≤ p.2 ∧ p.2 ≤ 3
theorem wy_bits : ∀ (l : List (Int × Int)) (a : Int) (m : Nat), intBits a ≤ m → (∀ p ∈ l, OkZ p) → intBits (wy l a) ≤ m + wb l
  | [], a, m, h, _ => by simpa [wy, wb] using h
  | p :: l, a, m, h, hp => by
    obtain ⟨h1, h2, h3⟩ := hp p List.mem_cons_self
    have b1 := ch_bits h1 p.2.toNat (by omega)
    have := wy_bits l (wyF a p) (m + (205 * p.2.toNat + 1)) (PySem.intBits_mul_le h b1) fun q hq => hp q (List.mem_cons_of_mem _ hq)
    unfold wb
    exact Nat.le_trans this (by omega)
theorem wy_scale : ∀ (l : List (Int × Int)) (a : Int), wy l a = a * wy l 1
  | [], a => by simp [wy]
  | p :: l, a => by
    show wy l (wyF a p) = a * wy l (wyF 1 p)
    rw [wy_scale l (wyF a p), wy_scale l (wyF 1 p)]
    unfold wyF
    grind
theorem wb_take : ∀ (l : List (Int × Int)) (i : Nat), wb (l.take i) ≤ wb l
  | [], i => by simp [wb]
  | p :: l, 0 => by simp [wb]
  | p :: l, i + 1 => by
    have := wb_take l i
    simp only [List.take_succ_cons, wb]
    omega
theorem wb_le : ∀ (zs ns : List Int), (∀ n ∈ ns, 0 ≤ n) → (wb (zs.zip ns) : Int) ≤ 205 * ns.sum + ns.length
  | [], ns, h => by
    have : 0 ≤ ns.sum := by
      induction ns with
      | nil => exact Int.le_refl _
      | cons n ns ih => rw [List.sum_cons]; have := ih fun m hm => h m (List.mem_cons_of_mem _ hm); have := h n List.mem_cons_self; omega
    simp only [List.zip_nil_left, wb]
    omega
  | z :: zs, [], h => by simp [wb]
  | z :: zs, n :: ns, h => by
    have ih := wb_le zs ns fun m hm => h m (List.mem_cons_of_mem _ hm)
    have := h n List.mem_cons_self
    simp only [List.zip_cons_cons, wb, List.sum_cons, List.length_cons]
    omega
/-- a part of a sum of many unknowns -/
structure GP (many : Nat) (p : Part) : Prop where
  len : p.1.length = many
  pos : ∀ n ∈ p.1, 0 ≤ n
  sum : p.1.sum ≤ 3
  b0 : 0 < p.2.2
  g1 : Int.gcd p.2.1 p.2.2 = 1
  t : intBits p.2.1 ≤ 135
  b : intBits p.2.2 ≤ 67
theorem mem_le_sum : ∀ {ns : List Int}, (∀ n ∈ ns, 0 ≤ n) → 0 ≤ ns.sum ∧ ∀ n ∈ ns, n ≤ ns.sum
  | [], _ => ⟨Int.le_refl _, (fun _ h => nomatch h)⟩
  | n :: ns, h => by
    obtain ⟨h1, h2⟩ := mem_le_sum fun m hm => h m (List.mem_cons_of_mem _ hm)
    have h0 := h n List.mem_cons_self
    rw [List.sum_cons]
    refine ⟨by omega, fun m hm => ?_⟩
    rcases List.mem_cons.mp hm with rfl | hm
    · omega
    · have := h2 m hm
      omega
theorem GP.okz {many : Nat} {p : Part} (g : GP many p) {zs : List Int} (hz : ∀ z ∈ zs, intBits z ≤ 200) : ∀ q ∈ zs.zip p.1, OkZ q := fun q hq => by
  obtain ⟨m1, m2⟩ := List.of_mem_zip (a := q.1) (b := q.2) hq
  have := (mem_le_sum g.pos).2 _ m2
  have := g.sum
  exact ⟨hz _ m1, g.pos _ m2, by omega⟩
theorem GP.wb {many : Nat} {p : Part} (g : GP many p) (hm : many ≤ 16) (zs : List Int) : wb (zs.zip p.1) ≤ 631 := by
  have := wb_le zs p.1 g.pos
  have := g.sum
  have := g.len
  omega
/-- top and bottom, part by part -/
noncomputable def tbF (zs : List Int) (s : Int × Int) (p : Part) : Int × Int := (s.1 * p.2.2 + wy (zs.zip p.1) p.2.1 * s.2, s.2 * p.2.2)
noncomputable def tb (zs : List Int) (ps : List Part) : Int × Int := ps.foldl (tbF zs) (0, 1)
theorem tb_succ {zs : List Int} {ps : List Part} {i : Nat} {p : Part} (h : ps[i]? = some p) : tb zs (ps.take (i + 1)) = tbF zs (tb zs (ps.take i)) p := by
  unfold tb
  rw [List.take_succ, h]
  simp
theorem tb_ok {many : Nat} (hm : many ≤ 16) {zs : List Int} (hz : ∀ z ∈ zs, intBits z ≤ 200) {ps : List Part} (hp : ∀ p ∈ ps, GP many p) : ∀ i, i ≤ ps.length → 0 < (tb zs (ps.take i)).2 ∧ intBits (tb zs (ps.take i)).1 ≤ 68 * i + 770 ∧ intBits (tb zs (ps.take i)).2 ≤ 67 * i + 1
  | 0, _ => ⟨(by decide : (0 : Int) < 1), (by decide : intBits 0 ≤ 770), (by decide : intBits 1 ≤ 1)⟩
  | i + 1, hi => by
    obtain ⟨h1, h2, h3⟩ := tb_ok hm hz hp i (by omega)
    obtain ⟨p, ep⟩ : ∃ p, ps[i]? = some p := ⟨_, List.getElem?_eq_getElem (by omega)⟩
    have g := hp p (List.mem_of_getElem? ep)
    rw [tb_succ ep]
    generalize tb zs (ps.take i) = s at *
    have b1 := PySem.intBits_mul_le h2 g.b
    have b2 := PySem.intBits_mul_le (Nat.le_trans (wy_bits _ _ _ g.t (g.okz hz)) (Nat.add_le_add_left (g.wb hm zs) _)) h3
    have b3 := PySem.intBits_add_le b1 b2
    refine ⟨Int.mul_pos h1 g.b0, Nat.le_trans b3 ?_, Nat.le_trans (PySem.intBits_mul_le h3 g.b) (by omega)⟩
    have : max (68 * i + 770 + 67) (135 + 631 + (67 * i + 1)) ≤ 68 * i + 837 := Nat.max_le.mpr ⟨by omega, by omega⟩
    omega
/-- one more part -/
theorem step_eq {T B a b w p q : Int} (hB : 0 < B) (hb : 0 < b) (r : RtOk T B p q) : rt (p * (rt (a * w) (b * 1)).2 + (rt (a * w) (b * 1)).1 * q) (q * (rt (a * w) (b * 1)).2) = rt (T * b + a * w * B) (B * b) := by
  have r1 := rt_ok (t := a * w) (b := b * 1) (by omega)
  generalize (rt (a * w) (b * 1)).1 = a' at *
  generalize (rt (a * w) (b * 1)).2 = b' at *
  have hq := r.pos
  have hb' := r1.pos
  have hqb : 0 < q * b' := Int.mul_pos hq hb'
  have hBb : 0 < B * b := Int.mul_pos hB hb
  have r2 := rt_ok (t := p * b' + a' * q) (b := q * b') (by omega)
  have r3 := rt_ok (t := T * b + a * w * B) (b := B * b) (by omega)
  have c := r.cross
  have c1 := r1.cross
  have c2 := r2.cross
  have c3 := r3.cross
  have key : (rt (p * b' + a' * q) (q * b')).1 * (rt (T * b + a * w * B) (B * b)).2 = (rt (T * b + a * w * B) (B * b)).1 * (rt (p * b' + a' * q) (q * b')).2 := by
    generalize (rt (p * b' + a' * q) (q * b')).1 = x1 at *
    generalize (rt (p * b' + a' * q) (q * b')).2 = y1 at *
    generalize (rt (T * b + a * w * B) (B * b)).1 = x3 at *
    generalize (rt (T * b + a * w * B) (B * b)).2 = y3 at *
    have n : (q * b') * (B * b) ≠ 0 := Int.ne_of_gt (Int.mul_pos hqb hBb)
    refine Int.eq_of_mul_eq_mul_right n ?_
    have e1 : (p * b' + a' * q) * (B * b) = (T * b + a * w * B) * (q * b') := by grind
    have s1 : x1 * y3 * (q * b' * (B * b)) = (x1 * (q * b')) * (y3 * (B * b)) := by grind
    have s2 : x3 * y1 * (q * b' * (B * b)) = (x3 * (B * b)) * (y1 * (q * b')) := by grind
    rw [s1, s2, c2, c3]
    have s3 : (p * b' + a' * q) * y1 * (y3 * (B * b)) = ((p * b' + a' * q) * (B * b)) * (y1 * y3) := by grind
    have s4 : (T * b + a * w * B) * y3 * (y1 * (q * b')) = ((T * b + a * w * B) * (q * b')) * (y1 * y3) := by grind
    rw [s3, s4, e1]
  have := low_eq r2.one r3.one r2.pos r3.pos key
  exact Prod.ext this.1 this.2
end K52

set_option Elab.async false
set_option linter.all false
set_option maxRecDepth 100000
set_option maxHeartbeats 8000000
set_option exponentiation.threshold 5000
namespace K52
open PySem PySem.Spec L2 L3 DL
open PyProof.Rows hiding St
open PySem.Builtin.Int (intBits)
local macro_rules | `(tactic| walk_at "dl") => do
  let ids ← (("sNil sSeq sRet sIf sSet sUn sPar d2 d1 dName dC slot setS EV.sto EV.ret aNil aCons dTup dLst dCall dCB solidB vAnd vNot bOr bNot bYes tTru tBo truD sSub sFd sMod sPow sLt sGt sI sI0 sAdd sMul sNeg sEq sNe sIsNot isNon sIx sSl dSl oNone oSome sLen sAbs sIsI sTupC sListC sIntC sApp iSeq iR1 itemsD gN gT2 startD isT_non_int isT_non_bool isT_bl_int isT_bl_bool isT_int_int isT_int_bool isT_int_str isT_str_int isT_str_str isT_tup_tuple isT_tup_int isT_tup_list isT_lst_list isT_lst_tuple isT_dk_dict List.map_cons List.map_nil List.length_cons List.length_nil List.cons_append List.nil_append List.replicate_succ List.replicate_zero Nat.reduceAdd Nat.reduceSub Nat.zero_add Nat.sub_self Bool.and_self Bool.and_true Bool.true_and true_and and_true Bool.not_true Bool.not_false forall_const true_implies false_implies Bool.true_eq_false Bool.false_eq_true reduceCtorEq implies_true okD_int okD_bl okD_str okD_non eqD_int eqD_str eqD_bl pureEV pureD pureDs Bool.not_eq_eq_eq_not beq_eq_false_iff_ne beq_iff_eq ne_eq decide_eq_true_eq decide_eq_false_iff_not Bool.not_eq_true Bool.not_eq_false not_true_eq_false not_false_eq_true atI_0 atI_1 atI_2 and_self Nat.beq_eq Nat.ble_eq Nat.reduceLeDiff eq_self Nat.reduceEqDiff sIxx keyD sIn cp10 Int.reduceLE Int.reduceToNat tenpow_ne atI_map List.length_map Option.map_some Int.zero_add sDput' Int.reduceEq Int.reduceNeg Int.reduceLT Option.map_none sFrz frzS iZ seqD_lst seqD_tup seqD_scr intsD_map sPop sExt sAug dSlT popD_app isT_str_bool isT_str_tuple isT_non_tuple isT_bl_tuple isT_int_tuple isT_tup_bool isT_lst_int isT_lst_bool isT_dk_int isT_dk_bool isT_dk_tuple sDictC sAugM dStep sInT sIxT sDputT sListT sSortedT keyT_ints keyT_tk seqD sNext sFeed gL4 sEqQ".splitOn " ").toArray).mapM fun s => `(Lean.Parser.Tactic.simpLemma| $(Lean.mkIdent s.toName):ident)
  `(tactic| simp only [$ids,*])
seal SDs SD ED EA ET EW
noncomputable def top (i : Nat) : Stmt := PySem.Challenge.pw_toll_k52_bound_told_ahead.main.body.getD i (.Pass ⟨0, 0, 0, 0⟩)
structure Tops (mg : Str → Option Value) : Prop where
  ValueError : mg "ValueError" = none
  abs : mg "abs" = none
  bool : mg "bool" = none
  dict : mg "dict" = none
  int : mg "int" = none
  isinstance : mg "isinstance" = none
  len : mg "len" = none
  list : mg "list" = none
  range : mg "range" = none
  sorted : mg "sorted" = none
  tuple : mg "tuple" = none
  zip : mg "zip" = none
section
variable {P : Program} {w : World} {K : PySem.W.Frag} {mg : Str → Option Value} {base : Heap} {f : Addr} {fd : FuncData}

noncomputable def rD (p : Int × Int) : D := .tup [.int p.1, .int p.2]
noncomputable def partD (p : Part) : D := .tup [.tup (nsD p.1), rD p.2]
noncomputable def tChoices : FT := w2 fun m t φ => ∃ k : Nat, t = k ∧ k ≤ 3 ∧ intBits m ≤ 200 ∧ φ (dv (.int (ch m k)))
noncomputable def Zs (d : D) (zs : List Int) : Prop := d = .lst (nsD zs) ∨ d = .tup (nsD zs)
noncomputable def tValueAt : FT := g2 fun l s φ => ∃ (ps : List Part) (zs : List Int) (many : Nat), l = .tup (ps.map partD) ∧ Zs s zs ∧ zs.length = many ∧ many ≤ 16 ∧ ps.length ≤ 30 ∧ (∀ p ∈ ps, GP many p) ∧ (∀ z ∈ zs, intBits z ≤ 200) ∧ φ (dv (rD (rt (tb zs ps).1 (tb zs ps).2)))
theorem zip_get {zs ns : List Int} {i : Nat} {d : D} (h : (zipD (nsD zs) (nsD ns))[i]? = some d) : ∃ z n, d = .tup [.int z, .int n] ∧ (zs.zip ns)[i]? = some (z, n) := by
  unfold zipD nsD at h
  rw [List.getElem?_zipWith, List.getElem?_map, List.getElem?_map] at h
  cases e1 : zs[i]? with
  | none => rw [e1] at h; cases h
  | some z =>
    cases e2 : ns[i]? with
    | none => rw [e1, e2] at h; cases h
    | some n =>
      rw [e1, e2] at h
      exact ⟨z, n, (Option.some.inj h).symm, List.getElem?_zip_eq_some.mpr ⟨e1, e2⟩⟩
theorem zip_len {zs ns : List Int} (h : zs.length = ns.length) : (zipD (nsD zs) (nsD ns)).length = (zs.zip ns).length := by
  unfold zipD nsD
  simp
theorem wy_succ {l : List (Int × Int)} {i : Nat} {p : Int × Int} {a : Int} (h : l[i]? = some p) : wy (l.take (i + 1)) a = wy (l.take i) a * ch p.1 p.2.toNat := by
  unfold wy
  rw [List.take_succ, h]
  simp [wyF]
theorem Zs.sq {d : D} {zs : List Int} (h : Zs d zs) : seqD d = some (nsD zs) := by
  rcases h with rfl | rfl <;> rfl
theorem atI_nat {α : Type} {l : List α} {i : Nat} (h : i < l.length) : atI l (i : Int) = l[i]? := by
  unfold atI ixN
  rw [if_pos (by omega), if_pos (by omega)]
  simp
theorem pure_ints : ∀ ns : List Int, pureDs (nsD ns)
  | [] => trivial
  | n :: ns => ⟨trivial, pure_ints ns⟩
theorem pure_parts (ps : List Part) : pureDs (ps.map partD) := pureDs_iff.mpr fun d hd => by
  obtain ⟨p, _, rfl⟩ := List.mem_map.mp hd
  exact ⟨pure_ints p.1, by simp [rD, pureD, pureDs], trivial⟩
noncomputable def szD : D → Nat
  | .tup [l, _, r] => 1 + szD l + szD r
  | _ => 1
noncomputable def sumZ (ds : List D) : Nat := (ds.map szD).sum
theorem sumZ_app (ds es : List D) : sumZ (ds ++ es) = sumZ ds + sumZ es := by
  unfold sumZ
  simp
/-- a tree of n nodes -/
inductive IsTr : D → Nat → Prop
  | leaf : IsTr .non 0
  | node {l r : D} {a b : Nat} {m : Int} : IsTr l a → IsTr r b → IsTr (.tup [l, .int m, r]) (a + b + 1)
theorem IsTr.sz {d : D} {n : Nat} (h : IsTr d n) : szD d = 2 * n + 1 := by
  induction h with
  | leaf => rfl
  | node _ _ h1 h2 => simp [szD, h1, h2]; omega
theorem IsTr.pure {d : D} {n : Nat} (h : IsTr d n) : pureD d := by
  induction h with
  | leaf => trivial
  | node _ _ h1 h2 => exact ⟨h1, trivial, h2, trivial⟩
theorem IsTr.inv {d : D} {n : Nat} (h : IsTr d n) : (d = .non ∧ n = 0) ∨ ∃ l m r a b, d = .tup [l, .int m, r] ∧ n = a + b + 1 ∧ IsTr l a ∧ IsTr r b := by
  cases h with
  | leaf => exact .inl ⟨rfl, rfl⟩
  | node h1 h2 => exact .inr ⟨_, _, _, _, _, rfl, rfl, h1, h2⟩
/-- several trees, n nodes in all -/
noncomputable def Trs (ds : List D) (n : Nat) : Prop := ∃ ps : List (D × Nat), ds = ps.map Prod.fst ∧ (∀ p ∈ ps, IsTr p.1 p.2) ∧ (ps.map Prod.snd).sum = n
theorem Trs.nil : Trs [] 0 := ⟨[], rfl, (fun _ h => nomatch h), rfl⟩
theorem Trs.snoc {ds : List D} {n : Nat} {d : D} {k : Nat} (h : Trs ds n) (h1 : IsTr d k) : Trs (ds ++ [d]) (n + k) := by
  obtain ⟨ps, rfl, a, rfl⟩ := h
  refine ⟨ps ++ [(d, k)], by simp, fun p hp => ?_, by simp⟩
  rcases List.mem_append.mp hp with hp | hp
  · exact a p hp
  · simp at hp
    subst hp
    exact h1
theorem Trs.pop {ds : List D} {n : Nat} (h : Trs ds n) (hn : ds ≠ []) : ∃ ds' d m k, ds = ds' ++ [d] ∧ n = m + k ∧ Trs ds' m ∧ IsTr d k := by
  obtain ⟨ps, rfl, a, rfl⟩ := h
  rcases List.eq_nil_or_concat ps with rfl | ⟨qs, q, rfl⟩
  · exact absurd rfl hn
  · refine ⟨qs.map Prod.fst, q.1, (qs.map Prod.snd).sum, q.2, by simp, by simp, ⟨qs, rfl, fun p hp => a p (by simp [hp]), rfl⟩, a q (by simp)⟩
noncomputable def tNodes : FT := g1 fun d φ => ∃ n : Nat, IsTr d n ∧ n ≤ 1000 ∧ φ (dv (.int n))
theorem Trs.sz {ds : List D} {n : Nat} (h : Trs ds n) : sumZ ds = 2 * n + ds.length := by
  obtain ⟨ps, rfl, a, rfl⟩ := h
  induction ps with
  | nil => rfl
  | cons p ps ih =>
    have e := (a p (by simp)).sz
    have := ih fun q hq => a q (by simp [hq])
    unfold sumZ at *
    simp at *
    omega
noncomputable def tSizeOf : FT := g2 fun s d φ => match s with
  | .str z => (z = "num" ∧ φ (dv (.int 0))) ∨ (z = "list" ∧ ∃ l, d = .tup l ∧ φ (dv (.int l.length))) ∨ (z = "tree" ∧ ∃ n : Nat, IsTr d n ∧ n ≤ 1000 ∧ φ (dv (.int n)))
  | _ => False

noncomputable def prD (p : Str × Str) : D := .tup [.str p.1, .str p.2]
noncomputable def fnD (f : Str) (ps : List (Str × Str)) (r : List D) : D := .tup (.str f :: .tup (ps.map prD) :: r)
noncomputable def Look (p : D) (z : Str) (ps : List (Str × Str)) : Prop := ∃ f fp fr g gp gr, p = .tup [fnD f fp fr, fnD g gp gr] ∧ pureD p ∧ f ≠ g ∧ ((z = f ∧ ps = fp) ∨ (z = g ∧ ps = gp))
noncomputable def tFuncOf : FT := g2 fun p n φ => ∃ f fp fr g gp gr z, p = .tup [fnD f fp fr, fnD g gp gr] ∧ pureD p ∧ n = .str z ∧ ((z = f ∧ φ (dv (fnD f fp fr))) ∨ (z ≠ f ∧ z = g ∧ φ (dv (fnD g gp gr))))
noncomputable def ndD : D → Nat
  | .tup [l, _, r] => ndD l + ndD r + 1
  | _ => 0
theorem IsTr.nd {d : D} {n : Nat} (h : IsTr d n) : ndD d = n := by
  induction h with
  | leaf => rfl
  | node _ _ h1 h2 => simp [ndD, h1, h2]
noncomputable def sizeF (s : Str) (a : D) : Int := if s = "num" then 0 else if s = "list" then (match a with | .tup l => l.length | _ => 0) else ndD a
noncomputable def SzOk (s : Str) (a : D) : Prop := s = "num" ∨ (s = "list" ∧ ∃ l, a = .tup l ∧ l.length ≤ 1000) ∨ (s = "tree" ∧ ∃ k, IsTr a k ∧ k ≤ 1000)
noncomputable def sizesF (ps : List (Str × Str)) (as : List D) : List Int := List.zipWith (fun p a => sizeF p.2 a) ps as
noncomputable def rdI : D → Int
  | .int i => i
  | _ => 0
noncomputable def partI : D → Part
  | .tup [.tup ks, .tup [a, b]] => (ks.map rdI, (rdI a, rdI b))
  | _ => ([], (0, 0))
theorem part_back (p : Part) : partI (partD p) = p := by
  obtain ⟨ks, a, b⟩ := p
  show (((nsD ks).map rdI), (a, b)) = _
  unfold nsD
  rw [List.map_map, show (rdI ∘ D.int) = id from rfl, List.map_id]
noncomputable def worthD (zs : List Int) : D → D
  | .tup l => rD (rt (tb zs (l.map partI)).1 (tb zs (l.map partI)).2)
  | _ => .non
theorem worth_at (zs : List Int) (ps : List Part) : worthD zs (.tup (ps.map partD)) = rD (rt (tb zs ps).1 (tb zs ps).2) := by
  show rD (rt (tb zs ((ps.map partD).map partI)).1 (tb zs ((ps.map partD).map partI)).2) = _
  rw [List.map_map, show (partI ∘ partD) = id from funext part_back, List.map_id]
noncomputable def OkS (many : Nat) (ps : List Part) : Prop := ps.length ≤ 30 ∧ ∀ p ∈ ps, GP many p
noncomputable def tBound : FT := fun ds φ => ∃ (p : D) (ks : List Key) (vs : List D) (z : Str) (as : List D), ds = [p, .dk ks vs, .str z, .lst as] ∧ ∃ (ps : List (Str × Str)) (u v : List Part), Look p z ps ∧ ps.length ≤ 16 ∧ as.length = ps.length ∧ (∀ (i : Nat) q a, ps[i]? = some q → as[i]? = some a → SzOk q.2 a) ∧
    lookA ks vs (Sum.inr z) = some (.tup [.tup (u.map partD), .tup (v.map partD)]) ∧ OkS ps.length u ∧ OkS ps.length v ∧ φ (dv (.tup [worthD (sizesF ps as) (.tup (u.map partD)), worthD (sizesF ps as) (.tup (v.map partD))]))
theorem pure_rd (p : Int × Int) : pureD (rD p) := ⟨trivial, trivial, trivial⟩
theorem pure_worth (zs : List Int) (d : D) : pureD (worthD zs d) := by
  cases d with
  | tup l => exact pure_rd _
  | _ => trivial
theorem size_bits (s : Str) (a : D) (h : SzOk s a) : intBits (sizeF s a) ≤ 200 := by
  unfold sizeF
  rcases h with rfl | ⟨rfl, l, rfl, hl⟩ | ⟨rfl, k, hk, hb⟩
  · rw [if_pos rfl]; decide
  · rw [if_neg (by decide), if_pos rfl]
    exact bitsOf (by dsimp only; omega)
  · rw [if_neg (by decide), if_neg (by decide), hk.nd]
    exact bitsOf (by omega)
theorem fd_is_whole (T : Tops mg) (F : Fun K "is_whole" "is_whole" (top 5) f fd) (m : mg "is_whole" = some (.ref f)) : FD P w K mg base 1 "is_whole" ["thing"] tWhole := by
  have S : FnScope ["thing"] ["thing"] (defScope (top 5)) := ⟨rfl, rfl, rfl, by decide +kernel, rfl, by decide +kernel, by decide +kernel⟩
  refine fd_of F S (F.binds fun _ _ _ _ _ _ us hl => (by obtain ⟨_, rfl⟩ := lenN1 hl; rfl)) m fun cdv A outer s H E ds φ hr hl hT => ?_
  have hu := hr.units
  refine ⟨_, (ss_one (sd_ret (ed_and (ed_isinst T.isinstance (ea_cons (ed_name 0) (ea_cons (ed_ty T.int boot_int') ea_nil))) (ed_one (ed_not (ed_isinst T.isinstance (ea_cons (ed_name 0) (ea_cons (ed_ty T.bool boot_bool') ea_nil)))))))), ?_⟩
  obtain ⟨a, rfl, h⟩ := w1_of hT
  walk_at "dl"
  exact h
theorem fd_common (T : Tops mg) (F : Fun K "common" "common" (top 9) f fd) (m : mg "common" = some (.ref f)) : FD P w K mg base 1 "common" ["one", "other"] tCommon := by
  have S : FnScope ["one", "other", "rest"] ["one", "other"] (defScope (top 9)) := ⟨rfl, rfl, rfl, by decide +kernel, rfl, by decide +kernel, by decide +kernel⟩
  refine fd_of F S (F.binds fun _ _ _ _ _ _ us hl => (by obtain ⟨_, _, rfl⟩ := lenN2 hl; rfl)) m fun cdv A outer s H E ds φ hr hl hT => ?_
  have hu := hr.units
  refine ⟨_, (ss_cons (sd_while (et_ne hu (ed_name 1) ed_int) (ss_cons (sd_set 2 S.nd (ed_mod (ed_name 0) (ed_name 1)))
        (ss_cons (sd_set 0 S.nd (ed_name 1))
        (ss_one (sd_set 1 S.nd (ed_name 2))))))
      (ss_one (sd_ret (ed_abs T.abs (ea_cons (ed_name 0) ea_nil))))), ?_⟩
  obtain ⟨a, b, rfl, h⟩ := w2_of hT
  refine ⟨fun ρ => ∃ x y r, ρ = [some (dv (.int x)), some (dv (.int y)), r] ∧ Int.gcd x y = Int.gcd a b, fun ρ => match ρ with
    | [_, some ⟨_, .int y⟩, _] => y.natAbs
    | _ => 0, ⟨a, b, none, rfl, rfl⟩, ?_⟩
  rintro ρ ⟨x, y, r, rfl, e⟩
  walk_at "dl"
  refine ⟨fun hy => ⟨hy, ⟨_, _, _, rfl, ?_⟩, fmod_lt x y hy⟩, fun hy => ?_⟩
  · rw [gcd_fmod]; exact e
  · subst hy
    rw [abs_eq]
    rw [Int.gcd_zero_right] at e
    rw [e]
    exact h
theorem fd_ratio (T : Tops mg) (F_is_whole : FD P w K mg base 1 "is_whole" ["thing"] tWhole) (F_common : FD P w K mg base 1 "common" ["one", "other"] tCommon) (F : Fun K "ratio" "ratio" (top 8) f fd) (m : mg "ratio" = some (.ref f)) : FD P w K mg base 2 "ratio" ["top", "bottom"] tRatio := by
  have S : FnScope ["top", "bottom", "divisor"] ["top", "bottom"] (defScope (top 8)) := ⟨rfl, rfl, rfl, by decide +kernel, rfl, by decide +kernel, by decide +kernel⟩
  refine fd_of F S (F.binds fun _ _ _ _ _ _ us hl => (by obtain ⟨_, _, rfl⟩ := lenN2 hl; rfl)) m fun cdv A outer s H E ds φ hr hl hT => ?_
  have hu := hr.units
  refine ⟨_, (ss_cons (sd_if (EW.et (ew_or (et_not (et_val (ed_call F_is_whole (hr.mono (by decide)) (ea_cons (ed_name 0) ea_nil)))) (ew_or1 (et_not (et_val (ed_call F_is_whole (hr.mono (by decide)) (ea_cons (ed_name 1) ea_nil))))))) (ss_one sd_never) ss_nil)
      (ss_cons (sd_if (et_eq hu (ed_name 1) ed_int) (ss_one sd_never) ss_nil)
      (ss_cons (sd_set 2 S.nd (ed_call F_common (hr.mono (by decide)) (ea_cons (ed_name 0) (ea_cons (ed_name 1) ea_nil))))
      (ss_cons (sd_if (et_lt (ed_name 1) ed_int) (ss_one (sd_set 2 S.nd (ed_neg (ed_name 2)))) ss_nil)
      (ss_one (sd_ret (ed_tup (ea_cons (ed_fd (ed_name 0) (ed_name 2)) (ea_cons (ed_fd (ed_name 1) (ed_name 2)) ea_nil))))))))), ?_⟩
  obtain ⟨a, b, rfl, hb, hs, h⟩ := w2_of hT
  walk_at "dl"
  simp only [tWhole, tCommon, w1, w2]
  walk_at "dl"
  have hg : intBits (Int.gcd a b : Int) ≤ 8000 := PySem.intBits_le_of_natAbs (by have := Int.gcd_dvd_natAbs_right a b; have := Nat.le_of_dvd (by omega) this; omega) hs
  have hp := gcd_pos (t := a) hb
  refine ⟨fun z => absurd z hb, fun _ => ⟨fun hn => ?_, fun hn => ?_⟩⟩
  · have e : sg a b = -(Int.gcd a b : Int) := by unfold sg; rw [if_pos hn]
    refine ⟨fdOk (m := 8000) (by omega) (PySem.intBits_neg_le hg), fdOk (m := 8000) (by omega) (PySem.intBits_neg_le hg), ?_⟩
    have h' := h
    unfold rt at h'
    rw [e] at h'
    exact h'
  · have e : sg a b = (Int.gcd a b : Int) := by unfold sg; rw [if_neg hn]
    refine ⟨fdOk (m := 8000) (by omega) hg, fdOk (m := 8000) (by omega) hg, ?_⟩
    have h' := h
    unfold rt at h'
    rw [e] at h'
    exact h'
theorem fd_plus (T : Tops mg) (F_ratio : FD P w K mg base 2 "ratio" ["top", "bottom"] tRatio) (F : Fun K "plus" "plus" (top 10) f fd) (m : mg "plus" = some (.ref f)) : FD P w K mg base 3 "plus" ["one", "other"] tPlus := by
  have S : FnScope ["one", "other"] ["one", "other"] (defScope (top 10)) := ⟨rfl, rfl, rfl, by decide +kernel, rfl, by decide +kernel, by decide +kernel⟩
  refine fd_of F S (F.binds fun _ _ _ _ _ _ us hl => (by obtain ⟨_, _, rfl⟩ := lenN2 hl; rfl)) m fun cdv A outer s H E ds φ hr hl hT => ?_
  have hu := hr.units
  refine ⟨_, (ss_one (sd_ret (ed_call F_ratio (hr.mono (by decide)) (ea_cons (ed_add (ed_mul (ed_ixx hu (ed_name 0) ed_int) (ed_ixx hu (ed_name 1) ed_int)) (ed_mul (ed_ixx hu (ed_name 1) ed_int) (ed_ixx hu (ed_name 0) ed_int))) (ea_cons (ed_mul (ed_ixx hu (ed_name 0) ed_int) (ed_ixx hu (ed_name 1) ed_int)) ea_nil))))), ?_⟩
  obtain ⟨a, b, c, d, rfl, hS, hb, h⟩ := r2_of hT
  walk_at "dl"
  simp only [tRatio, w2]
  walk_at "dl"
  exact ⟨mulOk hS.a hS.d, mulOk hS.c hS.b, mulOk hS.b hS.d, hb, Nat.le_trans (bitsMul hS.b hS.d) (by decide), h⟩
theorem fd_times (T : Tops mg) (F_ratio : FD P w K mg base 2 "ratio" ["top", "bottom"] tRatio) (F : Fun K "times" "times" (top 11) f fd) (m : mg "times" = some (.ref f)) : FD P w K mg base 3 "times" ["one", "other"] tTimes := by
  have S : FnScope ["one", "other"] ["one", "other"] (defScope (top 11)) := ⟨rfl, rfl, rfl, by decide +kernel, rfl, by decide +kernel, by decide +kernel⟩
  refine fd_of F S (F.binds fun _ _ _ _ _ _ us hl => (by obtain ⟨_, _, rfl⟩ := lenN2 hl; rfl)) m fun cdv A outer s H E ds φ hr hl hT => ?_
  have hu := hr.units
  refine ⟨_, (ss_one (sd_ret (ed_call F_ratio (hr.mono (by decide)) (ea_cons (ed_mul (ed_ixx hu (ed_name 0) ed_int) (ed_ixx hu (ed_name 1) ed_int)) (ea_cons (ed_mul (ed_ixx hu (ed_name 0) ed_int) (ed_ixx hu (ed_name 1) ed_int)) ea_nil))))), ?_⟩
  obtain ⟨a, b, c, d, rfl, hS, hb, h⟩ := r2_of hT
  walk_at "dl"
  simp only [tRatio, w2]
  walk_at "dl"
  exact ⟨mulOk hS.a hS.c, mulOk hS.b hS.d, hb, Nat.le_trans (bitsMul hS.b hS.d) (by decide), h⟩
theorem fd_choices (T : Tops mg) (F : Fun K "choices" "choices" (top 13) f fd) (m : mg "choices" = some (.ref f)) : FD P w K mg base 1 "choices" ["many", "taken"] tChoices := by
  have S : FnScope ["many", "taken", "ways", "step"] ["many", "taken"] (defScope (top 13)) := ⟨rfl, rfl, rfl, by decide +kernel, rfl, by decide +kernel, by decide +kernel⟩
  refine fd_of F S (F.binds fun _ _ _ _ _ _ us hl => (by obtain ⟨_, _, rfl⟩ := lenN2 hl; rfl)) m fun cdv A outer s H E ds φ hr hl hT => ?_
  have hu := hr.units
  refine ⟨_, (ss_cons (sd_set 2 S.nd ed_int)
      (ss_cons (sd_for (ei_range1 T.range (ea_cons (ed_name 1) ea_nil)) (pg_name (i := 3) S.nd rfl (by first | exact Or.inl rfl | exact Or.inr rfl)) (gl_name 3) (ss_one (sd_set 2 S.nd (ed_fd (ed_mul (ed_name 2) (ed_sub (ed_name 0) (ed_name 3))) (ed_add (ed_name 3) ed_int)))))
      (ss_one (sd_ret (ed_name 2))))), ?_⟩
  obtain ⟨m, t, rfl, k, rfl, hk, hm, h⟩ := w2_of hT
  walk_at "dl"
  refine sFor_at (rngD 0 k) (fun ψ hψ => ?_) (fun i ρ => ∃ a3, ρ = [some (dv (.int m)), some (dv (.int k)), some (dv (.int (ch m i))), a3]) ⟨none, rfl⟩ ?_ ?_
  · walk_at "dl"
    exact ⟨by omega, by omega, hψ⟩
  · rintro i d ρ hd ⟨a3, rfl⟩
    obtain ⟨hi, rfl⟩ := rng_get hd
    have b1 := ch_bits hm i (by omega)
    have b2 := sub_bits (k := i) (by omega) hm (by decide)
    walk_at "dl"
    exact ⟨mulOk (Nat.le_trans b1 (by omega)) (Nat.le_trans b2 (by decide)), fdOk (m := 64) (by omega) (bitsOf (by omega)), _, rfl⟩
  · rintro ρ ⟨a3, rfl⟩
    rw [rng_len]
    walk_at "dl"
    exact h
theorem fd_value_at (T : Tops mg) (F_choices : FD P w K mg base 1 "choices" ["many", "taken"] tChoices) (F_plus : FD P w K mg base 3 "plus" ["one", "other"] tPlus) (F_times : FD P w K mg base 3 "times" ["one", "other"] tTimes) (F : Fun K "value_at" "value_at" (top 14) f fd) (m : mg "value_at" = some (.ref f)) : FD P w K mg base 4 "value_at" ["one", "sizes"] tValueAt := by
  have S : FnScope ["one", "sizes", "value", "powers", "share", "ways", "size", "power"] ["one", "sizes"] (defScope (top 14)) := ⟨rfl, rfl, rfl, by decide +kernel, rfl, by decide +kernel, by decide +kernel⟩
  refine fd_of F S (F.binds fun _ _ _ _ _ _ us hl => (by obtain ⟨_, _, rfl⟩ := lenN2 hl; rfl)) m fun cdv A outer s H E ds φ hr hl hT => ?_
  have hu := hr.units
  refine ⟨_, (ss_cons (sd_set 2 S.nd (ed_tup (ea_cons ed_int (ea_cons ed_int ea_nil))))
      (ss_cons (sd_for (ei_seq (ed_name 0)) (pg_tupK (K0 := K) (n := 2) (by rfl) (by rfl) (pgs_cons (pg_name (i := 3) S.nd rfl (by first | exact Or.inl rfl | exact Or.inr rfl)) (pgs_cons (pg_name (i := 4) S.nd rfl (by first | exact Or.inl rfl | exact Or.inr rfl)) pgs_nil))) (gl_tup2 3 4) (ss_cons (sd_cut (sd_set 5 S.nd ed_int))
        (ss_cons (sd_cut (sd_for (ei_zip T.zip (ea_cons (ed_name 1) (ea_cons (ed_name 3) ea_nil))) (pg_tupK (K0 := K) (n := 2) (by rfl) (by rfl) (pgs_cons (pg_name (i := 6) S.nd rfl (by first | exact Or.inl rfl | exact Or.inr rfl)) (pgs_cons (pg_name (i := 7) S.nd rfl (by first | exact Or.inl rfl | exact Or.inr rfl)) pgs_nil))) (gl_tup2 6 7) (ss_one (sd_augM 5 S.nd (ed_call F_choices (hr.mono (by decide)) (ea_cons (ed_name 6) (ea_cons (ed_name 7) ea_nil)))))))
        (ss_one (sd_set 2 S.nd (ed_call F_plus (hr.mono (by decide)) (ea_cons (ed_name 2) (ea_cons (ed_call F_times (hr.mono (by decide)) (ea_cons (ed_name 4) (ea_cons (ed_tup (ea_cons (ed_name 5) (ea_cons ed_int ea_nil))) ea_nil))) ea_nil))))))))
      (ss_one (sd_ret (ed_name 2))))), ?_⟩
  obtain ⟨l, sd, rfl, ps, zs, many, rfl, hzs, hzl, hm, hpl, hp, hz, h⟩ := f2_of hT
  have hsq := hzs.sq
  walk_at "dl"
  refine sFor_at (ps.map partD) (fun ψ hψ => ?_) (fun i ρ => ∃ a3 a4 a5 a6 a7, ρ = [some (dv (.tup (ps.map partD))), some (dv sd), some (dv (rD (rt (tb zs (ps.take i)).1 (tb zs (ps.take i)).2))), a3, a4, a5, a6, a7]) ⟨none, none, none, none, none, by rw [show rt (tb zs (ps.take 0)).1 (tb zs (ps.take 0)).2 = (0, 1) from (by decide : rt 0 1 = (0, 1))]; rfl⟩ ?_ ?_
  · walk_at "dl"
    exact hψ
  · rintro i d ρ hd ⟨a3, a4, a5, a6, a7, rfl⟩
    rw [List.getElem?_map] at hd
    obtain ⟨p, ep, rfl⟩ := Option.map_eq_some_iff.mp hd
    have hi := (List.getElem?_eq_some_iff.mp ep).1
    have g := hp p (List.mem_of_getElem? ep)
    obtain ⟨t1, t2, t3⟩ := tb_ok hm hz hp i (by omega)
    unfold gT2 partD
    dsimp only
    refine (show sSeq _ _ _ _ from ?_)
    refine cut_seq (fun ρ => ρ = [some (dv (.tup (ps.map partD))), some (dv sd), some (dv (rD (rt (tb zs (ps.take i)).1 (tb zs (ps.take i)).2))), some (dv (.tup (nsD p.1))), some (dv (rD p.2)), some (dv (.int 1)), a6, a7]) ?_ ?_
    · walk_at "dl"
      rfl
    rintro _ rfl
    refine cut_seq (fun ρ => ∃ a6 a7, ρ = [some (dv (.tup (ps.map partD))), some (dv sd), some (dv (rD (rt (tb zs (ps.take i)).1 (tb zs (ps.take i)).2))), some (dv (.tup (nsD p.1))), some (dv (rD p.2)), some (dv (.int (wy (zs.zip p.1) 1))), a6, a7]) ?_ ?_
    · refine sFor_at (zipD (nsD zs) (nsD p.1)) (fun ψ hψ => ?_) (fun j ρ => ∃ a6 a7, ρ = [some (dv (.tup (ps.map partD))), some (dv sd), some (dv (rD (rt (tb zs (ps.take i)).1 (tb zs (ps.take i)).2))), some (dv (.tup (nsD p.1))), some (dv (rD p.2)), some (dv (.int (wy ((zs.zip p.1).take j) 1))), a6, a7]) ⟨_, _, rfl⟩ ?_ ?_
      · walk_at "dl"
        rcases hzs with rfl | rfl <;> exact hψ
      · rintro j d ρ hd ⟨a6, a7, rfl⟩
        obtain ⟨z, n, rfl, ezn⟩ := zip_get hd
        obtain ⟨q1, q2, q3⟩ := g.okz hz _ (List.mem_of_getElem? ezn)
        have b1 := wy_bits ((zs.zip p.1).take j) 1 1 (by decide) fun q hq => g.okz hz q (List.mem_of_mem_take hq)
        have b2 := wb_take (zs.zip p.1) j
        have b3 := g.wb hm zs
        have b4 := ch_bits q1 n.toNat (by dsimp only at q2 q3; omega)
        rw [wy_succ ezn]
        dsimp only at q1 q2 q3 b4 ⊢
        walk_at "dl"
        simp only [tChoices, w2]
        exact ⟨n.toNat, by omega, by omega, q1, mulOk (Nat.le_trans b1 (by omega)) (Nat.le_trans b4 (by omega)), _, _, rfl⟩
      · rintro ρ ⟨a6, a7, rfl⟩
        rw [zip_len (by rw [hzl, g.len]), List.take_length]
        exact ⟨a6, a7, rfl⟩
    rintro _ ⟨a6, a7, rfl⟩
    have wb1 := Nat.le_trans (wy_bits (zs.zip p.1) 1 1 (by decide) (g.okz hz)) (Nat.add_le_add_left (g.wb hm zs) 1)
    have r := rt_ok (t := (tb zs (ps.take i)).1) (b := (tb zs (ps.take i)).2) (by omega)
    rw [tb_succ ep]
    unfold tbF
    rw [wy_scale (zs.zip p.1) p.2.1]
    have se := step_eq (a := p.2.1) (w := wy (zs.zip p.1) 1) t1 g.b0 r
    generalize wy (zs.zip p.1) 1 = w at *
    generalize tb zs (ps.take i) = s at *
    unfold rD
    walk_at "dl"
    simp only [tTimes, tPlus, r2]
    have r1 := rt_ok (t := p.2.1 * w) (b := p.2.2 * 1) (by have := g.b0; omega)
    have c1 := PySem.intBits_mul_le g.t wb1
    have c2 : intBits (p.2.2 * 1) ≤ 67 := by rw [Int.mul_one]; exact g.b
    rw [se]
    exact ⟨⟨Nat.le_trans g.t (by decide), Nat.le_trans g.b (by decide), Nat.le_trans wb1 (by decide), by decide⟩, by have := g.b0; omega, ⟨bits_le r.lp (Nat.le_trans t2 (by omega)), bits_le r.lq (Nat.le_trans t3 (by omega)), bits_le r1.lp (Nat.le_trans c1 (by decide)), bits_le r1.lq (Nat.le_trans c2 (by decide))⟩, Int.ne_of_gt (Int.mul_pos r.pos r1.pos), trivial, _, _, _, _, _, rfl⟩
  · rintro ρ ⟨a3, a4, a5, a6, a7, rfl⟩
    rw [List.length_map, List.take_length]
    unfold rD
    walk_at "dl"
    exact h
theorem fd_nodes_of (T : Tops mg) (F : Fun K "nodes_of" "nodes_of" (top 17) f fd) (m : mg "nodes_of" = some (.ref f)) : FD P w K mg base 1 "nodes_of" ["tree"] tNodes := by
  have S : FnScope ["tree", "many", "waiting", "part"] ["tree"] (defScope (top 17)) := ⟨rfl, rfl, rfl, by decide +kernel, rfl, by decide +kernel, by decide +kernel⟩
  refine fd_of F S (F.binds fun _ _ _ _ _ _ us hl => (by obtain ⟨_, rfl⟩ := lenN1 hl; rfl)) m fun cdv A outer s H E ds φ hr hl hT => ?_
  have hu := hr.units
  refine ⟨_, (ss_cons (sd_set 1 S.nd ed_int)
      (ss_cons (sd_set 2 S.nd (ed_lst (ea_cons (ed_name 0) ea_nil)))
      (ss_cons (sd_while (et_val (ed_name 2)) (ss_cons (sd_pop 2 3 S.nd)
        (ss_one (sd_if (et_isnot (ed_name 3) ed_non) (ss_cons (sd_aug 1 S.nd ed_int)
          (ss_one (sd_extend 2 (ea_cons (ed_ixx hu (ed_name 3) ed_int) (ea_cons (ed_ixx hu (ed_name 3) ed_int) ea_nil))))) ss_nil))))
      (ss_one (sd_ret (ed_name 1)))))), ?_⟩
  obtain ⟨d0, rfl, n, hn, hb, h⟩ := f1_of hT
  walk_at "dl"
  refine ⟨fun ρ => ∃ ds a3 m k, ρ = [some (dv d0), some (dv (.int (k : Nat))), some (dO (.lst ds)), a3] ∧ Trs ds m ∧ k + m = n ∧ ds.length ≤ n + k + 1, fun ρ => match ρ with
    | [_, _, some ⟨_, .lst ds⟩, _] => sumZ ds
    | _ => 0, ⟨[d0], none, n, 0, rfl, ?_, by omega, by simp⟩, ?_⟩
  · have := Trs.nil.snoc hn
    simpa using this
  rintro ρ ⟨ds, a3, m, k, rfl, ht, hk, hl⟩
  refine wh_own (ds := ds) rfl ⟨fun z => ?_, fun z => ?_⟩
  · have hne : ds ≠ [] := by rintro rfl; cases z
    obtain ⟨ds', d, m', j, rfl, rfl, ht', hd⟩ := ht.pop hne
    rw [List.length_append] at hl
    simp at hl
    rcases hd.inv with ⟨rfl, rfl⟩ | ⟨l, y, r, a, b, rfl, rfl, hla, hrb⟩
    · walk_at "dl"
      refine ⟨⟨ds', _, m', k, rfl, ht', by omega, by omega⟩, ?_⟩
      rw [sumZ_app]
      simp [sumZ, szD]
    · walk_at "dl"
      refine ⟨by omega, ⟨ds' ++ [l, r], _, m' + a + b, k + 1, rfl, ?_, by omega, by simp; omega⟩, ?_⟩
      · have := (ht'.snoc hla).snoc hrb
        simpa using this
      · rw [sumZ_app, sumZ_app]
        simp [sumZ, szD]
  · have e0 : ds = [] := by cases ds with | nil => rfl | cons => cases z
    subst e0
    have hm : m = 0 := by
      have := ht.sz
      simp [sumZ] at this
      omega
    subst hm
    have : k = n := by omega
    subst this
    walk_at "dl"
    exact h
theorem fd_size_of (T : Tops mg) (F_nodes_of : FD P w K mg base 1 "nodes_of" ["tree"] tNodes) (F : Fun K "size_of" "size_of" (top 16) f fd) (m : mg "size_of" = some (.ref f)) : FD P w K mg base 2 "size_of" ["shape", "value"] tSizeOf := by
  have S : FnScope ["shape", "value"] ["shape", "value"] (defScope (top 16)) := ⟨rfl, rfl, rfl, by decide +kernel, rfl, by decide +kernel, by decide +kernel⟩
  refine fd_of F S (F.binds fun _ _ _ _ _ _ us hl => (by obtain ⟨_, _, rfl⟩ := lenN2 hl; rfl)) m fun cdv A outer s H E ds φ hr hl hT => ?_
  have hu := hr.units
  refine ⟨_, (ss_cons (sd_if (et_eq hu (ed_name 0) ed_str) (ss_one (sd_ret ed_int)) ss_nil)
      (ss_cons (sd_if (et_eq hu (ed_name 0) ed_str) (ss_one (sd_ret (ed_len T.len (ea_cons (ed_name 1) ea_nil)))) ss_nil)
      (ss_one (sd_ret (ed_call F_nodes_of (hr.mono (by decide)) (ea_cons (ed_name 1) ea_nil)))))), ?_⟩
  obtain ⟨s0, d, rfl, h⟩ := f2_of hT
  cases s0 with
  | str z =>
    rcases h with ⟨rfl, h⟩ | ⟨rfl, l, rfl, h⟩ | ⟨rfl, n, hn, hb, h⟩
    · walk_at "dl"
      exact h
    · walk_at "dl"
      exact ⟨fun z => absurd z (by decide), fun _ => h⟩
    · walk_at "dl"
      simp only [tNodes, g1]
      exact ⟨fun z => absurd z (by decide), fun _ => ⟨fun z => absurd z (by decide), fun _ => ⟨n, hn, hb, trivial, h⟩⟩⟩
  | _ => exact h.elim
end

set_option Elab.async false
set_option linter.all false
set_option maxRecDepth 100000
set_option maxHeartbeats 8000000
set_option exponentiation.threshold 5000
section
variable {P : Program} {w : World} {K : PySem.W.Frag} {mg : Str → Option Value} {base : Heap} {f : Addr} {fd : FuncData}

theorem zip_at {ps : List (Str × Str)} {as : List D} {d : D} (h : d ∈ zipD (ps.map prD) as) : ∃ (i : Nat) (q : Str × Str) (a : D), d = .tup [prD q, a] ∧ ps[i]? = some q ∧ as[i]? = some a := by
  obtain ⟨i, hi⟩ := List.getElem?_of_mem h
  unfold zipD at hi
  rw [List.getElem?_zipWith, List.getElem?_map] at hi
  cases e1 : ps[i]? with
  | none => rw [e1] at hi; cases hi
  | some q =>
    cases e2 : as[i]? with
    | none => rw [e1, e2] at hi; cases hi
    | some a =>
      rw [e1, e2] at hi
      exact ⟨i, q, a, (Option.some.inj hi).symm, e1, e2⟩
noncomputable def szP : D → Option D
  | .tup [.tup [_, .str s], a] => some (.int (sizeF s a))
  | _ => none
theorem sizes_all : ∀ (ps : List (Str × Str)) (as : List D), (zipD (ps.map prD) as).filterMap szP = nsD (sizesF ps as)
  | [], as => by cases as <;> rfl
  | _ :: _, [] => rfl
  | p :: ps, a :: as => by
    show (D.tup [prD p, a] :: zipD (ps.map prD) as).filterMap szP = D.int (sizeF p.2 a) :: nsD (sizesF ps as)
    rw [List.filterMap_cons, sizes_all ps as]
    rfl
theorem at1 {x y : D} {r : List D} : atI (x :: y :: r) 1 = some y := atI_of (by decide) rfl
theorem at0 {x : D} {r : List D} : atI (x :: r) 0 = some x := atI_of (by decide) rfl
theorem pure_fn {f : Str} {fp : List (Str × Str)} {fr : List D} {d : D} (h : pureD (.tup [fnD f fp fr, d])) : pureD (fnD f fp fr) ∧ pureD d := ⟨h.1, h.2.1⟩
theorem fd_function_of (T : Tops mg) (F : Fun K "function_of" "function_of" (top 6) f fd) (m : mg "function_of" = some (.ref f)) : FD P w K mg base 1 "function_of" ["program", "name"] tFuncOf := by
  have S : FnScope ["program", "name", "function"] ["program", "name"] (defScope (top 6)) := ⟨rfl, rfl, rfl, by decide +kernel, rfl, by decide +kernel, by decide +kernel⟩
  refine fd_of F S (F.binds fun _ _ _ _ _ _ us hl => (by obtain ⟨_, _, rfl⟩ := lenN2 hl; rfl)) m fun cdv A outer s H E ds φ hr hl hT => ?_
  have hu := hr.units
  refine ⟨_, (ss_cons (sd_cut (sd_for (ei_seq (ed_name 0)) (pg_name (i := 2) S.nd rfl (by first | exact Or.inl rfl | exact Or.inr rfl)) (gl_name 2) (ss_one (sd_if (et_eq hu (ed_ixx hu (ed_name 2) ed_int) (ed_name 1)) (ss_one (sd_ret (ed_name 2))) ss_nil))))
      (ss_one sd_never)), ?_⟩
  obtain ⟨p0, n0, rfl, f, fp, fr, g, gp, gr, z, rfl, hp, rfl, h⟩ := f2_of hT
  obtain ⟨p1, p2⟩ := pure_fn hp
  refine cut_seq (fun _ => False) ?_ ?_
  · refine sFor_at [fnD f fp fr, fnD g gp gr] (fun ψ hψ => ?_) (fun i ρ => (1 ≤ i → z ≠ f) ∧ (2 ≤ i → z ≠ g) ∧ ∃ a2, ρ = [some (dv (.tup [fnD f fp fr, fnD g gp gr])), some (dv (.str z)), a2]) ⟨fun q => absurd q (by decide), fun q => absurd q (by decide), none, rfl⟩ ?_ ?_
    · walk_at "dl"
      exact hψ
    · rintro i d ρ hd ⟨q1, q2, a2, rfl⟩
      have hi : i = 0 ∨ i = 1 := by
        have := (List.getElem?_eq_some_iff.mp hd).1
        simp at this
        omega
      rcases hi with rfl | rfl
      · have : fnD f fp fr = d := by simpa using hd
        subst this
        unfold fnD at h p1 ⊢
        walk_at "dl"
        refine ⟨fun e => ⟨p1.2, ?_⟩, fun e => ⟨Ne.symm e, _, rfl⟩⟩
        rcases h with ⟨_, h⟩ | ⟨y, _, _⟩
        · exact h
        · exact absurd e.symm y
      · have : fnD g gp gr = d := by simpa using hd
        subst this
        unfold fnD at h p2 ⊢
        have q1 := q1 (by decide)
        walk_at "dl"
        refine ⟨fun e => ⟨p2.2, ?_⟩, fun e => ⟨q1, Ne.symm e, _, rfl⟩⟩
        rcases h with ⟨y, _⟩ | ⟨_, _, h⟩
        · exact absurd y q1
        · exact h
    · rintro ρ ⟨q1, q2, _⟩
      have z1 := q1 (by simp)
      have z2 := q2 (by simp)
      rcases h with ⟨e, _⟩ | ⟨_, e, _⟩
      · exact absurd e z1
      · exact absurd e z2
  rintro _ h
  exact h.elim
theorem fd_bound_of (T : Tops mg) (F_function_of : FD P w K mg base 1 "function_of" ["program", "name"] tFuncOf) (F_size_of : FD P w K mg base 2 "size_of" ["shape", "value"] tSizeOf) (F_value_at : FD P w K mg base 4 "value_at" ["one", "sizes"] tValueAt) (F : Fun K "bound_of" "bound_of" (top 19) f fd) (m : mg "bound_of" = some (.ref f)) : FD P w K mg base 5 "bound_of" ["program", "paper", "name", "args"] tBound := by
  have S : FnScope ["program", "paper", "name", "args", "params", "sizes"] ["program", "paper", "name", "args"] (defScope (top 19)) := ⟨rfl, rfl, rfl, by decide +kernel, rfl, by decide +kernel, by decide +kernel⟩
  refine fd_of F S (F.binds fun _ _ _ _ _ _ us hl => (by obtain ⟨_, _, _, _, rfl⟩ := lenN4 hl; rfl)) m fun cdv A outer s H E ds φ hr hl hT => ?_
  have hu := hr.units
  refine ⟨_, (ss_cons (sd_cut (sd_set 4 S.nd (ed_ixx hu (ed_call F_function_of (hr.mono (by decide)) (ea_cons (ed_name 0) (ea_cons (ed_name 2) ea_nil))) ed_int)))
      (ss_cons (sd_cut (sd_set 5 S.nd (ed_comp (T := ["param", "arg"]) (F := []) (js := []) (ei_zip T.zip (ea_cons (ed_name 4) (ea_cons (ed_name 3) ea_nil))) (show CompScope (defScope (top 19)) _ ["param", "arg"] [] from ⟨rfl, by decide +kernel, by decide +kernel, by decide +kernel, by decide +kernel, by decide +kernel⟩) .nil (by decide) (fun cl C fp s H => (pg_tupK (K0 := K) (n := 2) (by rfl) (by rfl) (pgs_cons (pg_name (i := 0) (show ((["param", "arg"] : List Str) ++ ([] : List Str)).Nodup by decide +kernel) rfl (by first | exact Or.inl rfl | exact Or.inr rfl)) (pgs_cons (pg_name (i := 1) (show ((["param", "arg"] : List Str) ++ ([] : List Str)).Nodup by decide +kernel) rfl (by first | exact Or.inl rfl | exact Or.inr rfl)) pgs_nil)))) (gk_tup (gk_cons gm_name (gm_cons gm_name gm_nil) (gk_name (by decide)) (gk_cons gm_name gm_nil (gk_name (by decide)) gk_nil))) (gl_tup2 0 1) (fun cl C fp s H => eif_nil) (fun cl C fp s H => (ed_call F_size_of (hr.mono (by decide)) (ea_cons (ed_ixx hu (ed_name 0) ed_int) (ea_cons (ed_name 1) ea_nil)))))))
      (ss_one (sd_ret (ed_tupleC T.tuple (ea_cons (ed_comp (T := ["one"]) (F := ["sizes"]) (js := [5]) (ei_seq (ed_ixx hu (ed_name 1) (ed_name 2))) (show CompScope (defScope (top 19)) _ ["one"] ["sizes"] from ⟨rfl, by decide +kernel, by decide +kernel, by decide +kernel, by decide +kernel, by decide +kernel⟩) (.cons rfl .nil) (by decide) (fun cl C fp s H => (pg_name (i := 0) (show ((["one"] : List Str) ++ (["sizes"] : List Str)).Nodup by decide +kernel) rfl (by first | exact Or.inl rfl | exact Or.inr rfl))) (gk_name (by decide)) (gl_name 0) (fun cl C fp s H => eif_nil) (fun cl C fp s H => (ed_call F_value_at (hr.mono (by decide)) (ea_cons (ed_name 0) (ea_cons (ed_name 1) ea_nil))))) ea_nil)))))), ?_⟩
  obtain ⟨p, ks, vs, z, as, rfl, hT⟩ := hT
  · skip
    obtain ⟨ps, u, v, ⟨f, fp, fr, g, gp, gr, rfl, hp, hne, hz⟩, h16, hal, hsz, hlk, hu, hv, h⟩ := hT
    have hps : pureDs (ps.map prD) := pureDs_iff.mpr fun d hd => by
      obtain ⟨q, _, rfl⟩ := List.mem_map.mp hd
      exact ⟨trivial, trivial, trivial⟩
    refine cut_seq (fun ρ => ρ = [some (dv (.tup [fnD f fp fr, fnD g gp gr])), some (dv (.dk ks vs)), some (dv (.str z)), some (dv (.lst as)), some (dv (.tup (ps.map prD))), none]) ?_ ?_
    · walk_at "dl"
      simp only [tFuncOf, g2]
      rcases hz with ⟨rfl, rfl⟩ | ⟨rfl, rfl⟩
      · refine ⟨_, _, _, _, _, _, _, rfl, hp, rfl, .inl ⟨rfl, ?_⟩⟩
        unfold fnD
        dsimp only
        rw [at1]
      · refine ⟨_, _, _, _, _, _, _, rfl, hp, rfl, .inr ⟨Ne.symm hne, rfl, ?_⟩⟩
        unfold fnD
        dsimp only
        rw [at1]
    rintro _ rfl
    refine cut_seq (fun ρ => ρ = [some (dv (.tup [fnD f fp fr, fnD g gp gr])), some (dv (.dk ks vs)), some (dv (.str z)), some (dv (.lst as)), some (dv (.tup (ps.map prD))), some (dO (.lst (nsD (sizesF ps as))))]) ?_ ?_
    · walk_at "dl"
      refine dComp_at (zipD (ps.map prD) as) (fun ψ hψ => ?_) szP (by unfold zipD; simp; omega) ?_ ?_
      · walk_at "dl"
        exact hψ
      · intro d hd
        obtain ⟨i, q, a, rfl, e1, e2⟩ := zip_at hd
        have ok := hsz i q a e1 e2
        simp only [ρ0, List.map_cons, List.map_nil, List.replicate, List.cons_append, List.nil_append, List.append_nil, prD]
        walk_at "dl"
        simp only [tSizeOf, g2]
        rcases ok with e | ⟨e, l, rfl, hl⟩ | ⟨e, k, hk, hb⟩
        · refine .inl ⟨e, trivial, ?_⟩
          show some (D.int (sizeF q.2 a)) = _
          unfold sizeF
          rw [e, if_pos rfl]
        · refine .inr (.inl ⟨e, l, rfl, trivial, ?_⟩)
          show some (D.int (sizeF q.2 (.tup l))) = _
          unfold sizeF
          rw [e, if_neg (by decide), if_pos rfl]
        · refine .inr (.inr ⟨e, k, hk, hb, trivial, ?_⟩)
          show some (D.int (sizeF q.2 a)) = _
          unfold sizeF
          rw [e, if_neg (by decide), if_neg (by decide), hk.nd]
      · rw [sizes_all]
        walk_at "dl"
    rintro _ rfl
    have hzl : (sizesF ps as).length = ps.length := by unfold sizesF; simp; omega
    have hzb : ∀ x ∈ sizesF ps as, intBits x ≤ 200 := fun x hx => by
      obtain ⟨i, hi⟩ := List.getElem?_of_mem hx
      unfold sizesF at hi
      rw [List.getElem?_zipWith] at hi
      cases e1 : ps[i]? with
      | none => rw [e1] at hi; cases hi
      | some q =>
        cases e2 : as[i]? with
        | none => rw [e1, e2] at hi; cases hi
        | some a =>
          rw [e1, e2] at hi
          have := (Option.some.inj hi).symm
          subst this
          exact size_bits _ _ (hsz i q a e1 e2)
    walk_at "dl"
    refine dComp_at [.tup (u.map partD), .tup (v.map partD)] (fun ψ hψ => ?_) (fun d => some (worthD (sizesF ps as) d)) (by simp) ?_ ?_
    · walk_at "dl"
      simp only [hlk]
      exact hψ
    · intro d hd
      simp only [ρ0, List.map_cons, List.map_nil, List.replicate, List.cons_append, List.nil_append, List.append_nil]
      walk_at "dl"
      simp only [tValueAt, g2]
      simp only [List.mem_cons, List.not_mem_nil, or_false] at hd
      rcases hd with rfl | rfl
      · exact ⟨u, _, ps.length, rfl, .inl rfl, hzl, h16, hu.1, hu.2, hzb, trivial, by rw [worth_at]⟩
      · exact ⟨v, _, ps.length, rfl, .inl rfl, hzl, h16, hv.1, hv.2, hzb, trivial, by rw [worth_at]⟩
    · walk_at "dl"
      exact ⟨⟨pure_worth _ _, pure_worth _ _, trivial⟩, h⟩
end

set_option Elab.async false
set_option linter.all false
set_option maxRecDepth 100000
set_option maxHeartbeats 8000000
set_option exponentiation.threshold 5000
section
variable {P : Program} {w : World} {K : PySem.W.Frag} {mg : Str → Option Value} {base : Heap} {f : Addr} {fd : FuncData}

noncomputable def tCellS : FT := fun ds φ => match ds with
  | [.scr _, .int k] => 0 ≤ k ∧ ∀ c : Int, φ (dv (.int c))
  | _ => False
theorem cellS_of {ds : List D} {φ : EV → Prop} (h : tCellS ds φ) : ∃ ns k, ds = [.scr ns, .int k] ∧ 0 ≤ k ∧ ∀ c : Int, φ (dv (.int c)) := by
  unfold tCellS at h
  split at h
  · exact ⟨_, _, rfl, h⟩
  · exact h.elim
noncomputable def tDivA : FT := w2 fun a b φ => φ (dv (.int (Int.gcd a b)))
noncomputable def tNextF : FT := fun ds φ => match ds with
  | [.fd m] => 0 < m ∧ ∀ c : Int, 0 ≤ c → c < m → φ (dv (.int c))
  | _ => False
noncomputable def abc : Str := "abcdefghijklmnopqrstuvwxyz"
theorem abc_len : abc.cps.toList.length = 26 := by decide +kernel
theorem abc_nodup : abc.cps.toList.Nodup := by decide +kernel
noncomputable def abcAt (i : Int) : Nat := abc.cps.toList.getD (i.fmod 26).toNat 0
theorem abc_at (i : Int) : atI abc.cps.toList (i.fmod 26) = some (abcAt i) := by
  have m := mod_bd i 26 (by decide)
  have h : (i.fmod 26).toNat < abc.cps.toList.length := by rw [abc_len]; omega
  refine atI_of m.1 ?_
  unfold abcAt
  rw [List.getD_eq_getElem?_getD, List.getElem?_eq_getElem h]
  rfl
theorem abc_ne {i j : Int} (h : i.fmod 26 ≠ j.fmod 26) : abcAt i ≠ abcAt j := by
  have m := mod_bd i 26 (by decide)
  have n := mod_bd j 26 (by decide)
  have h1 : (i.fmod 26).toNat < abc.cps.toList.length := by rw [abc_len]; omega
  have h2 : (j.fmod 26).toNat < abc.cps.toList.length := by rw [abc_len]; omega
  unfold abcAt
  rw [List.getD_eq_getElem?_getD, List.getD_eq_getElem?_getD, List.getElem?_eq_getElem h1, List.getElem?_eq_getElem h2]
  intro e
  have := (List.getElem_inj abc_nodup).mp (show abc.cps.toList[(i.fmod 26).toNat] = abc.cps.toList[(j.fmod 26).toNat] from e)
  omega
noncomputable def nmS (a b : Str) (i : Int) : Str := a ++ (⟨#[abcAt i]⟩ : Str) ++ b
theorem one_len (c : Nat) : (⟨#[c]⟩ : Str).length = 1 := rfl
noncomputable def tNameK : FT := g2 fun m k φ => ∃ (a b : Str) (i : Int), m = .tup [.str a, .str b] ∧ k = .int i ∧ a.length ≤ 3 ∧ b.length ≤ 3 ∧ φ (dv (.str (nmS a b i)))
noncomputable def tMark : FT := w1 fun _ φ => ∀ a b : Str, a.length ≤ 3 → b.length ≤ 3 → φ (dv (.tup [.str a, .str b]))
noncomputable def tNum : FT := w1 fun _ φ => ∀ n : Int, n.natAbs ≤ 10 ^ 24 → φ (dv (.int n))
noncomputable def tWays : FT := w2 fun m t φ => ∃ k : Nat, t = k ∧ k ≤ 3 ∧ intBits m ≤ 200 ∧ φ (dv (.int (ch m k)))
noncomputable def tIs : FT := g2 fun a b φ => ∃ p : Int × Int, a = rD p ∧ b = rD p ∧ φ (dv (.bl true))
theorem fd_law_cell_at (T : Tops mg) (F : Fun K "_law_cell_at" "_law_cell_at" (top 21) f fd) (m : mg "_law_cell_at" = some (.ref f)) : FD P w K mg base 1 "_law_cell_at" ["_law_script", "_law_k"] tCellS := by
  have S : FnScope ["_law_script", "_law_k"] ["_law_script", "_law_k"] (defScope (top 21)) := ⟨rfl, rfl, rfl, by decide +kernel, rfl, by decide +kernel, by decide +kernel⟩
  refine fd_of F S (F.binds fun _ _ _ _ _ _ us hl => (by obtain ⟨_, _, rfl⟩ := lenN2 hl; rfl)) m fun cdv A outer s H E ds φ hr hl hT => ?_
  have hu := hr.units
  refine ⟨_, (ss_cons (sd_if (et_lt (ed_name 1) (ed_len T.len (ea_cons (ed_name 0) ea_nil))) (ss_one (sd_ret (ed_ixx hu (ed_name 0) (ed_name 1)))) ss_nil)
      (ss_one (sd_ret ed_int))), ?_⟩
  obtain ⟨ns, k, rfl, hk, h⟩ := cellS_of hT
  walk_at "dl"
  refine ⟨fun z => ?_, fun _ => h 0⟩
  obtain ⟨j, rfl⟩ : ∃ j : Nat, k = j := ⟨k.toNat, by omega⟩
  rw [atI_nat (by omega), List.getElem?_eq_getElem (by omega)]
  exact h _
theorem fd_law_whole (T : Tops mg) (F : Fun K "_law_whole" "_law_whole" (top 22) f fd) (m : mg "_law_whole" = some (.ref f)) : FD P w K mg base 1 "_law_whole" ["_law_found"] tWhole := by
  have S : FnScope ["_law_found"] ["_law_found"] (defScope (top 22)) := ⟨rfl, rfl, rfl, by decide +kernel, rfl, by decide +kernel, by decide +kernel⟩
  refine fd_of F S (F.binds fun _ _ _ _ _ _ us hl => (by obtain ⟨_, rfl⟩ := lenN1 hl; rfl)) m fun cdv A outer s H E ds φ hr hl hT => ?_
  have hu := hr.units
  refine ⟨_, (ss_one (sd_ret (ed_and (ed_isinst T.isinstance (ea_cons (ed_name 0) (ea_cons (ed_ty T.int boot_int') ea_nil))) (ed_one (ed_not (ed_isinst T.isinstance (ea_cons (ed_name 0) (ea_cons (ed_ty T.bool boot_bool') ea_nil)))))))), ?_⟩
  obtain ⟨a, rfl, h⟩ := w1_of hT
  walk_at "dl"
  exact h
theorem fd_law_next (T : Tops mg) (F : Fun K "_law_next" "_law_next" (top 23) f fd) (m : mg "_law_next" = some (.ref f)) : FD P w K mg base 1 "_law_next" ["_law_feed"] tNextF := by
  have S : FnScope ["_law_feed"] ["_law_feed"] (defScope (top 23)) := ⟨rfl, rfl, rfl, by decide +kernel, rfl, by decide +kernel, by decide +kernel⟩
  refine fd_of F S (F.binds fun _ _ _ _ _ _ us hl => (by obtain ⟨_, rfl⟩ := lenN1 hl; rfl)) m fun cdv A outer s H E ds φ hr hl hT => ?_
  have hu := hr.units
  refine ⟨_, (ss_next 0 hu), ?_⟩
  unfold tNextF at hT
  split at hT
  · rename_i m
    obtain ⟨m0, h⟩ := hT
    walk_at "dl"
    exact ⟨m0, h⟩
  · exact hT.elim
theorem fd_law_divisor (T : Tops mg) (F : Fun K "_law_divisor" "_law_divisor" (top 33) f fd) (m : mg "_law_divisor" = some (.ref f)) : FD P w K mg base 1 "_law_divisor" ["_law_one", "_law_other"] tDivA := by
  have S : FnScope ["_law_one", "_law_other"] ["_law_one", "_law_other"] (defScope (top 33)) := ⟨rfl, rfl, rfl, by decide +kernel, rfl, by decide +kernel, by decide +kernel⟩
  refine fd_of F S (F.binds fun _ _ _ _ _ _ us hl => (by obtain ⟨_, _, rfl⟩ := lenN2 hl; rfl)) m fun cdv A outer s H E ds φ hr hl hT => ?_
  have hu := hr.units
  refine ⟨_, (ss_cons (sd_while (et_ne hu (ed_name 1) ed_int) (ss_one (sd_par (i := 0) (j := 1) (by intro _ h; exact ps_par (i := 0) (j := 1) rfl S.nd rfl rfl (by decide) rfl rfl h rfl) (ea_cons (ed_name 1) (ea_cons (ed_mod (ed_name 0) (ed_name 1)) ea_nil)))))
      (ss_one (sd_ret (ed_abs T.abs (ea_cons (ed_name 0) ea_nil))))), ?_⟩
  obtain ⟨a, b, rfl, h⟩ := w2_of hT
  walk_at "dl"
  refine ⟨fun ρ => ∃ x y : Int, ρ = [some (dv (.int x)), some (dv (.int y))] ∧ Int.gcd x y = Int.gcd a b, fun ρ => match ρ with
    | [_, some ⟨_, .int y⟩] => y.natAbs
    | _ => 0, ⟨_, _, rfl, rfl⟩, ?_⟩
  rintro ρ ⟨x, y, rfl, e⟩
  walk_at "dl"
  refine ⟨fun hne => ⟨hne, ⟨_, _, rfl, ?_⟩, fmod_lt x y hne⟩, fun hz => ?_⟩
  · rw [gcd_fmod]; exact e
  · subst hz
    rw [Int.gcd_zero_right] at e
    rw [abs_eq, e]
    exact h
theorem fd_law_name (T : Tops mg) (F : Fun K "_law_name" "_law_name" (top 24) f fd) (m : mg "_law_name" = some (.ref f)) : FD P w K mg base 1 "_law_name" ["_law_mark_here", "_law_k"] tNameK := by
  have S : FnScope ["_law_mark_here", "_law_k"] ["_law_mark_here", "_law_k"] (defScope (top 24)) := ⟨rfl, rfl, rfl, by decide +kernel, rfl, by decide +kernel, by decide +kernel⟩
  refine fd_of F S (F.binds fun _ _ _ _ _ _ us hl => (by obtain ⟨_, _, rfl⟩ := lenN2 hl; rfl)) m fun cdv A outer s H E ds φ hr hl hT => ?_
  have hu := hr.units
  refine ⟨_, (ss_one (sd_ret (ed_add (ed_add (ed_ixx hu (ed_name 0) ed_int) (ed_ixx hu ed_str (ed_mod (ed_name 1) ed_int))) (ed_ixx hu (ed_name 0) ed_int)))), ?_⟩
  obtain ⟨m0, k0, rfl, a, b, i, rfl, rfl, ha, hb, h⟩ := f2_of hT
  have e := abc_at i
  unfold abc at e
  walk_at "dl"
  rw [e]
  refine ⟨by rw [sizeLine_eq]; decide +kernel, by rw [one_len, sizeLine_eq]; omega, by rw [app_len, one_len, sizeLine_eq]; omega, h⟩
theorem fd_law_number (T : Tops mg) (F : Fun K "_law_number" "_law_number" (top 26) f fd) (m : mg "_law_number" = some (.ref f)) : FD P w K mg base 1 "_law_number" ["_law_cell"] tNum := by
  have S : FnScope ["_law_cell"] ["_law_cell"] (defScope (top 26)) := ⟨rfl, rfl, rfl, by decide +kernel, rfl, by decide +kernel, by decide +kernel⟩
  refine fd_of F S (F.binds fun _ _ _ _ _ _ us hl => (by obtain ⟨_, rfl⟩ := lenN1 hl; rfl)) m fun cdv A outer s H E ds φ hr hl hT => ?_
  have hu := hr.units
  refine ⟨_, (ss_cons (sd_if (et_eq hu (ed_mod (ed_name 0) ed_int) ed_int) (ss_one (sd_ret (ed_sub (ed_mod (ed_fd (ed_name 0) ed_int) (ed_mul ed_int (ed_pow ed_int ed_int))) (ed_pow ed_int ed_int)))) ss_nil)
      (ss_one (sd_ret (ed_sub (ed_mod (ed_fd (ed_name 0) ed_int) ed_int) ed_int)))), ?_⟩
  obtain ⟨c, rfl, h⟩ := w1_of hT
  have m1 := mod_bd (c.fdiv 3) (2 * 10 ^ 24) (by decide)
  have m2 := mod_bd (c.fdiv 3) 9 (by decide)
  walk_at "dl"
  exact ⟨fun _ => ⟨of_eq_true (fd_lit (by decide) (by decide)), IntMulOk.of_left (by decide), by decide, h _ (by omega)⟩, fun _ => ⟨of_eq_true (fd_lit (by decide) (by decide)), h _ (by omega)⟩⟩
theorem fd_law_ways_out (T : Tops mg) (F : Fun K "_law_ways_out" "_law_ways_out" (top 35) f fd) (m : mg "_law_ways_out" = some (.ref f)) : FD P w K mg base 1 "_law_ways_out" ["_law_size", "_law_power"] tWays := by
  have S : FnScope ["_law_size", "_law_power"] ["_law_size", "_law_power"] (defScope (top 35)) := ⟨rfl, rfl, rfl, by decide +kernel, rfl, by decide +kernel, by decide +kernel⟩
  refine fd_of F S (F.binds fun _ _ _ _ _ _ us hl => (by obtain ⟨_, _, rfl⟩ := lenN2 hl; rfl)) m fun cdv A outer s H E ds φ hr hl hT => ?_
  have hu := hr.units
  refine ⟨_, (ss_one (sd_ret (ed_ixx hu (ed_lst (ea_cons ed_int (ea_cons (ed_name 0) (ea_cons (ed_fd (ed_mul (ed_name 0) (ed_sub (ed_name 0) ed_int)) ed_int) (ea_cons (ed_fd (ed_mul (ed_mul (ed_name 0) (ed_sub (ed_name 0) ed_int)) (ed_sub (ed_name 0) ed_int)) ed_int) ea_nil))))) (ed_name 1)))), ?_⟩
  obtain ⟨m, t, rfl, k, rfl, hk, hm, h⟩ := w2_of hT
  have b1 := sub_bits (k := 1) (by omega) hm (by decide)
  have b2 := sub_bits (k := 2) (by omega) hm (by decide)
  have b3 := PySem.intBits_mul_le hm b1
  have o1 : IntMulOk m (m - 1) := mulOk (Nat.le_trans hm (by decide)) (Nat.le_trans b1 (by decide))
  have o2 : IntMulOk (m * (m - 1)) (m - 2) := mulOk (Nat.le_trans b3 (by decide)) (Nat.le_trans b2 (by decide))
  walk_at "dl"
  refine ⟨o1, of_eq_true (fd_lit (by decide) (by decide)), o1, o2, of_eq_true (fd_lit (by decide) (by decide)), ?_⟩
  have k4 : k = 0 ∨ k = 1 ∨ k = 2 ∨ k = 3 := by omega
  rcases k4 with rfl | rfl | rfl | rfl
  · exact ⟨trivial, h⟩
  · rw [ch1] at h
    exact ⟨trivial, h⟩
  · rw [ch2] at h
    exact ⟨trivial, h⟩
  · have e := ch3_ways m
    rw [show (1 : Int) * (m - 0) * (m - 1) * (m - 2) = m * (m - 1) * (m - 2) by rw [Int.one_mul, Int.sub_zero]] at e
    rw [← e] at h
    exact ⟨trivial, h⟩
theorem fd_law_is (T : Tops mg) (F__law_whole : FD P w K mg base 1 "_law_whole" ["_law_found"] tWhole) (F : Fun K "_law_is" "_law_is" (top 37) f fd) (m : mg "_law_is" = some (.ref f)) : FD P w K mg base 2 "_law_is" ["_law_found", "_law_due"] tIs := by
  have S : FnScope ["_law_found", "_law_due"] ["_law_found", "_law_due"] (defScope (top 37)) := ⟨rfl, rfl, rfl, by decide +kernel, rfl, by decide +kernel, by decide +kernel⟩
  refine fd_of F S (F.binds fun _ _ _ _ _ _ us hl => (by obtain ⟨_, _, rfl⟩ := lenN2 hl; rfl)) m fun cdv A outer s H E ds φ hr hl hT => ?_
  have hu := hr.units
  refine ⟨_, (ss_cons (sd_if (EW.et (ew_or (et_not (et_val (ed_isinst T.isinstance (ea_cons (ed_name 0) (ea_cons (ed_ty T.tuple boot_tuple') ea_nil))))) (ew_or1 (et_ne hu (ed_len T.len (ea_cons (ed_name 0) ea_nil)) ed_int)))) (ss_one (sd_ret ed_bl)) ss_nil)
      (ss_one (sd_ret (ed_and (ed_call F__law_whole (hr.mono (by decide)) (ea_cons (ed_ixx hu (ed_name 0) ed_int) ea_nil)) (ed_and (ed_call F__law_whole (hr.mono (by decide)) (ea_cons (ed_ixx hu (ed_name 0) ed_int) ea_nil)) (ed_one (ed_eq hu (ed_name 0) (ed_name 1)))))))), ?_⟩
  obtain ⟨a, b, rfl, p, rfl, rfl, h⟩ := f2_of hT
  unfold rD
  walk_at "dl"
  simp only [tWhole, w1]
  have ok : okD 40 (D.tup [D.int p.1, D.int p.2]) := by simp [okD, okD_int]
  refine ⟨fun z => absurd rfl z, fun _ => ⟨fun _ => ⟨fun _ => ⟨ok, ok, ?_⟩, (fun z => by cases z)⟩, (fun z => by cases z)⟩⟩
  rw [eqD_refl 40 _ ok]
  exact h
end

set_option Elab.async false
set_option linter.all false
set_option maxRecDepth 100000
set_option maxHeartbeats 8000000
set_option exponentiation.threshold 5000
section
variable {P : Program} {w : World} {K : PySem.W.Frag} {mg : Str → Option Value} {base : Heap} {f : Addr} {fd : FuncData}

noncomputable def pq : Str := "pqrstuvw"
theorem pq_len : pq.cps.toList.length = 8 := by decide +kernel
theorem pq_at (i : Int) : ∃ c, atI pq.cps.toList (i.fmod 8) = some c := by
  have m := mod_bd i 8 (by decide)
  have h : (i.fmod 8).toNat < pq.cps.toList.length := by rw [pq_len]; omega
  exact ⟨_, atI_of m.1 (by rw [List.getElem?_eq_getElem h])⟩
theorem fd_law_mark (T : Tops mg) (F : Fun K "_law_mark" "_law_mark" (top 25) f fd) (m : mg "_law_mark" = some (.ref f)) : FD P w K mg base 1 "_law_mark" ["_law_cell"] tMark := by
  have S : FnScope ["_law_cell", "_law_letters", "_law_head", "_law_k", "_law_tail"] ["_law_cell"] (defScope (top 25)) := ⟨rfl, rfl, rfl, by decide +kernel, rfl, by decide +kernel, by decide +kernel⟩
  refine fd_of F S (F.binds fun _ _ _ _ _ _ us hl => (by obtain ⟨_, rfl⟩ := lenN1 hl; rfl)) m fun cdv A outer s H E ds φ hr hl hT => ?_
  have hu := hr.units
  refine ⟨_, (ss_cons (sd_cut (sd_set 1 S.nd ed_str))
      (ss_cons (sd_cut (sd_set 2 S.nd ed_str))
      (ss_cons (sd_cut (sd_for (ei_range1 T.range (ea_cons (ed_mod (ed_name 0) ed_int) ea_nil)) (pg_name (i := 3) S.nd rfl (by first | exact Or.inl rfl | exact Or.inr rfl)) (gl_name 3) (ss_one (sd_set 2 S.nd (ed_add (ed_name 2) (ed_ixx hu (ed_name 1) (ed_mod (ed_fd (ed_name 0) (ed_add (ed_mul ed_int (ed_name 3)) ed_int)) ed_int)))))))
      (ss_cons (sd_cut (sd_set 4 S.nd ed_str))
      (ss_cons (sd_cut (sd_for (ei_range1 T.range (ea_cons (ed_mod (ed_fd (ed_name 0) ed_int) ed_int) ea_nil)) (pg_name (i := 3) S.nd rfl (by first | exact Or.inl rfl | exact Or.inr rfl)) (gl_name 3) (ss_one (sd_set 4 S.nd (ed_add (ed_name 4) (ed_ixx hu (ed_name 1) (ed_mod (ed_fd (ed_name 0) (ed_add (ed_mul ed_int (ed_name 3)) ed_int)) ed_int)))))))
      (ss_one (sd_ret (ed_tup (ea_cons (ed_name 2) (ea_cons (ed_name 4) ea_nil)))))))))), ?_⟩
  obtain ⟨c, rfl, h⟩ := w1_of hT
  have m1 := mod_bd c 4 (by decide)
  have m2 := mod_bd (c.fdiv 4) 4 (by decide)
  have lp : pq.length ≤ sizeLine := by rw [sizeLine_eq]; decide +kernel
  refine cut_seq (fun ρ => ρ = [some (dv (.int c)), some (dv (.str pq)), none, none, none]) ?_ ?_
  · walk_at "dl"
    rfl
  rintro _ rfl
  refine cut_seq (fun ρ => ∃ a : Str, a.length ≤ 0 ∧ ρ = [some (dv (.int c)), some (dv (.str pq)), some (dv (.str a)), none, none]) ?_ ?_
  · walk_at "dl"
    exact ⟨_, (by decide +kernel : ("" : Str).length ≤ 0), rfl⟩
  rintro _ ⟨a0, ha0, rfl⟩
  refine cut_seq (fun ρ => ∃ (a : Str) (a3 : Option EV), a.length ≤ 3 ∧ ρ = [some (dv (.int c)), some (dv (.str pq)), some (dv (.str a)), a3, none]) ?_ ?_
  · refine sFor_at (rngD 0 (c.fmod 4).toNat) (fun ψ hψ => ?_) (fun i ρ => ∃ (a : Str) (a3 : Option EV), a.length ≤ i ∧ ρ = [some (dv (.int c)), some (dv (.str pq)), some (dv (.str a)), a3, none]) ⟨a0, none, ha0, rfl⟩ ?_ ?_
    · walk_at "dl"
      exact ⟨by omega, by omega, hψ⟩
    · rintro i d ρ hd ⟨a, a3, ha, rfl⟩
      obtain ⟨hi, rfl⟩ := rng_get hd
      obtain ⟨ch, ech⟩ := pq_at (c.fdiv (5 * (0 + (i : Int)) + 7))
      rw [show (0 : Int) + (i : Int) = (i : Int) by omega] at ech
      walk_at "dl"
      simp only [ech]
      refine ⟨IntMulOk.of_left (by decide), fdOk (m := 64) (by omega) (bitsOf (by omega)), lp, by rw [one_len, sizeLine_eq]; omega, _, _, ?_, rfl⟩
      rw [app_len, one_len]
      omega
    · rintro ρ ⟨a, a3, ha, rfl⟩
      rw [rng_len] at ha
      exact ⟨a, a3, by omega, rfl⟩
  rintro _ ⟨a, a3, ha, rfl⟩
  refine cut_seq (fun ρ => ∃ b : Str, b.length ≤ 0 ∧ ρ = [some (dv (.int c)), some (dv (.str pq)), some (dv (.str a)), a3, some (dv (.str b))]) ?_ ?_
  · walk_at "dl"
    exact ⟨_, (by decide +kernel : ("" : Str).length ≤ 0), rfl⟩
  rintro _ ⟨b0, hb0, rfl⟩
  refine cut_seq (fun ρ => ∃ (b : Str) (a3 : Option EV), b.length ≤ 3 ∧ ρ = [some (dv (.int c)), some (dv (.str pq)), some (dv (.str a)), a3, some (dv (.str b))]) ?_ ?_
  · refine sFor_at (rngD 0 ((c.fdiv 4).fmod 4).toNat) (fun ψ hψ => ?_) (fun i ρ => ∃ (b : Str) (a3 : Option EV), b.length ≤ i ∧ ρ = [some (dv (.int c)), some (dv (.str pq)), some (dv (.str a)), a3, some (dv (.str b))]) ⟨b0, a3, hb0, rfl⟩ ?_ ?_
    · walk_at "dl"
      exact ⟨of_eq_true (fd_lit (by decide) (by decide)), by omega, by omega, hψ⟩
    · rintro i d ρ hd ⟨b, a3, hb, rfl⟩
      obtain ⟨hi, rfl⟩ := rng_get hd
      obtain ⟨ch, ech⟩ := pq_at (c.fdiv (9 * (0 + (i : Int)) + 11))
      rw [show (0 : Int) + (i : Int) = (i : Int) by omega] at ech
      walk_at "dl"
      simp only [ech]
      refine ⟨IntMulOk.of_left (by decide), fdOk (m := 64) (by omega) (bitsOf (by omega)), lp, by rw [one_len, sizeLine_eq]; omega, _, _, ?_, rfl⟩
      rw [app_len, one_len]
      omega
    · rintro ρ ⟨b, a3, hb, rfl⟩
      rw [rng_len] at hb
      exact ⟨b, a3, by omega, rfl⟩
  rintro _ ⟨b, a4, hb, rfl⟩
  walk_at "dl"
  exact h a b ha hb
end

set_option Elab.async false
set_option linter.all false
set_option maxRecDepth 100000
set_option maxHeartbeats 8000000
set_option exponentiation.threshold 5000
section
variable {P : Program} {w : World} {K : PySem.W.Frag} {mg : Str → Option Value} {base : Heap} {f : Addr} {fd : FuncData}

noncomputable def Par (ps : List (Str × Str)) : Prop := 1 ≤ ps.length ∧ ps.length ≤ 2 ∧ ∀ p ∈ ps, p.2 = "num" ∨ p.2 = "list" ∨ p.2 = "tree"
noncomputable def Prg (f g : Str) (d : D) : Prop := ∃ fp fr gp gr, d = .tup [fnD f fp fr, fnD g gp gr] ∧ pureD d ∧ Par fp ∧ Par gp
noncomputable def tTempl : FT := fun ds φ => ∃ f g x y h t : Str, ds = [.str f, .str g, .str x, .str y, .str h, .str t] ∧ ∀ d, Prg f g d → φ (dv d)
theorem par1 (x : Str) : Par [(x, "list")] := ⟨Nat.le_refl 1, (Nat.le_succ 1), fun p hp => by rw [List.mem_singleton.mp hp]; exact .inr (.inl rfl)⟩
theorem par1t (x : Str) : Par [(x, "tree")] := ⟨Nat.le_refl 1, (Nat.le_succ 1), fun p hp => by rw [List.mem_singleton.mp hp]; exact .inr (.inr rfl)⟩
theorem par2 (x y s : Str) (h : s = "num" ∨ s = "list") : Par [(x, s), (y, "list")] := ⟨Nat.le_succ 1, Nat.le_refl 2, fun p hp => by
  rcases List.mem_cons.mp hp with rfl | hp
  · rcases h with h | h
    · exact .inl h
    · exact .inr (.inl h)
  · rw [List.mem_singleton.mp hp]; exact .inr (.inl rfl)⟩
theorem fd_law_sorting (T : Tops mg) (F : Fun K "_law_sorting" "_law_sorting" (top 27) f fd) (m : mg "_law_sorting" = some (.ref f)) : FD P w K mg base 1 "_law_sorting" ["_law_f", "_law_g", "_law_x", "_law_y", "_law_h", "_law_t"] tTempl := by
  have S : FnScope ["_law_f", "_law_g", "_law_x", "_law_y", "_law_h", "_law_t", "_law_less", "_law_more", "_law_body", "_law_put", "_law_full"] ["_law_f", "_law_g", "_law_x", "_law_y", "_law_h", "_law_t"] (defScope (top 27)) := ⟨rfl, rfl, rfl, by decide +kernel, rfl, by decide +kernel, by decide +kernel⟩
  refine fd_of F S (F.binds fun _ _ _ _ _ _ us hl => (by obtain ⟨_, _, _, _, _, _, rfl⟩ := lenN6 hl; rfl)) m fun cdv A outer s H E ds φ hr hl hT => ?_
  have hu := hr.units
  refine ⟨_, (ss_cons (sd_cut (sd_set 6 S.nd (ed_tup (ea_cons ed_str (ea_cons (ed_tup (ea_cons ed_str (ea_cons (ed_name 2) ea_nil))) (ea_cons (ed_tup (ea_cons ed_str (ea_cons (ed_name 4) ea_nil))) (ea_cons (ed_tup (ea_cons ed_str (ea_cons (ed_tup (ea_cons ed_str (ea_cons (ed_tup (ea_cons ed_str (ea_cons (ed_name 2) ea_nil))) (ea_cons (ed_tup (ea_cons ed_str (ea_cons (ed_name 3) ea_nil))) ea_nil)))) ea_nil))) ea_nil)))))))
      (ss_cons (sd_cut (sd_set 7 S.nd (ed_tup (ea_cons ed_str (ea_cons (ed_tup (ea_cons ed_str (ea_cons (ed_tup (ea_cons ed_str (ea_cons (ed_name 4) ea_nil))) (ea_cons (ed_tup (ea_cons ed_str (ea_cons (ed_name 0) (ea_cons (ed_tup (ea_cons (ed_tup (ea_cons ed_str (ea_cons (ed_name 2) ea_nil))) (ea_cons (ed_tup (ea_cons ed_str (ea_cons (ed_name 5) ea_nil))) ea_nil))) ea_nil)))) ea_nil)))) ea_nil)))))
      (ss_cons (sd_cut (sd_set 8 S.nd (ed_tup (ea_cons ed_str (ea_cons (ed_name 3) (ea_cons (ed_tup (ea_cons ed_str (ea_cons (ed_tup (ea_cons ed_str (ea_cons (ed_tup (ea_cons ed_str (ea_cons (ed_name 2) ea_nil))) (ea_cons (ed_tup (ea_cons ed_str ea_nil)) ea_nil)))) ea_nil))) (ea_cons (ed_name 4) (ea_cons (ed_name 5) (ea_cons (ed_add (ed_name 6) (ed_tup (ea_cons (ed_name 7) ea_nil))) ea_nil)))))))))
      (ss_cons (sd_cut (sd_set 9 S.nd (ed_tup (ea_cons (ed_name 0) (ea_cons (ed_tup (ea_cons (ed_tup (ea_cons (ed_name 2) (ea_cons ed_str ea_nil))) (ea_cons (ed_tup (ea_cons (ed_name 3) (ea_cons ed_str ea_nil))) ea_nil))) (ea_cons (ed_tup (ea_cons ed_str (ea_cons (ed_tup (ea_cons ed_int (ea_cons ed_int (ea_cons ed_int ea_nil)))) ea_nil))) (ea_cons (ed_name 8) ea_nil)))))))
      (ss_cons (sd_cut (sd_set 10 S.nd (ed_tup (ea_cons ed_str (ea_cons (ed_tup (ea_cons ed_str (ea_cons (ed_name 0) (ea_cons (ed_tup (ea_cons (ed_tup (ea_cons ed_str (ea_cons (ed_name 4) ea_nil))) (ea_cons (ed_tup (ea_cons ed_str (ea_cons (ed_name 1) (ea_cons (ed_tup (ea_cons (ed_tup (ea_cons ed_str (ea_cons (ed_name 5) ea_nil))) ea_nil)) ea_nil)))) ea_nil))) ea_nil)))) ea_nil)))))
      (ss_one (sd_ret (ed_tup (ea_cons (ed_name 9) (ea_cons (ed_tup (ea_cons (ed_name 1) (ea_cons (ed_tup (ea_cons (ed_tup (ea_cons (ed_name 3) (ea_cons ed_str ea_nil))) ea_nil)) (ea_cons (ed_tup (ea_cons ed_str (ea_cons (ed_tup (ea_cons ed_int (ea_cons ed_int ea_nil))) ea_nil))) (ea_cons (ed_tup (ea_cons ed_str (ea_cons (ed_name 3) (ea_cons (ed_tup (ea_cons ed_str (ea_cons (ed_tup (ea_cons ed_str ea_nil)) ea_nil))) (ea_cons (ed_name 4) (ea_cons (ed_name 5) (ea_cons (ed_name 10) ea_nil))))))) ea_nil))))) ea_nil)))))))))), ?_⟩
  obtain ⟨f, g, x, y, h, t, rfl, hT⟩ := hT
  · skip
    refine cut_seq (fun ρ => ∃ l_less, pureDs l_less ∧ l_less ≠ [] ∧ l_less.length ≤ 10 ∧ ρ = [some (dv (.str f)), some (dv (.str g)), some (dv (.str x)), some (dv (.str y)), some (dv (.str h)), some (dv (.str t)), some (dv (.tup l_less)), none, none, none, none]) ?_ ?_
    · walk_at "dl"
      exact ⟨_, by simp [pureD, pureDs, *], by simp, by simp, rfl⟩
    rintro _ ⟨l_less, p_less, n_less, s_less, rfl⟩
    refine cut_seq (fun ρ => ∃ d_more, pureD d_more ∧ ρ = [some (dv (.str f)), some (dv (.str g)), some (dv (.str x)), some (dv (.str y)), some (dv (.str h)), some (dv (.str t)), some (dv (.tup l_less)), some (dv d_more), none, none, none]) ?_ ?_
    · walk_at "dl"
      exact ⟨_, by simp [pureD, pureDs, *], rfl⟩
    rintro _ ⟨d_more, p_more, rfl⟩
    have hpa : pureDs (l_less ++ [d_more]) := pureDs_iff.mpr fun d hd => by
      rcases List.mem_append.mp hd with hd | hd
      · exact pureDs_iff.mp p_less d hd
      · rw [List.mem_singleton.mp hd]; exact p_more
    refine cut_seq (fun ρ => ∃ d_body, pureD d_body ∧ ρ = [some (dv (.str f)), some (dv (.str g)), some (dv (.str x)), some (dv (.str y)), some (dv (.str h)), some (dv (.str t)), some (dv (.tup l_less)), some (dv d_more), some (dv d_body), none, none]) ?_ ?_
    · walk_at "dl"
      refine ⟨n_less, by rw [sizeLine_eq]; omega, _, ?_, rfl⟩
      simp [pureD, pureDs, hpa]
    rintro _ ⟨d_body, p_body, rfl⟩
    refine cut_seq (fun ρ => ∃ r_put, pureDs r_put ∧ ρ = [some (dv (.str f)), some (dv (.str g)), some (dv (.str x)), some (dv (.str y)), some (dv (.str h)), some (dv (.str t)), some (dv (.tup l_less)), some (dv d_more), some (dv d_body), some (dv (fnD f [(x, "num"), (y, "list")] r_put)), none]) ?_ ?_
    · walk_at "dl"
      exact ⟨_, by simp [pureD, pureDs, *], rfl⟩
    rintro _ ⟨r_put, p_put, rfl⟩
    refine cut_seq (fun ρ => ∃ d_full, pureD d_full ∧ ρ = [some (dv (.str f)), some (dv (.str g)), some (dv (.str x)), some (dv (.str y)), some (dv (.str h)), some (dv (.str t)), some (dv (.tup l_less)), some (dv d_more), some (dv d_body), some (dv (fnD f [(x, "num"), (y, "list")] r_put)), some (dv d_full)]) ?_ ?_
    · walk_at "dl"
      exact ⟨_, by simp [pureD, pureDs, *], rfl⟩
    rintro _ ⟨d_full, p_full, rfl⟩
    have pf : pureD (fnD f [(x, "num"), (y, "list")] r_put) := ⟨trivial, by simp [pureDs, pureD, prD], p_put⟩
    generalize efn : fnD f [(x, "num"), (y, "list")] r_put = F at *
    walk_at "dl"
    subst efn
    refine ⟨⟨pf, p_full⟩, hT _ ⟨_, _, [(y, "list")], _, rfl, ⟨pf, by simp [pureD, pureDs, *], trivial⟩, par2 _ _ _ (.inl rfl), par1 _⟩⟩
theorem fd_law_turning (T : Tops mg) (F : Fun K "_law_turning" "_law_turning" (top 28) f fd) (m : mg "_law_turning" = some (.ref f)) : FD P w K mg base 1 "_law_turning" ["_law_f", "_law_g", "_law_x", "_law_y", "_law_h", "_law_t"] tTempl := by
  have S : FnScope ["_law_f", "_law_g", "_law_x", "_law_y", "_law_h", "_law_t", "_law_full", "_law_turn", "_law_body"] ["_law_f", "_law_g", "_law_x", "_law_y", "_law_h", "_law_t"] (defScope (top 28)) := ⟨rfl, rfl, rfl, by decide +kernel, rfl, by decide +kernel, by decide +kernel⟩
  refine fd_of F S (F.binds fun _ _ _ _ _ _ us hl => (by obtain ⟨_, _, _, _, _, _, rfl⟩ := lenN6 hl; rfl)) m fun cdv A outer s H E ds φ hr hl hT => ?_
  have hu := hr.units
  refine ⟨_, (ss_cons (sd_cut (sd_set 6 S.nd (ed_tup (ea_cons ed_str (ea_cons (ed_tup (ea_cons ed_str (ea_cons (ed_name 0) (ea_cons (ed_tup (ea_cons (ed_tup (ea_cons ed_str (ea_cons (ed_name 5) ea_nil))) (ea_cons (ed_tup (ea_cons ed_str (ea_cons (ed_tup (ea_cons ed_str (ea_cons (ed_name 4) ea_nil))) (ea_cons (ed_tup (ea_cons ed_str (ea_cons (ed_name 3) ea_nil))) ea_nil)))) ea_nil))) ea_nil)))) ea_nil)))))
      (ss_cons (sd_cut (sd_set 7 S.nd (ed_tup (ea_cons (ed_name 0) (ea_cons (ed_tup (ea_cons (ed_tup (ea_cons (ed_name 2) (ea_cons ed_str ea_nil))) (ea_cons (ed_tup (ea_cons (ed_name 3) (ea_cons ed_str ea_nil))) ea_nil))) (ea_cons (ed_tup (ea_cons ed_str (ea_cons (ed_tup (ea_cons ed_int (ea_cons ed_int (ea_cons ed_int ea_nil)))) ea_nil))) (ea_cons (ed_tup (ea_cons ed_str (ea_cons (ed_name 2) (ea_cons (ed_tup (ea_cons ed_str (ea_cons (ed_tup (ea_cons ed_str (ea_cons (ed_name 3) ea_nil))) ea_nil))) (ea_cons (ed_name 4) (ea_cons (ed_name 5) (ea_cons (ed_name 6) ea_nil))))))) ea_nil)))))))
      (ss_cons (sd_cut (sd_set 8 S.nd (ed_tup (ea_cons ed_str (ea_cons (ed_tup (ea_cons ed_str (ea_cons (ed_name 0) (ea_cons (ed_tup (ea_cons (ed_tup (ea_cons ed_str (ea_cons (ed_name 2) ea_nil))) (ea_cons (ed_tup (ea_cons ed_str ea_nil)) ea_nil))) ea_nil)))) ea_nil)))))
      (ss_one (sd_ret (ed_tup (ea_cons (ed_name 7) (ea_cons (ed_tup (ea_cons (ed_name 1) (ea_cons (ed_tup (ea_cons (ed_tup (ea_cons (ed_name 2) (ea_cons ed_str ea_nil))) ea_nil)) (ea_cons (ed_tup (ea_cons ed_str (ea_cons (ed_tup (ea_cons ed_int (ea_cons ed_int ea_nil))) ea_nil))) (ea_cons (ed_name 8) ea_nil))))) ea_nil)))))))), ?_⟩
  obtain ⟨f, g, x, y, h, t, rfl, hT⟩ := hT
  · skip
    refine cut_seq (fun ρ => ∃ d_full, pureD d_full ∧ ρ = [some (dv (.str f)), some (dv (.str g)), some (dv (.str x)), some (dv (.str y)), some (dv (.str h)), some (dv (.str t)), some (dv d_full), none, none]) ?_ ?_
    · walk_at "dl"
      exact ⟨_, by simp [pureD, pureDs, *], rfl⟩
    rintro _ ⟨d_full, p_full, rfl⟩
    refine cut_seq (fun ρ => ∃ r_turn, pureDs r_turn ∧ ρ = [some (dv (.str f)), some (dv (.str g)), some (dv (.str x)), some (dv (.str y)), some (dv (.str h)), some (dv (.str t)), some (dv d_full), some (dv (fnD f [(x, "list"), (y, "list")] r_turn)), none]) ?_ ?_
    · walk_at "dl"
      exact ⟨_, by simp [pureD, pureDs, *], rfl⟩
    rintro _ ⟨r_turn, p_turn, rfl⟩
    refine cut_seq (fun ρ => ∃ d_body, pureD d_body ∧ ρ = [some (dv (.str f)), some (dv (.str g)), some (dv (.str x)), some (dv (.str y)), some (dv (.str h)), some (dv (.str t)), some (dv d_full), some (dv (fnD f [(x, "list"), (y, "list")] r_turn)), some (dv d_body)]) ?_ ?_
    · walk_at "dl"
      exact ⟨_, by simp [pureD, pureDs, *], rfl⟩
    rintro _ ⟨d_body, p_body, rfl⟩
    have pf : pureD (fnD f [(x, "list"), (y, "list")] r_turn) := ⟨trivial, by simp [pureDs, pureD, prD], p_turn⟩
    generalize efn : fnD f [(x, "list"), (y, "list")] r_turn = F at *
    walk_at "dl"
    subst efn
    refine ⟨⟨pf, p_body⟩, hT _ ⟨_, _, [(x, "list")], _, rfl, ⟨pf, by simp [pureD, pureDs, *], trivial⟩, par2 _ _ _ (.inr rfl), par1 _⟩⟩
theorem fd_law_telling (T : Tops mg) (F : Fun K "_law_telling" "_law_telling" (top 29) f fd) (m : mg "_law_telling" = some (.ref f)) : FD P w K mg base 1 "_law_telling" ["_law_f", "_law_g", "_law_x", "_law_y", "_law_h", "_law_t"] tTempl := by
  have S : FnScope ["_law_f", "_law_g", "_law_x", "_law_y", "_law_h", "_law_t", "_law_full", "_law_onto", "_law_rest", "_law_body"] ["_law_f", "_law_g", "_law_x", "_law_y", "_law_h", "_law_t"] (defScope (top 29)) := ⟨rfl, rfl, rfl, by decide +kernel, rfl, by decide +kernel, by decide +kernel⟩
  refine fd_of F S (F.binds fun _ _ _ _ _ _ us hl => (by obtain ⟨_, _, _, _, _, _, rfl⟩ := lenN6 hl; rfl)) m fun cdv A outer s H E ds φ hr hl hT => ?_
  have hu := hr.units
  refine ⟨_, (ss_cons (sd_cut (sd_set 6 S.nd (ed_tup (ea_cons ed_str (ea_cons (ed_tup (ea_cons ed_str (ea_cons (ed_tup (ea_cons ed_str (ea_cons (ed_name 4) ea_nil))) (ea_cons (ed_tup (ea_cons ed_str (ea_cons (ed_name 0) (ea_cons (ed_tup (ea_cons (ed_tup (ea_cons ed_str (ea_cons (ed_name 5) ea_nil))) (ea_cons (ed_tup (ea_cons ed_str (ea_cons (ed_name 3) ea_nil))) ea_nil))) ea_nil)))) ea_nil)))) ea_nil)))))
      (ss_cons (sd_cut (sd_set 7 S.nd (ed_tup (ea_cons (ed_name 0) (ea_cons (ed_tup (ea_cons (ed_tup (ea_cons (ed_name 2) (ea_cons ed_str ea_nil))) (ea_cons (ed_tup (ea_cons (ed_name 3) (ea_cons ed_str ea_nil))) ea_nil))) (ea_cons (ed_tup (ea_cons ed_str (ea_cons (ed_tup (ea_cons ed_int (ea_cons ed_int (ea_cons ed_int ea_nil)))) ea_nil))) (ea_cons (ed_tup (ea_cons ed_str (ea_cons (ed_name 2) (ea_cons (ed_tup (ea_cons ed_str (ea_cons (ed_tup (ea_cons ed_str (ea_cons (ed_name 3) ea_nil))) ea_nil))) (ea_cons (ed_name 4) (ea_cons (ed_name 5) (ea_cons (ed_name 6) ea_nil))))))) ea_nil)))))))
      (ss_cons (sd_cut (sd_set 8 S.nd (ed_tup (ea_cons ed_str (ea_cons (ed_tup (ea_cons ed_str (ea_cons (ed_name 3) ea_nil))) (ea_cons (ed_tup (ea_cons ed_str (ea_cons (ed_name 1) (ea_cons (ed_tup (ea_cons (ed_tup (ea_cons ed_str (ea_cons (ed_name 5) ea_nil))) ea_nil)) ea_nil)))) ea_nil))))))
      (ss_cons (sd_cut (sd_set 9 S.nd (ed_tup (ea_cons ed_str (ea_cons (ed_tup (ea_cons ed_str (ea_cons (ed_name 0) (ea_cons (ed_tup (ea_cons (ed_tup (ea_cons ed_str (ea_cons (ed_name 1) (ea_cons (ed_tup (ea_cons (ed_tup (ea_cons ed_str (ea_cons (ed_name 4) ea_nil))) ea_nil)) ea_nil)))) (ea_cons (ed_name 8) ea_nil))) ea_nil)))) ea_nil)))))
      (ss_one (sd_ret (ed_tup (ea_cons (ed_name 7) (ea_cons (ed_tup (ea_cons (ed_name 1) (ea_cons (ed_tup (ea_cons (ed_tup (ea_cons (ed_name 2) (ea_cons ed_str ea_nil))) ea_nil)) (ea_cons (ed_tup (ea_cons ed_str (ea_cons (ed_tup (ea_cons ed_int (ea_cons ed_int ea_nil))) ea_nil))) (ea_cons (ed_tup (ea_cons ed_str (ea_cons (ed_name 2) (ea_cons (ed_tup (ea_cons ed_str (ea_cons (ed_tup (ea_cons ed_str ea_nil)) ea_nil))) (ea_cons (ed_name 4) (ea_cons (ed_name 3) (ea_cons (ed_name 5) (ea_cons (ed_name 9) ea_nil)))))))) ea_nil))))) ea_nil))))))))), ?_⟩
  obtain ⟨f, g, x, y, h, t, rfl, hT⟩ := hT
  · skip
    refine cut_seq (fun ρ => ∃ d_full, pureD d_full ∧ ρ = [some (dv (.str f)), some (dv (.str g)), some (dv (.str x)), some (dv (.str y)), some (dv (.str h)), some (dv (.str t)), some (dv d_full), none, none, none]) ?_ ?_
    · walk_at "dl"
      exact ⟨_, by simp [pureD, pureDs, *], rfl⟩
    rintro _ ⟨d_full, p_full, rfl⟩
    refine cut_seq (fun ρ => ∃ r_onto, pureDs r_onto ∧ ρ = [some (dv (.str f)), some (dv (.str g)), some (dv (.str x)), some (dv (.str y)), some (dv (.str h)), some (dv (.str t)), some (dv d_full), some (dv (fnD f [(x, "list"), (y, "list")] r_onto)), none, none]) ?_ ?_
    · walk_at "dl"
      exact ⟨_, by simp [pureD, pureDs, *], rfl⟩
    rintro _ ⟨r_onto, p_onto, rfl⟩
    refine cut_seq (fun ρ => ∃ d_rest, pureD d_rest ∧ ρ = [some (dv (.str f)), some (dv (.str g)), some (dv (.str x)), some (dv (.str y)), some (dv (.str h)), some (dv (.str t)), some (dv d_full), some (dv (fnD f [(x, "list"), (y, "list")] r_onto)), some (dv d_rest), none]) ?_ ?_
    · walk_at "dl"
      exact ⟨_, by simp [pureD, pureDs, *], rfl⟩
    rintro _ ⟨d_rest, p_rest, rfl⟩
    refine cut_seq (fun ρ => ∃ d_body, pureD d_body ∧ ρ = [some (dv (.str f)), some (dv (.str g)), some (dv (.str x)), some (dv (.str y)), some (dv (.str h)), some (dv (.str t)), some (dv d_full), some (dv (fnD f [(x, "list"), (y, "list")] r_onto)), some (dv d_rest), some (dv d_body)]) ?_ ?_
    · walk_at "dl"
      exact ⟨_, by simp [pureD, pureDs, *], rfl⟩
    rintro _ ⟨d_body, p_body, rfl⟩
    have pf : pureD (fnD f [(x, "list"), (y, "list")] r_onto) := ⟨trivial, by simp [pureDs, pureD, prD], p_onto⟩
    generalize efn : fnD f [(x, "list"), (y, "list")] r_onto = F at *
    walk_at "dl"
    subst efn
    refine ⟨⟨pf, p_body⟩, hT _ ⟨_, _, [(x, "tree")], _, rfl, ⟨pf, by simp [pureD, pureDs, *], trivial⟩, par2 _ _ _ (.inr rfl), par1t _⟩⟩
theorem fd_law_pairing (T : Tops mg) (F : Fun K "_law_pairing" "_law_pairing" (top 30) f fd) (m : mg "_law_pairing" = some (.ref f)) : FD P w K mg base 1 "_law_pairing" ["_law_f", "_law_g", "_law_x", "_law_y", "_law_h", "_law_t"] tTempl := by
  have S : FnScope ["_law_f", "_law_g", "_law_x", "_law_y", "_law_h", "_law_t", "_law_full", "_law_one"] ["_law_f", "_law_g", "_law_x", "_law_y", "_law_h", "_law_t"] (defScope (top 30)) := ⟨rfl, rfl, rfl, by decide +kernel, rfl, by decide +kernel, by decide +kernel⟩
  refine fd_of F S (F.binds fun _ _ _ _ _ _ us hl => (by obtain ⟨_, _, _, _, _, _, rfl⟩ := lenN6 hl; rfl)) m fun cdv A outer s H E ds φ hr hl hT => ?_
  have hu := hr.units
  refine ⟨_, (ss_cons (sd_cut (sd_set 6 S.nd (ed_tup (ea_cons ed_str (ea_cons (ed_tup (ea_cons ed_str (ea_cons (ed_tup (ea_cons ed_str (ea_cons (ed_tup (ea_cons ed_str (ea_cons (ed_name 2) ea_nil))) (ea_cons (ed_tup (ea_cons ed_str (ea_cons (ed_name 4) ea_nil))) ea_nil)))) (ea_cons (ed_tup (ea_cons ed_str (ea_cons (ed_name 0) (ea_cons (ed_tup (ea_cons (ed_tup (ea_cons ed_str (ea_cons (ed_name 2) ea_nil))) (ea_cons (ed_tup (ea_cons ed_str (ea_cons (ed_name 5) ea_nil))) ea_nil))) ea_nil)))) ea_nil)))) ea_nil)))))
      (ss_cons (sd_cut (sd_set 7 S.nd (ed_tup (ea_cons (ed_name 0) (ea_cons (ed_tup (ea_cons (ed_tup (ea_cons (ed_name 2) (ea_cons ed_str ea_nil))) (ea_cons (ed_tup (ea_cons (ed_name 3) (ea_cons ed_str ea_nil))) ea_nil))) (ea_cons (ed_tup (ea_cons ed_str (ea_cons (ed_tup (ea_cons ed_int (ea_cons ed_int (ea_cons ed_int ea_nil)))) ea_nil))) (ea_cons (ed_tup (ea_cons ed_str (ea_cons (ed_name 3) (ea_cons (ed_tup (ea_cons ed_str (ea_cons (ed_tup (ea_cons ed_str (ea_cons ed_int ea_nil))) ea_nil))) (ea_cons (ed_name 4) (ea_cons (ed_name 5) (ea_cons (ed_name 6) ea_nil))))))) ea_nil)))))))
      (ss_cons (sd_cut (sd_set 6 S.nd (ed_tup (ea_cons ed_str (ea_cons (ed_tup (ea_cons ed_str (ea_cons (ed_tup (ea_cons ed_str (ea_cons (ed_name 0) (ea_cons (ed_tup (ea_cons (ed_tup (ea_cons ed_str (ea_cons (ed_name 4) ea_nil))) (ea_cons (ed_tup (ea_cons ed_str (ea_cons (ed_name 5) ea_nil))) ea_nil))) ea_nil)))) (ea_cons (ed_tup (ea_cons ed_str (ea_cons (ed_name 1) (ea_cons (ed_tup (ea_cons (ed_tup (ea_cons ed_str (ea_cons (ed_name 5) ea_nil))) ea_nil)) ea_nil)))) ea_nil)))) ea_nil)))))
      (ss_one (sd_ret (ed_tup (ea_cons (ed_name 7) (ea_cons (ed_tup (ea_cons (ed_name 1) (ea_cons (ed_tup (ea_cons (ed_tup (ea_cons (ed_name 3) (ea_cons ed_str ea_nil))) ea_nil)) (ea_cons (ed_tup (ea_cons ed_str (ea_cons (ed_tup (ea_cons ed_int (ea_cons ed_int ea_nil))) ea_nil))) (ea_cons (ed_tup (ea_cons ed_str (ea_cons (ed_name 3) (ea_cons (ed_tup (ea_cons ed_str (ea_cons (ed_tup (ea_cons ed_str (ea_cons ed_int ea_nil))) ea_nil))) (ea_cons (ed_name 4) (ea_cons (ed_name 5) (ea_cons (ed_name 6) ea_nil))))))) ea_nil))))) ea_nil)))))))), ?_⟩
  obtain ⟨f, g, x, y, h, t, rfl, hT⟩ := hT
  · skip
    refine cut_seq (fun ρ => ∃ d_full, pureD d_full ∧ ρ = [some (dv (.str f)), some (dv (.str g)), some (dv (.str x)), some (dv (.str y)), some (dv (.str h)), some (dv (.str t)), some (dv d_full), none]) ?_ ?_
    · walk_at "dl"
      exact ⟨_, by simp [pureD, pureDs, *], rfl⟩
    rintro _ ⟨d_full, p_full, rfl⟩
    refine cut_seq (fun ρ => ∃ r_one, pureDs r_one ∧ ρ = [some (dv (.str f)), some (dv (.str g)), some (dv (.str x)), some (dv (.str y)), some (dv (.str h)), some (dv (.str t)), some (dv d_full), some (dv (fnD f [(x, "num"), (y, "list")] r_one))]) ?_ ?_
    · walk_at "dl"
      exact ⟨_, by simp [pureD, pureDs, *], rfl⟩
    rintro _ ⟨r_one, p_one, rfl⟩
    refine cut_seq (fun ρ => ∃ d_full2, pureD d_full2 ∧ ρ = [some (dv (.str f)), some (dv (.str g)), some (dv (.str x)), some (dv (.str y)), some (dv (.str h)), some (dv (.str t)), some (dv d_full2), some (dv (fnD f [(x, "num"), (y, "list")] r_one))]) ?_ ?_
    · walk_at "dl"
      exact ⟨_, by simp [pureD, pureDs, *], rfl⟩
    rintro _ ⟨d_full2, p_full2, rfl⟩
    have pf : pureD (fnD f [(x, "num"), (y, "list")] r_one) := ⟨trivial, by simp [pureDs, pureD, prD], p_one⟩
    generalize efn : fnD f [(x, "num"), (y, "list")] r_one = F at *
    walk_at "dl"
    subst efn
    refine ⟨⟨pf, p_full2⟩, hT _ ⟨_, _, [(y, "list")], _, rfl, ⟨pf, by simp [pureD, pureDs, *], trivial⟩, par2 _ _ _ (.inl rfl), par1 _⟩⟩
end

set_option Elab.async false
set_option linter.all false
set_option maxRecDepth 100000
set_option maxHeartbeats 8000000
set_option exponentiation.threshold 5000
section
variable {P : Program} {w : World} {K : PySem.W.Frag} {mg : Str → Option Value} {base : Heap} {f : Addr} {fd : FuncData}

theorem str_codes (a : Str) (c : Nat) (b : Str) : (a ++ (⟨#[c]⟩ : Str) ++ b).cps.toList = a.cps.toList ++ [c] ++ b.cps.toList := by
  show (a.cps ++ #[c] ++ b.cps).toList = _
  simp
theorem nm_ne {a b : Str} {i j : Int} (h : abcAt i ≠ abcAt j) : nmS a b i ≠ nmS a b j := fun e => by
  have e2 := congrArg (fun s : Str => s.cps.toList) e
  unfold nmS at e2
  rw [str_codes, str_codes] at e2
  have e3 := List.append_cancel_right e2
  have e4 := List.append_cancel_left e3
  exact h (by simpa using e4)
theorem far_mod (c m : Int) (h0 : 0 ≤ m) (h1 : m < 20) : c.fmod 26 ≠ (c + 1 + m).fmod 26 := by
  rw [Int.fmod_eq_emod_of_nonneg _ (by decide), Int.fmod_eq_emod_of_nonneg _ (by decide)]
  omega
noncomputable def tPiece : FT := w1 fun _ φ => ∀ d f g, f ≠ g → Prg f g d → φ (dv d)
noncomputable def nmF (a b : Str) (c : Int) : D → Option D
  | .int k => some (.str (nmS a b (c + k)))
  | _ => none
theorem nm4 (a b : Str) (c : Int) : (rngD 0 4).filterMap (nmF a b c) = [.str (nmS a b (c + (0 + (0 : Nat)))), .str (nmS a b (c + (0 + (1 : Nat)))), .str (nmS a b (c + (0 + (2 : Nat)))), .str (nmS a b (c + (0 + (3 : Nat))))] := rfl
theorem fd_law_piece (T : Tops mg) (F__law_mark : FD P w K mg base 1 "_law_mark" ["_law_cell"] tMark) (F__law_name : FD P w K mg base 1 "_law_name" ["_law_mark_here", "_law_k"] tNameK) (F__law_sorting : FD P w K mg base 1 "_law_sorting" ["_law_f", "_law_g", "_law_x", "_law_y", "_law_h", "_law_t"] tTempl) (F__law_turning : FD P w K mg base 1 "_law_turning" ["_law_f", "_law_g", "_law_x", "_law_y", "_law_h", "_law_t"] tTempl) (F__law_telling : FD P w K mg base 1 "_law_telling" ["_law_f", "_law_g", "_law_x", "_law_y", "_law_h", "_law_t"] tTempl) (F__law_pairing : FD P w K mg base 1 "_law_pairing" ["_law_f", "_law_g", "_law_x", "_law_y", "_law_h", "_law_t"] tTempl) (F : Fun K "_law_piece" "_law_piece" (top 31) f fd) (m : mg "_law_piece" = some (.ref f)) : FD P w K mg base 2 "_law_piece" ["_law_cell"] tPiece := by
  have S : FnScope ["_law_cell", "_law_mark_here", "_law_f", "_law_g", "_law_x", "_law_y", "_law_h", "_law_t"] ["_law_cell"] (defScope (top 31)) := ⟨rfl, rfl, rfl, by decide +kernel, rfl, by decide +kernel, by decide +kernel⟩
  refine fd_of F S (F.binds fun _ _ _ _ _ _ us hl => (by obtain ⟨_, rfl⟩ := lenN1 hl; rfl)) m fun cdv A outer s H E ds φ hr hl hT => ?_
  have hu := hr.units
  refine ⟨_, (ss_cons (sd_cut (sd_set 1 S.nd (ed_call F__law_mark (hr.mono (by decide)) (ea_cons (ed_fd (ed_name 0) ed_int) ea_nil))))
      (ss_cons (sd_cut (sd_set 2 S.nd (ed_call F__law_name (hr.mono (by decide)) (ea_cons (ed_tup (ea_cons (ed_ixx hu (ed_name 1) ed_int) (ea_cons (ed_ixx hu (ed_name 1) ed_int) ea_nil))) (ea_cons (ed_fd (ed_name 0) ed_int) ea_nil)))))
      (ss_cons (sd_cut (sd_set 3 S.nd (ed_call F__law_name (hr.mono (by decide)) (ea_cons (ed_tup (ea_cons (ed_ixx hu (ed_name 1) ed_int) (ea_cons (ed_ixx hu (ed_name 1) ed_int) ea_nil))) (ea_cons (ed_add (ed_add (ed_fd (ed_name 0) ed_int) ed_int) (ed_mod (ed_fd (ed_name 0) ed_int) ed_int)) ea_nil)))))
      (ss_cons (sd_cut (sd_un (ed_comp (T := ["_law_k"]) (F := ["_law_mark_here", "_law_cell"]) (js := [1, 0]) (ei_range1 T.range (ea_cons ed_int ea_nil)) (show CompScope (defScope (top 31)) _ ["_law_k"] ["_law_mark_here", "_law_cell"] from ⟨rfl, by decide +kernel, by decide +kernel, by decide +kernel, by decide +kernel, by decide +kernel⟩) (.cons rfl (.cons rfl .nil)) (by decide) (fun cl C fp s H => (pg_name (i := 0) (show ((["_law_k"] : List Str) ++ (["_law_mark_here", "_law_cell"] : List Str)).Nodup by decide +kernel) rfl (by first | exact Or.inl rfl | exact Or.inr rfl))) (gk_name (by decide)) (gl_name 0) (fun cl C fp s H => eif_nil) (fun cl C fp s H => (ed_call F__law_name (hr.mono (by decide)) (ea_cons (ed_name 1) (ea_cons (ed_add (ed_fd (ed_name 2) ed_int) (ed_name 0)) ea_nil))))) (pg_lstK (K0 := K) (n := 4) (by rfl) (by rfl) (pgs_cons (pg_name (i := 4) S.nd rfl (by first | exact Or.inl rfl | exact Or.inr rfl)) (pgs_cons (pg_name (i := 5) S.nd rfl (by first | exact Or.inl rfl | exact Or.inr rfl)) (pgs_cons (pg_name (i := 6) S.nd rfl (by first | exact Or.inl rfl | exact Or.inr rfl)) (pgs_cons (pg_name (i := 7) S.nd rfl (by first | exact Or.inl rfl | exact Or.inr rfl)) pgs_nil))))) (gl_lst4 4 5 6 7)))
      (ss_cons (sd_if (et_eq hu (ed_mod (ed_name 0) ed_int) ed_int) (ss_one (sd_ret (ed_call F__law_sorting (hr.mono (by decide)) (ea_cons (ed_name 2) (ea_cons (ed_name 3) (ea_cons (ed_name 4) (ea_cons (ed_name 5) (ea_cons (ed_name 6) (ea_cons (ed_name 7) ea_nil))))))))) ss_nil)
      (ss_cons (sd_if (et_eq hu (ed_mod (ed_name 0) ed_int) ed_int) (ss_one (sd_ret (ed_call F__law_turning (hr.mono (by decide)) (ea_cons (ed_name 2) (ea_cons (ed_name 3) (ea_cons (ed_name 4) (ea_cons (ed_name 5) (ea_cons (ed_name 6) (ea_cons (ed_name 7) ea_nil))))))))) ss_nil)
      (ss_cons (sd_if (et_eq hu (ed_mod (ed_name 0) ed_int) ed_int) (ss_one (sd_ret (ed_call F__law_telling (hr.mono (by decide)) (ea_cons (ed_name 2) (ea_cons (ed_name 3) (ea_cons (ed_name 4) (ea_cons (ed_name 5) (ea_cons (ed_name 6) (ea_cons (ed_name 7) ea_nil))))))))) ss_nil)
      (ss_one (sd_ret (ed_call F__law_pairing (hr.mono (by decide)) (ea_cons (ed_name 2) (ea_cons (ed_name 3) (ea_cons (ed_name 4) (ea_cons (ed_name 5) (ea_cons (ed_name 6) (ea_cons (ed_name 7) ea_nil)))))))))))))))), ?_⟩
  obtain ⟨c, rfl, h⟩ := w1_of hT
  refine cut_seq (fun ρ => ∃ a b : Str, a.length ≤ 3 ∧ b.length ≤ 3 ∧ ρ = [some (dv (.int c)), some (dv (.tup [.str a, .str b])), none, none, none, none, none, none]) ?_ ?_
  · walk_at "dl"
    simp only [tMark, w1]
    exact ⟨of_eq_true (fd_lit (by decide) (by decide)), fun a b ha hb => ⟨trivial, a, b, ha, hb, rfl⟩⟩
  rintro _ ⟨a, b, ha, hb, rfl⟩
  refine cut_seq (fun ρ => ρ = [some (dv (.int c)), some (dv (.tup [.str a, .str b])), some (dv (.str (nmS b a (c.fdiv 8)))), none, none, none, none, none]) ?_ ?_
  · walk_at "dl"
    simp only [tNameK, g2]
    exact ⟨of_eq_true (fd_lit (by decide) (by decide)), b, a, _, rfl, rfl, hb, ha, trivial, rfl⟩
  rintro _ rfl
  refine cut_seq (fun ρ => ρ = [some (dv (.int c)), some (dv (.tup [.str a, .str b])), some (dv (.str (nmS b a (c.fdiv 8)))), some (dv (.str (nmS b a (c.fdiv 8 + 1 + (c.fdiv 4).fmod 20)))), none, none, none, none]) ?_ ?_
  · walk_at "dl"
    simp only [tNameK, g2]
    exact ⟨of_eq_true (fd_lit (by decide) (by decide)), of_eq_true (fd_lit (by decide) (by decide)), b, a, _, rfl, rfl, hb, ha, trivial, rfl⟩
  rintro _ rfl
  have m := mod_bd (c.fdiv 4) 20 (by decide)
  have hne := nm_ne (a := b) (b := a) (abc_ne (far_mod (c.fdiv 8) ((c.fdiv 4).fmod 20) m.1 m.2))
  generalize nmS b a (c.fdiv 8) = f at *
  generalize nmS b a (c.fdiv 8 + 1 + (c.fdiv 4).fmod 20) = g at *
  refine cut_seq (fun ρ => ∃ x y h t : Str, ρ = [some (dv (.int c)), some (dv (.tup [.str a, .str b])), some (dv (.str f)), some (dv (.str g)), some (dv (.str x)), some (dv (.str y)), some (dv (.str h)), some (dv (.str t))]) ?_ ?_
  · walk_at "dl"
    refine dComp_at (rngD 0 4) (fun ψ hψ => ?_) (nmF a b (c.fdiv 16)) (by decide) ?_ ?_
    · walk_at "dl"
      exact ⟨by decide, by decide, hψ⟩
    · intro d hd
      obtain ⟨i, hi⟩ := List.getElem?_of_mem hd
      obtain ⟨hi', rfl⟩ := rng_get hi
      simp only [ρ0, List.map_cons, List.map_nil, List.replicate, List.cons_append, List.nil_append]
      walk_at "dl"
      simp only [tNameK, g2]
      exact ⟨of_eq_true (fd_lit (by decide) (by decide)), a, b, _, rfl, rfl, ha, hb, trivial, rfl⟩
    · rw [nm4]
      walk_at "dl"
      exact ⟨_, _, _, _, rfl⟩
  rintro _ ⟨x, y, hh, t, rfl⟩
  walk_at "dl"
  simp only [tTempl]
  have go : ∀ d, Prg f g d → pureD d ∧ φ (dv d) := fun d hd => ⟨by obtain ⟨_, _, _, _, _, p, _⟩ := id hd; exact p, h d f g hne hd⟩
  have go2 := fun (q : List D) (x y z v : Str) (e : q = [.str f, .str g, .str x, .str y, .str z, .str v]) => (⟨f, g, x, y, z, v, e, go⟩ : ∃ f g x y h t : Str, q = [.str f, .str g, .str x, .str y, .str h, .str t] ∧ ∀ d, Prg f g d → pureD d ∧ φ (dv d))
  exact ⟨fun _ => go2 _ _ _ _ _ rfl, fun _ => ⟨fun _ => go2 _ _ _ _ _ rfl, fun _ => ⟨fun _ => go2 _ _ _ _ _ rfl, fun _ => go2 _ _ _ _ _ rfl⟩⟩⟩
end

set_option Elab.async false
set_option linter.all false
set_option maxRecDepth 100000
set_option maxHeartbeats 8000000
set_option exponentiation.threshold 5000
section
variable {P : Program} {w : World} {K : PySem.W.Frag} {mg : Str → Option Value} {base : Heap} {f : Addr} {fd : FuncData}

noncomputable def tTreeF (n : Nat) : FT := fun ds φ => match ds with
  | [.fd m, .int k] => 0 < m ∧ 0 ≤ k ∧ k.toNat < n ∧ ∀ d, IsTr d k.toNat → φ (dv d)
  | _ => False
theorem fd_law_tree {n : Nat} (T : Tops mg) (F__law_next : FD P w K mg base 1 "_law_next" ["_law_feed"] tNextF) (F__law_number : FD P w K mg base 1 "_law_number" ["_law_cell"] tNum) (F__law_tree : FD P w K mg base (n + 2) "_law_tree" ["_law_feed", "_law_many"] (tTreeF n)) (F : Fun K "_law_tree" "_law_tree" (top 32) f fd) (m : mg "_law_tree" = some (.ref f)) : FD P w K mg base (n + 3) "_law_tree" ["_law_feed", "_law_many"] (tTreeF (n + 1)) := by
  have S : FnScope ["_law_feed", "_law_many", "_law_left", "_law_one", "_law_number_here"] ["_law_feed", "_law_many"] (defScope (top 32)) := ⟨rfl, rfl, rfl, by decide +kernel, rfl, by decide +kernel, by decide +kernel⟩
  refine fd_of F S (F.binds fun _ _ _ _ _ _ us hl => (by obtain ⟨_, _, rfl⟩ := lenN2 hl; rfl)) m fun cdv A outer s H E ds φ hr hl hT => ?_
  have hu := hr.units
  refine ⟨_, (ss_cons (sd_cut (sd_if (et_eq hu (ed_name 1) ed_int) (ss_one (sd_ret ed_non)) ss_nil))
      (ss_cons (sd_cut (sd_set 2 S.nd (ed_mod (ed_call F__law_next (hr.mono (by omega)) (ea_cons (ed_name 0) ea_nil)) (ed_name 1))))
      (ss_cons (sd_cut (sd_set 3 S.nd (ed_call F__law_tree (hr.mono (by omega)) (ea_cons (ed_name 0) (ea_cons (ed_name 2) ea_nil)))))
      (ss_cons (sd_cut (sd_set 4 S.nd (ed_call F__law_number (hr.mono (by omega)) (ea_cons (ed_call F__law_next (hr.mono (by omega)) (ea_cons (ed_name 0) ea_nil)) ea_nil))))
      (ss_one (sd_ret (ed_tup (ea_cons (ed_name 3) (ea_cons (ed_name 4) (ea_cons (ed_call F__law_tree (hr.mono (by omega)) (ea_cons (ed_name 0) (ea_cons (ed_sub (ed_sub (ed_name 1) ed_int) (ed_name 2)) ea_nil))) ea_nil)))))))))), ?_⟩
  unfold tTreeF at hT
  split at hT
  · rename_i m k
    obtain ⟨m0, k0, kn, h⟩ := hT
    by_cases hz : k = 0
    · subst hz
      refine cut_seq (fun _ => False) ?_ ?_
      · walk_at "dl"
        exact h _ .leaf
      rintro _ z
      exact z.elim
    refine cut_seq (fun ρ => ρ = [some (dv (.fd m)), some (dv (.int k)), none, none, none]) ?_ ?_
    · walk_at "dl"
      exact fun z => absurd z hz
    rintro _ rfl
    refine cut_seq (fun ρ => ∃ j : Int, 0 ≤ j ∧ j < k ∧ ρ = [some (dv (.fd m)), some (dv (.int k)), some (dv (.int j)), none, none]) ?_ ?_
    · walk_at "dl"
      simp only [tNextF]
      refine ⟨m0, fun c c0 c1 => ?_⟩
      have mb := mod_bd c k (by omega)
      exact ⟨hz, _, mb.1, mb.2, rfl⟩
    rintro _ ⟨j, j0, j1, rfl⟩
    refine cut_seq (fun ρ => ∃ l, IsTr l j.toNat ∧ ρ = [some (dv (.fd m)), some (dv (.int k)), some (dv (.int j)), some (dv l), none]) ?_ ?_
    · walk_at "dl"
      simp only [tTreeF]
      refine ⟨m0, j0, by omega, fun l hl => ⟨trivial, l, hl, rfl⟩⟩
    rintro _ ⟨l, hl, rfl⟩
    refine cut_seq (fun ρ => ∃ x : Int, ρ = [some (dv (.fd m)), some (dv (.int k)), some (dv (.int j)), some (dv l), some (dv (.int x))]) ?_ ?_
    · walk_at "dl"
      simp only [tNextF, tNum, w1]
      exact ⟨m0, fun c c0 c1 x hx => ⟨trivial, x, rfl⟩⟩
    rintro _ ⟨x, rfl⟩
    have pl := hl.pure
    walk_at "dl"
    simp only [tTreeF]
    refine ⟨m0, by omega, by omega, fun r hr' => ?_⟩
    have e : k.toNat = j.toNat + (k - 1 - j).toNat + 1 := by omega
    rw [e] at h
    exact ⟨trivial, ⟨pl, hr'.pure⟩, h _ (.node hl hr')⟩
  · exact hT.elim

theorem fd_treeF (T : Tops mg) (F_n : FD P w K mg base 1 "_law_next" ["_law_feed"] tNextF) (F_m : FD P w K mg base 1 "_law_number" ["_law_cell"] tNum) (F : Fun K "_law_tree" "_law_tree" (top 32) f fd) (m : mg "_law_tree" = some (.ref f)) : ∀ n : Nat, FD P w K mg base (n + 2) "_law_tree" ["_law_feed", "_law_many"] (tTreeF n)
  | 0 => by
    have S : FnScope ["_law_feed", "_law_many", "_law_left", "_law_one", "_law_number_here"] ["_law_feed", "_law_many"] (defScope (top 32)) := ⟨rfl, rfl, rfl, by decide +kernel, rfl, by decide +kernel, by decide +kernel⟩
    refine fd_of F S (F.binds fun _ _ _ _ _ _ us hl => (by obtain ⟨_, _, rfl⟩ := lenN2 hl; rfl)) m fun cdv A outer s H E ds φ hr hl hT => ?_
    unfold tTreeF at hT
    split at hT
    · exact absurd hT.2.2.1 (Nat.not_lt_zero _)
    · exact hT.elim
  | n + 1 => fd_law_tree T F_n F_m (fd_treeF T F_n F_m F m n) F m
end

set_option Elab.async false
set_option linter.all false
set_option maxRecDepth 100000
set_option maxHeartbeats 8000000
set_option exponentiation.threshold 5000
section
variable {P : Program} {w : World} {K : PySem.W.Frag} {mg : Str → Option Value} {base : Heap} {f : Addr} {fd : FuncData}

noncomputable def tWorth : FT := g2 fun l s φ => ∃ (ps : List Part) (zs : List Int) (many : Nat), l = .tup (ps.map partD) ∧ s = .lst (nsD zs) ∧ zs.length = many ∧ many ≤ 16 ∧ ps.length ≤ 30 ∧ (∀ p ∈ ps, GP many p) ∧ (∀ z ∈ zs, intBits z ≤ 200) ∧ φ (dv (rD (rt (tb zs ps).1 (tb zs ps).2)))
theorem fd_law_worth (T : Tops mg) (F__law_ways_out : FD P w K mg base 1 "_law_ways_out" ["_law_size", "_law_power"] tWays) (F__law_divisor : FD P w K mg base 1 "_law_divisor" ["_law_one", "_law_other"] tDivA) (F : Fun K "_law_worth" "_law_worth" (top 36) f fd) (m : mg "_law_worth" = some (.ref f)) : FD P w K mg base 2 "_law_worth" ["_law_one", "_law_sizes"] tWorth := by
  have S : FnScope ["_law_one", "_law_sizes", "_law_top", "_law_bottom", "_law_powers", "_law_number_here", "_law_part", "_law_size", "_law_power", "_law_by"] ["_law_one", "_law_sizes"] (defScope (top 36)) := ⟨rfl, rfl, rfl, by decide +kernel, rfl, by decide +kernel, by decide +kernel⟩
  refine fd_of F S (F.binds fun _ _ _ _ _ _ us hl => (by obtain ⟨_, _, rfl⟩ := lenN2 hl; rfl)) m fun cdv A outer s H E ds φ hr hl hT => ?_
  have hu := hr.units
  refine ⟨_, (ss_cons (sd_cut (sd_set 2 S.nd ed_int))
      (ss_cons (sd_cut (sd_set 3 S.nd ed_int))
      (ss_cons (sd_cut (sd_for (ei_seq (ed_name 0)) (pg_tupK (K0 := K) (n := 2) (by rfl) (by rfl) (pgs_cons (pg_name (i := 4) S.nd rfl (by first | exact Or.inl rfl | exact Or.inr rfl)) (pgs_cons (pg_name (i := 5) S.nd rfl (by first | exact Or.inl rfl | exact Or.inr rfl)) pgs_nil))) (gl_tup2 4 5) (ss_cons (sd_cut (sd_set 6 S.nd (ed_ixx hu (ed_name 5) ed_int)))
        (ss_cons (sd_cut (sd_for (ei_zip T.zip (ea_cons (ed_name 1) (ea_cons (ed_name 4) ea_nil))) (pg_tupK (K0 := K) (n := 2) (by rfl) (by rfl) (pgs_cons (pg_name (i := 7) S.nd rfl (by first | exact Or.inl rfl | exact Or.inr rfl)) (pgs_cons (pg_name (i := 8) S.nd rfl (by first | exact Or.inl rfl | exact Or.inr rfl)) pgs_nil))) (gl_tup2 7 8) (ss_one (sd_set 6 S.nd (ed_mul (ed_name 6) (ed_call F__law_ways_out (hr.mono (by decide)) (ea_cons (ed_name 7) (ea_cons (ed_name 8) ea_nil))))))))
        (ss_cons (sd_set 2 S.nd (ed_add (ed_mul (ed_name 2) (ed_ixx hu (ed_name 5) ed_int)) (ed_mul (ed_name 6) (ed_name 3))))
        (ss_one (sd_set 3 S.nd (ed_mul (ed_name 3) (ed_ixx hu (ed_name 5) ed_int)))))))))
      (ss_cons (sd_cut (sd_set 9 S.nd (ed_call F__law_divisor (hr.mono (by decide)) (ea_cons (ed_name 2) (ea_cons (ed_name 3) ea_nil)))))
      (ss_one (sd_ret (ed_tup (ea_cons (ed_fd (ed_name 2) (ed_name 9)) (ea_cons (ed_fd (ed_name 3) (ed_name 9)) ea_nil))))))))), ?_⟩
  obtain ⟨l, sd, rfl, ps, zs, many, rfl, rfl, hzl, hm, hpl, hp, hz, h⟩ := f2_of hT
  refine cut_seq (fun ρ => ρ = [some (dv (.tup (ps.map partD))), some (dv (.lst (nsD zs))), some (dv (.int 0)), none, none, none, none, none, none, none]) ?_ ?_
  · walk_at "dl"
    try rfl
  rintro _ rfl
  refine cut_seq (fun ρ => ρ = [some (dv (.tup (ps.map partD))), some (dv (.lst (nsD zs))), some (dv (.int 0)), some (dv (.int 1)), none, none, none, none, none, none]) ?_ ?_
  · walk_at "dl"
  rintro _ rfl
  refine cut_seq (fun ρ => ∃ a4 a5 a6 a7 a8, ρ = [some (dv (.tup (ps.map partD))), some (dv (.lst (nsD zs))), some (dv (.int (tb zs ps).1)), some (dv (.int (tb zs ps).2)), a4, a5, a6, a7, a8, none]) ?_ ?_
  · refine sFor_at (ps.map partD) (fun ψ hψ => ?_) (fun i ρ => ∃ a4 a5 a6 a7 a8, ρ = [some (dv (.tup (ps.map partD))), some (dv (.lst (nsD zs))), some (dv (.int (tb zs (ps.take i)).1)), some (dv (.int (tb zs (ps.take i)).2)), a4, a5, a6, a7, a8, none]) ⟨none, none, none, none, none, rfl⟩ ?_ ?_
    · walk_at "dl"
      exact hψ
    · rintro i d ρ hd ⟨a4, a5, a6, a7, a8, rfl⟩
      rw [List.getElem?_map] at hd
      obtain ⟨p, ep, rfl⟩ := Option.map_eq_some_iff.mp hd
      have hi := (List.getElem?_eq_some_iff.mp ep).1
      have g := hp p (List.mem_of_getElem? ep)
      obtain ⟨t1, t2, t3⟩ := tb_ok hm hz hp i (by omega)
      unfold gT2 partD
      dsimp only
      refine (show sSeq _ _ _ _ from ?_)
      refine cut_seq (fun ρ => ρ = [some (dv (.tup (ps.map partD))), some (dv (.lst (nsD zs))), some (dv (.int (tb zs (ps.take i)).1)), some (dv (.int (tb zs (ps.take i)).2)), some (dv (.tup (nsD p.1))), some (dv (rD p.2)), some (dv (.int p.2.1)), a7, a8, none]) ?_ ?_
      · unfold rD
        walk_at "dl"
        rfl
      rintro _ rfl
      refine cut_seq (fun ρ => ∃ a7 a8, ρ = [some (dv (.tup (ps.map partD))), some (dv (.lst (nsD zs))), some (dv (.int (tb zs (ps.take i)).1)), some (dv (.int (tb zs (ps.take i)).2)), some (dv (.tup (nsD p.1))), some (dv (rD p.2)), some (dv (.int (wy (zs.zip p.1) p.2.1))), a7, a8, none]) ?_ ?_
      · refine sFor_at (zipD (nsD zs) (nsD p.1)) (fun ψ hψ => ?_) (fun j ρ => ∃ a7 a8, ρ = [some (dv (.tup (ps.map partD))), some (dv (.lst (nsD zs))), some (dv (.int (tb zs (ps.take i)).1)), some (dv (.int (tb zs (ps.take i)).2)), some (dv (.tup (nsD p.1))), some (dv (rD p.2)), some (dv (.int (wy ((zs.zip p.1).take j) p.2.1))), a7, a8, none]) ⟨_, _, rfl⟩ ?_ ?_
        · walk_at "dl"
          exact hψ
        · rintro j d ρ hd ⟨a7, a8, rfl⟩
          obtain ⟨z, n, rfl, ezn⟩ := zip_get hd
          obtain ⟨q1, q2, q3⟩ := g.okz hz _ (List.mem_of_getElem? ezn)
          have b1 := wy_bits ((zs.zip p.1).take j) p.2.1 135 g.t fun q hq => g.okz hz q (List.mem_of_mem_take hq)
          have b2 := wb_take (zs.zip p.1) j
          have b3 := g.wb hm zs
          have b4 := ch_bits q1 n.toNat (by dsimp only at q2 q3; omega)
          rw [wy_succ ezn]
          dsimp only at q1 q2 q3 b4 ⊢
          walk_at "dl"
          simp only [tWays, w2]
          exact ⟨n.toNat, by omega, by omega, q1, mulOk (Nat.le_trans b1 (by omega)) (Nat.le_trans b4 (by omega)), _, _, rfl⟩
        · rintro ρ ⟨a7, a8, rfl⟩
          rw [zip_len (by rw [hzl, g.len]), List.take_length]
          exact ⟨a7, a8, rfl⟩
      rintro _ ⟨a7, a8, rfl⟩
      have wb1 := Nat.le_trans (wy_bits (zs.zip p.1) p.2.1 135 g.t (g.okz hz)) (Nat.add_le_add_left (g.wb hm zs) 135)
      rw [tb_succ ep]
      unfold tbF
      generalize wy (zs.zip p.1) p.2.1 = w at *
      generalize tb zs (ps.take i) = s at *
      unfold rD
      walk_at "dl"
      exact ⟨mulOk (Nat.le_trans t2 (by omega)) (Nat.le_trans g.b (by decide)), mulOk (Nat.le_trans wb1 (by decide)) (Nat.le_trans t3 (by omega)), mulOk (Nat.le_trans t3 (by omega)) (Nat.le_trans g.b (by decide)), _, _, _, _, _, rfl⟩
    · rintro ρ ⟨a4, a5, a6, a7, a8, rfl⟩
      rw [List.length_map, List.take_length]
      exact ⟨_, _, _, _, _, rfl⟩
  rintro _ ⟨a4, a5, a6, a7, a8, rfl⟩
  obtain ⟨t1, t2, t3⟩ := tb_ok hm hz hp ps.length (Nat.le_refl _)
  rw [List.take_length] at t1 t2 t3
  generalize tb zs ps = s at *
  refine cut_seq (fun ρ => ρ = [some (dv (.tup (ps.map partD))), some (dv (.lst (nsD zs))), some (dv (.int s.1)), some (dv (.int s.2)), a4, a5, a6, a7, a8, some (dv (.int (Int.gcd s.1 s.2)))]) ?_ ?_
  · walk_at "dl"
    simp only [tDivA, w2]
    exact ⟨trivial, trivial⟩
  rintro _ rfl
  walk_at "dl"
  have eg : (Int.gcd s.1 s.2 : Int) = sg s.1 s.2 := by
    unfold sg
    rw [if_neg (by omega)]
  have hs : intBits (sg s.1 s.2) ≤ 2900 := bits_le (y := s.2) (by
    have h1 : (sg s.1 s.2).natAbs ∣ s.2.natAbs := by
      unfold sg
      rw [if_neg (by omega), Int.natAbs_natCast]
      exact Int.gcd_dvd_natAbs_right s.1 s.2
    exact Nat.le_of_dvd (by omega) h1) (Nat.le_trans t3 (by omega))
  rw [eg]
  exact ⟨fdOk (m := 2900) (sg_ne (by omega)) hs, fdOk (m := 2900) (sg_ne (by omega)) hs, h⟩
end

set_option Elab.async false
set_option linter.all false
set_option maxRecDepth 100000
set_option maxHeartbeats 8000000
set_option exponentiation.threshold 5000
section
variable {P : Program} {w : World} {K : PySem.W.Frag} {mg : Str → Option Value} {base : Heap} {f : Addr} {fd : FuncData}
noncomputable def kz (k : List Int) : TK := k.map Sum.inl
theorem kz_inj {a b : List Int} (h : kz a = kz b) : a = b := List.map_inj_right (fun a b e => Sum.inl.inj e) |>.mp h
theorem kz_mem {es : List (List Int)} {k : List Int} : kz k ∈ es.map kz ↔ k ∈ es := by
  rw [List.mem_map]
  exact ⟨fun ⟨a, h, e⟩ => kz_inj e ▸ h, fun h => ⟨k, h, rfl⟩⟩
noncomputable def putE (es : List (List Int)) (k : List Int) : List (List Int) := if k ∈ es then es else es ++ [k]
theorem kput_F (es : List (List Int)) (k : List Int) : kputT (es.map kz) (kz k) = (putE es k).map kz := by
  unfold kputT putE
  by_cases m : k ∈ es
  · rw [if_pos (kz_mem.mpr m), if_pos m]
  · rw [if_neg (fun z => m (kz_mem.mp z)), if_neg m, List.map_append]
    rfl
theorem dput_F (f : List Int → D) (k : List Int) (v : D) : ∀ es : List (List Int), es.Nodup → dputT (es.map kz) (es.map f) (kz k) v = (putE es k).map fun x => if x = k then v else f x
  | [], _ => by simp [dputT, putE]
  | a :: es, nd => by
    obtain ⟨n1, n2⟩ := List.nodup_cons.mp nd
    rw [List.map_cons, List.map_cons, dputT]
    by_cases e : a = k
    · subst e
      rw [if_pos rfl]
      unfold putE
      rw [if_pos List.mem_cons_self, List.map_cons, if_pos rfl]
      congr 1
      exact List.map_congr_left fun x hx => by rw [if_neg (show ¬ x = a from fun z => n1 (z ▸ hx))]
    · rw [if_neg (fun z => e (kz_inj z)), dput_F f k v es n2]
      unfold putE
      by_cases m : k ∈ es
      · rw [if_pos m, if_pos (List.mem_cons_of_mem _ m), List.map_cons, if_neg e]
      · rw [if_neg m, if_neg (by simp [m, Ne.symm e]), List.cons_append, List.map_cons, if_neg e]
theorem putE_nodup {es : List (List Int)} {k : List Int} (nd : es.Nodup) : (putE es k).Nodup := by
  unfold putE
  split
  · exact nd
  · rename_i h
    exact List.nodup_append.mpr ⟨nd, by simp, by intro a ha b hb e; simp at hb; subst hb; exact h (e ▸ ha)⟩
theorem putE_mem {es : List (List Int)} {k x : List Int} : x ∈ putE es k ↔ x ∈ es ∨ x = k := by
  unfold putE
  split
  · rename_i h
    exact ⟨.inl, fun z => z.elim id fun e => e ▸ h⟩
  · simp
theorem putE_len {es : List (List Int)} {k : List Int} : (putE es k).length ≤ es.length + 1 := by
  unfold putE
  split
  · omega
  · simp
noncomputable def kI (p : Part) : TK := p.1.map Sum.inl
theorem look_of : ∀ {ps : List Part} {p : Part}, (ps.map kI).Nodup → p ∈ ps → lookAT (ps.map kI) (ps.map fun p => rD p.2) (kI p) = some (rD p.2)
  | [], _, _, h => nomatch h
  | q :: ps, p, nd, h => by
    rw [List.map_cons, List.map_cons, lookAT]
    obtain ⟨n1, n2⟩ := List.nodup_cons.mp nd
    rcases List.mem_cons.mp h with rfl | h
    · rw [if_pos rfl]
    · rw [if_neg (show ¬ kI q = kI p from fun z => n1 (z ▸ List.mem_map.mpr ⟨p, h, rfl⟩))]
      exact look_of n2 h
theorem tk_part (p : Part) : tkD (kI p) = .tup (nsD p.1) := tk_ints p.1
theorem dComp_all {ti : TID} {n : Nat} {js : List Nat} {g : TGD} {tc : TDb} {te : TD} {ρ : DE} {φ : EV → Prop} (P : List D → Prop) (h : ∀ ψ : List D → Prop, (∀ ds, P ds → ψ ds) → ti ρ ψ)
    (hall : ∀ ds, P ds → ∃ f : D → Option D, ds.length ≤ 100000 ∧ (∀ d ∈ ds, g d (ρ0 n js ρ) fun ρ' => tc ρ' fun c => (c = true → te ρ' fun r => (match r.k with | .own => False | _ => True) ∧ f d = some r.d) ∧ (c = false → f d = none)) ∧ φ (df (.lst (ds.filterMap f)))) : dComp ti n js g tc te ρ φ := h _ hall
noncomputable def prF (ps : List Part) : D → Option D
  | d => match keyT d with
    | some k => (lookAT (ps.map kI) (ps.map fun p => rD p.2) k).map fun s => .tup [d, s]
    | none => none
theorem prF_at {ps : List Part} {p : Part} (nd : (ps.map kI).Nodup) (h : p ∈ ps) : prF ps (tkD (kI p)) = some (.tup [tkD (kI p), rD p.2]) := by
  unfold prF
  dsimp only
  rw [keyT_tk]
  dsimp only
  rw [look_of nd h]
  rfl
theorem prF_all {ps : List Part} (nd : (ps.map kI).Nodup) : ∀ qs : List Part, (∀ p ∈ qs, p ∈ ps) → (qs.map fun p => tkD (kI p)).filterMap (prF ps) = qs.map partD
  | [], _ => rfl
  | q :: qs, h => by
    rw [List.map_cons, List.filterMap_cons, prF_at nd (h q List.mem_cons_self), prF_all nd qs fun p hp => h p (List.mem_cons_of_mem _ hp), tk_part]
    rfl

noncomputable def tGath : FT := g2 fun p c φ => ∃ (ps : List (Str × Str)) (cells : List Int), p = .tup (ps.map prD) ∧ Par ps ∧ c = .lst (nsD cells) ∧ cells.length ≤ 30 ∧ ∀ us, OkS ps.length us → φ (dv (.tup (us.map partD)))
noncomputable def mkP (es : List (List Int)) (f : List Int → Int × Int) : List Part := es.map fun k => (k, f k)
theorem mk_kI (es : List (List Int)) (f : List Int → Int × Int) : (mkP es f).map kI = es.map kz := by
  unfold mkP
  rw [List.map_map]
  rfl
theorem mk_rD (es : List (List Int)) (f : List Int → Int × Int) : ((mkP es f).map fun p => rD p.2) = es.map fun k => rD (f k) := by
  unfold mkP
  rw [List.map_map]
  rfl
theorem mk_nodup {es : List (List Int)} {f : List Int → Int × Int} (nd : es.Nodup) : ((mkP es f).map kI).Nodup := by
  rw [mk_kI]
  exact List.Pairwise.map _ (fun a b h e => h (kz_inj e)) nd
noncomputable def dtI (es : List (List Int)) (f : List Int → Int × Int) : D := .dt (es.map kz) (es.map fun k => rD (f k))
noncomputable def upF (f : List Int → Int × Int) (k : List Int) (s : Int × Int) : List Int → Int × Int := fun x => if x = k then s else f x
theorem dtI_put {es : List (List Int)} (nd : es.Nodup) (f : List Int → Int × Int) (k : List Int) (s : Int × Int) : D.dt (kputT (es.map kz) (kz k)) (dputT (es.map kz) (es.map fun k => rD (f k)) (kz k) (rD s)) = dtI (putE es k) (upF f k s) := by
  unfold dtI
  rw [kput_F, dput_F (fun k => rD (f k)) k _ es nd]
  congr 1
  refine List.map_congr_left fun x _ => ?_
  unfold upF
  split <;> rfl
theorem keyT_nsz (ns : List Int) : keyT (.tup (nsD ns)) = some (kz ns) := keyT_ints ns
theorem fd_law_gathered (T : Tops mg) (F__law_number : FD P w K mg base 1 "_law_number" ["_law_cell"] tNum) (F__law_divisor : FD P w K mg base 1 "_law_divisor" ["_law_one", "_law_other"] tDivA) (F : Fun K "_law_gathered" "_law_gathered" (top 34) f fd) (m : mg "_law_gathered" = some (.ref f)) : FD P w K mg base 2 "_law_gathered" ["_law_params", "_law_cells"] tGath := by
  have S : FnScope ["_law_params", "_law_cells", "_law_found", "_law_cell", "_law_powers", "_law_left", "_law_name_here", "_law_shape", "_law_power", "_law_top", "_law_by"] ["_law_params", "_law_cells"] (defScope (top 34)) := ⟨rfl, rfl, rfl, by decide +kernel, rfl, by decide +kernel, by decide +kernel⟩
  refine fd_of F S (F.binds fun _ _ _ _ _ _ us hl => (by obtain ⟨_, _, rfl⟩ := lenN2 hl; rfl)) m fun cdv A outer s H E ds φ hr hl hT => ?_
  have hu := hr.units
  refine ⟨_, (ss_cons (sd_cut (sd_set 2 S.nd ed_dict0T))
      (ss_cons (sd_cut (sd_for (ei_seq (ed_name 1)) (pg_name (i := 3) S.nd rfl (by first | exact Or.inl rfl | exact Or.inr rfl)) (gl_name 3) (ss_cons (sd_cut (sd_set 4 S.nd (ed_lst ea_nil)))
        (ss_cons (sd_cut (sd_set 5 S.nd ed_int))
        (ss_cons (sd_cut (sd_for (ei_seq (ed_name 0)) (pg_tupK (K0 := K) (n := 2) (by rfl) (by rfl) (pgs_cons (pg_name (i := 6) S.nd rfl (by first | exact Or.inl rfl | exact Or.inr rfl)) (pgs_cons (pg_name (i := 7) S.nd rfl (by first | exact Or.inl rfl | exact Or.inr rfl)) pgs_nil))) (gl_tup2 6 7) (ss_cons (sd_set 8 S.nd (ed_mul (ed_mod (ed_name 3) (ed_add (ed_name 5) ed_int)) (ed_intC T.int (ea_cons (ed_ne hu (ed_name 7) ed_str) ea_nil))))
          (ss_cons (sd_set 3 S.nd (ed_fd (ed_name 3) ed_int))
          (ss_cons (sd_set 5 S.nd (ed_sub (ed_name 5) (ed_name 8)))
          (ss_one (sd_append 4 (ed_name 8))))))))
        (ss_cons (sd_cut (sd_set 9 S.nd (ed_call F__law_number (hr.mono (by decide)) (ea_cons (ed_fd (ed_name 3) ed_int) ea_nil))))
        (ss_cons (sd_cut (sd_set 10 S.nd (ed_call F__law_divisor (hr.mono (by decide)) (ea_cons (ed_name 9) (ea_cons (ed_add ed_int (ed_mod (ed_name 3) ed_int)) ea_nil)))))
        (ss_one (sd_if (et_gt (ed_name 9) ed_int) (ss_one (sd_dputT 2 hu (ed_tupleC T.tuple (ea_cons (ed_name 4) ea_nil)) (ed_tup (ea_cons (ed_fd (ed_name 9) (ed_name 10)) (ea_cons (ed_fd (ed_add ed_int (ed_mod (ed_name 3) ed_int)) (ed_name 10)) ea_nil))))) ss_nil)))))))))
      (ss_one (sd_ret (ed_tupleC T.tuple (ea_cons (ed_comp (T := ["_law_powers"]) (F := ["_law_found"]) (js := [2]) (ei_seq (ed_sortedT T.sorted (ea_cons (ed_name 2) ea_nil))) (show CompScope (defScope (top 34)) _ ["_law_powers"] ["_law_found"] from ⟨rfl, by decide +kernel, by decide +kernel, by decide +kernel, by decide +kernel, by decide +kernel⟩) (.cons rfl .nil) (by decide) (fun cl C fp s H => (pg_name (i := 0) (show ((["_law_powers"] : List Str) ++ (["_law_found"] : List Str)).Nodup by decide +kernel) rfl (by first | exact Or.inl rfl | exact Or.inr rfl))) (gk_name (by decide)) (gl_name 0) (fun cl C fp s H => eif_nil) (fun cl C fp s H => (ed_tup (ea_cons (ed_name 0) (ea_cons (ed_ixT hu (ed_name 1) (ed_name 0)) ea_nil))))) ea_nil)))))), ?_⟩
  obtain ⟨p0, c0, rfl, ps, cells, rfl, hps, rfl, hcl, h⟩ := f2_of hT
  obtain ⟨l1, l2, hsh⟩ := hps
  refine cut_seq (fun ρ => ∃ es f, es = [] ∧ ρ = [some (dv (.tup (ps.map prD))), some (dv (.lst (nsD cells))), some (dO (dtI es f)), none, none, none, none, none, none, none, none]) ?_ ?_
  · walk_at "dl"
    exact ⟨[], fun _ => (0, 1), rfl, rfl⟩
  rintro _ ⟨es, f, e0, rfl⟩
  refine cut_seq (fun ρ => ∃ (es : List (List Int)) (f : List Int → Int × Int) (a3 a4 a5 a6 a7 a8 a9 a10 : Option EV), es.Nodup ∧ es.length ≤ 30 ∧ (∀ k ∈ es, GP ps.length (k, f k)) ∧ ρ = [some (dv (.tup (ps.map prD))), some (dv (.lst (nsD cells))), some (dO (dtI es f)), a3, a4, a5, a6, a7, a8, a9, a10]) ?_ ?_
  · refine sFor_at (nsD cells) (fun ψ hψ => ?_) (fun i ρ => ∃ (es : List (List Int)) (f : List Int → Int × Int) (a3 a4 a5 a6 a7 a8 a9 a10 : Option EV), es.Nodup ∧ es.length ≤ i ∧ (∀ k ∈ es, GP ps.length (k, f k)) ∧ ρ = [some (dv (.tup (ps.map prD))), some (dv (.lst (nsD cells))), some (dO (dtI es f)), a3, a4, a5, a6, a7, a8, a9, a10]) ⟨es, f, none, none, none, none, none, none, none, none, by rw [e0]; exact List.nodup_nil, by rw [e0]; exact Nat.le_refl _, by rw [e0]; exact fun _ z => (nomatch z), rfl⟩ ?_ ?_
    · walk_at "dl"
      exact hψ
    · rintro i d ρ hd ⟨es, f, a3, a4, a5, a6, a7, a8, a9, a10, nd, hl, hp, rfl⟩
      unfold nsD at hd
      rw [List.getElem?_map] at hd
      obtain ⟨c, ec, rfl⟩ := Option.map_eq_some_iff.mp hd
      have hi := (List.getElem?_eq_some_iff.mp ec).1
      refine cut_seq (fun ρ => ρ = [some (dv (.tup (ps.map prD))), some (dv (.lst (nsD cells))), some (dO (dtI es f)), some (dv (.int c)), some (dO (.lst [])), a5, a6, a7, a8, a9, a10]) ?_ ?_
      · walk_at "dl"
        try rfl
      rintro _ rfl
      refine cut_seq (fun ρ => ρ = [some (dv (.tup (ps.map prD))), some (dv (.lst (nsD cells))), some (dO (dtI es f)), some (dv (.int c)), some (dO (.lst [])), some (dv (.int 3)), a6, a7, a8, a9, a10]) ?_ ?_
      · walk_at "dl"
      rintro _ rfl
      refine cut_seq (fun ρ => ∃ (c' left : Int) (ns : List Int) (a6 a7 a8 : Option EV), ns.length = ps.length ∧ (∀ n ∈ ns, 0 ≤ n) ∧ ns.sum ≤ 3 ∧ ρ = [some (dv (.tup (ps.map prD))), some (dv (.lst (nsD cells))), some (dO (dtI es f)), some (dv (.int c')), some (dO (.lst (nsD ns))), some (dv (.int left)), a6, a7, a8, a9, a10]) ?_ ?_
      · refine sFor_at (ps.map prD) (fun ψ hψ => ?_) (fun j ρ => ∃ (c' left : Int) (ns : List Int) (a6 a7 a8 : Option EV), ns.length = j ∧ (∀ n ∈ ns, 0 ≤ n) ∧ ns.sum + left = 3 ∧ 0 ≤ left ∧ ρ = [some (dv (.tup (ps.map prD))), some (dv (.lst (nsD cells))), some (dO (dtI es f)), some (dv (.int c')), some (dO (.lst (nsD ns))), some (dv (.int left)), a6, a7, a8, a9, a10]) ⟨c, 3, [], a6, a7, a8, rfl, (fun _ z => nomatch z), by decide, by decide, rfl⟩ ?_ ?_
        · walk_at "dl"
          exact hψ
        · rintro j d ρ hd ⟨c', left, ns, a6, a7, a8, hnl, hn, hsum, hleft, rfl⟩
          rw [List.getElem?_map] at hd
          obtain ⟨q, eq, rfl⟩ := Option.map_eq_some_iff.mp hd
          have hj := (List.getElem?_eq_some_iff.mp eq).1
          have mb := mod_bd c' (left + 1) (by omega)
          have po : 0 ≤ c'.fmod (left + 1) * (if ¬q.2 = ("num" : Str) then 1 else 0) ∧ c'.fmod (left + 1) * (if ¬q.2 = ("num" : Str) then 1 else 0) ≤ left := by
            split
            · omega
            · omega
          have mo : IntMulOk (c'.fmod (left + 1)) (if ¬q.2 = ("num" : Str) then 1 else 0) := IntMulOk.of_right (by split <;> decide)
          unfold prD
          walk_at "dl"
          refine ⟨by omega, mo, of_eq_true (fd_lit (by decide) (by decide)), by unfold nsD; rw [List.length_map]; omega, ?_⟩
          generalize c'.fmod (left + 1) * (if ¬q.2 = ("num" : Str) then 1 else 0) = pw at *
          refine ⟨_, _, ns ++ [pw], _, _, _, by rw [List.length_append, hnl]; rfl, fun n hn' => ?_, ?_, ?_, by unfold nsD; rw [List.map_append]; rfl⟩
          · rcases List.mem_append.mp hn' with z | z
            · exact hn n z
            · rw [List.mem_singleton.mp z]; exact po.1
          · rw [List.sum_append, List.sum_singleton]
            omega
          · omega
        · rintro ρ ⟨c', left, ns, a6, a7, a8, hnl, hn, hsum, hleft, rfl⟩
          rw [List.length_map] at hnl
          exact ⟨c', left, ns, a6, a7, a8, hnl, hn, by omega, rfl⟩
      rintro _ ⟨c', left, ns, a6, a7, a8, hnl, hn, hsum, rfl⟩
      refine cut_seq (fun ρ => ∃ t : Int, t.natAbs ≤ 10 ^ 24 ∧ ρ = [some (dv (.tup (ps.map prD))), some (dv (.lst (nsD cells))), some (dO (dtI es f)), some (dv (.int c')), some (dO (.lst (nsD ns))), some (dv (.int left)), a6, a7, a8, some (dv (.int t)), a10]) ?_ ?_
      · walk_at "dl"
        simp only [tNum, w1]
        exact ⟨of_eq_true (fd_lit (by decide) (by decide)), fun t ht => ⟨trivial, t, ht, rfl⟩⟩
      rintro _ ⟨t, ht, rfl⟩
      have mb := mod_bd c' 30 (by decide)
      refine cut_seq (fun ρ => ρ = [some (dv (.tup (ps.map prD))), some (dv (.lst (nsD cells))), some (dO (dtI es f)), some (dv (.int c')), some (dO (.lst (nsD ns))), some (dv (.int left)), a6, a7, a8, some (dv (.int t)), some (dv (.int (Int.gcd t (1 + c'.fmod 30))))]) ?_ ?_
      · walk_at "dl"
        simp only [tDivA, w2]
        exact ⟨trivial, trivial⟩
      rintro _ rfl
      generalize hb : 1 + c'.fmod 30 = bt at *
      have b0 : 0 < bt := by omega
      have b1 : bt ≤ 30 := by omega
      have eg : (Int.gcd t bt : Int) = sg t bt := by
        unfold sg
        rw [if_neg (by omega)]
      have hbt : intBits bt ≤ 67 := bitsOf (by omega)
      have htb : intBits t ≤ 135 := bitsOf (by omega)
      have hs : intBits (sg t bt) ≤ 67 := bits_le (y := bt) (by
        have h1 : (sg t bt).natAbs ∣ bt.natAbs := by
          unfold sg
          rw [if_neg (by omega), Int.natAbs_natCast]
          exact Int.gcd_dvd_natAbs_right t bt
        exact Nat.le_of_dvd (by omega) h1) hbt
      have r := rt_ok (t := t) (b := bt) (by omega)
      have ep := dtI_put nd f ns (rt t bt)
      have gp : GP ps.length (ns, rt t bt) := ⟨hnl, hn, hsum, r.pos, r.one, bits_le r.lp htb, bits_le r.lq hbt⟩
      rw [eg]
      unfold dtI
      walk_at "dl"
      rw [hb]
      have ep' : D.dt (kputT (es.map kz) (kz ns)) (dputT (es.map kz) (es.map fun k => rD (f k)) (kz ns) (D.tup [D.int (t.fdiv (sg t bt)), D.int (bt.fdiv (sg t bt))])) = dtI (putE es ns) (upF f ns (rt t bt)) := ep
      refine ⟨fun ht0 => ⟨fdOk (m := 67) (sg_ne (by omega)) hs, fdOk (m := 67) (sg_ne (by omega)) hs, by omega, ?_⟩, fun _ => ⟨es, f, _, _, _, _, _, _, _, _, nd, by omega, hp, rfl⟩⟩
      simp only [keyT_nsz]
      rw [ep']
      refine ⟨putE es ns, upF f ns (rt t bt), _, _, _, _, _, _, _, _, putE_nodup nd, Nat.le_trans putE_len (by omega), fun k hk => ?_, rfl⟩
      unfold upF
      by_cases hkn : k = ns
      · subst hkn
        rw [if_pos rfl]
        exact gp
      · rw [if_neg hkn]
        rcases putE_mem.mp hk with z | z
        · exact hp k z
        · exact absurd z hkn
    · rintro ρ ⟨es, f, a3, a4, a5, a6, a7, a8, a9, a10, nd, hl, hp, rfl⟩
      exact ⟨es, f, a3, a4, a5, a6, a7, a8, a9, a10, nd, Nat.le_trans hl (by unfold nsD; rw [List.length_map]; exact hcl), hp, rfl⟩
  rintro _ ⟨es, f, a3, a4, a5, a6, a7, a8, a9, a10, nde, hle, hpe, rfl⟩
  have nd := mk_nodup (f := f) nde
  have hl : (mkP es f).length ≤ 30 := by unfold mkP; rw [List.length_map]; exact hle
  have hp : ∀ p ∈ mkP es f, GP ps.length p := fun p mp => by
    obtain ⟨k, mk, rfl⟩ := List.mem_map.mp mp
    exact hpe k mk
  unfold dtI
  rw [← mk_kI es f, ← mk_rD es f]
  generalize mkP es f = us at *
  walk_at "dl"
  refine dComp_all (fun ds => ∃ qs : List Part, qs.Perm us ∧ ds = qs.map fun p => tkD (kI p)) (fun ψ hψ => ?_) fun ds hds => ?_
  · walk_at "dl"
    refine ⟨by omega, fun k hk => ?_, fun h2 k hk => ?_, fun ks' pk => ?_⟩
    · obtain ⟨p, _, rfl⟩ := List.mem_map.mp hk
      exact ⟨p.1, rfl⟩
    · obtain ⟨p, mp, rfl⟩ := List.mem_map.mp hk
      intro z
      have hz : ps.length = 0 := by
        have := (hp p mp).len
        unfold kI at z
        rw [List.map_eq_nil_iff.mp z] at this
        exact this.symm
      omega
    · obtain ⟨qs, pq, eq⟩ := perm_lift pk.symm us rfl
      exact hψ _ ⟨qs, pq, by rw [← eq, List.map_map]; rfl⟩
  · obtain ⟨qs, pq, rfl⟩ := hds
    refine ⟨prF us, by rw [List.length_map, pq.length_eq]; omega, fun d hd => ?_, ?_⟩
    · obtain ⟨p, mp, rfl⟩ := List.mem_map.mp hd
      have el := look_of nd (pq.mem_iff.mp mp)
      simp only [ρ0, List.map_cons, List.map_nil, List.replicate, List.cons_append, List.nil_append]
      walk_at "dl"
      rw [el]
      exact prF_at nd (pq.mem_iff.mp mp)
    · have e := prF_all nd qs fun p mp => pq.mem_iff.mp mp
      rw [e]
      walk_at "dl"
      exact ⟨pure_parts qs, h qs ⟨by rw [pq.length_eq]; exact hl, fun p mp => hp p (pq.mem_iff.mp mp)⟩⟩
end

set_option Elab.async false
set_option linter.all false
set_option maxRecDepth 100000
set_option maxHeartbeats 8000000
set_option exponentiation.threshold 5000
section
variable {P : Program} {w : World} {K : PySem.W.Frag} {mg : Str → Option Value} {base : Heap} {f : Addr} {fd : FuncData}

noncomputable def MM : Int := 2147483647
noncomputable def ArgsOk (ps : List (Str × Str)) (i : Nat) (as : List D) : Prop := as.length = i ∧ (∀ (j : Nat) q a, ps[j]? = some q → as[j]? = some a → SzOk q.2 a) ∧ ∀ a ∈ as, pureD a ∧ okD 20 a
theorem args_snoc {ps : List (Str × Str)} {i : Nat} {as : List D} {q : Str × Str} {a : D} (h : ArgsOk ps i as) (eq : ps[i]? = some q) (s : SzOk q.2 a) (p : pureD a) (o : okD 20 a) : ArgsOk ps (i + 1) (as ++ [a]) := by
  obtain ⟨l, h1, h2⟩ := h
  refine ⟨by rw [List.length_append, l]; rfl, fun j q' a' e1 e2 => ?_, fun x hx => ?_⟩
  · by_cases hj : j < as.length
    · rw [List.getElem?_append_left hj] at e2
      exact h1 j q' a' e1 e2
    · have hj' : j = as.length := by
        have := (List.getElem?_eq_some_iff.mp e2).1
        simp at this
        omega
      subst hj'
      have e3 : a = a' := by simpa using e2
      subst e3
      rw [l, eq] at e1
      cases e1
      exact s
  · rcases List.mem_append.mp hx with hx | hx
    · exact h2 x hx
    · rw [List.mem_singleton.mp hx]; exact ⟨p, o⟩
theorem sizes_snoc : ∀ {ps : List (Str × Str)} {as : List D} {q : Str × Str} {a : D}, ps[as.length]? = some q → sizesF ps (as ++ [a]) = sizesF ps as ++ [sizeF q.2 a]
  | [], as, q, a, h => by simp at h
  | p :: ps, [], q, a, h => by
    have : p = q := by simpa using h
    subst this
    cases ps <;> rfl
  | p :: ps, b :: as, q, a, h => by
    show sizeF p.2 b :: sizesF ps (as ++ [a]) = sizeF p.2 b :: (sizesF ps as ++ [sizeF q.2 a])
    rw [sizes_snoc (ps := ps) (as := as) (q := q) (a := a) (by simpa using h)]
theorem okD_up : ∀ {n : Nat} {d : D}, okD n d → okD (n + 1) d
  | 0, d, h => by
    cases d <;> first | trivial | exact h.elim
  | n + 1, d, h => by
    cases d with
    | tup ds => exact fun x hx => okD_up (h x hx)
    | lst ds => exact fun x hx => okD_up (h x hx)
    | non => trivial
    | bl _ => trivial
    | int _ => trivial
    | str _ => trivial
    | _ => exact h.elim
theorem okD_le {n m : Nat} {d : D} (h : okD n d) (l : n ≤ m) : okD m d := by
  obtain ⟨k, rfl⟩ : ∃ k, m = n + k := ⟨m - n, by omega⟩
  clear l
  induction k with
  | zero => exact h
  | succ k ih => exact okD_up ih
theorem tr_ok {d : D} {n : Nat} (h : IsTr d n) : okD n d := by
  induction h with
  | leaf => trivial
  | @node l r a b m h1 h2 i1 i2 =>
    show ∀ x ∈ [l, .int m, r], okD (a + b) x
    intro x hx
    simp only [List.mem_cons, List.not_mem_nil, or_false] at hx
    rcases hx with rfl | rfl | rfl
    · exact okD_le i1 (by omega)
    · cases a + b <;> trivial
    · exact okD_le i2 (by omega)
theorem part_ok (p : Part) : okD 2 (partD p) := by
  show ∀ x ∈ [D.tup (nsD p.1), rD p.2], okD 1 x
  intro x hx
  simp only [List.mem_cons, List.not_mem_nil, or_false] at hx
  rcases hx with rfl | rfl
  · show ∀ y ∈ nsD p.1, okD 0 y
    intro y hy
    obtain ⟨n, _, rfl⟩ := List.mem_map.mp hy
    trivial
  · show ∀ y ∈ [D.int p.2.1, D.int p.2.2], okD 0 y
    intro y hy
    simp only [List.mem_cons, List.not_mem_nil, or_false] at hy
    rcases hy with rfl | rfl <;> trivial
noncomputable def valD (u v : List Part) : D := .tup [.tup (u.map partD), .tup (v.map partD)]
theorem val_ok (u v : List Part) : okD 20 (valD u v) := by
  refine okD_le (n := 4) ?_ (by decide)
  show ∀ x ∈ [D.tup (u.map partD), D.tup (v.map partD)], okD 3 x
  intro x hx
  simp only [List.mem_cons, List.not_mem_nil, or_false] at hx
  rcases hx with rfl | rfl
  · show ∀ y ∈ u.map partD, okD 2 y
    intro y hy
    obtain ⟨n, _, rfl⟩ := List.mem_map.mp hy
    exact part_ok n
  · show ∀ y ∈ v.map partD, okD 2 y
    intro y hy
    obtain ⟨n, _, rfl⟩ := List.mem_map.mp hy
    exact part_ok n
noncomputable def PapOk (f g : Str) (m n : Nat) (i : Nat) (ks : List Key) (vs : List D) : Prop := match i with
  | 0 => ks = [] ∧ vs = []
  | 1 => ks = [Sum.inr f] ∧ ∃ u v, OkS m u ∧ OkS m v ∧ vs = [valD u v]
  | _ => ks = [Sum.inr f, Sum.inr g] ∧ ∃ u v u' v', OkS m u ∧ OkS m v ∧ OkS n u' ∧ OkS n v' ∧ vs = [valD u v, valD u' v']
theorem range2_len (a b : Int) (n : Nat) (h0 : 0 ≤ a) (h1 : b ≤ n) : (sliceRange a b 2).length ≤ (n + 1) / 2 := by
  unfold sliceRange
  rw [List.length_map, List.length_range, if_pos (by decide)]
  split <;> omega
theorem pick_len (xs : List Int) (lo hi : Option Int) : (pickBy xs lo hi (some 2)).length ≤ (xs.length + 1) / 2 := by
  unfold pickBy
  refine Nat.le_trans (List.length_filterMap_le _ _) ?_
  refine range2_len _ _ _ ?_ ?_
  · cases lo with
    | none => exact Int.le_refl _
    | some i => exact Int.le_max_left _ _
  · cases hi with
    | none => exact Int.le_refl _
    | some i => exact Int.max_le.mpr ⟨by omega, Int.min_le_right _ _⟩
end

set_option Elab.async false
set_option linter.all false
set_option maxRecDepth 100000
set_option maxHeartbeats 8000000
set_option exponentiation.threshold 5000
section
variable {P : Program} {w : World} {K : PySem.W.Frag} {mg : Str → Option Value} {base : Heap} {f : Addr} {fd : FuncData}

noncomputable def fdF : D → Option D
  | .int n => some (.int ((n.fmod (10 ^ 30) * 48271).fmod 2147483647))
  | _ => none
theorem fd_all (xs : List Int) : (xs.map D.int).filterMap fdF = (xs.map fun n => (n.fmod (10 ^ 30) * 48271).fmod 2147483647).map D.int := by
  rw [List.filterMap_map, List.map_map]
  exact congrFun (List.filterMap_eq_map (f := fun n : Int => D.int ((n.fmod (10 ^ 30) * 48271).fmod 2147483647))) xs
noncomputable def ptF : D → Option D
  | .int n => some (.int (n.fmod (10 ^ 60)))
  | _ => none
theorem pt_all (xs : List Int) : (xs.map D.int).filterMap ptF = nsD (xs.map fun n => n.fmod (10 ^ 60)) := by
  unfold nsD
  rw [List.filterMap_map, List.map_map]
  exact congrFun (List.filterMap_eq_map (f := fun n : Int => D.int (n.fmod (10 ^ 60)))) xs
theorem sizes_bits {ps : List (Str × Str)} {as : List D} (h : ∀ (j : Nat) q a, ps[j]? = some q → as[j]? = some a → SzOk q.2 a) : ∀ x ∈ sizesF ps as, intBits x ≤ 200 := fun x hx => by
  obtain ⟨i, hi⟩ := List.getElem?_of_mem hx
  unfold sizesF at hi
  rw [List.getElem?_zipWith] at hi
  cases e1 : ps[i]? with
  | none => rw [e1] at hi; cases hi
  | some q =>
    cases e2 : as[i]? with
    | none => rw [e1, e2] at hi; cases hi
    | some a =>
      rw [e1, e2] at hi
      have := (Option.some.inj hi).symm
      subst this
      exact size_bits _ _ (h i q a e1 e2)
theorem pap_step {f g : Str} {fp gp : List (Str × Str)} {fr gr : List D} {i : Nat} {ks : List Key} {vs : List D} (hfg : f ≠ g) (h1 : Par fp) (h2 : Par gp) (hi : i < 2) (hp : PapOk f g fp.length gp.length i ks vs) :
    ∃ z0 p0 r0, atI [fnD f fp fr, fnD g gp gr] (i : Int) = some (fnD z0 p0 r0) ∧ Par p0 ∧ vs.length ≤ 2 ∧ ∀ u v, OkS p0.length u → OkS p0.length v → PapOk f g fp.length gp.length (i + 1) (kput ks (Sum.inr z0)) (dput ks vs (Sum.inr z0) (valD u v)) := by
  have : i = 0 ∨ i = 1 := by omega
  rcases this with rfl | rfl
  · obtain ⟨rfl, rfl⟩ := hp
    exact ⟨f, fp, fr, at0, h1, by simp, fun u v hu hv => ⟨rfl, u, v, hu, hv, rfl⟩⟩
  · obtain ⟨rfl, u0, v0, o1, o2, rfl⟩ := hp
    refine ⟨g, gp, gr, at1, h2, by simp, fun u v hu hv => ?_⟩
    have hn : (Sum.inr g : Key) ∉ [(Sum.inr f : Key)] := by
      simp
      exact Ne.symm hfg
    refine ⟨?_, u0, v0, u, v, o1, o2, hu, hv, ?_⟩
    · unfold kput
      rw [if_neg hn]
      rfl
    · rw [dput_new (xs := [valD u0 v0]) rfl hn]
      rfl
theorem ok_law (T : Tops mg) (F_bound_of : FD P w K mg base 5 "bound_of" ["program", "paper", "name", "args"] tBound) (F__law_cell_at : FD P w K mg base 1 "_law_cell_at" ["_law_script", "_law_k"] tCellS) (F__law_next : FD P w K mg base 1 "_law_next" ["_law_feed"] tNextF) (F__law_piece : FD P w K mg base 2 "_law_piece" ["_law_cell"] tPiece) (F__law_number : FD P w K mg base 1 "_law_number" ["_law_cell"] tNum) (F__law_tree : FD P w K mg base 15 "_law_tree" ["_law_feed", "_law_many"] (tTreeF 13)) (F__law_gathered : FD P w K mg base 2 "_law_gathered" ["_law_params", "_law_cells"] tGath) (F__law_worth : FD P w K mg base 2 "_law_worth" ["_law_one", "_law_sizes"] tWorth) (F__law_is : FD P w K mg base 2 "_law_is" ["_law_found", "_law_due"] tIs) (F : Fun K "law" "law" (top 38) f fd) : FnOk P w K mg base CX0 20 f fd ["_law_script"] (spD K 1 lawT) := by
  have S : FnScope ["_law_script", "_law_cell", "_law_program", "_law_function", "_law_feed", "_law_args", "_law_sizes", "_law_name_here", "_law_shape", "_law_size", "_law_paper", "_law_k", "_law_parts", "_law_price", "_law_handed", "_law_found", "_law_one", "_law_due"] ["_law_script"] (defScope (top 38)) := ⟨rfl, rfl, rfl, by decide +kernel, rfl, by decide +kernel, by decide +kernel⟩
  refine fn_okD F S fun cdv A outer s H E ds φ hr hl hT => ?_
  have hu := hr.units
  refine ⟨_, (ss_cons (sd_cut (sd_set 1 S.nd (ed_mod (ed_call F__law_cell_at (hr.mono (by decide)) (ea_cons (ed_name 0) (ea_cons ed_int ea_nil))) (ed_pow ed_int ed_int))))
      (ss_cons (sd_cut (sd_set 2 S.nd (ed_call F__law_piece (hr.mono (by decide)) (ea_cons (ed_name 1) ea_nil))))
      (ss_cons (sd_cut (sd_set 3 S.nd (ed_ixx hu (ed_name 2) (ed_mod (ed_call F__law_cell_at (hr.mono (by decide)) (ea_cons (ed_name 0) (ea_cons ed_int ea_nil))) ed_int))))
      (ss_cons (sd_cut (sd_set 4 S.nd (ed_comp (T := ["_law_number_here"]) (F := []) (js := []) (ei_seq (ed_slice (ed_name 0) (eo_some ed_int) (eo_some ed_int))) (show CompScope (defScope (top 38)) _ ["_law_number_here"] [] from ⟨rfl, by decide +kernel, by decide +kernel, by decide +kernel, by decide +kernel, by decide +kernel⟩) .nil (by decide) (fun cl C fp s H => (pg_name (i := 0) (show ((["_law_number_here"] : List Str) ++ ([] : List Str)).Nodup by decide +kernel) rfl (by first | exact Or.inl rfl | exact Or.inr rfl))) (gk_name (by decide)) (gl_name 0) (fun cl C fp s H => eif_nil) (fun cl C fp s H => (ed_mod (ed_mul (ed_mod (ed_name 0) (ed_pow ed_int ed_int)) ed_int) ed_int)))))
      (ss_cons (sd_cut (sd_feed 4 MM (sd_set 5 S.nd (ed_lst ea_nil))))
      (ss_cons (sd_cut (sd_set 6 S.nd (ed_lst ea_nil)))
      (ss_cons (sd_cut (sd_for (ei_seq (ed_ixx hu (ed_name 3) ed_int)) (pg_tupK (K0 := K) (n := 2) (by rfl) (by rfl) (pgs_cons (pg_name (i := 7) S.nd rfl (by first | exact Or.inl rfl | exact Or.inr rfl)) (pgs_cons (pg_name (i := 8) S.nd rfl (by first | exact Or.inl rfl | exact Or.inr rfl)) pgs_nil))) (gl_tup2 7 8) (ss_cons (sd_cut (sd_set 9 S.nd (ed_mul (ed_mod (ed_call F__law_next (hr.mono (by decide)) (ea_cons (ed_name 4) ea_nil)) ed_int) (ed_intC T.int (ea_cons (ed_ne hu (ed_name 8) ed_str) ea_nil)))))
        (ss_cons (sd_cut (sd_append 6 (ed_name 9)))
        (ss_one (sd_if (et_eq hu (ed_name 8) ed_str) (ss_one (sd_append 5 (ed_call F__law_tree (hr.mono (by decide)) (ea_cons (ed_name 4) (ea_cons (ed_name 9) ea_nil))))) (ss_one (sd_if (et_eq hu (ed_name 8) ed_str) (ss_one (sd_append 5 (ed_tupleC T.tuple (ea_cons (ed_compP (T := ["_law_k"]) (F := ["_law_feed"]) (js := [4]) (ei_range1 T.range (ea_cons (ed_name 9) ea_nil)) (show CompScope (defScope (top 38)) _ ["_law_k"] ["_law_feed"] from ⟨rfl, by decide +kernel, by decide +kernel, by decide +kernel, by decide +kernel, by decide +kernel⟩) (.cons rfl .nil) (by decide) (fun cl C fp s H => (pg_name (i := 0) (show ((["_law_k"] : List Str) ++ (["_law_feed"] : List Str)).Nodup by decide +kernel) rfl (by first | exact Or.inl rfl | exact Or.inr rfl))) (gk_name (by decide)) (gl_name 0) (fun cl C fp s H => eif_nil) (fun cl C fp s H => (ed_call F__law_number (hr.mono (by decide)) (ea_cons (ed_call F__law_next (hr.mono (by decide)) (ea_cons (ed_name 1) ea_nil)) ea_nil)))) ea_nil)))) (ss_one (sd_append 5 (ed_call F__law_number (hr.mono (by decide)) (ea_cons (ed_call F__law_next (hr.mono (by decide)) (ea_cons (ed_name 4) ea_nil)) ea_nil))))))))))))
      (ss_cons (sd_cut (sd_set 10 S.nd ed_dict0))
      (ss_cons (sd_cut (sd_for (ei_range1 T.range (ea_cons ed_int ea_nil)) (pg_name (i := 11) S.nd rfl (by first | exact Or.inl rfl | exact Or.inr rfl)) (gl_name 11) (ss_cons (sd_cut (sd_setComp (T := ["_law_number_here"]) (F := []) (js := []) 12 S.nd (ei_seq (ed_step (ed_name 0) (eo_some (ed_add ed_int (ed_name 11))) (eo_some ed_int) (eo_some ed_int))) (show CompScope (defScope (top 38)) _ ["_law_number_here"] [] from ⟨rfl, by decide +kernel, by decide +kernel, by decide +kernel, by decide +kernel, by decide +kernel⟩) .nil (by decide) (fun cl C fp s H => (pg_name (i := 0) (show ((["_law_number_here"] : List Str) ++ ([] : List Str)).Nodup by decide +kernel) rfl (by first | exact Or.inl rfl | exact Or.inr rfl))) (gk_name (by decide)) (gl_name 0) (fun cl C fp s H => eif_nil) (fun cl C fp s H => (ed_mod (ed_name 0) (ed_pow ed_int ed_int)))))
        (ss_cons (sd_cut (sd_set 13 S.nd (ed_call F__law_gathered (hr.mono (by decide)) (ea_cons (ed_ixx hu (ed_ixx hu (ed_name 2) (ed_name 11)) ed_int) (ea_cons (ed_step (ed_name 12) eo_none eo_none (eo_some ed_int)) ea_nil)))))
        (ss_one (sd_dput 10 hu (ed_ixx hu (ed_ixx hu (ed_name 2) (ed_name 11)) ed_int) (ed_tup (ea_cons (ed_name 13) (ea_cons (ed_call F__law_gathered (hr.mono (by decide)) (ea_cons (ed_ixx hu (ed_ixx hu (ed_name 2) (ed_name 11)) ed_int) (ea_cons (ed_step (ed_name 12) (eo_some ed_int) eo_none (eo_some ed_int)) ea_nil))) ea_nil)))))))))
      (ss_cons (sd_cut (sd_set 14 S.nd (ed_lst (ea_cons (ed_dictC T.dict (ea_cons (ed_name 10) ea_nil)) (ea_cons (ed_listC T.list (ea_cons (ed_name 5) ea_nil)) ea_nil)))))
      (ss_cons (sd_cut (sd_set 15 S.nd (ed_call F_bound_of (hr.mono (by decide)) (ea_cons (ed_name 2) (ea_cons (ed_ixx hu (ed_name 14) ed_int) (ea_cons (ed_ixx hu (ed_name 3) ed_int) (ea_cons (ed_ixx hu (ed_name 14) ed_int) ea_nil)))))))
      (ss_cons (sd_cut (sd_frz 5 (sd_frz 10 (sd_if (EW.et (ew_or (et_not (et_val (ed_isinst T.isinstance (ea_cons (ed_name 15) (ea_cons (ed_ty T.tuple boot_tuple') ea_nil))))) (ew_or (et_ne hu (ed_len T.len (ea_cons (ed_name 15) ea_nil)) ed_int) (ew_or1 (et_neQ hu (ed_name 14) (ed_lst (ea_cons (ed_name 10) (ea_cons (ed_name 5) ea_nil)))))))) (ss_one (sd_ret ed_bl)) ss_nil))))
      (ss_cons (sd_cut (sd_for (ei_zip T.zip (ea_cons (ed_name 15) (ea_cons (ed_ixx hu (ed_name 10) (ed_ixx hu (ed_name 3) ed_int)) ea_nil))) (pg_tupK (K0 := K) (n := 2) (by rfl) (by rfl) (pgs_cons (pg_name (i := 16) S.nd rfl (by first | exact Or.inl rfl | exact Or.inr rfl)) (pgs_cons (pg_name (i := 17) S.nd rfl (by first | exact Or.inl rfl | exact Or.inr rfl)) pgs_nil))) (gl_tup2 16 17) (ss_one (sd_if (et_not (et_val (ed_call F__law_is (hr.mono (by decide)) (ea_cons (ed_name 16) (ea_cons (ed_call F__law_worth (hr.mono (by decide)) (ea_cons (ed_name 17) (ea_cons (ed_name 6) ea_nil))) ea_nil))))) (ss_one (sd_ret ed_bl)) ss_nil))))
      (ss_one (sd_ret ed_bl))))))))))))))), ?_⟩
  obtain ⟨ns, rfl, hn, h⟩ := hT
  refine cut_seq (fun ρ => ∃ c : Int, ρ = [some (dv (.scr ns)), some (dv (.int c)), none, none, none, none, none, none, none, none, none, none, none, none, none, none, none, none]) ?_ ?_
  · walk_at "dl"
    simp only [tCellS]
    exact ⟨by decide, fun c => ⟨by decide, _, rfl⟩⟩
  rintro _ ⟨c, rfl⟩
  refine cut_seq (fun ρ => ∃ f fp fr g gp gr, f ≠ g ∧ pureD (.tup [fnD f fp fr, fnD g gp gr]) ∧ Par fp ∧ Par gp ∧ ρ = [some (dv (.scr ns)), some (dv (.int c)), some (dv (.tup [fnD f fp fr, fnD g gp gr])), none, none, none, none, none, none, none, none, none, none, none, none, none, none, none]) ?_ ?_
  · walk_at "dl"
    simp only [tPiece, w1]
    intro d f g hfg hd
    obtain ⟨fp, fr, gp, gr, rfl, pd, p1, p2⟩ := hd
    exact ⟨trivial, f, fp, fr, g, gp, gr, hfg, ⟨pd.1, pd.2.1⟩, p1, p2, rfl⟩
  rintro _ ⟨f, fp, fr, g, gp, gr, hfg, pd, pfp, pgp, rfl⟩
  refine cut_seq (fun ρ => ∃ z ps r, ((z = f ∧ ps = fp ∧ r = fr) ∨ (z = g ∧ ps = gp ∧ r = gr)) ∧ ρ = [some (dv (.scr ns)), some (dv (.int c)), some (dv (.tup [fnD f fp fr, fnD g gp gr])), some (dv (fnD z ps r)), none, none, none, none, none, none, none, none, none, none, none, none, none, none]) ?_ ?_
  · walk_at "dl"
    simp only [tCellS]
    refine ⟨by decide, fun c' => ?_⟩
    have m := mod_bd c' 2 (by decide)
    have e : c'.fmod 2 = 0 ∨ c'.fmod 2 = 1 := by omega
    rcases e with e | e
    · rw [e, at0]
      exact ⟨by decide, f, fp, fr, .inl ⟨rfl, rfl, rfl⟩, rfl⟩
    · rw [e, at1]
      exact ⟨by decide, g, gp, gr, .inr ⟨rfl, rfl, rfl⟩, rfl⟩
  rintro _ ⟨z, ps, r, hz, rfl⟩
  have hpar : Par ps := by
    rcases hz with ⟨_, rfl, _⟩ | ⟨_, rfl, _⟩
    · exact pfp
    · exact pgp
  have hlook : Look (.tup [fnD f fp fr, fnD g gp gr]) z ps := ⟨f, fp, fr, g, gp, gr, rfl, pd, hfg, hz.imp (fun q => ⟨q.1, q.2.1⟩) fun q => ⟨q.1, q.2.1⟩⟩
  obtain ⟨pl1, pl2, psh⟩ := id hpar
  refine cut_seq (fun ρ => ∃ fs : List Int, inR MM fs ∧ ρ = [some (dv (.scr ns)), some (dv (.int c)), some (dv (.tup [fnD f fp fr, fnD g gp gr])), some (dv (fnD z ps r)), some (dO (.lst (fs.map D.int))), none, none, none, none, none, none, none, none, none, none, none, none, none]) ?_ ?_
  · walk_at "dl"
    have ecut : cutD (ns.map D.int) (some 2) (some 34) = ((ns.drop 2).take 32).map D.int := by
      have := cutD_mid (ns.map D.int) 2 34
      rw [← List.map_drop, ← List.map_take] at this
      exact this
    have hxl : ((ns.drop 2).take 32).length ≤ 32 := by rw [List.length_take]; omega
    generalize (ns.drop 2).take 32 = xs at *
    refine dComp_at (xs.map D.int) (fun ψ hψ => ?_) fdF (by rw [List.length_map]; omega) ?_ ?_
    · walk_at "dl"
      rw [ecut]
      exact hψ
    · intro d hd
      obtain ⟨n, _, rfl⟩ := List.mem_map.mp hd
      simp only [ρ0, List.map_cons, List.map_nil, List.replicate, List.cons_append, List.nil_append]
      walk_at "dl"
      exact ⟨IntMulOk.of_right (by decide), rfl⟩
    · rw [fd_all]
      walk_at "dl"
      refine ⟨_, ⟨by rw [List.length_map]; omega, (fun z => absurd z (by decide)), fun n hn' _ => ?_⟩, rfl⟩
      obtain ⟨y, _, rfl⟩ := List.mem_map.mp hn'
      exact mod_bd _ _ (by decide)
  rintro _ ⟨fs, hfs, rfl⟩
  refine cut_seq (fun ρ => ρ = [some (dv (.scr ns)), some (dv (.int c)), some (dv (.tup [fnD f fp fr, fnD g gp gr])), some (dv (fnD z ps r)), some (dv (.fd MM)), some (dO (.lst [])), none, none, none, none, none, none, none, none, none, none, none, none]) ?_ ?_
  · refine ⟨fs, rfl, hfs, ?_⟩
    walk_at "dl"
  rintro _ rfl
  refine cut_seq (fun ρ => ρ = [some (dv (.scr ns)), some (dv (.int c)), some (dv (.tup [fnD f fp fr, fnD g gp gr])), some (dv (fnD z ps r)), some (dv (.fd MM)), some (dO (.lst [])), some (dO (.lst [])), none, none, none, none, none, none, none, none, none, none, none]) ?_ ?_
  · walk_at "dl"
  rintro _ rfl
  refine cut_seq (fun ρ => ∃ as a7 a8 a9, ArgsOk ps ps.length as ∧ ρ = [some (dv (.scr ns)), some (dv (.int c)), some (dv (.tup [fnD f fp fr, fnD g gp gr])), some (dv (fnD z ps r)), some (dv (.fd MM)), some (dO (.lst as)), some (dO (.lst (nsD (sizesF ps as)))), a7, a8, a9, none, none, none, none, none, none, none, none]) ?_ ?_
  · refine sFor_at (ps.map prD) (fun ψ hψ => ?_) (fun i ρ => ∃ as a7 a8 a9, ArgsOk ps i as ∧ ρ = [some (dv (.scr ns)), some (dv (.int c)), some (dv (.tup [fnD f fp fr, fnD g gp gr])), some (dv (fnD z ps r)), some (dv (.fd MM)), some (dO (.lst as)), some (dO (.lst (nsD (sizesF ps as)))), a7, a8, a9, none, none, none, none, none, none, none, none]) ⟨[], none, none, none, ⟨rfl, (fun j q a _ e => by simp at e), fun _ z => nomatch z⟩, ?_⟩ ?_ ?_
    · unfold fnD
      walk_at "dl"
      exact hψ
    · cases ps <;> rfl
    · rintro i d ρ hd ⟨as, a7, a8, a9, hA, rfl⟩
      rw [List.getElem?_map] at hd
      obtain ⟨q, eq, rfl⟩ := Option.map_eq_some_iff.mp hd
      have hi := (List.getElem?_eq_some_iff.mp eq).1
      have hq := psh q (List.mem_of_getElem? eq)
      have hal := hA.1
      have esz : ∀ a, sizesF ps (as ++ [a]) = sizesF ps as ++ [sizeF q.2 a] := fun a => sizes_snoc (by rw [hal]; exact eq)
      have hsl : (sizesF ps as).length ≤ 100 := by unfold sizesF; simp; omega
      unfold gT2 prD
      dsimp only
      refine (show sSeq _ _ _ _ from ?_)
      refine cut_seq (fun ρ => ∃ x : Int, 0 ≤ x ∧ x ≤ 12 ∧ (q.2 = ("num" : Str) → x = 0) ∧ ρ = [some (dv (.scr ns)), some (dv (.int c)), some (dv (.tup [fnD f fp fr, fnD g gp gr])), some (dv (fnD z ps r)), some (dv (.fd MM)), some (dO (.lst as)), some (dO (.lst (nsD (sizesF ps as)))), some (dv (.str q.1)), some (dv (.str q.2)), some (dv (.int x)), none, none, none, none, none, none, none, none]) ?_ ?_
      · walk_at "dl"
        simp only [tNextF]
        refine ⟨by decide, fun c' c0 c1 => ?_⟩
        have mb := mod_bd c' 13 (by decide)
        refine ⟨by decide, IntMulOk.of_right (by split <;> decide), c'.fmod 13 * (if ¬q.2 = ("num" : Str) then 1 else 0), ?_, ?_, fun e => ?_, rfl⟩
        · split <;> omega
        · split <;> omega
        · rw [if_neg (fun z => z e)]
          omega
      rintro _ ⟨x, x0, x1, xn, rfl⟩
      refine cut_seq (fun ρ => ρ = [some (dv (.scr ns)), some (dv (.int c)), some (dv (.tup [fnD f fp fr, fnD g gp gr])), some (dv (fnD z ps r)), some (dv (.fd MM)), some (dO (.lst as)), some (dO (.lst (nsD (sizesF ps as ++ [x])))), some (dv (.str q.1)), some (dv (.str q.2)), some (dv (.int x)), none, none, none, none, none, none, none, none]) ?_ ?_
      · refine sApp_at (ds := nsD (sizesF ps as)) rfl ?_
        walk_at "dl"
        exact ⟨by unfold nsD; rw [List.length_map]; omega, by unfold nsD; rw [List.map_append]; rfl⟩
      rintro _ rfl
      have fin : ∀ a, SzOk q.2 a → sizeF q.2 a = x → pureD a → okD 20 a → ∃ as' a7 a8 a9, ArgsOk ps (i + 1) as' ∧ [some (dv (.scr ns)), some (dv (.int c)), some (dv (.tup [fnD f fp fr, fnD g gp gr])), some (dv (fnD z ps r)), some (dv (.fd MM)), some (dO (.lst (as ++ [a]))), some (dO (.lst (nsD (sizesF ps as ++ [x])))), some (dv (.str q.1)), some (dv (.str q.2)), some (dv (.int x)), none, none, none, none, none, none, none, none] = [some (dv (.scr ns)), some (dv (.int c)), some (dv (.tup [fnD f fp fr, fnD g gp gr])), some (dv (fnD z ps r)), some (dv (.fd MM)), some (dO (.lst as')), some (dO (.lst (nsD (sizesF ps as')))), a7, a8, a9, none, none, none, none, none, none, none, none] := fun a h1 h2 h3 h4 => ⟨as ++ [a], _, _, _, args_snoc hA eq h1 h3 h4, by rw [esz, h2]⟩
      walk_at "dl"
      refine ⟨fun e => ?_, fun e1 => ⟨fun e => ?_, fun e2 => ?_⟩⟩
      · simp only [tTreeF]
        refine ⟨by decide, x0, by omega, fun d hd => ⟨trivial, by omega, ?_⟩⟩
        refine fin d (.inr (.inr ⟨e, x.toNat, hd, by omega⟩)) ?_ hd.pure (okD_le (tr_ok hd) (by omega))
        unfold sizeF
        rw [e, if_neg (by decide), if_neg (by decide), hd.nd]
        omega
      · refine dCompP_at (rngD 0 x.toNat) (fun ψ hψ => ?_) (fun i es => ∃ ms : List Int, ms.length = i ∧ es = nsD ms) (by rw [rng_len]; omega) ⟨[], rfl, rfl⟩ ?_ ?_
        · walk_at "dl"
          exact ⟨by omega, by omega, hψ⟩
        · rintro j d es hd hle ⟨ms, hml, rfl⟩
          obtain ⟨hj, rfl⟩ := rng_get hd
          simp only [ρ0, List.map_cons, List.map_nil, List.replicate, List.cons_append, List.nil_append]
          walk_at "dl"
          simp only [tNextF, tNum, w1]
          refine ⟨by decide, fun c' _ _ m hm => ⟨trivial, ms ++ [m], by rw [List.length_append, hml]; rfl, by unfold nsD; rw [List.map_append]; rfl⟩⟩
        · rintro es ⟨ms, hml, rfl⟩
          rw [rng_len] at hml
          refine ⟨by omega, ?_⟩
          refine fin (.tup (nsD ms)) (.inr (.inl ⟨e, _, rfl, by unfold nsD; rw [List.length_map]; omega⟩)) ?_ (pure_ints ms) ?_
          · unfold sizeF nsD
            rw [e, if_neg (by decide), if_pos rfl]
            dsimp only
            rw [List.length_map]
            omega
          · show ∀ y ∈ nsD ms, okD 19 y
            intro y hy
            obtain ⟨n, _, rfl⟩ := List.mem_map.mp hy
            trivial
      · have e : q.2 = ("num" : Str) := by
          rcases hq with e | e | e
          · exact e
          · exact absurd e e2
          · exact absurd e e1
        simp only [tNextF, tNum, w1]
        refine ⟨by decide, fun c' _ _ m hm => ⟨trivial, by omega, ?_⟩⟩
        refine fin (.int m) (.inl e) ?_ trivial trivial
        unfold sizeF
        rw [if_pos e, xn e]
    · rintro ρ ⟨as, a7, a8, a9, hA, rfl⟩
      rw [List.length_map] at hA
      exact ⟨as, a7, a8, a9, hA, rfl⟩
  rintro _ ⟨as, a7, a8, a9, hA, rfl⟩
  refine cut_seq (fun ρ => ∃ ks vs, PapOk f g fp.length gp.length 0 ks vs ∧ ρ = [some (dv (.scr ns)), some (dv (.int c)), some (dv (.tup [fnD f fp fr, fnD g gp gr])), some (dv (fnD z ps r)), some (dv (.fd MM)), some (dO (.lst as)), some (dO (.lst (nsD (sizesF ps as)))), a7, a8, a9, some (dO (.dk ks vs)), none, none, none, none, none, none, none]) ?_ ?_
  · walk_at "dl"
    exact ⟨[], [], ⟨rfl, rfl⟩, rfl⟩
  rintro _ ⟨ks, vs, hpap, rfl⟩
  refine cut_seq (fun ρ => ∃ ks vs a11 a12 a13, PapOk f g fp.length gp.length 2 ks vs ∧ ρ = [some (dv (.scr ns)), some (dv (.int c)), some (dv (.tup [fnD f fp fr, fnD g gp gr])), some (dv (fnD z ps r)), some (dv (.fd MM)), some (dO (.lst as)), some (dO (.lst (nsD (sizesF ps as)))), a7, a8, a9, some (dO (.dk ks vs)), a11, a12, a13, none, none, none, none]) ?_ ?_
  · refine sFor_at (rngD 0 2) (fun ψ hψ => ?_) (fun i ρ => ∃ ks vs a11 a12 a13, PapOk f g fp.length gp.length i ks vs ∧ ρ = [some (dv (.scr ns)), some (dv (.int c)), some (dv (.tup [fnD f fp fr, fnD g gp gr])), some (dv (fnD z ps r)), some (dv (.fd MM)), some (dO (.lst as)), some (dO (.lst (nsD (sizesF ps as)))), a7, a8, a9, some (dO (.dk ks vs)), a11, a12, a13, none, none, none, none]) ⟨ks, vs, none, none, none, hpap, rfl⟩ ?_ ?_
    · walk_at "dl"
      exact ⟨by decide, by decide, hψ⟩
    · rintro i d ρ hd ⟨ks, vs, a11, a12, a13, hpap, rfl⟩
      obtain ⟨hi, rfl⟩ := rng_get hd
      obtain ⟨z0, p0, r0, hat, hp0, hvl, hnext⟩ := pap_step (fr := fr) (gr := gr) hfg pfp pgp hi hpap
      have hat' : atI [fnD f fp fr, fnD g gp gr] (i : Int) = some (.tup (.str z0 :: .tup (p0.map prD) :: r0)) := hat
      refine cut_seq (fun ρ => ∃ cs : List Int, cs.length ≤ 58 ∧ ρ = [some (dv (.scr ns)), some (dv (.int c)), some (dv (.tup [fnD f fp fr, fnD g gp gr])), some (dv (fnD z ps r)), some (dv (.fd MM)), some (dO (.lst as)), some (dO (.lst (nsD (sizesF ps as)))), a7, a8, a9, some (dO (.dk ks vs)), some (dv (.int (0 + (i : Int)))), some (dO (.lst (nsD cs))), a13, none, none, none, none]) ?_ ?_
      · walk_at "dl"
        have hxl := pick_len ns (some (3 + (i : Int))) (some 63)
        generalize hxs : pickBy ns (some (3 + (i : Int))) (some 63) (some 2) = xs at *
        refine dComp_at (xs.map D.int) (fun ψ hψ => ?_) ptF (by rw [List.length_map]; omega) ?_ ?_
        · walk_at "dl"
          rw [hxs]
          exact ⟨by decide, hψ⟩
        · intro d hd
          obtain ⟨n, _, rfl⟩ := List.mem_map.mp hd
          simp only [ρ0, List.map_cons, List.map_nil, List.replicate, List.cons_append, List.nil_append]
          walk_at "dl"
          rfl
        · rw [pt_all]
          walk_at "dl"
          exact ⟨_, by rw [List.length_map]; omega, rfl⟩
      rintro _ ⟨cs, hcs, rfl⟩
      have l1 := pick_len cs none none
      have l2 := pick_len cs (some 1) none
      refine cut_seq (fun ρ => ∃ u, OkS p0.length u ∧ ρ = [some (dv (.scr ns)), some (dv (.int c)), some (dv (.tup [fnD f fp fr, fnD g gp gr])), some (dv (fnD z ps r)), some (dv (.fd MM)), some (dO (.lst as)), some (dO (.lst (nsD (sizesF ps as)))), a7, a8, a9, some (dO (.dk ks vs)), some (dv (.int (0 + (i : Int)))), some (dO (.lst (nsD cs))), some (dv (.tup (u.map partD))), none, none, none, none]) ?_ ?_
      · walk_at "dl"
        rw [hat']
        dsimp only
        rw [at1]
        dsimp only
        simp only [tGath, g2]
        refine ⟨by decide, p0, pickBy cs none none (some 2), rfl, hp0, by unfold nsD; rw [pick_map], by omega, fun u hu => ⟨trivial, u, hu, rfl⟩⟩
      rintro _ ⟨u, hu1, rfl⟩
      walk_at "dl"
      rw [hat']
      dsimp only
      rw [at1]
      dsimp only
      simp only [tGath, g2]
      refine ⟨by decide, p0, pickBy cs (some 1) none (some 2), rfl, hp0, by unfold nsD; rw [pick_map], by omega, fun v hv1 => ?_⟩
      rw [at0]
      dsimp only
      exact ⟨trivial, by omega, _, _, _, _, _, hnext u v hu1 hv1, rfl⟩
    · rintro ρ ⟨ks, vs, a11, a12, a13, hp, rfl⟩
      exact ⟨ks, vs, a11, a12, a13, hp, rfl⟩
  rintro _ ⟨ks, vs, a11, a12, a13, hpap, rfl⟩
  obtain ⟨rfl, u, v, u2, v2, hu1, hv1, hu2, hv2, rfl⟩ := hpap
  refine cut_seq (fun ρ => ρ = [some (dv (.scr ns)), some (dv (.int c)), some (dv (.tup [fnD f fp fr, fnD g gp gr])), some (dv (fnD z ps r)), some (dv (.fd MM)), some (dO (.lst as)), some (dO (.lst (nsD (sizesF ps as)))), a7, a8, a9, some (dO (.dk [Sum.inr f, Sum.inr g] [valD u v, valD u2 v2])), a11, a12, a13, some (dO (.lst [(.dk [Sum.inr f, Sum.inr g] [valD u v, valD u2 v2]), .lst as])), none, none, none]) ?_ ?_
  · walk_at "dl"
  rintro _ rfl
  obtain ⟨uu, vv, hlk, ouu, ovv⟩ : ∃ uu vv, lookA [Sum.inr f, Sum.inr g] [valD u v, valD u2 v2] (Sum.inr z) = some (valD uu vv) ∧ OkS ps.length uu ∧ OkS ps.length vv := by
    rcases hz with ⟨rfl, rfl, _⟩ | ⟨rfl, rfl, _⟩
    · exact ⟨u, v, by simp [lookA], hu1, hv1⟩
    · exact ⟨u2, v2, by simp [lookA, hfg], hu2, hv2⟩
  obtain ⟨al, asz, aok⟩ := id hA
  refine cut_seq (fun ρ => ρ = [some (dv (.scr ns)), some (dv (.int c)), some (dv (.tup [fnD f fp fr, fnD g gp gr])), some (dv (fnD z ps r)), some (dv (.fd MM)), some (dO (.lst as)), some (dO (.lst (nsD (sizesF ps as)))), a7, a8, a9, some (dO (.dk [Sum.inr f, Sum.inr g] [valD u v, valD u2 v2])), a11, a12, a13, some (dO (.lst [(.dk [Sum.inr f, Sum.inr g] [valD u v, valD u2 v2]), .lst as])), some (dv (.tup [worthD (sizesF ps as) (.tup (uu.map partD)), worthD (sizesF ps as) (.tup (vv.map partD))])), none, none]) ?_ ?_
  · unfold fnD at *
    walk_at "dl"
    simp only [tBound]
    exact ⟨_, _, _, _, _, rfl, ps, uu, vv, hlook, by omega, al, asz, hlk, ouu, ovv, trivial, rfl⟩
  rintro _ rfl
  refine cut_seq (fun ρ => ρ = [some (dv (.scr ns)), some (dv (.int c)), some (dv (.tup [fnD f fp fr, fnD g gp gr])), some (dv (fnD z ps r)), some (dv (.fd MM)), some (dv (.lst as)), some (dO (.lst (nsD (sizesF ps as)))), a7, a8, a9, some (dv (.dk [Sum.inr f, Sum.inr g] [valD u v, valD u2 v2])), a11, a12, a13, some (dO (.lst [(.dk [Sum.inr f, Sum.inr g] [valD u v, valD u2 v2]), .lst as])), some (dv (.tup [worthD (sizesF ps as) (.tup (uu.map partD)), worthD (sizesF ps as) (.tup (vv.map partD))])), none, none]) ?_ ?_
  · have okl : okLQ (.lst [(.dk [Sum.inr f, Sum.inr g] [valD u v, valD u2 v2]), .lst as]) := ⟨_, rfl, fun e he => by
      simp only [List.mem_cons, List.not_mem_nil, or_false] at he
      rcases he with rfl | rfl
      · refine .inr ⟨[f, g], [valD u v, valD u2 v2], rfl, fun x hx => ?_⟩
        simp only [List.mem_cons, List.not_mem_nil, or_false] at hx
        rcases hx with rfl | rfl
        · exact val_ok _ _
        · exact val_ok _ _
      · exact .inl (fun x hx => okD_le (aok x hx).2 (by decide))⟩
    walk_at "dl"
    exact ⟨fun q => absurd rfl q, fun _ => okl⟩
  rintro _ rfl
  refine cut_seq (fun ρ => ∃ a16 a17, ρ = [some (dv (.scr ns)), some (dv (.int c)), some (dv (.tup [fnD f fp fr, fnD g gp gr])), some (dv (fnD z ps r)), some (dv (.fd MM)), some (dv (.lst as)), some (dO (.lst (nsD (sizesF ps as)))), a7, a8, a9, some (dv (.dk [Sum.inr f, Sum.inr g] [valD u v, valD u2 v2])), a11, a12, a13, some (dO (.lst [(.dk [Sum.inr f, Sum.inr g] [valD u v, valD u2 v2]), .lst as])), some (dv (.tup [worthD (sizesF ps as) (.tup (uu.map partD)), worthD (sizesF ps as) (.tup (vv.map partD))])), a16, a17]) ?_ ?_
  · have hzl : (sizesF ps as).length = ps.length := by unfold sizesF; simp; omega
    have hzb : ∀ x ∈ sizesF ps as, intBits x ≤ 200 := sizes_bits asz
    refine sFor_at (zipD [worthD (sizesF ps as) (.tup (uu.map partD)), worthD (sizesF ps as) (.tup (vv.map partD))] [.tup (uu.map partD), .tup (vv.map partD)]) (fun ψ hψ => ?_) (fun i ρ => ∃ a16 a17, ρ = [some (dv (.scr ns)), some (dv (.int c)), some (dv (.tup [fnD f fp fr, fnD g gp gr])), some (dv (fnD z ps r)), some (dv (.fd MM)), some (dv (.lst as)), some (dO (.lst (nsD (sizesF ps as)))), a7, a8, a9, some (dv (.dk [Sum.inr f, Sum.inr g] [valD u v, valD u2 v2])), a11, a12, a13, some (dO (.lst [(.dk [Sum.inr f, Sum.inr g] [valD u v, valD u2 v2]), .lst as])), some (dv (.tup [worthD (sizesF ps as) (.tup (uu.map partD)), worthD (sizesF ps as) (.tup (vv.map partD))])), a16, a17]) ⟨none, none, rfl⟩ ?_ ?_
    · unfold fnD at *
      walk_at "dl"
      rw [hlk]
      exact hψ
    · rintro i d ρ hd ⟨a16, a17, rfl⟩
      have hi : i = 0 ∨ i = 1 := by
        have := (List.getElem?_eq_some_iff.mp hd).1
        unfold zipD at this
        simp at this
        omega
      obtain ⟨w0, hw0, rfl⟩ : ∃ w0, OkS ps.length w0 ∧ d = .tup [worthD (sizesF ps as) (.tup (w0.map partD)), .tup (w0.map partD)] := by
        rcases hi with rfl | rfl
        · exact ⟨uu, ouu, (Option.some.inj hd).symm⟩
        · exact ⟨vv, ovv, (Option.some.inj hd).symm⟩
      walk_at "dl"
      simp only [tWorth, g2, tIs]
      exact ⟨w0, sizesF ps as, ps.length, rfl, rfl, hzl, by omega, hw0.1, hw0.2, hzb, _, worth_at _ _, rfl, (fun q => by cases q), fun _ => ⟨_, _, rfl⟩⟩
    · rintro ρ hh
      exact hh
  rintro _ ⟨a16, a17, rfl⟩
  walk_at "dl"
  exact h
theorem all_mk {l : PySem.W.OpenLaw} {w : World} {K : PySem.W.Frag} {h : Heap} {mg : Str → Option Value} {fa : Addr} (X : K.In h) (G : h.Ns mainGlobals mg) (hfa : mg "law" = some (.ref fa)) {f1 : Addr} {od1 an1 : Option Addr} {sl1 : Array (Option Value)} {oc1 kV1 dc1 pm1 cd1 ct1 : Value} {f2 : Addr} {od2 an2 : Option Addr} {sl2 : Array (Option Value)} {oc2 kV2 dc2 pm2 cd2 ct2 : Value} {f3 : Addr} {od3 an3 : Option Addr} {sl3 : Array (Option Value)} {oc3 kV3 dc3 pm3 cd3 ct3 : Value} {f4 : Addr} {od4 an4 : Option Addr} {sl4 : Array (Option Value)} {oc4 kV4 dc4 pm4 cd4 ct4 : Value} {f5 : Addr} {od5 an5 : Option Addr} {sl5 : Array (Option Value)} {oc5 kV5 dc5 pm5 cd5 ct5 : Value} {f6 : Addr} {od6 an6 : Option Addr} {sl6 : Array (Option Value)} {oc6 kV6 dc6 pm6 cd6 ct6 : Value} {f7 : Addr} {od7 an7 : Option Addr} {sl7 : Array (Option Value)} {oc7 kV7 dc7 pm7 cd7 ct7 : Value} {f8 : Addr} {od8 an8 : Option Addr} {sl8 : Array (Option Value)} {oc8 kV8 dc8 pm8 cd8 ct8 : Value} {f9 : Addr} {od9 an9 : Option Addr} {sl9 : Array (Option Value)} {oc9 kV9 dc9 pm9 cd9 ct9 : Value} {f10 : Addr} {od10 an10 : Option Addr} {sl10 : Array (Option Value)} {oc10 kV10 dc10 pm10 cd10 ct10 : Value} {f11 : Addr} {od11 an11 : Option Addr} {sl11 : Array (Option Value)} {oc11 kV11 dc11 pm11 cd11 ct11 : Value} {f12 : Addr} {od12 an12 : Option Addr} {sl12 : Array (Option Value)} {oc12 kV12 dc12 pm12 cd12 ct12 : Value} {f13 : Addr} {od13 an13 : Option Addr} {sl13 : Array (Option Value)} {oc13 kV13 dc13 pm13 cd13 ct13 : Value} {f14 : Addr} {od14 an14 : Option Addr} {sl14 : Array (Option Value)} {oc14 kV14 dc14 pm14 cd14 ct14 : Value} {f15 : Addr} {od15 an15 : Option Addr} {sl15 : Array (Option Value)} {oc15 kV15 dc15 pm15 cd15 ct15 : Value} {f16 : Addr} {od16 an16 : Option Addr} {sl16 : Array (Option Value)} {oc16 kV16 dc16 pm16 cd16 ct16 : Value} {f17 : Addr} {od17 an17 : Option Addr} {sl17 : Array (Option Value)} {oc17 kV17 dc17 pm17 cd17 ct17 : Value} {f18 : Addr} {od18 an18 : Option Addr} {sl18 : Array (Option Value)} {oc18 kV18 dc18 pm18 cd18 ct18 : Value} {f19 : Addr} {od19 an19 : Option Addr} {sl19 : Array (Option Value)} {oc19 kV19 dc19 pm19 cd19 ct19 : Value} {f20 : Addr} {od20 an20 : Option Addr} {sl20 : Array (Option Value)} {oc20 kV20 dc20 pm20 cd20 ct20 : Value} {f21 : Addr} {od21 an21 : Option Addr} {sl21 : Array (Option Value)} {oc21 kV21 dc21 pm21 cd21 ct21 : Value} {f22 : Addr} {od22 an22 : Option Addr} {sl22 : Array (Option Value)} {oc22 kV22 dc22 pm22 cd22 ct22 : Value} {f23 : Addr} {od23 an23 : Option Addr} {sl23 : Array (Option Value)} {oc23 kV23 dc23 pm23 cd23 ct23 : Value} {f24 : Addr} {od24 an24 : Option Addr} {sl24 : Array (Option Value)} {oc24 kV24 dc24 pm24 cd24 ct24 : Value} {f25 : Addr} {od25 an25 : Option Addr} {sl25 : Array (Option Value)} {oc25 kV25 dc25 pm25 cd25 ct25 : Value} {f26 : Addr} {od26 an26 : Option Addr} {sl26 : Array (Option Value)} {oc26 kV26 dc26 pm26 cd26 ct26 : Value} {f27 : Addr} {od27 an27 : Option Addr} {sl27 : Array (Option Value)} {oc27 kV27 dc27 pm27 cd27 ct27 : Value} {f28 : Addr} {od28 an28 : Option Addr} {sl28 : Array (Option Value)} {oc28 kV28 dc28 pm28 cd28 ct28 : Value} {f29 : Addr} {od29 an29 : Option Addr} {sl29 : Array (Option Value)} {oc29 kV29 dc29 pm29 cd29 ct29 : Value}
    (a1 : PySem.W.nsIn K mainGlobals "is_whole" = some (some (.ref f1))) (l1 : K.lookup f1 = some ⟨oc1, od1, .func (PySem.W.fnOf "is_whole" "is_whole" (defArgs (top 5)) (defBody (top 5)) (defScope (top 5)) .none kV1 dc1 pm1 an1 cd1 ct1), sl1⟩) (c1 : PySem.W.codeIn K cd1 "is_whole" = true) (k1 : PySem.W.keepIn K (.ref f1) = true)
    (a2 : PySem.W.nsIn K mainGlobals "function_of" = some (some (.ref f2))) (l2 : K.lookup f2 = some ⟨oc2, od2, .func (PySem.W.fnOf "function_of" "function_of" (defArgs (top 6)) (defBody (top 6)) (defScope (top 6)) .none kV2 dc2 pm2 an2 cd2 ct2), sl2⟩) (c2 : PySem.W.codeIn K cd2 "function_of" = true) (k2 : PySem.W.keepIn K (.ref f2) = true)
    (a3 : PySem.W.nsIn K mainGlobals "common" = some (some (.ref f3))) (l3 : K.lookup f3 = some ⟨oc3, od3, .func (PySem.W.fnOf "common" "common" (defArgs (top 9)) (defBody (top 9)) (defScope (top 9)) .none kV3 dc3 pm3 an3 cd3 ct3), sl3⟩) (c3 : PySem.W.codeIn K cd3 "common" = true) (k3 : PySem.W.keepIn K (.ref f3) = true)
    (a4 : PySem.W.nsIn K mainGlobals "ratio" = some (some (.ref f4))) (l4 : K.lookup f4 = some ⟨oc4, od4, .func (PySem.W.fnOf "ratio" "ratio" (defArgs (top 8)) (defBody (top 8)) (defScope (top 8)) .none kV4 dc4 pm4 an4 cd4 ct4), sl4⟩) (c4 : PySem.W.codeIn K cd4 "ratio" = true) (k4 : PySem.W.keepIn K (.ref f4) = true)
    (a5 : PySem.W.nsIn K mainGlobals "plus" = some (some (.ref f5))) (l5 : K.lookup f5 = some ⟨oc5, od5, .func (PySem.W.fnOf "plus" "plus" (defArgs (top 10)) (defBody (top 10)) (defScope (top 10)) .none kV5 dc5 pm5 an5 cd5 ct5), sl5⟩) (c5 : PySem.W.codeIn K cd5 "plus" = true) (k5 : PySem.W.keepIn K (.ref f5) = true)
    (a6 : PySem.W.nsIn K mainGlobals "times" = some (some (.ref f6))) (l6 : K.lookup f6 = some ⟨oc6, od6, .func (PySem.W.fnOf "times" "times" (defArgs (top 11)) (defBody (top 11)) (defScope (top 11)) .none kV6 dc6 pm6 an6 cd6 ct6), sl6⟩) (c6 : PySem.W.codeIn K cd6 "times" = true) (k6 : PySem.W.keepIn K (.ref f6) = true)
    (a7 : PySem.W.nsIn K mainGlobals "choices" = some (some (.ref f7))) (l7 : K.lookup f7 = some ⟨oc7, od7, .func (PySem.W.fnOf "choices" "choices" (defArgs (top 13)) (defBody (top 13)) (defScope (top 13)) .none kV7 dc7 pm7 an7 cd7 ct7), sl7⟩) (c7 : PySem.W.codeIn K cd7 "choices" = true) (k7 : PySem.W.keepIn K (.ref f7) = true)
    (a8 : PySem.W.nsIn K mainGlobals "value_at" = some (some (.ref f8))) (l8 : K.lookup f8 = some ⟨oc8, od8, .func (PySem.W.fnOf "value_at" "value_at" (defArgs (top 14)) (defBody (top 14)) (defScope (top 14)) .none kV8 dc8 pm8 an8 cd8 ct8), sl8⟩) (c8 : PySem.W.codeIn K cd8 "value_at" = true) (k8 : PySem.W.keepIn K (.ref f8) = true)
    (a9 : PySem.W.nsIn K mainGlobals "nodes_of" = some (some (.ref f9))) (l9 : K.lookup f9 = some ⟨oc9, od9, .func (PySem.W.fnOf "nodes_of" "nodes_of" (defArgs (top 17)) (defBody (top 17)) (defScope (top 17)) .none kV9 dc9 pm9 an9 cd9 ct9), sl9⟩) (c9 : PySem.W.codeIn K cd9 "nodes_of" = true) (k9 : PySem.W.keepIn K (.ref f9) = true)
    (a10 : PySem.W.nsIn K mainGlobals "size_of" = some (some (.ref f10))) (l10 : K.lookup f10 = some ⟨oc10, od10, .func (PySem.W.fnOf "size_of" "size_of" (defArgs (top 16)) (defBody (top 16)) (defScope (top 16)) .none kV10 dc10 pm10 an10 cd10 ct10), sl10⟩) (c10 : PySem.W.codeIn K cd10 "size_of" = true) (k10 : PySem.W.keepIn K (.ref f10) = true)
    (a11 : PySem.W.nsIn K mainGlobals "bound_of" = some (some (.ref f11))) (l11 : K.lookup f11 = some ⟨oc11, od11, .func (PySem.W.fnOf "bound_of" "bound_of" (defArgs (top 19)) (defBody (top 19)) (defScope (top 19)) .none kV11 dc11 pm11 an11 cd11 ct11), sl11⟩) (c11 : PySem.W.codeIn K cd11 "bound_of" = true) (k11 : PySem.W.keepIn K (.ref f11) = true)
    (a12 : PySem.W.nsIn K mainGlobals "_law_cell_at" = some (some (.ref f12))) (l12 : K.lookup f12 = some ⟨oc12, od12, .func (PySem.W.fnOf "_law_cell_at" "_law_cell_at" (defArgs (top 21)) (defBody (top 21)) (defScope (top 21)) .none kV12 dc12 pm12 an12 cd12 ct12), sl12⟩) (c12 : PySem.W.codeIn K cd12 "_law_cell_at" = true) (k12 : PySem.W.keepIn K (.ref f12) = true)
    (a13 : PySem.W.nsIn K mainGlobals "_law_whole" = some (some (.ref f13))) (l13 : K.lookup f13 = some ⟨oc13, od13, .func (PySem.W.fnOf "_law_whole" "_law_whole" (defArgs (top 22)) (defBody (top 22)) (defScope (top 22)) .none kV13 dc13 pm13 an13 cd13 ct13), sl13⟩) (c13 : PySem.W.codeIn K cd13 "_law_whole" = true) (k13 : PySem.W.keepIn K (.ref f13) = true)
    (a14 : PySem.W.nsIn K mainGlobals "_law_next" = some (some (.ref f14))) (l14 : K.lookup f14 = some ⟨oc14, od14, .func (PySem.W.fnOf "_law_next" "_law_next" (defArgs (top 23)) (defBody (top 23)) (defScope (top 23)) .none kV14 dc14 pm14 an14 cd14 ct14), sl14⟩) (c14 : PySem.W.codeIn K cd14 "_law_next" = true) (k14 : PySem.W.keepIn K (.ref f14) = true)
    (a15 : PySem.W.nsIn K mainGlobals "_law_name" = some (some (.ref f15))) (l15 : K.lookup f15 = some ⟨oc15, od15, .func (PySem.W.fnOf "_law_name" "_law_name" (defArgs (top 24)) (defBody (top 24)) (defScope (top 24)) .none kV15 dc15 pm15 an15 cd15 ct15), sl15⟩) (c15 : PySem.W.codeIn K cd15 "_law_name" = true) (k15 : PySem.W.keepIn K (.ref f15) = true)
    (a16 : PySem.W.nsIn K mainGlobals "_law_mark" = some (some (.ref f16))) (l16 : K.lookup f16 = some ⟨oc16, od16, .func (PySem.W.fnOf "_law_mark" "_law_mark" (defArgs (top 25)) (defBody (top 25)) (defScope (top 25)) .none kV16 dc16 pm16 an16 cd16 ct16), sl16⟩) (c16 : PySem.W.codeIn K cd16 "_law_mark" = true) (k16 : PySem.W.keepIn K (.ref f16) = true)
    (a17 : PySem.W.nsIn K mainGlobals "_law_number" = some (some (.ref f17))) (l17 : K.lookup f17 = some ⟨oc17, od17, .func (PySem.W.fnOf "_law_number" "_law_number" (defArgs (top 26)) (defBody (top 26)) (defScope (top 26)) .none kV17 dc17 pm17 an17 cd17 ct17), sl17⟩) (c17 : PySem.W.codeIn K cd17 "_law_number" = true) (k17 : PySem.W.keepIn K (.ref f17) = true)
    (a18 : PySem.W.nsIn K mainGlobals "_law_sorting" = some (some (.ref f18))) (l18 : K.lookup f18 = some ⟨oc18, od18, .func (PySem.W.fnOf "_law_sorting" "_law_sorting" (defArgs (top 27)) (defBody (top 27)) (defScope (top 27)) .none kV18 dc18 pm18 an18 cd18 ct18), sl18⟩) (c18 : PySem.W.codeIn K cd18 "_law_sorting" = true) (k18 : PySem.W.keepIn K (.ref f18) = true)
    (a19 : PySem.W.nsIn K mainGlobals "_law_turning" = some (some (.ref f19))) (l19 : K.lookup f19 = some ⟨oc19, od19, .func (PySem.W.fnOf "_law_turning" "_law_turning" (defArgs (top 28)) (defBody (top 28)) (defScope (top 28)) .none kV19 dc19 pm19 an19 cd19 ct19), sl19⟩) (c19 : PySem.W.codeIn K cd19 "_law_turning" = true) (k19 : PySem.W.keepIn K (.ref f19) = true)
    (a20 : PySem.W.nsIn K mainGlobals "_law_telling" = some (some (.ref f20))) (l20 : K.lookup f20 = some ⟨oc20, od20, .func (PySem.W.fnOf "_law_telling" "_law_telling" (defArgs (top 29)) (defBody (top 29)) (defScope (top 29)) .none kV20 dc20 pm20 an20 cd20 ct20), sl20⟩) (c20 : PySem.W.codeIn K cd20 "_law_telling" = true) (k20 : PySem.W.keepIn K (.ref f20) = true)
    (a21 : PySem.W.nsIn K mainGlobals "_law_pairing" = some (some (.ref f21))) (l21 : K.lookup f21 = some ⟨oc21, od21, .func (PySem.W.fnOf "_law_pairing" "_law_pairing" (defArgs (top 30)) (defBody (top 30)) (defScope (top 30)) .none kV21 dc21 pm21 an21 cd21 ct21), sl21⟩) (c21 : PySem.W.codeIn K cd21 "_law_pairing" = true) (k21 : PySem.W.keepIn K (.ref f21) = true)
    (a22 : PySem.W.nsIn K mainGlobals "_law_piece" = some (some (.ref f22))) (l22 : K.lookup f22 = some ⟨oc22, od22, .func (PySem.W.fnOf "_law_piece" "_law_piece" (defArgs (top 31)) (defBody (top 31)) (defScope (top 31)) .none kV22 dc22 pm22 an22 cd22 ct22), sl22⟩) (c22 : PySem.W.codeIn K cd22 "_law_piece" = true) (k22 : PySem.W.keepIn K (.ref f22) = true)
    (a23 : PySem.W.nsIn K mainGlobals "_law_tree" = some (some (.ref f23))) (l23 : K.lookup f23 = some ⟨oc23, od23, .func (PySem.W.fnOf "_law_tree" "_law_tree" (defArgs (top 32)) (defBody (top 32)) (defScope (top 32)) .none kV23 dc23 pm23 an23 cd23 ct23), sl23⟩) (c23 : PySem.W.codeIn K cd23 "_law_tree" = true) (k23 : PySem.W.keepIn K (.ref f23) = true)
    (a24 : PySem.W.nsIn K mainGlobals "_law_divisor" = some (some (.ref f24))) (l24 : K.lookup f24 = some ⟨oc24, od24, .func (PySem.W.fnOf "_law_divisor" "_law_divisor" (defArgs (top 33)) (defBody (top 33)) (defScope (top 33)) .none kV24 dc24 pm24 an24 cd24 ct24), sl24⟩) (c24 : PySem.W.codeIn K cd24 "_law_divisor" = true) (k24 : PySem.W.keepIn K (.ref f24) = true)
    (a25 : PySem.W.nsIn K mainGlobals "_law_gathered" = some (some (.ref f25))) (l25 : K.lookup f25 = some ⟨oc25, od25, .func (PySem.W.fnOf "_law_gathered" "_law_gathered" (defArgs (top 34)) (defBody (top 34)) (defScope (top 34)) .none kV25 dc25 pm25 an25 cd25 ct25), sl25⟩) (c25 : PySem.W.codeIn K cd25 "_law_gathered" = true) (k25 : PySem.W.keepIn K (.ref f25) = true)
    (a26 : PySem.W.nsIn K mainGlobals "_law_ways_out" = some (some (.ref f26))) (l26 : K.lookup f26 = some ⟨oc26, od26, .func (PySem.W.fnOf "_law_ways_out" "_law_ways_out" (defArgs (top 35)) (defBody (top 35)) (defScope (top 35)) .none kV26 dc26 pm26 an26 cd26 ct26), sl26⟩) (c26 : PySem.W.codeIn K cd26 "_law_ways_out" = true) (k26 : PySem.W.keepIn K (.ref f26) = true)
    (a27 : PySem.W.nsIn K mainGlobals "_law_worth" = some (some (.ref f27))) (l27 : K.lookup f27 = some ⟨oc27, od27, .func (PySem.W.fnOf "_law_worth" "_law_worth" (defArgs (top 36)) (defBody (top 36)) (defScope (top 36)) .none kV27 dc27 pm27 an27 cd27 ct27), sl27⟩) (c27 : PySem.W.codeIn K cd27 "_law_worth" = true) (k27 : PySem.W.keepIn K (.ref f27) = true)
    (a28 : PySem.W.nsIn K mainGlobals "_law_is" = some (some (.ref f28))) (l28 : K.lookup f28 = some ⟨oc28, od28, .func (PySem.W.fnOf "_law_is" "_law_is" (defArgs (top 37)) (defBody (top 37)) (defScope (top 37)) .none kV28 dc28 pm28 an28 cd28 ct28), sl28⟩) (c28 : PySem.W.codeIn K cd28 "_law_is" = true) (k28 : PySem.W.keepIn K (.ref f28) = true)
    (a29 : PySem.W.nsIn K mainGlobals "law" = some (some (.ref f29))) (l29 : K.lookup f29 = some ⟨oc29, od29, .func (PySem.W.fnOf "law" "law" (defArgs (top 38)) (defBody (top 38)) (defScope (top 38)) .none kV29 dc29 pm29 an29 cd29 ct29), sl29⟩) (c29 : PySem.W.codeIn K cd29 "law" = true) (k29 : PySem.W.keepIn K (.ref f29) = true) (z_ValueError : PySem.W.nsIn K mainGlobals "ValueError" = some none) (z_abs : PySem.W.nsIn K mainGlobals "abs" = some none) (z_bool : PySem.W.nsIn K mainGlobals "bool" = some none) (z_dict : PySem.W.nsIn K mainGlobals "dict" = some none) (z_int : PySem.W.nsIn K mainGlobals "int" = some none) (z_isinstance : PySem.W.nsIn K mainGlobals "isinstance" = some none) (z_len : PySem.W.nsIn K mainGlobals "len" = some none) (z_list : PySem.W.nsIn K mainGlobals "list" = some none) (z_range : PySem.W.nsIn K mainGlobals "range" = some none) (z_sorted : PySem.W.nsIn K mainGlobals "sorted" = some none) (z_tuple : PySem.W.nsIn K mainGlobals "tuple" = some none) (z_zip : PySem.W.nsIn K mainGlobals "zip" = some none) :
    ∃ fd : FuncData, (∀ (s : Shared) (v : Value), BindsTo s fd ⟨[v], []⟩ [("_law_script", v)]) ∧ ∀ base : Heap, K.In base → base.Ns mainGlobals mg → FnOk l.prog w K mg base CX0 20 fa fd ["_law_script"] (spD K 1 lawT) := by
  have e := hfa.symm.trans (PySem.W.mg_of X G a29)
  cases e
  have T : Tops mg := ⟨PySem.W.mg_none_of X G z_ValueError, PySem.W.mg_none_of X G z_abs, PySem.W.mg_none_of X G z_bool, PySem.W.mg_none_of X G z_dict, PySem.W.mg_none_of X G z_int, PySem.W.mg_none_of X G z_isinstance, PySem.W.mg_none_of X G z_len, PySem.W.mg_none_of X G z_list, PySem.W.mg_none_of X G z_range, PySem.W.mg_none_of X G z_sorted, PySem.W.mg_none_of X G z_tuple, PySem.W.mg_none_of X G z_zip⟩
  have F1 := fun_mk (st := top 5) l1 c1 k1
  have F2 := fun_mk (st := top 6) l2 c2 k2
  have F3 := fun_mk (st := top 9) l3 c3 k3
  have F4 := fun_mk (st := top 8) l4 c4 k4
  have F5 := fun_mk (st := top 10) l5 c5 k5
  have F6 := fun_mk (st := top 11) l6 c6 k6
  have F7 := fun_mk (st := top 13) l7 c7 k7
  have F8 := fun_mk (st := top 14) l8 c8 k8
  have F9 := fun_mk (st := top 17) l9 c9 k9
  have F10 := fun_mk (st := top 16) l10 c10 k10
  have F11 := fun_mk (st := top 19) l11 c11 k11
  have F12 := fun_mk (st := top 21) l12 c12 k12
  have F13 := fun_mk (st := top 22) l13 c13 k13
  have F14 := fun_mk (st := top 23) l14 c14 k14
  have F15 := fun_mk (st := top 24) l15 c15 k15
  have F16 := fun_mk (st := top 25) l16 c16 k16
  have F17 := fun_mk (st := top 26) l17 c17 k17
  have F18 := fun_mk (st := top 27) l18 c18 k18
  have F19 := fun_mk (st := top 28) l19 c19 k19
  have F20 := fun_mk (st := top 29) l20 c20 k20
  have F21 := fun_mk (st := top 30) l21 c21 k21
  have F22 := fun_mk (st := top 31) l22 c22 k22
  have F23 := fun_mk (st := top 32) l23 c23 k23
  have F24 := fun_mk (st := top 33) l24 c24 k24
  have F25 := fun_mk (st := top 34) l25 c25 k25
  have F26 := fun_mk (st := top 35) l26 c26 k26
  have F27 := fun_mk (st := top 36) l27 c27 k27
  have F28 := fun_mk (st := top 37) l28 c28 k28
  have F29 := fun_mk (st := top 38) l29 c29 k29
  refine ⟨PySem.W.fnOf "law" "law" (defArgs (top 38)) (defBody (top 38)) (defScope (top 38)) .none kV29 dc29 pm29 an29 cd29 ct29, fun s v => .of_eq rfl, fun base _ _ => ?_⟩
  have D_is_whole := fd_is_whole (P := l.prog) (w := w) (base := base) T  F1 (PySem.W.mg_of X G a1)
  have D_function_of := fd_function_of (P := l.prog) (w := w) (base := base) T  F2 (PySem.W.mg_of X G a2)
  have D_common := fd_common (P := l.prog) (w := w) (base := base) T  F3 (PySem.W.mg_of X G a3)
  have D_ratio := fd_ratio (P := l.prog) (w := w) (base := base) T D_is_whole D_common F4 (PySem.W.mg_of X G a4)
  have D_plus := fd_plus (P := l.prog) (w := w) (base := base) T D_ratio F5 (PySem.W.mg_of X G a5)
  have D_times := fd_times (P := l.prog) (w := w) (base := base) T D_ratio F6 (PySem.W.mg_of X G a6)
  have D_choices := fd_choices (P := l.prog) (w := w) (base := base) T  F7 (PySem.W.mg_of X G a7)
  have D_value_at := fd_value_at (P := l.prog) (w := w) (base := base) T D_choices D_plus D_times F8 (PySem.W.mg_of X G a8)
  have D_nodes_of := fd_nodes_of (P := l.prog) (w := w) (base := base) T  F9 (PySem.W.mg_of X G a9)
  have D_size_of := fd_size_of (P := l.prog) (w := w) (base := base) T D_nodes_of F10 (PySem.W.mg_of X G a10)
  have D_bound_of := fd_bound_of (P := l.prog) (w := w) (base := base) T D_function_of D_size_of D_value_at F11 (PySem.W.mg_of X G a11)
  have D__law_cell_at := fd_law_cell_at (P := l.prog) (w := w) (base := base) T  F12 (PySem.W.mg_of X G a12)
  have D__law_whole := fd_law_whole (P := l.prog) (w := w) (base := base) T  F13 (PySem.W.mg_of X G a13)
  have D__law_next := fd_law_next (P := l.prog) (w := w) (base := base) T  F14 (PySem.W.mg_of X G a14)
  have D__law_name := fd_law_name (P := l.prog) (w := w) (base := base) T  F15 (PySem.W.mg_of X G a15)
  have D__law_mark := fd_law_mark (P := l.prog) (w := w) (base := base) T  F16 (PySem.W.mg_of X G a16)
  have D__law_number := fd_law_number (P := l.prog) (w := w) (base := base) T  F17 (PySem.W.mg_of X G a17)
  have D__law_sorting := fd_law_sorting (P := l.prog) (w := w) (base := base) T  F18 (PySem.W.mg_of X G a18)
  have D__law_turning := fd_law_turning (P := l.prog) (w := w) (base := base) T  F19 (PySem.W.mg_of X G a19)
  have D__law_telling := fd_law_telling (P := l.prog) (w := w) (base := base) T  F20 (PySem.W.mg_of X G a20)
  have D__law_pairing := fd_law_pairing (P := l.prog) (w := w) (base := base) T  F21 (PySem.W.mg_of X G a21)
  have D__law_piece := fd_law_piece (P := l.prog) (w := w) (base := base) T D__law_mark D__law_name D__law_sorting D__law_turning D__law_telling D__law_pairing F22 (PySem.W.mg_of X G a22)
  have D__law_tree := fd_treeF (P := l.prog) (w := w) (base := base) T D__law_next D__law_number F23 (PySem.W.mg_of X G a23)
  have D__law_divisor := fd_law_divisor (P := l.prog) (w := w) (base := base) T  F24 (PySem.W.mg_of X G a24)
  have D__law_gathered := fd_law_gathered (P := l.prog) (w := w) (base := base) T D__law_number D__law_divisor F25 (PySem.W.mg_of X G a25)
  have D__law_ways_out := fd_law_ways_out (P := l.prog) (w := w) (base := base) T  F26 (PySem.W.mg_of X G a26)
  have D__law_worth := fd_law_worth (P := l.prog) (w := w) (base := base) T D__law_ways_out D__law_divisor F27 (PySem.W.mg_of X G a27)
  have D__law_is := fd_law_is (P := l.prog) (w := w) (base := base) T D__law_whole F28 (PySem.W.mg_of X G a28)
  exact ok_law T D_bound_of D__law_cell_at D__law_next D__law_piece D__law_number (D__law_tree 13) D__law_gathered D__law_worth D__law_is F29
end
end K52
open PySem PySem.W PyProof.Rows
set_option maxRecDepth 100000 in
set_option maxHeartbeats 0 in
theorem PySem.Challenge.cw_toll_k52_bound_told_ahead_holds : PySem.Challenge.rw_toll_k52_bound_told_ahead.Holds := by
  w_on; o_law; k_head; (case hw => w_witness2)
  k_fill
  refine DL.walkD (l := PySem.Challenge.rw_toll_k52_bound_told_ahead) (k := 20) (x := "_law_script") rfl rfl ⟨rfl, by decide, by decide⟩ (fun w h Y => PySem.W.kIn_of Y) ?F
  case F =>
    intro w mg fa h KX G hmg
    refine' K52.all_mk KX G hmg ?a1 ?l1 ?c1 ?k1 ?a2 ?l2 ?c2 ?k2 ?a3 ?l3 ?c3 ?k3 ?a4 ?l4 ?c4 ?k4 ?a5 ?l5 ?c5 ?k5 ?a6 ?l6 ?c6 ?k6 ?a7 ?l7 ?c7 ?k7 ?a8 ?l8 ?c8 ?k8 ?a9 ?l9 ?c9 ?k9 ?a10 ?l10 ?c10 ?k10 ?a11 ?l11 ?c11 ?k11 ?a12 ?l12 ?c12 ?k12 ?a13 ?l13 ?c13 ?k13 ?a14 ?l14 ?c14 ?k14 ?a15 ?l15 ?c15 ?k15 ?a16 ?l16 ?c16 ?k16 ?a17 ?l17 ?c17 ?k17 ?a18 ?l18 ?c18 ?k18 ?a19 ?l19 ?c19 ?k19 ?a20 ?l20 ?c20 ?k20 ?a21 ?l21 ?c21 ?k21 ?a22 ?l22 ?c22 ?k22 ?a23 ?l23 ?c23 ?k23 ?a24 ?l24 ?c24 ?k24 ?a25 ?l25 ?c25 ?k25 ?a26 ?l26 ?c26 ?k26 ?a27 ?l27 ?c27 ?k27 ?a28 ?l28 ?c28 ?k28 ?a29 ?l29 ?c29 ?k29 ?z_ValueError ?z_abs ?z_bool ?z_dict ?z_int ?z_isinstance ?z_len ?z_list ?z_range ?z_sorted ?z_tuple ?z_zip
    (case a1 => k_is)
    (case l1 => k_is)
    (case c1 => k_is)
    (case k1 => k_is)
    (case a2 => k_is)
    (case l2 => k_is)
    (case c2 => k_is)
    (case k2 => k_is)
    (case a3 => k_is)
    (case l3 => k_is)
    (case c3 => k_is)
    (case k3 => k_is)
    (case a4 => k_is)
    (case l4 => k_is)
    (case c4 => k_is)
    (case k4 => k_is)
    (case a5 => k_is)
    (case l5 => k_is)
    (case c5 => k_is)
    (case k5 => k_is)
    (case a6 => k_is)
    (case l6 => k_is)
    (case c6 => k_is)
    (case k6 => k_is)
    (case a7 => k_is)
    (case l7 => k_is)
    (case c7 => k_is)
    (case k7 => k_is)
    (case a8 => k_is)
    (case l8 => k_is)
    (case c8 => k_is)
    (case k8 => k_is)
    (case a9 => k_is)
    (case l9 => k_is)
    (case c9 => k_is)
    (case k9 => k_is)
    (case a10 => k_is)
    (case l10 => k_is)
    (case c10 => k_is)
    (case k10 => k_is)
    (case a11 => k_is)
    (case l11 => k_is)
    (case c11 => k_is)
    (case k11 => k_is)
    (case a12 => k_is)
    (case l12 => k_is)
    (case c12 => k_is)
    (case k12 => k_is)
    (case a13 => k_is)
    (case l13 => k_is)
    (case c13 => k_is)
    (case k13 => k_is)
    (case a14 => k_is)
    (case l14 => k_is)
    (case c14 => k_is)
    (case k14 => k_is)
    (case a15 => k_is)
    (case l15 => k_is)
    (case c15 => k_is)
    (case k15 => k_is)
    (case a16 => k_is)
    (case l16 => k_is)
    (case c16 => k_is)
    (case k16 => k_is)
    (case a17 => k_is)
    (case l17 => k_is)
    (case c17 => k_is)
    (case k17 => k_is)
    (case a18 => k_is)
    (case l18 => k_is)
    (case c18 => k_is)
    (case k18 => k_is)
    (case a19 => k_is)
    (case l19 => k_is)
    (case c19 => k_is)
    (case k19 => k_is)
    (case a20 => k_is)
    (case l20 => k_is)
    (case c20 => k_is)
    (case k20 => k_is)
    (case a21 => k_is)
    (case l21 => k_is)
    (case c21 => k_is)
    (case k21 => k_is)
    (case a22 => k_is)
    (case l22 => k_is)
    (case c22 => k_is)
    (case k22 => k_is)
    (case a23 => k_is)
    (case l23 => k_is)
    (case c23 => k_is)
    (case k23 => k_is)
    (case a24 => k_is)
    (case l24 => k_is)
    (case c24 => k_is)
    (case k24 => k_is)
    (case a25 => k_is)
    (case l25 => k_is)
    (case c25 => k_is)
    (case k25 => k_is)
    (case a26 => k_is)
    (case l26 => k_is)
    (case c26 => k_is)
    (case k26 => k_is)
    (case a27 => k_is)
    (case l27 => k_is)
    (case c27 => k_is)
    (case k27 => k_is)
    (case a28 => k_is)
    (case l28 => k_is)
    (case c28 => k_is)
    (case k28 => k_is)
    (case a29 => k_is)
    (case l29 => k_is)
    (case c29 => k_is)
    (case k29 => k_is)
    (case z_ValueError => k_is)
    (case z_abs => k_is)
    (case z_bool => k_is)
    (case z_dict => k_is)
    (case z_int => k_is)
    (case z_isinstance => k_is)
    (case z_len => k_is)
    (case z_list => k_is)
    (case z_range => k_is)
    (case z_sorted => k_is)
    (case z_tuple => k_is)
    (case z_zip => k_is)




