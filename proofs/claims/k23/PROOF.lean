import PyProof.Rows.All
import Wide.All
import OpenK.AllK
import Wide.FinOn
import Lean
import PyProof.EqAt
import PyProof.EqKinds
import PyProof.TupleCall
import PyProof.NeKinds
import PyProof.Rows.Range3
import KE.KDictOf
import KE.KMinBuiltin
import PyProof.Rows.CallKwBuiltin
import KE.KRevIter
import KE.KDictList
import PyProof.DictWalks
import KE.KSortTup
import KE.KDictSum
import KE.KItemsList
import PySem.Challenge.RW_toll_k23_by_way
set_option Elab.async false
set_option linter.all false
set_option maxRecDepth 100000
namespace L2
open PySem PySem.Spec PyProof.Rows

/-- a key: an int or a str -/
abbrev Key := Sum Int Str
def keyIs : Key → Value → Bool
  | .inl k, v => Value.isInt k v
  | .inr x, v => Value.isStrOf x v
def keyH (w : World) : Key → Int
  | .inl k => hashInt k
  | .inr x => hashStr w x
theorem keyIs_shape : ∀ {k : Key} {v : Value}, keyIs k v = true → (∃ i t, k = Sum.inl i ∧ v = Value.int i t) ∨ (∃ x t, k = Sum.inr x ∧ v = Value.str x t)
  | .inl i, v, h => by
    obtain ⟨t, e⟩ := Value.isInt_shape (k := i) (v := v) h
    exact .inl ⟨i, t, rfl, e⟩
  | .inr x, v, h => by
    obtain ⟨t, e⟩ := Value.isStrOf_shape (x := x) (v := v) h
    exact .inr ⟨x, t, rfl, e⟩
theorem keyIs_int (i : Int) (t : Tok) : keyIs (.inl i) (.int i t) = true := by simp [keyIs, Value.isInt]
theorem keyIs_str (x : Str) (t : Tok) : keyIs (.inr x) (.str x t) = true := by simp [keyIs, Value.isStrOf]
theorem key_ll (a b : Int) : decide ((Sum.inl a : Key) = Sum.inl b) = (a == b) := by
  by_cases e : a = b
  · subst e; simp
  · have h : ¬ (Sum.inl a : Key) = Sum.inl b := fun q => e (Sum.inl.inj q)
    rw [decide_eq_false h]
    exact (beq_eq_false_iff_ne.mpr e).symm
theorem key_rr (a b : Str) : decide ((Sum.inr a : Key) = Sum.inr b) = decide (a = b) := by
  by_cases e : a = b
  · subst e; simp
  · have h : ¬ (Sum.inr a : Key) = Sum.inr b := fun q => e (Sum.inr.inj q)
    rw [decide_eq_false h, decide_eq_false e]
theorem key_lr (a : Int) (b : Str) : decide ((Sum.inl a : Key) = Sum.inr b) = false := decide_eq_false (fun q => nomatch q)
theorem key_rl (a : Str) (b : Int) : decide ((Sum.inr a : Key) = Sum.inl b) = false := decide_eq_false (fun q => nomatch q)

def mixKind (prog : Program) (w : World) : PySem.KeyKind prog w Key where
  is := keyIs
  hash := keyH w
  inj := fun v a b ha hb => by
    rcases keyIs_shape ha with ⟨i, t, rfl, rfl⟩ | ⟨x, t, rfl, rfl⟩
    · rcases keyIs_shape hb with ⟨j, u, rfl, e⟩ | ⟨y, u, rfl, e⟩
      · injection e with e1 _; rw [e1]
      · exact nomatch e
    · rcases keyIs_shape hb with ⟨j, u, rfl, e⟩ | ⟨y, u, rfl, e⟩
      · exact nomatch e
      · injection e with e1 _; rw [e1]
  byValue := fun k v h => by
    rcases keyIs_shape h with ⟨i, t, rfl, rfl⟩ | ⟨x, t, rfl, rfl⟩ <;> rfl
  pyHash := fun hv h => by
    rcases keyIs_shape hv with ⟨i, t, rfl, rfl⟩ | ⟨x, t, rfl, rfl⟩
    · exact wpAny_pyHash_int h
    · exact wpAny_pyHash_str h
  eqBool := fun hu hv h => by
    rcases keyIs_shape hu with ⟨i, t, rfl, rfl⟩ | ⟨x, t, rfl, rfl⟩
    · rcases keyIs_shape hv with ⟨j, u, rfl, rfl⟩ | ⟨y, u, rfl, rfl⟩
      · rw [key_ll] at h; exact wpAny_eqBool_int h
      · rw [key_lr] at h; exact SeqAt.EqAt.int_str i t y u _ _ _ _ h
    · rcases keyIs_shape hv with ⟨j, u, rfl, rfl⟩ | ⟨y, u, rfl, rfl⟩
      · rw [key_rl] at h; exact SeqAt.EqAt.str_int x t j u _ _ _ _ h
      · rw [key_rr] at h; exact wpAny_eqBool_str h
  «strs» := fun k x t v h => by
    rcases keyIs_shape h with ⟨i, u, rfl, e⟩ | ⟨y, u, rfl, e⟩
    · exact nomatch e
    · injection e with e1 _
      subst e1
      cases v <;> rfl

theorem mixKind_int (prog : Program) (w : World) (i : Int) (t : Tok) : (mixKind prog w).is (.inl i) (.int i t) = true := keyIs_int i t
theorem mixKind_str (prog : Program) (w : World) (x : Str) (t : Tok) : (mixKind prog w).is (.inr x) (.str x t) = true := keyIs_str x t
end L2

namespace L2
open PySem PySem.Spec PyProof.Rows

/-- a value, without the heap -/
inductive V where
  | non | bl (b : Bool) | int (i : Int) | str (x : Str) | byt (b : Array UInt8) | flt (b : UInt64) | ref (a : Addr) | ty (n : String)
  deriving DecidableEq

def RelV : V → Value → Prop
  | .non, u => u = Value.none
  | .bl b, u => u = Value.bool b
  | .int i, u => ∃ t, u = Value.int i t
  | .str x, u => ∃ t, u = Value.str x t
  | .byt b, u => ∃ t, u = Value.bytes b t
  | .flt b, u => ∃ t, u = Value.float b t
  | .ref a, u => u = Value.ref a
  | .ty n, u => u = Value.type n

abbrev Vals : List V → List Value → Prop := Paired RelV
theorem Vals.length {xs : List V} {us : List Value} (r : Vals xs us) : xs.length = us.length := Paired.length r
theorem Vals.get : ∀ {xs : List V} {us : List Value} {i : Nat} {x : V}, Vals xs us → xs[i]? = some x → ∃ u, us[i]? = some u ∧ RelV x u
  | _, _, _, _, .nil, e => by simp at e
  | _, _, 0, _, .cons r _, e => by simp at e; subst e; exact ⟨_, rfl, r⟩
  | _, _, i + 1, x, .cons _ t, e => by
    obtain ⟨u, h1, h2⟩ := Vals.get (i := i) (x := x) t (by simpa using e)
    exact ⟨u, by simpa using h1, h2⟩
theorem Vals.set {x : V} {u : Value} (r : RelV x u) : ∀ {xs : List V} {us : List Value} (i : Nat), Vals xs us → Vals (xs.set i x) (us.set i u)
  | _, _, _, .nil => .nil
  | _, _, 0, .cons _ t => .cons r t
  | _, _, i + 1, .cons q t => .cons q (Vals.set r i t)
theorem Vals.append : ∀ {xs ys : List V} {us ws : List Value}, Vals xs us → Vals ys ws → Vals (xs ++ ys) (us ++ ws)
  | _, _, _, _, .nil, s => s
  | _, _, _, _, .cons r t, s => .cons r (Vals.append t s)
theorem Vals.take : ∀ {xs : List V} {us : List Value} (n : Nat), Vals xs us → Vals (xs.take n) (us.take n)
  | _, _, 0, _ => .nil
  | _, _, _ + 1, .nil => .nil
  | _, _, n + 1, .cons r t => .cons r (Vals.take n t)
theorem Vals.drop : ∀ {xs : List V} {us : List Value} (n : Nat), Vals xs us → Vals (xs.drop n) (us.drop n)
  | _, _, 0, r => r
  | _, _, _ + 1, .nil => .nil
  | _, _, n + 1, .cons _ t => Vals.drop n t
def RelO : Option V → Option Value → Prop
  | some v, some u => RelV v u
  | none, none => True
  | _, _ => False
def KV {κ : Type} : List (κ × V) → List (κ × Value) → Prop := Paired fun (p : κ × V) (q : κ × Value) => p.1 = q.1 ∧ RelV p.2 q.2

/-- a key of a dict (00_mix): an int or a text -/
def kV : Key → V
  | .inl i => .int i
  | .inr x => .str x

/-- what stands at a tracked address -/
inductive HO where
  /-- a list -/
  | lst (xs : List V)
  /-- a tuple (never changes) -/
  | tup (xs : List V)
  /-- a dict whose keys are ints and texts; one whose keys are tuples of ints and texts (the empty one is both) -/
  | dK (kvs : List (Key × V)) | dT (kvs : List (List Key × V))
  /-- a set of ints: its members, its size -/
  | set (S : Int → Bool) (n : Nat)
  /-- an instance of the class at C, its dict at dx, its attributes -/
  | ins (C dx : Addr) (fs : List (Str × V))
  /-- the dict of the instance at x -/
  | own (x : Addr)
  /-- the dict of an exception -/
  | xd (fs : List (Str × V))
  /-- a bound method, f of x -/
  | met (f x : Addr)
  /-- a range object lo, lo + 1, .. below hi -/
  | rng (lo hi : Int)
  /-- a thing that is known to the object (the script; a dict while a loop walks it): read, never written while it is so -/
  | frz (o : Obj) (u : HO)
  /-- a code object's table -/
  | tbl (ps : Array Value)
  /-- any other thing, by what is true of its one object (a def of one's own: SetO a S n := HO.ext fun h => ..) -/
  | ext (φ : Heap → Prop)

abbrev Hp := Addr → Option HO
def upd (H : Hp) (a : Addr) (o : HO) : Hp := fun b => if b = a then some o else H b
theorem upd_same {H : Hp} {a : Addr} {o : HO} : upd H a o a = some o := by unfold upd; rw [if_pos rfl]
theorem upd_ne {H : Hp} {a b : Addr} {o : HO} (h : b ≠ a) : upd H a o b = H b := by unfold upd; rw [if_neg h]
/-- two objects of different content stand apart -/
theorem ne_of {H : Hp} {a b : Addr} {o u : HO} (h : H a = some o) (h' : H b = some u) (d : o ≠ u) : a ≠ b := by
  intro e; subst e; rw [h] at h'; exact d (Option.some.inj h')
theorem ne_of_none {H : Hp} {a b : Addr} {o : HO} (h : H a = some o) (h' : H b = none) : a ≠ b := by
  intro e; subst e; rw [h] at h'; cases h'

section
variable (P : Program) (w : World)
def ObjOk (H : Hp) (h : Heap) (a : Addr) : HO → Prop
  | .lst xs => xs.length ≤ sizeLine ∧ ∃ (its : List Value) (n : Nat), Vals xs its ∧ h.get? a = some { cls := .type "list", data := .seq its.toArray n }
  | .tup xs => xs.length ≤ sizeLine ∧ ∃ its : List Value, Vals xs its ∧ IsTup h a its.toArray ∧ ∃ o, h.get? a = some o ∧ o.dict = none
  | .dK kvs => kvs.length ≤ sizeLine ∧ (a == sysModules) = false ∧ ∃ vs, KV kvs vs ∧ h.DictOf (mixKind P w) a vs
  | .dT kvs => kvs.length ≤ sizeLine ∧ (a == sysModules) = false ∧ ∃ xs : List (List Key × Addr × Value),
      Paired (fun (p : List Key × V) (q : List Key × Addr × Value) => p.1 = q.1 ∧ H q.2.1 = some (.tup (p.1.map kV)) ∧ RelV p.2 q.2.2) kvs xs ∧
      ∃ o es ep, h.get? a = some o ∧ o.ExactDict ∧ o.data = .dict es ep ∧ es.toList = xs.map (entryOfKey (tupleKind (mixKind P w))) ∧ (xs.map (·.1)).Nodup
  | .set S n => h.SetOf (intKind P w) a S n
  | .ins C dx fs => H dx = some (.own a) ∧ fs.length ≤ 1000 ∧ dx ≠ a ∧ h.get? a = some (PySem.W.instObj C dx) ∧
      ∃ mA, h.Ns1 dx mA ∧ (∀ f, RelO (fs.lookup f) (mA f)) ∧ PySem.Within mA (fs.map (·.1))
  | .own _ => ∃ o, h.get? a = some o
  | .xd fs => ∃ mA, h.Ns1 a mA ∧ ∀ f, RelO (fs.lookup f) (mA f)
  | .rng lo hi => ∃ t u v, h.get? a = some { cls := .type "range", data := .fields #[.int lo t, .int hi u, .int 1 v] }
  | .frz o u => h.get? a = some o ∧ ObjOk H h a u
  | .tbl ps => h.get? a = some { cls := .none, data := .fields ps }
  | .met f x => h.get? a = some (PySem.W.methodObj (.ref f) (.ref x))
  | .ext φ => φ h ∧ (∃ o, h.get? a = some o) ∧ ∀ h1 h2 : Heap, φ h1 → (∀ o, h1.get? a = some o → h2.get? a = some o) → φ h2
/-- the abstract heap is held -/
def HOk (H : Hp) (h : Heap) : Prop := ∀ a o, H a = some o → ObjOk P w H h a o
end

section
variable {P : Program} {w : World} {H H' : Hp} {h h' : Heap} {a : Addr} {o : HO}
theorem ObjOk.lt (x : ObjOk P w H h a o) : a < h.objs.size := by
  cases o with
  | lst xs => obtain ⟨_, _, _, _, e⟩ := x; exact Heap.lt_size e
  | tup xs => obtain ⟨_, _, _, p⟩ := x; exact p.1.lt
  | dK kvs => obtain ⟨_, _, _, _, o, _, _, e, _⟩ := x; exact Heap.lt_size e
  | dT kvs => obtain ⟨_, _, _, _, o, _, _, e, _⟩ := x; exact Heap.lt_size e
  | set S n => obtain ⟨o, _, _, _, e, _⟩ := x; exact Heap.lt_size e
  | ins C dx fs => obtain ⟨_, _, _, e, _⟩ := x; exact Heap.lt_size e
  | own y => obtain ⟨_, e⟩ := x; exact Heap.lt_size e
  | xd fs => obtain ⟨_, ⟨_, _, _, e, _⟩, _⟩ := x; exact Heap.lt_size e
  | rng lo hi => obtain ⟨_, _, _, e⟩ := x; exact Heap.lt_size e
  | frz ob u => obtain ⟨e, _⟩ := x; exact Heap.lt_size e
  | tbl ps => exact Heap.lt_size (show h.get? a = some _ from x)
  | met f y => exact Heap.lt_size (show h.get? a = some _ from x)
  | ext φ => obtain ⟨_, ⟨_, e⟩, _⟩ := x; exact Heap.lt_size e
theorem Paired.mapP {α β : Type} {F G : α → β → Prop} : ∀ {l₁ : List α} {l₂ : List β}, Paired F l₁ l₂ → (∀ a b, F a b → G a b) → Paired G l₁ l₂
  | _, _, .nil, _ => .nil
  | _, _, .cons r t, f => .cons (f _ _ r) (Paired.mapP t f)
/-- what an object's description leans on: its own object, its own dict, the tuples -/
theorem ObjOk.stay (x : ObjOk P w H h a o) (k : ∀ b u, (b = a ∨ H b = some (.own a)) → h.get? b = some u → h'.get? b = some u)
    (ho : ∀ b, H b = some (.own a) → H' b = some (.own a)) (ht : ∀ b xs, H b = some (.tup xs) → H' b = some (.tup xs)) : ObjOk P w H' h' a o := by
  induction o with
  | lst xs => obtain ⟨z, its, n, r, e⟩ := x; exact ⟨z, its, n, r, k _ _ (.inl rfl) e⟩
  | tup xs => obtain ⟨z, its, r, ⟨ob, e, c⟩, od, ed, cd⟩ := x; exact ⟨z, its, r, ⟨ob, k _ _ (.inl rfl) e, c⟩, od, k _ _ (.inl rfl) ed, cd⟩
  | dK kvs => obtain ⟨z, y, vs, r, ob, es, ep, e, c⟩ := x; exact ⟨z, y, vs, r, ob, es, ep, k _ _ (.inl rfl) e, c⟩
  | dT kvs =>
    obtain ⟨z, y, xs, r, ob, es, ep, e, c⟩ := x
    exact ⟨z, y, xs, Paired.mapP r fun p q z => ⟨z.1, ht _ _ z.2.1, z.2.2⟩, ob, es, ep, k _ _ (.inl rfl) e, c⟩
  | set S n => obtain ⟨ob, es, ep, t, e, c⟩ := x; exact ⟨ob, es, ep, t, k _ _ (.inl rfl) e, c⟩
  | ins C dx fs =>
    obtain ⟨d, z, ne, e, mA, ⟨od, es, ep, e2, c⟩, r⟩ := x
    exact ⟨ho _ d, z, ne, k _ _ (.inl rfl) e, mA, ⟨od, es, ep, k _ _ (.inr d) e2, c⟩, r⟩
  | own y => obtain ⟨ob, e⟩ := x; exact ⟨ob, k _ _ (.inl rfl) e⟩
  | xd fs => obtain ⟨mA, ⟨od, es, ep, e, c⟩, r⟩ := x; exact ⟨mA, ⟨od, es, ep, k _ _ (.inl rfl) e, c⟩, r⟩
  | rng lo hi => obtain ⟨t, u, v, e⟩ := x; exact ⟨t, u, v, k _ _ (.inl rfl) e⟩
  | frz ob u ih => obtain ⟨e, q⟩ := x; exact ⟨k _ _ (.inl rfl) e, ih q⟩
  | tbl ps =>
    have e : h.get? a = some { cls := .none, data := .fields ps } := x
    show h'.get? a = some { cls := .none, data := .fields ps }
    exact k a _ (.inl rfl) e
  | met f y =>
    have e : h.get? a = some (PySem.W.methodObj (.ref f) (.ref y)) := x
    show h'.get? a = some (PySem.W.methodObj (.ref f) (.ref y))
    exact k a _ (.inl rfl) e
  | ext φ => obtain ⟨p, ⟨o, e⟩, st⟩ := x; exact ⟨st _ _ p fun o q => k _ _ (.inl rfl) q, ⟨o, k _ _ (.inl rfl) e⟩, st⟩
theorem HOk.lt (x : HOk P w H h) (e : H a = some o) : a < h.objs.size := (x a o e).lt
theorem HOk.fresh (x : HOk P w H h) (e : h.objs.size ≤ a) : H a = none := by
  cases q : H a with
  | none => rfl
  | some u => exact absurd (Nat.lt_of_lt_of_le (x.lt q) e) (Nat.lt_irrefl _)
/-- every object of the heap is kept -/
theorem HOk.kept (x : HOk P w H h) (k : ∀ b u, h.get? b = some u → h'.get? b = some u) : HOk P w H h' := fun a o e =>
  (x a o e).stay (fun b u _ q => k b u q) (fun _ q => q) fun _ _ q => q
/-- a new object is laid and tracked -/
theorem HOk.laid (x : HOk P w H h) (k : ∀ b u, h.get? b = some u → h'.get? b = some u) (hp : h.objs.size ≤ a) (new : ObjOk P w (upd H a o) h' a o) : HOk P w (upd H a o) h' := fun b u e => by
  have hn := x.fresh hp
  by_cases hb : b = a
  · subst hb; rw [upd_same] at e; cases e; exact new
  · rw [upd_ne hb] at e
    exact (x b u e).stay (fun c v _ q => k c v q) (fun c q => by rw [upd_ne (ne_of_none q hn)]; exact q) fun c xs q => by rw [upd_ne (ne_of_none q hn)]; exact q
end

/-- what may be read as u: it is u, or a known u -/
def Rd (H : Hp) (a : Addr) (u : HO) : Prop := H a = some u ∨ ∃ o, H a = some (.frz o u)
theorem Rd.of {H : Hp} {a : Addr} {u : HO} (h : H a = some u) : Rd H a u := .inl h
theorem Rd.ok {P : Program} {w : World} {H : Hp} {h : Heap} {a : Addr} {u : HO} (r : Rd H a u) (x : HOk P w H h) : ObjOk P w H h a u := by
  rcases r with r | ⟨o, r⟩
  · exact x a u r
  · obtain ⟨_, q⟩ := x a _ r
    exact q
/-- what may be written -/
def Mut : Option HO → Prop
  | some (.lst _) => True
  | some (.dK _) => True
  | some (.dT _) => True
  | some (.set _ _) => True
  | some (.ins _ _ _) => True
  | some (.ext _) => True
  | _ => False
section
variable {P : Program} {w : World} {H : Hp} {h h' : Heap} {x e : Addr} {o' : HO}
/-- the object at e is changed: x itself, or the dict of the instance x -/
theorem HOk.write (ok : HOk P w H h) (mu : Mut (H x)) (he : e = x ∨ H e = some (.own x)) (k : ∀ b u, b ≠ e → h.get? b = some u → h'.get? b = some u) (heo : ∃ u, h'.get? e = some u)
    (new : ObjOk P w (upd H x o') h' x o') : HOk P w (upd H x o') h' := fun b u q => by
  have nown : ∀ c y, H c = some (.own y) → c ≠ x := fun c y r z => by subst z; rw [r] at mu; exact mu
  have ntup : ∀ c xs, H c = some (.tup xs) → c ≠ x := fun c xs r z => by subst z; rw [r] at mu; exact mu
  by_cases hb : b = x
  · subst hb; rw [upd_same] at q; cases q; exact new
  · rw [upd_ne hb] at q
    by_cases hbe : b = e
    · have q' : H b = some (.own x) := by
        rcases he with z | z
        · exact absurd (hbe.trans z) hb
        · rw [hbe]; exact z
      rw [q] at q'; cases q'
      obtain ⟨v, hv⟩ := heo
      exact ⟨v, by rw [hbe]; exact hv⟩
    · refine (ok b u q).stay (fun c v hc r => k c v ?_ r) (fun c r => by rw [upd_ne (nown c b r)]; exact r) fun c xs r => by rw [upd_ne (ntup c xs r)]; exact r
      rcases hc with rfl | hc
      · exact hbe
      · rintro rfl
        rcases he with z | z
        · exact nown c b hc z
        · rw [hc] at z; cases z; exact hb rfl
end

structure Un (fs ex : List Addr) (H H' : Hp) (h h' : Heap) : Prop where
  keep : ∀ b o, h.get? b = some o → H b = none → b ∉ fs → b ∉ ex → h'.get? b = some o
  slot : ∀ b o, h.get? b = some o → H b = none → b ∈ fs → b ∉ ex → ∃ sl, h'.get? b = some { o with slots := sl }
  free : ∀ b o, h.get? b = some o → H b = none → b ∉ ex → H' b = none
  there : ∀ b o, h.get? b = some o → b ∉ ex → ∃ o', h'.get? b = some o'
  tups : ∀ b xs, H b = some (.tup xs) → H' b = some (.tup xs)
  frzs : ∀ b o u, H b = some (.frz o u) → H' b = some (.frz o u)
  tbls : ∀ b ps, H b = some (.tbl ps) → ∃ more, H' b = some (.tbl (ps ++ more))
section
variable {fs fs' ex ex' : List Addr} {H H1 H2 : Hp} {h h1 h2 h' : Heap} {a x e : Addr} {o : HO}
theorem Un.any (u : Un fs ex H H1 h h1) {b : Addr} {ob : Obj} (q : h.get? b = some ob) (n : H b = none) (hx : b ∉ ex) : ∃ sl, h1.get? b = some { ob with slots := sl } := by
  by_cases hb : b ∈ fs
  · exact u.slot b ob q n hb hx
  · exact ⟨ob.slots, u.keep b ob q n hb hx⟩
theorem Un.trans (a : Un fs ex H H1 h h1) (b : Un fs ex H1 H2 h1 h2) : Un fs ex H H2 h h2 where
  keep := fun c ob q n hc hx => b.keep c ob (a.keep c ob q n hc hx) (a.free c ob q n hx) hc hx
  slot := fun c ob q n hc hx => by
    obtain ⟨sl, e1⟩ := a.slot c ob q n hc hx
    obtain ⟨sl', e2⟩ := b.slot c _ e1 (a.free c ob q n hx) hc hx
    exact ⟨sl', e2⟩
  free := fun c ob q n hx => by
    obtain ⟨o', e1⟩ := a.there c ob q hx
    exact b.free c o' e1 (a.free c ob q n hx) hx
  there := fun c ob q hx => by
    obtain ⟨o', e1⟩ := a.there c ob q hx
    exact b.there c o' e1 hx
  tups := fun c xs q => b.tups c xs (a.tups c xs q)
  frzs := fun c ob xs q => b.frzs c ob xs (a.frzs c ob xs q)
  tbls := fun c ps q => by
    obtain ⟨m1, e1⟩ := a.tbls c ps q
    obtain ⟨m2, e2⟩ := b.tbls c _ e1
    exact ⟨m1 ++ m2, by rw [e2, Array.append_assoc]⟩
theorem Un.kept (k : ∀ b u, h.get? b = some u → h'.get? b = some u) : Un fs ex H H h h' :=
  ⟨fun b ob q _ _ _ => k b ob q, fun b ob q _ _ _ => ⟨ob.slots, k b ob q⟩, fun _ _ _ n _ => n, fun b ob q _ => ⟨ob, k b ob q⟩, fun _ _ q => q, fun _ _ _ q => q, fun _ ps q => ⟨#[], by rw [q]; simp⟩⟩
theorem Un.refl : Un fs ex H H h h := Un.kept fun _ _ q => q
theorem Un.laid (k : ∀ b u, h.get? b = some u → h'.get? b = some u) (hp : h.objs.size ≤ a) (hn : H a = none) : Un fs ex H (upd H a o) h h' where
  keep := fun b u q _ _ _ => k b u q
  slot := fun b u q _ _ _ => ⟨u.slots, k b u q⟩
  free := fun b u q n _ => by rw [upd_ne (Nat.ne_of_lt (Nat.lt_of_lt_of_le (Heap.lt_size q) hp))]; exact n
  there := fun b u q _ => ⟨u, k b u q⟩
  tups := fun b xs q => by rw [upd_ne (ne_of_none q hn)]; exact q
  frzs := fun b u xs q => by rw [upd_ne (ne_of_none q hn)]; exact q
  tbls := fun b ps q => ⟨#[], by rw [upd_ne (ne_of_none q hn), q]; simp⟩
theorem Un.write (mu : Mut (H x)) (he : e = x ∨ H e = some (.own x)) (k : ∀ b u, b ≠ e → h.get? b = some u → h'.get? b = some u) (heo : ∃ u, h'.get? e = some u) : Un fs ex H (upd H x o) h h' := by
  have hx : ∀ b, H b = none → b ≠ x := fun b n z => by subst z; rw [n] at mu; exact mu
  have hb : ∀ b, H b = none → b ≠ e := fun b n z => by
    subst z
    rcases he with r | r
    · exact hx b n r
    · rw [n] at r; cases r
  have hm : ∀ b u, H b = some u → ¬ Mut (some u) → b ≠ x := fun b u q nm z => by subst z; rw [q] at mu; exact nm mu
  refine ⟨fun b u q n _ _ => k b u (hb b n) q, fun b u q n _ _ => ⟨u.slots, k b u (hb b n) q⟩, fun b u q n _ => by rw [upd_ne (hx b n)]; exact n, fun b u q _ => ?_,
    fun b xs q => by rw [upd_ne (hm b _ q fun z => z)]; exact q, fun b u xs q => by rw [upd_ne (hm b _ q fun z => z)]; exact q, fun b ps q => ⟨#[], by rw [upd_ne (hm b _ q fun z => z), q]; simp⟩⟩
  by_cases hbe : b = e
  · subst hbe; exact heo
  · exact ⟨u, k b u hbe q⟩
theorem Un.mono (u : Un fs ex H H1 h h1) (hs : ∀ b ∈ fs, b ∈ fs') (hx : ∀ b ∈ ex, b ∈ ex') : Un fs' ex' H H1 h h1 :=
  ⟨fun b ob q n hb he => u.keep b ob q n (fun z => hb (hs b z)) fun z => he (hx b z), fun _ _ q n _ he => u.any q n fun z => he (hx _ z), fun b ob q n he => u.free b ob q n fun z => he (hx b z), fun b ob q he => u.there b ob q fun z => he (hx b z), u.tups, u.frzs, u.tbls⟩
end

def trk (h : Heap) (H : Hp) : List Addr := (List.range h.objs.size).filter fun a => (H a).isSome
def hidT (h : Heap) (H : Hp) : Heap := PySem.W.hideAll h (trk h H)
theorem hidT_size (h : Heap) (H : Hp) : (hidT h H).objs.size = h.objs.size := PySem.W.hideAll_size _ _
theorem hidT_get {h : Heap} {H : Hp} {b : Addr} {o : Obj} (e : h.get? b = some o) (n : H b = none) : (hidT h H).get? b = some o :=
  PySem.W.hideAll_get _ e fun hm => by
    have q : (H b).isSome = true := (List.mem_filter.mp hm).2
    rw [n] at q; simp at q
theorem of_hidT {h : Heap} {H : Hp} {b : Addr} {o : Obj} (e : (hidT h H).get? b = some o) : h.get? b = some o ∧ H b = none := by
  have e' : h.get? b = some o := PySem.W.of_hideAll (trk h H) e
  refine ⟨e', ?_⟩
  cases q : H b with
  | none => rfl
  | some x =>
    have hm : b ∈ trk h H := List.mem_filter.mpr ⟨List.mem_range.mpr (Heap.lt_size e'), by simp [q]⟩
    have z : (hidT h H).get? b = none := PySem.W.hideAll_none (trk h H) hm
    rw [z] at e; cases e

def allNews (g h : Heap) (L : Addr) : List (Addr × Obj) := (List.range h.objs.size).filterMap fun a => if a = L ∨ (g.get? a).isSome = true then none else (h.get? a).map fun o => (a, o)
def rest (g h : Heap) (L d : Addr) : List (Addr × Obj) := (allNews g h L).filter fun p => decide (p.1 ≠ d)
end L2

namespace L2
open PySem PySem.Spec PyProof.Rows

/-- the module's facts, over the base: the heap at the law's entry without what is tracked there -/
structure Mod (K : PySem.W.Frag) (mg : Str → Option Value) (base : Heap) : Prop where
  kin : K.In base
  glob : base.Ns mainGlobals mg
  blt : ∃ mb, base.Ns builtinsNs mb ∧ ∀ x : Str, x ≠ "__name__" → mb x = bootBuiltins x
  nolimit : base.NoLimit

/-- the context: a def's body (or a comprehension's block) running. base: fixed through the whole law; s₀, H₀: the entry; outer: the frames whose slots others may change (a def's callers); stack: all frames that run;
   ex: iterators that were made ahead of the entry and are walked here (a comprehension's); fn: the names whose cells were made at the entry (a def: all; a comprehension's block: its own); calm: not within an except suite; pn: pins that every state bears; xe: what is wanted of an exception that leaves the code -/
structure Cx where
  prog : Program
  w : World
  K : PySem.W.Frag
  mg : Str → Option Value
  base : Heap
  A : Around
  N : List Str
  s₀ : Shared
  H₀ : Hp
  env : Env
  outer : List Env
  stack : List Env
  ex : List Addr
  fn : Str → Bool
  calm : Bool
  pn : List (Addr × Obj)
  xe : Value → Shared → Prop
/-- the callers' frames -/
def frs (l : List Env) : List Addr := l.filterMap (·.frame)
abbrev Cx.fs (X : Cx) : List Addr := frs X.outer

def Vis (sc : Scope) (x : Str) : Prop := sc.names.lookup x = some .local ∨ sc.names.lookup x = some .cell ∨ sc.names.lookup x = some .free
def Loc (sc : Scope) (x : Str) : Prop := sc.names.lookup x = some .local ∨ sc.names.lookup x = some .cell
def Look (env : Env) (h : Heap) (m : Str → Option Value) (x : Str) (u : Value) : Prop :=
  (env.kindOf x = some .local ∧ m x = some u) ∨ ((env.kindOf x = some .cell ∨ env.kindOf x = some .free) ∧ ∃ c, env.cells.lookup x = some c ∧ h.IsCell c (some u))

structure Cx.Ok (X : Cx) : Prop where
  mod : Mod X.K X.mg X.base
  kind : X.env.scope.kind = .function
  glob : X.env.globals = mainGlobals
  blt : X.env.builtins = builtinsNs
  above : X.s₀.heap.objs.size ≤ X.env.locals
  inj : ∀ x y c, X.env.cells.lookup x = some c → X.env.cells.lookup y = some c → x = y
  has : ∀ x, (X.env.kindOf x = some .cell ∨ X.env.kindOf x = some .free) → ∃ c, X.env.cells.lookup x = some c
  cab : ∀ x c, X.fn x = true → X.env.cells.lookup x = some c → X.s₀.heap.objs.size ≤ c
  hd : X.calm = true → X.A.handled = none
  frames : X.A.frames = some X.stack
  stk : X.stack = X.outer ∨ (X.stack = X.env :: X.outer ∧ X.env.frame = some X.env.locals)
  exf : ∀ b ∈ X.ex, b ≠ X.env.locals ∧ ∀ x c, X.env.cells.lookup x = some c → c ≠ b
  bs : ∀ b o, X.base.get? b = some o → X.s₀.heap.get? b = some o ∧ X.H₀ b = none
  bsz : X.base.objs.size ≤ X.s₀.heap.objs.size
  noex : ∀ b o, X.base.get? b = some o → b ∉ X.ex
  exfs : ∀ b ∈ X.ex, b ∉ X.fs
  funs : X.s₀.heap.FunFrames X.base X.outer
  frf : ∀ b ∈ X.fs, X.H₀ b = none

structure Inv (X : Cx) (pins : List (Addr × Obj)) (σ : List (Option V)) (H : Hp) (s : Shared) : Prop where
  ok : X.Ok
  os : s.os = X.s₀.os
  bare : AllBare s.gens
  base : Un X.fs X.ex X.H₀ H X.s₀.heap s.heap
  loc : ∃ m, s.heap.Ns X.env.locals m ∧ ∀ (i : Nat) (x : Str) (v : V), X.N[i]? = some x → σ[i]? = some (some v) → Vis X.env.scope x → ∃ u, RelV v u ∧ Look X.env s.heap m x u
  cell : ∀ x c, X.env.cells.lookup x = some c → ∃ v, s.heap.IsCell c v
  free : H X.env.locals = none
  freeC : ∀ x c, X.env.cells.lookup x = some c → H c = none
  pin : ∀ p ∈ X.pn ++ pins, s.heap.get? p.1 = some p.2 ∧ H p.1 = none ∧ p.1 ≠ X.env.locals ∧ p.1 ∉ X.fs ∧ ∀ v, p.2.data ≠ .cell v
  hok : HOk X.prog X.w H s.heap
  len : σ.length = X.N.length

section
variable {X : Cx} {pins : List (Addr × Obj)} {σ : List (Option V)} {H H' : Hp} {s : Shared} {h' : Heap}

theorem Cx.Ok.nofr (ok : X.Ok) {b : Addr} {o : Obj} (e : X.base.get? b = some o) : b ∉ X.fs := fun hb => by
  have := (ok.funs.mem hb).1
  rw [e] at this; cases this
theorem Inv.bs (I : Inv X pins σ H s) : ∀ b o, X.base.get? b = some o → s.heap.get? b = some o ∧ H b = none := fun b o e =>
  ⟨I.base.keep b o (I.ok.bs b o e).1 (I.ok.bs b o e).2 (I.ok.nofr e) (I.ok.noex b o e), I.base.free b o (I.ok.bs b o e).1 (I.ok.bs b o e).2 (I.ok.noex b o e)⟩
theorem Inv.bk (I : Inv X pins σ H s) : ∀ b o, X.base.get? b = some o → s.heap.get? b = some o := fun b o e => (I.bs b o e).1
theorem Inv.mod (I : Inv X pins σ H s) : Mod X.K X.mg X.base := I.ok.mod
theorem Inv.kIn (I : Inv X pins σ H s) : X.K.In s.heap := I.ok.mod.kin.keeps I.bk
theorem Inv.nolimit (I : Inv X pins σ H s) : s.heap.NoLimit := I.ok.mod.nolimit.keeps I.bk
/-- the frame over the base: for OpenK's rules (K.In X.base is I.mod.kin) -/
theorem Inv.fr (I : Inv X pins σ H s) : ∃ m, Fr X.base X.env.locals s.heap m :=
  let ⟨m, hn, _⟩ := I.loc
  ⟨m, hn, I.bk, Nat.le_trans I.ok.bsz I.ok.above⟩
theorem Inv.lt (I : Inv X pins σ H s) : X.env.locals < s.heap.objs.size := let ⟨_, hn, _⟩ := I.loc; hn.lt
theorem Inv.sz (I : Inv X pins σ H s) : X.s₀.heap.objs.size ≤ s.heap.objs.size := Nat.le_trans I.ok.above (Nat.le_of_lt I.lt)
theorem Inv.nofs (I : Inv X pins σ H s) {a : Addr} (h : s.heap.objs.size ≤ a) : a ∉ X.fs := fun hb => by
  obtain ⟨_, o, ho, _⟩ := I.ok.funs.mem hb
  exact absurd (Nat.lt_of_lt_of_le (Heap.lt_size ho) (Nat.le_trans I.sz h)) (Nat.lt_irrefl _)
theorem Inv.cne (I : Inv X pins σ H s) : ∀ x c, X.env.cells.lookup x = some c → c ≠ X.env.locals := fun x c e z => by
  obtain ⟨v, o, ho, hd⟩ := I.cell x c e
  obtain ⟨m, ⟨o', es, ep, ho', hd', _⟩, _⟩ := I.loc
  rw [z, ho'] at ho; cases ho; rw [hd'] at hd; cases hd
theorem Inv.funs (I : Inv X pins σ H s) : s.heap.FunFrames X.base X.outer := by
  have all : ∀ (l : List Env), (∀ b ∈ frs l, b ∈ X.fs) → X.s₀.heap.FunFrames X.base l → s.heap.FunFrames X.base l := by
    intro l
    induction l with
    | nil => intro _ _; trivial
    | cons env r ih =>
      intro hs hl
      obtain ⟨hk, ⟨L, o, hf, hn, ho, hd⟩, hr⟩ := hl
      have hL : L ∈ X.fs := hs L (by unfold frs; rw [List.filterMap_cons, hf]; exact List.mem_cons_self)
      obtain ⟨sl, e⟩ := I.base.slot L o ho (I.ok.frf L hL) hL fun z => I.ok.exfs L z hL
      exact ⟨hk, ⟨L, _, hf, hn, e, hd⟩, ih (fun b hb => hs b (by unfold frs; rw [List.filterMap_cons, hf]; exact List.mem_cons_of_mem _ hb)) hr⟩
  exact all X.outer (fun _ hb => hb) I.ok.funs

/-- the frames that run, for a call -/
theorem Inv.stack (I : Inv X pins σ H s) : s.heap.FunFrames X.base X.stack := by
  rcases I.ok.stk with e | ⟨e, hf⟩
  · rw [e]; exact I.funs
  · rw [e]
    obtain ⟨m, hn, _⟩ := I.loc
    refine .cons (by rw [I.ok.kind]; decide) hf hn ?_ I.funs
    exact Heap.get?_none_of_le (Nat.le_trans I.ok.bsz I.ok.above)
theorem Inv.stkSub (I : Inv X pins σ H s) : ∀ b ∈ frs X.stack, b ∈ X.env.locals :: X.fs := fun b hb => by
  rcases I.ok.stk with e | ⟨e, hf⟩
  · rw [e] at hb; exact List.mem_cons_of_mem _ hb
  · rw [e] at hb
    unfold frs at hb
    rw [List.filterMap_cons, hf] at hb
    exact hb
theorem Inv.stkFree (I : Inv X pins σ H s) : ∀ b ∈ frs X.stack, H b = none := fun b hb => by
  rcases List.mem_cons.mp (I.stkSub b hb) with e | hb
  · rw [e]; exact I.free
  · obtain ⟨_, o, ho, _⟩ := I.ok.funs.mem hb
    exact I.base.free b o ho (I.ok.frf b hb) fun z => I.ok.exfs b z hb

/-- THE STEP: the untracked objects but the frame and the records at ch are kept (the callers' frames up to slots), the frame's map is kept, the new abstract heap is held -/
theorem Inv.step {g' : Array GenState} {t' : Nat} {d' : Drawn} {ch : List Addr} (I : Inv X pins σ H s)
    (hch : ∀ b ∈ ch, (b ∈ X.ex ∨ X.s₀.heap.objs.size ≤ b) ∧ b ≠ X.env.locals ∧ (∀ x c, X.env.cells.lookup x = some c → c ≠ b) ∧ ∀ p ∈ X.pn ++ pins, p.1 ≠ b)
    (keep : ∀ b o, b ≠ X.env.locals → b ∉ X.fs → b ∉ ch → s.heap.get? b = some o → H b = none → h'.get? b = some o)
    (slot : ∀ b o, b ≠ X.env.locals → b ∈ X.fs → b ∉ ch → s.heap.get? b = some o → H b = none → ∃ sl, h'.get? b = some { o with slots := sl }) (free : ∀ b o, b ∉ ch → s.heap.get? b = some o → H b = none → H' b = none)
    (there : ∀ b o, b ∉ ch → s.heap.get? b = some o → ∃ o', h'.get? b = some o')
    (tups : ∀ b xs, H b = some (.tup xs) → H' b = some (.tup xs)) (frzs : ∀ b o u, H b = some (.frz o u) → H' b = some (.frz o u)) (tbls : ∀ b ps, H b = some (.tbl ps) → ∃ more, H' b = some (.tbl (ps ++ more)))
    (ns : ∀ m, s.heap.Ns X.env.locals m → h'.Ns X.env.locals m) (hok : HOk X.prog X.w H' h') (hg : AllBare g') :
    Inv X pins σ H' { s with heap := h', gens := g', drawn := d', toks := t' } := by
  have neL : ∀ b o, X.s₀.heap.get? b = some o → b ≠ X.env.locals := fun b o e => Nat.ne_of_lt (Nat.lt_of_lt_of_le (Heap.lt_size e) I.ok.above)
  have neC : ∀ b o, X.s₀.heap.get? b = some o → b ∉ X.ex → b ∉ ch := fun b o e hx hb => by
    rcases (hch b hb).1 with z | z
    · exact hx z
    · exact absurd (Nat.lt_of_lt_of_le (Heap.lt_size e) z) (Nat.lt_irrefl _)
  have cellK : ∀ x c, X.env.cells.lookup x = some c → ∀ v, s.heap.IsCell c v → h'.IsCell c v := fun x c e v ⟨o, ho, hd⟩ => by
    have nch : c ∉ ch := fun z => (hch c z).2.2.1 x c e rfl
    by_cases hc : c ∈ X.fs
    · obtain ⟨sl, q⟩ := slot c o (I.cne x c e) hc nch ho (I.freeC x c e)
      exact ⟨_, q, hd⟩
    · exact ⟨o, keep c o (I.cne x c e) hc nch ho (I.freeC x c e), hd⟩
  refine ⟨I.ok, I.os, hg, ⟨fun b o e n hb hx => ?_, fun b o e n hb hx => ?_, fun b o e n hx => ?_, fun b o e hx => ?_, fun b xs e => tups b xs (I.base.tups b xs e), fun b o xs e => frzs b o xs (I.base.frzs b o xs e), fun b ps e => ?_⟩, ?_, fun x c e => ?_, ?_, fun x c e => ?_, fun p hp => ?_, hok, I.len⟩
  · exact keep b o (neL b o e) hb (neC b o e hx) (I.base.keep b o e n hb hx) (I.base.free b o e n hx)
  · obtain ⟨sl, e1⟩ := I.base.slot b o e n hb hx
    obtain ⟨sl', e2⟩ := slot b _ (neL b o e) hb (neC b o e hx) e1 (I.base.free b o e n hx)
    exact ⟨sl', e2⟩
  · obtain ⟨o', e1⟩ := I.base.there b o e hx
    exact free b o' (neC b o e hx) e1 (I.base.free b o e n hx)
  · obtain ⟨o', e1⟩ := I.base.there b o e hx
    exact there b o' (neC b o e hx) e1
  · obtain ⟨m1, e1⟩ := I.base.tbls b ps e
    obtain ⟨m2, e2⟩ := tbls b _ e1
    exact ⟨m1 ++ m2, by rw [e2, Array.append_assoc]⟩
  · obtain ⟨m, hn, hl⟩ := I.loc
    refine ⟨m, ns m hn, fun i x v e1 e2 e3 => ?_⟩
    obtain ⟨u, r, l⟩ := hl i x v e1 e2 e3
    refine ⟨u, r, ?_⟩
    rcases l with l | ⟨k, c, e, z⟩
    · exact .inl l
    · exact .inr ⟨k, c, e, cellK x c e _ z⟩
  · obtain ⟨v, z⟩ := I.cell x c e
    exact ⟨v, cellK x c e v z⟩
  · obtain ⟨m, ⟨o, _, _, ho, _⟩, _⟩ := I.loc
    exact free _ o (fun z => (hch _ z).2.1 rfl) ho I.free
  · obtain ⟨v, o, ho, hd⟩ := I.cell x c e
    exact free c o (fun z => (hch c z).2.2.1 x c e rfl) ho (I.freeC x c e)
  · obtain ⟨e, n, ne, nf, d⟩ := I.pin p hp
    have nch : p.1 ∉ ch := fun z => (hch p.1 z).2.2.2 p hp rfl
    exact ⟨keep p.1 p.2 ne nf nch e n, free p.1 p.2 nch e n, ne, nf, d⟩
/-- .. where the frame's own object is kept too -/
theorem Inv.un {t' : Nat} (I : Inv X pins σ H s) (u : Un X.fs [] H H' s.heap h') (hok : HOk X.prog X.w H' h') : Inv X pins σ H' { s with heap := h', toks := t' } := by
  obtain ⟨m, ⟨o, es, ep, ho, r⟩, _⟩ := id I.loc
  obtain ⟨sl, hL⟩ := u.any ho I.free (by simp)
  exact I.step (g' := s.gens) (d' := s.drawn) (ch := []) (fun _ z => nomatch z) (fun b o _ hb _ e n => u.keep b o e n hb (by simp)) (fun b o _ hb _ e n => u.slot b o e n hb (by simp)) (fun b o _ e n => u.free b o e n (by simp)) (fun b o _ e => u.there b o e (by simp)) u.tups u.frzs u.tbls (fun m' hm => by
    obtain ⟨o', es', ep', ho', r'⟩ := hm
    rw [ho] at ho'; cases ho'
    exact ⟨_, es', ep', hL, r'⟩) hok I.bare
/-- behind a call (or a comprehension's block): the slots of this frame may have changed too, the records at ch may have turned -/
theorem Inv.call {g' : Array GenState} {t' : Nat} {d' : Drawn} {ch : List Addr} (I : Inv X pins σ H s) (u : Un (frs X.stack) ch H H' s.heap h') (hok : HOk X.prog X.w H' h') (hg : AllBare g')
    (hch : ∀ b ∈ ch, (b ∈ X.ex ∨ X.s₀.heap.objs.size ≤ b) ∧ b ≠ X.env.locals ∧ (∀ x c, X.env.cells.lookup x = some c → c ≠ b) ∧ ∀ p ∈ X.pn ++ pins, p.1 ≠ b) :
    Inv X pins σ H' { s with heap := h', gens := g', drawn := d', toks := t' } := by
  obtain ⟨m, ⟨o, es, ep, ho, r⟩, _⟩ := id I.loc
  obtain ⟨sl, hL⟩ := u.any ho I.free fun z => (hch _ z).2.1 rfl
  exact I.step (ch := ch) hch (fun b o hL hb hc e n => u.keep b o e n (fun z => (List.mem_cons.mp (I.stkSub b z)).elim hL hb) hc) (fun b o _ _ hc e n => u.any e n hc) (fun b o hc e n => u.free b o e n hc) (fun b o hc e => u.there b o e hc) u.tups u.frzs u.tbls (fun m' hm => by
    obtain ⟨o', es', ep', ho', r'⟩ := hm
    rw [ho] at ho'; cases ho'
    exact ⟨_, es', ep', hL, r'⟩) hok hg
/-- an untracked record of ours (an iterator) has turned -/
theorem Inv.turned {t' : Nat} {it : Addr} (I : Inv X pins σ H s) (k : ∀ b o, b ≠ it → s.heap.get? b = some o → h'.get? b = some o) (hn : H it = none) (hL : it ≠ X.env.locals)
    (h1 : it ∈ X.ex ∨ X.s₀.heap.objs.size ≤ it) (h2 : ∀ x c, X.env.cells.lookup x = some c → c ≠ it) (h3 : ∀ p ∈ X.pn ++ pins, p.1 ≠ it) : Inv X pins σ H { s with heap := h', toks := t' } := by
  have nit : ∀ b u, H b = some u → b ≠ it := fun b u e z => by rw [z, hn] at e; cases e
  refine I.step (g' := s.gens) (d' := s.drawn) (ch := [it]) (fun b hb => ?_) (fun b o _ _ hc e _ => k b o (fun z => hc (by simp [z])) e) (fun b o _ _ hc e _ => ⟨o.slots, k b o (fun z => hc (by simp [z])) e⟩) (fun _ _ _ _ n => n)
    (fun b o hc e => ⟨o, k b o (fun z => hc (by simp [z])) e⟩) (fun _ _ e => e) (fun _ _ _ e => e) (fun b ps e => ⟨#[], by rw [e]; simp⟩) (fun m hm => ?_) (fun b u e => ?_) I.bare
  · have e : b = it := by simpa using hb
    subst e
    exact ⟨h1, hL, h2, h3⟩
  · obtain ⟨o, es, ep, ho, r⟩ := hm
    exact ⟨o, es, ep, k _ o (Ne.symm hL) ho, r⟩
  · refine (I.hok b u e).stay (fun c v hc q => k c v ?_ q) (fun _ q => q) fun _ _ q => q
    rcases hc with z | z
    · rw [z]; exact nit b u e
    · exact nit c _ z
theorem Inv.tok (I : Inv X pins σ H s) (t : Nat) : Inv X pins σ H { s with toks := t } := I.un (h' := s.heap) (t' := t) Un.refl I.hok
/-- all objects kept -/
theorem Inv.kept {t' : Nat} (I : Inv X pins σ H s) (k : ∀ b u, s.heap.get? b = some u → h'.get? b = some u) : Inv X pins σ H { s with heap := h', toks := t' } := I.un (Un.kept k) (I.hok.kept k)
/-- a new object laid and tracked -/
theorem Inv.laid {a : Addr} {o : HO} {t' : Nat} (I : Inv X pins σ H s) (k : ∀ b u, s.heap.get? b = some u → h'.get? b = some u) (hp : s.heap.objs.size ≤ a) (new : ObjOk X.prog X.w (upd H a o) h' a o) :
    Inv X pins σ (upd H a o) { s with heap := h', toks := t' } := I.un (Un.laid k hp (I.hok.fresh hp)) (I.hok.laid k hp new)
/-- an object written -/
theorem Inv.write {x e : Addr} {o : HO} {t' : Nat} (I : Inv X pins σ H s) (mu : Mut (H x)) (he : e = x ∨ H e = some (.own x)) (k : ∀ b u, b ≠ e → s.heap.get? b = some u → h'.get? b = some u) (heo : ∃ u, h'.get? e = some u)
    (new : ObjOk X.prog X.w (upd H x o) h' x o) : Inv X pins σ (upd H x o) { s with heap := h', toks := t' } := I.un (Un.write mu he k heo) (I.hok.write mu he k heo new)
/-- forgetting slots, pins -/
theorem Inv.weak {σ' : List (Option V)} (I : Inv X pins σ H s) (hl : σ'.length = σ.length) (w : ∀ (i : Nat) v, σ'[i]? = some (some v) → σ[i]? = some (some v)) : Inv X pins σ' H s :=
  ⟨I.ok, I.os, I.bare, I.base, let ⟨m, hn, hl'⟩ := I.loc; ⟨m, hn, fun i x v e1 e2 e3 => hl' i x v e1 (w i v e2) e3⟩, I.cell, I.free, I.freeC, I.pin, I.hok, hl.trans I.len⟩
theorem Inv.pins_of {pins' : List (Addr × Obj)} (I : Inv X pins σ H s) (h : ∀ p ∈ pins', s.heap.get? p.1 = some p.2 ∧ H p.1 = none ∧ p.1 ≠ X.env.locals ∧ p.1 ∉ X.fs ∧ ∀ v, p.2.data ≠ .cell v) : Inv X pins' σ H s :=
  ⟨I.ok, I.os, I.bare, I.base, I.loc, I.cell, I.free, I.freeC, fun p hp => (List.mem_append.mp hp).elim (fun z => I.pin p (List.mem_append_left _ z)) (h p), I.hok, I.len⟩

theorem nodup_ix {N : List Str} (hN : N.Nodup) {i j : Nat} {x : Str} (a : N[i]? = some x) (b : N[j]? = some x) : i = j := by
  obtain ⟨h1, e1⟩ := List.getElem?_eq_some_iff.mp a
  obtain ⟨h2, e2⟩ := List.getElem?_eq_some_iff.mp b
  exact (List.getElem_inj hN).mp (e1.trans e2.symm)

/-- a name is stored; what changed -/
theorem store_ok2 {M : Model} {A : Around} {E : Value → Shared → Prop} {i : Nat} {x : Str} {v : V} {u : Value} {Q : Unit → Shared → Prop} (I : Inv X pins σ H s) (hN : X.N.Nodup) (hi : X.N[i]? = some x) (hx : Loc X.env.scope x) (r : RelV v u)
    (h : ∀ s', Inv X pins (σ.set i (some v)) H s' → (∃ a, Heap.SameBut a s.heap s'.heap ∧ (a = X.env.locals ∨ X.env.cells.lookup x = some a)) → Q () s') (hf : X.fn x = true ∨ X.env.scope.names.lookup x = some .local := by first | exact .inl rfl | exact .inr rfl | assumption) : wpAny M A (storeName X.env x u) Q E s := by
  obtain ⟨m, hn, hl⟩ := id I.loc
  have hcls : (X.env.scope.kind == .class || (X.env.scope.kind == .module && X.env.locals != X.env.globals)) = false := by rw [I.ok.kind]; rfl
  have hiσ : i < σ.length := by rw [I.len]; exact (List.getElem?_eq_some_iff.mp hi).1
  have cne := I.cne
  have tracked : ∀ {a : Addr} {h' : Heap}, (∃ o, s.heap.get? a = some o ∧ H a = none) → Heap.SameBut a s.heap h' → HOk X.prog X.w H h' := fun {a h'} ha hs b ob e => by
    obtain ⟨_, _, hfree⟩ := ha
    refine (I.hok b ob e).stay (fun c w' hc q => (hs.2 c ?_).trans q) (fun _ q => q) fun _ _ q => q
    rintro rfl
    rcases hc with rfl | hc
    · rw [hfree] at e; cases e
    · rw [hfree] at hc; cases hc
  rcases hx with hk | hk
  · refine wpAny_storeName_local hk hn (fun h' hn' hs => ?_) hcls
    obtain ⟨oL, _, _, hoL, _⟩ := id hn
    refine h _ ⟨I.ok, I.os, I.bare, ⟨fun b o e n hb hx => ?_, fun b o e n hb hx => ?_, I.base.free, fun b o e hx => ?_, I.base.tups, I.base.frzs, I.base.tbls⟩, ⟨_, hn', fun j y v' e1 e2 e3 => ?_⟩, fun y c e => ?_, I.free, I.freeC, fun p hp => ?_, tracked ⟨oL, hoL, I.free⟩ hs, by simpa using I.len⟩ ⟨_, hs, .inl rfl⟩
    · exact (hs.2 b (Nat.ne_of_lt (Nat.lt_of_lt_of_le (Heap.lt_size e) I.ok.above))).trans (I.base.keep b o e n hb hx)
    · obtain ⟨sl, e1⟩ := I.base.slot b o e n hb hx
      exact ⟨sl, (hs.2 b (Nat.ne_of_lt (Nat.lt_of_lt_of_le (Heap.lt_size e) I.ok.above))).trans e1⟩
    · obtain ⟨o', e1⟩ := I.base.there b o e hx
      exact ⟨o', (hs.2 b (Nat.ne_of_lt (Nat.lt_of_lt_of_le (Heap.lt_size e) I.ok.above))).trans e1⟩
    · by_cases hj : j = i
      · subst hj
        rw [hi] at e1; cases e1
        rw [List.getElem?_set_self hiσ] at e2
        cases e2
        exact ⟨u, r, .inl ⟨hk, by simp⟩⟩
      · rw [List.getElem?_set_ne (Ne.symm hj)] at e2
        obtain ⟨u', r', q⟩ := hl j y v' e1 e2 e3
        refine ⟨u', r', ?_⟩
        rcases q with ⟨k, e⟩ | ⟨k, c, e, z⟩
        · refine .inl ⟨k, ?_⟩
          have : y ≠ x := fun e => hj (nodup_ix hN e1 (e ▸ hi))
          simp [this, e]
        · exact .inr ⟨k, c, e, z.sameBut hs (cne y c e)⟩
    · obtain ⟨w', z⟩ := I.cell y c e
      exact ⟨w', z.sameBut hs (cne y c e)⟩
    · obtain ⟨e, n, ne, nf, d⟩ := I.pin p hp
      exact ⟨(hs.2 p.1 ne).trans e, n, ne, nf, d⟩
  · have hfn : X.fn x = true := by
      rcases hf with z | z
      · exact z
      · rw [z] at hk; cases hk
    obtain ⟨c, hc⟩ := I.ok.has x (.inl hk)
    obtain ⟨w', z⟩ := I.cell x c hc
    refine wpAny_storeName_cell I.ok.kind hk hc z (fun h' hc' hs => ?_)
    obtain ⟨oc, hoc, hocd⟩ := id z
    refine h { s with heap := h' } ⟨I.ok, I.os, I.bare, ⟨fun b o e n hb hx => ?_, fun b o e n hb hx => ?_, I.base.free, fun b o e hx => ?_, I.base.tups, I.base.frzs, I.base.tbls⟩, ⟨m, hn.sameBut hs (Ne.symm (cne x c hc)), fun j y v' e1 e2 e3 => ?_⟩, fun y c' e => ?_, I.free, I.freeC, fun p hp => ?_, tracked ⟨oc, hoc, I.freeC x c hc⟩ hs, by simpa using I.len⟩ ⟨c, hs, .inr hc⟩
    · exact (hs.2 b (Nat.ne_of_lt (Nat.lt_of_lt_of_le (Heap.lt_size e) (I.ok.cab x c hfn hc)))).trans (I.base.keep b o e n hb hx)
    · obtain ⟨sl, e1⟩ := I.base.slot b o e n hb hx
      exact ⟨sl, (hs.2 b (Nat.ne_of_lt (Nat.lt_of_lt_of_le (Heap.lt_size e) (I.ok.cab x c hfn hc)))).trans e1⟩
    · obtain ⟨o', e1⟩ := I.base.there b o e hx
      exact ⟨o', (hs.2 b (Nat.ne_of_lt (Nat.lt_of_lt_of_le (Heap.lt_size e) (I.ok.cab x c hfn hc)))).trans e1⟩
    · by_cases hj : j = i
      · subst hj
        rw [hi] at e1; cases e1
        rw [List.getElem?_set_self hiσ] at e2
        cases e2
        exact ⟨u, r, .inr ⟨.inl hk, c, hc, hc'⟩⟩
      · rw [List.getElem?_set_ne (Ne.symm hj)] at e2
        obtain ⟨u', r', q⟩ := hl j y v' e1 e2 e3
        refine ⟨u', r', ?_⟩
        rcases q with q | ⟨k, c', e, z'⟩
        · exact .inl q
        · refine .inr ⟨k, c', e, z'.sameBut hs ?_⟩
          rintro rfl
          exact hj (nodup_ix hN e1 (I.ok.inj _ _ _ e hc ▸ hi))
    · by_cases hcc : c' = c
      · subst hcc; exact ⟨_, hc'⟩
      · obtain ⟨w2, z2⟩ := I.cell y c' e
        exact ⟨w2, z2.sameBut hs hcc⟩
    · obtain ⟨e, n, ne, nf, d⟩ := I.pin p hp
      refine ⟨(hs.2 p.1 ?_).trans e, n, ne, nf, d⟩
      intro q
      rw [q, hoc] at e
      have q' : oc = p.2 := Option.some.inj e
      exact d w' (by rw [← q']; exact hocd)
theorem store_ok {M : Model} {A : Around} {E : Value → Shared → Prop} {i : Nat} {x : Str} {v : V} {u : Value} {Q : Unit → Shared → Prop} (I : Inv X pins σ H s) (hN : X.N.Nodup) (hi : X.N[i]? = some x) (hx : Loc X.env.scope x) (r : RelV v u)
    (h : ∀ s', Inv X pins (σ.set i (some v)) H s' → Q () s') (hf : X.fn x = true ∨ X.env.scope.names.lookup x = some .local := by first | exact .inl rfl | exact .inr rfl | assumption) : wpAny M A (storeName X.env x u) Q E s :=
  store_ok2 I hN hi hx r (fun s' I' _ => h s' I') hf
/-- behind a call or a block, the state as it is -/
theorem Inv.call' {s' : Shared} {ch : List Addr} (I : Inv X pins σ H s) (ho : s'.os = s.os) (u : Un (frs X.stack) ch H H' s.heap s'.heap) (hok : HOk X.prog X.w H' s'.heap) (hg : AllBare s'.gens)
    (hch : ∀ b ∈ ch, (b ∈ X.ex ∨ X.s₀.heap.objs.size ≤ b) ∧ b ≠ X.env.locals ∧ (∀ x c, X.env.cells.lookup x = some c → c ≠ b) ∧ ∀ p ∈ X.pn ++ pins, p.1 ≠ b) : Inv X pins σ H' s' := by
  obtain ⟨h', g', d', t', o'⟩ := s'
  have e : o' = s.os := ho
  subst e
  exact I.call (g' := g') (t' := t') (d' := d') u hok hg hch
end

/-- an exception: its class, its own dict's address (where it has one), the abstract heap behind it -/
abbrev XK := Value → Option Addr → Hp → Prop
abbrev St := List (Option V)
abbrev VK := V → Hp → Prop
/-- an expression's reading; a test's; an argument list's -/
abbrev TE := St → Hp → VK → Prop
abbrev TT := St → Hp → (Bool → Hp → Prop) → Prop
abbrev TA := St → Hp → (List V → Hp → Prop) → Prop
/-- what is wanted behind a statement -/
structure Ends where
  nx : St → Hp → Prop
  rt : VK
  bk : St → Hp → Prop := fun _ _ => False
  ct : St → Hp → Prop := fun _ _ => False
abbrev TS := Ends → St → Hp → Prop

def EP (X : Cx) (pins : List (Addr × Obj)) (σ : St) (Q : VK) (u : Value) (s' : Shared) : Prop := ∃ v H', Inv X pins σ H' s' ∧ RelV v u ∧ Q v H'
def TP (X : Cx) (pins : List (Addr × Obj)) (σ : St) (Q : Bool → Hp → Prop) (b : Bool) (s' : Shared) : Prop := ∃ H', Inv X pins σ H' s' ∧ Q b H'
def AP (X : Cx) (pins : List (Addr × Obj)) (σ : St) (Q : List V → Hp → Prop) (us : List Value) (s' : Shared) : Prop := ∃ vs H', Inv X pins σ H' s' ∧ Vals vs us ∧ Q vs H'
def SP (X : Cx) (pins : List (Addr × Obj)) (D : Ends) (f : Flow) (s' : Shared) : Prop :=
  match f with
  | .next => ∃ σ' H', Inv X pins σ' H' s' ∧ D.nx σ' H'
  | .brk => ∃ σ' H', Inv X pins σ' H' s' ∧ D.bk σ' H'
  | .cont => ∃ σ' H', Inv X pins σ' H' s' ∧ D.ct σ' H'
  | .ret u => ∃ v σ' H', Inv X pins σ' H' s' ∧ RelV v u ∧ D.rt v H'

def PE (X : Cx) (e : Expr) (t : TE) : Prop :=
  ∀ (pins : List (Addr × Obj)) (s : Shared) (σ : St) (H : Hp) (Q : VK), Inv X pins σ H s → t σ H Q → wpAny (model X.prog X.w) X.A (eval e X.env) (EP X pins σ Q) X.xe s
def PT (X : Cx) (e : Expr) (t : TT) : Prop :=
  ∀ (pins : List (Addr × Obj)) (s : Shared) (σ : St) (H : Hp) (Q : Bool → Hp → Prop), Inv X pins σ H s → t σ H Q → wpAny (model X.prog X.w) X.A (isTrue e X.env (eval e X.env)) (TP X pins σ Q) X.xe s
/-- a test whatever its 'whole' is (and, or) -/
def PW (X : Cx) (e : Expr) (t : TT) : Prop :=
  ∀ (whole : Sem Value) (pins : List (Addr × Obj)) (s : Shared) (σ : St) (H : Hp) (Q : Bool → Hp → Prop), Inv X pins σ H s → t σ H Q → wpAny (model X.prog X.w) X.A (isTrue e X.env whole) (TP X pins σ Q) X.xe s
theorem PW.pt {X : Cx} {e : Expr} {t : TT} (h : PW X e t) : PT X e t := h _
/-- an argument list (no star), from the left -/
def PA (X : Cx) (es : List Expr) (t : TA) : Prop :=
  ∀ (pos : Pos) (pins : List (Addr × Obj)) (s : Shared) (σ : St) (H : Hp) (Q : List V → Hp → Prop), Inv X pins σ H s → t σ H Q → wpAny (model X.prog X.w) X.A (spliced (backTo pos (starEach es X.env))) (AP X pins σ Q) X.xe s
def PS (X : Cx) (st : Stmt) (t : TS) : Prop :=
  ∀ (pins : List (Addr × Obj)) (s : Shared) (σ : St) (H : Hp) (D : Ends), Inv X pins σ H s → t D σ H → wpAny (model X.prog X.w) X.A (exec st X.env) (SP X pins D) X.xe s
def PSs (X : Cx) (st : List Stmt) (t : TS) : Prop :=
  ∀ (pins : List (Addr × Obj)) (s : Shared) (σ : St) (H : Hp) (D : Ends), Inv X pins σ H s → t D σ H → wpAny (model X.prog X.w) X.A (execs st X.env) (SP X pins D) X.xe s
/-- weaken the end -/
theorem thn {α : Type} {t : Sem α} {Q Q' : α → Shared → Prop} {M : Model} {A : Around} {E : Value → Shared → Prop} {s : Shared} (h : wpAny M A t Q E s) (hQ : ∀ a s, Q a s → Q' a s) : wpAny M A t Q' E s := wpAny_mono h hQ fun _ _ x => x
end L2

namespace L2
open PySem PySem.Spec PyProof.Rows
section
variable {X : Cx}

def tVar (i : Nat) : TE := fun σ H Q => ∃ v, σ[i]? = some (some v) ∧ Q v H
def tC (v : V) : TE := fun _ H Q => Q v H
theorem pe_var {i : Nat} {x : Str} {pos : Pos} (hN : X.N[i]? = some x) (hv : Vis X.env.scope x) (hd : (x == ("__debug__" : Str)) = false := by decide) (hcd : (x == ("__classdict__" : Str)) = false := by decide) : PE X (.Name x pos) (tVar i) := by
  intro pins s σ H Q I h
  obtain ⟨v, e, h⟩ := h
  obtain ⟨m, hn, hl⟩ := I.loc
  obtain ⟨u, r, l⟩ := hl i x v hN e hv
  have fin : EP X pins σ Q u s := ⟨v, H, I, r, h⟩
  rcases l with ⟨hk, hm⟩ | ⟨hk, c, hc, hcell⟩
  · exact wpAny_Name (wpAny_loadName_local I.ok.kind hk hn hm fin) hd
  · rcases hk with hk | hk
    · exact wpAny_Name (wpAny_loadName_cell I.ok.kind hk hc hcell fin) hd
    · exact wpAny_Name (wpAny_loadName_free I.ok.kind hk hc hcell fin hcd) hd
theorem pe_int {i j pos} : PE X (.Constant (.int i) j pos) (tC (.int i)) := fun _ _ _ H _ I h => wpAny_Constant_int ⟨.int i, H, I.tok _, ⟨_, rfl⟩, h⟩
theorem pe_bl {b j pos} : PE X (.Constant (.bool b) j pos) (tC (.bl b)) := fun _ _ _ H _ I h => Constant_bool ⟨.bl b, H, I, rfl, h⟩
theorem pe_non {j pos} : PE X (.Constant .none j pos) (tC .non) := fun _ _ _ H _ I h => Constant_none ⟨.non, H, I, rfl, h⟩
theorem pe_str {x j pos} : PE X (.Constant (.str x) j pos) (tC (.str x)) := fun _ _ _ H _ I h => Calls.Constant_str ⟨.str x, H, I.tok _, ⟨_, rfl⟩, h⟩

/-- a global name of the def -/
def Gl (X : Cx) (x : Str) : Prop := X.env.kindOf x = some .globalImplicit
theorem ld_glob {E : Value → Shared → Prop} {pins : List (Addr × Obj)} {s : Shared} {σ : St} {H : Hp} {x : Str} {u : Value} {pos : Pos} {Q : Value → Shared → Prop} (I : Inv X pins σ H s) (hg : Gl X x) (hm : X.mg x = some u) (h : Q u s)
    (hd : (x == ("__debug__" : Str)) = false := by decide) : wpAny (model X.prog X.w) X.A (eval (.Name x pos) X.env) Q E s :=
  Calls.Name_function_global I.ok.kind hg (Calls.loadGlobal_global (by rw [I.ok.glob]; exact I.mod.glob.keeps I.bk) hm h) hd
theorem ld_blt {E : Value → Shared → Prop} {pins : List (Addr × Obj)} {s : Shared} {σ : St} {H : Hp} {x : Str} {u : Value} {pos : Pos} {Q : Value → Shared → Prop} (I : Inv X pins σ H s) (hg : Gl X x) (hm : X.mg x = none) (hv : bootBuiltins x = some u) (h : Q u s)
    (hn : x ≠ "__name__" := by decide) (hd : (x == ("__debug__" : Str)) = false := by decide) : wpAny (model X.prog X.w) X.A (eval (.Name x pos) X.env) Q E s := by
  obtain ⟨mb, h1, h2⟩ := I.mod.blt
  exact Calls.Name_function_global I.ok.kind hg (Calls.loadGlobal_builtin (by rw [I.ok.glob]; exact I.mod.glob.keeps I.bk) hm (by rw [I.ok.blt]; exact h1.keeps I.bk) ((h2 x hn).trans hv) h) hd
/-- a module's constant, a class, a function, as a value -/
theorem pe_glob {x : Str} {v : V} {u : Value} {pos : Pos} (hg : Gl X x) (hm : X.mg x = some u) (r : RelV v u) (hd : (x == ("__debug__" : Str)) = false := by decide) : PE X (.Name x pos) (tC v) :=
  fun _ _ _ H _ I h => ld_glob I hg hm ⟨v, H, I, r, h⟩ hd
theorem pe_bltn {x : Str} {v : V} {u : Value} {pos : Pos} (hg : Gl X x) (hm : X.mg x = none) (hv : bootBuiltins x = some u) (r : RelV v u) (hn : x ≠ "__name__" := by decide) (hd : (x == ("__debug__" : Str)) = false := by decide) : PE X (.Name x pos) (tC v) :=
  fun _ _ _ H _ I h => ld_blt I hg hm hv ⟨v, H, I, r, h⟩ hn hd

variable {a b : Expr} {ta tb : TE} {pos : Pos}
variable {tA tB' : TT} {rest : List Expr}
def tOr (t u : TT) : TT := fun σ H Q => t σ H fun c H1 => if c = true then Q true H1 else u σ H1 Q
def tNot (t : TT) : TT := fun σ H Q => t σ H fun c H1 => Q (!c) H1
theorem pw_or1 (ha : PT X a tA) : PW X (.BoolOp .Or [a] pos) tA := by
  intro wh pins s σ H Q I h
  refine isTrue_or (thn (ha pins s σ H Q I h) fun c s1 e => ?_)
  cases c with
  | false => exact isTrue_or_nil e
  | true => exact e
theorem pw_or (ha : PT X a tA) (hb : PW X (.BoolOp .Or (b :: rest) pos) tB') : PW X (.BoolOp .Or (a :: b :: rest) pos) (tOr tA tB') := by
  intro wh pins s σ H Q I h
  refine isTrue_or (thn (ha pins s σ H _ I h) fun c s1 ⟨H1, I1, q1⟩ => ?_)
  cases c with
  | true => exact ⟨H1, I1, q1⟩
  | false => exact hb wh pins s1 σ H1 Q I1 q1
theorem pt_not (ha : PT X a tA) : PT X (.UnaryOp .Not a pos) (tNot tA) := by
  intro pins s σ H Q I h
  exact isTrue_not (ha pins s σ H (fun c H1 => Q (!c) H1) I h)
/-- .. as values (bools) -/
def tAndV (ta tb : TE) : TE := fun σ H Q => ta σ H fun x H1 => ∃ c, x = .bl c ∧ if c = true then tb σ H1 Q else Q (.bl false) H1
def tNotV (ta : TE) : TE := fun σ H Q => ta σ H fun x H1 => ∃ c, x = .bl c ∧ Q (.bl (!c)) H1
theorem pe_one {op} {t : TE} (h : PE X a t) : PE X (.BoolOp op [a] pos) t := fun pins s σ H Q I hw => BoolOp_one (h pins s σ H Q I hw)
theorem pe_and (ha : PE X a ta) (hb : PE X (.BoolOp .And (b :: rest) pos) tb) : PE X (.BoolOp .And (a :: b :: rest) pos) (tAndV ta tb) := by
  intro pins s σ H Q I h
  refine BoolOp_and (thn (ha pins s σ H _ I h) fun v s1 ⟨x, H1, I1, r1, q1⟩ => ?_)
  obtain ⟨c, rfl, q1⟩ := q1
  cases r1
  refine wpAny_truthy_bool ?_
  cases c with
  | true => exact hb pins s1 σ H1 Q I1 q1
  | false => exact ⟨.bl false, H1, I1, rfl, q1⟩
theorem pe_not (ha : PE X a ta) : PE X (.UnaryOp .Not a pos) (tNotV ta) := by
  intro pins s σ H Q I h
  refine UnaryOp_ (thn (ha pins s σ H _ I h) fun v s1 ⟨x, H1, I1, r1, q1⟩ => ?_)
  obtain ⟨c, rfl, q1⟩ := q1
  cases r1
  exact not_of (wpAny_truthy_bool ⟨.bl (!c), H1, I1, rfl, q1⟩)
/-- a if t else b -/
def tIf (t : TT) (ta tb : TE) : TE := fun σ H Q => t σ H fun c H1 => if c = true then ta σ H1 Q else tb σ H1 Q
theorem pe_ifExp {c : Expr} (hc : PT X c tA) (ha : PE X a ta) (hb : PE X b tb) : PE X (.IfExp c a b pos) (tIf tA ta tb) := by
  intro pins s σ H Q I h
  refine wpAny_IfExp (thn (hc pins s σ H _ I h) fun d s1 ⟨H1, I1, q1⟩ => ?_)
  cases d with
  | true => exact ha pins s1 σ H1 Q I1 q1
  | false => exact hb pins s1 σ H1 Q I1 q1
end
end L2

namespace L2
open PySem PySem.Spec PyProof.Rows

def SqL (K : PySem.W.Frag) (H : Hp) (a : Addr) (xs : List V) : Prop :=
  Rd H a (.lst xs) ∨
    ∃ (o : Obj) (its : Array Value) (n : Nat), K.lookup a = some o ∧ o.cls = .type "list" ∧ o.dict = none ∧ o.data = .seq its n ∧ its.size ≤ sizeLine ∧ Vals xs its.toList
def SqT (K : PySem.W.Frag) (H : Hp) (a : Addr) (xs : List V) : Prop :=
  Rd H a (.tup xs) ∨
    ∃ (o : Obj) (its : Array Value) (n : Nat), K.lookup a = some o ∧ o.cls = .type "tuple" ∧ o.data = .seq its n ∧ its.size ≤ sizeLine ∧ Vals xs its.toList
def absV : Value → Option V
  | .none => some .non
  | .bool b => some (.bl b)
  | .int i _ => some (.int i)
  | .str x _ => some (.str x)
  | .bytes b _ => some (.byt b)
  | .float b _ => some (.flt b)
  | .ref a => some (.ref a)
  | .type n => some (.ty n)
  | _ => none
theorem RelV.abs {x : V} {u : Value} (r : RelV x u) : absV u = some x := by
  cases x with
  | non => cases r; rfl
  | bl _ => cases r; rfl
  | int _ => obtain ⟨t, rfl⟩ := r; rfl
  | str _ => obtain ⟨t, rfl⟩ := r; rfl
  | byt _ => obtain ⟨t, rfl⟩ := r; rfl
  | flt _ => obtain ⟨t, rfl⟩ := r; rfl
  | ref _ => cases r; rfl
  | ty _ => cases r; rfl
theorem RelV.inj {x y : V} {u : Value} (r : RelV x u) (q : RelV y u) : x = y := Option.some.inj (r.abs.symm.trans q.abs)
theorem Vals.inj : ∀ {xs ys : List V} {us : List Value}, Vals xs us → Vals ys us → xs = ys
  | _, _, _, .nil, .nil => rfl
  | _, _, _, .cons r t, .cons r' t' => by rw [r.inj r', Vals.inj t t']
section
variable {X : Cx} {pins : List (Addr × Obj)} {σ : St} {H : Hp} {s : Shared} {a : Addr} {xs ys : List V}
theorem SqL.of {K : PySem.W.Frag} (h : H a = some (.lst xs)) : SqL K H a xs := .inl (.inl h)
theorem SqT.of {K : PySem.W.Frag} (h : H a = some (.tup xs)) : SqT K H a xs := .inl (.inl h)
theorem Inv.list (I : Inv X pins σ H s) (h : SqL X.K H a xs) : ∃ its : List Value, Vals xs its ∧ PlainL s.heap a its.toArray ∧ xs.length ≤ sizeLine := by
  rcases h with h | ⟨o, its, n, hk, hc, hd, hs, hz, r⟩
  · obtain ⟨z, its, n, r, e⟩ := h.ok I.hok
    exact ⟨its, r, ⟨_, n, e, rfl, rfl, rfl⟩, z⟩
  · refine ⟨its.toList, r, ⟨o, n, I.kIn a o hk, hc, hd, by simpa using hs⟩, ?_⟩
    have e := r.length
    simp only [Array.length_toList] at e
    omega
theorem Inv.tuple (I : Inv X pins σ H s) (h : SqT X.K H a xs) : ∃ its : List Value, Vals xs its ∧ IsTup s.heap a its.toArray ∧ xs.length ≤ sizeLine := by
  rcases h with h | ⟨o, its, n, hk, hc, hs, hz, r⟩
  · obtain ⟨z, its, r, p⟩ := h.ok I.hok
    exact ⟨its, r, p.1, z⟩
  · refine ⟨its.toList, r, ⟨o, I.kIn a o hk, hc, n, by simpa using hs⟩, ?_⟩
    have e := r.length
    simp only [Array.length_toList] at e
    omega
theorem Inv.list_inj (I : Inv X pins σ H s) (h : SqL X.K H a xs) (h' : SqL X.K H a ys) : xs = ys := by
  obtain ⟨its, r, ⟨o, n, e, _, _, d⟩, _⟩ := I.list h
  obtain ⟨its', r', ⟨o', n', e', _, _, d'⟩, _⟩ := I.list h'
  rw [e] at e'; cases e'
  rw [d] at d'
  injection d' with d1 _
  have : its = its' := by simpa using congrArg Array.toList d1
  subst this
  exact r.inj r'
theorem Inv.tuple_inj (I : Inv X pins σ H s) (h : SqT X.K H a xs) (h' : SqT X.K H a ys) : xs = ys := by
  obtain ⟨its, r, ⟨o, e, _, n, d⟩, _⟩ := I.tuple h
  obtain ⟨its', r', ⟨o', e', _, n', d'⟩, _⟩ := I.tuple h'
  rw [e] at e'; cases e'
  rw [d] at d'
  injection d' with d1 _
  have : its = its' := by simpa using congrArg Array.toList d1
  subst this
  exact r.inj r'
end

abbrev Cx.wish (X : Cx) (E : Value → Shared → Prop) : Cx := { X with xe := E }
/-- no exception leaves -/
abbrev Cx.nox (X : Cx) : Cx := X.wish fun _ _ => False
theorem Cx.Ok.wish {X : Cx} (ok : X.Ok) (E : Value → Shared → Prop) : (X.wish E).Ok :=
  ⟨ok.mod, ok.kind, ok.glob, ok.blt, ok.above, ok.inj, ok.has, ok.cab, ok.hd, ok.frames, ok.stk, ok.exf, ok.bs, ok.bsz, ok.noex, ok.exfs, ok.funs, ok.frf⟩
theorem Cx.Ok.unwish {X : Cx} {E : Value → Shared → Prop} (ok : (X.wish E).Ok) : X.Ok :=
  ⟨ok.mod, ok.kind, ok.glob, ok.blt, ok.above, ok.inj, ok.has, ok.cab, ok.hd, ok.frames, ok.stk, ok.exf, ok.bs, ok.bsz, ok.noex, ok.exfs, ok.funs, ok.frf⟩
section
variable {X : Cx} {pins : List (Addr × Obj)} {σ : St} {H : Hp} {s : Shared} {E : Value → Shared → Prop}
theorem Inv.wish (I : Inv X pins σ H s) (E : Value → Shared → Prop) : Inv (X.wish E) pins σ H s := ⟨I.ok.wish E, I.os, I.bare, I.base, I.loc, I.cell, I.free, I.freeC, I.pin, I.hok, I.len⟩
theorem Inv.unwish (I : Inv (X.wish E) pins σ H s) : Inv X pins σ H s := ⟨I.ok.unwish, I.os, I.bare, I.base, I.loc, I.cell, I.free, I.freeC, I.pin, I.hok, I.len⟩
theorem SP.unwish {D : Ends} {f : Flow} {s' : Shared} (h : SP (X.wish E) pins D f s') : SP X pins D f s' := by
  cases f with
  | next => obtain ⟨σ', H', I, q⟩ := h; exact ⟨σ', H', I.unwish, q⟩
  | brk => obtain ⟨σ', H', I, q⟩ := h; exact ⟨σ', H', I.unwish, q⟩
  | cont => obtain ⟨σ', H', I, q⟩ := h; exact ⟨σ', H', I.unwish, q⟩
  | ret u => obtain ⟨v, σ', H', I, r, q⟩ := h; exact ⟨v, σ', H', I.unwish, r, q⟩
theorem PE.nox {e : Expr} {t : TE} (h : PE X.nox e t) : PE X e t := fun pins s σ H Q I hw =>
  wpAny_mono (h pins s σ H Q (I.wish _) hw) (fun _ _ ⟨v, H', I', r, q⟩ => ⟨v, H', I'.unwish, r, q⟩) fun _ _ z => False.elim z
theorem PT.nox {e : Expr} {t : TT} (h : PT X.nox e t) : PT X e t := fun pins s σ H Q I hw =>
  wpAny_mono (h pins s σ H Q (I.wish _) hw) (fun _ _ ⟨H', I', q⟩ => ⟨H', I'.unwish, q⟩) fun _ _ z => False.elim z
theorem PSs.nox {st : List Stmt} {t : TS} (h : PSs X.nox st t) : PSs X st t := fun pins s σ H D I hw =>
  wpAny_mono (h pins s σ H D (I.wish _) hw) (fun _ _ q => q.unwish) fun _ _ z => False.elim z
end

section
variable {X : Cx} {st : Stmt} {rest : List Stmt} {t u : TS} {e : Expr} {te : TE} {pos : Pos}
def tNext : TS := fun D σ H => D.nx σ H
def tSeq (t u : TS) : TS := fun D σ H => t { D with nx := u D } σ H
theorem pss_nil : PSs X [] tNext := fun _ _ σ H _ I h => wpAny_execs_nil ⟨σ, H, I, h⟩
theorem pss_cons (h1 : PS X st t) (h2 : PSs X rest u) : PSs X (st :: rest) (tSeq t u) := by
  intro pins s σ H D I h
  refine wpAny_execs_cons (thn (h1 pins s σ H { D with nx := u D } I h) fun f s1 q => ?_)
  cases f with
  | next =>
    obtain ⟨σ', H', I', q⟩ := q
    exact h2 pins s1 σ' H' D I' q
  | ret v => exact q
  | brk => exact q
  | cont => exact q
theorem pss_one (h1 : PS X st t) : PSs X [st] t := by
  intro pins s σ H D I h
  refine wpAny_execs_cons (thn (h1 pins s σ H D I h) fun f s1 q => ?_)
  cases f with
  | next => exact wpAny_execs_nil q
  | ret v => exact q
  | brk => exact q
  | cont => exact q
/-- in a def's body nothing is shown -/
theorem Inv.quiet {pins : List (Addr × Obj)} {σ : St} {H : Hp} {s : Shared} (I : Inv X pins σ H s) : interactive X.env = false := by simp [interactive, I.ok.kind]
/-- an expression whose value is dropped -/
def tDrop (te : TE) : TS := fun D σ H => te σ H fun _ H1 => D.nx σ H1
theorem ps_expr (he : PE X e te) (hs : swapsWith e none pos.line X.env = pure false := by rfl) : PS X (.Expr e pos) (tDrop te) := by
  intro pins s σ H D I h
  exact wpAny_Expr_any (thn (he pins s σ H _ I h) fun v s1 ⟨x, H1, I1, r1, q1⟩ => ⟨σ, H1, I1, q1⟩) I.quiet hs
def tRet (te : TE) : TS := fun D σ H => te σ H D.rt
theorem ps_ret (he : PE X e te) : PS X (.Return (some e) pos) (tRet te) := by
  intro pins s σ H D I h
  exact wpAny_Return_some (thn (he pins s σ H _ I h) fun v s1 ⟨x, H1, I1, r1, q1⟩ => ⟨x, σ, H1, I1, r1, q1⟩)
def tIfS (c : TT) (t u : TS) : TS := fun D σ H => c σ H fun b H1 => if b = true then t D σ H1 else u D σ H1
theorem ps_if {c : Expr} {a b : List Stmt} {tc : TT} (hc : PT X c tc) (ha : PSs X a t) (hb : PSs X b u) : PS X (.If c a b pos) (tIfS tc t u) := by
  intro pins s σ H D I h
  refine wpAny_If (thn (hc pins s σ H _ I h) fun d s1 ⟨H1, I1, q1⟩ => ?_)
  cases d with
  | true => exact ha pins s1 σ H1 D I1 q1
  | false => exact hb pins s1 σ H1 D I1 q1
/-- code that the proof never comes to -/
def tNever : TS := fun _ _ _ => False
theorem ps_never : PS X st tNever := fun _ _ _ _ _ _ h => h.elim
end

abbrev TG := V → St → Hp → (St → Hp → Prop) → Prop
abbrev TGs := List V → St → Hp → (St → Hp → Prop) → Prop
def PG (X : Cx) (target : Expr) (t : TG) : Prop :=
  ∀ (pins : List (Addr × Obj)) (s : Shared) (σ : St) (H : Hp) (v : V) (u : Value) (Q : St → Hp → Prop), Inv X pins σ H s → RelV v u → t v σ H Q →
    wpAny (model X.prog X.w) X.A (assign target X.env u) (fun _ s' => ∃ σ' H', Inv X pins σ' H' s' ∧ Q σ' H') X.xe s
/-- several targets, one after another -/
def PGs (X : Cx) (ts : List Expr) (t : TGs) : Prop :=
  ∀ (pins : List (Addr × Obj)) (s : Shared) (σ : St) (H : Hp) (vs : List V) (us : List Value) (Q : St → Hp → Prop), Inv X pins σ H s → Vals vs us → t vs σ H Q →
    wpAny (model X.prog X.w) X.A (assignInOrder ((assignEach ts X.env).map (·.2)) us) (fun _ s' => ∃ σ' H', Inv X pins σ' H' s' ∧ Q σ' H') X.xe s
/-- o[i] = v, by values -/
abbrev TSet := V → V → V → Hp → (Hp → Prop) → Prop
def PSet (X : Cx) (t : TSet) : Prop :=
  ∀ (pins : List (Addr × Obj)) (s : Shared) (σ : St) (H : Hp) (o i v : V) (ov iv u : Value) (Q : Hp → Prop), Inv X pins σ H s → RelV o ov → RelV i iv → RelV v u → t o i v H Q →
    wpAny (model X.prog X.w) X.A (setItem ov iv u) (fun _ s' => ∃ H', Inv X pins σ H' s' ∧ Q H') X.xe s
/-- a op= b, by values -/
abbrev TIp := V → V → Hp → VK → Prop
def PIp (X : Cx) (op : Operator) (t : TIp) : Prop :=
  ∀ (pins : List (Addr × Obj)) (s : Shared) (σ : St) (H : Hp) (x y : V) (v u : Value) (Q : VK), Inv X pins σ H s → RelV x v → RelV y u → t x y H Q →
    wpAny (model X.prog X.w) X.A (inplaceOp op v u) (EP X pins σ Q) X.xe s
section
variable {X : Cx} {pos : Pos}
def gName (i : Nat) : TG := fun v σ H Q => Q (σ.set i (some v)) H
theorem pg_name {i : Nat} {x : Str} (hN : X.N.Nodup) (hi : X.N[i]? = some x) (hx : Loc X.env.scope x) (hf : X.fn x = true ∨ X.env.scope.names.lookup x = some .local := by first | exact .inl rfl | exact .inr rfl | assumption) : PG X (.Name x pos) (gName i) := by
  intro pins s σ H v u Q I r h
  exact wpAny_assign_Name (store_ok I hN hi hx r (fun s' I' => ⟨_, H, I', h⟩) hf)
def gNil : TGs := fun vs σ H Q => vs = [] ∧ Q σ H
def gCons (t : TG) (u : TGs) : TGs := fun vs σ H Q => ∃ v r, vs = v :: r ∧ t v σ H fun σ' H' => u r σ' H' Q
theorem pgs_nil : PGs X [] gNil := by
  intro pins s σ H vs us Q I r h
  obtain ⟨e, h⟩ := h
  subst e
  cases r
  exact assignInOrder_nil ⟨σ, H, I, h⟩
theorem pgs_cons {e : Expr} {es : List Expr} {t : TG} {u : TGs} (h1 : PG X e t) (h2 : PGs X es u)
    (hs : (assignEach (e :: es) X.env).map (·.2) = assign e X.env :: (assignEach es X.env).map (·.2) := by rfl) : PGs X (e :: es) (gCons t u) := by
  intro pins s σ H vs us Q I r h
  obtain ⟨v, vr, e1, h⟩ := h
  subst e1
  cases r with
  | cons r rr =>
    rw [hs]
    refine assignInOrder_cons (thn (h1 pins s σ H _ _ _ I r h) fun _ s1 ⟨σ1, H1, I1, q1⟩ => ?_)
    exact h2 pins s1 σ1 H1 _ _ Q I1 rr q1
/-- (a, b, ..) = a tuple of that length -/
def gTup (K : PySem.W.Frag) (n : Nat) (t : TGs) : TG := fun v σ H Q => ∃ a xs, v = .ref a ∧ SqT K H a xs ∧ xs.length = n ∧ t xs σ H Q
theorem pg_tup {es : List Expr} {k : Nat} {t : TGs} {n : Nat} (hc : X.calm = true) (h : PGs X es t)
    (hn : (assignEach es X.env).length = n := by rfl) (hst : (assignEach es X.env).findIdx? (·.1) = none := by rfl) : PG X (.Tuple es k pos) (gTup X.K n t) := by
  intro pins s σ H v u Q I r hw
  obtain ⟨a, xs, e1, hq, hl, hw⟩ := hw
  subst e1
  cases r
  obtain ⟨its, rv, ht, hz⟩ := I.tuple hq
  refine assign_Tuple_tuple (I.ok.hd hc) ht (by simp [hn, ← hl, rv.length]) hst fun h' hx => ?_
  have I1 : Inv X pins σ H { s with heap := h' } := I.kept (t' := s.toks) fun b o e => hx b o (Nat.ne_of_lt (Heap.lt_size e)) e
  exact h pins _ σ H xs _ Q I1 (by simpa using rv) hw
/-- target = value -/
def tAsg (te : TE) (g : TG) : TS := fun D σ H => te σ H fun x H1 => g x σ H1 D.nx
theorem ps_asg {tg e : Expr} {te : TE} {g : TG} (he : PE X e te) (hg : PG X tg g) (hs : swapsWithSole [tg] e pos.line X.env = pure false := by rfl) (hw : swappedStores [tg] e X.env = pure none := by rfl)
    (h1 : (assignEach [tg] X.env).map (·.2) = [assign tg X.env] := by rfl) : PS X (.Assign [tg] e pos) (tAsg te g) := by
  intro pins s σ H D I h
  refine wpAny_Assign_stores (thn (he pins s σ H _ I h) fun v s1 ⟨x, H1, I1, r1, q1⟩ => ?_) hs hw
  rw [h1]
  exact thn (hg pins s1 σ H1 x v _ I1 r1 q1) fun _ s2 q => q
/-- name = value -/
theorem ps_set {i : Nat} {x : Str} {e : Expr} {te : TE} {pos' : Pos} (hN : X.N.Nodup) (hi : X.N[i]? = some x) (hx : Loc X.env.scope x) (he : PE X e te) (hs : swapsWith e (some (.Name x pos')) pos.line X.env = pure false := by rfl) (hf : X.fn x = true ∨ X.env.scope.names.lookup x = some .local := by first | exact .inl rfl | exact .inr rfl | assumption) :
    PS X (.Assign [.Name x pos'] e pos) (tAsg te (gName i)) := by
  intro pins s σ H D I h
  refine wpAny_Assign_Name (thn (he pins s σ H _ I h) fun v s1 ⟨y, H1, I1, r1, q1⟩ => ?_) hs
  exact store_ok I1 hN hi hx r1 (fun s2 I2 => ⟨_, H1, I2, q1⟩) hf
/-- o[i] op= e -/
def tAugS (to ti te : TE) (tget : V → V → Hp → VK → Prop) (tip : TIp) (tset : TSet) : TS := fun D σ H => to σ H fun o H1 => ti σ H1 fun i H2 => tget o i H2 fun x H3 => te σ H3 fun y H4 => tip x y H4 fun z H5 => tset o i z H5 fun H6 => D.nx σ H6
/-- o[i], by values -/
def PGet (X : Cx) (t : V → V → Hp → VK → Prop) : Prop :=
  ∀ (pins : List (Addr × Obj)) (s : Shared) (σ : St) (H : Hp) (o i : V) (ov iv : Value) (Q : VK), Inv X pins σ H s → RelV o ov → RelV i iv → t o i H Q →
    wpAny (model X.prog X.w) X.A (getItem ov iv) (EP X pins σ Q) X.xe s
theorem ps_augS {o i e : Expr} {to ti te : TE} {tget : V → V → Hp → VK → Prop} {tip : TIp} {tset : TSet} {op : Operator} {tpos : Pos} (ho : PE X o to) (hi : PE X i ti) (hg : PGet X tget) (he : PE X e te) (hp : PIp X op tip) (hs : PSet X tset)
    (ha : ∀ ov iv new, augStore i ov iv new = (do holding [new, ov, iv] (setItem ov iv new); release [new, ov, iv] []; pure .next) := by intros; rfl) : PS X (.AugAssign (.Subscript o i tpos) op e pos) (tAugS to ti te tget tip tset) := by
  intro pins s σ H D I h
  refine wpAny_AugAssign_SubscriptAny (thn (ho pins s σ H _ I h) fun ov s1 ⟨x1, H1, I1, r1, q1⟩ => ?_) ha
  refine thn (hi pins s1 σ H1 _ I1 q1) fun iv s2 ⟨x2, H2, I2, r2, q2⟩ => ?_
  refine thn (hg pins s2 σ H2 x1 x2 ov iv _ I2 r1 r2 q2) fun old s3 ⟨x3, H3, I3, r3, q3⟩ => ?_
  refine thn (he pins s3 σ H3 _ I3 q3) fun v s4 ⟨x4, H4, I4, r4, q4⟩ => ?_
  refine thn (hp pins s4 σ H4 x3 x4 old v _ I4 r3 r4 q4) fun new s5 ⟨x5, H5, I5, r5, q5⟩ => ?_
  exact thn (hs pins s5 σ H5 x1 x2 x5 ov iv new _ I5 r1 r2 r5 q5) fun _ s6 ⟨H6, I6, q6⟩ => ⟨σ, H6, I6, q6⟩
/-- ints -/
def ipI (f : Int → Int → Int) : TIp := fun x y H Q => ∃ i j, x = .int i ∧ y = .int j ∧ Q (.int (f i j)) H
theorem ip_add : PIp X .Add (ipI fun i j => i + j) := by
  intro pins s σ H x y v u Q I r1 r2 h
  obtain ⟨i, j, e1, e2, q⟩ := h
  subst e1; subst e2
  obtain ⟨t, rfl⟩ := r1
  obtain ⟨t', rfl⟩ := r2
  exact iadd_int ⟨.int _, H, I.tok _, ⟨_, rfl⟩, q⟩
end

section
variable {X : Cx} {pos : Pos}
/-- the invariant W with its measure -/
def tWhile (c : TT) (tb : TS) : TS := fun D σ H => ∃ W : Nat → St → Hp → Prop, (∃ m, W m σ H) ∧ ∀ m σ H, W m σ H →
  c σ H fun b H1 => if b = true then ∃ N : St → Hp → Prop, (∀ σ' H', N σ' H' → ∃ m', m' < m ∧ W m' σ' H') ∧ tb { D with nx := N, ct := N, bk := D.nx } σ H1 else D.nx σ H1
theorem ps_while {c : Expr} {body : List Stmt} {tc : TT} {tb : TS} (hp : PassesOwn (model X.prog X.w) X.A X.env X.xe) (hc : PT X c tc) (hb : PSs X body tb) : PS X (.While c body [] pos) (tWhile tc tb) := by
  intro pins s σ H D I h
  obtain ⟨W, ⟨m0, w0⟩, turn⟩ := h
  refine wpAny_While (codeAny_whileLoop (fun n s' => ∃ σ' H', Inv X pins σ' H' s' ∧ W n σ' H') ?_ m0 ⟨σ, H, I, w0⟩)
  rintro n s1 ⟨σ1, H1, I1, w1⟩
  refine wpAny_passesOwn hp (thn (hc pins s1 σ1 H1 _ I1 (turn n σ1 H1 w1)) fun b s2 ⟨H2, I2, q2⟩ => ?_)
  cases b with
  | true =>
    obtain ⟨N, hN, q2⟩ := q2
    rw [if_pos rfl]
    refine wpAny_passesOwn hp (thn (hb pins s2 σ1 H2 _ I2 q2) fun f s3 q3 => ?_)
    cases f with
    | next =>
      obtain ⟨σ3, H3, I3, n3⟩ := q3
      obtain ⟨m', hm, w3⟩ := hN σ3 H3 n3
      exact ⟨m', hm, σ3, H3, I3, w3⟩
    | cont =>
      obtain ⟨σ3, H3, I3, n3⟩ := q3
      obtain ⟨m', hm, w3⟩ := hN σ3 H3 n3
      exact ⟨m', hm, σ3, H3, I3, w3⟩
    | brk => exact q3
    | ret v => exact q3
  | false =>
    rw [if_neg Bool.false_ne_true]
    exact wpAny_execs_nil ⟨σ1, H2, I2, q2⟩
end

/-- at turn i: it yields x (the heap may grow), or it stops -/
structure It where
  go : Nat → Hp → Prop
  yld : Nat → Hp → V → Hp → Prop
  stop : Nat → Hp → Prop
/-- the iterator's own objects may turn: they are not the frame's, not pinned, younger than the entry (or a comprehension's own) -/
def FpOk (X : Cx) (pins : List (Addr × Obj)) (H : Hp) (b : Addr) : Prop :=
  H b = none ∧ b ≠ X.env.locals ∧ b ∉ X.fs ∧ (b ∈ X.ex ∨ X.s₀.heap.objs.size ≤ b) ∧ (∀ x c, X.env.cells.lookup x = some c → c ≠ b) ∧ ∀ p ∈ X.pn ++ pins, p.1 ≠ b
theorem Inv.fpOk {X : Cx} {pins : List (Addr × Obj)} {σ : St} {H H' : Hp} {s : Shared} {b : Addr} (I : Inv X pins σ H s) (hb : s.heap.objs.size ≤ b) (hn : H' b = none) : FpOk X pins H' b := by
  refine ⟨hn, Nat.ne_of_gt (Nat.lt_of_lt_of_le I.lt hb), I.nofs hb, .inr (Nat.le_trans I.sz hb), fun x c e z => ?_, fun p hp z => ?_⟩
  · obtain ⟨v, q⟩ := I.cell x c e
    exact absurd (Nat.lt_of_lt_of_le q.lt (by rw [z]; exact hb)) (Nat.lt_irrefl _)
  · exact absurd (Nat.lt_of_lt_of_le (Heap.lt_size (I.pin p hp).1) (by rw [z]; exact hb)) (Nat.lt_irrefl _)
structure Turn (P : Program) (w : World) (K : PySem.W.Frag) (tg : Expr) (J : It) (fp : List Addr) (it : Addr) (tn : Nat → Heap → Prop) : Prop where
  mem : it ∈ fp
  obj : ∀ i h, tn i h → ∀ b ∈ fp, ∃ o, h.get? b = some o ∧ ∀ v, o.data ≠ .cell v
  keep : ∀ i h h', tn i h → (∀ b ∈ fp, ∀ o, h.get? b = some o → h'.get? b = some o) → tn i h'
  item : ∀ (X : Cx), X.prog = P → X.w = w → X.K = K → X.calm = true → ∀ (i : Nat) (pins : List (Addr × Obj)) (s : Shared) (σ : St) (H : Hp) (E : Value → Shared → Prop), Inv X pins σ H s → (∀ b ∈ fp, FpOk X pins H b) → tn i s.heap → J.go i H →
    wpAny (model P w) X.A (pyNext (.ref it)) (fun r s1 => ∃ u, r = some u ∧
      wpAny (model P w) X.A (letOwnedTupleGo tg (.ref it) u) (fun _ s2 => ∃ x H', Inv X pins σ H' s2 ∧ RelV x u ∧ J.yld i H x H' ∧ tn (i + 1) s2.heap ∧ ∀ b ∈ fp, H' b = none) E s1) E s
  done : ∀ (X : Cx), X.prog = P → X.w = w → X.K = K → X.calm = true → ∀ (i : Nat) (pins : List (Addr × Obj)) (s : Shared) (σ : St) (H : Hp) (E : Value → Shared → Prop), Inv X pins σ H s → (∀ b ∈ fp, FpOk X pins H b) → tn i s.heap → J.stop i H →
    wpAny (model P w) X.A (pyNext (.ref it)) (fun r s1 => r = none ∧ Inv X pins σ H s1) E s
  self : ∀ (A : Around) (i : Nat) (s : Shared) (Q : Value → Shared → Prop) (E : Value → Shared → Prop), tn i s.heap → Q (.ref it) s → wpAny (model P w) A (pyIter (.ref it)) Q E s
abbrev TI := St → Hp → (It → Hp → Prop) → Prop
/-- an iterator has come -/
def PIE (X : Cx) (pins : List (Addr × Obj)) (σ : St) (tg : Expr) (R : It → Hp → Prop) (itv : Value) (s2 : Shared) : Prop :=
  ∃ (it : Addr) (fp : List Addr) (tn : Nat → Heap → Prop) (J : It) (H' : Hp), itv = .ref it ∧ Inv X pins σ H' s2 ∧ Turn X.prog X.w X.K tg J fp it tn ∧ tn 0 s2.heap ∧ (∀ b ∈ fp, FpOk X pins H' b) ∧ R J H'
def PI (X : Cx) (tg iter : Expr) (wi : TI) : Prop :=
  ∀ (pins : List (Addr × Obj)) (s : Shared) (σ : St) (H : Hp) (R : It → Hp → Prop), Inv X pins σ H s → wi σ H R →
    wpAny (model X.prog X.w) X.A (eval iter X.env) (fun v s1 => wpAny (model X.prog X.w) X.A (pyIter v) (PIE X pins σ tg R) X.xe s1) X.xe s

/-- the step ahead of the store is nothing for an iterator that keeps no tuple -/
theorem go_of {M : Model} {A : Around} {E : Value → Shared → Prop} {s : Shared} {tg : Expr} {it : Addr} {u : Value} {o : Obj} {n : String} {vs : Array Value} {Q : Unit → Shared → Prop} (ho : s.heap.get? it = some o) (hc : o.cls = .type n) (hd : o.data = .fields vs)
    (hn : ["enumerate", "zip", "dict_itemiterator", "dict_reverseitemiterator", "odict_iterator", "itertools.zip_longest", "itertools.pairwise"].contains n = false) (hQ : Q () s) : wpAny M A (letOwnedTupleGo tg (.ref it) u) Q E s := by
  unfold letOwnedTupleGo
  cases tg <;> first
    | exact wpAny_pure hQ
    | (cases u <;> first
        | exact wpAny_pure hQ
        | (refine wpAny_bind (wpAny_load ho ?_)
           rw [hc, hd]
           show wpAny M A (if (["enumerate", "zip", "dict_itemiterator", "dict_reverseitemiterator", "odict_iterator", "itertools.zip_longest", "itertools.pairwise"].contains n && vs[0]? == some (rawInt _)) = true then _ else _) Q E s
           rw [if_neg (by intro h; rw [hn, Bool.false_and] at h; cases h)]
           exact wpAny_pure hQ))

/-- the list at a, as it stands at each turn (a loop may append to it) -/
def Itl (K : PySem.W.Frag) (a : Addr) : It :=
  ⟨fun i H => ∃ xs x, SqL K H a xs ∧ xs[i]? = some x, fun i H x H' => H' = H ∧ ∀ xs, SqL K H a xs → xs[i]? = some x, fun i H => ∃ xs, SqL K H a xs ∧ xs.length ≤ i⟩
def Itt (K : PySem.W.Frag) (a : Addr) : It :=
  ⟨fun i H => ∃ xs x, SqT K H a xs ∧ xs[i]? = some x, fun i H x H' => H' = H ∧ ∀ xs, SqT K H a xs → xs[i]? = some x, fun i H => ∃ xs, SqT K H a xs ∧ xs.length ≤ i⟩
/-- lo, lo + 1, .. (n of them) -/
def Itr (lo : Int) (n : Nat) : It := ⟨fun i _ => i < n, fun i H x H' => H' = H ∧ x = .int (lo + i), fun i _ => n ≤ i⟩
theorem turn_list {P : Program} {w : World} {K : PySem.W.Frag} {tg : Expr} (a it : Addr) : Turn P w K tg (Itl K a) [it] it (fun i h => h.IsListIter it a i) where
  mem := by simp
  obj := fun i h st b hb => by
    have e : b = it := by simpa using hb
    subst e
    obtain ⟨o, e, c, d⟩ := st
    exact ⟨o, e, fun v z => by rw [d] at z; cases z⟩
  keep := fun i h h' st k => st.at fun o e => k it (by simp) o e
  item := by
    intro X hP hw hK hc i pins s σ H E I hf st hg
    subst hP hw hK
    obtain ⟨xs, x, hq, hx⟩ := hg
    obtain ⟨its, rv, p, hz⟩ := I.list hq
    obtain ⟨u, hu, ru⟩ := rv.get hx
    obtain ⟨f0, f1, f2, f3, f4, f5⟩ := hf it (by simp)
    refine wpAny_pyNext_list_item st p.isList (x := u) (by simpa using hu) fun h' st' sb => ?_
    have I1 : Inv X pins σ H { s with heap := h' } := I.turned (t' := s.toks) (fun b o hb e => (sb.2 b hb).trans e) f0 f1 f3 f4 f5
    obtain ⟨o, e, c, d⟩ := id st'
    exact ⟨u, rfl, go_of (s := { s with heap := h' }) e c d (by decide) ⟨x, H, I1, ru, ⟨rfl, fun ys hy => by rw [I.list_inj hy hq]; exact hx⟩, st', fun b hb => (hf b hb).1⟩⟩
  done := by
    intro X hP hw hK hc i pins s σ H E I hf st hg
    subst hP hw hK
    obtain ⟨xs, hq, hx⟩ := hg
    obtain ⟨its, rv, p, hz⟩ := I.list hq
    obtain ⟨f0, f1, f2, f3, f4, f5⟩ := hf it (by simp)
    have hl := rv.length
    exact wpAny_pyNext_list_end (I.ok.hd hc) st p.isList (by simp; omega) fun h' eb => ⟨rfl, I.turned (t' := s.toks) (fun b o hb e => eb b o hb e) f0 f1 f3 f4 f5⟩
  self := fun _ _ _ _ _ st h => wpAny_pyIter_listiter st h
theorem turn_tuple {P : Program} {w : World} {K : PySem.W.Frag} {tg : Expr} (a it : Addr) : Turn P w K tg (Itt K a) [it] it (fun i h => h.IsTupleIter it a i) where
  mem := by simp
  obj := fun i h st b hb => by
    have e : b = it := by simpa using hb
    subst e
    obtain ⟨o, e, c, d⟩ := st
    exact ⟨o, e, fun v z => by rw [d] at z; cases z⟩
  keep := fun i h h' st k => st.at fun o e => k it (by simp) o e
  item := by
    intro X hP hw hK hc i pins s σ H E I hf st hg
    subst hP hw hK
    obtain ⟨xs, x, hq, hx⟩ := hg
    obtain ⟨its, rv, p, hz⟩ := I.tuple hq
    obtain ⟨u, hu, ru⟩ := rv.get hx
    obtain ⟨f0, f1, f2, f3, f4, f5⟩ := hf it (by simp)
    refine wpAny_pyNext_tuple_item st (show s.heap.IsTuple a its.toArray from p) (x := u) (by simpa using hu) fun h' st' sb => ?_
    have I1 : Inv X pins σ H { s with heap := h' } := I.turned (t' := s.toks) (fun b o hb e => (sb.2 b hb).trans e) f0 f1 f3 f4 f5
    obtain ⟨o, e, c, d⟩ := id st'
    exact ⟨u, rfl, go_of (s := { s with heap := h' }) e c d (by decide) ⟨x, H, I1, ru, ⟨rfl, fun ys hy => by rw [I.tuple_inj hy hq]; exact hx⟩, st', fun b hb => (hf b hb).1⟩⟩
  done := by
    intro X hP hw hK hc i pins s σ H E I hf st hg
    subst hP hw hK
    obtain ⟨xs, hq, hx⟩ := hg
    obtain ⟨its, rv, p, hz⟩ := I.tuple hq
    obtain ⟨f0, f1, f2, f3, f4, f5⟩ := hf it (by simp)
    have hl := rv.length
    exact wpAny_pyNext_tuple_end (I.ok.hd hc) st (show s.heap.IsTuple a its.toArray from p) (by simp; omega) fun h' eb => ⟨rfl, I.turned (t' := s.toks) (fun b o hb e => eb b o hb e) f0 f1 f3 f4 f5⟩
  self := fun _ _ _ _ _ st h => wpAny_pyIter_tupleiter st h
theorem turn_range {P : Program} {w : World} {K : PySem.W.Frag} {tg : Expr} (it : Addr) (lo : Int) (n : Nat) : Turn P w K tg (Itr lo n) [it] it (fun i h => IsRangeIter h it (lo + (i : Nat) * 1) ((n : Int) - (i : Nat)) 1) where
  mem := by simp
  obj := fun i h st b hb => by
    have e : b = it := by simpa using hb
    subst e
    exact ⟨_, st, fun v z => by
      have z' : Data.fields _ = Data.cell v := z
      cases z'⟩
  keep := fun i h h' st k => k it (by simp) _ st
  item := by
    intro X hP hw hK hc i pins s σ H E I hf st hg
    subst hP hw hK
    obtain ⟨f0, f1, f2, f3, f4, f5⟩ := hf it (by simp)
    have W := Walks.range (prog := X.prog) (w := X.w) (I.ok.hd hc) it lo 1 n
    refine W.item i s _ _ hg st fun v h' tk hv st' kk => ?_
    obtain ⟨t, rfl⟩ := hv
    have I1 : Inv X pins σ H { s with heap := h', toks := tk } := I.turned (fun b o hb e => kk b o (by simpa using hb) e) f0 f1 f3 f4 f5
    refine ⟨_, rfl, go_of (s := { s with heap := h', toks := tk }) (n := "range_iterator") st' rfl rfl (by decide) ⟨.int (lo + i), H, I1, ⟨t, ?_⟩, ⟨rfl, rfl⟩, st', fun b hb => (hf b hb).1⟩⟩
    rw [Int.mul_one]
  done := by
    intro X hP hw hK hc i pins s σ H E I hf st hg
    subst hP hw hK
    obtain ⟨f0, f1, f2, f3, f4, f5⟩ := hf it (by simp)
    exact wpAny_pyNext_range_end (I.ok.hd hc) st (by have : n ≤ i := hg; omega) fun h' eb => ⟨rfl, I.turned (t' := s.toks) (fun b o hb e => eb b o hb e) f0 f1 f3 f4 f5⟩
  self := fun _ _ _ _ _ st h => wpAny_pyIter_rangeiter st h
end L2

namespace L2
open PySem PySem.Spec PyProof.Rows
section
variable {X : Cx} {tg : Expr}
/-- a range object just made, walked -/
theorem range_it {pins : List (Addr × Obj)} {σ : St} {H : Hp} {s : Shared} {R : It → Hp → Prop} {E : Value → Shared → Prop} {lo hi : Int} {t u v : Tok} {tk : Nat} (I : Inv X pins σ H s) (h1 : -(2 ^ 62) ≤ lo) (h2 : lo < 2 ^ 62) (h3 : -(2 ^ 62) ≤ hi) (h4 : hi < 2 ^ 62)
    (q : R (Itr lo (hi - lo).toNat) H) : wpAny (model X.prog X.w) X.A (pyIter (.ref s.heap.objs.size)) (PIE X pins σ tg R) E { s with heap := s.heap.push { cls := .type "range", data := .fields #[.int lo t, .int hi u, .int 1 v] }, toks := tk } := by
  refine wpAny_pyIter_range (IsRange.new ..) (small_one h1 h2 h3 h4) ?_
  have I1 : Inv X pins σ H { s with heap := s.heap.push { cls := .type "range", data := .fields #[.int lo t, .int hi u, .int 1 v] }, toks := tk } := I.kept fun b o e => Heap.get?_push_of_some _ e
  refine ⟨(s.heap.push { cls := .type "range", data := .fields #[.int lo t, .int hi u, .int 1 v] }).objs.size, [(s.heap.push { cls := .type "range", data := .fields #[.int lo t, .int hi u, .int 1 v] }).objs.size], _, _, H, rfl,
    I1.kept (t' := tk) fun b o e => Heap.get?_push_of_some _ e, turn_range _ lo (hi - lo).toNat, ?_, fun b hb => ?_, q⟩
  · have e1 : lo + ((0 : Nat) : Int) * 1 = lo := by simp
    have e2 : (((hi - lo).toNat : Nat) : Int) - ((0 : Nat) : Int) = Builtin.Range.rangeSize lo hi 1 := by rw [rangeSize_one]; split <;> omega
    show IsRangeIter _ _ (lo + ((0 : Nat) : Int) * 1) ((((hi - lo).toNat : Nat) : Int) - ((0 : Nat) : Int)) 1
    rw [e1, e2]
    exact Heap.get?_push_size _ rfl
  · have e : b = (s.heap.push { cls := .type "range", data := .fields #[.int lo t, .int hi u, .int 1 v] }).objs.size := by simpa using hb
    subst e
    exact I1.fpOk (Nat.le_refl _) (I1.hok.fresh (Nat.le_refl _))
def iRng1 (ta : TA) : TI := fun σ H R => ta σ H fun vs H1 => ∃ j : Int, vs = [.int j] ∧ -(2 ^ 62) ≤ j ∧ j < 2 ^ 62 ∧ R (Itr 0 j.toNat) H1
theorem pi_range1 {a : Expr} {ta : TA} {p pos : Pos} (hg : Gl X "range") (hm : X.mg "range" = none) (ha : PA X [a] ta) (hs : starEach [a] X.env = [(false, eval a X.env)] := by rfl) : PI X tg (.Call (.Name "range" p) [a] [] pos) (iRng1 ta) := by
  intro pins s σ H R I h
  refine Call_ (ld_blt I hg hm boot_range (PyProof.Rows.callWith_type1 (thn (ha pos pins s σ H _ I h) fun us s1 ⟨vs, H1, I1, r1, q1⟩ => ?_) hs rfl))
  obtain ⟨j, e, q1, q2, q⟩ := q1
  subst e
  cases r1 with
  | cons r rr =>
    cases rr
    obtain ⟨t, rfl⟩ := r
    exact call_range_1 (range_it I1 (by omega) (by omega) q1 q2 (by simpa using q))
/-- W: the invariant by the turn and a measure; N: what the body is to reach -/
def tFor (wi : TI) (g : TG) (tb : TS) : TS := fun D σ H => wi σ H fun J H1 => ∃ W : Nat → Nat → St → Hp → Prop, (∃ m, W 0 m σ H1) ∧ ∀ i m σ H, W i m σ H →
  (J.stop i H ∧ D.nx σ H) ∨ (J.go i H ∧ ∃ N : St → Hp → Prop, (∀ σ' H', N σ' H' → ∃ m', m' < m ∧ W (i + 1) m' σ' H') ∧ ∀ x H', J.yld i H x H' → g x σ H' fun σ2 H2 => tb { D with nx := N, ct := N, bk := D.nx } σ2 H2)
/-- the records at fp as they stand -/
def pinsAt (fp : List Addr) (h : Heap) : List (Addr × Obj) := fp.filterMap fun b => (h.get? b).map fun o => (b, o)
theorem mem_pinsAt {fp : List Addr} {h : Heap} {b : Addr} {o : Obj} (hb : b ∈ fp) (e : h.get? b = some o) : (b, o) ∈ pinsAt fp h := List.mem_filterMap.mpr ⟨b, hb, by rw [e]; rfl⟩
theorem of_pinsAt {fp : List Addr} {h : Heap} {p : Addr × Obj} (hp : p ∈ pinsAt fp h) : p.1 ∈ fp ∧ h.get? p.1 = some p.2 := by
  obtain ⟨b, hb, e⟩ := List.mem_filterMap.mp hp
  cases q : h.get? b with
  | none => rw [q] at e; cases e
  | some o =>
    rw [q] at e
    have e' : (b, o) = p := Option.some.inj e
    subst e'
    exact ⟨hb, q⟩
theorem Inv.pinned {pins : List (Addr × Obj)} {σ : St} {H : Hp} {s : Shared} {fp : List Addr} (I : Inv X pins σ H s) (hf : ∀ b ∈ fp, FpOk X pins H b) (ho : ∀ b ∈ fp, ∃ o, s.heap.get? b = some o ∧ ∀ v, o.data ≠ .cell v) : Inv X (pins ++ pinsAt fp s.heap) σ H s :=
  I.pins_of fun p hp => (List.mem_append.mp hp).elim (fun z => I.pin p (List.mem_append_right _ z)) fun z => by
    obtain ⟨hb, e⟩ := of_pinsAt z
    obtain ⟨f0, f1, f2, _⟩ := hf p.1 hb
    obtain ⟨o, e', d⟩ := ho p.1 hb
    rw [e] at e'; cases e'
    exact ⟨e, f0, f1, f2, d⟩
theorem Inv.unpinned {pins pl : List (Addr × Obj)} {σ : St} {H : Hp} {s : Shared} (I : Inv X (pins ++ pl) σ H s) : Inv X pins σ H s := I.pins_of fun p hp => I.pin p (List.mem_append_right _ (List.mem_append_left _ hp))
theorem ps_for {iter : Expr} {body : List Stmt} {wi : TI} {g : TG} {tb : TS} {pos : Pos} (hp : PassesOwn (model X.prog X.w) X.A X.env X.xe) (hc : X.calm = true) (hi : PI X tg iter wi) (hg : PG X tg g) (hb : PSs X body tb)
    (hs : ∀ x, foldedSetIterable iter X.env x = pure x := by intro _; rfl) : PS X (.For tg iter body [] pos) (tFor wi g tb) := by
  intro pins s σ H D I h
  refine wpAny_For (thn (hi pins s σ H _ I h) fun v s1 h1 => thn h1 fun itv s2 h2 => ?_) hs
  obtain ⟨it, fp, tn, J, H2, e, I2, T, st2, f2, W, ⟨m0, w0⟩, turn⟩ := h2
  subst e
  -- what stays true of the iterator's objects through the loop
  have stat : ∀ {H' : Hp}, (∀ b ∈ fp, H' b = none) → ∀ b ∈ fp, FpOk X pins H' b := fun hn b hb => ⟨hn b hb, (f2 b hb).2⟩
  refine codeAny_forLoop_any (fun n s' => ∃ i σ' H', Inv X pins σ' H' s' ∧ tn i s'.heap ∧ (∀ b ∈ fp, H' b = none) ∧ W i n σ' H') ?_ m0 ⟨0, σ, H2, I2, st2, fun b hb => (f2 b hb).1, w0⟩
  rintro n s3 ⟨i, σ3, H3, I3, st3, fr3, w3⟩
  rcases turn i n σ3 H3 w3 with ⟨stop, qn⟩ | ⟨go, N, hN, step⟩
  · refine wpAny_passesOwn hp (thn (T.done X rfl rfl rfl hc i pins s3 σ3 H3 X.xe I3 (stat fr3) st3 stop) fun r s4 ⟨hr, I4⟩ => ?_)
    subst hr
    exact wpAny_execs_nil ⟨σ3, H3, I4, qn⟩
  · refine wpAny_passesOwn hp (thn (T.item X rfl rfl rfl hc i pins s3 σ3 H3 X.xe I3 (stat fr3) st3 go) fun r s4 ⟨u, hr, h4⟩ => ?_)
    subst hr
    refine wpAny_passesOwn hp (thn h4 fun _ s5 ⟨x, H5, I5, r5, y5, st5, fr5⟩ => ?_)
    have I5' := I5.pinned (stat fr5) (T.obj _ _ st5)
    refine wpAny_passesOwn hp (thn (hg _ s5 σ3 H5 x u _ I5' r5 (step x H5 y5)) fun _ s6 ⟨σ6, H6, I6, q6⟩ => ?_)
    refine wpAny_passesOwn hp (thn (hb _ s6 σ6 H6 _ I6 q6) fun f s7 q7 => ?_)
    have again : ∀ {σ7 : St} {H7 : Hp}, Inv X (pins ++ pinsAt fp s5.heap) σ7 H7 s7 → N σ7 H7 → ∃ m, m < n ∧ ∃ i σ' H', Inv X pins σ' H' s7 ∧ tn i s7.heap ∧ (∀ b ∈ fp, H' b = none) ∧ W i m σ' H' := fun {σ7 H7} I7 n7 => by
      obtain ⟨m', hm, w7⟩ := hN σ7 H7 n7
      refine ⟨m', hm, i + 1, σ7, H7, I7.unpinned, T.keep _ _ _ st5 fun b hb o e => (I7.pin (b, o) (List.mem_append_right _ (List.mem_append_right _ (mem_pinsAt hb e)))).1, fun b hb => ?_, w7⟩
      obtain ⟨o, e, d⟩ := T.obj _ _ st5 b hb
      exact (I7.pin (b, o) (List.mem_append_right _ (List.mem_append_right _ (mem_pinsAt hb e)))).2.1
    cases f with
    | next => obtain ⟨σ7, H7, I7, n7⟩ := q7; exact again I7 n7
    | cont => obtain ⟨σ7, H7, I7, n7⟩ := q7; exact again I7 n7
    | brk => obtain ⟨σ7, H7, I7, q7⟩ := q7; exact ⟨σ7, H7, I7.unpinned, q7⟩
    | ret v => obtain ⟨x7, σ7, H7, I7, r7, q7⟩ := q7; exact ⟨x7, σ7, H7, I7.unpinned, r7, q7⟩
end

end L2

namespace L2
open PySem PySem.Spec PyProof.Rows

abbrev R2 := V → V → Hp → VK → Prop
/-- a two-place operation on values: f is binaryOp op, inplaceOp op or compareOp op -/
def OpR (X : Cx) (f : Value → Value → Sem Value) (r : R2) : Prop :=
  ∀ (pins : List (Addr × Obj)) (s : Shared) (σ : St) (H : Hp) (x y : V) (v u : Value) (Q : VK), Inv X pins σ H s → RelV x v → RelV y u → r x y H Q →
    wpAny (model X.prog X.w) X.A (f v u) (EP X pins σ Q) X.xe s
/-- a one-place operation -/
def UnR (X : Cx) (f : Value → Sem Value) (r : V → Hp → VK → Prop) : Prop :=
  ∀ (pins : List (Addr × Obj)) (s : Shared) (σ : St) (H : Hp) (x : V) (v : Value) (Q : VK), Inv X pins σ H s → RelV x v → r x H Q →
    wpAny (model X.prog X.w) X.A (f v) (EP X pins σ Q) X.xe s
/-- a call of a value that is known (a builtin, a type) with values -/
def CallR (X : Cx) (f : Value) (r : List V → Hp → VK → Prop) : Prop :=
  ∀ (pins : List (Addr × Obj)) (s : Shared) (σ : St) (H : Hp) (xs : List V) (us : List Value) (Q : VK), Inv X pins σ H s → Vals xs us → r xs H Q →
    wpAny (model X.prog X.w) X.A (call f us) (EP X pins σ Q) X.xe s
/-- a value's truth -/
def TruR (X : Cx) (r : V → Hp → (Bool → Hp → Prop) → Prop) : Prop :=
  ∀ (pins : List (Addr × Obj)) (s : Shared) (σ : St) (H : Hp) (x : V) (v : Value) (Q : Bool → Hp → Prop), Inv X pins σ H s → RelV x v → r x H Q →
    wpAny (model X.prog X.w) X.A (truthy v) (TP X pins σ Q) X.xe s

def tOp (r : R2) (ta tb : TE) : TE := fun σ H Q => ta σ H fun x H1 => tb σ H1 fun y H2 => r x y H2 Q
def tUn (r : V → Hp → VK → Prop) (ta : TE) : TE := fun σ H Q => ta σ H fun x H1 => r x H1 Q
/-- ints in, under C, and a value out -/
def rI (C : Int → Int → Prop) (g : Int → Int → V) : R2 := fun x y H Q => ∃ i j, x = .int i ∧ y = .int j ∧ C i j ∧ Q (g i j) H
def rI0 (g : Int → Int → V) : R2 := fun x y H Q => ∃ i j, x = .int i ∧ y = .int j ∧ Q (g i j) H
def rU (g : Int → V) : V → Hp → VK → Prop := fun x H Q => ∃ i, x = .int i ∧ Q (g i) H

section
variable {X : Cx} {a b c : Expr} {ta tb tc : TE} {pos : Pos}

theorem binT (ha : PE X a ta) (hb : PE X b tb) {pins : List (Addr × Obj)} {s : Shared} {σ : St} {H : Hp} {R : V → V → Hp → Prop} (I : Inv X pins σ H s)
    (h : ta σ H fun x H1 => tb σ H1 fun y H2 => R x y H2) {Q : Value → Shared → Prop} {f : Value → Value → Sem Value}
    (hf : ∀ v u s2 x y H2, Inv X pins σ H2 s2 → RelV x v → RelV y u → R x y H2 → wpAny (model X.prog X.w) X.A (f v u) Q X.xe s2) :
    wpAny (model X.prog X.w) X.A (eval a X.env) (fun v s₁ => wpAny (model X.prog X.w) X.A (eval b X.env) (fun u s₂ => wpAny (model X.prog X.w) X.A (f v u) Q X.xe s₂) X.xe s₁) X.xe s := by
  refine thn (ha pins s σ H _ I h) fun v s1 ⟨x, H1, I1, r1, q1⟩ => ?_
  refine thn (hb pins s1 σ H1 _ I1 q1) fun u s2 ⟨y, H2, I2, r2, q2⟩ => ?_
  exact hf v u s2 x y H2 I2 r1 r2 q2

theorem pe_op {op : Operator} {r : R2} (ho : OpR X (binaryOp op) r) (ha : PE X a ta) (hb : PE X b tb) : PE X (.BinOp a op b pos) (tOp r ta tb) := by
  intro pins s σ H Q I h
  exact wpAny_BinOp (binT ha hb I h fun v u s2 x y H2 I2 rx ry q => ho pins s2 σ H2 x y v u Q I2 rx ry q)
theorem pe_un {op : UnaryOp} {r : V → Hp → VK → Prop} (ho : UnR X (unaryOp op) r) (ha : PE X a ta) : PE X (.UnaryOp op a pos) (tUn r ta) := by
  intro pins s σ H Q I h
  exact UnaryOp_ (thn (ha pins s σ H _ I h) fun v s1 ⟨x, H1, I1, r1, q1⟩ => ho pins s1 σ H1 x v Q I1 r1 q1)
theorem opI {f : Value → Value → Sem Value} {C : Int → Int → Prop} {g : Int → Int → Int}
    (rule : ∀ (i j : Int) (t u : Tok) (s : Shared) (Q : Value → Shared → Prop) (E : Value → Shared → Prop), C i j → Q (.int (g i j) s.toks) { s with toks := s.toks + 1 } → wpAny (model X.prog X.w) X.A (f (.int i t) (.int j u)) Q E s) :
    OpR X f (rI C fun i j => .int (g i j)) := by
  intro pins s σ H x y v u Q I rx ry h
  obtain ⟨i, j, rfl, rfl, hc, q⟩ := h
  obtain ⟨t, rfl⟩ := rx
  obtain ⟨t', rfl⟩ := ry
  exact rule i j t t' s _ _ hc ⟨.int (g i j), H, I.tok _, ⟨_, rfl⟩, q⟩
theorem opI0 {f : Value → Value → Sem Value} {g : Int → Int → Int}
    (rule : ∀ (i j : Int) (t u : Tok) (s : Shared) (Q : Value → Shared → Prop) (E : Value → Shared → Prop), Q (.int (g i j) s.toks) { s with toks := s.toks + 1 } → wpAny (model X.prog X.w) X.A (f (.int i t) (.int j u)) Q E s) :
    OpR X f (rI0 fun i j => .int (g i j)) := by
  intro pins s σ H x y v u Q I rx ry h
  obtain ⟨i, j, rfl, rfl, q⟩ := h
  obtain ⟨t, rfl⟩ := rx
  obtain ⟨t', rfl⟩ := ry
  exact rule i j t t' s _ _ ⟨.int (g i j), H, I.tok _, ⟨_, rfl⟩, q⟩
theorem opB0 {f : Value → Value → Sem Value} {g : Int → Int → Bool}
    (rule : ∀ (i j : Int) (t u : Tok) (s : Shared) (Q : Value → Shared → Prop) (E : Value → Shared → Prop), Q (.bool (g i j)) s → wpAny (model X.prog X.w) X.A (f (.int i t) (.int j u)) Q E s) :
    OpR X f (rI0 fun i j => .bl (g i j)) := by
  intro pins s σ H x y v u Q I rx ry h
  obtain ⟨i, j, rfl, rfl, q⟩ := h
  obtain ⟨t, rfl⟩ := rx
  obtain ⟨t', rfl⟩ := ry
  exact rule i j t t' s _ _ ⟨.bl (g i j), H, I, rfl, q⟩

def CPow (i j : Int) : Prop := 0 ≤ j ∧ j ≤ 1000000 ∧ i.natAbs < 2 ^ 64
def CMul (i j : Int) : Prop := (-(2 ^ 64) < i ∧ i < 2 ^ 64) ∨ (-(2 ^ 64) < j ∧ j < 2 ^ 64)
theorem CMul.ok {i j : Int} (h : CMul i j) : IntMulOk i j := by
  rcases h with ⟨h1, h2⟩ | ⟨h1, h2⟩
  · exact .of_left (intBits_le_64 h1 h2)
  · exact .of_right (intBits_le_64 h1 h2)
theorem op_add : OpR X (binaryOp .Add) (rI0 fun i j => .int (i + j)) := opI0 fun _ _ _ _ _ _ _ q => add_int q
theorem op_sub : OpR X (binaryOp .Sub) (rI0 fun i j => .int (i - j)) := opI0 fun _ _ _ _ _ _ _ q => sub_int q
theorem op_modN : OpR X (binaryOp .Mod) (rI (fun _ j => j ≠ 0) fun i j => .int (i.fmod j)) := opI fun _ _ _ _ _ _ _ hc q => mod_int' hc q
theorem op_pow : OpR X (binaryOp .Pow) (rI CPow fun i j => .int (i ^ j.toNat)) := opI fun _ _ _ _ _ _ _ hc q => pow_int_small hc.1 hc.2.1 hc.2.2 q
theorem unI {f : Value → Sem Value} {g : Int → Int}
    (rule : ∀ (i : Int) (t : Tok) (s : Shared) (Q : Value → Shared → Prop) (E : Value → Shared → Prop), Q (.int (g i) s.toks) { s with toks := s.toks + 1 } → wpAny (model X.prog X.w) X.A (f (.int i t)) Q E s) :
    UnR X f (rU fun i => .int (g i)) := by
  intro pins s σ H x v Q I rx h
  obtain ⟨i, rfl, q⟩ := h
  obtain ⟨t, rfl⟩ := rx
  exact rule i t s _ _ ⟨.int (g i), H, I.tok _, ⟨_, rfl⟩, q⟩
theorem un_neg : UnR X (unaryOp .USub) (rU fun i => .int (-i)) := unI fun _ _ _ _ _ q => neg_int q
end

section
variable {X : Cx} {a b c : Expr} {ta tb tc : TE} {pos : Pos}
theorem fin_bl {pins : List (Addr × Obj)} {σ : St} {H : Hp} {s : Shared} {Q : VK} {k k' : Bool} (I : Inv X pins σ H s) (q : Q (.bl k) H) (e : k = k') : EP X pins σ Q (.bool k') s := by
  subst e
  exact ⟨.bl k, H, I, rfl, q⟩
theorem op_lt : OpR X (compareOp .Lt) (rI0 fun i j => .bl (decide (i < j))) := opB0 fun _ _ _ _ _ _ _ q => lt_int q
theorem op_ge : OpR X (compareOp .GtE) (rI0 fun i j => .bl (decide (j ≤ i))) := opB0 fun _ _ _ _ _ _ _ q => ge_int q
/-- the one string within the other -/
theorem op_in_str : OpR X (compareOp .In) (fun x y H Q => ∃ i j, x = .str i ∧ y = .str j ∧ Q (.bl (!(Builtin.Str.occurrences j i 0 j.length 1).isEmpty)) H) := by
  intro pins s σ H x y v u Q I rx ry h
  obtain ⟨i, j, rfl, rfl, q⟩ := h
  obtain ⟨t, rfl⟩ := rx
  obtain ⟨t', rfl⟩ := ry
  exact in_str (fin_bl I q rfl)

/-- is None, is not None: the right side a value none -/
theorem op_isN : OpR X (compareOp .Is) (fun x y H Q => y = .non ∧ Q (.bl (decide (x = .non))) H) := by
  intro pins s σ H x y v u Q I rx ry h
  obtain ⟨rfl, q⟩ := h
  cases ry
  refine is_none_gen (fin_bl I q ?_)
  cases x <;> first
    | (cases rx; rfl)
    | (obtain ⟨t, rfl⟩ := rx; rfl)
theorem op_notN : OpR X (compareOp .IsNot) (fun x y H Q => y = .non ∧ Q (.bl (!decide (x = .non))) H) := by
  intro pins s σ H x y v u Q I rx ry h
  obtain ⟨rfl, q⟩ := h
  cases ry
  refine isnot_none_gen (fin_bl I q ?_)
  cases x <;> first
    | (cases rx; rfl)
    | (obtain ⟨t, rfl⟩ := rx; rfl)

/-- two rules for one operation: by cases -/
theorem OpR.or {f : Value → Value → Sem Value} {r r' : R2} (h : OpR X f r) (h' : OpR X f r') : OpR X f (fun x y H Q => r x y H Q ∨ r' x y H Q) := by
  intro pins s σ H x y v u Q I rx ry q
  rcases q with q | q
  · exact h pins s σ H x y v u Q I rx ry q
  · exact h' pins s σ H x y v u Q I rx ry q

theorem nomark (b : Expr) {op : CmpOp} (h : op ≠ .In := by decide) (h2 : op ≠ .NotIn := by decide) : behindInMarks op b = false := by
  have e1 : (op == CmpOp.In) = false := by cases op <;> first | rfl | exact absurd rfl h
  have e2 : (op == CmpOp.NotIn) = false := by cases op <;> first | rfl | exact absurd rfl h2
  cases b <;> simp [behindInMarks, e1, e2]
/-- a comparison as a value; hm: nomark b, or (for in, not in) by with_unfolding_all rfl -/
theorem pe_cmpR {op : CmpOp} {r : R2} (ho : OpR X (compareOp op) r) (ha : PE X a ta) (hb : PE X b tb) (hm : behindInMarks op b = false) : PE X (.Compare a [op] [b] pos) (tOp r ta tb) := by
  intro pins s σ H Q I h
  exact wpAny_Compare1 (binT ha hb I h fun v u s2 x y H2 I2 rx ry q => ho pins s2 σ H2 x y v u Q I2 rx ry q) hm
/-- a reading of a value as a test -/
def tTest (t : TE) : TT := fun σ H Q => t σ H fun x H' => ∃ k, x = .bl k ∧ Q k H'
theorem pt_cmpR {op : CmpOp} {r : R2} (ho : OpR X (compareOp op) r) (ha : PE X a ta) (hb : PE X b tb) (hm : behindInMarks op b = false) : PT X (.Compare a [op] [b] pos) (tTest (tOp r ta tb)) := by
  intro pins s σ H Q I h
  refine wpAny_isTrue_Compare1 (thn (ha pins s σ H _ I h) fun v s1 ⟨x, H1, I1, r1, q1⟩ => thn (hb pins s1 σ H1 _ I1 q1) fun u s2 ⟨y, H2, I2, r2, q2⟩ =>
    thn (ho pins s2 σ H2 x y v u _ I2 r1 r2 q2) fun c s3 ⟨z, H3, I3, r3, k, e, q3⟩ => ?_) hm
  subst e
  cases r3
  exact wpAny_truthy_bool ⟨H3, I3, q3⟩
/-- a value's truth by the abstract heap -/
def TruV (K : PySem.W.Frag) (x : V) (H : Hp) (k : Bool) : Prop :=
  match x with
  | .non => k = false
  | .bl b => k = b
  | .int i => k = (i != 0)
  | .str y => y.length ≤ sizeLine ∧ k = ((y.length : Int) != 0)
  | .byt y => y.size ≤ sizeLine ∧ k = ((y.size : Int) != 0)
  | .ref p => (∃ xs, SqL K H p xs ∧ k = !xs.isEmpty) ∨ (∃ xs, SqT K H p xs ∧ k = !xs.isEmpty) ∨ ∃ kvs, H p = some (.dK kvs) ∧ k = !kvs.isEmpty
  | _ => False
theorem isEmpty_kv {κ : Type} {kvs : List (κ × V)} {vs : List (κ × Value)} (r : KV kvs vs) : (!vs.isEmpty) = !kvs.isEmpty := by
  cases r <;> rfl
theorem isEmpty_of {xs : List V} {its : List Value} (r : Vals xs its) : (!its.toArray.isEmpty) = !xs.isEmpty := by
  cases r <;> simp
theorem line63 : (sizeLine : Nat) < 2 ^ 63 := by rw [sizeLine_eq]; decide
theorem tru_ok : TruR X (fun x H Q => ∃ k, TruV X.K x H k ∧ Q k H) := by
  intro pins s σ H x v Q I rx h
  obtain ⟨k, e, q⟩ := h
  have hl := line63
  have hs : sizeLine = 16777216 := sizeLine_eq
  cases x with
  | non =>
    cases rx
    have e' : k = false := e
    subst e'
    exact truthy_none ⟨H, I, q⟩
  | bl b =>
    cases rx
    have e' : k = b := e
    subst e'
    exact wpAny_truthy_bool ⟨H, I, q⟩
  | int i =>
    obtain ⟨t, rfl⟩ := rx
    have e' : k = (i != 0) := e
    subst e'
    exact PySem.P.truthy_int ⟨H, I, q⟩
  | str y =>
    obtain ⟨t, rfl⟩ := rx
    obtain ⟨hy, e'⟩ : y.length ≤ sizeLine ∧ k = ((y.length : Int) != 0) := e
    subst e'
    exact PySem.P.truthy_str (by omega) ⟨H, I.tok _, q⟩
  | byt y =>
    obtain ⟨t, rfl⟩ := rx
    obtain ⟨hy, e'⟩ : y.size ≤ sizeLine ∧ k = ((y.size : Int) != 0) := e
    subst e'
    exact PySem.W.truthy_bytes (by omega) ⟨H, I.tok _, q⟩
  | ref p =>
    cases rx
    have e' : (∃ xs, SqL X.K H p xs ∧ k = !xs.isEmpty) ∨ (∃ xs, SqT X.K H p xs ∧ k = !xs.isEmpty) ∨ ∃ kvs, H p = some (.dK kvs) ∧ k = !kvs.isEmpty := e
    rcases e' with ⟨xs, hx, e'⟩ | ⟨xs, hx, e'⟩ | ⟨kvs, hx, e'⟩
    · subst e'
      obtain ⟨its, r, pl, hz⟩ := I.list hx
      have hlen := r.length
      exact wpAny_truthy_list pl.isList (by simp only [List.size_toArray]; omega) ⟨H, I.tok _, by rw [isEmpty_of r]; exact q⟩
    · subst e'
      obtain ⟨its, r, pl, hz⟩ := I.tuple hx
      have hlen := r.length
      exact truthy_tuple pl (by simp only [List.size_toArray]; omega) ⟨H, I.tok _, by rw [isEmpty_of r]; exact q⟩
    · subst e'
      obtain ⟨hz, hS, vs, r, m⟩ : kvs.length ≤ sizeLine ∧ (p == sysModules) = false ∧ ∃ vs, KV kvs vs ∧ s.heap.DictOf (mixKind X.prog X.w) p vs := I.hok p _ hx
      have hlen : kvs.length = vs.length := Paired.length r
      exact wpAny_truthy_dict hS m (by omega) ⟨H, I.tok _, by rw [isEmpty_kv r]; exact q⟩
  | _ => exact (show False from e).elim
/-- any expression whose test is its value's truth (a name, a call, a subscript, a field ..: he by fun _ => rfl) -/
theorem pt_truth (ha : PE X a ta) (he : ∀ whole, isTrue a X.env whole = (do let v ← whole; standAt a.pos; holding [v] (truthy v))) :
    PT X a (fun σ H Q => ta σ H fun x H' => ∃ k, TruV X.K x H' k ∧ Q k H') := by
  intro pins s σ H Q I h
  exact isTrue_plain (thn (ha pins s σ H _ I h) fun v s1 ⟨x, H1, I1, r1, q1⟩ => tru_ok pins s1 σ H1 x v Q I1 r1 q1) (he _)

theorem op_add_str : OpR X (binaryOp .Add) (fun x y H Q => ∃ i j, x = .str i ∧ y = .str j ∧ i.length + j.length ≤ sizeLine ∧ Q (.str (i ++ j)) H) := by
  intro pins s σ H x y v u Q I rx ry h
  obtain ⟨i, j, rfl, rfl, hz, q⟩ := h
  obtain ⟨t, rfl⟩ := rx
  obtain ⟨t', rfl⟩ := ry
  exact add_str (fun t' tk => ⟨.str (i ++ j), H, I.tok _, ⟨_, rfl⟩, q⟩) hz
theorem vals1 {x : V} {us : List Value} (r : Vals [x] us) : ∃ u, us = [u] ∧ RelV x u := by
  cases r with
  | cons r1 r2 => cases r2; exact ⟨_, rfl, r1⟩
theorem vals2 {x y : V} {us : List Value} (r : Vals [x, y] us) : ∃ u w', us = [u, w'] ∧ RelV x u ∧ RelV y w' := by
  cases r with
  | cons r1 r2 =>
    cases r2 with
    | cons r3 r4 => cases r4; exact ⟨_, _, rfl, r1, r3⟩
end
end L2

namespace L2
open PySem PySem.Spec PyProof.Rows

structure ObjM (h : Heap) (x dx C : Addr) (mA : Str → Option Value) : Prop where
  obj : h.get? x = some (PySem.W.instObj C dx)
  ns : h.Ns1 dx mA
  ne : dx ≠ x

theorem lookIn_ns {h : Heap} {dx : Addr} {mA : Str → Option Value} (n : h.Ns1 dx mA) : ∃ od, h.get? dx = some od ∧ ∀ name, PySem.W.lookIn name od = some (mA name) := by
  obtain ⟨o, es, ep, ho, hd, hk, _, hm⟩ := n
  refine ⟨o, ho, fun name => ?_⟩
  have e := hm name
  unfold nsFind findBy at e
  rw [← Array.find?_toList] at e
  unfold PySem.W.lookIn
  rw [hd]
  dsimp only
  split
  · rename_i y q
    rw [q] at e
    exact congrArg some e
  · rename_i q
    rw [q] at e
    have a : es.toList.any (·.refKey) = false := by
      rw [List.any_eq_false]
      intro y hy
      obtain ⟨z, t, hkey⟩ := hk y (Array.mem_toList_iff.mp hy)
      simp [DictEntry.refKey, hkey]
    have a' : ¬ es.toList.any (·.refKey) = true := by rw [a]; exact Bool.false_ne_true
    rw [if_neg a']
    exact congrArg some e

theorem ObjM.look {h : Heap} {x dx C : Addr} {mA : Str → Option Value} (I : ObjM h x dx C mA) : ∃ od, PySem.W.InstAt h x (PySem.W.instObj C dx) C (some od) ∧ ∀ name, PySem.W.lookIn name od = some (mA name) :=
  let ⟨od, ho, hl⟩ := lookIn_ns I.ns
  ⟨od, ⟨I.obj, rfl, rfl, ho⟩, hl⟩

section
variable {prog : Program} {w : World} {A : Around} {E : Value → Shared → Prop} {s : Shared} {K : PySem.W.Frag} {x dx C f : Addr} {mA : Str → Option Value} {name : Str} {v : Value}

end

theorem RelO.some_of {v : V} {o : Option Value} (r : RelO (some v) o) : ∃ u, o = some u ∧ RelV v u := by
  cases o with
  | none => exact (show False from r).elim
  | some u => exact ⟨u, rfl, r⟩
section
variable {P : Program} {w : World} {H H' : Hp} {h h' : Heap} {a C dx : Addr} {fs fs' : List (Str × V)}
theorem ins_get (hok : HOk P w H h) (e : H a = some (.ins C dx fs)) : ∃ mA, ObjM h a dx C mA ∧ (∀ f, RelO (fs.lookup f) (mA f)) ∧ PySem.Within mA (fs.map (·.1)) ∧ fs.length ≤ 1000 ∧ H dx = some (.own a) := by
  obtain ⟨d, z, ne, ob, mA, n, r, q⟩ := (show ObjOk P w H h a (.ins C dx fs) from hok a _ e)
  exact ⟨mA, ⟨ob, n, ne⟩, r, q, z, d⟩
end

structure Cls (K : PySem.W.Frag) (C : Addr) : Prop where
  pg : PySem.W.plainGet K C Str.empty = true
  hd : PySem.W.hasDictIn K C = true
  po : PySem.W.plainOver K C = true
  sa : PySem.W.findIn K (.ref C) "__setattr__" = some (some (.builtin "object.__setattr__"))
theorem Cls.get {K : PySem.W.Frag} {C : Addr} (c : Cls K C) (f : Str) : PySem.W.plainGet K C f = true := c.pg
/-- a constant of the class -/
structure Con (K : PySem.W.Frag) (C : Addr) (f : Str) (v : V) (u : Value) : Prop where
  at_ : PySem.W.findIn K (.ref C) f = some (some u)
  rel : RelV v u
  get : PySem.W.specialIn K u "__get__" = some none
  cp : PySem.W.copiedNames.contains f = false
section
variable {X : Cx} {pins : List (Addr × Obj)} {σ : St} {H : Hp} {s : Shared} {a C dx : Addr} {fs : List (Str × V)} {f : Str} {v : V} {A : Around} {E : Value → Shared → Prop}

/-- a new instance, tracked, without attributes -/
theorem Inv.made (I : Inv X pins σ H s) : Inv X pins σ (upd (upd H s.heap.objs.size (.own (s.heap.objs.size + 1))) (s.heap.objs.size + 1) (.ins C s.heap.objs.size []))
    { s with heap := (s.heap.push PySem.W.emptyDict).push (PySem.W.instObj C s.heap.objs.size) } := by
  have e1 : (s.heap.push PySem.W.emptyDict).get? s.heap.objs.size = some PySem.W.emptyDict := Heap.get?_push_size s.heap rfl
  have e2 : ((s.heap.push PySem.W.emptyDict).push (PySem.W.instObj C s.heap.objs.size)).get? (s.heap.objs.size + 1) = some (PySem.W.instObj C s.heap.objs.size) := by
    have := Heap.get?_push_size (s.heap.push PySem.W.emptyDict) (o := PySem.W.instObj C s.heap.objs.size) rfl
    rwa [Heap.size_push] at this
  have e3 : (s.heap.push PySem.W.emptyDict).Ns s.heap.objs.size (fun _ => none) := ⟨PySem.W.emptyDict, #[], _, e1, rfl, (fun e he => absurd he (by simp)), fun _ => rfl⟩
  have I1 := I.laid (a := s.heap.objs.size) (o := .own (s.heap.objs.size + 1)) (h' := s.heap.push PySem.W.emptyDict) (t' := s.toks) (fun b u q => Heap.get?_push_of_some _ q) (Nat.le_refl _) ⟨_, e1⟩
  refine I1.laid (a := s.heap.objs.size + 1) (o := .ins C s.heap.objs.size []) (t' := s.toks) (fun b u q => Heap.get?_push_of_some _ q) (Nat.le_of_eq (Heap.size_push _ _)) ?_
  have ne : s.heap.objs.size ≠ s.heap.objs.size + 1 := Nat.ne_of_lt (Nat.lt_succ_self _)
  refine ⟨by rw [upd_ne ne, upd_same], Nat.zero_le _, ne, e2, fun _ => none, (Heap.Ns1.of_empty e3).at fun o q => Heap.get?_push_of_some _ q, fun _ => True.intro, fun y hy => absurd rfl hy⟩

end

section
variable {X : Cx} {o e value : Expr} {f : Str} {pos pos' tpos : Pos} {ta tv : TE}
end

section
variable {X : Cx} {pins : List (Addr × Obj)} {σ : St} {H : Hp} {s : Shared} {A : Around} {E : Value → Shared → Prop} {Q : Value → Shared → Prop} {c : Value} {b : Bool}
/-- the type of a value, as the fragment's deciders take it; for an instance its class -/
inductive TyOf (K : PySem.W.Frag) (H : Hp) : V → Value → Prop where
  | non : TyOf K H .non (.type "NoneType")
  | bl (x : Bool) : TyOf K H (.bl x) (.type "bool")
  | int (i : Int) : TyOf K H (.int i) (.type "int")
  | str (x : Str) : TyOf K H (.str x) (.type "str")
  | flt (x : UInt64) : TyOf K H (.flt x) (.type "float")
  | lst {a : Addr} {xs : List V} (e : H a = some (.lst xs)) : TyOf K H (.ref a) (.type "list")
  | frz {a : Addr} {o : Obj} {xs : List V} (e : H a = some (.frz o (.lst xs))) : TyOf K H (.ref a) (.type "list")
  | tup {a : Addr} {xs : List V} (e : H a = some (.tup xs)) : TyOf K H (.ref a) (.type "tuple")
  | dK {a : Addr} {kvs : List (Key × V)} (e : H a = some (.dK kvs)) : TyOf K H (.ref a) (.type "dict")
  | dT {a : Addr} {kvs : List (List Key × V)} (e : H a = some (.dT kvs)) : TyOf K H (.ref a) (.type "dict")
  | ins {a C dx : Addr} {fs : List (Str × V)} (e : H a = some (.ins C dx fs)) (cl : Cls K C) (ha : PySem.W.findIn K (.ref C) "__class__" = some (some (.builtin "object.__class__")))
      (hn : PySem.W.specialIn K (.builtin "object.__class__") "__get__" = some (some (.builtin "getset_descriptor.__get__"))) (htk : PySem.W.takesIn K (.builtin "object.__class__") = some true)
      (hm : PySem.W.mroIn K C (.type "object") = some true) : TyOf K H (.ref a) (.ref C)
/-- isinstance(x, c) for one class c, a built-in or an own one: kitOne's answer -/
theorem isinst_ok {x : V} {u t : Value} (I : Inv X pins σ H s) (rx : RelV x u) (ty : TyOf X.K H x t) (e : PySem.W.kitOne X.K t c = some b) (h : ∀ tk, Q (.bool b) { s with toks := tk }) :
    wpAny (model X.prog X.w) A (call (.builtin "isinstance") [u, c]) Q E s := by
  cases ty with
  | non => cases (show u = Value.none from rx); exact PySem.W.kia_one PySem.W.kitx_none I.kIn True.intro e (fun z => nomatch z) h
  | bl y => cases (show u = Value.bool y from rx); exact PySem.W.kia_one PySem.W.kitx_bool I.kIn True.intro e (fun z => nomatch z) h
  | int i => obtain ⟨t, q⟩ := (show ∃ t, u = Value.int i t from rx); cases q; exact PySem.W.kia_one PySem.W.kitx_int I.kIn True.intro e (fun z => nomatch z) h
  | str y => obtain ⟨t, q⟩ := (show ∃ t, u = Value.str y t from rx); cases q; exact PySem.W.kia_one PySem.W.kitx_str I.kIn True.intro e (fun z => nomatch z) h
  | flt y => obtain ⟨t, q⟩ := (show ∃ t, u = Value.float y t from rx); cases q; exact PySem.W.kia_one PySem.W.kitx_float I.kIn True.intro e (fun z => nomatch z) h
  | @lst a xs ea =>
    cases (show u = Value.ref a from rx)
    obtain ⟨_, _, n, _, h1⟩ := (show ObjOk X.prog X.w H s.heap a (.lst xs) from I.hok a _ ea)
    exact PySem.W.kia_one PySem.W.kitx_list I.kIn ⟨_, h1, rfl⟩ e (fun z => nomatch z) h
  | @frz a ob xs ea =>
    cases (show u = Value.ref a from rx)
    obtain ⟨_, _, _, n, _, h1⟩ := (show ObjOk X.prog X.w H s.heap a (.frz ob (.lst xs)) from I.hok a _ ea)
    exact PySem.W.kia_one PySem.W.kitx_list I.kIn ⟨_, h1, rfl⟩ e (fun z => nomatch z) h
  | @tup a xs ea =>
    cases (show u = Value.ref a from rx)
    obtain ⟨_, _, _, p⟩ := (show ObjOk X.prog X.w H s.heap a (.tup xs) from I.hok a _ ea)
    obtain ⟨o, h1, h2, _⟩ := p.1
    exact PySem.W.kia_one PySem.W.kitx_tuple I.kIn ⟨o, h1, h2⟩ e (fun z => nomatch z) h
  | @dK a kvs ea =>
    cases (show u = Value.ref a from rx)
    obtain ⟨_, _, vs, _, p⟩ := (show ObjOk X.prog X.w H s.heap a (.dK kvs) from I.hok a _ ea)
    obtain ⟨o, es, ep, h1, h2, _⟩ := p
    exact PySem.W.kia_one PySem.W.kitx_dict I.kIn ⟨o, h1, h2.1⟩ e (fun z => nomatch z) h
  | @dT a kvs ea =>
    cases (show u = Value.ref a from rx)
    obtain ⟨_, _, xs, _, o, es, ep, h1, h2, _⟩ := (show ObjOk X.prog X.w H s.heap a (.dT kvs) from I.hok a _ ea)
    exact PySem.W.kia_one PySem.W.kitx_dict I.kIn ⟨o, h1, h2.1⟩ e (fun z => nomatch z) h
  | @ins a C dx fs ea cl ha hn htk hm =>
    cases (show u = Value.ref a from rx)
    obtain ⟨mA, O, _⟩ := ins_get I.hok ea
    obtain ⟨od, J, _⟩ := O.look
    exact PySem.W.kia_one (PySem.W.kitx_own (cl.get _) cl.hd ha hn htk hm) I.kIn J e (fun z => nomatch z) h
end
end L2

namespace L2
open PySem PySem.Spec PyProof.Rows

structure Room (k : Nat) (A : Around) : Prop where
  hd : A.handled = none
  dp : A.depth + 3 * k + 5 < recursionLimit
  un : A.units + 16 * k + 200 < cLine
theorem Room.mono {j k : Nat} {A : Around} (r : Room k A) (h : j ≤ k) : Room j A := ⟨r.hd, by have := r.dp; omega, by have := r.un; omega⟩
theorem Room.deeper {k : Nat} {A : Around} (r : Room (k + 1) A) (env : Env) : Room k (A.deeper env) :=
  ⟨r.hd, by have := r.dp; show A.depth + 1 + 3 * k + 5 < _; omega, by have := r.un; show A.units + 3 + 16 * k + 200 < _; omega⟩
theorem Room.in1 {k : Nat} {A : Around} (r : Room (k + 1) A) : Room k A.in1 :=
  ⟨r.hd, by have := r.dp; show A.depth + 3 * k + 5 < _; omega, by have := r.un; show A.units + 1 + 16 * k + 200 < _; omega⟩
theorem make_depth {A : Around} {C : Addr} {us : List Value} {kw : List (Str × Value)} : (A.under (.builtin "type.__call__" ⟨.ref C :: us, kw⟩)).depth = A.depth + 1 := by
  first | rfl | simp [Around.under, Code.weight, Code.isCreation, Code.isGuard, Code.isCaller, Code.frames, Code.isFrame, guardIds]
theorem make_units {A : Around} {C : Addr} {us : List Value} {kw : List (Str × Value)} : (A.under (.builtin "type.__call__" ⟨.ref C :: us, kw⟩)).units = A.units + 1 := by
  first | rfl | simp [Around.under, Code.cUnits, Code.frames, Code.isFrame]
theorem Room.make {k : Nat} {A : Around} (r : Room (k + 1) A) (C : Addr) (us : List Value) (kw : List (Str × Value)) : Room k (A.under (.builtin "type.__call__" ⟨.ref C :: us, kw⟩)) :=
  ⟨r.hd, by have := r.dp; rw [make_depth]; omega, by have := r.un; rw [make_units]; omega⟩
theorem Room.depth {k : Nat} {A : Around} (r : Room k A) : A.depth < recursionLimit := by have := r.dp; omega
theorem Room.units {k : Nat} {A : Around} (r : Room k A) : A.units + 64 < cLine := by have := r.un; omega
def tNil : TA := fun _ H Q => Q [] H
def tCons (ta : TE) (tr : TA) : TA := fun σ H Q => ta σ H fun x H1 => tr σ H1 fun xs H2 => Q (x :: xs) H2
section
variable {X : Cx} {e : Expr} {es : List Expr} {te : TE} {t : TA} {pos : Pos}
theorem pa_nil : PA X [] tNil := fun _ _ _ _ H Q I h => Calls.spliced_nil ⟨[], H, I, .nil, h⟩
theorem pa_cons (ha : PE X e te) (hr : PA X es t) (hs : starEach (e :: es) X.env = (false, eval e X.env) :: starEach es X.env := by rfl) : PA X (e :: es) (tCons te t) := by
  intro pos pins s σ H Q I h
  rw [hs]
  show wpAny _ _ (spliced ((false, eval e X.env) :: backTo pos (starEach es X.env))) _ _ s
  refine Calls.spliced_cons (thn (ha pins s σ H _ I h) fun u s1 ⟨x, H1, I1, r1, q1⟩ => ?_)
  exact thn (hr pos pins s1 σ H1 _ I1 q1) fun us s2 ⟨xs, H2, I2, r2, q2⟩ => ⟨x :: xs, H2, I2, .cons r1 r2, q2⟩

/-- a tuple, a list of written items -/
def tTup (t : TA) : TE := fun σ H Q => t σ H fun xs H1 => xs.length ≤ sizeLine ∧ ∀ p, H1 p = none → Q (.ref p) (upd H1 p (.tup xs))
def tLst (t : TA) : TE := fun σ H Q => t σ H fun xs H1 => xs.length ≤ sizeLine ∧ ∀ p, H1 p = none → Q (.ref p) (upd H1 p (.lst xs))
theorem pe_tup {x1} (h : PA X es t) : PE X (.Tuple es x1 pos) (tTup t) := by
  intro pins s σ H Q I hq
  refine wpAny_Tuple_spliced (thn (h pos pins s σ H _ I hq) fun us s1 ⟨xs, H1, I1, r, z, q⟩ => ⟨by rw [← r.length]; exact z, ?_⟩)
  have hf : H1 s1.heap.objs.size = none := I1.hok.fresh (Nat.le_refl _)
  refine ⟨.ref s1.heap.objs.size, upd H1 s1.heap.objs.size (.tup xs), I1.laid (t' := s1.toks) (fun b u e => Heap.get?_push_of_some _ e) (Nat.le_refl _) ?_, rfl, q _ hf⟩
  exact ⟨z, us, r, ⟨_, Heap.get?_push_size _ rfl, rfl, _, rfl⟩, _, Heap.get?_push_size _ rfl, rfl⟩
theorem pe_lst (h : PA X es t) : PE X (.List es pos) (tLst t) := by
  intro pins s σ H Q I hq
  refine wpAny_List_spliced (thn (h pos pins s σ H _ I hq) fun us s1 ⟨xs, H1, I1, r, z, q⟩ => ⟨by rw [← r.length]; exact z, ?_⟩)
  have hf : H1 s1.heap.objs.size = none := I1.hok.fresh (Nat.le_refl _)
  refine ⟨.ref s1.heap.objs.size, upd H1 s1.heap.objs.size (.lst xs), I1.laid (t' := s1.toks) (fun b u e => Heap.get?_push_of_some _ e) (Nat.le_refl _) ?_, rfl, q _ hf⟩
  exact ⟨z, us, 0, r, Heap.get?_push_size _ rfl⟩
end

/-- a def's promise: the bound arguments in the parameters' order, the heap, the wanted end, the wanted exception -/
abbrev Sp := List V → Hp → VK → XK → Prop
/-- how an exception lies behind a call (file 08 gives it): the callers' frames, abstract heap and state ahead of the call, the wish, the exception, the state -/
abbrev CXT := List Env → Hp → Shared → XK → Value → Shared → Prop

/-- the state at a call -/
structure Env0 (P : Program) (w : World) (K : PySem.W.Frag) (mg : Str → Option Value) (base : Heap) (A : Around) (outer : List Env) (s : Shared) (H : Hp) : Prop where
  frames : A.frames = some outer
  mod : Mod K mg base
  bs : ∀ b o, base.get? b = some o → s.heap.get? b = some o ∧ H b = none
  bsz : base.objs.size ≤ s.heap.objs.size
  funs : s.heap.FunFrames base outer
  frf : ∀ b ∈ frs outer, H b = none
  hok : HOk P w H s.heap
  bare : AllBare s.gens
/-- a call's end -/
def CE (outer : List Env) (P : Program) (w : World) (H : Hp) (s : Shared) (Q : VK) (u : Value) (s' : Shared) : Prop :=
  ∃ v H', s'.os = s.os ∧ AllBare s'.gens ∧ Un (frs outer) [] H H' s.heap s'.heap ∧ HOk P w H' s'.heap ∧ RelV v u ∧ Q v H'
def CR (CX : CXT) (outer : List Env) (P : Program) (w : World) (H : Hp) (s : Shared) (Q : VK) (E : XK) (r : Result) (s' : Shared) : Prop :=
  match r with
  | .ok (.ret u) => CE outer P w H s Q u s'
  | .ok _ => False
  | .error e => CX outer H s E e s'
structure FnOk (P : Program) (w : World) (K : PySem.W.Frag) (mg : Str → Option Value) (base : Heap) (CX : CXT) (k : Nat) (f : Addr) (fd : FuncData) (ps : List Str) (sp : Sp) : Prop where
  len : ∀ vs H Q E, sp vs H Q E → vs.length = ps.length
  run : ∀ (A : Around) (outer : List Env) (s : Shared) (H : Hp) (args : Args) (us : List Value) (vs : List V) (Q : VK) (E : XK), Room k A → Env0 P w K mg base A outer s H → BindsTo s fd args (ps.zip us) → Vals vs us → sp vs H Q E →
    codeAny (model P w) A (.call (.ref f) args) (CR CX outer P w H s Q E) s
theorem FnOk.mono {P : Program} {w : World} {K : PySem.W.Frag} {mg : Str → Option Value} {base : Heap} {CX : CXT} {j k : Nat} {f : Addr} {fd : FuncData} {ps : List Str} {sp : Sp} (F : FnOk P w K mg base CX j f fd ps sp) (h : j ≤ k) :
    FnOk P w K mg base CX k f fd ps sp := ⟨F.len, fun A outer s H args us vs Q E hr => F.run A outer s H args us vs Q E (hr.mono h)⟩
/-- a weaker promise -/
theorem FnOk.imp {P : Program} {w : World} {K : PySem.W.Frag} {mg : Str → Option Value} {base : Heap} {CX : CXT} {k : Nat} {f : Addr} {fd : FuncData} {ps : List Str} {sp sp' : Sp} (F : FnOk P w K mg base CX k f fd ps sp)
    (h : ∀ vs H Q E, sp' vs H Q E → sp vs H Q E) : FnOk P w K mg base CX k f fd ps sp' :=
  ⟨fun vs H Q E q => F.len vs H Q E (h _ _ _ _ q), fun A outer s H args us vs Q E hr he hb hv hs => F.run A outer s H args us vs Q E hr he hb hv (h _ _ _ _ hs)⟩

theorem Env0.make {P : Program} {w : World} {K : PySem.W.Frag} {mg : Str → Option Value} {base : Heap} {A : Around} {outer : List Env} {s : Shared} {H : Hp} (e : Env0 P w K mg base A outer s H) (C : Addr) (us : List Value) (kw : List (Str × Value)) :
    Env0 P w K mg base (A.under (.builtin "type.__call__" ⟨.ref C :: us, kw⟩)) outer s H := ⟨by first | exact e.frames | (simpa [Around.under, Code.envs, Code.isFrame, pushEnvs] using e.frames), e.mod, e.bs, e.bsz, e.funs, e.frf, e.hok, e.bare⟩
theorem Env0.in1 {P : Program} {w : World} {K : PySem.W.Frag} {mg : Str → Option Value} {base : Heap} {A : Around} {outer : List Env} {s : Shared} {H : Hp} (e : Env0 P w K mg base A outer s H) :
    Env0 P w K mg base A.in1 outer s H := ⟨e.frames, e.mod, e.bs, e.bsz, e.funs, e.frf, e.hok, e.bare⟩

section
variable {X : Cx} {pins : List (Addr × Obj)} {σ : St} {H : Hp} {s s' : Shared}
/-- from a body: what a callee wants -/
theorem Inv.env0 (I : Inv X pins σ H s) : Env0 X.prog X.w X.K X.mg X.base X.A X.stack s H :=
  ⟨I.ok.frames, I.ok.mod, I.bs, Nat.le_trans I.ok.bsz I.sz, I.stack, I.stkFree, I.hok, I.bare⟩
/-- behind a call -/
theorem Inv.after {Q : VK} {u : Value} (I : Inv X pins σ H s) (h : CE X.stack X.prog X.w H s Q u s') : EP X pins σ Q u s' := by
  obtain ⟨v, H', os, bare, un, hok, r, q⟩ := h
  obtain ⟨hh, g, d, t, os'⟩ := s'
  obtain rfl : os' = s.os := os
  exact ⟨v, H', I.call (h' := hh) (g' := g) (d' := d) (t' := t) (ch := []) un hok bare (fun b z => absurd z (by simp)), r, q⟩
end

/-- f(..): the written arguments, then the defaults dvs; E: what is wanted of an exception -/
def tCall (sp : Sp) (dvs : List V) (E : XK) (t : TA) : TE := fun σ H Q => t σ H fun vs H1 => sp (vs ++ dvs) H1 Q E
/-- how the parameters are bound: us the positional arguments, kw the keywords' values by name, ds the defaults that fill up -/
def Binds (K : PySem.W.Frag) (fd : FuncData) (ps : List Str) (ds : List Value) : Prop :=
  ∀ (s : Shared) (us : List Value), K.In s.heap → (us ++ ds).length = ps.length → BindsTo s fd ⟨us, []⟩ (ps.zip (us ++ ds))
/-- every parameter is given -/
theorem Binds.all {K : PySem.W.Frag} {fd : FuncData} {ps : List Str} (h : ∀ us : List Value, us.length = ps.length → bindArgs fd ⟨us, []⟩ = pure (ps.zip us)) : Binds K fd ps [] := fun s us _ hl => by
  rw [List.append_nil] at hl ⊢
  exact .of_eq (h us hl)

/-- an exception of a callee reaches what this body wants of exceptions -/
def Passes (CX : CXT) (X : Cx) (E : XK) : Prop := ∀ (pins : List (Addr × Obj)) (σ : St) (H : Hp) (s : Shared) (e : Value) (s' : Shared), Inv X pins σ H s → CX X.stack H s E e s' → X.xe e s'

section
variable {X : Cx} {CX : CXT} {k : Nat} {f C : Addr} {fd : FuncData} {ps : List Str} {sp : Sp} {dvs : List V} {ds : List Value} {E : XK} {x m : Str} {p pos apos : Pos} {e o : Expr} {es : List Expr} {ta : TE} {t : TA}

/-- the callee runs -/
theorem run_fn {pins : List (Addr × Obj)} {σ : St} {H : Hp} {s : Shared} {Q : VK} {us : List Value} {vs : List V} (F : FnOk X.prog X.w X.K X.mg X.base CX k f fd ps sp) (hr : Room k X.A) (hb : Binds X.K fd ps ds) (hd : Vals dvs ds) (hx : Passes CX X E)
    (I : Inv X pins σ H s) (r : Vals vs us) (h : sp (vs ++ dvs) H Q E) : wpAny (model X.prog X.w) X.A (call (.ref f) us) (EP X pins σ Q) X.xe s := by
  have r2 : Vals (vs ++ dvs) (us ++ ds) := r.append hd
  have hl : (us ++ ds).length = ps.length := by rw [← r2.length]; exact F.len _ _ _ _ h
  refine wpAny_call (codeAny_mono (F.run X.A X.stack s H ⟨us, []⟩ (us ++ ds) (vs ++ dvs) Q E hr I.env0 (hb s us I.kIn hl) r2 h) fun r s' hq => ?_)
  cases r with
  | error e => exact hx pins σ H s e s' I hq
  | ok fl =>
    cases fl with
    | ret u => exact I.after hq
    | next => exact False.elim hq
    | brk => exact False.elim hq
    | cont => exact False.elim hq

theorem pe_call (F : FnOk X.prog X.w X.K X.mg X.base CX k f fd ps sp) (hr : Room k X.A) (hg : Gl X x) (hm : X.mg x = some (.ref f)) (hk : PySem.W.keepIn X.K (.ref f) = true) (hb : Binds X.K fd ps ds) (hd : Vals dvs ds) (hx : Passes CX X E)
    (ha : PA X (e :: es) t) (hdb : (x == ("__debug__" : Str)) = false := by decide) (he : starEach (e :: es) X.env = (false, eval e X.env) :: starEach es X.env := by rfl) (hpl : (backTo pos (starEach es X.env)).any (·.1) = false := by rfl) :
    PE X (.Call (.Name x p) (e :: es) [] pos) (tCall sp dvs E t) := by
  intro pins s σ H Q I h
  refine wpAny_Call_Name_kw (ld_glob I hg hm ?_ hdb)
  refine PySem.W.callWith_K (h₀ := X.base) I.ok.mod.kin hk (thn (ha pos pins s σ H _ I h) fun us s1 ⟨vs, H1, I1, r, q⟩ => ⟨I1.kIn, ?_⟩) he hpl
  exact run_fn F hr hb hd hx I1 r q
theorem pe_call0 (F : FnOk X.prog X.w X.K X.mg X.base CX k f fd ps sp) (hr : Room k X.A) (hg : Gl X x) (hm : X.mg x = some (.ref f)) (hk : PySem.W.keepIn X.K (.ref f) = true) (hb : Binds X.K fd ps ds) (hd : Vals dvs ds) (hx : Passes CX X E)
    (hdb : (x == ("__debug__" : Str)) = false := by decide) : PE X (.Call (.Name x p) [] [] pos) (tCall sp dvs E tNil) := by
  intro pins s σ H Q I h
  refine wpAny_Call_Name_kw (ld_glob I hg hm ?_ hdb)
  exact PySem.W.callWith_K0 I.kIn hk (run_fn (us := []) F hr hb hd hx I .nil h)

end

section
variable {X : Cx} {CX : CXT} {k : Nat} {f C : Addr} {fd : FuncData} {ps ks : List Str} {sp : Sp} {E : XK} {x m : Str} {p pos apos kpos : Pos} {e o : Expr} {es : List Expr} {kws : List Keyword} {te ta : TE} {t tk : TA} {nm : Option Str}
variable {g : List Value → List Value → List Value} {gV : List V → List V → List V}
end

/-- names: the parameters first -/
structure FnScope (N P : List Str) (sc : Scope) : Prop where
  kind : sc.kind = .function
  co : sc.isCoroutine = false
  gen : sc.isGenerator = false
  nd : N.Nodup
  pre : N.take P.length = P
  par : ∀ x ∈ P, sc.names.lookup x = some .local ∨ sc.names.lookup x = some .cell
  nofree : ∀ y ∈ sc.names, y.2 ≠ .free

theorem bindL_out {kindOf : Str → Option NameKind} {x : Str} : ∀ {binds : List (Str × Value)} {m : Str → Option Value}, (∀ v, (x, v) ∉ binds) → bindL kindOf binds m x = m x
  | [], _, _ => rfl
  | (n, v) :: r, m, h => by
    unfold bindL
    rw [bindL_out fun w hw => h w (List.mem_cons_of_mem _ hw)]
    split
    · have : x ≠ n := by rintro rfl; exact h v List.mem_cons_self
      simp [this]
    · rfl
theorem bindC_out {kindOf : Str → Option NameKind} {x : Str} : ∀ {binds : List (Str × Value)} {m : Str → Option Value}, (∀ v, (x, v) ∉ binds) → bindC kindOf binds m x = m x
  | [], _, _ => rfl
  | (n, v) :: r, m, h => by
    unfold bindC
    rw [bindC_out fun w hw => h w (List.mem_cons_of_mem _ hw)]
    split
    · rfl
    · have : x ≠ n := by rintro rfl; exact h v List.mem_cons_self
      simp [this]
theorem bindL_get {kindOf : Str → Option NameKind} {x : Str} {v : Value} : ∀ {P : List Str} {vs : List Value} {i : Nat} {m : Str → Option Value}, P.Nodup → P[i]? = some x → vs[i]? = some v → kindOf x = some .local →
    bindL kindOf (P.zip vs) m x = some v
  | [], _, _, _, _, h, _, _ => by simp at h
  | _ :: _, [], _, _, _, _, h, _ => by simp at h
  | p :: P, w :: vs, 0, m, nd, h1, h2, hk => by
    simp at h1 h2; subst h1; subst h2
    show bindL kindOf ((p, w) :: P.zip vs) m p = _
    unfold bindL
    rw [bindL_out fun v hv => (List.nodup_cons.mp nd).1 (List.of_mem_zip hv).1, if_pos hk]
    simp
  | p :: P, w :: vs, i + 1, m, nd, h1, h2, hk => by
    show bindL kindOf ((p, w) :: P.zip vs) m x = _
    unfold bindL
    exact bindL_get (i := i) (List.nodup_cons.mp nd).2 (by simpa using h1) (by simpa using h2) hk
theorem bindC_get {kindOf : Str → Option NameKind} {x : Str} {v : Value} : ∀ {P : List Str} {vs : List Value} {i : Nat} {m : Str → Option Value}, P.Nodup → P[i]? = some x → vs[i]? = some v → kindOf x ≠ some .local →
    bindC kindOf (P.zip vs) m x = some v
  | [], _, _, _, _, h, _, _ => by simp at h
  | _ :: _, [], _, _, _, _, h, _ => by simp at h
  | p :: P, w :: vs, 0, m, nd, h1, h2, hk => by
    simp at h1 h2; subst h1; subst h2
    show bindC kindOf ((p, w) :: P.zip vs) m p = _
    unfold bindC
    rw [bindC_out fun v hv => (List.nodup_cons.mp nd).1 (List.of_mem_zip hv).1, if_neg hk]
    simp
  | p :: P, w :: vs, i + 1, m, nd, h1, h2, hk => by
    show bindC kindOf ((p, w) :: P.zip vs) m x = _
    unfold bindC
    exact bindC_get (i := i) (List.nodup_cons.mp nd).2 (by simpa using h1) (by simpa using h2) hk

/-- the names' values at the entry -/
def start (N : List Str) (vs : List V) : St := vs.map some ++ List.replicate (N.length - vs.length) none

/-- the context of a def's body, at its entry; an exception leaves the frame, then lies as CX says -/
def cxOf (CX : CXT) (P : Program) (w : World) (K : PySem.W.Frag) (mg : Str → Option Value) (base : Heap) (N : List Str) (qual : Str) (scope : Scope) (f : Addr) (cd : Value) (A : Around) (outer : List Env) (s : Shared) (H : Hp) (E : XK) : Cx where
  prog := P
  w := w
  K := K
  mg := mg
  base := base
  A := A.deeper (envOfC qual scope s.heap.objs.size f cd)
  N := N
  s₀ := s
  H₀ := H
  env := envOfC qual scope s.heap.objs.size f cd
  outer := outer
  stack := envOfC qual scope s.heap.objs.size f cd :: outer
  ex := []
  calm := true
  fn := fun _ => true
  pn := []
  xe := fun e s' => wpAny (model P w) (A.deeper (envOfC qual scope s.heap.objs.size f cd)) (leaving (envOfC qual scope s.heap.objs.size f cd) e) (fun _ s'' => CX outer H s E e s'') (fun e' s'' => CX outer H s E e' s'') s'

theorem cell_has {sc : Scope} {n : Nat} {x : Str} (h : sc.names.lookup x = some .cell) : ∃ c, (cellsFrom n sc.names []).lookup x = some c := by
  have q := PySem.W.cellsFrom_some sc.names n [] (.inl h)
  exact Option.isSome_iff_exists.mp q

theorem inv_start {CX : CXT} {P : Program} {w : World} {K : PySem.W.Frag} {mg : Str → Option Value} {base : Heap} {N ps : List Str} {qual : Str} {scope : Scope} {f : Addr} {cd : Value} {A : Around} {outer : List Env} {s s1 : Shared} {H : Hp} {E : XK} {us : List Value} {vs : List V}
    (S : FnScope N ps scope) (hd : A.handled = none) (e0 : Env0 P w K mg base A outer s H) (hl : vs.length = ps.length) (r : Vals vs us)
    (x : InCallC s s.heap.objs.size (bindL (envOfC qual scope s.heap.objs.size f cd).kindOf (ps.zip us) fun _ => none) (cellsFrom (s.heap.objs.size + 1) scope.names []) (bindC (envOfC qual scope s.heap.objs.size f cd).kindOf (ps.zip us) fun _ => none) s1) :
    Inv (cxOf CX P w K mg base N qual scope f cd A outer s H E) [] (start N vs) H s1 := by
  have hpl : ps.length ≤ N.length := by have := congrArg List.length S.pre; rw [List.length_take] at this; omega
  obtain ⟨h1, tk, rfl, hk⟩ := x.done
  have noA : ∀ b : Addr, b ∉ (cxOf CX P w K mg base N qual scope f cd A outer s H E).ex := fun b z => absurd (show b ∈ ([] : List Addr) from z) (by simp)
  refine ⟨⟨e0.mod, S.kind, rfl, rfl, Nat.le_refl _, fun y z c h1 h2 => ?_, fun y hy => ?_, fun y c _ h => ?_, fun _ => hd, Around.frames_deeper e0.frames, .inr ⟨rfl, rfl⟩, fun b z => absurd z (noA b), e0.bs, e0.bsz, fun b _ _ => noA b, fun b z => absurd z (noA b), e0.funs, e0.frf⟩,
    rfl, e0.bare, Un.kept hk, ⟨_, x.toInCall.ns, fun i y v h1 h2 h3 => ?_⟩, fun y c h => ⟨_, x.cell y c h⟩, e0.hok.fresh (Nat.le_refl _), fun y c h => ?_, fun p hp => absurd (show p ∈ ([] : List (Addr × Obj)) from hp) (by simp), e0.hok.kept hk, ?_⟩
  · exact name_of_addr x.apart (PySem.mem_of_lookup h1) (PySem.mem_of_lookup h2)
  · have hy : scope.names.lookup y = some .cell ∨ scope.names.lookup y = some .free := hy
    rcases hy with hy | hy
    · exact cell_has hy
    · exact absurd rfl (S.nofree _ (PySem.mem_of_lookup hy))
  · exact Nat.le_of_lt (x.above y c (PySem.mem_of_lookup h))
  · have hi : i < vs.length := by
      unfold start at h2
      by_cases hi : i < vs.length
      · exact hi
      · rw [List.getElem?_append_right (by simpa using hi)] at h2
        rw [List.getElem?_replicate] at h2
        split at h2 <;> cases h2
    have ha : vs[i]? = some v := by
      unfold start at h2
      rw [List.getElem?_append_left (by simpa using hi), List.getElem?_map] at h2
      cases e : vs[i]? with
      | none => rw [e] at h2; cases h2
      | some a => rw [e] at h2; cases h2; rfl
    obtain ⟨u, hu, rv⟩ := r.get ha
    have hp : ps[i]? = some y := by
      rw [← S.pre, List.getElem?_take_of_lt (by omega)]; exact h1
    have ndP : ps.Nodup := by rw [← S.pre]; exact S.nd.sublist (List.take_sublist _ _)
    refine ⟨u, rv, ?_⟩
    rcases S.par y (List.mem_of_getElem? hp) with k | k
    · exact .inl ⟨k, bindL_get ndP hp hu k⟩
    · obtain ⟨c, e⟩ := cell_has (n := s.heap.objs.size + 1) k
      refine .inr ⟨.inl k, c, e, ?_⟩
      have q := x.cell y c e
      rw [bindC_get ndP hp hu (by show scope.names.lookup y ≠ _; rw [k]; decide)] at q
      exact q
  · exact e0.hok.fresh (Nat.le_of_lt (x.above y c (PySem.mem_of_lookup h)))
  · unfold start
    show _ = N.length
    rw [List.length_append, List.length_map, List.length_replicate]
    omega

/-- THE RULE: a def (or a method) of the text, by its body. The body's reading t is chosen for each entry; it is run at the parameters' values -/
theorem fn_of {CX : CXT} {P : Program} {w : World} {K : PySem.W.Frag} {mg : Str → Option Value} {base : Heap} {k : Nat} {f : Addr} {name qual : Str} {params : Arguments} {body : List Stmt} {scope : Scope} {dV kV doc pm cdv ct oc : Value} {an od : Option Addr}
    {osl : Array (Option Value)} {N ps : List Str} {sp : Sp} (lk : K.lookup f = some ⟨oc, od, .func (PySem.W.fnOf name qual params body scope dV kV doc pm an cdv ct), osl⟩) (hcd : PySem.W.codeIn K cdv qual = true) (S : FnScope N ps scope)
    (len : ∀ vs H Q E, sp vs H Q E → vs.length = ps.length)
    (hbody : ∀ (A : Around) (outer : List Env) (s : Shared) (H : Hp) (vs : List V) (Q : VK) (E : XK), Room k (A.deeper (envOfC qual scope s.heap.objs.size f cdv)) → sp vs H Q E →
      ∃ t, PSs (cxOf CX P w K mg base N qual scope f cdv A outer s H E) body t ∧ t { nx := fun _ H' => Q .non H', rt := Q } (start N vs) H) :
    FnOk P w K mg base CX (k + 1) f (PySem.W.fnOf name qual params body scope dV kV doc pm an cdv ct) ps sp := by
  refine ⟨len, fun A outer s H args us vs Q E hr e0 hb r hsp => ?_⟩
  have hl := len _ _ _ _ hsp
  have KX : K.In s.heap := e0.mod.kin.keeps fun b o e => (e0.bs b o e).1
  have lim : s.heap.NoLimit := e0.mod.nolimit.keeps fun b o e => (e0.bs b o e).1
  have hkind : ∀ y ∈ ps.zip us, scope.names.lookup y.1 = some .local ∨ (scope.names.lookup y.1 = some .cell ∧ ((cellsFrom (s.heap.objs.size + 1) scope.names []).lookup y.1).isSome = true) := fun ⟨n, v⟩ hy => by
    rcases S.par n (List.of_mem_zip hy).1 with q | q
    · exact .inl q
    · exact .inr ⟨q, PySem.W.cellsFrom_some _ _ _ (.inl q)⟩
  refine codeAny_call_function hr.depth (KX _ _ lk) rfl S.co S.gen rfl (PySem.W.codeRec_of KX hcd) (hb _ _ _ _ ?_)
  refine wpAny_newFunctionEnv_cells S.kind hkind fun env he s1 x => ?_
  subst he
  refine ⟨lim.keeps x.toInCall.keep, codeAny_func ?_⟩
  obtain ⟨t, ht, hq⟩ := hbody A outer s H vs Q E (hr.deeper _) hsp
  have I : Inv (cxOf CX P w K mg base N qual scope f cdv A outer s H E) [] (start N vs) H s1 := inv_start S hr.hd e0 hl r x
  refine wpAny_mono (ht [] s1 (start N vs) H _ I hq) (fun fl s' hs => ?_) fun e s' hs => hs
  have fin : ∀ {σ' : St} {H' : Hp} {v : V} {u : Value}, Inv (cxOf CX P w K mg base N qual scope f cdv A outer s H E) [] σ' H' s' → RelV v u → Q v H' → CE outer P w H s Q u s' :=
    fun {σ' H' v u} J rv q => ⟨v, H', J.os, J.bare, J.base, J.hok, rv, q⟩
  cases fl with
  | ret u =>
    obtain ⟨v, σ', H', J, rv, q⟩ := hs
    exact fin J rv q
  | next =>
    obtain ⟨σ', H', J, q⟩ := hs
    exact fin (v := V.non) (u := Value.none) J rfl q
  | brk =>
    obtain ⟨_, _, _, q⟩ := hs
    exact False.elim q
  | cont =>
    obtain ⟨_, _, _, q⟩ := hs
    exact False.elim q
end L2

namespace L2
open PySem PySem.Spec PyProof.Rows
section
variable {X : Cx} {x : Str} {p pos : Pos} {e : Expr} {es : List Expr} {t : TA} {id T : String} {r : List V → Hp → VK → Prop}

def tCB (r : List V → Hp → VK → Prop) (t : TA) : TE := fun σ H Q => t σ H fun vs H1 => r vs H1 Q
/-- f(e, ..), f a built-in function -/
theorem pe_callB (hc : CallR X (.builtin id) r) (hg : Gl X x) (hm : X.mg x = none) (hv : bootBuiltins x = some (.builtin id)) (ha : PA X (e :: es) t) (hn : x ≠ "__name__" := by decide) (hdb : (x == ("__debug__" : Str)) = false := by decide)
    (he : starEach (e :: es) X.env = (false, eval e X.env) :: starEach es X.env := by rfl) (hpl : (backTo pos (starEach es X.env)).any (·.1) = false := by rfl) : PE X (.Call (.Name x p) (e :: es) [] pos) (tCB r t) := by
  intro pins s σ H Q I h
  refine wpAny_Call_Name_kw (ld_blt I hg hm hv ?_ hn hdb)
  exact PyProof.Rows.callWith_builtin1 (thn (ha pos pins s σ H _ I h) fun us s1 ⟨vs, H1, I1, r1, q1⟩ => hc pins s1 σ H1 vs us Q I1 r1 q1) he hpl
/-- T(e, ..), T a built-in type -/
theorem pe_callTy (hc : CallR X (.type T) r) (hg : Gl X x) (hm : X.mg x = none) (hv : bootBuiltins x = some (.type T)) (ha : PA X (e :: es) t) (hn : x ≠ "__name__" := by decide) (hdb : (x == ("__debug__" : Str)) = false := by decide)
    (he : starEach (e :: es) X.env = (false, eval e X.env) :: starEach es X.env := by rfl) (hpl : (backTo pos (starEach es X.env)).any (·.1) = false := by rfl) : PE X (.Call (.Name x p) (e :: es) [] pos) (tCB r t) := by
  intro pins s σ H Q I h
  refine wpAny_Call_Name_kw (ld_blt I hg hm hv ?_ hn hdb)
  exact PyProof.Rows.callWith_type1 (thn (ha pos pins s σ H _ I h) fun us s1 ⟨vs, H1, I1, r1, q1⟩ => hc pins s1 σ H1 vs us Q I1 r1 q1) he hpl
end
end L2

namespace HT
open PySem PyProof.Rows

section
open PySem.SeqAt
open PySem.AutoSeq1 (wpAny_loadPart')
open PySem.MeetsSeq PySem.MeetsSeq2 PySem.MeetsSeq3

end

section
variable {prog : Program} {w : World} {A : Around} {E : Value → Shared → Prop} {s : Shared}

/-- t + u, t not empty -/
theorem cat_tup {t b : Addr} {vs ws : List Value} {Q : Value → Shared → Prop} (ht : IsTup s.heap t vs.toArray) (hb : IsTup s.heap b ws.toArray) (hv : vs ≠ [])
    (h1 : ws = [] → Q (.ref t) s) (h2 : ws ≠ [] → Q (.ref s.heap.objs.size) { s with heap := s.heap.push { cls := .type "tuple", data := .seq (vs ++ ws).toArray } })
    (hsz : vs.length + ws.length ≤ sizeLine) : wpAny (model prog w) A (binaryOp .Add (.ref t) (.ref b)) Q E s := by
  obtain ⟨⟨cls, dd, data, sl⟩, ho, hc, n, hd⟩ := id ht
  obtain ⟨⟨cls2, dd2, data2, sl2⟩, ho2, hc2, n2, hd2⟩ := id hb
  simp only at hc hd hc2 hd2
  subst hc hd hc2 hd2
  have e : vs.toArray ++ ws.toArray = (vs ++ ws).toArray := by simp
  by_cases hw : ws = []
  · exact concat_meets ⟨_, ho, rfl⟩ ⟨_, ho2, rfl⟩ noFill_tuple_add seq_tuple_add PySem.F.slot_tuple_add PySem.F.entry_tuple_add (PySem.F.args_tuple_add_2 _ _)
      (tuple_addW1 t b vs.toArray ws.toArray n n2 dd dd2 sl sl2 (by simpa using hv) (by simp [hw])) ⟨ho, ho2, h1 hw⟩
  · refine concat_meets ⟨_, ho, rfl⟩ ⟨_, ho2, rfl⟩ noFill_tuple_add seq_tuple_add PySem.F.slot_tuple_add PySem.F.entry_tuple_add (PySem.F.args_tuple_add_2 _ _)
      (tuple_addW2 t b vs.toArray ws.toArray n n2 dd dd2 sl sl2 (by simpa using hv) (by simpa using hw) (by rw [List.size_toArray, List.size_toArray]; exact hsz)) ⟨ho, ho2, ?_⟩
    rw [e]
    exact h2 hw

/-- a slice's bound as a place among n (d where it is left out) -/
def sIx (n d : Nat) : Option Int → Nat
  | none => d
  | some v => if v < 0 then (v + (n : Int)).toNat else min v.toNat n
theorem sIx_none (n d : Nat) : sIx n d none = d := rfl
theorem sIx_nat (n d k : Nat) : sIx n d (some (k : Int)) = min k n := by
  show (if (k : Int) < 0 then ((k : Int) + (n : Int)).toNat else min (k : Int).toNat n) = min k n
  rw [if_neg (by omega), Int.toNat_natCast]
theorem sIx_le (n d : Nat) (hd : d ≤ n) (o : Option Int) : sIx n d o ≤ n := by
  cases o with
  | none => exact hd
  | some v =>
    show (if v < 0 then (v + (n : Int)).toNat else min v.toNat n) ≤ n
    by_cases hv : v < 0
    · rw [if_pos hv]; omega
    · rw [if_neg hv]; exact Nat.min_le_right _ _
theorem clip_eq (v : Int) (n d : Nat) : (if v < 0 then max (v + (n : Int)) 0 else min v (n : Int)) = ((sIx n d (some v) : Nat) : Int) := by
  show (if v < 0 then max (v + (n : Int)) 0 else min v (n : Int)) = (((if v < 0 then (v + (n : Int)).toNat else min v.toNat n) : Nat) : Int)
  by_cases hv : v < 0
  · simp only [if_pos hv]; omega
  · simp only [if_neg hv]; omega
theorem adjust_gen (lo hi : Option Int) (n : Nat) : Builtin.Slice.sliceAdjust lo hi 1 (n : Int) = (((sIx n 0 lo : Nat) : Int), ((sIx n n hi : Nat) : Int)) := by
  have h1 : ¬ ((1 : Int) < 0) := by omega
  unfold Builtin.Slice.sliceAdjust
  simp only [h1, if_false]
  refine Prod.ext ?_ ?_
  · cases lo with
    | none => rfl
    | some v => exact clip_eq v n 0
  · cases hi with
    | none => rfl
    | some v => exact clip_eq v n n
theorem places_gen (i j : Nat) : Builtin.Slice.slicePlaces (i : Int) (j : Int) 1 = j - i := by
  unfold Builtin.Slice.slicePlaces
  have h1 : (1 : Int) > 0 := by omega
  simp only [h1, if_true, Int.ediv_one]
  split <;> omega
theorem slicePart_ {v : Value} {o : Option Int} {Q : Option Int → Shared → Prop} (p : IsPart v o) (h : Q o s) : wpAny (model prog w) A (Builtin.Slice.slicePartIndex v) Q E s := by
  cases p with
  | none => exact slicePart_none h
  | int i t => exact slicePart_int h
theorem sliceApplied_gen {sl : Addr} {vl vu : Value} {lo hi : Option Int} {n : Nat} {Q : Int × Int × Nat → Shared → Prop} (hs : s.heap.IsSliceOf sl vl vu .none) (pl : IsPart vl lo) (pu : IsPart vu hi)
    (h : Q (((sIx n 0 lo : Nat) : Int), 1, sIx n n hi - sIx n 0 lo) s) : wpAny (model prog w) A (Builtin.Slice.sliceApplied (.ref sl) (pure (n : Int))) Q E s := by
  obtain ⟨os, hos, hcs, hds⟩ := id hs
  unfold Builtin.Slice.sliceApplied Builtin.Slice.sliceFields
  refine wpAny_bind (wpAny_bind (wpAny_field hos hds (x := vl) rfl (wpAny_bind (wpAny_field hos hds (x := vu) rfl (wpAny_bind (wpAny_field hos hds (x := .none) rfl (wpAny_pure ?_)))))))
  refine wpAny_bind (slicePart_none ?_)
  show wpAny _ _ (if ((1 : Int) == 0) = true then _ else _) _ _ s
  rw [if_neg (by decide)]
  refine wpAny_bind (slicePart_ pl (wpAny_bind (slicePart_ pu (wpAny_bind (wpAny_pure ?_)))))
  show wpAny _ _ (match Builtin.Slice.sliceAdjust lo hi 1 (n : Int) with | (lo, hi) => pure (lo, (1 : Int), Builtin.Slice.slicePlaces lo hi 1)) _ _ s
  rw [adjust_gen lo hi n]
  show wpAny _ _ (pure (((sIx n 0 lo : Nat) : Int), (1 : Int), Builtin.Slice.slicePlaces ((sIx n 0 lo : Nat) : Int) ((sIx n n hi : Nat) : Int) 1)) _ _ s
  rw [places_gen]
  exact wpAny_pure h
theorem pick_gen (xs : Array Value) (i k : Nat) : ((List.range k).filterMap fun (m : Nat) => xs[((i : Int) + (m : Int) * 1).toNat]?).toArray = ((xs.toList.drop i).take k).toArray := by
  have e : (fun (m : Nat) => xs[((i : Int) + (m : Int) * 1).toNat]?) = fun m => xs[i + m]? := by
    funext m
    have : ((i : Int) + (m : Int) * 1).toNat = i + m := by omega
    rw [this]
  rw [e]
  have := pick_run xs i k
  rw [List.filterMap_map] at this
  have e2 : ((fun x => xs[x]?) ∘ fun x => i + x) = fun m => xs[i + m]? := rfl
  rw [e2] at this
  rw [this]

theorem getItem_tuple_cut {t sl : Addr} {items : Array Value} {vl vu : Value} {lo hi : Option Int} {Q : Value → Shared → Prop} (ht : IsTup s.heap t items) (hs : s.heap.IsSliceOf sl vl vu .none) (pl : IsPart vl lo) (pu : IsPart vu hi)
    (hw : ¬ (sIx items.size 0 lo = 0 ∧ sIx items.size items.size hi = items.size))
    (h : Q (.ref s.heap.objs.size) { s with heap := s.heap.push { cls := .type "tuple", data := .seq ((items.toList.drop (sIx items.size 0 lo)).take (sIx items.size items.size hi - sIx items.size 0 lo)).toArray } })
    (hsz : items.size ≤ sizeLine) : wpAny (model prog w) A (getItem (.ref t) (.ref sl)) Q E s := by
  have htake : sizeOk (.seq ((items.toList.drop (sIx items.size 0 lo)).take (sIx items.size items.size hi - sIx items.size 0 lo)).toArray) := by
    show ((items.toList.drop (sIx items.size 0 lo)).take (sIx items.size items.size hi - sIx items.size 0 lo)).toArray.size ≤ sizeLine
    rw [List.size_toArray, List.length_take, List.length_drop, Array.length_toList]
    omega
  have hj : sIx items.size items.size hi ≤ items.size := sIx_le _ _ (Nat.le_refl _) hi
  obtain ⟨os, hos, hcs, hds⟩ := id hs
  have hTs : s.TypeIs (.ref sl) "slice" := ⟨os, hos, hcs⟩
  unfold getItem
  try with_reducible refine wpAny_holding ?_
  first | refine wpAny_bind (wpAny_pure ?_) | skip
  refine wpAny_bind (wpAny_sequenceKey ht.typeIs (by decide) ?_)
  refine wpAny_bind (wpAny_callSpecial?_slot (name := Str.ofString "__getitem__") ht.typeIs PyProof.Rows.slot_tuple_getitem
    (wpAny_call_entry PyProof.Rows.slot_tuple_getitem ht.typeIs entry_tuple_getitem ?_ (args_tuple_getitem _ _)))
  show wpAny _ _ (Builtin.Tuple.tupleItemsOf (.ref t) >>= _) _ _ s
  refine wpAny_bind (tupleItemsOf_ ht ?_)
  refine wpAny_bind (wpAny_typeOf hTs ?_)
  rw [if_pos (by decide)]
  refine wpAny_bind (sliceApplied_gen hs pl pu ?_)
  have hno : ¬ ((((sIx items.size 0 lo : Nat) : Int) == 0 && (1 : Int) == 1 && (sIx items.size items.size hi - sIx items.size 0 lo) == items.size) = true) := by
    intro q
    rw [Bool.and_eq_true, Bool.and_eq_true] at q
    have q1 : ((sIx items.size 0 lo : Nat) : Int) = 0 := eq_of_beq q.1.1
    have q2 : sIx items.size items.size hi - sIx items.size 0 lo = items.size := eq_of_beq q.2
    exact hw ⟨by omega, by omega⟩
  show wpAny _ _ (if (((sIx items.size 0 lo : Nat) : Int) == 0 && (1 : Int) == 1 && (sIx items.size items.size hi - sIx items.size 0 lo) == items.size) = true then _ else _) _ _ s
  rw [if_neg hno, pick_gen]
  first
    | exact wpAny_bind (m := Builtin.Tuple.tupleExact _) (wpAny_newObj_type (wpAny_pure ⟨_, rfl, wpAny_pure h⟩) htake)
    | exact wpAny_bind (m := Builtin.Tuple.tupleExact _) (wpAny_newObj_type (wpAny_bind (wpAny_pure (wpAny_pure ⟨_, rfl, wpAny_pure h⟩))) htake)
    | exact wpAny_bind (wpAny_bind (m := Builtin.Tuple.tupleExact _) (wpAny_newObj_type (wpAny_pure (wpAny_pure ⟨_, rfl, wpAny_pure h⟩)) htake))
    | exact wpAny_bind (wpAny_bind (m := Builtin.Tuple.tupleExact _) (wpAny_newObj_type (wpAny_pure ⟨_, rfl, wpAny_pure h⟩) htake))
end
end HT

namespace L2
open PySem PySem.Spec PyProof.Rows

abbrev TO := St → Hp → (Option Int → Hp → Prop) → Prop
/-- a slice's part (left out, or an int) -/
def PO (X : Cx) (e : Option Expr) (t : TO) : Prop :=
  ∀ (pins : List (Addr × Obj)) (s : Shared) (σ : St) (H : Hp) (Q : Option Int → Hp → Prop), Inv X pins σ H s → t σ H Q →
    wpAny (model X.prog X.w) X.A (evalPart e X.env) (fun u s' => ∃ o H', Inv X pins σ H' s' ∧ IsPart u o ∧ Q o H') X.xe s
def tNoPart : TO := fun _ H Q => Q none H
def tPart (t : TE) : TO := fun σ H Q => t σ H fun x H1 => ∃ i, x = .int i ∧ Q (some i) H1

section
variable {X : Cx} {e : Expr} {te : TE} {lo hi : Option Expr} {tl th : TO} {pos p2 : Pos}

theorem po_none : PO X none tNoPart := by
  intro pins s σ H Q I h
  rw [evalPart_none]
  exact wpAny_pure ⟨none, H, I, .none, h⟩
theorem po_some (h : PE X e te) : PO X (some e) (tPart te) := by
  intro pins s σ H Q I hw
  rw [evalPart_some]
  refine thn (h pins s σ H _ I hw) fun u s1 ⟨x, H1, I1, r1, q1⟩ => ?_
  obtain ⟨i, rfl, q⟩ := q1
  obtain ⟨t, rfl⟩ := r1
  exact ⟨some i, H1, I1, .int i t, q⟩

/-- what a slice of a value is, by values: the slice object stands at sl -/
def SlR (X : Cx) (r : V → Option Int → Option Int → Hp → VK → Prop) : Prop :=
  ∀ (pins : List (Addr × Obj)) (s : Shared) (σ : St) (H : Hp) (x : V) (v vl vu : Value) (lo hi : Option Int) (sl : Addr) (Q : VK), Inv X pins σ H s → RelV x v → s.heap.IsSliceOf sl vl vu .none → IsPart vl lo → IsPart vu hi → r x lo hi H Q →
    ∃ T id, typeLookup (.type T) "__getitem__" = pure (some (.builtin id)) ∧ s.TypeIs v T ∧ wpAny (model X.prog X.w) X.A (getItem v (.ref sl)) (EP X pins σ Q) X.xe s
theorem SlR.or {r r' : V → Option Int → Option Int → Hp → VK → Prop} (h : SlR X r) (h' : SlR X r') : SlR X (fun x lo hi H Q => r x lo hi H Q ∨ r' x lo hi H Q) := by
  intro pins s σ H x v vl vu lo hi sl Q I rx hs pl pu q
  rcases q with q | q
  · exact h pins s σ H x v vl vu lo hi sl Q I rx hs pl pu q
  · exact h' pins s σ H x v vl vu lo hi sl Q I rx hs pl pu q
def tSl (r : V → Option Int → Option Int → Hp → VK → Prop) (te : TE) (tl th : TO) : TE := fun σ H Q => te σ H fun x H1 => tl σ H1 fun l H2 => th σ H2 fun u H3 => r x l u H3 Q
/-- a[lo:hi], any a -/
theorem pe_slice {r : V → Option Int → Option Int → Hp → VK → Prop} (hr : SlR X r) (he : PE X e te) (hl : PO X lo tl) (hu : PO X hi th) : PE X (.Subscript e (.Slice lo hi none p2) pos) (tSl r te tl th) := by
  intro pins s σ H Q I h
  refine Subscript_ (thn (he pins s σ H _ I h) fun v s1 ⟨x, H1, I1, r1, q1⟩ => ?_)
  refine wpAny_Slice (thn (hl pins s1 σ H1 _ I1 q1) fun vl s2 ⟨l, H2, I2, pl, q2⟩ => thn (hu pins s2 σ H2 _ I2 q2) fun vu s3 ⟨u, H3, I3, pu, q3⟩ => ?_)
  rw [evalPart_none]
  refine wpAny_pure ?_
  have I4 : Inv X pins σ H3 { s3 with heap := s3.heap.push { cls := .type "slice", data := .fields #[vl, vu, .none] } } := I3.kept (t' := s3.toks) fun b ob q => Heap.get?_push_of_some _ q
  obtain ⟨T, id, hT, ht, hg⟩ := hr pins { s3 with heap := s3.heap.push { cls := .type "slice", data := .fields #[vl, vu, .none] } } σ H3 x v vl vu l u s3.heap.objs.size Q I4 r1 (Heap.IsSliceOf.new ..) pl pu q3
  show wpAny (model X.prog X.w) X.A (subscriptTail e (.Slice lo hi none p2) v (.ref s3.heap.objs.size)) (EP X pins σ Q) X.xe { s3 with heap := s3.heap.push { cls := .type "slice", data := .fields #[vl, vu, .none] } }
  exact tail_any (ops := [.ref s3.heap.objs.size, v]) ht hT hg (by with_unfolding_all rfl)

/-- the items of xs[lo:hi] -/
def cutV (xs : List V) (lo hi : Option Int) : List V := (xs.drop (HT.sIx xs.length 0 lo)).take (HT.sIx xs.length xs.length hi - HT.sIx xs.length 0 lo)
theorem cutV_length (xs : List V) (lo hi : Option Int) : (cutV xs lo hi).length ≤ xs.length := by
  unfold cutV
  rw [List.length_take, List.length_drop]
  omega
/-- t[lo:hi], not the whole of it (the whole would be t itself) -/
def rSlT (K : PySem.W.Frag) : V → Option Int → Option Int → Hp → VK → Prop := fun x lo hi H Q => ∃ a xs, x = .ref a ∧ SqT K H a xs ∧
  ¬ (HT.sIx xs.length 0 lo = 0 ∧ HT.sIx xs.length xs.length hi = xs.length) ∧ ∀ p, H p = none → Q (.ref p) (upd H p (.tup (cutV xs lo hi)))
theorem sl_tup : SlR X (rSlT X.K) := by
  intro pins s σ H x v vl vu lo hi sl Q I rx hs pl pu h
  obtain ⟨a, xs, rfl, hx, hw, q⟩ := h
  cases rx
  obtain ⟨its, r, ht, hz⟩ := I.tuple hx
  have hlen : its.toArray.size = xs.length := by rw [List.size_toArray]; exact r.length.symm
  refine ⟨"tuple", _, PyProof.Rows.slot_tuple_getitem.lookup, ht.typeIs, ?_⟩
  refine HT.getItem_tuple_cut ht hs pl pu (by rw [hlen]; exact hw) ?_ (by rw [hlen]; exact hz)
  rw [hlen]
  refine ⟨.ref s.heap.objs.size, _, I.laid (t' := s.toks) (o := .tup (cutV xs lo hi)) (fun b ob q => Heap.get?_push_of_some _ q) (Nat.le_refl _) ?_, rfl, q _ (I.hok.fresh (Nat.le_refl _))⟩
  exact ⟨Nat.le_trans (cutV_length xs lo hi) hz, _, (r.drop (HT.sIx xs.length 0 lo)).take (HT.sIx xs.length xs.length hi - HT.sIx xs.length 0 lo), IsTup.new _ _, _, Heap.get?_push_size _ rfl, rfl⟩

/-- t + u, t not empty: u empty gives t itself -/
def rCatT (K : PySem.W.Frag) : R2 := fun x y H Q => ∃ a b xs ys, x = .ref a ∧ y = .ref b ∧ SqT K H a xs ∧ SqT K H b ys ∧ xs ≠ [] ∧ xs.length + ys.length ≤ sizeLine ∧
  (ys = [] → Q (.ref a) H) ∧ (ys ≠ [] → ∀ p, H p = none → Q (.ref p) (upd H p (.tup (xs ++ ys))))
theorem Vals.nil_iff {xs : List V} {us : List Value} (r : Vals xs us) : us = [] ↔ xs = [] := by
  cases r with
  | nil => simp
  | cons _ _ => simp
theorem op_catT : OpR X (binaryOp .Add) (rCatT X.K) := by
  intro pins s σ H x y v u Q I rx ry h
  obtain ⟨a, b, xs, ys, rfl, rfl, ha, hb, hx, hz, q1, q2⟩ := h
  cases rx
  cases ry
  obtain ⟨its, r1, p1, _⟩ := I.tuple ha
  obtain ⟨its2, r2, p2, _⟩ := I.tuple hb
  refine HT.cat_tup p1 p2 (fun z => hx (r1.nil_iff.mp z)) (fun z => ⟨.ref a, H, I, rfl, q1 (r2.nil_iff.mp z)⟩) (fun z => ?_) (by rw [← r1.length, ← r2.length]; exact hz)
  refine ⟨.ref s.heap.objs.size, _, I.laid (t' := s.toks) (o := .tup (xs ++ ys)) (fun b ob q => Heap.get?_push_of_some _ q) (Nat.le_refl _) ?_, rfl, q2 (fun w => z (r2.nil_iff.mpr w)) _ (I.hok.fresh (Nat.le_refl _))⟩
  exact ⟨by rw [List.length_append]; exact hz, _, r1.append r2, IsTup.new _ _, _, Heap.get?_push_size _ rfl, rfl⟩
end
end L2

namespace L2
open PySem PySem.Spec PyProof.Rows

/-- the place that an index of any sign means -/
def ixN (n : Nat) (i : Int) : Option Nat := if 0 ≤ i then (if i < n then some i.toNat else none) else if -(n : Int) ≤ i then some (i + n).toNat else none
def atI {α : Type} (xs : List α) (i : Int) : Option α := (ixN xs.length i).bind fun j => xs[j]?
theorem ixN_seq {n : Nat} {i : Int} {j : Nat} (h : ixN n i = some j) : seqIndex? i n = some j ∧ j < n ∧ -(n : Int) ≤ i ∧ i < n := by
  unfold ixN at h
  by_cases h0 : 0 ≤ i
  · rw [if_pos h0] at h
    by_cases h1 : i < n
    · rw [if_pos h1] at h
      have e : i.toNat = j := Option.some.inj h
      exact ⟨by rw [seqIndex_of h0 h1, e], by omega, by omega, h1⟩
    · rw [if_neg h1] at h; cases h
  · rw [if_neg h0] at h
    by_cases h1 : -(n : Int) ≤ i
    · rw [if_pos h1] at h
      have e : (i + n).toNat = j := Option.some.inj h
      exact ⟨by rw [seqIndex_neg (by omega) h1, e], by omega, h1, by omega⟩
    · rw [if_neg h1] at h; cases h
theorem atI_get {α : Type} {xs : List α} {i : Int} {v : α} (h : atI xs i = some v) : ∃ j, seqIndex? i xs.length = some j ∧ xs[j]? = some v ∧ j < xs.length ∧ -(xs.length : Int) ≤ i ∧ i < xs.length := by
  unfold atI at h
  cases e : ixN xs.length i with
  | none => rw [e] at h; cases h
  | some j =>
    rw [e] at h
    obtain ⟨h1, h2, h3, h4⟩ := ixN_seq e
    exact ⟨j, h1, h, h2, h3, h4⟩
theorem atI_nat {α : Type} {xs : List α} {j : Nat} {v : α} (h : xs[j]? = some v) : atI xs (j : Int) = some v := by
  have hj : j < xs.length := (List.getElem?_eq_some_iff.mp h).1
  have e : ixN xs.length (j : Int) = some j := by
    unfold ixN
    rw [if_pos (by omega), if_pos (by omega)]; simp
  unfold atI; rw [e]; exact h
/-- what stands as an index of a plain subscript -/
def PlainIx (b : Expr) : Prop := ∀ o i, subscripted b false o i = operate [o, i] (getItem o i)
/-- a subscript by values -/
def IxR (X : Cx) (r : R2) : Prop :=
  ∀ (value slice : Expr) (pins : List (Addr × Obj)) (s : Shared) (σ : St) (H : Hp) (x y : V) (v u : Value) (Q : VK), Inv X pins σ H s → RelV x v → RelV y u → r x y H Q →
    subscripted slice false v u = operate [v, u] (getItem v u) → wpAny (model X.prog X.w) X.A (subscriptTail value slice v u) (EP X pins σ Q) X.xe s
/-- a call of a builtin's method by values: the receiver, the arguments -/
def MtR (X : Cx) (id : String) (r : V → List V → Hp → VK → Prop) : Prop :=
  ∀ (pins : List (Addr × Obj)) (s : Shared) (σ : St) (H : Hp) (x : V) (xs : List V) (v : Value) (us : List Value) (Q : VK), Inv X pins σ H s → RelV x v → Vals xs us → r x xs H Q →
    wpAny (model X.prog X.w) X.A (call (.builtin id) (v :: us)) (EP X pins σ Q) X.xe s
section
variable {X : Cx} {a b : Expr} {ta tb : TE} {pos : Pos}
theorem IxR.or {r r' : R2} (h : IxR X r) (h' : IxR X r') : IxR X (fun x y H Q => r x y H Q ∨ r' x y H Q) := by
  intro value slice pins s σ H x y v u Q I rx ry q hs
  rcases q with q | q
  · exact h value slice pins s σ H x y v u Q I rx ry q hs
  · exact h' value slice pins s σ H x y v u Q I rx ry q hs
theorem MtR.or {id : String} {r r' : V → List V → Hp → VK → Prop} (h : MtR X id r) (h' : MtR X id r') : MtR X id (fun x xs H Q => r x xs H Q ∨ r' x xs H Q) := by
  intro pins s σ H x xs v us Q I rx rs q
  rcases q with q | q
  · exact h pins s σ H x xs v us Q I rx rs q
  · exact h' pins s σ H x xs v us Q I rx rs q
/-- a[b] -/
theorem pe_ix {r : R2} (hr : IxR X r) (ha : PE X a ta) (hb : PE X b tb) (hs : PlainIx b) : PE X (.Subscript a b pos) (tOp r ta tb) := by
  intro pins s σ H Q I h
  exact Subscript_ (binT ha hb I h fun v u s2 x y H2 I2 rx ry q => hr a b pins s2 σ H2 x y v u Q I2 rx ry q (hs _ _))

def rIxL (K : PySem.W.Frag) : R2 := fun x y H Q => ∃ p xs i v, x = .ref p ∧ y = .int i ∧ SqL K H p xs ∧ atI xs i = some v ∧ Q v H
def rIxT (K : PySem.W.Frag) : R2 := fun x y H Q => ∃ p xs i v, x = .ref p ∧ y = .int i ∧ SqT K H p xs ∧ atI xs i = some v ∧ Q v H
def rIxS : R2 := fun x y H Q => ∃ z i c, x = .str z ∧ y = .int i ∧ z.length ≤ sizeLine ∧ atI z.cps.toList i = some c ∧ Q (.str ⟨#[c]⟩) H
theorem ix_list : IxR X (rIxL X.K) := by
  intro value slice pins s σ H x y v u Q I rx ry h hs
  obtain ⟨p, xs, i, z, rfl, rfl, hq, he, q⟩ := h
  cases rx
  obtain ⟨t, rfl⟩ := ry
  obtain ⟨its, r, pl, hz⟩ := I.list hq
  obtain ⟨j, h1, h2, h3, h4, h5⟩ := atI_get he
  obtain ⟨w, ew, rw'⟩ := r.get h2
  have hl := r.length
  have hn := line63
  have fin : EP X pins σ Q w s := ⟨z, H, I, rw', q⟩
  by_cases h0 : 0 ≤ i
  · have hj : i.toNat = j := by
      rw [seqIndex_of h0 h5] at h1
      exact Option.some.inj h1
    exact item_listR pl.isList h0 (by omega) (by rw [hj]; simpa using ew) fin hs
  · have hj : (i + (its.toArray.size : Int)).toNat = j := by
      rw [seqIndex_neg (by omega) h4] at h1
      rw [List.size_toArray, ← hl]
      exact Option.some.inj h1
    exact subscriptTail_builtinR (x := w) pl.isList.typeIs slot_list_getitem.lookup
      (wpAny_getItem_list_neg (Q := fun r s' => r = w ∧ EP X pins σ Q r s') pl.isList (by omega) (by rw [List.size_toArray] <;> omega) (by omega) (by rw [hj]; simpa using ew) ⟨rfl, fin⟩) hs
theorem ix_tup : IxR X (rIxT X.K) := by
  intro value slice pins s σ H x y v u Q I rx ry h hs
  obtain ⟨p, xs, i, z, rfl, rfl, hq, he, q⟩ := h
  cases rx
  obtain ⟨t, rfl⟩ := ry
  obtain ⟨its, r, pl, hz⟩ := I.tuple hq
  obtain ⟨j, h1, h2, h3, h4, h5⟩ := atI_get he
  obtain ⟨w, ew, rw'⟩ := r.get h2
  have hl := r.length
  have hn := line63
  have fin : EP X pins σ Q w s := ⟨z, H, I, rw', q⟩
  exact subscriptTail_builtinR (x := w) pl.typeIs slot_tuple_getitem.lookup
    (getItem_tuple (j := j) (Q := fun r s' => r = w ∧ EP X pins σ Q r s') pl (by omega) (by omega) (by rw [List.size_toArray, ← hl]; exact h1) (by simpa using ew) ⟨rfl, fin⟩) hs
theorem ix_str : IxR X rIxS := by
  intro value slice pins s σ H x y v u Q I rx ry h hs
  obtain ⟨z, i, c, rfl, rfl, hz, he, q⟩ := h
  obtain ⟨t, rfl⟩ := rx
  obtain ⟨t', rfl⟩ := ry
  obtain ⟨j, h1, h2, h3, h4, h5⟩ := atI_get he
  have hl : z.cps.toList.length = z.length := by simp [Str.length]
  rw [hl] at h1 h4 h5
  have hn := line63
  exact tail_any (typeIs_str s z t) slot_str_getitem.lookup (getItem_str (c := c) (by
    have e1 : decide (i < -(2 ^ 63 : Int)) = false := decide_eq_false (by omega)
    have e2 : decide (i ≥ 2 ^ 63) = false := decide_eq_false (by omega)
    rw [e1, e2, Bool.or_false]) (by rw [h1]; simpa using h2) ⟨.str ⟨#[c]⟩, H, I.tok _, ⟨_, rfl⟩, q⟩) hs
/-- list, tuple or str -/
def rIx (K : PySem.W.Frag) : R2 := fun x y H Q => rIxL K x y H Q ∨ rIxT K x y H Q ∨ rIxS x y H Q
theorem ix_seq : IxR X (rIx X.K) := ix_list.or (ix_tup.or ix_str)

/-- the list's object behind a store -/
theorem mapSeq_set (its : List Value) (n j : Nat) (u : Value) : Obj.mapSeq (·.setIfInBounds j u) { cls := .type "list", data := .seq its.toArray n } = { cls := .type "list", data := .seq (its.set j u).toArray n } := by
  simp [Obj.mapSeq]
theorem Inv.lst {pins : List (Addr × Obj)} {σ : St} {H : Hp} {s : Shared} {p : Addr} {xs : List V} (I : Inv X pins σ H s) (h : H p = some (.lst xs)) :
    ∃ (its : List Value) (n : Nat), Vals xs its ∧ s.heap.get? p = some { cls := .type "list", data := .seq its.toArray n } ∧ xs.length ≤ sizeLine := by
  obtain ⟨z, its, n, r, e⟩ := I.hok p _ h
  exact ⟨its, n, r, e, z⟩
/-- the list at p is written by an update of its object -/
theorem Inv.lstUpd {pins : List (Addr × Obj)} {σ : St} {H : Hp} {s : Shared} {p : Addr} {xs ys : List V} {its its' : List Value} {n n' : Nat} {f : Obj → Obj} (I : Inv X pins σ H s) (h : H p = some (.lst xs))
    (ho : s.heap.get? p = some { cls := .type "list", data := .seq its.toArray n }) (hf : f { cls := .type "list", data := .seq its.toArray n } = { cls := .type "list", data := .seq its'.toArray n' }) (r : Vals ys its') (hz : ys.length ≤ sizeLine) (t : Nat) :
    Inv X pins σ (upd H p (.lst ys)) { s with heap := s.heap.update p f, toks := t } := by
  have e : (s.heap.update p f).get? p = some { cls := .type "list", data := .seq its'.toArray n' } := by
    rw [Heap.get?_update_self f ho (by rw [hf] <;> rfl), hf]
  refine I.write (x := p) (e := p) (by rw [h]; trivial) (.inl rfl) (fun b u hb q => (Heap.get?_update_other _ _ (Ne.symm hb)).trans q) ⟨_, e⟩ ?_
  exact ⟨hz, its', n', r, e⟩
def rSetL : V → V → V → Hp → (Hp → Prop) → Prop := fun o i v H Q => ∃ p xs k j, o = .ref p ∧ i = .int k ∧ H p = some (.lst xs) ∧ ixN xs.length k = some j ∧ Q (upd H p (.lst (xs.set j v)))
theorem set_list : PSet X rSetL := by
  intro pins s σ H o i v ov iv u Q I ro ri rv h
  obtain ⟨p, xs, k, j, rfl, rfl, hp, hj, q⟩ := h
  cases ro
  obtain ⟨t, rfl⟩ := ri
  obtain ⟨its, n, r, ho, hz⟩ := I.lst hp
  obtain ⟨h1, h2, h3, h4⟩ := ixN_seq hj
  have hl := r.length
  have hn := line63
  have I' : Inv X pins σ (upd H p (.lst (xs.set j v))) { s with heap := s.heap.update p (Obj.mapSeq (·.setIfInBounds j u)) } :=
    I.lstUpd hp ho (mapSeq_set its n j u) (r.set rv j) (by rw [List.length_set]; exact hz) s.toks
  by_cases h0 : 0 ≤ k
  · have hk : k.toNat = j := by
      rw [seqIndex_of h0 h4] at h1
      exact Option.some.inj h1
    exact PySem.W.ki_setAt ho h0 (by omega) (by rw [List.size_toArray, ← hl]; exact h4) (by rw [hk]; exact ⟨_, I', q⟩)
  · have hk : (k + (its.toArray.size : Int)).toNat = j := by
      rw [seqIndex_neg (by omega) h3] at h1
      rw [List.size_toArray, ← hl]
      exact Option.some.inj h1
    exact PySem.W.ki_setBack ho (by omega) (by rw [List.size_toArray, ← hl]; exact h3) (by omega) (by rw [hk]; exact ⟨_, I', q⟩)

theorem slice_bounds (lo hi : Option Int) (n : Nat) : (sliceBounds lo hi none n).1 = ((HT.sIx n 0 lo : Nat) : Int) ∧ (sliceBounds lo hi none n).2.1 = ((HT.sIx n n hi : Nat) : Int) ∧ (sliceBounds lo hi none n).2.2 = 1 := by
  refine ⟨?_, ?_, rfl⟩
  · cases lo with
    | none => simp [sliceBounds, HT.sIx]
    | some i =>
      simp only [sliceBounds, HT.sIx, Option.getD_none, show (1 : Int) > 0 by decide, if_true]
      by_cases h : i < 0
      · simp only [h, if_true] <;> omega
      · simp only [h, if_false] <;> omega
  · cases hi with
    | none => simp [sliceBounds, HT.sIx]
    | some i =>
      simp only [sliceBounds, HT.sIx, Option.getD_none, show (1 : Int) > 0 by decide, if_true]
      by_cases h : i < 0
      · simp only [h, if_true] <;> omega
      · simp only [h, if_false] <;> omega
theorem slicePick_cut (its : List Value) (lo hi : Option Int) : slicePick its.toArray lo hi none = ((its.drop (HT.sIx its.length 0 lo)).take (HT.sIx its.length its.length hi - HT.sIx its.length 0 lo)).toArray := by
  obtain ⟨h1, h2, h3⟩ := slice_bounds lo hi its.toArray.size
  unfold slicePick
  rw [h1, h2, h3]
  simp only [sliceRange_one, pick_run, List.size_toArray] <;> rfl
/-- xs[lo:hi] of a list: a new list -/
def rSlL (K : PySem.W.Frag) : V → Option Int → Option Int → Hp → VK → Prop := fun x lo hi H Q => ∃ a xs, x = .ref a ∧ SqL K H a xs ∧ ∀ p, H p = none → Q (.ref p) (upd H p (.lst (cutV xs lo hi)))
theorem sl_list : SlR X (rSlL X.K) := by
  intro pins s σ H x v vl vu lo hi sl Q I rx hs pl pu h
  obtain ⟨a, xs, rfl, hx, q⟩ := h
  cases rx
  obtain ⟨its, r, ht, hz⟩ := I.list hx
  have hlen := r.length
  refine ⟨"list", _, slot_list_getitem.lookup, ht.isList.typeIs, ?_⟩
  refine wpAny_getItem_list_slice ht.isList hs pl pu .none (by simp) ?_ (by rw [List.size_toArray] <;> omega)
  rw [slicePick_cut, ← hlen]
  refine ⟨.ref s.heap.objs.size, _, I.laid (t' := s.toks) (o := .lst (cutV xs lo hi)) (fun b ob q => Heap.get?_push_of_some _ q) (Nat.le_refl _) ?_, rfl, q _ (I.hok.fresh (Nat.le_refl _))⟩
  exact ⟨Nat.le_trans (cutV_length xs lo hi) hz, _, 0, (r.drop (HT.sIx xs.length 0 lo)).take (HT.sIx xs.length xs.length hi - HT.sIx xs.length 0 lo), Heap.get?_push_size _ rfl⟩

def flatV : V → Bool
  | .non => true
  | .bl _ => true
  | .int _ => true
  | .str _ => true
  | _ => false
/-- == of flat values -/
def eqV : V → V → Bool
  | .non, .non => true
  | .bl a, .bl b => a == b
  | .bl a, .int b => (if a then 1 else 0) == b
  | .int a, .bl b => a == (if b then 1 else 0)
  | .int a, .int b => a == b
  | .str a, .str b => a == b
  | _, _ => false
theorem eqAt_V {A : Around} {s : Shared} {y x : V} {u v : Value} (ry : RelV y u) (rx : RelV x v) (fy : flatV y = true) (fx : flatV x = true) : SeqAt.EqAt A s u v (eqV y x) := by
  cases y with
  | non =>
    cases ry
    cases x with
    | non => cases rx; exact SeqAt.EqAt.same _
    | bl b => cases rx; exact SeqAt.EqAt.none_bool b
    | int b => obtain ⟨t, rfl⟩ := rx; exact SeqAt.EqAt.none_int b t
    | str b => obtain ⟨t, rfl⟩ := rx; exact SeqAt.EqAt.none_str b t
    | _ => exact absurd (show false = true from fx) Bool.false_ne_true
  | bl a =>
    cases ry
    cases x with
    | non => cases rx; exact SeqAt.EqAt.bool_none a
    | bl b => cases rx; exact SeqAt.EqAt.bool_bool a b
    | int b => obtain ⟨t, rfl⟩ := rx; exact SeqAt.EqAt.bool_int a b t
    | str b => obtain ⟨t, rfl⟩ := rx; exact SeqAt.EqAt.bool_str a b t
    | _ => exact absurd (show false = true from fx) Bool.false_ne_true
  | int a =>
    obtain ⟨t', rfl⟩ := ry
    cases x with
    | non => cases rx; exact SeqAt.EqAt.int_none a t'
    | bl b => cases rx; exact SeqAt.EqAt.int_bool a t' b
    | int b => obtain ⟨t, rfl⟩ := rx; exact SeqAt.EqAt.int_int a t' b t
    | str b => obtain ⟨t, rfl⟩ := rx; exact SeqAt.EqAt.int_str a t' b t
    | _ => exact absurd (show false = true from fx) Bool.false_ne_true
  | str a =>
    obtain ⟨t', rfl⟩ := ry
    cases x with
    | non => cases rx; exact SeqAt.EqAt.str_none a t'
    | bl b => cases rx; exact SeqAt.EqAt.str_bool a t' b
    | int b => obtain ⟨t, rfl⟩ := rx; exact SeqAt.EqAt.str_int a t' b t
    | str b => obtain ⟨t, rfl⟩ := rx; exact SeqAt.EqAt.str_str a t' b t
    | _ => exact absurd (show false = true from fx) Bool.false_ne_true
  | _ => exact absurd (show false = true from fy) Bool.false_ne_true
/-- the items' answers, read off the values (a value's own answer does not lean on its token) -/
def eqU (x : V) (u : Value) : Bool := match u with
  | .none => eqV .non x
  | .bool b => eqV (.bl b) x
  | .int i _ => eqV (.int i) x
  | .str z _ => eqV (.str z) x
  | _ => false
theorem eqU_of {x y : V} {u : Value} (r : RelV y u) (f : flatV y = true) : eqU x u = eqV y x := by
  cases y with
  | non => cases r; rfl
  | bl b => cases r; rfl
  | int i => obtain ⟨t, rfl⟩ := r; rfl
  | str z => obtain ⟨t, rfl⟩ := r; rfl
  | _ => exact absurd (show false = true from f) Bool.false_ne_true
theorem any_eqU {x : V} : ∀ {xs : List V} {us : List Value}, Vals xs us → xs.all flatV = true → us.any (eqU x) = xs.any fun y => eqV y x
  | _, _, .nil, _ => rfl
  | y :: xs, u :: us, .cons r t, f => by
    rw [List.all_cons, Bool.and_eq_true] at f
    rw [List.any_cons, List.any_cons, eqU_of r f.1, any_eqU t f.2]
theorem mem_eqAt {A : Around} {s : Shared} {x : V} {v : Value} (rx : RelV x v) (fx : flatV x = true) : ∀ {xs : List V} {us : List Value}, Vals xs us → xs.all flatV = true → ∀ u ∈ us, SeqAt.EqAt A s u v (eqU x u)
  | _, _, .nil, _ => fun u hu => by cases hu
  | y :: xs, u :: us, .cons r t, f => fun u' hu => by
    rw [List.all_cons, Bool.and_eq_true] at f
    rcases List.mem_cons.mp hu with rfl | hu
    · rw [eqU_of r f.1]; exact eqAt_V r rx f.1 fx
    · exact mem_eqAt rx fx t f.2 u' hu
def inV (x : V) (xs : List V) : Bool := xs.any fun y => eqV y x
/-- x in a list or tuple of flat items -/
def rIn (K : PySem.W.Frag) (neg : Bool) : R2 := fun x y H Q => ∃ p xs, y = .ref p ∧ (SqL K H p xs ∨ SqT K H p xs) ∧ flatV x = true ∧ xs.all flatV = true ∧ Q (.bl (if neg then !inV x xs else inV x xs)) H
theorem op_in_seq : OpR X (compareOp .In) (rIn X.K false) := by
  intro pins s σ H x y v u Q I rx ry h
  obtain ⟨p, xs, rfl, hq, fx, fs, q⟩ := h
  cases ry
  rcases hq with hq | hq
  · obtain ⟨its, r, pl, hz⟩ := I.list hq
    refine SeqAt.in_listAt (eqU x) pl.isList (fun w hw => mem_eqAt rx fx r fs w (by simpa using hw)) ⟨.bl _, H, I, rfl, ?_⟩
    rw [show its.toArray.any (eqU x) = its.any (eqU x) by simp, any_eqU r fs]
    exact q
  · obtain ⟨its, r, pl, hz⟩ := I.tuple hq
    refine SeqAt.in_tupleAt (eqU x) pl (fun w hw => mem_eqAt rx fx r fs w (by simpa using hw)) ⟨.bl _, H, I, rfl, ?_⟩
    rw [show its.toArray.any (eqU x) = its.any (eqU x) by simp, any_eqU r fs]
    exact q
theorem call_len_seq : CallR X (.builtin "len") (fun xs H Q => ∃ p ys, xs = [.ref p] ∧ (SqL X.K H p ys ∨ SqT X.K H p ys) ∧ Q (.int ys.length) H) := by
  intro pins s σ H xs us Q I r h
  obtain ⟨p, ys, rfl, hq, q⟩ := h
  obtain ⟨u, rfl, rx⟩ := vals1 r
  cases rx
  have hn := line63
  rcases hq with hq | hq
  · obtain ⟨its, r', pl, hz⟩ := I.list hq
    have hlen := r'.length
    exact Calls.call_len_list pl.isList (by simp only [List.size_toArray] <;> omega) ⟨.int ys.length, H, I.tok _, ⟨s.toks + 1, by rw [List.size_toArray, hlen]⟩, q⟩
  · obtain ⟨its, r', pl, hz⟩ := I.tuple hq
    have hlen := r'.length
    exact len_tuple pl (by simp only [List.size_toArray] <;> omega) ⟨.int ys.length, H, I.tok _, ⟨s.toks + 1, by rw [List.size_toArray, hlen]⟩, q⟩
theorem call_len_str : CallR X (.builtin "len") (fun xs H Q => ∃ z, xs = [.str z] ∧ z.length ≤ sizeLine ∧ Q (.int z.length) H) := by
  intro pins s σ H xs us Q I r h
  obtain ⟨z, rfl, hz, q⟩ := h
  obtain ⟨u, rfl, t, rfl⟩ := vals1 r
  have hn := line63
  exact len_str (by omega) ⟨.int z.length, H, I.tok _, ⟨_, rfl⟩, q⟩
theorem CallR.or {f : Value} {r r' : List V → Hp → VK → Prop} (h : CallR X f r) (h' : CallR X f r') : CallR X f (fun xs H Q => r xs H Q ∨ r' xs H Q) := by
  intro pins s σ H xs us Q I rs q
  rcases q with q | q
  · exact h pins s σ H xs us Q I rs q
  · exact h' pins s σ H xs us Q I rs q
theorem call_list_of : CallR X (.type "list") (fun xs H Q => ∃ p ys, xs = [.ref p] ∧ (SqL X.K H p ys ∨ SqT X.K H p ys) ∧ ∀ l, H l = none → Q (.ref l) (upd H l (.lst ys))) := by
  intro pins s σ H xs us Q I r h
  obtain ⟨p, ys, rfl, hq, q⟩ := h
  obtain ⟨u, rfl, rx⟩ := vals1 r
  cases rx
  have fin : ∀ (its : List Value), Vals ys its → ys.length ≤ sizeLine → ∀ (h' : Heap) (c' : Nat), (∀ b o', s.heap.get? b = some o' → h'.get? b = some o') →
      h'.get? s.heap.objs.size = some { cls := .type "list", dict := none, data := .seq its.toArray c', slots := #[] } → EP X pins σ Q (.ref s.heap.objs.size) { s with heap := h' } := fun its r' hz h' c' kp e =>
    ⟨.ref s.heap.objs.size, _, I.laid (t' := s.toks) kp (Nat.le_refl _) (show ObjOk X.prog X.w _ h' _ (.lst ys) from ⟨hz, its, c', r', e⟩), rfl, q _ (I.hok.fresh (Nat.le_refl _))⟩
  rcases hq with hq | hq
  · obtain ⟨its, r', pl, hz⟩ := I.list hq
    have hlen := r'.length
    obtain ⟨o, ho, hc, n, hd⟩ := pl.isList
    exact call_list_seq p (.inl rfl) ho hc hd (fun h' c' kp e => fin its r' hz h' c' kp e) (by simp only [List.size_toArray] <;> omega)
  · obtain ⟨its, r', pl, hz⟩ := I.tuple hq
    have hlen := r'.length
    obtain ⟨o, ho, hc, n, hd⟩ := pl
    exact call_list_seq p (.inr rfl) ho hc hd (fun h' c' kp e => fin its r' hz h' c' kp e) (by simp only [List.size_toArray] <;> omega)
theorem call_tuple_of : CallR X (.type "tuple") (fun xs H Q => ∃ p ys, xs = [.ref p] ∧ ((SqL X.K H p ys ∧ ∀ l, H l = none → Q (.ref l) (upd H l (.tup ys))) ∨ (SqT X.K H p ys ∧ Q (.ref p) H))) := by
  intro pins s σ H xs us Q I r h
  obtain ⟨p, ys, rfl, h⟩ := h
  obtain ⟨u, rfl, rx⟩ := vals1 r
  cases rx
  rcases h with ⟨hq, q⟩ | ⟨hq, q⟩
  · obtain ⟨its, r', pl, hz⟩ := I.list hq
    have hlen := r'.length
    refine call_tuple_list pl.isList (fun h' kp => ?_) (by simp only [List.size_toArray] <;> omega)
    have I1 : Inv X pins σ H { s with heap := h' } := I.kept (t' := s.toks) kp
    have I2 : Inv X pins σ (upd H h'.objs.size (.tup ys)) { s with heap := h'.push { cls := .type "tuple", data := .seq its.toArray } } :=
      I1.laid (t' := s.toks) (fun b o e => Heap.get?_push_of_some _ e) (Nat.le_refl _) (show ObjOk X.prog X.w _ _ _ (.tup ys) from ⟨hz, its, r', IsTup.new _ _, _, Heap.get?_push_size _ rfl, rfl⟩)
    exact ⟨.ref h'.objs.size, _, I2, rfl, q _ (I1.hok.fresh (Nat.le_refl _))⟩
  · obtain ⟨its, r', pl, hz⟩ := I.tuple hq
    exact call_tuple_same pl ⟨.ref p, H, I, rfl, q⟩

/-- the value is of that builtin type -/
def tyV (K : PySem.W.Frag) (T : String) (x : V) (H : Hp) : Prop := match x with
  | .str _ => T = "str"
  | .int _ => T = "int"
  | .ref p => (T = "list" ∧ ∃ xs, SqL K H p xs) ∨ (T = "tuple" ∧ ∃ o, K.lookup p = some o ∧ o.cls = .type "tuple" ∧ o.dict = none) ∨
      (T = "dict" ∧ ((∃ kvs, H p = some (.dK kvs)) ∨ ∃ kvs, H p = some (.dT kvs))) ∨ (T = "set" ∧ ∃ S n, H p = some (.set S n))
  | _ => False
theorem tyV_is {pins : List (Addr × Obj)} {σ : St} {H : Hp} {s : Shared} {T : String} {x : V} {v : Value} (I : Inv X pins σ H s) (r : RelV x v) (ty : tyV X.K T x H) :
    s.TypeIs v T ∧ ∀ a, v = .ref a → ∃ ob, s.heap.get? a = some ob ∧ ob.dict = none := by
  cases x with
  | str z =>
    obtain ⟨t, rfl⟩ := r
    cases (show T = "str" from ty)
    exact ⟨typeIs_str s z t, fun _ e => nomatch e⟩
  | int i =>
    obtain ⟨t, rfl⟩ := r
    cases (show T = "int" from ty)
    exact ⟨typeIs_int s i t, fun _ e => nomatch e⟩
  | ref p =>
    cases r
    rcases ty with ⟨rfl, xs, hq⟩ | ⟨rfl, o, hk, hc, hd⟩ | ⟨rfl, hk⟩ | ⟨rfl, S, n, hk⟩
    · obtain ⟨its, _, pl, _⟩ := I.list hq
      refine ⟨pl.isList.typeIs, fun a e => ?_⟩
      cases e
      obtain ⟨o, n, e, c, hd, _⟩ := pl
      exact ⟨o, e, hd⟩
    · refine ⟨⟨o, I.kIn p o hk, hc⟩, fun a e => ?_⟩
      cases e
      exact ⟨o, I.kIn _ o hk, hd⟩
    · have z : ∃ o, s.heap.get? p = some o ∧ o.ExactDict := by
        rcases hk with ⟨kvs, hk⟩ | ⟨kvs, hk⟩
        · obtain ⟨_, _, _, _, o, _, _, e, ex, _⟩ := I.hok p _ hk
          exact ⟨o, e, ex⟩
        · obtain ⟨_, _, _, _, o, _, _, e, ex, _⟩ := I.hok p _ hk
          exact ⟨o, e, ex⟩
      obtain ⟨o, e, ex⟩ := z
      refine ⟨⟨o, e, ex.1⟩, fun a e2 => ?_⟩
      cases e2
      exact ⟨o, e, ex.2.1⟩
    · obtain ⟨o, _, _, _, e, ex, _⟩ := I.hok p _ hk
      refine ⟨⟨o, e, ex.1⟩, fun a e2 => ?_⟩
      cases e2
      exact ⟨o, e, ex.2.1⟩
  | _ => exact False.elim ty
def tBM0 (K : PySem.W.Frag) (T : String) (r : V → List V → Hp → VK → Prop) (to : TE) : TE := fun σ H Q => to σ H fun x H1 => tyV K T x H1 ∧ r x [] H1 Q
def tBM (K : PySem.W.Frag) (T : String) (r : V → List V → Hp → VK → Prop) (to : TE) (t : TA) : TE := fun σ H Q => to σ H fun x H1 => tyV K T x H1 ∧ t σ H1 fun xs H2 => r x xs H2 Q
variable {o e : Expr} {es : List Expr} {to : TE} {t : TA} {name : Str} {apos cpos : Pos} {T id : String} {r : V → List V → Hp → VK → Prop}
theorem pe_bm0 (pa : PlainAttrs T) (slot : Slot T name id) (hty : typeOf (.builtin id) = pure (.type "method_descriptor")) (hm : MtR X id r) (ho : PE X o to)
    (hbase : attributeBase o name X.env (eval o X.env) = eval o X.env := by rfl) (hline : (apos.endLine == cpos.line) = true := by rfl) : PE X (.Call (.Attribute o name apos) [] [] cpos) (tBM0 X.K T r to) := by
  intro pins s σ H Q I h
  refine wpAny_Call_method0_late hbase hline (thn (ho pins s σ H _ I h) fun v s1 ⟨x, H1, I1, r1, ty, q1⟩ => ?_)
  obtain ⟨h1, h2⟩ := tyV_is I1 r1 ty
  exact ⟨T, id, pa, slot, hty, h1, h2, Calls.callWith_builtin rfl (PySem.evalArgs_none (hm pins s1 σ H1 x [] v [] Q I1 r1 .nil q1))⟩
theorem pe_bm (pa : PlainAttrs T) (slot : Slot T name id) (hty : typeOf (.builtin id) = pure (.type "method_descriptor")) (hm : MtR X id r) (ho : PE X o to) (ha : PA X (e :: es) t)
    (hbase : attributeBase o name X.env (eval o X.env) = eval o X.env := by rfl)
    (hfew : ((backTo cpos (starEach (e :: es) X.env)).all (fun x => !x.1) && (backToKw cpos (keywordEach [] X.env)).all (fun x => x.1.isSome)
      && decide ((e :: es).length + ([] : List Keyword).length + (if ([] : List Keyword).isEmpty then 0 else 1) < 30)) = true := by rfl)
    (hline : (apos.endLine == cpos.line) = true := by rfl) (hs : starEach (e :: es) X.env = (false, eval e X.env) :: starEach es X.env := by rfl) (hplain : (backTo cpos (starEach es X.env)).any (·.1) = false := by rfl) :
    PE X (.Call (.Attribute o name apos) (e :: es) [] cpos) (tBM X.K T r to t) := by
  intro pins s σ H Q I h
  refine wpAny_Call_method_late hbase hfew hline rfl (thn (ho pins s σ H _ I h) fun v s1 ⟨x, H1, I1, r1, ty, q1⟩ => ?_)
  obtain ⟨h1, h2⟩ := tyV_is I1 r1 ty
  refine ⟨T, id, pa, slot, hty, h1, h2, ?_⟩
  have hA := ha cpos pins s1 σ H1 _ I1 q1
  rw [hs] at hA ⊢
  refine Calls.callWith_builtin (by show (false || (backTo cpos (starEach es X.env)).any (·.1)) = false; rw [hplain] <;> rfl) (Calls.evalArgs_plain ?_)
  exact thn hA fun us s2 ⟨vs, H2, I2, r2, q2⟩ => hm pins s2 σ H2 x vs v us Q I2 r1 r2 q2
/- xs.append(e), list.index on a module's tuple .. are MtR facts of 06m -/
end
end L2

namespace L2
open PySem PySem.Spec PyProof.Rows

def MtM (X : Cx) (id : String) (r : V → List V → Hp → VK → Prop) : Prop :=
  ∀ (pins : List (Addr × Obj)) (s : Shared) (σ : St) (H : Hp) (x : V) (xs : List V) (v : Value) (us : List Value) (Q : VK), Inv X pins σ H s → RelV x v → Vals xs us → r x xs H Q →
    wpAny (model X.prog X.w) X.A (call (.builtin id) (v :: us)) (EP X pins σ Q) X.xe s

theorem Vals.one : ∀ {x : V} {us : List Value}, Vals [x] us → ∃ u, us = [u] ∧ RelV x u
  | _, _, .cons r .nil => ⟨_, rfl, r⟩
theorem Vals.two : ∀ {x y : V} {us : List Value}, Vals [x, y] us → ∃ u v, us = [u, v] ∧ RelV x u ∧ RelV y v
  | _, _, _, .cons r (.cons q .nil) => ⟨_, _, rfl, r, q⟩
theorem Vals.zero : ∀ {us : List Value}, Vals [] us → us = []
  | _, .nil => rfl
theorem Vals.dropLast {xs : List V} {us : List Value} (h : Vals xs us) : Vals xs.dropLast us.dropLast := by
  induction h with
  | nil => exact .nil
  | cons r t ih =>
    cases t with
    | nil => exact .nil
    | cons q t' => exact .cons r ih
theorem Vals.eraseIdx : ∀ {xs : List V} {us : List Value} (i : Nat), Vals xs us → Vals (xs.eraseIdx i) (us.eraseIdx i)
  | _, _, _, .nil => .nil
  | _, _, 0, .cons _ t => t
  | _, _, i + 1, .cons r t => .cons r (Vals.eraseIdx i t)
theorem Vals.reverse {xs : List V} {us : List Value} (h : Vals xs us) : Vals xs.reverse us.reverse := by
  induction h with
  | nil => exact .nil
  | cons r t ih => rw [List.reverse_cons, List.reverse_cons]; exact Vals.append ih (.cons r .nil)
theorem Vals.rep {xs : List V} {us : List Value} (h : Vals xs us) : ∀ k : Nat, Vals (List.replicate k xs).flatten (List.replicate k us).flatten
  | 0 => .nil
  | k + 1 => by
    rw [List.replicate_succ, List.replicate_succ, List.flatten_cons, List.flatten_cons]
    exact Vals.append h (Vals.rep h k)
theorem erase_last {α : Type} (l : List α) : l.eraseIdx (l.length - 1) = l.dropLast := by
  induction l with
  | nil => rfl
  | cons a r ih =>
    cases r with
    | nil => rfl
    | cons b r =>
      have e : (a :: b :: r).length - 1 = ((b :: r).length - 1) + 1 := by
        have h1 : (a :: b :: r).length = r.length + 2 := rfl
        have h2 : (b :: r).length = r.length + 1 := rfl
        omega
      rw [e, List.eraseIdx_cons_succ, ih]
      all_goals rfl
theorem foldl_rep (its : List Value) : ∀ (k : Nat) (acc : List Value),
    List.foldl (fun x1 x2 => x1 ++ x2) acc.toArray (List.replicate k its.toArray) = (acc ++ (List.replicate k its).flatten).toArray
  | 0, acc => by simp
  | k + 1, acc => by
    have e : acc.toArray ++ its.toArray = (acc ++ its).toArray := by simp
    have e2 : (acc ++ its) ++ (List.replicate k its).flatten = acc ++ (List.replicate (k + 1) its).flatten := by
      rw [List.replicate_succ, List.flatten_cons, List.append_assoc]
    rw [← e2, ← foldl_rep its k (acc ++ its), ← e, List.replicate_succ, List.foldl_cons]

section
variable {X : Cx} {pins : List (Addr × Obj)} {σ : St} {H : Hp} {s : Shared} {l b : Addr} {xs ys zs : List V}

theorem Inv.lset {its its' : List Value} {n : Nat} {f : Array Value → Array Value} {t' : Nat} (I : Inv X pins σ H s) (hH : H l = some (.lst xs))
    (e : s.heap.get? l = some { cls := .type "list", data := .seq its.toArray n }) (hf : f its.toArray = its'.toArray) (hv : Vals ys its') (hz : ys.length ≤ sizeLine) :
    Inv X pins σ (upd H l (.lst ys)) { s with heap := s.heap.update l (Obj.mapSeq f), toks := t' } := by
  have q := PySem.IsL.update e f
  rw [hf] at q
  refine I.write (x := l) (e := l) (by rw [hH]; exact trivial) (.inl rfl) (fun b' u hb hu => (Heap.get?_update_other s.heap (Obj.mapSeq f) (Ne.symm hb)).trans hu) ⟨_, q⟩ ?_
  exact ⟨hz, its', _, hv, q⟩
theorem Inv.lnew {its : List Value} {t' : Nat} (I : Inv X pins σ H s) (hv : Vals ys its) (hz : ys.length ≤ sizeLine) :
    Inv X pins σ (upd H s.heap.objs.size (.lst ys)) { s with heap := s.heap.push { cls := .type "list", data := .seq its.toArray }, toks := t' } :=
  I.laid (fun _ _ q => Heap.get?_push_of_some _ q) (Nat.le_refl _) ⟨hz, its, 0, hv, Heap.get?_push_size _ rfl⟩
theorem Inv.fresh (I : Inv X pins σ H s) : H s.heap.objs.size = none := I.hok.fresh (Nat.le_refl _)
theorem Inv.lstM (I : Inv X pins σ H s) (hH : H l = some (.lst xs)) : xs.length ≤ sizeLine ∧ ∃ (its : List Value) (n : Nat), Vals xs its ∧ xs.length = its.length ∧ s.heap.get? l = some { cls := .type "list", data := .seq its.toArray n } := by
  obtain ⟨z, its, n, r, e⟩ := I.hok l _ hH
  exact ⟨z, its, n, r, r.length, e⟩

theorem notLongL {n : Nat} (h : n ≤ sizeLine) : Builtin.List.listTooLong n = false := by
  unfold Builtin.List.listTooLong
  exact decide_eq_false (by omega)
end

section
variable {X : Cx}

def rAppend : V → List V → Hp → VK → Prop := fun x vs H Q => ∃ l xs y, x = .ref l ∧ vs = [y] ∧ H l = some (.lst xs) ∧ xs.length < sizeLine ∧ Q .non (upd H l (.lst (xs ++ [y])))
theorem mt_append : MtM X "list.append" rAppend := by
  intro pins s σ H x vs v us Q I rx rv h
  obtain ⟨l, xs, y, rfl, rfl, hH, hz, q⟩ := h
  cases rx
  obtain ⟨u, rfl, ru⟩ := rv.one
  obtain ⟨z, its, n, r, hl, e⟩ := I.lstM hH
  refine call_meets F.slot_list_append ⟨_, e, rfl⟩ F.entry_list_append (F.args_list_append_2 _ _) (PySem.list_append l its.toArray n u (by rw [List.size_toArray]; omega)) ⟨e, ?_⟩
  refine ⟨.non, _, I.lset (its' := its ++ [u]) hH e (by simp) (r.append (.cons ru .nil)) ?_, rfl, q⟩
  rw [List.length_append, List.length_singleton]
  omega

def rPop : V → List V → Hp → VK → Prop := fun x vs H Q => ∃ l xs y, x = .ref l ∧ vs = [] ∧ H l = some (.lst xs) ∧ xs[xs.length - 1]? = some y ∧ Q y (upd H l (.lst xs.dropLast))
theorem mt_pop : MtM X "list.pop" rPop := by
  intro pins s σ H x vs v us Q I rx rv h
  obtain ⟨l, xs, y, rfl, rfl, hH, hy, q⟩ := h
  cases rx
  have hus := rv.zero
  subst hus
  obtain ⟨z, its, n, r, hl, e⟩ := I.lstM hH
  obtain ⟨u, hu, ru⟩ := r.get hy
  have hy' : its.toArray[its.toArray.size - 1]? = some u := by
    show its.toArray[its.length - 1]? = some u
    rw [← Array.getElem?_toList, ← hl]
    exact hu
  refine call_meets F.slot_list_pop ⟨_, e, rfl⟩ F.entry_list_pop (F.args_list_pop_1 _) (MeetsSeq.list_pop_last l its.toArray n u hy' (by rw [List.size_toArray]; omega)) ⟨e, ?_⟩
  refine ⟨y, _, I.lset (its' := its.dropLast) hH e ?_ r.dropLast ?_, ru, q⟩
  · show its.toArray.eraseIdxIfInBounds (its.toArray.size - 1) = its.dropLast.toArray
    rw [List.size_toArray, List.eraseIdxIfInBounds_toArray, erase_last]
  · rw [List.length_dropLast]
    omega

def rClear : V → List V → Hp → VK → Prop := fun x vs H Q => ∃ l xs, x = .ref l ∧ vs = [] ∧ H l = some (.lst xs) ∧ Q .non (upd H l (.lst []))
theorem mt_clear : MtM X "list.clear" rClear := by
  intro pins s σ H x vs v us Q I rx rv h
  obtain ⟨l, xs, rfl, rfl, hH, q⟩ := h
  cases rx
  have hus := rv.zero
  subst hus
  obtain ⟨z, its, n, r, hl, e⟩ := I.lstM hH
  refine call_meets F.slot_list_clear ⟨_, e, rfl⟩ F.entry_list_clear (F.args_list_clear_1 _) (AutoSeq1.list_clear_list_0 l its.toArray n (by rw [List.size_toArray]; omega)) ⟨e, ?_⟩
  exact ⟨.non, _, I.lset (its' := []) (ys := []) hH e rfl .nil (Nat.zero_le _), rfl, q⟩

def rCat : R2 := fun x y H Q => ∃ l b xs zs, x = .ref l ∧ y = .ref b ∧ H l = some (.lst xs) ∧ H b = some (.lst zs) ∧ xs.length + zs.length ≤ sizeLine ∧ ∀ p, H p = none → Q (.ref p) (upd H p (.lst (xs ++ zs)))
theorem op_cat : OpR X (binaryOp .Add) rCat := by
  intro pins s σ H x y v u Q I rx ry h
  obtain ⟨l, b, xs, zs, rfl, rfl, hH, hB, hz, q⟩ := h
  cases rx
  cases ry
  obtain ⟨z, its, n, r, hl, e⟩ := I.lstM hH
  obtain ⟨z2, its2, n2, r2, hl2, e2⟩ := I.lstM hB
  refine PySem.P.add_list e e2 ?_ (by rw [List.size_toArray, List.size_toArray]; omega)
  have ea : its.toArray ++ its2.toArray = (its ++ its2).toArray := by simp
  rw [ea]
  exact ⟨.ref _, _, I.lnew (t' := s.toks) (r.append r2) (by rw [List.length_append]; omega), rfl, q _ I.fresh⟩
/-- a list times an int (a negative one is nothing) -/
def rRep : R2 := fun x y H Q => ∃ l k xs, x = .ref l ∧ y = .int k ∧ H l = some (.lst xs) ∧ -(2 ^ 63) ≤ k ∧ k < 2 ^ 63 ∧ xs.length * k.toNat ≤ sizeLine ∧
  ∀ p, H p = none → Q (.ref p) (upd H p (.lst (List.replicate k.toNat xs).flatten))
theorem len_rep {α : Type} (xs : List α) (k : Nat) : (List.replicate k xs).flatten.length = k * xs.length := by
  induction k with
  | zero => simp
  | succ k ih => rw [List.replicate_succ, List.flatten_cons, List.length_append, ih, Nat.succ_mul, Nat.add_comm]
theorem op_rep : OpR X (binaryOp .Mult) rRep := by
  intro pins s σ H x y v u Q I rx ry h
  obtain ⟨l, k, xs, rfl, rfl, hH, h1, h2, hz, q⟩ := h
  cases rx
  obtain ⟨t, rfl⟩ := ry
  obtain ⟨z, its, n, r, hl, e⟩ := I.lstM hH
  have hlen : its.toArray.size * k.toNat ≤ sizeLine := by rw [List.size_toArray, ← hl]; exact hz
  have hcap : ¬ its.toArray.size * k.toNat > (2 ^ 63 - 1) / 8 := by
    have : (sizeLine : Nat) ≤ (2 ^ 63 - 1) / 8 := by decide
    omega
  have hfit : ¬ (!Builtin.List.listFitsIndex k) = true := by
    rw [fitsIndex_both h1 h2]
    exact Bool.false_ne_true
  have hlong : ¬ Builtin.List.listTooLong (its.toArray.size * k.toNat) = true := by
    rw [notLongL hlen]
    exact Bool.false_ne_true
  have hnew : List.foldl (fun x1 x2 => x1 ++ x2) #[] (List.replicate (if its.toArray.isEmpty = true then 0 else k.toNat) its.toArray) = (List.replicate k.toNat its).flatten.toArray := by
    have f0 : ∀ m : Nat, List.foldl (fun x1 x2 => x1 ++ x2) #[] (List.replicate m its.toArray) = (List.replicate m its).flatten.toArray := fun m => by
      have := foldl_rep its m []
      rw [List.nil_append] at this
      exact this
    rw [f0]
    cases its with
    | nil => simp
    | cons a r' => rw [if_neg (by simp)]
  refine wpAny_binaryOp_repeat_ref (T := "list") (U := "int") (by decide) ⟨_, e, rfl⟩ (fun s' => typeIs_int s' k t) noFill_list_mul F.fills_int_mul F.slot_int_rmul repeat_list F.slot_int_index.lookup
    (call_meets F.slot_int_rmul (typeIs_int s k t) F.entry_int_rmul (F.args_int_rmul_2 _ _) (int___rmul___int_list k t l its.toArray n)
      ⟨e, rfl, ⟨_, e, rfl⟩, call_meets F.slot_list_mul ⟨_, e, rfl⟩ F.entry_list_mul (F.args_list_mul_2 _ _) (AutoListH.list___mul___list_int_3 l its.toArray n k t hfit hcap hlong) ⟨e, ?_⟩⟩)
  rw [hnew]
  exact ⟨.ref _, _, I.lnew (t' := s.toks) (r.rep k.toNat) (by rw [len_rep, Nat.mul_comm]; exact hz), rfl, q _ I.fresh⟩

end

section
variable {prog : Program} {w : World} {A : Around} {E : Value → Shared → Prop} {s : Shared}
end

section
variable {X : Cx}
end
end L2

namespace Att
open PySem PySem.W PySem.Calls PyProof.Rows

theorem ints_of_wellAll {P : Params} {h : Heap} : ∀ (ns : List Int) (vs : List Value), WellAll P h vs (ns.map WData.int) → IntsAre vs ns := by
  intro ns
  induction ns with
  | nil =>
    intro vs w
    rw [List.map_nil] at w
    cases w
    exact .nil
  | cons n ns ih =>
    intro vs w
    rw [List.map_cons] at w
    cases w with
    | cons a b =>
      cases a
      exact .cons _ _ (ih _ b)

theorem script_of {l : OpenLaw} {n : Nat} (hn : l.most = some n) {P : Params} {h : Heap} {args : List WData} {vals : List Value}
    (hpre : l.row.toRowW.claim.pre args = true) (hwl : WellAll P h vals args) :
    ∃ a vs ns, vals = [Value.ref a] ∧ args = [WData.list (ns.map WData.int)] ∧ h.get? a = some { cls := .type "list", data := .seq vs.toArray } ∧ IntsAre vs ns ∧ ns.length ≤ n := by
  have hsh : WShape.hasAll [] args [.list .int] = true := (pre_splitW hpre).1
  have hc : l.pre.holds [] { args := args } = true := (pre_splitW hpre).2
  obtain ⟨d, r, rfl, h1, h2⟩ := hasAllW_cons hsh
  obtain rfl := hasAllW_nil h2
  obtain ⟨xs, rfl, h3⟩ := hasW_list h1
  obtain ⟨ns, rfl⟩ := items_int h3
  have hlen : ns.length ≤ n := by
    unfold OpenLaw.pre at hc
    have h4 : (WTm.not (.lt (.lit (.int (n : Int))) (.len (.arg 0)))).holds [] { args := [.list (ns.map .int)] } = true := by
      have h4 := (holds_andW hc).1
      rw [hn] at h4
      exact h4
    have h5 := condW_of h4 (w_not (w_lt w_lit (w_len_list (w_arg rfl))))
    rw [List.length_map] at h5
    refine Nat.le_of_not_lt fun q => ?_
    have q' : (n : Int) < ((ns.length : Nat) : Int) := by omega
    first
      | (rw [decide_eq_true q'] at h5; exact absurd h5 (by decide))
      | (simp at h5; omega)
  cases hwl with
  | cons w1 w2 =>
    cases w2
    cases w1 with
    | list ho hall => exact ⟨_, _, ns, rfl, rfl, ho, ints_of_wellAll ns _ hall, hlen⟩

theorem post_true (l : OpenLaw) (args : List WData) : l.row.toRowW.claim.post args (.bool true) args = true :=
  postW_of (r := l.row.toRowW) (X := (true == true))
    (show WShape.has [] (.bool true) .bool = true by first | rfl | decide | simp [WShape.has, WShape.arms, WShape.armsAll])
    (show (WTm.eq .res (.lit (.bool true))).value [] { args := args, res := some (.bool true), after := args } = some (.bool (true == true)) from w_eq_bool (w_res rfl) w_lit) rfl

/-- the same from a codeAny of the CALL (for a layer whose function contracts speak of calls) -/
theorem attach_call {l : OpenLaw} {n : Nat} {q : Program} {loose : List Str} {XP : (Str → Option Value) → Heap → Prop} {YP : World → Heap → Prop} {d : DefRec}
    (hn : l.most = some n) (hdf : d.params.defaults = [])
    (call : ∀ (w : World) (s₀ s₁ : Shared) (mg mb : Str → Option Value) (fa : Addr) (o : Obj) (pm cd doc : Value) (a : Addr) (vs : List Value) (ns : List Int),
      Ground q loose [] XP w s₀ mg mb s₁.heap → YP w s₁.heap →
      s₁.heap.get? fa = some o → o.data = .func (docDef d.name d.params d.body d.scope pm cd doc) → s₁.heap.CodeRec cd d.name → mg d.name = some (.ref fa) →
      s₁.heap.get? a = some { cls := .type "list", data := .seq vs.toArray } → IntsAre vs ns → ns.length ≤ n → s₁.gens = #[] →
      codeAny (model l.prog w) callerA (.call (.ref fa) ⟨[.ref a], []⟩) (fun r s' => r = .ok (.ret (.bool true)) ∧ OldK s₁.heap s'.heap ∧ s'.os = s₁.os ∧ AllBare s'.gens) s₁) :
    WalkO q loose XP YP l.row.toRowW d [] (fun f vs => PySem.call f vs) := by
  intro w s₀ s₁ mg mb G Y fa o pm cd doc dV kV ho hd hcd hD hmg hg args vals as hpre hlay hrd hwl hlo
  obtain rfl : dV = .none := Dflts.none hD hdf
  obtain rfl : kV = .none := Dflts.noKw hD
  obtain ⟨a, vs, ns, rfl, rfl, hobj, hints, hlen⟩ := script_of hn hpre hwl
  refine enter_call (codeAny_mono (call w s₀ s₁ mg mb fa o pm cd doc a vs ns G Y ho (fd_plain hd) hcd hmg hobj hints hlen hg) fun r s' hq => ?_)
  obtain ⟨rfl, h2, h3, h4⟩ := hq
  exact ⟨.inl ⟨.bool true, .bool true, [], rfl, fun _ => rfl, .bool true, post_true l _, fun _ => ⟨List.Pairwise.nil, fun _ hm => (nomatch hm)⟩⟩, h2, h3, h4⟩

section
variable {prog : Program} {w : World} {A : Around} {E : Value → Shared → Prop} {s : Shared} {K : Frag}

end
end Att

namespace L2
open PySem PySem.Spec PyProof.Rows

theorem vals_ints : ∀ {vs : List Value} {ns : List Int}, IntsAre vs ns → Vals (ns.map V.int) vs
  | _, _, .nil => .nil
  | _, _, .cons n t h => .cons ⟨t, rfl⟩ (vals_ints h)

/-- nothing is tracked but the script, known to the object (or it is an object of the module) -/
def Only (H : Hp) : Prop := ∀ b, H b = none ∨ ∃ o xs, H b = some (.frz o (.lst xs))

/-- THE HEAD: the law's promise, at the heap behind the top. F, the promise of the law's def, may use that base is part of the heap (so K.In base, base.Ns mainGlobals mg stand in Mod) -/
theorem law_call {P : Program} {w : World} {K : PySem.W.Frag} {mg mb : Str → Option Value} {CX : CXT} {k : Nat} {fa a : Addr} {fd : FuncData} {x : Str} {sp : Sp} {s₁ : Shared} {vs : List Value} {ns : List Int}
    (KX : K.In s₁.heap) (hns : s₁.heap.Ns mainGlobals mg) (hb : s₁.heap.Ns builtinsNs mb) (hbb : ∀ x : Str, x ≠ "__name__" → mb x = bootBuiltins x) (hlim : s₁.heap.NoLimit) (hg : s₁.gens = #[])
    (ha : s₁.heap.get? a = some { cls := .type "list", data := .seq vs.toArray }) (hi : IntsAre vs ns) (hl : ns.length ≤ sizeLine) (hr : Room k callerA)
    (F : ∀ base : Heap, K.In base → base.Ns mainGlobals mg → FnOk P w K mg base CX k fa fd [x] sp) (hbind : ∀ (s : Shared) (u : Value), BindsTo s fd ⟨[u], []⟩ [(x, u)])
    (hsp : ∀ H : Hp, Only H → SqL K H a (ns.map V.int) → sp [.ref a] H (fun v _ => v = .bl true) fun _ _ _ => False)
    (hCX : ∀ H e s', CX [] H s₁ (fun _ _ _ => False) e s' → False) :
    codeAny (model P w) callerA (.call (.ref fa) ⟨[.ref a], []⟩) (fun r s' => r = .ok (.ret (.bool true)) ∧ OldK s₁.heap s'.heap ∧ s'.os = s₁.os ∧ AllBare s'.gens) s₁ := by
  have rv := vals_ints hi
  have lenV := hi.length
  -- from an abstract heap in which nothing but the script may be tracked
  have core : ∀ H : Hp, Only H → SqL K H a (ns.map V.int) → HOk P w H s₁.heap → (∀ b, H b ≠ none → b = a) → (H a ≠ none → K.lookup a = none) →
      codeAny (model P w) callerA (.call (.ref fa) ⟨[.ref a], []⟩) (fun r s' => r = .ok (.ret (.bool true)) ∧ OldK s₁.heap s'.heap ∧ s'.os = s₁.os ∧ AllBare s'.gens) s₁ := by
    intro H hO hS hok hA hK
    have base_of : ∀ {b : Addr} {o : Obj}, s₁.heap.get? b = some o → H b = none → (hidT s₁.heap H).get? b = some o := fun e n => hidT_get e n
    have noA : ∀ {b : Addr} {o : Obj} {es : Array DictEntry} {ep : Nat}, s₁.heap.get? b = some o → o.data = .dict es ep → H b = none := fun {b o es ep} e d => by
      cases q : H b with
      | none => rfl
      | some u =>
        have e' : b = a := hA b (by rw [q]; simp)
        subst e'
        rw [ha] at e; cases e
        have d' : Data.seq vs.toArray _ = Data.dict es ep := d
        cases d'
    have nsK : ∀ {b : Addr} {m : Str → Option Value}, s₁.heap.Ns b m → (hidT s₁.heap H).Ns b m := fun {b m} ⟨o, es, ep, e, d, r⟩ => ⟨o, es, ep, base_of e (noA e d), d, r⟩
    have hKb : K.In (hidT s₁.heap H) := fun b o e => base_of (KX b o e) (by
      cases q : H b with
      | none => rfl
      | some u =>
        have e' : b = a := hA b (by rw [q]; simp)
        subst e'
        rw [hK (by rw [q]; simp)] at e; cases e)
    have hM : Mod K mg (hidT s₁.heap H) := ⟨hKb, nsK hns, ⟨mb, nsK hb, hbb⟩, let ⟨mc, h1, h2⟩ := hlim; ⟨mc, nsK h1, h2⟩⟩
    have e0 : Env0 P w K mg (hidT s₁.heap H) callerA [] s₁ H := ⟨rfl, hM, fun b o e => of_hidT e, Nat.le_of_eq (hidT_size _ _), trivial, fun b hb => absurd (show b ∈ ([] : List Addr) from hb) (by simp), hok, .of_eq hg⟩
    refine codeAny_mono ((F _ hKb (nsK hns)).run callerA [] s₁ H ⟨[.ref a], []⟩ [.ref a] [.ref a] _ _ hr e0 (hbind s₁ (.ref a)) (.cons rfl .nil) (hsp H hO hS)) fun r s' h => ?_
    cases r with
    | error e => exact (hCX H e s' h).elim
    | ok fl =>
      cases fl with
      | next => exact False.elim h
      | brk => exact False.elim h
      | cont => exact False.elim h
      | ret u =>
        obtain ⟨v, H', os, bare, un, hok', r', q⟩ := h
        have q' : v = .bl true := q
        subst q'
        obtain rfl : u = Value.bool true := r'
        refine ⟨rfl, OldK.of_keep fun b o e => ?_, os, bare⟩
        cases q : H b with
        | none => exact un.keep b o e q (by intro z; exact absurd (show b ∈ ([] : List Addr) from z) (by simp)) (by simp)
        | some u =>
          rcases hO b with z | ⟨ob, xs, z⟩
          · rw [q] at z; cases z
          · have z2 := un.frzs b ob _ z
            obtain ⟨e1, _⟩ := hok b _ z
            obtain ⟨e2, _⟩ := hok' b _ z2
            rw [e] at e1; cases e1
            exact e2
  cases hk : K.lookup a with
  | some o =>
    -- the script is one of the module's own objects
    have e := KX a o hk
    rw [ha] at e
    cases e
    refine core (fun _ => none) (fun _ => .inl rfl) (.inr ⟨_, vs.toArray, _, hk, rfl, rfl, rfl, by rw [List.size_toArray, lenV]; exact hl, by simpa using rv⟩) (fun b u z => by have z' : (none : Option HO) = some u := z; cases z') (fun b z => absurd rfl z) fun z => absurd rfl z
  | none =>
    refine core (fun b => if b = a then some (.frz { cls := .type "list", data := .seq vs.toArray } (.lst (ns.map V.int))) else none) (fun b => ?_) (.inl (.inr ⟨{ cls := .type "list", data := .seq vs.toArray }, if_pos rfl⟩)) (fun b u z => ?_) (fun b z => ?_) fun _ => hk
    · by_cases hb : b = a
      · exact .inr ⟨_, _, if_pos hb⟩
      · exact .inl (if_neg hb)
    · by_cases hb : b = a
      · have z' := (if_pos hb).symm.trans z
        cases z'
        subst hb
        exact ⟨ha, by rw [List.length_map]; exact hl, vs, _, rv, ha⟩
      · have z' := (if_neg hb).symm.trans z
        cases z'
    · by_cases hb : b = a
      · exact hb
      · exact absurd (if_neg hb) z
end L2

namespace L2
open PySem PySem.Spec PyProof.Rows

abbrev KOf {K : PySem.W.Frag} {h : Heap} (_ : K.In h) : PySem.W.Frag := K

/-- the goal that k_head leaves (case hc), from the law's promise. F gives the function object fd (K's own) once, then the promise over every base -/
theorem walk_of {l : PySem.W.OpenLaw} {n k : Nat} {q : Program} {loose : List Str} {XP : (Str → Option Value) → Heap → Prop} {YP : World → Heap → Prop} {d : DefRec} {K : Params → PySem.W.Frag} {CX : World → CXT} {sp : World → Sp} {x : Str}
    (hn : l.most = some n) (hn2 : n ≤ sizeLine) (hdf : d.params.defaults = []) (hr : Room k callerA)
    (hY : ∀ (w : World) (h : Heap), YP w h → (K w.params).In h)
    (F : ∀ (w : World) (mg : Str → Option Value) (fa : Addr) (h : Heap), (K w.params).In h → h.Ns mainGlobals mg → mg d.name = some (.ref fa) →
      ∃ fd : FuncData, (∀ (s : Shared) (u : Value), BindsTo s fd ⟨[u], []⟩ [(x, u)]) ∧
        ∀ base : Heap, (K w.params).In base → base.Ns mainGlobals mg → FnOk l.prog w (K w.params) mg base (CX w) k fa fd [x] (sp w))
    (hsp : ∀ (w : World) (H : Hp) (a : Addr) (ns : List Int), ns.length ≤ n → Only H → SqL (K w.params) H a (ns.map V.int) → sp w [.ref a] H (fun v _ => v = .bl true) fun _ _ _ => False)
    (hCX : ∀ (w : World) (H : Hp) (s : Shared) (e : Value) (s' : Shared), CX w [] H s (fun _ _ _ => False) e s' → False) :
    PySem.W.WalkO q loose XP YP l.row.toRowW d [] (fun f vs => PySem.call f vs) := by
  refine Att.attach_call hn hdf fun w s₀ s₁ mg mb fa o pm cd doc a vs ns G Y ho hd hcd hmg hobj hints hlen hg => ?_
  have KX := hY w _ Y
  obtain ⟨fd, hb, hF⟩ := F w mg fa _ KX G.T.g hmg
  exact law_call KX G.T.g G.T.b G.T.builtins G.T.nolimit hg hobj hints (Nat.le_trans hlen hn2) hr hF hb (fun H hO hS => hsp w H a ns hlen hO hS) fun H e s' => hCX w H s₁ e s'
end L2

/- THE LAST THEOREM (shape; LID, My.* are yours):
   My.Adr: a structure of the addresses that your layer names (classes, functions); My.Txt K t: a structure (Prop) of the equations over K;
   My.txt_mk : {K} {implicit addresses ..} (e1 : nsIn K mainGlobals "law" = some (some (.ref f))) (e2 : K.lookup f = some ⟨oc, od, .func (fnOf "law" "law" params body scope dV kV doc pm an cdv ct), sl⟩) (e3 : codeIn K cdv "law" = true) .. : ∃ t, My.Txt K t

set_option maxRecDepth 100000 in
set_option maxHeartbeats 0 in
theorem PySem.Challenge.cw_LID_holds : PySem.Challenge.rw_LID.Holds := by
  w_on; o_law; k_head; (case hw => w_witness2)
  k_fill
  refine L2.walk_of (l := PySem.Challenge.rw_LID) (n := 63) (k := 40) (x := "script") (CX := fun w => ..) (sp := fun _ => My.sp_law) rfl (by decide) rfl ⟨rfl, by decide, by decide⟩ (fun w h Y => PySem.W.kIn_of Y) ?F ?S ?C
  case F =>
    intro w mg fa h KX G hmg
    have T : ∃ t, My.Txt (L2.KOf KX) t := by
      dsimp only [L2.KOf]                          -- K must stand as «<heap const> w.params» for k_is
      refine' My.txt_mk ?e1 ?e2 ?e3 ..
      (case e1 => PySem.W.k_is)                    -- in the order: a name -> its address -> its object -> its parts
      (case e2 => PySem.W.k_is)
      ..
    obtain ⟨t, T⟩ := T
    have e0 := hmg.symm.trans (PySem.W.mg_of KX G T.law)
    cases e0                                       -- fa is the law's own address
    exact ⟨_, fun s u => .of_eq rfl, fun base kb nb => My.law_fn T kb nb⟩     -- if «.of_eq rfl» comes too early: refine' ⟨_, ?b, fun base kb nb => My.law_fn T kb nb⟩; exact fun s u => .of_eq rfl
  case S => exact fun w H a ns hl hO hS => ..
  case C => exact ..
(the tactic k_is has no namespace: write k_is) -/

namespace L2
open PySem PySem.Spec PyProof.Rows

def defArgs (s : Stmt) : Arguments := match s with
  | .FunctionDef _ a _ _ _ _ _ _ _ _ => a
  | _ => { posonlyargs := [], args := [], vararg := none, kwonlyargs := [], kw_defaults := [], kwarg := none, defaults := [] }
def defBody (s : Stmt) : List Stmt := match s with
  | .FunctionDef _ _ b _ _ _ _ _ _ _ => b
  | _ => []
def defScope (s : Stmt) : Scope := match s with
  | .FunctionDef _ _ _ _ _ _ sc _ _ _ => sc
  | _ => { kind := .function, names := [], isGenerator := false, isCoroutine := false }

abbrev CX0 : CXT := fun _ _ _ _ _ _ => False
abbrev E0 : XK := fun _ _ _ => False
theorem pass0 {X : Cx} : Passes CX0 X E0 := fun _ _ _ _ _ _ _ h => h.elim

structure Fun (K : PySem.W.Frag) (x qual : Str) (st : Stmt) (f : Addr) (fd : FuncData) : Prop where
  ex : ∃ (oc : Value) (od : Option Addr) (kV doc pm : Value) (an : Option Addr) (cdv ct : Value) (osl : Array (Option Value)),
    fd = PySem.W.fnOf x qual (defArgs st) (defBody st) (defScope st) .none kV doc pm an cdv ct ∧ K.lookup f = some ⟨oc, od, .func fd, osl⟩ ∧ PySem.W.codeIn K cdv qual = true
  kp : PySem.W.keepIn K (.ref f) = true
section
variable {P : Program} {w : World} {K : PySem.W.Frag} {mg : Str → Option Value} {base : Heap}
/-- THE RULE for a def: its body as a term of rules, and the reading of that term -/
theorem Fun.ok {x qual : Str} {st : Stmt} {f : Addr} {fd : FuncData} {N ps : List Str} {k : Nat} {sp : Sp} (F : Fun K x qual st f fd) (S : FnScope N ps (defScope st)) (len : ∀ vs H Q E, sp vs H Q E → vs.length = ps.length)
    (hbody : ∀ (cdv : Value) (A : Around) (outer : List Env) (s : Shared) (H : Hp) (vs : List V) (Q : VK) (E : XK), Room k (A.deeper (envOfC qual (defScope st) s.heap.objs.size f cdv)) → sp vs H Q E →
      ∃ t, PSs (cxOf CX0 P w K mg base N qual (defScope st) f cdv A outer s H E).nox (defBody st) t ∧ t { nx := fun _ H' => Q .non H', rt := Q } (start N vs) H) : FnOk P w K mg base CX0 (k + 1) f fd ps sp := by
  obtain ⟨oc, od, kV, doc, pm, an, cdv, ct, osl, rfl, lk, hcd⟩ := F.ex
  refine fn_of lk hcd S len fun A outer s H vs Q E hr hsp => ?_
  obtain ⟨t, h, q⟩ := hbody cdv A outer s H vs Q E hr hsp
  exact ⟨t, h.nox, q⟩
/-- how its arguments bind (no defaults): h is «fun _ _ _ _ _ _ us hl => match us, hl with | [_, _], _ => rfl», one _ a parameter -/
theorem Fun.binds {x qual : Str} {st : Stmt} {f : Addr} {fd : FuncData} {ps : List Str} (F : Fun K x qual st f fd)
    (h : ∀ (kV doc pm : Value) (an : Option Addr) (cdv ct : Value) (us : List Value), us.length = ps.length → bindArgs (PySem.W.fnOf x qual (defArgs st) (defBody st) (defScope st) .none kV doc pm an cdv ct) ⟨us, []⟩ = pure (ps.zip us)) : Binds K fd ps [] := by
  obtain ⟨oc, od, kV, doc, pm, an, cdv, ct, osl, rfl, lk, hcd⟩ := F.ex
  exact .all (h kV doc pm an cdv ct)
theorem fun_mk {x qual : Str} {st : Stmt} {f : Addr} {oc : Value} {od an : Option Addr} {osl : Array (Option Value)} {kV doc pm cdv ct : Value} (l : K.lookup f = some ⟨oc, od, .func (PySem.W.fnOf x qual (defArgs st) (defBody st) (defScope st) .none kV doc pm an cdv ct), osl⟩)
    (c : PySem.W.codeIn K cdv qual = true) (k : PySem.W.keepIn K (.ref f) = true) : Fun K x qual st f (PySem.W.fnOf x qual (defArgs st) (defBody st) (defScope st) .none kV doc pm an cdv ct) := ⟨⟨oc, od, kV, doc, pm, an, cdv, ct, osl, rfl, l, c⟩, k⟩
end
section
variable {X : Cx}
end

theorem iteF {A B : Prop} (h : B) : if false = true then A else B := by
  rw [if_neg Bool.false_ne_true]
  exact h
theorem iteT {A B : Prop} (h : A) : if true = true then A else B := by
  rw [if_pos rfl]
  exact h
/-- all that was tracked is as it was -/
def Same (H H' : Hp) : Prop := ∀ b o, H b = some o → H' b = some o
theorem Same.refl (H : Hp) : Same H H := fun _ _ h => h
theorem Same.trans {H H1 H2 : Hp} (a : Same H H1) (b : Same H1 H2) : Same H H2 := fun c o h => b c o (a c o h)
theorem Same.free {H H' : Hp} (e : Same H H') {l : Addr} (h : H' l = Option.none) : H l = Option.none := by
  cases q : H l with
  | none => rfl
  | some o =>
    rw [e l o q] at h
    cases h
theorem Same.seq {K : PySem.W.Frag} {H H' : Hp} {a : Addr} {xs : List V} (e : Same H H') (h : SqL K H a xs) : SqL K H' a xs := by
  rcases h with (h | ⟨o, h⟩) | h
  · exact .inl (.inl (e _ _ h))
  · exact .inl (.inr ⟨o, e _ _ h⟩)
  · exact .inr h

end L2

set_option Elab.async false
set_option linter.all false
set_option maxRecDepth 100000
set_option maxHeartbeats 4000000
namespace L3
open PySem PySem.Spec L2
open PyProof.Rows hiding St

theorem forIn_R {α β : Type} {f : α → β → Sem (ForInStep β)} (R : List α → β → Prop) (h : ∀ x l c, R (x :: l) c → ∃ c', f x c = pure (.yield c') ∧ R l c') :
    ∀ (l : List α) (c : β), R l c → ∃ c', forIn l c f = pure c' ∧ R [] c'
  | [], c, r => ⟨c, rfl, r⟩
  | x :: l, c, r => by
    obtain ⟨c1, e, r1⟩ := h x l c r
    obtain ⟨c2, e2, r2⟩ := forIn_R R h l c1 r1
    exact ⟨c2, by rw [List.forIn_cons, e, pure_bind]; exact e2, r2⟩

theorem cellOf_some {env : Env} {x : Str} {c : Addr} (h : env.cells.lookup x = some c) : cellOf env x = pure c := by
  unfold cellOf
  rw [h]

theorem closure_ok {scope : Scope} {env : Env} (h : ∀ y ∈ scope.names, y.2 = .free → ∃ c, env.cells.lookup y.1 = some c) :
    ∃ cl, closureFor scope env = pure cl ∧ (∀ x c, cl.lookup x = some c → env.cells.lookup x = some c) ∧ ∀ y ∈ scope.names, y.2 = .free → ∃ c, cl.lookup y.1 = some c := by
  let f : Str × NameKind → List (Str × Addr) → Sem (ForInStep (List (Str × Addr))) := fun x r => match x with
    | (name, kind) => if (kind == .free) = true then (do let a ← cellOf env name; pure (.yield ((name, a) :: r))) else pure (.yield r)
  have q := forIn_R (f := f) (fun rem cs => (∀ x c, cs.lookup x = some c → env.cells.lookup x = some c) ∧ (∀ y ∈ scope.names, y.2 = .free → (∃ c, cs.lookup y.1 = some c) ∨ y ∈ rem) ∧ ∀ y ∈ rem, y ∈ scope.names) ?_ scope.names []
    ⟨fun x c e => (by cases e), fun y hy _ => .inr hy, fun _ hy => hy⟩
  · obtain ⟨cl, e, p1, p2, _⟩ := q
    refine ⟨cl, ?_, p1, fun y hy hf => (p2 y hy hf).elim (fun z => z) fun z => (by cases z)⟩
    have e1 : closureFor scope env = (forIn scope.names [] f >>= fun r => pure r) := rfl
    rw [e1, e, pure_bind]
  · rintro ⟨n, k⟩ l cs ⟨p1, p2, p3⟩
    have hm := p3 _ (List.mem_cons_self ..)
    by_cases hk : k = .free
    · subst hk
      obtain ⟨c, hc⟩ := h _ hm rfl
      refine ⟨(n, c) :: cs, ?_, fun x c' e => ?_, fun y hy hf => ?_, fun y hy => p3 y (List.mem_cons_of_mem _ hy)⟩
      · show (if ((NameKind.free == NameKind.free) = true) then _ else _) = _
        rw [if_pos (by decide), cellOf_some hc, pure_bind]
      · rw [List.lookup_cons] at e
        cases hx : x == n with
        | true =>
          rw [hx] at e
          have ex : x = n := eq_of_beq hx
          subst ex
          cases e
          exact hc
        | false =>
          rw [hx] at e
          exact p1 x c' e
      · rcases p2 y hy hf with ⟨c', e⟩ | z
        · refine .inl ?_
          rw [List.lookup_cons]
          cases hx : y.1 == n with
          | true => exact ⟨c, rfl⟩
          | false => exact ⟨c', e⟩
        · rcases List.mem_cons.mp z with rfl | z
          · exact .inl ⟨c, by rw [List.lookup_cons]; simp⟩
          · exact .inr z
    · refine ⟨cs, ?_, p1, fun y hy hf => ?_, fun y hy => p3 y (List.mem_cons_of_mem _ hy)⟩
      · show (if ((k == NameKind.free) = true) then _ else _) = _
        rw [if_neg (by simpa using hk)]
      · rcases p2 y hy hf with z | z
        · exact .inl z
        · rcases List.mem_cons.mp z with rfl | z
          · exact absurd hf hk
          · exact .inr z

theorem lookup_relabel_free {env : Env} : ∀ {names : List (Str × NameKind)} {x : Str}, names.lookup x = some .free →
    (names.map fun (n, k) => if (k == NameKind.free && env.scope.kind == .function && env.kindOf n == some .cell) then (n, NameKind.cell) else (n, k)).lookup x = some .cell ∨
    (names.map fun (n, k) => if (k == NameKind.free && env.scope.kind == .function && env.kindOf n == some .cell) then (n, NameKind.cell) else (n, k)).lookup x = some .free
  | [], _, h => by cases h
  | (n, k) :: r, x, h => by
    have ih := @lookup_relabel_free env r x
    rw [List.map_cons]
    cases hx : x == n with
    | true =>
      rw [List.lookup_cons, hx] at h
      cases h
      by_cases hc : (NameKind.free == NameKind.free && env.scope.kind == .function && env.kindOf n == some .cell) = true
      · refine .inl ?_
        show List.lookup x ((if (NameKind.free == NameKind.free && env.scope.kind == .function && env.kindOf n == some .cell) = true then (n, NameKind.cell) else (n, NameKind.free)) :: _) = _
        rw [if_pos hc, List.lookup_cons, hx]
      · refine .inr ?_
        show List.lookup x ((if (NameKind.free == NameKind.free && env.scope.kind == .function && env.kindOf n == some .cell) = true then (n, NameKind.cell) else (n, NameKind.free)) :: _) = _
        rw [if_neg hc, List.lookup_cons, hx]
    | false =>
      rw [List.lookup_cons, hx] at h
      have e : ∀ (b : Bool) (l : List (Str × NameKind)), List.lookup x ((if b = true then (n, NameKind.cell) else (n, k)) :: l) = l.lookup x := fun b l => by
        cases b with
        | true => rw [if_pos rfl, List.lookup_cons, hx]
        | false => rw [if_neg Bool.false_ne_true, List.lookup_cons, hx]
      rcases ih h with q | q
      · exact .inl ((e _ _).trans q)
      · exact .inr ((e _ _).trans q)

/-- what lookups in the relabelled table come from -/
theorem relabel_from {scope : Scope} {env : Env} (hnc : ∀ y ∈ scope.names, y.2 ≠ .cell) {x : Str} {k : NameKind} (h : (relabel scope env).names.lookup x = some k) (hk : k = .cell ∨ k = .free) :
    ∃ y ∈ scope.names, y.1 = x ∧ y.2 = .free := by
  have hm := PySem.mem_of_lookup h
  obtain ⟨⟨n, k0⟩, hy, e⟩ := List.mem_map.mp hm
  refine ⟨(n, k0), hy, ?_⟩
  have e' : (if (k0 == NameKind.free && env.scope.kind == .function && env.kindOf n == some .cell) = true then (n, NameKind.cell) else (n, k0)) = (x, k) := e
  by_cases hc : (k0 == NameKind.free && env.scope.kind == .function && env.kindOf n == some .cell) = true
  · rw [if_pos hc] at e'
    cases e'
    refine ⟨rfl, ?_⟩
    rw [Bool.and_eq_true, Bool.and_eq_true] at hc
    exact eq_of_beq hc.1.1
  · rw [if_neg hc] at e'
    cases e'
    rcases hk with rfl | rfl
    · exact absurd rfl (hnc _ hy)
    · exact ⟨rfl, rfl⟩

abbrev cxComp (X : Cx) (N' : List Str) (scope : Scope) (cl : List (Str × Addr)) (C : Addr) (fp : List Addr) (s₀ : Shared) (H₀ : Hp) : Cx :=
  { X with N := N', s₀ := s₀, H₀ := H₀, env := compEnvC scope cl C X.env, outer := X.stack, ex := fp, fn := fun _ => false, pn := [], xe := fun _ _ => False }

structure CompScope (psc scope : Scope) (T F : List Str) : Prop where
  kind : scope.kind = .function
  nocell : ∀ y ∈ scope.names, y.2 ≠ .cell
  loc : ∀ y ∈ scope.names, y.2 = .local → scope.names.lookup y.1 = some .local
  fr : ∀ y ∈ scope.names, y.2 = .free → psc.names.lookup y.1 = some .cell ∨ psc.names.lookup y.1 = some .free
  nd : (T ++ F).Nodup
  ffree : ∀ x ∈ F, scope.names.lookup x = some .free

section
variable {X : Cx} {pins : List (Addr × Obj)} {σ : St} {H H' : Hp} {s s' : Shared} {scope : Scope} {T F : List Str} {cl : List (Str × Addr)} {C : Addr} {fp : List Addr} {js : List Nat}

theorem cells_there (I : Inv X pins σ H s) (S : CompScope X.env.scope scope T F) : ∀ y ∈ scope.names, y.2 = .free → ∃ c, X.env.cells.lookup y.1 = some c := fun y hy hf => I.ok.has y.1 (S.fr y hy hf)

theorem ok_comp (I : Inv X pins σ H s) (S : CompScope X.env.scope scope T F) (p1 : ∀ x c, cl.lookup x = some c → X.env.cells.lookup x = some c)
    (p2 : ∀ y ∈ scope.names, y.2 = .free → ∃ c, cl.lookup y.1 = some c) (hC : s.heap.objs.size ≤ C) (hf : ∀ b ∈ fp, FpOk X pins H b) (hfl : ∀ b ∈ fp, b < s.heap.objs.size) :
    (cxComp X (T ++ F) scope cl C fp s H).Ok where
  mod := I.ok.mod
  kind := S.kind
  glob := I.ok.glob
  blt := I.ok.blt
  above := hC
  inj := fun x y c hx hy => I.ok.inj x y c (p1 x c hx) (p1 y c hy)
  has := fun x hx => by
    have q : ∃ y ∈ scope.names, y.1 = x ∧ y.2 = .free := by
      rcases hx with hx | hx
      · exact relabel_from (env := X.env) S.nocell (show (relabel scope X.env).names.lookup x = some .cell from hx) (.inl rfl)
      · exact relabel_from (env := X.env) S.nocell (show (relabel scope X.env).names.lookup x = some .free from hx) (.inr rfl)
    obtain ⟨y, hy, rfl, hf⟩ := q
    exact p2 y hy hf
  cab := fun x c h => by cases h
  hd := I.ok.hd
  frames := I.ok.frames
  stk := .inl rfl
  exf := fun b hb => ⟨Nat.ne_of_lt (Nat.lt_of_lt_of_le (hfl b hb) hC), fun x c e => (hf b hb).2.2.2.2.1 x c (p1 x c e)⟩
  bs := I.bs
  bsz := Nat.le_trans I.ok.bsz I.sz
  noex := fun b o e hb => by
    rcases (hf b hb).2.2.2.1 with z | z
    · exact I.ok.noex b o e z
    · exact absurd (Nat.lt_of_lt_of_le (Heap.lt_size (I.ok.bs b o e).1) z) (Nat.lt_irrefl _)
  exfs := fun b hb z => by
    rcases List.mem_cons.mp (I.stkSub b z) with q | q
    · exact (hf b hb).2.1 q
    · exact (hf b hb).2.2.1 q
  funs := I.stack
  frf := I.stkFree

/-- the names at the block's entry: the targets unbound, the free names as outside -/
def st0 (T : List Str) (js : List Nat) (σ : St) : St := List.replicate T.length none ++ js.map fun j => (σ[j]?).join

theorem paired_get {α β : Type} {R : α → β → Prop} : ∀ {l : List α} {r : List β} {i : Nat} {b : β}, Paired R l r → r[i]? = some b → ∃ a, l[i]? = some a ∧ R a b
  | _, _, _, _, .nil, e => by simp at e
  | _, _, 0, _, .cons h _, e => by simp at e; subst e; exact ⟨_, rfl, h⟩
  | _, _, i + 1, b, .cons _ t, e => by
    obtain ⟨a, q1, q2⟩ := paired_get (i := i) (b := b) t (by simpa using e)
    exact ⟨a, by simpa using q1, q2⟩

theorem inv_comp {h₁ : Heap} {m : Str → Option Value} {t' : Nat} (I : Inv X pins σ H s) (S : CompScope X.env.scope scope T F) (p1 : ∀ x c, cl.lookup x = some c → X.env.cells.lookup x = some c)
    (p2 : ∀ y ∈ scope.names, y.2 = .free → ∃ c, cl.lookup y.1 = some c) (hjs : Paired (fun x j => X.N[j]? = some x) F js) (hC : s.heap.objs.size ≤ C) (hf : ∀ b ∈ fp, FpOk X pins H b) (hfl : ∀ b ∈ fp, b < s.heap.objs.size)
    (hn : h₁.Ns C m) (hk : ∀ b o, s.heap.get? b = some o → h₁.get? b = some o) : Inv (cxComp X (T ++ F) scope cl C fp s H) [] (st0 T js σ) H { s with heap := h₁, toks := t' } := by
  refine ⟨ok_comp I S p1 p2 hC hf hfl, rfl, I.bare, Un.kept hk, ⟨m, hn, fun i x v h1 h2 h3 => ?_⟩, fun x c e => ?_, I.hok.fresh hC, fun x c e => I.freeC x c (p1 x c e), fun p hp => (by cases hp), I.hok.kept hk, ?_⟩
  · have hi : T.length ≤ i := by
      rcases Nat.lt_or_ge i T.length with z | z
      · exfalso
        unfold st0 at h2
        rw [List.getElem?_append_left (by simpa using z), List.getElem?_replicate] at h2
        split at h2 <;> cases h2
      · exact z
    unfold st0 at h2
    rw [List.getElem?_append_right (by simpa using hi), List.getElem?_map, List.length_replicate] at h2
    cases ej : js[i - T.length]? with
    | none => rw [ej] at h2; cases h2
    | some j =>
      rw [ej] at h2
      have hσ : (σ[j]?).join = some v := Option.some.inj h2
      obtain ⟨x', hx', hX⟩ := paired_get hjs ej
      have h1' : (T ++ F)[i]? = some x := h1
      rw [List.getElem?_append_right hi, hx'] at h1'
      cases h1'
      have hσ' : σ[j]? = some (some v) := by
        cases e : σ[j]? with
        | none => rw [e] at hσ; cases hσ
        | some o => rw [e] at hσ; cases hσ; rfl
      have hxF : x ∈ F := List.mem_of_getElem? hx'
      have hfree := S.ffree x hxF
      have hpsc := S.fr _ (PySem.mem_of_lookup hfree) rfl
      obtain ⟨m0, _, look⟩ := I.loc
      obtain ⟨u, ru, lk⟩ := look j x v hX hσ' (.inr hpsc)
      refine ⟨u, ru, ?_⟩
      rcases lk with ⟨k, _⟩ | ⟨_, c, hc, hcell⟩
      · exfalso
        have k' : X.env.scope.names.lookup x = some .local := k
        rcases hpsc with z | z
        · rw [k'] at z; cases z
        · rw [k'] at z; cases z
      · obtain ⟨c', hc'⟩ := p2 _ (PySem.mem_of_lookup hfree) rfl
        have e2 := p1 x c' hc'
        rw [hc] at e2
        cases e2
        refine .inr ⟨?_, c, hc', hcell.keeps hk⟩
        exact lookup_relabel_free (env := X.env) hfree
  · obtain ⟨v, q⟩ := I.cell x c (p1 x c e)
    exact ⟨v, q.keeps hk⟩
  · show (st0 T js σ).length = (T ++ F).length
    unfold st0
    rw [List.length_append, List.length_append, List.length_replicate, List.length_map, (Paired.length hjs)]

/-- behind the block -/
theorem inv_back {N' : List Str} {σ' : St} (I : Inv X pins σ H s) (J : Inv (cxComp X N' scope cl C fp s H) [] σ' H' s') (hf : ∀ b ∈ fp, FpOk X pins H b) : Inv X pins σ H' s' :=
  I.call' (ch := fp) (show s'.os = s.os from J.os) J.base J.hok J.bare fun b hb => ⟨(hf b hb).2.2.2.1, (hf b hb).2.1, (hf b hb).2.2.2.2.1, (hf b hb).2.2.2.2.2⟩
end
end L3

set_option Elab.async false
set_option linter.all false
set_option maxRecDepth 100000
set_option maxHeartbeats 4000000
namespace L3
open PySem PySem.Spec L2
open PyProof.Rows hiding St

section
variable {prog : Program} {w : World} {A : Around} {R : Result → Shared → Prop} {s : Shared}
/-- the turns of a list comprehension with one clause; nothing raises -/
theorem comp_turns {elt target iter : Expr} {ifs : List Expr} {scope : Scope} {pos : Pos} {it acc : Value} {env : Env} (I : Nat → Shared → Prop)
    (turn : ∀ n s, I n s → wpAny (model prog w) A (pyNext it) (fun r s₁ => match r with
      | none => R (.ok .next) s₁
      | some v => wpAny (model prog w) A (letOwnedTupleGo target it v) (fun _ s₂ => wpAny (model prog w) A (assign target env v) (fun _ s₃ =>
          wpAny (model prog w) A (forIn ifs true fun c r => if r = true then do let ok ← isTrue c env (eval c env); pure (ForInStep.yield ok) else pure (ForInStep.yield r)) (fun ok s₄ =>
            if ok = true then wpAny (model prog w) A (eval elt env) (fun x s₅ => wpAny (model prog w) A (call (.builtin "list.append") [acc, x]) (fun _ s₆ => ∃ m, m < n ∧ I m s₆) (fun _ _ => False) s₅) (fun _ _ => False) s₄
            else ∃ m, m < n ∧ I m s₄) (fun _ _ => False) s₃) (fun _ _ => False) s₂) (fun _ _ => False) s₁) (fun _ _ => False) s)
    (n : Nat) (h : I n s) : codeAny (model prog w) A (.compLoop (.ListComp elt [⟨target, iter, ifs, 0⟩] scope pos) 0 it acc env) R s := by
  refine codeAny_loop rfl I (fun n s hI => ?_) n h
  show wpAny _ A ((compTurn (.ListComp elt [⟨target, iter, ifs, 0⟩] scope pos) 0 it acc env).onRaise (fun x => do noteFrame x env; theTreesLotGoes x)) _ _ s
  refine wpAny_noted (wpAny_noRaise ?_)
  rw [compTurn_list]
  refine wpAny_bind (wpAny_standAt (wpAny_bind (thn (turn n s hI) fun r s₁ h₁ => ?_)))
  cases r with
  | none => exact wpAny_pure h₁
  | some v =>
    refine wpAny_bind (thn h₁ fun _ s₂ h₂ => wpAny_bind (thn h₂ fun _ s₃ h₃ => wpAny_bind (thn h₃ fun ok s₄ h₄ => ?_)))
    cases ok with
    | false => exact wpAny_pure ⟨rfl, h₄⟩
    | true => exact wpAny_bind (wpAny_bind (thn h₄ fun x s₅ h₅ => wpAny_bind (thn h₅ fun _ s₆ h₆ => wpAny_pure (wpAny_pure ⟨rfl, h₆⟩))))
end

/-- a clause's tests -/
def PIf (X : Cx) (ifs : List Expr) (t : TT) : Prop :=
  ∀ (pins : List (Addr × Obj)) (s : Shared) (σ : St) (H : Hp) (Q : Bool → Hp → Prop), Inv X pins σ H s → t σ H Q →
    wpAny (model X.prog X.w) X.A (forIn ifs true fun c r => if r = true then do let ok ← isTrue c X.env (eval c X.env); pure (ForInStep.yield ok) else pure (ForInStep.yield r)) (TP X pins σ Q) X.xe s
def tYes : TT := fun _ H Q => Q true H
theorem pif_nil {X : Cx} : PIf X [] tYes := fun _ _ _ H _ I h => wpAny_tests_nil ⟨H, I, h⟩
/-- a target that binds names below n alone -/
def KeepFrom (n : Nat) (σ σ' : St) : Prop := σ'.length = σ.length ∧ ∀ i, n ≤ i → σ'[i]? = σ[i]?
theorem KeepFrom.refl (n : Nat) (σ : St) : KeepFrom n σ σ := ⟨rfl, fun _ _ => rfl⟩
theorem KeepFrom.trans {n : Nat} {a b c : St} (x : KeepFrom n a b) (y : KeepFrom n b c) : KeepFrom n a c := ⟨y.1.trans x.1, fun i h => (y.2 i h).trans (x.2 i h)⟩
theorem KeepFrom.set {n i : Nat} {σ : St} {v : V} (h : i < n) : KeepFrom n σ (σ.set i (some v)) := ⟨by simp, fun j hj => by rw [List.getElem?_set_ne (by omega)]⟩
def GKeep (n : Nat) (g : TG) : Prop := ∀ v σ H Q, g v σ H Q → g v σ H fun σ' H' => Q σ' H' ∧ KeepFrom n σ σ'
def GKeeps (n : Nat) (g : TGs) : Prop := ∀ vs σ H Q, g vs σ H Q → g vs σ H fun σ' H' => Q σ' H' ∧ KeepFrom n σ σ'
theorem gk_name {n i : Nat} (h : i < n) : GKeep n (gName i) := fun v σ H Q q => ⟨q, KeepFrom.set h⟩
theorem gk_nil {n : Nat} : GKeeps n gNil := fun vs σ H Q q => ⟨q.1, q.2, KeepFrom.refl n σ⟩
theorem gk_cons {n : Nat} {t : TG} {u : TGs} (mono : ∀ v σ H Q Q', (∀ σ' H', Q σ' H' → Q' σ' H') → t v σ H Q → t v σ H Q') (monos : ∀ v σ H Q Q', (∀ σ' H', Q σ' H' → Q' σ' H') → u v σ H Q → u v σ H Q') (h1 : GKeep n t) (h2 : GKeeps n u) : GKeeps n (gCons t u) := fun vs σ H Q q => by
  obtain ⟨v, r, e, q⟩ := q
  refine ⟨v, r, e, mono _ _ _ _ _ (fun σ' H' z => ?_) (h1 v σ H _ q)⟩
  exact monos _ _ _ _ _ (fun σ2 H2 y => ⟨y.1, z.2.trans y.2⟩) (h2 r σ' H' Q z.1)
theorem gk_tup {K : PySem.W.Frag} {n k : Nat} {t : TGs} (h : GKeeps n t) : GKeep n (gTup K k t) := fun v σ H Q q => by
  obtain ⟨a, xs, e, hq, hl, q⟩ := q
  exact ⟨a, xs, e, hq, hl, h xs σ H Q q⟩
theorem gm_name {i : Nat} : ∀ v σ H (Q Q' : St → Hp → Prop), (∀ σ' H', Q σ' H' → Q' σ' H') → gName i v σ H Q → gName i v σ H Q' := fun _ _ _ _ _ f q => f _ _ q
theorem gm_nil : ∀ v σ H (Q Q' : St → Hp → Prop), (∀ σ' H', Q σ' H' → Q' σ' H') → gNil v σ H Q → gNil v σ H Q' := fun _ _ _ _ _ f q => ⟨q.1, f _ _ q.2⟩
theorem gm_cons {t : TG} {u : TGs} (mono : ∀ v σ H Q Q', (∀ σ' H', Q σ' H' → Q' σ' H') → t v σ H Q → t v σ H Q') (monos : ∀ v σ H Q Q', (∀ σ' H', Q σ' H' → Q' σ' H') → u v σ H Q → u v σ H Q') :
    ∀ v σ H (Q Q' : St → Hp → Prop), (∀ σ' H', Q σ' H' → Q' σ' H') → gCons t u v σ H Q → gCons t u v σ H Q' := fun vs σ H Q Q' f q => by
  obtain ⟨v, r, e, q⟩ := q
  exact ⟨v, r, e, mono _ _ _ _ _ (fun σ' H' z => monos _ _ _ _ _ f z) q⟩

/-- the loop's reading: W by the turn, a measure, what has been gathered at D -/
def tLoop (J : It) (g : TG) (tc : TT) (te : TE) (σ0 : St) (D : Addr) (Z : Hp → Prop) (H : Hp) : Prop :=
  ∃ W : Nat → Nat → List V → Hp → Prop, (∃ m, W 0 m [] H) ∧ ∀ i m ys H, W i m ys H → H D = some (.lst ys) ∧ ((J.stop i H ∧ Z H) ∨ (J.go i H ∧ ∃ N : List V → Hp → Prop, (∀ zs H', N zs H' → ∃ m', m' < m ∧ W (i + 1) m' zs H') ∧ ∀ x H', J.yld i H x H' →
    g x σ0 H' fun σ2 H2 => tc σ2 H2 fun b H3 => if b = true then te σ2 H3 fun y H4 => H4 D = some (.lst ys) ∧ ys.length < sizeLine ∧ N (ys ++ [y]) (upd H4 D (.lst (ys ++ [y]))) else N ys H3))
def tComp (wi : TI) (T : List Str) (js : List Nat) (g : TG) (tc : TT) (te : TE) : TE := fun σ H Q => wi σ H fun J H1 => ∀ D, H1 D = none → tLoop J g tc te (st0 T js σ) D (Q (.ref D)) (upd H1 D (.lst []))

section
variable {X : Cx} {pins : List (Addr × Obj)} {σ : St} {H2 : Hp} {s2 : Shared} {scope : Scope} {T F : List Str} {cl : List (Str × Addr)} {fp : List Addr} {js : List Nat} {tg iter elt : Expr} {ifs : List Expr} {pos : Pos}
  {g : TG} {tc : TT} {te : TE} {J : It} {it : Addr} {tn : Nat → Heap → Prop} {E : Value → Shared → Prop} {RR : Value → Addr → Result → Shared → Prop}

theorem comp_block (hc : X.calm = true) (S : CompScope X.env.scope scope T F) (hjs : Paired (fun x j => X.N[j]? = some x) F js)
    (hg : ∀ cl C fp s H, PG (cxComp X (T ++ F) scope cl C fp s H) tg g) (hk : GKeep T.length g)
    (ht : ∀ cl C fp s H, PIf (cxComp X (T ++ F) scope cl C fp s H) ifs tc) (he : ∀ cl C fp s H, PE (cxComp X (T ++ F) scope cl C fp s H) elt te)
    (p1 : ∀ x c, cl.lookup x = some c → X.env.cells.lookup x = some c) (p2 : ∀ y ∈ scope.names, y.2 = .free → ∃ c, cl.lookup y.1 = some c)
    (I2 : Inv X pins σ H2 s2) (Tn : Turn X.prog X.w X.K tg J fp it tn) (st2 : tn 0 s2.heap) (f2 : ∀ b ∈ fp, FpOk X pins H2 b) (Z : Addr → Hp → Prop)
    (loop : ∀ D, H2 D = none → tLoop J g tc te (st0 T js σ) D (Z D) (upd H2 D (.lst [])))
    (hRR : ∀ D C H' s' m', s'.heap.Ns C m' → FpOk X pins H' C → Inv X pins σ H' s' → Z D H' → RR (.ref D) C (.ok .next) s') :
    wpAny (model X.prog X.w) X.A (newList []) (fun acc s₃ => wpAny (model X.prog X.w) X.A (newFunctionEnv scope X.env.globals cl [] X.env.qual none .none (some X.env)) (fun cenv s₄ =>
      codeAny (model X.prog X.w) X.A (.compStart (.ListComp elt [⟨tg, iter, ifs, 0⟩] scope pos) 0 (.ref it) acc { cenv with scope := relabel scope X.env }) (RR acc cenv.locals) s₄) E s₃) E s2 := by
  refine wpAny_newObj_type (wpAny_newFunctionEnv S.nocell (by intro y hy; cases hy) (fun h₁ hns hsb => ?_) S.kind)
  dsimp only at hns hsb ⊢
  have I3 : Inv X pins σ (upd H2 s2.heap.objs.size (.lst [])) { s2 with heap := s2.heap.push { cls := .type "list", data := .seq ([] : List Value).toArray } } := I2.lnew (its := []) (t' := s2.toks) .nil (Nat.zero_le _)
  have hobj : ∀ b ∈ fp, b < s2.heap.objs.size := fun b hb => by
    obtain ⟨o, e, _⟩ := Tn.obj _ _ st2 b hb
    exact Heap.lt_size e
  have f3 : ∀ b ∈ fp, FpOk X pins (upd H2 s2.heap.objs.size (.lst [])) b := fun b hb => ⟨by rw [upd_ne (Nat.ne_of_lt (hobj b hb))]; exact (f2 b hb).1, (f2 b hb).2⟩
  obtain ⟨W, ⟨m0, w0⟩, turn⟩ := loop s2.heap.objs.size I2.fresh
  generalize hs3 : ({ s2 with heap := s2.heap.push { cls := .type "list", data := .seq ([] : List Value).toArray } } : Shared) = s3 at I3
  have e3 : s2.heap.push { cls := .type "list", dict := none, data := .seq ([] : List Value).toArray } = s3.heap := by rw [← hs3]
  rw [e3] at hns hsb ⊢
  have sz3 : s3.heap.objs.size = s2.heap.objs.size + 1 := by rw [← e3, Heap.size_push]
  have hold : ∀ b o, s3.heap.get? b = some o → h₁.get? b = some o := fun b o e => hsb.extBut b o (Nat.ne_of_lt (Heap.lt_size e)) (Heap.get?_push_of_some _ e)
  have hobj3 : ∀ b ∈ fp, b < s3.heap.objs.size := fun b hb => by rw [sz3]; exact Nat.lt_succ_of_lt (hobj b hb)
  have J0 : Inv (cxComp X (T ++ F) scope cl s3.heap.objs.size fp s3 (upd H2 s2.heap.objs.size (.lst []))) [] (st0 T js σ) (upd H2 s2.heap.objs.size (.lst [])) { s3 with heap := h₁, toks := s2.toks + ([] : List (Str × Value)).length } :=
    inv_comp I3 S p1 p2 hjs (Nat.le_refl _) f3 hobj3 hns hold
  have stL : tn 0 h₁ := Tn.keep _ _ _ st2 fun b _ o e => hold b o (by rw [← e3]; exact Heap.get?_push_of_some _ e)
  have es : ({ s2 with heap := h₁, toks := s2.toks + ([] : List (Str × Value)).length } : Shared) = { s3 with heap := h₁, toks := s2.toks + ([] : List (Str × Value)).length } := by rw [← hs3]
  have main : codeAny (model X.prog X.w) X.A (.compLoop (.ListComp elt [⟨tg, iter, ifs, 0⟩] scope pos) 0 (.ref it) (.ref s2.heap.objs.size) (compEnvC scope cl s3.heap.objs.size X.env)) (RR (.ref s2.heap.objs.size) s3.heap.objs.size)
      { s3 with heap := h₁, toks := s2.toks + ([] : List (Str × Value)).length } := by
    have stat : ∀ {H' : Hp}, (∀ b ∈ fp, H' b = none) → ∀ b ∈ fp, FpOk (cxComp X (T ++ F) scope cl s3.heap.objs.size fp s3 (upd H2 s2.heap.objs.size (.lst []))) [] H' b := fun hn b hb =>
      ⟨hn b hb, Nat.ne_of_lt (hobj3 b hb), J0.ok.exfs b hb, .inl hb, (J0.ok.exf b hb).2, fun p hp => (by cases hp)⟩
    refine comp_turns (fun n s' => ∃ i ys H', Inv (cxComp X (T ++ F) scope cl s3.heap.objs.size fp s3 (upd H2 s2.heap.objs.size (.lst []))) [] (st0 T js σ) H' s' ∧ tn i s'.heap ∧ (∀ b ∈ fp, H' b = none) ∧ W i n ys H') ?_ m0
      ⟨0, [], _, J0, stL, fun b hb => (f3 b hb).1, w0⟩
    rintro n s4 ⟨i, ys, H4, I4, st4, fr4, w4⟩
    obtain ⟨hD, alt⟩ := turn i n ys H4 w4
    rcases alt with ⟨stop, z⟩ | ⟨go, N, hN, step⟩
    · refine thn (Tn.done (cxComp X (T ++ F) scope cl s3.heap.objs.size fp s3 (upd H2 s2.heap.objs.size (.lst []))) rfl rfl rfl hc i [] s4 _ H4 (fun _ _ => False) I4 (stat fr4) st4 stop) fun r s5 ⟨hr, I5⟩ => ?_
      subst hr
      obtain ⟨m5, n5, _⟩ := I5.loc
      have fC : FpOk X pins H4 s3.heap.objs.size := I2.fpOk (by rw [sz3]; exact Nat.le_succ _) I5.free
      exact hRR _ _ H4 s5 m5 n5 fC ((inv_back I3 I5 f3)) z
    · refine thn (Tn.item (cxComp X (T ++ F) scope cl s3.heap.objs.size fp s3 (upd H2 s2.heap.objs.size (.lst []))) rfl rfl rfl hc i [] s4 _ H4 (fun _ _ => False) I4 (stat fr4) st4 go) fun r s5 ⟨u, hr, h5⟩ => ?_
      subst hr
      refine thn h5 fun _ s6 ⟨x, H6, I6, r6, y6, st6, fr6⟩ => ?_
      have I6' := I6.pinned (stat fr6) (Tn.obj _ _ st6)
      refine thn (hg _ _ _ _ _ _ s6 _ H6 x u _ I6' r6 (hk x _ H6 _ (step x H6 y6))) fun _ s7 ⟨σ7, H7, I7, q7, kp⟩ => ?_
      refine thn (ht _ _ _ _ _ _ s7 σ7 H7 _ I7 q7) fun ok s8 ⟨H8, I8, q8⟩ => ?_
      have again : ∀ {s9 : Shared} {H9 : Hp}, Inv (cxComp X (T ++ F) scope cl s3.heap.objs.size fp s3 (upd H2 s2.heap.objs.size (.lst []))) ([] ++ pinsAt fp s6.heap) σ7 H9 s9 → ∀ {zs : List V}, (∃ m', m' < n ∧ W (i + 1) m' zs H9) →
          ∃ m, m < n ∧ ∃ i ys H', Inv (cxComp X (T ++ F) scope cl s3.heap.objs.size fp s3 (upd H2 s2.heap.objs.size (.lst []))) [] (st0 T js σ) H' s9 ∧ tn i s9.heap ∧ (∀ b ∈ fp, H' b = none) ∧ W i m ys H' := fun {s9 H9} I9 {zs} q9 => by
        obtain ⟨m', hm, w9⟩ := q9
        have I9' := I9.unpinned
        refine ⟨m', hm, i + 1, zs, H9, I9'.weak kp.1.symm (fun a v ea => ?_), Tn.keep _ _ _ st6 fun b hb o e => (I9.pin (b, o) (List.mem_append_right _ (List.mem_append_right _ (mem_pinsAt hb e)))).1, fun b hb => ?_, w9⟩
        · have ha : T.length ≤ a := by
            rcases Nat.lt_or_ge a T.length with z | z
            · exfalso
              unfold st0 at ea
              rw [List.getElem?_append_left (by simpa using z), List.getElem?_replicate] at ea
              split at ea <;> cases ea
            · exact z
          rw [kp.2 a ha]
          exact ea
        · obtain ⟨o, e, d⟩ := Tn.obj _ _ st6 b hb
          exact (I9.pin (b, o) (List.mem_append_right _ (List.mem_append_right _ (mem_pinsAt hb e)))).2.1
      cases ok with
      | false =>
        rw [if_neg Bool.false_ne_true] at q8 ⊢
        exact again I8 (hN _ _ q8)
      | true =>
        rw [if_pos rfl] at q8 ⊢
        refine thn (he _ _ _ _ _ _ s8 σ7 H8 _ I8 q8) fun y s9 ⟨v9, H9, I9, r9, hD9, hl9, q9⟩ => ?_
        refine thn (mt_append _ s9 σ7 H9 (.ref s2.heap.objs.size) [v9] (.ref s2.heap.objs.size) [y] (fun _ H10 => H10 = upd H9 s2.heap.objs.size (.lst (ys ++ [v9]))) I9 rfl (.cons r9 .nil) ⟨_, _, _, rfl, rfl, hD9, hl9, rfl⟩) fun _ s10 ⟨_, H10, I10, _, e10⟩ => ?_
        subst e10
        exact again I10 (hN _ _ q9)
  show codeAny _ _ _ _ ({ s2 with heap := h₁, toks := s2.toks + ([] : List (Str × Value)).length } : Shared)
  rw [es]
  exact codeAny_compStart_list main (Tn.self _ 0 _ _ _ stL main)

/-- [elt for tg in iter if ..] -/
theorem pe_comp {wi : TI} (hc : X.calm = true) (hi : PI X tg iter wi) (S : CompScope X.env.scope scope T F) (hjs : Paired (fun x j => X.N[j]? = some x) F js)
    (hg : ∀ cl C fp s H, PG (cxComp X (T ++ F) scope cl C fp s H) tg g) (hk : GKeep T.length g)
    (ht : ∀ cl C fp s H, PIf (cxComp X (T ++ F) scope cl C fp s H) ifs tc) (he : ∀ cl C fp s H, PE (cxComp X (T ++ F) scope cl C fp s H) elt te)
    (hs : ∀ x, foldedSetIterable iter X.env x = pure x := by intro _; rfl) : PE X (.ListComp elt [⟨tg, iter, ifs, 0⟩] scope pos) (tComp wi T js g tc te) := by
  intro pins s σ H Q I h
  obtain ⟨cl, hcl, p1, p2⟩ := closure_ok (cells_there I S)
  rw [eval_ListComp]
  refine wpAny_comprehension_free (use := none) rfl hs hcl S.kind S.loc (thn (hi pins s σ H _ I h) fun v s1 h1 => thn h1 fun itv s2 h2 => ?_)
  obtain ⟨it, fp, tn, J, H2, e, I2, Tn, st2, f2, loop⟩ := h2
  subst e
  refine comp_block (RR := fun acc C => compPost (model X.prog X.w) X.A X.xe none (EP X pins σ Q) acc C) hc S hjs hg hk ht he p1 p2 I2 Tn st2 f2 (fun D H' => Q (.ref D) H') loop ?_
  intro D C H' s' m' hn fC I' z
  obtain ⟨f0, f1, f2, f3, f4, f5⟩ := fC
  exact ⟨m', hn, fun h' sb => ⟨.ref D, H', I'.turned (t' := s'.toks) (fun b o hb e => (sb.2 b hb).trans e) f0 f1 f3 f4 f5, rfl, z⟩⟩

/-- x = [elt for tg in iter if ..] -/
theorem ps_setComp {wi : TI} {i : Nat} {y : Str} {py spos : Pos} (hc : X.calm = true) (hN : X.N.Nodup) (hy : X.N[i]? = some y) (hl : X.env.scope.names.lookup y = some .local ∨ X.env.scope.names.lookup y = some .cell) (hi : PI X tg iter wi) (S : CompScope X.env.scope scope T F) (hjs : Paired (fun x j => X.N[j]? = some x) F js)
    (hg : ∀ cl C fp s H, PG (cxComp X (T ++ F) scope cl C fp s H) tg g) (hk : GKeep T.length g)
    (ht : ∀ cl C fp s H, PIf (cxComp X (T ++ F) scope cl C fp s H) ifs tc) (he : ∀ cl C fp s H, PE (cxComp X (T ++ F) scope cl C fp s H) elt te)
    (hsw : swapsWith (.ListComp elt [⟨tg, iter, ifs, 0⟩] scope pos) (some (.Name y py)) spos.line X.env = pure true := by rfl)
    (hs : ∀ x, foldedSetIterable iter X.env x = pure x := by intro _; rfl) (hfn : X.fn y = true ∨ X.env.scope.names.lookup y = some .local := by first | exact .inl rfl | exact .inr rfl | assumption) :
    PS X (.Assign [.Name y py] (.ListComp elt [⟨tg, iter, ifs, 0⟩] scope pos) spos) (fun D σ H => tComp wi T js g tc te σ H fun v H1 => D.nx (σ.set i (some v)) H1) := by
  intro pins s σ H D I h
  obtain ⟨cl, hcl, p1, p2⟩ := closure_ok (cells_there I S)
  rw [exec_Assign_Name_used _ _ _ _ hsw]
  refine wpAny_bind (wpAny_standAt (wpAny_bind ?_))
  show wpAny _ X.A (do let _ ← comprehension (.ListComp elt [⟨tg, iter, ifs, 0⟩] scope pos) scope X.env _ (newList []) false (eval iter X.env) (some (assign (.Name y py) X.env))) _ _ s
  refine wpAny_bind (thn (wpAny_comprehension_free (use := some (assign (.Name y py) X.env)) (Q := fun _ s' => SP X pins D .next s') rfl hs hcl S.kind S.loc (thn (hi pins s σ H _ I h) fun v s1 h1 => thn h1 fun itv s2 h2 => ?_)) fun _ s' hq => wpAny_pure (wpAny_pure hq))
  obtain ⟨it, fp, tn, J, H2, e, I2, Tn, st2, f2, loop⟩ := h2
  subst e
  refine comp_block (RR := fun acc C => compPost (model X.prog X.w) X.A X.xe (some (assign (.Name y py) X.env)) (fun _ s' => SP X pins D .next s') acc C) hc S hjs hg hk ht he p1 p2 I2 Tn st2 f2 (fun D0 H' => D.nx (σ.set i (some (.ref D0))) H') loop ?_
  intro D0 C H' s' m' hn fC I' z
  obtain ⟨f0, f1, f2, f3, f4, f5⟩ := fC
  show wpAny _ X.A (assign (.Name y py) X.env (.ref D0)) _ _ s'
  refine wpAny_assign_Name (store_ok2 (v := .ref D0) I' hN hy hl rfl (fun s'' I'' ch => ?_) hfn)
  obtain ⟨a, sb, ha⟩ := ch
  have hCa : C ≠ a := by
    rcases ha with rfl | ha
    · exact f1
    · exact fun z => f4 y a ha z.symm
  exact ⟨m', hn.sameBut sb hCa, fun h' sb' => ⟨_, H', I''.turned (t' := s''.toks) (fun b o hb e => (sb'.2 b hb).trans e) f0 f1 f3 f4 f5, z⟩⟩
end
end L3

set_option Elab.async false
set_option linter.all false
set_option maxRecDepth 100000
set_option maxHeartbeats 4000000
namespace L3
open PySem PySem.Spec L2
open PyProof.Rows hiding St

def Itv (n : Nat) (val : Nat → V → Prop) : It := ⟨fun i _ => i < n, fun i H x H' => H' = H ∧ val i x, fun i _ => i = n⟩
/-- the sign at a place -/
def SignV (x : Str) (i : Nat) (v : V) : Prop := ∃ c, x.cps[i]? = some c ∧ v = .str ⟨#[c]⟩

theorem turn_str {P : Program} {w : World} {K : PySem.W.Frag} {tg : Expr} {it : Addr} {x : Str} {t : Tok} {T : String}
    (W : ∀ A : Around, A.handled = none → Walks P w A it [it] [it] x.cps.size (SignAt x) (fun i h => h.IsStrIter it T x t i))
    (hs : ∀ (A : Around) (i : Nat) (s : Shared) (Q : Value → Shared → Prop) (E : Value → Shared → Prop), s.heap.IsStrIter it T x t i → Q (.ref it) s → wpAny (model P w) A (pyIter (.ref it)) Q E s)
    (hT : ["enumerate", "zip", "dict_itemiterator", "dict_reverseitemiterator", "odict_iterator", "itertools.zip_longest", "itertools.pairwise"].contains T = false) :
    Turn P w K tg (Itv x.cps.size (SignV x)) [it] it (fun i h => h.IsStrIter it T x t i) where
  mem := by simp
  obj := fun i h st b hb => by
    have e : b = it := by simpa using hb
    subst e
    obtain ⟨o, e, c, d⟩ := st
    exact ⟨o, e, fun v z => by rw [d] at z; cases z⟩
  keep := fun i h h' st k => let ⟨o, e, r⟩ := st; ⟨o, k it (by simp) o e, r⟩
  item := by
    intro X hP hw hK hc i pins s σ H E I hf st hg
    subst hP hw hK
    obtain ⟨f0, f1, f2, f3, f4, f5⟩ := hf it (by simp)
    refine (W X.A (I.ok.hd hc)).item i s _ _ hg st fun v h' tk hv st' kk => ?_
    obtain ⟨c, u, hx, rfl⟩ := hv
    have I1 : Inv X pins σ H { s with heap := h', toks := tk } := I.turned (fun b o hb e => kk b o (by simpa using hb) e) f0 f1 f3 f4 f5
    obtain ⟨o, e, c', d⟩ := id st'
    exact ⟨_, rfl, go_of (s := { s with heap := h', toks := tk }) e c' d hT ⟨.str ⟨#[c]⟩, H, I1, ⟨u, rfl⟩, ⟨rfl, c, hx, rfl⟩, st', fun b hb => (hf b hb).1⟩⟩
  done := by
    intro X hP hw hK hc i pins s σ H E I hf st hg
    subst hP hw hK
    obtain ⟨f0, f1, f2, f3, f4, f5⟩ := hf it (by simp)
    have e : i = x.cps.size := hg
    subst e
    exact (W X.A (I.ok.hd hc)).done s _ _ st fun h' tk kk => ⟨rfl, I.turned (fun b o hb e => kk b o (by simpa using hb) e) f0 f1 f3 f4 f5⟩
  self := fun A i s Q E st h => hs A i s Q E st h

def truOf : V → Option Bool
  | .bl b => some b
  | .int i => some (i != 0)
  | .non => some false
  | _ => none
def truAt (ys : List V) (d : Bool) (i : Nat) : Bool := ((ys[i]?).bind truOf).getD d
theorem all_range (ys : List V) (h : ∀ y ∈ ys, (truOf y).isSome = true) : (List.range ys.length).all (truAt ys true) = ys.all fun y => truOf y == some true := by
  rw [Bool.eq_iff_iff, List.all_eq_true, List.all_eq_true]
  constructor
  · intro q y hy
    obtain ⟨i, hi, e⟩ := List.getElem_of_mem hy
    have z := q i (List.mem_range.mpr hi)
    unfold truAt at z
    rw [List.getElem?_eq_getElem hi, Option.bind_some, e] at z
    obtain ⟨b, hb⟩ := Option.isSome_iff_exists.mp (h y hy)
    rw [hb] at z ⊢
    simpa using z
  · intro q i hi
    have hi' := List.mem_range.mp hi
    have z := q _ (List.getElem_mem hi')
    unfold truAt
    rw [List.getElem?_eq_getElem hi', Option.bind_some, eq_of_beq z]
    rfl
theorem truth_of {P : Program} {w : World} {A : Around} {ys : List V} {its : List Value} (d : Bool) (r : Vals ys its) (h : ∀ y ∈ ys, (truOf y).isSome = true) : TruthOf P w A (fun i v => its.toArray[i]? = some v) (truAt ys d) := by
  intro i v s Q E hP hQ
  obtain ⟨y, hy, ry⟩ := paired_get r (show its[i]? = some v by simpa using hP)
  unfold truAt at hQ
  rw [hy, Option.bind_some] at hQ
  have hs := h y (List.mem_of_getElem? hy)
  cases y with
  | bl b => cases ry; exact wpAny_truthy_bool hQ
  | int k => obtain ⟨t, rfl⟩ := ry; exact PySem.P.truthy_int hQ
  | non => cases ry; exact truthy_none hQ
  | _ => cases hs

section
variable {X : Cx}
theorem kept_push {s : Shared} {h' : Heap} {o : Obj} (hk : ∀ b x, b ∉ [s.heap.objs.size] → (s.heap.push o).get? b = some x → h'.get? b = some x) : ∀ b x, s.heap.get? b = some x → h'.get? b = some x :=
  fun b x e => hk b x (by simpa using Nat.ne_of_lt (Heap.lt_size e)) (Heap.get?_push_of_some _ e)
/-- all(xs), any(xs) of a list or a tuple of bools, ints, None -/
def rAll (K : PySem.W.Frag) (f : List V → Bool) : List V → Hp → VK → Prop := fun xs H Q => ∃ p ys, xs = [.ref p] ∧ (SqL K H p ys ∨ SqT K H p ys) ∧ (∀ y ∈ ys, (truOf y).isSome = true) ∧ Q (.bl (f ys)) H
theorem call_all_seq (hc : X.calm = true) : CallR X (.builtin "all") (rAll X.K fun ys => ys.all fun y => truOf y == some true) := by
  intro pins s σ H xs us Q I r h
  obtain ⟨p, ys, rfl, hq, ht, q⟩ := h
  obtain ⟨u, rfl, rx⟩ := vals1 r
  cases rx
  rcases hq with hq | hq
  · obtain ⟨its, rv, pl, hz⟩ := I.list hq
    have hlt : p < s.heap.objs.size := by obtain ⟨_, e, _⟩ := pl.isList; exact Heap.lt_size e
    refine call_all_walk (wpAny_pyIter_list pl.isList ⟨s.heap.objs.size, [s.heap.objs.size, p], [s.heap.objs.size], its.toArray.size, _, _, truAt ys true, rfl, Walks.list (A := X.A.in1) (I.ok.hd hc) _ p (Nat.ne_of_lt hlt) its.toArray,
      ⟨⟨_, Heap.get?_push_size _ rfl, rfl, rfl⟩, pl.isList.push _⟩, truth_of true rv ht, fun h' tk hk => ?_⟩)
    rw [List.size_toArray, ← rv.length, all_range ys ht]
    exact ⟨.bl _, H, I.kept (kept_push hk), rfl, q⟩
  · obtain ⟨its, rv, pl, hz⟩ := I.tuple hq
    have hlt : p < s.heap.objs.size := by obtain ⟨_, e, _⟩ := pl; exact Heap.lt_size e
    have pl' : s.heap.IsTuple p its.toArray := pl
    refine call_all_walk (wpAny_pyIter_tuple pl' ⟨s.heap.objs.size, [s.heap.objs.size, p], [s.heap.objs.size], its.toArray.size, _, _, truAt ys true, rfl, Walks.tuple (A := X.A.in1) (I.ok.hd hc) _ p (Nat.ne_of_lt hlt) its.toArray,
      ⟨⟨_, Heap.get?_push_size _ rfl, rfl, rfl⟩, pl'.at fun o e => Heap.get?_push_of_some _ e⟩, truth_of true rv ht, fun h' tk hk => ?_⟩)
    rw [List.size_toArray, ← rv.length, all_range ys ht]
    exact ⟨.bl _, H, I.kept (kept_push hk), rfl, q⟩
end
end L3

set_option Elab.async false
set_option linter.all false
set_option maxRecDepth 100000
set_option maxHeartbeats 4000000
namespace DL
open PySem PySem.Spec L2 L3
open PyProof.Rows hiding St

/-- a constant of the module: it lies outside what changes -/
inductive Cst where
  | int (i : Int) | str (x : Str) | tup (cs : List Cst)
mutual
def CRep (K : PySem.W.Frag) : Cst → V → Prop
  | .int i, v => v = .int i
  | .str x, v => v = .str x
  | .tup cs, v => ∃ (a : Addr) (o : Obj) (its : Array Value) (n : Nat) (xs : List V), v = .ref a ∧ K.lookup a = some o ∧ o.cls = .type "tuple" ∧ o.data = .seq its n ∧ its.size ≤ sizeLine ∧ Vals xs its.toList ∧ CReps K cs xs
def CReps (K : PySem.W.Frag) : List Cst → List V → Prop
  | [], xs => xs = []
  | c :: cs, xs => ∃ v r, xs = v :: r ∧ CRep K c v ∧ CReps K cs r
end
/-- a value with all that it holds -/
inductive D where
  | non | bl (b : Bool) | int (i : Int) | str (x : Str) | ty (n : String)
  | tup (ds : List D) | lst (ds : List D) | dk (ks : List Key) (ds : List D) | dt (ks : List (List Key)) (ds : List D)
  /-- the script -/
  | scr (ns : List Int)
  /-- an exception of the class at C -/
  | exc (C : Addr)
  | cn (c : Cst)

/-- the script at a -/
def Scr (K : PySem.W.Frag) (H : Hp) (a : Addr) (ns : List Int) : Prop :=
  (∃ o, H a = some (.frz o (.lst (ns.map V.int)))) ∨
    ∃ (o : Obj) (its : Array Value) (n : Nat), K.lookup a = some o ∧ o.cls = .type "list" ∧ o.dict = none ∧ o.data = .seq its n ∧ its.size ≤ sizeLine ∧ Vals (ns.map V.int) its.toList
theorem Scr.seq {K : PySem.W.Frag} {H : Hp} {a : Addr} {ns : List Int} (h : Scr K H a ns) : SqL K H a (ns.map V.int) := by
  rcases h with ⟨o, h⟩ | h
  · exact .inl (.inr ⟨o, h⟩)
  · exact .inr h

/-- a tuple that is tracked -/
def SqR (K : PySem.W.Frag) (H : Hp) (a : Addr) (xs : List V) : Prop := SqT K H a xs ∧ H a = some (.tup xs)
/-- an exception of the class at C, known by its class alone -/
def ExcO (a C : Addr) : HO := .ext fun h => ∃ o, h.get? a = some o ∧ o.cls = .ref C ∧ PySem.W.notCls o = true
mutual
/-- the value v stands for d; none of its lists and dicts lies in O -/
def Rep (K : PySem.W.Frag) (H : Hp) (O : List Addr) : D → V → Prop
  | .non, v => v = .non
  | .bl b, v => v = .bl b
  | .int i, v => v = .int i
  | .str x, v => v = .str x
  | .ty n, v => v = .ty n
  | .cn c, v => CRep K c v
  | .tup ds, v => ∃ a xs, v = .ref a ∧ SqR K H a xs ∧ Reps K H O ds xs
  | .lst ds, v => ∃ a xs, v = .ref a ∧ H a = some (.lst xs) ∧ a ∉ O ∧ Reps K H O ds xs
  | .scr ns, v => ∃ a, v = .ref a ∧ Scr K H a ns
  | .exc C, v => ∃ a, v = .ref a ∧ H a = some (ExcO a C) ∧ a ∉ O
  | .dk ks ds, v => ∃ a xs, v = .ref a ∧ H a = some (.dK (ks.zip xs)) ∧ a ∉ O ∧ ks.length = ds.length ∧ ks.Nodup ∧ Reps K H O ds xs
  | .dt ks ds, v => ∃ a xs, v = .ref a ∧ H a = some (.dT (ks.zip xs)) ∧ a ∉ O ∧ ks.length = ds.length ∧ ks.Nodup ∧ Reps K H O ds xs
def Reps (K : PySem.W.Frag) (H : Hp) (O : List Addr) : List D → List V → Prop
  | [], xs => xs = []
  | d :: ds, xs => ∃ v r, xs = v :: r ∧ Rep K H O d v ∧ Reps K H O ds r
end

/-- what stands outside O is kept -/
structure Grow (O O' : List Addr) (H H' : Hp) : Prop where
  keep : ∀ b u, H b = some u → b ∉ O → H' b = some u ∧ b ∉ O'
  tups : ∀ b xs, H b = some (.tup xs) → H' b = some (.tup xs)
  frzs : ∀ b o u, H b = some (.frz o u) → H' b = some (.frz o u)
theorem Grow.same {O : List Addr} {H H' : Hp} (s : Same H H') : Grow O O H H' := ⟨fun b u h n => ⟨s b u h, n⟩, fun b xs h => s b _ h, fun b o u h => s b _ h⟩
theorem Grow.refl {O : List Addr} {H : Hp} : Grow O O H H := Grow.same (Same.refl H)
theorem Grow.trans {O O' O'' : List Addr} {H H' H'' : Hp} (a : Grow O O' H H') (b : Grow O' O'' H' H'') : Grow O O'' H H'' :=
  ⟨fun c u h n => let ⟨h', n'⟩ := a.keep c u h n; b.keep c u h' n', fun c xs h => b.tups c xs (a.tups c xs h), fun c o u h => b.frzs c o u (a.frzs c o u h)⟩

theorem sqT_grow {K : PySem.W.Frag} {O O' : List Addr} {H H' : Hp} {a : Addr} {xs : List V} (g : Grow O O' H H') (h : SqT K H a xs) : SqT K H' a xs := by
  rcases h with (h | ⟨o, h⟩) | h
  · exact .inl (.inl (g.tups _ _ h))
  · exact .inl (.inr ⟨o, g.frzs _ _ _ h⟩)
  · exact .inr h
theorem sqR_grow {K : PySem.W.Frag} {O O' : List Addr} {H H' : Hp} {a : Addr} {xs : List V} (g : Grow O O' H H') (h : SqR K H a xs) : SqR K H' a xs := ⟨sqT_grow g h.1, g.tups _ _ h.2⟩
theorem scr_grow {K : PySem.W.Frag} {O O' : List Addr} {H H' : Hp} {a : Addr} {ns : List Int} (g : Grow O O' H H') (h : Scr K H a ns) : Scr K H' a ns := by
  rcases h with ⟨o, h⟩ | h
  · exact .inl ⟨o, g.frzs _ _ _ h⟩
  · exact .inr h
mutual
theorem Rep.grow {K : PySem.W.Frag} {O O' : List Addr} {H H' : Hp} (g : Grow O O' H H') : ∀ (d : D) (v : V), Rep K H O d v → Rep K H' O' d v
  | .non, _, h => h
  | .bl _, _, h => h
  | .int _, _, h => h
  | .str _, _, h => h
  | .ty _, _, h => h
  | .cn _, _, h => h
  | .tup ds, v, h => by
    obtain ⟨a, xs, e, q, r⟩ := h
    exact ⟨a, xs, e, sqR_grow g q, Reps.grow g ds xs r⟩
  | .lst ds, v, h => by
    obtain ⟨a, xs, e, q, n, r⟩ := h
    exact ⟨a, xs, e, (g.keep _ _ q n).1, (g.keep _ _ q n).2, Reps.grow g ds xs r⟩
  | .scr ns, v, h => by
    obtain ⟨a, e, q⟩ := h
    exact ⟨a, e, scr_grow g q⟩
  | .exc C, v, h => by
    obtain ⟨a, e, q, n⟩ := h
    exact ⟨a, e, (g.keep _ _ q n).1, (g.keep _ _ q n).2⟩
  | .dk ks ds, v, h => by
    obtain ⟨a, xs, e, q, n, l, nd, r⟩ := h
    exact ⟨a, xs, e, (g.keep _ _ q n).1, (g.keep _ _ q n).2, l, nd, Reps.grow g ds xs r⟩
  | .dt ks ds, v, h => by
    obtain ⟨a, xs, e, q, n, l, nd, r⟩ := h
    exact ⟨a, xs, e, (g.keep _ _ q n).1, (g.keep _ _ q n).2, l, nd, Reps.grow g ds xs r⟩
theorem Reps.grow {K : PySem.W.Frag} {O O' : List Addr} {H H' : Hp} (g : Grow O O' H H') : ∀ (ds : List D) (xs : List V), Reps K H O ds xs → Reps K H' O' ds xs
  | [], _, h => h
  | d :: ds, xs, h => by
    obtain ⟨v, r, e, q, t⟩ := h
    exact ⟨v, r, e, Rep.grow g d v q, Reps.grow g ds r t⟩
end
mutual
theorem Rep.sub {K : PySem.W.Frag} {O O' : List Addr} {H : Hp} (g : ∀ a ∈ O', a ∈ O) : ∀ (d : D) (v : V), Rep K H O d v → Rep K H O' d v
  | .non, _, h => h
  | .bl _, _, h => h
  | .int _, _, h => h
  | .str _, _, h => h
  | .ty _, _, h => h
  | .cn _, _, h => h
  | .tup ds, v, h => by
    obtain ⟨a, xs, e, q, r⟩ := h
    exact ⟨a, xs, e, q, Reps.sub g ds xs r⟩
  | .lst ds, v, h => by
    obtain ⟨a, xs, e, q, n, r⟩ := h
    exact ⟨a, xs, e, q, fun z => n (g a z), Reps.sub g ds xs r⟩
  | .scr _, _, h => h
  | .exc _, _, h => by
    obtain ⟨a, e, q, n⟩ := h
    exact ⟨a, e, q, fun z => n (g a z)⟩
  | .dk ks ds, v, h => by
    obtain ⟨a, xs, e, q, n, l, nd, r⟩ := h
    exact ⟨a, xs, e, q, fun z => n (g a z), l, nd, Reps.sub g ds xs r⟩
  | .dt ks ds, v, h => by
    obtain ⟨a, xs, e, q, n, l, nd, r⟩ := h
    exact ⟨a, xs, e, q, fun z => n (g a z), l, nd, Reps.sub g ds xs r⟩
theorem Reps.sub {K : PySem.W.Frag} {O O' : List Addr} {H : Hp} (g : ∀ a ∈ O', a ∈ O) : ∀ (ds : List D) (xs : List V), Reps K H O ds xs → Reps K H O' ds xs
  | [], _, h => h
  | d :: ds, xs, h => by
    obtain ⟨v, r, e, q, t⟩ := h
    exact ⟨v, r, e, Rep.sub g d v q, Reps.sub g ds r t⟩
end
mutual
def pureD : D → Prop
  | .tup ds => pureDs ds
  | .lst _ => False
  | .dk _ _ => False
  | .dt _ _ => False
  | .scr _ => True
  | .exc _ => False
  | .non => True
  | .bl _ => True
  | .int _ => True
  | .str _ => True
  | .ty _ => True
  | .cn _ => True
def pureDs : List D → Prop
  | [] => True
  | d :: ds => pureD d ∧ pureDs ds
end
theorem pureDs_iff : ∀ {ds : List D}, pureDs ds ↔ ∀ d ∈ ds, pureD d
  | [] => by simp [pureDs]
  | d :: ds => by
    rw [pureDs, pureDs_iff]
    simp
mutual
theorem Rep.pure {K : PySem.W.Frag} {O O' : List Addr} {H : Hp} : ∀ (d : D) (v : V), pureD d → Rep K H O d v → Rep K H O' d v
  | .non, _, _, h => h
  | .bl _, _, _, h => h
  | .int _, _, _, h => h
  | .str _, _, _, h => h
  | .ty _, _, _, h => h
  | .cn _, _, _, h => h
  | .tup ds, v, p, h => by
    obtain ⟨a, xs, e, q, r⟩ := h
    exact ⟨a, xs, e, q, Reps.pure ds xs p r⟩
  | .scr _, _, _, h => h
  | .exc _, _, p, _ => p.elim
  | .lst ds, v, p, h => p.elim
  | .dk ks ds, v, p, h => p.elim
  | .dt ks ds, v, p, h => p.elim
theorem Reps.pure {K : PySem.W.Frag} {O O' : List Addr} {H : Hp} : ∀ (ds : List D) (xs : List V), pureDs ds → Reps K H O ds xs → Reps K H O' ds xs
  | [], _, _, h => h
  | d :: ds, xs, p, h => by
    obtain ⟨v, r, e, q, t⟩ := h
    exact ⟨v, r, e, Rep.pure d v p.1 q, Reps.pure ds r p.2 t⟩
end

mutual
def RepN (K : PySem.W.Frag) (H : Hp) (P : Addr → Prop) : D → V → Prop
  | .non, v => v = .non
  | .bl b, v => v = .bl b
  | .int i, v => v = .int i
  | .str x, v => v = .str x
  | .ty n, v => v = .ty n
  | .cn c, v => CRep K c v
  | .tup ds, v => ∃ a xs, v = .ref a ∧ SqR K H a xs ∧ RepNs K H P ds xs
  | .lst ds, v => ∃ a xs, v = .ref a ∧ H a = some (.lst xs) ∧ P a ∧ RepNs K H P ds xs
  | .scr ns, v => ∃ a, v = .ref a ∧ Scr K H a ns
  | .exc C, v => ∃ a, v = .ref a ∧ H a = some (ExcO a C) ∧ P a
  | .dk ks ds, v => ∃ a xs, v = .ref a ∧ H a = some (.dK (ks.zip xs)) ∧ P a ∧ ks.length = ds.length ∧ ks.Nodup ∧ RepNs K H P ds xs
  | .dt ks ds, v => ∃ a xs, v = .ref a ∧ H a = some (.dT (ks.zip xs)) ∧ P a ∧ ks.length = ds.length ∧ ks.Nodup ∧ RepNs K H P ds xs
def RepNs (K : PySem.W.Frag) (H : Hp) (P : Addr → Prop) : List D → List V → Prop
  | [], xs => xs = []
  | d :: ds, xs => ∃ v r, xs = v :: r ∧ RepN K H P d v ∧ RepNs K H P ds r
end
mutual
theorem RepN.to {K : PySem.W.Frag} {P P' : Addr → Prop} {H H' : Hp} (s : Same H H') (g : ∀ a, P a → P' a) : ∀ (d : D) (v : V), RepN K H P d v → RepN K H' P' d v
  | .non, _, h => h
  | .bl _, _, h => h
  | .int _, _, h => h
  | .str _, _, h => h
  | .ty _, _, h => h
  | .cn _, _, h => h
  | .tup ds, v, h => by
    obtain ⟨a, xs, e, q, r⟩ := h
    exact ⟨a, xs, e, sqR_grow (Grow.same (O := []) s) q, RepNs.to s g ds xs r⟩
  | .lst ds, v, h => by
    obtain ⟨a, xs, e, q, n, r⟩ := h
    exact ⟨a, xs, e, s _ _ q, g a n, RepNs.to s g ds xs r⟩
  | .scr ns, v, h => by
    obtain ⟨a, e, q⟩ := h
    exact ⟨a, e, scr_grow (Grow.same (O := []) s) q⟩
  | .exc C, v, h => by
    obtain ⟨a, e, q, n⟩ := h
    exact ⟨a, e, s _ _ q, g a n⟩
  | .dk ks ds, v, h => by
    obtain ⟨a, xs, e, q, n, l, nd, r⟩ := h
    exact ⟨a, xs, e, s _ _ q, g a n, l, nd, RepNs.to s g ds xs r⟩
  | .dt ks ds, v, h => by
    obtain ⟨a, xs, e, q, n, l, nd, r⟩ := h
    exact ⟨a, xs, e, s _ _ q, g a n, l, nd, RepNs.to s g ds xs r⟩
theorem RepNs.to {K : PySem.W.Frag} {P P' : Addr → Prop} {H H' : Hp} (s : Same H H') (g : ∀ a, P a → P' a) : ∀ (ds : List D) (xs : List V), RepNs K H P ds xs → RepNs K H' P' ds xs
  | [], _, h => h
  | d :: ds, xs, h => by
    obtain ⟨v, r, e, q, t⟩ := h
    exact ⟨v, r, e, RepN.to s g d v q, RepNs.to s g ds r t⟩
end
mutual
theorem RepN.rep {K : PySem.W.Frag} {P : Addr → Prop} {H : Hp} {O : List Addr} (g : ∀ a, P a → a ∉ O) : ∀ (d : D) (v : V), RepN K H P d v → Rep K H O d v
  | .non, _, h => h
  | .bl _, _, h => h
  | .int _, _, h => h
  | .str _, _, h => h
  | .ty _, _, h => h
  | .cn _, _, h => h
  | .tup ds, v, h => by
    obtain ⟨a, xs, e, q, r⟩ := h
    exact ⟨a, xs, e, q, RepNs.reps g ds xs r⟩
  | .lst ds, v, h => by
    obtain ⟨a, xs, e, q, n, r⟩ := h
    exact ⟨a, xs, e, q, g a n, RepNs.reps g ds xs r⟩
  | .scr _, _, h => h
  | .exc C, v, h => by
    obtain ⟨a, e, q, n⟩ := h
    exact ⟨a, e, q, g a n⟩
  | .dk ks ds, v, h => by
    obtain ⟨a, xs, e, q, n, l, nd, r⟩ := h
    exact ⟨a, xs, e, q, g a n, l, nd, RepNs.reps g ds xs r⟩
  | .dt ks ds, v, h => by
    obtain ⟨a, xs, e, q, n, l, nd, r⟩ := h
    exact ⟨a, xs, e, q, g a n, l, nd, RepNs.reps g ds xs r⟩
theorem RepNs.reps {K : PySem.W.Frag} {P : Addr → Prop} {H : Hp} {O : List Addr} (g : ∀ a, P a → a ∉ O) : ∀ (ds : List D) (xs : List V), RepNs K H P ds xs → Reps K H O ds xs
  | [], _, h => h
  | d :: ds, xs, h => by
    obtain ⟨v, r, e, q, t⟩ := h
    exact ⟨v, r, e, RepN.rep g d v q, RepNs.reps g ds r t⟩
end
mutual
theorem Rep.toN {K : PySem.W.Frag} {P : Addr → Prop} {O : List Addr} {H : Hp} : ∀ (d : D) (v : V), pureD d → Rep K H O d v → RepN K H P d v
  | .non, _, _, h => h
  | .bl _, _, _, h => h
  | .int _, _, _, h => h
  | .str _, _, _, h => h
  | .ty _, _, _, h => h
  | .cn _, _, _, h => h
  | .tup ds, v, p, h => by
    obtain ⟨a, xs, e, q, r⟩ := h
    exact ⟨a, xs, e, q, Reps.toN ds xs p r⟩
  | .scr _, _, _, h => h
  | .exc _, _, p, _ => p.elim
  | .lst ds, v, p, h => p.elim
  | .dk ks ds, v, p, h => p.elim
  | .dt ks ds, v, p, h => p.elim
theorem Reps.toN {K : PySem.W.Frag} {P : Addr → Prop} {O : List Addr} {H : Hp} : ∀ (ds : List D) (xs : List V), pureDs ds → Reps K H O ds xs → RepNs K H P ds xs
  | [], _, _, h => h
  | d :: ds, xs, p, h => by
    obtain ⟨v, r, e, q, t⟩ := h
    exact ⟨v, r, e, Rep.toN d v p.1 q, Reps.toN ds r p.2 t⟩
end
theorem RepNs.append {K : PySem.W.Frag} {P : Addr → Prop} {H : Hp} : ∀ {ds es : List D} {xs ys : List V}, RepNs K H P ds xs → RepNs K H P es ys → RepNs K H P (ds ++ es) (xs ++ ys)
  | [], es, xs, ys, h, h' => by cases h; exact h'
  | d :: ds, es, xs, ys, h, h' => by
    obtain ⟨v, r, rfl, q, t⟩ := h
    exact ⟨v, r ++ ys, rfl, q, RepNs.append t h'⟩
theorem RepNs.length {K : PySem.W.Frag} {P : Addr → Prop} {H : Hp} {ds : List D} {xs : List V} (h : RepNs K H P ds xs) : xs.length = ds.length := by
  induction ds generalizing xs with
  | nil => cases (show xs = [] from h); rfl
  | cons d ds ih =>
    obtain ⟨v, r, rfl, _, t⟩ := h
    simp [ih t]

section
variable {K : PySem.W.Frag} {H : Hp} {O : List Addr}
theorem Reps.length : ∀ {ds : List D} {xs : List V}, Reps K H O ds xs → xs.length = ds.length
  | [], _, h => by cases h; rfl
  | d :: ds, xs, h => by
    obtain ⟨v, r, e, _, t⟩ := h
    subst e
    simp [Reps.length t]
theorem Reps.get : ∀ {ds : List D} {xs : List V} {i : Nat} {d : D}, Reps K H O ds xs → ds[i]? = some d → ∃ v, xs[i]? = some v ∧ Rep K H O d v
  | [], _, _, _, _, e => by simp at e
  | d :: ds, xs, 0, d', h, e => by
    obtain ⟨v, r, rfl, q, _⟩ := h
    simp at e
    subst e
    exact ⟨v, rfl, q⟩
  | d :: ds, xs, i + 1, d', h, e => by
    obtain ⟨v, r, rfl, _, t⟩ := h
    obtain ⟨v', e', q'⟩ := Reps.get (i := i) t (by simpa using e)
    exact ⟨v', by simpa using e', q'⟩
theorem Reps.at : ∀ {ds : List D} {xs : List V} {i : Nat} {v : V}, Reps K H O ds xs → xs[i]? = some v → ∃ d, ds[i]? = some d ∧ Rep K H O d v := fun {ds xs i v} h e => by
  have hl := h.length
  have hi := (List.getElem?_eq_some_iff.mp e).1
  have hd : ds[i]? = some (ds[i]'(by omega)) := by simp [show i < ds.length by omega]
  obtain ⟨v', e', q⟩ := h.get hd
  rw [e] at e'
  cases e'
  exact ⟨_, hd, q⟩
theorem Reps.append : ∀ {ds es : List D} {xs ys : List V}, Reps K H O ds xs → Reps K H O es ys → Reps K H O (ds ++ es) (xs ++ ys)
  | [], es, xs, ys, h, h' => by cases h; exact h'
  | d :: ds, es, xs, ys, h, h' => by
    obtain ⟨v, r, rfl, q, t⟩ := h
    exact ⟨v, r ++ ys, rfl, q, Reps.append t h'⟩
theorem Reps.one {d : D} {v : V} (h : Rep K H O d v) : Reps K H O [d] [v] := ⟨v, [], rfl, h, rfl⟩
theorem Reps.take : ∀ {ds : List D} {xs : List V} (n : Nat), Reps K H O ds xs → Reps K H O (ds.take n) (xs.take n)
  | _, _, 0, _ => rfl
  | [], _, n + 1, h => by cases h; rfl
  | d :: ds, xs, n + 1, h => by
    obtain ⟨v, r, rfl, q, t⟩ := h
    exact ⟨v, r.take n, rfl, q, Reps.take n t⟩
theorem Reps.drop : ∀ {ds : List D} {xs : List V} (n : Nat), Reps K H O ds xs → Reps K H O (ds.drop n) (xs.drop n)
  | _, _, 0, h => h
  | [], _, n + 1, h => by cases h; rfl
  | d :: ds, xs, n + 1, h => by
    obtain ⟨v, r, rfl, q, t⟩ := h
    exact Reps.drop n t
theorem Reps.set : ∀ {ds : List D} {xs : List V} (n : Nat) {d : D} {v : V}, Rep K H O d v → Reps K H O ds xs → Reps K H O (ds.set n d) (xs.set n v)
  | [], _, _, _, _, _, h => by cases h; rfl
  | d :: ds, xs, 0, d', v', q', h => by
    obtain ⟨v, r, rfl, q, t⟩ := h
    exact ⟨v', r, rfl, q', t⟩
  | d :: ds, xs, n + 1, d', v', q', h => by
    obtain ⟨v, r, rfl, q, t⟩ := h
    exact ⟨v, r.set n v', rfl, q, Reps.set n q' t⟩
theorem Reps.ints : ∀ (ns : List Int), Reps K H O (ns.map D.int) (ns.map V.int)
  | [] => rfl
  | n :: ns => ⟨_, _, rfl, rfl, Reps.ints ns⟩
theorem Reps.dropLast {ds : List D} {xs : List V} (h : Reps K H O ds xs) : Reps K H O ds.dropLast xs.dropLast := by
  rw [List.dropLast_eq_take, List.dropLast_eq_take, h.length]
  exact h.take _
theorem Reps.rep {ds : List D} {xs : List V} (h : Reps K H O ds xs) : ∀ k : Nat, Reps K H O (List.replicate k ds).flatten (List.replicate k xs).flatten
  | 0 => rfl
  | k + 1 => by
    rw [List.replicate_succ, List.replicate_succ, List.flatten_cons, List.flatten_cons]
    exact h.append (Reps.rep h k)
end

/-- v as it is read: d, whatever its own place -/
def View (K : PySem.W.Frag) (H : Hp) (O : List Addr) (d : D) (v : V) : Prop := match d with
  | .lst ds => ∃ a xs, v = .ref a ∧ H a = some (.lst xs) ∧ Reps K H O ds xs
  | .dk ks ds => ∃ a xs, v = .ref a ∧ H a = some (.dK (ks.zip xs)) ∧ ks.length = ds.length ∧ ks.Nodup ∧ Reps K H O ds xs
  | .dt ks ds => ∃ a xs, v = .ref a ∧ H a = some (.dT (ks.zip xs)) ∧ ks.length = ds.length ∧ ks.Nodup ∧ Reps K H O ds xs
  | d => Rep K H O d v
/-- a list or dict that is ours, at a -/
def Con (K : PySem.W.Frag) (H : Hp) (O : List Addr) (d : D) (a : Addr) : Prop := match d with
  | .lst ds => ∃ xs, H a = some (.lst xs) ∧ Reps K H O ds xs
  | .dk ks ds => ∃ xs, H a = some (.dK (ks.zip xs)) ∧ ks.length = ds.length ∧ ks.Nodup ∧ Reps K H O ds xs
  | .dt ks ds => ∃ xs, H a = some (.dT (ks.zip xs)) ∧ ks.length = ds.length ∧ ks.Nodup ∧ Reps K H O ds xs
  | _ => False
theorem Rep.view {K : PySem.W.Frag} {H : Hp} {O : List Addr} {d : D} {v : V} (h : Rep K H O d v) : View K H O d v := by
  cases d with
  | lst ds => obtain ⟨a, xs, e, q, _, r⟩ := h; exact ⟨a, xs, e, q, r⟩
  | dk ks ds => obtain ⟨a, xs, e, q, _, r⟩ := h; exact ⟨a, xs, e, q, r⟩
  | dt ks ds => obtain ⟨a, xs, e, q, _, r⟩ := h; exact ⟨a, xs, e, q, r⟩
  | _ => exact h
theorem Con.view {K : PySem.W.Frag} {H : Hp} {O : List Addr} {d : D} {a : Addr} (h : Con K H O d a) : View K H O d (.ref a) := by
  cases d with
  | lst ds => obtain ⟨xs, q, r⟩ := h; exact ⟨a, xs, rfl, q, r⟩
  | dk ks ds => obtain ⟨xs, q, r⟩ := h; exact ⟨a, xs, rfl, q, r⟩
  | dt ks ds => obtain ⟨xs, q, r⟩ := h; exact ⟨a, xs, rfl, q, r⟩
  | _ => exact h.elim
theorem Con.rep {K : PySem.W.Frag} {H : Hp} {O : List Addr} {d : D} {a : Addr} (h : Con K H O d a) (n : a ∉ O) : Rep K H O d (.ref a) := by
  cases d with
  | lst ds => obtain ⟨xs, q, r⟩ := h; exact ⟨a, xs, rfl, q, n, r⟩
  | dk ks ds => obtain ⟨xs, q, r⟩ := h; exact ⟨a, xs, rfl, q, n, r⟩
  | dt ks ds => obtain ⟨xs, q, r⟩ := h; exact ⟨a, xs, rfl, q, n, r⟩
  | _ => exact h.elim
theorem Con.same {K : PySem.W.Frag} {H H' : Hp} {O : List Addr} {d : D} {a : Addr} (h : Con K H O d a) (s : Same H H') : Con K H' O d a := by
  cases d with
  | lst ds => obtain ⟨xs, q, r⟩ := h; exact ⟨xs, s _ _ q, Reps.grow (Grow.same s) _ _ r⟩
  | dk ks ds => obtain ⟨xs, q, l, n, r⟩ := h; exact ⟨xs, s _ _ q, l, n, Reps.grow (Grow.same s) _ _ r⟩
  | dt ks ds => obtain ⟨xs, q, l, n, r⟩ := h; exact ⟨xs, s _ _ q, l, n, Reps.grow (Grow.same s) _ _ r⟩
  | _ => exact h.elim
theorem Con.sub {K : PySem.W.Frag} {H : Hp} {O O' : List Addr} {d : D} {a : Addr} (h : Con K H O d a) (g : ∀ a ∈ O', a ∈ O) : Con K H O' d a := by
  cases d with
  | lst ds => obtain ⟨xs, q, r⟩ := h; exact ⟨xs, q, Reps.sub g _ _ r⟩
  | dk ks ds => obtain ⟨xs, q, l, n, r⟩ := h; exact ⟨xs, q, l, n, Reps.sub g _ _ r⟩
  | dt ks ds => obtain ⟨xs, q, l, n, r⟩ := h; exact ⟨xs, q, l, n, Reps.sub g _ _ r⟩
  | _ => exact h.elim
theorem View.sub {K : PySem.W.Frag} {H : Hp} {O O' : List Addr} {d : D} {v : V} (h : View K H O d v) (g : ∀ a ∈ O', a ∈ O) : View K H O' d v := by
  cases d with
  | lst ds => obtain ⟨a, xs, e, q, r⟩ := h; exact ⟨a, xs, e, q, Reps.sub g _ _ r⟩
  | dk ks ds => obtain ⟨a, xs, e, q, l, n, r⟩ := h; exact ⟨a, xs, e, q, l, n, Reps.sub g _ _ r⟩
  | dt ks ds => obtain ⟨a, xs, e, q, l, n, r⟩ := h; exact ⟨a, xs, e, q, l, n, Reps.sub g _ _ r⟩
  | _ => exact Rep.sub g _ _ h
theorem View.rep0 {K : PySem.W.Frag} {H : Hp} {O : List Addr} {d : D} {v : V} (h : View K H O d v) : Rep K H [] d v := by
  have h := h.sub (O' := []) (fun _ z => nomatch z)
  cases d with
  | lst ds => obtain ⟨a, xs, e, q, r⟩ := h; exact ⟨a, xs, e, q, by simp, r⟩
  | dk ks ds => obtain ⟨a, xs, e, q, l, n, r⟩ := h; exact ⟨a, xs, e, q, by simp, l, n, r⟩
  | dt ks ds => obtain ⟨a, xs, e, q, l, n, r⟩ := h; exact ⟨a, xs, e, q, by simp, l, n, r⟩
  | _ => exact h

/-- val: a thing that stays; own: the frame's own list or dict; fre: a new list or dict; new: a thing all whose lists and dicts are new -/
inductive Kd where | val | own | fre | new
  deriving DecidableEq
structure EV where
  k : Kd
  d : D
abbrev DE := List (Option EV)
abbrev dv (d : D) : EV := ⟨.val, d⟩
abbrev df (d : D) : EV := ⟨.fre, d⟩
abbrev dO (d : D) : EV := ⟨.own, d⟩
/-- H0: the heap at the expression's start -/
def RV (K : PySem.W.Frag) (H0 H : Hp) (O : List Addr) (r : EV) (v : V) : Prop := match r.k with
  | .val => Rep K H O r.d v
  | .own => ∃ a, v = .ref a ∧ a ∈ O ∧ Con K H O r.d a
  | .fre => ∃ a, v = .ref a ∧ H0 a = none ∧ a ∉ O ∧ Con K H (a :: O) r.d a
  | .new => RepN K H (fun a => a ∉ O ∧ H0 a = none) r.d v
section
variable {K : PySem.W.Frag} {H0 H1 H H' : Hp} {O : List Addr} {r : EV} {v : V}
theorem RV.val {d : D} (h : Rep K H O d v) : RV K H0 H O (dv d) v := h
theorem RV.same (h : RV K H0 H O r v) (s : Same H H') : RV K H0 H' O r v := by
  obtain ⟨k, d⟩ := r
  cases k with
  | val => exact Rep.grow (Grow.same s) _ _ h
  | own => obtain ⟨a, e, m, c⟩ := h; exact ⟨a, e, m, c.same s⟩
  | fre => obtain ⟨a, e, m, n, c⟩ := h; exact ⟨a, e, m, n, c.same s⟩
  | new => exact RepN.to s (fun _ z => z) _ _ h
theorem RV.start (h : RV K H0 H O r v) (s : Same H1 H0) : RV K H1 H O r v := by
  obtain ⟨k, d⟩ := r
  cases k with
  | val => exact h
  | own => exact h
  | fre => obtain ⟨a, e, m, n, c⟩ := h; exact ⟨a, e, s.free m, n, c⟩
  | new => exact RepN.to (Same.refl H) (fun a z => ⟨z.1, s.free z.2⟩) _ _ h
theorem RV.view (h : RV K H0 H O r v) : View K H O r.d v := by
  obtain ⟨k, d⟩ := r
  cases k with
  | val => exact Rep.view h
  | own => obtain ⟨a, e, m, c⟩ := h; subst e; exact c.view
  | fre => obtain ⟨a, e, m, n, c⟩ := h; subst e; exact (c.sub fun b hb => List.mem_cons_of_mem _ hb).view
  | new => exact (RepN.rep (fun a z => z.1) _ _ h).view
theorem RV.solid (h : RV K H0 H O r v) (hk : r.k ≠ .own) : Rep K H O r.d v := by
  obtain ⟨k, d⟩ := r
  cases k with
  | val => exact h
  | own => exact absurd rfl hk
  | fre => obtain ⟨a, e, m, n, c⟩ := h; subst e; exact (c.sub fun b hb => List.mem_cons_of_mem _ hb).rep n
  | new => exact RepN.rep (fun a z => z.1) _ _ h
end

/-- the frame: own lists and dicts by slot and place -/
structure REnv (K : PySem.W.Frag) (H₀ H : Hp) (σ : St) (ρ : DE) (o : List (Nat × Addr)) : Prop where
  same : Same H₀ H
  fresh : ∀ p ∈ o, H₀ p.2 = none
  trk : ∀ p ∈ o, ∃ u, H p.2 = some u
  mtb : ∀ p ∈ o, (∀ xs, H p.2 ≠ some (.tup xs)) ∧ ∀ ob u, H p.2 ≠ some (.frz ob u)
  nda : (o.map Prod.snd).Nodup
  slots : ∀ i r, ρ[i]? = some (some r) → ∃ v, σ[i]? = some (some v) ∧ ((r.k = .val ∧ Rep K H (o.map Prod.snd) r.d v) ∨ (r.k = .own ∧ ∃ a, v = .ref a ∧ (i, a) ∈ o ∧ Con K H (o.map Prod.snd) r.d a))
  len : σ.length = ρ.length
section
variable {K : PySem.W.Frag} {H₀ H H' : Hp} {σ : St} {ρ : DE} {o : List (Nat × Addr)}
theorem REnv.to (R : REnv K H₀ H σ ρ o) (s : Same H H') : REnv K H₀ H' σ ρ o where
  same := R.same.trans s
  fresh := R.fresh
  trk := fun p hp => let ⟨u, e⟩ := R.trk p hp; ⟨u, s _ _ e⟩
  mtb := fun p hp => by
    obtain ⟨u, e⟩ := R.trk p hp
    obtain ⟨m1, m2⟩ := R.mtb p hp
    refine ⟨fun xs z => ?_, fun ob w z => ?_⟩
    · rw [s _ _ e] at z; rw [← e] at z; exact m1 xs z
    · rw [s _ _ e] at z; rw [← e] at z; exact m2 ob w z
  nda := R.nda
  slots := fun i r e => by
    obtain ⟨v, ev, h⟩ := R.slots i r e
    refine ⟨v, ev, ?_⟩
    rcases h with ⟨k, h⟩ | ⟨k, a, e1, m, c⟩
    · exact .inl ⟨k, Rep.grow (Grow.same s) _ _ h⟩
    · exact .inr ⟨k, a, e1, m, c.same s⟩
  len := R.len
theorem REnv.ofree (R : REnv K H₀ H σ ρ o) {a : Addr} (h : H a = none) : a ∉ o.map Prod.snd := fun z => by
  obtain ⟨p, hp, e⟩ := List.mem_map.mp z
  obtain ⟨u, q⟩ := R.trk p hp
  rw [e, h] at q
  cases q
end

abbrev TD := DE → (EV → Prop) → Prop
abbrev TDb := DE → (Bool → Prop) → Prop
abbrev TDs := DE → (List EV → Prop) → Prop
structure DZ where
  nx : DE → Prop
  rt : EV → Prop
  bk : DE → Prop := fun _ => False
  ct : DE → Prop := fun _ => False
abbrev TDS := DE → DZ → Prop
def RVs (K : PySem.W.Frag) (H0 H : Hp) (O : List Addr) : List EV → List V → Prop
  | [], vs => vs = []
  | r :: rs, vs => ∃ v ws, vs = v :: ws ∧ RV K H0 H O r v ∧ RVs K H0 H O rs ws
theorem RVs.same {K : PySem.W.Frag} {H0 H H' : Hp} {O : List Addr} (s : Same H H') : ∀ {rs : List EV} {vs : List V}, RVs K H0 H O rs vs → RVs K H0 H' O rs vs
  | [], _, h => h
  | r :: rs, vs, h => by
    obtain ⟨v, ws, e, q, t⟩ := h
    exact ⟨v, ws, e, q.same s, t.same s⟩
theorem RVs.start {K : PySem.W.Frag} {H0 H1 H : Hp} {O : List Addr} (s : Same H1 H0) : ∀ {rs : List EV} {vs : List V}, RVs K H0 H O rs vs → RVs K H1 H O rs vs
  | [], _, h => h
  | r :: rs, vs, h => by
    obtain ⟨v, ws, e, q, t⟩ := h
    exact ⟨v, ws, e, q.start s, t.start s⟩
theorem RVs.reps {K : PySem.W.Frag} {H0 H : Hp} {O : List Addr} : ∀ {rs : List EV} {vs : List V}, RVs K H0 H O rs vs → (∀ r ∈ rs, r.k ≠ .own) → Reps K H O (rs.map EV.d) vs
  | [], _, h, _ => h
  | r :: rs, vs, h, n => by
    obtain ⟨v, ws, e, q, t⟩ := h
    exact ⟨v, ws, e, q.solid (n r (List.mem_cons_self ..)), t.reps fun r' h' => n r' (List.mem_cons_of_mem _ h')⟩
theorem RVs.reps0 {K : PySem.W.Frag} {H0 H : Hp} {O : List Addr} : ∀ {rs : List EV} {vs : List V}, RVs K H0 H O rs vs → Reps K H [] (rs.map EV.d) vs
  | [], _, h => h
  | r :: rs, vs, h => by
    obtain ⟨v, ws, e, q, t⟩ := h
    exact ⟨v, ws, e, q.view.rep0, t.reps0⟩

def liftE (K : PySem.W.Frag) (H₀ : Hp) (t : TD) : TE := fun σ H Q => ∃ ρ o, REnv K H₀ H σ ρ o ∧ ∃ φ, t ρ φ ∧ ∀ v r H', Same H H' → RV K H H' (o.map Prod.snd) r v → φ r → Q v H'
def liftT (K : PySem.W.Frag) (H₀ : Hp) (t : TDb) : TT := fun σ H Q => ∃ ρ o, REnv K H₀ H σ ρ o ∧ ∃ φ, t ρ φ ∧ ∀ b H', Same H H' → φ b → Q b H'
def liftA (K : PySem.W.Frag) (H₀ : Hp) (t : TDs) : TA := fun σ H Q => ∃ ρ o, REnv K H₀ H σ ρ o ∧ ∃ φ, t ρ φ ∧ ∀ vs rs H', Same H H' → RVs K H H' (o.map Prod.snd) rs vs → φ rs → Q vs H'
def liftS (K : PySem.W.Frag) (H₀ : Hp) (t : TDS) : TS := fun D σ H => ∃ ρ o, REnv K H₀ H σ ρ o ∧ ∃ Z, t ρ Z ∧
  (∀ ρ' σ' H' o', Grow (o.map Prod.snd) (o'.map Prod.snd) H H' → REnv K H₀ H' σ' ρ' o' → Z.nx ρ' → D.nx σ' H') ∧
  (∀ ρ' σ' H' o', Grow (o.map Prod.snd) (o'.map Prod.snd) H H' → REnv K H₀ H' σ' ρ' o' → Z.bk ρ' → D.bk σ' H') ∧
  (∀ ρ' σ' H' o', Grow (o.map Prod.snd) (o'.map Prod.snd) H H' → REnv K H₀ H' σ' ρ' o' → Z.ct ρ' → D.ct σ' H') ∧
  (∀ v r H', Same H₀ H' → RV K H₀ H' [] r v → Z.rt r → D.rt v H')
def ED (G : Hp → Prop) (X : Cx) (e : Expr) (t : TD) : Prop := ∀ H₀ : {H : Hp // G H}, PE X e (liftE X.K H₀.1 t)
def ET (G : Hp → Prop) (X : Cx) (e : Expr) (t : TDb) : Prop := ∀ H₀ : {H : Hp // G H}, PT X e (liftT X.K H₀.1 t)
def EW (G : Hp → Prop) (X : Cx) (e : Expr) (t : TDb) : Prop := ∀ H₀ : {H : Hp // G H}, PW X e (liftT X.K H₀.1 t)
def EA (G : Hp → Prop) (X : Cx) (es : List Expr) (t : TDs) : Prop := ∀ H₀ : {H : Hp // G H}, PA X es (liftA X.K H₀.1 t)
def SD (G : Hp → Prop) (X : Cx) (st : Stmt) (t : TDS) : Prop := ∀ H₀ : {H : Hp // G H}, PS X st (liftS X.K H₀.1 t)
def SDs (G : Hp → Prop) (X : Cx) (st : List Stmt) (t : TDS) : Prop := ∀ H₀ : {H : Hp // G H}, PSs X st (liftS X.K H₀.1 t)
theorem impE {X : Cx} {e : Expr} {t t' : TE} (h : PE X e t) (i : ∀ σ H Q, t' σ H Q → t σ H Q) : PE X e t' := fun pins s σ H Q I q => h pins s σ H Q I (i σ H Q q)
theorem impT {X : Cx} {e : Expr} {t t' : TT} (h : PT X e t) (i : ∀ σ H Q, t' σ H Q → t σ H Q) : PT X e t' := fun pins s σ H Q I q => h pins s σ H Q I (i σ H Q q)
theorem impW {X : Cx} {e : Expr} {t t' : TT} (h : PW X e t) (i : ∀ σ H Q, t' σ H Q → t σ H Q) : PW X e t' := fun wh pins s σ H Q I q => h wh pins s σ H Q I (i σ H Q q)
theorem impA {X : Cx} {es : List Expr} {t t' : TA} (h : PA X es t) (i : ∀ σ H Q, t' σ H Q → t σ H Q) : PA X es t' := fun pos pins s σ H Q I q => h pos pins s σ H Q I (i σ H Q q)
theorem impS {X : Cx} {st : Stmt} {t t' : TS} (h : PS X st t) (i : ∀ D σ H, t' D σ H → t D σ H) : PS X st t' := fun pins s σ H D I q => h pins s σ H D I (i D σ H q)
theorem impSs {X : Cx} {st : List Stmt} {t t' : TS} (h : PSs X st t) (i : ∀ D σ H, t' D σ H → t D σ H) : PSs X st t' := fun pins s σ H D I q => h pins s σ H D I (i D σ H q)
end DL

set_option Elab.async false
set_option linter.all false
set_option maxRecDepth 100000
set_option maxHeartbeats 4000000
namespace DL
open PySem PySem.Spec L2 L3
open PyProof.Rows hiding St
variable {Γ : Hp → Prop}

def slot : DE → Nat → Option EV
  | [], _ => none
  | x :: _, 0 => x
  | _ :: r, i + 1 => slot r i
theorem slot_eq : ∀ {ρ : DE} {i : Nat} {r : EV}, slot ρ i = some r → ρ[i]? = some (some r)
  | [], _, _, h => by cases h
  | x :: _, 0, _, h => by cases h; rfl
  | _ :: l, i + 1, r, h => by rw [List.getElem?_cons_succ]; exact slot_eq (ρ := l) h
def dName (i : Nat) : TD := fun ρ φ => match slot ρ i with
  | some r => φ r
  | none => False
def dC (d : D) : TD := fun _ φ => φ (dv d)
section
variable {X : Cx} {a b c e : Expr} {ta tb tc te : TD} {pos : Pos}
theorem ed_name (i : Nat) {x : Str} (hN : X.N[i]? = some x := by rfl) (hv : Vis X.env.scope x := by first | exact Or.inl rfl | exact Or.inr (Or.inl rfl) | exact Or.inr (Or.inr rfl)) (hd : (x == ("__debug__" : Str)) = false := by decide)
    (hcd : (x == ("__classdict__" : Str)) = false := by decide) : ED Γ X (.Name x pos) (dName i) := fun H₀ => impE (pe_var hN hv hd hcd) fun σ H Q h => by
  obtain ⟨ρ, o, R, φ, hφ, k⟩ := h
  cases e : slot ρ i with
  | none =>
    simp only [dName, e] at hφ
  | some r =>
    simp only [dName, e] at hφ
    obtain ⟨v, ev, h⟩ := R.slots i r (slot_eq e)
    refine ⟨v, ev, k v r H (Same.refl H) ?_ hφ⟩
    obtain ⟨kd, d⟩ := r
    rcases h with ⟨rfl, h⟩ | ⟨rfl, a, e1, m, c⟩
    · exact h
    · exact ⟨a, e1, List.mem_map.mpr ⟨_, m, rfl⟩, c⟩
theorem ed_c {x : Expr} {v : V} {d : D} (h : PE X x (tC v)) (hr : ∀ H O, Rep X.K H O d v) : ED Γ X x (dC d) := fun H₀ => impE h fun σ H Q h => by
  obtain ⟨ρ, o, R, φ, hφ, k⟩ := h
  exact k v (dv d) H (Same.refl H) (hr H _) hφ
theorem ed_int {i : Int} {j pos} : ED Γ X (.Constant (.int i) j pos) (dC (.int i)) := ed_c pe_int fun _ _ => rfl
theorem ed_bl {b : Bool} {j pos} : ED Γ X (.Constant (.bool b) j pos) (dC (.bl b)) := ed_c pe_bl fun _ _ => rfl
theorem ed_non {j pos} : ED Γ X (.Constant .none j pos) (dC .non) := ed_c pe_non fun _ _ => rfl
theorem ed_str {x : Str} {j pos} : ED Γ X (.Constant (.str x) j pos) (dC (.str x)) := ed_c pe_str fun _ _ => rfl
/-- a constant of the module -/
structure GC (K : PySem.W.Frag) (mg : Str → Option Value) (x : Str) (d : D) : Prop where
  ex : ∃ u v, mg x = some u ∧ RelV v u ∧ ∀ H O, Rep K H O d v
theorem ed_glob {x : Str} {d : D} (G : GC X.K X.mg x d) (hg : Gl X x := by rfl) (hd : (x == ("__debug__" : Str)) = false := by decide) : ED Γ X (.Name x pos) (dC d) := by
  obtain ⟨u, v, hm, r, h⟩ := G.ex
  exact ed_c (pe_glob hg hm r hd) h
theorem ed_ty {x : Str} {n : String} (hm : X.mg x = none) (hv : bootBuiltins x = some (.type n)) (hg : Gl X x := by rfl) (hn : x ≠ "__name__" := by decide) (hd : (x == ("__debug__" : Str)) = false := by decide) : ED Γ X (.Name x pos) (dC (.ty n)) :=
  ed_c (pe_bltn hg hm hv (v := .ty n) rfl hn hd) fun _ _ => rfl

def Link2 (K : PySem.W.Frag) (rr : R2) (s : D → D → (EV → Prop) → Prop) : Prop :=
  ∀ (H : Hp) (O : List Addr) (x y : D) (vx vy : V) (φ : EV → Prop) (Q : VK), (∀ a, H a = none → a ∉ O) → View K H O x vx → View K H O y vy → s x y φ →
    (∀ v r H', Same H H' → RV K H H' O r v → φ r → Q v H') → rr vx vy H Q
def d2 (s : D → D → (EV → Prop) → Prop) (ta tb : TD) : TD := fun ρ φ => ta ρ fun x => tb ρ fun y => s x.d y.d φ
theorem lift2 {rr : R2} {s : D → D → (EV → Prop) → Prop} {H₀ : Hp} (hl : Link2 X.K rr s) : ∀ σ H Q, liftE X.K H₀ (d2 s ta tb) σ H Q → tOp rr (liftE X.K H₀ ta) (liftE X.K H₀ tb) σ H Q := fun σ H Q h => by
  obtain ⟨ρ, o, R, φ, hφ, k⟩ := h
  refine ⟨ρ, o, R, _, hφ, fun v1 r1 H1 s1 rv1 h1 => ⟨ρ, o, R.to s1, _, h1, fun v2 r2 H2 s2 rv2 h2 => ?_⟩⟩
  exact hl H2 _ r1.d r2.d v1 v2 φ Q (fun a e => R.ofree ((s1.trans s2).free e)) (rv1.same s2).view rv2.view h2 fun v r H' s3 rv h => k v r H' (s1.trans (s2.trans s3)) (rv.start (s1.trans s2)) h
theorem ed_bin {op : Operator} {rr : R2} {s : D → D → (EV → Prop) → Prop} (ho : OpR X (binaryOp op) rr) (hl : Link2 X.K rr s) (ha : ED Γ X a ta) (hb : ED Γ X b tb) : ED Γ X (.BinOp a op b pos) (d2 s ta tb) := fun H₀ =>
  impE (pe_op ho (ha H₀) (hb H₀)) (lift2 hl)
theorem ed_cmp {op : CmpOp} {rr : R2} {s : D → D → (EV → Prop) → Prop} (ho : OpR X (compareOp op) rr) (hl : Link2 X.K rr s) (ha : ED Γ X a ta) (hb : ED Γ X b tb) (hm : behindInMarks op b = false) : ED Γ X (.Compare a [op] [b] pos) (d2 s ta tb) := fun H₀ =>
  impE (pe_cmpR ho (ha H₀) (hb H₀) hm) (lift2 hl)

theorem op_mulG : OpR X (binaryOp .Mult) (rI IntMulOk fun i j => .int (i * j)) := opI fun _ _ _ _ _ _ _ hc q => PyProof.Rows.mul_int q hc
def FdOk (i j : Int) : Prop := j ≠ 0 ∧ j.natAbs.log2 < 9000
theorem op_fdivG : OpR X (binaryOp .FloorDiv) (rI FdOk fun i j => .int (i.fdiv j)) := opI fun _ _ _ _ _ _ _ hc q => floordiv_int hc.1 q (.inl (PyProof.noPylong_of_log2 hc.2))
def sI (C : Int → Int → Prop) (g : Int → Int → D) : D → D → (EV → Prop) → Prop := fun x y φ => match x, y with
  | .int i, .int j => C i j ∧ φ (dv (g i j))
  | _, _ => False
theorem link_I {K : PySem.W.Frag} {C : Int → Int → Prop} {g : Int → Int → D} {gv : Int → Int → V} (hg : ∀ i j H O, Rep K H O (g i j) (gv i j)) : Link2 K (rI C gv) (sI C g) := by
  intro H O x y vx vy φ Q ho hx hy h k
  unfold sI at h
  split at h
  · exact ⟨_, _, hx, hy, h.1, k _ _ H (Same.refl H) (by exact hg _ _ H O) h.2⟩
  · exact h.elim
theorem Link2.imp {K : PySem.W.Frag} {rr rr' : R2} {s : D → D → (EV → Prop) → Prop} (h : Link2 K rr s) (i : ∀ x y H Q, rr x y H Q → rr' x y H Q) : Link2 K rr' s := fun H O x y vx vy φ Q ho hx hy hs k => i _ _ _ _ (h H O x y vx vy φ Q ho hx hy hs k)
def sI0 (g : Int → Int → D) : D → D → (EV → Prop) → Prop := fun x y φ => match x, y with
  | .int i, .int j => φ (dv (g i j))
  | _, _ => False
theorem link_I0 {K : PySem.W.Frag} {g : Int → Int → D} {gv : Int → Int → V} (hg : ∀ i j H O, Rep K H O (g i j) (gv i j)) : Link2 K (rI0 gv) (sI0 g) := by
  intro H O x y vx vy φ Q ho hx hy h k
  unfold sI0 at h
  split at h
  · exact ⟨_, _, hx, hy, k _ _ H (Same.refl H) (by exact hg _ _ H O) h⟩
  · exact h.elim
abbrev sSub := sI0 fun i j => .int (i - j)
abbrev sFd := sI FdOk fun i j => .int (i.fdiv j)
abbrev sMod := sI (fun _ j => j ≠ 0) fun i j => .int (i.fmod j)
abbrev sPow := sI CPow fun i j => .int (i ^ j.toNat)
abbrev sLt := sI0 fun i j => .bl (decide (i < j))
abbrev sLe := sI0 fun i j => .bl (decide (i ≤ j))
abbrev sGt := sI0 fun i j => .bl (decide (j < i))
abbrev sGe := sI0 fun i j => .bl (decide (j ≤ i))
theorem ed_sub (ha : ED Γ X a ta) (hb : ED Γ X b tb) : ED Γ X (.BinOp a .Sub b pos) (d2 sSub ta tb) := ed_bin op_sub (link_I0 fun _ _ _ _ => rfl) ha hb
theorem ed_fd (ha : ED Γ X a ta) (hb : ED Γ X b tb) : ED Γ X (.BinOp a .FloorDiv b pos) (d2 sFd ta tb) := ed_bin op_fdivG (link_I fun _ _ _ _ => rfl) ha hb
theorem ed_mod (ha : ED Γ X a ta) (hb : ED Γ X b tb) : ED Γ X (.BinOp a .Mod b pos) (d2 sMod ta tb) := ed_bin op_modN (link_I fun _ _ _ _ => rfl) ha hb
theorem ed_pow (ha : ED Γ X a ta) (hb : ED Γ X b tb) : ED Γ X (.BinOp a .Pow b pos) (d2 sPow ta tb) := ed_bin op_pow (link_I fun _ _ _ _ => rfl) ha hb
theorem ed_ge (ha : ED Γ X a ta) (hb : ED Γ X b tb) : ED Γ X (.Compare a [.GtE] [b] pos) (d2 sGe ta tb) := ed_cmp op_ge (link_I0 fun _ _ _ _ => rfl) ha hb (nomark _)

def sAdd : D → D → (EV → Prop) → Prop := fun x y φ => match x, y with
  | .int i, .int j => φ (dv (.int (i + j)))
  | .str p, .str q => p.length + q.length ≤ sizeLine ∧ φ (dv (.str (p ++ q)))
  | .lst p, .lst q => p.length + q.length ≤ sizeLine ∧ φ (df (.lst (p ++ q)))
  | .tup p, .tup q => p ≠ [] ∧ q ≠ [] ∧ p.length + q.length ≤ sizeLine ∧ φ (dv (.tup (p ++ q)))
  | _, _ => False
theorem same_new {H : Hp} {p : Addr} (h : H p = none) (o : HO) : Same H (upd H p o) := fun b u q => by rw [upd_ne (ne_of_none q h)]; exact q
theorem reps_new {K : PySem.W.Frag} {H : Hp} {O : List Addr} {p : Addr} {o : HO} {ds : List D} {xs : List V} (hp : H p = none) (r : Reps K H O ds xs) : Reps K (upd H p o) O ds xs := Reps.grow (Grow.same (same_new hp o)) _ _ r
theorem grow_new {H : Hp} {O : List Addr} {p : Addr} {o : HO} (hp : H p = none) : Grow O (p :: O) H (upd H p o) :=
  ⟨fun b u h n => ⟨same_new hp o b u h, fun z => (List.mem_cons.mp z).elim (fun e => ne_of_none h hp e) n⟩, fun b xs h => same_new hp o b _ h, fun b ob u h => same_new hp o b _ h⟩
theorem rv_lst {K : PySem.W.Frag} {H : Hp} {O : List Addr} {p : Addr} {ds : List D} {xs : List V} (ho : ∀ a, H a = none → a ∉ O) (hp : H p = none) (r : Reps K H O ds xs) : RV K H (upd H p (.lst xs)) O (df (.lst ds)) (.ref p) :=
  ⟨p, rfl, hp, ho p hp, xs, upd_same, Reps.grow (grow_new hp) _ _ r⟩
theorem rv_tup {K : PySem.W.Frag} {H : Hp} {O : List Addr} {p : Addr} {ds : List D} {xs : List V} (hp : H p = none) (r : Reps K H O ds xs) : RV K H (upd H p (.tup xs)) O (dv (.tup ds)) (.ref p) :=
  ⟨p, xs, rfl, ⟨SqT.of upd_same, upd_same⟩, reps_new hp r⟩
theorem link_add : Link2 X.K (fun x y H Q => rI0 (fun i j => .int (i + j)) x y H Q ∨ (∃ i j, x = .str i ∧ y = .str j ∧ i.length + j.length ≤ sizeLine ∧ Q (.str (i ++ j)) H) ∨ rCat x y H Q ∨ rCatT X.K x y H Q) sAdd := by
  intro H O x y vx vy φ Q ho hx hy h k
  unfold sAdd at h
  split at h
  · exact .inl ⟨_, _, hx, hy, k _ _ H (Same.refl H) (by exact rfl) h⟩
  · exact .inr (.inl ⟨_, _, hx, hy, h.1, k _ _ H (Same.refl H) (by exact rfl) h.2⟩)
  · obtain ⟨a1, xs, rfl, q1, r1⟩ := hx
    obtain ⟨a2, ys, rfl, q2, r2⟩ := hy
    refine .inr (.inr (.inl ⟨a1, a2, xs, ys, rfl, rfl, q1, q2, by rw [r1.length, r2.length]; exact h.1, fun p hp => ?_⟩))
    exact k _ _ _ (same_new hp _) (rv_lst ho hp (r1.append r2)) h.2
  · obtain ⟨n1, n2, hz, hp⟩ := h
    obtain ⟨a1, xs, rfl, q1, r1⟩ := hx
    obtain ⟨a2, ys, rfl, q2, r2⟩ := hy
    refine .inr (.inr (.inr ⟨a1, a2, xs, ys, rfl, rfl, q1.1, q2.1, ?_, by rw [r1.length, r2.length]; exact hz, fun z => ?_, fun _ p hpn => ?_⟩))
    · intro z
      have e := r1.length
      rw [z] at e
      exact n1 (List.eq_nil_of_length_eq_zero e.symm)
    · exfalso
      have e := r2.length
      rw [z] at e
      exact n2 (List.eq_nil_of_length_eq_zero e.symm)
    · exact k _ _ _ (same_new hpn _) (rv_tup hpn (r1.append r2)) hp
  · exact h.elim
theorem ed_add (ha : ED Γ X a ta) (hb : ED Γ X b tb) : ED Γ X (.BinOp a .Add b pos) (d2 sAdd ta tb) := ed_bin (op_add.or (op_add_str.or (op_cat.or op_catT))) link_add ha hb
def sMul : D → D → (EV → Prop) → Prop := fun x y φ => match x, y with
  | .int i, .int j => IntMulOk i j ∧ φ (dv (.int (i * j)))
  | .lst p, .int k => -(2 ^ 63) ≤ k ∧ k < 2 ^ 63 ∧ p.length * k.toNat ≤ sizeLine ∧ φ (df (.lst (List.replicate k.toNat p).flatten))
  | _, _ => False
end
end DL

set_option Elab.async false
set_option linter.all false
set_option maxRecDepth 100000
set_option maxHeartbeats 4000000
namespace DL
open PySem PySem.Spec L2 L3
open PyProof.Rows hiding St
variable {Γ : Hp → Prop}

mutual
def eqD : D → D → Bool
  | .non, .non => true
  | .bl a, .bl b => a == b
  | .bl a, .int b => (if a then 1 else 0) == b
  | .int a, .bl b => a == (if b then 1 else 0)
  | .int a, .int b => a == b
  | .str a, .str b => a == b
  | .tup a, .tup b => eqDs a b
  | .lst a, .lst b => eqDs a b
  | _, _ => false
def eqDs : List D → List D → Bool
  | [], [] => true
  | a :: as, b :: bs => eqD a b && eqDs as bs
  | _, _ => false
end
def okD : Nat → D → Prop
  | 0, d => match d with
    | .non => True
    | .bl _ => True
    | .int _ => True
    | .str _ => True
    | _ => False
  | n + 1, d => match d with
    | .non => True
    | .bl _ => True
    | .int _ => True
    | .str _ => True
    | .tup ds => ∀ x ∈ ds, okD n x
    | .lst ds => ∀ x ∈ ds, okD n x
    | _ => False
theorem eqDs_true : ∀ {ds es : List D}, eqDs ds es = true ↔ ds.length = es.length ∧ ∀ (j : Nat) (x y : D), ds[j]? = some x → es[j]? = some y → eqD x y = true
  | [], [] => by simp [eqDs]
  | [], y :: es => by simp [eqDs]
  | x :: ds, [] => by simp [eqDs]
  | x :: ds, y :: es => by
    rw [eqDs, Bool.and_eq_true, eqDs_true]
    constructor
    · rintro ⟨h, hl, q⟩
      refine ⟨by simp [hl], fun j a b ha hb => ?_⟩
      cases j with
      | zero => simp at ha hb; subst ha hb; exact h
      | succ j => exact q j a b (by simpa using ha) (by simpa using hb)
    · rintro ⟨hl, q⟩
      exact ⟨q 0 x y rfl rfl, by simpa using hl, fun j a b ha hb => q (j + 1) a b (by simpa using ha) (by simpa using hb)⟩
theorem eqDs_range (ds es : List D) : eqDs ds es = ((List.range (min ds.length es.length)).all (fun j => eqD (ds.getD j .non) (es.getD j .non)) && ds.length == es.length) := by
  rw [Bool.eq_iff_iff, eqDs_true, Bool.and_eq_true, List.all_eq_true]
  constructor
  · rintro ⟨hl, q⟩
    refine ⟨fun j hj => ?_, by simp [hl]⟩
    have hj' := List.mem_range.mp hj
    have h1 : j < ds.length := by omega
    have h2 : j < es.length := by omega
    have e1 : ds[j]? = some ds[j] := by simp [h1]
    have e2 : es[j]? = some es[j] := by simp [h2]
    have := q j _ _ e1 e2
    simpa [List.getD, e1, e2] using this
  · rintro ⟨q, hl⟩
    have hl' : ds.length = es.length := by simpa using hl
    refine ⟨hl', fun j x y hx hy => ?_⟩
    have h1 := (List.getElem?_eq_some_iff.mp hx).1
    have := q j (List.mem_range.mpr (by omega))
    simpa [List.getD, hx, hy] using this
theorem eqD_refl : ∀ (n : Nat) (d : D), okD n d → eqD d d = true := by
  intro n
  induction n with
  | zero => intro d h; cases d <;> first | exact h.elim | simp [eqD]
  | succ n ih =>
    intro d h
    cases d with
    | tup ds =>
      show eqDs ds ds = true
      refine eqDs_true.mpr ⟨rfl, fun j x y hx hy => ?_⟩
      rw [hx] at hy
      cases hy
      exact ih x (h x (List.mem_of_getElem? hx))
    | lst ds =>
      show eqDs ds ds = true
      refine eqDs_true.mpr ⟨rfl, fun j x y hx hy => ?_⟩
      rw [hx] at hy
      cases hy
      exact ih x (h x (List.mem_of_getElem? hx))
    | dk _ _ => exact h.elim
    | dt _ _ => exact h.elim
    | ty _ => exact h.elim
    | cn _ => exact h.elim
    | scr _ => exact h.elim
    | exc _ => exact h.elim
    | _ => simp [eqD]

section
variable {X : Cx} {pins : List (Addr × Obj)} {σ : St} {H : Hp} {s : Shared}
/-- one value at one place is one thing -/
theorem Rep.inj (I : Inv X pins σ H s) : ∀ (n : Nat) (d e : D) (v : V), okD n d → okD n e → Rep X.K H [] d v → Rep X.K H [] e v → d = e := by
  intro n
  induction n with
  | zero =>
    intro d e v hd he h1 h2
    cases d <;> first | exact hd.elim | (cases e <;> first | exact he.elim | (have z := (show v = _ from h1).symm.trans (show v = _ from h2); first | rfl | (injection z with z; rw [z]) | cases z))
  | succ n ih =>
    have lists : ∀ (ds es : List D) (xs : List V), (∀ x ∈ ds, okD n x) → (∀ x ∈ es, okD n x) → Reps X.K H [] ds xs → Reps X.K H [] es xs → ds = es := by
      intro ds
      induction ds with
      | nil =>
        intro es xs _ _ r1 r2
        have := r1.length
        have h2 := r2.length
        rw [this] at h2
        exact (List.eq_nil_of_length_eq_zero h2.symm).symm
      | cons d ds ih2 =>
        intro es xs h1 h2 r1 r2
        obtain ⟨v, r, rfl, q, t⟩ := r1
        cases es with
        | nil => cases r2
        | cons e es =>
          obtain ⟨v', r', e1, q', t'⟩ := r2
          cases e1
          rw [ih d e v (h1 d (List.mem_cons_self ..)) (h2 e (List.mem_cons_self ..)) q q', ih2 es r (fun x hx => h1 x (List.mem_cons_of_mem _ hx)) (fun x hx => h2 x (List.mem_cons_of_mem _ hx)) t t']
    intro d e v hd he h1 h2
    have noTL : ∀ (a : Addr) (xs ys : List V), SqT X.K H a xs → H a = some (.lst ys) → False := fun a xs ys q1 q2 => by
      obtain ⟨its, _, p1, _⟩ := I.tuple q1
      obtain ⟨its2, _, p2, _⟩ := I.list (SqL.of q2)
      exact SeqAt.ne_of_list_tuple p2.isList (show s.heap.IsTuple a its.toArray from p1) rfl
    cases d with
    | tup ds =>
      obtain ⟨a, xs, rfl, q1, r1⟩ := h1
      cases e with
      | tup es =>
        obtain ⟨a', ys, e1, q2, r2⟩ := h2
        cases e1
        have := I.tuple_inj q1.1 q2.1
        subst this
        rw [lists ds es xs hd he r1 r2]
      | lst es =>
        obtain ⟨a', ys, e1, q2, _, r2⟩ := h2
        cases e1
        exact (noTL _ _ _ q1.1 q2).elim
      | dk _ _ => exact he.elim
      | dt _ _ => exact he.elim
      | scr _ => exact he.elim
      | exc _ => exact he.elim
      | ty _ => exact he.elim
      | cn _ => exact he.elim
      | _ => cases (show V.ref a = _ from h2)
    | lst ds =>
      obtain ⟨a, xs, rfl, q1, _, r1⟩ := h1
      cases e with
      | tup es =>
        obtain ⟨a', ys, e1, q2, r2⟩ := h2
        cases e1
        exact (noTL _ _ _ q2.1 q1).elim
      | lst es =>
        obtain ⟨a', ys, e1, q2, _, r2⟩ := h2
        cases e1
        have := I.list_inj (SqL.of q1) (SqL.of q2)
        subst this
        rw [lists ds es xs hd he r1 r2]
      | dk _ _ => exact he.elim
      | dt _ _ => exact he.elim
      | scr _ => exact he.elim
      | exc _ => exact he.elim
      | ty _ => exact he.elim
      | cn _ => exact he.elim
      | _ => cases (show V.ref a = _ from h2)
    | dk _ _ => exact hd.elim
    | dt _ _ => exact hd.elim
    | scr _ => exact hd.elim
    | exc _ => exact hd.elim
    | ty _ => exact hd.elim
    | cn _ => exact hd.elim
    | non =>
      cases e with
      | tup es => obtain ⟨a', ys, e1, _⟩ := h2; cases (show v = _ from h1); cases e1
      | lst es => obtain ⟨a', ys, e1, _⟩ := h2; cases (show v = _ from h1); cases e1
      | dk _ _ => exact he.elim
      | dt _ _ => exact he.elim
      | scr _ => exact he.elim
      | exc _ => exact he.elim
      | ty _ => exact he.elim
      | cn _ => exact he.elim
      | non => rfl
      | _ => cases (show v = _ from h1); cases (show V.non = _ from h2)
    | bl b =>
      cases e with
      | tup es => obtain ⟨a', ys, e1, _⟩ := h2; cases (show v = _ from h1); cases e1
      | lst es => obtain ⟨a', ys, e1, _⟩ := h2; cases (show v = _ from h1); cases e1
      | dk _ _ => exact he.elim
      | dt _ _ => exact he.elim
      | scr _ => exact he.elim
      | exc _ => exact he.elim
      | ty _ => exact he.elim
      | cn _ => exact he.elim
      | _ => cases (show v = _ from h1); cases (show V.bl b = _ from h2) <;> rfl
    | int b =>
      cases e with
      | tup es => obtain ⟨a', ys, e1, _⟩ := h2; cases (show v = _ from h1); cases e1
      | lst es => obtain ⟨a', ys, e1, _⟩ := h2; cases (show v = _ from h1); cases e1
      | dk _ _ => exact he.elim
      | dt _ _ => exact he.elim
      | scr _ => exact he.elim
      | exc _ => exact he.elim
      | ty _ => exact he.elim
      | cn _ => exact he.elim
      | _ => cases (show v = _ from h1); cases (show V.int b = _ from h2) <;> rfl
    | str b =>
      cases e with
      | tup es => obtain ⟨a', ys, e1, _⟩ := h2; cases (show v = _ from h1); cases e1
      | lst es => obtain ⟨a', ys, e1, _⟩ := h2; cases (show v = _ from h1); cases e1
      | dk _ _ => exact he.elim
      | dt _ _ => exact he.elim
      | scr _ => exact he.elim
      | exc _ => exact he.elim
      | ty _ => exact he.elim
      | cn _ => exact he.elim
      | _ => cases (show v = _ from h1); cases (show V.str b = _ from h2) <;> rfl

/-- a value's look in the heap -/
inductive Sh (K : PySem.W.Frag) (H : Hp) (s : Shared) : D → Value → Prop where
  | non : Sh K H s .non .none
  | bl (b : Bool) : Sh K H s (.bl b) (.bool b)
  | int (i : Int) (t : Tok) : Sh K H s (.int i) (.int i t)
  | str (x : Str) (t : Tok) : Sh K H s (.str x) (.str x t)
  | tup {a : Addr} {ds : List D} {xs : List V} {its : List Value} (p : s.heap.IsTuple a its.toArray) (r : Vals xs its) (q : Reps K H [] ds xs) : Sh K H s (.tup ds) (.ref a)
  | lst {a : Addr} {ds : List D} {xs : List V} {its : List Value} (p : s.heap.IsList a its.toArray) (r : Vals xs its) (q : Reps K H [] ds xs) : Sh K H s (.lst ds) (.ref a)
theorem sh_of (I : Inv X pins σ H s) {n : Nat} {d : D} {x : V} {u : Value} (hd : okD n d) (h : Rep X.K H [] d x) (r : RelV x u) : Sh X.K H s d u := by
  cases d with
  | non => cases (show x = _ from h); cases r; exact .non
  | bl b => cases (show x = _ from h); cases r; exact .bl b
  | int b => cases (show x = _ from h); obtain ⟨t, rfl⟩ := r; exact .int b t
  | str b => cases (show x = _ from h); obtain ⟨t, rfl⟩ := r; exact .str b t
  | ty _ => cases n <;> exact hd.elim
  | cn _ => cases n <;> exact hd.elim
  | dk _ _ => cases n <;> exact hd.elim
  | dt _ _ => cases n <;> exact hd.elim
  | scr _ => cases n <;> exact hd.elim
  | exc _ => cases n <;> exact hd.elim
  | tup ds =>
    obtain ⟨a, xs, rfl, q, t⟩ := h
    cases r
    obtain ⟨its, rv, p, _⟩ := I.tuple q.1
    exact .tup (show s.heap.IsTuple a its.toArray from p) rv t
  | lst ds =>
    obtain ⟨a, xs, rfl, q, _, t⟩ := h
    cases r
    obtain ⟨its, rv, p, _⟩ := I.list (SqL.of q)
    exact .lst p.isList rv t
theorem eq_main (I : Inv X pins σ H s) : ∀ (n : Nat) (d e : D) (x y : V) (u v : Value) (A : Around), okD n d → okD n e → Rep X.K H [] d x → Rep X.K H [] e y → RelV x u → RelV y v → A.units + n < cLine →
    SeqAt.RcAt A s u v (eqD d e) ∧ SeqAt.RcNeAt A s u v (!eqD d e) ∧ SeqAt.EqAt A s u v (eqD d e) := by
  intro n
  induction n with
  | zero =>
    intro d e x y u v A hd he h1 h2 r1 r2 hu
    have hu' : A.units < cLine := by omega
    cases sh_of I hd h1 r1 with
    | tup => exact hd.elim
    | lst => exact hd.elim
    | non =>
      cases sh_of I he h2 r2 with
      | non => exact ⟨SeqAt.RcAt.none_none, SeqAt.RcNeAt.none_none, SeqAt.EqAt.same _⟩
      | bl b => exact ⟨SeqAt.RcAt.none_bool b, SeqAt.RcNeAt.none_bool b, SeqAt.EqAt.none_bool b⟩
      | int i t => exact ⟨SeqAt.RcAt.none_int i t, SeqAt.RcNeAt.none_int i t, SeqAt.EqAt.none_int i t⟩
      | str i t => exact ⟨SeqAt.RcAt.none_str i t, SeqAt.RcNeAt.none_str i t, SeqAt.EqAt.none_str i t⟩
      | tup => exact he.elim
      | lst => exact he.elim
    | bl a =>
      cases sh_of I he h2 r2 with
      | non => exact ⟨SeqAt.RcAt.bool_none a, SeqAt.RcNeAt.bool_none a, SeqAt.EqAt.bool_none a⟩
      | bl b => exact ⟨SeqAt.RcAt.bool_bool a b, SeqAt.RcNeAt.bool_bool a b, SeqAt.EqAt.bool_bool a b⟩
      | int i t => exact ⟨SeqAt.RcAt.bool_int a i t, SeqAt.RcNeAt.bool_int a i t, SeqAt.EqAt.bool_int a i t⟩
      | str i t => exact ⟨SeqAt.RcAt.bool_str a i t, SeqAt.RcNeAt.bool_str a i t, SeqAt.EqAt.bool_str a i t⟩
      | tup => exact he.elim
      | lst => exact he.elim
    | int a t =>
      cases sh_of I he h2 r2 with
      | non => exact ⟨SeqAt.RcAt.int_none a t, SeqAt.RcNeAt.int_none a t, SeqAt.EqAt.int_none a t⟩
      | bl b => exact ⟨SeqAt.RcAt.int_bool a t b, SeqAt.RcNeAt.int_bool a t b, SeqAt.EqAt.int_bool a t b⟩
      | int i t' => exact ⟨SeqAt.RcAt.int_int a t i t', SeqAt.RcNeAt.int_int a t i t', SeqAt.EqAt.int_int a t i t'⟩
      | str i t' => exact ⟨SeqAt.RcAt.int_str a t i t', SeqAt.RcNeAt.int_str a t i t', SeqAt.EqAt.int_str a t i t'⟩
      | tup => exact he.elim
      | lst => exact he.elim
    | str a t =>
      cases sh_of I he h2 r2 with
      | non => exact ⟨SeqAt.RcAt.str_none a t, SeqAt.RcNeAt.str_none a t, SeqAt.EqAt.str_none a t⟩
      | bl b => exact ⟨SeqAt.RcAt.str_bool a t b, SeqAt.RcNeAt.str_bool a t b, SeqAt.EqAt.str_bool a t b⟩
      | int i t' => exact ⟨SeqAt.RcAt.str_int a t i t', SeqAt.RcNeAt.str_int a t i t', SeqAt.EqAt.str_int a t i t'⟩
      | str i t' => exact ⟨SeqAt.RcAt.str_str a t i t', SeqAt.RcNeAt.str_str a t i t', SeqAt.EqAt.str_str a t i t'⟩
      | tup => exact he.elim
      | lst => exact he.elim
  | succ n ih =>
    intro d e x y u v A hd he h1 h2 r1 r2 hu
    have hu' : A.units < cLine := by omega
    have hin : A.in1.units + n < cLine := by
      have : A.in1.units = A.units + 1 := rfl
      omega
    have refs : ∀ {l b : Addr} {k : Bool}, u = .ref l → v = .ref b → k = eqD d e → SeqAt.RcAt A s (.ref l) (.ref b) k → SeqAt.EqAt A s (.ref l) (.ref b) k := fun {l b k} e1 e2 ek h => by
      by_cases hlb : l = b
      · subst hlb
        have hv : x = y := by
          have z1 : x = .ref l := by
            cases x <;> subst e1 <;> first | (have := (show Value.ref l = Value.ref _ from r1); cases this; rfl) | (obtain ⟨t, z⟩ := r1; cases z) | cases r1
          have z2 : y = .ref l := by
            cases y <;> subst e2 <;> first | (have := (show Value.ref l = Value.ref _ from r2); cases this; rfl) | (obtain ⟨t, z⟩ := r2; cases z) | cases r2
          rw [z1, z2]
        subst hv
        have hde := Rep.inj I (n + 1) d e x hd he h1 h2
        subst hde
        rw [ek, eqD_refl (n + 1) d hd]
        exact SeqAt.EqAt.same _
      · exact SeqAt.EqAt.of_refs hlb h
    have items : ∀ {ds es : List D} {xs ys : List V} {its its2 : List Value}, (∀ z ∈ ds, okD n z) → (∀ z ∈ es, okD n z) → Reps X.K H [] ds xs → Reps X.K H [] es ys → Vals xs its → Vals ys its2 →
        ∀ j (h1 : j < its.toArray.size) (h2 : j < its2.toArray.size), SeqAt.EqAt A.in1 s its.toArray[j] its2.toArray[j] (eqD (ds.getD j .non) (es.getD j .non)) := fun {ds es xs ys its its2} o1 o2 q1 q2 w1 w2 j h1 h2 => by
      have l1 := w1.length
      have l2 := w2.length
      have k1 := q1.length
      have k2 := q2.length
      have g1 : j < ds.length := by simp at h1; omega
      have g2 : j < es.length := by simp at h2; omega
      have e1 : ds[j]? = some ds[j] := by simp [g1]
      have e2 : es[j]? = some es[j] := by simp [g2]
      obtain ⟨x', ex, rx⟩ := q1.get e1
      obtain ⟨y', ey, ry⟩ := q2.get e2
      obtain ⟨u', eu, ru⟩ := w1.get ex
      obtain ⟨v', ev, rv⟩ := w2.get ey
      have f1 : its.toArray[j] = u' := by
        have := (List.getElem?_eq_some_iff.mp eu).2
        simpa using this
      have f2 : its2.toArray[j] = v' := by
        have := (List.getElem?_eq_some_iff.mp ev).2
        simpa using this
      rw [f1, f2, show ds.getD j .non = ds[j] by simp [List.getD, e1], show es.getD j .non = es[j] by simp [List.getD, e2]]
      exact (ih ds[j] es[j] x' y' u' v' A.in1 (o1 _ (List.getElem_mem g1)) (o2 _ (List.getElem_mem g2)) rx ry ru rv hin).2.2
    cases sh_of I hd h1 r1 with
    | non =>
      cases sh_of I he h2 r2 with
      | non => exact ⟨SeqAt.RcAt.none_none, SeqAt.RcNeAt.none_none, SeqAt.EqAt.same _⟩
      | bl b => exact ⟨SeqAt.RcAt.none_bool b, SeqAt.RcNeAt.none_bool b, SeqAt.EqAt.none_bool b⟩
      | int i t => exact ⟨SeqAt.RcAt.none_int i t, SeqAt.RcNeAt.none_int i t, SeqAt.EqAt.none_int i t⟩
      | str i t => exact ⟨SeqAt.RcAt.none_str i t, SeqAt.RcNeAt.none_str i t, SeqAt.EqAt.none_str i t⟩
      | tup p _ _ => exact ⟨SeqAt.RcAt.none_tuple p hu', SeqAt.RcNeAt.none_tuple p hu', SeqAt.EqAt.none_tuple p hu'⟩
      | lst p _ _ => exact ⟨SeqAt.RcAt.none_list p hu', SeqAt.RcNeAt.none_list p hu', SeqAt.EqAt.none_list p hu'⟩
    | bl a =>
      cases sh_of I he h2 r2 with
      | non => exact ⟨SeqAt.RcAt.bool_none a, SeqAt.RcNeAt.bool_none a, SeqAt.EqAt.bool_none a⟩
      | bl b => exact ⟨SeqAt.RcAt.bool_bool a b, SeqAt.RcNeAt.bool_bool a b, SeqAt.EqAt.bool_bool a b⟩
      | int i t => exact ⟨SeqAt.RcAt.bool_int a i t, SeqAt.RcNeAt.bool_int a i t, SeqAt.EqAt.bool_int a i t⟩
      | str i t => exact ⟨SeqAt.RcAt.bool_str a i t, SeqAt.RcNeAt.bool_str a i t, SeqAt.EqAt.bool_str a i t⟩
      | tup p _ _ => exact ⟨SeqAt.RcAt.bool_tuple a p hu', SeqAt.RcNeAt.bool_tuple a p hu', SeqAt.EqAt.bool_tuple a p hu'⟩
      | lst p _ _ => exact ⟨SeqAt.RcAt.bool_list a p hu', SeqAt.RcNeAt.bool_list a p hu', SeqAt.EqAt.bool_list a p hu'⟩
    | int a t =>
      cases sh_of I he h2 r2 with
      | non => exact ⟨SeqAt.RcAt.int_none a t, SeqAt.RcNeAt.int_none a t, SeqAt.EqAt.int_none a t⟩
      | bl b => exact ⟨SeqAt.RcAt.int_bool a t b, SeqAt.RcNeAt.int_bool a t b, SeqAt.EqAt.int_bool a t b⟩
      | int i t' => exact ⟨SeqAt.RcAt.int_int a t i t', SeqAt.RcNeAt.int_int a t i t', SeqAt.EqAt.int_int a t i t'⟩
      | str i t' => exact ⟨SeqAt.RcAt.int_str a t i t', SeqAt.RcNeAt.int_str a t i t', SeqAt.EqAt.int_str a t i t'⟩
      | tup p _ _ => exact ⟨SeqAt.RcAt.int_tuple a t p hu', SeqAt.RcNeAt.int_tuple a t p hu', SeqAt.EqAt.int_tuple a t p hu'⟩
      | lst p _ _ => exact ⟨SeqAt.RcAt.int_list a t p hu', SeqAt.RcNeAt.int_list a t p hu', SeqAt.EqAt.int_list a t p hu'⟩
    | str a t =>
      cases sh_of I he h2 r2 with
      | non => exact ⟨SeqAt.RcAt.str_none a t, SeqAt.RcNeAt.str_none a t, SeqAt.EqAt.str_none a t⟩
      | bl b => exact ⟨SeqAt.RcAt.str_bool a t b, SeqAt.RcNeAt.str_bool a t b, SeqAt.EqAt.str_bool a t b⟩
      | int i t' => exact ⟨SeqAt.RcAt.str_int a t i t', SeqAt.RcNeAt.str_int a t i t', SeqAt.EqAt.str_int a t i t'⟩
      | str i t' => exact ⟨SeqAt.RcAt.str_str a t i t', SeqAt.RcNeAt.str_str a t i t', SeqAt.EqAt.str_str a t i t'⟩
      | tup p _ _ => exact ⟨SeqAt.RcAt.str_tuple a t p hu', SeqAt.RcNeAt.str_tuple a t p hu', SeqAt.EqAt.str_tuple a t p hu'⟩
      | lst p _ _ => exact ⟨SeqAt.RcAt.str_list a t p hu', SeqAt.RcNeAt.str_list a t p hu', SeqAt.EqAt.str_list a t p hu'⟩
    | @tup l ds xs its p r q =>
      cases sh_of I he h2 r2 with
      | non => exact ⟨SeqAt.RcAt.tuple_none p hu', SeqAt.RcNeAt.tuple_none p hu', SeqAt.EqAt.tuple_none p hu'⟩
      | bl b => exact ⟨SeqAt.RcAt.tuple_bool b p hu', SeqAt.RcNeAt.tuple_bool b p hu', SeqAt.EqAt.tuple_bool b p hu'⟩
      | int i t => exact ⟨SeqAt.RcAt.tuple_int i t p hu', SeqAt.RcNeAt.tuple_int i t p hu', SeqAt.EqAt.tuple_int i t p hu'⟩
      | str i t => exact ⟨SeqAt.RcAt.tuple_str i t p hu', SeqAt.RcNeAt.tuple_str i t p hu', SeqAt.EqAt.tuple_str i t p hu'⟩
      | lst p2 _ _ => exact ⟨SeqAt.RcAt.tuple_list p p2 hu', SeqAt.RcNeAt.tuple_list p p2 hu', SeqAt.EqAt.tuple_list p p2 hu'⟩
      | @tup b es ys its2 p2 r' q' =>
        have e1 : its.toArray.size = ds.length := by rw [List.size_toArray, ← r.length, q.length]
        have e2 : its2.toArray.size = es.length := by rw [List.size_toArray, ← r'.length, q'.length]
        have ek : eqD (.tup ds) (.tup es) = ((List.range (min its.toArray.size its2.toArray.size)).all (fun j => eqD (ds.getD j .non) (es.getD j .non)) && its.toArray.size == its2.toArray.size) := by
          rw [e1, e2]
          exact eqDs_range ds es
        rw [ek]
        have hrc := SeqAt.RcAt.tuples p p2 hu' (items hd he q q' r r')
        exact ⟨hrc, SeqAt.RcNeAt.tuples p p2 hu' (items hd he q q' r r'), refs rfl rfl ek.symm hrc⟩
    | @lst l ds xs its p r q =>
      cases sh_of I he h2 r2 with
      | non => exact ⟨SeqAt.RcAt.list_none p hu', SeqAt.RcNeAt.list_none p hu', SeqAt.EqAt.list_none p hu'⟩
      | bl b => exact ⟨SeqAt.RcAt.list_bool b p hu', SeqAt.RcNeAt.list_bool b p hu', SeqAt.EqAt.list_bool b p hu'⟩
      | int i t => exact ⟨SeqAt.RcAt.list_int i t p hu', SeqAt.RcNeAt.list_int i t p hu', SeqAt.EqAt.list_int i t p hu'⟩
      | str i t => exact ⟨SeqAt.RcAt.list_str i t p hu', SeqAt.RcNeAt.list_str i t p hu', SeqAt.EqAt.list_str i t p hu'⟩
      | tup p2 _ _ => exact ⟨SeqAt.RcAt.list_tuple p p2 hu', SeqAt.RcNeAt.list_tuple p p2 hu', SeqAt.EqAt.list_tuple p p2 hu'⟩
      | @lst b es ys its2 p2 r' q' =>
        have e1 : its.toArray.size = ds.length := by rw [List.size_toArray, ← r.length, q.length]
        have e2 : its2.toArray.size = es.length := by rw [List.size_toArray, ← r'.length, q'.length]
        by_cases hsz : its.toArray.size = its2.toArray.size
        · have ek : eqD (.lst ds) (.lst es) = (List.range its.toArray.size).all (fun j => eqD (ds.getD j .non) (es.getD j .non)) := by
            show eqDs ds es = _
            rw [eqDs_range, ← e1, ← e2, ← hsz]
            simp
          rw [ek]
          have hrc := SeqAt.RcAt.lists p p2 hsz hu' (items hd he q q' r r')
          exact ⟨hrc, SeqAt.RcNeAt.lists p p2 hsz hu' (items hd he q q' r r'), refs rfl rfl ek.symm hrc⟩
        · have ek : eqD (.lst ds) (.lst es) = false := by
            show eqDs ds es = _
            have hb : (its.toArray.size == its2.toArray.size) = false := beq_eq_false_iff_ne.mpr hsz
            rw [eqDs_range, ← e1, ← e2, hb, Bool.and_false]
          rw [ek]
          have hne : (its.toArray.size != its2.toArray.size) = true := by simpa using hsz
          have hrc := SeqAt.RcAt.lists_lengths p p2 hne hu'
          exact ⟨hrc, SeqAt.RcNeAt.lists_lengths p p2 hne hu', refs rfl rfl ek.symm hrc⟩
end
section
variable {X : Cx} {a b : Expr} {ta tb : TD} {pos : Pos}
def rEqD (K : PySem.W.Frag) (neg : Bool) : R2 := fun x y H Q => ∃ d e, Rep K H [] d x ∧ Rep K H [] e y ∧ okD 40 d ∧ okD 40 e ∧ Q (.bl (if neg then !eqD d e else eqD d e)) H
theorem op_eqD (hu : X.A.units + 64 < cLine) : OpR X (compareOp .Eq) (rEqD X.K false) := by
  intro pins s σ H x y v u Q I rx ry h
  obtain ⟨d, e, h1, h2, o1, o2, q⟩ := h
  exact (eq_main I 40 d e x y v u X.A o1 o2 h1 h2 rx ry (by omega)).1 X.prog X.w X.xe _ ⟨.bl _, H, I, rfl, q⟩
theorem op_neD (hu : X.A.units + 64 < cLine) : OpR X (compareOp .NotEq) (rEqD X.K true) := by
  intro pins s σ H x y v u Q I rx ry h
  obtain ⟨d, e, h1, h2, o1, o2, q⟩ := h
  exact (eq_main I 40 d e x y v u X.A o1 o2 h1 h2 rx ry (by omega)).2.1 X.prog X.w X.xe _ ⟨.bl _, H, I, rfl, q⟩
def sEq : D → D → (EV → Prop) → Prop := fun x y φ => okD 40 x ∧ okD 40 y ∧ φ (dv (.bl (eqD x y)))
def sNe : D → D → (EV → Prop) → Prop := fun x y φ => okD 40 x ∧ okD 40 y ∧ φ (dv (.bl (!eqD x y)))
theorem ed_eq (hu : X.A.units + 64 < cLine) (ha : ED Γ X a ta) (hb : ED Γ X b tb) : ED Γ X (.Compare a [.Eq] [b] pos) (d2 sEq ta tb) :=
  ed_cmp (op_eqD hu) (fun H O x y vx vy φ Q ho hx hy h k => ⟨x, y, hx.rep0, hy.rep0, h.1, h.2.1, k _ _ H (Same.refl H) (by exact rfl) h.2.2⟩) ha hb (nomark _)
end
end DL

set_option Elab.async false
set_option linter.all false
set_option maxRecDepth 100000
set_option maxHeartbeats 4000000
namespace DL
open PySem PySem.Spec L2 L3
open PyProof.Rows hiding St
variable {Γ : Hp → Prop}
section
variable {X : Cx} {a b c e : Expr} {es : List Expr} {ta tb tc te : TD} {t : TDs} {pos : Pos}

theorem link_mul : Link2 X.K (fun x y H Q => rI IntMulOk (fun i j => .int (i * j)) x y H Q ∨ rRep x y H Q) sMul := by
  intro H O x y vx vy φ Q ho hx hy h k
  unfold sMul at h
  split at h
  · exact .inl ⟨_, _, hx, hy, h.1, k _ _ H (Same.refl H) (by exact rfl) h.2⟩
  · obtain ⟨h1, h2, h3, h4⟩ := h
    obtain ⟨a1, xs, rfl, q1, r1⟩ := hx
    refine .inr ⟨a1, _, xs, rfl, hy, q1, h1, h2, by rw [r1.length]; exact h3, fun p hp => ?_⟩
    exact k _ _ _ (same_new hp _) (rv_lst ho hp (r1.rep _)) h4
  · exact h.elim
theorem ed_mul (ha : ED Γ X a ta) (hb : ED Γ X b tb) : ED Γ X (.BinOp a .Mult b pos) (d2 sMul ta tb) := ed_bin (op_mulG.or op_rep) link_mul ha hb

def sNeg : D → (EV → Prop) → Prop := fun x φ => match x with
  | .int i => φ (dv (.int (-i)))
  | _ => False
def d1 (s : D → (EV → Prop) → Prop) (ta : TD) : TD := fun ρ φ => ta ρ fun x => s x.d φ
theorem ed_neg (ha : ED Γ X a ta) : ED Γ X (.UnaryOp .USub a pos) (d1 sNeg ta) := fun H₀ => impE (pe_un un_neg (ha H₀)) fun σ H Q h => by
  obtain ⟨ρ, o, R, φ, hφ, k⟩ := h
  refine ⟨ρ, o, R, _, hφ, fun v1 r1 H1 s1 rv1 h1 => ?_⟩
  obtain ⟨kd, d⟩ := r1
  have hv := rv1.view
  cases d with
  | int i => exact ⟨i, hv, k _ _ H1 s1 (by exact rfl) h1⟩
  | _ => exact h1.elim

def truD : D → Option Bool
  | .non => some false
  | .bl b => some b
  | .int i => some (i != 0)
  | .str x => if x.length ≤ sizeLine then some ((x.length : Int) != 0) else none
  | .lst ds => some (!ds.isEmpty)
  | .scr ns => some (!ns.isEmpty)
  | .tup ds => some (!ds.isEmpty)
  | .dk _ ds => some (!ds.isEmpty)
  | .dt _ _ => none
  | .ty _ => none
  | .cn _ => none
  | .exc _ => none
theorem isEmpty_reps {K : PySem.W.Frag} {H : Hp} {O : List Addr} {ds : List D} {xs : List V} (r : Reps K H O ds xs) : xs.isEmpty = ds.isEmpty := by
  have := r.length
  cases xs <;> cases ds <;> simp_all
theorem tru_view {K : PySem.W.Frag} {H : Hp} {O : List Addr} {d : D} {v : V} {b : Bool} (h : View K H O d v) (e : truD d = some b) : TruV K v H b := by
  cases d with
  | non => cases (show v = _ from h); cases e; rfl
  | bl i => cases (show v = _ from h); cases e; rfl
  | int i => cases (show v = _ from h); cases e; rfl
  | str x =>
    cases (show v = _ from h)
    have e' : (if x.length ≤ sizeLine then some ((x.length : Int) != 0) else none) = some b := e
    split at e'
    · rename_i hz
      cases e'
      exact ⟨hz, rfl⟩
    · cases e'
  | ty _ => cases e
  | cn _ => cases e
  | exc _ => cases e
  | lst ds =>
    obtain ⟨a, xs, rfl, q, r⟩ := h
    cases e
    exact .inl ⟨xs, SqL.of q, by rw [isEmpty_reps r]⟩
  | scr ns =>
    obtain ⟨a, rfl, q⟩ := h
    cases e
    exact .inl ⟨_, q.seq, by cases ns <;> rfl⟩
  | tup ds =>
    obtain ⟨a, xs, rfl, q, r⟩ := h
    cases e
    exact .inr (.inl ⟨xs, q.1, by rw [isEmpty_reps r]⟩)
  | dk ks ds =>
    obtain ⟨a, xs, rfl, q, l, _, r⟩ := h
    cases e
    refine .inr (.inr ⟨_, q, ?_⟩)
    have := r.length
    cases ks <;> cases ds <;> cases xs <;> simp_all
  | dt ks ds => cases e
def tTru (t : TD) : TDb := fun ρ φ => t ρ fun r => match truD r.d with
  | some b => φ b
  | none => False
theorem et_val (h : ED Γ X a ta) (he : ∀ whole, isTrue a X.env whole = (do let v ← whole; standAt a.pos; holding [v] (truthy v)) := by intro _; rfl) : ET Γ X a (tTru ta) := fun H₀ => impT (pt_truth (h H₀) he) fun σ H Q q => by
  obtain ⟨ρ, o, R, φ, hφ, k⟩ := q
  refine ⟨ρ, o, R, _, hφ, fun v1 r1 H1 s1 rv1 h1 => ?_⟩
  cases e : truD r1.d with
  | none => simp only [e] at h1
  | some b =>
    simp only [e] at h1
    exact ⟨b, tru_view rv1.view e, k b H1 s1 h1⟩
def tBo (t : TD) : TDb := fun ρ φ => t ρ fun r => match r.d with
  | .bl b => φ b
  | _ => False
theorem et_cmp {op : CmpOp} {rr : R2} {s : D → D → (EV → Prop) → Prop} (ho : OpR X (compareOp op) rr) (hl : Link2 X.K rr s) (ha : ED Γ X a ta) (hb : ED Γ X b tb) (hm : behindInMarks op b = false) : ET Γ X (.Compare a [op] [b] pos) (tBo (d2 s ta tb)) := fun H₀ =>
  impT (pt_cmpR ho (ha H₀) (hb H₀) hm) fun σ H Q h => by
    obtain ⟨ρ, o, R, φ, hφ, k⟩ := h
    refine lift2 (ta := ta) (tb := tb) (H₀ := H₀.1) hl σ H _ ⟨ρ, o, R, _, hφ, fun v r H' s1 rv h1 => ?_⟩
    obtain ⟨kd, d⟩ := r
    cases d with
    | bl b => exact ⟨b, rv.view, k b H' s1 h1⟩
    | _ => exact h1.elim
theorem et_lt (ha : ED Γ X a ta) (hb : ED Γ X b tb) : ET Γ X (.Compare a [.Lt] [b] pos) (tBo (d2 sLt ta tb)) := et_cmp op_lt (link_I0 fun _ _ _ _ => rfl) ha hb (nomark _)
theorem et_eq (hu : X.A.units + 64 < cLine) (ha : ED Γ X a ta) (hb : ED Γ X b tb) : ET Γ X (.Compare a [.Eq] [b] pos) (tBo (d2 sEq ta tb)) :=
  et_cmp (op_eqD hu) (fun H O x y vx vy φ Q ho hx hy h k => ⟨x, y, hx.rep0, hy.rep0, h.1, h.2.1, k _ _ H (Same.refl H) (by exact rfl) h.2.2⟩) ha hb (nomark _)
theorem et_ne (hu : X.A.units + 64 < cLine) (ha : ED Γ X a ta) (hb : ED Γ X b tb) : ET Γ X (.Compare a [.NotEq] [b] pos) (tBo (d2 sNe ta tb)) :=
  et_cmp (op_neD hu) (fun H O x y vx vy φ Q ho hx hy h k => ⟨x, y, hx.rep0, hy.rep0, h.1, h.2.1, k _ _ H (Same.refl H) (by exact rfl) h.2.2⟩) ha hb (nomark _)
/-- is None, is not None -/
def isNon : D → Bool
  | .non => true
  | _ => false
def sIs : D → D → (EV → Prop) → Prop := fun x y φ => match y with
  | .non => φ (dv (.bl (isNon x)))
  | _ => False
def sIsNot : D → D → (EV → Prop) → Prop := fun x y φ => match y with
  | .non => φ (dv (.bl (!isNon x)))
  | _ => False
theorem view_non {K : PySem.W.Frag} {H : Hp} {O : List Addr} {d : D} {v : V} (h : View K H O d v) : decide (v = .non) = isNon d := by
  cases d with
  | tup ds => obtain ⟨a, xs, rfl, _⟩ := h; rfl
  | lst ds => obtain ⟨a, xs, rfl, _⟩ := h; rfl
  | scr ns => obtain ⟨a, rfl, _⟩ := h; rfl
  | exc _ => obtain ⟨a, rfl, _⟩ := h; rfl
  | dk ks ds => obtain ⟨a, xs, rfl, _⟩ := h; rfl
  | dt ks ds => obtain ⟨a, xs, rfl, _⟩ := h; rfl
  | cn c =>
    cases c with
    | int i => cases (show v = _ from h); rfl
    | str x => cases (show v = _ from h); rfl
    | tup cs => obtain ⟨a, o, its, n, xs, rfl, _⟩ := (show CRep K (.tup cs) v from h); rfl
  | _ => cases (show v = _ from h); rfl
theorem link_is {K : PySem.W.Frag} : Link2 K (fun x y H Q => y = .non ∧ Q (.bl (decide (x = .non))) H) sIs := by
  intro H O x y vx vy φ Q ho hx hy h k
  unfold sIs at h
  split at h
  · refine ⟨hy, ?_⟩
    rw [view_non hx]
    exact k _ _ H (Same.refl H) (by exact rfl) h
  · exact h.elim
theorem link_isnot {K : PySem.W.Frag} : Link2 K (fun x y H Q => y = .non ∧ Q (.bl (!decide (x = .non))) H) sIsNot := by
  intro H O x y vx vy φ Q ho hx hy h k
  unfold sIsNot at h
  split at h
  · refine ⟨hy, ?_⟩
    rw [view_non hx]
    exact k _ _ H (Same.refl H) (by exact rfl) h
  · exact h.elim
theorem et_is (ha : ED Γ X a ta) (hb : ED Γ X b tb) : ET Γ X (.Compare a [.Is] [b] pos) (tBo (d2 sIs ta tb)) := et_cmp op_isN link_is ha hb (nomark _)
theorem et_isnot (ha : ED Γ X a ta) (hb : ED Γ X b tb) : ET Γ X (.Compare a [.IsNot] [b] pos) (tBo (d2 sIsNot ta tb)) := et_cmp op_notN link_isnot ha hb (nomark _)

variable {tA tB' : TDb} {rest : List Expr}
def bAnd (t u : TDb) : TDb := fun ρ φ => t ρ fun c => (c = true → u ρ φ) ∧ (c = false → φ false)
def bOr (t u : TDb) : TDb := fun ρ φ => t ρ fun c => (c = true → φ true) ∧ (c = false → u ρ φ)
def bNot (t : TDb) : TDb := fun ρ φ => t ρ fun c => φ (!c)
theorem ew_or1 (ha : ET Γ X a tA) : EW Γ X (.BoolOp .Or [a] pos) tA := fun H₀ => pw_or1 (ha H₀)
theorem ew_or (ha : ET Γ X a tA) (hb : EW Γ X (.BoolOp .Or (b :: rest) pos) tB') : EW Γ X (.BoolOp .Or (a :: b :: rest) pos) (bOr tA tB') := fun H₀ => impW (pw_or (ha H₀) (hb H₀)) fun σ H Q h => by
  obtain ⟨ρ, o, R, φ, hφ, k⟩ := h
  refine ⟨ρ, o, R, _, hφ, fun c H1 s1 h1 => ?_⟩
  cases c with
  | true => exact iteT (k true H1 s1 (h1.1 rfl))
  | false => exact iteF ⟨ρ, o, R.to s1, φ, h1.2 rfl, fun b H2 s2 q => k b H2 (s1.trans s2) q⟩
theorem EW.et (h : EW Γ X a tA) : ET Γ X a tA := fun H₀ => PW.pt (h H₀)
theorem et_not (ha : ET Γ X a tA) : ET Γ X (.UnaryOp .Not a pos) (bNot tA) := fun H₀ => impT (pt_not (ha H₀)) fun σ H Q h => by
  obtain ⟨ρ, o, R, φ, hφ, k⟩ := h
  exact ⟨ρ, o, R, _, hφ, fun c H1 s1 h1 => k _ H1 s1 h1⟩
/-- .. as values (bools) -/
def vAnd (ta tb : TD) : TD := fun ρ φ => ta ρ fun x => match x.d with
  | .bl c => (c = true → tb ρ φ) ∧ (c = false → φ (dv (.bl false)))
  | _ => False
def vOr (ta tb : TD) : TD := fun ρ φ => ta ρ fun x => match x.d with
  | .bl c => (c = true → φ (dv (.bl true))) ∧ (c = false → tb ρ φ)
  | _ => False
def vNot (ta : TD) : TD := fun ρ φ => ta ρ fun x => match x.d with
  | .bl c => φ (dv (.bl (!c)))
  | _ => False
theorem ed_one {op} (h : ED Γ X a ta) : ED Γ X (.BoolOp op [a] pos) ta := fun H₀ => pe_one (h H₀)
theorem ed_and (ha : ED Γ X a ta) (hb : ED Γ X (.BoolOp .And (b :: rest) pos) tb) : ED Γ X (.BoolOp .And (a :: b :: rest) pos) (vAnd ta tb) := fun H₀ => impE (pe_and (ha H₀) (hb H₀)) fun σ H Q h => by
  obtain ⟨ρ, o, R, φ, hφ, k⟩ := h
  refine ⟨ρ, o, R, _, hφ, fun v r H1 s1 rv h1 => ?_⟩
  obtain ⟨kd, d⟩ := r
  cases d with
  | bl c =>
    refine ⟨c, rv.view, ?_⟩
    cases c with
    | true => exact iteT ⟨ρ, o, R.to s1, φ, h1.1 rfl, fun v2 r2 H2 s2 rv2 q => k v2 r2 H2 (s1.trans s2) (rv2.start s1) q⟩
    | false => exact iteF (k _ _ H1 s1 (by exact rfl) (h1.2 rfl))
  | _ => exact h1.elim
theorem ed_not (ha : ED Γ X a ta) : ED Γ X (.UnaryOp .Not a pos) (vNot ta) := fun H₀ => impE (pe_not (ha H₀)) fun σ H Q h => by
  obtain ⟨ρ, o, R, φ, hφ, k⟩ := h
  refine ⟨ρ, o, R, _, hφ, fun v r H1 s1 rv h1 => ?_⟩
  obtain ⟨kd, d⟩ := r
  cases d with
  | bl c => exact ⟨c, rv.view, k _ _ H1 s1 (by exact rfl) h1⟩
  | _ => exact h1.elim
def vIf (t : TDb) (ta tb : TD) : TD := fun ρ φ => t ρ fun c => (c = true → ta ρ φ) ∧ (c = false → tb ρ φ)
theorem ed_ifExp (hc : ET Γ X c tA) (ha : ED Γ X a ta) (hb : ED Γ X b tb) : ED Γ X (.IfExp c a b pos) (vIf tA ta tb) := fun H₀ => impE (pe_ifExp (hc H₀) (ha H₀) (hb H₀)) fun σ H Q h => by
  obtain ⟨ρ, o, R, φ, hφ, k⟩ := h
  refine ⟨ρ, o, R, _, hφ, fun c H1 s1 h1 => ?_⟩
  cases c with
  | true => exact iteT ⟨ρ, o, R.to s1, φ, h1.1 rfl, fun v2 r2 H2 s2 rv2 q => k v2 r2 H2 (s1.trans s2) (rv2.start s1) q⟩
  | false => exact iteF ⟨ρ, o, R.to s1, φ, h1.2 rfl, fun v2 r2 H2 s2 rv2 q => k v2 r2 H2 (s1.trans s2) (rv2.start s1) q⟩

def aNil : TDs := fun _ φ => φ []
def aCons (te : TD) (t : TDs) : TDs := fun ρ φ => te ρ fun r => t ρ fun rs => φ (r :: rs)
theorem ea_nil : EA Γ X [] aNil := fun H₀ => impA pa_nil fun σ H Q h => by
  obtain ⟨ρ, o, R, φ, hφ, k⟩ := h
  exact k [] [] H (Same.refl H) (by exact rfl) hφ
theorem ea_cons (ha : ED Γ X e te) (hr : EA Γ X es t) (hs : starEach (e :: es) X.env = (false, eval e X.env) :: starEach es X.env := by rfl) : EA Γ X (e :: es) (aCons te t) := fun H₀ => impA (pa_cons (ha H₀) (hr H₀) hs) fun σ H Q h => by
  obtain ⟨ρ, o, R, φ, hφ, k⟩ := h
  refine ⟨ρ, o, R, _, hφ, fun v r H1 s1 rv h1 => ⟨ρ, o, R.to s1, _, h1, fun vs rs H2 s2 rvs h2 => ?_⟩⟩
  exact k (v :: vs) (r :: rs) H2 (s1.trans s2) ⟨v, vs, rfl, rv.same s2, rvs.start s1⟩ h2
def solidB : List EV → Bool
  | [] => true
  | r :: rs => (match r.k with | .own => false | _ => true) && solidB rs
theorem solidB_iff : ∀ {rs : List EV}, solidB rs = true → ∀ r ∈ rs, r.k ≠ .own
  | [], _ => fun r h => nomatch h
  | ⟨k, d⟩ :: rs, h => fun r hr => by
    rw [solidB, Bool.and_eq_true] at h
    rcases List.mem_cons.mp hr with rfl | hr
    · intro z
      have z' : k = .own := z
      subst z'
      exact absurd h.1 (by simp)
    · exact solidB_iff h.2 r hr
def dTup (t : TDs) : TD := fun ρ φ => t ρ fun rs => solidB rs = true ∧ Nat.ble rs.length 1000 = true ∧ φ (dv (.tup (rs.map EV.d)))
def dLst (t : TDs) : TD := fun ρ φ => t ρ fun rs => solidB rs = true ∧ Nat.ble rs.length 1000 = true ∧ φ (df (.lst (rs.map EV.d)))
theorem le_line {n : Nat} (h : Nat.ble n 1000 = true) : n ≤ sizeLine := Nat.le_trans (Nat.le_of_ble_eq_true h) (by decide)
theorem RVs.length {K : PySem.W.Frag} {H0 H : Hp} {O : List Addr} : ∀ {rs : List EV} {vs : List V}, RVs K H0 H O rs vs → vs.length = rs.length
  | [], _, h => by cases h; rfl
  | r :: rs, vs, h => by
    obtain ⟨v, ws, rfl, _, t⟩ := h
    simp [RVs.length t]
theorem ed_tup {x1} (h : EA Γ X es t) : ED Γ X (.Tuple es x1 pos) (dTup t) := fun H₀ => impE (pe_tup (h H₀)) fun σ H Q q => by
  obtain ⟨ρ, o, R, φ, hφ, k⟩ := q
  refine ⟨ρ, o, R, _, hφ, fun vs rs H1 s1 rvs h1 => ⟨by rw [rvs.length]; exact le_line h1.2.1, fun p hp => ?_⟩⟩
  exact k _ _ _ (s1.trans (same_new hp _)) (RV.start (rv_tup hp (rvs.reps (solidB_iff h1.1))) s1) h1.2.2
theorem ed_lst (h : EA Γ X es t) : ED Γ X (.List es pos) (dLst t) := fun H₀ => impE (pe_lst (h H₀)) fun σ H Q q => by
  obtain ⟨ρ, o, R, φ, hφ, k⟩ := q
  refine ⟨ρ, o, R, _, hφ, fun vs rs H1 s1 rvs h1 => ⟨by rw [rvs.length]; exact le_line h1.2.1, fun p hp => ?_⟩⟩
  exact k _ _ _ (s1.trans (same_new hp _)) (RV.start (rv_lst (fun a e => R.ofree (s1.free e)) hp (rvs.reps (solidB_iff h1.1))) s1) h1.2.2

def sIx : D → D → (EV → Prop) → Prop := fun x y φ => match x, y with
  | .lst ds, .int i => match atI ds i with
    | some d => φ (dv d)
    | none => False
  | .tup ds, .int i => match atI ds i with
    | some d => φ (dv d)
    | none => False
  | .scr ns, .int i => match atI ns i with
    | some n => φ (dv (.int n))
    | none => False
  | .str z, .int i => z.length ≤ sizeLine ∧ match atI z.cps.toList i with
    | some c => φ (dv (.str ⟨#[c]⟩))
    | none => False
  | _, _ => False
theorem atI_reps {K : PySem.W.Frag} {H : Hp} {O : List Addr} {ds : List D} {xs : List V} {i : Int} {d : D} (r : Reps K H O ds xs) (h : atI ds i = some d) : ∃ v, atI xs i = some v ∧ Rep K H O d v := by
  unfold atI at h ⊢
  rw [r.length]
  cases e : ixN ds.length i with
  | none => rw [e] at h; cases h
  | some j =>
    rw [e] at h
    exact r.get h
theorem link_ix : Link2 X.K (rIx X.K) sIx := by
  intro H O x y vx vy φ Q ho hx hy h k
  unfold sIx at h
  split at h
  · obtain ⟨a, xs, rfl, q, r⟩ := hx
    split at h
    · rename_i d e
      obtain ⟨v, ev, rv⟩ := atI_reps r e
      exact .inl ⟨a, xs, _, v, rfl, hy, SqL.of q, ev, k _ _ H (Same.refl H) (RV.val rv) h⟩
    · exact h.elim
  · obtain ⟨a, xs, rfl, q, r⟩ := hx
    split at h
    · rename_i d e
      obtain ⟨v, ev, rv⟩ := atI_reps r e
      exact .inr (.inl ⟨a, xs, _, v, rfl, hy, q.1, ev, k _ _ H (Same.refl H) (RV.val rv) h⟩)
    · exact h.elim
  · obtain ⟨a, rfl, q⟩ := hx
    split at h
    · rename_i n e
      refine .inl ⟨a, _, _, .int n, rfl, hy, q.seq, ?_, k _ _ H (Same.refl H) (by exact rfl) h⟩
      unfold atI at e ⊢
      rw [List.length_map]
      cases e2 : ixN _ _ with
      | none => rw [e2] at e; cases e
      | some j =>
        rw [e2] at e
        exact (List.getElem?_map ..).trans (congrArg (Option.map V.int) e)
    · exact h.elim
  · obtain ⟨hz, h⟩ := h
    split at h
    · rename_i c e
      exact .inr (.inr ⟨_, _, c, hx, hy, hz, e, k _ _ H (Same.refl H) (by exact rfl) h⟩)
    · exact h.elim
  · exact h.elim
abbrev TDo := DE → (Option Int → Prop) → Prop
def liftO (K : PySem.W.Frag) (H₀ : Hp) (t : TDo) : TO := fun σ H Q => ∃ ρ o, REnv K H₀ H σ ρ o ∧ ∃ φ, t ρ φ ∧ ∀ b H', Same H H' → φ b → Q b H'
def EO (G : Hp → Prop) (X : Cx) (e : Option Expr) (t : TDo) : Prop := ∀ H₀ : {H : Hp // G H}, PO X e (liftO X.K H₀.1 t)
def oNone : TDo := fun _ φ => φ none
def oSome (t : TD) : TDo := fun ρ φ => t ρ fun r => match r.d with
  | .int i => φ (some i)
  | _ => False
theorem impO {e : Option Expr} {t t' : TO} (h : PO X e t) (i : ∀ σ H Q, t' σ H Q → t σ H Q) : PO X e t' := fun pins s σ H Q I q => h pins s σ H Q I (i σ H Q q)
theorem eo_none : EO Γ X none oNone := fun H₀ => impO po_none fun σ H Q h => by
  obtain ⟨ρ, o, R, φ, hφ, k⟩ := h
  exact k none H (Same.refl H) hφ
theorem eo_some (h : ED Γ X e te) : EO Γ X (some e) (oSome te) := fun H₀ => impO (po_some (h H₀)) fun σ H Q q => by
  obtain ⟨ρ, o, R, φ, hφ, k⟩ := q
  refine ⟨ρ, o, R, _, hφ, fun v r H1 s1 rv h1 => ?_⟩
  obtain ⟨kd, d⟩ := r
  cases d with
  | int i => exact ⟨i, rv.view, k _ H1 s1 h1⟩
  | _ => exact h1.elim
def cutD (xs : List D) (lo hi : Option Int) : List D := (xs.drop (HT.sIx xs.length 0 lo)).take (HT.sIx xs.length xs.length hi - HT.sIx xs.length 0 lo)
theorem reps_cut {K : PySem.W.Frag} {H : Hp} {O : List Addr} {ds : List D} {xs : List V} (r : Reps K H O ds xs) (lo hi : Option Int) : Reps K H O (cutD ds lo hi) (cutV xs lo hi) := by
  unfold cutD cutV
  rw [r.length]
  exact (r.drop _).take _
def sSl : D → Option Int → Option Int → (EV → Prop) → Prop := fun x lo hi φ => match x with
  | .lst ds => φ (df (.lst (cutD ds lo hi)))
  | .scr ns => φ (df (.lst (cutD (ns.map D.int) lo hi)))
  | .tup ds => ¬ (HT.sIx ds.length 0 lo = 0 ∧ HT.sIx ds.length ds.length hi = ds.length) ∧ φ (dv (.tup (cutD ds lo hi)))
  | _ => False
def dSl (te : TD) (tl th : TDo) : TD := fun ρ φ => te ρ fun x => tl ρ fun l => th ρ fun u => sSl x.d l u φ
theorem ed_slice {lo hi : Option Expr} {tl th : TDo} {p2 : Pos} (he : ED Γ X e te) (hl : EO Γ X lo tl) (hu : EO Γ X hi th) : ED Γ X (.Subscript e (.Slice lo hi none p2) pos) (dSl te tl th) := fun H₀ =>
  impE (pe_slice (sl_list.or sl_tup) (he H₀) (hl H₀) (hu H₀)) fun σ H Q q => by
    obtain ⟨ρ, o, R, φ, hφ, k⟩ := q
    refine ⟨ρ, o, R, _, hφ, fun v r H1 s1 rv h1 => ⟨ρ, o, R.to s1, _, h1, fun l H2 s2 h2 => ⟨ρ, o, R.to (s1.trans s2), _, h2, fun u H3 s3 h3 => ?_⟩⟩⟩
    have s12 := s1.trans s2
    have s13 := s12.trans s3
    have vw := (rv.same (s2.trans s3)).view
    obtain ⟨kd, d⟩ := r
    cases d with
    | lst ds =>
      obtain ⟨a, xs, rfl, q, r⟩ := vw
      refine .inl ⟨a, xs, rfl, SqL.of q, fun p hp => ?_⟩
      exact k _ _ _ (s13.trans (same_new hp _)) (RV.start (rv_lst (fun a e => R.ofree (s13.free e)) hp (reps_cut r l u)) s13) h3
    | scr ns =>
      obtain ⟨a, rfl, q⟩ := vw
      refine .inl ⟨a, _, rfl, q.seq, fun p hp => ?_⟩
      exact k _ _ _ (s13.trans (same_new hp _)) (RV.start (rv_lst (fun a e => R.ofree (s13.free e)) hp (reps_cut (Reps.ints ns) l u)) s13) h3
    | tup ds =>
      obtain ⟨a, xs, rfl, q, r⟩ := vw
      refine .inr ⟨a, xs, rfl, q.1, by rw [r.length]; exact h3.1, fun p hp => ?_⟩
      exact k _ _ _ (s13.trans (same_new hp _)) (RV.start (rv_tup hp (reps_cut r l u)) s13) h3.2
    | _ => exact h3.elim
end
end DL

set_option Elab.async false
set_option linter.all false
set_option maxRecDepth 100000
set_option maxHeartbeats 4000000
namespace DL
open PySem PySem.Spec L2 L3
open PyProof.Rows hiding St
variable {Γ : Hp → Prop}

def pureEV (r : EV) : Prop := match r.k with
  | .val => pureD r.d
  | .own => False
  | .fre => match r.d with
    | .lst ds => pureDs ds
    | .dk _ ds => pureDs ds
    | .dt _ ds => pureDs ds
    | _ => False
  | .new => True
theorem RV.lift {K : PySem.W.Frag} {H0 H : Hp} {O : List Addr} {r : EV} {v : V} (h : RV K H0 H [] r v) (p : pureEV r) (ho : ∀ a, H0 a = none → a ∉ O) : RV K H0 H O r v := by
  obtain ⟨k, d⟩ := r
  cases k with
  | val => exact Rep.pure _ _ p h
  | own => exact p.elim
  | fre =>
    obtain ⟨a, e, m, n, c⟩ := h
    refine ⟨a, e, m, ho a m, ?_⟩
    cases d with
    | lst ds => obtain ⟨xs, q, r⟩ := c; exact ⟨xs, q, Reps.pure _ _ p r⟩
    | dk ks ds => obtain ⟨xs, q, l, nd, r⟩ := c; exact ⟨xs, q, l, nd, Reps.pure _ _ p r⟩
    | dt ks ds => obtain ⟨xs, q, l, nd, r⟩ := c; exact ⟨xs, q, l, nd, Reps.pure _ _ p r⟩
    | _ => exact c.elim
  | new => exact RepN.to (Same.refl H) (fun a z => ⟨ho a z.2, z.2⟩) _ _ h
abbrev FT := List D → (EV → Prop) → Prop
def spD (K : PySem.W.Frag) (n : Nat) (T : FT) : Sp := fun vs H Q _ => ∃ ds φ, ds.length = n ∧ Reps K H [] ds vs ∧ T ds φ ∧ ∀ v r H', Same H H' → RV K H H' [] r v → pureEV r → φ r → Q v H'
structure FD (P : Program) (w : World) (K : PySem.W.Frag) (mg : Str → Option Value) (base : Heap) (k : Nat) (x : Str) (ps : List Str) (T : FT) : Prop where
  ex : ∃ f fd, FnOk P w K mg base CX0 k f fd ps (spD K ps.length T) ∧ Binds K fd ps [] ∧ PySem.W.keepIn K (.ref f) = true ∧ mg x = some (.ref f)
def dCall (n : Nat) (T : FT) (t : TDs) : TD := fun ρ φ => t ρ fun rs => Nat.beq rs.length n = true ∧ T (rs.map EV.d) φ
section
variable {X : Cx} {x : Str} {ps : List Str} {T : FT} {k : Nat} {e : Expr} {es : List Expr} {t : TDs} {p pos : Pos}
theorem lift_call {H₀ : Hp} : ∀ σ H Q, liftE X.K H₀ (dCall ps.length T t) σ H Q → tCall (spD X.K ps.length T) [] E0 (liftA X.K H₀ t) σ H Q := fun σ H Q q => by
  obtain ⟨ρ, o, R, φ, hφ, kk⟩ := q
  refine ⟨ρ, o, R, _, hφ, fun vs rs H1 s1 rvs h1 => ?_⟩
  show spD X.K ps.length T (vs ++ []) H1 Q E0
  rw [List.append_nil]
  refine ⟨rs.map EV.d, φ, by rw [List.length_map]; exact Nat.eq_of_beq_eq_true h1.1, rvs.reps0, h1.2, fun v r H2 s2 rv pr h2 => ?_⟩
  exact kk v r H2 (s1.trans s2) (RV.start (rv.lift pr fun a e => R.ofree (s1.free e)) s1) h2
theorem ed_call (F : FD X.prog X.w X.K X.mg X.base k x ps T) (hr : Room k X.A) (ha : EA Γ X (e :: es) t) (hg : Gl X x := by rfl) (hdb : (x == ("__debug__" : Str)) = false := by decide)
    (he : starEach (e :: es) X.env = (false, eval e X.env) :: starEach es X.env := by rfl) (hpl : (backTo pos (starEach es X.env)).any (·.1) = false := by rfl) : ED Γ X (.Call (.Name x p) (e :: es) [] pos) (dCall ps.length T t) := fun H₀ => by
  obtain ⟨f, fd, ok, b, kp, m⟩ := F.ex
  exact impE (pe_call ok hr hg m kp b .nil pass0 (ha H₀) hdb he hpl) lift_call
theorem ed_call0 (F : FD X.prog X.w X.K X.mg X.base k x ps T) (hr : Room k X.A) (hg : Gl X x := by rfl) (hdb : (x == ("__debug__" : Str)) = false := by decide) : ED Γ X (.Call (.Name x p) [] [] pos) (dCall ps.length T aNil) := fun H₀ => by
  obtain ⟨f, fd, ok, b, kp, m⟩ := F.ex
  refine impE (pe_call0 ok hr hg m kp b .nil pass0 hdb) fun σ H Q q => ?_
  obtain ⟨ρ, o, R, φ, hφ, kk⟩ := q
  refine ⟨[], φ, Nat.eq_of_beq_eq_true hφ.1, rfl, hφ.2, fun v r H2 s2 rv pr h2 => ?_⟩
  exact kk v r H2 s2 (rv.lift pr fun a e => R.ofree e) h2

def Views (K : PySem.W.Frag) (H : Hp) (O : List Addr) : List D → List V → Prop
  | [], vs => vs = []
  | d :: ds, vs => ∃ v ws, vs = v :: ws ∧ View K H O d v ∧ Views K H O ds ws
theorem RVs.views {K : PySem.W.Frag} {H0 H : Hp} {O : List Addr} : ∀ {rs : List EV} {vs : List V}, RVs K H0 H O rs vs → Views K H O (rs.map EV.d) vs
  | [], _, h => h
  | r :: rs, vs, h => by
    obtain ⟨v, ws, e, q, t⟩ := h
    exact ⟨v, ws, e, q.view, t.views⟩
def LinkC (K : PySem.W.Frag) (r : List V → Hp → VK → Prop) (s : FT) : Prop :=
  ∀ (H : Hp) (O : List Addr) (ds : List D) (vs : List V) (φ : EV → Prop) (Q : VK), (∀ a, H a = none → a ∉ O) → Views K H O ds vs → s ds φ → (∀ v r H', Same H H' → RV K H H' O r v → φ r → Q v H') → r vs H Q
def dCB (s : FT) (t : TDs) : TD := fun ρ φ => t ρ fun rs => s (rs.map EV.d) φ
theorem lift_cb {r : List V → Hp → VK → Prop} {s : FT} (hl : LinkC X.K r s) {H₀ : Hp} : ∀ σ H Q, liftE X.K H₀ (dCB s t) σ H Q → tCB r (liftA X.K H₀ t) σ H Q := fun σ H Q q => by
  obtain ⟨ρ, o, R, φ, hφ, kk⟩ := q
  refine ⟨ρ, o, R, _, hφ, fun vs rs H1 s1 rvs h1 => ?_⟩
  exact hl H1 _ _ vs φ Q (fun a e => R.ofree (s1.free e)) rvs.views h1 fun v r H2 s2 rv h2 => kk v r H2 (s1.trans s2) (rv.start s1) h2
theorem ed_callB {id : String} {r : List V → Hp → VK → Prop} {s : FT} (hc : CallR X (.builtin id) r) (hl : LinkC X.K r s) (hm : X.mg x = none) (hv : bootBuiltins x = some (.builtin id)) (ha : EA Γ X (e :: es) t) (hg : Gl X x := by rfl) (hn : x ≠ "__name__" := by decide) (hdb : (x == ("__debug__" : Str)) = false := by decide)
    (he : starEach (e :: es) X.env = (false, eval e X.env) :: starEach es X.env := by rfl) (hpl : (backTo pos (starEach es X.env)).any (·.1) = false := by rfl) : ED Γ X (.Call (.Name x p) (e :: es) [] pos) (dCB s t) := fun H₀ =>
  impE (pe_callB hc hg hm hv (ha H₀) hn hdb he hpl) (lift_cb hl)
theorem ed_callTy {T : String} {r : List V → Hp → VK → Prop} {s : FT} (hc : CallR X (.type T) r) (hl : LinkC X.K r s) (hm : X.mg x = none) (hv : bootBuiltins x = some (.type T)) (ha : EA Γ X (e :: es) t) (hg : Gl X x := by rfl) (hn : x ≠ "__name__" := by decide) (hdb : (x == ("__debug__" : Str)) = false := by decide)
    (he : starEach (e :: es) X.env = (false, eval e X.env) :: starEach es X.env := by rfl) (hpl : (backTo pos (starEach es X.env)).any (·.1) = false := by rfl) : ED Γ X (.Call (.Name x p) (e :: es) [] pos) (dCB s t) := fun H₀ =>
  impE (pe_callTy hc hg hm hv (ha H₀) hn hdb he hpl) (lift_cb hl)
def sLen : FT := fun ds φ => match ds with
  | [.lst l] => φ (dv (.int l.length))
  | [.tup l] => φ (dv (.int l.length))
  | [.scr l] => φ (dv (.int l.length))
  | [.str z] => z.length ≤ sizeLine ∧ φ (dv (.int z.length))
  | _ => False
theorem link_len : LinkC X.K (fun xs H Q => (∃ p ys, xs = [.ref p] ∧ (SqL X.K H p ys ∨ SqT X.K H p ys) ∧ Q (.int ys.length) H) ∨ ∃ z, xs = [.str z] ∧ z.length ≤ sizeLine ∧ Q (.int z.length) H) sLen := by
  intro H O ds vs φ Q ho hv h k
  unfold sLen at h
  split at h
  · obtain ⟨v, ws, rfl, ⟨a, xs, rfl, q, r⟩, rfl⟩ := hv
    refine .inl ⟨a, xs, rfl, .inl (SqL.of q), ?_⟩
    rw [r.length]
    exact k _ _ H (Same.refl H) (by exact rfl) h
  · obtain ⟨v, ws, rfl, ⟨a, xs, rfl, q, r⟩, rfl⟩ := hv
    refine .inl ⟨a, xs, rfl, .inr q.1, ?_⟩
    rw [r.length]
    exact k _ _ H (Same.refl H) (by exact rfl) h
  · obtain ⟨v, ws, rfl, ⟨a, rfl, q⟩, rfl⟩ := hv
    refine .inl ⟨a, _, rfl, .inl q.seq, ?_⟩
    rw [List.length_map]
    exact k _ _ H (Same.refl H) (by exact rfl) h
  · obtain ⟨v, ws, rfl, hz, rfl⟩ := hv
    cases (show v = _ from hz)
    exact .inr ⟨_, rfl, h.1, k _ _ H (Same.refl H) (by exact rfl) h.2⟩
  · exact h.elim
theorem ed_len (hm : X.mg "len" = none) (ha : EA Γ X (e :: es) t) (hg : Gl X "len" := by rfl) (he : starEach (e :: es) X.env = (false, eval e X.env) :: starEach es X.env := by rfl) (hpl : (backTo pos (starEach es X.env)).any (·.1) = false := by rfl) : ED Γ X (.Call (.Name "len" p) (e :: es) [] pos) (dCB sLen t) :=
  ed_callB (call_len_seq.or call_len_str) link_len hm PySem.boot_len ha hg (by decide) (by decide) he hpl
def sAbs : FT := fun ds φ => match ds with
  | [.int i] => φ (dv (.int (if i < 0 then -i else i)))
  | _ => False
end
end DL

set_option Elab.async false
set_option linter.all false
set_option maxRecDepth 100000
set_option maxHeartbeats 4000000
namespace DL
open PySem PySem.Spec L2 L3
open PyProof.Rows hiding St
variable {Γ : Hp → Prop}

def EV.sto (r : EV) : EV := ⟨match r.k with
  | .fre => .own
  | .new => .val
  | k => k, r.d⟩
def EV.ret (r : EV) : EV := ⟨match r.k with
  | .own => .fre
  | k => k, r.d⟩
def setS : DE → Nat → EV → DE
  | [], _, _ => []
  | _ :: r, 0, v => some v :: r
  | x :: r, i + 1, v => x :: setS r i v
theorem setS_eq : ∀ (ρ : DE) (i : Nat) (v : EV), setS ρ i v = ρ.set i (some v)
  | [], _, _ => rfl
  | _ :: _, 0, _ => rfl
  | x :: r, i + 1, v => by rw [setS, setS_eq r i v, List.set_cons_succ]
theorem Con.grow {K : PySem.W.Frag} {H H' : Hp} {O O' : List Addr} {d : D} {a : Addr} (h : Con K H O d a) (s : ∀ u, H a = some u → H' a = some u) (g : Grow O O' H H') : Con K H' O' d a := by
  cases d with
  | lst ds => obtain ⟨xs, q, r⟩ := h; exact ⟨xs, s _ q, Reps.grow g _ _ r⟩
  | dk ks ds => obtain ⟨xs, q, l, n, r⟩ := h; exact ⟨xs, s _ q, l, n, Reps.grow g _ _ r⟩
  | dt ks ds => obtain ⟨xs, q, l, n, r⟩ := h; exact ⟨xs, s _ q, l, n, Reps.grow g _ _ r⟩
  | _ => exact h.elim
theorem Con.mtb {K : PySem.W.Frag} {H : Hp} {O : List Addr} {d : D} {a : Addr} (h : Con K H O d a) : (∃ u, H a = some u) ∧ (∀ xs, H a ≠ some (.tup xs)) ∧ ∀ ob u, H a ≠ some (.frz ob u) := by
  cases d with
  | lst ds => obtain ⟨xs, q, r⟩ := h; exact ⟨⟨_, q⟩, (fun xs z => by rw [q] at z; cases z), (fun ob u z => by rw [q] at z; cases z)⟩
  | dk ks ds => obtain ⟨xs, q, r⟩ := h; exact ⟨⟨_, q⟩, (fun xs z => by rw [q] at z; cases z), (fun ob u z => by rw [q] at z; cases z)⟩
  | dt ks ds => obtain ⟨xs, q, r⟩ := h; exact ⟨⟨_, q⟩, (fun xs z => by rw [q] at z; cases z), (fun ob u z => by rw [q] at z; cases z)⟩
  | _ => exact h.elim
section
variable {K : PySem.W.Frag} {H₀ H H' : Hp} {σ : St} {ρ : DE} {o : List (Nat × Addr)}
/-- a thing that stays -/
theorem REnv.setV (R : REnv K H₀ H σ ρ o) (i : Nat) {d : D} {v : V} (h : Rep K H (o.map Prod.snd) d v) : REnv K H₀ H (σ.set i (some v)) (setS ρ i (dv d)) o where
  same := R.same
  fresh := R.fresh
  trk := R.trk
  mtb := R.mtb
  nda := R.nda
  len := by rw [setS_eq, List.length_set, List.length_set]; exact R.len
  slots := fun j r e => by
    rw [setS_eq] at e
    by_cases hj : j = i
    · subst hj
      have hl : j < ρ.length := by
        rcases Nat.lt_or_ge j ρ.length with z | z
        · exact z
        · rw [List.getElem?_eq_none (by rw [List.length_set]; exact z)] at e
          cases e
      rw [List.getElem?_set_self hl] at e
      cases e
      exact ⟨v, List.getElem?_set_self (by rw [R.len]; exact hl), .inl ⟨rfl, h⟩⟩
    · rw [List.getElem?_set_ne (Ne.symm hj)] at e
      obtain ⟨w, ew, q⟩ := R.slots j r e
      exact ⟨w, by rw [List.getElem?_set_ne (Ne.symm hj)]; exact ew, q⟩
/-- a new list or dict becomes ours -/
theorem REnv.setO (R : REnv K H₀ H σ ρ o) (s : Same H H') (i : Nat) {d : D} {a : Addr} (ha : H a = none) (c : Con K H' (a :: o.map Prod.snd) d a) :
    REnv K H₀ H' (σ.set i (some (.ref a))) (setS ρ i (dO d)) ((i, a) :: o) ∧ Grow (o.map Prod.snd) (((i, a) :: o).map Prod.snd) H H' := by
  have g : Grow (o.map Prod.snd) (((i, a) :: o).map Prod.snd) H H' := by
    refine ⟨fun b u h n => ⟨s b u h, fun z => ?_⟩, fun b xs h => s b _ h, fun b ob u h => s b _ h⟩
    rw [List.map_cons] at z
    rcases List.mem_cons.mp z with z | z
    · exact ne_of_none h ha z
    · exact n z
  refine ⟨?_, g⟩
  have R' := R.to s
  exact {
    same := R'.same
    fresh := fun p hp => by
      rcases List.mem_cons.mp hp with rfl | hp
      · exact R.same.free ha
      · exact R.fresh p hp
    trk := fun p hp => by
      rcases List.mem_cons.mp hp with rfl | hp
      · exact c.mtb.1
      · exact R'.trk p hp
    mtb := fun p hp => by
      rcases List.mem_cons.mp hp with rfl | hp
      · exact c.mtb.2
      · exact R'.mtb p hp
    nda := by
      rw [List.map_cons, List.nodup_cons]
      exact ⟨fun z => R.ofree ha z, R.nda⟩
    len := by rw [setS_eq, List.length_set, List.length_set]; exact R.len
    slots := fun j r e => by
      rw [setS_eq] at e
      by_cases hj : j = i
      · subst hj
        have hl : j < ρ.length := by
          rcases Nat.lt_or_ge j ρ.length with z | z
          · exact z
          · rw [List.getElem?_eq_none (by rw [List.length_set]; exact z)] at e
            cases e
        rw [List.getElem?_set_self hl] at e
        cases e
        exact ⟨_, List.getElem?_set_self (by rw [R.len]; exact hl), .inr ⟨rfl, a, rfl, List.mem_cons_self .., c⟩⟩
      · rw [List.getElem?_set_ne (Ne.symm hj)] at e
        obtain ⟨w, ew, q⟩ := R.slots j r e
        refine ⟨w, by rw [List.getElem?_set_ne (Ne.symm hj)]; exact ew, ?_⟩
        rcases q with ⟨k, q⟩ | ⟨k, a', e1, m, c'⟩
        · exact .inl ⟨k, Rep.grow g _ _ q⟩
        · exact .inr ⟨k, a', e1, List.mem_cons_of_mem _ m, c'.grow (fun u q => s _ _ q) g⟩ }
/-- either -/
theorem REnv.put (R : REnv K H₀ H σ ρ o) (s : Same H H') (i : Nat) {r : EV} {v : V} (h : RV K H H' (o.map Prod.snd) r v) (hk : r.k ≠ .own) :
    ∃ o', REnv K H₀ H' (σ.set i (some v)) (setS ρ i r.sto) o' ∧ Grow (o.map Prod.snd) (o'.map Prod.snd) H H' := by
  obtain ⟨k, d⟩ := r
  cases k with
  | val => exact ⟨_, (R.to s).setV i h, Grow.same s⟩
  | own => exact absurd rfl hk
  | fre =>
    obtain ⟨a, rfl, m, n, c⟩ := h
    exact ⟨_, R.setO s i m c⟩
  | new => exact ⟨_, (R.to s).setV i (RepN.rep (fun a z => z.1) _ _ h), Grow.same s⟩
theorem inj_snd : ∀ {o : List (Nat × Addr)}, (o.map Prod.snd).Nodup → ∀ {p q : Nat × Addr}, p ∈ o → q ∈ o → p.2 = q.2 → p = q
  | [], _, _, _, h, _, _ => nomatch h
  | x :: o, nd, p, q, hp, hq, e => by
    rw [List.map_cons, List.nodup_cons] at nd
    rcases List.mem_cons.mp hp with h1 | hp
    · rcases List.mem_cons.mp hq with h2 | hq
      · rw [h1, h2]
      · exact absurd (List.mem_map.mpr ⟨q, hq, by rw [← e, h1]⟩) nd.1
    · rcases List.mem_cons.mp hq with h2 | hq
      · exact absurd (List.mem_map.mpr ⟨p, hp, by rw [e, h2]⟩) nd.1
      · exact inj_snd nd.2 hp hq e
/-- our own list or dict at slot i is changed -/
theorem REnv.chg (R : REnv K H₀ H σ ρ o) {i : Nat} {a : Addr} {d d' : D} {ho : HO} (hs : ρ[i]? = some (some (dO d))) (hσ : σ[i]? = some (some (.ref a))) (hm : (i, a) ∈ o) (hho : (∀ xs, ho ≠ .tup xs) ∧ ∀ ob u, ho ≠ .frz ob u)
    (c : (∀ ds xs, Reps K H (o.map Prod.snd) ds xs → Reps K (upd H a ho) (o.map Prod.snd) ds xs) → Con K (upd H a ho) (o.map Prod.snd) d' a) :
    REnv K H₀ (upd H a ho) σ (setS ρ i (dO d')) o ∧ Grow (o.map Prod.snd) (o.map Prod.snd) H (upd H a ho) := by
  have ha : a ∈ o.map Prod.snd := List.mem_map.mpr ⟨_, hm, rfl⟩
  obtain ⟨m1, m2⟩ := R.mtb _ hm
  have g : Grow (o.map Prod.snd) (o.map Prod.snd) H (upd H a ho) :=
    ⟨fun b u h n => ⟨by rw [upd_ne (show b ≠ a from fun z => n (by rw [z]; exact ha))]; exact h, n⟩, fun b xs h => by rw [upd_ne (show b ≠ a from fun z => m1 xs (by rw [← z]; exact h))]; exact h, fun b ob u h => by rw [upd_ne (show b ≠ a from fun z => m2 ob u (by rw [← z]; exact h))]; exact h⟩
  refine ⟨?_, g⟩
  exact {
    same := fun b u h => by
      have : b ≠ a := fun z => by
        have := R.fresh _ hm
        rw [← z, h] at this
        cases this
      rw [upd_ne this]
      exact R.same b u h
    fresh := R.fresh
    trk := fun p hp => by
      by_cases e : p.2 = a
      · exact ⟨ho, by rw [e]; exact upd_same⟩
      · rw [upd_ne e]
        exact R.trk p hp
    mtb := fun p hp => by
      by_cases e : p.2 = a
      · rw [e, upd_same]
        exact ⟨fun xs z => hho.1 xs (Option.some.inj z), fun ob u z => hho.2 ob u (Option.some.inj z)⟩
      · rw [upd_ne e]
        exact R.mtb p hp
    nda := R.nda
    len := by rw [setS_eq, List.length_set]; exact R.len
    slots := fun j r e => by
      rw [setS_eq] at e
      by_cases hj : j = i
      · subst hj
        have hl : j < ρ.length := (List.getElem?_eq_some_iff.mp hs).1
        rw [List.getElem?_set_self hl] at e
        cases e
        obtain ⟨v, ev, q⟩ := R.slots j _ hs
        rcases q with ⟨k, _⟩ | ⟨_, a', e1, m', _⟩
        · cases k
        · have haa : a' = a := by
            rw [hσ] at ev
            cases ev
            cases e1
            rfl
          subst haa
          exact ⟨v, ev, .inr ⟨rfl, a', e1, hm, c fun ds xs q => Reps.grow g _ _ q⟩⟩
      · rw [List.getElem?_set_ne (Ne.symm hj)] at e
        obtain ⟨w, ew, q⟩ := R.slots j r e
        refine ⟨w, ew, ?_⟩
        rcases q with ⟨k, q⟩ | ⟨k, a', e1, m', c'⟩
        · exact .inl ⟨k, Rep.grow g _ _ q⟩
        · refine .inr ⟨k, a', e1, m', c'.grow (fun u q => ?_) g⟩
          have hne : a' ≠ a := fun z => by
            exact hj (congrArg Prod.fst (inj_snd R.nda m' hm z))
          rw [upd_ne hne]
          exact q }
end

section
variable {X : Cx} {st : Stmt} {rest : List Stmt} {t u : TDS} {e : Expr} {te : TD} {tc : TDb} {pos : Pos}
def sNil : TDS := fun ρ Z => Z.nx ρ
def sSeq (t u : TDS) : TDS := fun ρ Z => t ρ { Z with nx := fun ρ' => u ρ' Z }
theorem ss_nil : SDs Γ X [] sNil := fun H₀ => impSs pss_nil fun D σ H h => by
  obtain ⟨ρ, o, R, Z, hZ, k1, _⟩ := h
  exact k1 ρ σ H o Grow.refl R hZ
theorem ss_cons (h1 : SD Γ X st t) (h2 : SDs Γ X rest u) : SDs Γ X (st :: rest) (sSeq t u) := fun H₀ => impSs (pss_cons (h1 H₀) (h2 H₀)) fun D σ H h => by
  obtain ⟨ρ, o, R, Z, hZ, k1, k2, k3, k4⟩ := h
  refine ⟨ρ, o, R, _, hZ, fun ρ' σ' H' o' g R' q => ?_, k2, k3, k4⟩
  exact ⟨ρ', o', R', Z, q, fun ρ2 σ2 H2 o2 g2 R2 q2 => k1 ρ2 σ2 H2 o2 (g.trans g2) R2 q2, fun ρ2 σ2 H2 o2 g2 R2 q2 => k2 ρ2 σ2 H2 o2 (g.trans g2) R2 q2, fun ρ2 σ2 H2 o2 g2 R2 q2 => k3 ρ2 σ2 H2 o2 (g.trans g2) R2 q2, k4⟩
theorem ss_one (h1 : SD Γ X st t) : SDs Γ X [st] t := fun H₀ => pss_one (h1 H₀)
/-- code that is never come to -/
theorem sd_never : SD Γ X st (fun _ _ => False) := fun H₀ => impS ps_never fun D σ H h => by
  obtain ⟨_, _, _, _, hZ, _⟩ := h
  exact hZ.elim
def sRet (te : TD) : TDS := fun ρ Z => te ρ fun r => Z.rt r.ret
theorem RV.ret {K : PySem.W.Frag} {H₀ H H' : Hp} {σ : St} {ρ : DE} {o : List (Nat × Addr)} (R : REnv K H₀ H σ ρ o) {r : EV} {v : V} (h : RV K H H' (o.map Prod.snd) r v) : RV K H₀ H' [] r.ret v := by
  obtain ⟨k, d⟩ := r
  cases k with
  | val => exact Rep.sub (O' := []) (fun _ z => absurd z (by simp)) _ _ h
  | own =>
    obtain ⟨a, e, m, c⟩ := h
    obtain ⟨p, hp, ep⟩ := List.mem_map.mp m
    subst ep
    exact ⟨p.2, e, R.fresh p hp, by simp, c.sub fun b hb => by
      have : b = p.2 := by simpa using hb
      rw [this]
      exact m⟩
  | fre =>
    obtain ⟨a, e, m, n, c⟩ := h
    exact ⟨a, e, R.same.free m, by simp, c.sub fun b hb => by
      have : b = a := by simpa using hb
      rw [this]
      exact List.mem_cons_self ..⟩
  | new => exact RepN.to (Same.refl H') (fun a z => ⟨by simp, R.same.free z.2⟩) _ _ h
theorem sd_ret (he : ED Γ X e te) : SD Γ X (.Return (some e) pos) (sRet te) := fun H₀ => impS (ps_ret (he H₀)) fun D σ H h => by
  obtain ⟨ρ, o, R, Z, hZ, k1, k2, k3, k4⟩ := h
  refine ⟨ρ, o, R, _, hZ, fun v r H1 s1 rv h1 => ?_⟩
  exact k4 v r.ret H1 (R.same.trans s1) (RV.ret R rv) h1
def sIf (tc : TDb) (t u : TDS) : TDS := fun ρ Z => tc ρ fun c => (c = true → t ρ Z) ∧ (c = false → u ρ Z)
theorem sd_if {c : Expr} {a b : List Stmt} (hc : ET Γ X c tc) (ha : SDs Γ X a t) (hb : SDs Γ X b u) : SD Γ X (.If c a b pos) (sIf tc t u) := fun H₀ => impS (ps_if (hc H₀) (ha H₀) (hb H₀)) fun D σ H h => by
  obtain ⟨ρ, o, R, Z, hZ, k1, k2, k3, k4⟩ := h
  refine ⟨ρ, o, R, _, hZ, fun c H1 s1 h1 => ?_⟩
  have g : Grow (o.map Prod.snd) (o.map Prod.snd) H H1 := Grow.same s1
  have kk : ∀ {v : TDS}, v ρ Z → liftS X.K H₀.1 v D σ H1 := fun hv => ⟨ρ, o, R.to s1, Z, hv, fun ρ2 σ2 H2 o2 g2 R2 q2 => k1 ρ2 σ2 H2 o2 (g.trans g2) R2 q2, fun ρ2 σ2 H2 o2 g2 R2 q2 => k2 ρ2 σ2 H2 o2 (g.trans g2) R2 q2, fun ρ2 σ2 H2 o2 g2 R2 q2 => k3 ρ2 σ2 H2 o2 (g.trans g2) R2 q2, k4⟩
  cases c with
  | true => exact iteT (kk (h1.1 rfl))
  | false => exact iteF (kk (h1.2 rfl))
/-- behind a statement something is known -/
def sCut (t : TDS) : TDS := fun ρ Z => ∃ J : DE → Prop, t ρ { Z with nx := J } ∧ ∀ ρ', J ρ' → Z.nx ρ'
theorem sd_cut (h : SD Γ X st t) : SD Γ X st (sCut t) := fun H₀ => impS (h H₀) fun D σ H h => by
  obtain ⟨ρ, o, R, Z, ⟨J, hZ, hJ⟩, k1, k2, k3, k4⟩ := h
  exact ⟨ρ, o, R, _, hZ, fun ρ2 σ2 H2 o2 g2 R2 q2 => k1 ρ2 σ2 H2 o2 g2 R2 (hJ ρ2 q2), k2, k3, k4⟩
def sExpr (te : TD) : TDS := fun ρ Z => te ρ fun _ => Z.nx ρ
theorem sd_expr (he : ED Γ X e te) (hs : swapsWith e none pos.line X.env = pure false := by rfl) : SD Γ X (.Expr e pos) (sExpr te) := fun H₀ => impS (ps_expr (he H₀) hs) fun D σ H h => by
  obtain ⟨ρ, o, R, Z, hZ, k1, k2, k3, k4⟩ := h
  exact ⟨ρ, o, R, _, hZ, fun v r H1 s1 rv h1 => k1 ρ σ H1 o (Grow.same s1) (R.to s1) h1⟩
/-- name = e -/
def sSet (i : Nat) (te : TD) : TDS := fun ρ Z => te ρ fun r => (match r.k with | .own => False | _ => True) ∧ Z.nx (setS ρ i r.sto)
theorem notOwn {r : EV} (h : match r.k with | .own => False | _ => True) : r.k ≠ .own := by
  obtain ⟨k, d⟩ := r
  cases k with
  | own => exact h.elim
  | val => exact fun z => nomatch z
  | fre => exact fun z => nomatch z
  | new => exact fun z => nomatch z
theorem sd_set (i : Nat) {x : Str} {pos' : Pos} (hN : X.N.Nodup) (he : ED Γ X e te) (hi : X.N[i]? = some x := by rfl) (hx : Loc X.env.scope x := by first | exact Or.inl rfl | exact Or.inr rfl) (hs : swapsWith e (some (.Name x pos')) pos.line X.env = pure false := by rfl)
    (hf : X.fn x = true ∨ X.env.scope.names.lookup x = some .local := by first | exact .inl rfl | exact .inr rfl | assumption) : SD Γ X (.Assign [.Name x pos'] e pos) (sSet i te) := fun H₀ => impS (ps_set hN hi hx (he H₀) hs hf) fun D σ H h => by
  obtain ⟨ρ, o, R, Z, hZ, k1, k2, k3, k4⟩ := h
  refine ⟨ρ, o, R, _, hZ, fun v r H1 s1 rv h1 => ?_⟩
  obtain ⟨o', R', g⟩ := R.put s1 i rv (notOwn h1.1)
  exact k1 _ _ H1 o' g R' h1.2

abbrev TGD := D → DE → (DE → Prop) → Prop
def GLink (K : PySem.W.Frag) (g2 : TG) (g : TGD) : Prop := ∀ (H₀ H : Hp) (σ : St) (ρ : DE) (o : List (Nat × Addr)) (d : D) (v : V) (ψ : DE → Prop) (Q : St → Hp → Prop), REnv K H₀ H σ ρ o → Rep K H (o.map Prod.snd) d v → g d ρ ψ →
  (∀ ρ' σ', REnv K H₀ H σ' ρ' o → ψ ρ' → Q σ' H) → g2 v σ H Q
def gN (i : Nat) : TGD := fun d ρ ψ => ψ (setS ρ i (dv d))
theorem gl_name {K : PySem.W.Frag} (i : Nat) : GLink K (gName i) (gN i) := fun H₀ H σ ρ o d v ψ Q R h hg k => k _ _ (R.setV i h) hg
def gT2 (i j : Nat) : TGD := fun d ρ ψ => match d with
  | .tup [a, b] => ψ (setS (setS ρ i (dv a)) j (dv b))
  | _ => False
theorem gl_tup2 {K : PySem.W.Frag} (i j : Nat) : GLink K (gTup K 2 (gCons (gName i) (gCons (gName j) gNil))) (gT2 i j) := fun H₀ H σ ρ o d v ψ Q R h hg k => by
  unfold gT2 at hg
  split at hg
  · rename_i a b
    obtain ⟨p, xs, rfl, q, r⟩ := h
    obtain ⟨v1, r1, rfl, h1, v2, r2, rfl, h2, rfl⟩ := r
    refine ⟨p, _, rfl, q.1, rfl, v1, _, rfl, v2, _, rfl, rfl, ?_⟩
    have R1 := R.setV i h1
    have R2 := R1.setV j h2
    exact k _ _ R2 hg
  · exact hg.elim
/-- a, b = e (e a tuple) -/
def sUn (te : TD) (g : TGD) : TDS := fun ρ Z => te ρ fun r => (match r.k with | .own => False | _ => True) ∧ g r.d ρ Z.nx
theorem sd_un {tg : Expr} {g2 : TG} {g : TGD} (he : ED Γ X e te) (hg : PG X tg g2) (hl : GLink X.K g2 g) (hs : swapsWithSole [tg] e pos.line X.env = pure false := by rfl) (hw : swappedStores [tg] e X.env = pure none := by rfl)
    (h1 : (assignEach [tg] X.env).map (·.2) = [assign tg X.env] := by rfl) : SD Γ X (.Assign [tg] e pos) (sUn te g) := fun H₀ => impS (ps_asg (he H₀) hg hs hw h1) fun D σ H h => by
  obtain ⟨ρ, o, R, Z, hZ, k1, k2, k3, k4⟩ := h
  refine ⟨ρ, o, R, _, hZ, fun v r H1 s1 rv h1 => ?_⟩
  exact hl H₀.1 H1 σ ρ o r.d v _ _ (R.to s1) (rv.solid (notOwn h1.1)) h1.2 fun ρ' σ' R' q => k1 ρ' σ' H1 o (Grow.same s1) R' q
/-- a, b = x, y -/
def sPar (i j : Nat) (ta : TDs) : TDS := fun ρ Z => ta ρ fun rs => match rs with
  | [⟨.val, a⟩, ⟨.val, b⟩] => Z.nx (setS (setS ρ i (dv a)) j (dv b))
  | _ => False
def sWh (tc : TDb) (tb : TDS) : TDS := fun ρ Z => ∃ (P : DE → Prop) (μ : DE → Nat), P ρ ∧ ∀ ρ, P ρ → tc ρ fun c =>
  (c = true → tb ρ { Z with nx := fun ρ' => P ρ' ∧ μ ρ' < μ ρ, ct := fun ρ' => P ρ' ∧ μ ρ' < μ ρ, bk := Z.nx }) ∧ (c = false → Z.nx ρ)
theorem sd_while {c : Expr} {body : List Stmt} {tb : TDS} (hc : ET Γ X c tc) (hb : SDs Γ X body tb) (hp : PassesOwn (model X.prog X.w) X.A X.env X.xe := by exact PassesOwn.never) : SD Γ X (.While c body [] pos) (sWh tc tb) := fun H₀ => impS (ps_while hp (hc H₀) (hb H₀)) fun D σ H h => by
  obtain ⟨ρ, o, R, Z, ⟨P, μ, hP, turn⟩, k1, k2, k3, k4⟩ := h
  refine ⟨fun m σ' H' => ∃ ρ' o', Grow (o.map Prod.snd) (o'.map Prod.snd) H H' ∧ REnv X.K H₀ H' σ' ρ' o' ∧ P ρ' ∧ μ ρ' = m, ⟨_, ρ, o, Grow.refl, R, hP, rfl⟩, ?_⟩
  rintro m σ1 H1 ⟨ρ1, o1, g1, R1, p1, rfl⟩
  refine ⟨ρ1, o1, R1, _, turn ρ1 p1, fun c H2 s2 h2 => ?_⟩
  have g2 := g1.trans (Grow.same (O := o1.map Prod.snd) s2)
  cases c with
  | true =>
    refine iteT ⟨fun σ' H' => ∃ ρ' o', Grow (o.map Prod.snd) (o'.map Prod.snd) H H' ∧ REnv X.K H₀ H' σ' ρ' o' ∧ P ρ' ∧ μ ρ' < μ ρ1, fun σ' H' ⟨ρ', o', g, R', p, l⟩ => ⟨_, l, ρ', o', g, R', p, rfl⟩, ?_⟩
    exact ⟨ρ1, o1, R1.to s2, _, h2.1 rfl, fun ρ' σ' H' o' g R' q => ⟨ρ', o', g2.trans g, R', q.1, q.2⟩, fun ρ' σ' H' o' g R' q => k1 ρ' σ' H' o' (g2.trans g) R' q, fun ρ' σ' H' o' g R' q => ⟨ρ', o', g2.trans g, R', q.1, q.2⟩, k4⟩
  | false => exact iteF (k1 ρ1 σ1 H2 o1 g2 (R1.to s2) (h2.2 rfl))

structure ItD (K : PySem.W.Frag) (J : It) (ds : List D) (P : Hp → List Addr → Prop) : Prop where
  go : ∀ (H : Hp) (O : List Addr) (i : Nat) (d : D), P H O → ds[i]? = some d → J.go i H ∧ ∀ x H', J.yld i H x H' → Same H H' ∧ Rep K H' O d x
  stop : ∀ (H : Hp) (O : List Addr), P H O → J.stop ds.length H
  keep : ∀ (O O' : List Addr) (H H' : Hp), P H O → Grow O O' H H' → P H' O'
abbrev TID := DE → (List D → Prop) → Prop
def liftI (K : PySem.W.Frag) (H₀ : Hp) (t : TID) : TI := fun σ H R => ∃ ρ o, REnv K H₀ H σ ρ o ∧ ∃ φ, t ρ φ ∧ ∀ J ds P H', Same H H' → ItD K J ds P → P H' (o.map Prod.snd) → φ ds → R J H'
def EI (G : Hp → Prop) (X : Cx) (tg iter : Expr) (t : TID) : Prop := ∀ H₀ : {H : Hp // G H}, PI X tg iter (liftI X.K H₀.1 t)
def sFor (ti : TID) (g : TGD) (tb : TDS) : TDS := fun ρ Z => ti ρ fun ds => ∃ P : Nat → DE → Prop, P 0 ρ ∧ (∀ i d ρ, ds[i]? = some d → P i ρ → g d ρ fun ρ' => tb ρ' { Z with nx := P (i + 1), ct := P (i + 1), bk := Z.nx }) ∧ ∀ ρ, P ds.length ρ → Z.nx ρ
theorem sd_for {tg iter : Expr} {body : List Stmt} {ti : TID} {g2 : TG} {g : TGD} {tb : TDS} (hi : EI Γ X tg iter ti) (hg : PG X tg g2) (hl : GLink X.K g2 g) (hb : SDs Γ X body tb) (hc : X.calm = true := by rfl) (hp : PassesOwn (model X.prog X.w) X.A X.env X.xe := by exact PassesOwn.never)
    (hs : ∀ x, foldedSetIterable iter X.env x = pure x := by intro _; rfl) : SD Γ X (.For tg iter body [] pos) (sFor ti g tb) := fun H₀ => impS (ps_for hp hc (hi H₀) hg (hb H₀) hs) fun D σ H h => by
  obtain ⟨ρ, o, R, Z, hZ, k1, k2, k3, k4⟩ := h
  refine ⟨ρ, o, R, _, hZ, fun J ds PJ H1 s1 I hP ⟨P, p0, turn, fin⟩ => ?_⟩
  refine ⟨fun i m σ' H' => m = ds.length - i ∧ i ≤ ds.length ∧ ∃ ρ' o', Grow (o.map Prod.snd) (o'.map Prod.snd) H1 H' ∧ REnv X.K H₀ H' σ' ρ' o' ∧ P i ρ', ⟨_, rfl, Nat.zero_le _, ρ, o, Grow.refl, R.to s1, p0⟩, ?_⟩
  rintro i m σ' H' ⟨rfl, hi', ρ', o', g', R', p'⟩
  have hP' := I.keep _ _ _ _ hP g'
  have gg : Grow (o.map Prod.snd) (o'.map Prod.snd) H H' := (Grow.same s1).trans g'
  by_cases hlt : i < ds.length
  · have ed : ds[i]? = some ds[i] := by simp [hlt]
    obtain ⟨j1, j2⟩ := I.go H' _ i _ hP' ed
    refine .inr ⟨j1, fun σ2 H2 => ∃ ρ2 o2, Grow (o.map Prod.snd) (o2.map Prod.snd) H1 H2 ∧ REnv X.K H₀ H2 σ2 ρ2 o2 ∧ P (i + 1) ρ2, fun σ2 H2 ⟨ρ2, o2, g2, R2, p2⟩ => ⟨_, (by omega : ds.length - (i + 1) < ds.length - i), rfl, hlt, ρ2, o2, g2, R2, p2⟩, fun x H2 y => ?_⟩
    obtain ⟨s2, rp⟩ := j2 x H2 y
    refine hl H₀.1 H2 σ' ρ' o' _ x _ _ (R'.to s2) rp (turn i _ ρ' ed p') fun ρ3 σ3 R3 q3 => ?_
    have g13 : Grow (o.map Prod.snd) (o'.map Prod.snd) H1 H2 := g'.trans (Grow.same s2)
    have gg3 : Grow (o.map Prod.snd) (o'.map Prod.snd) H H2 := gg.trans (Grow.same s2)
    exact ⟨ρ3, o', R3, _, q3, fun ρ4 σ4 H4 o4 g4 R4 q4 => ⟨ρ4, o4, g13.trans g4, R4, q4⟩, fun ρ4 σ4 H4 o4 g4 R4 q4 => k1 ρ4 σ4 H4 o4 (gg3.trans g4) R4 q4, fun ρ4 σ4 H4 o4 g4 R4 q4 => ⟨ρ4, o4, g13.trans g4, R4, q4⟩, k4⟩
  · have e : i = ds.length := by omega
    subst e
    exact .inl ⟨I.stop H' _ hP', k1 ρ' σ' H' o' gg R' (fin ρ' p')⟩
end
end DL

set_option Elab.async false
set_option linter.all false
set_option maxRecDepth 100000
set_option maxHeartbeats 4000000
namespace DL
open PySem PySem.Spec L2 L3
open PyProof.Rows hiding St
variable {Γ : Hp → Prop}
section
variable {X : Cx} {tg e : Expr} {te : TD} {t : TDs} {pos : Pos}
theorem impI {iter : Expr} {t t' : TI} (h : PI X tg iter t) (i : ∀ σ H R, t' σ H R → t σ H R) : PI X tg iter t' := fun pins s σ H R I q => h pins s σ H R I (i σ H R q)
/-- a value walked -/
def PV (X : Cx) (tg : Expr) (r : V → Hp → (It → Hp → Prop) → Prop) : Prop :=
  ∀ (pins : List (Addr × Obj)) (s : Shared) (σ : St) (H : Hp) (x : V) (v : Value) (R : It → Hp → Prop), Inv X pins σ H s → RelV x v → r x H R → wpAny (model X.prog X.w) X.A (pyIter v) (PIE X pins σ tg R) X.xe s
theorem pi_of {l : Expr} {tl : TE} {r : V → Hp → (It → Hp → Prop) → Prop} (hl : PE X l tl) (hv : PV X tg r) : PI X tg l (fun σ H R => tl σ H fun x H1 => r x H1 R) := fun pins s σ H R I h =>
  thn (hl pins s σ H _ I h) fun v s1 ⟨x, H1, I1, r1, q1⟩ => hv pins s1 σ H1 x v R I1 r1 q1
theorem pv_list : PV X tg (fun x H R => ∃ a, x = .ref a ∧ (∃ xs, SqL X.K H a xs) ∧ R (Itl X.K a) H) := by
  intro pins s1 σ H1 x v R I1 r1 q1
  obtain ⟨a, e, ⟨xs, hq⟩, q⟩ := q1
  subst e
  cases r1
  obtain ⟨its, rv, p, hz⟩ := I1.list hq
  refine wpAny_pyIter_list p.isList ?_
  refine ⟨s1.heap.objs.size, [s1.heap.objs.size], _, _, H1, rfl, I1.kept (t' := s1.toks) fun b o e => Heap.get?_push_of_some _ e, turn_list a _, ⟨_, Heap.get?_push_size _ rfl, rfl, rfl⟩, fun b hb => ?_, q⟩
  have e : b = s1.heap.objs.size := by simpa using hb
  subst e
  exact I1.fpOk (Nat.le_refl _) (I1.hok.fresh (Nat.le_refl _))
theorem pv_tup : PV X tg (fun x H R => ∃ a, x = .ref a ∧ (∃ xs, SqT X.K H a xs) ∧ R (Itt X.K a) H) := by
  intro pins s1 σ H1 x v R I1 r1 q1
  obtain ⟨a, e, ⟨xs, hq⟩, q⟩ := q1
  subst e
  cases r1
  obtain ⟨its, rv, p, hz⟩ := I1.tuple hq
  refine wpAny_pyIter_tuple (show s1.heap.IsTuple a its.toArray from p) ?_
  refine ⟨s1.heap.objs.size, [s1.heap.objs.size], _, _, H1, rfl, I1.kept (t' := s1.toks) fun b o e => Heap.get?_push_of_some _ e, turn_tuple a _, ⟨_, Heap.get?_push_size _ rfl, rfl, rfl⟩, fun b hb => ?_, q⟩
  have e : b = s1.heap.objs.size := by simpa using hb
  subst e
  exact I1.fpOk (Nat.le_refl _) (I1.hok.fresh (Nat.le_refl _))
theorem pv_str : PV X tg (fun x H R => ∃ z, x = .str z ∧ R (Itv z.cps.size (SignV z)) H) := by
  intro pins s1 σ H1 x v R I1 r1 q1
  obtain ⟨z, e, q⟩ := q1
  subst e
  obtain ⟨t, rfl⟩ := r1
  have lay : ∀ (T : String), (∀ A : Around, A.handled = none → Walks X.prog X.w A s1.heap.objs.size [s1.heap.objs.size] [s1.heap.objs.size] z.cps.size (SignAt z) (fun i h => h.IsStrIter s1.heap.objs.size T z t i)) →
      (∀ (A : Around) (i : Nat) (s : Shared) (Q : Value → Shared → Prop) (E : Value → Shared → Prop), s.heap.IsStrIter s1.heap.objs.size T z t i → Q (.ref s1.heap.objs.size) s → wpAny (model X.prog X.w) A (pyIter (.ref s1.heap.objs.size)) Q E s) →
      ["enumerate", "zip", "dict_itemiterator", "dict_reverseitemiterator", "odict_iterator", "itertools.zip_longest", "itertools.pairwise"].contains T = false →
      PIE X pins σ tg R (.ref s1.heap.objs.size) { s1 with heap := s1.heap.push { cls := .type T, data := .fields #[.str z t, .int 0 0] } } := fun T W hs hT => by
    have I2 : Inv X pins σ H1 { s1 with heap := s1.heap.push { cls := .type T, data := .fields #[.str z t, .int 0 0] } } := I1.kept (t' := s1.toks) fun b u e => Heap.get?_push_of_some _ e
    refine ⟨s1.heap.objs.size, [s1.heap.objs.size], _, _, H1, rfl, I2, turn_str W hs hT, ⟨_, Heap.get?_push_size _ rfl, rfl, rfl⟩, fun b hb => ?_, q⟩
    have e : b = s1.heap.objs.size := by simpa using hb
    subst e
    exact I1.fpOk (Nat.le_refl _) I1.fresh
  cases ha : z.cps.all (· < 128)
  · exact wpAny_pyIter_wide ha (lay "str_iterator" (fun A hA => Walks.strWide hA _ z t) (fun A i s Q E st q => wpAny_pyIter_striter_wide st q) (by decide))
  · exact wpAny_pyIter_ascii ha (lay "str_ascii_iterator" (fun A hA => Walks.strAscii hA _ z t) (fun A i s Q E st q => wpAny_pyIter_striter_ascii st q) (by decide))
/-- what a list, a tuple, the script, a text has -/
def itemsD : D → Option (List D)
  | .lst ds => some ds
  | .tup ds => some ds
  | .scr ns => some (ns.map D.int)
  | .str z => some (z.cps.toList.map fun c => D.str ⟨#[c]⟩)
  | _ => none
def iSeq (te : TD) : TID := fun ρ φ => te ρ fun r => (match r.k with | .own => False | _ => True) ∧ match itemsD r.d with
  | some ds => φ ds
  | none => False
theorem it_lst {K : PySem.W.Frag} {a : Addr} {ds : List D} : ItD K (Itl K a) ds (fun H O => ∃ xs, H a = some (.lst xs) ∧ a ∉ O ∧ Reps K H O ds xs) where
  go := fun H O i d ⟨xs, q, n, r⟩ e => by
    obtain ⟨v, ev, rv⟩ := r.get e
    refine ⟨⟨xs, v, SqL.of q, ev⟩, fun x H' y => ?_⟩
    obtain ⟨e1, y⟩ := y
    subst e1
    have := y xs (SqL.of q)
    rw [ev] at this
    cases this
    exact ⟨Same.refl _, rv⟩
  stop := fun H O ⟨xs, q, n, r⟩ => ⟨xs, SqL.of q, by rw [r.length]; exact Nat.le_refl _⟩
  keep := fun O O' H H' ⟨xs, q, n, r⟩ g => ⟨xs, (g.keep _ _ q n).1, (g.keep _ _ q n).2, Reps.grow g _ _ r⟩
theorem it_tup {K : PySem.W.Frag} {a : Addr} {ds : List D} : ItD K (Itt K a) ds (fun H O => ∃ xs, SqT K H a xs ∧ Reps K H O ds xs) where
  go := fun H O i d ⟨xs, q, r⟩ e => by
    obtain ⟨v, ev, rv⟩ := r.get e
    refine ⟨⟨xs, v, q, ev⟩, fun x H' y => ?_⟩
    obtain ⟨e1, y⟩ := y
    subst e1
    have := y xs q
    rw [ev] at this
    cases this
    exact ⟨Same.refl _, rv⟩
  stop := fun H O ⟨xs, q, r⟩ => ⟨xs, q, by rw [r.length]; exact Nat.le_refl _⟩
  keep := fun O O' H H' ⟨xs, q, r⟩ g => ⟨xs, sqT_grow g q, Reps.grow g _ _ r⟩
theorem it_scr {K : PySem.W.Frag} {a : Addr} {ns : List Int} : ItD K (Itl K a) (ns.map D.int) (fun H _ => Scr K H a ns) where
  go := fun H O i d q e => by
    rw [List.getElem?_map] at e
    cases en : ns[i]? with
    | none => rw [en] at e; cases e
    | some n =>
      rw [en] at e
      cases e
      have ev : (ns.map V.int)[i]? = some (.int n) := by rw [List.getElem?_map, en]; rfl
      refine ⟨⟨_, _, q.seq, ev⟩, fun x H' y => ?_⟩
      obtain ⟨e1, y⟩ := y
      subst e1
      have := y _ q.seq
      rw [ev] at this
      cases this
      exact ⟨Same.refl _, rfl⟩
  stop := fun H O q => ⟨_, q.seq, by rw [List.length_map, List.length_map]; exact Nat.le_refl _⟩
  keep := fun O O' H H' q g => scr_grow g q
theorem it_str {K : PySem.W.Frag} {z : Str} : ItD K (Itv z.cps.size (SignV z)) (z.cps.toList.map fun c => D.str ⟨#[c]⟩) (fun _ _ => True) where
  go := fun H O i d _ e => by
    rw [List.getElem?_map] at e
    cases en : z.cps.toList[i]? with
    | none => rw [en] at e; cases e
    | some n =>
      rw [en] at e
      cases e
      have hl := (List.getElem?_eq_some_iff.mp en).1
      refine ⟨(show i < z.cps.size by simpa using hl), fun x H' y => ?_⟩
      obtain ⟨e1, c, hc, ex⟩ := y
      subst e1 ex
      have : z.cps.toList[i]? = some c := by rw [Array.getElem?_toList]; exact hc
      rw [en] at this
      cases this
      exact ⟨Same.refl _, rfl⟩
  stop := fun H O _ => by show _ = _; simp
  keep := fun _ _ _ _ _ _ => trivial
def rngD (lo : Int) (n : Nat) : List D := (List.range n).map fun (i : Nat) => D.int (lo + (i : Int))
theorem it_rng {K : PySem.W.Frag} {lo : Int} {n : Nat} : ItD K (Itr lo n) (rngD lo n) (fun _ _ => True) where
  go := fun H O i d _ e => by
    unfold rngD at e
    rw [List.getElem?_map] at e
    cases en : (List.range n)[i]? with
    | none => rw [en] at e; cases e
    | some m =>
      rw [en] at e
      cases e
      have hl := (List.getElem?_eq_some_iff.mp en).1
      rw [List.length_range] at hl
      have : m = i := by
        rw [List.getElem?_range hl] at en
        exact (Option.some.inj en).symm
      subst this
      refine ⟨hl, fun x H' y => ?_⟩
      obtain ⟨e1, ex⟩ := y
      subst e1 ex
      exact ⟨Same.refl _, rfl⟩
  stop := fun H O _ => by show n ≤ _; unfold rngD; simp
  keep := fun _ _ _ _ _ _ => trivial
theorem PV.or {r r' : V → Hp → (It → Hp → Prop) → Prop} (h : PV X tg r) (h' : PV X tg r') : PV X tg (fun x H R => r x H R ∨ r' x H R) := fun pins s σ H x v R I rx q => q.elim (h pins s σ H x v R I rx) (h' pins s σ H x v R I rx)
theorem ei_seq (he : ED Γ X e te) : EI Γ X tg e (iSeq te) := fun H₀ => impI (pi_of (he H₀) (pv_list.or (pv_tup.or pv_str))) fun σ H R q => by
  obtain ⟨ρ, o, RE, φ, hφ, k⟩ := q
  refine ⟨ρ, o, RE, _, hφ, fun v r H1 s1 rv h1 => ?_⟩
  obtain ⟨h0, h1⟩ := h1
  have rp := rv.solid (notOwn h0)
  obtain ⟨kd, d⟩ := r
  cases d with
  | lst ds =>
    obtain ⟨a, xs, rfl, q, n, r⟩ := rp
    exact .inl ⟨a, rfl, ⟨xs, SqL.of q⟩, k _ _ _ H1 s1 it_lst ⟨xs, q, n, r⟩ h1⟩
  | tup ds =>
    obtain ⟨a, xs, rfl, q, r⟩ := rp
    exact .inr (.inl ⟨a, rfl, ⟨xs, q.1⟩, k _ _ _ H1 s1 it_tup ⟨xs, q.1, r⟩ h1⟩)
  | scr ns =>
    obtain ⟨a, rfl, q⟩ := rp
    exact .inl ⟨a, rfl, ⟨_, q.seq⟩, k _ _ _ H1 s1 it_scr q h1⟩
  | str z =>
    cases (show v = _ from rp)
    exact .inr (.inr ⟨z, rfl, k _ _ _ H1 s1 it_str trivial h1⟩)
  | _ => exact h1.elim
def iR1 (t : TDs) : TID := fun ρ φ => t ρ fun rs => match rs with
  | [⟨_, .int j⟩] => -(2 ^ 62) ≤ j ∧ j < 2 ^ 62 ∧ φ (rngD 0 j.toNat)
  | _ => False
def iR2 (t : TDs) : TID := fun ρ φ => t ρ fun rs => match rs with
  | [⟨_, .int i⟩, ⟨_, .int j⟩] => (-(2 ^ 62) ≤ i ∧ i < 2 ^ 62 ∧ -(2 ^ 62) ≤ j ∧ j < 2 ^ 62) ∧ φ (rngD i (j - i).toNat)
  | _ => False
theorem ei_range1 {a : Expr} {p : Pos} (hm : X.mg "range" = none) (ha : EA Γ X [a] t) (hg : Gl X "range" := by rfl) (hs : starEach [a] X.env = [(false, eval a X.env)] := by rfl) : EI Γ X tg (.Call (.Name "range" p) [a] [] pos) (iR1 t) := fun H₀ => impI (pi_range1 hg hm (ha H₀) hs) fun σ H R q => by
  obtain ⟨ρ, o, RE, φ, hφ, k⟩ := q
  refine ⟨ρ, o, RE, _, hφ, fun vs rs H1 s1 rvs h1 => ?_⟩
  split at h1
  · rename_i kd j
    obtain ⟨v, ws, rfl, rv, rfl⟩ := rvs
    cases (show v = _ from rv.view)
    exact ⟨j, rfl, h1.1, h1.2.1, k _ _ _ H1 s1 it_rng trivial h1.2.2⟩
  · exact h1.elim
end

section
variable {X : Cx} {σ : St} {scope : Scope} {T F : List Str} {js : List Nat} {tg iter elt : Expr} {ifs : List Expr} {pos : Pos} {ti : TID} {g2 : TG} {g : TGD} {tc : TDb} {te : TD}
/-- the names within: the targets unbound, then those of around -/
def ρ0 (n : Nat) (js : List Nat) (ρ : DE) : DE := List.replicate n none ++ js.map fun j => slot ρ j
def ixO (n : Nat) (js : List Nat) (j : Nat) : Nat := if j ∈ js then n + js.idxOf j else n + js.length + 1 + j
/-- the frame of the block, and the list D that is gathered -/
theorem renv_block {K : PySem.W.Frag} {H₀ H H' : Hp} {σ : St} {ρ : DE} {o : List (Nat × Addr)} {n : Nat} {js : List Nat} {D : Addr} {ys : List V} (R : REnv K H₀ H σ ρ o) (nd : js.Nodup) (hD : H D = none) (s : Same H H') (hD' : H' D = some (.lst ys)) (Tn : List Str) (hT : Tn.length = n) :
    REnv K H₀ H' (st0 Tn js σ) (ρ0 n js ρ) ((n + js.length, D) :: o.map fun p => (ixO n js p.1, p.2)) := by
  have hO : ((n + js.length, D) :: o.map fun p => (ixO n js p.1, p.2)).map Prod.snd = D :: o.map Prod.snd := by
    rw [List.map_cons, List.map_map]
    rfl
  have g : Grow (o.map Prod.snd) (D :: o.map Prod.snd) H H' := ⟨fun b u h nb => ⟨s b u h, fun z => (List.mem_cons.mp z).elim (fun e => ne_of_none h hD e) nb⟩, fun b xs h => s b _ h, fun b ob u h => s b _ h⟩
  have R' := R.to s
  exact {
    same := R'.same
    fresh := fun p hp => by
      rcases List.mem_cons.mp hp with rfl | hp
      · exact R.same.free hD
      · obtain ⟨q, hq, rfl⟩ := List.mem_map.mp hp
        exact R.fresh q hq
    trk := fun p hp => by
      rcases List.mem_cons.mp hp with rfl | hp
      · exact ⟨_, hD'⟩
      · obtain ⟨q, hq, rfl⟩ := List.mem_map.mp hp
        exact R'.trk q hq
    mtb := fun p hp => by
      rcases List.mem_cons.mp hp with rfl | hp
      · exact ⟨(fun xs z => by rw [hD'] at z; cases z), (fun ob u z => by rw [hD'] at z; cases z)⟩
      · obtain ⟨q, hq, rfl⟩ := List.mem_map.mp hp
        exact R'.mtb q hq
    nda := by
      rw [hO, List.nodup_cons]
      exact ⟨R.ofree hD, R.nda⟩
    len := by
      unfold st0 ρ0
      simp [hT]
    slots := fun i r e => by
      rw [hO]
      unfold ρ0 at e
      have hi : n ≤ i := by
        rcases Nat.lt_or_ge i n with z | z
        · rw [List.getElem?_append_left (by simpa using z), List.getElem?_replicate] at e
          split at e <;> cases e
        · exact z
      rw [List.getElem?_append_right (by simpa using hi), List.length_replicate, List.getElem?_map] at e
      cases ej : js[i - n]? with
      | none => rw [ej] at e; cases e
      | some j =>
        rw [ej] at e
        have e' : slot ρ j = some r := Option.some.inj e
        obtain ⟨v, ev, q⟩ := R.slots j r (slot_eq e')
        refine ⟨v, ?_, ?_⟩
        · unfold st0
          rw [List.getElem?_append_right (by simpa [hT] using hi), List.length_replicate, List.getElem?_map, hT, ej]
          show some ((σ[j]?).join) = _
          rw [ev]
          rfl
        · rcases q with ⟨k, q⟩ | ⟨k, a, e1, m, c⟩
          · exact .inl ⟨k, Rep.grow g _ _ q⟩
          · refine .inr ⟨k, a, e1, List.mem_cons_of_mem _ (List.mem_map.mpr ⟨_, m, ?_⟩), c.grow (fun u q => s _ _ q) g⟩
            have hmem : j ∈ js := List.mem_of_getElem? ej
            have hidx : js.idxOf j = i - n := by
              have h1 := (List.getElem?_eq_some_iff.mp ej)
              have h2 := List.getElem_idxOf (List.idxOf_lt_length_iff.mpr hmem)
              exact (List.getElem_inj nd).mp (h2.trans h1.2.symm)
            show (ixO n js j, a) = (i, a)
            unfold ixO
            rw [if_pos hmem, hidx]
            congr 1
            omega }
def bYes : TDb := fun _ φ => φ true
def dComp (ti : TID) (n : Nat) (js : List Nat) (g : TGD) (tc : TDb) (te : TD) : TD := fun ρ φ => ti ρ fun ds => ∃ f : D → Option D, ds.length ≤ 100000 ∧
  (∀ d ∈ ds, g d (ρ0 n js ρ) fun ρ' => tc ρ' fun c => (c = true → te ρ' fun r => (match r.k with | .own => False | _ => True) ∧ f d = some r.d) ∧ (c = false → f d = none)) ∧ φ (df (.lst (ds.filterMap f)))
/-- a clause's tests -/
def EIf (G : Hp → Prop) (X : Cx) (ifs : List Expr) (t : TDb) : Prop := ∀ H₀ : {H : Hp // G H}, PIf X ifs (liftT X.K H₀.1 t)
theorem eif_nil : EIf Γ X [] bYes := fun H₀ pins s σ H Q I h => by
  obtain ⟨ρ, o, R, φ, hφ, k⟩ := h
  exact pif_nil pins s σ H Q I (k true H (Same.refl H) hφ)
theorem lift_comp {H₀ : Hp} (nd : js.Nodup) (hl : GLink X.K g2 g) : ∀ σ H Q, liftE X.K H₀ (dComp ti T.length js g tc te) σ H Q → tComp (liftI X.K H₀ ti) T js g2 (liftT X.K H₀ tc) (liftE X.K H₀ te) σ H Q := fun σ H Q q => by
    obtain ⟨ρ, o, R, φ, hφ, k⟩ := q
    refine ⟨ρ, o, R, _, hφ, fun J ds P H1 s1 I hP ⟨f, hlen, turn, fin⟩ Da hDa => ?_⟩
    have R1 := R.to s1
    have gD : ∀ {H' : Hp}, Same H1 H' → Grow (o.map Prod.snd) (Da :: o.map Prod.snd) H1 H' := fun s => ⟨fun b u h nb => ⟨s b u h, fun z => (List.mem_cons.mp z).elim (fun e => ne_of_none h hDa e) nb⟩, fun b xs h => s b _ h, fun b ob u h => s b _ h⟩
    refine ⟨fun i m ys H' => m = ds.length - i ∧ i ≤ ds.length ∧ Same H1 H' ∧ H' Da = some (.lst ys) ∧ Reps X.K H' (Da :: o.map Prod.snd) ((ds.take i).filterMap f) ys,
      ⟨_, rfl, Nat.zero_le _, same_new hDa _, upd_same, rfl⟩, ?_⟩
    rintro i m ys H' ⟨rfl, hi', s2, hD', rp⟩
    refine ⟨hD', ?_⟩
    have hP' := I.keep _ _ _ _ hP (gD s2)
    by_cases hlt : i < ds.length
    · have ed : ds[i]? = some ds[i] := by simp [hlt]
      obtain ⟨j1, j2⟩ := I.go H' _ i _ hP' ed
      refine .inr ⟨j1, fun zs H2 => Same H1 H2 ∧ H2 Da = some (.lst zs) ∧ Reps X.K H2 (Da :: o.map Prod.snd) ((ds.take (i + 1)).filterMap f) zs, fun zs H2 ⟨a1, a2, a3⟩ => ⟨_, (by omega : ds.length - (i + 1) < ds.length - i), rfl, hlt, a1, a2, a3⟩, fun x H2 y => ?_⟩
      obtain ⟨s3, rx⟩ := j2 x H2 y
      have s13 := s2.trans s3
      have hD2 := s3 _ _ hD'
      have RB := renv_block (n := T.length) R1 nd hDa s13 hD2 T rfl
      have hO : ((T.length + js.length, Da) :: o.map fun p => (ixO T.length js p.1, p.2)).map Prod.snd = Da :: o.map Prod.snd := by
        rw [List.map_cons, List.map_map]
        rfl
      have tk : (ds.take (i + 1)).filterMap f = (ds.take i).filterMap f ++ (f ds[i]).toList := by
        rw [List.take_succ, ed, List.filterMap_append]
        cases e : f ds[i] <;> simp [e]
      have rpl : ys.length ≤ 100000 := by
        rw [rp.length]
        refine Nat.le_trans (List.length_filterMap_le _ _) ?_
        rw [List.length_take]
        omega
      refine hl H₀ H2 (st0 T js σ) (ρ0 T.length js ρ) _ _ x _ _ RB (by rw [hO]; exact rx) (turn _ (List.getElem_mem hlt)) fun ρ' σ' R' q' => ?_
      refine ⟨ρ', _, R', _, q', fun c H3 s4 h4 => ?_⟩
      have hD3 := s4 _ _ hD2
      cases c with
      | false =>
        refine iteF ⟨s13.trans s4, hD3, ?_⟩
        rw [tk, h4.2 rfl]
        simpa using Reps.grow (Grow.same (s3.trans s4)) _ _ rp
      | true =>
        refine iteT ⟨ρ', _, R'.to s4, _, h4.1 rfl, fun v r H4 s5 rv h5 => ?_⟩
        have hD4 := s5 _ _ hD3
        have rd := rv.solid (notOwn h5.1)
        rw [hO] at rd
        have ne : ∀ b u, H1 b = some u → b ≠ Da := fun b u h => ne_of_none h hDa
        have gu : Grow (Da :: o.map Prod.snd) (Da :: o.map Prod.snd) H4 (upd H4 Da (.lst (ys ++ [v]))) :=
          ⟨fun b u h n => ⟨by rw [upd_ne (fun z => n (List.mem_cons.mpr (.inl z)))]; exact h, n⟩, fun b xs h => by rw [upd_ne (fun z => by rw [z, hD4] at h; cases h)]; exact h, fun b ob u h => by rw [upd_ne (fun z => by rw [z, hD4] at h; cases h)]; exact h⟩
        refine ⟨hD4, Nat.lt_of_le_of_lt rpl (by decide), ⟨fun b u h => ?_, upd_same, ?_⟩⟩
        · rw [upd_ne (ne b u h)]
          exact s5 _ _ (s4 _ _ (s13 b u h))
        · rw [tk, h5.2]
          exact Reps.grow gu _ _ ((Reps.grow (Grow.same (s3.trans (s4.trans s5))) _ _ rp).append (Reps.one rd))
    · have e : i = ds.length := by omega
      subst e
      rw [List.take_length] at rp
      refine .inl ⟨I.stop H' _ hP', ?_⟩
      exact k (.ref Da) (df (.lst (ds.filterMap f))) H' (s1.trans s2) ⟨Da, rfl, s1.free hDa, R.ofree (s1.free hDa), ys, hD', rp⟩ fin
theorem ed_comp (hi : EI Γ X tg iter ti) (S : CompScope X.env.scope scope T F) (hjs : Paired (fun x j => X.N[j]? = some x) F js) (nd : js.Nodup)
    (hg : ∀ cl C fp s H, PG (cxComp X (T ++ F) scope cl C fp s H) tg g2) (hk : GKeep T.length g2) (hl : GLink X.K g2 g)
    (ht : ∀ cl C fp s H, EIf Γ (cxComp X (T ++ F) scope cl C fp s H) ifs tc) (he : ∀ cl C fp s H, ED Γ (cxComp X (T ++ F) scope cl C fp s H) elt te)
    (hc : X.calm = true := by rfl) (hs : ∀ x, foldedSetIterable iter X.env x = pure x := by intro _; rfl) : ED Γ X (.ListComp elt [⟨tg, iter, ifs, 0⟩] scope pos) (dComp ti T.length js g tc te) := fun H₀ =>
  impE (pe_comp (tc := liftT X.K H₀.1 tc) (te := liftE X.K H₀.1 te) hc (hi H₀) S hjs hg hk (fun cl C fp s H => ht cl C fp s H H₀) (fun cl C fp s H => he cl C fp s H H₀) hs) (lift_comp nd hl)
theorem sd_setComp (i : Nat) {y : Str} {py spos : Pos} (hN : X.N.Nodup) (hi : EI Γ X tg iter ti) (S : CompScope X.env.scope scope T F) (hjs : Paired (fun x j => X.N[j]? = some x) F js) (nd : js.Nodup)
    (hg : ∀ cl C fp s H, PG (cxComp X (T ++ F) scope cl C fp s H) tg g2) (hk : GKeep T.length g2) (hl : GLink X.K g2 g)
    (ht : ∀ cl C fp s H, EIf Γ (cxComp X (T ++ F) scope cl C fp s H) ifs tc) (he : ∀ cl C fp s H, ED Γ (cxComp X (T ++ F) scope cl C fp s H) elt te)
    (hc : X.calm = true := by rfl) (hs : ∀ x, foldedSetIterable iter X.env x = pure x := by intro _; rfl) (hy : X.N[i]? = some y := by rfl) (hlo : X.env.scope.names.lookup y = some .local := by rfl) (hsw : swapsWith (.ListComp elt [⟨tg, iter, ifs, 0⟩] scope pos) (some (.Name y py)) spos.line X.env = pure true := by rfl) : SD Γ X (.Assign [.Name y py] (.ListComp elt [⟨tg, iter, ifs, 0⟩] scope pos) spos) (sSet i (dComp ti T.length js g tc te)) := fun H₀ =>
  impS (ps_setComp (tc := liftT X.K H₀.1 tc) (te := liftE X.K H₀.1 te) hc hN hy (.inl hlo) (hi H₀) S hjs hg hk (fun cl C fp s H => ht cl C fp s H H₀) (fun cl C fp s H => he cl C fp s H H₀) hsw hs (.inr hlo)) fun D σ H h => by
    obtain ⟨ρ, o, R, Z, hZ, k1, k2, k3, k4⟩ := h
    refine lift_comp nd hl σ H _ ⟨ρ, o, R, _, hZ, fun v r H1 s1 rv h1 => ?_⟩
    obtain ⟨o', R', g'⟩ := R.put s1 i rv (notOwn h1.1)
    exact k1 _ _ H1 o' g' R' h1.2
end
end DL

set_option Elab.async false
set_option linter.all false
set_option maxRecDepth 100000
set_option maxHeartbeats 4000000
namespace DL
open PySem PySem.Spec L2 L3
open PyProof.Rows hiding St
variable {Γ : Hp → Prop}
section
variable {X : Cx} {x : Str} {e a b : Expr} {es : List Expr} {t : TDs} {ta tb : TD} {p pos : Pos}
/-- what the module's classes have to do with Python's own: nothing -/
structure Kit (K : PySem.W.Frag) : Prop where
  ne : ∀ q ∈ ([("NoneType", "int"), ("NoneType", "bool"), ("NoneType", "str"), ("NoneType", "tuple"), ("NoneType", "list"), ("NoneType", "dict"), ("bool", "str"), ("bool", "tuple"), ("bool", "list"), ("bool", "dict"),
    ("int", "bool"), ("int", "str"), ("int", "tuple"), ("int", "list"), ("int", "dict"), ("str", "int"), ("str", "bool"), ("str", "tuple"), ("str", "list"), ("str", "dict"),
    ("tuple", "int"), ("tuple", "bool"), ("tuple", "str"), ("tuple", "list"), ("tuple", "dict"), ("list", "int"), ("list", "bool"), ("list", "str"), ("list", "tuple"), ("list", "dict"),
    ("dict", "int"), ("dict", "bool"), ("dict", "str"), ("dict", "tuple"), ("dict", "list")] : List (String × String)), PySem.W.kitOne K (.type q.1) (.type q.2) = some false
  bi : PySem.W.kitOne K (.type "bool") (.type "int") = some true
theorem kit_all {K : PySem.W.Frag} : Kit K := by
  constructor
  · intro q hq
    simp only [List.mem_cons, List.not_mem_nil, or_false] at hq
    rcases hq with rfl | rfl | rfl | rfl | rfl | rfl | rfl | rfl | rfl | rfl | rfl | rfl | rfl | rfl | rfl | rfl | rfl | rfl | rfl | rfl | rfl | rfl | rfl | rfl | rfl | rfl | rfl | rfl | rfl | rfl | rfl | rfl | rfl | rfl | rfl <;> kernel_rfl
  · kernel_rfl
theorem kit_same {K : PySem.W.Frag} {T : String} : PySem.W.kitOne K (.type T) (.type T) = some true := by
  unfold PySem.W.kitOne
  rw [if_pos (by simp)]
theorem boot_str' : bootBuiltins "str" = some (.type "str") := by decide +kernel
theorem boot_int' : bootBuiltins "int" = some (.type "int") := by decide +kernel
theorem boot_bool' : bootBuiltins "bool" = some (.type "bool") := by decide +kernel
theorem boot_tuple' : bootBuiltins "tuple" = some (.type "tuple") := by decide +kernel
theorem boot_list' : bootBuiltins "list" = some (.type "list") := by decide +kernel
theorem boot_dict' : bootBuiltins "dict" = some (.type "dict") := by decide +kernel
theorem boot_isinstance' : bootBuiltins "isinstance" = some (.builtin "isinstance") := by decide +kernel
theorem kit_ne {K : PySem.W.Frag} (a T : String) (h : (a, T) ∈ ([("NoneType", "int"), ("NoneType", "bool"), ("NoneType", "str"), ("NoneType", "tuple"), ("NoneType", "list"), ("NoneType", "dict"), ("bool", "str"), ("bool", "tuple"), ("bool", "list"), ("bool", "dict"),
    ("int", "bool"), ("int", "str"), ("int", "tuple"), ("int", "list"), ("int", "dict"), ("str", "int"), ("str", "bool"), ("str", "tuple"), ("str", "list"), ("str", "dict"),
    ("tuple", "int"), ("tuple", "bool"), ("tuple", "str"), ("tuple", "list"), ("tuple", "dict"), ("list", "int"), ("list", "bool"), ("list", "str"), ("list", "tuple"), ("list", "dict"),
    ("dict", "int"), ("dict", "bool"), ("dict", "str"), ("dict", "tuple"), ("dict", "list")] : List (String × String))) : PySem.W.kitOne K (.type a) (.type T) = some false := kit_all.ne (a, T) h
def tyName : D → String
  | .non => "NoneType"
  | .bl _ => "bool"
  | .int _ => "int"
  | .str _ => "str"
  | .tup _ => "tuple"
  | .lst _ => "list"
  | .dk _ _ => "dict"
  | .dt _ _ => "dict"
  | .ty _ => "type"
  | .cn _ => "tuple"
  | .scr _ => "list"
  | .exc _ => "exc"
def kitPairs : List (String × String) := [("NoneType", "int"), ("NoneType", "bool"), ("NoneType", "str"), ("NoneType", "tuple"), ("NoneType", "list"), ("NoneType", "dict"), ("bool", "str"), ("bool", "tuple"), ("bool", "list"), ("bool", "dict"),
    ("int", "bool"), ("int", "str"), ("int", "tuple"), ("int", "list"), ("int", "dict"), ("str", "int"), ("str", "bool"), ("str", "tuple"), ("str", "list"), ("str", "dict"),
    ("tuple", "int"), ("tuple", "bool"), ("tuple", "str"), ("tuple", "list"), ("tuple", "dict"), ("list", "int"), ("list", "bool"), ("list", "str"), ("list", "tuple"), ("list", "dict"),
    ("dict", "int"), ("dict", "bool"), ("dict", "str"), ("dict", "tuple"), ("dict", "list")]
def isN (a T : String) : Option Bool := if a = T then some true else if a = "bool" ∧ T = "int" then some true else if (a, T) ∈ kitPairs then some false else none
/-- isinstance(x, T) -/
def isT (d : D) (T : String) : Option Bool := match d with
  | .ty _ => none
  | .cn _ => none
  | .scr _ => none
  | .exc _ => none
  | d => isN (tyName d) T
theorem isN_kit {K : PySem.W.Frag} {a T : String} {b : Bool} (h : isN a T = some b) : PySem.W.kitOne K (.type a) (.type T) = some b := by
  unfold isN at h
  split at h
  · rename_i q
    cases h
    subst q
    exact kit_same
  · split at h
    · rename_i q
      cases h
      obtain ⟨rfl, rfl⟩ := q
      exact kit_all.bi
    · split at h
      · rename_i q
        cases h
        exact kit_ne a T q
      · cases h
theorem isT_kit {K : PySem.W.Frag} {d : D} {T : String} {b : Bool} (h : isT d T = some b) : PySem.W.kitOne K (.type (tyName d)) (.type T) = some b := by
  cases d with
  | ty _ => cases h
  | cn _ => cases h
  | scr _ => cases h
  | exc _ => cases h
  | _ => exact isN_kit h
theorem isT_non_int : isT .non "int" = some false := (by decide : isN "NoneType" "int" = some false)
theorem isT_non_bool : isT .non "bool" = some false := (by decide : isN "NoneType" "bool" = some false)
theorem isT_non_tuple : isT .non "tuple" = some false := (by decide : isN "NoneType" "tuple" = some false)
theorem isT_bl_int (b : Bool) : isT (.bl b) "int" = some true := (by decide : isN "bool" "int" = some true)
theorem isT_bl_bool (b : Bool) : isT (.bl b) "bool" = some true := (by decide : isN "bool" "bool" = some true)
theorem isT_bl_tuple (b : Bool) : isT (.bl b) "tuple" = some false := (by decide : isN "bool" "tuple" = some false)
theorem isT_int_int (i : Int) : isT (.int i) "int" = some true := (by decide : isN "int" "int" = some true)
theorem isT_int_bool (i : Int) : isT (.int i) "bool" = some false := (by decide : isN "int" "bool" = some false)
theorem isT_int_str (i : Int) : isT (.int i) "str" = some false := (by decide : isN "int" "str" = some false)
theorem isT_int_tuple (i : Int) : isT (.int i) "tuple" = some false := (by decide : isN "int" "tuple" = some false)
theorem isT_str_int (x : Str) : isT (.str x) "int" = some false := (by decide : isN "str" "int" = some false)
theorem isT_str_bool (x : Str) : isT (.str x) "bool" = some false := (by decide : isN "str" "bool" = some false)
theorem isT_str_str (x : Str) : isT (.str x) "str" = some true := (by decide : isN "str" "str" = some true)
theorem isT_str_tuple (x : Str) : isT (.str x) "tuple" = some false := (by decide : isN "str" "tuple" = some false)
theorem isT_tup_int (l : List D) : isT (.tup l) "int" = some false := (by decide : isN "tuple" "int" = some false)
theorem isT_tup_bool (l : List D) : isT (.tup l) "bool" = some false := (by decide : isN "tuple" "bool" = some false)
theorem isT_tup_tuple (l : List D) : isT (.tup l) "tuple" = some true := (by decide : isN "tuple" "tuple" = some true)
theorem isT_tup_list (l : List D) : isT (.tup l) "list" = some false := (by decide : isN "tuple" "list" = some false)
theorem isT_lst_int (l : List D) : isT (.lst l) "int" = some false := (by decide : isN "list" "int" = some false)
theorem isT_lst_bool (l : List D) : isT (.lst l) "bool" = some false := (by decide : isN "list" "bool" = some false)
theorem isT_lst_tuple (l : List D) : isT (.lst l) "tuple" = some false := (by decide : isN "list" "tuple" = some false)
theorem isT_lst_list (l : List D) : isT (.lst l) "list" = some true := (by decide : isN "list" "list" = some true)
theorem isT_dk_int (k : List Key) (l : List D) : isT (.dk k l) "int" = some false := (by decide : isN "dict" "int" = some false)
theorem isT_dk_bool (k : List Key) (l : List D) : isT (.dk k l) "bool" = some false := (by decide : isN "dict" "bool" = some false)
theorem isT_dk_tuple (k : List Key) (l : List D) : isT (.dk k l) "tuple" = some false := (by decide : isN "dict" "tuple" = some false)
theorem isT_dk_dict (k : List Key) (l : List D) : isT (.dk k l) "dict" = some true := (by decide : isN "dict" "dict" = some true)
theorem call_isD : CallR X (.builtin "isinstance") (fun xs H Q => ∃ d x T b, xs = [x, .ty T] ∧ Rep X.K H [] d x ∧ isT d T = some b ∧ Q (.bl b) H) := by
  intro pins s σ H xs us Q I r h
  obtain ⟨d, x, T, b, rfl, rp, e, q⟩ := h
  obtain ⟨u, v, rfl, ru, rv⟩ := vals2 r
  cases rv
  have ek := isT_kit (K := X.K) e
  have fin : ∀ tk, EP X pins σ Q (.bool b) { s with toks := tk } := fun tk => ⟨.bl b, H, I.tok tk, rfl, q⟩
  cases d with
  | non => cases (show x = _ from rp); exact isinst_ok I ru .non ek fin
  | bl c => cases (show x = _ from rp); exact isinst_ok I ru (.bl c) ek fin
  | int c => cases (show x = _ from rp); exact isinst_ok I ru (.int c) ek fin
  | str c => cases (show x = _ from rp); exact isinst_ok I ru (.str c) ek fin
  | ty _ => cases e
  | cn _ => cases e
  | scr _ => cases e
  | exc _ => cases e
  | lst ds => obtain ⟨a, xs, rfl, q1, _⟩ := rp; exact isinst_ok I ru (.lst q1) ek fin
  | dk ks ds => obtain ⟨a, xs, rfl, q1, _⟩ := rp; exact isinst_ok I ru (.dK q1) ek fin
  | dt ks ds => obtain ⟨a, xs, rfl, q1, _⟩ := rp; exact isinst_ok I ru (.dT q1) ek fin
  | tup ds =>
    obtain ⟨a, xs, rfl, q1, _⟩ := rp
    cases (show u = Value.ref a from ru)
    obtain ⟨its, _, p, _⟩ := I.tuple q1.1
    obtain ⟨o, h1, h2, _⟩ := p
    exact PySem.W.kia_one PySem.W.kitx_tuple I.kIn ⟨o, h1, h2⟩ ek (fun z => nomatch z) fin
def sIsI : FT := fun ds φ => match ds with
  | [d, .ty T] => match isT d T with
    | some b => φ (dv (.bl b))
    | none => False
  | _ => False
theorem ed_isinst (hm : X.mg "isinstance" = none) (ha : EA Γ X (e :: es) t) (hg : Gl X "isinstance" := by rfl) (he : starEach (e :: es) X.env = (false, eval e X.env) :: starEach es X.env := by rfl) (hpl : (backTo pos (starEach es X.env)).any (·.1) = false := by rfl) : ED Γ X (.Call (.Name "isinstance" p) (e :: es) [] pos) (dCB sIsI t) :=
  ed_callB call_isD (fun H O ds vs φ Q ho hv h k => by
    unfold sIsI at h
    split at h
    · split at h
      · rename_i d T b eb
        obtain ⟨v, ws, rfl, h1, v2, ws2, rfl, h2, rfl⟩ := hv
        cases (show v2 = _ from h2)
        exact ⟨_, v, _, _, rfl, h1.rep0, eb, k _ _ H (Same.refl H) (by exact rfl) h⟩
      · exact h.elim
    · exact h.elim) hm boot_isinstance' ha hg (by decide) (by decide) he hpl
def sStr : FT := fun ds φ => match ds with
  | [.int i] => i.natAbs.log2 < 1920 ∧ φ (dv (.str (toString i)))
  | _ => False
def sTupC : FT := fun ds φ => match ds with
  | [.lst l] => φ (dv (.tup l))
  | [.tup l] => φ (dv (.tup l))
  | _ => False
theorem ed_tupleC (hm : X.mg "tuple" = none) (ha : EA Γ X (e :: es) t) (hg : Gl X "tuple" := by rfl) (he : starEach (e :: es) X.env = (false, eval e X.env) :: starEach es X.env := by rfl) (hpl : (backTo pos (starEach es X.env)).any (·.1) = false := by rfl) : ED Γ X (.Call (.Name "tuple" p) (e :: es) [] pos) (dCB sTupC t) :=
  ed_callTy call_tuple_of (fun H O ds vs φ Q ho hv h k => by
    unfold sTupC at h
    split at h
    · obtain ⟨v, ws, rfl, ⟨a, xs, rfl, q, r⟩, rfl⟩ := hv
      exact ⟨a, xs, rfl, .inl ⟨SqL.of q, fun l hl => k _ _ _ (same_new hl _) (rv_tup hl r) h⟩⟩
    · obtain ⟨v, ws, rfl, ⟨a, xs, rfl, q, r⟩, rfl⟩ := hv
      exact ⟨a, xs, rfl, .inr ⟨q.1, k (.ref a) (dv (.tup _)) H (Same.refl H) ⟨a, xs, rfl, q, r⟩ h⟩⟩
    · exact h.elim) hm boot_tuple' ha hg (by decide) (by decide) he hpl
def sListC : FT := fun ds φ => match ds with
  | [.lst l] => φ (df (.lst l))
  | [.tup l] => φ (df (.lst l))
  | _ => False
theorem ed_listC (hm : X.mg "list" = none) (ha : EA Γ X (e :: es) t) (hg : Gl X "list" := by rfl) (he : starEach (e :: es) X.env = (false, eval e X.env) :: starEach es X.env := by rfl) (hpl : (backTo pos (starEach es X.env)).any (·.1) = false := by rfl) : ED Γ X (.Call (.Name "list" p) (e :: es) [] pos) (dCB sListC t) :=
  ed_callTy call_list_of (fun H O ds vs φ Q ho hv h k => by
    unfold sListC at h
    split at h
    · obtain ⟨v, ws, rfl, ⟨a, xs, rfl, q, r⟩, rfl⟩ := hv
      exact ⟨a, xs, rfl, .inl (SqL.of q), fun l hl => k _ _ _ (same_new hl _) (rv_lst ho hl r) h⟩
    · obtain ⟨v, ws, rfl, ⟨a, xs, rfl, q, r⟩, rfl⟩ := hv
      exact ⟨a, xs, rfl, .inr q.1, fun l hl => k _ _ _ (same_new hl _) (rv_lst ho hl r) h⟩
    · exact h.elim) hm boot_list' ha hg (by decide) (by decide) he hpl
def sIntC : FT := fun ds φ => match ds with
  | [.bl b] => φ (dv (.int (if b then 1 else 0)))
  | [.int i] => φ (dv (.int i))
  | _ => False
end

section
variable {X : Cx} {x : Str} {e : Expr} {te : TD} {apos np cpos pos : Pos}
def sApp (i : Nat) (te : TD) : TDS := fun ρ Z => match slot ρ i with
  | some ⟨.own, .lst ds⟩ => te ρ fun r => (match r.k with | .own => False | _ => True) ∧ ds.length ≤ 100000 ∧ Z.nx (setS ρ i (dO (.lst (ds ++ [r.d]))))
  | _ => False
theorem sd_append (i : Nat) (he : ED Γ X e te) (hN : X.N[i]? = some x := by rfl) (hv : Vis X.env.scope x := by first | exact Or.inl rfl | exact Or.inr (Or.inl rfl) | exact Or.inr (Or.inr rfl)) (hd : (x == ("__debug__" : Str)) = false := by decide)
    (hcd : (x == ("__classdict__" : Str)) = false := by decide)
    (hp : ∀ {ta tb : TE}, PE X (.Name x np) ta → PE X e tb → PS X (.Expr (.Call (.Attribute (.Name x np) "append" apos) [e] [] cpos) pos) (tDrop (tBM X.K "list" rAppend ta (tCons tb tNil))) := by
      intro ta tb h1 h2
      exact ps_expr (pe_bm PySem.F.plainAttrs_list PySem.F.slot_list_append PySem.F.type_list_append mt_append h1 (pa_cons h2 pa_nil))) :
    SD Γ X (.Expr (.Call (.Attribute (.Name x np) "append" apos) [e] [] cpos) pos) (sApp i te) := fun H₀ => impS (hp (pe_var hN hv hd hcd) (he H₀)) fun D σ H h => by
  obtain ⟨ρ, o, R, Z, hZ, k1, k2, k3, k4⟩ := h
  unfold sApp at hZ
  split at hZ
  · rename_i ds es
    obtain ⟨v0, ev0, q0⟩ := R.slots i _ (slot_eq es)
    rcases q0 with ⟨k, _⟩ | ⟨_, a, rfl, m, c⟩
    · cases k
    obtain ⟨xs, hx, rx⟩ := c
    refine ⟨.ref a, ev0, .inl ⟨rfl, xs, SqL.of hx⟩, ?_⟩
    refine ⟨ρ, o, R, _, hZ, fun v r H1 s1 rv h1 => ?_⟩
    obtain ⟨h0, hl, hn⟩ := h1
    have hx1 := s1 _ _ hx
    have R1 := R.to s1
    have rx1 := Reps.grow (Grow.same s1) _ _ rx
    refine ⟨a, xs, v, rfl, rfl, hx1, ?_, ?_⟩
    · rw [rx.length]
      exact Nat.lt_of_le_of_lt hl (by decide)
    · obtain ⟨R2, g2⟩ := R1.chg (d' := .lst (ds ++ [r.d])) (ho := .lst (xs ++ [v])) (slot_eq es) ev0 m ⟨fun _ z => (by cases z), fun _ _ z => (by cases z)⟩ fun gr => ⟨xs ++ [v], upd_same, gr _ _ (rx1.append (Reps.one (rv.solid (notOwn h0))))⟩
      exact k1 _ σ _ o ((Grow.same s1).trans g2) R2 hn
  · exact hZ.elim
end

section
variable {P : Program} {w : World} {K : PySem.W.Frag} {mg : Str → Option Value} {base : Heap}
def startD (n : Nat) (ds : List D) : DE := ds.map (fun d => some (dv d)) ++ List.replicate (n - ds.length) none
theorem fn_okD {x qual : Str} {st : Stmt} {f : Addr} {fd : FuncData} {N ps : List Str} {k : Nat} {T : FT} (F : Fun K x qual st f fd) (S : FnScope N ps (defScope st))
    (hbody : ∀ (cdv : Value) (A : Around) (outer : List Env) (s : Shared) (H : Hp) (E : XK) (ds : List D) (φ : EV → Prop), Room k (A.deeper (envOfC qual (defScope st) s.heap.objs.size f cdv)) → ds.length = ps.length → T ds φ →
      ∃ t, SDs (fun _ => True) (cxOf CX0 P w K mg base N qual (defScope st) f cdv A outer s H E).nox (defBody st) t ∧ t (startD N.length ds) { nx := fun _ => φ (dv .non), rt := fun r => pureEV r ∧ φ r }) : FnOk P w K mg base CX0 (k + 1) f fd ps (spD K ps.length T) := by
  refine F.ok S (fun vs H Q E h => ?_) (fun cdv A outer s H vs Q E hr h => ?_)
  · obtain ⟨ds, φ, hl, r, _⟩ := h
    rw [r.length, hl]
  · obtain ⟨ds, φ, hl, r, hT, kk⟩ := h
    obtain ⟨t, ht, hq⟩ := hbody cdv A outer s H E ds φ hr hl hT
    have rl := r.length
    refine ⟨liftS K H t, ht ⟨H, trivial⟩, startD N.length ds, [], ⟨Same.refl H, (fun _ z => absurd z (by simp)), (fun _ z => absurd z (by simp)), (fun _ z => absurd z (by simp)), List.nodup_nil, fun i r' e => ?_, ?_⟩, _, hq, fun ρ' σ' H' o' g R' q => ?_, fun _ _ _ _ _ _ q => q.elim, fun _ _ _ _ _ _ q => q.elim, fun v r' H' s' rv q => kk v r' H' s' rv q.1 q.2⟩
    · unfold startD at e
      rcases Nat.lt_or_ge i ds.length with hi | hi
      · rw [List.getElem?_append_left (by simpa using hi), List.getElem?_map] at e
        have ed : ds[i]? = some ds[i] := by simp [hi]
        rw [ed] at e
        have e' : some (dv ds[i]) = some r' := Option.some.inj e
        cases e'
        obtain ⟨v, ev, rv⟩ := r.get ed
        refine ⟨v, ?_, .inl ⟨rfl, rv⟩⟩
        unfold L2.start
        rw [List.getElem?_append_left (by rw [List.length_map, rl]; exact hi), List.getElem?_map, ev]
        rfl
      · rw [List.getElem?_append_right (by simpa using hi), List.getElem?_replicate] at e
        split at e <;> cases e
    · unfold L2.start startD
      simp [rl]
    · exact kk .non (dv .non) H' R'.same rfl trivial q
theorem fd_of {x qual : Str} {st : Stmt} {f : Addr} {fd : FuncData} {N ps : List Str} {k : Nat} {T : FT} (F : Fun K x qual st f fd) (S : FnScope N ps (defScope st)) (b : Binds K fd ps []) (m : mg x = some (.ref f))
    (hbody : ∀ (cdv : Value) (A : Around) (outer : List Env) (s : Shared) (H : Hp) (E : XK) (ds : List D) (φ : EV → Prop), Room k (A.deeper (envOfC qual (defScope st) s.heap.objs.size f cdv)) → ds.length = ps.length → T ds φ →
      ∃ t, SDs (fun _ => True) (cxOf CX0 P w K mg base N qual (defScope st) f cdv A outer s H E).nox (defBody st) t ∧ t (startD N.length ds) { nx := fun _ => φ (dv .non), rt := fun r => pureEV r ∧ φ r }) : FD P w K mg base (k + 1) x ps T := ⟨f, fd, fn_okD F S hbody, b, F.kp, m⟩

end
/-- the law: True of every script -/
def lawT : FT := fun ds φ => ∃ ns : List Int, ds = [.scr ns] ∧ ns.length ≤ 63 ∧ φ (dv (.bl true))
theorem walkD {l : PySem.W.OpenLaw} {q : Program} {loose : List Str} {XP : (Str → Option Value) → Heap → Prop} {YP : World → Heap → Prop} {d : DefRec} {K : Params → PySem.W.Frag} {x : Str} {k : Nat} (hn : l.most = some 63) (hdf : d.params.defaults = []) (hr : Room k callerA)
    (hY : ∀ (w : World) (h : Heap), YP w h → (K w.params).In h)
    (F : ∀ (w : World) (mg : Str → Option Value) (fa : Addr) (h : Heap), (K w.params).In h → h.Ns mainGlobals mg → mg d.name = some (.ref fa) →
      ∃ fd : FuncData, (∀ (s : Shared) (u : Value), BindsTo s fd ⟨[u], []⟩ [(x, u)]) ∧ ∀ base : Heap, (K w.params).In base → base.Ns mainGlobals mg → FnOk l.prog w (K w.params) mg base CX0 k fa fd [x] (spD (K w.params) 1 lawT)) :
    PySem.W.WalkO q loose XP YP l.row.toRowW d [] (fun f vs => PySem.call f vs) :=
  L2.walk_of (n := 63) (k := k) (x := x) (CX := fun _ => CX0) (sp := fun w => spD (K w.params) 1 lawT) hn (by decide) hdf hr hY F (fun w H a ns hl ho hS => by
    refine ⟨[.scr ns], fun r => r = dv (.bl true), rfl, ⟨.ref a, [], rfl, ⟨a, rfl, ?_⟩, rfl⟩, ⟨ns, rfl, hl, rfl⟩, fun v r H' s rv p e => by subst e; exact rv⟩
    rcases hS with (h | ⟨o, h⟩) | h
    · rcases ho a with z | ⟨o, xs, z⟩
      · rw [z] at h; cases h
      · rw [z] at h; cases h
    · exact .inl ⟨o, h⟩
    · exact .inr h) fun _ _ _ _ _ z => z
end DL

set_option Elab.async false
set_option linter.all false
set_option maxRecDepth 100000
set_option maxHeartbeats 4000000
namespace DL
/-- what ratio makes of two numbers -/
def sg (t b : Int) : Int := if b < 0 then -(Int.gcd t b : Int) else Int.gcd t b
def rt (t b : Int) : Int × Int := (t.fdiv (sg t b), b.fdiv (sg t b))
end DL
namespace DL
open PySem PySem.Spec L2 L3
open PyProof.Rows hiding St
variable {Γ : Hp → Prop}
open PySem.Builtin.Int (intBits)
theorem fdOk {i j : Int} {m : Nat} (h : j ≠ 0) (hb : intBits j ≤ m) (hm : m ≤ 8999 := by omega) : FdOk i j := by
  refine ⟨h, ?_⟩
  unfold intBits at hb
  rw [if_neg (by simpa using h)] at hb
  omega
end DL
namespace DL
open PySem PySem.Spec L2 L3
open PyProof.Rows hiding St
open PySem.Builtin.Int (intBits)
theorem okD_int {n : Nat} {i : Int} : okD n (.int i) = True := by cases n <;> rfl
theorem okD_bl {n : Nat} {i : Bool} : okD n (.bl i) = True := by cases n <;> rfl
theorem okD_str {n : Nat} {i : Str} : okD n (.str i) = True := by cases n <;> rfl
theorem okD_non {n : Nat} : okD n .non = True := by cases n <;> rfl
theorem eqD_int {a b : Int} : eqD (.int a) (.int b) = (a == b) := rfl
theorem eqD_str {a b : Str} : eqD (.str a) (.str b) = (a == b) := rfl
theorem eqD_bl {a b : Bool} : eqD (.bl a) (.bl b) = (a == b) := rfl
/-- two numbers -/
def w2 (g : Int → Int → (EV → Prop) → Prop) : FT := fun ds φ => match ds with
  | [.int a, .int b] => g a b φ
  | _ => False
theorem w2_of {g : Int → Int → (EV → Prop) → Prop} {ds : List D} {φ : EV → Prop} (h : w2 g ds φ) : ∃ a b, ds = [.int a, .int b] ∧ g a b φ := by
  unfold w2 at h
  split at h
  · exact ⟨_, _, rfl, h⟩
  · exact h.elim
def w1 (g : Int → (EV → Prop) → Prop) : FT := fun ds φ => match ds with
  | [.int a] => g a φ
  | _ => False
theorem w1_of {g : Int → (EV → Prop) → Prop} {ds : List D} {φ : EV → Prop} (h : w1 g ds φ) : ∃ a, ds = [.int a] ∧ g a φ := by
  unfold w1 at h
  split at h
  · exact ⟨_, rfl, h⟩
  · exact h.elim
def tWhole : FT := w1 fun _ φ => φ (dv (.bl true))
/-- two ratios -/
def r2 (g : Int → Int → Int → Int → (EV → Prop) → Prop) : FT := fun ds φ => match ds with
  | [.tup [.int a, .int b], .tup [.int c, .int d]] => g a b c d φ
  | _ => False
end DL
namespace DL
open L2
theorem atI_0 {α : Type} {x : α} {l : List α} : atI (x :: l) 0 = some x := by
  rw [show (0 : Int) = ((0 : Nat) : Int) from rfl]
  exact atI_nat rfl
theorem atI_1 {α : Type} {x y : α} {l : List α} : atI (x :: y :: l) 1 = some y := by
  rw [show (1 : Int) = ((1 : Nat) : Int) from rfl]
  exact atI_nat rfl
theorem atI_2 {α : Type} {x y z : α} {l : List α} : atI (x :: y :: z :: l) 2 = some z := by
  rw [show (2 : Int) = ((2 : Nat) : Int) from rfl]
  exact atI_nat rfl
end DL

set_option Elab.async false
set_option linter.all false
set_option maxRecDepth 100000
namespace L2
open PySem PySem.Spec PyProof.Rows

section
variable {κ : Type} [DecidableEq κ]
def valV (kvs : List (κ × V)) (k : κ) : Option V := (kvs.find? fun kv => decide (kv.1 = k)).map (·.2)
/-- in its place, or at the end -/
def putK (kvs : List (κ × V)) (k : κ) (v : V) : List (κ × V) :=
  if (kvs.any fun kv => decide (kv.1 = k)) = true then kvs.map (fun kv => if kv.1 = k then (kv.1, v) else kv) else kvs ++ [(k, v)]
def dropK (kvs : List (κ × V)) (k : κ) : List (κ × V) := kvs.filter fun kv => decide (kv.1 ≠ k)

theorem valV_pos {p : κ × V} {r : List (κ × V)} {k : κ} (e : p.1 = k) : valV (p :: r) k = some p.2 := by simp [valV, List.find?_cons, e]
theorem valV_neg {p : κ × V} {r : List (κ × V)} {k : κ} (e : ¬ p.1 = k) : valV (p :: r) k = valV r k := by simp [valV, List.find?_cons, e]
theorem valV_any (k : κ) : ∀ kvs : List (κ × V), (kvs.any fun kv => decide (kv.1 = k)) = (valV kvs k).isSome
  | [] => rfl
  | p :: r => by
    rw [List.any_cons]
    by_cases e : p.1 = k
    · simp only [valV_pos e, decide_eq_true e, Bool.true_or, Option.isSome_some]
    · rw [valV_neg e, decide_eq_false e, Bool.false_or]; exact valV_any k r
theorem length_putK (kvs : List (κ × V)) (k : κ) (v : V) : (putK kvs k v).length ≤ kvs.length + 1 := by
  unfold putK
  split
  · rw [List.length_map]; omega
  · rw [List.length_append, List.length_cons, List.length_nil]; omega
theorem RelO.isSome_eq {o : Option V} {u : Option Value} (r : RelO o u) : o.isSome = u.isSome := by
  cases o with
  | none => cases u with
    | none => rfl
    | some _ => exact (show False from r).elim
  | some _ => cases u with
    | none => exact (show False from r).elim
    | some _ => rfl
theorem RelO.getD {o : Option V} {u : Option Value} {d : V} {d' : Value} (r : RelO o u) (rd : RelV d d') : RelV (o.getD d) (u.getD d') := by
  cases o with
  | none => cases u with
    | none => exact rd
    | some _ => exact (show False from r).elim
  | some _ => cases u with
    | none => exact (show False from r).elim
    | some _ => exact r

/-- raw tables of the same keys -/
theorem KV.val {kvs : List (κ × V)} {vs : List (κ × Value)} (r : KV kvs vs) (k : κ) : RelO (valV kvs k) (valueAt vs k) := by
  unfold KV at r
  induction r with
  | nil => exact True.intro
  | @cons p q ps qs h t ih =>
    obtain ⟨h1, h2⟩ := h
    by_cases e : p.1 = k
    · have e' : q.1 = k := h1.symm.trans e
      have b : valueAt (q :: qs) k = some q.2 := by simp [valueAt, List.find?_cons, e']
      rw [valV_pos e, b]; exact h2
    · have e' : ¬ q.1 = k := fun z => e (h1.trans z)
      have b : valueAt (q :: qs) k = valueAt qs k := by simp [valueAt, List.find?_cons, e']
      rw [valV_neg e, b]; exact ih
theorem KV.any {kvs : List (κ × V)} {vs : List (κ × Value)} (r : KV kvs vs) (k : κ) : (kvs.any fun kv => decide (kv.1 = k)) = vs.any fun kv => decide (kv.1 = k) := by
  unfold KV at r
  induction r with
  | nil => rfl
  | cons h t ih => rw [List.any_cons, List.any_cons, ih, h.1]
theorem KV.repl {kvs : List (κ × V)} {vs : List (κ × Value)} (r : KV kvs vs) (k : κ) {y : V} {u : Value} (ry : RelV y u) :
    KV (kvs.map fun kv => if kv.1 = k then (kv.1, y) else kv) (vs.map fun kv => if kv.1 = k then (kv.1, u) else kv) := by
  unfold KV at r ⊢
  induction r with
  | nil => exact .nil
  | @cons p q ps qs h t ih =>
    rw [List.map_cons, List.map_cons]
    refine .cons ?_ ih
    obtain ⟨h1, h2⟩ := h
    by_cases e : p.1 = k
    · rw [if_pos e, if_pos (h1.symm.trans e)]; exact ⟨h1, ry⟩
    · rw [if_neg e, if_neg (fun z => e (h1.trans z))]; exact ⟨h1, h2⟩
theorem KV.put {kvs : List (κ × V)} {vs : List (κ × Value)} (r : KV kvs vs) (k : κ) {y : V} {u : Value} (ry : RelV y u) : KV (putK kvs k y) (stored vs k u) := by
  unfold putK stored
  rw [r.any k]
  by_cases e : (vs.any fun kv => decide (kv.1 = k)) = true
  · rw [if_pos e, if_pos e]; exact r.repl k ry
  · rw [if_neg e, if_neg e]; exact Paired.snoc r ⟨rfl, ry⟩
theorem KV.drop {kvs : List (κ × V)} {vs : List (κ × Value)} (r : KV kvs vs) (k : κ) : KV (dropK kvs k) (without vs k) := by
  unfold KV at r ⊢
  unfold dropK without
  induction r with
  | nil => exact .nil
  | @cons p q ps qs h t ih =>
    obtain ⟨h1, h2⟩ := h
    rw [List.filter_cons, List.filter_cons]
    by_cases e : p.1 = k
    · have a : ¬ decide (p.1 ≠ k) = true := by simp [e]
      have b : ¬ decide (q.1 ≠ k) = true := by simp [h1.symm.trans e]
      rw [if_neg a, if_neg b]; exact ih
    · have e' : ¬ q.1 = k := fun z => e (h1.trans z)
      have a : decide (p.1 ≠ k) = true := by simp [e]
      have b : decide (q.1 ≠ k) = true := by simp [e']
      rw [if_pos a, if_pos b]; exact .cons ⟨h1, h2⟩ ih
theorem KV.length {kvs : List (κ × V)} {vs : List (κ × Value)} (r : KV kvs vs) : kvs.length = vs.length := Paired.length r
end


theorem kV_is {P : Program} {w : World} {k : Key} {u : Value} (r : RelV (kV k) u) : (mixKind P w).is k u = true := by
  cases k with
  | inl i => obtain ⟨t, e⟩ := (show ∃ t, u = Value.int i t from r); subst e; exact mixKind_int P w i t
  | inr x => obtain ⟨t, e⟩ := (show ∃ t, u = Value.str x t from r); subst e; exact mixKind_str P w x t
theorem items_are {P : Program} {w : World} : ∀ {ks : List Key} {us : List Value}, Vals (ks.map kV) us → ItemsAre (mixKind P w) ks us
  | [], _, r => by rw [List.map_nil] at r; cases r; exact .nil
  | k :: ks, _, r => by
    rw [List.map_cons] at r
    cases r with
    | cons h t => exact .cons (kV_is h) (items_are t)

/-- raw entries of a dict with tuple keys -/
abbrev KT (H : Hp) : List (List Key × V) → List (List Key × Addr × Value) → Prop := Paired fun p q => p.1 = q.1 ∧ H q.2.1 = some (.tup (p.1.map kV)) ∧ RelV p.2 q.2.2
theorem KT.val {H : Hp} {kvs : List (List Key × V)} {xs : List (List Key × Addr × Value)} (r : KT H kvs xs) (k : List Key) : RelO (valV kvs k) ((atKey xs k).map (·.2)) := by
  induction r with
  | nil => exact True.intro
  | @cons p q ps qs h t ih =>
    obtain ⟨h1, _, h2⟩ := h
    by_cases e : p.1 = k
    · have e' : q.1 = k := h1.symm.trans e
      have b : atKey (q :: qs) k = some q.2 := by simp [atKey, List.find?_cons, e']
      rw [valV_pos e, b]; exact h2
    · have e' : ¬ q.1 = k := fun z => e (h1.trans z)
      have b : atKey (q :: qs) k = atKey qs k := by simp [atKey, List.find?_cons, e']
      rw [valV_neg e, b]; exact ih
theorem KT.repl {H : Hp} {kvs : List (List Key × V)} {xs : List (List Key × Addr × Value)} (r : KT H kvs xs) (k : List Key) {y : V} {u : Value} (ry : RelV y u) :
    KT H (kvs.map fun kv => if kv.1 = k then (kv.1, y) else kv) (xs.map (putAt k u)) := by
  induction r with
  | nil => exact .nil
  | @cons p q ps qs h t ih =>
    rw [List.map_cons, List.map_cons]
    refine .cons ?_ ih
    obtain ⟨h1, h2, h3⟩ := h
    unfold putAt
    by_cases e : p.1 = k
    · rw [if_pos e, if_pos (h1.symm.trans e)]; exact ⟨h1, h2, ry⟩
    · rw [if_neg e, if_neg (fun z => e (h1.trans z))]; exact ⟨h1, h2, h3⟩
theorem KT.put {H : Hp} {kvs : List (List Key × V)} {xs : List (List Key × Addr × Value)} (r : KT H kvs xs) (k : List Key) {b : Addr} {y : V} {u : Value} (hb : H b = some (.tup (k.map kV))) (ry : RelV y u) :
    KT H (putK kvs k y) (storedH xs k b u) := by
  have e : (kvs.any fun kv => decide (kv.1 = k)) = (atKey xs k).isSome := by
    rw [valV_any, (r.val k).isSome_eq, Option.isSome_map]
  unfold putK storedH
  rw [e]
  by_cases q : (atKey xs k).isSome = true
  · rw [if_pos q, if_pos q]; exact r.repl k ry
  · rw [if_neg q, if_neg q]; exact Paired.snoc r ⟨rfl, hb, ry⟩
theorem KT.keeps {H H' : Hp} {kvs : List (List Key × V)} {xs : List (List Key × Addr × Value)} (r : KT H kvs xs) (ht : ∀ b ys, H b = some (.tup ys) → H' b = some (.tup ys)) : KT H' kvs xs :=
  Paired.mapP r fun _ _ z => ⟨z.1, ht _ _ z.2.1, z.2.2⟩

section
variable {P : Program} {w : World} {H : Hp} {h : Heap} {a : Addr}
theorem rd_of {u : HO} (ok : HOk P w H h) (e : Rd H a u) : ObjOk P w H h a u := e.ok ok
theorem dk_rd {kvs : List (Key × V)} (ok : HOk P w H h) (e : Rd H a (.dK kvs)) : kvs.length ≤ sizeLine ∧ (a == sysModules) = false ∧ ∃ vs, KV kvs vs ∧ h.DictOf (mixKind P w) a vs :=
  show ObjOk P w H h a (.dK kvs) from rd_of ok e
theorem dk_of {kvs : List (Key × V)} (ok : HOk P w H h) (e : H a = some (.dK kvs)) : kvs.length ≤ sizeLine ∧ (a == sysModules) = false ∧ ∃ vs, KV kvs vs ∧ h.DictOf (mixKind P w) a vs := dk_rd ok (.inl e)
/-- a tracked tuple of ints and texts is a key -/
theorem key_of {ks : List Key} (ok : HOk P w H h) (e : H a = some (.tup (ks.map kV))) : (tupleKind (mixKind P w)).is h ks a := by
  obtain ⟨_, its, r, ⟨o, h1, h2, n, h3⟩, _⟩ := (show ObjOk P w H h a (.tup (ks.map kV)) from ok a _ e)
  exact ⟨o, its.toArray, n, h1, h2, h3, by simpa using items_are r⟩
theorem dt_rd {kvs : List (List Key × V)} (ok : HOk P w H h) (e : Rd H a (.dT kvs)) : kvs.length ≤ sizeLine ∧ (a == sysModules) = false ∧
    ∃ xs, KT H kvs xs ∧ h.DictOfH (tupleKind (mixKind P w)) a xs := by
  obtain ⟨z, y, xs, r, o, es, ep, h1, h2, h3, h4, h5⟩ := (show ObjOk P w H h a (.dT kvs) from rd_of ok e)
  refine ⟨z, y, xs, r, o, es, ep, h1, h2, h3, h4, fun x hx => ?_, h5⟩
  have all : ∀ {l : List (List Key × V)} {m : List (List Key × Addr × Value)}, KT H l m → ∀ x ∈ m, (tupleKind (mixKind P w)).is h x.1 x.2.1 := by
    intro l m q
    induction q with
    | nil => intro x hx; exact nomatch hx
    | @cons p q ps qs hq t ih =>
      intro x hx
      rcases List.mem_cons.mp hx with e | hx
      · subst e
        exact key_of ok (by rw [← hq.1]; exact hq.2.1)
      · exact ih x hx
  exact all r x hx
theorem dt_of {kvs : List (List Key × V)} (ok : HOk P w H h) (e : H a = some (.dT kvs)) : kvs.length ≤ sizeLine ∧ (a == sysModules) = false ∧
    ∃ xs, KT H kvs xs ∧ h.DictOfH (tupleKind (mixKind P w)) a xs := dt_rd ok (.inl e)
end

/-- what the dict at a holds at the key y -/
def DGet (H : Hp) (a : Addr) (y : V) (r : Option V) : Prop :=
  (∃ kvs k, Rd H a (.dK kvs) ∧ y = kV k ∧ r = valV kvs k) ∨ ∃ kvs k b, Rd H a (.dT kvs) ∧ y = .ref b ∧ H b = some (.tup (k.map kV)) ∧ r = valV kvs k
/-- the heap behind a[y] = v -/
def DPut (H : Hp) (a : Addr) (y v : V) (H' : Hp) : Prop :=
  (∃ kvs k, H a = some (.dK kvs) ∧ y = kV k ∧ kvs.length < sizeLine ∧ H' = upd H a (.dK (putK kvs k v))) ∨
  ∃ kvs k b, H a = some (.dT kvs) ∧ y = .ref b ∧ H b = some (.tup (k.map kV)) ∧ kvs.length < sizeLine ∧ H' = upd H a (.dT (putK kvs k v))
theorem DGet.k {H : Hp} {a : Addr} {kvs : List (Key × V)} {k : Key} (e : H a = some (.dK kvs)) : DGet H a (kV k) (valV kvs k) := .inl ⟨kvs, k, .inl e, rfl, rfl⟩
theorem DGet.t {H : Hp} {a b : Addr} {kvs : List (List Key × V)} {k : List Key} (e : H a = some (.dT kvs)) (eb : H b = some (.tup (k.map kV))) : DGet H a (.ref b) (valV kvs k) := .inr ⟨kvs, k, b, .inl e, rfl, eb, rfl⟩
theorem DPut.k {H : Hp} {a : Addr} {kvs : List (Key × V)} {k : Key} {v : V} (e : H a = some (.dK kvs)) (hl : kvs.length < sizeLine) : DPut H a (kV k) v (upd H a (.dK (putK kvs k v))) := .inl ⟨kvs, k, e, rfl, hl, rfl⟩
theorem DPut.t {H : Hp} {a b : Addr} {kvs : List (List Key × V)} {k : List Key} {v : V} (e : H a = some (.dT kvs)) (eb : H b = some (.tup (k.map kV))) (hl : kvs.length < sizeLine) :
    DPut H a (.ref b) v (upd H a (.dT (putK kvs k v))) := .inr ⟨kvs, k, b, e, rfl, eb, hl, rfl⟩


section
variable {X : Cx} {pins : List (Addr × Obj)} {σ : St} {H : Hp} {s : Shared} {a : Addr} {y v : V} {u r : Value} {o : Option V} {A : Around} {E : Value → Shared → Prop}

theorem Inv.big (I : Inv X pins σ H s) : sysModules < s.heap.objs.size := by
  have h : mainGlobals < s.heap.objs.size := (I.mod.glob.keeps I.bk).lt
  exact Nat.lt_trans (by decide) h

/-- d[y], there -/
theorem d_getItem {Q : Value → Shared → Prop} (hu : A.units + 1 < cLine) (I : Inv X pins σ H s) (g : DGet H a y (some v)) (ry : RelV y u) (h : ∀ w' s', Inv X pins σ H s' → RelV v w' → Q w' s') :
    wpAny (model X.prog X.w) A (getItem (.ref a) u) Q E s := by
  rcases g with ⟨kvs, k, e, ey, l⟩ | ⟨kvs, k, b, e, ey, eb, l⟩
  · subst ey
    obtain ⟨z, hd, vs, rel, dd⟩ := dk_rd I.hok e
    obtain ⟨w', hw, rw'⟩ := RelO.some_of (v := v) (o := valueAt vs k) (by rw [l]; exact rel.val k)
    exact wpAny_getItem_of (kV_is ry) dd.mapOf hw (h w' _ (I.tok _) rw')
  · subst ey
    cases (show u = Value.ref b from ry)
    obtain ⟨z, hd, xs, rel, dd⟩ := dt_rd I.hok e
    obtain ⟨w', hw, rw'⟩ := RelO.some_of (v := v) (o := (atKey xs k).map (·.2)) (by rw [l]; exact rel.val k)
    obtain ⟨p, hp, hp2⟩ := Option.map_eq_some_iff.mp hw
    refine wpAny_getItem_heap (tupleKind_room_in1 hu) (key_of I.hok eb) dd hp ?_
    rw [hp2]
    exact h w' _ (I.tok _) rw'
/-- y in d -/
theorem d_in {Q : Value → Shared → Prop} (hu : A.units + 1 < cLine) (I : Inv X pins σ H s) (g : DGet H a y o) (ry : RelV y u) (h : ∀ s', Inv X pins σ H s' → Q (.bool o.isSome) s') :
    wpAny (model X.prog X.w) A (compareOp .In u (.ref a)) Q E s := by
  rcases g with ⟨kvs, k, e, ey, l⟩ | ⟨kvs, k, b, e, ey, eb, l⟩
  · subst ey
    obtain ⟨z, hd, vs, rel, dd⟩ := dk_rd I.hok e
    refine wpAny_in_of (kV_is ry) hd dd.mapOf ?_
    rw [← (rel.val k).isSome_eq, ← l]
    exact h _ (I.tok _)
  · subst ey
    cases (show u = Value.ref b from ry)
    obtain ⟨z, hd, xs, rel, dd⟩ := dt_rd I.hok e
    refine wpAny_in_heap (tupleKind_room_in1 hu) (key_of I.hok eb) hd dd ?_
    have q := (rel.val k).isSome_eq
    rw [Option.isSome_map] at q
    rw [← q, ← l]
    exact h _ (I.tok _)
/-- a dict's object is replaced -/
theorem d_write {h' : Heap} {t' : Nat} {ob : HO} (I : Inv X pins σ H s) (mu : Mut (H a)) (hs : Heap.SameBut a s.heap h') (he : ∃ q, h'.get? a = some q) (new : ObjOk X.prog X.w (upd H a ob) h' a ob) :
    Inv X pins σ (upd H a ob) { s with heap := h', toks := t' } :=
  I.write (x := a) (e := a) mu (.inl rfl) (fun b q hb z => (hs.2 b hb).trans z) he new
theorem dk_new {P : Program} {w : World} {H' : Hp} {h' : Heap} {kvs : List (Key × V)} {vs : List (Key × Value)} (z : kvs.length ≤ sizeLine) (hd : (a == sysModules) = false) (rel : KV kvs vs) (dd : h'.DictOf (mixKind P w) a vs) :
    ObjOk P w H' h' a (.dK kvs) := ⟨z, hd, vs, rel, dd⟩
/-- d[y] = v -/
theorem d_setItem {H' : Hp} {Q : Unit → Shared → Prop} (hu : A.units + 1 < cLine) (I : Inv X pins σ H s) (g : DPut H a y v H') (ry : RelV y u) (rv : RelV v r) (h : ∀ s', Inv X pins σ H' s' → Q () s') :
    wpAny (model X.prog X.w) A (setItem (.ref a) u r) Q E s := by
  rcases g with ⟨kvs, k, e, ey, l, eH⟩ | ⟨kvs, k, b, e, ey, eb, l, eH⟩
  · subst ey eH
    obtain ⟨z, hd, vs, rel, dd⟩ := dk_of I.hok e
    have hz : vs.length ≤ sizeLine := by rw [← rel.length]; exact z
    have hl : (putK kvs k v).length ≤ sizeLine := by have := length_putK kvs k v; omega
    refine wpAny_setItem_pairs (hsz := hz) (kV_is ry) dd fun h' dd' hs => h _ ?_
    have he : ∃ q, h'.get? a = some q := let ⟨q, _, _, hq, _⟩ := dd'; ⟨q, hq⟩
    exact d_write I (by rw [e]; exact True.intro) hs he (dk_new hl hd (rel.put k rv) dd')
  · subst ey eH
    cases (show u = Value.ref b from ry)
    obtain ⟨z, hd, xs, rel, dd⟩ := dt_of I.hok e
    have hz : xs.length ≤ sizeLine := by rw [← Paired.length rel]; exact z
    have hl : (putK kvs k v).length ≤ sizeLine := by have := length_putK kvs k v; omega
    refine wpAny_setItem_heap (hsz := hz) (tupleKind_room_in1 hu) (key_of I.hok eb) dd fun h' dd' hs => h _ ?_
    obtain ⟨q, es, ep, hq, h2, h3, h4, _, h5⟩ := dd'
    refine d_write I (by rw [e]; exact True.intro) hs ⟨q, hq⟩ ⟨hl, hd, _, (rel.put k eb rv).keeps fun c ys ec => ?_, q, es, ep, hq, h2, h3, h4, h5⟩
    rw [upd_ne (ne_of ec e (fun z => nomatch z))]
    exact ec
end

section
variable {X : Cx} {pins : List (Addr × Obj)} {σ : St} {H : Hp} {s : Shared} {a : Addr} {kvs : List (Key × V)} {k : Key} {u : Value} {A : Around} {E : Value → Shared → Prop}
/-- len(d) -/
theorem d_len {Q : Value → Shared → Prop} (I : Inv X pins σ H s) (e : Rd H a (.dK kvs)) (h : ∀ t s', Inv X pins σ H s' → Q (.int kvs.length t) s') : wpAny (model X.prog X.w) A (call (.builtin "len") [.ref a]) Q E s := by
  obtain ⟨z, hd, vs, rel, dd⟩ := dk_rd I.hok e
  refine call_len_dict hd dd (by rw [← rel.length]; rw [sizeLine_eq] at z; omega) ?_
  rw [← rel.length]
  exact h _ _ (I.tok _)
end


theorem dict_typeIs {X : Cx} {pins : List (Addr × Obj)} {σ : St} {H : Hp} {s : Shared} {a : Addr} {y : V} {o : Option V} (I : Inv X pins σ H s) (g : DGet H a y o) : s.TypeIs (.ref a) "dict" := by
  rcases g with ⟨kvs, k, e, _, _⟩ | ⟨kvs, k, b, e, _, _, _⟩
  · obtain ⟨_, _, vs, _, dd⟩ := dk_rd I.hok e
    exact dd.typeIs
  · obtain ⟨_, _, xs, _, dd⟩ := dt_rd I.hok e
    exact dd.typeIs
/-- d[y] = v -/
def sDPut (td ty tv : TE) : TS := fun D σ H => tv σ H fun v H1 => td σ H1 fun x H2 => ty σ H2 fun y H3 => ∃ a H4, x = .ref a ∧ DPut H3 a y v H4 ∧ D.nx σ H4
section
variable {X : Cx} {o i e value : Expr} {pos pos' tpos : Pos} {td ty tv : TE}
theorem ps_dput (hu : X.A.units + 1 < cLine) (ho : PE X o td) (hi : PE X i ty) (hv : PE X value tv) (hs : swapsWith value (some (.Subscript o i pos')) pos.line X.env = pure false) :
    PS X (.Assign [.Subscript o i pos'] value pos) (sDPut td ty tv) := by
  intro pins s σ H D I h
  refine wpAny_Assign_Subscript (thn (hv pins s σ H _ I h) fun r s1 ⟨v, H1, I1, rv, q1⟩ => thn (ho pins s1 σ H1 _ I1 q1) fun u s2 ⟨x, H2, I2, rx, q2⟩ => thn (hi pins s2 σ H2 _ I2 q2) fun iv s3 ⟨y, H3, I3, ry, a, H4, ex, g, q3⟩ => ?_) hs
  subst ex
  obtain rfl : u = Value.ref a := rx
  exact d_setItem hu I3 g ry rv fun s4 I4 => ⟨σ, H4, I4, q3⟩
end


theorem dk_empty {P : Program} {w : World} {H : Hp} (h : Heap) (hb : sysModules < h.objs.size) : ObjOk P w H (h.push { cls := .type "dict", data := .dict #[] }) h.objs.size (.dK []) :=
  ⟨Nat.zero_le _, beq_eq_false_iff_ne.mpr (Ne.symm (Nat.ne_of_lt hb)), [], .nil, Heap.DictOf.new h⟩
theorem dt_empty {P : Program} {w : World} {H : Hp} (h : Heap) (hb : sysModules < h.objs.size) : ObjOk P w H (h.push { cls := .type "dict", data := .dict #[] }) h.objs.size (.dT []) :=
  ⟨Nat.zero_le _, beq_eq_false_iff_ne.mpr (Ne.symm (Nat.ne_of_lt hb)), [], .nil, _, #[], 0, Heap.get?_push_size _ rfl, ⟨rfl, rfl, rfl⟩, rfl, rfl, List.nodup_nil⟩
/-- {}, to be a dict of the kind that is wanted -/
def tDNewK : TE := fun _ H Q => ∀ p, H p = none → Q (.ref p) (upd H p (.dK []))
def tDNewT : TE := fun _ H Q => ∀ p, H p = none → Q (.ref p) (upd H p (.dT []))
section
variable {X : Cx} {pos : Pos}
theorem pe_dnewK : PE X (.Dict [] [] pos) tDNewK := fun pins s σ H Q I h =>
  wpAny_Dict_empty ⟨.ref s.heap.objs.size, _, I.laid (a := s.heap.objs.size) (o := .dK []) (t' := s.toks) (fun _ _ q => Heap.get?_push_of_some _ q) (Nat.le_refl _) (dk_empty s.heap I.big), rfl, h _ (I.hok.fresh (Nat.le_refl _))⟩
theorem pe_dnewT : PE X (.Dict [] [] pos) tDNewT := fun pins s σ H Q I h =>
  wpAny_Dict_empty ⟨.ref s.heap.objs.size, _, I.laid (a := s.heap.objs.size) (o := .dT []) (t' := s.toks) (fun _ _ q => Heap.get?_push_of_some _ q) (Nat.le_refl _) (dt_empty s.heap I.big), rfl, h _ (I.hok.fresh (Nat.le_refl _))⟩
end

/-- a method call o.m(e) of a built-in, with one argument: what must be seen of the text -/
structure M1 (X : Cx) (o : Expr) (m : Str) (apos : Pos) (e : Expr) (cpos : Pos) : Prop where
  base : attributeBase o m X.env (eval o X.env) = eval o X.env
  few : ((backTo cpos (starEach [e] X.env)).all (fun x => !x.1) && (backToKw cpos (keywordEach [] X.env)).all (fun x => x.1.isSome)
    && decide (([e] : List Expr).length + ([] : List Keyword).length + (if ([] : List Keyword).isEmpty then 0 else 1) < 30)) = true
  line : (apos.endLine == cpos.line) = true
  trees : backTo cpos (starEach [e] X.env) = [(false, eval e X.env)]
structure M2 (X : Cx) (o : Expr) (m : Str) (apos : Pos) (e f : Expr) (cpos : Pos) : Prop where
  base : attributeBase o m X.env (eval o X.env) = eval o X.env
  few : ((backTo cpos (starEach [e, f] X.env)).all (fun x => !x.1) && (backToKw cpos (keywordEach [] X.env)).all (fun x => x.1.isSome)
    && decide (([e, f] : List Expr).length + ([] : List Keyword).length + (if ([] : List Keyword).isEmpty then 0 else 1) < 30)) = true
  line : (apos.endLine == cpos.line) = true
  trees : backTo cpos (starEach [e, f] X.env) = [(false, eval e X.env), (false, eval f X.env)]

/-- a is a dict, whatever its keys -/
def IsD (H : Hp) (a : Addr) : Prop := (∃ kvs, Rd H a (.dK kvs)) ∨ ∃ kvs, Rd H a (.dT kvs)
theorem isD_at {X : Cx} {pins : List (Addr × Obj)} {σ : St} {H : Hp} {s : Shared} {a : Addr} (I : Inv X pins σ H s) (d : IsD H a) :
    s.TypeIs (.ref a) "dict" ∧ (∀ b, Value.ref a = .ref b → ∃ ob, s.heap.get? b = some ob ∧ ob.dict = none) ∧ (a == sysModules) = false := by
  rcases d with ⟨kvs, e⟩ | ⟨kvs, e⟩
  · obtain ⟨_, hd, vs, _, dd⟩ := dk_rd I.hok e
    refine ⟨dd.typeIs, fun b q => ?_, hd⟩
    cases q
    obtain ⟨ob, _, _, h1, h2, _⟩ := dd
    exact ⟨ob, h1, h2.2.1⟩
  · obtain ⟨_, hd, xs, _, dd⟩ := dt_rd I.hok e
    refine ⟨dd.typeIs, fun b q => ?_, hd⟩
    cases q
    obtain ⟨ob, _, _, h1, h2, _⟩ := dd
    exact ⟨ob, h1, h2.2.1⟩

section
variable {X : Cx} {pins : List (Addr × Obj)} {σ : St} {H : Hp} {s : Shared} {a : Addr} {y d : V} {u r : Value} {o : Option V} {A : Around} {E : Value → Shared → Prop}
/-- d.get(y, x) -/
theorem d_get2 {Q : Value → Shared → Prop} (hu : A.units + 1 < cLine) (I : Inv X pins σ H s) (g : DGet H a y o) (ry : RelV y u) (rd : RelV d r) (h : ∀ w' s', Inv X pins σ H s' → RelV (o.getD d) w' → Q w' s') :
    wpAny (model X.prog X.w) A (call (.builtin "dict.get") [.ref a, u, r]) Q E s := by
  rcases g with ⟨kvs, k, e, ey, l⟩ | ⟨kvs, k, b, e, ey, eb, l⟩
  · subst ey
    obtain ⟨z, hd, vs, rel, dd⟩ := dk_rd I.hok e
    refine call_meetsIn PySem.F.slot_dict_get dd.typeIs PySem.F.entry_dict_get (PySem.F.args_dict_get_3 _ _ _) (meets_dict_get_default (mixKind X.prog X.w) a (kV_is ry) hd r) ⟨_, dd.mapOf, h _ _ (I.tok _) ?_⟩
    rw [l]
    exact (rel.val k).getD rd
  · subst ey
    cases (show u = Value.ref b from ry)
    obtain ⟨z, hd, xs, rel, dd⟩ := dt_rd I.hok e
    refine call_meetsIn PySem.F.slot_dict_get dd.typeIs PySem.F.entry_dict_get (PySem.F.args_dict_get_3 _ _ _) (meetsH_dict_get_default (tupleKind (mixKind X.prog X.w)) a b hd r) ⟨tupleKind_room_in1 hu, k, xs, key_of I.hok eb, dd, h _ _ (I.tok _) ?_⟩
    rw [l]
    exact (rel.val k).getD rd
end

def tDGet2 (td ty tx : TE) : TE := fun σ H Q => td σ H fun x H1 => ∃ a, x = .ref a ∧ IsD H1 a ∧ ty σ H1 fun y H2 => tx σ H2 fun z H3 => ∃ o, DGet H3 a y o ∧ Q (o.getD z) H3
section
variable {X : Cx} {o e f : Expr} {apos cpos : Pos} {td ty tx : TE}
theorem pe_dget2 (hu : X.A.units + 1 < cLine) (ho : PE X o td) (he : PE X e ty) (hf : PE X f tx) (m : M2 X o "get" apos e f cpos) : PE X (.Call (.Attribute o "get" apos) [e, f] [] cpos) (tDGet2 td ty tx) := by
  intro pins s σ H Q I h
  refine wpAny_Call_method m.base m.few m.line PySem.F.plainAttrs_dict PySem.F.slot_dict_get PySem.F.type_dict_get (thn (ho pins s σ H _ I h) fun u s1 ⟨x, H1, I1, rx, a, ex, d, q1⟩ => ?_)
  subst ex
  obtain rfl : u = Value.ref a := rx
  obtain ⟨t1, t2, _⟩ := isD_at I1 d
  refine ⟨t1, t2, ?_⟩
  rw [m.trees]
  refine Calls.callWith_builtin rfl (Calls.evalArgs_plain (Calls.spliced_cons (thn (he pins s1 σ H1 _ I1 q1) fun iv s2 ⟨y, H2, I2, ry, q2⟩ =>
    Calls.spliced_cons (thn (hf pins s2 σ H2 _ I2 q2) fun fv s3 ⟨z, H3, I3, rz, ov, g, q3⟩ => Calls.spliced_nil ?_))))
  exact d_get2 hu I3 g ry rz fun w' s4 I4 rw' => ⟨_, H3, I4, rw', q3⟩
end

section
variable {X : Cx} {pins : List (Addr × Obj)} {σ : St} {H : Hp} {s : Shared} {a : Addr} {kvs : List (Key × V)} {A : Around} {E : Value → Shared → Prop}
end


section
variable {X : Cx} {pins : List (Addr × Obj)} {σ : St} {H : Hp} {s : Shared} {a : Addr} {y : V} {u : Value} {A : Around} {E : Value → Shared → Prop}
end
end L2

namespace L2
open PySem PySem.Spec PyProof.Rows
section
variable {X : Cx}
theorem call_lenD : CallR X (.builtin "len") (fun xs H Q => ∃ a kvs, xs = [V.ref a] ∧ H a = some (.dK kvs) ∧ Q (.int kvs.length) H) := by
  intro pins s σ H xs us Q I r h
  obtain ⟨a, kvs, rfl, ha, q⟩ := h
  obtain ⟨u, rfl, ru⟩ := vals1 r
  cases ru
  exact d_len I (.inl ha) fun t s' I' => ⟨.int kvs.length, H, I', ⟨t, rfl⟩, q⟩
end
end L2

set_option Elab.async false
set_option linter.all false
set_option maxRecDepth 100000
set_option maxHeartbeats 4000000
namespace DL
open PySem PySem.Spec L2 L3
open PyProof.Rows hiding St
variable {Γ : Hp → Prop}

instance decMemKey (k : Key) (ks : List Key) : Decidable (k ∈ ks) := decidable_of_iff (ks.any (fun x => decide (x = k)) = true) (by simp)
section
variable {α : Type}
def lookA : List Key → List α → Key → Option α
  | k' :: ks, d :: ds, k => if k' = k then some d else lookA ks ds k
  | _, _, _ => none
def kput (ks : List Key) (k : Key) : List Key := if k ∈ ks then ks else ks ++ [k]
def dput : List Key → List α → Key → α → List α
  | k' :: ks, d' :: ds, k, d => if k' = k then d :: ds else d' :: dput ks ds k d
  | _, _, _, d => [d]
end
theorem valV_zip : ∀ (ks : List Key) (xs : List V) (k : Key), valV (ks.zip xs) k = lookA ks xs k
  | [], xs, k => by cases xs <;> rfl
  | k' :: ks, [], k => rfl
  | k' :: ks, x :: xs, k => by
    rw [List.zip_cons_cons, lookA]
    by_cases e : k' = k
    · rw [if_pos e, valV_pos (by exact e)]
    · rw [if_neg e, valV_neg (by exact e), valV_zip ks xs k]
theorem lookA_none {α : Type} : ∀ {ks : List Key} {xs : List α} {k : Key}, ks.length = xs.length → (lookA ks xs k = none ↔ k ∉ ks)
  | [], xs, k, h => by cases xs <;> simp [lookA] at *
  | k' :: ks, [], k, h => by simp at h
  | k' :: ks, x :: xs, k, h => by
    rw [lookA]
    by_cases e : k' = k
    · simp [e]
    · rw [if_neg e, lookA_none (by simpa using h)]
      simp [e, Ne.symm e]
theorem map_off : ∀ (ks : List Key) (xs : List V) (k : Key) (v : V), k ∉ ks → (ks.zip xs).map (fun kv => if kv.1 = k then (kv.1, v) else kv) = ks.zip xs
  | [], xs, k, v, _ => by cases xs <;> rfl
  | k' :: ks, [], k, v, _ => rfl
  | k' :: ks, x :: xs, k, v, h => by
    rw [List.zip_cons_cons, List.map_cons, map_off ks xs k v fun z => h (List.mem_cons_of_mem _ z)]
    rw [if_neg (by intro z; exact h (List.mem_cons.mpr (.inl z.symm)))]
theorem any_zip : ∀ {ks : List Key} {xs : List V} {k : Key}, ks.length = xs.length → (((ks.zip xs).any fun kv => decide (kv.1 = k)) = true ↔ k ∈ ks)
  | [], xs, k, h => by cases xs <;> simp at *
  | k' :: ks, [], k, h => by simp at h
  | k' :: ks, x :: xs, k, h => by
    rw [List.zip_cons_cons, List.any_cons, Bool.or_eq_true, any_zip (by simpa using h)]
    simp [eq_comm]
theorem map_on : ∀ {ks : List Key} {xs : List V} {k : Key} {v : V}, ks.Nodup → ks.length = xs.length → k ∈ ks → (ks.zip xs).map (fun kv => if kv.1 = k then (kv.1, v) else kv) = ks.zip (dput ks xs k v)
  | [], _, _, _, _, _, h => by cases h
  | k' :: ks, [], _, _, _, h, _ => by simp at h
  | k' :: ks, x :: xs, k, v, nd, hl, h => by
    obtain ⟨n1, n2⟩ := List.nodup_cons.mp nd
    rw [List.zip_cons_cons, List.map_cons, dput]
    by_cases e : k' = k
    · subst e
      rw [if_pos rfl, if_pos rfl, map_off ks xs k' v n1, List.zip_cons_cons]
    · rw [if_neg e, if_neg e, List.zip_cons_cons, map_on n2 (by simpa using hl) ((List.mem_cons.mp h).resolve_left (Ne.symm e))]
theorem dput_new {α : Type} : ∀ {ks : List Key} {xs : List α} {k : Key} {v : α}, ks.length = xs.length → k ∉ ks → dput ks xs k v = xs ++ [v]
  | [], xs, k, v, h, _ => by
    cases xs with
    | nil => rfl
    | cons => simp at h
  | k' :: ks, [], _, _, h, _ => by simp at h
  | k' :: ks, x :: xs, k, v, h, hn => by
    rw [dput, if_neg (fun z => hn (List.mem_cons.mpr (.inl z.symm))), dput_new (by simpa using h) fun z => hn (List.mem_cons_of_mem _ z)]
    rfl
theorem putK_zip {ks : List Key} {xs : List V} {k : Key} {v : V} (nd : ks.Nodup) (hl : ks.length = xs.length) : putK (ks.zip xs) k v = (kput ks k).zip (dput ks xs k v) := by
  unfold putK kput
  by_cases h : k ∈ ks
  · rw [if_pos ((any_zip hl).mpr h), if_pos h, map_on nd hl h]
  · rw [if_neg (fun z => h ((any_zip hl).mp z)), if_neg h, dput_new hl h, List.zip_append hl]
    rfl
theorem dput_len {α : Type} : ∀ {ks : List Key} {xs : List α} {k : Key} {v : α}, ks.length = xs.length → (kput ks k).length = (dput ks xs k v).length := fun {ks xs k v} h => by
  by_cases hk : k ∈ ks
  · unfold kput
    rw [if_pos hk]
    induction ks generalizing xs with
    | nil => cases hk
    | cons k' ks ih =>
      cases xs with
      | nil => simp at h
      | cons x xs =>
        rw [dput]
        by_cases e : k' = k
        · rw [if_pos e]; simpa using h
        · rw [if_neg e]
          have := ih (xs := xs) (by simpa using h) ((List.mem_cons.mp hk).resolve_left (Ne.symm e))
          simp [this]
  · rw [dput_new h hk]
    unfold kput
    rw [if_neg hk]
    simp [h]
theorem kput_nodup {ks : List Key} {k : Key} (nd : ks.Nodup) : (kput ks k).Nodup := by
  unfold kput
  split
  · exact nd
  · rename_i h
    exact List.nodup_append.mpr ⟨nd, by simp, by intro a ha b hb e; simp at hb; subst hb; exact h (e ▸ ha)⟩
section
variable {K : PySem.W.Frag} {H : Hp} {O : List Addr}
theorem reps_look : ∀ {ks : List Key} {ds : List D} {xs : List V} {k : Key}, Reps K H O ds xs → (∀ d, lookA ks ds k = some d → ∃ v, lookA ks xs k = some v ∧ Rep K H O d v) ∧ (lookA ks ds k = none → lookA ks xs k = none)
  | [], ds, xs, k, r => ⟨(fun d h => by cases ds <;> cases h), (fun _ => by cases xs <;> rfl)⟩
  | k' :: ks, [], xs, k, r => by
    cases r
    exact ⟨(fun d h => by cases h), fun _ => rfl⟩
  | k' :: ks, d' :: ds, xs, k, r => by
    obtain ⟨v, ws, rfl, q, t⟩ := r
    rw [lookA, lookA]
    by_cases e : k' = k
    · rw [if_pos e, if_pos e]
      exact ⟨(fun d h => by cases h; exact ⟨v, rfl, q⟩), (fun h => by cases h)⟩
    · rw [if_neg e, if_neg e]
      exact reps_look t
theorem reps_dput : ∀ {ks : List Key} {ds : List D} {xs : List V} {k : Key} {d : D} {v : V}, Reps K H O ds xs → Rep K H O d v → Reps K H O (dput ks ds k d) (dput ks xs k v)
  | [], ds, xs, k, d, v, r, q => by
    have e1 : dput ([] : List Key) ds k d = [d] := by cases ds <;> rfl
    have e2 : dput ([] : List Key) xs k v = [v] := by cases xs <;> rfl
    rw [e1, e2]
    exact Reps.one q
  | k' :: ks, [], xs, k, d, v, r, q => by
    cases r
    exact Reps.one q
  | k' :: ks, d' :: ds, xs, k, d, v, r, q => by
    obtain ⟨v', ws, rfl, q', t⟩ := r
    rw [dput, dput]
    by_cases e : k' = k
    · rw [if_pos e, if_pos e]
      exact ⟨v, ws, rfl, q, t⟩
    · rw [if_neg e, if_neg e]
      exact ⟨v', _, rfl, q', reps_dput t q⟩
end
def keyD : D → Option Key
  | .int i => some (.inl i)
  | .str x => some (.inr x)
  | _ => none
theorem key_view {K : PySem.W.Frag} {H : Hp} {O : List Addr} {d : D} {v : V} {k : Key} (h : View K H O d v) (e : keyD d = some k) : v = kV k := by
  cases d with
  | int i => cases e; exact h
  | str i => cases e; exact h
  | _ => cases e
section
variable {X : Cx} {a b c e o : Expr} {es : List Expr} {ta tb tc te td : TD} {t : TDs} {pos : Pos}
/-- {} -/
theorem ed_dict0 : ED Γ X (.Dict [] [] pos) (fun _ φ => φ (df (.dk [] []))) := fun H₀ => impE pe_dnewK fun σ H Q q => by
  obtain ⟨ρ, o, R, φ, hφ, k⟩ := q
  intro p hp
  exact k (.ref p) (df (.dk [] [])) _ (same_new hp _) ⟨p, rfl, hp, R.ofree hp, [], upd_same, rfl, List.nodup_nil, rfl⟩ hφ
theorem op_inD (hu : X.A.units + 1 < cLine) : OpR X (compareOp .In) (fun x y H Q => ∃ a kvs k, y = .ref a ∧ H a = some (.dK kvs) ∧ x = kV k ∧ Q (.bl (valV kvs k).isSome) H) := by
  intro pins s σ H x y v u Q I rx ry h
  obtain ⟨a, kvs, k, rfl, ha, rfl, q⟩ := h
  cases ry
  exact d_in hu I (DGet.k ha) rx fun s' I' => ⟨.bl _, H, I', rfl, q⟩
theorem isSome_look {α : Type} {ks : List Key} {xs : List α} {k : Key} (h : ks.length = xs.length) : (lookA ks xs k).isSome = decide (k ∈ ks) := by
  by_cases hk : k ∈ ks
  · rw [decide_eq_true hk]
    cases e : lookA ks xs k with
    | none => exact absurd hk ((lookA_none h).mp e)
    | some _ => rfl
  · rw [decide_eq_false hk, (lookA_none h).mpr hk]
    rfl
/-- x in y: y a dict, a list or tuple of flat things, a text -/
def flatD : D → Bool
  | .non => true
  | .bl _ => true
  | .int _ => true
  | .str _ => true
  | _ => false
def inD (x : D) (l : List D) : Bool := l.any fun y => eqD y x
def sIn (neg : Bool) : D → D → (EV → Prop) → Prop := fun x y φ => match y with
  | .dk ks _ => (match keyD x with | some k => φ (dv (.bl (if neg then !decide (k ∈ ks) else decide (k ∈ ks)))) | none => False)
  | .lst l => flatD x = true ∧ l.all flatD = true ∧ φ (dv (.bl (if neg then !inD x l else inD x l)))
  | .tup l => flatD x = true ∧ l.all flatD = true ∧ φ (dv (.bl (if neg then !inD x l else inD x l)))
  | .str z => (match x with | .str p => φ (dv (.bl (if neg then !(!(Builtin.Str.occurrences z p 0 z.length 1).isEmpty) else !(Builtin.Str.occurrences z p 0 z.length 1).isEmpty))) | _ => False)
  | _ => False
theorem flat_view {K : PySem.W.Frag} {H : Hp} {O : List Addr} {d : D} {v : V} (h : View K H O d v) (f : flatD d = true) : flatV v = true ∧ ∀ (e : D) (w : V), View K H O e w → flatD e = true → eqV v w = eqD d e := by
  cases d with
  | non => cases (show v = _ from h); exact ⟨rfl, fun e w he fe => by cases e <;> first | (cases (show w = _ from he); rfl) | cases fe⟩
  | bl b => cases (show v = _ from h); exact ⟨rfl, fun e w he fe => by cases e <;> first | (cases (show w = _ from he); rfl) | cases fe⟩
  | int b => cases (show v = _ from h); exact ⟨rfl, fun e w he fe => by cases e <;> first | (cases (show w = _ from he); rfl) | cases fe⟩
  | str b => cases (show v = _ from h); exact ⟨rfl, fun e w he fe => by cases e <;> first | (cases (show w = _ from he); rfl) | cases fe⟩
  | _ => cases f
theorem in_reps {K : PySem.W.Frag} {H : Hp} {O : List Addr} {x : D} {v : V} (hx : View K H O x v) (fx : flatD x = true) : ∀ {l : List D} {xs : List V}, Reps K H O l xs → l.all flatD = true → xs.all flatV = true ∧ inV v xs = inD x l
  | [], _, r, _ => by cases r; exact ⟨rfl, rfl⟩
  | d :: l, xs, r, f => by
    obtain ⟨w, ws, rfl, q, t⟩ := r
    rw [List.all_cons, Bool.and_eq_true] at f
    obtain ⟨i1, i2⟩ := in_reps hx fx t f.2
    obtain ⟨g1, g2⟩ := flat_view q.view f.1
    refine ⟨by rw [List.all_cons, g1, i1]; rfl, ?_⟩
    unfold inV inD at *
    rw [List.any_cons, List.any_cons, i2, g2 x v hx fx]
theorem link_in {K : PySem.W.Frag} {neg : Bool} : Link2 K (fun x y H Q => (∃ a kvs k, y = .ref a ∧ H a = some (.dK kvs) ∧ x = kV k ∧ Q (.bl (if neg then !(valV kvs k).isSome else (valV kvs k).isSome)) H) ∨ rIn K neg x y H Q ∨ ∃ i j, x = .str i ∧ y = .str j ∧ Q (.bl (if neg then !(!(Builtin.Str.occurrences j i 0 j.length 1).isEmpty) else !(Builtin.Str.occurrences j i 0 j.length 1).isEmpty)) H) (sIn neg) := by
  intro H O x y vx vy φ Q ho hx hy h k
  unfold sIn at h
  split at h
  · split at h
    · rename_i ks ds kk ek
      obtain ⟨a, xs, rfl, q, l, nd, r⟩ := hy
      refine .inl ⟨a, _, kk, rfl, q, key_view hx ek, ?_⟩
      rw [valV_zip, isSome_look (by rw [l, r.length])]
      exact k _ _ H (Same.refl H) (by exact rfl) h
    · exact h.elim
  · obtain ⟨f1, f2, h⟩ := h
    obtain ⟨a, xs, rfl, q, r⟩ := hy
    obtain ⟨g1, g2⟩ := in_reps hx f1 r f2
    refine .inr (.inl ⟨a, xs, rfl, .inl (SqL.of q), (flat_view hx f1).1, g1, ?_⟩)
    rw [g2]
    exact k _ _ H (Same.refl H) (by exact rfl) h
  · obtain ⟨f1, f2, h⟩ := h
    obtain ⟨a, xs, rfl, q, r⟩ := hy
    obtain ⟨g1, g2⟩ := in_reps hx f1 r f2
    refine .inr (.inl ⟨a, xs, rfl, .inr q.1, (flat_view hx f1).1, g1, ?_⟩)
    rw [g2]
    exact k _ _ H (Same.refl H) (by exact rfl) h
  · split at h
    · exact .inr (.inr ⟨_, _, hx, hy, k _ _ H (Same.refl H) (by exact rfl) h⟩)
    · exact h.elim
  · exact h.elim
theorem ed_in (hu : X.A.units + 64 < cLine) (ha : ED Γ X a ta) (hb : ED Γ X b tb) (hm : behindInMarks .In b = false := by with_unfolding_all rfl) : ED Γ X (.Compare a [.In] [b] pos) (d2 (sIn false) ta tb) := ed_cmp ((op_inD (by omega)).or (op_in_seq.or op_in_str)) link_in ha hb hm
theorem et_in (hu : X.A.units + 64 < cLine) (ha : ED Γ X a ta) (hb : ED Γ X b tb) (hm : behindInMarks .In b = false := by with_unfolding_all rfl) : ET Γ X (.Compare a [.In] [b] pos) (tBo (d2 (sIn false) ta tb)) := et_cmp ((op_inD (by omega)).or (op_in_seq.or op_in_str)) link_in ha hb hm
/-- a[b], a dict too -/
def sIxx : D → D → (EV → Prop) → Prop := fun x y φ => match x with
  | .dk ks ds => (match keyD y with
    | some k => (match lookA ks ds k with
      | some d => φ (dv d)
      | none => False)
    | none => False)
  | x => sIx x y φ
theorem ix_dict (hu : X.A.units + 1 < cLine) : IxR X (fun x y H Q => ∃ a kvs k v, x = .ref a ∧ H a = some (.dK kvs) ∧ y = kV k ∧ valV kvs k = some v ∧ Q v H) := by
  intro value slice pins s σ H x y v u Q I rx ry h hs
  obtain ⟨a, kvs, k, w, rfl, ha, rfl, e, q⟩ := h
  cases rx
  have g : DGet H a (kV k) (some w) := by rw [← e]; exact DGet.k ha
  exact tail_any (dict_typeIs I g) PySem.F.slot_dict_getitem.lookup (d_getItem hu I g ry fun w' s' I' rw' => ⟨w, H, I', rw', q⟩) hs
theorem link_ixx : Link2 X.K (fun x y H Q => rIx X.K x y H Q ∨ ∃ a kvs k v, x = .ref a ∧ H a = some (.dK kvs) ∧ y = kV k ∧ valV kvs k = some v ∧ Q v H) sIxx := by
  intro H O x y vx vy φ Q ho hx hy h k
  cases x with
  | dk ks ds =>
    obtain ⟨a, xs, rfl, q, l, nd, r⟩ := hx
    unfold sIxx at h
    dsimp only at h
    split at h
    · rename_i kk ek
      split at h
      · rename_i d ed
        obtain ⟨v, ev, rv⟩ := (reps_look (ks := ks) (k := kk) r).1 d ed
        exact .inr ⟨a, _, kk, v, rfl, q, key_view hy ek, by rw [valV_zip]; exact ev, k _ _ H (Same.refl H) (RV.val rv) h⟩
      · exact h.elim
    · exact h.elim
  | _ => exact .inl (link_ix H O _ y vx vy φ Q ho hx hy h k)
theorem ed_ixx (hu : X.A.units + 64 < cLine) (ha : ED Γ X a ta) (hb : ED Γ X b tb) (hs : PlainIx b := by intro _ _; rfl) : ED Γ X (.Subscript a b pos) (d2 sIxx ta tb) := fun H₀ => impE (pe_ix (ix_seq.or (ix_dict (by omega))) (ha H₀) (hb H₀) hs) (lift2 link_ixx)
/-- d.get(k, x) -/
def dGet2 (td tk tx : TD) : TD := fun ρ φ => td ρ fun r => match r.d with
  | .dk ks ds => tk ρ fun y => tx ρ fun z => (match z.k with | .own => False | _ => True) ∧ (match keyD y.d with
    | some k => φ (dv ((lookA ks ds k).getD z.d))
    | none => False)
  | _ => False
end
section
variable {X : Cx} {x : Str} {e ke : Expr} {te tk : TD} {np pos pos' : Pos}
def sDput' (i : Nat) (tk te : TD) : TDS := fun ρ Z => match slot ρ i with
  | some ⟨.own, .dk ks ds⟩ => te ρ fun r => tk ρ fun kr => (match r.k with | .own => False | _ => True) ∧ ds.length ≤ 100000 ∧ (match keyD kr.d with
    | some k => Z.nx (setS ρ i (dO (.dk (kput ks k) (dput ks ds k r.d))))
    | none => False)
  | _ => False
theorem sd_dput (i : Nat) (hu : X.A.units + 64 < cLine) (hk : ED Γ X ke tk) (he : ED Γ X e te) (hN : X.N[i]? = some x := by rfl) (hv : Vis X.env.scope x := by first | exact Or.inl rfl | exact Or.inr (Or.inl rfl) | exact Or.inr (Or.inr rfl)) (hd : (x == ("__debug__" : Str)) = false := by decide)
    (hcd : (x == ("__classdict__" : Str)) = false := by decide) (hs : swapsWith e (some (.Subscript (.Name x np) ke pos')) pos.line X.env = pure false := by rfl) : SD Γ X (.Assign [.Subscript (.Name x np) ke pos'] e pos) (sDput' i tk te) := fun H₀ =>
  impS (ps_dput (by omega) (pe_var hN hv hd hcd) (hk H₀) (he H₀) hs) fun D σ H h => by
    obtain ⟨ρ, o, R, Z, hZ, k1, k2, k3, k4⟩ := h
    unfold sDput' at hZ
    split at hZ
    · rename_i ks ds es
      obtain ⟨v0, ev0, q0⟩ := R.slots i _ (slot_eq es)
      rcases q0 with ⟨k, _⟩ | ⟨_, a, rfl, m, c⟩
      · cases k
      obtain ⟨xs, hx, hl, nd, rx⟩ := c
      refine ⟨ρ, o, R, _, hZ, fun v r H1 s1 rv h1 => ⟨.ref a, ev0, ρ, o, R.to s1, _, h1, fun v2 r2 H2 s2 rv2 h2 => ?_⟩⟩
      obtain ⟨h0, hlen, h2⟩ := h2
      split at h2
      · rename_i k ek
        have hk : v2 = kV k := key_view rv2.view ek
        subst hk
        have s12 := s1.trans s2
        have hx2 := s12 _ _ hx
        have rx2 := Reps.grow (Grow.same s12) _ _ rx
        have xl : ks.length = xs.length := by rw [hl, rx.length]
        refine ⟨a, _, rfl, DPut.k hx2 ?_, ?_⟩
        · rw [List.length_zip, xl, Nat.min_self, rx.length]
          exact Nat.lt_of_le_of_lt hlen (by decide)
        · rw [putK_zip nd xl]
          obtain ⟨R3, g3⟩ := (R.to s12).chg (d' := .dk (kput ks k) (dput ks ds k r.d)) (ho := .dK ((kput ks k).zip (dput ks xs k v))) (slot_eq es) ev0 m ⟨fun _ z => (by cases z), fun _ _ z => (by cases z)⟩ fun gr =>
            ⟨dput ks xs k v, upd_same, dput_len hl, kput_nodup nd, gr _ _ (reps_dput rx2 ((rv.same s2).solid (notOwn h0)))⟩
          exact k1 _ σ _ o ((Grow.same s12).trans g3) R3 h2
      · exact h2.elim
    · exact hZ.elim
end
end DL

set_option Elab.async false
set_option linter.all false
set_option maxRecDepth 100000
set_option maxHeartbeats 4000000
namespace DL
open PySem PySem.Spec L2 L3
open PyProof.Rows hiding St
variable {Γ : Hp → Prop}
section
variable {X : Cx} {e : Expr} {te : TD} {pos : Pos}
def dFmt (te : TD) : TD := fun ρ φ => te ρ fun r => match r.d with
  | .int i => i.natAbs.log2 < 1920 ∧ φ (dv (.str (toString i)))
  | .str z => z.length ≤ sizeLine ∧ φ (dv (.str z))
  | _ => False
def dJoin : List TD → Str → TD
  | [], out => fun ρ φ => φ (dv (.str out))
  | t :: ts, out => fun ρ φ => t ρ fun r => match r.d with
    | .str y => (out ++ y).length ≤ sizeLine ∧ dJoin ts (out ++ y) ρ φ
    | _ => False
end
end DL

set_option Elab.async false
set_option linter.all false
set_option maxRecDepth 100000
set_option maxHeartbeats 4000000
namespace DL
open PySem PySem.Spec L2 L3
open PyProof.Rows hiding St
theorem app_codes (x y : Str) : (x ++ y).cps.toList = x.cps.toList ++ y.cps.toList := by
  show (x.cps ++ y.cps).toList = _
  simp
end DL

set_option Elab.async false
set_option linter.all false
set_option maxRecDepth 100000
set_option maxHeartbeats 4000000
namespace DL
open PySem PySem.Spec L2 L3
open PyProof.Rows hiding St
variable {Γ : Hp → Prop}
open PySem.Builtin.Int (intBits)
theorem cp10 {j : Int} (h0 : 0 ≤ j) (h1 : j ≤ 1000) : CPow 10 j = True := by
  refine eq_true ⟨h0, by omega, by decide⟩
theorem tenpow_ne {k : Nat} : ((10 : Int) ^ k = 0) = False := by
  refine eq_false ?_
  have : (0 : Int) < 10 ^ k := Int.pow_pos (by decide)
  omega
theorem fd_lit {i j : Int} (h : j ≠ 0) (h1 : j.natAbs ≤ 1000000000000) : FdOk i j = True := eq_true (fdOk (m := 64) h (PySem.intBits_le_iff.mpr (by omega)))
theorem cutD_take (l : List D) (k : Nat) : cutD l none (some (k : Int)) = l.take k := by
  unfold cutD
  rw [HT.sIx_none, HT.sIx_nat, List.drop_zero, Nat.sub_zero]
  rw [List.take_eq_take_iff]
  omega
theorem cutD_mid (l : List D) (j k : Nat) : cutD l (some (j : Int)) (some (k : Int)) = (l.drop j).take (k - j) := by
  unfold cutD
  rw [HT.sIx_nat, HT.sIx_nat]
  by_cases h : j ≤ l.length
  · rw [Nat.min_eq_left h, List.take_eq_take_iff, List.length_drop]
    omega
  · rw [show min j l.length = l.length by omega, List.drop_of_length_le (Nat.le_refl _), List.drop_of_length_le (by omega)]
    simp
theorem atI_of {α : Type} {l : List α} {i : Int} {x : α} (h0 : 0 ≤ i) (h : l[i.toNat]? = some x) : atI l i = some x := by
  have := atI_nat h
  rwa [Int.toNat_of_nonneg h0] at this
theorem atI_mod {α : Type} {l : List α} (h : l ≠ []) (x : Int) : ∃ r ∈ l, atI l (x.fmod (l.length : Int)) = some r := by
  have hp : (0 : Int) < (l.length : Int) := by
    have := List.length_pos_iff.mpr h
    omega
  have h0 := Int.fmod_nonneg_of_pos x hp
  have h1 := Int.fmod_lt_of_pos x hp
  have hl : (x.fmod (l.length : Int)).toNat < l.length := by omega
  exact ⟨l[(x.fmod (l.length : Int)).toNat], List.getElem_mem hl, atI_of h0 (by simp [hl])⟩
theorem pick2 {α : Type} (a b : α) (x : Int) : ∃ r, (r = a ∨ r = b) ∧ atI [a, b] (x.fmod 2) = some r := by
  obtain ⟨r, hr, e⟩ := atI_mod (l := [a, b]) (by simp) x
  exact ⟨r, by simpa using hr, e⟩
theorem pick3 {α : Type} (a b c : α) (x : Int) : ∃ r, (r = a ∨ r = b ∨ r = c) ∧ atI [a, b, c] (x.fmod 3) = some r := by
  obtain ⟨r, hr, e⟩ := atI_mod (l := [a, b, c]) (by simp) x
  exact ⟨r, by simpa using hr, e⟩
theorem filterMap_map {α β γ : Type} (l : List α) (m : α → β) (f : β → Option γ) (g : α → γ) (h : ∀ a ∈ l, f (m a) = some (g a)) : (l.map m).filterMap f = l.map g := by
  induction l with
  | nil => rfl
  | cons a l ih =>
    rw [List.map_cons, List.filterMap_cons, h a (List.mem_cons_self ..), List.map_cons, ih fun b hb => h b (List.mem_cons_of_mem _ hb)]
theorem mod_bd (x m : Int) (h : 0 < m) : 0 ≤ x.fmod m ∧ x.fmod m < m := ⟨Int.fmod_nonneg_of_pos x h, Int.fmod_lt_of_pos x h⟩
theorem bitsOf {x : Int} {m : Nat} (h : x.natAbs < 2 ^ m) : intBits x ≤ m := PySem.intBits_le_iff.mpr h
theorem len_codes (x : Str) : x.length = x.cps.toList.length := by
  show x.cps.size = _
  simp
theorem app_len (x y : Str) : (x ++ y).length = x.length + y.length := by
  rw [len_codes, app_codes, List.length_append, ← len_codes, ← len_codes]
end DL
namespace DL
open PySem PySem.Spec L2 L3
theorem sFor_at {ti : TID} {g : TGD} {tb : TDS} {ρ : DE} {Z : DZ} (ds : List D) (h : ∀ φ : List D → Prop, φ ds → ti ρ φ) (P : Nat → DE → Prop) (h0 : P 0 ρ)
    (ht : ∀ i d ρ, ds[i]? = some d → P i ρ → g d ρ fun ρ' => tb ρ' { Z with nx := P (i + 1), ct := P (i + 1), bk := Z.nx }) (hd : ∀ ρ, P ds.length ρ → Z.nx ρ) : sFor ti g tb ρ Z := h _ ⟨P, h0, ht, hd⟩
theorem dComp_at {ti : TID} {n : Nat} {js : List Nat} {g : TGD} {tc : TDb} {te : TD} {ρ : DE} {φ : EV → Prop} (ds : List D) (h : ∀ ψ : List D → Prop, ψ ds → ti ρ ψ) (f : D → Option D) (hl : ds.length ≤ 100000)
    (ht : ∀ d ∈ ds, g d (ρ0 n js ρ) fun ρ' => tc ρ' fun c => (c = true → te ρ' fun r => (match r.k with | .own => False | _ => True) ∧ f d = some r.d) ∧ (c = false → f d = none)) (hφ : φ (df (.lst (ds.filterMap f)))) : dComp ti n js g tc te ρ φ := h _ ⟨f, hl, ht, hφ⟩
theorem rng_get {lo : Int} {n i : Nat} {d : D} (h : (rngD lo n)[i]? = some d) : i < n ∧ d = .int (lo + (i : Int)) := by
  unfold rngD at h
  rw [List.getElem?_map] at h
  cases e : (List.range n)[i]? with
  | none => rw [e] at h; cases h
  | some m =>
    rw [e] at h
    have hi := (List.getElem?_eq_some_iff.mp e).1
    rw [List.length_range] at hi
    rw [List.getElem?_range hi] at e
    cases e
    cases h
    exact ⟨hi, rfl⟩
theorem rng_len {lo : Int} {n : Nat} : (rngD lo n).length = n := by unfold rngD; simp
end DL
namespace DL
open PySem PySem.Spec L2 L3
theorem atI_map {α β : Type} (f : α → β) (l : List α) (i : Int) : atI (l.map f) i = (atI l i).map f := by
  unfold atI
  rw [List.length_map]
  cases ixN l.length i with
  | none => rfl
  | some j => simp
end DL

set_option Elab.async false
set_option linter.all false
set_option maxRecDepth 100000
set_option maxHeartbeats 4000000
namespace DL
open PySem PySem.Spec L2 L3
open PyProof.Rows hiding St

theorem objOk_there {P : Program} {w : World} {H : Hp} {h : Heap} {a : Addr} {o : HO} (x : ObjOk P w H h a o) : ∃ ob, h.get? a = some ob := by
  cases o with
  | lst xs => obtain ⟨_, _, _, _, e⟩ := x; exact ⟨_, e⟩
  | tup xs => obtain ⟨_, _, _, ⟨ob, e, _⟩, _⟩ := x; exact ⟨_, e⟩
  | dK kvs => obtain ⟨_, _, _, _, o, _, _, e, _⟩ := x; exact ⟨_, e⟩
  | dT kvs => obtain ⟨_, _, _, _, o, _, _, e, _⟩ := x; exact ⟨_, e⟩
  | set S n => obtain ⟨o, _, _, _, e, _⟩ := x; exact ⟨_, e⟩
  | ins C dx fs => obtain ⟨_, _, _, e, _⟩ := x; exact ⟨_, e⟩
  | own y => obtain ⟨_, e⟩ := x; exact ⟨_, e⟩
  | xd fs => obtain ⟨_, ⟨_, _, _, e, _⟩, _⟩ := x; exact ⟨_, e⟩
  | rng lo hi => obtain ⟨_, _, _, e⟩ := x; exact ⟨_, e⟩
  | frz ob u => obtain ⟨e, _⟩ := x; exact ⟨_, e⟩
  | tbl ps => exact ⟨_, (show h.get? a = some _ from x)⟩
  | met f y => exact ⟨_, (show h.get? a = some _ from x)⟩
  | ext φ => obtain ⟨_, ⟨_, e⟩, _⟩ := x; exact ⟨_, e⟩

/-- from s (with H) to h' (with H'): what is tracked or stood at s lies in B too -/
structure FlyB (P : Program) (w : World) (outer : List Env) (H : Hp) (h : Heap) (H' : Hp) (B : Heap) (h' : Heap) : Prop where
  un : Un (frs outer) [] H H' h h'
  hok : HOk P w H' h'
  cov : ∀ b o, h'.get? b = some o → b ∉ frs outer → (H' b ≠ none ∨ ∃ o0, h.get? b = some o0) → B.get? b = some o
section
variable {P : Program} {w : World} {outer : List Env} {H H' : Hp} {h h1 h2 B B' : Heap}
theorem FlyB.there (F : FlyB P w outer H h H' B h1) {b : Addr} (c : H' b ≠ none ∨ ∃ o0, h.get? b = some o0) : ∃ o, h1.get? b = some o := by
  rcases c with c | ⟨o0, c⟩
  · cases e : H' b with
    | none => exact absurd e c
    | some u => exact objOk_there (F.hok b u e)
  · exact F.un.there b o0 c (by simp)
theorem FlyB.step (F : FlyB P w outer H h H' B h1) (k : B.StaysIn h2) (u : h1.UpToSlots h2) (ff : h1.FunFrames B' outer) (hf : ∀ b ∈ frs outer, H' b = none) : FlyB P w outer H h H' B h2 := by
  have nx : ∀ b : Addr, b ∉ ([] : List Addr) := fun b z => nomatch z
  refine ⟨⟨fun b o q n hb hx => k b o (F.cov b o (F.un.keep b o q n hb hx) hb (.inr ⟨o, q⟩)), fun b o q n hb hx => ?_, F.un.free, fun b o q hx => ?_, F.un.tups, F.un.frzs, F.un.tbls⟩, fun a o e => ?_, fun b o q hb c => ?_⟩
  · obtain ⟨sl, e1⟩ := F.un.slot b o q n hb hx
    obtain ⟨_, o', e2, nf⟩ := ff.mem hb
    rw [e1] at e2
    cases e2
    obtain ⟨sl', e3⟩ := u b _ e1 nf
    exact ⟨sl', e3⟩
  · obtain ⟨o', e1⟩ := F.un.there b o q hx
    by_cases hb : b ∈ frs outer
    · obtain ⟨_, o2, e2, nf⟩ := ff.mem hb
      obtain ⟨sl', e3⟩ := u b _ e2 nf
      exact ⟨_, e3⟩
    · exact ⟨o', k b o' (F.cov b o' e1 hb (.inr ⟨o, q⟩))⟩
  · refine (F.hok a o e).stay (fun b v hc q => ?_) (fun _ q => q) fun _ _ q => q
    have ht : H' b ≠ none := by
      rcases hc with rfl | hc
      · rw [e]; exact fun z => nomatch z
      · rw [hc]; exact fun z => nomatch z
    exact k b v (F.cov b v q (fun z => ht (hf b z)) (.inl ht))
  · obtain ⟨o1, e1⟩ := F.there c
    have e2 := F.cov b o1 e1 hb c
    have e3 := k b o1 e2
    rw [q] at e3
    cases e3
    exact e2
end

/-- behind a call that raises: an exception e of the class at C -/
def CX1 (P : Program) (w : World) : CXT := fun outer H s E e s' => ∃ (a C : Addr) (t : Value) (H' : Hp) (B : Heap), e = .ref a ∧ s'.os = s.os ∧ AllBare s'.gens ∧ FlyB P w outer H s.heap H' B s'.heap ∧
  Heap.FlyingW B outer a (.ref C) t s'.heap ∧ E (.ref C) none H'

section
variable {X : Cx} {pins : List (Addr × Obj)} {σ : St} {H1 H' : Hp} {s1 : Shared} {B h2 : Heap}
/-- a new exception is made -/
theorem FlyB.made {h' : Heap} {a : Addr} {cls : Value} {vs : List Value} (J : Inv X pins σ H1 s1) (hx : Heap.MadeExcOf s1.heap h' a cls vs) (k : (PySem.W.hideAll s1.heap (frs X.stack)).StaysIn h2) (u : h'.UpToSlots h2) :
    FlyB X.prog X.w X.stack H1 s1.heap H1 (PySem.W.hideAll s1.heap (frs X.stack)) h2 := by
  have u2 : s1.heap.UpToSlots h2 := (Heap.UpToSlots.of_keeps hx.keeps).trans u
  have F0 : FlyB X.prog X.w X.stack H1 s1.heap H1 (PySem.W.hideAll s1.heap (frs X.stack)) s1.heap := ⟨Un.refl, J.hok, fun b o q hb _ => PySem.W.hideAll_get _ q hb⟩
  exact F0.step k u2 J.stack J.stkFree
end
section
variable {P : Program} {w : World} {K : PySem.W.Frag} {mg : Str → Option Value} {base : Heap} {N : List Str} {qual : Str} {scope : Scope} {f : Addr} {cd : Value} {A : Around} {outer : List Env} {s : Shared} {H : Hp} {E : XK}
end
end DL

set_option Elab.async false
set_option linter.all false
set_option maxRecDepth 100000
set_option maxHeartbeats 4000000
namespace DL
open PySem PySem.Spec L2 L3
open PyProof.Rows hiding St
variable {Γ : Hp → Prop}

/-- the slot is empty -/
def clrS : DE → Nat → DE
  | [], _ => []
  | _ :: r, 0 => none :: r
  | x :: r, i + 1 => x :: clrS r i
/-- what is ours is held fast -/
def frzE (ρ : DE) : DE := ρ.map fun x => x.map fun r => dv r.d
theorem REnv.frz {K : PySem.W.Frag} {H₀ H : Hp} {σ : St} {ρ : DE} {o : List (Nat × Addr)} (R : REnv K H₀ H σ ρ o) : REnv K H H σ (frzE ρ) [] where
  same := Same.refl H
  fresh := fun _ z => absurd z (by simp)
  trk := fun _ z => absurd z (by simp)
  mtb := fun _ z => absurd z (by simp)
  nda := List.nodup_nil
  len := by unfold frzE; rw [List.length_map]; exact R.len
  slots := fun j r e => by
    unfold frzE at e
    rw [List.getElem?_map] at e
    cases e1 : ρ[j]? with
    | none => rw [e1] at e; cases e
    | some x =>
      rw [e1] at e
      cases x with
      | none => cases e
      | some r' =>
        have e' : some (dv r'.d) = some r := Option.some.inj e
        cases e'
        obtain ⟨v, ev, q⟩ := R.slots j r' e1
        refine ⟨v, ev, .inl ⟨rfl, ?_⟩⟩
        rcases q with ⟨_, q⟩ | ⟨_, a, rfl, m, c⟩
        · exact Rep.sub (O' := []) (fun _ z => absurd z (by simp)) _ _ q
        · exact (c.sub (O' := []) fun _ z => absurd z (by simp)).rep (by simp)
theorem REnv.gr {K : PySem.W.Frag} {H H1 : Hp} {σ : St} {ρ : DE} {o1 : List (Nat × Addr)} {O : List Addr} (R : REnv K H H1 σ ρ o1) : Grow O (o1.map Prod.snd) H H1 :=
  ⟨fun b u h n => ⟨R.same b u h, fun z => by
    obtain ⟨p, hp, e⟩ := List.mem_map.mp z
    have := R.fresh p hp
    rw [e, h] at this
    cases this⟩, fun b xs h => R.same b _ h, fun b ob u h => R.same b _ h⟩

def XP (Γ : Hp → Prop) (X : Cx) (χ : DE → Addr → Prop) : Prop := ∀ (H₀ : Hp), Γ H₀ → ∀ (ρ : DE) (o : List (Nat × Addr)) (pins : List (Addr × Obj)) (σ : St) (H : Hp) (s : Shared) (e : Value) (s' : Shared), Inv X pins σ H s → REnv X.K H₀ H σ ρ o →
  CX1 X.prog X.w X.stack H s (fun cls _ H' => Same H H' ∧ ∃ C, cls = .ref C ∧ χ ρ C) e s' → X.xe e s'
abbrev FTX := List D → (EV → Prop) → (Addr → Prop) → Prop
def dCallX (n : Nat) (T : FTX) (χ : DE → Addr → Prop) (t : TDs) : TD := fun ρ φ => t ρ fun rs => Nat.beq rs.length n = true ∧ T (rs.map EV.d) φ (χ ρ)
section
variable {P : Program} {w : World} {K : PySem.W.Frag} {mg : Str → Option Value} {base : Heap}
end

def sRaise (χ : DE → Addr → Prop) (C : Addr) (t : TDs) : TDS := fun ρ _ => t ρ fun rs => Nat.ble rs.length 9 = true ∧ χ ρ C
end DL

set_option Elab.async false
set_option linter.all false
set_option maxRecDepth 100000
set_option maxHeartbeats 4000000
namespace DL
open PySem PySem.Spec L2 L3 PySem.W PySem.Builtin PySem.Builtin.ObjectAttr PySem.Builtin.Getset_descriptor
open PyProof.Rows hiding St InstAt

section
variable {prog : Program} {w : World} {A : Around} {E : Value → Shared → Prop} {s : Shared} {K : PySem.W.Frag} {a C : Addr}
structure ExcIn (K : PySem.W.Frag) (C : Addr) : Prop where
  ga : findIn K (.ref C) "__getattribute__" = some (some (.builtin "BaseException.__getattribute__"))
  hk : findIn K (.ref C) "__getattr__" = some none
  ha : findIn K (.ref C) "__class__" = some (some (.builtin "object.__class__"))
  hn : specialIn K (.builtin "object.__class__") "__get__" = some (some (.builtin "getset_descriptor.__get__"))
  htk : takesIn K (.builtin "object.__class__") = some true
  hm : mroIn K C (.type "object") = some true
  hb : subIn K (.ref C) (.type "BaseException") = some true
  hd : hasDictIn K C = true

end
end DL

set_option Elab.async false
set_option linter.all false
set_option maxRecDepth 100000
set_option maxHeartbeats 4000000
namespace DL
open PySem PySem.Spec L2 L3
open PyProof.Rows hiding St
variable {Γ : Hp → Prop}

section
variable {X : Cx} {p np pos : Pos} {e : Expr} {te : TD} {c : Str} {C0 : Addr}
def dIsE (K : PySem.W.Frag) (z : Value) (te : TD) : TD := fun ρ φ => te ρ fun r => match r.d with
  | .exc C => ∃ b, PySem.W.kitOne K (.ref C) z = some b ∧ ExcIn K C ∧ φ (dv (.bl b))
  | _ => False
end

def hanZ (j : Nat) (Z : DZ) : DZ := { nx := fun ρ => Z.nx (clrS ρ j), rt := Z.rt, bk := fun ρ => Z.bk (clrS ρ j), ct := fun ρ => Z.ct (clrS ρ j) }
def sTry (K : PySem.W.Frag) (C0 : Addr) (j : Nat) (tb : (DE → Addr → Prop) → TDS) (ts : TDS) : TDS := fun ρ Z =>
  tb (fun ρ' C => PySem.W.exmOne K (.ref C) (.ref C0) = some true ∧ ts (setS ρ' j (dv (.exc C))) (hanZ j Z)) (frzE ρ) Z
end DL

set_option Elab.async false
set_option linter.all false
set_option maxRecDepth 100000
set_option maxHeartbeats 4000000
namespace DL
open PySem PySem.Spec L2 L3
open PyProof.Rows hiding St
theorem pg_tupK {X : Cx} {K0 : PySem.W.Frag} {es : List Expr} {k : Nat} {t : TGs} {n : Nat} {pos : Pos} (hK : X.K = K0) (hc : X.calm = true) (h : PGs X es t) (hn : (assignEach es X.env).length = n := by rfl) (hst : (assignEach es X.env).findIdx? (·.1) = none := by rfl) : PG X (.Tuple es k pos) (gTup K0 n t) := by
  subst hK
  exact pg_tup hc h hn hst
end DL

set_option Elab.async false
set_option linter.all false
set_option maxRecDepth 100000
set_option maxHeartbeats 4000000
namespace DL
open PySem PySem.Spec L2 L3
open PyProof.Rows hiding St
variable {Γ : Hp → Prop}
section
variable {X : Cx} {p np pos : Pos} {e : Expr} {te : TD} {c : Str} {T : String}
end
end DL

set_option Elab.async false
set_option linter.all false
set_option maxRecDepth 100000
set_option maxHeartbeats 4000000
namespace DL
open PySem PySem.Spec L2 L3
open PyProof.Rows hiding St
variable {Γ : Hp → Prop}
section
variable {X : Cx} {x : Str} {e ke : Expr} {te tk : TD} {np pos pos' : Pos}
end
end DL

set_option Elab.async false
set_option linter.all false
set_option maxRecDepth 100000
set_option maxHeartbeats 4000000
namespace DL
open PySem PySem.Spec L2 L3
open PyProof.Rows hiding St
variable {Γ : Hp → Prop}
def blsD : List D → Option (List Bool)
  | [] => some []
  | .bl b :: r => (blsD r).map (b :: ·)
  | _ :: _ => none
theorem blsD_of : ∀ {ds : List D} {bs : List Bool}, blsD ds = some bs → ds = bs.map D.bl
  | [], bs, h => by cases h; rfl
  | d :: r, bs, h => by
    cases d with
    | bl n =>
      cases e : blsD r with
      | none => unfold blsD at h; rw [e] at h; cases h
      | some ms =>
        unfold blsD at h
        rw [e] at h
        cases h
        rw [blsD_of e]
        rfl
    | _ => cases h
theorem blsD_map : ∀ (bs : List Bool), blsD (bs.map D.bl) = some bs
  | [] => rfl
  | b :: bs => by rw [List.map_cons, blsD, blsD_map bs]; rfl
theorem reps_bls {K : PySem.W.Frag} {H : Hp} {O : List Addr} : ∀ {bs : List Bool} {xs : List V}, Reps K H O (bs.map D.bl) xs → xs = bs.map V.bl
  | [], _, h => h
  | n :: bs, xs, h => by
    obtain ⟨v, r, rfl, q, t⟩ := h
    rw [reps_bls t]
    cases (show v = _ from q)
    rfl
section
variable {X : Cx} {e : Expr} {es : List Expr} {t : TDs} {p pos : Pos}
def sAllL (g : List Bool → Bool) : FT := fun ds φ => match ds with
  | [.lst l] => match blsD l with
    | some bs => φ (dv (.bl (g bs)))
    | none => False
  | _ => False
theorem link_all {f : List V → Bool} {g : List Bool → Bool} (hf : ∀ bs : List Bool, f (bs.map V.bl) = g bs) : LinkC X.K (rAll X.K f) (sAllL g) := by
  intro H O ds vs φ Q ho hv h k
  unfold sAllL at h
  split at h
  · rename_i l
    split at h
    · rename_i bs en
      obtain ⟨v, ws, rfl, ⟨a, xs, rfl, q, r⟩, rfl⟩ := hv
      have el := blsD_of en
      subst el
      have := reps_bls r
      subst this
      refine ⟨a, _, rfl, .inl (SqL.of q), fun y hy => ?_, ?_⟩
      · obtain ⟨b, _, rfl⟩ := List.mem_map.mp hy
        rfl
      · rw [hf]
        exact k _ _ H (Same.refl H) (by exact rfl) h
    · exact h.elim
  · exact h.elim
theorem ed_allC (hm : X.mg "all" = none) (ha : EA Γ X (e :: es) t) (hc : X.calm = true := by rfl) (hg : Gl X "all" := by rfl) (he : starEach (e :: es) X.env = (false, eval e X.env) :: starEach es X.env := by rfl) (hpl : (backTo pos (starEach es X.env)).any (·.1) = false := by rfl) : ED Γ X (.Call (.Name "all" p) (e :: es) [] pos) (dCB (sAllL fun bs => bs.all id) t) :=
  ed_callB (call_all_seq hc) (link_all fun bs => by
    induction bs with
    | nil => rfl
    | cons b bs ih => rw [List.map_cons, List.all_cons, List.all_cons, ih]; cases b <;> rfl) hm (by kernel_rfl) ha hg (by decide) (by decide) he hpl
end
end DL

set_option Elab.async false
set_option linter.all false
set_option maxRecDepth 100000
set_option maxHeartbeats 8000000
namespace L3
open PySem PySem.Spec PyProof.Rows
section
variable {P : Program} {w : World} {A : Around} {E : Value → Shared → Prop} {s : Shared}
theorem nextT_item {it l : Addr} {i : Nat} {xs : Array Value} {x : Value} {Q : Value → Shared → Prop} (hi : s.heap.IsTupleIter it l i) (hl : s.heap.IsTuple l xs) (hx : xs[i]? = some x)
    (hQ : ∀ g, g.IsTupleIter it l (i + 1) → Heap.SameBut it s.heap g → Q x { s with heap := g }) : wpAny (model P w) A (Builtin.SmallTypes.nextOf (.ref it)) Q E s := by
  obtain ⟨o, ho, hc, hd⟩ := id hi
  obtain ⟨ol, hol, _, nl, hdl⟩ := hl
  unfold Builtin.SmallTypes.nextOf
  refine wpAny_bind (wpAny_callSpecial?_slot (name := Str.ofString "__next__") hi.typeIs F.slot_tuple_iterator_next (wpAny_call_entry F.slot_tuple_iterator_next hi.typeIs F.entry_tuple_iterator_next ?_ (F.args_tuple_iterator_next_1 _)))
  show wpAny _ _ (field (.ref it) 0 >>= _) _ _ s
  refine wpAny_bind (wpAny_field ho hd (x := .ref l) rfl ?_)
  show wpAny _ _ (if (Value.ref l == Value.none) = true then _ else _) _ _ s
  rw [if_neg (show ¬ ((Value.ref l == Value.none) = true) from Bool.false_ne_true)]
  show wpAny _ _ (field (.ref it) 1 >>= _) _ _ s
  refine wpAny_bind (wpAny_field ho hd (x := .int i 0) rfl ?_)
  show wpAny _ _ (seqItems? (.ref l) >>= _) _ _ s
  refine wpAny_bind (wpAny_seqItems hol hdl ?_)
  simp only [Int.toNat_natCast, hx]
  refine wpAny_bind (wpAny_setField ho hd (by simp) (wpAny_pure ⟨x, rfl, wpAny_pure (hQ _ ⟨_, Heap.get?_update_self _ ho (Obj.isFreed_of_fields (Obj.data_mapFields hd _)), (Obj.cls_mapFields ..).trans hc, ?_⟩ (Heap.SameBut.update ..))⟩))
  rw [Obj.data_mapFields hd]
  simp [rawInt]
theorem nextT_end {it l : Addr} {i : Nat} {xs : Array Value} {Q : Value → Shared → Prop} (hh : A.handled = none) (hi : s.heap.IsTupleIter it l i) (hl : s.heap.IsTuple l xs) (hx : xs[i]? = none)
    (hE : ∀ g e, Heap.ExtBut it s.heap g → (∃ o, g.get? e = some o ∧ o.cls = .type "StopIteration") → E (.ref e) { s with heap := g }) : wpAny (model P w) A (Builtin.SmallTypes.nextOf (.ref it)) Q E s := by
  obtain ⟨o, ho, hc, hd⟩ := id hi
  obtain ⟨ol, hol, _, nl, hdl⟩ := hl
  unfold Builtin.SmallTypes.nextOf
  refine wpAny_bind (wpAny_callSpecial?_slot (name := Str.ofString "__next__") hi.typeIs F.slot_tuple_iterator_next (wpAny_call_entry F.slot_tuple_iterator_next hi.typeIs F.entry_tuple_iterator_next ?_ (F.args_tuple_iterator_next_1 _)))
  show wpAny _ _ (field (.ref it) 0 >>= _) _ _ s
  refine wpAny_bind (wpAny_field ho hd (x := .ref l) rfl ?_)
  show wpAny _ _ (if (Value.ref l == Value.none) = true then _ else _) _ _ s
  rw [if_neg (show ¬ ((Value.ref l == Value.none) = true) from Bool.false_ne_true)]
  show wpAny _ _ (field (.ref it) 1 >>= _) _ _ s
  refine wpAny_bind (wpAny_field ho hd (x := .int i 0) rfl ?_)
  show wpAny _ _ (seqItems? (.ref l) >>= _) _ _ s
  refine wpAny_bind (wpAny_seqItems hol hdl ?_)
  simp only [Int.toNat_natCast, hx]
  refine wpAny_bind (wpAny_rule (wpAny_bind (wpAny_setField ho hd (by simp) ?_)))
  show wpAny _ _ (newExc (.type "StopIteration") [] >>= _) _ _ _
  refine wpAny_bind ?_
  simp only [newExc, newTuple]
  refine wpAny_bind (wpAny_newObj_type ?_ (by size_fits))
  refine wpAny_bind (m := firstArgMember _ _) (wpAny_of_eq (a := Value.none) (by first | rfl | (simp only [firstArgMember]; rfl)) ?_)
  refine wpAny_newObj_type ?_ (by size_fits)
  simp only [raiseNew]
  refine wpAny_bind (wpAny_handled ?_)
  first | rw [show A.in1.handled = none from hh] | rw [hh]
  exact wpAny_bind (wpAny_pure (wpAny_throw (hE _ _ (((Heap.SameBut.update ..).extBut.push _).push _) ⟨_, Heap.get?_push_size _ rfl, rfl⟩)))


/-- b: a tuple; else a list -/
def SqAt (b : Bool) (h : Heap) (l : Addr) (xs : Array Value) : Prop := match b with
  | true => h.IsTuple l xs
  | false => h.IsList l xs
def ItAt (b : Bool) (h : Heap) (it l : Addr) (i : Nat) : Prop := match b with
  | true => h.IsTupleIter it l i
  | false => h.IsListIter it l i
theorem SqAt.at {b : Bool} {h g : Heap} {l : Addr} {xs : Array Value} (x : SqAt b h l xs) (k : ∀ o, h.get? l = some o → g.get? l = some o) : SqAt b g l xs := by
  cases b with
  | true => exact Heap.IsTuple.at (show h.IsTuple l xs from x) k
  | false => exact Heap.IsList.at (show h.IsList l xs from x) k
theorem ItAt.at {b : Bool} {h g : Heap} {it l : Addr} {i : Nat} (x : ItAt b h it l i) (k : ∀ o, h.get? it = some o → g.get? it = some o) : ItAt b g it l i := by
  cases b with
  | true => exact Heap.IsTupleIter.at (show h.IsTupleIter it l i from x) k
  | false => exact Heap.IsListIter.at (show h.IsListIter it l i from x) k
theorem nextK_item {b : Bool} {it l : Addr} {i : Nat} {xs : Array Value} {x : Value} {Q : Value → Shared → Prop} (hi : ItAt b s.heap it l i) (hl : SqAt b s.heap l xs) (hx : xs[i]? = some x)
    (hQ : ∀ g, ItAt b g it l (i + 1) → Heap.SameBut it s.heap g → Q x { s with heap := g }) : wpAny (model P w) A (Builtin.SmallTypes.nextOf (.ref it)) Q E s := by
  cases b with
  | true => exact nextT_item hi hl hx hQ
  | false => exact wpAny_nextOf_list_item hi hl hx hQ
theorem nextK_end {b : Bool} {it l : Addr} {i : Nat} {xs : Array Value} {Q : Value → Shared → Prop} (hh : A.handled = none) (hi : ItAt b s.heap it l i) (hl : SqAt b s.heap l xs) (hx : xs[i]? = none)
    (hE : ∀ g e, Heap.ExtBut it s.heap g → (∃ o, g.get? e = some o ∧ o.cls = .type "StopIteration") → E (.ref e) { s with heap := g }) : wpAny (model P w) A (Builtin.SmallTypes.nextOf (.ref it)) Q E s := by
  cases b with
  | true => exact nextT_end hh hi hl hx hE
  | false => exact wpAny_nextOf_list_end hh hi hl hx hE
/-- two side by side -/
structure ZAt (b1 b2 : Bool) (g : Heap) (z ti to i1 i2 l1 l2 : Addr) (f : Value) (k : Nat) : Prop where
  zz : IsZip g z ti to f
  its : IsPair g ti (.ref i1) (.ref i2)
  out : ∃ a b, IsPair g to a b
  one : ItAt b1 g i1 l1 k
  two : ItAt b2 g i2 l2 k
structure ZNe (z ti to i1 i2 : Addr) : Prop where
  ab : ti ≠ z
  ac : to ≠ z
  ad : i1 ≠ z
  ae : i2 ≠ z
  bc : ti ≠ to
  bd : ti ≠ i1
  be : ti ≠ i2
  cd : to ≠ i1
  ce : to ≠ i2
  de : i1 ≠ i2
def ZOff (z to i1 i2 c : Addr) : Prop := c ≠ z ∧ c ≠ to ∧ c ≠ i1 ∧ c ≠ i2

theorem zip_item {b1 b2 : Bool} {z ti to i1 i2 l1 l2 : Addr} {k : Nat} {xs ys : Array Value} {x y : Value} {Q : Value → Shared → Prop} (D : ZNe z ti to i1 i2) (d1 : ZOff z to i1 i2 l1) (d2 : ZOff z to i1 i2 l2) (Z : ZAt b1 b2 s.heap z ti to i1 i2 l1 l2 .none k)
    (t1 : SqAt b1 s.heap l1 xs) (t2 : SqAt b2 s.heap l2 ys) (hx : xs[k]? = some x) (hy : ys[k]? = some y)
    (hQ : ∀ g, ZAt b1 b2 g z ti to i1 i2 l1 l2 (rawInt s.heap.objs.size) (k + 1) → IsPair g s.heap.objs.size x y → (∀ c o, ZOff z to i1 i2 c → s.heap.get? c = some o → g.get? c = some o) → Q (.ref s.heap.objs.size) { s with heap := g }) :
    wpAny (model P w) A (Builtin.«zip.__next__» ⟨[.ref z], []⟩) (fun fin s' => ∃ v, fin = .done (.ret v) ∧ Q v s') E s := by
  obtain ⟨hz, hti, ⟨a, b, hto⟩, h1, h2⟩ := Z
  show wpAny _ _ (field (.ref z) 2 >>= _) _ _ _
  refine wpAny_bind (wpAny_field hz rfl (x := .bool false) rfl ?_)
  show wpAny _ _ (field (.ref z) 3 >>= _) _ _ _
  refine wpAny_bind (wpAny_field hz rfl (x := .ref ti) rfl ?_)
  refine wpAny_bind (wpAny_seqItems hti rfl ?_)
  show wpAny _ _ (Builtin.SmallTypes.ownedTupleIsFree (.ref z) >>= _) _ _ _
  refine wpAny_bind ?_
  unfold Builtin.SmallTypes.ownedTupleIsFree
  refine wpAny_bind (wpAny_field hz rfl (x := .none) rfl (wpAny_pure ?_))
  simp only [if_true]
  refine wpAny_bind (wpAny_rule ?_)
  refine wpAny_bind (wpAny_field hz rfl (x := .ref to) rfl ?_)
  refine wpAny_bind (wpAny_setField_rec hz (by simp) fun g1 z1 s1 => ?_)
  replace z1 : IsZip g1 z ti to .ellipsis := z1
  refine wpAny_bind ?_
  simp only [List.zipIdx_cons, List.zipIdx_nil, List.forIn_cons, List.forIn_nil]
  refine wpAny_bind (wpAny_bind (wpAny_onRaise ?_))
  show wpAny _ _ (Builtin.SmallTypes.nextOf (.ref i1) >>= _) _ _ _
  refine wpAny_bind (nextK_item (h1.at fun o e => s1.extBut _ o D.ad e) (t1.at fun o e => s1.extBut _ o d1.1 e) hx fun g2 p2 s2 => wpAny_pure ?_)
  have to2 : IsPair g2 to a b := s2.extBut _ _ D.cd (s1.extBut _ _ D.ac hto)
  refine wpAny_bind (wpAny_seqItems to2 rfl (wpAny_bind (wpAny_updateSeq_pair to2 fun g3 to3 s3 => ?_)))
  replace to3 : IsPair g3 to x b := to3
  refine wpAny_bind (wpAny_letGo (wpAny_pure (wpAny_bind (wpAny_bind (wpAny_onRaise ?_)))))
  show wpAny _ _ (Builtin.SmallTypes.nextOf (.ref i2) >>= _) _ _ _
  refine wpAny_bind (nextK_item (h2.at fun o e => s3.extBut _ o D.ce.symm (s2.extBut _ o D.de.symm (s1.extBut _ o D.ae e))) (t2.at fun o e => s3.extBut _ o d2.2.1 (s2.extBut _ o d2.2.2.1 (s1.extBut _ o d2.1 e))) hy fun g4 p4 s4 => wpAny_pure ?_)
  have to4 : IsPair g4 to x b := s4.extBut _ _ D.ce to3
  refine wpAny_bind (wpAny_seqItems to4 rfl (wpAny_bind (wpAny_updateSeq_pair to4 fun g5 to5 s5 => ?_)))
  replace to5 : IsPair g5 to x y := to5
  refine wpAny_bind (wpAny_letGo (wpAny_pure (wpAny_pure (wpAny_bind (wpAny_seqItems to5 rfl (wpAny_bind (wpAny_newTuple ?_)))))))
  have sz : g5.objs.size = s.heap.objs.size := by rw [s5.1, s4.1, s3.1, s2.1, s1.1]
  have z5 : IsZip g5 z ti to .ellipsis := s5.extBut _ _ D.ac.symm (s4.extBut _ _ D.ae.symm (s3.extBut _ _ D.ac.symm (s2.extBut _ _ D.ad.symm z1)))
  have kp5 : ∀ c o, ZOff z to i1 i2 c → s.heap.get? c = some o → g5.get? c = some o := fun c o q e => s5.extBut _ _ q.2.1 (s4.extBut _ _ q.2.2.2 (s3.extBut _ _ q.2.1 (s2.extBut _ _ q.2.2.1 (s1.extBut _ _ q.1 e))))
  have q1 : ItAt b1 g5 i1 l1 (k + 1) := p2.at fun o e => s5.extBut _ o D.cd.symm (s4.extBut _ o D.de (s3.extBut _ o D.cd.symm e))
  have q2 : ItAt b2 g5 i2 l2 (k + 1) := p4.at fun o e => s5.extBut _ o D.ce.symm e
  have lz : z < g5.objs.size := Heap.lt_size z5
  show wpAny _ _ (Builtin.SmallTypes.ownedTupleHandOut (.ref z) (.ref g5.objs.size) >>= _) _ _ _
  refine wpAny_bind ?_
  unfold Builtin.SmallTypes.ownedTupleHandOut
  have z6 : IsZip (g5.push { cls := .type "tuple", data := .seq #[x, y] }) z ti to .ellipsis := Heap.get?_push_of_some _ z5
  refine wpAny_bind (wpAny_setField_rec z6 (by simp) fun g7 z7 s7 => ?_)
  replace z7 : IsZip g7 z ti to (rawInt g5.objs.size) := z7
  refine wpAny_setField_rec z7 (by simp) fun g8 z8 s8 => ?_
  replace z8 : IsZip g8 z ti to (rawInt g5.objs.size) := z8
  have up : ∀ c o, c ≠ z → g5.get? c = some o → g8.get? c = some o := fun c o c1 e => s8.extBut _ _ c1 (s7.extBut _ _ c1 (Heap.get?_push_of_some _ e))
  have pr : IsPair g8 g5.objs.size x y := s8.extBut _ _ (Nat.ne_of_gt lz) (s7.extBut _ _ (Nat.ne_of_gt lz) (Heap.get?_push_size _ rfl))
  rw [sz] at z8 pr
  refine wpAny_pure ⟨_, rfl, ?_⟩
  show Q (.ref g5.objs.size) _
  rw [sz]
  exact hQ g8 ⟨z8, up _ _ D.ab (kp5 _ _ ⟨D.ab, D.bc, D.bd, D.be⟩ hti), ⟨_, _, up _ _ D.ac to5⟩, q1.at fun o e => up _ o D.ad e, q2.at fun o e => up _ o D.ae e⟩ pr fun c o q e => up c o q.1 (kp5 c o q e)

theorem zip_end {b1 b2 : Bool} {z ti to i1 i2 l1 l2 : Addr} {k : Nat} {xs ys : Array Value} {Q : Fin → Shared → Prop} (hh : A.handled = none) (D : ZNe z ti to i1 i2) (d1 : ZOff z to i1 i2 l1) (d2 : ZOff z to i1 i2 l2) (Z : ZAt b1 b2 s.heap z ti to i1 i2 l1 l2 .none k)
    (t1 : SqAt b1 s.heap l1 xs) (t2 : SqAt b2 s.heap l2 ys) (hend : xs[k]? = none ∨ ys[k]? = none)
    (hE : ∀ g e, (∀ c o, ZOff z to i1 i2 c → s.heap.get? c = some o → g.get? c = some o) → (∃ o, g.get? e = some o ∧ o.cls = .type "StopIteration") → E (.ref e) { s with heap := g }) :
    wpAny (model P w) A (Builtin.«zip.__next__» ⟨[.ref z], []⟩) Q E s := by
  obtain ⟨hz, hti, ⟨a, b, hto⟩, h1, h2⟩ := Z
  show wpAny _ _ (field (.ref z) 2 >>= _) _ _ _
  refine wpAny_bind (wpAny_field hz rfl (x := .bool false) rfl ?_)
  show wpAny _ _ (field (.ref z) 3 >>= _) _ _ _
  refine wpAny_bind (wpAny_field hz rfl (x := .ref ti) rfl ?_)
  refine wpAny_bind (wpAny_seqItems hti rfl ?_)
  show wpAny _ _ (Builtin.SmallTypes.ownedTupleIsFree (.ref z) >>= _) _ _ _
  refine wpAny_bind ?_
  unfold Builtin.SmallTypes.ownedTupleIsFree
  refine wpAny_bind (wpAny_field hz rfl (x := .none) rfl (wpAny_pure ?_))
  simp only [if_true]
  refine wpAny_bind (wpAny_rule ?_)
  refine wpAny_bind (wpAny_field hz rfl (x := .ref to) rfl ?_)
  refine wpAny_bind (wpAny_setField_rec hz (by simp) fun g1 z1 s1 => ?_)
  replace z1 : IsZip g1 z ti to .ellipsis := z1
  refine wpAny_bind ?_
  simp only [List.zipIdx_cons, List.zipIdx_nil, List.forIn_cons, List.forIn_nil]
  refine wpAny_bind (wpAny_bind (wpAny_onRaise ?_))
  show wpAny _ _ (Builtin.SmallTypes.nextOf (.ref i1) >>= _) _ _ _
  cases hx : xs[k]? with
  | none =>
    refine wpAny_bind (nextK_end hh (h1.at fun o e => s1.extBut _ o D.ad e) (t1.at fun o e => s1.extBut _ o d1.1 e) hx fun g2 e s2 he => ?_)
    obtain ⟨oe, hoe, hce⟩ := he
    have z2 : IsZip g2 z ti to .ellipsis := s2 _ _ D.ad.symm z1
    have ez : e ≠ z := fun x => by subst x; rw [z2] at hoe; cases hoe; simp at hce
    exact wpAny_setField_rec z2 (by simp) fun g3 _ s3 => hE g3 e (fun c o q x => s3.extBut _ _ q.1 (s2 _ _ q.2.2.1 (s1.extBut _ _ q.1 x))) ⟨oe, s3.extBut _ _ ez hoe, hce⟩
  | some x =>
    have hy : ys[k]? = none := by rcases hend with h | h; rw [hx] at h; cases h; exact h
    refine wpAny_bind (nextK_item (h1.at fun o e => s1.extBut _ o D.ad e) (t1.at fun o e => s1.extBut _ o d1.1 e) hx fun g2 p2 s2 => wpAny_pure ?_)
    have to2 : IsPair g2 to a b := s2.extBut _ _ D.cd (s1.extBut _ _ D.ac hto)
    refine wpAny_bind (wpAny_seqItems to2 rfl (wpAny_bind (wpAny_updateSeq_pair to2 fun g3 to3 s3 => ?_)))
    refine wpAny_bind (wpAny_letGo (wpAny_pure (wpAny_bind (wpAny_bind (wpAny_onRaise ?_)))))
    show wpAny _ _ (Builtin.SmallTypes.nextOf (.ref i2) >>= _) _ _ _
    refine wpAny_bind (nextK_end hh (h2.at fun o e => s3.extBut _ o D.ce.symm (s2.extBut _ o D.de.symm (s1.extBut _ o D.ae e))) (t2.at fun o e => s3.extBut _ o d2.2.1 (s2.extBut _ o d2.2.2.1 (s1.extBut _ o d2.1 e))) hy fun g4 e s4 he => ?_)
    obtain ⟨oe, hoe, hce⟩ := he
    have z4 : IsZip g4 z ti to .ellipsis := s4 _ _ D.ae.symm (s3.extBut _ _ D.ac.symm (s2.extBut _ _ D.ad.symm z1))
    have ez : e ≠ z := fun x => by subst x; rw [z4] at hoe; cases hoe; simp at hce
    exact wpAny_setField_rec z4 (by simp) fun g5 _ s5 => hE g5 e (fun c o q x => s5.extBut _ _ q.1 (s4 _ _ q.2.2.2 (s3.extBut _ _ q.2.1 (s2.extBut _ _ q.2.2.1 (s1.extBut _ _ q.1 x))))) ⟨oe, s5.extBut _ _ ez hoe, hce⟩

theorem next_item {b1 b2 : Bool} {z ti to i1 i2 l1 l2 : Addr} {k : Nat} {xs ys : Array Value} {x y : Value} {Q : Option Value → Shared → Prop} (D : ZNe z ti to i1 i2) (d1 : ZOff z to i1 i2 l1) (d2 : ZOff z to i1 i2 l2) (Z : ZAt b1 b2 s.heap z ti to i1 i2 l1 l2 .none k)
    (t1 : SqAt b1 s.heap l1 xs) (t2 : SqAt b2 s.heap l2 ys) (hx : xs[k]? = some x) (hy : ys[k]? = some y)
    (hQ : ∀ g, ZAt b1 b2 g z ti to i1 i2 l1 l2 (rawInt s.heap.objs.size) (k + 1) → IsPair g s.heap.objs.size x y → (∀ c o, ZOff z to i1 i2 c → s.heap.get? c = some o → g.get? c = some o) → Q (some (.ref s.heap.objs.size)) { s with heap := g }) :
    wpAny (model P w) A (pyNext (.ref z)) Q E s := by
  have ty : s.TypeIs (.ref z) "zip" := ⟨_, Z.zz, rfl⟩
  unfold pyNext
  exact wpAny_bind (wpAny_attempt (wpAny_callSpecial?_slot (name := Str.ofString "__next__") ty F.slot_zip_next (wpAny_call_entry F.slot_zip_next ty F.entry_zip_next (zip_item D d1 d2 Z t1 t2 hx hy fun g a b c => wpAny_pure (hQ g a b c)) (F.args_zip_next_1 _))))
theorem next_end {b1 b2 : Bool} {z ti to i1 i2 l1 l2 : Addr} {k : Nat} {xs ys : Array Value} {Q : Option Value → Shared → Prop} (hh : A.handled = none) (D : ZNe z ti to i1 i2) (d1 : ZOff z to i1 i2 l1) (d2 : ZOff z to i1 i2 l2) (Z : ZAt b1 b2 s.heap z ti to i1 i2 l1 l2 .none k)
    (t1 : SqAt b1 s.heap l1 xs) (t2 : SqAt b2 s.heap l2 ys) (hend : xs[k]? = none ∨ ys[k]? = none)
    (hQ : ∀ g, (∀ c o, ZOff z to i1 i2 c → s.heap.get? c = some o → g.get? c = some o) → Q none { s with heap := g }) : wpAny (model P w) A (pyNext (.ref z)) Q E s := by
  have ty : s.TypeIs (.ref z) "zip" := ⟨_, Z.zz, rfl⟩
  unfold pyNext
  refine wpAny_bind (wpAny_attempt (wpAny_callSpecial?_slot (name := Str.ofString "__next__") ty F.slot_zip_next (wpAny_call_entry F.slot_zip_next ty F.entry_zip_next (zip_end hh D d1 d2 Z t1 t2 hend fun g e kp he => ?_) (F.args_zip_next_1 _))))
  obtain ⟨o, ho, hc⟩ := he
  refine wpAny_bind (wpAny_isInstance (T := "StopIteration") (b := true) ⟨o, ho, hc⟩ isSubtype_stop ?_)
  exact wpAny_pure (hQ _ kp)

def itName (b : Bool) : String := match b with
  | true => "tuple_iterator"
  | false => "list_iterator"
abbrev zh1 (b1 : Bool) (h : Heap) (l1 : Addr) : Heap := h.push { cls := .type (itName b1), data := .fields #[.ref l1, .int 0 0] }
abbrev zh2 (b1 b2 : Bool) (h : Heap) (l1 l2 : Addr) : Heap := (zh1 b1 h l1).push { cls := .type (itName b2), data := .fields #[.ref l2, .int 0 0] }
abbrev zh3 (b1 b2 : Bool) (h : Heap) (l1 l2 : Addr) : Heap := (zh2 b1 b2 h l1 l2).push { cls := .type "tuple", data := .seq #[.ref h.objs.size, .ref (zh1 b1 h l1).objs.size] }
abbrev zh4 (b1 b2 : Bool) (h : Heap) (l1 l2 : Addr) : Heap := (zh3 b1 b2 h l1 l2).push { cls := .type "tuple", data := .seq #[.none, .none] }
abbrev zh5 (b1 b2 : Bool) (h : Heap) (l1 l2 : Addr) : Heap := (zh4 b1 b2 h l1 l2).push { cls := .type "zip", data := .fields #[.none, .bool false, .bool false, .ref (zh2 b1 b2 h l1 l2).objs.size, .ref (zh3 b1 b2 h l1 l2).objs.size] }
theorem zip_new (b1 b2 : Bool) (l1 l2 : Addr) (xs ys : Array Value) :
    Meets (Builtin.«zip.__new__» ⟨[.type "zip", .ref l1, .ref l2], []⟩) (fun _ R s => SqAt b1 s.heap l1 xs ∧ SqAt b2 s.heap l2 ys ∧ R (.ok (.ret (.ref (zh4 b1 b2 s.heap l1 l2).objs.size))) { s with heap := zh5 b1 b2 s.heap l1 l2 }) :=
  .of_wp fun prog w A R s h => by
    obtain ⟨hp, g, d, tk, os⟩ := s
    obtain ⟨a1, a2, h⟩ := h
    have hsub := sub_zip
    cases b1 <;> cases b2
    · have b1 : Heap.IsList (Shared.heap ⟨hp, g, d, tk, os⟩) l1 xs := a1
      have b2 : Heap.IsList (Shared.heap ⟨hp.push { cls := .type "list_iterator", data := .fields #[.ref l1, .int 0 0] }, g, d, tk, os⟩) l2 ys := Heap.IsList.push a2 _
      wp_walk using wpAny_pyIter_list b1, wpAny_pyIter_list b2
      exact ⟨_, rfl, h⟩
    · have b1 : Heap.IsList (Shared.heap ⟨hp, g, d, tk, os⟩) l1 xs := a1
      have b2 : Heap.IsTuple (Shared.heap ⟨hp.push { cls := .type "list_iterator", data := .fields #[.ref l1, .int 0 0] }, g, d, tk, os⟩) l2 ys := Heap.IsTuple.push a2 _
      wp_walk using wpAny_pyIter_list b1, wpAny_pyIter_tuple b2
      exact ⟨_, rfl, h⟩
    · have b1 : Heap.IsTuple (Shared.heap ⟨hp, g, d, tk, os⟩) l1 xs := a1
      have b2 : Heap.IsList (Shared.heap ⟨hp.push { cls := .type "tuple_iterator", data := .fields #[.ref l1, .int 0 0] }, g, d, tk, os⟩) l2 ys := Heap.IsList.push a2 _
      wp_walk using wpAny_pyIter_tuple b1, wpAny_pyIter_list b2
      exact ⟨_, rfl, h⟩
    · have b1 : Heap.IsTuple (Shared.heap ⟨hp, g, d, tk, os⟩) l1 xs := a1
      have b2 : Heap.IsTuple (Shared.heap ⟨hp.push { cls := .type "tuple_iterator", data := .fields #[.ref l1, .int 0 0] }, g, d, tk, os⟩) l2 ys := Heap.IsTuple.push a2 _
      wp_walk using wpAny_pyIter_tuple b1, wpAny_pyIter_tuple b2
      exact ⟨_, rfl, h⟩
theorem zip_call {b1 b2 : Bool} {l1 l2 : Addr} {xs ys : Array Value} {Q : Value → Shared → Prop} (t1 : SqAt b1 s.heap l1 xs) (t2 : SqAt b2 s.heap l2 ys)
    (h : ∀ g, ZAt b1 b2 g (s.heap.objs.size + 4) (s.heap.objs.size + 2) (s.heap.objs.size + 3) s.heap.objs.size (s.heap.objs.size + 1) l1 l2 .none 0 → (∀ c o, s.heap.get? c = some o → g.get? c = some o) → Q (.ref (s.heap.objs.size + 4)) { s with heap := g }) :
    wpAny (model P w) A (call (.type "zip") [.ref l1, .ref l2]) Q E s := by
  refine callType_new F.called_zip (by decide) (F.typeCall_zip_2 _ _) (F.newCall_zip_2 _ _) (fun obj => F.args_object_init_3 obj _ _) F.entry_zip_new (zip_new b1 b2 l1 l2 xs ys) ⟨t1, t2, ?_⟩
  have n1 : (zh1 b1 s.heap l1).objs.size = s.heap.objs.size + 1 := Heap.size_push ..
  have n2 : (zh2 b1 b2 s.heap l1 l2).objs.size = s.heap.objs.size + 2 := by rw [Heap.size_push, n1]
  have n3 : (zh3 b1 b2 s.heap l1 l2).objs.size = s.heap.objs.size + 3 := by rw [Heap.size_push, n2]
  have n4 : (zh4 b1 b2 s.heap l1 l2).objs.size = s.heap.objs.size + 4 := by rw [Heap.size_push, n3]
  have g5 : (zh5 b1 b2 s.heap l1 l2).get? (zh4 b1 b2 s.heap l1 l2).objs.size = some _ := Heap.get?_push_size _ rfl
  have g4 : (zh5 b1 b2 s.heap l1 l2).get? (zh3 b1 b2 s.heap l1 l2).objs.size = some _ := Heap.get?_push_of_some _ (Heap.get?_push_size _ rfl)
  have g3 : (zh5 b1 b2 s.heap l1 l2).get? (zh2 b1 b2 s.heap l1 l2).objs.size = some _ := Heap.get?_push_of_some _ (Heap.get?_push_of_some _ (Heap.get?_push_size _ rfl))
  have g2 : (zh5 b1 b2 s.heap l1 l2).get? (zh1 b1 s.heap l1).objs.size = some _ := Heap.get?_push_of_some _ (Heap.get?_push_of_some _ (Heap.get?_push_of_some _ (Heap.get?_push_size _ rfl)))
  have g1 : (zh5 b1 b2 s.heap l1 l2).get? s.heap.objs.size = some _ := Heap.get?_push_of_some _ (Heap.get?_push_of_some _ (Heap.get?_push_of_some _ (Heap.get?_push_of_some _ (Heap.get?_push_size _ rfl))))
  show _ ∧ _
  rw [n2, n3, n4] at g5
  rw [n1, n2] at g3
  rw [n3] at g4
  rw [n1] at g2
  rw [n4]
  exact ⟨⟨_, g5, rfl⟩, h _ ⟨g5, g3, ⟨_, _, g4⟩, (by cases b1 <;> exact ⟨_, g1, rfl, rfl⟩), (by cases b2 <;> exact ⟨_, g2, rfl, rfl⟩)⟩ fun c o e => Heap.get?_push_of_some _ (Heap.get?_push_of_some _ (Heap.get?_push_of_some _ (Heap.get?_push_of_some _ (Heap.get?_push_of_some _ e))))⟩
end
end L3

set_option Elab.async false
set_option linter.all false
set_option maxRecDepth 100000
set_option maxHeartbeats 8000000
namespace L3
open PySem PySem.Spec L2
open PyProof.Rows hiding St
theorem ItAt.there {b : Bool} {h : Heap} {it l : Addr} {i : Nat} (x : ItAt b h it l i) : ∃ o, h.get? it = some o ∧ ∀ v, o.data ≠ .cell v := by
  cases b with
  | true =>
    obtain ⟨o, e, c, d⟩ := (show h.IsTupleIter it l i from x)
    exact ⟨o, e, fun v q => by rw [d] at q; cases q⟩
  | false =>
    obtain ⟨o, e, c, d⟩ := (show h.IsListIter it l i from x)
    exact ⟨o, e, fun v q => by rw [d] at q; cases q⟩
def SqK (b : Bool) (K : PySem.W.Frag) (H : Hp) (l : Addr) (xs : List V) : Prop := match b with
  | true => SqT K H l xs
  | false => SqL K H l xs
theorem sq_at {b : Bool} {X : Cx} {pins : List (Addr × Obj)} {σ : St} {H : Hp} {s : Shared} {l : Addr} {xs : List V} (I : Inv X pins σ H s) (h : SqK b X.K H l xs) : ∃ its, Vals xs its ∧ SqAt b s.heap l its.toArray := by
  cases b with
  | true =>
    obtain ⟨its, r, p, _⟩ := I.tuple h
    exact ⟨its, r, (show s.heap.IsTuple l its.toArray from p)⟩
  | false =>
    obtain ⟨its, r, p, _⟩ := I.list h
    exact ⟨its, r, p.isList⟩
theorem sq_inj {b : Bool} {X : Cx} {pins : List (Addr × Obj)} {σ : St} {H : Hp} {s : Shared} {l : Addr} {xs ys : List V} (I : Inv X pins σ H s) (h : SqK b X.K H l xs) (h' : SqK b X.K H l ys) : xs = ys := by
  cases b with
  | true => exact I.tuple_inj h h'
  | false => exact I.list_inj h h'
theorem sq_off {b : Bool} {X : Cx} {pins : List (Addr × Obj)} {σ : St} {H : Hp} {s : Shared} {l c : Addr} {xs : List V} (I : Inv X pins σ H s) (h : SqK b X.K H l xs) (f : FpOk X pins H c) : l ≠ c := by
  have kc : ∀ {o : Obj}, X.K.lookup l = some o → l ≠ c := fun {o} lk z => by
    subst z
    have e := I.ok.mod.kin _ _ lk
    rcases f.2.2.2.1 with q | q
    · exact I.ok.noex _ _ e q
    · exact absurd (Nat.lt_of_lt_of_le (Heap.lt_size e) I.ok.bsz) (Nat.not_lt.mpr q)
  cases b with
  | true =>
    rcases h with (h | ⟨o, h⟩) | ⟨o, its, n, lk, _⟩
    · exact ne_of_none h f.1
    · exact ne_of_none h f.1
    · exact kc lk
  | false =>
    rcases h with (h | ⟨o, h⟩) | ⟨o, its, n, lk, _⟩
    · exact ne_of_none h f.1
    · exact ne_of_none h f.1
    · exact kc lk

def Itz (b1 b2 : Bool) (K : PySem.W.Frag) (l1 l2 : Addr) : It :=
  ⟨fun i H => ∃ xs ys x y, SqK b1 K H l1 xs ∧ SqK b2 K H l2 ys ∧ xs[i]? = some x ∧ ys[i]? = some y,
   fun i H v H' => ∃ T x y, H T = none ∧ v = .ref T ∧ (∀ xs, SqK b1 K H l1 xs → xs[i]? = some x) ∧ (∀ ys, SqK b2 K H l2 ys → ys[i]? = some y) ∧ H' = upd H T (.tup [x, y]),
   fun i H => ∃ xs ys, SqK b1 K H l1 xs ∧ SqK b2 K H l2 ys ∧ (xs.length ≤ i ∨ ys.length ≤ i)⟩
theorem turn_zip {P : Program} {w : World} {K : PySem.W.Frag} {es : List Expr} {kk : Nat} {tp : Pos} {b1 b2 : Bool} {z ti to i1 i2 l1 l2 : Addr} (D : ZNe z ti to i1 i2) :
    Turn P w K (.Tuple es kk tp) (Itz b1 b2 K l1 l2) [z, ti, to, i1, i2] z (fun i h => ZAt b1 b2 h z ti to i1 i2 l1 l2 .none i) where
  mem := by simp
  obj := fun i h Z b hb => by
    obtain ⟨hz, hti, ⟨u, v, hto⟩, h1, h2⟩ := Z
    obtain ⟨o1, e1, d1⟩ := h1.there
    obtain ⟨o2, e2, d2⟩ := h2.there
    simp only [List.mem_cons, List.not_mem_nil, or_false] at hb
    rcases hb with rfl | rfl | rfl | rfl | rfl
    · exact ⟨_, hz, fun v q => (by cases q)⟩
    · exact ⟨_, hti, fun v q => (by cases q)⟩
    · exact ⟨_, hto, fun v q => (by cases q)⟩
    · exact ⟨o1, e1, fun v q => d1 v q⟩
    · exact ⟨o2, e2, fun v q => d2 v q⟩
  keep := fun i h h' Z k => by
    obtain ⟨hz, hti, ⟨u, v, hto⟩, h1, h2⟩ := Z
    exact ⟨k z (by simp) _ hz, k ti (by simp) _ hti, ⟨u, v, k to (by simp) _ hto⟩, h1.at fun o e => k i1 (by simp) o e, h2.at fun o e => k i2 (by simp) o e⟩
  item := by
    intro X hP hw hK hc i pins s σ H E I hf Z hg
    subst hP hw hK
    obtain ⟨xs, ys, x, y, e1, e2, hx, hy⟩ := hg
    obtain ⟨its1, r1, g1⟩ := sq_at I e1
    obtain ⟨its2, r2, g2⟩ := sq_at I e2
    obtain ⟨u, hu, ru⟩ := r1.get hx
    obtain ⟨v, hv, rv⟩ := r2.get hy
    have fz := hf z (by simp)
    have fto := hf to (by simp)
    have f1 := hf i1 (by simp)
    have f2 := hf i2 (by simp)
    have off : ∀ b ho, H b = some ho → ZOff z to i1 i2 b := fun b ho e => ⟨ne_of_none e fz.1, ne_of_none e fto.1, ne_of_none e f1.1, ne_of_none e f2.1⟩
    refine next_item D ⟨sq_off I e1 fz, sq_off I e1 fto, sq_off I e1 f1, sq_off I e1 f2⟩ ⟨sq_off I e2 fz, sq_off I e2 fto, sq_off I e2 f1, sq_off I e2 f2⟩ Z g1 g2 (x := u) (y := v) (by simpa using hu) (by simpa using hv) fun g Z2 pr kp => ?_
    have hn : H s.heap.objs.size = none := I.fresh
    have hout : ∀ b, b ∉ [z, to, i1, i2] → ZOff z to i1 i2 b := fun b hb => by
      simp only [List.mem_cons, List.not_mem_nil, or_false, not_or] at hb
      exact hb
    have un : Un (frs X.stack) [z, to, i1, i2] H (upd H s.heap.objs.size (.tup [x, y])) s.heap g :=
      ⟨fun b o q _ _ hx => kp b o (hout b hx) q, fun b o q _ _ hx => ⟨o.slots, kp b o (hout b hx) q⟩, fun b o q n _ => by rw [upd_ne (Nat.ne_of_lt (Heap.lt_size q))]; exact n, fun b o q hx => ⟨o, kp b o (hout b hx) q⟩,
       fun b zs q => by rw [upd_ne (ne_of_none q hn)]; exact q, fun b o zs q => by rw [upd_ne (ne_of_none q hn)]; exact q, fun b ps q => ⟨#[], by rw [upd_ne (ne_of_none q hn), q]; simp⟩⟩
    have hok : HOk X.prog X.w (upd H s.heap.objs.size (.tup [x, y])) g := fun b o e => by
      by_cases hb : b = s.heap.objs.size
      · subst hb
        rw [upd_same] at e
        cases e
        refine ⟨by simp only [List.length_cons, List.length_nil]; rw [sizeLine_eq]; decide, [u, v], .cons ru (.cons rv .nil), ⟨_, pr, rfl, _, rfl⟩, _, pr, rfl⟩
      · rw [upd_ne hb] at e
        refine (I.hok b o e).stay (fun c ob hc q => kp c ob ?_ q) (fun c q => by rw [upd_ne (ne_of_none q hn)]; exact q) fun c zs q => by rw [upd_ne (ne_of_none q hn)]; exact q
        rcases hc with rfl | hc
        · exact off _ _ e
        · exact off _ _ hc
    have I2 : Inv X pins σ (upd H s.heap.objs.size (.tup [x, y])) { s with heap := g } := I.call' (s' := { s with heap := g }) (ch := [z, to, i1, i2]) rfl un hok I.bare fun b hb => by
      have hb' : b ∈ [z, ti, to, i1, i2] := by
        simp only [List.mem_cons, List.not_mem_nil, or_false] at hb ⊢
        rcases hb with rfl | rfl | rfl | rfl <;> simp
      have q := hf b hb'
      exact ⟨q.2.2.2.1, q.2.1, q.2.2.2.2.1, q.2.2.2.2.2⟩
    have none5 : ∀ b ∈ [z, ti, to, i1, i2], upd H s.heap.objs.size (.tup [x, y]) b = none := fun b hb => by
      have lb : b < s.heap.objs.size := by
        obtain ⟨hz, hti, ⟨u, v, hto⟩, h1, h2⟩ := Z
        obtain ⟨_, q1, _⟩ := h1.there
        obtain ⟨_, q2, _⟩ := h2.there
        simp only [List.mem_cons, List.not_mem_nil, or_false] at hb
        rcases hb with rfl | rfl | rfl | rfl | rfl
        · exact Heap.lt_size hz
        · exact Heap.lt_size hti
        · exact Heap.lt_size hto
        · exact Heap.lt_size q1
        · exact Heap.lt_size q2
      rw [upd_ne (Nat.ne_of_lt lb)]
      exact (hf b hb).1
    refine ⟨_, rfl, wpAny_letOwnedTupleGo_zip Z2.zz fun g2 z3 sb => ?_⟩
    refine ⟨.ref s.heap.objs.size, _, I2.turned (t' := s.toks) (fun b o hb e => sb.extBut b o hb e) (none5 z (by simp)) fz.2.1 fz.2.2.2.1 fz.2.2.2.2.1 fz.2.2.2.2.2, rfl, ⟨_, x, y, hn, rfl, (fun zs q => by rw [← sq_inj I e1 q]; exact hx), (fun zs q => by rw [← sq_inj I e2 q]; exact hy), rfl⟩, ?_, none5⟩
    obtain ⟨_, hti, ⟨u2, v2, hto⟩, h1, h2⟩ := Z2
    exact ⟨z3, sb.extBut _ _ D.ab hti, ⟨u2, v2, sb.extBut _ _ D.ac hto⟩, h1.at fun o e => sb.extBut _ o D.ad e, h2.at fun o e => sb.extBut _ o D.ae e⟩
  done := by
    intro X hP hw hK hc i pins s σ H E I hf Z hg
    subst hP hw hK
    obtain ⟨xs, ys, e1, e2, hend⟩ := hg
    obtain ⟨its1, r1, g1⟩ := sq_at I e1
    obtain ⟨its2, r2, g2⟩ := sq_at I e2
    have fz := hf z (by simp)
    have fto := hf to (by simp)
    have f1 := hf i1 (by simp)
    have f2 := hf i2 (by simp)
    have off : ∀ b ho, H b = some ho → ZOff z to i1 i2 b := fun b ho e => ⟨ne_of_none e fz.1, ne_of_none e fto.1, ne_of_none e f1.1, ne_of_none e f2.1⟩
    have l1' := r1.length
    have l2' := r2.length
    refine next_end (I.ok.hd hc) D ⟨sq_off I e1 fz, sq_off I e1 fto, sq_off I e1 f1, sq_off I e1 f2⟩ ⟨sq_off I e2 fz, sq_off I e2 fto, sq_off I e2 f1, sq_off I e2 f2⟩ Z g1 g2 ?_ fun g kp => ?_
    · rcases hend with q | q
      · exact .inl (by simp; omega)
      · exact .inr (by simp; omega)
    · refine ⟨rfl, ?_⟩
      have hout : ∀ b, b ∉ [z, to, i1, i2] → ZOff z to i1 i2 b := fun b hb => by
        simp only [List.mem_cons, List.not_mem_nil, or_false, not_or] at hb
        exact hb
      have un : Un (frs X.stack) [z, to, i1, i2] H H s.heap g :=
        ⟨fun b o q _ _ hx => kp b o (hout b hx) q, fun b o q _ _ hx => ⟨o.slots, kp b o (hout b hx) q⟩, fun b o q n _ => n, fun b o q hx => ⟨o, kp b o (hout b hx) q⟩,
         fun b zs q => q, fun b o zs q => q, fun b ps q => ⟨#[], by rw [q]; simp⟩⟩
      refine I.call' (s' := { s with heap := g }) (ch := [z, to, i1, i2]) rfl un (fun b o e => (I.hok b o e).stay (fun c ob hc q => kp c ob ?_ q) (fun c q => q) fun c zs q => q) I.bare fun b hb => ?_
      · rcases hc with rfl | hc
        · exact off _ _ e
        · exact off _ _ hc
      · have hb' : b ∈ [z, ti, to, i1, i2] := by
          simp only [List.mem_cons, List.not_mem_nil, or_false] at hb ⊢
          rcases hb with rfl | rfl | rfl | rfl <;> simp
        have q := hf b hb'
        exact ⟨q.2.2.2.1, q.2.1, q.2.2.2.2.1, q.2.2.2.2.2⟩
  self := fun _ _ _ _ _ Z h => wpAny_pyIter_zip Z.zz h

theorem boot_zip' : bootBuiltins "zip" = some (.type "zip") := by kernel_rfl
def iZip (K : PySem.W.Frag) (ta : TA) : TI := fun σ H R => ta σ H fun vs H1 => ∃ b1 b2 l1 l2 xs ys, vs = [.ref l1, .ref l2] ∧ SqK b1 K H1 l1 xs ∧ SqK b2 K H1 l2 ys ∧ R (Itz b1 b2 K l1 l2) H1
theorem pi_zip {X : Cx} {es : List Expr} {kk : Nat} {tp : Pos} {a b : Expr} {ta : TA} {p pos : Pos} (hg : Gl X "zip") (hm : X.mg "zip" = none) (ha : PA X [a, b] ta)
    (he : starEach [a, b] X.env = (false, eval a X.env) :: starEach [b] X.env := by rfl) (hpl : (backTo pos (starEach [b] X.env)).any (·.1) = false := by rfl) : PI X (.Tuple es kk tp) (.Call (.Name "zip" p) [a, b] [] pos) (iZip X.K ta) := by
  intro pins s σ H R I h
  refine wpAny_Call_Name_kw (ld_blt I hg hm boot_zip' ?_ (by decide) (by decide))
  refine PyProof.Rows.callWith_type1 (thn (ha pos pins s σ H _ I h) fun us s1 ⟨vs, H1, I1, r1, b1, b2, l1, l2, xs, ys, e, e1, e2, q⟩ => ?_) he hpl
  subst e
  obtain ⟨u, v, rfl, ru, rv⟩ := vals2 r1
  cases ru
  cases rv
  obtain ⟨its1, r1, g1⟩ := sq_at I1 e1
  obtain ⟨its2, r2, g2⟩ := sq_at I1 e2
  refine zip_call (xs := its1.toArray) (ys := its2.toArray) g1 g2 fun g Z kp => wpAny_pyIter_zip Z.zz ?_
  have D : ZNe (s1.heap.objs.size + 4) (s1.heap.objs.size + 2) (s1.heap.objs.size + 3) s1.heap.objs.size (s1.heap.objs.size + 1) := by
    constructor <;> (intro z; exact absurd (show (_ : Nat) = _ from z) (by omega))
  refine ⟨_, _, _, _, H1, rfl, I1.kept (t' := s1.toks) kp, turn_zip D, Z, fun b hb => ?_, q⟩
  have lb : s1.heap.objs.size ≤ b := by
    simp only [List.mem_cons, List.not_mem_nil, or_false] at hb
    rcases hb with rfl | rfl | rfl | rfl | rfl
    · exact Nat.le_add_right _ _
    · exact Nat.le_add_right _ _
    · exact Nat.le_add_right _ _
    · exact Nat.le_refl _
    · exact Nat.le_add_right _ _
  exact I1.fpOk lb (I1.hok.fresh lb)
end L3

set_option Elab.async false
set_option linter.all false
set_option maxRecDepth 100000
set_option maxHeartbeats 4000000
namespace DL
open PySem PySem.Spec L2 L3
open PyProof.Rows hiding St
variable {Γ : Hp → Prop}

def zipD (xs ys : List D) : List D := List.zipWith (fun x y => D.tup [x, y]) xs ys
/-- a sequence as it is walked -/
def seqD : D → Option (List D)
  | .lst ds => some ds
  | .tup ds => some ds
  | .scr ns => some (ns.map D.int)
  | _ => none
theorem seqD_lst {ds : List D} : seqD (.lst ds) = some ds := rfl
theorem seqD_tup {ds : List D} : seqD (.tup ds) = some ds := rfl
theorem seqD_scr {ns : List Int} : seqD (.scr ns) = some (ns.map D.int) := rfl
/-- at l, of kind b, stand ds -/
def SeqP (b : Bool) (K : PySem.W.Frag) (H : Hp) (O : List Addr) (l : Addr) (d : D) : Prop := match d with
  | .lst ds => b = false ∧ ∃ xs, H l = some (.lst xs) ∧ l ∉ O ∧ Reps K H O ds xs
  | .tup ds => b = true ∧ ∃ xs, SqT K H l xs ∧ Reps K H O ds xs
  | .scr ns => b = false ∧ Scr K H l ns
  | _ => False
theorem SeqP.of {K : PySem.W.Frag} {H : Hp} {O : List Addr} {d : D} {v : V} {ds : List D} (h : Rep K H O d v) (e : seqD d = some ds) : ∃ b l, v = .ref l ∧ SeqP b K H O l d := by
  cases d with
  | lst es => obtain ⟨a, xs, rfl, q, n, r⟩ := h; exact ⟨false, a, rfl, rfl, xs, q, n, r⟩
  | tup es => obtain ⟨a, xs, rfl, q, r⟩ := h; exact ⟨true, a, rfl, rfl, xs, q.1, r⟩
  | scr ns => obtain ⟨a, rfl, q⟩ := h; exact ⟨false, a, rfl, rfl, q⟩
  | _ => cases e
theorem SeqP.sq {b : Bool} {K : PySem.W.Frag} {H : Hp} {O : List Addr} {l : Addr} {d : D} {ds : List D} (h : SeqP b K H O l d) (e : seqD d = some ds) : ∃ xs, SqK b K H l xs ∧ Reps K H O ds xs := by
  cases d with
  | lst es => obtain ⟨rfl, xs, q, n, r⟩ := h; cases e; exact ⟨xs, SqL.of q, r⟩
  | tup es => obtain ⟨rfl, xs, q, r⟩ := h; cases e; exact ⟨xs, q, r⟩
  | scr ns => obtain ⟨rfl, q⟩ := h; cases e; exact ⟨_, q.seq, Reps.ints ns⟩
  | _ => cases e
theorem SeqP.grow {b : Bool} {K : PySem.W.Frag} {H H' : Hp} {O O' : List Addr} {l : Addr} {d : D} (h : SeqP b K H O l d) (g : Grow O O' H H') : SeqP b K H' O' l d := by
  cases d with
  | lst es => obtain ⟨rfl, xs, q, n, r⟩ := h; exact ⟨rfl, xs, (g.keep _ _ q n).1, (g.keep _ _ q n).2, Reps.grow g _ _ r⟩
  | tup es => obtain ⟨rfl, xs, q, r⟩ := h; exact ⟨rfl, xs, sqT_grow g q, Reps.grow g _ _ r⟩
  | scr ns => obtain ⟨rfl, q⟩ := h; exact ⟨rfl, scr_grow g q⟩
  | _ => exact h.elim
section
variable {X : Cx} {pins : List (Addr × Obj)} {σ : St} {H : Hp} {s : Shared}
theorem it_zip {K : PySem.W.Frag} {b1 b2 : Bool} {l1 l2 : Addr} {d1 d2 : D} {xs ys : List D} (e1 : seqD d1 = some xs) (e2 : seqD d2 = some ys) : ItD K (Itz b1 b2 K l1 l2) (zipD xs ys) (fun H O => SeqP b1 K H O l1 d1 ∧ SeqP b2 K H O l2 d2) where
  go := fun H O i d ⟨p1, p2⟩ e => by
    obtain ⟨us, q1, r1⟩ := p1.sq e1
    obtain ⟨vs, q2, r2⟩ := p2.sq e2
    unfold zipD at e
    rw [List.getElem?_zipWith] at e
    cases ex : xs[i]? with
    | none => rw [ex] at e; cases e
    | some x =>
      cases ey : ys[i]? with
      | none => rw [ex, ey] at e; cases e
      | some y =>
        rw [ex, ey] at e
        cases e
        obtain ⟨u, eu, ru⟩ := r1.get ex
        obtain ⟨v, ev, rv⟩ := r2.get ey
        refine ⟨⟨us, vs, u, v, q1, q2, eu, ev⟩, fun z H' yl => ?_⟩
        obtain ⟨T, u', v', hT, rfl, eu', ev', rfl⟩ := yl
        have eu' := eu' _ q1
        have ev' := ev' _ q2
        rw [eu] at eu'
        rw [ev] at ev'
        cases eu'
        cases ev'
        have sm : Same H (upd H T (.tup [u, v])) := fun b w hb => by rw [upd_ne (ne_of_none hb hT)]; exact hb
        refine ⟨sm, T, [u, v], rfl, ⟨.inl (.inl upd_same), upd_same⟩, ?_⟩
        exact ⟨u, [v], rfl, Rep.grow (Grow.same sm) _ _ ru, v, [], rfl, Rep.grow (Grow.same sm) _ _ rv, rfl⟩
  stop := fun H O ⟨p1, p2⟩ => by
    obtain ⟨us, q1, r1⟩ := p1.sq e1
    obtain ⟨vs, q2, r2⟩ := p2.sq e2
    refine ⟨us, vs, q1, q2, ?_⟩
    have h1 := r1.length
    have h2 := r2.length
    unfold zipD
    rw [List.length_zipWith, h1, h2]
    omega
  keep := fun O O' H H' ⟨p1, p2⟩ g => ⟨p1.grow g, p2.grow g⟩
def iZ (t : TDs) : TID := fun ρ φ => t ρ fun rs => match rs with
  | [⟨k1, d1⟩, ⟨k2, d2⟩] => (match k1 with | .own => False | _ => True) ∧ (match k2 with | .own => False | _ => True) ∧ match seqD d1, seqD d2 with
    | some xs, some ys => φ (zipD xs ys)
    | _, _ => False
  | _ => False
theorem ei_zip {es : List Expr} {kk : Nat} {tp : Pos} {a b : Expr} {t : TDs} {p pos : Pos} (hm : X.mg "zip" = none) (ha : EA Γ X [a, b] t) (hg : Gl X "zip" := by rfl)
    (he : starEach [a, b] X.env = (false, eval a X.env) :: starEach [b] X.env := by rfl) (hpl : (backTo pos (starEach [b] X.env)).any (·.1) = false := by rfl) : EI Γ X (.Tuple es kk tp) (.Call (.Name "zip" p) [a, b] [] pos) (iZ t) := fun H₀ => impI (pi_zip hg hm (ha H₀) he hpl) fun σ H R q => by
  obtain ⟨ρ, o, RE, φ, hφ, k⟩ := q
  refine ⟨ρ, o, RE, _, hφ, fun vs rs H1 s1 rvs h1 => ?_⟩
  split at h1
  · rename_i k1 d1 k2 d2
    obtain ⟨n1, n2, h1⟩ := h1
    obtain ⟨v1, w1, rfl, q1, v2, w2, rfl, q2, rfl⟩ := rvs
    have p1 := q1.solid (notOwn n1)
    have p2 := q2.solid (notOwn n2)
    split at h1
    · rename_i xs ys e1 e2
      obtain ⟨b1, l1, rfl, z1⟩ := SeqP.of p1 e1
      obtain ⟨b2, l2, rfl, z2⟩ := SeqP.of p2 e2
      obtain ⟨us, y1, _⟩ := z1.sq e1
      obtain ⟨ws, y2, _⟩ := z2.sq e2
      exact ⟨b1, b2, l1, l2, us, ws, rfl, y1, y2, k _ _ _ H1 s1 (it_zip e1 e2) ⟨z1, z2⟩ h1⟩
    · exact h1.elim
  · exact h1.elim

theorem ints_of : ∀ {ns : List Int} {its : List Value}, Vals (ns.map V.int) its → ∃ xs : List (Int × Tok), its = xs.map (fun p => Value.int p.1 p.2) ∧ xs.map (·.1) = ns
  | [], _, h => by cases h; exact ⟨[], rfl, rfl⟩
  | n :: ns, _, h => by
    cases h with
    | cons r t =>
      obtain ⟨xs, e1, e2⟩ := ints_of t
      obtain ⟨tk, rfl⟩ := r
      exact ⟨(n, tk) :: xs, by rw [e1]; rfl, by rw [← e2]; rfl⟩
theorem call_sumL (hc : X.calm = true) : CallR X (.builtin "sum") (fun xs H Q => ∃ (p : Addr) (ns : List Int), xs = [.ref p] ∧ SqL X.K H p (ns.map V.int) ∧ Q (.int ns.sum) H) := by
  intro pins s σ H xs us Q I r h
  obtain ⟨p, ns, rfl, hq, q⟩ := h
  obtain ⟨u, rfl, rx⟩ := vals1 r
  cases rx
  obtain ⟨its, rv, pl, hz⟩ := I.list hq
  obtain ⟨xs, e1, e2⟩ := ints_of rv
  have hl : s.heap.IsList p (intItems xs.toArray) := by
    have := pl.isList
    rw [e1] at this
    unfold intItems
    simpa using this
  refine sum_intListG (I.ok.hd hc) hl fun h' tk t' hk => ?_
  rw [preSum_eq, List.take_of_length_le (by simp)]
  rw [show xs.toArray.toList.map (·.1) = ns from e2]
  exact ⟨.int ns.sum, H, I.kept (t' := tk) hk, ⟨t', rfl⟩, q⟩
/-- the numbers of a list -/
def intsD : List D → Option (List Int)
  | [] => some []
  | .int n :: r => (intsD r).map (n :: ·)
  | _ :: _ => none
theorem intsD_of : ∀ {ds : List D} {ns : List Int}, intsD ds = some ns → ds = ns.map D.int
  | [], ns, h => by cases h; rfl
  | d :: r, ns, h => by
    cases d with
    | int n =>
      cases e : intsD r with
      | none => unfold intsD at h; rw [e] at h; cases h
      | some ms =>
        unfold intsD at h
        rw [e] at h
        cases h
        rw [intsD_of e]
        rfl
    | _ => cases h
theorem intsD_map : ∀ (ns : List Int), intsD (ns.map D.int) = some ns
  | [] => rfl
  | n :: ns => by rw [List.map_cons, intsD, intsD_map ns]; rfl
theorem reps_ints {K : PySem.W.Frag} {H : Hp} {O : List Addr} : ∀ {ns : List Int} {xs : List V}, Reps K H O (ns.map D.int) xs → xs = ns.map V.int
  | [], _, h => h
  | n :: ns, xs, h => by
    obtain ⟨v, r, rfl, q, t⟩ := h
    rw [reps_ints t]
    cases (show v = _ from q)
    rfl
def sSum : FT := fun ds φ => match ds with
  | [.lst l] => match intsD l with
    | some ns => φ (dv (.int ns.sum))
    | none => False
  | _ => False
theorem ed_sumC {e : Expr} {es : List Expr} {t : TDs} {p pos : Pos} (hm : X.mg "sum" = none) (ha : EA Γ X (e :: es) t) (hc : X.calm = true := by rfl) (hg : Gl X "sum" := by rfl) (he : starEach (e :: es) X.env = (false, eval e X.env) :: starEach es X.env := by rfl) (hpl : (backTo pos (starEach es X.env)).any (·.1) = false := by rfl) : ED Γ X (.Call (.Name "sum" p) (e :: es) [] pos) (dCB sSum t) :=
  ed_callB (call_sumL hc) (fun H O ds vs φ Q ho hv h k => by
    unfold sSum at h
    split at h
    · rename_i l
      split at h
      · rename_i ns en
        obtain ⟨v, ws, rfl, ⟨a, xs, rfl, q, r⟩, rfl⟩ := hv
        have el := intsD_of en
        subst el
        have := reps_ints r
        subst this
        exact ⟨a, ns, rfl, SqL.of q, k _ _ H (Same.refl H) (by exact rfl) h⟩
      · exact h.elim
    · exact h.elim) hm (by kernel_rfl) ha hg (by decide) (by decide) he hpl
end

def frzS : DE → Nat → DE
  | [], _ => []
  | x :: r, 0 => x.map (fun r => dv r.d) :: r
  | x :: r, i + 1 => x :: frzS r i
theorem frzS_get : ∀ (ρ : DE) (i j : Nat), (frzS ρ i)[j]? = if j = i then ρ[j]?.map (fun x => x.map fun r => dv r.d) else ρ[j]?
  | [], i, j => by simp [frzS]
  | x :: r, 0, 0 => rfl
  | x :: r, 0, j + 1 => by simp [frzS]
  | x :: r, i + 1, 0 => by simp [frzS]
  | x :: r, i + 1, j + 1 => by
    have := frzS_get r i j
    simp only [frzS, List.getElem?_cons_succ, this]
    by_cases h : j = i
    · simp [h]
    · rw [if_neg h, if_neg (by omega)]
theorem frzS_len : ∀ (ρ : DE) (i : Nat), (frzS ρ i).length = ρ.length
  | [], _ => rfl
  | _ :: _, 0 => rfl
  | x :: r, i + 1 => by simp [frzS, frzS_len r i]
theorem REnv.frz1 {K : PySem.W.Frag} {H₀ H : Hp} {σ : St} {ρ : DE} {o : List (Nat × Addr)} (R : REnv K H₀ H σ ρ o) (i : Nat) : ∃ o', REnv K H₀ H σ (frzS ρ i) o' ∧ ∀ p ∈ o', p ∈ o := by
  refine ⟨o.filter fun p => decide (p.1 ≠ i), ?_, fun p hp => (List.mem_filter.mp hp).1⟩
  have sub : ∀ p ∈ o.filter (fun p => decide (p.1 ≠ i)), p ∈ o := fun p hp => (List.mem_filter.mp hp).1
  have subA : ∀ a ∈ (o.filter (fun p => decide (p.1 ≠ i))).map Prod.snd, a ∈ o.map Prod.snd := fun a ha => by
    obtain ⟨p, hp, e⟩ := List.mem_map.mp ha
    exact List.mem_map.mpr ⟨p, sub p hp, e⟩
  exact {
    same := R.same
    fresh := fun p hp => R.fresh p (sub p hp)
    trk := fun p hp => R.trk p (sub p hp)
    mtb := fun p hp => R.mtb p (sub p hp)
    nda := List.Nodup.sublist (List.Sublist.map _ List.filter_sublist) R.nda
    len := by rw [frzS_len]; exact R.len
    slots := fun j r e => by
      rw [frzS_get] at e
      by_cases hj : j = i
      · rw [if_pos hj] at e
        cases e1 : ρ[j]? with
        | none => rw [e1] at e; cases e
        | some x =>
          rw [e1] at e
          cases x with
          | none => cases e
          | some r' =>
            have e' : some (dv r'.d) = some r := Option.some.inj e
            cases e'
            obtain ⟨v, ev, q⟩ := R.slots j r' e1
            refine ⟨v, ev, .inl ⟨rfl, ?_⟩⟩
            rcases q with ⟨_, q⟩ | ⟨_, a, rfl, m, c⟩
            · exact Rep.sub subA _ _ q
            · refine (c.sub subA).rep fun z => ?_
              obtain ⟨p, hp, ep⟩ := List.mem_map.mp z
              have := inj_snd R.nda (sub p hp) m ep
              have hne := of_decide_eq_true (List.mem_filter.mp hp).2
              rw [this] at hne
              exact hne hj
      · rw [if_neg hj] at e
        obtain ⟨v, ev, q⟩ := R.slots j r e
        refine ⟨v, ev, ?_⟩
        rcases q with ⟨k, q⟩ | ⟨k, a, e1, m, c⟩
        · exact .inl ⟨k, Rep.sub subA _ _ q⟩
        · exact .inr ⟨k, a, e1, List.mem_filter.mpr ⟨m, decide_eq_true hj⟩, c.sub subA⟩ }
def sFrz (i : Nat) (t : TDS) : TDS := fun ρ Z => t (frzS ρ i) Z
theorem sd_frz (i : Nat) {X : Cx} {st : Stmt} {t : TDS} (h : SD Γ X st t) : SD Γ X st (sFrz i t) := fun H₀ => impS (h H₀) fun D σ H h => by
  obtain ⟨ρ, o, R, Z, hZ, k1, k2, k3, k4⟩ := h
  obtain ⟨o', R', sub⟩ := R.frz1 i
  have g : Grow (o.map Prod.snd) (o'.map Prod.snd) H H := ⟨fun b u h n => ⟨h, fun z => n (by
    obtain ⟨p, hp, e⟩ := List.mem_map.mp z
    exact List.mem_map.mpr ⟨p, sub p hp, e⟩)⟩, fun b xs h => h, fun b ob u h => h⟩
  exact ⟨_, o', R', Z, hZ, fun ρ2 σ2 H2 o2 g2 R2 q2 => k1 ρ2 σ2 H2 o2 (g.trans g2) R2 q2, fun ρ2 σ2 H2 o2 g2 R2 q2 => k2 ρ2 σ2 H2 o2 (g.trans g2) R2 q2, fun ρ2 σ2 H2 o2 g2 R2 q2 => k3 ρ2 σ2 H2 o2 (g.trans g2) R2 q2, k4⟩
end DL

set_option Elab.async false
set_option linter.all false
set_option maxRecDepth 100000
set_option maxHeartbeats 4000000
namespace HT
open PySem PyProof.Rows
section
variable {prog : Program} {w : World} {A : Around} {E : Value → Shared → Prop} {s : Shared}
/-- t[lo:hi], the whole of it: t itself -/
theorem getItem_tuple_whole {t sl : Addr} {items : Array Value} {vl vu : Value} {lo hi : Option Int} {Q : Value → Shared → Prop} (ht : IsTup s.heap t items) (hs : s.heap.IsSliceOf sl vl vu .none) (pl : IsPart vl lo) (pu : IsPart vu hi)
    (hw : sIx items.size 0 lo = 0 ∧ sIx items.size items.size hi = items.size)
    (h : ∀ tk, Q (.ref t) { s with toks := tk }) : wpAny (model prog w) A (getItem (.ref t) (.ref sl)) Q E s := by
  obtain ⟨os, hos, hcs, hds⟩ := id hs
  have hTs : s.TypeIs (.ref sl) "slice" := ⟨os, hos, hcs⟩
  unfold getItem
  try with_reducible refine wpAny_holding ?_
  first | refine wpAny_bind (wpAny_pure ?_) | skip
  refine wpAny_bind (wpAny_sequenceKey ht.typeIs (by decide) ?_)
  refine wpAny_bind (wpAny_callSpecial?_slot (name := Str.ofString "__getitem__") ht.typeIs PyProof.Rows.slot_tuple_getitem
    (wpAny_call_entry PyProof.Rows.slot_tuple_getitem ht.typeIs entry_tuple_getitem ?_ (args_tuple_getitem _ _)))
  show wpAny _ _ (Builtin.Tuple.tupleItemsOf (.ref t) >>= _) _ _ s
  refine wpAny_bind (tupleItemsOf_ ht ?_)
  refine wpAny_bind (wpAny_typeOf hTs ?_)
  rw [if_pos (by decide)]
  refine wpAny_bind (sliceApplied_gen hs pl pu ?_)
  have hyes : ((((sIx items.size 0 lo : Nat) : Int) == 0 && (1 : Int) == 1 && (sIx items.size items.size hi - sIx items.size 0 lo) == items.size) = true) := by
    rw [hw.1, hw.2]
    simp
  show wpAny _ _ (if (((sIx items.size 0 lo : Nat) : Int) == 0 && (1 : Int) == 1 && (sIx items.size items.size hi - sIx items.size 0 lo) == items.size) = true then _ else _) _ _ s
  rw [if_pos hyes]
  refine wpAny_bind (m := Builtin.Tuple.tupleIsExact _) (wpAny_bind (wpAny_typeOf ht.typeIs (wpAny_pure ?_)))
  rw [if_pos (by decide)]
  exact wpAny_bind (wpAny_rule (wpAny_pure ⟨_, rfl, wpAny_pure (h s.toks)⟩))
/-- () + u: u itself -/
theorem cat_tup0 {t b : Addr} {ws : List Value} {Q : Value → Shared → Prop} (ht : IsTup s.heap t #[]) (hb : IsTup s.heap b ws.toArray)
    (h1 : Q (.ref b) s) : wpAny (model prog w) A (binaryOp .Add (.ref t) (.ref b)) Q E s := by
  obtain ⟨⟨cls, dd, data, sl⟩, ho, hc, n, hd⟩ := id ht
  obtain ⟨⟨cls2, dd2, data2, sl2⟩, ho2, hc2, n2, hd2⟩ := id hb
  simp only at hc hd hc2 hd2
  subst hc hd hc2 hd2
  exact concat_meets ⟨_, ho, rfl⟩ ⟨_, ho2, rfl⟩ noFill_tuple_add seq_tuple_add PySem.F.slot_tuple_add PySem.F.entry_tuple_add (PySem.F.args_tuple_add_2 _ _)
      (tuple_addW0 t b #[] ws.toArray n n2 dd dd2 sl sl2 (by simp)) ⟨ho, ho2, h1⟩
end
end HT
namespace L2
open PySem PySem.Spec PyProof.Rows
section
variable {X : Cx}
def rSlW (K : PySem.W.Frag) : V → Option Int → Option Int → Hp → VK → Prop := fun x lo hi H Q => ∃ a xs, x = .ref a ∧ SqT K H a xs ∧
  (HT.sIx xs.length 0 lo = 0 ∧ HT.sIx xs.length xs.length hi = xs.length) ∧ Q (.ref a) H
theorem sl_tupW : SlR X (rSlW X.K) := by
  intro pins s σ H x v vl vu lo hi sl Q I rx hs pl pu h
  obtain ⟨a, xs, rfl, hx, hw, q⟩ := h
  cases rx
  obtain ⟨its, r, ht, hz⟩ := I.tuple hx
  have hlen : its.toArray.size = xs.length := by rw [List.size_toArray]; exact r.length.symm
  refine ⟨"tuple", _, PyProof.Rows.slot_tuple_getitem.lookup, ht.typeIs, ?_⟩
  exact HT.getItem_tuple_whole ht hs pl pu (by rw [hlen]; exact hw) fun tk => ⟨.ref a, H, I.tok tk, rfl, q⟩
def rCatT0 (K : PySem.W.Frag) : R2 := fun x y H Q => ∃ a b ys, x = .ref a ∧ y = .ref b ∧ SqT K H a [] ∧ SqT K H b ys ∧ Q (.ref b) H
theorem op_catT0 : OpR X (binaryOp .Add) (rCatT0 X.K) := by
  intro pins s σ H x y v u Q I rx ry h
  obtain ⟨a, b, ys, rfl, rfl, ha, hb, q⟩ := h
  cases rx
  cases ry
  obtain ⟨its, r1, p1, _⟩ := I.tuple ha
  obtain ⟨its2, r2, p2, _⟩ := I.tuple hb
  cases r1
  exact HT.cat_tup0 p1 p2 ⟨.ref b, H, I, rfl, q⟩
end
end L2

set_option Elab.async false
set_option linter.all false
set_option maxRecDepth 100000
set_option maxHeartbeats 4000000
namespace DL
open PySem PySem.Spec L2 L3
open PyProof.Rows hiding St
variable {Γ : Hp → Prop}
theorem RV.anew {K : PySem.W.Frag} {H0 H : Hp} {O : List Addr} {r : EV} {v : V} (h : RV K H0 H O r v) (p : pureEV r) : RepN K H (fun a => a ∉ O ∧ H0 a = none) r.d v := by
  obtain ⟨k, d⟩ := r
  cases k with
  | val => exact Rep.toN _ _ p h
  | own => exact p.elim
  | new => exact h
  | fre =>
    obtain ⟨a, rfl, m, n, c⟩ := h
    cases d with
    | lst ds => obtain ⟨xs, q, r⟩ := c; exact ⟨a, xs, rfl, q, ⟨n, m⟩, Reps.toN _ _ p r⟩
    | dk ks ds => obtain ⟨xs, q, l, nd, r⟩ := c; exact ⟨a, xs, rfl, q, ⟨n, m⟩, l, nd, Reps.toN _ _ p r⟩
    | dt ks ds => obtain ⟨xs, q, l, nd, r⟩ := c; exact ⟨a, xs, rfl, q, ⟨n, m⟩, l, nd, Reps.toN _ _ p r⟩
    | _ => exact c.elim
def pureEVs : List EV → Prop
  | [] => True
  | r :: rs => pureEV r ∧ pureEVs rs
theorem RVs.anew {K : PySem.W.Frag} {H0 H : Hp} {O : List Addr} : ∀ {rs : List EV} {vs : List V}, RVs K H0 H O rs vs → pureEVs rs → RepNs K H (fun a => a ∉ O ∧ H0 a = none) (rs.map EV.d) vs
  | [], _, h, _ => h
  | r :: rs, vs, h, p => by
    obtain ⟨v, ws, e, h1, t⟩ := h
    exact ⟨v, ws, e, h1.anew p.1, RVs.anew t p.2⟩
theorem RVs.get {K : PySem.W.Frag} {H0 H : Hp} {O : List Addr} : ∀ {rs : List EV} {vs : List V} {i : Nat} {r : EV}, RVs K H0 H O rs vs → rs[i]? = some r → ∃ v, vs[i]? = some v ∧ RV K H0 H O r v
  | [], _, _, _, _, e => by simp at e
  | r :: rs, vs, 0, r', h, e => by
    obtain ⟨v, ws, rfl, q, _⟩ := h
    simp at e
    subst e
    exact ⟨v, rfl, q⟩
  | r :: rs, vs, i + 1, r', h, e => by
    obtain ⟨v, ws, rfl, _, t⟩ := h
    obtain ⟨v', e', q'⟩ := RVs.get (i := i) t (by simpa using e)
    exact ⟨v', by simpa using e', q'⟩
section
variable {X : Cx} {a b e ix : Expr} {es : List Expr} {t : TDs} {ta tb te tk : TD} {pos : Pos}
def dTupN (t : TDs) : TD := fun ρ φ => t ρ fun rs => pureEVs rs ∧ Nat.ble rs.length 1000 = true ∧ φ ⟨.new, .tup (rs.map EV.d)⟩
theorem ed_tupN {x1} (h : EA Γ X es t) : ED Γ X (.Tuple es x1 pos) (dTupN t) := fun H₀ => impE (pe_tup (h H₀)) fun σ H Q q => by
  obtain ⟨ρ, o, R, φ, hφ, k⟩ := q
  refine ⟨ρ, o, R, _, hφ, fun vs rs H1 s1 rvs h1 => ⟨by rw [rvs.length]; exact le_line h1.2.1, fun p hp => ?_⟩⟩
  refine k _ ⟨.new, .tup (rs.map EV.d)⟩ _ (s1.trans (same_new hp _)) ⟨p, vs, rfl, ⟨SqT.of upd_same, upd_same⟩, RepNs.to (same_new hp _) (fun _ z => z) _ _ (rvs.anew h1.1)⟩ h1.2.2
/-- t + u: new, where both are -/
def dAddN (ta tb : TD) : TD := fun ρ φ => ta ρ fun x => tb ρ fun y => match x.d, y.d with
  | .tup p, .tup q => pureEV x ∧ pureEV y ∧ p.length + q.length ≤ sizeLine ∧ φ ⟨.new, .tup (p ++ q)⟩
  | _, _ => False
theorem ed_addN (ha : ED Γ X a ta) (hb : ED Γ X b tb) : ED Γ X (.BinOp a .Add b pos) (dAddN ta tb) := fun H₀ => impE (pe_op (op_catT.or op_catT0) (ha H₀) (hb H₀)) fun σ H Q q => by
  obtain ⟨ρ, o, R, φ, hφ, k⟩ := q
  refine ⟨ρ, o, R, _, hφ, fun v1 r1 H1 s1 rv1 h1 => ⟨ρ, o, R.to s1, _, h1, fun v2 r2 H2 s2 rv2 h2 => ?_⟩⟩
  have n1 := fun p => (rv1.same s2).anew p
  have n2 := fun p => (rv2.start s1).anew p
  obtain ⟨k1, d1⟩ := r1
  obtain ⟨k2, d2⟩ := r2
  cases d1 with
  | tup p =>
    cases d2 with
    | tup q =>
      obtain ⟨p1, p2, hl, hn⟩ := h2
      obtain ⟨a1, xs, rfl, q1, r1⟩ := n1 p1
      obtain ⟨a2, ys, rfl, q2, r2⟩ := n2 p2
      have l1 := r1.length
      have l2 := r2.length
      cases p with
      | nil =>
        have e : xs = [] := List.eq_nil_of_length_eq_zero l1
        subst e
        exact .inr ⟨a1, a2, ys, rfl, rfl, q1.1, q2.1, k _ ⟨.new, .tup q⟩ H2 (s1.trans s2) ⟨a2, ys, rfl, q2, r2⟩ hn⟩
      | cons d p =>
        refine .inl ⟨a1, a2, xs, ys, rfl, rfl, q1.1, q2.1, (fun z => by subst z; cases l1), by rw [l1, l2]; exact hl, fun z => ?_, fun z p' hp => ?_⟩
        · subst z
          have e : q = [] := List.eq_nil_of_length_eq_zero l2.symm
          subst e
          rw [List.append_nil] at hn
          exact k _ ⟨.new, .tup (d :: p)⟩ H2 (s1.trans s2) ⟨a1, xs, rfl, q1, r1⟩ hn
        · exact k _ ⟨.new, .tup (d :: p ++ q)⟩ _ ((s1.trans s2).trans (same_new hp _)) ⟨p', xs ++ ys, rfl, ⟨SqT.of upd_same, upd_same⟩, RepNs.to (same_new hp _) (fun _ z => z) _ _ (r1.append r2)⟩ hn
    | _ => exact h2.elim
  | _ => exact h2.elim
/-- t[lo:hi], the whole or not -/
def dSlT (te : TD) (tl th : TDo) : TD := fun ρ φ => te ρ fun x => tl ρ fun l => th ρ fun u => match x.d with
  | .tup ds => φ (dv (.tup (cutD ds l u)))
  | _ => False
theorem cutD_whole {ds : List D} {l u : Option Int} (h : HT.sIx ds.length 0 l = 0 ∧ HT.sIx ds.length ds.length u = ds.length) : cutD ds l u = ds := by
  unfold cutD
  rw [h.1, h.2]
  simp
theorem ed_sliceT {lo hi : Option Expr} {tl th : TDo} {p2 : Pos} (he : ED Γ X e te) (hl : EO Γ X lo tl) (hu : EO Γ X hi th) : ED Γ X (.Subscript e (.Slice lo hi none p2) pos) (dSlT te tl th) := fun H₀ =>
  impE (pe_slice (sl_tupW.or sl_tup) (he H₀) (hl H₀) (hu H₀)) fun σ H Q q => by
    obtain ⟨ρ, o, R, φ, hφ, k⟩ := q
    refine ⟨ρ, o, R, _, hφ, fun v r H1 s1 rv h1 => ⟨ρ, o, R.to s1, _, h1, fun l H2 s2 h2 => ⟨ρ, o, R.to (s1.trans s2), _, h2, fun u H3 s3 h3 => ?_⟩⟩⟩
    have s12 := s1.trans s2
    have s13 := s12.trans s3
    have vw := (rv.same (s2.trans s3)).view
    obtain ⟨kd, d⟩ := r
    cases d with
    | tup ds =>
      obtain ⟨a, xs, rfl, q, r⟩ := vw
      by_cases hw : HT.sIx ds.length 0 l = 0 ∧ HT.sIx ds.length ds.length u = ds.length
      · refine .inl ⟨a, xs, rfl, q.1, by rw [r.length]; exact hw, ?_⟩
        have h3' : φ (dv (.tup ds)) := by
          have := h3
          simp only [cutD_whole hw] at this
          exact this
        exact k _ (dv (.tup ds)) _ s13 ⟨a, xs, rfl, q, r⟩ h3'
      · refine .inr ⟨a, xs, rfl, q.1, by rw [r.length]; exact hw, fun p hp => ?_⟩
        exact k _ _ _ (s13.trans (same_new hp _)) (RV.start (rv_tup hp (reps_cut r l u)) s13) h3
    | _ => exact h3.elim
/-- [a, b, ..][i]: the thing with all that is known of it -/
def dPick (t : TDs) (tk : TD) : TD := fun ρ φ => t ρ fun rs => Nat.ble rs.length 1000 = true ∧ tk ρ fun kr => match kr.d with
  | .int k => match atI rs k with
    | some r => φ r
    | none => False
  | _ => False
/-- x = [a, b, ..]; return x[i] -/
def sLP (i : Nat) (t : TDs) (tk : TD) : TDS := fun ρ Z => t ρ fun rs => solidB rs = true ∧ Nat.ble rs.length 1000 = true ∧ slot (setS ρ i (dO (.lst (rs.map EV.d)))) i = some (dO (.lst (rs.map EV.d))) ∧ tk (setS ρ i (dO (.lst (rs.map EV.d)))) fun kr => match kr.d with
  | .int k => match atI rs k with
    | some r => Z.rt r.ret
    | none => False
  | _ => False
def popD (ds : List D) : Option (List D × D) := match ds.getLast? with
  | some d => some (ds.dropLast, d)
  | none => none
theorem popD_app (ds : List D) (d : D) : popD (ds ++ [d]) = some (ds, d) := by
  unfold popD
  simp
theorem popD_of {ds ds' : List D} {d : D} (h : popD ds = some (ds', d)) : ds = ds' ++ [d] := by
  unfold popD at h
  split at h
  · rename_i x e
    cases h
    obtain ⟨y, hy⟩ := List.getLast?_eq_some_iff.mp e
    rw [hy]
    simp
  · cases h
theorem reps_pop {K : PySem.W.Frag} {H : Hp} {O : List Addr} {ds ds' : List D} {d : D} {xs : List V} (r : Reps K H O ds xs) (h : popD ds = some (ds', d)) : ∃ y, xs[xs.length - 1]? = some y ∧ Rep K H O d y ∧ Reps K H O ds' xs.dropLast := by
  have e := popD_of h
  subst e
  have l := r.length
  rw [List.length_append] at l
  obtain ⟨y, ey, hy⟩ := r.get (i := ds'.length) (d := d) (by simp)
  refine ⟨y, by rw [l]; simpa using ey, hy, ?_⟩
  have := r.dropLast
  simpa using this
/-- x = xs.pop() -/
def sPop (i j : Nat) : TDS := fun ρ Z => match slot ρ i with
  | some ⟨.own, .lst ds⟩ => match popD ds with
    | some (ds', d) => Z.nx (setS (setS ρ i (dO (.lst ds'))) j (dv d))
    | none => False
  | _ => False
/-- xs.append((xs.pop(), b, ..)) -/
def sAppPop (i : Nat) (t : TDs) : TDS := fun ρ Z => match slot ρ i with
  | some ⟨.own, .lst ds⟩ => match popD ds with
    | some (ds', d) => t (setS ρ i (dO (.lst ds'))) fun rs => solidB rs = true ∧ Nat.ble rs.length 100 = true ∧ ds'.length ≤ 100000 ∧ slot (setS ρ i (dO (.lst ds'))) i = some (dO (.lst ds')) ∧ Z.nx (setS (setS ρ i (dO (.lst ds'))) i (dO (.lst (ds' ++ [.tup (d :: rs.map EV.d)]))))
    | none => False
  | _ => False
/-- xs.extend([a, ..]) -/
def sExt (i : Nat) (t : TDs) : TDS := fun ρ Z => match slot ρ i with
  | some ⟨.own, .lst ds⟩ => t ρ fun rs => solidB rs = true ∧ Nat.ble rs.length 1000 = true ∧ ds.length ≤ 100000 ∧ Z.nx (setS ρ i (dO (.lst (ds ++ rs.map EV.d))))
  | _ => False
/-- n += e -/
def sAug (i : Nat) (te : TD) : TDS := fun ρ Z => match slot ρ i with
  | some ⟨.val, .int a⟩ => te ρ fun r => match r.d with
    | .int b => Z.nx (setS ρ i (dv (.int (a + b))))
    | _ => False
  | _ => False
def sIsB : D → D → (EV → Prop) → Prop := fun x y φ => match x, y with
  | .bl c, .bl d => φ (dv (.bl (c == d)))
  | _, _ => False
def sIsNotB : D → D → (EV → Prop) → Prop := fun x y φ => match x, y with
  | .bl c, .bl d => φ (dv (.bl (c != d)))
  | _, _ => False
end
end DL

set_option Elab.async false
set_option linter.all false
set_option maxRecDepth 100000
set_option maxHeartbeats 4000000
namespace DL
open PySem PySem.Spec L2 L3
open PyProof.Rows hiding St
variable {Γ : Hp → Prop}
section
variable {X : Cx} {p np pos tpos : Pos} {e : Expr} {te : TD} {c : Str} {C0 : Addr} {es : List Expr} {Cs : List Addr}
theorem vals_refs : ∀ {Cs : List Addr} {us : List Value}, Vals (Cs.map V.ref) us → us = Cs.map Value.ref
  | [], _, h => by cases h; rfl
  | C :: Cs, us, h => by
    cases h with
    | cons h1 h2 =>
      rw [vals_refs h2]
      cases h1
      rfl
def dIsET (K : PySem.W.Frag) (zs : List Addr) (te : TD) : TD := fun ρ φ => te ρ fun r => match r.d with
  | .exc C => ∃ b, PySem.W.kitAny K (.ref C) (zs.map Value.ref) = some b ∧ ExcIn K C ∧ zs.length ≤ 1000 ∧ φ (dv (.bl b))
  | _ => False
end
end DL

set_option Elab.async false
set_option linter.all false
set_option maxRecDepth 100000
set_option maxHeartbeats 4000000
namespace DL
open PySem PySem.Spec L2 L3
open PyProof.Rows hiding St
def nsD (ns : List Int) : List D := ns.map D.int
def wholeB : D → Bool
  | .int _ => true
  | _ => false
/-- no type, no script, no exception -/
def plainB : D → Bool
  | .ty _ => false
  | .cn _ => false
  | .scr _ => false
  | .exc _ => false
  | _ => true
def g1 (g : D → (EV → Prop) → Prop) : FT := fun ds φ => match ds with
  | [d] => g d φ
  | _ => False
def g2 (g : D → D → (EV → Prop) → Prop) : FT := fun ds φ => match ds with
  | [d, e] => g d e φ
  | _ => False
def g3 (g : D → D → D → (EV → Prop) → Prop) : FT := fun ds φ => match ds with
  | [d, e, f] => g d e f φ
  | _ => False
theorem f1_of {g : D → (EV → Prop) → Prop} {ds : List D} {φ : EV → Prop} (h : g1 g ds φ) : ∃ d, ds = [d] ∧ g d φ := by
  unfold g1 at h
  split at h
  · exact ⟨_, rfl, h⟩
  · exact h.elim
theorem f2_of {g : D → D → (EV → Prop) → Prop} {ds : List D} {φ : EV → Prop} (h : g2 g ds φ) : ∃ d e, ds = [d, e] ∧ g d e φ := by
  unfold g2 at h
  split at h
  · exact ⟨_, _, rfl, h⟩
  · exact h.elim
theorem f3_of {g : D → D → D → (EV → Prop) → Prop} {ds : List D} {φ : EV → Prop} (h : g3 g ds φ) : ∃ d e f, ds = [d, e, f] ∧ g d e f φ := by
  unfold g3 at h
  split at h
  · exact ⟨_, _, _, rfl, h⟩
  · exact h.elim
def tWholeD : FT := g1 fun d φ => plainB d = true ∧ φ (dv (.bl (wholeB d)))
theorem cut_seq {t u : TDS} {ρ : DE} {Z : DZ} (J : DE → Prop) (h1 : t ρ { Z with nx := J }) (h2 : ∀ ρ2, J ρ2 → u ρ2 Z) : sSeq (sCut t) u ρ Z := ⟨J, h1, h2⟩
theorem sApp_at {i : Nat} {te : TD} {ρ : DE} {Z : DZ} {ds : List D} (e : slot ρ i = some (dO (.lst ds))) (h : te ρ fun r => (match r.k with | .own => False | _ => True) ∧ ds.length ≤ 100000 ∧ Z.nx (setS ρ i (dO (.lst (ds ++ [r.d]))))) : sApp i te ρ Z := by
  unfold sApp
  rw [e]
  exact h
end DL

set_option Elab.async false
set_option linter.all false
set_option maxRecDepth 100000
set_option maxHeartbeats 4000000
namespace L2
open PySem PySem.Spec PyProof.Rows
/-- a dict whose keys are texts -/
def StrD (h : Heap) (a : Addr) (kvs : List (Str × Value)) : Prop :=
  ∃ o es ep, h.get? a = some o ∧ o.cls = .type "dict" ∧ o.data = .dict es ep ∧ es.size = kvs.length ∧ (∀ (i : Nat) (e : DictEntry), es[i]? = some e → ∃ k v t, kvs[i]? = some (k, v) ∧ e.key = .str k t ∧ e.val = v) ∧ (kvs.map (·.1)).Nodup
section
variable {prog : Program} {w : World} {A : Around} {E : Value → Shared → Prop} {s : Shared}
theorem StrD.typeIs {a : Addr} {kvs : List (Str × Value)} (h : StrD s.heap a kvs) : s.TypeIs (.ref a) "dict" := by
  obtain ⟨o, es, ep, g, c, _⟩ := h
  exact ⟨o, g, c⟩
theorem wp_showsAll {d : Addr} {Q : Unit → Shared → Prop} (hd : (d == sysModules) = false) (h : Q () s) : wpAny (model prog w) A (Builtin.Dict.showsAll d) Q E s := by
  unfold Builtin.Dict.showsAll
  rw [hd]
  exact wpAny_pure h
theorem wp_find_str {d : Addr} {o : Obj} {es : Array DictEntry} {ep : Nat} {x : Str} {t : Tok} {hs : Int} {i : Nat} {Q : Option Nat → Shared → Prop} (ho : s.heap.get? d = some o) (hd : o.data = .dict es ep)
    (hall : es.all (fun e => isExactStrKey e.key) = true) (hi : i < es.size) (hf : (es.findIdx? fun e => e.key.isStr x) = some i) (hk : ∃ t', es[i].key = .str x t') (h : Q (some i) s) :
    wpAny (model prog w) A (dictFind d (.str x t) hs) Q E s := by
  unfold dictFind
  try with_reducible refine wpAny_holding ?_
  refine wpAny_bind (wpAny_dictEntries ho hd ?_)
  dsimp only
  rw [if_pos hall]
  unfold foundByValue
  rw [hf]
  dsimp only
  rw [show es[i]? = some es[i] by simp [hi]]
  dsimp only
  refine wpAny_bind (wpAny_dictEpoch ho hd ?_)
  obtain ⟨t', hk⟩ := hk
  rw [hk]
  refine wpAny_bind (SeqAt.EqAt.str_str (A := A) (s := s) x t' x t prog w E _ ?_)
  refine wpAny_bind (wpAny_dictEpoch ho hd ?_)
  simp only [bne_self_eq_false, Bool.false_eq_true, if_false, beq_self_eq_true, if_true]
  exact wpAny_bind (wpAny_rule (wpAny_pure h))
theorem isStr_inj {x y : Str} {t : Tok} (h : (Value.str y t).isStr x = true) : y = x := by
  simpa [Value.isStr] using h
theorem same_pairs {a b : Addr} {kvs1 kvs2 : List (Str × Value)} {id : String} {Q : Bool → Shared → Prop} (ha : StrD s.heap a kvs1) (hb : StrD s.heap b kvs2)
    (na : (a == sysModules) = false) (nb : (b == sysModules) = false) (hk : kvs1.map (·.1) = kvs2.map (·.1))
    (hv : ∀ (i : Nat) p q, kvs1[i]? = some p → kvs2[i]? = some q → ∀ (A : Around) (Q : Bool → Shared → Prop), Q true s → wpAny (model prog w) A (eqBool p.2 q.2) Q E s)
    (h : Q true s) : wpAny (model prog w) A (Builtin.Dict.samePairs id a b) Q E s := by
  obtain ⟨o1, es1, ep1, g1, x1, d1, l1, p1, n1⟩ := ha
  obtain ⟨o2, es2, ep2, g2, x2, d2, l2, p2, n2⟩ := hb
  have lk : kvs1.length = kvs2.length := by have := congrArg List.length hk; simpa using this
  have ls : es1.size = es2.size := by omega
  have hall : es2.all (fun e => isExactStrKey e.key) = true := by
    rw [Array.all_eq_true]
    intro i hi
    obtain ⟨k, v, t, _, e, _⟩ := p2 i es2[i] (by simp [hi])
    rw [e]
    rfl
  unfold Builtin.Dict.samePairs
  refine wpAny_bind (wp_showsAll na (wpAny_bind (wp_showsAll nb (wpAny_bind (wpAny_dictEntries g1 d1 (wpAny_bind (wpAny_dictEntries g2 d2 ?_)))))))
  rw [if_neg (by simp [ls])]
  refine wpAny_bind (wpAny_dictEpoch g1 d1 ?_)
  rw [Std.Legacy.Range.forIn_eq_forIn_range']
  refine wpAny_bind (wpAny_forIn_list _ (fun rest r s' => r = (none, ()) ∧ s' = s ∧ ∀ i ∈ rest, i < es1.size) _ ?_ ?_ _ _ ⟨rfl, rfl, fun i hi => ?_⟩)
  · rintro i rest _ _ ⟨rfl, rfl, hi⟩
    have hlt := hi i (List.mem_cons_self ..)
    refine wpAny_bind (wpAny_dictEntries g1 d1 ?_)
    have e1 : es1[i]? = some es1[i] := by simp [hlt]
    rw [e1]
    obtain ⟨k, v, t, q1, q2, q3⟩ := p1 i es1[i] e1
    have h2 : i < es2.size := by omega
    have e2 : es2[i]? = some es2[i] := by simp [h2]
    obtain ⟨k2, v2, t2, r1, r2, r3⟩ := p2 i es2[i] e2
    have ekk : k = k2 := by
      have := congrArg (fun l => l[i]?) hk
      simp [q1, r1] at this
      exact this
    subst ekk
    have hfind : (es2.findIdx? fun e => e.key.isStr k) = some i := by
      rw [Array.findIdx?_eq_some_iff_getElem]
      refine ⟨h2, by rw [r2]; simp [Value.isStr], fun j hj => ?_⟩
      have hj2 : j < es2.size := by omega
      obtain ⟨k3, v3, t3, u1, u2, u3⟩ := p2 j es2[j] (by simp [hj2])
      intro z
      rw [u2] at z
      have e3 := isStr_inj z
      have hj3 : j < (kvs2.map (·.1)).length := by rw [List.length_map]; exact (List.getElem?_eq_some_iff.mp u1).1
      have hi3 : i < (kvs2.map (·.1)).length := by rw [List.length_map]; exact (List.getElem?_eq_some_iff.mp r1).1
      refine List.pairwise_iff_getElem.mp n2 j i hj3 hi3 hj ?_
      have a1 := (List.getElem?_eq_some_iff.mp u1).2
      have a2 := (List.getElem?_eq_some_iff.mp r1).2
      rw [List.getElem_map, List.getElem_map, a1, a2]
      exact e3
    dsimp only
    rw [q2, q3]
    refine wpAny_bind (wpAny_holding (wpAny_bind ?_))
    refine wp_find_str g2 d2 hall h2 hfind ⟨t2, r2⟩ ?_
    refine wpAny_bind (wpAny_dictEntries g2 d2 ?_)
    rw [e2]
    refine wpAny_holding ?_
    rw [r3]
    refine hv i (k, v) (k, v2) q1 r1 _ _ ?_
    rw [if_neg (by decide)]
    refine wpAny_bind (wpAny_dictEpoch g1 d1 ?_)
    rw [if_neg (by simp)]
    exact wpAny_pure ⟨rfl, rfl, fun j hj => hi j (List.mem_cons_of_mem _ hj)⟩
  · rintro _ _ ⟨rfl, rfl, _⟩
    exact wpAny_pure h
  · have := List.mem_range'.mp hi
    obtain ⟨j, hj, rfl⟩ := this
    simpa using hj
/-- one dict against another: the same keys in the same order, the same values -/
theorem rc_dicts {a b : Addr} {kvs1 kvs2 : List (Str × Value)} (ha : StrD s.heap a kvs1) (hb : StrD s.heap b kvs2) (na : (a == sysModules) = false) (nb : (b == sysModules) = false)
    (hk : kvs1.map (·.1) = kvs2.map (·.1)) (hv : ∀ (i : Nat) p q, kvs1[i]? = some p → kvs2[i]? = some q → ∀ A, SeqAt.EqAt A s p.2 q.2 true) (hu : A.units < cLine) : SeqAt.RcAt A s (.ref a) (.ref b) true := fun prog w E Q h => by
  refine wpAny_richCompare_same_room (op := .Eq) ha.typeIs hb.typeIs F.slot_dict_eq ?_ hu
  refine wpAny_call_entry F.slot_dict_eq ha.typeIs F.entry_dict_eq ?_ (F.args_dict_eq_2 _ _)
  unfold Builtin.«dict.__eq__»
  show wpAny _ _ (Builtin.Dict.dictSlotArgs "__eq__" ⟨[.ref a, .ref b], []⟩ >>= _) _ _ _
  refine wpAny_bind ?_
  unfold Builtin.Dict.dictSlotArgs
  refine wpAny_bind (wpAny_notOrdered_dict ha.typeIs ?_)
  show wpAny _ _ (pure (Value.ref a, Value.ref b)) _ _ _
  refine wpAny_pure ?_
  dsimp only
  refine wpAny_bind (wpAny_isInstance hb.typeIs isSubtype_dict_dict ?_)
  simp only [Bool.not_true, Bool.false_eq_true, if_false]
  refine wpAny_bind (wpAny_pure (wpAny_bind (wpAny_pure (wpAny_bind ?_))))
  exact same_pairs ha hb na nb hk (fun i p q h1 h2 A Q hq => hv i p q h1 h2 A prog w E Q hq) (wpAny_pure ⟨_, rfl, (fun z => nomatch z), h⟩)
theorem rcne_dicts {a b : Addr} {kvs1 kvs2 : List (Str × Value)} (ha : StrD s.heap a kvs1) (hb : StrD s.heap b kvs2) (na : (a == sysModules) = false) (nb : (b == sysModules) = false)
    (hk : kvs1.map (·.1) = kvs2.map (·.1)) (hv : ∀ (i : Nat) p q, kvs1[i]? = some p → kvs2[i]? = some q → ∀ A, SeqAt.EqAt A s p.2 q.2 true) (hu : A.units < cLine) : SeqAt.RcNeAt A s (.ref a) (.ref b) false := fun prog w E Q h => by
  refine wpAny_richCompare_same_room (op := .NotEq) ha.typeIs hb.typeIs F.slot_dict_ne ?_ hu
  refine wpAny_call_entry F.slot_dict_ne ha.typeIs F.entry_dict_ne ?_ (F.args_dict_ne_2 _ _)
  unfold Builtin.«dict.__ne__»
  show wpAny _ _ (Builtin.Dict.dictSlotArgs "__ne__" ⟨[.ref a, .ref b], []⟩ >>= _) _ _ _
  refine wpAny_bind ?_
  unfold Builtin.Dict.dictSlotArgs
  refine wpAny_bind (wpAny_notOrdered_dict ha.typeIs ?_)
  show wpAny _ _ (pure (Value.ref a, Value.ref b)) _ _ _
  refine wpAny_pure ?_
  dsimp only
  refine wpAny_bind (wpAny_isInstance hb.typeIs isSubtype_dict_dict ?_)
  simp only [Bool.not_true, Bool.false_eq_true, if_false]
  refine wpAny_bind (wpAny_pure (wpAny_bind (wpAny_pure (wpAny_bind ?_))))
  exact same_pairs ha hb na nb hk (fun i p q h1 h2 A Q hq => hv i p q h1 h2 A prog w E Q hq) (wpAny_pure ⟨_, rfl, (fun z => nomatch z), h⟩)
theorem eq_dicts {a b : Addr} {kvs1 kvs2 : List (Str × Value)} (ha : StrD s.heap a kvs1) (hb : StrD s.heap b kvs2) (na : (a == sysModules) = false) (nb : (b == sysModules) = false)
    (hk : kvs1.map (·.1) = kvs2.map (·.1)) (hv : ∀ (i : Nat) p q, kvs1[i]? = some p → kvs2[i]? = some q → ∀ A, SeqAt.EqAt A s p.2 q.2 true) (hu : A.units < cLine) : SeqAt.EqAt A s (.ref a) (.ref b) true := by
  by_cases e : a = b
  · subst e
    exact SeqAt.EqAt.same _
  · intro prog w E Q h
    unfold eqBool
    refine wpAny_holding ?_
    refine wpAny_ite_split (fun hab => absurd (Value.ref.inj (eq_of_beq hab)) e) (fun _ => ?_)
    exact wpAny_bind (rc_dicts ha hb na nb hk hv hu prog w E _ (wpAny_truthy_bool h))
end
end L2

set_option Elab.async false
set_option linter.all false
set_option maxRecDepth 100000
set_option maxHeartbeats 4000000
namespace DL
open PySem PySem.Spec L2 L3
open PyProof.Rows hiding St
variable {Γ : Hp → Prop}
theorem pairs_at {prog : Program} {w : World} {K : Type} [DecidableEq K] {knd : KeyKind prog w K} : ∀ {es : List DictEntry} {kvs : List (K × Value)}, Pairs knd es kvs → ∀ {i : Nat} {e : DictEntry}, es[i]? = some e → ∃ kv, kvs[i]? = some kv ∧ knd.is kv.1 e.key = true ∧ e.val = kv.2
  | _, _, .nil, _, _, h => by simp at h
  | _, _, .cons h1 h2 r, 0, e, h => by
    simp at h
    subst h
    exact ⟨_, rfl, h1, h2⟩
  | _, _, .cons h1 h2 r, i + 1, e, h => by
    obtain ⟨kv, a, b⟩ := pairs_at r (i := i) (by simpa using h)
    exact ⟨kv, by simpa using a, b⟩
theorem pairs_len {prog : Program} {w : World} {K : Type} [DecidableEq K] {knd : KeyKind prog w K} {es : List DictEntry} {kvs : List (K × Value)} (h : Pairs knd es kvs) : es.length = kvs.length := by
  induction h with
  | nil => rfl
  | cons _ _ _ ih => simp [ih]
theorem kv_at : ∀ {kvs : List (Key × V)} {vs : List (Key × Value)}, KV kvs vs → ∀ {i : Nat} {p : Key × Value}, vs[i]? = some p → ∃ q, kvs[i]? = some q ∧ q.1 = p.1 ∧ RelV q.2 p.2 := by
  intro kvs vs h
  induction h with
  | nil => intro i p h; simp at h
  | cons h1 _ ih =>
    intro i p h
    cases i with
    | zero =>
      simp at h
      subst h
      exact ⟨_, rfl, h1⟩
    | succ i =>
      obtain ⟨q, e, r⟩ := ih (i := i) (by simpa using h)
      exact ⟨q, by simpa using e, r⟩
/-- a dict of ints, its keys texts -/
def intDk (d : D) : Prop := ∃ (ks : List Str) (ns : List Int), d = .dk (ks.map Sum.inr) (ns.map D.int)
section
variable {X : Cx} {pins : List (Addr × Obj)} {σ : St} {H : Hp} {s : Shared}
theorem strD_of (I : Inv X pins σ H s) {a : Addr} {ks : List Str} {ns : List Int} (ha : H a = some (.dK ((ks.map Sum.inr).zip (ns.map V.int)))) (l : ks.length = ns.length) (nd : ks.Nodup) :
    (a == sysModules) = false ∧ ∃ vs : List (Str × Value), StrD s.heap a vs ∧ vs.map (·.1) = ks ∧ ∀ (i : Nat) p, vs[i]? = some p → ∃ n t, ns[i]? = some n ∧ p.2 = .int n t := by
  obtain ⟨_, na, va, ka, o, es, ep, g, x, d, k, p, n⟩ := dk_of I.hok ha
  have l1 : va.length = ks.length := by
    have := ka.length
    rw [List.length_zip, List.length_map, List.length_map] at this
    omega
  have l2 := pairs_len p
  have fact : ∀ (i : Nat) (q : Key × Value), va[i]? = some q → ∃ x n t, ks[i]? = some x ∧ ns[i]? = some n ∧ q = (Sum.inr x, .int n t) := by
    intro i q hq
    obtain ⟨q', f1, f2, f3⟩ := kv_at ka hq
    rw [List.getElem?_zip_eq_some] at f1
    obtain ⟨f4, f5⟩ := f1
    rw [List.getElem?_map] at f4 f5
    cases ex : ks[i]? with
    | none => rw [ex] at f4; cases f4
    | some x =>
      cases en : ns[i]? with
      | none => rw [en] at f5; cases f5
      | some m =>
        rw [ex] at f4
        rw [en] at f5
        have g1 : Sum.inr x = q'.1 := by simpa using f4
        have g2 : V.int m = q'.2 := by simpa using f5
        rw [← g2] at f3
        obtain ⟨t, f3⟩ := f3
        refine ⟨x, m, t, rfl, rfl, ?_⟩
        rw [← f3, g1, f2]
  refine ⟨na, ks.zip (va.map (·.2)), ⟨o, es, ep, g, x.1, d, ?_, ?_, ?_⟩, ?_, ?_⟩
  · rw [List.length_zip, List.length_map, l1, Nat.min_self]
    have a1 : es.toList.length = es.size := by simp
    omega
  · intro i e he
    obtain ⟨kv, h1, h2, h3⟩ := pairs_at p (i := i) (e := e) (by simpa using he)
    obtain ⟨x', m, t, f1, f2, rfl⟩ := fact i kv h1
    have hs := keyIs_shape (k := Sum.inr x') (v := e.key) h2
    rcases hs with ⟨_, _, z, _⟩ | ⟨y, t', z, z2⟩
    · cases z
    · cases z
      refine ⟨x', .int m t, t', ?_, z2, h3⟩
      rw [List.getElem?_zip_eq_some]
      refine ⟨f1, ?_⟩
      rw [List.getElem?_map, h1]
      rfl
  · rw [List.map_fst_zip (by rw [List.length_map]; omega)]
    exact nd
  · exact List.map_fst_zip (by rw [List.length_map]; omega)
  · intro i q hq
    rw [List.getElem?_zip_eq_some] at hq
    obtain ⟨h1, h2⟩ := hq
    rw [List.getElem?_map] at h2
    cases ev : va[i]? with
    | none => rw [ev] at h2; cases h2
    | some kv =>
      rw [ev] at h2
      obtain ⟨x', m, t, f1, f2, rfl⟩ := fact i kv ev
      refine ⟨m, t, f2, ?_⟩
      have : Value.int m t = q.2 := by simpa using h2
      exact this.symm
theorem dk_pair (I : Inv X pins σ H s) {ks : List Str} {ns : List Int} {x y : V} {u v : Value} (h1 : Rep X.K H [] (.dk (ks.map Sum.inr) (ns.map D.int)) x) (h2 : Rep X.K H [] (.dk (ks.map Sum.inr) (ns.map D.int)) y) (r1 : RelV x u) (r2 : RelV y v) :
    ∃ a b vs1 vs2, u = .ref a ∧ v = .ref b ∧ StrD s.heap a vs1 ∧ StrD s.heap b vs2 ∧ (a == sysModules) = false ∧ (b == sysModules) = false ∧ vs1.map (·.1) = vs2.map (·.1) ∧ ∀ (i : Nat) p q, vs1[i]? = some p → vs2[i]? = some q → ∀ A, SeqAt.EqAt A s p.2 q.2 true := by
  obtain ⟨a, xs, rfl, ha, _, l1, n1, t1⟩ := h1
  obtain ⟨b, ys, rfl, hb, _, l2, n2, t2⟩ := h2
  have e1 := reps_ints t1
  have e2 := reps_ints t2
  subst e1
  subst e2
  have nd : ks.Nodup := by
    have := List.pairwise_map.mp n1
    exact this.imp fun h e => h (congrArg Sum.inr e)
  have l : ks.length = ns.length := by simpa using l1
  obtain ⟨na, vs1, s1, m1, f1⟩ := strD_of I ha l nd
  obtain ⟨nb, vs2, s2, m2, f2⟩ := strD_of I hb l nd
  refine ⟨a, b, vs1, vs2, r1, r2, s1, s2, na, nb, m1.trans m2.symm, fun i p q hp hq A => ?_⟩
  obtain ⟨n, t, g1, g2⟩ := f1 i p hp
  obtain ⟨m, t', g3, g4⟩ := f2 i q hq
  rw [g1] at g3
  cases g3
  rw [g2, g4]
  have := SeqAt.EqAt.int_int (A := A) (s := s) n t n t'
  simpa using this
/-- a thing that may be told equal to itself -/
def okS (d : D) : Prop := okD 39 d ∨ intDk d
theorem eqS_item (I : Inv X pins σ H s) {d : D} {x y : V} {u v : Value} {A : Around} (ok : okS d) (h1 : Rep X.K H [] d x) (h2 : Rep X.K H [] d y) (r1 : RelV x u) (r2 : RelV y v) (hu : A.units + 40 < cLine) : SeqAt.EqAt A s u v true := by
  rcases ok with ok | ⟨ks, ns, rfl⟩
  · have := (eq_main I 39 d d x y u v A ok ok h1 h2 r1 r2 (by omega)).2.2
    rw [eqD_refl 39 d ok] at this
    exact this
  · obtain ⟨a, b, vs1, vs2, rfl, rfl, s1, s2, na, nb, m, f⟩ := dk_pair I h1 h2 r1 r2
    exact eq_dicts s1 s2 na nb m f (by omega)
end
section
variable {X : Cx} {a b : Expr} {ta tb : TD} {pos : Pos}
def rEqS (K : PySem.W.Frag) (neg : Bool) : R2 := fun x y H Q => ∃ d, Rep K H [] d x ∧ Rep K H [] d y ∧ ((∃ ds, d = .lst ds ∧ ∀ e ∈ ds, okS e) ∨ intDk d) ∧ Q (.bl (!neg)) H
theorem in1_units {A : Around} (h : A.units + 64 < cLine) : A.in1.units + 40 < cLine := by
  show A.units + 1 + 40 < cLine
  omega
theorem rel_at : ∀ {xs : List V} {us : List Value}, Vals xs us → ∀ {i : Nat} {u : Value}, us[i]? = some u → ∃ x, xs[i]? = some x ∧ RelV x u := by
  intro xs us h
  induction h with
  | nil => intro i u h; simp at h
  | cons h1 _ ih =>
    intro i u h
    cases i with
    | zero => simp at h; subst h; exact ⟨_, rfl, h1⟩
    | succ i =>
      obtain ⟨x, e, r⟩ := ih (i := i) (by simpa using h)
      exact ⟨x, by simpa using e, r⟩
theorem eqS_lists {pins : List (Addr × Obj)} {σ : St} {H : Hp} {s : Shared} (I : Inv X pins σ H s) {ds : List D} {x y : V} {u v : Value} {A : Around} (ok : ∀ e ∈ ds, okS e) (h1 : Rep X.K H [] (.lst ds) x) (h2 : Rep X.K H [] (.lst ds) y) (r1 : RelV x u) (r2 : RelV y v) (hu : A.units + 64 < cLine) :
    SeqAt.RcAt A s u v true ∧ SeqAt.RcNeAt A s u v false := by
  obtain ⟨p, xs, rfl, hx, _, t1⟩ := h1
  obtain ⟨q, ys, rfl, hy, _, t2⟩ := h2
  cases (show u = Value.ref p from r1)
  cases (show v = Value.ref q from r2)
  obtain ⟨its, v1, i1, _⟩ := I.list (SqL.of hx)
  obtain ⟨its2, v2, i2, _⟩ := I.list (SqL.of hy)
  have l1 := t1.length
  have l2 := t2.length
  have m1 := v1.length
  have m2 := v2.length
  have hsz : its.toArray.size = its2.toArray.size := by rw [List.size_toArray, List.size_toArray]; omega
  have items : ∀ j (g1 : j < its.toArray.size) (g2 : j < its2.toArray.size), SeqAt.EqAt A.in1 s its.toArray[j] its2.toArray[j] ((fun _ => true) j) := by
    intro j g1 g2
    have g1' : j < its.length := by simpa using g1
    have g2' : j < its2.length := by simpa using g2
    obtain ⟨x', ex, rx⟩ := rel_at v1 (i := j) (u := its[j]) (by simp [g1'])
    obtain ⟨y', ey, ry⟩ := rel_at v2 (i := j) (u := its2[j]) (by simp [g2'])
    obtain ⟨d, ed, rd⟩ := t1.at ex
    obtain ⟨d', ed', rd'⟩ := t2.at ey
    rw [ed] at ed'
    cases ed'
    have := eqS_item (A := A.in1) I (ok d (List.mem_of_getElem? ed)) rd rd' rx ry (in1_units hu)
    simpa using this
  have e : (List.range its.toArray.size).all (fun _ => true) = true := by simp
  have a1 := SeqAt.RcAt.lists i1.isList i2.isList hsz (by omega : A.units < cLine) items
  have a2 := SeqAt.RcNeAt.lists i1.isList i2.isList hsz (by omega : A.units < cLine) items
  rw [e] at a1 a2
  exact ⟨a1, a2⟩
end
end DL

set_option Elab.async false
set_option linter.all false
set_option maxRecDepth 100000
set_option maxHeartbeats 4000000
namespace L2
open PySem PySem.Spec PyProof.Rows
section
variable {X : Cx} {tg : Expr}
theorem call_dictC : CallR X (.type "dict") (fun xs H Q => ∃ a kvs, xs = [.ref a] ∧ H a = some (.dK kvs) ∧ ∀ p, H p = none → Q (.ref p) (upd H p (.dK kvs))) := by
  intro pins s σ H xs us Q I r h
  obtain ⟨a, kvs, rfl, ha, q⟩ := h
  obtain ⟨u, rfl, ru⟩ := vals1 r
  cases ru
  obtain ⟨z, na, va, ka, da⟩ := dk_of I.hok ha
  have hb := I.big
  refine kt_call_dict na da (by rw [← ka.length]; exact z) fun h' hd hs => ?_
  have keep : ∀ b o, s.heap.get? b = some o → h'.get? b = some o := fun b o e => by
    have hne : b ≠ s.heap.objs.size := Nat.ne_of_lt (Heap.lt_size e)
    rw [hs.2 b hne]
    exact Heap.get?_push_of_some _ e
  refine ⟨.ref s.heap.objs.size, _, I.laid (t' := s.toks) (a := s.heap.objs.size) (o := .dK kvs) keep (Nat.le_refl _) ?_, rfl, q _ (I.hok.fresh (Nat.le_refl _))⟩
  exact dk_new z (by simpa using (Nat.ne_of_gt hb)) ka hd
def rGetL : V → V → Hp → VK → Prop := fun o i H Q => ∃ p xs k v, o = .ref p ∧ i = .int k ∧ H p = some (.lst xs) ∧ atI xs k = some v ∧ Q v H
theorem get_listP : PGet X rGetL := by
  intro pins s σ H o i ov iv Q I ro ri h
  obtain ⟨p, xs, k, z, rfl, rfl, hq, he, q⟩ := h
  cases ro
  obtain ⟨t, rfl⟩ := ri
  obtain ⟨its, r, pl, hz⟩ := I.list (SqL.of (K := X.K) hq)
  obtain ⟨j, h1, h2, h3, h4, h5⟩ := atI_get he
  obtain ⟨w, ew, rw'⟩ := r.get h2
  have hl := r.length
  have hn := line63
  have fin : EP X pins σ Q w s := ⟨z, H, I, rw', q⟩
  by_cases h0 : 0 ≤ k
  · have hj : k.toNat = j := by
      rw [seqIndex_of h0 h5] at h1
      exact Option.some.inj h1
    exact wpAny_getItem_list pl.isList h0 (by omega) (by rw [hj]; simpa using ew) fin
  · have hj : (k + (its.toArray.size : Int)).toNat = j := by
      rw [seqIndex_neg (by omega) h4] at h1
      rw [List.size_toArray, ← hl]
      exact Option.some.inj h1
    exact wpAny_getItem_list_neg pl.isList (by omega) (by rw [List.size_toArray] <;> omega) (by omega) (by rw [hj]; simpa using ew) fin
end
end L2
namespace DL
open PySem PySem.Spec L2 L3
open PyProof.Rows hiding St
variable {Γ : Hp → Prop}
section
variable {X : Cx} {a b e : Expr} {es : List Expr} {t : TDs} {ta tb te : TD} {p pos : Pos} {tg : Expr}
def okL (d : D) : Prop := (∃ ds, d = .lst ds ∧ ∀ e ∈ ds, okS e) ∨ intDk d
def sEqS (neg : Bool) : D → D → (EV → Prop) → Prop := fun x y φ => x = y ∧ okL x ∧ φ (dv (.bl (!neg)))
theorem op_neS (hu : X.A.units + 64 < cLine) : OpR X (compareOp .NotEq) (rEqS X.K true) := by
  intro pins s σ H x y v u Q I rx ry h
  obtain ⟨d, h1, h2, ok, q⟩ := h
  rcases ok with ⟨ds, rfl, ok⟩ | ⟨ks, ns, rfl⟩
  · exact (eqS_lists I ok h1 h2 rx ry hu).2 X.prog X.w X.xe _ ⟨.bl _, H, I, rfl, q⟩
  · obtain ⟨p, r, vs1, vs2, rfl, rfl, s1, s2, na, nb, m, f⟩ := dk_pair I h1 h2 rx ry
    exact rcne_dicts s1 s2 na nb m f (by omega) X.prog X.w X.xe _ ⟨.bl _, H, I, rfl, q⟩
theorem link_eqS {K : PySem.W.Frag} {neg : Bool} : Link2 K (rEqS K neg) (sEqS neg) := by
  intro H O x y vx vy φ Q ho hx hy h k
  obtain ⟨rfl, ok, h⟩ := h
  exact ⟨x, hx.rep0, hy.rep0, ok, k _ _ H (Same.refl H) (by exact rfl) h⟩
theorem et_neS (hu : X.A.units + 64 < cLine) (ha : ED Γ X a ta) (hb : ED Γ X b tb) : ET Γ X (.Compare a [.NotEq] [b] pos) (tBo (d2 (sEqS true) ta tb)) := et_cmp (op_neS hu) link_eqS ha hb (nomark _)
def sDictC : FT := fun ds φ => match ds with
  | [.dk ks l] => φ (df (.dk ks l))
  | _ => False
theorem ed_dictC (hm : X.mg "dict" = none) (ha : EA Γ X (e :: es) t) (hg : Gl X "dict" := by rfl) (he : starEach (e :: es) X.env = (false, eval e X.env) :: starEach es X.env := by rfl) (hpl : (backTo pos (starEach es X.env)).any (·.1) = false := by rfl) : ED Γ X (.Call (.Name "dict" p) (e :: es) [] pos) (dCB sDictC t) :=
  ed_callTy call_dictC (fun H O ds vs φ Q ho hv h k => by
    unfold sDictC at h
    split at h
    · obtain ⟨v, ws, rfl, ⟨a, xs, rfl, q, l, nd, r⟩, rfl⟩ := hv
      exact ⟨a, _, rfl, q, fun p hp => k _ (df (.dk _ _)) _ (same_new hp _) ⟨p, rfl, hp, ho p hp, xs, upd_same, l, nd, Reps.grow (grow_new hp) _ _ r⟩ h⟩
    · exact h.elim) hm boot_dict' ha hg (by decide) (by decide) he hpl
def sLenD : FT := fun ds φ => match ds with
  | [.dk ks l] => φ (dv (.int ks.length))
  | _ => False
theorem ed_lenD (hm : X.mg "len" = none) (ha : EA Γ X (e :: es) t) (hg : Gl X "len" := by rfl) (he : starEach (e :: es) X.env = (false, eval e X.env) :: starEach es X.env := by rfl) (hpl : (backTo pos (starEach es X.env)).any (·.1) = false := by rfl) : ED Γ X (.Call (.Name "len" p) (e :: es) [] pos) (dCB sLenD t) :=
  ed_callB call_lenD (fun H O ds vs φ Q ho hv h k => by
    unfold sLenD at h
    split at h
    · obtain ⟨v, ws, rfl, ⟨a, xs, rfl, q, l, nd, r⟩, rfl⟩ := hv
      refine ⟨a, _, rfl, q, ?_⟩
      rw [List.length_zip, r.length, ← l, Nat.min_self]
      exact k _ _ H (Same.refl H) (by exact rfl) h
    · exact h.elim) hm PySem.boot_len ha hg (by decide) (by decide) he hpl
def rngDn (lo : Int) (n : Nat) : List D := (List.range n).map fun (i : Nat) => D.int (lo + (i : Int) * (-1))
def iRD (t : TDs) : TID := fun ρ φ => t ρ fun rs => match rs with
  | [⟨_, .int i⟩, ⟨_, .int j⟩, ⟨_, .int k⟩] => k = -1 ∧ (-(2 ^ 62) ≤ i ∧ i < 2 ^ 62 ∧ -(2 ^ 62) ≤ j ∧ j < 2 ^ 62) ∧ φ (rngDn i (i - j).toNat)
  | _ => False
def sClr (i : Nat) : TDS := fun ρ Z => match slot ρ i with
  | some ⟨.own, .lst ds⟩ => Z.nx (setS ρ i (dO (.lst [])))
  | _ => False
theorem sd_clear (i : Nat) {x : Str} {np apos cpos : Pos} (hi : X.N[i]? = some x := by rfl) (hv : Vis X.env.scope x := by first | exact Or.inl rfl | exact Or.inr (Or.inl rfl) | exact Or.inr (Or.inr rfl))
    (hd : (x == ("__debug__" : Str)) = false := by decide) (hcd : (x == ("__classdict__" : Str)) = false := by decide)
    (hp : ∀ {ta : TE}, PE X (.Name x np) ta → PS X (.Expr (.Call (.Attribute (.Name x np) "clear" apos) [] [] cpos) pos) (tDrop (tBM0 X.K "list" rClear ta)) := by
      intro ta h1
      exact ps_expr (pe_bm0 PySem.F.plainAttrs_list PySem.F.slot_list_clear PySem.F.type_list_clear mt_clear h1)) :
    SD Γ X (.Expr (.Call (.Attribute (.Name x np) "clear" apos) [] [] cpos) pos) (sClr i) := fun H₀ => impS (hp (pe_var hi hv hd hcd)) fun D σ H h => by
  obtain ⟨ρ, o, R, Z, hZ, k1, k2, k3, k4⟩ := h
  unfold sClr at hZ
  split at hZ
  · rename_i ds es
    obtain ⟨v0, ev0, q0⟩ := R.slots i _ (slot_eq es)
    rcases q0 with ⟨k, _⟩ | ⟨_, a, rfl, m, c⟩
    · cases k
    obtain ⟨xs, hx, rx⟩ := c
    obtain ⟨R2, g2⟩ := R.chg (d' := .lst []) (ho := .lst []) (slot_eq es) ev0 m ⟨fun _ z => (by cases z), fun _ _ z => (by cases z)⟩ fun gr => ⟨[], upd_same, rfl⟩
    exact ⟨.ref a, ev0, .inl ⟨rfl, xs, SqL.of hx⟩, a, xs, rfl, rfl, hx, k1 _ σ _ o g2 R2 hZ⟩
  · exact hZ.elim
def sLaug (i : Nat) (tk te : TD) : TDS := fun ρ Z => match slot ρ i with
  | some ⟨.own, .lst ds⟩ => tk ρ fun kr => match kr.d with
    | .int k => (match ixN ds.length k with
      | some j => (match ds[j]? with
        | some (.int x) => te ρ fun r => (match r.d with
          | .int y => Z.nx (setS ρ i (dO (.lst (ds.set j (.int (x + y))))))
          | _ => False)
        | _ => False)
      | none => False)
    | _ => False
  | _ => False
theorem sd_laug (i : Nat) {x : Str} {ke : Expr} {tk : TD} {np tpos : Pos} (hk : ED Γ X ke tk) (he : ED Γ X e te) (hN : X.N[i]? = some x := by rfl) (hv : Vis X.env.scope x := by first | exact Or.inl rfl | exact Or.inr (Or.inl rfl) | exact Or.inr (Or.inr rfl)) (hd : (x == ("__debug__" : Str)) = false := by decide)
    (hcd : (x == ("__classdict__" : Str)) = false := by decide)
    (ha : ∀ ov iv new, augStore ke ov iv new = (do holding [new, ov, iv] (setItem ov iv new); release [new, ov, iv] []; pure .next) := by intros; rfl) : SD Γ X (.AugAssign (.Subscript (.Name x np) ke tpos) .Add e pos) (sLaug i tk te) := fun H₀ =>
  impS (ps_augS (pe_var hN hv hd hcd) (hk H₀) get_listP (he H₀) ip_add set_list ha) fun D σ H h => by
    obtain ⟨ρ, o, R, Z, hZ, k1, k2, k3, k4⟩ := h
    unfold sLaug at hZ
    split at hZ
    · rename_i ds es
      obtain ⟨v0, ev0, q0⟩ := R.slots i _ (slot_eq es)
      rcases q0 with ⟨k, _⟩ | ⟨_, a, rfl, m, c⟩
      · cases k
      obtain ⟨xs, hx, rx⟩ := c
      refine ⟨.ref a, ev0, ρ, o, R, _, hZ, fun v1 r1 H1 s1 rv1 h1 => ?_⟩
      have vw := rv1.view
      split at h1
      · rename_i k ek
        rw [ek] at vw
        cases (show v1 = _ from vw)
        split at h1
        · rename_i j ej
          split at h1
          · rename_i n en
            have hx1 := s1 _ _ hx
            have rx1 := Reps.grow (Grow.same s1) _ _ rx
            obtain ⟨z, ez, rz⟩ := rx1.get en
            cases (show z = _ from rz)
            refine ⟨a, xs, k, .int n, rfl, rfl, hx1, ?_, ρ, o, R.to s1, _, h1, fun v2 r2 H2 s2 rv2 h2 => ?_⟩
            · unfold atI
              rw [rx.length, ej]
              exact ez
            · have vw2 := rv2.view
              split at h2
              · rename_i y ey
                rw [ey] at vw2
                cases (show v2 = _ from vw2)
                have s12 := s1.trans s2
                have hx2 := s12 _ _ hx
                have rx2 := Reps.grow (Grow.same s12) _ _ rx
                refine ⟨n, y, rfl, rfl, a, xs, k, j, rfl, rfl, hx2, by rw [rx.length]; exact ej, ?_⟩
                obtain ⟨R3, g3⟩ := (R.to s12).chg (d' := .lst (ds.set j (.int (n + y)))) (ho := .lst (xs.set j (.int (n + y)))) (slot_eq es) ev0 m ⟨fun _ z => (by cases z), fun _ _ z => (by cases z)⟩ fun gr =>
                  ⟨xs.set j (.int (n + y)), upd_same, gr _ _ (rx2.set j (by exact rfl))⟩
                exact k1 _ σ _ o ((Grow.same s12).trans g3) R3 h2
              · exact h2.elim
          · exact h1.elim
        · exact h1.elim
      · exact h1.elim
    · exact hZ.elim
end
end DL

set_option Elab.async false
set_option linter.all false
set_option maxRecDepth 100000
set_option maxHeartbeats 4000000
namespace DL
open PySem PySem.Spec L2 L3
open PyProof.Rows hiding St
variable {Γ : Hp → Prop}
section
variable {X : Cx} {es : List Expr} {t : TDs} {tpos pos : Pos}
def pureRs : List EV → Prop
  | [] => True
  | r :: rs => pureEV r.ret ∧ pureRs rs
def sRetT (t : TDs) : TDS := fun ρ Z => t ρ fun rs => pureRs rs ∧ Nat.ble rs.length 1000 = true ∧ Z.rt ⟨.new, .tup (rs.map EV.d)⟩
theorem RVs.rets {K : PySem.W.Frag} {H₀ H H' : Hp} {σ : St} {ρ : DE} {o : List (Nat × Addr)} (R : REnv K H₀ H σ ρ o) : ∀ {rs : List EV} {vs : List V}, RVs K H H' (o.map Prod.snd) rs vs → pureRs rs → RepNs K H' (fun a => a ∉ ([] : List Addr) ∧ H₀ a = none) (rs.map EV.d) vs
  | [], _, h, _ => h
  | r :: rs, vs, h, p => by
    obtain ⟨v, ws, e, q, t⟩ := h
    have q' := (RV.ret R q).anew p.1
    exact ⟨v, ws, e, by
      have : r.ret.d = r.d := rfl
      rw [this] at q'
      exact q', RVs.rets R t p.2⟩
theorem sd_retT {x1} (h : EA Γ X es t) : SD Γ X (.Return (some (.Tuple es x1 tpos)) pos) (sRetT t) := fun H₀ => impS (ps_ret (pe_tup (h H₀))) fun D σ H h => by
  obtain ⟨ρ, o, R, Z, hZ, k1, k2, k3, k4⟩ := h
  refine ⟨ρ, o, R, _, hZ, fun vs rs H1 s1 rvs h1 => ⟨by rw [rvs.length]; exact le_line h1.2.1, fun p hp => ?_⟩⟩
  refine k4 _ ⟨.new, .tup (rs.map EV.d)⟩ _ (R.same.trans (s1.trans (same_new hp _))) ?_ h1.2.2
  exact ⟨p, vs, rfl, ⟨SqT.of upd_same, upd_same⟩, RepNs.to (same_new hp _) (fun _ z => z) _ _ (RVs.rets R rvs h1.1)⟩
end
end DL

set_option Elab.async false
set_option linter.all false
set_option maxRecDepth 100000
set_option maxHeartbeats 4000000
namespace DL
open PySem PySem.Spec L2 L3
open PyProof.Rows hiding St
section
variable {K : PySem.W.Frag} {H₀ H : Hp} {σ : St} {ρ : DE} {o : List (Nat × Addr)}
end
section
variable {Γ : Hp → Prop} {X : Cx} {st : Stmt} {rest : List Stmt} {t u : TDS} {e ke : Expr} {te tk : TD} {pos : Pos}
end
end DL

set_option Elab.async false
set_option linter.all false
set_option maxRecDepth 100000
set_option maxHeartbeats 4000000
namespace DL
open PySem PySem.Spec L2 L3
open PyProof.Rows hiding St
section
variable {P : Program} {w : World} {K : PySem.W.Frag} {mg : Str → Option Value} {base : Heap}
end
end DL

set_option Elab.async false
set_option linter.all false
set_option maxRecDepth 100000
set_option maxHeartbeats 4000000
namespace L2
open PySem PySem.Spec PyProof.Rows
section
variable {prog : Program} {w : World} {A : Around} {R : Result → Shared → Prop} {I : Addr} {fp wr : List Addr} {n : Nat} {P : Nat → Value → Prop} {St : Nat → Heap → Prop} {kw : List (Str × Value)}
end
section
variable {prog : Program} {w : World} {A : Around} {E : Value → Shared → Prop} {s : Shared} {l : Addr} {xs : Array (Int × Tok)}
end
section
variable {X : Cx}
end
end L2
namespace DL
open PySem PySem.Spec L2 L3
open PyProof.Rows hiding St
variable {Γ : Hp → Prop}
section
variable {X : Cx} {e de : Expr} {es : List Expr} {t : TDs} {te td : TD} {p kp pos : Pos}
end
end DL

set_option Elab.async false
set_option linter.all false
set_option maxRecDepth 100000
set_option maxHeartbeats 4000000
namespace DL
open PySem PySem.Spec L2 L3
open PyProof.Rows hiding St
variable {Γ : Hp → Prop}
section
variable {X : Cx} {a : Expr} {es : List Expr} {t : TDs} {ta : TD} {lp pos : Pos}
end
end DL

set_option Elab.async false
set_option linter.all false
set_option maxRecDepth 100000
set_option maxHeartbeats 4000000
namespace L2
open PySem PySem.Spec PyProof.Rows
section
variable {prog : Program} {w : World} {A : Around} {E : Value → Shared → Prop} {s : Shared}
end
section
variable {prog : Program} {w : World} {K : Type} [DecidableEq K] {knd : KeyKind prog w K} {A : Around} {s : Shared} {R : Result → Shared → Prop}
end
end L2

set_option Elab.async false
set_option linter.all false
set_option maxRecDepth 100000
set_option maxHeartbeats 4000000
namespace L2
open PySem PySem.Spec PyProof.Rows
section
variable {prog : Program} {w : World} {A : Around} {E : Value → Shared → Prop} {s : Shared}
end
end L2

set_option Elab.async false
set_option linter.all false
set_option maxRecDepth 100000
set_option maxHeartbeats 4000000
namespace L2
open PySem PySem.Spec PyProof.Rows
section
variable {X : Cx}
/-- dict(pairs) -/
def PairsOf (K : PySem.W.Frag) (H : Hp) : List V → List (Key × V) → Prop := Paired fun p kv => ∃ b, p = V.ref b ∧ SqT K H b [kV kv.1, kv.2]
theorem pairs_at {K : PySem.W.Frag} {H : Hp} : ∀ {ps : List V} {kvs : List (Key × V)}, PairsOf K H ps kvs → ∀ (j : Nat) p, ps[j]? = some p → ∃ kv, kvs[j]? = some kv ∧ ∃ b, p = V.ref b ∧ SqT K H b [kV kv.1, kv.2]
  | _, _, .nil, _, _, e => by simp at e
  | _, _, .cons h _, 0, _, e => by simp at e; subst e; exact ⟨_, rfl, h⟩
  | _, _, .cons _ t, j + 1, p, e => by
    obtain ⟨kv, h1, h2⟩ := pairs_at t j p (by simpa using e)
    exact ⟨kv, by simpa using h1, h2⟩
end
end L2

set_option Elab.async false
set_option linter.all false
set_option maxRecDepth 100000
set_option maxHeartbeats 4000000
namespace DL
open PySem PySem.Spec L2 L3
open PyProof.Rows hiding St
variable {Γ : Hp → Prop}
section
variable {X : Cx} {e ke : Expr} {es : List Expr} {t : TDs} {te tk : TD} {p p2 pos pos2 : Pos}
def kD : Key → D
  | .inl i => .int i
  | .inr x => .str x
end
end DL

set_option Elab.async false
set_option linter.all false
set_option maxRecDepth 100000
set_option maxHeartbeats 4000000
namespace L2
open PySem PySem.Spec PyProof.Rows
section
variable {X : Cx} {tg : Expr} {pins : List (Addr × Obj)} {σ : St} {H : Hp} {s : Shared} {a : Addr} {ob : Obj} {kvs : List (Key × V)}
/-- the values of a dict that is held fast -/
def Itv (a : Addr) (ob : Obj) (kvs : List (Key × V)) : It := ⟨fun i H => H a = some (.frz ob (.dK kvs)) ∧ i < kvs.length, fun i H x H' => H' = H ∧ ∃ k, kvs[i]? = some (k, x), fun i H => H a = some (.frz ob (.dK kvs)) ∧ i = kvs.length⟩
theorem KV.at {κ : Type} : ∀ {kvs : List (κ × V)} {vs : List (κ × Value)} {i : Nat} {p : κ × V}, KV kvs vs → kvs[i]? = some p → ∃ u, vs[i]? = some (p.1, u) ∧ RelV p.2 u
  | _, _, i, _, .nil, e => by simp at e
  | _, _, 0, p, .cons r t, e => by
    simp at e
    subst e
    rename_i b _ _
    exact ⟨b.2, by simp [r.1], r.2⟩
  | _, _, i + 1, p, .cons r t, e => by
    obtain ⟨u, h1, h2⟩ := KV.at (i := i) (p := p) t (by simpa using e)
    exact ⟨u, by simpa using h1, h2⟩
end
end L2
namespace DL
open PySem PySem.Spec L2 L3
open PyProof.Rows hiding St
section
variable {X : Cx} {tg elt : Expr} {ifs : List Expr} {scope : Scope} {T : List Str} {g2 : TG} {g : TGD} {tc : TDb} {te : TD} {pos : Pos}
end
end DL

set_option Elab.async false
set_option linter.all false
set_option maxRecDepth 100000
set_option maxHeartbeats 4000000
namespace L2
open PySem PySem.Spec PyProof.Rows
section
variable {X : Cx}
end
end L2
namespace DL
open PySem PySem.Spec L2 L3
open PyProof.Rows hiding St
variable {Γ : Hp → Prop}
section
variable {X : Cx} {e : Expr} {es : List Expr} {t : TDs} {te : TD} {p pos : Pos}
def sPopX (i : Nat) : TDS := fun ρ Z => match slot ρ i with
  | some ⟨.own, .lst ds⟩ => match popD ds with
    | some (ds', d) => Z.nx (setS ρ i (dO (.lst ds')))
    | none => False
  | _ => False
theorem sd_popX (i : Nat) {x : Str} {np apos cpos : Pos} (hi : X.N[i]? = some x := by rfl) (hv : Vis X.env.scope x := by first | exact Or.inl rfl | exact Or.inr (Or.inl rfl) | exact Or.inr (Or.inr rfl))
    (hd : (x == ("__debug__" : Str)) = false := by decide) (hcd : (x == ("__classdict__" : Str)) = false := by decide)
    (hp : ∀ {ta : TE}, PE X (.Name x np) ta → PS X (.Expr (.Call (.Attribute (.Name x np) "pop" apos) [] [] cpos) pos) (tDrop (tBM0 X.K "list" rPop ta)) := by
      intro ta h1
      exact ps_expr (pe_bm0 PySem.F.plainAttrs_list PySem.F.slot_list_pop PySem.F.type_list_pop mt_pop h1)) :
    SD Γ X (.Expr (.Call (.Attribute (.Name x np) "pop" apos) [] [] cpos) pos) (sPopX i) := fun H₀ => impS (hp (pe_var hi hv hd hcd)) fun D σ H h => by
  obtain ⟨ρ, o, R, Z, hZ, k1, k2, k3, k4⟩ := h
  unfold sPopX at hZ
  split at hZ
  · rename_i ds es
    obtain ⟨v0, ev0, q0⟩ := R.slots i _ (slot_eq es)
    rcases q0 with ⟨k, _⟩ | ⟨_, a, rfl, m, c⟩
    · cases k
    obtain ⟨xs, hx, rx⟩ := c
    split at hZ
    · rename_i ds' d ep
      obtain ⟨yv, ey, hyv, rd⟩ := reps_pop rx ep
      obtain ⟨R2, g2⟩ := R.chg (d' := .lst ds') (ho := .lst xs.dropLast) (slot_eq es) ev0 m ⟨fun _ z => (by cases z), fun _ _ z => (by cases z)⟩ fun gr => ⟨xs.dropLast, upd_same, gr _ _ rd⟩
      refine ⟨.ref a, ev0, .inl ⟨rfl, xs, SqL.of hx⟩, a, xs, yv, rfl, rfl, hx, ey, ?_⟩
      exact k1 _ _ _ o g2 R2 hZ
    · exact hZ.elim
  · exact hZ.elim
end
end DL

set_option Elab.async false
set_option linter.all false
set_option maxRecDepth 100000
set_option maxHeartbeats 8000000
namespace L3
open PySem PySem.Spec L2
open PyProof.Rows hiding St
end L3
namespace DL
open PySem PySem.Spec L2 L3
open PyProof.Rows hiding St
variable {Γ : Hp → Prop}
section
variable {X : Cx}
end
end DL

set_option Elab.async false
set_option linter.all false
set_option maxRecDepth 100000
set_option maxHeartbeats 4000000
namespace L2
open PySem PySem.Spec PyProof.Rows
section
variable {X : Cx} {e : Expr} {te : TE} {lo hi : Option Expr} {st : Expr} {tl th ts : TO} {pos p2 : Pos}
end
end L2
namespace DL
open PySem PySem.Spec L2 L3
open PyProof.Rows hiding St
variable {Γ : Hp → Prop}
section
variable {X : Cx} {e : Expr} {te : TD} {pos : Pos}
end
end DL

set_option Elab.async false
set_option linter.all false
set_option maxRecDepth 100000
set_option maxHeartbeats 4000000
namespace DL
open PySem PySem.Spec L2 L3
open PyProof.Rows hiding St
variable {Γ : Hp → Prop}
abbrev TK := List Key
instance decMemTK (k : TK) (ks : List TK) : Decidable (k ∈ ks) := decidable_of_iff (ks.any (fun x => decide (x = k)) = true) (by simp)
section
variable {α : Type}
def lookAT : List TK → List α → TK → Option α
  | k' :: ks, d :: ds, k => if k' = k then some d else lookAT ks ds k
  | _, _, _ => none
def kputT (ks : List TK) (k : TK) : List TK := if k ∈ ks then ks else ks ++ [k]
def dputT : List TK → List α → TK → α → List α
  | k' :: ks, d' :: ds, k, d => if k' = k then d :: ds else d' :: dputT ks ds k d
  | _, _, _, d => [d]
end
theorem valV_zipT : ∀ (ks : List TK) (xs : List V) (k : TK), valV (ks.zip xs) k = lookAT ks xs k
  | [], xs, k => by cases xs <;> rfl
  | k' :: ks, [], k => rfl
  | k' :: ks, x :: xs, k => by
    rw [List.zip_cons_cons, lookAT]
    by_cases e : k' = k
    · rw [if_pos e, valV_pos (by exact e)]
    · rw [if_neg e, valV_neg (by exact e), valV_zipT ks xs k]
theorem map_offT : ∀ (ks : List TK) (xs : List V) (k : TK) (v : V), k ∉ ks → (ks.zip xs).map (fun kv => if kv.1 = k then (kv.1, v) else kv) = ks.zip xs
  | [], xs, k, v, _ => by cases xs <;> rfl
  | k' :: ks, [], k, v, _ => rfl
  | k' :: ks, x :: xs, k, v, h => by
    rw [List.zip_cons_cons, List.map_cons, map_offT ks xs k v fun z => h (List.mem_cons_of_mem _ z)]
    rw [if_neg (by intro z; exact h (List.mem_cons.mpr (.inl z.symm)))]
theorem any_zipT : ∀ {ks : List TK} {xs : List V} {k : TK}, ks.length = xs.length → (((ks.zip xs).any fun kv => decide (kv.1 = k)) = true ↔ k ∈ ks)
  | [], xs, k, h => by cases xs <;> simp at *
  | k' :: ks, [], k, h => by simp at h
  | k' :: ks, x :: xs, k, h => by
    rw [List.zip_cons_cons, List.any_cons, Bool.or_eq_true, any_zipT (by simpa using h)]
    simp [eq_comm]
theorem map_onT : ∀ {ks : List TK} {xs : List V} {k : TK} {v : V}, ks.Nodup → ks.length = xs.length → k ∈ ks → (ks.zip xs).map (fun kv => if kv.1 = k then (kv.1, v) else kv) = ks.zip (dputT ks xs k v)
  | [], _, _, _, _, _, h => by cases h
  | k' :: ks, [], _, _, _, h, _ => by simp at h
  | k' :: ks, x :: xs, k, v, nd, hl, h => by
    obtain ⟨n1, n2⟩ := List.nodup_cons.mp nd
    rw [List.zip_cons_cons, List.map_cons, dputT]
    by_cases e : k' = k
    · subst e
      rw [if_pos rfl, if_pos rfl, map_offT ks xs k' v n1, List.zip_cons_cons]
    · rw [if_neg e, if_neg e, List.zip_cons_cons, map_onT n2 (by simpa using hl) ((List.mem_cons.mp h).resolve_left (Ne.symm e))]
theorem dput_newT {α : Type} : ∀ {ks : List TK} {xs : List α} {k : TK} {v : α}, ks.length = xs.length → k ∉ ks → dputT ks xs k v = xs ++ [v]
  | [], xs, k, v, h, _ => by
    cases xs with
    | nil => rfl
    | cons => simp at h
  | k' :: ks, [], _, _, h, _ => by simp at h
  | k' :: ks, x :: xs, k, v, h, hn => by
    rw [dputT, if_neg (fun z => hn (List.mem_cons.mpr (.inl z.symm))), dput_newT (by simpa using h) fun z => hn (List.mem_cons_of_mem _ z)]
    rfl
theorem putK_zipT {ks : List TK} {xs : List V} {k : TK} {v : V} (nd : ks.Nodup) (hl : ks.length = xs.length) : putK (ks.zip xs) k v = (kputT ks k).zip (dputT ks xs k v) := by
  unfold putK kputT
  by_cases h : k ∈ ks
  · rw [if_pos ((any_zipT hl).mpr h), if_pos h, map_onT nd hl h]
  · rw [if_neg (fun z => h ((any_zipT hl).mp z)), if_neg h, dput_newT hl h, List.zip_append hl]
    rfl
theorem dput_lenT {α : Type} : ∀ {ks : List TK} {xs : List α} {k : TK} {v : α}, ks.length = xs.length → (kputT ks k).length = (dputT ks xs k v).length := fun {ks xs k v} h => by
  by_cases hk : k ∈ ks
  · unfold kputT
    rw [if_pos hk]
    induction ks generalizing xs with
    | nil => cases hk
    | cons k' ks ih =>
      cases xs with
      | nil => simp at h
      | cons x xs =>
        rw [dputT]
        by_cases e : k' = k
        · rw [if_pos e]; simpa using h
        · rw [if_neg e]
          have := ih (xs := xs) (by simpa using h) ((List.mem_cons.mp hk).resolve_left (Ne.symm e))
          simp [this]
  · rw [dput_newT h hk]
    unfold kputT
    rw [if_neg hk]
    simp [h]
theorem kput_nodupT {ks : List TK} {k : TK} (nd : ks.Nodup) : (kputT ks k).Nodup := by
  unfold kputT
  split
  · exact nd
  · rename_i h
    exact List.nodup_append.mpr ⟨nd, by simp, by intro a ha b hb e; simp at hb; subst hb; exact h (e ▸ ha)⟩
section
variable {K : PySem.W.Frag} {H : Hp} {O : List Addr}
theorem reps_lookT : ∀ {ks : List TK} {ds : List D} {xs : List V} {k : TK}, Reps K H O ds xs → (∀ d, lookAT ks ds k = some d → ∃ v, lookAT ks xs k = some v ∧ Rep K H O d v) ∧ (lookAT ks ds k = none → lookAT ks xs k = none)
  | [], ds, xs, k, r => ⟨(fun d h => by cases ds <;> cases h), (fun _ => by cases xs <;> rfl)⟩
  | k' :: ks, [], xs, k, r => by
    cases r
    exact ⟨(fun d h => by cases h), fun _ => rfl⟩
  | k' :: ks, d' :: ds, xs, k, r => by
    obtain ⟨v, ws, rfl, q, t⟩ := r
    rw [lookAT, lookAT]
    by_cases e : k' = k
    · rw [if_pos e, if_pos e]
      exact ⟨(fun d h => by cases h; exact ⟨v, rfl, q⟩), (fun h => by cases h)⟩
    · rw [if_neg e, if_neg e]
      exact reps_lookT t
theorem reps_dputT : ∀ {ks : List TK} {ds : List D} {xs : List V} {k : TK} {d : D} {v : V}, Reps K H O ds xs → Rep K H O d v → Reps K H O (dputT ks ds k d) (dputT ks xs k v)
  | [], ds, xs, k, d, v, r, q => by
    have e1 : dputT ([] : List TK) ds k d = [d] := by cases ds <;> rfl
    have e2 : dputT ([] : List TK) xs k v = [v] := by cases xs <;> rfl
    rw [e1, e2]
    exact Reps.one q
  | k' :: ks, [], xs, k, d, v, r, q => by
    cases r
    exact Reps.one q
  | k' :: ks, d' :: ds, xs, k, d, v, r, q => by
    obtain ⟨v', ws, rfl, q', t⟩ := r
    rw [dputT, dputT]
    by_cases e : k' = k
    · rw [if_pos e, if_pos e]
      exact ⟨v, ws, rfl, q, t⟩
    · rw [if_neg e, if_neg e]
      exact ⟨v', _, rfl, q', reps_dputT t q⟩
end

def keysD : List D → Option (List Key)
  | [] => some []
  | d :: ds => match keyD d, keysD ds with
    | some k, some ks => some (k :: ks)
    | _, _ => none
def keyT : D → Option TK
  | .tup ds => keysD ds
  | _ => none
theorem keysD_reps {K : PySem.W.Frag} {H : Hp} {O : List Addr} : ∀ {ds : List D} {xs : List V} {k : TK}, Reps K H O ds xs → keysD ds = some k → xs = k.map kV
  | [], xs, k, r, e => by cases r; cases e; rfl
  | d :: ds, xs, k, r, e => by
    obtain ⟨v, ws, rfl, q, t⟩ := r
    rw [keysD] at e
    split at e
    · rename_i k1 k2 e1 e2
      cases e
      rw [List.map_cons, ← keysD_reps t e2, ← key_view q.view e1]
    · cases e
theorem key_viewT {K : PySem.W.Frag} {H : Hp} {O : List Addr} {d : D} {v : V} {k : TK} (h : View K H O d v) (e : keyT d = some k) : ∃ b, v = .ref b ∧ H b = some (.tup (k.map kV)) := by
  cases d with
  | tup ds =>
    obtain ⟨b, xs, rfl, q, r⟩ := h
    exact ⟨b, rfl, by rw [← keysD_reps r e]; exact q.2⟩
  | _ => cases e
section
variable {X : Cx} {a b c e o : Expr} {es : List Expr} {ta tb tc te td : TD} {t : TDs} {pos : Pos}
theorem ed_dict0T : ED Γ X (.Dict [] [] pos) (fun _ φ => φ (df (.dt [] []))) := fun H₀ => impE pe_dnewT fun σ H Q q => by
  obtain ⟨ρ, o, R, φ, hφ, k⟩ := q
  intro p hp
  exact k (.ref p) (df (.dt [] [])) _ (same_new hp _) ⟨p, rfl, hp, R.ofree hp, [], upd_same, rfl, List.nodup_nil, rfl⟩ hφ
def sInT (neg : Bool) : D → D → (EV → Prop) → Prop := fun x y φ => match y with
  | .dt ks _ => (match keyT x with | some k => φ (dv (.bl (if neg then !decide (k ∈ ks) else decide (k ∈ ks)))) | none => False)
  | _ => False
def sIxT : D → D → (EV → Prop) → Prop := fun x y φ => match x with
  | .dt ks ds => (match keyT y with
    | some k => (match lookAT ks ds k with
      | some d => φ (dv d)
      | none => False)
    | none => False)
  | _ => False
def dGet2T (td tk tx : TD) : TD := fun ρ φ => td ρ fun r => match r.d with
  | .dt ks ds => tk ρ fun y => tx ρ fun z => (match z.k with | .own => False | _ => True) ∧ (match keyT y.d with
    | some k => φ (dv ((lookAT ks ds k).getD z.d))
    | none => False)
  | _ => False
theorem ed_get2T {f : Expr} {tf : TD} {apos cpos : Pos} (hu : X.A.units + 64 < cLine) (ho : ED Γ X o td) (he : ED Γ X e te) (hf : ED Γ X f tf) (m : M2 X o "get" apos e f cpos := by exact ⟨rfl, rfl, rfl, rfl⟩) : ED Γ X (.Call (.Attribute o "get" apos) [e, f] [] cpos) (dGet2T td te tf) := fun H₀ =>
  impE (pe_dget2 (by omega) (ho H₀) (he H₀) (hf H₀) m) fun σ H Q q => by
    obtain ⟨ρ, o, R, φ, hφ, kk⟩ := q
    refine ⟨ρ, o, R, _, hφ, fun v r H1 s1 rv h1 => ?_⟩
    obtain ⟨kd, d⟩ := r
    cases d with
    | dt ks ds =>
      obtain ⟨a, xs, rfl, q, l, nd, rp⟩ := rv.view
      refine ⟨a, rfl, .inr ⟨_, .inl q⟩, ρ, o, R.to s1, _, h1, fun v2 r2 H2 s2 rv2 h2 => ⟨ρ, o, R.to (s1.trans s2), _, h2, fun v3 r3 H3 s3 rv3 h3 => ?_⟩⟩
      obtain ⟨h0, h3⟩ := h3
      split at h3
      · rename_i k ek
        have q3 := s3 _ _ (s2 _ _ q)
        obtain ⟨b, rfl, hb⟩ := key_viewT (rv2.same s3).view ek
        have rp3 := Reps.grow (Grow.same (s2.trans s3)) _ _ rp
        refine ⟨_, DGet.t q3 hb, ?_⟩
        rw [valV_zipT]
        have s13 := s1.trans (s2.trans s3)
        cases el : lookAT ks ds k with
        | none =>
          rw [(reps_lookT (ks := ks) (k := k) rp3).2 el]
          rw [el] at h3
          exact kk _ _ H3 s13 (RV.val (rv3.solid (notOwn h0))) h3
        | some d =>
          obtain ⟨w, ew, rw⟩ := (reps_lookT (ks := ks) (k := k) rp3).1 d el
          rw [ew]
          rw [el] at h3
          exact kk _ _ H3 s13 (RV.val rw) h3
      · exact h3.elim
    | _ => exact h1.elim
end
section
variable {X : Cx} {x : Str} {e ke : Expr} {te tk : TD} {np pos pos' : Pos}
def sDputT (i : Nat) (tk te : TD) : TDS := fun ρ Z => match slot ρ i with
  | some ⟨.own, .dt ks ds⟩ => te ρ fun r => tk ρ fun kr => (match r.k with | .own => False | _ => True) ∧ ds.length ≤ 100000 ∧ (match keyT kr.d with
    | some k => Z.nx (setS ρ i (dO (.dt (kputT ks k) (dputT ks ds k r.d))))
    | none => False)
  | _ => False
theorem sd_dputT (i : Nat) (hu : X.A.units + 64 < cLine) (hk : ED Γ X ke tk) (he : ED Γ X e te) (hN : X.N[i]? = some x := by rfl) (hv : Vis X.env.scope x := by first | exact Or.inl rfl | exact Or.inr (Or.inl rfl) | exact Or.inr (Or.inr rfl)) (hd : (x == ("__debug__" : Str)) = false := by decide)
    (hcd : (x == ("__classdict__" : Str)) = false := by decide) (hs : swapsWith e (some (.Subscript (.Name x np) ke pos')) pos.line X.env = pure false := by rfl) : SD Γ X (.Assign [.Subscript (.Name x np) ke pos'] e pos) (sDputT i tk te) := fun H₀ =>
  impS (ps_dput (by omega) (pe_var hN hv hd hcd) (hk H₀) (he H₀) hs) fun D σ H h => by
    obtain ⟨ρ, o, R, Z, hZ, k1, k2, k3, k4⟩ := h
    unfold sDputT at hZ
    split at hZ
    · rename_i ks ds es
      obtain ⟨v0, ev0, q0⟩ := R.slots i _ (slot_eq es)
      rcases q0 with ⟨k, _⟩ | ⟨_, a, rfl, m, c⟩
      · cases k
      obtain ⟨xs, hx, hl, nd, rx⟩ := c
      refine ⟨ρ, o, R, _, hZ, fun v r H1 s1 rv h1 => ⟨.ref a, ev0, ρ, o, R.to s1, _, h1, fun v2 r2 H2 s2 rv2 h2 => ?_⟩⟩
      obtain ⟨h0, hlen, h2⟩ := h2
      split at h2
      · rename_i k ek
        obtain ⟨b, rfl, hb⟩ := key_viewT rv2.view ek
        have s12 := s1.trans s2
        have hx2 := s12 _ _ hx
        have rx2 := Reps.grow (Grow.same s12) _ _ rx
        have xl : ks.length = xs.length := by rw [hl, rx.length]
        refine ⟨a, _, rfl, DPut.t hx2 hb ?_, ?_⟩
        · rw [List.length_zip, xl, Nat.min_self, rx.length]
          exact Nat.lt_of_le_of_lt hlen (by decide)
        · rw [putK_zipT nd xl]
          obtain ⟨R3, g3⟩ := (R.to s12).chg (d' := .dt (kputT ks k) (dputT ks ds k r.d)) (ho := .dT ((kputT ks k).zip (dputT ks xs k v))) (slot_eq es) ev0 m ⟨fun _ z => (by cases z), fun _ _ z => (by cases z)⟩ fun gr =>
            ⟨dputT ks xs k v, upd_same, dput_lenT hl, kput_nodupT nd, gr _ _ (reps_dputT rx2 ((rv.same s2).solid (notOwn h0)))⟩
          exact k1 _ σ _ o ((Grow.same s12).trans g3) R3 h2
      · exact h2.elim
    · exact hZ.elim
end
end DL

set_option Elab.async false
set_option linter.all false
set_option maxRecDepth 100000
set_option maxHeartbeats 4000000
namespace L2
open PySem PySem.Spec PySem.W PyProof.Rows
/-- a dict by its rows alone -/
def RawD (h : Heap) (d : Addr) (rows : Array DictEntry) (ep : Nat) : Prop := ∃ o, h.get? d = some o ∧ o.ExactDict ∧ o.data = .dict rows ep
theorem RawD.ty {s : Shared} {d : Addr} {rows : Array DictEntry} {ep : Nat} (x : RawD s.heap d rows ep) : s.TypeIs (.ref d) "dict" := let ⟨o, g, c, _⟩ := x; ⟨o, g, c.1⟩
theorem RawD.to {h k : Heap} {d : Addr} {rows : Array DictEntry} {ep : Nat} (x : RawD h d rows ep) (f : ∀ o, h.get? d = some o → k.get? d = some o) : RawD k d rows ep := let ⟨o, g, r⟩ := x; ⟨o, f o g, r⟩
theorem RawD.lt {h : Heap} {d : Addr} {rows : Array DictEntry} {ep : Nat} (x : RawD h d rows ep) : d < h.objs.size := let ⟨_, g, _⟩ := x; Heap.lt_size g
section
variable {prog : Program} {w : World} {A : Around} {E : Value → Shared → Prop} {s : Shared} {D J : Addr} {rows : Array DictEntry} {ep i : Nat}
end
end L2

set_option Elab.async false
set_option linter.all false
set_option maxRecDepth 100000
set_option maxHeartbeats 4000000
namespace L2
open PySem PySem.Spec PySem.W PyProof.Rows
section
variable {n : Nat} {cmp : Nat → Nat → (Bool → Shared → Prop) → Shared → Prop} {s : Shared}
abbrev POrd (n : Nat) (p : Array Nat) : Prop := p.Perm (List.toArray (List.range n))
theorem POrd.lt {p : Array Nat} (h : POrd n p) (hn : 0 < n) (i : Nat) : p.getD i 0 < n := by
  by_cases hi : i < p.size
  · have e : p.getD i 0 = p[i] := by simp [Array.getD, hi]
    rw [e]
    have m : p[i] ∈ List.toArray (List.range n) := h.mem_iff.mp (Array.getElem_mem hi)
    simpa using m
  · have e : p.getD i 0 = 0 := by simp [Array.getD, hi]
    omega
end
/-- at b a tuple of these whole numbers -/
def TupZ (h : Heap) (b : Addr) (ns : List Int) : Prop := ∃ o its k, h.get? b = some o ∧ o.cls = .type "tuple" ∧ o.data = .seq its k ∧ Vals (ns.map V.int) its.toList
theorem TupZ.to {h k : Heap} {b : Addr} {ns : List Int} (x : TupZ h b ns) (f : ∀ o, h.get? b = some o → k.get? b = some o) : TupZ k b ns := let ⟨o, its, n, g, r⟩ := x; ⟨o, its, n, f o g, r⟩
section
variable {prog : Program} {w : World} {A : Around} {E : Value → Shared → Prop} {s : Shared}
end
end L2

set_option Elab.async false
set_option linter.all false
set_option maxRecDepth 100000
set_option maxHeartbeats 4000000
namespace L2
open PySem PySem.Spec PySem.W PyProof.Rows
section
variable {prog : Program} {w : World} {A : Around} {E : Value → Shared → Prop} {s : Shared}
end
end L2

set_option Elab.async false
set_option linter.all false
set_option maxRecDepth 100000
set_option maxHeartbeats 4000000
namespace L2
open PySem PySem.Spec PySem.W PyProof.Rows
theorem vals_refs : ∀ bs : List Addr, Vals (bs.map V.ref) (bs.map Value.ref)
  | [] => .nil
  | b :: bs => .cons rfl (vals_refs bs)
section
variable {X : Cx}
end
end L2

set_option Elab.async false
set_option linter.all false
set_option maxRecDepth 100000
set_option maxHeartbeats 4000000
namespace DL
open PySem PySem.Spec L2 L3
open PyProof.Rows hiding St
variable {Γ : Hp → Prop}
/-- the tuple that is the key k -/
def tkD (k : TK) : D := .tup (k.map kD)
theorem reps_kD {K : PySem.W.Frag} {H : Hp} {O : List Addr} : ∀ k : TK, Reps K H O (k.map kD) (k.map kV)
  | [] => rfl
  | .inl i :: k => ⟨_, _, rfl, rfl, reps_kD k⟩
  | .inr x :: k => ⟨_, _, rfl, rfl, reps_kD k⟩
theorem rep_tk {K : PySem.W.Frag} {H : Hp} {O : List Addr} {k : TK} {b : Addr} (h : H b = some (.tup (k.map kV))) : Rep K H O (tkD k) (.ref b) := ⟨b, _, rfl, ⟨SqT.of h, h⟩, reps_kD k⟩
section
variable {X : Cx} {e : Expr} {es : List Expr} {t : TDs} {te : TD} {p pos : Pos}
end
theorem keysD_map : ∀ k : TK, keysD (k.map kD) = some k
  | [] => rfl
  | .inl i :: k => by rw [List.map_cons, keysD, keysD_map k]; rfl
  | .inr i :: k => by rw [List.map_cons, keysD, keysD_map k]; rfl
theorem keyT_tk (k : TK) : keyT (tkD k) = some k := keysD_map k
end DL

set_option Elab.async false
set_option linter.all false
set_option maxRecDepth 100000
set_option maxHeartbeats 4000000
namespace L2
open PySem PySem.Spec PySem.W PyProof.Rows
section
variable {n : Nat} {lt : Nat → Nat → Bool} {cmp : Nat → Nat → (Bool → Shared → Prop) → Shared → Prop} {s : Shared}
abbrev at0 (p : Array Nat) (i : Nat) : Nat := p.getD i 0
theorem at0_get {p : Array Nat} {i : Nat} : at0 p i = (p[i]?).getD 0 := by
  unfold at0
  simp
theorem POrd.size {p : Array Nat} (h : POrd n p) : p.size = n := by
  have := h.size_eq
  simpa using this
theorem POrd.inj {p : Array Nat} (h : POrd n p) {i j : Nat} (hi : i < n) (hj : j < n) (e : at0 p i = at0 p j) : i = j := by
  have nd : p.toList.Nodup := by
    have h1 : p.toList.Perm (List.range n) := by simpa using h.toList
    exact h1.nodup_iff.mpr List.nodup_range
  have hs := h.size
  have e1 : at0 p i = p.toList[i]'(by simpa [hs] using hi) := by rw [at0_get, Array.getElem?_eq_getElem (by omega)]; simp
  have e2 : at0 p j = p.toList[j]'(by simpa [hs] using hj) := by rw [at0_get, Array.getElem?_eq_getElem (by omega)]; simp
  rw [e1, e2] at e
  have pw := List.pairwise_iff_getElem.mp nd
  rcases Nat.lt_trichotomy i j with z | z | z
  · exact absurd e (pw i j _ _ z)
  · exact z
  · exact absurd e.symm (pw j i _ _ z)
end
end L2

set_option Elab.async false
set_option linter.all false
set_option maxRecDepth 100000
set_option maxHeartbeats 4000000
namespace L2
open PySem PySem.Spec PySem.W PyProof.Rows
section
variable {prog : Program} {w : World} {A : Around} {E : Value → Shared → Prop} {s : Shared}
end
section
variable {X : Cx}
end
end L2

set_option Elab.async false
set_option linter.all false
set_option maxRecDepth 100000
set_option maxHeartbeats 4000000
namespace DL
open PySem PySem.Spec L2 L3
open PyProof.Rows hiding St
variable {Γ : Hp → Prop}
section
variable {X : Cx} {e : Expr} {es : List Expr} {t : TDs} {te : TD} {p pos : Pos}
end
end DL

set_option Elab.async false
set_option linter.all false
set_option maxRecDepth 100000
set_option maxHeartbeats 8000000
namespace L3
open PySem PySem.Spec PyProof.Rows
section
variable {P : Program} {w : World} {A : Around} {E : Value → Shared → Prop} {s : Shared}
theorem SqAt.push {b : Bool} {h : Heap} {l : Addr} {xs : Array Value} (x : SqAt b h l xs) (o : Obj) : SqAt b (h.push o) l xs := x.at fun _ e => Heap.get?_push_of_some _ e
end
end L3

set_option Elab.async false
set_option linter.all false
set_option maxRecDepth 100000
set_option maxHeartbeats 8000000
namespace L3
open PySem PySem.Spec L2
open PyProof.Rows hiding St
end L3
namespace DL
open PySem PySem.Spec L2 L3
open PyProof.Rows hiding St
variable {Γ : Hp → Prop}
section
variable {X : Cx} {pins : List (Addr × Obj)} {σ : St} {H : Hp} {s : Shared}
end
end DL

set_option Elab.async false
set_option linter.all false
set_option maxRecDepth 100000
set_option maxHeartbeats 4000000
namespace DL
open PySem PySem.Spec L2 L3
open PyProof.Rows hiding St
variable {Γ : Hp → Prop}
section
variable {X : Cx} {a b c : Expr} {ta tb tc : TD} {pos : Pos}
end
end DL

set_option Elab.async false
set_option linter.all false
set_option maxRecDepth 100000
set_option maxHeartbeats 8000000
namespace LQ
open PySem PySem.Spec L2 L3
open PyProof.Rows hiding St

def dd (l : List Str) (k : Str) : List Str := if k ∈ l then l else l ++ [k]
def fm (val : Nat → Str) (i : Nat) : List Str := ((List.range i).map val).foldl dd []
theorem fm_succ (val : Nat → Str) (i : Nat) : fm val (i + 1) = dd (fm val i) (val i) := by
  unfold fm
  rw [List.range_succ, List.map_append, List.foldl_append]
  rfl
theorem mem_dd {l : List Str} {k x : Str} : x ∈ dd l k ↔ x ∈ l ∨ x = k := by
  unfold dd
  split
  · rename_i h
    exact ⟨.inl, fun q => q.elim (fun z => z) fun z => z ▸ h⟩
  · rw [List.mem_append, List.mem_singleton]
theorem len_dd (l : List Str) (k : Str) : (dd l k).length = if k ∈ l then l.length else l.length + 1 := by
  unfold dd
  split <;> simp
theorem fold_dd_le : ∀ (l acc : List Str), (l.foldl dd acc).length ≤ acc.length + l.length
  | [], acc => Nat.le_refl _
  | x :: r, acc => by
    have q := fold_dd_le r (dd acc x)
    have z := len_dd acc x
    rw [List.foldl_cons, List.length_cons]
    split at z <;> omega
theorem fold_dd_eq : ∀ (l acc : List Str), ((l.foldl dd acc).length = acc.length + l.length) ↔ (l.Nodup ∧ ∀ x ∈ l, x ∉ acc)
  | [], acc => by simp
  | x :: r, acc => by
    rw [List.foldl_cons, List.length_cons, List.nodup_cons]
    by_cases h : x ∈ acc
    · have e : dd acc x = acc := by unfold dd; rw [if_pos h]
      rw [e]
      have q := fold_dd_le r acc
      constructor
      · intro z; omega
      · intro z; exact absurd h (z.2 x (List.mem_cons_self ..))
    · have e : dd acc x = acc ++ [x] := by unfold dd; rw [if_neg h]
      have q := fold_dd_eq r (acc ++ [x])
      rw [e]
      rw [List.length_append, List.length_singleton] at q
      constructor
      · intro z
        obtain ⟨n1, n2⟩ := q.mp (by omega)
        refine ⟨⟨fun hx => n2 x hx (by simp), n1⟩, fun y hy => ?_⟩
        rcases List.mem_cons.mp hy with rfl | hy
        · exact h
        · exact fun z => n2 y hy (List.mem_append_left _ z)
      · rintro ⟨⟨n0, n1⟩, n2⟩
        have := q.mpr ⟨n1, fun y hy z => by
          rcases List.mem_append.mp z with z | z
          · exact n2 y (List.mem_cons_of_mem _ hy) z
          · rw [List.mem_singleton] at z; subst z; exact n0 hy⟩
        omega
/-- how many unlike texts -/
def many (l : List Str) : Nat := (l.foldl dd []).length
theorem many_eq (l : List Str) : many l = l.length ↔ l.Nodup := by
  have q := fold_dd_eq l []
  unfold many
  rw [List.length_nil, Nat.zero_add] at q
  rw [q]
  exact ⟨fun z => z.1, fun z => ⟨z, fun _ _ h => (by cases h)⟩⟩
theorem fm_le (val : Nat → Str) (i : Nat) : (fm val i).length ≤ i := by
  have := fold_dd_le ((List.range i).map val) []
  unfold fm
  simpa using this
theorem setOf_to {P : Program} {w : World} {h : Heap} {a : Addr} {S S' : Str → Bool} {n n' : Nat} (q : h.SetOf (strKind P w) a S n) (e : ∀ k, S k = S' k) (en : n = n') : h.SetOf (strKind P w) a S' n' := by
  have z : S = S' := funext e
  subst z en
  exact q

section
variable {P : Program} {w : World} {A : Around} {R : Result → Shared → Prop} {it : Addr} {fp wr : List Addr} {G : Array GenState → Array GenState → Prop} {n : Nat} {Pv : Nat → Value → Prop} {St : Nat → Shared → Prop}
theorem set_loop (W : WalksS P w A.in1 it fp wr G n Pv St) (d : Addr) (hd : d ∉ fp) (val : Nat → Str) (hv : ∀ i v, Pv i v → ∃ t, v = .str (val i) t) (hb : n + 1 < scanBound) :
    ∀ (k i : Nat) (s : Shared), n - i = k → i ≤ n → St i s → s.heap.SetOf (strKind P w) d (fun x => decide (x ∈ fm val i)) (fm val i).length →
      (∀ z, Moved (d :: wr) G s z → z.heap.SetOf (strKind P w) d (fun x => decide (x ∈ fm val n)) (fm val n).length → R (.ok (.ret .none)) z) →
      codeAny (model P w) A (.builtin "set.update.loop" ⟨[.ref d, .ref it], []⟩) R s := by
  have hdw : d ∉ wr := fun h => hd (W.sub _ h)
  have sub : ∀ b ∈ wr, b ∈ d :: wr := fun b hb => List.mem_cons_of_mem _ hb
  intro k
  induction k with
  | zero =>
    intro i s hk hi st q hR
    have e : i = n := by omega
    subst e
    refine codeAny_builtin F.entry_set_update_loop ?_
    rw [Around.under_plainId F.plain_set_update_loop _]
    show wpAny _ A.in1 (pyNext (.ref it) >>= _) _ _ s
    refine wpAny_bind (W.done s _ _ st fun z hm => ?_)
    show wpAny _ A.in1 (ret Value.none) _ _ z
    refine wpAny_pure (hR z (hm.mono sub) ?_)
    obtain ⟨o, es, ep, t, ho, more⟩ := q
    exact ⟨o, es, ep, t, hm.heap d _ hdw ho, more⟩
  | succ k ih =>
    intro i s hk hi st q hR
    have lt : i < n := by omega
    refine codeAny_builtin F.entry_set_update_loop ?_
    rw [Around.under_plainId F.plain_set_update_loop _]
    show wpAny _ A.in1 (pyNext (.ref it) >>= _) _ _ s
    refine wpAny_bind (W.item i s _ _ lt st fun v z hP st2 hm => ?_)
    obtain ⟨t, rfl⟩ := hv i v hP
    have q2 : z.heap.SetOf (strKind P w) d (fun x => decide (x ∈ fm val i)) (fm val i).length := by
      obtain ⟨o, es, ep, tb, ho, more⟩ := q
      exact ⟨o, es, ep, tb, hm.heap d _ hdw ho, more⟩
    show wpAny _ A.in1 (holding [Value.str (val i) t] (setAdd d (.str (val i) t)) >>= _) _ _ z
    refine wpAny_bind (wpAny_holding ?_)
    unfold setAdd
    refine wpAny_holding (wpAny_bind ((strKind P w).pyHash (k := val i) (keyIs_str (val i) t) ?_))
    have room : (fm val i).length + 1 < scanBound := by have := fm_le val i; omega
    refine wpAny_setAddHashed_of (knd := strKind P w) (s := { z with toks := z.toks + 1 }) (keyIs_str (val i) t) rfl q2 room fun h1 sb q3 => ?_
    have q4 : h1.SetOf (strKind P w) d (fun x => decide (x ∈ fm val (i + 1))) (fm val (i + 1)).length :=
      setOf_to q3 (fun x => by rw [fm_succ, Bool.eq_iff_iff]; simp [mem_dd]) (by rw [fm_succ, len_dd]; simp)
    refine wpAny_pure ⟨plainId_quiet F.plain_set_update_loop _, ih (i + 1) _ (by omega) lt (W.frame _ z _ _ st2 (Nat.le_succ _) fun b hb o e => ?_) q4 fun y hm2 q5 => ?_⟩
    · rw [sb.2 b fun h => hd (by rw [← h]; exact hb)]; exact e
    · refine hR y (Moved.trans W.gtrans ((hm.mono sub).then_heap (Nat.le_succ _) fun b o hb e => ?_) hm2) q5
      rw [sb.2 b fun h => hb (by rw [h]; exact List.mem_cons_self)]; exact e
end

section
variable {P : Program} {w : World} {A : Around} {E : Value → Shared → Prop} {s : Shared}
end

end LQ

set_option Elab.async false
set_option linter.all false
set_option maxRecDepth 100000
set_option maxHeartbeats 8000000
namespace LQ
open PySem PySem.Spec L2 L3
open PyProof.Rows hiding St

section
variable {X : Cx}
/-- a set of n texts -/
def setO (P : Program) (w : World) (a : Addr) (n : Nat) : HO := .ext fun h => ∃ S, h.SetOf (strKind P w) a S n
theorem valsStr : ∀ {ns : List Str} {us : List Value}, Vals (ns.map V.str) us → ∀ (i : Nat) (v : Value), us[i]? = some v → ∃ t, v = .str (ns.getD i "") t
  | [], _, .nil, i, v, e => by simp at e
  | n :: ns, _, .cons r t, 0, v, e => by
    obtain ⟨t', rfl⟩ := r
    simp at e
    exact ⟨t', by rw [← e]; rfl⟩
  | n :: ns, _, .cons r t, i + 1, v, e => by
    obtain ⟨t', q⟩ := valsStr (ns := ns) t i v (by simpa using e)
    exact ⟨t', by rw [q]; rfl⟩
theorem fm_all (ns : List Str) : fm (fun i => ns.getD i "") ns.length = ns.foldl dd [] := by
  unfold fm
  congr 1
  apply List.ext_getElem
  · simp
  · intro i h1 h2
    simp only [List.getElem_map, List.getElem_range, List.getD_eq_getElem?_getD]
    rw [List.getElem?_eq_getElem h2, Option.getD_some]
theorem call_len_setO : CallR X (.builtin "len") (fun xs H Q => ∃ p n, xs = [.ref p] ∧ H p = some (setO X.prog X.w p n) ∧ n ≤ 1000 ∧ Q (.int n) H) := by
  intro pins s σ H xs us Q I r h
  obtain ⟨p, n, rfl, hp, hn, q⟩ := h
  obtain ⟨u, rfl, rx⟩ := vals1 r
  cases rx
  obtain ⟨⟨S, o, es, ep, t, ho, hex, hd, _, _, _, hf, hsz⟩, _⟩ := I.hok p _ hp
  refine call_len_set ho hex hd hf (by rw [hsz]; omega) ⟨.int n, H, I.tok _, ⟨_, by rw [hsz]⟩, q⟩
end
end LQ

set_option Elab.async false
set_option linter.all false
set_option maxRecDepth 100000
set_option maxHeartbeats 4000000
namespace DL
open PySem PySem.Spec L2 L3
open PyProof.Rows hiding St
variable {Γ : Hp → Prop}
def cstD : Cst → D
  | .int i => .int i
  | .str x => .str x
  | .tup cs => .cn (.tup cs)
section
variable {K : PySem.W.Frag} {H : Hp} {O : List Addr}
theorem rep_cst : ∀ {c : Cst} {v : V}, CRep K c v → Rep K H O (cstD c) v
  | .int _, _, h => h
  | .str _, _, h => h
  | .tup _, _, h => h
theorem reps_cst : ∀ {cs : List Cst} {xs : List V}, CReps K cs xs → Reps K H O (cs.map cstD) xs
  | [], _, h => h
  | c :: cs, xs, h => by
    obtain ⟨v, r, e, q, t⟩ := h
    exact ⟨v, r, e, rep_cst q, reps_cst t⟩
theorem cst_sq {cs : List Cst} {v : V} (h : CRep K (.tup cs) v) : ∃ a xs, v = .ref a ∧ SqT K H a xs ∧ CReps K cs xs := by
  obtain ⟨a, o, its, n, xs, e, l, c, d, z, r, t⟩ := h
  exact ⟨a, xs, e, .inr ⟨o, its, n, l, c, d, z, r⟩, t⟩
theorem creps_strs : ∀ ws : List Str, CReps K (ws.map Cst.str) (ws.map V.str)
  | [] => rfl
  | w :: ws => ⟨_, _, rfl, rfl, creps_strs ws⟩
theorem creps_len : ∀ {cs : List Cst} {xs : List V}, CReps K cs xs → xs.length = cs.length
  | [], _, h => by cases (show _ = [] from h); rfl
  | c :: cs, xs, h => by
    obtain ⟨v, r, e, q, t⟩ := h
    subst e
    simp [creps_len t]
end
theorem gc_words {K : PySem.W.Frag} {mg : Str → Option Value} {x : Str} {a : Addr} {o : Obj} {its : Array Value} {n : Nat} {ws : List Str} (hm : mg x = some (.ref a)) (hl : K.lookup a = some o) (hc : o.cls = .type "tuple") (hd : o.data = .seq its n) (hs : its.size ≤ sizeLine) (hv : Vals (ws.map V.str) its.toList) :
    GC K mg x (.cn (.tup (ws.map Cst.str))) := ⟨.ref a, .ref a, hm, rfl, fun _ _ => ⟨a, o, its, n, _, rfl, hl, hc, hd, hs, hv, creps_strs ws⟩⟩
theorem cst_strs (ws : List Str) : (ws.map Cst.str).map cstD = ws.map D.str := by
  rw [List.map_map]
  rfl
section
variable {X : Cx} {tg e : Expr} {es : List Expr} {te : TD} {t : TDs} {p pos : Pos}
def iCn (te : TD) : TID := fun ρ φ => te ρ fun r => match r.k, r.d with
  | .val, .cn (.tup cs) => φ (cs.map cstD)
  | _, _ => False
theorem ei_cn (he : ED Γ X e te) : EI Γ X tg e (iCn te) := fun H₀ => impI (pi_of (he H₀) pv_tup) fun σ H R q => by
  obtain ⟨ρ, o, RE, φ, hφ, k⟩ := q
  refine ⟨ρ, o, RE, _, hφ, fun v r H1 s1 rv h1 => ?_⟩
  obtain ⟨kd, d⟩ := r
  dsimp only at h1
  split at h1
  · rename_i cs
    obtain ⟨a, xs, rfl, q, cr⟩ := cst_sq (H := H1) (show CRep X.K (.tup cs) v from rv)
    exact ⟨a, rfl, ⟨xs, q⟩, k _ _ _ H1 s1 it_tup ⟨xs, q, reps_cst cr⟩ h1⟩
  · exact h1.elim
def sLenC : FT := fun ds φ => match ds with
  | [.cn (.tup cs)] => φ (dv (.int cs.length))
  | _ => False
theorem ed_lenC (hm : X.mg "len" = none) (ha : EA Γ X (e :: es) t) (hg : Gl X "len" := by rfl) (he : starEach (e :: es) X.env = (false, eval e X.env) :: starEach es X.env := by rfl) (hpl : (backTo pos (starEach es X.env)).any (·.1) = false := by rfl) : ED Γ X (.Call (.Name "len" p) (e :: es) [] pos) (dCB sLenC t) :=
  ed_callB call_len_seq (fun H O ds vs φ Q ho hv h k => by
    unfold sLenC at h
    split at h
    · rename_i cs
      obtain ⟨v, ws, rfl, h1, rfl⟩ := hv
      obtain ⟨a, xs, rfl, q, cr⟩ := cst_sq (H := H) (show CRep X.K (.tup cs) v from h1)
      refine ⟨a, xs, rfl, .inr q, ?_⟩
      rw [creps_len cr]
      exact k _ _ H (Same.refl H) (by exact rfl) h
    · exact h.elim) hm PySem.boot_len ha hg (by decide) (by decide) he hpl
end
end DL

set_option Elab.async false
set_option linter.all false
set_option maxRecDepth 100000
set_option maxHeartbeats 4000000
namespace L2
open PySem PySem.Spec PyProof.Rows
/-- a list from its end -/
def Itb (K : PySem.W.Frag) (a : Addr) (n : Nat) : It := ⟨fun i H => (∃ xs, SqL K H a xs ∧ xs.length = n) ∧ i < n, fun i H x H' => H' = H ∧ ∀ xs, SqL K H a xs → xs[n - 1 - i]? = some x, fun i H => (∃ xs, SqL K H a xs ∧ xs.length = n) ∧ i = n⟩
theorem turn_rev {P : Program} {w : World} {K : PySem.W.Frag} {tg : Expr} (a it : Addr) (n : Nat) : Turn P w K tg (Itb K a n) [it] it (fun i h => h.IsRevIter it a ((n : Int) - 1 - (i : Int))) where
  mem := by simp
  obj := fun i h st b hb => by
    have e : b = it := by simpa using hb
    subst e
    obtain ⟨o, e, c, d⟩ := st
    exact ⟨o, e, fun v z => by rw [d] at z; cases z⟩
  keep := fun i h h' st k => st.at fun o e => k it (by simp) o e
  item := by
    intro X hP hw hK hc i pins s σ H E I hf st hg
    subst hP hw hK
    obtain ⟨⟨xs, hq, hl⟩, hi⟩ := hg
    obtain ⟨its, rv, p, hz⟩ := I.list hq
    obtain ⟨x, hx⟩ : ∃ x, xs[n - 1 - i]? = some x := ⟨xs[n - 1 - i]'(by omega), by simp⟩
    obtain ⟨u, hu, ru⟩ := rv.get hx
    obtain ⟨f0, f1, f2, f3, f4, f5⟩ := hf it (by simp)
    have en : (n : Int) - 1 - (i : Int) = ((n - 1 - i : Nat) : Int) := by omega
    rw [en] at st
    refine wpAny_pyNext_rev_item st p.isList (x := u) (by simpa using hu) fun h' st' sb => ?_
    have I1 : Inv X pins σ H { s with heap := h' } := I.turned (t' := s.toks) (fun b o hb e => (sb.2 b hb).trans e) f0 f1 f3 f4 f5
    obtain ⟨o, e, c, d⟩ := id st'
    have en2 : ((n - 1 - i : Nat) : Int) - 1 = (n : Int) - 1 - ((i + 1 : Nat) : Int) := by omega
    rw [en2] at st'
    exact ⟨u, rfl, go_of (s := { s with heap := h' }) e c d (by decide) ⟨x, H, I1, ru, ⟨rfl, fun ys hy => by rw [I.list_inj hy hq]; exact hx⟩, st', fun b hb => (hf b hb).1⟩⟩
  done := by
    intro X hP hw hK hc i pins s σ H E I hf st hg
    subst hP hw hK
    obtain ⟨⟨xs, hq, hl⟩, hi⟩ := hg
    obtain ⟨f0, f1, f2, f3, f4, f5⟩ := hf it (by simp)
    have en : (n : Int) - 1 - (i : Int) = -1 := by omega
    rw [en] at st
    exact wpAny_pyNext_rev_end (I.ok.hd hc) st fun h' eb => ⟨rfl, I.turned (t' := s.toks) (fun b o hb e => eb b o hb e) f0 f1 f3 f4 f5⟩
  self := fun _ _ _ _ _ st h => wpAny_pyIter_revIter st h
theorem boot_reversed2 : bootBuiltins "reversed" = some (.type "reversed") := by kernel_rfl
def iRevL (K : PySem.W.Frag) (ta : TA) : TI := fun σ H R => ta σ H fun vs H1 => ∃ l xs, vs = [.ref l] ∧ SqL K H1 l xs ∧ R (Itb K l xs.length) H1
theorem pi_rev {X : Cx} {tg a : Expr} {ta : TA} {p pos : Pos} (hg : Gl X "reversed") (hm : X.mg "reversed" = none) (ha : PA X [a] ta)
    (he : starEach [a] X.env = (false, eval a X.env) :: starEach [] X.env := by rfl) : PI X tg (.Call (.Name "reversed" p) [a] [] pos) (iRevL X.K ta) := by
  intro pins s σ H R I h
  refine wpAny_Call_Name_kw (ld_blt I hg hm boot_reversed2 ?_ (by decide) (by decide))
  refine PyProof.Rows.callWith_type1 (thn (ha pos pins s σ H _ I h) fun us s1 ⟨vs, H1, I1, r1, l, xs, e, e1, q⟩ => ?_) he (by rfl)
  subst e
  obtain ⟨u, rfl, ru⟩ := vals1 r1
  cases ru
  obtain ⟨its, rv, pl, hz⟩ := I1.list e1
  have hl := rv.length
  refine call_reversed_list pl.isList ?_
  have st : (s1.heap.push (revObj l ((its.toArray.size : Int) - 1))).IsRevIter s1.heap.objs.size l ((xs.length : Int) - 1 - ((0 : Nat) : Int)) := by
    refine ⟨_, Heap.get?_push_size _ rfl, rfl, ?_⟩
    show Data.fields #[.ref l, rawInt ((its.toArray.size : Int) - 1)] = _
    rw [show ((its.toArray.size : Int) - 1) = (xs.length : Int) - 1 - ((0 : Nat) : Int) by rw [List.size_toArray]; omega]
  refine wpAny_pyIter_revIter st ?_
  refine ⟨s1.heap.objs.size, [s1.heap.objs.size], _, _, H1, rfl, I1.kept (t' := s1.toks) fun b o e => Heap.get?_push_of_some _ e, turn_rev l _ xs.length, st, fun b hb => ?_, q⟩
  have e : b = s1.heap.objs.size := by simpa using hb
  subst e
  exact I1.fpOk (Nat.le_refl _) (I1.hok.fresh (Nat.le_refl _))
end L2
namespace DL
open PySem PySem.Spec L2 L3
open PyProof.Rows hiding St
variable {Γ : Hp → Prop}
section
variable {X : Cx}
def iB (t : TDs) : TID := fun ρ φ => t ρ fun rs => match rs with
  | [r] => (match r.k with | .own => False | _ => True) ∧ (match r.d with
    | .lst l => φ l.reverse
    | _ => False)
  | _ => False
theorem it_rev {K : PySem.W.Frag} {l : Addr} {ds : List D} : ItD K (Itb K l ds.length) ds.reverse (fun H O => Rep K H O (.lst ds) (.ref l)) where
  go := fun H O i d hp e => by
    obtain ⟨a, xs, ea, q, _, r⟩ := hp
    cases ea
    have hi : i < ds.length := by have := (List.getElem?_eq_some_iff.mp e).1; simpa using this
    rw [List.getElem?_reverse hi] at e
    obtain ⟨v, ev, rv⟩ := r.get e
    refine ⟨⟨⟨xs, SqL.of q, r.length⟩, hi⟩, fun x H' y => ?_⟩
    obtain ⟨e1, y⟩ := y
    subst e1
    have := y xs (SqL.of q)
    rw [ev] at this
    cases this
    exact ⟨Same.refl _, rv⟩
  stop := fun H O hp => by
    obtain ⟨a, xs, ea, q, _, r⟩ := hp
    cases ea
    exact ⟨⟨xs, SqL.of q, r.length⟩, by rw [List.length_reverse]⟩
  keep := fun O O' H H' hp g => Rep.grow g _ _ hp
theorem ei_reversed {tg a : Expr} {t : TDs} {p pos : Pos} (hm : X.mg "reversed" = none) (ha : EA Γ X [a] t) (hg : Gl X "reversed" := by rfl)
    (he : starEach [a] X.env = (false, eval a X.env) :: starEach [] X.env := by rfl) : EI Γ X tg (.Call (.Name "reversed" p) [a] [] pos) (iB t) := fun H₀ => impI (pi_rev hg hm (ha H₀) he) fun σ H R q => by
  obtain ⟨ρ, o, RE, φ, hφ, k⟩ := q
  refine ⟨ρ, o, RE, _, hφ, fun vs rs H1 s1 rvs h1 => ?_⟩
  split at h1
  · rename_i r
    obtain ⟨n1, h1⟩ := h1
    obtain ⟨v1, w1, rfl, q1, rfl⟩ := rvs
    have p1 := q1.solid (notOwn n1)
    obtain ⟨kd, d⟩ := r
    cases d with
    | lst l =>
      obtain ⟨a, xs, rfl, q, no, r⟩ := id p1
      refine ⟨a, xs, rfl, SqL.of q, ?_⟩
      rw [r.length]
      exact k _ _ _ H1 s1 it_rev p1 h1
    | _ => exact h1.elim
  · exact h1.elim
end
end DL

set_option Elab.async false
set_option linter.all false
set_option maxRecDepth 100000
set_option maxHeartbeats 4000000
namespace L2
open PySem PySem.Spec PyProof.Rows
section
variable {prog : Program} {w : World} {A : Around} {E : Value → Shared → Prop} {s : Shared}
/-- t.index(x), x at j for the first time -/
theorem tup_index {l : Addr} {ob : Obj} {its : Array Value} {n : Nat} {x : Value} {f : Value → Bool} {j : Nat} {Q : Value → Shared → Prop} (g : s.heap.get? l = some ob) (hcl : ob.cls = .type "tuple") (hd : ob.data = .seq its n) (he : ∀ y ∈ its, MeetsSeq.EqGives y x (f y)) (hj : j < its.size) (hit : f its[j] = true) (hno : ∀ m (hm : m < its.size), m < j → f its[m] = false)
    (h : Q (.int j s.toks) { s with toks := s.toks + 1 }) : wpAny (model prog w) A (call (.builtin "tuple.index") [.ref l, x]) Q E s := by
  refine wpAny_call_entry PySem.F.slot_tuple_index ⟨ob, g, hcl⟩ PySem.F.entry_tuple_index (?_ : _) (PySem.F.args_tuple_index_2 _ _)
  unfold Builtin.«tuple.index»
  refine wpAny_bind (wpAny_of_eq (a := (Value.ref l, [x])) rfl ?_)
  apply wpAny_bind
  unfold Builtin.Tuple.tupleItemsOf
  apply wpAny_bind
  refine wpAny_seqItems g hd (wpAny_pure (?_ : _))
  try dsimp only
  apply wpAny_bind; apply wpAny_pure
  apply wpAny_bind; apply wpAny_pure
  apply wpAny_bind
  rw [Std.Legacy.Range.forIn_eq_forIn_range']
  simp only [Std.Legacy.Range.size, Nat.sub_zero, Nat.add_sub_cancel, Nat.div_one, Nat.min_self]
  refine wpAny_forIn_list _ (fun rest b s' => b.1 = none ∧ s' = s ∧ ∃ i, rest = List.range' i (its.size - i) ∧ i ≤ j) _ ?_ ?_ _ _ ⟨rfl, rfl, 0, by simp, Nat.zero_le _⟩
  · rintro y rest b s' ⟨hb, rfl, i, er, hi⟩
    have hlt : i < its.size := by omega
    obtain ⟨rfl, hrest⟩ : y = i ∧ rest = List.range' (i + 1) (its.size - (i + 1)) := by
      have e : its.size - i = (its.size - (i + 1)) + 1 := by omega
      rw [e, List.range'_succ] at er
      injection er with h1 h2
      exact ⟨h1, h2⟩
    rw [Array.getElem?_eq_getElem hlt]
    dsimp only
    apply wpAny_bind
    refine he _ (Array.getElem_mem hlt) prog w _ _ _ _ ?_
    by_cases ej : y = j
    · subst ej
      rw [hit, if_pos rfl]
      apply wpAny_bind
      unfold retInt
      apply wpAny_bind
      refine wpAny_mkInt (wpAny_pure (wpAny_pure (wpAny_pure ⟨_, rfl, h⟩)))
    · rw [hno y hlt (by omega), if_neg (by decide)]
      exact wpAny_pure ⟨rfl, rfl, y + 1, hrest, by omega⟩
  · rintro b s' ⟨hb, rfl, i, er, hi⟩
    exfalso
    have e : its.size - i = (its.size - (i + 1)) + 1 := by omega
    rw [e, List.range'_succ] at er
    cases er
end
section
variable {X : Cx} {o e : Expr} {to te : TE} {apos cpos : Pos}
def strIs (z : Str) : Value → Bool
  | .str a _ => decide (a = z)
  | _ => false
def tIndex (to te : TE) : TE := fun σ H Q => to σ H fun x H1 => ∃ a, x = .ref a ∧ (∃ xs, H1 a = some (.tup xs)) ∧ te σ H1 fun y H2 => ∃ (ns : List Str) (z : Str), H2 a = some (.tup (ns.map V.str)) ∧ y = .str z ∧ z ∈ ns ∧ Q (.int (ns.idxOf z : Nat)) H2
theorem pe_tindex (ho : PE X o to) (he : PE X e te) (m : M1 X o "index" apos e cpos) : PE X (.Call (.Attribute o "index" apos) [e] [] cpos) (tIndex to te) := by
  intro pins s σ H Q I h
  refine wpAny_Call_method m.base m.few m.line PySem.F.plainAttrs_tuple PySem.F.slot_tuple_index PySem.F.type_tuple_index (thn (ho pins s σ H _ I h) fun u s1 ⟨x, H1, I1, rx, a, ex, ⟨xs, hx⟩, q1⟩ => ?_)
  subst ex
  obtain rfl : u = Value.ref a := rx
  obtain ⟨z1, its1, r1, ⟨ob1, g1, c1, d1⟩, od, gd, cd⟩ := (show ObjOk X.prog X.w H1 s1.heap a (.tup xs) from I1.hok a _ hx)
  refine ⟨⟨ob1, g1, c1⟩, fun b eb => by cases eb; exact ⟨od, gd, cd⟩, ?_⟩
  rw [m.trees]
  refine Calls.callWith_builtin rfl (Calls.evalArgs_plain (Calls.spliced_cons (thn (he pins s1 σ H1 _ I1 q1) fun iv s2 ⟨y, H2, I2, ry, ns, z, hn, ey, mz, q2⟩ => Calls.spliced_nil ?_)))
  subst ey
  obtain ⟨t, rfl⟩ := ry
  obtain ⟨z2, its, rv, ⟨ob, g, c, k, d⟩, _⟩ := (show ObjOk X.prog X.w H2 s2.heap a (.tup (ns.map V.str)) from I2.hok a _ hn)
  have hl : its.length = ns.length := by have := rv.length; rw [List.length_map] at this; exact this.symm
  have at' : ∀ i (hi : i < its.toArray.size), ∃ t', its.toArray[i] = .str (ns.getD i "") t' := fun i hi => LQ.valsStr rv i _ (by simp at hi; simp [hi])
  have hj : ns.idxOf z < its.toArray.size := by rw [List.size_toArray, hl]; exact List.idxOf_lt_length_of_mem mz
  refine tup_index (f := strIs z) (j := ns.idxOf z) g c d (fun y my => ?_) hj ?_ (fun i hi hlt => ?_) ⟨.int (ns.idxOf z : Nat), H2, I2.tok _, ⟨_, rfl⟩, q2⟩
  · obtain ⟨i, hi, rfl⟩ := Array.getElem_of_mem my
    obtain ⟨t', e'⟩ := at' i hi
    rw [e']
    exact fun _ _ _ _ _ _ h => wpAny_eqBool_str h
  · obtain ⟨t', e'⟩ := at' _ hj
    rw [e']
    show decide _ = true
    have hk : ns.idxOf z < ns.length := List.idxOf_lt_length_of_mem mz
    rw [List.getD_eq_getElem?_getD, List.getElem?_eq_getElem hk, List.getElem_idxOf hk]
    simp
  · obtain ⟨t', e'⟩ := at' _ hi
    rw [e']
    show decide _ = false
    have hk : i < ns.length := by rw [List.size_toArray, hl] at hi; exact hi
    rw [List.getD_eq_getElem?_getD, List.getElem?_eq_getElem hk]
    have := List.not_of_lt_findIdx (p := fun x => x == z) (xs := ns) (i := i) (by simpa [List.idxOf] using hlt)
    simpa using this
end
end L2
namespace DL
open PySem PySem.Spec L2 L3
open PyProof.Rows hiding St
variable {Γ : Hp → Prop}
theorem reps_strsI {K : PySem.W.Frag} {H : Hp} {O : List Addr} : ∀ {ns : List Str} {xs : List V}, Reps K H O (ns.map D.str) xs → xs = ns.map V.str
  | [], _, h => h
  | n :: ns, xs, h => by
    obtain ⟨v, r, rfl, q, t⟩ := h
    cases (show v = _ from q)
    rw [reps_strsI t]
    rfl
section
variable {X : Cx} {o e : Expr} {td te : TD} {apos cpos : Pos}
/-- t.index(x): t a tuple of texts, x among them -/
def dIndex (td te : TD) : TD := fun ρ φ => td ρ fun x => match x.d with
  | .tup ds => te ρ fun y => (match y.d with
    | .str z => ∃ ns : List Str, ds = ns.map D.str ∧ z ∈ ns ∧ φ (dv (.int (ns.idxOf z : Nat)))
    | _ => False)
  | _ => False
theorem ed_index (ho : ED Γ X o td) (he : ED Γ X e te) (m : M1 X o "index" apos e cpos := by exact ⟨rfl, rfl, rfl, rfl⟩) : ED Γ X (.Call (.Attribute o "index" apos) [e] [] cpos) (dIndex td te) := fun H₀ =>
  impE (pe_tindex (ho H₀) (he H₀) m) fun σ H Q q => by
    obtain ⟨ρ, oo, R, φ, hφ, kk⟩ := q
    refine ⟨ρ, oo, R, _, hφ, fun v r H1 s1 rv h1 => ?_⟩
    obtain ⟨kd, d⟩ := r
    cases d with
    | tup ds =>
      obtain ⟨a, xs, rfl, q, rp⟩ := rv.view
      refine ⟨a, rfl, ⟨_, q.2⟩, ρ, oo, R.to s1, _, h1, fun v2 r2 H2 s2 rv2 h2 => ?_⟩
      obtain ⟨kd2, d2⟩ := r2
      cases d2 with
      | str z =>
        obtain ⟨ns, rfl, mz, h2⟩ := h2
        cases reps_strsI rp
        have ev : v2 = .str z := rv2.view
        exact ⟨ns, z, s2 _ _ q.2, ev, mz, kk _ (dv (.int (ns.idxOf z : Nat))) H2 (s1.trans s2) (by exact rfl) h2⟩
      | _ => exact h2.elim
    | _ => exact h1.elim
end
end DL

set_option Elab.async false
set_option linter.all false
set_option maxRecDepth 100000
set_option maxHeartbeats 8000000
namespace LQ
open PySem PySem.Spec L2 L3
open PyProof.Rows hiding St


section
variable {P : Program} {w : World} {A : Around} {E : Value → Shared → Prop} {s : Shared}
theorem set_tups {l : Addr} {its : Array Value} {val : Nat → Str} {Q : Value → Shared → Prop} (hh : A.handled = none) (hl : s.heap.IsTuple l its) (hv : ∀ (i : Nat) (v : Value), its[i]? = some v → ∃ t, v = .str (val i) t) (hb : its.size + 1 < scanBound)
    (h : ∀ (g : Heap) (tk : Nat), g.SetOf (strKind P w) s.heap.objs.size (fun x => decide (x ∈ fm val its.size)) (fm val its.size).length → (∀ b o, s.heap.get? b = some o → g.get? b = some o) → Q (.ref s.heap.objs.size) { s with heap := g, toks := tk }) :
    wpAny (model P w) A (call (.type "set") [.ref l]) Q E s := by
  obtain ⟨c, tl, hmro⟩ := F.called_set.mro
  have hmade := F.called_set.made
  have hsub := F.called_set.sub
  refine wpAny_call (codeAny_of_tree ?_)
  show wpAny _ _ (callAny (.type "set") _) _ _ _
  refine wpAny_pure ⟨Code.quiet_builtin _ (by decide +kernel), codeAny_builtin F.entry_type_call ?_⟩
  rw [Around.under_plain (weight_type_call_type "set" [.ref l] []) rfl]
  have n1 := F.called_set.notType
  have n2 := F.called_set.canCreate
  have n3 := F.typeCall_set_1 (.ref l)
  repeat (any_goals (first | assumption | wp_step))
  refine codeAny_mono (code_set_new_1 (.ref l) (E := E) (Q₁ := fun obj z => ∃ led : Bool, obj = .ref s.heap.objs.size ∧ z = { s with heap := s.heap.push { cls := .type "set", dict := none, data := .set #[] 0 (.fresh 0 0 led) } }) fun led => ⟨led, rfl, rfl⟩) fun r z hr => ?_
  cases r with
  | error e => exact hr
  | ok fl =>
    cases fl with
    | ret obj =>
      obtain ⟨led, rfl, rfl⟩ := hr
      have there : (s.heap.push { cls := .type "set", dict := none, data := .set #[] 0 (.fresh 0 0 led) }).get? s.heap.objs.size = some { cls := .type "set", dict := none, data := .set #[] 0 (.fresh 0 0 led) } := Heap.get?_push_size _ rfl
      have ty : Shared.TypeIs { s with heap := s.heap.push { cls := .type "set", dict := none, data := .set #[] 0 (.fresh 0 0 led) } } (.ref s.heap.objs.size) "set" := ⟨_, there, rfl⟩
      have i1 := F.called_set.init.lookup
      have i2 := F.called_set.init.bind (.ref s.heap.objs.size)
      repeat (any_goals (first | assumption | wp_step))
      refine codeAny_mono (codeAny_call_builtin (R := wants (fun r z => r = .none ∧ ∃ g tk, z = { s with heap := g, toks := tk } ∧ g.SetOf (strKind P w) s.heap.objs.size (fun x => decide (x ∈ fm val its.size)) (fm val its.size).length ∧
          (∀ b o, s.heap.get? b = some o → g.get? b = some o)) E) F.called_set.init.plain F.entry_set_init (check_set_init_1 ty ?_)) fun r2 z2 hr2 => ?_
      · obtain ⟨ol, hol, hcl, nl, hdl⟩ := hl
        obtain ⟨ocls, odict, odata, oslots⟩ := ol
        simp only at hcl hdl
        subst hcl hdl
        have hol2 : (s.heap.push { cls := .type "set", dict := none, data := .set #[] 0 (.fresh 0 0 led) }).get? l = some { cls := .type "tuple", dict := odict, data := .seq its nl, slots := oslots } := Heap.get?_push_of_some _ hol
        have b1 := F.sub_tuple_set
        have b2 := F.sub_tuple_frozenset
        have b3 : (Value.type "tuple" == Value.type "dict") = false := by decide
        have hl2 : (s.heap.push { cls := .type "set", dict := none, data := .set #[] 0 (.fresh 0 0 led) }).IsTuple l its := ⟨_, hol2, rfl, nl, rfl⟩
        unfold Builtin.«set.__init__» noKeywords Builtin.Frozenset.updateFrom
        generalize hPI : pyIter = PI
        wp_walk
        subst hPI
        refine wpAny_pyIter_tuple hl2 ?_
        refine wpAny_bind (wpAny_runValue ?_)
        have ll : l < s.heap.objs.size := Heap.lt_size hol
        have hh3 : A.in1.in1.in1.handled = none := by simp [hh]
        have lne : l ≠ (s.heap.push { cls := .type "set", dict := none, data := .set #[] 0 (.fresh 0 0 led) }).objs.size := by
          rw [Heap.size_push]; exact Nat.ne_of_lt (Nat.lt_succ_of_lt ll)
        have dn : s.heap.objs.size ∉ [(s.heap.push { cls := .type "set", dict := none, data := .set #[] 0 (.fresh 0 0 led) }).objs.size, l] := by
          rw [Heap.size_push]
          simp only [List.mem_cons, List.mem_singleton, List.not_mem_nil, or_false, not_or]
          exact ⟨Nat.ne_of_lt (Nat.lt_succ_self _), Nat.ne_of_gt ll⟩
        refine set_loop ((Walks.tuple hh3 _ l lne its).toS) s.heap.objs.size dn val (fun i v hx => hv i v hx) hb (its.size - 0) 0 _ (by omega) (Nat.zero_le _) ⟨⟨_, Heap.get?_push_size _ rfl, rfl, rfl⟩, (hl2.push _)⟩ ?first ?last
        case first =>
          have e1 : ((s.heap.push { cls := .type "set", dict := none, data := .set #[] 0 (.fresh 0 0 led) }).push { cls := .type "tuple_iterator", data := .fields #[.ref l, .int 0 0] }).get? s.heap.objs.size
              = some { cls := .type "set", dict := none, data := .set #[] 0 (.fresh 0 0 led) } := Heap.get?_push_of_some _ there
          exact setOf_to ((setObjOf_fresh (knd := strKind P w) led).setOf e1 (by unfold scanBound; omega)) (fun x => by simp [fm]) rfl
        case last =>
          intro z hm q
          obtain ⟨g, g', d', tk', os'⟩ := z
          have eg : g' = s.gens := hm.gens
          have ed : d' = s.drawn := hm.drawn
          have eo : os' = s.os := hm.os
          subst eg ed eo
          show wpAny _ _ _ _ _ _
          refine wpAny_pure ?_
          show wpAny _ _ (ret Value.none) _ _ _
          refine wpAny_pure ⟨rfl, g, tk', rfl, q, fun b o e => ?_⟩
          have lb := Heap.lt_size e
          have c1 : b ≠ s.heap.objs.size := Nat.ne_of_lt lb
          have c2 : b ≠ (s.heap.push { cls := .type "set", dict := none, data := .set #[] 0 (.fresh 0 0 led) }).objs.size := by
            rw [Heap.size_push]; exact Nat.ne_of_lt (Nat.lt_succ_of_lt lb)
          exact hm.heap b o (by simp only [List.mem_cons, List.mem_singleton, List.not_mem_nil, or_false, not_or]; exact ⟨c1, c2⟩) (Heap.get?_push_of_some _ (Heap.get?_push_of_some _ e))
      · cases r2 with
        | error e => exact hr2
        | ok f2 =>
          cases f2 with
          | ret r =>
            obtain ⟨rfl, g, tk, rfl, q, kp⟩ := hr2
            repeat (any_goals (first | assumption | wp_step))
            exact h _ _ q kp
          | _ => exact hr2.elim
    | _ => exact hr.elim
end
section
variable {X : Cx}
theorem call_set_tups (hc : X.calm = true) : CallR X (.type "set") (fun xs H Q => ∃ p ns, xs = [.ref p] ∧ SqT X.K H p (ns.map V.str) ∧ ns.length ≤ 1000 ∧ ∀ l, H l = none → Q (.ref l) (upd H l (setO X.prog X.w l (many ns)))) := by
  intro pins s σ H xs us Q I r h
  obtain ⟨p, ns, rfl, hq, hn, q⟩ := h
  obtain ⟨u, rfl, rx⟩ := vals1 r
  cases rx
  obtain ⟨its, rv, pl, hz⟩ := I.tuple hq
  have hlen : its.length = ns.length := by have := rv.length; rw [List.length_map] at this; exact this.symm
  refine set_tups (val := fun i => ns.getD i "") (I.ok.hd hc) (show s.heap.IsTuple p its.toArray from pl) (fun i v e => valsStr rv i v (by simpa using e)) (by rw [List.size_toArray, hlen]; unfold scanBound; omega) fun g tk qs kp => ?_
  have ez : its.toArray.size = ns.length := by rw [List.size_toArray]; exact hlen
  rw [ez, fm_all] at qs
  refine ⟨.ref s.heap.objs.size, _, I.laid (t' := tk) kp (Nat.le_refl _) ?_, rfl, q _ I.fresh⟩
  obtain ⟨o, es, ep, t, ho, more⟩ := id qs
  refine ⟨⟨_, qs⟩, ⟨o, ho⟩, fun h1 h2 z k => ?_⟩
  obtain ⟨S, o, es, ep, t, ho, more⟩ := z
  exact ⟨S, o, es, ep, t, k o ho, more⟩
end
end LQ
namespace DL
open PySem PySem.Spec L2 L3
open PyProof.Rows hiding St
variable {Γ : Hp → Prop}
theorem reps_strs {K : PySem.W.Frag} {H : Hp} {O : List Addr} : ∀ {ns : List Str} {xs : List V}, Reps K H O (ns.map D.str) xs → xs = ns.map V.str
  | [], _, h => h
  | n :: ns, xs, h => by
    obtain ⟨v, r, rfl, q, t⟩ := h
    cases (show v = _ from q)
    rw [reps_strs t]
    rfl
section
variable {X : Cx} {e : Expr} {te : TD} {p p2 pos pos2 : Pos}
/-- len(set(t)), t a tuple of texts -/
def dLenSet (te : TD) : TD := fun ρ φ => te ρ fun r => match r.d with
  | .tup ds => ∃ ns : List Str, ds = ns.map D.str ∧ ns.length ≤ 1000 ∧ φ (dv (.int (LQ.many ns)))
  | _ => False
theorem many_le (ns : List Str) : LQ.many ns ≤ ns.length := by
  have := LQ.fold_dd_le ns []
  unfold LQ.many
  simpa using this
theorem boot_set2 : bootBuiltins "set" = some (.type "set") := by kernel_rfl
theorem ed_lenSet (hm : X.mg "len" = none) (hm2 : X.mg "set" = none) (he : ED Γ X e te) (hc : X.calm = true := by rfl) (hg : Gl X "len" := by rfl) (hg2 : Gl X "set" := by rfl)
    (h1 : starEach [e] X.env = (false, eval e X.env) :: starEach [] X.env := by rfl)
    (h2 : starEach [.Call (.Name "set" p2) [e] [] pos2] X.env = (false, eval (.Call (.Name "set" p2) [e] [] pos2) X.env) :: starEach [] X.env := by rfl)
    (hp1 : (backTo pos2 (starEach [] X.env)).any (·.1) = false := by rfl) (hp2 : (backTo pos (starEach [] X.env)).any (·.1) = false := by rfl) :
    ED Γ X (.Call (.Name "len" p) [.Call (.Name "set" p2) [e] [] pos2] [] pos) (dLenSet te) := fun H₀ =>
  impE (pe_callB LQ.call_len_setO hg hm PySem.boot_len (pa_cons (pe_callTy (LQ.call_set_tups hc) hg2 hm2 boot_set2 (pa_cons (he H₀) pa_nil h1) (by decide) (by decide) h1 hp1) pa_nil h2) (by decide) (by decide) h2 hp2) fun σ H Q q => by
    obtain ⟨ρ, oo, R, φ, hφ, kk⟩ := q
    refine ⟨ρ, oo, R, _, hφ, fun v r H1 s1 rv h1 => ?_⟩
    obtain ⟨kd, d⟩ := r
    cases d with
    | tup ds =>
      obtain ⟨ns, rfl, hn, h1⟩ := h1
      obtain ⟨a, xs, rfl, q, rp⟩ := rv.view
      cases reps_strs rp
      refine ⟨a, ns, rfl, q.1, hn, fun l hl => ⟨l, _, rfl, upd_same, Nat.le_trans (many_le ns) hn, ?_⟩⟩
      exact kk _ (dv (.int (LQ.many ns))) _ (s1.trans (same_new hl _)) (by exact rfl) h1
    | _ => exact h1.elim
end
end DL

set_option Elab.async false
set_option linter.all false
set_option maxRecDepth 100000
set_option maxHeartbeats 4000000
namespace L2
open PySem PySem.Spec PySem.W PyProof.Rows
/-- the iterator of a dict's pairs: none given yet, or one given before stands at b -/
def itemO (D : Addr) (i n ep : Nat) (x0 x1 o1 o2 : Value) : Obj := { cls := .type "dict_itemiterator", dict := none, data := .fields #[x0, x1, .ref D, .int i 0, .int n 0, .int ep 0, o1, o2], slots := #[] }
def RawJ (h : Heap) (J D : Addr) (i n ep : Nat) : Prop := ∃ x0 x1 o1 o2, h.get? J = some (itemO D i n ep x0 x1 o1 o2) ∧ ((x0 = .none ∧ x1 = .bool false) ∨ ∃ (b : Addr) (f : Bool) (ob : Obj), x0 = rawInt b ∧ x1 = .bool f ∧ h.get? b = some ob ∧ b ≠ J)
/-- the new pair -/
def pairO (e : DictEntry) : Obj := { cls := .type "tuple", data := .seq #[e.key, e.val] }
theorem RawJ.to {h k : Heap} {J D : Addr} {i n ep : Nat} (y : RawJ h J D i n ep) (f : ∀ o, h.get? J = some o → k.get? J = some o) (g : ∀ b o, h.get? b = some o → ∃ o', k.get? b = some o') : RawJ k J D i n ep := by
  obtain ⟨x0, x1, o1, o2, e, c⟩ := y
  refine ⟨x0, x1, o1, o2, f _ e, ?_⟩
  rcases c with c | ⟨b, t, ob, c1, c2, c3, c4⟩
  · exact .inl c
  · obtain ⟨o', e'⟩ := g b ob c3
    exact .inr ⟨b, t, o', c1, c2, e', c4⟩
theorem RawJ.ty {s : Shared} {J D : Addr} {i n ep : Nat} (y : RawJ s.heap J D i n ep) : s.TypeIs (.ref J) "dict_itemiterator" := let ⟨_, _, _, _, e, _⟩ := y; ⟨_, e, rfl⟩
theorem RawJ.lt {h : Heap} {J D : Addr} {i n ep : Nat} (y : RawJ h J D i n ep) : J < h.objs.size := let ⟨_, _, _, _, e, _⟩ := y; Heap.lt_size e
section
variable {prog : Program} {w : World} {A : Around} {E : Value → Shared → Prop} {s : Shared} {D J b : Addr} {rows : Array DictEntry} {ep i : Nat} {o1 o2 : Value} {f : Bool}
theorem raw_view {Q : Value → Shared → Prop} (nb : (D == sysModules) = false) (x : RawD s.heap D rows ep)
    (q : Q (.ref s.heap.objs.size) { s with heap := s.heap.push { cls := .type "dict_items", data := .fields #[.ref D] } }) : wpAny (model prog w) A (call (.builtin "dict.items") [.ref D]) Q E s := by
  have ty := x.ty
  refine wpAny_call_entry F.slot_dict_items ty F.entry_dict_items (?body) (F.args_dict_items_1 _)
  unfold Builtin.«dict.items»
  apply wpAny_bind
  unfold Builtin.Dict.noArgs
  apply wpAny_bind
  refine wpAny_notOrdered_dict ty (?_ : _)
  show wpAny _ _ (pure D) _ _ s
  apply wpAny_pure
  show wpAny _ _ (Builtin.Dict.showsAll D >>= _) _ _ s
  unfold Builtin.Dict.showsAll
  rw [if_neg (show ¬ ((D == sysModules) = true) by rw [nb]; decide)]
  apply wpAny_bind; apply wpAny_pure
  apply wpAny_bind
  exact wpAny_newObj_type (wpAny_pure ⟨_, rfl, q⟩)
theorem raw_istart {v : Addr} {Q : Value → Shared → Prop} (hv : s.heap.IsItemsView v D) (x : RawD s.heap D rows ep)
    (q : Q (.ref s.heap.objs.size) { s with heap := s.heap.push { cls := .type "dict_itemiterator", data := .fields #[.none, .bool false, .ref D, .int 0 0, .int rows.size 0, .int ep 0, .none, .none] } }) :
    wpAny (model prog w) A (pyIter (.ref v)) Q E s := by
  have ty := hv.typeIs
  obtain ⟨o, g, c, d⟩ := id hv
  obtain ⟨o2, g2, c2, e2⟩ := id x
  refine wpAny_pyIter_slot ty F.slot_dict_items_iter (wpAny_call_entry F.slot_dict_items_iter ty F.entry_dict_items_iter (?body) (F.args_dict_items_iter_1 _))
  unfold Builtin.«dict_items.__iter__»
  apply wpAny_bind; apply wpAny_pure
  apply wpAny_bind
  unfold Builtin.Dict_items.dictOf
  apply wpAny_bind
  refine wpAny_field g d (x := .ref D) rfl (wpAny_pure (?_ : _))
  apply wpAny_bind
  unfold Builtin.Dict_items.newIterator
  apply wpAny_bind; refine wpAny_dictEntries g2 e2 ?_
  apply wpAny_bind; refine wpAny_dictEpoch g2 e2 ?_
  have ot : Builtin.Dict_items.ownsTuple "dict_itemiterator" = true := by decide
  simp only [ot, if_true]
  refine wpAny_newObj_type (wpAny_pure ⟨_, rfl, "dict_itemiterator", _, ⟨_, Heap.get?_push_size _ rfl, rfl⟩, F.slot_dict_itemiterator_next.lookup, (?_ : _)⟩) (?_ : _)
  · simpa [rawInt, Builtin.Dict_items.ownedTupleFields] using q
  · simp only [sizeOk, Builtin.Dict_items.ownedTupleFields, List.size_toArray, List.length_append, List.length_cons, List.length_nil, sizeLine_eq]
    omega
theorem raw_alive {b : Addr} {o : Obj} {Q : Option Obj → Shared → Prop} (g : s.heap.get? b = some o) (q : Q (some o) s) : wpAny (model prog w) A (loadIfAlive b) Q E s := by
  have q' : Q (s.heap.get? b) s := by rw [g]; exact q
  exact fun _ _ _ => q'
theorem raw_pick {k : DictEntry} {n : Nat} {Q : Value → Shared → Prop} (y : RawJ s.heap J D i n ep)
    (q : ∀ h', RawJ h' J D i n ep → h'.get? s.heap.objs.size = some (pairO k) → h'.objs.size = s.heap.objs.size + 1 → (∀ b o, b ≠ J → s.heap.get? b = some o → h'.get? b = some o) → Q (.ref s.heap.objs.size) { s with heap := h' }) :
    wpAny (model prog w) A (Builtin.Dict_items.pairFromOwner (.ref J) 6 k.key k.val) Q E s := by
  obtain ⟨hp, g, dr, tk, os⟩ := s
  obtain ⟨x0, x1, o1, o2, e, c⟩ := y
  have lj : J < hp.objs.size := Heap.lt_size e
  unfold Builtin.Dict_items.pairFromOwner
  apply wpAny_bind
  refine wpAny_newTuple ?_
  have e2 : (hp.push (pairO k)).get? J = some (itemO D i n ep x0 x1 o1 o2) := Heap.get?_push_of_some _ e
  have t2 : (hp.push (pairO k)).get? hp.objs.size = some (pairO k) := Heap.get?_push_size _ rfl
  have z2 : (hp.push (pairO k)).objs.size = hp.objs.size + 1 := Heap.size_push ..
  have k2 : ∀ b o, hp.get? b = some o → (hp.push (pairO k)).get? b = some o := fun b o eb => Heap.get?_push_of_some _ eb
  show wpAny _ _ (Builtin.Dict_items.ownedTupleIsFree (.ref J) >>= _) _ _ ⟨hp.push (pairO k), g, dr, tk, os⟩
  generalize hp.push (pairO k) = h2 at e2 t2 z2 k2
  apply wpAny_bind
  unfold Builtin.Dict_items.ownedTupleIsFree
  apply wpAny_bind
  rcases c with ⟨rfl, rfl⟩ | ⟨b, f, ob, rfl, rfl, gb, nb⟩
  · refine wpAny_field e2 rfl (x := .none) rfl (wpAny_pure (?_ : _))
    simp only [if_true]
    apply wpAny_bind; refine wpAny_field e2 rfl (x := o1) rfl (?_ : _)
    apply wpAny_bind; refine wpAny_field e2 rfl (x := o2) rfl (?_ : _)
    apply wpAny_bind; refine wpAny_setField_rec e2 (by simp) fun h3 e3 s3 => ?_
    replace s3 : Heap.SameBut J h2 h3 := s3
    replace e3 : h3.get? J = some (itemO D i n ep .none (.bool false) k.key o2) := e3
    apply wpAny_bind; refine wpAny_setField_rec e3 (by simp) fun h4 e4 s4 => ?_
    replace s4 : Heap.SameBut J h3 h4 := s4
    replace e4 : h4.get? J = some (itemO D i n ep .none (.bool false) k.key k.val) := e4
    apply wpAny_bind; refine wpAny_setField_rec e4 (by simp) fun h5 e5 s5 => ?_
    replace s5 : Heap.SameBut J h4 h5 := s5
    replace e5 : h5.get? J = some (itemO D i n ep (rawInt hp.objs.size) (.bool false) k.key k.val) := e5
    apply wpAny_bind; refine wpAny_setField_rec e5 (by simp) fun h6 e6 s6 => ?_
    replace s6 : Heap.SameBut J h5 h6 := s6
    replace e6 : h6.get? J = some (itemO D i n ep (rawInt hp.objs.size) (.bool false) k.key k.val) := e6
    have kk : ∀ b o, b ≠ J → h2.get? b = some o → h6.get? b = some o := fun b o nb eb => s6.extBut b o nb (s5.extBut b o nb (s4.extBut b o nb (s3.extBut b o nb eb)))
    have t6 := kk _ _ (Nat.ne_of_gt lj) t2
    refine wpAny_bind (wpAny_letGo (wpAny_pure (q h6 ⟨_, _, _, _, e6, .inr ⟨_, _, _, rfl, rfl, t6, Nat.ne_of_gt lj⟩⟩ t6 ?_ fun b o nb eb => kk b o nb (k2 b o eb))))
    show h6.objs.size = hp.objs.size + 1
    rw [s6.1, s5.1, s4.1, s3.1, z2]
  · refine wpAny_field e2 rfl (x := rawInt b) rfl (?_ : _)
    show wpAny _ _ (loadIfAlive ((b : Int).toNat) >>= _) _ _ _
    rw [Int.toNat_natCast]
    apply wpAny_bind; refine raw_alive (k2 b ob gb) (?_ : _)
    simp only [Option.isNone_some, Bool.false_eq_true, if_false]
    apply wpAny_bind; refine wpAny_field e2 rfl (x := .bool f) rfl (?_ : _)
    cases f with
    | true =>
      rw [if_neg (show ¬ ((Value.bool true != Value.bool true) = true) from fun z => by cases z)]
      apply wpAny_pure
      simp only [Bool.false_eq_true, if_false]
      exact wpAny_pure (q h2 ⟨_, _, _, _, e2, .inr ⟨b, true, ob, rfl, rfl, k2 b ob gb, nb⟩⟩ t2 z2 fun b o _ eb => k2 b o eb)
    | false =>
      rw [if_pos (show (Value.bool false != Value.bool true) = true from rfl)]
      apply wpAny_bind; refine wpAny_setField_rec e2 (by simp) fun h3 e3 s3 => ?_
      replace s3 : Heap.SameBut J h2 h3 := s3
      replace e3 : h3.get? J = some (itemO D i n ep (rawInt b) (.bool true) o1 o2) := e3
      apply wpAny_pure
      simp only [Bool.false_eq_true, if_false]
      refine wpAny_pure (q h3 ⟨_, _, _, _, e3, .inr ⟨b, true, ob, rfl, rfl, s3.extBut b ob nb (k2 b ob gb), nb⟩⟩ (s3.extBut _ _ (Nat.ne_of_gt lj) t2) ?_ fun b o nb eb => s3.extBut b o nb (k2 b o eb))
      show h3.objs.size = hp.objs.size + 1
      rw [s3.1, z2]
theorem raw_inext {k : DictEntry} {Q : Option Value → Shared → Prop} (y : RawJ s.heap J D i rows.size ep) (x : RawD s.heap D rows ep) (ek : rows[i]? = some k)
    (q : ∀ h', RawJ h' J D (i + 1) rows.size ep → h'.get? s.heap.objs.size = some (pairO k) → h'.objs.size = s.heap.objs.size + 1 → (∀ b o, b ≠ J → s.heap.get? b = some o → h'.get? b = some o) → Q (some (.ref s.heap.objs.size)) { s with heap := h' }) :
    wpAny (model prog w) A (pyNext (.ref J)) Q E s := by
  obtain ⟨hp, g, dr, tk, os⟩ := s
  have ty := y.ty
  obtain ⟨x0, x1, o1, o2, e, c⟩ := id y
  obtain ⟨od, g2, c2, e2⟩ := id x
  have hi : i < rows.size := (Array.getElem?_eq_some_iff.mp ek).1
  have hk : rows[i] = k := (Array.getElem?_eq_some_iff.mp ek).2
  unfold pyNext
  apply wpAny_bind
  refine wpAny_attempt (wpAny_callSpecial?_slot (name := Str.ofString "__next__") ty F.slot_dict_itemiterator_next (wpAny_call_entry F.slot_dict_itemiterator_next ty F.entry_dict_itemiterator_next (?_ : _) (F.args_dict_itemiterator_next_1 _)))
  apply wpAny_bind; apply wpAny_pure
  apply wpAny_bind; apply wpAny_bind
  first | refine wpAny_bind (wpAny_typeNameOfWhole_itemiter ty (wpAny_pure (?_ : _))) | refine wpAny_bind (wpAny_typeNameOf_itemiter ty (wpAny_pure (?_ : _)))
  apply wpAny_bind; refine wpAny_fieldsOf e rfl ?_
  have ot : Builtin.Dict_items.ownsTuple "dict_itemiterator" = true := by decide
  simp only [ot, if_true]
  show wpAny _ _ (if (Value.ref D == Value.none) = true then _ else _) _ _ _
  rw [if_neg (show ¬ ((Value.ref D == Value.none) = true) from fun z => by cases z)]
  apply wpAny_bind; apply wpAny_pure
  apply wpAny_bind; refine wpAny_dictEntries g2 e2 ?_
  rw [if_neg (show ¬ _ by simp)]
  apply wpAny_bind; apply wpAny_pure
  apply wpAny_bind; refine wpAny_dictEpoch g2 e2 ?_
  rw [if_neg (show ¬ _ by simp)]
  apply wpAny_pure
  simp only [show ¬ ((i : Int) < 0) by omega, if_false, Int.toNat_natCast, Array.getElem?_eq_getElem hi]
  apply wpAny_bind
  first | refine wpAny_bind (wpAny_typeNameOfWhole_itemiter ty (wpAny_pure (?_ : _))) | refine wpAny_bind (wpAny_typeNameOf_itemiter ty (wpAny_pure (?_ : _)))
  apply wpAny_bind; refine wpAny_isOneOf_itemiter ty ?_
  show wpAny _ _ (setField (.ref J) 3 (rawInt ((i : Int) + 1)) >>= _) _ _ _
  apply wpAny_bind; refine wpAny_setField_rec e (by simp) fun h1 e1 s1 => ?_
  replace s1 : Heap.SameBut J hp h1 := s1
  have e1' : h1.get? J = some (itemO D (i + 1) rows.size ep x0 x1 o1 o2) := by
    have z : ((i + 1 : Nat) : Int) = (i : Int) + 1 := by omega
    unfold itemO
    rw [z]
    simpa [rawInt, itemO] using e1
  have y1 : RawJ h1 J D (i + 1) rows.size ep := ⟨x0, x1, o1, o2, e1', c.imp_right fun ⟨b, f, ob, c1, c2, c3, c4⟩ => ⟨b, f, ob, c1, c2, s1.extBut b ob c4 c3, c4⟩⟩
  have ty1 : Shared.TypeIs ⟨h1, g, dr, tk, os⟩ (.ref J) "dict_itemiterator" := ⟨_, e1', rfl⟩
  apply wpAny_bind; apply wpAny_holding
  apply wpAny_bind; refine wpAny_isOneOf_itemiter ty1 (?_ : _)
  apply wpAny_bind; refine wpAny_isOneOf_itemiter ty1 (?_ : _)
  show wpAny _ _ (Builtin.Dict_items.pairFromOwner (.ref J) 6 rows[i].key rows[i].val) _ _ ⟨h1, g, dr, tk, os⟩
  rw [hk]
  have z1 : h1.objs.size = hp.objs.size := s1.1
  refine raw_pick y1 fun h' y' t' z' k' => wpAny_pure ⟨_, rfl, wpAny_pure ?_⟩
  have q' := q h' y' (by rw [← z1]; exact t') (by rw [← z1]; exact z') fun b o nb eb => k' b o nb (s1.extBut b o nb eb)
  dsimp only at q' ⊢
  rw [z1]
  exact q'
theorem raw_iend {Q : Option Value → Shared → Prop} (hh : A.handled = none) (y : RawJ s.heap J D rows.size rows.size ep) (x : RawD s.heap D rows ep)
    (q : ∀ h', Heap.ExtBut J s.heap h' → Q none { s with heap := h' }) : wpAny (model prog w) A (pyNext (.ref J)) Q E s := by
  have ty := y.ty
  obtain ⟨x0, x1, o1, o2, e, c⟩ := id y
  obtain ⟨od, g2, c2, e2⟩ := id x
  unfold pyNext
  apply wpAny_bind
  refine wpAny_attempt (wpAny_callSpecial?_slot (name := Str.ofString "__next__") ty F.slot_dict_itemiterator_next (wpAny_call_entry F.slot_dict_itemiterator_next ty F.entry_dict_itemiterator_next (?_ : _) (F.args_dict_itemiterator_next_1 _)))
  apply wpAny_bind; apply wpAny_pure
  apply wpAny_bind; apply wpAny_bind
  first | refine wpAny_bind (wpAny_typeNameOfWhole_itemiter ty (wpAny_pure (?_ : _))) | refine wpAny_bind (wpAny_typeNameOf_itemiter ty (wpAny_pure (?_ : _)))
  apply wpAny_bind; refine wpAny_fieldsOf e rfl ?_
  have ot : Builtin.Dict_items.ownsTuple "dict_itemiterator" = true := by decide
  simp only [ot, if_true]
  show wpAny _ _ (if (Value.ref D == Value.none) = true then _ else _) _ _ s
  rw [if_neg (show ¬ ((Value.ref D == Value.none) = true) from fun z => by cases z)]
  apply wpAny_bind; apply wpAny_pure
  apply wpAny_bind; refine wpAny_dictEntries g2 e2 ?_
  rw [if_neg (show ¬ _ by simp)]
  apply wpAny_bind; apply wpAny_pure
  apply wpAny_bind; refine wpAny_dictEpoch g2 e2 ?_
  rw [if_neg (show ¬ _ by simp)]
  apply wpAny_pure
  simp only [show ¬ ((rows.size : Int) < 0) by omega, if_false, Int.toNat_natCast, Array.getElem?_eq_none (Nat.le_refl rows.size)]
  apply wpAny_bind
  first | refine wpAny_bind (wpAny_typeNameOfWhole_itemiter ty (wpAny_pure (?_ : _))) | refine wpAny_bind (wpAny_typeNameOf_itemiter ty (wpAny_pure (?_ : _)))
  show wpAny _ _ (setField (.ref J) 2 .none >>= _) _ _ s
  apply wpAny_bind; refine wpAny_setField e rfl (by simp) (?_ : _)
  show wpAny _ _ (newExc (.type "StopIteration") [] >>= _) _ _ _
  apply wpAny_bind
  simp only [newExc, newTuple]
  apply wpAny_bind; refine wpAny_newObj_type ?_ (by size_fits)
  apply wpAny_bind (m := firstArgMember _ _); refine wpAny_of_eq (a := Value.none) (by first | rfl | (simp only [firstArgMember]; rfl)) ?_
  refine wpAny_newObj_type ?_ (by size_fits)
  simp only [raiseNew]
  apply wpAny_bind; apply wpAny_handled
  rw [show A.in1.handled = none from hh]
  refine wpAny_bind (wpAny_pure (wpAny_throw (?_ : _)))
  apply wpAny_bind
  refine wpAny_isInstance (T := "StopIteration") (b := true) ⟨_, Heap.get?_push_size _ rfl, rfl⟩ isSubtype_stop ?_
  exact wpAny_pure (q _ (((Heap.SameBut.update ..).extBut.push _).push _))
end
end L2

set_option Elab.async false
set_option linter.all false
set_option maxRecDepth 100000
set_option maxHeartbeats 4000000
namespace L2
open PySem PySem.Spec PySem.W PyProof.Rows
/-- the pairs given so far -/
def PairsAt (h : Heap) (rows : Array DictEntry) (J : Addr) (as : List Addr) : Prop := (∀ a ∈ as, J < a) ∧ as.Nodup ∧ ∀ (j : Nat) a, as[j]? = some a → ∃ e, rows[j]? = some e ∧ h.get? a = some (pairO e)
theorem PairsAt.lt {h : Heap} {rows : Array DictEntry} {J a : Addr} {as : List Addr} (p : PairsAt h rows J as) (m : a ∈ as) : a < h.objs.size := by
  obtain ⟨j, hj⟩ := List.getElem?_of_mem m
  obtain ⟨e, _, g⟩ := p.2.2 j a hj
  exact Heap.lt_size g
theorem PairsAt.to {h k : Heap} {rows : Array DictEntry} {J : Addr} {as : List Addr} (p : PairsAt h rows J as) (f : ∀ a o, a ∈ as → h.get? a = some o → k.get? a = some o) : PairsAt k rows J as :=
  ⟨p.1, p.2.1, fun j a e => let ⟨x, e1, g⟩ := p.2.2 j a e; ⟨x, e1, f a _ (List.mem_of_getElem? e) g⟩⟩
theorem PairsAt.snoc {h : Heap} {rows : Array DictEntry} {J a : Addr} {as : List Addr} {e : DictEntry} (p : PairsAt h rows J as) (ha : J < a) (nm : a ∉ as) (er : rows[as.length]? = some e) (g : h.get? a = some (pairO e)) : PairsAt h rows J (as ++ [a]) := by
  refine ⟨fun b hb => ?_, ?_, fun j b hj => ?_⟩
  · rcases List.mem_append.mp hb with m | m
    · exact p.1 b m
    · rw [List.mem_singleton.mp m]; exact ha
  · rw [List.nodup_append]
    refine ⟨p.2.1, by simp, fun x hx y hy z => ?_⟩
    rw [List.mem_singleton.mp hy] at z
    subst z
    exact nm hx
  · by_cases hl : j < as.length
    · rw [List.getElem?_append_left hl] at hj
      exact p.2.2 j b hj
    · have : j = as.length := by
        have := (List.getElem?_eq_some_iff.mp hj).1
        simp at this
        omega
      subst this
      have eb : a = b := by simpa using hj
      subst eb
      exact ⟨e, er, g⟩
def listO (acc : Array Value) (c : Nat) : Obj := { cls := .type "list", dict := none, data := .seq acc c, slots := #[] }
section
variable {prog : Program} {w : World} {A : Around} {E : Value → Shared → Prop} {s : Shared} {D J S v : Addr} {rows : Array DictEntry} {ep : Nat}
theorem raw_loop {R : Result → Shared → Prop} (hh : A.handled = none) (sj : S < J) (ds : D ≠ S) (dj : D ≠ J) (hn : rows.size ≤ sizeLine) {h0 : Heap}
    (hR : ∀ h' tk acc c as, (∀ b o, b ≠ S → b ≠ J → h0.get? b = some o → h'.get? b = some o) → h'.get? S = some (listO acc c) → as.length = rows.size → PairsAt h' rows J as → acc.toList = as.map Value.ref →
      R (.ok (.ret .none)) { s with heap := h', toks := tk }) :
    ∀ (m i : Nat) (h : Heap) (tk c : Nat) (acc : Array Value) (as : List Addr), rows.size - i = m → i ≤ rows.size → RawJ h J D i rows.size ep → RawD h D rows ep → (∀ b o, b ≠ S → b ≠ J → h0.get? b = some o → h.get? b = some o) →
      h.get? S = some (listO acc c) → acc.toList = as.map Value.ref → as.length = i → PairsAt h rows J as →
      codeAny (model prog w) A (.builtin "list.extend.loop" ⟨[.ref S, .ref J, .none], []⟩) R { s with heap := h, toks := tk } := by
  have ne : S ≠ J := Nat.ne_of_lt sj
  intro m
  induction m with
  | zero =>
    intro i h tk c acc as hm hi y x kp gS ea el pa
    have e : i = rows.size := by omega
    subst e
    refine codeAny_builtin PySem.F.entry_extend_loop (?_ : _)
    rw [Around.under_plainId PySem.F.plain_extend_loop _]
    show wpAny _ A.in1 (pyNext (.ref J) >>= _) _ _ _
    apply wpAny_bind
    refine raw_iend (s := { s with heap := h, toks := tk }) (A := A.in1) hh y x fun h' eb => ?_
    exact wpAny_pure (hR h' tk acc c as (fun b o b1 b2 z => eb b o b2 (kp b o b1 b2 z)) (eb S _ ne gS) el (pa.to fun a o ma z => eb a o (Nat.ne_of_gt (pa.1 a ma)) z) ea)
  | succ m ih =>
    intro i h tk c acc as hm hi y x kp gS ea el pa
    have lt : i < rows.size := by omega
    obtain ⟨k, ek⟩ : ∃ k, rows[i]? = some k := ⟨rows[i], by simp [lt]⟩
    have az : acc.size = i := by rw [← Array.length_toList, ea, List.length_map, el]
    refine codeAny_builtin PySem.F.entry_extend_loop (?_ : _)
    rw [Around.under_plainId PySem.F.plain_extend_loop _]
    show wpAny _ A.in1 (pyNext (.ref J) >>= _) _ _ _
    apply wpAny_bind
    refine raw_inext (s := { s with heap := h, toks := tk }) y x ek fun h' y' t' z' k' => ?_
    dsimp only at t' z' k' ⊢
    have gS' := k' S _ ne gS
    have lS : S < h.objs.size := Heap.lt_size gS
    have up : ∀ b o, b ≠ S → h'.get? b = some o → (h'.update S (Obj.mapSeq (·.push (Value.ref h.objs.size)))).get? b = some o := fun b o nb z => (Heap.get?_update_other _ _ (Ne.symm nb)).trans z
    have gS2 : (h'.update S (Obj.mapSeq (·.push (Value.ref h.objs.size)))).get? S = some (listO (acc.push (Value.ref h.objs.size)) _) := Heap.get?_update_self _ gS' rfl
    show wpAny _ A.in1 (updateSeq S (·.push (Value.ref h.objs.size)) >>= _) _ _ _
    apply wpAny_bind
    refine wpAny_updateSeq gS' rfl (wpAny_pure ⟨plainId_quiet PySem.F.plain_extend_loop _, ?_⟩) (by rw [az]; omega) (by show (acc.push (Value.ref h.objs.size)).size ≤ sizeLine + 1; rw [Array.size_push, az]; omega)
    refine ih (i + 1) _ tk _ (acc.push (Value.ref h.objs.size)) (as ++ [h.objs.size]) (by omega) lt (y'.to (fun o z => up J o (Ne.symm ne) z) fun b o z => ?_) ((x.to fun o z => k' D o dj z).to fun o z => up D o ds z)
      (fun b o b1 b2 z => up b o b1 (k' b o b2 (kp b o b1 b2 z))) gS2 ?_ ?_ ?_
    · by_cases hb : b = S
      · subst hb; exact ⟨_, gS2⟩
      · exact ⟨o, up b o hb z⟩
    · rw [Array.toList_push, ea, List.map_append]; rfl
    · rw [List.length_append, el]; rfl
    · have pa' : PairsAt h' rows J as := pa.to fun a o ma z => k' a o (Nat.ne_of_gt (pa.1 a ma)) z
      have pa2 := pa'.snoc (a := h.objs.size) (e := k) y.lt (fun z => Nat.lt_irrefl _ (pa.lt z)) (by rw [el]; exact ek) t'
      refine pa2.to fun a o ma z => up a o ?_ z
      rintro rfl
      exact Nat.lt_irrefl _ (Nat.lt_trans (pa2.1 a ma) sj)
theorem raw_list {Q : Value → Shared → Prop} (hh : A.handled = none) (hv : s.heap.IsItemsView v D) (x : RawD s.heap D rows ep) (hn : rows.size ≤ sizeLine)
    (hQ : ∀ h' tk acc c as, (∀ b o, s.heap.get? b = some o → h'.get? b = some o) → h'.get? s.heap.objs.size = some (listO acc c) → as.length = rows.size → PairsAt h' rows s.heap.objs.size as → acc.toList = as.map Value.ref →
      Q (.ref s.heap.objs.size) { s with heap := h', toks := tk }) : wpAny (model prog w) A (call (.type "list") [.ref v]) Q E s := by
  refine callType_codes (Q₁ := fun obj s₁ => obj = .ref s.heap.objs.size ∧ s₁ = { s with heap := s.heap.push { cls := .type "list", data := .seq #[] } }) PySem.F.called_list (PySem.F.typeCall_list_1 _) PySem.F.entry_list_init
    (code_list_new _ ⟨rfl, rfl⟩) fun obj s₁ h₁ => ?_
  obtain ⟨rfl, rfl⟩ := h₁
  have hS : (s.heap.push { cls := .type "list", data := .seq #[] }).get? s.heap.objs.size = some { cls := .type "list", data := .seq #[] } := Heap.get?_push_size _ rfl
  have lv : v < s.heap.objs.size := by obtain ⟨o, e, _⟩ := hv; exact Heap.lt_size e
  have ld : D < s.heap.objs.size := x.lt
  refine ⟨⟨_, hS, rfl⟩, PySem.F.args_list_init_2 _ _, ?_⟩
  show wpAny _ _ (do let old ← Builtin.List.listItems (.ref s.heap.objs.size); Builtin.List.listUpdate (.ref s.heap.objs.size) (fun _ => #[]); letGo old.toList.reverse; Builtin.List.listExtendWith (.ref s.heap.objs.size) (.ref v) .none) _ _ _
  apply wpAny_bind
  unfold Builtin.List.listItems
  apply wpAny_bind
  refine wpAny_seqItems hS rfl (wpAny_pure (?_ : _))
  show wpAny _ _ (updateSeq s.heap.objs.size (fun _ => #[]) >>= fun _ => letGo (#[] : Array Value).toList.reverse >>= fun _ => Builtin.List.listExtendWith (.ref s.heap.objs.size) (.ref v) .none) _ _ _
  apply wpAny_bind
  refine wpAny_updateSeq hS rfl (?_ : _)
  have hS₂ := Heap.get?_update_self (Obj.mapSeq (fun _ => (#[] : Array Value))) hS rfl
  have oth : ∀ b o, s.heap.get? b = some o → ((s.heap.push { cls := .type "list", data := .seq #[] }).update s.heap.objs.size (Obj.mapSeq (fun _ => (#[] : Array Value)))).get? b = some o :=
    fun b o e => (Heap.get?_update_other _ _ (Nat.ne_of_gt (Heap.lt_size e))).trans (Heap.get?_push_of_some _ e)
  have zS : ((s.heap.push { cls := .type "list", data := .seq #[] }).update s.heap.objs.size (Obj.mapSeq (fun _ => (#[] : Array Value)))).objs.size = s.heap.objs.size + 1 := by
    rw [(Heap.SameBut.update ..).1, Heap.size_push]
  apply wpAny_bind; refine wpAny_letGo (?_ : _)
  have hv2 : ((s.heap.push { cls := .type "list", data := .seq #[] }).update s.heap.objs.size (Obj.mapSeq (fun _ => (#[] : Array Value)))).IsItemsView v D := by obtain ⟨o, e, r⟩ := hv; exact ⟨o, oth v o e, r⟩
  have x2 := x.to fun o e => oth D o e
  generalize (s.heap.push { cls := .type "list", data := .seq #[] }).update s.heap.objs.size (Obj.mapSeq (fun _ => (#[] : Array Value))) = g at *
  unfold Builtin.List.listExtendWith
  apply wpAny_bind
  refine wpAny_typeOf (T := "dict_items") hv2.typeIs (?_ : _)
  have h1 : Builtin.List.listSameRef (.ref s.heap.objs.size) (.ref v) = false := by simp [Builtin.List.listSameRef, Nat.ne_of_gt lv]
  simp only [h1, show (Value.type "dict_items" == Value.type "list") = false by decide, show (Value.type "dict_items" == Value.type "tuple") = false by decide, Bool.or_false, Bool.false_eq_true, if_false]
  apply wpAny_bind
  refine raw_istart hv2 x2 (?_ : _)
  apply wpAny_bind; apply wpAny_holding
  refine kdx_hint (let ⟨o, e, c, _⟩ := hv2; ⟨o, Heap.get?_push_of_some _ e, c⟩) (?_ : _)
  have goal : ∀ (h : Heap) (c : Nat), (∀ b o, b ≠ s.heap.objs.size → (g.push (itemO D 0 rows.size ep .none (.bool false) .none .none)).get? b = some o → h.get? b = some o) → h.get? s.heap.objs.size = some (listO #[] c) →
      codeAny (model prog w) A.in1 (.builtin "list.extend.loop" ⟨[.ref s.heap.objs.size, .ref g.objs.size, .none], []⟩) (wants (fun r s₂ => r = Value.none ∧ Q (Value.ref s.heap.objs.size) s₂) E) { s with heap := h, toks := s.toks } := fun h c hk hS3 => by
    have nj : g.objs.size ≠ s.heap.objs.size := by rw [zS]; exact Nat.succ_ne_self _
    refine raw_loop (s := s) (h0 := s.heap) (A := A.in1) hh (S := s.heap.objs.size) (J := g.objs.size) (D := D) (rows := rows) (ep := ep) (by rw [zS]; exact Nat.lt_succ_self _) (Nat.ne_of_lt ld) (by rw [zS]; exact Nat.ne_of_lt (Nat.lt_succ_of_lt ld)) hn (fun h' tk acc c as kp gS el pa ea => ?_) rows.size 0 _ _ _ #[] [] (Nat.sub_zero _) (Nat.zero_le _)
      ⟨_, _, _, _, hk _ _ nj (Heap.get?_push_size _ rfl), .inl ⟨rfl, rfl⟩⟩ (x2.to fun o e => hk D o (Nat.ne_of_lt ld) (Heap.get?_push_of_some _ e)) (fun b o b1 _ e => hk b o b1 (Heap.get?_push_of_some _ (oth b o e))) hS3 rfl rfl ⟨(fun _ z => nomatch z), List.nodup_nil, fun j a e => by simp at e⟩
    exact ⟨rfl, hQ h' tk acc c as (fun b o e => kp b o (Nat.ne_of_lt (Heap.lt_size e)) (by rw [zS]; exact Nat.ne_of_lt (Nat.lt_succ_of_lt (Heap.lt_size e))) e) gS el ⟨fun a ma => Nat.lt_trans (by rw [zS]; exact Nat.lt_succ_self _) (pa.1 a ma), pa.2⟩ ea⟩
  have hS1 := Heap.get?_push_of_some (itemO D 0 rows.size ep .none (.bool false) .none .none) hS₂
  refine wpAny_ite_split (fun _ => ?_) (fun _ => wpAny_pure ⟨plainId_quiet PySem.F.plain_extend_loop _, goal _ _ (fun b o _ e => e) hS1⟩)
  apply wpAny_bind; apply wpAny_rule
  apply wpAny_bind
  show wpAny _ _ (updateSeq s.heap.objs.size (·.push .none) >>= fun _ => updateSeq s.heap.objs.size (·.pop)) _ _ _
  apply wpAny_bind
  refine wpAny_updateSeq hS1 rfl (?_ : _)
  have hS3 := Heap.get?_update_self (Obj.mapSeq (·.push Value.none)) hS1 rfl
  refine wpAny_updateSeq (hz := by seq_fits) hS3 rfl (?_ : _)
  have hS4 := Heap.get?_update_self (Obj.mapSeq (·.pop)) hS3 rfl
  refine wpAny_pure ⟨plainId_quiet PySem.F.plain_extend_loop _, goal _ _ (fun b o hb e => ?_) hS4⟩
  exact (Heap.get?_update_other _ _ (Ne.symm hb)).trans ((Heap.get?_update_other _ _ (Ne.symm hb)).trans e)
end
end L2

set_option Elab.async false
set_option linter.all false
set_option maxRecDepth 100000
set_option maxHeartbeats 4000000
namespace L2
open PySem PySem.Spec PySem.W PyProof.Rows
def updM (H : Hp) : List (Addr × HO) → Hp
  | [] => H
  | p :: ps => upd (updM H ps) p.1 p.2
theorem updM_ne {H : Hp} {b : Addr} : ∀ {ps : List (Addr × HO)}, b ∉ ps.map Prod.fst → updM H ps b = H b
  | [], _ => rfl
  | p :: ps, h => by
    rw [List.map_cons, List.mem_cons, not_or] at h
    rw [updM, upd_ne h.1]
    exact updM_ne h.2
theorem updM_mem {H : Hp} : ∀ {ps : List (Addr × HO)} {p : Addr × HO}, (ps.map Prod.fst).Nodup → p ∈ ps → updM H ps p.1 = some p.2
  | [], _, _, h => nomatch h
  | q :: ps, p, nd, h => by
    rw [List.map_cons, List.nodup_cons] at nd
    rcases List.mem_cons.mp h with rfl | h
    · exact upd_same
    · rw [updM, upd_ne]
      · exact updM_mem nd.2 h
      · intro z
        exact nd.1 (z ▸ List.mem_map_of_mem h)
section
variable {X : Cx} {pins : List (Addr × Obj)} {σ : St} {H : Hp} {s : Shared} {h' : Heap}
theorem updM_same {ps : List (Addr × HO)} (I : Inv X pins σ H s) (hp : ∀ p ∈ ps, s.heap.objs.size ≤ p.1) : Same H (updM H ps) := fun b u e => by
  rw [updM_ne]
  · exact e
  · intro hm
    obtain ⟨p, mp, ep⟩ := List.mem_map.mp hm
    have h1 : s.heap.objs.size ≤ p.1 := hp p mp
    have h2 : b < s.heap.objs.size := I.hok.lt e
    rw [ep] at h1
    exact absurd h2 (Nat.not_lt.mpr h1)
theorem Inv.laidM {ps : List (Addr × HO)} {t' : Nat} (I : Inv X pins σ H s) (k : ∀ b u, s.heap.get? b = some u → h'.get? b = some u) (nd : (ps.map Prod.fst).Nodup) (hp : ∀ p ∈ ps, s.heap.objs.size ≤ p.1)
    (new : ∀ p ∈ ps, ObjOk X.prog X.w (updM H ps) h' p.1 p.2) : Inv X pins σ (updM H ps) { s with heap := h', toks := t' } := by
  have same := updM_same I hp
  refine I.un ⟨fun b u q _ _ _ => k b u q, fun b u q _ _ _ => ⟨u.slots, k b u q⟩, fun b u q n _ => ?_, fun b u q _ => ⟨u, k b u q⟩, fun b xs q => same _ _ q, fun b o u q => same _ _ q, fun b qs q => ⟨#[], by rw [same _ _ q]; simp⟩⟩ fun b u e => ?_
  · rw [updM_ne]
    · exact n
    · intro hm
      obtain ⟨p, mp, ep⟩ := List.mem_map.mp hm
      have h1 : s.heap.objs.size ≤ p.1 := hp p mp
      have h2 : b < s.heap.objs.size := Heap.lt_size q
      rw [ep] at h1
      exact absurd h2 (Nat.not_lt.mpr h1)
  · by_cases hb : b ∈ ps.map Prod.fst
    · obtain ⟨p, mp, rfl⟩ := List.mem_map.mp hb
      rw [updM_mem nd mp] at e
      cases e
      exact new p mp
    · rw [updM_ne hb] at e
      exact (I.hok b u e).stay (fun c o _ q => k c o q) (fun c q => same _ _ q) fun c xs q => same _ _ q
theorem dT_rows {a : Addr} {kvs : List (List Key × V)} (I : Inv X pins σ H s) (ha : H a = some (.dT kvs)) :
    ∃ (rows : Array DictEntry) (ep : Nat), RawD s.heap a rows ep ∧ (a == sysModules) = false ∧ rows.size = kvs.length ∧ kvs.length ≤ sizeLine ∧
      ∀ (i : Nat) kv, kvs[i]? = some kv → ∃ e b, rows[i]? = some e ∧ e.key = .ref b ∧ H b = some (.tup (kv.1.map kV)) ∧ RelV kv.2 e.val := by
  obtain ⟨z, nb, xs, r, o, es, ep, g, c, d, et, nd⟩ := (show ObjOk X.prog X.w H s.heap a (.dT kvs) from I.hok a _ ha)
  have key : ∀ {l : List (List Key × V)} {m : List (List Key × Addr × Value)}, Paired (fun (p : List Key × V) (q : List Key × Addr × Value) => p.1 = q.1 ∧ H q.2.1 = some (.tup (p.1.map kV)) ∧ RelV p.2 q.2.2) l m →
      l.length = m.length ∧ ∀ (i : Nat) kv, l[i]? = some kv → ∃ q, m[i]? = some q ∧ H q.2.1 = some (.tup (kv.1.map kV)) ∧ RelV kv.2 q.2.2 := by
    intro l m t
    induction t with
    | nil => exact ⟨rfl, fun i kv e => by simp at e⟩
    | @cons p q ps qs hq t ih =>
      refine ⟨by simp [ih.1], fun i kv e => ?_⟩
      cases i with
      | zero =>
        have a1 : p = kv := by simpa using e
        subst a1
        exact ⟨q, by simp, hq.2.1, hq.2.2⟩
      | succ i =>
        obtain ⟨q', e1, e2⟩ := ih.2 i kv (by simpa using e)
        exact ⟨q', by simpa using e1, e2⟩
  obtain ⟨k1, k2⟩ := key r
  have hsz : es.size = kvs.length := by rw [← Array.length_toList, et, List.length_map, k1]
  refine ⟨es, ep, ⟨o, g, c, d⟩, nb, hsz, z, fun i kv e => ?_⟩
  obtain ⟨q, e1, e2, e3⟩ := k2 i kv e
  refine ⟨entryOfKey (tupleKind (mixKind X.prog X.w)) q, q.2.1, ?_, rfl, e2, e3⟩
  rw [← Array.getElem?_toList, et, List.getElem?_map, e1]
  rfl
end
/-- the pairs of a dict, seen -/
def viewO (r a : Addr) : HO := .ext fun h => h.IsItemsView r a
section
variable {X : Cx}
theorem call_listItems (hc : X.calm = true) : CallR X (.type "list") (fun xs H Q => ∃ r a kvs, xs = [.ref r] ∧ H r = some (viewO r a) ∧ H a = some (.dT kvs) ∧
    ∀ (l : Addr) (H' : Hp) (as : List Addr), Same H H' → H l = none → H' l = some (.lst (as.map V.ref)) → as.length = kvs.length →
      (∀ (j : Nat) b, as[j]? = some b → ∃ c kv, kvs[j]? = some kv ∧ H c = some (.tup (kv.1.map kV)) ∧ H' b = some (.tup [.ref c, kv.2])) → Q (.ref l) H') := by
  intro pins s σ H xs us Q I r h
  obtain ⟨r0, a, kvs, rfl, hr, ha, q⟩ := h
  obtain ⟨u, rfl, ru⟩ := vals1 r
  cases ru
  obtain ⟨rows, ep, rd, nb, sz, z, kb⟩ := dT_rows I ha
  obtain ⟨hv, _⟩ := (show ObjOk X.prog X.w H s.heap r0 (viewO r0 a) from I.hok r0 _ hr)
  refine raw_list (I.ok.hd hc) hv rd (by omega) fun h' tk acc c as keep gS el pa ea => ?_
  have ix : ∀ (j : Nat) b, as[j]? = some b → ∃ e c kv, kvs[j]? = some kv ∧ H c = some (.tup (kv.1.map kV)) ∧ e.key = .ref c ∧ RelV kv.2 e.val ∧ h'.get? b = some (pairO e) := fun j b ej => by
    obtain ⟨e, er, g⟩ := pa.2.2 j b ej
    have hj := (List.getElem?_eq_some_iff.mp ej).1
    obtain ⟨kv, ekv⟩ : ∃ kv, kvs[j]? = some kv := ⟨kvs[j]'(by omega), by simp⟩
    obtain ⟨e', c, er', k1, k2, k3⟩ := kb j kv ekv
    rw [er] at er'
    cases er'
    exact ⟨e, c, kv, ekv, k2, k1, k3, g⟩
  obtain ⟨f, hf⟩ : ∃ f : Addr → Addr × (List Key × V), ∀ (j : Nat) b, as[j]? = some b → ∃ e, kvs[j]? = some (f b).2 ∧ H (f b).1 = some (.tup ((f b).2.1.map kV)) ∧ e.key = .ref (f b).1 ∧ RelV (f b).2.2 e.val ∧ h'.get? b = some (pairO e) := by
    have : ∀ b : Addr, ∃ p : Addr × (List Key × V), ∀ (j : Nat), as[j]? = some b → ∃ e, kvs[j]? = some p.2 ∧ H p.1 = some (.tup (p.2.1.map kV)) ∧ e.key = .ref p.1 ∧ RelV p.2.2 e.val ∧ h'.get? b = some (pairO e) := fun b => by
      by_cases hb : b ∈ as
      · obtain ⟨j, ej⟩ := List.getElem?_of_mem hb
        obtain ⟨e, c, kv, t1, t2, t3, t4, t5⟩ := ix j b ej
        refine ⟨(c, kv), fun j' ej' => ?_⟩
        have : j' = j := by
          obtain ⟨l1, e1⟩ := List.getElem?_eq_some_iff.mp ej'
          obtain ⟨l2, e2⟩ := List.getElem?_eq_some_iff.mp ej
          exact (List.getElem_inj pa.2.1).mp (e1.trans e2.symm)
        subst this
        exact ⟨e, t1, t2, t3, t4, t5⟩
      · exact ⟨(0, ([], .non)), fun j ej => absurd (List.mem_of_getElem? ej) hb⟩
    exact ⟨fun b => (this b).choose, fun j b ej => (this b).choose_spec j ej⟩
  have nd : ((((s.heap.objs.size : Addr), HO.lst (as.map V.ref)) :: as.map fun b => (b, HO.tup [V.ref (f b).1, (f b).2.2])).map Prod.fst).Nodup := by
    rw [List.map_cons, List.map_map, List.nodup_cons]
    have e1 : as.map (Prod.fst ∘ fun b => (b, HO.tup [V.ref (f b).1, (f b).2.2])) = as := by
      rw [show (Prod.fst ∘ fun b => (b, HO.tup [V.ref (f b).1, (f b).2.2])) = id from rfl, List.map_id]
    rw [e1]
    exact ⟨fun m => Nat.lt_irrefl _ (pa.1 _ m), pa.2.1⟩
  have hp : ∀ p ∈ ((s.heap.objs.size : Addr), HO.lst (as.map V.ref)) :: as.map (fun b => (b, HO.tup [V.ref (f b).1, (f b).2.2])), s.heap.objs.size ≤ p.1 := fun p mp => by
    rcases List.mem_cons.mp mp with rfl | mp
    · exact Nat.le_refl _
    · obtain ⟨b, mb, rfl⟩ := List.mem_map.mp mp
      exact Nat.le_of_lt (pa.1 b mb)
  have lf : H s.heap.objs.size = none := I.hok.fresh (Nat.le_refl _)
  have I2 := I.laidM (t' := tk) keep nd hp (fun p mp => by
    rcases List.mem_cons.mp mp with rfl | mp
    · refine (show ObjOk X.prog X.w _ h' _ (.lst _) from ⟨by rw [List.length_map]; omega, acc.toList, c, by rw [ea]; exact vals_refs as, ?_⟩)
      rw [Array.toArray_toList]
      exact gS
    · obtain ⟨b, mb, rfl⟩ := List.mem_map.mp mp
      obtain ⟨j, ej⟩ := List.getElem?_of_mem mb
      obtain ⟨e, t1, t2, t3, t4, t5⟩ := hf j b ej
      refine (show ObjOk X.prog X.w _ h' b (.tup [V.ref (f b).1, (f b).2.2]) from ⟨by rw [sizeLine_eq]; show (2 : Nat) ≤ _; decide, [e.key, e.val], .cons (by rw [t3]; exact rfl) (.cons t4 .nil), ⟨_, t5, rfl, _, rfl⟩, _, t5, rfl⟩))
  refine ⟨.ref s.heap.objs.size, _, I2, rfl, q _ _ as (updM_same I hp) lf (updM_mem nd List.mem_cons_self) (by rw [el, sz]) fun j b ej => ?_⟩
  obtain ⟨e, t1, t2, t3, t4, t5⟩ := hf j b ej
  exact ⟨(f b).1, (f b).2, t1, t2, updM_mem (p := (b, HO.tup [V.ref (f b).1, (f b).2.2])) nd (List.mem_cons_of_mem _ (List.mem_map.mpr ⟨b, List.mem_of_getElem? ej, rfl⟩))⟩
theorem mt_items : MtR X "dict.items" (fun x xs H Q => ∃ a kvs, x = .ref a ∧ xs = [] ∧ H a = some (.dT kvs) ∧ ∀ r, H r = none → Q (.ref r) (upd H r (viewO r a))) := by
  intro pins s σ H x xs v us Q I rx rs h
  obtain ⟨a, kvs, rfl, rfl, ha, q⟩ := h
  cases rx
  cases rs
  obtain ⟨rows, ep, rd, nb, sz, z, kb⟩ := dT_rows I ha
  refine raw_view nb rd ?_
  have g : (s.heap.push { cls := .type "dict_items", data := .fields #[.ref a] }).get? s.heap.objs.size = some { cls := .type "dict_items", data := .fields #[.ref a] } := Heap.get?_push_size _ rfl
  refine ⟨.ref s.heap.objs.size, _, I.laid (t' := s.toks) (fun b u e => Heap.get?_push_of_some _ e) (Nat.le_refl _) ?_, rfl, q _ (I.hok.fresh (Nat.le_refl _))⟩
  refine (show ObjOk X.prog X.w _ _ _ (viewO _ a) from ⟨⟨_, g, rfl, rfl⟩, ⟨_, g⟩, fun h1 h2 p k => ?_⟩)
  obtain ⟨o, e, r⟩ := p
  exact ⟨o, k o e, r⟩
theorem ty_ditems : typeOf (.builtin "dict.items") = pure (.type "method_descriptor") := by kernel_rfl
end
end L2
namespace DL
open PySem PySem.Spec L2 L3
open PyProof.Rows hiding St
variable {Γ : Hp → Prop}
def itemsT (ks : List TK) (ds : List D) : List D := (ks.zip ds).map fun p => .tup [tkD p.1, p.2]
theorem reps_items {K : PySem.W.Frag} {H H' : Hp} {O O' : List Addr} (g : Grow O O' H H') : ∀ {ks : List TK} {ds : List D} {xs : List V} {as : List Addr}, Reps K H O ds xs → ks.length = ds.length → as.length = ks.length →
    (∀ (j : Nat) b, as[j]? = some b → ∃ c kv, (ks.zip xs)[j]? = some kv ∧ H c = some (.tup (kv.1.map kV)) ∧ H' b = some (.tup [.ref c, kv.2])) → Reps K H' O' (itemsT ks ds) (as.map V.ref)
  | [], ds, xs, as, _, _, la, _ => by
    cases as with
    | nil => rfl
    | cons _ _ => simp at la
  | k :: ks, [], _, _, _, l, _, _ => by simp at l
  | k :: ks, d :: ds, xs, [], _, _, la, _ => by simp at la
  | k :: ks, d :: ds, xs, a :: as, r, l, la, h => by
    obtain ⟨v, r', rfl, q, t⟩ := r
    obtain ⟨c, kv, e1, e2, e3⟩ := h 0 a (by simp)
    have : (k, v) = kv := by simpa using e1
    subst this
    refine ⟨.ref a, as.map V.ref, rfl, ⟨a, _, rfl, ⟨SqT.of e3, e3⟩, .ref c, [v], rfl, rep_tk (g.tups _ _ e2), v, [], rfl, Rep.grow g _ _ q, rfl⟩, ?_⟩
    exact reps_items g t (by simpa using l) (by simpa using la) fun j b ej => h (j + 1) b (by simpa using ej)
section
variable {X : Cx} {o : Expr} {td : TD} {p apos cpos pos : Pos}
def dItems (td : TD) : TD := fun ρ φ => td ρ fun r => match r.d with
  | .dt ks ds => φ (df (.lst (itemsT ks ds)))
  | _ => False
theorem ed_listItems (hm : X.mg "list" = none) (ho : ED Γ X o td) (hc : X.calm = true := by rfl) (hg : Gl X "list" := by rfl)
    (hbase : attributeBase o "items" X.env (eval o X.env) = eval o X.env := by rfl) (hline : (apos.endLine == cpos.line) = true := by rfl)
    (he : starEach [.Call (.Attribute o "items" apos) [] [] cpos] X.env = (false, eval (.Call (.Attribute o "items" apos) [] [] cpos) X.env) :: starEach [] X.env := by rfl) (hpl : (backTo pos (starEach [] X.env)).any (·.1) = false := by rfl) :
    ED Γ X (.Call (.Name "list" p) [.Call (.Attribute o "items" apos) [] [] cpos] [] pos) (dItems td) := fun H₀ =>
  impE (pe_callTy (call_listItems hc) hg hm boot_list' (pa_cons (pe_bm0 PySem.F.plainAttrs_dict PySem.F.slot_dict_items ty_ditems mt_items (ho H₀) hbase hline) pa_nil he) (by decide) (by decide) he hpl) fun σ H Q q => by
    obtain ⟨ρ, oo, R, φ, hφ, kk⟩ := q
    refine ⟨ρ, oo, R, _, hφ, fun v r H1 s1 rv h1 => ?_⟩
    obtain ⟨kd, d⟩ := r
    cases d with
    | dt ks ds =>
      obtain ⟨a, xs, rfl, q, l, nd, rp⟩ := rv.view
      refine ⟨.inr (.inr (.inl ⟨rfl, .inr ⟨_, q⟩⟩)), a, _, rfl, rfl, q, fun r hr => ?_⟩
      show ∃ r' a' kvs, [V.ref r] = [V.ref r'] ∧ _
      have hne : a ≠ r := ne_of_none q hr
      refine ⟨r, a, _, rfl, upd_same, (by rw [upd_ne hne]; exact q), fun lst H' as sm hl el la hp => ?_⟩
      have sm1 := same_new hr (viewO r a)
      have sm' : Same H1 H' := sm1.trans sm
      have fl : H1 lst = none := sm1.free hl
      have fl0 : lst ∉ oo.map Prod.snd := R.ofree (s1.free fl)
      have g : Grow (oo.map Prod.snd) (lst :: oo.map Prod.snd) H1 H' := ⟨fun b u h n => ⟨sm' b u h, fun z => (List.mem_cons.mp z).elim (fun e => ne_of_none h fl e) n⟩, fun b xs h => sm' b _ h, fun b ob u h => sm' b _ h⟩
      refine kk (.ref lst) (df (.lst (itemsT ks ds))) H' (s1.trans sm') ⟨lst, rfl, s1.free fl, fl0, as.map V.ref, el, ?_⟩ h1
      refine reps_items g rp l (by rw [la, List.length_zip, rp.length, l, Nat.min_self]) fun j b ej => ?_
      obtain ⟨c, kv, e1, e2, e3⟩ := hp j b ej
      refine ⟨c, kv, e1, ?_, e3⟩
      by_cases hcr : c = r
      · subst hcr
        rw [upd_same] at e2
        cases e2
      · rw [upd_ne hcr] at e2
        exact e2
    | _ => exact h1.elim
end
end DL

set_option Elab.async false
set_option linter.all false
set_option maxRecDepth 100000
set_option maxHeartbeats 4000000
namespace DL
open PySem PySem.Spec L2 L3
open PyProof.Rows hiding St
variable {Γ : Hp → Prop}
def rInL (K : PySem.W.Frag) (neg : Bool) : R2 := fun x y H Q => ∃ a xs ds dx, y = .ref a ∧ SqL K H a xs ∧ Reps K H [] ds xs ∧ Rep K H [] dx x ∧ okD 40 dx ∧ (∀ d ∈ ds, okD 40 d) ∧ Q (.bl (if neg then !(ds.any fun d => eqD d dx) else ds.any fun d => eqD d dx)) H
section
variable {X : Cx} {a b : Expr} {ta tb : TD} {pos : Pos}
open Classical in
theorem in_vals {pins : List (Addr × Obj)} {σ : St} {H : Hp} {s : Shared} {xs : List V} {its : List Value} {ds : List D} {dx : D} {x : V} {u : Value} (I : Inv X pins σ H s) (hu : X.A.units + 64 < cLine) (rv : Vals xs its) (rp : Reps X.K H [] ds xs) (rx : Rep X.K H [] dx x) (ru : RelV x u) (ox : okD 40 dx) (od : ∀ d ∈ ds, okD 40 d) :
    ∃ e : Value → Bool, (∀ y ∈ its, SeqAt.EqAt X.A.in1 s y u (e y)) ∧ its.any e = ds.any fun d => eqD d dx := by
  have hin : X.A.in1.units + 40 < cLine := by
    have : X.A.in1.units = X.A.units + 1 := rfl
    omega
  have l1 := rv.length
  have l2 := rp.length
  have one : ∀ (j : Nat) (y : Value) (d : D), its[j]? = some y → ds[j]? = some d → SeqAt.EqAt X.A.in1 s y u (eqD d dx) := fun j y d ey ed => by
    obtain ⟨x', ex, rx'⟩ := rp.get ed
    obtain ⟨y', ey', ry'⟩ := rv.get ex
    rw [ey] at ey'
    cases ey'
    exact (eq_main I 40 d dx x' x y u X.A.in1 (od d (List.mem_of_getElem? ed)) ox rx' rx ry' ru hin).2.2
  have both : ∀ (j : Nat) (y : Value), its[j]? = some y → ∃ d, ds[j]? = some d := fun j y ey => by
    have := (List.getElem?_eq_some_iff.mp ey).1
    exact ⟨ds[j]'(by omega), by simp⟩
  have both2 : ∀ (j : Nat) (d : D), ds[j]? = some d → ∃ y, its[j]? = some y := fun j y ey => by
    have := (List.getElem?_eq_some_iff.mp ey).1
    exact ⟨its[j]'(by omega), by simp⟩
  refine ⟨fun y => decide (∃ (j : Nat) (d : D), its[j]? = some y ∧ ds[j]? = some d ∧ eqD d dx = true), fun y my => ?_, ?_⟩
  · by_cases h : ∃ (j : Nat) (d : D), its[j]? = some y ∧ ds[j]? = some d ∧ eqD d dx = true
    · obtain ⟨j, d, e1, e2, e3⟩ := id h
      have := one j y d e1 e2
      rw [e3] at this
      have hd : decide (∃ (j : Nat) (d : D), its[j]? = some y ∧ ds[j]? = some d ∧ eqD d dx = true) = true := decide_eq_true h
      dsimp only
      rw [hd]
      exact this
    · obtain ⟨j, ej⟩ := List.getElem?_of_mem my
      obtain ⟨d, ed⟩ := both j y ej
      have e3 : eqD d dx = false := by
        cases h3 : eqD d dx with
        | false => rfl
        | true => exact absurd ⟨j, d, ej, ed, h3⟩ h
      have := one j y d ej ed
      rw [e3] at this
      have hd : decide (∃ (j : Nat) (d : D), its[j]? = some y ∧ ds[j]? = some d ∧ eqD d dx = true) = false := decide_eq_false h
      dsimp only
      rw [hd]
      exact this
  · rw [Bool.eq_iff_iff, List.any_eq_true, List.any_eq_true]
    constructor
    · rintro ⟨y, my, h⟩
      obtain ⟨j, d, e1, e2, e3⟩ := of_decide_eq_true h
      exact ⟨d, List.mem_of_getElem? e2, e3⟩
    · rintro ⟨d, md, h⟩
      obtain ⟨j, ej⟩ := List.getElem?_of_mem md
      obtain ⟨y, ey⟩ := both2 j d ej
      exact ⟨y, List.mem_of_getElem? ey, decide_eq_true ⟨j, d, ey, ej, h⟩⟩
theorem op_notinL (hu : X.A.units + 64 < cLine) : OpR X (compareOp .NotIn) (rInL X.K true) := by
  intro pins s σ H x y u v Q I rx ry h
  obtain ⟨a, xs, ds, dx, rfl, hq, rp, rd, ox, od, q⟩ := h
  cases ry
  obtain ⟨its, rv, p, hz⟩ := I.list hq
  obtain ⟨e, he, ea⟩ := in_vals I hu rv rp rd rx ox od
  refine SeqAt.notIn_listAt e p.isList (fun y my => he y (by simpa using my)) ⟨.bl (!(ds.any fun d => eqD d dx)), H, I, ?_, q⟩
  show Value.bool (!(its.toArray.any e)) = _
  rw [← ea]
  simp
def sInL (neg : Bool) : D → D → (EV → Prop) → Prop := fun x y φ => match y with
  | .lst l => okD 40 x ∧ (∀ d ∈ l, okD 40 d) ∧ φ (dv (.bl (if neg then !(l.any fun d => eqD d x) else l.any fun d => eqD d x)))
  | _ => False
theorem link_inL {neg : Bool} : Link2 X.K (rInL X.K neg) (sInL neg) := by
  intro H O x y vx vy φ Q ho hx hy h k
  unfold sInL at h
  split at h
  · rename_i l
    obtain ⟨a, xs, rfl, q, r⟩ := hy
    obtain ⟨h1, h2, h3⟩ := h
    exact ⟨a, xs, l, x, rfl, SqL.of q, Reps.sub (O' := []) (fun _ z => nomatch z) _ _ r, hx.rep0, h1, h2, k _ _ H (Same.refl H) (by exact rfl) h3⟩
  · exact h.elim
theorem et_notinL (hu : X.A.units + 64 < cLine) (ha : ED Γ X a ta) (hb : ED Γ X b tb) (hm : behindInMarks .NotIn b = false := by with_unfolding_all rfl) : ET Γ X (.Compare a [.NotIn] [b] pos) (tBo (d2 (sInL true) ta tb)) := et_cmp (op_notinL hu) link_inL ha hb hm
/-- an own list held fast for a test alone -/
def tFrz (i : Nat) (tc : TDb) : TDb := fun ρ φ => tc (frzS ρ i) φ
theorem et_frz (i : Nat) {c : Expr} {tc : TDb} (h : ET Γ X c tc) : ET Γ X c (tFrz i tc) := fun H₀ => impT (h H₀) fun σ H Q q => by
  obtain ⟨ρ, o, R, φ, hφ, k⟩ := q
  obtain ⟨o', R', sub⟩ := R.frz1 i
  exact ⟨frzS ρ i, o', R', φ, hφ, k⟩
end
end DL

set_option Elab.async false
set_option linter.all false
set_option maxRecDepth 100000
set_option maxHeartbeats 4000000
namespace K23
open PySem PySem.Spec L2 L3 DL
open PyProof.Rows hiding St
def wayOn (a : List Str) (z : Str) : List Str := a.take (a.idxOf z) ++ [z]
theorem idx_take {z : Str} : ∀ {a : List Str} {n : Nat}, n ≤ a.length → (z ∈ a.take n ↔ a.idxOf z < n)
  | [], n, h => by
    have : n = 0 := by simpa using h
    subst this
    simp
  | x :: a, 0, _ => by simp
  | x :: a, n + 1, h => by
    rw [List.take_succ_cons, List.mem_cons, List.idxOf_cons]
    by_cases e : x = z
    · subst e
      simp
    · have hb : (x == z) = false := by simpa using e
      rw [hb, idx_take (a := a) (n := n) (by simpa using h)]
      simp only [cond_false]
      exact ⟨fun q => q.elim (fun y => absurd y.symm e) fun y => by omega, fun q => .inr (by omega)⟩
theorem wayOn_in {a : List Str} {z : Str} (h : z ∈ a) : a.take (a.idxOf z + 1) = wayOn a z := by
  have hl : a.idxOf z < a.length := List.idxOf_lt_length_of_mem h
  rw [List.take_succ, List.getElem?_eq_getElem hl, List.getElem_idxOf hl]
  rfl
theorem wayOn_out {a : List Str} {z : Str} (h : z ∉ a) : a ++ [z] = wayOn a z := by
  unfold wayOn
  rw [List.idxOf_eq_length h, List.take_length]
theorem wayOn_len (a : List Str) (z : Str) : (wayOn a z).length ≤ a.length + 1 := by
  unfold wayOn
  rw [List.length_append, List.length_take]
  simp
  omega
theorem wayOn_nodup {a : List Str} {z : Str} (nd : a.Nodup) : (wayOn a z).Nodup := by
  unfold wayOn
  rw [List.nodup_append]
  refine ⟨nd.sublist (List.take_sublist _ _), by simp, fun x hx y hy e => ?_⟩
  have : y = z := by simpa using hy
  subst this e
  exact Nat.lt_irrefl _ ((idx_take List.idxOf_le_length).mp hx)
def upN : D → Nat
  | .tup [_, _, .int u, _, _] => u.toNat
  | _ => 0
def upOf (cl : List D) (k : Nat) : Nat := upN (cl.getD k .non)
def nmD : D → Str
  | .tup [.str z, _, _, _, _] => z
  | _ => ""
def nmOf (cl : List D) (k : Nat) : Str := nmD (cl.getD k .non)
def wayF (cl : List D) (k : Nat) : List Str := if h : upOf cl k < k then wayOn (wayF cl (upOf cl k)) (nmOf cl k) else [nmOf cl k]
termination_by k
def chainF (cl : List D) (k : Nat) : List Str := if h : upOf cl k < k then nmOf cl k :: chainF cl (upOf cl k) else [nmOf cl k]
termination_by k
theorem way_step {cl : List D} {k u : Nat} (e : upOf cl k = u) (h : u < k) : wayF cl k = wayOn (wayF cl u) (nmOf cl k) := by
  subst e
  rw [wayF, dif_pos h]
theorem way_top {cl : List D} : wayF cl 0 = wayOn [] (nmOf cl 0) := by
  rw [wayF, dif_neg (Nat.not_lt_zero _)]
  rfl
theorem chain_step {cl : List D} {k u : Nat} (e : upOf cl k = u) (h : u < k) : chainF cl k = nmOf cl k :: chainF cl u := by
  subst e
  rw [chainF, dif_pos h]
theorem chain_top {cl : List D} : chainF cl 0 = [nmOf cl 0] := by rw [chainF, dif_neg (Nat.not_lt_zero _)]
theorem way_chain (cl : List D) (k : Nat) : (chainF cl k).reverse.foldl wayOn [] = wayF cl k := by
  induction k using Nat.strongRecOn with
  | _ k ih =>
    rw [chainF, wayF]
    by_cases h : upOf cl k < k
    · rw [dif_pos h, dif_pos h, List.reverse_cons, List.foldl_append, ih _ h]
      rfl
    · rw [dif_neg h, dif_neg h]
      rfl
theorem way_len (cl : List D) (k : Nat) : (wayF cl k).length ≤ k + 1 := by
  induction k using Nat.strongRecOn with
  | _ k ih =>
    rw [wayF]
    by_cases h : upOf cl k < k
    · rw [dif_pos h]
      have := wayOn_len (wayF cl (upOf cl k)) (nmOf cl k)
      have := ih _ h
      omega
    · rw [dif_neg h]
      simp
theorem way_nodup (cl : List D) (k : Nat) : (wayF cl k).Nodup := by
  induction k using Nat.strongRecOn with
  | _ k ih =>
    rw [wayF]
    by_cases h : upOf cl k < k
    · rw [dif_pos h]
      exact wayOn_nodup (ih _ h)
    · rw [dif_neg h]
      simp
theorem chain_len (cl : List D) (k : Nat) : (chainF cl k).length ≤ k + 1 := by
  induction k using Nat.strongRecOn with
  | _ k ih =>
    rw [chainF]
    by_cases h : upOf cl k < k
    · rw [dif_pos h]
      have := ih _ h
      simp
      omega
    · rw [dif_neg h]
      simp
def wyD (a : List Str) : D := .tup (a.map D.str)
def kz (a : List Str) : TK := a.map Sum.inr
theorem kz_inj {a b : List Str} (h : kz a = kz b) : a = b := List.map_inj_right (fun a b e => Sum.inr.inj e) |>.mp h
theorem tk_wy (a : List Str) : tkD (kz a) = wyD a := by
  unfold tkD kz wyD
  rw [List.map_map]
  rfl
theorem keyT_wy (a : List Str) : keyT (wyD a) = some (kz a) := by rw [← tk_wy, keyT_tk]
theorem kz_mem {es : List (List Str)} {k : List Str} : kz k ∈ es.map kz ↔ k ∈ es := by
  rw [List.mem_map]
  exact ⟨fun ⟨a, h, e⟩ => kz_inj e ▸ h, fun h => ⟨k, h, rfl⟩⟩
theorem look_F (f : List Str → D) (k : List Str) : ∀ es : List (List Str), lookAT (es.map kz) (es.map f) (kz k) = if k ∈ es then some (f k) else none
  | [] => by simp [lookAT]
  | a :: es => by
    rw [List.map_cons, List.map_cons, lookAT]
    by_cases e : a = k
    · subst e
      rw [if_pos rfl, if_pos List.mem_cons_self]
    · rw [if_neg (fun z => e (kz_inj z)), look_F f k es]
      by_cases m : k ∈ es
      · rw [if_pos m, if_pos (List.mem_cons_of_mem _ m)]
      · rw [if_neg m, if_neg (by simp [m, Ne.symm e])]
def putE (es : List (List Str)) (k : List Str) : List (List Str) := if k ∈ es then es else es ++ [k]
theorem kput_F (es : List (List Str)) (k : List Str) : kputT (es.map kz) (kz k) = (putE es k).map kz := by
  unfold kputT putE
  by_cases m : k ∈ es
  · rw [if_pos (kz_mem.mpr m), if_pos m]
  · rw [if_neg (fun z => m (kz_mem.mp z)), if_neg m, List.map_append]
    rfl
theorem dput_F (f : List Str → D) (k : List Str) (v : D) : ∀ es : List (List Str), es.Nodup → dputT (es.map kz) (es.map f) (kz k) v = (putE es k).map fun x => if x = k then v else f x
  | [], _ => by simp [dputT, putE]
  | a :: es, nd => by
    obtain ⟨n1, n2⟩ := List.nodup_cons.mp nd
    rw [List.map_cons, List.map_cons, dputT]
    by_cases e : a = k
    · subst e
      rw [if_pos rfl]
      unfold putE
      rw [if_pos List.mem_cons_self, List.map_cons, if_pos rfl]
      congr 1
      exact List.map_congr_left fun x hx => by rw [if_neg (show ¬ x = a from fun z => n1 (z ▸ hx))]
    · rw [if_neg (fun z => e (kz_inj z)), dput_F f k v es n2]
      unfold putE
      by_cases m : k ∈ es
      · rw [if_pos m, if_pos (List.mem_cons_of_mem _ m), List.map_cons, if_neg e]
      · rw [if_neg m, if_neg (by simp [m, Ne.symm e]), List.cons_append, List.map_cons, if_neg e]
theorem putE_nodup {es : List (List Str)} {k : List Str} (nd : es.Nodup) : (putE es k).Nodup := by
  unfold putE
  split
  · exact nd
  · rename_i h
    exact List.nodup_append.mpr ⟨nd, by simp, by intro a ha b hb e; simp at hb; subst hb; exact h (e ▸ ha)⟩
theorem putE_mem {es : List (List Str)} {k x : List Str} : x ∈ putE es k ↔ x ∈ es ∨ x = k := by
  unfold putE
  split
  · rename_i h
    exact ⟨.inl, fun z => z.elim id fun e => e ▸ h⟩
  · simp
abbrev Row := List Str × Int
def sumAt : List Row → List Str → Int
  | [], _ => 0
  | q :: l, w => (if q.1 = w then q.2 else 0) + sumAt l w
theorem sumAt_app (w : List Str) : ∀ a b : List Row, sumAt (a ++ b) w = sumAt a w + sumAt b w
  | [], b => by simp [sumAt]
  | q :: a, b => by
    rw [List.cons_append, sumAt, sumAt, sumAt_app w a b]
    omega
theorem sumAt_snoc (l : List Row) (q : Row) (w : List Str) : sumAt (l ++ [q]) w = sumAt l w + if q.1 = w then q.2 else 0 := by
  rw [sumAt_app]
  simp [sumAt]
theorem sumAt_none {l : List Row} {w : List Str} (h : ∀ q ∈ l, q.1 ≠ w) : sumAt l w = 0 := by
  induction l with
  | nil => rfl
  | cons q l ih =>
    rw [sumAt, if_neg (h q List.mem_cons_self), ih fun x hx => h x (List.mem_cons_of_mem _ hx)]
    rfl
def keysOf (ws : List (List Str)) : List (List Str) := ws.foldl putE []
theorem keys_snoc (ws : List (List Str)) (w : List Str) : keysOf (ws ++ [w]) = putE (keysOf ws) w := by
  unfold keysOf
  rw [List.foldl_append]
  rfl
theorem snocI {α : Type} {P : List α → Prop} (h0 : P []) (h1 : ∀ l a, P l → P (l ++ [a])) (l : List α) : P l := by
  have : ∀ l : List α, P l.reverse := by
    intro l
    induction l with
    | nil => exact h0
    | cons a l ih =>
      rw [List.reverse_cons]
      exact h1 _ _ ih
  have := this l.reverse
  rwa [List.reverse_reverse] at this
theorem keys_nodup (ws : List (List Str)) : (keysOf ws).Nodup := by
  induction ws using snocI with
  | h0 => exact List.nodup_nil
  | h1 l a ih => rw [keys_snoc]; exact putE_nodup ih
theorem keys_mem (ws : List (List Str)) (w : List Str) : w ∈ keysOf ws ↔ w ∈ ws := by
  induction ws using snocI with
  | h0 => exact Iff.rfl
  | h1 l a ih => rw [keys_snoc, putE_mem, ih]; simp
theorem keys_len (ws : List (List Str)) : (keysOf ws).length ≤ ws.length := by
  induction ws using snocI with
  | h0 => exact Nat.le_refl _
  | h1 l a ih =>
    rw [keys_snoc]
    unfold putE
    split
    · simp; omega
    · simp; omega
/-- the dict behind rows -/
def dtF (l : List Row) : D := .dt ((keysOf (l.map Prod.fst)).map kz) ((keysOf (l.map Prod.fst)).map fun w => .int (sumAt l w))
theorem dt_get (l : List Row) (w : List Str) : (lookAT ((keysOf (l.map Prod.fst)).map kz) ((keysOf (l.map Prod.fst)).map fun w => D.int (sumAt l w)) (kz w)).getD (.int 0) = .int (sumAt l w) := by
  rw [look_F (fun w => D.int (sumAt l w))]
  by_cases m : w ∈ keysOf (l.map Prod.fst)
  · rw [if_pos m]
    rfl
  · rw [if_neg m, sumAt_none fun q hq e => m ((keys_mem _ _).mpr (List.mem_map.mpr ⟨q, hq, e⟩))]
    rfl
theorem dt_put (l : List Row) (q : Row) : D.dt (kputT ((keysOf (l.map Prod.fst)).map kz) (kz q.1)) (dputT ((keysOf (l.map Prod.fst)).map kz) ((keysOf (l.map Prod.fst)).map fun w => D.int (sumAt l w)) (kz q.1) (.int (sumAt l q.1 + q.2))) = dtF (l ++ [q]) := by
  unfold dtF
  rw [kput_F, dput_F (fun w => D.int (sumAt l w)) _ _ _ (keys_nodup _), List.map_append, List.map_singleton, keys_snoc]
  congr 1
  refine List.map_congr_left fun x _ => ?_
  rw [sumAt_snoc]
  by_cases e : x = q.1
  · subst e
    rw [if_pos rfl, if_pos rfl]
  · rw [if_neg e, if_neg (Ne.symm e), Int.add_zero]
/-- the rows of the dict -/
def rowD (w : List Str) (x : Int) : D := .tup [wyD w, .int x]
theorem dt_items (es : List (List Str)) (f : List Str → Int) : itemsT (es.map kz) (es.map fun w => D.int (f w)) = es.map fun w => rowD w (f w) := by
  unfold itemsT
  rw [List.zip_map', List.map_map]
  refine List.map_congr_left fun w _ => ?_
  show D.tup [tkD (kz w), _] = _
  rw [tk_wy]
  rfl
theorem sum_add {α : Type} (f g : α → Int) : ∀ l : List α, (l.map fun x => f x + g x).sum = (l.map f).sum + (l.map g).sum
  | [] => rfl
  | x :: l => by
    rw [List.map_cons, List.map_cons, List.map_cons, List.sum_cons, List.sum_cons, List.sum_cons, sum_add f g l]
    omega
theorem sum_one {α : Type} [DecidableEq α] (a : α) (c : Int) : ∀ {l : List α}, l.Nodup → (l.map fun x => if a = x then c else 0).sum = if a ∈ l then c else 0
  | [], _ => by simp
  | x :: l, nd => by
    obtain ⟨n1, n2⟩ := List.nodup_cons.mp nd
    rw [List.map_cons, List.sum_cons, sum_one a c n2]
    by_cases e : a = x
    · subst e
      rw [if_pos rfl, if_neg n1, if_pos List.mem_cons_self]
      omega
    · rw [if_neg e]
      by_cases m : a ∈ l
      · rw [if_pos m, if_pos (List.mem_cons_of_mem _ m)]
        omega
      · rw [if_neg m, if_neg (by simp [e, m])]
        omega
theorem sum_put {es : List (List Str)} {w : List Str} {f : List Str → Int} (h : w ∉ es → f w = 0) : ((putE es w).map f).sum = (es.map f).sum := by
  unfold putE
  split
  · rfl
  · rename_i m
    rw [List.map_append, List.sum_append, List.map_singleton, List.sum_singleton, h m]
    omega
/-- all that was put is there -/
theorem sum_all (l : List Row) : ((keysOf (l.map Prod.fst)).map (sumAt l)).sum = (l.map Prod.snd).sum := by
  induction l using snocI with
  | h0 => rfl
  | h1 l q ih =>
    rw [List.map_append, List.map_singleton, keys_snoc, List.map_append, List.sum_append, List.map_singleton, List.sum_singleton, ← ih]
    rw [show ((putE (keysOf (l.map Prod.fst)) q.1).map (sumAt (l ++ [q]))) = (putE (keysOf (l.map Prod.fst)) q.1).map (fun w => sumAt l w + if q.1 = w then q.2 else 0) from List.map_congr_left fun w _ => sumAt_snoc l q w]
    rw [sum_add, sum_one q.1 q.2 (putE_nodup (keys_nodup _)), if_pos (putE_mem.mpr (.inr rfl))]
    rw [sum_put fun m => sumAt_none fun x hx e => m ((keys_mem _ _).mpr (List.mem_map.mpr ⟨x, hx, e⟩))]
def add1 (l : List Int) (j : Nat) (x : Int) : List Int := l.set j (l.getD j 0 + x)
def ownF (pr : Str → Int) (n : Nat) (ss : List (Nat × Str)) : List Int := ss.foldl (fun acc p => add1 acc p.1 (pr p.2)) (List.replicate n 0)
theorem add1_len (l : List Int) (j : Nat) (x : Int) : (add1 l j x).length = l.length := by unfold add1; simp
theorem add1_get {l : List Int} {j : Nat} (x : Int) (hj : j < l.length) (k : Nat) : (add1 l j x).getD k 0 = l.getD k 0 + if j = k then x else 0 := by
  unfold add1
  rw [List.getD_eq_getElem?_getD, List.getElem?_set]
  by_cases e : j = k
  · subst e
    rw [if_pos rfl, if_pos hj, if_pos rfl]
    rfl
  · rw [if_neg e, if_neg e, List.getD_eq_getElem?_getD]
    omega
def rowsW (W : Nat → List Str) (own : List Int) (n : Nat) : List Row := (List.range n).map fun k => (W k, own.getD k 0)
theorem sumAt_map (f : Nat → List Str) (g : Nat → Int) (w : List Str) : ∀ l : List Nat, sumAt (l.map fun k => (f k, g k)) w = (l.map fun k => if f k = w then g k else 0).sum
  | [] => rfl
  | k :: l => by rw [List.map_cons, sumAt, sumAt_map f g w l, List.map_cons, List.sum_cons]
theorem rows_add1 (W : Nat → List Str) {own : List Int} {n j : Nat} (x : Int) (hn : own.length = n) (hj : j < n) (w : List Str) : sumAt (rowsW W (add1 own j x) n) w = sumAt (rowsW W own n) w + if W j = w then x else 0 := by
  unfold rowsW
  rw [sumAt_map W (fun k => (add1 own j x).getD k 0), sumAt_map W (fun k => own.getD k 0)]
  rw [show ((List.range n).map fun k => if W k = w then (add1 own j x).getD k 0 else 0) = (List.range n).map (fun k => (if W k = w then own.getD k 0 else 0) + if j = k then (if W j = w then x else 0) else 0) from List.map_congr_left fun k _ => by
    rw [add1_get x (by omega)]
    by_cases e : j = k
    · subst e
      by_cases m : W j = w
      · simp [m]
      · simp [m]
    · simp [e]]
  rw [sum_add, sum_one j _ List.nodup_range, if_pos (List.mem_range.mpr hj)]
def stepSum (W : Nat → List Str) (pr : Str → Int) (w : List Str) : List (Nat × Str) → Int
  | [] => 0
  | p :: ss => (if W p.1 = w then pr p.2 else 0) + stepSum W pr w ss
theorem step_snoc (W : Nat → List Str) (pr : Str → Int) (w : List Str) (p : Nat × Str) : ∀ ss : List (Nat × Str), stepSum W pr w (ss ++ [p]) = stepSum W pr w ss + if W p.1 = w then pr p.2 else 0
  | [] => by simp [stepSum]
  | q :: ss => by
    rw [List.cons_append, stepSum, stepSum, step_snoc W pr w p ss]
    omega
theorem ownF_snoc (pr : Str → Int) (n : Nat) (ss : List (Nat × Str)) (p : Nat × Str) : ownF pr n (ss ++ [p]) = add1 (ownF pr n ss) p.1 (pr p.2) := by
  unfold ownF
  rw [List.foldl_append]
  rfl
theorem ownF_len (pr : Str → Int) (n : Nat) (ss : List (Nat × Str)) : (ownF pr n ss).length = n := by
  induction ss using snocI with
  | h0 => simp [ownF]
  | h1 l a ih => rw [ownF_snoc, add1_len, ih]
/-- summed by way: the calls' own prices, or the steps -/
theorem rows_steps (W : Nat → List Str) (pr : Str → Int) (n : Nat) (w : List Str) (ss : List (Nat × Str)) : (∀ p ∈ ss, p.1 < n) → sumAt (rowsW W (ownF pr n ss) n) w = stepSum W pr w ss := by
  induction ss using snocI with
  | h0 =>
    intro _
    unfold rowsW ownF
    rw [List.foldl_nil, sumAt_map W (fun k => (List.replicate n (0 : Int)).getD k 0)]
    show _ = (0 : Int)
    rw [show ((List.range n).map fun k => if W k = w then (List.replicate n (0 : Int)).getD k 0 else 0) = (List.range n).map (fun _ => (0 : Int)) from List.map_congr_left fun k hk => by
      have : k < n := List.mem_range.mp hk
      rw [List.getD_eq_getElem?_getD, List.getElem?_replicate, if_pos this]
      simp]
    induction n with
    | zero => rfl
    | succ n ih => rw [List.range_succ, List.map_append, List.sum_append, ih (fun _ h => nomatch h)]; rfl
  | h1 l p ih =>
    intro h
    rw [ownF_snoc, rows_add1 W _ (ownF_len pr n l) (h p (by simp)), ih fun q hq => h q (by simp [hq]), step_snoc]
theorem rows_snd (W : Nat → List Str) {own : List Int} {n : Nat} (hn : own.length = n) : (rowsW W own n).map Prod.snd = own := by
  unfold rowsW
  rw [List.map_map]
  apply List.ext_getElem
  · simp [hn]
  · intro i h1 h2
    simp [List.getD, h2]
theorem add1_sum : ∀ (l : List Int) (j : Nat) (x : Int), j < l.length → (add1 l j x).sum = l.sum + x
  | [], j, x, h => by simp at h
  | a :: l, 0, x, _ => by unfold add1; simp; omega
  | a :: l, j + 1, x, h => by
    have := add1_sum l j x (by simpa using h)
    unfold add1 at this ⊢
    simp at this ⊢
    omega
def total (pr : Str → Int) (ss : List (Nat × Str)) : Int := (ss.map fun p => pr p.2).sum
theorem own_sum {pr : Str → Int} {n : Nat} {ss : List (Nat × Str)} : (∀ p ∈ ss, p.1 < n) → (ownF pr n ss).sum = total pr ss := by
  induction ss using snocI with
  | h0 =>
    intro _
    unfold ownF total
    simp
  | h1 l p ih =>
    intro h
    rw [ownF_snoc, add1_sum _ _ _ (by rw [ownF_len]; exact h p (by simp)), ih fun q hq => h q (by simp [hq])]
    unfold total
    simp
theorem rows_fst (W : Nat → List Str) (own : List Int) (n : Nat) : (rowsW W own n).map Prod.fst = (List.range n).map W := by
  unfold rowsW
  rw [List.map_map]
  rfl
end K23

set_option Elab.async false
set_option linter.all false
set_option maxRecDepth 100000
set_option maxHeartbeats 8000000
set_option exponentiation.threshold 5000
namespace K23
open PySem PySem.Spec L2 L3 DL
open PyProof.Rows hiding St
open PySem.Builtin.Int (intBits)
local macro_rules | `(tactic| walk_at "dl") => `(tactic| simp only [sNil, sSeq, sRet, sIf, sSet, sExpr, sUn, sPar, d2, d1, dName, dC, slot, setS, EV.sto, EV.ret, aNil, aCons, dTup, dLst, dCall, dCB, solidB, vAnd, vOr, vNot, vIf, bAnd, bOr, bNot, bYes, tTru, tBo, truD, sSub, sFd, sMod, sPow, sLt, sLe, sGt, sGe, sI, sI0, sAdd, sMul, sNeg, sEq, sNe, sIs, sIsNot, isNon, sIx, sSl, dSl, oNone, oSome, sLen, sAbs, sIsI, sStr, sTupC, sListC, sIntC, sApp, iSeq, iR1, iR2, itemsD, gN, gT2, startD, isT_non_int, isT_non_bool, isT_bl_int, isT_bl_bool, isT_int_int, isT_int_bool, isT_int_str, isT_str_int, isT_str_str, isT_tup_tuple, isT_tup_int, isT_tup_list, isT_lst_list, isT_lst_tuple, isT_dk_dict, List.map_cons, List.map_nil, List.length_cons, List.length_nil, List.cons_append, List.nil_append, List.replicate_succ, List.replicate_zero, Nat.reduceAdd, Nat.reduceSub, Nat.zero_add, Nat.sub_self, Bool.and_self, Bool.and_true, Bool.true_and, true_and, and_true, Bool.not_true, Bool.not_false, forall_const, true_implies, false_implies, Bool.true_eq_false, Bool.false_eq_true, reduceCtorEq, implies_true, okD_int, okD_bl, okD_str, okD_non, eqD_int, eqD_str, eqD_bl, pureEV, pureD, pureDs, Bool.not_eq_eq_eq_not, Bool.not_true, Bool.not_false, beq_eq_false_iff_ne, beq_iff_eq, ne_eq, decide_eq_true_eq, decide_eq_false_iff_not, Bool.not_eq_true, Bool.not_eq_false, not_true_eq_false, not_false_eq_true, atI_0, atI_1, atI_2, and_self, Nat.beq_eq, Nat.ble_eq, Nat.reduceLeDiff, eq_self, Nat.reduceEqDiff, sIxx, dGet2, dFmt, dJoin, keyD, sIn, flatD, cp10, Int.reduceLE, Int.reduceToNat, tenpow_ne, atI_map, List.length_map, Option.map_some, Int.zero_add, sDput', Int.reduceEq, Int.reduceNeg, Int.reduceLT, sRaise, dCallX, sTry, hanZ, clrS, frzE, Option.map_none, List.map_cons, dIsE, sFrz, frzS, iZ, seqD_lst, seqD_tup, seqD_scr, sSum, intsD_map, sPop, sAppPop, sExt, sAug, sIsB, sIsNotB, dTupN, dAddN, dSlT, dPick, sLP, popD_app, pureEVs, sAllL, isT_str_bool, isT_str_tuple, isT_non_tuple, isT_bl_tuple, isT_int_tuple, isT_tup_bool, isT_lst_int, isT_lst_bool, isT_dk_int, isT_dk_bool, isT_dk_tuple, isT_non_bool, isT_str_int, dIsET, sEqS, iCn, sLenC, cst_strs, dItems, dIndex, dLenSet, iB, sInL, sInT, sIxT, dGet2T, sDputT, iZ, seqD, sPopX, dAddN, dTupN, dSlT, sDictC, sLenD, iRD, sClr, sLaug, sRetT, pureRs, isT_lst_tuple])
seal SDs SD ED EA ET EW
def top (i : Nat) : Stmt := PySem.Challenge.pw_toll_k23_by_way.main.body.getD i (.Pass ⟨0, 0, 0, 0⟩)
structure Tops (mg : Str → Option Value) : Prop where
  ValueError : mg "ValueError" = none
  all : mg "all" = none
  bool : mg "bool" = none
  dict : mg "dict" = none
  int : mg "int" = none
  isinstance : mg "isinstance" = none
  len : mg "len" = none
  list : mg "list" = none
  range : mg "range" = none
  reversed : mg "reversed" = none
  set : mg "set" = none
  str : mg "str" = none
  sum : mg "sum" = none
  tuple : mg "tuple" = none
  zip : mg "zip" = none
section
variable {P : Program} {w : World} {K : PySem.W.Frag} {mg : Str → Option Value} {base : Heap} {f : Addr} {fd : FuncData}

def kinds : List Str := ["call", "make", "sum", "let", "less", "open"]
def words : List Str := ["call", "make", "sum", "let", "less", "open", "hold"]
structure Con (K : PySem.W.Frag) (mg : Str → Option Value) : Prop where
  c_WORDS : GC K mg "WORDS" (.cn (.tup (words.map Cst.str)))
/-- a table -/
def Tab (d : D) (pr : Str → Int) : Prop := ∃ (ks : List Str) (ns : List Int), d = .dk (ks.map Sum.inr) (ns.map D.int) ∧ ks.length = 7 ∧
  ∀ w ∈ words, lookA (ks.map Sum.inr) (ns.map D.int) (Sum.inr w) = some (.int (pr w)) ∧ (Sum.inr w : Key) ∈ ks.map Sum.inr ∧ 0 ≤ pr w
def tPrice : FT := w1 fun i φ => φ (dv (.bl (decide (0 ≤ i))))
def tCheck : FT := g1 fun d φ => ∃ pr, Tab d pr ∧ φ (dv .non)
theorem words_len : words.length = 7 := rfl
theorem all_true (l : List D) : (l.filterMap fun _ => some (D.bl true)) = (List.replicate l.length true).map D.bl := by
  induction l with
  | nil => rfl
  | cons d l ih => rw [List.filterMap_cons, ih]; rfl
theorem rep_all (n : Nat) : (List.replicate n true).all id = true := by
  induction n with
  | zero => rfl
  | succ n ih => rw [List.replicate_succ, List.all_cons, ih]; rfl
theorem zeros (cl : List D) : cl.filterMap (fun _ => some (D.int 0)) = nsD (List.replicate cl.length 0) := by
  unfold nsD
  induction cl with
  | nil => rfl
  | cons c cl ih => rw [List.filterMap_cons, ih]; rfl
def stD (p : Nat × Str) : D := .tup [.int p.1, .str p.2]
def stsD (ss : List (Nat × Str)) : List D := ss.map stD
def Sts (ss : List (Nat × Str)) (n : Nat) : Prop := ss.length ≤ 1000 ∧ ∀ p ∈ ss, p.1 < n ∧ p.2 ∈ kinds
theorem kinds_words {w : Str} (h : w ∈ kinds) : w ∈ words := by
  unfold words
  unfold kinds at h
  simp only [List.mem_cons, List.not_mem_nil, or_false] at h ⊢
  rcases h with h | h | h | h | h | h <;> simp [h]
/-- the calls: each with the number of the one above -/
def CallOk (i : Nat) (d : D) : Prop := ∃ (nm : Str) (ar up dn va : D), d = .tup [.str nm, ar, up, dn, va] ∧ pureD d ∧ (∀ n, okD (n + 5) d) ∧ (i = 0 → up = .non) ∧ (0 < i → ∃ u : Nat, up = .int u ∧ u < i)
def Calls (cl : List D) : Prop := cl.length ≤ 100 ∧ ∀ i d, cl[i]? = some d → CallOk i d
def tPriceOf : FT := g2 fun s d φ => ∃ ss pr n, s = .lst (stsD ss) ∧ Sts ss n ∧ Tab d pr ∧ φ (dv (.int (total pr ss)))
def tOwn : FT := g3 fun c s d φ => ∃ cl ss pr, c = .lst cl ∧ Calls cl ∧ s = .lst (stsD ss) ∧ Sts ss cl.length ∧ Tab d pr ∧ φ (df (.lst (nsD (ownF pr cl.length ss))))
theorem pure_ints (ns : List Int) : pureDs (ns.map D.int) := pureDs_iff.mpr fun d hd => by
  obtain ⟨n, _, rfl⟩ := List.mem_map.mp hd
  trivial
theorem foldl_take {α β : Type} {f : β → α → β} {b : β} {l : List α} {i : Nat} {x : α} (h : l[i]? = some x) : (l.take (i + 1)).foldl f b = f ((l.take i).foldl f b) x := by
  rw [List.take_succ, h]
  simp
theorem ixN_nat {n i : Nat} (h : i < n) : ixN n (i : Int) = some i := by
  unfold ixN
  rw [if_pos (by omega), if_pos (by omega)]
  simp
theorem nsD_get {l : List Int} {i : Nat} (h : i < l.length) : (nsD l)[i]? = some (.int (l.getD i 0)) := by
  unfold nsD
  simp [List.getD, h]
theorem nsD_set (l : List Int) (i : Nat) (x : Int) : (nsD l).set i (.int x) = nsD (l.set i x) := by
  unfold nsD
  rw [List.map_set]
theorem fd_is_whole (T : Tops mg) (F : Fun K "is_whole" "is_whole" (top 4) f fd) (m : mg "is_whole" = some (.ref f)) : FD P w K mg base 1 "is_whole" ["thing"] tWholeD := by
  have S : FnScope ["thing"] ["thing"] (defScope (top 4)) := ⟨rfl, rfl, rfl, by decide +kernel, rfl, by decide +kernel, by decide +kernel⟩
  refine fd_of F S (F.binds fun _ _ _ _ _ _ us hl => match us, hl with | [_], _ => rfl) m fun cdv A outer s H E ds φ hr hl hT => ?_
  have hu := hr.units
  refine ⟨_, (ss_one (sd_ret (ed_and (ed_isinst T.isinstance (ea_cons (ed_name 0) (ea_cons (ed_ty T.int boot_int') ea_nil))) (ed_one (ed_not (ed_isinst T.isinstance (ea_cons (ed_name 0) (ea_cons (ed_ty T.bool boot_bool') ea_nil)))))))), ?_⟩
  obtain ⟨d, rfl, hp, h⟩ := f1_of hT
  cases d <;> first | (cases hp; done) | (walk_at "dl"; exact h) | (walk_at "dl"; exact ⟨fun z => (by cases z), fun _ => h⟩)
theorem fd_is_price (T : Tops mg) (F_is_whole : FD P w K mg base 1 "is_whole" ["thing"] tWholeD) (F : Fun K "is_price" "is_price" (top 7) f fd) (m : mg "is_price" = some (.ref f)) : FD P w K mg base 2 "is_price" ["thing"] tPrice := by
  have S : FnScope ["thing"] ["thing"] (defScope (top 7)) := ⟨rfl, rfl, rfl, by decide +kernel, rfl, by decide +kernel, by decide +kernel⟩
  refine fd_of F S (F.binds fun _ _ _ _ _ _ us hl => match us, hl with | [_], _ => rfl) m fun cdv A outer s H E ds φ hr hl hT => ?_
  have hu := hr.units
  refine ⟨_, (ss_one (sd_ret (ed_and (ed_call F_is_whole (hr.mono (by decide)) (ea_cons (ed_name 0) ea_nil)) (ed_one (ed_ge (ed_name 0) ed_int))))), ?_⟩
  obtain ⟨i, rfl, h⟩ := w1_of hT
  walk_at "dl"
  simp only [tWholeD, g1, plainB, wholeB]
  walk_at "dl"
  exact h
theorem fd_check_table (T : Tops mg) (Z : Con K mg) (F_is_price : FD P w K mg base 2 "is_price" ["thing"] tPrice) (F : Fun K "check_table" "check_table" (top 8) f fd) (m : mg "check_table" = some (.ref f)) : FD P w K mg base 3 "check_table" ["table"] tCheck := by
  have S : FnScope ["table"] ["table"] (defScope (top 8)) := ⟨rfl, rfl, rfl, by decide +kernel, rfl, by decide +kernel, by decide +kernel⟩
  refine fd_of F S (F.binds fun _ _ _ _ _ _ us hl => match us, hl with | [_], _ => rfl) m fun cdv A outer s H E ds φ hr hl hT => ?_
  have hu := hr.units
  refine ⟨_, (ss_cons (sd_if (EW.et (ew_or (et_ne hu (ed_lenD T.len (ea_cons (ed_name 0) ea_nil)) (ed_lenC T.len (ea_cons (ed_glob Z.c_WORDS) ea_nil))) (ew_or1 (et_not (et_val (ed_allC T.all (ea_cons (ed_comp (T := ["word"]) (F := ["table"]) (js := [0]) (ei_cn (ed_glob Z.c_WORDS)) (show CompScope (defScope (top 8)) _ ["word"] ["table"] from ⟨rfl, by decide +kernel, by decide +kernel, by decide +kernel, by decide +kernel, by decide +kernel⟩) (.cons rfl .nil) (by decide) (fun cl C fp s H => (pg_name (i := 0) (show ((["word"] : List Str) ++ (["table"] : List Str)).Nodup by decide +kernel) rfl (by first | exact Or.inl rfl | exact Or.inr rfl))) (gk_name (by decide)) (gl_name 0) (fun cl C fp s H => eif_nil) (fun cl C fp s H => (ed_in hu (ed_name 0) (ed_name 1)))) ea_nil))))))) (ss_one sd_never) ss_nil)
      (ss_one (sd_if (et_not (et_val (ed_allC T.all (ea_cons (ed_comp (T := ["word"]) (F := ["table"]) (js := [0]) (ei_cn (ed_glob Z.c_WORDS)) (show CompScope (defScope (top 8)) _ ["word"] ["table"] from ⟨rfl, by decide +kernel, by decide +kernel, by decide +kernel, by decide +kernel, by decide +kernel⟩) (.cons rfl .nil) (by decide) (fun cl C fp s H => (pg_name (i := 0) (show ((["word"] : List Str) ++ (["table"] : List Str)).Nodup by decide +kernel) rfl (by first | exact Or.inl rfl | exact Or.inr rfl))) (gk_name (by decide)) (gl_name 0) (fun cl C fp s H => eif_nil) (fun cl C fp s H => (ed_call F_is_price (hr.mono (by decide)) (ea_cons (ed_ixx hu (ed_name 1) (ed_name 0)) ea_nil)))) ea_nil)))) (ss_one sd_never) ss_nil))), ?_⟩
  obtain ⟨d, rfl, pr, ⟨ks, ns, rfl, hk, hw⟩, h⟩ := f1_of hT
  have hl : (words.map D.str).length ≤ 100000 := by decide
  walk_at "dl"
  rw [hk, words_len]
  refine ⟨fun z => absurd rfl z, fun _ => ?_⟩
  refine dComp_at (words.map D.str) (fun ψ hψ => ?_) (fun _ => some (.bl true)) hl ?_ ?_
  · walk_at "dl"
    exact hψ
  · intro d hd
    obtain ⟨w, hm, rfl⟩ := List.mem_map.mp hd
    have q := (hw w hm).2.1
    simp only [ρ0, List.map_cons, List.map_nil, List.replicate, List.cons_append, List.nil_append]
    walk_at "dl"
    simp only [q, decide_true]
    rfl
  · rw [all_true]
    walk_at "dl"
    simp only [blsD_map, rep_all]
    walk_at "dl"
    refine dComp_at (words.map D.str) (fun ψ hψ => ?_) (fun _ => some (.bl true)) hl ?_ ?_
    · walk_at "dl"
      exact hψ
    · intro d hd
      obtain ⟨w, hm, rfl⟩ := List.mem_map.mp hd
      obtain ⟨q1, q2, q3⟩ := hw w hm
      simp only [ρ0, List.map_cons, List.map_nil, List.replicate, List.cons_append, List.nil_append]
      walk_at "dl"
      simp only [q1, tPrice, w1, q3, decide_true]
      walk_at "dl"
    · rw [all_true]
      walk_at "dl"
      simp only [blsD_map, rep_all]
      exact ⟨fun z => (by cases z), fun _ => h⟩
theorem fd_price_of (T : Tops mg) (F_check_table : FD P w K mg base 3 "check_table" ["table"] tCheck) (F : Fun K "price_of" "price_of" (top 9) f fd) (m : mg "price_of" = some (.ref f)) : FD P w K mg base 4 "price_of" ["steps", "table"] tPriceOf := by
  have S : FnScope ["steps", "table"] ["steps", "table"] (defScope (top 9)) := ⟨rfl, rfl, rfl, by decide +kernel, rfl, by decide +kernel, by decide +kernel⟩
  refine fd_of F S (F.binds fun _ _ _ _ _ _ us hl => match us, hl with | [_, _], _ => rfl) m fun cdv A outer s H E ds φ hr hl hT => ?_
  have hu := hr.units
  refine ⟨_, (ss_cons (sd_expr (ed_call F_check_table (hr.mono (by decide)) (ea_cons (ed_name 1) ea_nil)))
      (ss_one (sd_ret (ed_sumC T.sum (ea_cons (ed_comp (T := ["number", "kind"]) (F := ["table"]) (js := [1]) (ei_seq (ed_name 0)) (show CompScope (defScope (top 9)) _ ["number", "kind"] ["table"] from ⟨rfl, by decide +kernel, by decide +kernel, by decide +kernel, by decide +kernel, by decide +kernel⟩) (.cons rfl .nil) (by decide) (fun cl C fp s H => (pg_tupK (K0 := K) (n := 2) (by rfl) (by rfl) (pgs_cons (pg_name (i := 0) (show ((["number", "kind"] : List Str) ++ (["table"] : List Str)).Nodup by decide +kernel) rfl (by first | exact Or.inl rfl | exact Or.inr rfl)) (pgs_cons (pg_name (i := 1) (show ((["number", "kind"] : List Str) ++ (["table"] : List Str)).Nodup by decide +kernel) rfl (by first | exact Or.inl rfl | exact Or.inr rfl)) pgs_nil)))) (gk_tup (gk_cons gm_name (gm_cons gm_name gm_nil) (gk_name (by decide)) (gk_cons gm_name gm_nil (gk_name (by decide)) gk_nil))) (gl_tup2 0 1) (fun cl C fp s H => eif_nil) (fun cl C fp s H => (ed_ixx hu (ed_name 2) (ed_name 1)))) ea_nil))))), ?_⟩
  obtain ⟨s0, d, rfl, ss, pr, n, rfl, hs, ht, h⟩ := f2_of hT
  walk_at "dl"
  simp only [tCheck, g1]
  refine ⟨pr, ht, ?_⟩
  obtain ⟨ks, ns, rfl, hk, hw⟩ := ht
  refine dComp_at (stsD ss) (fun ψ hψ => ?_) (fun d => match d with | .tup [_, .str w] => some (.int (pr w)) | _ => none) (by unfold stsD; rw [List.length_map]; have := hs.1; omega) ?_ ?_
  · walk_at "dl"
    exact hψ
  · intro d hd
    obtain ⟨q, hq, rfl⟩ := List.mem_map.mp hd
    have q1 := (hw q.2 (kinds_words (hs.2 q hq).2)).1
    simp only [ρ0, List.map_cons, List.map_nil, List.replicate, List.cons_append, List.nil_append, stD]
    walk_at "dl"
    simp only [q1]
  · have e : (stsD ss).filterMap (fun d => match d with | .tup [_, .str w] => some (D.int (pr w)) | _ => none) = (ss.map fun p => pr p.2).map D.int := by
      unfold stsD
      rw [List.filterMap_map, List.map_map]
      exact congrFun (List.filterMap_eq_map (f := fun p : Nat × Str => D.int (pr p.2))) ss
    rw [e]
    walk_at "dl"
    exact h
theorem fd_own_prices (T : Tops mg) (F_check_table : FD P w K mg base 3 "check_table" ["table"] tCheck) (F : Fun K "own_prices" "own_prices" (top 11) f fd) (m : mg "own_prices" = some (.ref f)) : FD P w K mg base 4 "own_prices" ["calls", "steps", "table"] tOwn := by
  have S : FnScope ["calls", "steps", "table", "prices", "number", "kind"] ["calls", "steps", "table"] (defScope (top 11)) := ⟨rfl, rfl, rfl, by decide +kernel, rfl, by decide +kernel, by decide +kernel⟩
  refine fd_of F S (F.binds fun _ _ _ _ _ _ us hl => match us, hl with | [_, _, _], _ => rfl) m fun cdv A outer s H E ds φ hr hl hT => ?_
  have hu := hr.units
  refine ⟨_, (ss_cons (sd_expr (ed_call F_check_table (hr.mono (by decide)) (ea_cons (ed_name 2) ea_nil)))
      (ss_cons (sd_setComp (T := ["call"]) (F := []) (js := []) 3 S.nd (ei_seq (ed_name 0)) (show CompScope (defScope (top 11)) _ ["call"] [] from ⟨rfl, by decide +kernel, by decide +kernel, by decide +kernel, by decide +kernel, by decide +kernel⟩) .nil (by decide) (fun cl C fp s H => (pg_name (i := 0) (show ((["call"] : List Str) ++ ([] : List Str)).Nodup by decide +kernel) rfl (by first | exact Or.inl rfl | exact Or.inr rfl))) (gk_name (by decide)) (gl_name 0) (fun cl C fp s H => eif_nil) (fun cl C fp s H => ed_int))
      (ss_cons (sd_for (ei_seq (ed_name 1)) (pg_tupK (K0 := K) (n := 2) (by rfl) (by rfl) (pgs_cons (pg_name (i := 4) S.nd rfl (by first | exact Or.inl rfl | exact Or.inr rfl)) (pgs_cons (pg_name (i := 5) S.nd rfl (by first | exact Or.inl rfl | exact Or.inr rfl)) pgs_nil))) (gl_tup2 4 5) (ss_one (sd_laug 3 (ed_name 4) (ed_ixx hu (ed_name 2) (ed_name 5)))))
      (ss_one (sd_ret (ed_name 3)))))), ?_⟩
  obtain ⟨c0, s0, d, rfl, cl, ss, pr, rfl, hc, rfl, hs, ht, h⟩ := f3_of hT
  walk_at "dl"
  simp only [tCheck, g1]
  refine ⟨pr, ht, ?_⟩
  obtain ⟨ks, ns, rfl, hk, hw⟩ := ht
  try walk_at "dl"
  refine dComp_at cl (fun ψ hψ => ?_) (fun d => some (.int 0)) (by have := hc.1; omega) ?_ ?_
  · walk_at "dl"
    exact hψ
  · intro d hd
    simp only [ρ0, List.map_cons, List.map_nil, List.replicate, List.cons_append, List.nil_append, List.append_nil]
    walk_at "dl"
  rw [zeros cl]
  walk_at "dl"
  refine sFor_at (stsD ss) (fun ψ hψ => ?_) (fun i ρ => ∃ a4 a5, ρ = [some (dv (.lst cl)), some (dv (.lst (stsD ss))), some (dv (.dk (ks.map Sum.inr) (ns.map D.int))), some (dO (.lst (nsD (ownF pr cl.length (ss.take i))))), a4, a5]) ⟨none, none, rfl⟩ ?_ ?_
  · walk_at "dl"
    exact hψ
  · rintro i d ρ hd ⟨a4, a5, rfl⟩
    unfold stsD at hd
    rw [List.getElem?_map] at hd
    obtain ⟨q, eq⟩ : ∃ q, ss[i]? = some q := by
      cases e : ss[i]? with
      | none => rw [e] at hd; cases hd
      | some q => exact ⟨q, rfl⟩
    rw [eq] at hd
    cases hd
    have hq := hs.2 q (List.mem_of_getElem? eq)
    have q1 := (hw q.2 (kinds_words hq.2)).1
    have hl := ownF_len pr cl.length (ss.take i)
    have e1 : ixN (nsD (ownF pr cl.length (ss.take i))).length (q.1 : Int) = some q.1 := ixN_nat (by unfold nsD; rw [List.length_map, hl]; exact hq.1)
    have e2 := nsD_get (l := ownF pr cl.length (ss.take i)) (i := q.1) (by rw [hl]; exact hq.1)
    simp only [stD]
    walk_at "dl"
    simp only [e1, e2, q1]
    rw [nsD_set, show ownF pr cl.length (ss.take (i + 1)) = add1 (ownF pr cl.length (ss.take i)) q.1 (pr q.2) from foldl_take eq]
    exact ⟨_, _, rfl⟩
  · rintro ρ ⟨a4, a5, rfl⟩
    have e3 : (stsD ss).length = ss.length := by unfold stsD; simp
    rw [e3, List.take_length]
    walk_at "dl"
    exact ⟨pure_ints _, h⟩
end
end K23

set_option Elab.async false
set_option linter.all false
set_option maxRecDepth 100000
set_option maxHeartbeats 8000000
set_option exponentiation.threshold 5000
namespace K23
open PySem PySem.Spec L2 L3 DL
open PyProof.Rows hiding St
open PySem.Builtin.Int (intBits)
local macro_rules | `(tactic| walk_at "dl") => `(tactic| simp only [sNil, sSeq, sRet, sIf, sSet, sExpr, sUn, sPar, d2, d1, dName, dC, slot, setS, EV.sto, EV.ret, aNil, aCons, dTup, dLst, dCall, dCB, solidB, vAnd, vOr, vNot, vIf, bAnd, bOr, bNot, bYes, tTru, tBo, truD, sSub, sFd, sMod, sPow, sLt, sLe, sGt, sGe, sI, sI0, sAdd, sMul, sNeg, sEq, sNe, sIs, sIsNot, isNon, sIx, sSl, dSl, oNone, oSome, sLen, sAbs, sIsI, sStr, sTupC, sListC, sIntC, sApp, iSeq, iR1, iR2, itemsD, gN, gT2, startD, isT_non_int, isT_non_bool, isT_bl_int, isT_bl_bool, isT_int_int, isT_int_bool, isT_int_str, isT_str_int, isT_str_str, isT_tup_tuple, isT_tup_int, isT_tup_list, isT_lst_list, isT_lst_tuple, isT_dk_dict, List.map_cons, List.map_nil, List.length_cons, List.length_nil, List.cons_append, List.nil_append, List.replicate_succ, List.replicate_zero, Nat.reduceAdd, Nat.reduceSub, Nat.zero_add, Nat.sub_self, Bool.and_self, Bool.and_true, Bool.true_and, true_and, and_true, Bool.not_true, Bool.not_false, forall_const, true_implies, false_implies, Bool.true_eq_false, Bool.false_eq_true, reduceCtorEq, implies_true, okD_int, okD_bl, okD_str, okD_non, eqD_int, eqD_str, eqD_bl, pureEV, pureD, pureDs, Bool.not_eq_eq_eq_not, Bool.not_true, Bool.not_false, beq_eq_false_iff_ne, beq_iff_eq, ne_eq, decide_eq_true_eq, decide_eq_false_iff_not, Bool.not_eq_true, Bool.not_eq_false, not_true_eq_false, not_false_eq_true, atI_0, atI_1, atI_2, and_self, Nat.beq_eq, Nat.ble_eq, Nat.reduceLeDiff, eq_self, Nat.reduceEqDiff, sIxx, dGet2, dFmt, dJoin, keyD, sIn, flatD, cp10, Int.reduceLE, Int.reduceToNat, tenpow_ne, atI_map, List.length_map, Option.map_some, Int.zero_add, sDput', Int.reduceEq, Int.reduceNeg, Int.reduceLT, sRaise, dCallX, sTry, hanZ, clrS, frzE, Option.map_none, List.map_cons, dIsE, sFrz, frzS, iZ, seqD_lst, seqD_tup, seqD_scr, sSum, intsD_map, sPop, sAppPop, sExt, sAug, sIsB, sIsNotB, dTupN, dAddN, dSlT, dPick, sLP, popD_app, pureEVs, sAllL, isT_str_bool, isT_str_tuple, isT_non_tuple, isT_bl_tuple, isT_int_tuple, isT_tup_bool, isT_lst_int, isT_lst_bool, isT_dk_int, isT_dk_bool, isT_dk_tuple, isT_non_bool, isT_str_int, dIsET, sEqS, iCn, sLenC, cst_strs, dItems, dIndex, dLenSet, iB, sInL, sInT, sIxT, dGet2T, sDputT, iZ, seqD, sPopX, dAddN, dTupN, dSlT, sDictC, sLenD, iRD, sClr, sLaug, sRetT, pureRs, isT_lst_tuple])
seal SDs SD ED EA ET EW
section
variable {P : Program} {w : World} {K : PySem.W.Frag} {mg : Str → Option Value} {base : Heap} {f : Addr} {fd : FuncData}
end

def tCellN : FT := fun ds φ => match ds with
  | [.scr _, .int k] => 0 ≤ k ∧ ∀ c : Int, 0 ≤ c → c < 10 ^ 62 → φ (dv (.int c))
  | _ => False
theorem tCellN_of {ds : List D} {φ : EV → Prop} (h : tCellN ds φ) : ∃ (ns : List Int) (k : Nat), ds = [.scr ns, .int k] ∧ ∀ c : Int, 0 ≤ c → c < 10 ^ 62 → φ (dv (.int c)) := by
  unfold tCellN at h
  split at h
  · rename_i ns k
    obtain ⟨h0, h⟩ := h
    exact ⟨ns, k.toNat, by rw [Int.toNat_of_nonneg h0], h⟩
  · exact h.elim
def tName : FT := w2 fun _ k φ => 0 ≤ k ∧ k ≤ 100 ∧ ∀ z : Str, φ (dv (.str z))
def tKinds : FT := fun ds φ => ds = [] ∧ φ (df (.lst (kinds.map D.str)))
def tTable : FT := g1 fun d φ => ∃ ns, d = .scr ns ∧ ∀ e pr, Tab e pr → φ (df e)
def numT (c : Int) : Int := (if c.fmod 2 = 0 then 1 else -1) * (c.fdiv 6).fmod (10 ^ 60)
def thingL (c : Int) : List D := [.int (numT c), .tup [], .non, .tup [.int (numT c)], .tup [.non, .int (numT c), .non], .tup [.int (numT c), .int (c.fmod 9)]]
def thingF (c : Int) : D := (thingL c).getD ((c.fdiv 2).fmod 6).toNat .non
def tThing : FT := w1 fun c φ => φ (dv (thingF c))
def tCall : FT := g3 fun a b s φ => ∃ c cl ns, a = .int c ∧ b = .lst cl ∧ s = .scr ns ∧ Calls cl ∧ ∀ d, CallOk cl.length d → φ (dv d)
def tRun : FT := g1 fun d φ => ∃ ns : List Int, d = .scr ns ∧ ns.length ≤ 63 ∧ ∀ cl ss, Calls cl → Sts ss cl.length → φ ⟨.new, .tup [.lst cl, .lst (stsD ss)]⟩
theorem sgn_at (c : Int) : atI [D.int 1, D.int (-1)] (c.fmod 2) = some (D.int (if c.fmod 2 = 0 then 1 else -1)) := by
  have m := mod_bd c 2 (by decide)
  have : c.fmod 2 = 0 ∨ c.fmod 2 = 1 := by omega
  rcases this with e | e <;> rw [e] <;> rfl
theorem thing_mem (c : Int) : thingF c ∈ thingL c := by
  have m := mod_bd (c.fdiv 2) 6 (by decide)
  unfold thingF
  have h : ((c.fdiv 2).fmod 6).toNat < (thingL c).length := by
    show _ < 6
    omega
  rw [List.getD_eq_getElem?_getD, List.getElem?_eq_getElem h]
  exact List.getElem_mem h
theorem thing_at (c : Int) : atI (thingL c) ((c.fdiv 2).fmod 6) = some (thingF c) := by
  have m := mod_bd (c.fdiv 2) 6 (by decide)
  have h : ((c.fdiv 2).fmod 6).toNat < (thingL c).length := by
    show _ < 6
    omega
  refine atI_of m.1 ?_
  unfold thingF
  rw [List.getD_eq_getElem?_getD, List.getElem?_eq_getElem h]
  rfl
theorem thing_ok (c : Int) : pureD (thingF c) ∧ ∀ n, okD (n + 3) (thingF c) := by
  have h := thing_mem c
  unfold thingL at h
  simp only [List.mem_cons, List.not_mem_nil, or_false] at h
  rcases h with h | h | h | h | h | h <;> rw [h] <;> exact ⟨by simp [pureD, pureDs], fun n => by simp [okD]⟩
end K23

set_option Elab.async false
set_option linter.all false
set_option maxRecDepth 100000
set_option maxHeartbeats 8000000
set_option exponentiation.threshold 5000
namespace K23
open PySem PySem.Spec L2 L3 DL
open PyProof.Rows hiding St
open PySem.Builtin.Int (intBits)
local macro_rules | `(tactic| walk_at "dl") => `(tactic| simp only [sNil, sSeq, sRet, sIf, sSet, sExpr, sUn, sPar, d2, d1, dName, dC, slot, setS, EV.sto, EV.ret, aNil, aCons, dTup, dLst, dCall, dCB, solidB, vAnd, vOr, vNot, vIf, bAnd, bOr, bNot, bYes, tTru, tBo, truD, sSub, sFd, sMod, sPow, sLt, sLe, sGt, sGe, sI, sI0, sAdd, sMul, sNeg, sEq, sNe, sIs, sIsNot, isNon, sIx, sSl, dSl, oNone, oSome, sLen, sAbs, sIsI, sStr, sTupC, sListC, sIntC, sApp, iSeq, iR1, iR2, itemsD, gN, gT2, startD, isT_non_int, isT_non_bool, isT_bl_int, isT_bl_bool, isT_int_int, isT_int_bool, isT_int_str, isT_str_int, isT_str_str, isT_tup_tuple, isT_tup_int, isT_tup_list, isT_lst_list, isT_lst_tuple, isT_dk_dict, List.map_cons, List.map_nil, List.length_cons, List.length_nil, List.cons_append, List.nil_append, List.replicate_succ, List.replicate_zero, Nat.reduceAdd, Nat.reduceSub, Nat.zero_add, Nat.sub_self, Bool.and_self, Bool.and_true, Bool.true_and, true_and, and_true, Bool.not_true, Bool.not_false, forall_const, true_implies, false_implies, Bool.true_eq_false, Bool.false_eq_true, reduceCtorEq, implies_true, okD_int, okD_bl, okD_str, okD_non, eqD_int, eqD_str, eqD_bl, pureEV, pureD, pureDs, Bool.not_eq_eq_eq_not, Bool.not_true, Bool.not_false, beq_eq_false_iff_ne, beq_iff_eq, ne_eq, decide_eq_true_eq, decide_eq_false_iff_not, Bool.not_eq_true, Bool.not_eq_false, not_true_eq_false, not_false_eq_true, atI_0, atI_1, atI_2, and_self, Nat.beq_eq, Nat.ble_eq, Nat.reduceLeDiff, eq_self, Nat.reduceEqDiff, sIxx, dGet2, dFmt, dJoin, keyD, sIn, flatD, cp10, Int.reduceLE, Int.reduceToNat, tenpow_ne, atI_map, List.length_map, Option.map_some, Int.zero_add, sDput', Int.reduceEq, Int.reduceNeg, Int.reduceLT, sRaise, dCallX, sTry, hanZ, clrS, frzE, Option.map_none, List.map_cons, dIsE, sFrz, frzS, iZ, seqD_lst, seqD_tup, seqD_scr, sSum, intsD_map, sPop, sAppPop, sExt, sAug, sIsB, sIsNotB, dTupN, dAddN, dSlT, dPick, sLP, popD_app, pureEVs, sAllL, isT_str_bool, isT_str_tuple, isT_non_tuple, isT_bl_tuple, isT_int_tuple, isT_tup_bool, isT_lst_int, isT_lst_bool, isT_dk_int, isT_dk_bool, isT_dk_tuple, isT_non_bool, isT_str_int, dIsET, sEqS, iCn, sLenC, cst_strs, dItems, dIndex, dLenSet, iB, sInL, sInT, sIxT, dGet2T, sDputT, iZ, seqD, sPopX, dAddN, dTupN, dSlT, sDictC, sLenD, iRD, sClr, sLaug, sRetT, pureRs, isT_lst_tuple])
seal SDs SD ED EA ET EW
section
variable {P : Program} {w : World} {K : PySem.W.Frag} {mg : Str → Option Value} {base : Heap} {f : Addr} {fd : FuncData}
theorem fd_law_cell_at (T : Tops mg) (F : Fun K "_law_cell_at" "_law_cell_at" (top 16) f fd) (m : mg "_law_cell_at" = some (.ref f)) : FD P w K mg base 1 "_law_cell_at" ["_law_script", "_law_k"] tCellN := by
  have S : FnScope ["_law_script", "_law_k"] ["_law_script", "_law_k"] (defScope (top 16)) := ⟨rfl, rfl, rfl, by decide +kernel, rfl, by decide +kernel, by decide +kernel⟩
  refine fd_of F S (F.binds fun _ _ _ _ _ _ us hl => match us, hl with | [_, _], _ => rfl) m fun cdv A outer s H E ds φ hr hl hT => ?_
  have hu := hr.units
  refine ⟨_, (ss_cons (sd_if (et_lt (ed_name 1) (ed_len T.len (ea_cons (ed_name 0) ea_nil))) (ss_one (sd_ret (ed_mod (ed_ixx hu (ed_name 0) (ed_name 1)) (ed_pow ed_int ed_int)))) ss_nil)
      (ss_one (sd_ret ed_int))), ?_⟩
  obtain ⟨ns, k, rfl, h⟩ := tCellN_of hT
  walk_at "dl"
  refine ⟨fun hk => ?_, fun hk => h 0 (by decide) (by decide)⟩
  have hk' : k < ns.length := by omega
  rw [atI_of (x := ns[k]) (by omega) (by simp [hk'])]
  have m := mod_bd ns[k] (10 ^ 62) (by decide)
  exact h _ m.1 m.2
theorem fd_law_whole (T : Tops mg) (F : Fun K "_law_whole" "_law_whole" (top 18) f fd) (m : mg "_law_whole" = some (.ref f)) : FD P w K mg base 1 "_law_whole" ["_law_found"] tWhole := by
  have S : FnScope ["_law_found"] ["_law_found"] (defScope (top 18)) := ⟨rfl, rfl, rfl, by decide +kernel, rfl, by decide +kernel, by decide +kernel⟩
  refine fd_of F S (F.binds fun _ _ _ _ _ _ us hl => match us, hl with | [_], _ => rfl) m fun cdv A outer s H E ds φ hr hl hT => ?_
  have hu := hr.units
  refine ⟨_, (ss_one (sd_ret (ed_and (ed_isinst T.isinstance (ea_cons (ed_name 0) (ea_cons (ed_ty T.int boot_int') ea_nil))) (ed_one (ed_not (ed_isinst T.isinstance (ea_cons (ed_name 0) (ea_cons (ed_ty T.bool boot_bool') ea_nil)))))))), ?_⟩
  obtain ⟨a, rfl, h⟩ := w1_of hT
  walk_at "dl"
  exact h
theorem fd_law_kinds (T : Tops mg) (F : Fun K "_law_kinds" "_law_kinds" (top 19) f fd) (m : mg "_law_kinds" = some (.ref f)) : FD P w K mg base 1 "_law_kinds" [] tKinds := by
  have S : FnScope [] [] (defScope (top 19)) := ⟨rfl, rfl, rfl, by decide +kernel, rfl, by decide +kernel, by decide +kernel⟩
  refine fd_of F S (F.binds fun _ _ _ _ _ _ us hl => match us, hl with | [], _ => rfl) m fun cdv A outer s H E ds φ hr hl hT => ?_
  have hu := hr.units
  refine ⟨_, (ss_one (sd_ret (ed_lst (ea_cons ed_str (ea_cons ed_str (ea_cons ed_str (ea_cons ed_str (ea_cons ed_str (ea_cons ed_str ea_nil))))))))), ?_⟩
  obtain ⟨rfl, h⟩ := hT
  walk_at "dl"
  exact h
theorem fd_law_thing (T : Tops mg) (F : Fun K "_law_thing" "_law_thing" (top 21) f fd) (m : mg "_law_thing" = some (.ref f)) : FD P w K mg base 1 "_law_thing" ["_law_cell"] tThing := by
  have S : FnScope ["_law_cell", "_law_number"] ["_law_cell"] (defScope (top 21)) := ⟨rfl, rfl, rfl, by decide +kernel, rfl, by decide +kernel, by decide +kernel⟩
  refine fd_of F S (F.binds fun _ _ _ _ _ _ us hl => match us, hl with | [_], _ => rfl) m fun cdv A outer s H E ds φ hr hl hT => ?_
  have hu := hr.units
  refine ⟨_, (ss_cons (sd_set 1 S.nd (ed_mul (ed_ixx hu (ed_lst (ea_cons ed_int (ea_cons (ed_neg ed_int) ea_nil))) (ed_mod (ed_name 0) ed_int)) (ed_mod (ed_fd (ed_name 0) ed_int) (ed_pow ed_int ed_int))))
      (ss_one (sd_ret (ed_ixx hu (ed_lst (ea_cons (ed_name 1) (ea_cons (ed_tup ea_nil) (ea_cons ed_non (ea_cons (ed_tup (ea_cons (ed_name 1) ea_nil)) (ea_cons (ed_tup (ea_cons ed_non (ea_cons (ed_name 1) (ea_cons ed_non ea_nil)))) (ea_cons (ed_tup (ea_cons (ed_name 1) (ea_cons (ed_mod (ed_name 0) ed_int) ea_nil))) ea_nil))))))) (ed_mod (ed_fd (ed_name 0) ed_int) ed_int))))), ?_⟩
  obtain ⟨c, rfl, h⟩ := w1_of hT
  walk_at "dl"
  have e2 := thing_at c
  unfold thingL numT at e2
  have hs : intBits (if c.fmod 2 = 0 then (1 : Int) else -1) ≤ 64 := by split <;> decide
  rw [sgn_at]
  dsimp only
  refine ⟨of_eq_true (fd_lit (by decide) (by decide)), IntMulOk.of_left hs, of_eq_true (fd_lit (by decide) (by decide)), ?_⟩
  rw [e2]
  exact ⟨(thing_ok c).1, h⟩
end
end K23

set_option Elab.async false
set_option linter.all false
set_option maxRecDepth 100000
set_option maxHeartbeats 8000000
set_option exponentiation.threshold 5000
namespace K23
open PySem PySem.Spec L2 L3 DL
open PyProof.Rows hiding St
open PySem.Builtin.Int (intBits)
local macro_rules | `(tactic| walk_at "dl") => `(tactic| simp only [sNil, sSeq, sRet, sIf, sSet, sExpr, sUn, sPar, d2, d1, dName, dC, slot, setS, EV.sto, EV.ret, aNil, aCons, dTup, dLst, dCall, dCB, solidB, vAnd, vOr, vNot, vIf, bAnd, bOr, bNot, bYes, tTru, tBo, truD, sSub, sFd, sMod, sPow, sLt, sLe, sGt, sGe, sI, sI0, sAdd, sMul, sNeg, sEq, sNe, sIs, sIsNot, isNon, sIx, sSl, dSl, oNone, oSome, sLen, sAbs, sIsI, sStr, sTupC, sListC, sIntC, sApp, iSeq, iR1, iR2, itemsD, gN, gT2, startD, isT_non_int, isT_non_bool, isT_bl_int, isT_bl_bool, isT_int_int, isT_int_bool, isT_int_str, isT_str_int, isT_str_str, isT_tup_tuple, isT_tup_int, isT_tup_list, isT_lst_list, isT_lst_tuple, isT_dk_dict, List.map_cons, List.map_nil, List.length_cons, List.length_nil, List.cons_append, List.nil_append, List.replicate_succ, List.replicate_zero, Nat.reduceAdd, Nat.reduceSub, Nat.zero_add, Nat.sub_self, Bool.and_self, Bool.and_true, Bool.true_and, true_and, and_true, Bool.not_true, Bool.not_false, forall_const, true_implies, false_implies, Bool.true_eq_false, Bool.false_eq_true, reduceCtorEq, implies_true, okD_int, okD_bl, okD_str, okD_non, eqD_int, eqD_str, eqD_bl, pureEV, pureD, pureDs, Bool.not_eq_eq_eq_not, Bool.not_true, Bool.not_false, beq_eq_false_iff_ne, beq_iff_eq, ne_eq, decide_eq_true_eq, decide_eq_false_iff_not, Bool.not_eq_true, Bool.not_eq_false, not_true_eq_false, not_false_eq_true, atI_0, atI_1, atI_2, and_self, Nat.beq_eq, Nat.ble_eq, Nat.reduceLeDiff, eq_self, Nat.reduceEqDiff, sIxx, dGet2, dFmt, dJoin, keyD, sIn, flatD, cp10, Int.reduceLE, Int.reduceToNat, tenpow_ne, atI_map, List.length_map, Option.map_some, Int.zero_add, sDput', Int.reduceEq, Int.reduceNeg, Int.reduceLT, sRaise, dCallX, sTry, hanZ, clrS, frzE, Option.map_none, List.map_cons, dIsE, sFrz, frzS, iZ, seqD_lst, seqD_tup, seqD_scr, sSum, intsD_map, sPop, sAppPop, sExt, sAug, sIsB, sIsNotB, dTupN, dAddN, dSlT, dPick, sLP, popD_app, pureEVs, sAllL, isT_str_bool, isT_str_tuple, isT_non_tuple, isT_bl_tuple, isT_int_tuple, isT_tup_bool, isT_lst_int, isT_lst_bool, isT_dk_int, isT_dk_bool, isT_dk_tuple, isT_non_bool, isT_str_int, dIsET, sEqS, iCn, sLenC, cst_strs, dItems, dIndex, dLenSet, iB, sInL, sInT, sIxT, dGet2T, sDputT, iZ, seqD, sPopX, dAddN, dTupN, dSlT, sDictC, sLenD, iRD, sClr, sLaug, sRetT, pureRs, isT_lst_tuple])
seal SDs SD ED EA ET EW
section
variable {P : Program} {w : World} {K : PySem.W.Frag} {mg : Str → Option Value} {base : Heap} {f : Addr} {fd : FuncData}

def rot (t : Nat) : List Str := (List.range 7).map fun k => words.getD ((k + t) % 7) ""
theorem rot_ok : ∀ t < 7, (rot t).Nodup ∧ (∀ w ∈ words, w ∈ rot t) ∧ (rot t).length = 7 := by
  intro t ht
  have : t = 0 ∨ t = 1 ∨ t = 2 ∨ t = 3 ∨ t = 4 ∨ t = 5 ∨ t = 6 := by omega
  rcases this with rfl | rfl | rfl | rfl | rfl | rfl | rfl <;> decide +kernel
theorem look_map {α β : Type} (f : α → β) : ∀ (ks : List Key) (xs : List α) (k : Key), lookA ks (xs.map f) k = (lookA ks xs k).map f
  | [], _, _ => by simp [lookA]
  | _ :: _, [], _ => by simp [lookA]
  | k' :: ks, x :: xs, k => by
    rw [List.map_cons, lookA, lookA]
    split
    · rfl
    · exact look_map f ks xs k
theorem look_mem {α : Type} : ∀ {ks : List Key} {xs : List α} {k : Key} {x : α}, lookA ks xs k = some x → x ∈ xs
  | [], _, _, _, h => by simp [lookA] at h
  | _ :: _, [], _, _, h => by simp [lookA] at h
  | k' :: ks, y :: xs, k, x, h => by
    rw [lookA] at h
    split at h
    · cases h; exact List.mem_cons_self ..
    · exact List.mem_cons_of_mem _ (look_mem h)
theorem tab_of {t : Nat} (ht : t < 7) {ns : List Int} (hl : ns.length = 7) (hp : ∀ n ∈ ns, 0 ≤ n) : ∃ pr, Tab (.dk ((rot t).map Sum.inr) (ns.map D.int)) pr := by
  obtain ⟨h1, h2, h3⟩ := rot_ok t ht
  refine ⟨fun w => (lookA ((rot t).map Sum.inr) ns (Sum.inr w)).getD 0, rot t, ns, rfl, h3, fun w hw => ?_⟩
  have hm : (Sum.inr w : Key) ∈ (rot t).map Sum.inr := List.mem_map.mpr ⟨w, h2 w hw, rfl⟩
  have hn : lookA ((rot t).map Sum.inr) ns (Sum.inr w) ≠ none := fun z => (lookA_none (by rw [List.length_map, h3, hl])).mp z hm
  obtain ⟨x, ex⟩ := Option.ne_none_iff_exists'.mp hn
  refine ⟨?_, hm, ?_⟩
  · show _ = some (D.int ((lookA ((rot t).map Sum.inr) ns (Sum.inr w)).getD 0))
    rw [look_map, ex]
    rfl
  · show 0 ≤ (lookA ((rot t).map Sum.inr) ns (Sum.inr w)).getD 0
    rw [ex]
    exact hp x (look_mem ex)
theorem words_at (k t : Nat) : atI words (((k : Int) + (t : Int)).fmod 7) = some (words.getD ((k + t) % 7) "") := by
  have e : ((k : Int) + (t : Int)).fmod 7 = (((k + t) % 7 : Nat) : Int) := by
    rw [Int.fmod_eq_emod_of_nonneg _ (by decide)]
    omega
  rw [e]
  have hl : (k + t) % 7 < words.length := Nat.mod_lt _ (by decide)
  refine atI_of (by omega) ?_
  rw [Int.toNat_natCast]
  simp [List.getD, hl]
theorem rot_take {t i : Nat} (hi : i < 7) : (rot t).take (i + 1) = (rot t).take i ++ [words.getD ((i + t) % 7) ""] := by
  rw [List.take_succ]
  congr 1
  unfold rot
  rw [List.getElem?_map, List.getElem?_range hi]
  rfl
theorem rot_new {t i : Nat} (ht : t < 7) (hi : i < 7) : (Sum.inr (words.getD ((i + t) % 7) "") : Key) ∉ ((rot t).take i).map Sum.inr := by
  obtain ⟨h1, _, h3⟩ := rot_ok t ht
  have h4 : ((rot t).take (i + 1)).Nodup := h1.sublist (List.take_sublist _ _)
  rw [rot_take hi, List.nodup_append] at h4
  intro z
  obtain ⟨w, hw, e⟩ := List.mem_map.mp z
  have : w = words.getD ((i + t) % 7) "" := by simpa using e
  exact h4.2.2 w hw _ (by simp) this
theorem fd_law_table (T : Tops mg) (F__law_cell_at : FD P w K mg base 1 "_law_cell_at" ["_law_script", "_law_k"] tCellN) (F__law_kinds : FD P w K mg base 1 "_law_kinds" [] tKinds) (F : Fun K "_law_table" "_law_table" (top 20) f fd) (m : mg "_law_table" = some (.ref f)) : FD P w K mg base 2 "_law_table" ["_law_script"] tTable := by
  have S : FnScope ["_law_script", "_law_table_here", "_law_words", "_law_turn", "_law_k", "_law_word"] ["_law_script"] (defScope (top 20)) := ⟨rfl, rfl, rfl, by decide +kernel, rfl, by decide +kernel, by decide +kernel⟩
  refine fd_of F S (F.binds fun _ _ _ _ _ _ us hl => match us, hl with | [_], _ => rfl) m fun cdv A outer s H E ds φ hr hl hT => ?_
  have hu := hr.units
  refine ⟨_, (ss_cons (sd_set 1 S.nd ed_dict0)
      (ss_cons (sd_set 2 S.nd (ed_add (ed_call0 F__law_kinds (hr.mono (by decide))) (ed_lst (ea_cons ed_str ea_nil))))
      (ss_cons (sd_set 3 S.nd (ed_mod (ed_call F__law_cell_at (hr.mono (by decide)) (ea_cons (ed_name 0) (ea_cons ed_int ea_nil))) ed_int))
      (ss_cons (sd_for (ei_range1 T.range (ea_cons ed_int ea_nil)) (pg_name (i := 4) S.nd rfl (by first | exact Or.inl rfl | exact Or.inr rfl)) (gl_name 4) (ss_cons (sd_set 5 S.nd (ed_ixx hu (ed_name 2) (ed_mod (ed_add (ed_name 4) (ed_name 3)) ed_int)))
        (ss_one (sd_dput 1 hu (ed_name 5) (ed_mod (ed_call F__law_cell_at (hr.mono (by decide)) (ea_cons (ed_name 0) (ea_cons (ed_mod (ed_add (ed_name 4) (ed_name 3)) ed_int) ea_nil))) (ed_ixx hu (ed_lst (ea_cons (ed_pow ed_int ed_int) (ea_cons (ed_pow ed_int ed_int) (ea_cons ed_int ea_nil)))) (ed_mod (ed_fd (ed_call F__law_cell_at (hr.mono (by decide)) (ea_cons (ed_name 0) (ea_cons ed_int ea_nil))) ed_int) ed_int)))))))
      (ss_one (sd_ret (ed_name 1))))))), ?_⟩
  obtain ⟨d, rfl, ns0, rfl, h⟩ := f1_of hT
  walk_at "dl"
  simp only [tKinds, tCellN]
  refine ⟨trivial, by rw [sizeLine_eq]; decide, by decide, ?_⟩
  intro c hc0 hc1
  have mt := mod_bd c 7 (by decide)
  obtain ⟨t, et⟩ : ∃ t : Nat, c.fmod 7 = t := ⟨(c.fmod 7).toNat, by omega⟩
  have ht : t < 7 := by omega
  rw [et, show List.map D.str kinds ++ [D.str (Str.ofString "hold")] = words.map D.str from rfl]
  refine ⟨by decide, ?_⟩
  refine sFor_at (rngD 0 7) (fun ψ hψ => ?_) (fun i ρ => ∃ ns a4 a5, ns.length = i ∧ (∀ n ∈ ns, (0 : Int) ≤ n) ∧ ρ = [some (dv (.scr ns0)), some (dO (.dk (((rot t).take i).map Sum.inr) (ns.map D.int))), some (dO (.lst (words.map D.str))), some (dv (.int t)), a4, a5])
    ⟨[], none, none, rfl, (fun _ z => nomatch z), rfl⟩ ?_ ?_
  · walk_at "dl"
    exact ⟨by decide, by decide, hψ⟩
  · rintro i d ρ hd ⟨ns, a4, a5, hl, hp, rfl⟩
    obtain ⟨hi, rfl⟩ := rng_get hd
    have e1 := words_at i t
    have e2 := rot_new ht hi
    have e3 : (((rot t).take i).map (Sum.inr : Str → Key)).length = (ns.map D.int).length := by
      have := (rot_ok t ht).2.2
      simp [hl, this]
      omega
    have e4 := mod_bd ((i : Int) + t) 7 (by decide)
    walk_at "dl"
    simp only [e1]
    walk_at "dl"
    refine ⟨e4.1, fun c1 h1 h2 => ⟨by decide, fun c2 h3 h4 => ?_⟩⟩
    obtain ⟨r, hr, er⟩ := pick3 (D.int (10 ^ 30)) (D.int (10 ^ 30)) (D.int 7) (c2.fdiv 7)
    dsimp only
    refine ⟨of_eq_true (fd_lit (by decide) (by decide)), ?_⟩
    rw [er]
    obtain ⟨m, rfl, hm⟩ : ∃ m : Int, r = .int m ∧ 0 < m := by
      rcases hr with rfl | rfl | rfl
      · exact ⟨_, rfl, by decide⟩
      · exact ⟨_, rfl, by decide⟩
      · exact ⟨_, rfl, by decide⟩
    dsimp only
    rw [show kput (((rot t).take i).map Sum.inr) (Sum.inr (words.getD ((i + t) % 7) "")) = ((rot t).take (i + 1)).map Sum.inr by
      unfold kput
      rw [if_neg e2, rot_take hi, List.map_append]
      rfl, dput_new e3 e2]
    rw [show ns.map D.int ++ [D.int (c1.fmod m)] = (ns ++ [c1.fmod m]).map D.int by simp]
    refine ⟨by omega, by omega, ns ++ [c1.fmod m], _, _, by simp [hl], fun n hn => ?_, rfl⟩
    rcases List.mem_append.mp hn with hn | hn
    · exact hp n hn
    · simp at hn
      subst hn
      exact (mod_bd c1 m hm).1
  · rintro ρ ⟨ns, a4, a5, hl, hp, rfl⟩
    rw [rng_len] at hl ⊢
    obtain ⟨pr, tab⟩ := tab_of ht hl hp
    rw [List.take_of_length_le (by rw [(rot_ok t ht).2.2]; exact Nat.le_refl _)]
    walk_at "dl"
    exact ⟨pure_ints _, h _ pr tab⟩
end
end K23

set_option Elab.async false
set_option linter.all false
set_option maxRecDepth 100000
set_option maxHeartbeats 8000000
set_option exponentiation.threshold 5000
namespace K23
open PySem PySem.Spec L2 L3 DL
open PyProof.Rows hiding St
open PySem.Builtin.Int (intBits)
local macro_rules | `(tactic| walk_at "dl") => `(tactic| simp only [sNil, sSeq, sRet, sIf, sSet, sExpr, sUn, sPar, d2, d1, dName, dC, slot, setS, EV.sto, EV.ret, aNil, aCons, dTup, dLst, dCall, dCB, solidB, vAnd, vOr, vNot, vIf, bAnd, bOr, bNot, bYes, tTru, tBo, truD, sSub, sFd, sMod, sPow, sLt, sLe, sGt, sGe, sI, sI0, sAdd, sMul, sNeg, sEq, sNe, sIs, sIsNot, isNon, sIx, sSl, dSl, oNone, oSome, sLen, sAbs, sIsI, sStr, sTupC, sListC, sIntC, sApp, iSeq, iR1, iR2, itemsD, gN, gT2, startD, isT_non_int, isT_non_bool, isT_bl_int, isT_bl_bool, isT_int_int, isT_int_bool, isT_int_str, isT_str_int, isT_str_str, isT_tup_tuple, isT_tup_int, isT_tup_list, isT_lst_list, isT_lst_tuple, isT_dk_dict, List.map_cons, List.map_nil, List.length_cons, List.length_nil, List.cons_append, List.nil_append, List.replicate_succ, List.replicate_zero, Nat.reduceAdd, Nat.reduceSub, Nat.zero_add, Nat.sub_self, Bool.and_self, Bool.and_true, Bool.true_and, true_and, and_true, Bool.not_true, Bool.not_false, forall_const, true_implies, false_implies, Bool.true_eq_false, Bool.false_eq_true, reduceCtorEq, implies_true, okD_int, okD_bl, okD_str, okD_non, eqD_int, eqD_str, eqD_bl, pureEV, pureD, pureDs, Bool.not_eq_eq_eq_not, Bool.not_true, Bool.not_false, beq_eq_false_iff_ne, beq_iff_eq, ne_eq, decide_eq_true_eq, decide_eq_false_iff_not, Bool.not_eq_true, Bool.not_eq_false, not_true_eq_false, not_false_eq_true, atI_0, atI_1, atI_2, and_self, Nat.beq_eq, Nat.ble_eq, Nat.reduceLeDiff, eq_self, Nat.reduceEqDiff, sIxx, dGet2, dFmt, dJoin, keyD, sIn, flatD, cp10, Int.reduceLE, Int.reduceToNat, tenpow_ne, atI_map, List.length_map, Option.map_some, Int.zero_add, sDput', Int.reduceEq, Int.reduceNeg, Int.reduceLT, sRaise, dCallX, sTry, hanZ, clrS, frzE, Option.map_none, List.map_cons, dIsE, sFrz, frzS, iZ, seqD_lst, seqD_tup, seqD_scr, sSum, intsD_map, sPop, sAppPop, sExt, sAug, sIsB, sIsNotB, dTupN, dAddN, dSlT, dPick, sLP, popD_app, pureEVs, sAllL, isT_str_bool, isT_str_tuple, isT_non_tuple, isT_bl_tuple, isT_int_tuple, isT_tup_bool, isT_lst_int, isT_lst_bool, isT_dk_int, isT_dk_bool, isT_dk_tuple, isT_non_bool, isT_str_int, dIsET, sEqS, iCn, sLenC, cst_strs, dItems, dIndex, dLenSet, iB, sInL, sInT, sIxT, dGet2T, sDputT, iZ, seqD, sPopX, dAddN, dTupN, dSlT, sDictC, sLenD, iRD, sClr, sLaug, sRetT, pureRs, isT_lst_tuple])
seal SDs SD ED EA ET EW
section
variable {P : Program} {w : World} {K : PySem.W.Frag} {mg : Str → Option Value} {base : Heap} {f : Addr} {fd : FuncData}

theorem abc_len : ("abcdefghijklmnopqrstuvwxyz" : Str).cps.toList.length = 26 := by decide +kernel
theorem abc_at (x : Int) : atI ("abcdefghijklmnopqrstuvwxyz" : Str).cps.toList (x.fmod 26) ≠ none := by
  have m := mod_bd x 26 (by decide)
  have h : (x.fmod 26).toNat < ("abcdefghijklmnopqrstuvwxyz" : Str).cps.toList.length := by rw [abc_len]; omega
  rw [atI_of m.1 (by rw [List.getElem?_eq_getElem h])]
  simp
theorem one_len (c : Nat) : (⟨#[c]⟩ : Str).length = 1 := rfl
theorem fd_law_name (T : Tops mg) (F : Fun K "_law_name" "_law_name" (top 17) f fd) (m : mg "_law_name" = some (.ref f)) : FD P w K mg base 1 "_law_name" ["_law_cell", "_law_k"] tName := by
  have S : FnScope ["_law_cell", "_law_k", "_law_many", "_law_at", "_law_word", "_law_j", "_law_letter"] ["_law_cell", "_law_k"] (defScope (top 17)) := ⟨rfl, rfl, rfl, by decide +kernel, rfl, by decide +kernel, by decide +kernel⟩
  refine fd_of F S (F.binds fun _ _ _ _ _ _ us hl => match us, hl with | [_, _], _ => rfl) m fun cdv A outer s H E ds φ hr hl hT => ?_
  have hu := hr.units
  refine ⟨_, (ss_cons (sd_set 2 S.nd (ed_add ed_int (ed_mod (ed_name 0) ed_int)))
      (ss_cons (sd_set 3 S.nd (ed_mod (ed_fd (ed_name 0) ed_int) (ed_name 2)))
      (ss_cons (sd_set 4 S.nd ed_str)
      (ss_cons (sd_for (ei_range1 T.range (ea_cons (ed_name 2) ea_nil)) (pg_name (i := 5) S.nd rfl (by first | exact Or.inl rfl | exact Or.inr rfl)) (gl_name 5) (ss_cons (sd_set 6 S.nd (ed_mod (ed_fd (ed_name 0) ed_int) ed_int))
        (ss_cons (sd_if (et_eq hu (ed_mod (ed_fd (ed_name 0) ed_int) ed_int) ed_int) (ss_one (sd_set 6 S.nd (ed_mod (ed_add (ed_fd (ed_fd (ed_name 0) ed_int) (ed_add (ed_name 5) ed_int)) (ed_mul (ed_name 5) (ed_name 5))) ed_int))) ss_nil)
        (ss_cons (sd_if (et_eq hu (ed_name 5) (ed_name 3)) (ss_one (sd_set 6 S.nd (ed_mod (ed_add (ed_name 6) (ed_mul (ed_name 1) (ed_ixx hu (ed_lst (ea_cons ed_int (ea_cons ed_int (ea_cons ed_int (ea_cons ed_int (ea_cons ed_int (ea_cons ed_int ea_nil))))))) (ed_mod (ed_fd (ed_name 0) ed_int) ed_int)))) ed_int))) ss_nil)
        (ss_one (sd_set 4 S.nd (ed_add (ed_name 4) (ed_ixx hu ed_str (ed_name 6)))))))))
      (ss_cons (sd_if (EW.et (ew_or (et_eq hu (ed_name 4) ed_str) (ew_or1 (et_eq hu (ed_name 4) ed_str)))) (ss_one (sd_set 4 S.nd (ed_add (ed_name 4) ed_str))) ss_nil)
      (ss_one (sd_ret (ed_name 4)))))))), ?_⟩
  obtain ⟨c, k, rfl, hk0, hk1, h⟩ := w2_of hT
  have m1 := mod_bd c 8 (by decide)
  walk_at "dl"
  refine ⟨of_eq_true (fd_lit (by decide) (by decide)), by omega, ?_⟩
  refine sFor_at (rngD 0 (1 + c.fmod 8).toNat) (fun ψ hψ => ?_) (fun i ρ => ∃ a2 a3 z a5 a6, z.length ≤ i ∧ ρ = [some (dv (.int c)), some (dv (.int k)), a2, some (dv (.int a3)), some (dv (.str z)), a5, a6])
    ⟨_, _, "", none, none, Nat.le_refl _, rfl⟩ ?_ ?_
  · walk_at "dl"
    exact ⟨by omega, by omega, hψ⟩
  · rintro i d ρ hd ⟨a2, a3, z, a5, a6, hz, rfl⟩
    obtain ⟨hi, rfl⟩ := rng_get hd
    have hi8 : i < 8 := by omega
    walk_at "dl"
    obtain ⟨r, hr, er⟩ := atI_mod (l := [D.int 1, D.int 3, D.int 5, D.int 7, D.int 9, D.int 11]) (by simp) (c.fdiv 3328)
    obtain ⟨v, rfl, hv0, hv1⟩ : ∃ v : Int, r = .int v ∧ 0 ≤ v ∧ v ≤ 11 := by
      simp only [List.mem_cons, List.not_mem_nil, or_false] at hr
      rcases hr with rfl | rfl | rfl | rfl | rfl | rfl
      · exact ⟨_, rfl, by decide, by decide⟩
      · exact ⟨_, rfl, by decide, by decide⟩
      · exact ⟨_, rfl, by decide, by decide⟩
      · exact ⟨_, rfl, by decide, by decide⟩
      · exact ⟨_, rfl, by decide, by decide⟩
      · exact ⟨_, rfl, by decide, by decide⟩
    have er' : atI [D.int 1, D.int 3, D.int 5, D.int 7, D.int 9, D.int 11] ((c.fdiv 3328).fmod 6) = some (.int v) := er
    rw [er']
    dsimp only
    have hm : IntMulOk k v := IntMulOk.of_right (bitsOf (by omega))
    have hA : ("abcdefghijklmnopqrstuvwxyz" : Str).length ≤ sizeLine := by rw [len_codes, abc_len, sizeLine_eq]; decide
    have fin : ∀ (x : Int) (G : Nat → Prop), (∀ ch, G ch) → (match atI ("abcdefghijklmnopqrstuvwxyz" : Str).cps.toList (x.fmod 26) with | some ch => G ch | none => False) := fun x G hG => by
      split
      · exact hG _
      · rename_i e
        exact absurd e (abc_at x)
    have L1 : ∀ ch : Nat, z.length + (⟨#[ch]⟩ : Str).length ≤ sizeLine := fun ch => by rw [one_len, sizeLine_eq]; omega
    have L2 : ∀ ch : Nat, (z ++ (⟨#[ch]⟩ : Str)).length ≤ i + 1 := fun ch => by rw [app_len, one_len]; omega
    refine ⟨of_eq_true (fd_lit (by decide) (by decide)), of_eq_true (fd_lit (by decide) (by decide)), fun _ => ⟨of_eq_true (fd_lit (by decide) (by decide)), fdOk (m := 64) (by omega) (bitsOf (by omega)), IntMulOk.of_left (bitsOf (by omega)), fun _ => ⟨of_eq_true (fd_lit (by decide) (by decide)), hm, hA, ?_⟩, fun _ => ⟨hA, ?_⟩⟩, fun _ => ⟨fun _ => ⟨of_eq_true (fd_lit (by decide) (by decide)), hm, hA, ?_⟩, fun _ => ⟨hA, ?_⟩⟩⟩
    all_goals exact fin _ _ fun ch => ⟨L1 ch, _, _, _, _, _, L2 ch, rfl⟩
  · rintro ρ ⟨a2, a3, z, a5, a6, hz, rfl⟩
    rw [rng_len] at hz
    walk_at "dl"
    have hx : z.length + ("x" : Str).length ≤ sizeLine := by rw [show ("x" : Str).length = 1 by decide +kernel, sizeLine_eq]; omega
    exact ⟨fun _ => ⟨hx, h _⟩, fun _ => ⟨fun _ => ⟨hx, h _⟩, fun _ => h _⟩⟩
end
end K23

set_option Elab.async false
set_option linter.all false
set_option maxRecDepth 100000
set_option maxHeartbeats 8000000
set_option exponentiation.threshold 5000
namespace K23
open PySem PySem.Spec L2 L3 DL
open PyProof.Rows hiding St
open PySem.Builtin.Int (intBits)
local macro_rules | `(tactic| walk_at "dl") => `(tactic| simp only [sNil, sSeq, sRet, sIf, sSet, sExpr, sUn, sPar, d2, d1, dName, dC, slot, setS, EV.sto, EV.ret, aNil, aCons, dTup, dLst, dCall, dCB, solidB, vAnd, vOr, vNot, vIf, bAnd, bOr, bNot, bYes, tTru, tBo, truD, sSub, sFd, sMod, sPow, sLt, sLe, sGt, sGe, sI, sI0, sAdd, sMul, sNeg, sEq, sNe, sIs, sIsNot, isNon, sIx, sSl, dSl, oNone, oSome, sLen, sAbs, sIsI, sStr, sTupC, sListC, sIntC, sApp, iSeq, iR1, iR2, itemsD, gN, gT2, startD, isT_non_int, isT_non_bool, isT_bl_int, isT_bl_bool, isT_int_int, isT_int_bool, isT_int_str, isT_str_int, isT_str_str, isT_tup_tuple, isT_tup_int, isT_tup_list, isT_lst_list, isT_lst_tuple, isT_dk_dict, List.map_cons, List.map_nil, List.length_cons, List.length_nil, List.cons_append, List.nil_append, List.replicate_succ, List.replicate_zero, Nat.reduceAdd, Nat.reduceSub, Nat.zero_add, Nat.sub_self, Bool.and_self, Bool.and_true, Bool.true_and, true_and, and_true, Bool.not_true, Bool.not_false, forall_const, true_implies, false_implies, Bool.true_eq_false, Bool.false_eq_true, reduceCtorEq, implies_true, okD_int, okD_bl, okD_str, okD_non, eqD_int, eqD_str, eqD_bl, pureEV, pureD, pureDs, Bool.not_eq_eq_eq_not, Bool.not_true, Bool.not_false, beq_eq_false_iff_ne, beq_iff_eq, ne_eq, decide_eq_true_eq, decide_eq_false_iff_not, Bool.not_eq_true, Bool.not_eq_false, not_true_eq_false, not_false_eq_true, atI_0, atI_1, atI_2, and_self, Nat.beq_eq, Nat.ble_eq, Nat.reduceLeDiff, eq_self, Nat.reduceEqDiff, sIxx, dGet2, dFmt, dJoin, keyD, sIn, flatD, cp10, Int.reduceLE, Int.reduceToNat, tenpow_ne, atI_map, List.length_map, Option.map_some, Int.zero_add, sDput', Int.reduceEq, Int.reduceNeg, Int.reduceLT, sRaise, dCallX, sTry, hanZ, clrS, frzE, Option.map_none, List.map_cons, dIsE, sFrz, frzS, iZ, seqD_lst, seqD_tup, seqD_scr, sSum, intsD_map, sPop, sAppPop, sExt, sAug, sIsB, sIsNotB, dTupN, dAddN, dSlT, dPick, sLP, popD_app, pureEVs, sAllL, isT_str_bool, isT_str_tuple, isT_non_tuple, isT_bl_tuple, isT_int_tuple, isT_tup_bool, isT_lst_int, isT_lst_bool, isT_dk_int, isT_dk_bool, isT_dk_tuple, isT_non_bool, isT_str_int, dIsET, sEqS, iCn, sLenC, cst_strs, dItems, dIndex, dLenSet, iB, sInL, sInT, sIxT, dGet2T, sDputT, iZ, seqD, sPopX, dAddN, dTupN, dSlT, sDictC, sLenD, iRD, sClr, sLaug, sRetT, pureRs, isT_lst_tuple])
seal SDs SD ED EA ET EW
section
variable {P : Program} {w : World} {K : PySem.W.Frag} {mg : Str → Option Value} {base : Heap} {f : Addr} {fd : FuncData}

def OkD (d : D) : Prop := pureD d ∧ ∀ n, okD (n + 3) d
theorem calls_ok {cl : List D} (h : Calls cl) (n : Nat) : okD (n + 6) (.lst cl) := by
  show ∀ x ∈ cl, okD (n + 5) x
  intro x hx
  obtain ⟨i, hi⟩ := List.getElem?_of_mem hx
  obtain ⟨_, _, _, _, _, _, _, ho, _⟩ := h.2 i x hi
  exact ho n
theorem eq_nil (cl : List D) : eqD (.lst cl) (.lst []) = cl.isEmpty := by
  cases cl <;> rfl
theorem fd_law_call (T : Tops mg) (F__law_cell_at : FD P w K mg base 1 "_law_cell_at" ["_law_script", "_law_k"] tCellN) (F__law_name : FD P w K mg base 1 "_law_name" ["_law_cell", "_law_k"] tName) (F__law_thing : FD P w K mg base 1 "_law_thing" ["_law_cell"] tThing) (F : Fun K "_law_call" "_law_call" (top 22) f fd) (m : mg "_law_call" = some (.ref f)) : FD P w K mg base 2 "_law_call" ["_law_cell", "_law_calls", "_law_script"] tCall := by
  have S : FnScope ["_law_cell", "_law_calls", "_law_script", "_law_number", "_law_many", "_law_args", "_law_up", "_law_done", "_law_value"] ["_law_cell", "_law_calls", "_law_script"] (defScope (top 22)) := ⟨rfl, rfl, rfl, by decide +kernel, rfl, by decide +kernel, by decide +kernel⟩
  refine fd_of F S (F.binds fun _ _ _ _ _ _ us hl => match us, hl with | [_, _, _], _ => rfl) m fun cdv A outer s H E ds φ hr hl hT => ?_
  have hu := hr.units
  refine ⟨_, (ss_cons (sd_cut (sd_set 3 S.nd (ed_mod (ed_fd (ed_name 0) ed_int) ed_int)))
      (ss_cons (sd_cut (sd_set 4 S.nd (ed_add ed_int (ed_mod (ed_fd (ed_call F__law_cell_at (hr.mono (by decide)) (ea_cons (ed_name 2) (ea_cons ed_int ea_nil))) (ed_ixx hu (ed_lst (ea_cons ed_int (ea_cons ed_int (ea_cons ed_int (ea_cons ed_int (ea_cons ed_int (ea_cons ed_int ea_nil))))))) (ed_name 3))) ed_int))))
      (ss_cons (sd_cut (sd_set 5 S.nd (ed_tupleC T.tuple (ea_cons (ed_comp (T := ["_law_k"]) (F := ["_law_cell"]) (js := [0]) (ei_range1 T.range (ea_cons (ed_name 4) ea_nil)) (show CompScope (defScope (top 22)) _ ["_law_k"] ["_law_cell"] from ⟨rfl, by decide +kernel, by decide +kernel, by decide +kernel, by decide +kernel, by decide +kernel⟩) (.cons rfl .nil) (by decide) (fun cl C fp s H => (pg_name (i := 0) (show ((["_law_k"] : List Str) ++ (["_law_cell"] : List Str)).Nodup by decide +kernel) rfl (by first | exact Or.inl rfl | exact Or.inr rfl))) (gk_name (by decide)) (gl_name 0) (fun cl C fp s H => eif_nil) (fun cl C fp s H => (ed_call F__law_thing (hr.mono (by decide)) (ea_cons (ed_fd (ed_name 1) (ed_add (ed_mul ed_int (ed_name 0)) ed_int)) ea_nil)))) ea_nil))))
      (ss_cons (sd_cut (sd_set 6 S.nd ed_non))
      (ss_cons (sd_cut (sd_if (et_ne hu (ed_name 1) (ed_lst ea_nil)) (ss_one (sd_set 6 S.nd (ed_ixx hu (ed_lst (ea_cons (ed_sub (ed_len T.len (ea_cons (ed_name 1) ea_nil)) ed_int) (ea_cons (ed_mod (ed_fd (ed_name 0) ed_int) (ed_len T.len (ea_cons (ed_name 1) ea_nil))) ea_nil))) (ed_mod (ed_fd (ed_name 0) ed_int) ed_int)))) ss_nil))
      (ss_cons (sd_cut (sd_set 7 S.nd (ed_eq hu (ed_mod (ed_fd (ed_name 0) ed_int) ed_int) ed_int)))
      (ss_cons (sd_cut (sd_set 8 S.nd ed_non))
      (ss_cons (sd_cut (sd_if (et_val (ed_name 7)) (ss_one (sd_set 8 S.nd (ed_call F__law_thing (hr.mono (by decide)) (ea_cons (ed_fd (ed_name 0) ed_int) ea_nil)))) ss_nil))
      (ss_one (sd_ret (ed_tup (ea_cons (ed_call F__law_name (hr.mono (by decide)) (ea_cons (ed_call F__law_cell_at (hr.mono (by decide)) (ea_cons (ed_name 2) (ea_cons ed_int ea_nil))) (ea_cons (ed_name 3) ea_nil))) (ea_cons (ed_name 5) (ea_cons (ed_name 6) (ea_cons (ed_name 7) (ea_cons (ed_name 8) ea_nil)))))))))))))))), ?_⟩
  obtain ⟨a0, b0, s0, rfl, c, cl, ns, rfl, rfl, rfl, hc, h⟩ := f3_of hT
  refine cut_seq (fun ρ => ∃ n : Int, 0 ≤ n ∧ n ≤ 5 ∧ ρ = [some (dv (.int c)), some (dv (.lst cl)), some (dv (.scr ns)), some (dv (.int n)), none, none, none, none, none]) ?_ ?_
  · walk_at "dl"
    have m := mod_bd (c.fdiv 4) 6 (by decide)
    exact ⟨of_eq_true (fd_lit (by decide) (by decide)), _, by omega, by omega, rfl⟩
  rintro _ ⟨n, hn0, hn1, rfl⟩
  refine cut_seq (fun ρ => ∃ m : Int, 1 ≤ m ∧ m ≤ 4 ∧ ρ = [some (dv (.int c)), some (dv (.lst cl)), some (dv (.scr ns)), some (dv (.int n)), some (dv (.int m)), none, none, none, none]) ?_ ?_
  · walk_at "dl"
    simp only [tCellN]
    refine ⟨by decide, fun e h0 h1 => ?_⟩
    obtain ⟨v, ev, hv0, hv1⟩ : ∃ v : Int, atI [D.int 1, D.int 4, D.int 16, D.int 64, D.int 256, D.int 1024] n = some (.int v) ∧ 1 ≤ v ∧ v ≤ 1024 := by
      have : n = 0 ∨ n = 1 ∨ n = 2 ∨ n = 3 ∨ n = 4 ∨ n = 5 := by omega
      rcases this with rfl | rfl | rfl | rfl | rfl | rfl
      · exact ⟨1, rfl, by decide, by decide⟩
      · exact ⟨4, rfl, by decide, by decide⟩
      · exact ⟨16, rfl, by decide, by decide⟩
      · exact ⟨64, rfl, by decide, by decide⟩
      · exact ⟨256, rfl, by decide, by decide⟩
      · exact ⟨1024, rfl, by decide, by decide⟩
    rw [ev]
    dsimp only
    have m := mod_bd (e.fdiv v) 4 (by decide)
    exact ⟨fdOk (m := 64) (by omega) (bitsOf (by omega)), _, by omega, by omega, rfl⟩
  rintro _ ⟨m, hm0, hm1, rfl⟩
  refine cut_seq (fun ρ => ∃ al, (∀ d ∈ al, OkD d) ∧ ρ = [some (dv (.int c)), some (dv (.lst cl)), some (dv (.scr ns)), some (dv (.int n)), some (dv (.int m)), some (dv (.tup al)), none, none, none]) ?_ ?_
  · walk_at "dl"
    refine dComp_at (rngD 0 m.toNat) (fun ψ hψ => ?_) (fun d => match d with | .int k => some (thingF (c.fdiv (24 * k + 7))) | _ => none) (by rw [rng_len]; omega) ?_ ?_
    · walk_at "dl"
      exact ⟨by omega, by omega, hψ⟩
    · intro d hd
      obtain ⟨i, hi⟩ := List.getElem?_of_mem hd
      obtain ⟨hi', rfl⟩ := rng_get hi
      simp only [ρ0, List.map_cons, List.map_nil, List.replicate, List.cons_append, List.nil_append]
      walk_at "dl"
      simp only [tThing, w1]
      exact ⟨IntMulOk.of_left (by decide), fdOk (m := 64) (by omega) (bitsOf (by omega)), trivial, trivial⟩
    · walk_at "dl"
      refine ⟨_, fun d hd => ?_, rfl⟩
      obtain ⟨e, he, e2⟩ := List.mem_filterMap.mp hd
      split at e2
      · cases e2
        exact thing_ok _
      · cases e2
  rintro _ ⟨al, hal, rfl⟩
  refine cut_seq (fun ρ => ρ = [some (dv (.int c)), some (dv (.lst cl)), some (dv (.scr ns)), some (dv (.int n)), some (dv (.int m)), some (dv (.tup al)), some (dv .non), none, none]) ?_ ?_
  · walk_at "dl"
  rintro _ rfl
  refine cut_seq (fun ρ => ∃ up, (cl.length = 0 → up = .non) ∧ (0 < cl.length → ∃ u : Nat, up = .int u ∧ u < cl.length) ∧ ρ = [some (dv (.int c)), some (dv (.lst cl)), some (dv (.scr ns)), some (dv (.int n)), some (dv (.int m)), some (dv (.tup al)), some (dv up), none, none]) ?_ ?_
  · walk_at "dl"
    refine ⟨calls_ok hc 34, by simp [okD], ?_⟩
    rw [eq_nil]
    refine ⟨fun z => ?_, fun z => ?_⟩
    · have hp : 0 < cl.length := List.length_pos_iff.mpr (by intro e; subst e; cases z)
      have m2 := mod_bd (c.fdiv 72) cl.length (by omega)
      obtain ⟨r, hr, er⟩ := pick2 (D.int ((cl.length : Int) - 1)) (D.int ((c.fdiv 72).fmod cl.length)) (c.fdiv 24)
      refine ⟨of_eq_true (fd_lit (by decide) (by decide)), by omega, of_eq_true (fd_lit (by decide) (by decide)), ?_⟩
      rw [er]
      dsimp only
      refine ⟨r, fun z => by omega, fun _ => ?_, rfl⟩
      rcases hr with rfl | rfl
      · exact ⟨cl.length - 1, by rw [show ((cl.length - 1 : Nat) : Int) = (cl.length : Int) - 1 by omega], by omega⟩
      · exact ⟨((c.fdiv 72).fmod cl.length).toNat, by rw [Int.toNat_of_nonneg m2.1], by omega⟩
    · have e : cl = [] := by cases cl with | nil => rfl | cons => cases z
      subst e
      exact ⟨.non, fun _ => rfl, fun z => absurd z (by simp), rfl⟩
  rintro _ ⟨up, hu0, hu1, rfl⟩
  refine cut_seq (fun ρ => ∃ b, ρ = [some (dv (.int c)), some (dv (.lst cl)), some (dv (.scr ns)), some (dv (.int n)), some (dv (.int m)), some (dv (.tup al)), some (dv up), some (dv (.bl b)), none]) ?_ ?_
  · walk_at "dl"
    exact ⟨of_eq_true (fd_lit (by decide) (by decide)), _, rfl⟩
  rintro _ ⟨bb, rfl⟩
  refine cut_seq (fun ρ => ρ = [some (dv (.int c)), some (dv (.lst cl)), some (dv (.scr ns)), some (dv (.int n)), some (dv (.int m)), some (dv (.tup al)), some (dv up), some (dv (.bl bb)), some (dv .non)]) ?_ ?_
  · walk_at "dl"
  rintro _ rfl
  refine cut_seq (fun ρ => ∃ va, OkD va ∧ ρ = [some (dv (.int c)), some (dv (.lst cl)), some (dv (.scr ns)), some (dv (.int n)), some (dv (.int m)), some (dv (.tup al)), some (dv up), some (dv (.bl bb)), some (dv va)]) ?_ ?_
  · walk_at "dl"
    simp only [tThing, w1]
    refine ⟨fun _ => ⟨of_eq_true (fd_lit (by decide) (by decide)), ?_⟩, fun _ => ⟨.non, ⟨trivial, fun n => by simp [okD]⟩, rfl⟩⟩
    exact ⟨trivial, _, thing_ok _, rfl⟩
  rintro _ ⟨va, hva, rfl⟩
  walk_at "dl"
  simp only [tCellN, tName, w2]
  refine ⟨by decide, fun c' _ _ => ⟨hn0, by omega, fun z => ⟨trivial, ?_, ?_⟩⟩⟩
  · have hup : pureD up := by
      by_cases hz : cl.length = 0
      · rw [hu0 hz]; trivial
      · obtain ⟨u, rfl, _⟩ := hu1 (by omega)
        trivial
    exact ⟨trivial, pureDs_iff.mpr fun d hd => (hal d hd).1, hup, hva.1⟩
  · refine h _ ⟨_, _, _, _, _, rfl, ?_, fun n => ?_, hu0, hu1⟩
    · have hup : pureD up := by
        by_cases hz : cl.length = 0
        · rw [hu0 hz]; trivial
        · obtain ⟨u, rfl, _⟩ := hu1 (by omega)
          trivial
      exact ⟨trivial, pureDs_iff.mpr fun d hd => (hal d hd).1, hup, trivial, hva.1, trivial⟩
    · have hup : okD (n + 4) up := by
        by_cases hz : cl.length = 0
        · rw [hu0 hz]; simp [okD]
        · obtain ⟨u, rfl, _⟩ := hu1 (by omega)
          simp [okD]
      show ∀ x ∈ [D.str z, .tup al, up, .bl bb, va], okD (n + 4) x
      intro x hx
      simp only [List.mem_cons, List.not_mem_nil, or_false] at hx
      rcases hx with rfl | rfl | rfl | rfl | rfl
      · simp [okD]
      · show ∀ y ∈ al, okD (n + 3) y
        exact fun y hy => (hal y hy).2 n
      · exact hup
      · simp [okD]
      · exact hva.2 (n + 1)
end
end K23

set_option Elab.async false
set_option linter.all false
set_option maxRecDepth 100000
set_option maxHeartbeats 8000000
set_option exponentiation.threshold 5000
namespace K23
open PySem PySem.Spec L2 L3 DL
open PyProof.Rows hiding St
open PySem.Builtin.Int (intBits)
local macro_rules | `(tactic| walk_at "dl") => `(tactic| simp only [sNil, sSeq, sRet, sIf, sSet, sExpr, sUn, sPar, d2, d1, dName, dC, slot, setS, EV.sto, EV.ret, aNil, aCons, dTup, dLst, dCall, dCB, solidB, vAnd, vOr, vNot, vIf, bAnd, bOr, bNot, bYes, tTru, tBo, truD, sSub, sFd, sMod, sPow, sLt, sLe, sGt, sGe, sI, sI0, sAdd, sMul, sNeg, sEq, sNe, sIs, sIsNot, isNon, sIx, sSl, dSl, oNone, oSome, sLen, sAbs, sIsI, sStr, sTupC, sListC, sIntC, sApp, iSeq, iR1, iR2, itemsD, gN, gT2, startD, isT_non_int, isT_non_bool, isT_bl_int, isT_bl_bool, isT_int_int, isT_int_bool, isT_int_str, isT_str_int, isT_str_str, isT_tup_tuple, isT_tup_int, isT_tup_list, isT_lst_list, isT_lst_tuple, isT_dk_dict, List.map_cons, List.map_nil, List.length_cons, List.length_nil, List.cons_append, List.nil_append, List.replicate_succ, List.replicate_zero, Nat.reduceAdd, Nat.reduceSub, Nat.zero_add, Nat.sub_self, Bool.and_self, Bool.and_true, Bool.true_and, true_and, and_true, Bool.not_true, Bool.not_false, forall_const, true_implies, false_implies, Bool.true_eq_false, Bool.false_eq_true, reduceCtorEq, implies_true, okD_int, okD_bl, okD_str, okD_non, eqD_int, eqD_str, eqD_bl, pureEV, pureD, pureDs, Bool.not_eq_eq_eq_not, Bool.not_true, Bool.not_false, beq_eq_false_iff_ne, beq_iff_eq, ne_eq, decide_eq_true_eq, decide_eq_false_iff_not, Bool.not_eq_true, Bool.not_eq_false, not_true_eq_false, not_false_eq_true, atI_0, atI_1, atI_2, and_self, Nat.beq_eq, Nat.ble_eq, Nat.reduceLeDiff, eq_self, Nat.reduceEqDiff, sIxx, dGet2, dFmt, dJoin, keyD, sIn, flatD, cp10, Int.reduceLE, Int.reduceToNat, tenpow_ne, atI_map, List.length_map, Option.map_some, Int.zero_add, sDput', Int.reduceEq, Int.reduceNeg, Int.reduceLT, sRaise, dCallX, sTry, hanZ, clrS, frzE, Option.map_none, List.map_cons, dIsE, sFrz, frzS, iZ, seqD_lst, seqD_tup, seqD_scr, sSum, intsD_map, sPop, sAppPop, sExt, sAug, sIsB, sIsNotB, dTupN, dAddN, dSlT, dPick, sLP, popD_app, pureEVs, sAllL, isT_str_bool, isT_str_tuple, isT_non_tuple, isT_bl_tuple, isT_int_tuple, isT_tup_bool, isT_lst_int, isT_lst_bool, isT_dk_int, isT_dk_bool, isT_dk_tuple, isT_non_bool, isT_str_int, dIsET, sEqS, iCn, sLenC, cst_strs, dItems, dIndex, dLenSet, iB, sInL, sInT, sIxT, dGet2T, sDputT, iZ, seqD, sPopX, dAddN, dTupN, dSlT, sDictC, sLenD, iRD, sClr, sLaug, sRetT, pureRs, isT_lst_tuple])
seal SDs SD ED EA ET EW
section
variable {P : Program} {w : World} {K : PySem.W.Frag} {mg : Str → Option Value} {base : Heap} {f : Addr} {fd : FuncData}

theorem Sts.nil (n : Nat) : Sts [] n := ⟨Nat.zero_le _, fun _ h => nomatch h⟩
theorem Calls.nil : Calls [] := ⟨Nat.zero_le _, fun i d h => by simp at h⟩
theorem Calls.snoc {cl : List D} {d : D} (h : Calls cl) (hd : CallOk cl.length d) (hl : cl.length < 100) : Calls (cl ++ [d]) := by
  refine ⟨by simp; omega, fun i e he => ?_⟩
  rcases Nat.lt_or_ge i cl.length with hi | hi
  · rw [List.getElem?_append_left hi] at he
    exact h.2 i e he
  · rw [List.getElem?_append_right hi] at he
    have : i = cl.length := by
      have := (List.getElem?_eq_some_iff.mp he).1
      simp at this
      omega
    subst this
    simp at he
    subst he
    exact hd
theorem kinds_at (x : Int) : ∃ w ∈ kinds, atI kinds (x.fmod 6) = some w := atI_mod (l := kinds) (by decide) x
theorem fd_law_run (T : Tops mg) (F__law_kinds : FD P w K mg base 1 "_law_kinds" [] tKinds) (F__law_call : FD P w K mg base 2 "_law_call" ["_law_cell", "_law_calls", "_law_script"] tCall) (F : Fun K "_law_run" "_law_run" (top 23) f fd) (m : mg "_law_run" = some (.ref f)) : FD P w K mg base 3 "_law_run" ["_law_script"] tRun := by
  have S : FnScope ["_law_script", "_law_calls", "_law_steps", "_law_cell", "_law_mixed", "_law_k"] ["_law_script"] (defScope (top 23)) := ⟨rfl, rfl, rfl, by decide +kernel, rfl, by decide +kernel, by decide +kernel⟩
  refine fd_of F S (F.binds fun _ _ _ _ _ _ us hl => match us, hl with | [_], _ => rfl) m fun cdv A outer s H E ds φ hr hl hT => ?_
  have hu := hr.units
  refine ⟨_, (ss_cons (sd_set 1 S.nd (ed_lst ea_nil))
      (ss_cons (sd_set 2 S.nd (ed_lst ea_nil))
      (ss_cons (sd_for (ei_seq (ed_slice (ed_name 0) (eo_some ed_int) (eo_some ed_int))) (pg_name (i := 3) S.nd rfl (by first | exact Or.inl rfl | exact Or.inr rfl)) (gl_name 3) (ss_cons (sd_cut (sd_set 3 S.nd (ed_mod (ed_name 3) (ed_pow ed_int ed_int))))
        (ss_cons (sd_cut (sd_if (EW.et (ew_or (et_eq hu (ed_name 1) (ed_lst ea_nil)) (ew_or1 (et_ne hu (ed_mod (ed_name 3) ed_int) ed_int)))) (ss_one (sd_append 1 (ed_call F__law_call (hr.mono (by decide)) (ea_cons (ed_name 3) (ea_cons (ed_name 1) (ea_cons (ed_name 0) ea_nil)))))) ss_nil))
        (ss_cons (sd_cut (sd_set 4 S.nd (ed_mod (ed_mul (ed_add (ed_name 3) (ed_mul ed_int (ed_len T.len (ea_cons (ed_name 2) ea_nil)))) ed_int) ed_int)))
        (ss_one (sd_for (ei_range1 T.range (ea_cons (ed_mod (ed_name 4) ed_int) ea_nil)) (pg_name (i := 5) S.nd rfl (by first | exact Or.inl rfl | exact Or.inr rfl)) (gl_name 5) (ss_cons (sd_set 4 S.nd (ed_mod (ed_add (ed_add (ed_mul (ed_name 4) (ed_name 4)) (ed_mul ed_int (ed_name 4))) (ed_name 5)) ed_int))
          (ss_one (sd_append 2 (ed_tup (ea_cons (ed_mod (ed_name 4) (ed_len T.len (ea_cons (ed_name 1) ea_nil))) (ea_cons (ed_ixx hu (ed_call0 F__law_kinds (hr.mono (by decide))) (ed_mod (ed_fd (ed_name 4) ed_int) ed_int)) ea_nil))))))))))))
      (ss_one (sd_retT (ea_cons (ed_name 1) (ea_cons (ed_name 2) ea_nil))))))), ?_⟩
  obtain ⟨d, rfl, ns, rfl, hn, h⟩ := f1_of hT
  let cs := (ns.drop 10).take 60
  have hcs : cs.length ≤ 53 := by show ((ns.drop 10).take 60).length ≤ 53; rw [List.length_take, List.length_drop]; omega
  have ecs : cutD (ns.map D.int) (some 10) (some 70) = nsD cs := by
    rw [show cutD (ns.map D.int) (some 10) (some 70) = ((ns.map D.int).drop 10).take (70 - 10) from cutD_mid _ 10 70]
    unfold nsD
    rw [List.map_take, List.map_drop]
  generalize cs = cs at *
  walk_at "dl"
  refine sFor_at (nsD cs) (fun ψ hψ => ?_) (fun i ρ => ∃ cl ss a3 a4 a5, Calls cl ∧ cl.length ≤ i ∧ (0 < i → 0 < cl.length) ∧ ss.length ≤ 3 * i ∧ (∀ p ∈ ss, p.1 < cl.length ∧ p.2 ∈ kinds) ∧ ρ = [some (dv (.scr ns)), some (dO (.lst cl)), some (dO (.lst (stsD ss))), a3, a4, a5])
    ⟨[], [], none, none, none, Calls.nil, Nat.le_refl _, fun z => absurd z (by decide), Nat.le_refl _, (fun _ z => nomatch z), rfl⟩ ?_ ?_
  · walk_at "dl"
    rw [ecs]
    exact hψ
  · rintro i d ρ hd ⟨cl, ss, a3, a4, a5, hC, hcl, hc0, hsl, hss, rfl⟩
    have hi : i < cs.length := by have := (List.getElem?_eq_some_iff.mp hd).1; simpa [nsD] using this
    obtain ⟨c, rfl⟩ : ∃ c, d = .int c := by
      obtain ⟨n, _, e⟩ := List.mem_map.mp (List.mem_of_getElem? hd)
      exact ⟨n, e.symm⟩
    refine (show sSeq _ _ _ _ from ?_)
    refine cut_seq (fun ρ => ∃ c, ρ = [some (dv (.scr ns)), some (dO (.lst cl)), some (dO (.lst (stsD ss))), some (dv (.int c)), a4, a5]) ?_ ?_
    · walk_at "dl"
      exact ⟨_, rfl⟩
    rintro _ ⟨c, rfl⟩
    refine cut_seq (fun ρ => ∃ cl', Calls cl' ∧ cl'.length ≤ i + 1 ∧ 0 < cl'.length ∧ (∀ p ∈ ss, p.1 < cl'.length ∧ p.2 ∈ kinds) ∧ ρ = [some (dv (.scr ns)), some (dO (.lst cl')), some (dO (.lst (stsD ss))), some (dv (.int c)), a4, a5]) ?_ ?_
    · have app : ∀ d, CallOk cl.length d → ∃ cl', Calls cl' ∧ cl'.length ≤ i + 1 ∧ 0 < cl'.length ∧ (∀ p ∈ ss, p.1 < cl'.length ∧ p.2 ∈ kinds) ∧ [some (dv (.scr ns)), some (dO (.lst (cl ++ [d]))), some (dO (.lst (stsD ss))), some (dv (.int c)), a4, a5] = [some (dv (.scr ns)), some (dO (.lst cl')), some (dO (.lst (stsD ss))), some (dv (.int c)), a4, a5] := fun d hd =>
        ⟨cl ++ [d], hC.snoc hd (by omega), by simp; omega, by simp, fun p hp => ⟨by have := (hss p hp).1; simp; omega, (hss p hp).2⟩, rfl⟩
      have hlen : cl.length ≤ 100000 := by omega
      walk_at "dl"
      refine ⟨calls_ok hC 34, by simp [okD], ?_⟩
      rw [eq_nil]
      simp only [tCall, g3]
      refine ⟨fun _ => ⟨c, cl, ns, rfl, rfl, rfl, hC, fun d hd => ⟨trivial, hlen, app d hd⟩⟩, fun z => ⟨fun _ => ⟨c, cl, ns, rfl, rfl, rfl, hC, fun d hd => ⟨trivial, hlen, app d hd⟩⟩, fun _ => ⟨cl, hC, by omega, ?_, hss, rfl⟩⟩⟩
      exact List.length_pos_iff.mpr (by intro e; subst e; cases z)
    rintro _ ⟨cl', hC', hl', hp', hss', rfl⟩
    refine cut_seq (fun ρ => ∃ m : Int, 0 ≤ m ∧ m < 2147483647 ∧ ρ = [some (dv (.scr ns)), some (dO (.lst cl')), some (dO (.lst (stsD ss))), some (dv (.int c)), some (dv (.int m)), a5]) ?_ ?_
    · have e3 : (stsD ss).length = ss.length := by unfold stsD; simp
      walk_at "dl"
      rw [e3]
      have m := mod_bd ((c + 7 * (ss.length : Int)) * 48271) 2147483647 (by decide)
      exact ⟨IntMulOk.of_left (by decide), IntMulOk.of_right (by decide), _, m.1, m.2, rfl⟩
    rintro _ ⟨m, hm0, hm1, rfl⟩
    refine sFor_at (rngD 0 (m.fmod 4).toNat) (fun ψ hψ => ?_) (fun j ρ => ∃ ss' m' a5, ss'.length ≤ 3 * i + j ∧ (∀ p ∈ ss', p.1 < cl'.length ∧ p.2 ∈ kinds) ∧ 0 ≤ m' ∧ m' < (2147483647 : Int) ∧ ρ = [some (dv (.scr ns)), some (dO (.lst cl')), some (dO (.lst (stsD ss'))), some (dv (.int c)), some (dv (.int m')), a5])
      ⟨ss, m, a5, by omega, hss', hm0, hm1, rfl⟩ ?_ ?_
    · have m4 := mod_bd m 4 (by decide)
      walk_at "dl"
      exact ⟨by omega, by omega, hψ⟩
    · rintro j d ρ hd ⟨ss', m', a5, h1, h2, h3, h4, rfl⟩
      obtain ⟨hj, rfl⟩ := rng_get hd
      have m4 := mod_bd m 4 (by decide)
      have q := mod_bd (m' * m' + 48271 * m' + j) 2147483647 (by decide)
      have e3 : (stsD ss').length = ss'.length := by unfold stsD; simp
      walk_at "dl"
      simp only [tKinds]
      have hmm : IntMulOk m' m' := IntMulOk.of_left (bitsOf (by omega))
      generalize (m' * m' + 48271 * m' + (j : Int)).fmod 2147483647 = m2 at *
      obtain ⟨v, hv, ev⟩ := kinds_at (m2.fdiv 64)
      rw [atI_map, ev]
      have m5 := mod_bd m2 cl'.length (by omega)
      have ea : (((m2.fmod cl'.length).toNat : Nat) : Int) = m2.fmod cl'.length := Int.toNat_of_nonneg m5.1
      have e6 : stsD ss' ++ [D.tup [.int (m2.fmod cl'.length), .str v]] = stsD (ss' ++ [((m2.fmod cl'.length).toNat, v)]) := by
        unfold stsD
        rw [List.map_append, List.map_singleton, stD, ea]
      refine ⟨hmm, IntMulOk.of_left (by decide), by omega, trivial, of_eq_true (fd_lit (by decide) (by decide)), ?_⟩
      simp only [Option.map_some]
      rw [e6]
      refine ⟨by omega, _, _, _, ?_, ?_, q.1, q.2, rfl⟩
      · rw [List.length_append, List.length_singleton]
        omega
      · intro p hp
        rcases List.mem_append.mp hp with hp | hp
        · exact h2 p hp
        · simp at hp
          subst hp
          exact ⟨by show (m2.fmod cl'.length).toNat < cl'.length; omega, hv⟩
    · rintro ρ ⟨ss', m', a5, h1, h2, h3, h4, rfl⟩
      rw [rng_len] at h1
      have m4 := mod_bd m 4 (by decide)
      exact ⟨cl', ss', _, _, _, hC', hl', fun _ => hp', by omega, h2, rfl⟩
  · rintro ρ ⟨cl, ss, a3, a4, a5, hC, hcl, hc0, hsl, hss, rfl⟩
    have e3 : (nsD cs).length = cs.length := by unfold nsD; simp
    rw [e3] at hcl hsl
    walk_at "dl"
    refine ⟨⟨pureDs_iff.mpr fun d hd => ?_, pureDs_iff.mpr fun d hd => ?_⟩, h cl ss hC ⟨by omega, hss⟩⟩
    · obtain ⟨k, hk⟩ := List.getElem?_of_mem hd
      obtain ⟨_, _, _, _, _, _, hp, _⟩ := hC.2 k d hk
      exact hp
    · obtain ⟨p, _, rfl⟩ := List.mem_map.mp hd
      exact ⟨trivial, trivial, trivial⟩
end
end K23

set_option Elab.async false
set_option linter.all false
set_option maxRecDepth 100000
set_option maxHeartbeats 8000000
set_option exponentiation.threshold 5000
namespace K23
open PySem PySem.Spec L2 L3 DL
open PyProof.Rows hiding St
open PySem.Builtin.Int (intBits)
local macro_rules | `(tactic| walk_at "dl") => `(tactic| simp only [sNil, sSeq, sRet, sIf, sSet, sExpr, sUn, sPar, d2, d1, dName, dC, slot, setS, EV.sto, EV.ret, aNil, aCons, dTup, dLst, dCall, dCB, solidB, vAnd, vOr, vNot, vIf, bAnd, bOr, bNot, bYes, tTru, tBo, truD, sSub, sFd, sMod, sPow, sLt, sLe, sGt, sGe, sI, sI0, sAdd, sMul, sNeg, sEq, sNe, sIs, sIsNot, isNon, sIx, sSl, dSl, oNone, oSome, sLen, sAbs, sIsI, sStr, sTupC, sListC, sIntC, sApp, iSeq, iR1, iR2, itemsD, gN, gT2, startD, isT_non_int, isT_non_bool, isT_bl_int, isT_bl_bool, isT_int_int, isT_int_bool, isT_int_str, isT_str_int, isT_str_str, isT_tup_tuple, isT_tup_int, isT_tup_list, isT_lst_list, isT_lst_tuple, isT_dk_dict, List.map_cons, List.map_nil, List.length_cons, List.length_nil, List.cons_append, List.nil_append, List.replicate_succ, List.replicate_zero, Nat.reduceAdd, Nat.reduceSub, Nat.zero_add, Nat.sub_self, Bool.and_self, Bool.and_true, Bool.true_and, true_and, and_true, Bool.not_true, Bool.not_false, forall_const, true_implies, false_implies, Bool.true_eq_false, Bool.false_eq_true, reduceCtorEq, implies_true, okD_int, okD_bl, okD_str, okD_non, eqD_int, eqD_str, eqD_bl, pureEV, pureD, pureDs, Bool.not_eq_eq_eq_not, Bool.not_true, Bool.not_false, beq_eq_false_iff_ne, beq_iff_eq, ne_eq, decide_eq_true_eq, decide_eq_false_iff_not, Bool.not_eq_true, Bool.not_eq_false, not_true_eq_false, not_false_eq_true, atI_0, atI_1, atI_2, and_self, Nat.beq_eq, Nat.ble_eq, Nat.reduceLeDiff, eq_self, Nat.reduceEqDiff, sIxx, dGet2, dFmt, dJoin, keyD, sIn, flatD, cp10, Int.reduceLE, Int.reduceToNat, tenpow_ne, atI_map, List.length_map, Option.map_some, Int.zero_add, sDput', Int.reduceEq, Int.reduceNeg, Int.reduceLT, sRaise, dCallX, sTry, hanZ, clrS, frzE, Option.map_none, List.map_cons, dIsE, sFrz, frzS, iZ, seqD_lst, seqD_tup, seqD_scr, sSum, intsD_map, sPop, sAppPop, sExt, sAug, sIsB, sIsNotB, dTupN, dAddN, dSlT, dPick, sLP, popD_app, pureEVs, sAllL, isT_str_bool, isT_str_tuple, isT_non_tuple, isT_bl_tuple, isT_int_tuple, isT_tup_bool, isT_lst_int, isT_lst_bool, isT_dk_int, isT_dk_bool, isT_dk_tuple, isT_non_bool, isT_str_int, dIsET, sEqS, iCn, sLenC, cst_strs, dItems, dIndex, dLenSet, iB, sInL, sInT, sIxT, dGet2T, sDputT, iZ, seqD, sPopX, dAddN, dTupN, dSlT, sDictC, sLenD, iRD, sClr, sLaug, sRetT, pureRs, isT_lst_tuple])
seal SDs SD ED EA ET EW
section
variable {P : Program} {w : World} {K : PySem.W.Frag} {mg : Str → Option Value} {base : Heap} {f : Addr} {fd : FuncData}

def tWayOn : FT := g2 fun x y φ => ∃ (a : List Str) (z : Str), x = wyD a ∧ y = .str z ∧ a.length ≤ 1000 ∧ φ (dv (wyD (wayOn a z))) ∧ φ ⟨.new, wyD (wayOn a z)⟩
def waysD (cl : List D) (i : Nat) : List D := (List.range i).map fun k => wyD (wayF cl k)
def tWays : FT := g1 fun c φ => ∃ cl, c = .lst cl ∧ Calls cl ∧ φ (df (.lst (waysD cl cl.length)))
def outW (cl : List D) (pr : Str → Int) (ss : List (Nat × Str)) : List D := (keysOf ((List.range cl.length).map (wayF cl))).map fun w => rowD w (stepSum (wayF cl) pr w ss)
def tByWay : FT := g3 fun c s d φ => ∃ cl ss pr, c = .lst cl ∧ Calls cl ∧ s = .lst (stsD ss) ∧ Sts ss cl.length ∧ Tab d pr ∧ φ (df (.lst (outW cl pr ss)))
theorem flat_strs (a : List Str) : (a.map D.str).all flatD = true := by
  rw [List.all_map, List.all_eq_true]
  intro x _
  rfl
theorem in_strs (z : Str) (a : List Str) : inD (.str z) (a.map D.str) = decide (z ∈ a) := by
  unfold inD
  rw [List.any_map]
  induction a with
  | nil => rfl
  | cons x a ih =>
    rw [List.any_cons, ih]
    show (eqD (.str x) (.str z) || _) = _
    simp only [eqD]
    by_cases e : x = z
    · subst e
      simp
    · simp [e, Ne.symm e]
theorem pure_strs (a : List Str) : pureDs (a.map D.str) := pureDs_iff.mpr fun d hd => by
  obtain ⟨n, _, rfl⟩ := List.mem_map.mp hd
  trivial
theorem pure_wy (a : List Str) : pureD (wyD a) := pure_strs a
theorem cut_wy (a : List Str) (k : Nat) : cutD (a.map D.str) none (some ((k : Int) + 1)) = (a.take (k + 1)).map D.str := by
  have := cutD_take (a.map D.str) (k + 1)
  rw [← List.map_take] at this
  exact this
theorem call_at {cl : List D} {i : Nat} {nm : Str} {ar up dn va : D} (e : cl[i]? = some (.tup [.str nm, ar, up, dn, va])) : nmOf cl i = nm ∧ ∀ u : Nat, up = .int u → upOf cl i = u := by
  unfold nmOf upOf
  rw [List.getD_eq_getElem?_getD, e]
  refine ⟨rfl, fun u hu => ?_⟩
  subst hu
  simp [upN]
theorem ways_at {cl : List D} {i u : Nat} (h : u < i) : atI (waysD cl i) (u : Int) = some (wyD (wayF cl u)) := by
  refine atI_of (by omega) ?_
  unfold waysD
  rw [Int.toNat_natCast, List.getElem?_map, List.getElem?_range h]
  rfl
theorem ways_succ (cl : List D) (i : Nat) : waysD cl (i + 1) = waysD cl i ++ [wyD (wayF cl i)] := by
  unfold waysD
  rw [List.range_succ, List.map_append]
  rfl
theorem ways_len (cl : List D) (i : Nat) : (waysD cl i).length = i := by unfold waysD; simp
theorem pure_ways (cl : List D) (i : Nat) : pureDs (waysD cl i) := pureDs_iff.mpr fun d hd => by
  obtain ⟨n, _, rfl⟩ := List.mem_map.mp hd
  exact pure_wy _
theorem zip_rows (cl : List D) (own : List Int) (n : Nat) (h : own.length = n) : zipD (waysD cl n) (nsD own) = (rowsW (wayF cl) own n).map fun q => .tup [wyD q.1, .int q.2] := by
  unfold zipD waysD nsD rowsW
  apply List.ext_getElem
  · simp [h]
  · intro i h1 h2
    have hi : i < n := by simpa using h2
    simp [List.getD, show i < own.length by omega]
theorem pure_out (cl : List D) (pr : Str → Int) (ss : List (Nat × Str)) : pureDs (outW cl pr ss) := pureDs_iff.mpr fun d hd => by
  obtain ⟨w, _, rfl⟩ := List.mem_map.mp hd
  exact ⟨pure_wy w, trivial, trivial⟩
theorem fd_way_on (T : Tops mg) (F : Fun K "way_on" "way_on" (top 14) f fd) (m : mg "way_on" = some (.ref f)) : FD P w K mg base 1 "way_on" ["above", "name"] tWayOn := by
  have S : FnScope ["above", "name"] ["above", "name"] (defScope (top 14)) := ⟨rfl, rfl, rfl, by decide +kernel, rfl, by decide +kernel, by decide +kernel⟩
  refine fd_of F S (F.binds fun _ _ _ _ _ _ us hl => match us, hl with | [_, _], _ => rfl) m fun cdv A outer s H E ds φ hr hl hT => ?_
  have hu := hr.units
  refine ⟨_, (ss_cons (sd_if (et_in hu (ed_name 1) (ed_name 0)) (ss_one (sd_ret (ed_sliceT (ed_name 0) eo_none (eo_some (ed_add (ed_index (ed_name 0) (ed_name 1)) ed_int))))) ss_nil)
      (ss_one (sd_ret (ed_addN (ed_name 0) (ed_tupN (ea_cons (ed_name 1) ea_nil)))))), ?_⟩
  obtain ⟨a0, z0, rfl, a, z, rfl, rfl, hl, h1, h2⟩ := f2_of hT
  unfold wyD
  walk_at "dl"
  rw [in_strs]
  simp only [if_false, decide_eq_true_eq, decide_eq_false_iff_not]
  refine ⟨flat_strs a, fun hz => ⟨a, rfl, hz, ?_⟩, fun hz => ⟨pure_strs a, by rw [sizeLine_eq]; omega, ?_⟩⟩
  · rw [cut_wy, wayOn_in hz]
    exact ⟨pure_strs _, h1⟩
  · rw [show a.map D.str ++ [D.str z] = (wayOn a z).map D.str by rw [← wayOn_out hz, List.map_append]; rfl]
    exact h2
theorem fd_ways_of (T : Tops mg) (F_way_on : FD P w K mg base 1 "way_on" ["above", "name"] tWayOn) (F : Fun K "ways_of" "ways_of" (top 13) f fd) (m : mg "ways_of" = some (.ref f)) : FD P w K mg base 2 "ways_of" ["calls"] tWays := by
  have S : FnScope ["calls", "ways", "call", "above"] ["calls"] (defScope (top 13)) := ⟨rfl, rfl, rfl, by decide +kernel, rfl, by decide +kernel, by decide +kernel⟩
  refine fd_of F S (F.binds fun _ _ _ _ _ _ us hl => match us, hl with | [_], _ => rfl) m fun cdv A outer s H E ds φ hr hl hT => ?_
  have hu := hr.units
  refine ⟨_, (ss_cons (sd_set 1 S.nd (ed_lst ea_nil))
      (ss_cons (sd_for (ei_seq (ed_name 0)) (pg_name (i := 2) S.nd rfl (by first | exact Or.inl rfl | exact Or.inr rfl)) (gl_name 2) (ss_cons (sd_set 3 S.nd (ed_ifExp (et_is (ed_ixx hu (ed_name 2) ed_int) ed_non) (ed_tup ea_nil) (ed_ixx hu (ed_name 1) (ed_ixx hu (ed_name 2) ed_int))))
        (ss_one (sd_append 1 (ed_call F_way_on (hr.mono (by decide)) (ea_cons (ed_name 3) (ea_cons (ed_ixx hu (ed_name 2) ed_int) ea_nil)))))))
      (ss_one (sd_ret (ed_name 1))))), ?_⟩
  obtain ⟨d0, rfl, cl, rfl, hc, h⟩ := f1_of hT
  have hc1 := hc.1
  walk_at "dl"
  refine sFor_at cl (fun ψ hψ => ?_) (fun i ρ => ∃ a2 a3, ρ = [some (dv (.lst cl)), some (dO (.lst (waysD cl i))), a2, a3]) ⟨none, none, rfl⟩ ?_ ?_
  · walk_at "dl"
    exact hψ
  · rintro i d ρ hd ⟨a2, a3, rfl⟩
    have hi : i < cl.length := (List.getElem?_eq_some_iff.mp hd).1
    obtain ⟨nm, ar, up, dn, va, rfl, hp, ho, u0, u1⟩ := hc.2 _ d hd
    obtain ⟨en, eu⟩ := call_at hd
    have wl := ways_len cl i
    by_cases hz : i = 0
    · subst hz
      cases u0 rfl
      have ew := way_top (cl := cl)
      rw [en] at ew
      walk_at "dl"
      simp only [tWayOn, g2]
      have wl : (waysD cl 0).length = 0 := rfl
      rw [ways_succ, ew]
      refine ⟨[], nm, rfl, rfl, by simp, ⟨trivial, by omega, _, _, rfl⟩, ⟨trivial, by omega, _, _, rfl⟩⟩
    · obtain ⟨u, rfl, hu1⟩ := u1 (by omega)
      have ew := way_step (eu u rfl) hu1
      rw [en] at ew
      have wu := way_len cl u
      have e1 := ways_at (cl := cl) hu1
      walk_at "dl"
      simp only [e1, tWayOn, g2]
      rw [ways_succ, ew]
      refine ⟨wayF cl u, nm, rfl, rfl, by omega, ⟨trivial, by omega, _, _, rfl⟩, ⟨trivial, by omega, _, _, rfl⟩⟩
  · rintro ρ ⟨a2, a3, rfl⟩
    walk_at "dl"
    exact ⟨pure_ways _ _, h⟩
theorem fd_by_way (T : Tops mg) (F_ways_of : FD P w K mg base 2 "ways_of" ["calls"] tWays) (F_own_prices : FD P w K mg base 4 "own_prices" ["calls", "steps", "table"] tOwn) (F : Fun K "by_way" "by_way" (top 12) f fd) (m : mg "by_way" = some (.ref f)) : FD P w K mg base 5 "by_way" ["calls", "steps", "table"] tByWay := by
  have S : FnScope ["calls", "steps", "table", "parts", "way", "price"] ["calls", "steps", "table"] (defScope (top 12)) := ⟨rfl, rfl, rfl, by decide +kernel, rfl, by decide +kernel, by decide +kernel⟩
  refine fd_of F S (F.binds fun _ _ _ _ _ _ us hl => match us, hl with | [_, _, _], _ => rfl) m fun cdv A outer s H E ds φ hr hl hT => ?_
  have hu := hr.units
  refine ⟨_, (ss_cons (sd_set 3 S.nd ed_dict0T)
      (ss_cons (sd_for (ei_zip T.zip (ea_cons (ed_call F_ways_of (hr.mono (by decide)) (ea_cons (ed_name 0) ea_nil)) (ea_cons (ed_call F_own_prices (hr.mono (by decide)) (ea_cons (ed_name 0) (ea_cons (ed_name 1) (ea_cons (ed_name 2) ea_nil)))) ea_nil))) (pg_tupK (K0 := K) (n := 2) (by rfl) (by rfl) (pgs_cons (pg_name (i := 4) S.nd rfl (by first | exact Or.inl rfl | exact Or.inr rfl)) (pgs_cons (pg_name (i := 5) S.nd rfl (by first | exact Or.inl rfl | exact Or.inr rfl)) pgs_nil))) (gl_tup2 4 5) (ss_one (sd_dputT 3 hu (ed_name 4) (ed_add (ed_get2T hu (ed_name 3) (ed_name 4) ed_int) (ed_name 5)))))
      (ss_one (sd_ret (ed_listItems T.list (ed_name 3)))))), ?_⟩
  obtain ⟨c0, s0, d, rfl, cl, ss, pr, rfl, hc, rfl, hs, ht, h⟩ := f3_of hT
  have hol := ownF_len pr cl.length ss
  have hst := fun w => rows_steps (wayF cl) pr cl.length w ss fun p hp => (hs.2 p hp).1
  walk_at "dl"
  refine sFor_at ((rowsW (wayF cl) (ownF pr cl.length ss) cl.length).map fun q => .tup [wyD q.1, .int q.2]) (fun ψ hψ => ?_) (fun i ρ => ∃ a4 a5, ρ = [some (dv (.lst cl)), some (dv (.lst (stsD ss))), some (dv d), some (dO (dtF ((rowsW (wayF cl) (ownF pr cl.length ss) cl.length).take i))), a4, a5]) ⟨none, none, rfl⟩ ?_ ?_
  · walk_at "dl"
    simp only [tWays, g1, tOwn, g3]
    refine ⟨cl, rfl, hc, cl, ss, pr, rfl, hc, rfl, hs, ht, trivial, trivial, ?_⟩
    rw [zip_rows cl _ cl.length hol]
    exact hψ
  · rintro i e ρ he ⟨a4, a5, rfl⟩
    rw [List.getElem?_map] at he
    obtain ⟨q, eq, rfl⟩ := Option.map_eq_some_iff.mp he
    have hi : i < cl.length := by
      have := (List.getElem?_eq_some_iff.mp eq).1
      unfold rowsW at this
      simpa using this
    have e3 : (rowsW (wayF cl) (ownF pr cl.length ss) cl.length).take (i + 1) = (rowsW (wayF cl) (ownF pr cl.length ss) cl.length).take i ++ [q] := by rw [List.take_succ, eq]; rfl
    have ll : ((rowsW (wayF cl) (ownF pr cl.length ss) cl.length).take i).length ≤ cl.length := by
      unfold rowsW
      simp
      omega
    generalize (rowsW (wayF cl) (ownF pr cl.length ss) cl.length).take i = l at *
    rw [e3]
    have e1 := dt_get l q.1
    have e2 := dt_put l q
    have kl : (keysOf (l.map Prod.fst)).length ≤ 100000 := by
      have := keys_len (l.map Prod.fst)
      rw [List.length_map] at this
      have := hc.1
      omega
    rw [← e2]
    unfold dtF
    walk_at "dl"
    simp only [keyT_wy, e1]
    exact ⟨kl, _, _, rfl⟩
  · rintro ρ ⟨a4, a5, rfl⟩
    rw [List.length_map, List.take_length]
    unfold dtF
    walk_at "dl"
    have eo : itemsT ((keysOf ((rowsW (wayF cl) (ownF pr cl.length ss) cl.length).map Prod.fst)).map kz) ((keysOf ((rowsW (wayF cl) (ownF pr cl.length ss) cl.length).map Prod.fst)).map fun w => D.int (sumAt (rowsW (wayF cl) (ownF pr cl.length ss) cl.length) w)) = outW cl pr ss := by
      rw [dt_items, rows_fst]
      unfold outW
      exact List.map_congr_left fun w _ => by rw [hst]
    rw [eo]
    exact ⟨pure_out cl pr ss, h⟩
end
end K23

set_option Elab.async false
set_option linter.all false
set_option maxRecDepth 100000
set_option maxHeartbeats 8000000
set_option exponentiation.threshold 5000
namespace K23
open PySem PySem.Spec L2 L3 DL
open PyProof.Rows hiding St
open PySem.Builtin.Int (intBits)
local macro_rules | `(tactic| walk_at "dl") => `(tactic| simp only [sNil, sSeq, sRet, sIf, sSet, sExpr, sUn, sPar, d2, d1, dName, dC, slot, setS, EV.sto, EV.ret, aNil, aCons, dTup, dLst, dCall, dCB, solidB, vAnd, vOr, vNot, vIf, bAnd, bOr, bNot, bYes, tTru, tBo, truD, sSub, sFd, sMod, sPow, sLt, sLe, sGt, sGe, sI, sI0, sAdd, sMul, sNeg, sEq, sNe, sIs, sIsNot, isNon, sIx, sSl, dSl, oNone, oSome, sLen, sAbs, sIsI, sStr, sTupC, sListC, sIntC, sApp, iSeq, iR1, iR2, itemsD, gN, gT2, startD, isT_non_int, isT_non_bool, isT_bl_int, isT_bl_bool, isT_int_int, isT_int_bool, isT_int_str, isT_str_int, isT_str_str, isT_tup_tuple, isT_tup_int, isT_tup_list, isT_lst_list, isT_lst_tuple, isT_dk_dict, List.map_cons, List.map_nil, List.length_cons, List.length_nil, List.cons_append, List.nil_append, List.replicate_succ, List.replicate_zero, Nat.reduceAdd, Nat.reduceSub, Nat.zero_add, Nat.sub_self, Bool.and_self, Bool.and_true, Bool.true_and, true_and, and_true, Bool.not_true, Bool.not_false, forall_const, true_implies, false_implies, Bool.true_eq_false, Bool.false_eq_true, reduceCtorEq, implies_true, okD_int, okD_bl, okD_str, okD_non, eqD_int, eqD_str, eqD_bl, pureEV, pureD, pureDs, Bool.not_eq_eq_eq_not, Bool.not_true, Bool.not_false, beq_eq_false_iff_ne, beq_iff_eq, ne_eq, decide_eq_true_eq, decide_eq_false_iff_not, Bool.not_eq_true, Bool.not_eq_false, not_true_eq_false, not_false_eq_true, atI_0, atI_1, atI_2, and_self, Nat.beq_eq, Nat.ble_eq, Nat.reduceLeDiff, eq_self, Nat.reduceEqDiff, sIxx, dGet2, dFmt, dJoin, keyD, sIn, flatD, cp10, Int.reduceLE, Int.reduceToNat, tenpow_ne, atI_map, List.length_map, Option.map_some, Int.zero_add, sDput', Int.reduceEq, Int.reduceNeg, Int.reduceLT, sRaise, dCallX, sTry, hanZ, clrS, frzE, Option.map_none, List.map_cons, dIsE, sFrz, frzS, iZ, seqD_lst, seqD_tup, seqD_scr, sSum, intsD_map, sPop, sAppPop, sExt, sAug, sIsB, sIsNotB, dTupN, dAddN, dSlT, dPick, sLP, popD_app, pureEVs, sAllL, isT_str_bool, isT_str_tuple, isT_non_tuple, isT_bl_tuple, isT_int_tuple, isT_tup_bool, isT_lst_int, isT_lst_bool, isT_dk_int, isT_dk_bool, isT_dk_tuple, isT_non_bool, isT_str_int, dIsET, sEqS, iCn, sLenC, cst_strs, dItems, dIndex, dLenSet, iB, sInL, sInT, sIxT, dGet2T, sDputT, iZ, seqD, sPopX, dAddN, dTupN, dSlT, sDictC, sLenD, iRD, sClr, sLaug, sRetT, pureRs, isT_lst_tuple])
seal SDs SD ED EA ET EW
section
variable {P : Program} {w : World} {K : PySem.W.Frag} {mg : Str → Option Value} {base : Heap} {f : Addr} {fd : FuncData}

def tWayL : FT := g2 fun c a φ => ∃ (cl : List D) (k : Nat), c = .lst cl ∧ Calls cl ∧ a = .int (k : Nat) ∧ k < cl.length ∧ φ (dv (wyD (wayF cl k)))
def tRow : FT := g1 fun d φ => ∃ (w : List Str) (x : Int), d = rowD w x ∧ w.Nodup ∧ w.length ≤ 1000 ∧ φ (dv (.bl true))
def atD : Option Nat → D
  | some k => .int (k : Nat)
  | none => .non
def onW (cl : List D) (k0 : Nat) (ch : List Str) : Option Nat → Prop
  | some k => k < cl.length ∧ ch ++ chainF cl k = chainF cl k0
  | none => ch = chainF cl k0
def muW (ρ : DE) : Nat := match slot ρ 1 with
  | some ⟨_, .int k⟩ => k.toNat + 1
  | _ => 0
def muP (ρ : DE) : Nat := match slot ρ 3 with
  | some ⟨_, .lst ds⟩ => ds.length
  | _ => 0
theorem sWh_at {tc : TDb} {tb : TDS} {ρ : DE} {Z : DZ} (P : DE → Prop) (μ : DE → Nat) (h0 : P ρ) (h : ∀ ρ, P ρ → tc ρ fun c => (c = true → tb ρ { Z with nx := fun ρ' => P ρ' ∧ μ ρ' < μ ρ, ct := fun ρ' => P ρ' ∧ μ ρ' < μ ρ, bk := Z.nx }) ∧ (c = false → Z.nx ρ)) : sWh tc tb ρ Z := ⟨P, μ, h0, h⟩
theorem flat_strs2 (a : List Str) : (a.map D.str).all flatD = true := by
  rw [List.all_map, List.all_eq_true]
  intro x _
  rfl
theorem in_strs2 (z : Str) (a : List Str) : inD (.str z) (a.map D.str) = decide (z ∈ a) := by
  unfold inD
  rw [List.any_map]
  induction a with
  | nil => rfl
  | cons x a ih =>
    rw [List.any_cons, ih]
    show (eqD (.str x) (.str z) || _) = _
    simp only [eqD]
    by_cases e : x = z
    · subst e
      simp
    · simp [e, Ne.symm e]
theorem fold_len : ∀ (l a : List Str), (l.foldl wayOn a).length ≤ a.length + l.length
  | [], a => Nat.le_refl _
  | z :: l, a => by
    rw [List.foldl_cons, List.length_cons]
    have h1 := fold_len l (wayOn a z)
    have h2 := wayOn_len a z
    omega
theorem pure_strs2 (a : List Str) : pureDs (a.map D.str) := pureDs_iff.mpr fun d hd => by
  obtain ⟨n, _, rfl⟩ := List.mem_map.mp hd
  trivial
theorem call_at2 {cl : List D} {i : Nat} {nm : Str} {ar up dn va : D} (e : cl[i]? = some (.tup [.str nm, ar, up, dn, va])) : nmOf cl i = nm ∧ ∀ u : Nat, up = .int u → upOf cl i = u := by
  unfold nmOf upOf
  rw [List.getD_eq_getElem?_getD, e]
  refine ⟨rfl, fun u hu => ?_⟩
  subst hu
  simp [upN]
theorem fd_law_way (T : Tops mg) (F : Fun K "_law_way" "_law_way" (top 24) f fd) (m : mg "_law_way" = some (.ref f)) : FD P w K mg base 1 "_law_way" ["_law_calls", "_law_at"] tWayL := by
  have S : FnScope ["_law_calls", "_law_at", "_law_chain", "_law_way_here", "_law_name_here"] ["_law_calls", "_law_at"] (defScope (top 24)) := ⟨rfl, rfl, rfl, by decide +kernel, rfl, by decide +kernel, by decide +kernel⟩
  refine fd_of F S (F.binds fun _ _ _ _ _ _ us hl => match us, hl with | [_, _], _ => rfl) m fun cdv A outer s H E ds φ hr hl hT => ?_
  have hu := hr.units
  refine ⟨_, (ss_cons (sd_cut (sd_set 2 S.nd (ed_lst ea_nil)))
      (ss_cons (sd_cut (sd_while (et_isnot (ed_name 1) ed_non) (ss_cons (sd_append 2 (ed_ixx hu (ed_ixx hu (ed_name 0) (ed_name 1)) ed_int))
        (ss_one (sd_set 1 S.nd (ed_ixx hu (ed_ixx hu (ed_name 0) (ed_name 1)) ed_int))))))
      (ss_cons (sd_cut (sd_set 3 S.nd (ed_lst ea_nil)))
      (ss_cons (sd_cut (sd_frz 2 (sd_for (ei_reversed T.reversed (ea_cons (ed_name 2) ea_nil)) (pg_name (i := 4) S.nd rfl (by first | exact Or.inl rfl | exact Or.inr rfl)) (gl_name 4) (ss_cons (sd_cut (sd_while (et_in hu (ed_name 4) (ed_name 3)) (ss_one (sd_popX 3))))
        (ss_one (sd_append 3 (ed_name 4)))))))
      (ss_one (sd_ret (ed_tupleC T.tuple (ea_cons (ed_name 3) ea_nil)))))))), ?_⟩
  obtain ⟨c0, a0, rfl, cl, k0, rfl, hc, rfl, hk, h⟩ := f2_of hT
  have hc1 := hc.1
  refine cut_seq (fun ρ => ρ = [some (dv (.lst cl)), some (dv (.int k0)), some (dO (.lst [])), none, none]) ?_ ?_
  · walk_at "dl"
  rintro _ rfl
  refine cut_seq (fun ρ => ρ = [some (dv (.lst cl)), some (dv .non), some (dO (.lst ((chainF cl k0).map D.str))), none, none]) ?_ ?_
  · refine sWh_at (fun ρ => ∃ ch st, onW cl k0 ch st ∧ ρ = [some (dv (.lst cl)), some (dv (atD st)), some (dO (.lst (ch.map D.str))), none, none]) muW ⟨[], some k0, ⟨hk, rfl⟩, rfl⟩ ?_
    rintro _ ⟨ch, st, hw, rfl⟩
    cases st with
    | none =>
      have e : ch = chainF cl k0 := hw
      subst e
      simp only [atD]
      walk_at "dl"
    | some k =>
      obtain ⟨hk1, ech⟩ := hw
      obtain ⟨dc, edc⟩ : ∃ dc, cl[k]? = some dc := ⟨cl[k], by simp [hk1]⟩
      obtain ⟨nm, ar, up, dn, va, rfl, hp, ho, u0, u1⟩ := hc.2 _ dc edc
      obtain ⟨en, eu⟩ := call_at2 edc
      have e1 : atI cl (k : Int) = some (.tup [.str nm, ar, up, dn, va]) := atI_of (by omega) (by rw [Int.toNat_natCast]; exact edc)
      have hcl := chain_len cl k0
      have hl : (ch.map D.str).length ≤ 100000 := by
        have := congrArg List.length ech
        rw [List.length_append] at this
        rw [List.length_map]
        omega
      simp only [atD]
      walk_at "dl"
      simp only [e1]
      walk_at "dl"
      refine ⟨by simpa using hl, ?_⟩
      rw [show ch.map D.str ++ [D.str nm] = (ch ++ [nm]).map D.str by rw [List.map_append]; rfl]
      by_cases hz : k = 0
      · subst hz
        cases u0 rfl
        rw [chain_top, en] at ech
        exact ⟨⟨ch ++ [nm], none, ech, rfl⟩, Nat.succ_pos _⟩
      · obtain ⟨u, rfl, hu1⟩ := u1 (by omega)
        rw [chain_step (eu u rfl) hu1, en] at ech
        refine ⟨⟨ch ++ [nm], some u, ⟨by omega, by rw [List.append_assoc]; exact ech⟩, rfl⟩, ?_⟩
        show (u : Int).toNat + 1 < (k : Int).toNat + 1
        omega
  rintro _ rfl
  refine cut_seq (fun ρ => ρ = [some (dv (.lst cl)), some (dv .non), some (dO (.lst ((chainF cl k0).map D.str))), some (dO (.lst [])), none]) ?_ ?_
  · walk_at "dl"
  rintro _ rfl
  refine cut_seq (fun ρ => ∃ a4, ρ = [some (dv (.lst cl)), some (dv .non), some (dv (.lst ((chainF cl k0).map D.str))), some (dO (.lst ((wayF cl k0).map D.str))), a4]) ?_ ?_
  · unfold sFrz
    refine sFor_at ((chainF cl k0).reverse.map D.str) (fun ψ hψ => ?_) (fun i ρ => ∃ a4, ρ = [some (dv (.lst cl)), some (dv .non), some (dv (.lst ((chainF cl k0).map D.str))), some (dO (.lst ((((chainF cl k0).reverse.take i).foldl wayOn []).map D.str))), a4]) ⟨none, rfl⟩ ?_ ?_
    · walk_at "dl"
      rw [← List.map_reverse]
      exact hψ
    · rintro i d ρ hd ⟨a4, rfl⟩
      rw [List.getElem?_map] at hd
      obtain ⟨z, ez, rfl⟩ := Option.map_eq_some_iff.mp hd
      rw [foldl_take ez]
      have hal : (((chainF cl k0).reverse.take i).foldl wayOn []).length ≤ 200 := by
        have h1 := fold_len ((chainF cl k0).reverse.take i) []
        have h2 := chain_len cl k0
        rw [List.length_take, List.length_reverse, List.length_nil] at h1
        omega
      generalize ((chainF cl k0).reverse.take i).foldl wayOn [] = a at *
      refine cut_seq (fun ρ => ρ = [some (dv (.lst cl)), some (dv .non), some (dv (.lst ((chainF cl k0).map D.str))), some (dO (.lst ((a.take (a.idxOf z)).map D.str))), some (dv (.str z))]) ?_ ?_
      · refine sWh_at (fun ρ => ∃ n, a.idxOf z ≤ n ∧ n ≤ a.length ∧ ρ = [some (dv (.lst cl)), some (dv .non), some (dv (.lst ((chainF cl k0).map D.str))), some (dO (.lst ((a.take n).map D.str))), some (dv (.str z))]) muP ⟨a.length, List.idxOf_le_length, Nat.le_refl _, by rw [List.take_length]; rfl⟩ ?_
        rintro _ ⟨n, h1, h2, rfl⟩
        have hm := idx_take (z := z) h2
        have f1 := flat_strs2 (a.take n)
        have f2 := in_strs2 z (a.take n)
        walk_at "dl"
        rw [f2]
        simp only [if_false, decide_eq_true_eq, decide_eq_false_iff_not, hm]
        refine ⟨f1, fun hz => ?_, fun hz => ?_⟩
        · obtain ⟨q, rfl⟩ : ∃ q, n = q + 1 := ⟨n - 1, by omega⟩
          obtain ⟨y, ey⟩ : ∃ y, a[q]? = some y := ⟨a[q]'(by omega), by simp⟩
          have et : (a.take (q + 1)).map D.str = (a.take q).map D.str ++ [D.str y] := by rw [List.take_succ, ey, List.map_append]; rfl
          rw [et, popD_app]
          refine ⟨⟨q, by omega, by omega, rfl⟩, ?_⟩
          show ((a.take q).map D.str).length < ((a.take q).map D.str ++ [D.str y]).length
          rw [List.length_append]
          exact Nat.lt_succ_self _
        · have : n = a.idxOf z := by omega
          rw [this]
      rintro _ rfl
      refine sApp_at (ds := (a.take (a.idxOf z)).map D.str) rfl ?_
      walk_at "dl"
      refine ⟨?_, ?_⟩
      · have := List.idxOf_le_length (a := z) (l := a)
        simp
        omega
      · exact ⟨_, by unfold wayOn; rw [List.map_append]; rfl⟩
    · rintro ρ ⟨a4, rfl⟩
      rw [List.length_map, List.take_length, way_chain]
      exact ⟨_, rfl⟩
  rintro _ ⟨a4, rfl⟩
  walk_at "dl"
  exact ⟨pure_strs2 _, h⟩
theorem fd_law_row (T : Tops mg) (F__law_whole : FD P w K mg base 1 "_law_whole" ["_law_found"] tWhole) (F : Fun K "_law_row" "_law_row" (top 25) f fd) (m : mg "_law_row" = some (.ref f)) : FD P w K mg base 2 "_law_row" ["_law_found"] tRow := by
  have S : FnScope ["_law_found", "_law_name_here"] ["_law_found"] (defScope (top 25)) := ⟨rfl, rfl, rfl, by decide +kernel, rfl, by decide +kernel, by decide +kernel⟩
  refine fd_of F S (F.binds fun _ _ _ _ _ _ us hl => match us, hl with | [_], _ => rfl) m fun cdv A outer s H E ds φ hr hl hT => ?_
  have hu := hr.units
  refine ⟨_, (ss_cons (sd_cut (sd_if (EW.et (ew_or (et_not (et_val (ed_isinst T.isinstance (ea_cons (ed_name 0) (ea_cons (ed_ty T.tuple boot_tuple') ea_nil))))) (ew_or (et_ne hu (ed_len T.len (ea_cons (ed_name 0) ea_nil)) ed_int) (ew_or1 (et_not (et_val (ed_isinst T.isinstance (ea_cons (ed_ixx hu (ed_name 0) ed_int) (ea_cons (ed_ty T.tuple boot_tuple') ea_nil))))))))) (ss_one (sd_ret ed_bl)) ss_nil))
      (ss_cons (sd_cut (sd_for (ei_seq (ed_ixx hu (ed_name 0) ed_int)) (pg_name (i := 1) S.nd rfl (by first | exact Or.inl rfl | exact Or.inr rfl)) (gl_name 1) (ss_one (sd_if (et_not (et_val (ed_isinst T.isinstance (ea_cons (ed_name 1) (ea_cons (ed_ty T.str boot_str') ea_nil))))) (ss_one (sd_ret ed_bl)) ss_nil))))
      (ss_one (sd_ret (ed_and (ed_call F__law_whole (hr.mono (by decide)) (ea_cons (ed_ixx hu (ed_name 0) ed_int) ea_nil)) (ed_one (ed_eq hu (ed_lenSet T.len T.set (ed_ixx hu (ed_name 0) ed_int)) (ed_len T.len (ea_cons (ed_ixx hu (ed_name 0) ed_int) ea_nil))))))))), ?_⟩
  obtain ⟨d0, rfl, w0, x, rfl, hn, hl, h⟩ := f1_of hT
  have em : LQ.many w0 = w0.length := (LQ.many_eq w0).mpr hn
  unfold rowD wyD
  refine cut_seq (fun ρ => ρ = [some (dv (.tup [.tup (w0.map D.str), .int x])), none]) ?_ ?_
  · walk_at "dl"
    exact fun z => absurd rfl z
  rintro _ rfl
  refine cut_seq (fun ρ => ∃ a1, ρ = [some (dv (.tup [.tup (w0.map D.str), .int x])), a1]) ?_ ?_
  · refine sFor_at (w0.map D.str) (fun ψ hψ => ?_) (fun i ρ => ∃ a1, ρ = [some (dv (.tup [.tup (w0.map D.str), .int x])), a1]) ⟨none, rfl⟩ ?_ ?_
    · walk_at "dl"
      exact hψ
    · rintro i d ρ hd ⟨a1, rfl⟩
      rw [List.getElem?_map] at hd
      obtain ⟨z, ez, rfl⟩ := Option.map_eq_some_iff.mp hd
      walk_at "dl"
      exact ⟨_, rfl⟩
    · rintro ρ h
      exact h
  rintro _ ⟨a1, rfl⟩
  walk_at "dl"
  simp only [tWhole, w1]
  refine ⟨fun _ => ⟨w0, rfl, hl, ?_⟩, fun z => by cases z⟩
  rw [em, beq_self_eq_true]
  exact h
end
end K23

set_option Elab.async false
set_option linter.all false
set_option maxRecDepth 100000
set_option maxHeartbeats 8000000
set_option exponentiation.threshold 5000
namespace K23
open PySem PySem.Spec L2 L3 DL
open PyProof.Rows hiding St
open PySem.Builtin.Int (intBits)
local macro_rules | `(tactic| walk_at "dl") => `(tactic| simp only [sNil, sSeq, sRet, sIf, sSet, sExpr, sUn, sPar, d2, d1, dName, dC, slot, setS, EV.sto, EV.ret, aNil, aCons, dTup, dLst, dCall, dCB, solidB, vAnd, vOr, vNot, vIf, bAnd, bOr, bNot, bYes, tTru, tBo, truD, sSub, sFd, sMod, sPow, sLt, sLe, sGt, sGe, sI, sI0, sAdd, sMul, sNeg, sEq, sNe, sIs, sIsNot, isNon, sIx, sSl, dSl, oNone, oSome, sLen, sAbs, sIsI, sStr, sTupC, sListC, sIntC, sApp, iSeq, iR1, iR2, itemsD, gN, gT2, startD, isT_non_int, isT_non_bool, isT_bl_int, isT_bl_bool, isT_int_int, isT_int_bool, isT_int_str, isT_str_int, isT_str_str, isT_tup_tuple, isT_tup_int, isT_tup_list, isT_lst_list, isT_lst_tuple, isT_dk_dict, List.map_cons, List.map_nil, List.length_cons, List.length_nil, List.cons_append, List.nil_append, List.replicate_succ, List.replicate_zero, Nat.reduceAdd, Nat.reduceSub, Nat.zero_add, Nat.sub_self, Bool.and_self, Bool.and_true, Bool.true_and, true_and, and_true, Bool.not_true, Bool.not_false, forall_const, true_implies, false_implies, Bool.true_eq_false, Bool.false_eq_true, reduceCtorEq, implies_true, okD_int, okD_bl, okD_str, okD_non, eqD_int, eqD_str, eqD_bl, pureEV, pureD, pureDs, Bool.not_eq_eq_eq_not, Bool.not_true, Bool.not_false, beq_eq_false_iff_ne, beq_iff_eq, ne_eq, decide_eq_true_eq, decide_eq_false_iff_not, Bool.not_eq_true, Bool.not_eq_false, not_true_eq_false, not_false_eq_true, atI_0, atI_1, atI_2, and_self, Nat.beq_eq, Nat.ble_eq, Nat.reduceLeDiff, eq_self, Nat.reduceEqDiff, sIxx, dGet2, dFmt, dJoin, keyD, sIn, flatD, cp10, Int.reduceLE, Int.reduceToNat, tenpow_ne, atI_map, List.length_map, Option.map_some, Int.zero_add, sDput', Int.reduceEq, Int.reduceNeg, Int.reduceLT, sRaise, dCallX, sTry, hanZ, clrS, frzE, Option.map_none, List.map_cons, dIsE, sFrz, frzS, iZ, seqD_lst, seqD_tup, seqD_scr, sSum, intsD_map, sPop, sAppPop, sExt, sAug, sIsB, sIsNotB, dTupN, dAddN, dSlT, dPick, sLP, popD_app, pureEVs, sAllL, isT_str_bool, isT_str_tuple, isT_non_tuple, isT_bl_tuple, isT_int_tuple, isT_tup_bool, isT_lst_int, isT_lst_bool, isT_dk_int, isT_dk_bool, isT_dk_tuple, isT_non_bool, isT_str_int, dIsET, sEqS, iCn, sLenC, cst_strs, dItems, dIndex, dLenSet, iB, sInL, sInT, sIxT, dGet2T, sDputT, iZ, seqD, sPopX, dAddN, dTupN, dSlT, sDictC, sLenD, iRD, sClr, sLaug, sRetT, pureRs, isT_lst_tuple])
seal SDs SD ED EA ET EW
section
variable {P : Program} {w : World} {K : PySem.W.Frag} {mg : Str → Option Value} {base : Heap} {f : Addr} {fd : FuncData}

theorem eqDs_str : ∀ a b : List Str, eqDs (a.map D.str) (b.map D.str) = decide (a = b)
  | [], [] => rfl
  | [], _ :: _ => rfl
  | _ :: _, [] => rfl
  | x :: a, y :: b => by
    rw [List.map_cons, List.map_cons, eqDs, eqDs_str a b]
    simp only [eqD]
    by_cases e : x = y <;> simp [e]
theorem eqD_wy (a b : List Str) : eqD (wyD a) (wyD b) = decide (a = b) := eqDs_str a b
theorem any_wy (es : List (List Str)) (w : List Str) : (es.map wyD).any (fun d => eqD d (wyD w)) = decide (w ∈ es) := by
  rw [List.any_map]
  induction es with
  | nil => rfl
  | cons x es ih =>
    rw [List.any_cons, ih]
    show (eqD (wyD x) (wyD w) || _) = _
    rw [eqD_wy]
    by_cases e : x = w
    · subst e; simp
    · simp [e, Ne.symm e]
theorem ok_wy (a : List Str) (n : Nat) : okD (n + 1) (wyD a) := by
  show ∀ x ∈ a.map D.str, okD n x
  intro x hx
  obtain ⟨p, _, rfl⟩ := List.mem_map.mp hx
  cases n <;> simp [okD]
theorem ok_row (a : List Str) (x : Int) (n : Nat) : okD (n + 2) (rowD a x) := by
  show ∀ y ∈ [wyD a, .int x], okD (n + 1) y
  intro y hy
  simp only [List.mem_cons, List.not_mem_nil, or_false] at hy
  rcases hy with rfl | rfl
  · exact ok_wy a n
  · simp [okD]
theorem ok_rows (es : List (List Str)) (f : List Str → Int) (n : Nat) : okD (n + 3) (.lst (es.map fun w => rowD w (f w))) := by
  show ∀ y ∈ es.map (fun w => rowD w (f w)), okD (n + 2) y
  intro y hy
  obtain ⟨p, _, rfl⟩ := List.mem_map.mp hy
  exact ok_row p _ n
theorem sts_ok (ss : List (Nat × Str)) (n : Nat) : okD (n + 2) (.lst (stsD ss)) := by
  show ∀ x ∈ stsD ss, okD (n + 1) x
  intro x hx
  obtain ⟨p, _, rfl⟩ := List.mem_map.mp hx
  simp [stD, okD, okD_int, okD_str]
theorem ways_all (cl : List D) (n : Nat) : (rngD 0 n).filterMap (fun d => match d with | .int k => some (wyD (wayF cl k.toNat)) | _ => none) = waysD cl n := by
  unfold rngD waysD
  rw [List.filterMap_map, show ((fun d => match d with | .int k => some (wyD (wayF cl k.toNat)) | _ => none) ∘ fun (i : Nat) => D.int (0 + (i : Int))) = fun (i : Nat) => some (wyD (wayF cl i)) from funext fun i => by simp]
  exact congrFun (List.filterMap_eq_map (f := fun i : Nat => wyD (wayF cl i))) _
def wsOf (cl : List D) : List (List Str) := (List.range cl.length).map (wayF cl)
def esOf (cl : List D) : List (List Str) := keysOf (wsOf cl)
theorem out_at (cl : List D) (pr : Str → Int) (ss : List (Nat × Str)) {i : Nat} {w : List Str} (e : (esOf cl)[i]? = some w) : atI (outW cl pr ss) (i : Int) = some (rowD w (stepSum (wayF cl) pr w ss)) := by
  refine atI_of (by omega) ?_
  unfold outW
  rw [Int.toNat_natCast, List.getElem?_map]
  show ((esOf cl)[i]?).map _ = _
  rw [e]
  rfl
theorem due_at0 (es : List (List Str)) {i : Nat} {w : List Str} (e : es[i]? = some w) : atI es (i : Int) = some w := atI_of (by omega) (by rw [Int.toNat_natCast]; exact e)
theorem es_nodup {cl : List D} {w : List Str} (h : w ∈ esOf cl) : w.Nodup ∧ w.length ≤ cl.length := by
  have := (keys_mem _ _).mp h
  obtain ⟨k, hk, rfl⟩ := List.mem_map.mp this
  have hk := List.mem_range.mp hk
  have := way_len cl k
  exact ⟨way_nodup cl k, by omega⟩
theorem es_len (cl : List D) : (esOf cl).length ≤ cl.length := by
  have := keys_len (wsOf cl)
  unfold wsOf at this
  rw [List.length_map, List.length_range] at this
  exact this
theorem out_len (cl : List D) (pr : Str → Int) (ss : List (Nat × Str)) : (outW cl pr ss).length = (esOf cl).length := by unfold outW; rw [List.length_map]; rfl
theorem out_prices (cl : List D) (pr : Str → Int) (ss : List (Nat × Str)) : (outW cl pr ss).filterMap (fun d => match d with | .tup [_, .int x] => some (D.int x) | _ => none) = ((esOf cl).map fun w => stepSum (wayF cl) pr w ss).map D.int := by
  unfold outW
  rw [List.filterMap_map, List.map_map]
  exact congrFun (List.filterMap_eq_map (f := fun w : List Str => D.int (stepSum (wayF cl) pr w ss))) _
theorem out_total {cl : List D} {pr : Str → Int} {ss : List (Nat × Str)} (h : ∀ p ∈ ss, p.1 < cl.length) : ((esOf cl).map fun w => stepSum (wayF cl) pr w ss).sum = total pr ss := by
  have e := sum_all (rowsW (wayF cl) (ownF pr cl.length ss) cl.length)
  rw [rows_fst, rows_snd (wayF cl) (ownF_len pr cl.length ss), own_sum h] at e
  rw [← e]
  congr 1
  exact List.map_congr_left fun w _ => (rows_steps (wayF cl) pr cl.length w ss h).symm
theorem step_take (W : Nat → List Str) (pr : Str → Int) (w : List Str) {ss : List (Nat × Str)} {i : Nat} {p : Nat × Str} (e : ss[i]? = some p) : stepSum W pr w (ss.take (i + 1)) = stepSum W pr w (ss.take i) + if W p.1 = w then pr p.2 else 0 := by
  rw [List.take_succ, e]
  exact step_snoc W pr w p _
theorem ok_law (T : Tops mg) (F_price_of : FD P w K mg base 4 "price_of" ["steps", "table"] tPriceOf) (F_by_way : FD P w K mg base 5 "by_way" ["calls", "steps", "table"] tByWay) (F__law_table : FD P w K mg base 2 "_law_table" ["_law_script"] tTable) (F__law_run : FD P w K mg base 3 "_law_run" ["_law_script"] tRun) (F__law_way : FD P w K mg base 1 "_law_way" ["_law_calls", "_law_at"] tWayL) (F__law_row : FD P w K mg base 2 "_law_row" ["_law_found"] tRow) (F : Fun K "law" "law" (top 26) f fd) : FnOk P w K mg base CX0 7 f fd ["_law_script"] (spD K 1 lawT) := by
  have S : FnScope ["_law_script", "_law_table_here", "_law_calls", "_law_steps", "_law_handed", "_law_found", "_law_ways", "_law_due", "_law_way_here", "_law_k", "_law_price", "_law_at", "_law_kind", "_law_kept"] ["_law_script"] (defScope (top 26)) := ⟨rfl, rfl, rfl, by decide +kernel, rfl, by decide +kernel, by decide +kernel⟩
  refine fn_okD F S fun cdv A outer s H E ds φ hr hl hT => ?_
  have hu := hr.units
  refine ⟨_, (ss_cons (sd_cut (sd_set 1 S.nd (ed_call F__law_table (hr.mono (by decide)) (ea_cons (ed_name 0) ea_nil))))
      (ss_cons (sd_cut (sd_un (ed_call F__law_run (hr.mono (by decide)) (ea_cons (ed_name 0) ea_nil)) (pg_tupK (K0 := K) (n := 2) (by rfl) (by rfl) (pgs_cons (pg_name (i := 2) S.nd rfl (by first | exact Or.inl rfl | exact Or.inr rfl)) (pgs_cons (pg_name (i := 3) S.nd rfl (by first | exact Or.inl rfl | exact Or.inr rfl)) pgs_nil))) (gl_tup2 2 3)))
      (ss_cons (sd_cut (sd_set 4 S.nd (ed_lst (ea_cons (ed_listC T.list (ea_cons (ed_name 2) ea_nil)) (ea_cons (ed_listC T.list (ea_cons (ed_name 3) ea_nil)) (ea_cons (ed_dictC T.dict (ea_cons (ed_name 1) ea_nil)) ea_nil))))))
      (ss_cons (sd_cut (sd_set 5 S.nd (ed_call F_by_way (hr.mono (by decide)) (ea_cons (ed_ixx hu (ed_name 4) ed_int) (ea_cons (ed_ixx hu (ed_name 4) ed_int) (ea_cons (ed_ixx hu (ed_name 4) ed_int) ea_nil))))))
      (ss_cons (sd_cut (sd_setComp (T := ["_law_k"]) (F := ["_law_calls"]) (js := [2]) 6 S.nd (ei_range1 T.range (ea_cons (ed_len T.len (ea_cons (ed_name 2) ea_nil)) ea_nil)) (show CompScope (defScope (top 26)) _ ["_law_k"] ["_law_calls"] from ⟨rfl, by decide +kernel, by decide +kernel, by decide +kernel, by decide +kernel, by decide +kernel⟩) (.cons rfl .nil) (by decide) (fun cl C fp s H => (pg_name (i := 0) (show ((["_law_k"] : List Str) ++ (["_law_calls"] : List Str)).Nodup by decide +kernel) rfl (by first | exact Or.inl rfl | exact Or.inr rfl))) (gk_name (by decide)) (gl_name 0) (fun cl C fp s H => eif_nil) (fun cl C fp s H => (ed_call F__law_way (hr.mono (by decide)) (ea_cons (ed_name 1) (ea_cons (ed_name 0) ea_nil))))))
      (ss_cons (sd_cut (sd_set 7 S.nd (ed_lst ea_nil)))
      (ss_cons (sd_cut (sd_frz 6 (sd_for (ei_seq (ed_name 6)) (pg_name (i := 8) S.nd rfl (by first | exact Or.inl rfl | exact Or.inr rfl)) (gl_name 8) (ss_one (sd_if (et_notinL hu (ed_name 8) (ed_name 7)) (ss_one (sd_append 7 (ed_name 8))) ss_nil)))))
      (ss_cons (sd_cut (sd_frz 1 (sd_if (EW.et (ew_or (et_not (et_val (ed_isinst T.isinstance (ea_cons (ed_name 5) (ea_cons (ed_ty T.list boot_list') ea_nil))))) (ew_or (et_neS hu (ed_name 4) (ed_lst (ea_cons (ed_name 2) (ea_cons (ed_name 3) (ea_cons (ed_name 1) ea_nil))))) (ew_or1 (et_ne hu (ed_len T.len (ea_cons (ed_name 5) ea_nil)) (ed_len T.len (ea_cons (ed_name 7) ea_nil))))))) (ss_one (sd_ret ed_bl)) ss_nil)))
      (ss_cons (sd_cut (sd_for (ei_range1 T.range (ea_cons (ed_len T.len (ea_cons (ed_name 7) ea_nil)) ea_nil)) (pg_name (i := 9) S.nd rfl (by first | exact Or.inl rfl | exact Or.inr rfl)) (gl_name 9) (ss_cons (sd_cut (sd_set 10 S.nd ed_int))
        (ss_cons (sd_cut (sd_for (ei_seq (ed_name 3)) (pg_tupK (K0 := K) (n := 2) (by rfl) (by rfl) (pgs_cons (pg_name (i := 11) S.nd rfl (by first | exact Or.inl rfl | exact Or.inr rfl)) (pgs_cons (pg_name (i := 12) S.nd rfl (by first | exact Or.inl rfl | exact Or.inr rfl)) pgs_nil))) (gl_tup2 11 12) (ss_one (sd_if (et_eq hu (ed_ixx hu (ed_name 6) (ed_name 11)) (ed_ixx hu (ed_name 7) (ed_name 9))) (ss_one (sd_set 10 S.nd (ed_add (ed_name 10) (ed_ixx hu (ed_name 1) (ed_name 12))))) ss_nil))))
        (ss_one (sd_if (EW.et (ew_or (et_not (et_val (ed_call F__law_row (hr.mono (by decide)) (ea_cons (ed_ixx hu (ed_name 5) (ed_name 9)) ea_nil)))) (ew_or1 (et_ne hu (ed_ixx hu (ed_name 5) (ed_name 9)) (ed_tup (ea_cons (ed_ixx hu (ed_name 7) (ed_name 9)) (ea_cons (ed_name 10) ea_nil))))))) (ss_one (sd_ret ed_bl)) ss_nil))))))
      (ss_cons (sd_cut (sd_if (et_frz 5 (et_ne hu (ed_sumC T.sum (ea_cons (ed_comp (T := ["_law_way_here", "_law_price"]) (F := []) (js := []) (ei_seq (ed_name 5)) (show CompScope (defScope (top 26)) _ ["_law_way_here", "_law_price"] [] from ⟨rfl, by decide +kernel, by decide +kernel, by decide +kernel, by decide +kernel, by decide +kernel⟩) .nil (by decide) (fun cl C fp s H => (pg_tupK (K0 := K) (n := 2) (by rfl) (by rfl) (pgs_cons (pg_name (i := 0) (show ((["_law_way_here", "_law_price"] : List Str) ++ ([] : List Str)).Nodup by decide +kernel) rfl (by first | exact Or.inl rfl | exact Or.inr rfl)) (pgs_cons (pg_name (i := 1) (show ((["_law_way_here", "_law_price"] : List Str) ++ ([] : List Str)).Nodup by decide +kernel) rfl (by first | exact Or.inl rfl | exact Or.inr rfl)) pgs_nil)))) (gk_tup (gk_cons gm_name (gm_cons gm_name gm_nil) (gk_name (by decide)) (gk_cons gm_name gm_nil (gk_name (by decide)) gk_nil))) (gl_tup2 0 1) (fun cl C fp s H => eif_nil) (fun cl C fp s H => (ed_name 1))) ea_nil)) (ed_call F_price_of (hr.mono (by decide)) (ea_cons (ed_name 3) (ea_cons (ed_name 1) ea_nil))))) (ss_one (sd_ret ed_bl)) ss_nil))
      (ss_cons (sd_cut (sd_set 13 S.nd (ed_listC T.list (ea_cons (ed_name 5) ea_nil))))
      (ss_cons (sd_cut (sd_clear 5))
      (ss_one (sd_ret (ed_eq hu (ed_call F_by_way (hr.mono (by decide)) (ea_cons (ed_name 2) (ea_cons (ed_name 3) (ea_cons (ed_name 1) ea_nil)))) (ed_name 13)))))))))))))))), ?_⟩
  obtain ⟨ns, rfl, hn, h⟩ := hT
  refine cut_seq (fun ρ => ∃ d pr, Tab d pr ∧ ρ = [some (dv (.scr ns)), some (dO d), none, none, none, none, none, none, none, none, none, none, none, none]) ?_ ?_
  · walk_at "dl"
    simp only [tTable, g1]
    exact ⟨ns, rfl, fun e pr he => ⟨trivial, e, pr, he, rfl⟩⟩
  rintro _ ⟨d, pr, hd, rfl⟩
  refine cut_seq (fun ρ => ∃ cl ss, Calls cl ∧ Sts ss cl.length ∧ ρ = [some (dv (.scr ns)), some (dO d), some (dv (.lst cl)), some (dv (.lst (stsD ss))), none, none, none, none, none, none, none, none, none, none]) ?_ ?_
  · walk_at "dl"
    simp only [tRun, g1]
    refine ⟨ns, rfl, hn, fun cl ss hc hs => ?_⟩
    walk_at "dl"
    exact ⟨cl, ss, hc, hs, rfl⟩
  rintro _ ⟨cl, ss, hC, hS, rfl⟩
  obtain ⟨ks, vs, ed, hk, hw⟩ := id hd
  refine cut_seq (fun ρ => ρ = [some (dv (.scr ns)), some (dO d), some (dv (.lst cl)), some (dv (.lst (stsD ss))), some (dO (.lst [.lst cl, .lst (stsD ss), d])), none, none, none, none, none, none, none, none, none]) ?_ ?_
  · subst ed
    walk_at "dl"
  rintro _ rfl
  have hc1 := hC.1
  have hel := es_len cl
  have hol := out_len cl pr ss
  refine cut_seq (fun ρ => ρ = [some (dv (.scr ns)), some (dO d), some (dv (.lst cl)), some (dv (.lst (stsD ss))), some (dO (.lst [.lst cl, .lst (stsD ss), d])), some (dO (.lst (outW cl pr ss))), none, none, none, none, none, none, none, none]) ?_ ?_
  · walk_at "dl"
    simp only [tByWay, g3]
    exact ⟨cl, ss, pr, rfl, hC, rfl, hS, hd, trivial, rfl⟩
  rintro _ rfl
  refine cut_seq (fun ρ => ρ = [some (dv (.scr ns)), some (dO d), some (dv (.lst cl)), some (dv (.lst (stsD ss))), some (dO (.lst [.lst cl, .lst (stsD ss), d])), some (dO (.lst (outW cl pr ss))), some (dO (.lst (waysD cl cl.length))), none, none, none, none, none, none, none]) ?_ ?_
  · walk_at "dl"
    refine dComp_at (rngD 0 cl.length) (fun ψ hψ => ?_) (fun d => match d with | .int k => some (wyD (wayF cl k.toNat)) | _ => none) (by rw [rng_len]; omega) ?_ ?_
    · walk_at "dl"
      refine ⟨by omega, by omega, ?_⟩
      rw [Int.toNat_natCast]
      exact hψ
    · intro e he
      obtain ⟨i, hi⟩ := List.getElem?_of_mem he
      obtain ⟨hi', rfl⟩ := rng_get hi
      simp only [ρ0, List.map_cons, List.map_nil, List.replicate, List.cons_append, List.nil_append]
      walk_at "dl"
      simp only [tWayL, g2]
      exact ⟨cl, i, rfl, hC, rfl, hi', trivial, by rw [Int.toNat_natCast]⟩
    · rw [ways_all]
      walk_at "dl"
  rintro _ rfl
  refine cut_seq (fun ρ => ρ = [some (dv (.scr ns)), some (dO d), some (dv (.lst cl)), some (dv (.lst (stsD ss))), some (dO (.lst [.lst cl, .lst (stsD ss), d])), some (dO (.lst (outW cl pr ss))), some (dO (.lst (waysD cl cl.length))), some (dO (.lst [])), none, none, none, none, none, none]) ?_ ?_
  · walk_at "dl"
  rintro _ rfl
  refine cut_seq (fun ρ => ∃ a8, ρ = [some (dv (.scr ns)), some (dO d), some (dv (.lst cl)), some (dv (.lst (stsD ss))), some (dO (.lst [.lst cl, .lst (stsD ss), d])), some (dO (.lst (outW cl pr ss))), some (dv (.lst (waysD cl cl.length))), some (dO (.lst ((esOf cl).map wyD))), a8, none, none, none, none, none]) ?_ ?_
  · unfold sFrz
    refine sFor_at (waysD cl cl.length) (fun ψ hψ => ?_) (fun i ρ => ∃ a8, ρ = [some (dv (.scr ns)), some (dO d), some (dv (.lst cl)), some (dv (.lst (stsD ss))), some (dO (.lst [.lst cl, .lst (stsD ss), d])), some (dO (.lst (outW cl pr ss))), some (dv (.lst (waysD cl cl.length))), some (dO (.lst ((keysOf ((wsOf cl).take i)).map wyD))), a8, none, none, none, none, none]) ⟨none, rfl⟩ ?_ ?_
    · walk_at "dl"
      exact hψ
    · rintro i e ρ he ⟨a8, rfl⟩
      unfold waysD at he
      rw [List.getElem?_map] at he
      obtain ⟨k, ek, rfl⟩ := Option.map_eq_some_iff.mp he
      have ew : (wsOf cl)[i]? = some (wayF cl k) := by unfold wsOf; rw [List.getElem?_map, ek]; rfl
      have e3 : keysOf ((wsOf cl).take (i + 1)) = putE (keysOf ((wsOf cl).take i)) (wayF cl k) := by rw [List.take_succ, ew]; exact keys_snoc _ _
      have l3 : (keysOf ((wsOf cl).take i)).length ≤ 100 := by
        have := keys_len ((wsOf cl).take i)
        have e : (wsOf cl).length = cl.length := by unfold wsOf; simp
        rw [List.length_take] at this
        omega
      rw [e3]
      generalize keysOf ((wsOf cl).take i) = es at *
      generalize wayF cl k = w1 at *
      have o1 : okD 40 (wyD w1) := ok_wy w1 39
      have o2 : ∀ d ∈ es.map wyD, okD 40 d := fun d hd => by obtain ⟨x, _, rfl⟩ := List.mem_map.mp hd; exact ok_wy x 39
      have e4 := any_wy es w1
      walk_at "dl"
      rw [e4]
      simp only [if_true]
      refine ⟨o1, o2, fun hz => ⟨by omega, some (dv (wyD w1)), ?_⟩, fun hz => ⟨some (dv (wyD w1)), ?_⟩⟩
      · have hn : w1 ∉ es := by simpa using hz
        unfold putE
        rw [if_neg hn, List.map_append]
        rfl
      · have hn : w1 ∈ es := by simpa using hz
        unfold putE
        rw [if_pos hn]
    · rintro ρ ⟨a8, rfl⟩
      rw [ways_len, show (wsOf cl).take cl.length = wsOf cl from List.take_of_length_le (by unfold wsOf; simp)]
      exact ⟨a8, rfl⟩
  rintro _ ⟨a8, rfl⟩
  refine cut_seq (fun ρ => ρ = [some (dv (.scr ns)), some (dv d), some (dv (.lst cl)), some (dv (.lst (stsD ss))), some (dO (.lst [.lst cl, .lst (stsD ss), d])), some (dO (.lst (outW cl pr ss))), some (dv (.lst (waysD cl cl.length))), some (dO (.lst ((esOf cl).map wyD))), a8, none, none, none, none, none]) ?_ ?_
  · have okl : okL (.lst [.lst cl, .lst (stsD ss), d]) := .inl ⟨_, rfl, fun e he => by
      simp only [List.mem_cons, List.not_mem_nil, or_false] at he
      rcases he with rfl | rfl | rfl
      · exact .inl (calls_ok hC 33)
      · exact .inl (sts_ok ss 37)
      · exact .inr ⟨ks, vs, ed⟩⟩
    walk_at "dl"
    exact ⟨okl, fun z => absurd (by rw [hol]) z⟩
  rintro _ rfl
  refine cut_seq (fun ρ => ∃ a9 a10 a11 a12, ρ = [some (dv (.scr ns)), some (dv d), some (dv (.lst cl)), some (dv (.lst (stsD ss))), some (dO (.lst [.lst cl, .lst (stsD ss), d])), some (dO (.lst (outW cl pr ss))), some (dv (.lst (waysD cl cl.length))), some (dO (.lst ((esOf cl).map wyD))), a8, a9, a10, a11, a12, none]) ?_ ?_
  · refine sFor_at (rngD 0 (esOf cl).length) (fun ψ hψ => ?_) (fun i ρ => ∃ a9 a10 a11 a12, ρ = [some (dv (.scr ns)), some (dv d), some (dv (.lst cl)), some (dv (.lst (stsD ss))), some (dO (.lst [.lst cl, .lst (stsD ss), d])), some (dO (.lst (outW cl pr ss))), some (dv (.lst (waysD cl cl.length))), some (dO (.lst ((esOf cl).map wyD))), a8, a9, a10, a11, a12, none]) ⟨none, none, none, none, rfl⟩ ?_ ?_
    · walk_at "dl"
      refine ⟨by omega, by omega, ?_⟩
      rw [Int.toNat_natCast]
      exact hψ
    · rintro i e ρ he ⟨a9, a10, a11, a12, rfl⟩
      obtain ⟨hi, rfl⟩ := rng_get he
      obtain ⟨w1, ew⟩ : ∃ w1, (esOf cl)[i]? = some w1 := ⟨(esOf cl)[i], by simp [hi]⟩
      have e0 : (0 : Int) + (i : Int) = (i : Int) := by omega
      have e1 := out_at cl pr ss ew
      have e2 := due_at0 (esOf cl) ew
      obtain ⟨nd, nl⟩ := es_nodup (List.mem_of_getElem? ew)
      refine cut_seq (fun ρ => ρ = [some (dv (.scr ns)), some (dv d), some (dv (.lst cl)), some (dv (.lst (stsD ss))), some (dO (.lst [.lst cl, .lst (stsD ss), d])), some (dO (.lst (outW cl pr ss))), some (dv (.lst (waysD cl cl.length))), some (dO (.lst ((esOf cl).map wyD))), a8, some (dv (.int (0 + (i : Int)))), some (dv (.int 0)), a11, a12, none]) ?_ ?_
      · walk_at "dl"
      rintro _ rfl
      refine cut_seq (fun ρ => ∃ a11 a12, ρ = [some (dv (.scr ns)), some (dv d), some (dv (.lst cl)), some (dv (.lst (stsD ss))), some (dO (.lst [.lst cl, .lst (stsD ss), d])), some (dO (.lst (outW cl pr ss))), some (dv (.lst (waysD cl cl.length))), some (dO (.lst ((esOf cl).map wyD))), a8, some (dv (.int (0 + (i : Int)))), some (dv (.int (stepSum (wayF cl) pr w1 ss))), a11, a12, none]) ?_ ?_
      · refine sFor_at (stsD ss) (fun ψ hψ => ?_) (fun j ρ => ∃ a11 a12, ρ = [some (dv (.scr ns)), some (dv d), some (dv (.lst cl)), some (dv (.lst (stsD ss))), some (dO (.lst [.lst cl, .lst (stsD ss), d])), some (dO (.lst (outW cl pr ss))), some (dv (.lst (waysD cl cl.length))), some (dO (.lst ((esOf cl).map wyD))), a8, some (dv (.int (0 + (i : Int)))), some (dv (.int (stepSum (wayF cl) pr w1 (ss.take j)))), a11, a12, none]) ⟨_, _, rfl⟩ ?_ ?_
        · walk_at "dl"
          exact hψ
        · rintro j e ρ he ⟨a11, a12, rfl⟩
          unfold stsD at he
          rw [List.getElem?_map] at he
          obtain ⟨q, eq, rfl⟩ := Option.map_eq_some_iff.mp he
          have hq := hS.2 q (List.mem_of_getElem? eq)
          have q1 := (hw q.2 (kinds_words hq.2)).1
          have e5 := ways_at (cl := cl) hq.1
          rw [step_take (wayF cl) pr w1 eq]
          have o1 : okD 40 (wyD (wayF cl q.1)) := ok_wy _ 39
          have o2 : okD 40 (wyD w1) := ok_wy _ 39
          simp only [stD, ed]
          walk_at "dl"
          simp only [e0, e2, e5, q1, Option.map_some]
          refine ⟨o1, o2, fun z => ?_, fun z => ?_⟩
          · rw [eqD_wy] at z
            rw [if_pos (of_decide_eq_true z)]
            exact ⟨_, _, rfl⟩
          · rw [eqD_wy] at z
            rw [if_neg (of_decide_eq_false z), Int.add_zero]
            exact ⟨_, _, rfl⟩
        · rintro ρ ⟨a11, a12, rfl⟩
          have e3 : (stsD ss).length = ss.length := by unfold stsD; simp
          rw [e3, List.take_length]
          exact ⟨_, _, rfl⟩
      rintro _ ⟨a11, a12, rfl⟩
      have o1 : okD 40 (rowD w1 (stepSum (wayF cl) pr w1 ss)) := ok_row _ _ 38
      walk_at "dl"
      simp only [e0, e1, e2, tRow, g1, Option.map_some]
      refine ⟨w1, _, rfl, nd, by omega, (fun z => by cases z), fun _ => ⟨o1, o1, fun z => ?_, fun _ => ⟨_, _, _, _, rfl⟩⟩⟩
      have er : eqD (rowD w1 (stepSum (wayF cl) pr w1 ss)) (D.tup [wyD w1, D.int (stepSum (wayF cl) pr w1 ss)]) = true := eqD_refl 40 _ o1
      rw [er] at z
      cases z
    · rintro ρ h
      exact h
  rintro _ ⟨a9, a10, a11, a12, rfl⟩
  refine cut_seq (fun ρ => ρ = [some (dv (.scr ns)), some (dv d), some (dv (.lst cl)), some (dv (.lst (stsD ss))), some (dO (.lst [.lst cl, .lst (stsD ss), d])), some (dO (.lst (outW cl pr ss))), some (dv (.lst (waysD cl cl.length))), some (dO (.lst ((esOf cl).map wyD))), a8, a9, a10, a11, a12, none]) ?_ ?_
  · walk_at "dl"
    unfold tFrz frzS
    walk_at "dl"
    refine dComp_at (outW cl pr ss) (fun ψ hψ => ?_) (fun d => match d with | .tup [_, .int x] => some (D.int x) | _ => none) (by omega) ?_ ?_
    · walk_at "dl"
      exact hψ
    · intro e he
      obtain ⟨x, _, rfl⟩ := List.mem_map.mp he
      simp only [ρ0, List.map_cons, List.map_nil, List.replicate, List.cons_append, List.nil_append, List.append_nil, rowD]
      walk_at "dl"
    · rw [out_prices]
      walk_at "dl"
      simp only [tPriceOf, g2]
      refine ⟨ss, pr, cl.length, rfl, hS, hd, by simp [okD], fun z => ?_⟩
      rw [out_total fun p hp => (hS.2 p hp).1] at z
      simp [eqD] at z
  rintro _ rfl
  refine cut_seq (fun ρ => ρ = [some (dv (.scr ns)), some (dv d), some (dv (.lst cl)), some (dv (.lst (stsD ss))), some (dO (.lst [.lst cl, .lst (stsD ss), d])), some (dO (.lst (outW cl pr ss))), some (dv (.lst (waysD cl cl.length))), some (dO (.lst ((esOf cl).map wyD))), a8, a9, a10, a11, a12, some (dO (.lst (outW cl pr ss)))]) ?_ ?_
  · walk_at "dl"
  rintro _ rfl
  refine cut_seq (fun ρ => ρ = [some (dv (.scr ns)), some (dv d), some (dv (.lst cl)), some (dv (.lst (stsD ss))), some (dO (.lst [.lst cl, .lst (stsD ss), d])), some (dO (.lst [])), some (dv (.lst (waysD cl cl.length))), some (dO (.lst ((esOf cl).map wyD))), a8, a9, a10, a11, a12, some (dO (.lst (outW cl pr ss)))]) ?_ ?_
  · walk_at "dl"
  rintro _ rfl
  have ok3 : okD 40 (.lst (outW cl pr ss)) := ok_rows _ _ 37
  walk_at "dl"
  simp only [tByWay, g3]
  refine ⟨cl, ss, pr, rfl, hC, rfl, hS, hd, ?_⟩
  refine ⟨ok3, ok3, ?_⟩
  rw [eqD_refl 40 _ ok3]
  exact h
theorem all_mk {l : PySem.W.OpenLaw} {w : World} {K : PySem.W.Frag} {h : Heap} {mg : Str → Option Value} {fa : Addr} (X : K.In h) (G : h.Ns mainGlobals mg) (hfa : mg "law" = some (.ref fa)) {f1 : Addr} {od1 an1 : Option Addr} {sl1 : Array (Option Value)} {oc1 kV1 dc1 pm1 cd1 ct1 : Value} {f2 : Addr} {od2 an2 : Option Addr} {sl2 : Array (Option Value)} {oc2 kV2 dc2 pm2 cd2 ct2 : Value} {f3 : Addr} {od3 an3 : Option Addr} {sl3 : Array (Option Value)} {oc3 kV3 dc3 pm3 cd3 ct3 : Value} {f4 : Addr} {od4 an4 : Option Addr} {sl4 : Array (Option Value)} {oc4 kV4 dc4 pm4 cd4 ct4 : Value} {f5 : Addr} {od5 an5 : Option Addr} {sl5 : Array (Option Value)} {oc5 kV5 dc5 pm5 cd5 ct5 : Value} {f6 : Addr} {od6 an6 : Option Addr} {sl6 : Array (Option Value)} {oc6 kV6 dc6 pm6 cd6 ct6 : Value} {f7 : Addr} {od7 an7 : Option Addr} {sl7 : Array (Option Value)} {oc7 kV7 dc7 pm7 cd7 ct7 : Value} {f8 : Addr} {od8 an8 : Option Addr} {sl8 : Array (Option Value)} {oc8 kV8 dc8 pm8 cd8 ct8 : Value} {f9 : Addr} {od9 an9 : Option Addr} {sl9 : Array (Option Value)} {oc9 kV9 dc9 pm9 cd9 ct9 : Value} {f10 : Addr} {od10 an10 : Option Addr} {sl10 : Array (Option Value)} {oc10 kV10 dc10 pm10 cd10 ct10 : Value} {f11 : Addr} {od11 an11 : Option Addr} {sl11 : Array (Option Value)} {oc11 kV11 dc11 pm11 cd11 ct11 : Value} {f12 : Addr} {od12 an12 : Option Addr} {sl12 : Array (Option Value)} {oc12 kV12 dc12 pm12 cd12 ct12 : Value} {f13 : Addr} {od13 an13 : Option Addr} {sl13 : Array (Option Value)} {oc13 kV13 dc13 pm13 cd13 ct13 : Value} {f14 : Addr} {od14 an14 : Option Addr} {sl14 : Array (Option Value)} {oc14 kV14 dc14 pm14 cd14 ct14 : Value} {f15 : Addr} {od15 an15 : Option Addr} {sl15 : Array (Option Value)} {oc15 kV15 dc15 pm15 cd15 ct15 : Value} {f16 : Addr} {od16 an16 : Option Addr} {sl16 : Array (Option Value)} {oc16 kV16 dc16 pm16 cd16 ct16 : Value} {f17 : Addr} {od17 an17 : Option Addr} {sl17 : Array (Option Value)} {oc17 kV17 dc17 pm17 cd17 ct17 : Value} {f18 : Addr} {od18 an18 : Option Addr} {sl18 : Array (Option Value)} {oc18 kV18 dc18 pm18 cd18 ct18 : Value} {f19 : Addr} {od19 an19 : Option Addr} {sl19 : Array (Option Value)} {oc19 kV19 dc19 pm19 cd19 ct19 : Value} {aW : Addr} {odW : Option Addr} {nW : Nat} {slW : Array (Option Value)} {tw0 tw1 tw2 tw3 tw4 tw5 tw6 : Tok}
    (a1 : PySem.W.nsIn K mainGlobals "is_whole" = some (some (.ref f1))) (l1 : K.lookup f1 = some ⟨oc1, od1, .func (PySem.W.fnOf "is_whole" "is_whole" (defArgs (top 4)) (defBody (top 4)) (defScope (top 4)) .none kV1 dc1 pm1 an1 cd1 ct1), sl1⟩) (c1 : PySem.W.codeIn K cd1 "is_whole" = true) (k1 : PySem.W.keepIn K (.ref f1) = true)
    (a2 : PySem.W.nsIn K mainGlobals "is_price" = some (some (.ref f2))) (l2 : K.lookup f2 = some ⟨oc2, od2, .func (PySem.W.fnOf "is_price" "is_price" (defArgs (top 7)) (defBody (top 7)) (defScope (top 7)) .none kV2 dc2 pm2 an2 cd2 ct2), sl2⟩) (c2 : PySem.W.codeIn K cd2 "is_price" = true) (k2 : PySem.W.keepIn K (.ref f2) = true)
    (a3 : PySem.W.nsIn K mainGlobals "check_table" = some (some (.ref f3))) (l3 : K.lookup f3 = some ⟨oc3, od3, .func (PySem.W.fnOf "check_table" "check_table" (defArgs (top 8)) (defBody (top 8)) (defScope (top 8)) .none kV3 dc3 pm3 an3 cd3 ct3), sl3⟩) (c3 : PySem.W.codeIn K cd3 "check_table" = true) (k3 : PySem.W.keepIn K (.ref f3) = true)
    (a4 : PySem.W.nsIn K mainGlobals "price_of" = some (some (.ref f4))) (l4 : K.lookup f4 = some ⟨oc4, od4, .func (PySem.W.fnOf "price_of" "price_of" (defArgs (top 9)) (defBody (top 9)) (defScope (top 9)) .none kV4 dc4 pm4 an4 cd4 ct4), sl4⟩) (c4 : PySem.W.codeIn K cd4 "price_of" = true) (k4 : PySem.W.keepIn K (.ref f4) = true)
    (a5 : PySem.W.nsIn K mainGlobals "own_prices" = some (some (.ref f5))) (l5 : K.lookup f5 = some ⟨oc5, od5, .func (PySem.W.fnOf "own_prices" "own_prices" (defArgs (top 11)) (defBody (top 11)) (defScope (top 11)) .none kV5 dc5 pm5 an5 cd5 ct5), sl5⟩) (c5 : PySem.W.codeIn K cd5 "own_prices" = true) (k5 : PySem.W.keepIn K (.ref f5) = true)
    (a6 : PySem.W.nsIn K mainGlobals "way_on" = some (some (.ref f6))) (l6 : K.lookup f6 = some ⟨oc6, od6, .func (PySem.W.fnOf "way_on" "way_on" (defArgs (top 14)) (defBody (top 14)) (defScope (top 14)) .none kV6 dc6 pm6 an6 cd6 ct6), sl6⟩) (c6 : PySem.W.codeIn K cd6 "way_on" = true) (k6 : PySem.W.keepIn K (.ref f6) = true)
    (a7 : PySem.W.nsIn K mainGlobals "ways_of" = some (some (.ref f7))) (l7 : K.lookup f7 = some ⟨oc7, od7, .func (PySem.W.fnOf "ways_of" "ways_of" (defArgs (top 13)) (defBody (top 13)) (defScope (top 13)) .none kV7 dc7 pm7 an7 cd7 ct7), sl7⟩) (c7 : PySem.W.codeIn K cd7 "ways_of" = true) (k7 : PySem.W.keepIn K (.ref f7) = true)
    (a8 : PySem.W.nsIn K mainGlobals "by_way" = some (some (.ref f8))) (l8 : K.lookup f8 = some ⟨oc8, od8, .func (PySem.W.fnOf "by_way" "by_way" (defArgs (top 12)) (defBody (top 12)) (defScope (top 12)) .none kV8 dc8 pm8 an8 cd8 ct8), sl8⟩) (c8 : PySem.W.codeIn K cd8 "by_way" = true) (k8 : PySem.W.keepIn K (.ref f8) = true)
    (a9 : PySem.W.nsIn K mainGlobals "_law_cell_at" = some (some (.ref f9))) (l9 : K.lookup f9 = some ⟨oc9, od9, .func (PySem.W.fnOf "_law_cell_at" "_law_cell_at" (defArgs (top 16)) (defBody (top 16)) (defScope (top 16)) .none kV9 dc9 pm9 an9 cd9 ct9), sl9⟩) (c9 : PySem.W.codeIn K cd9 "_law_cell_at" = true) (k9 : PySem.W.keepIn K (.ref f9) = true)
    (a10 : PySem.W.nsIn K mainGlobals "_law_name" = some (some (.ref f10))) (l10 : K.lookup f10 = some ⟨oc10, od10, .func (PySem.W.fnOf "_law_name" "_law_name" (defArgs (top 17)) (defBody (top 17)) (defScope (top 17)) .none kV10 dc10 pm10 an10 cd10 ct10), sl10⟩) (c10 : PySem.W.codeIn K cd10 "_law_name" = true) (k10 : PySem.W.keepIn K (.ref f10) = true)
    (a11 : PySem.W.nsIn K mainGlobals "_law_whole" = some (some (.ref f11))) (l11 : K.lookup f11 = some ⟨oc11, od11, .func (PySem.W.fnOf "_law_whole" "_law_whole" (defArgs (top 18)) (defBody (top 18)) (defScope (top 18)) .none kV11 dc11 pm11 an11 cd11 ct11), sl11⟩) (c11 : PySem.W.codeIn K cd11 "_law_whole" = true) (k11 : PySem.W.keepIn K (.ref f11) = true)
    (a12 : PySem.W.nsIn K mainGlobals "_law_kinds" = some (some (.ref f12))) (l12 : K.lookup f12 = some ⟨oc12, od12, .func (PySem.W.fnOf "_law_kinds" "_law_kinds" (defArgs (top 19)) (defBody (top 19)) (defScope (top 19)) .none kV12 dc12 pm12 an12 cd12 ct12), sl12⟩) (c12 : PySem.W.codeIn K cd12 "_law_kinds" = true) (k12 : PySem.W.keepIn K (.ref f12) = true)
    (a13 : PySem.W.nsIn K mainGlobals "_law_table" = some (some (.ref f13))) (l13 : K.lookup f13 = some ⟨oc13, od13, .func (PySem.W.fnOf "_law_table" "_law_table" (defArgs (top 20)) (defBody (top 20)) (defScope (top 20)) .none kV13 dc13 pm13 an13 cd13 ct13), sl13⟩) (c13 : PySem.W.codeIn K cd13 "_law_table" = true) (k13 : PySem.W.keepIn K (.ref f13) = true)
    (a14 : PySem.W.nsIn K mainGlobals "_law_thing" = some (some (.ref f14))) (l14 : K.lookup f14 = some ⟨oc14, od14, .func (PySem.W.fnOf "_law_thing" "_law_thing" (defArgs (top 21)) (defBody (top 21)) (defScope (top 21)) .none kV14 dc14 pm14 an14 cd14 ct14), sl14⟩) (c14 : PySem.W.codeIn K cd14 "_law_thing" = true) (k14 : PySem.W.keepIn K (.ref f14) = true)
    (a15 : PySem.W.nsIn K mainGlobals "_law_call" = some (some (.ref f15))) (l15 : K.lookup f15 = some ⟨oc15, od15, .func (PySem.W.fnOf "_law_call" "_law_call" (defArgs (top 22)) (defBody (top 22)) (defScope (top 22)) .none kV15 dc15 pm15 an15 cd15 ct15), sl15⟩) (c15 : PySem.W.codeIn K cd15 "_law_call" = true) (k15 : PySem.W.keepIn K (.ref f15) = true)
    (a16 : PySem.W.nsIn K mainGlobals "_law_run" = some (some (.ref f16))) (l16 : K.lookup f16 = some ⟨oc16, od16, .func (PySem.W.fnOf "_law_run" "_law_run" (defArgs (top 23)) (defBody (top 23)) (defScope (top 23)) .none kV16 dc16 pm16 an16 cd16 ct16), sl16⟩) (c16 : PySem.W.codeIn K cd16 "_law_run" = true) (k16 : PySem.W.keepIn K (.ref f16) = true)
    (a17 : PySem.W.nsIn K mainGlobals "_law_way" = some (some (.ref f17))) (l17 : K.lookup f17 = some ⟨oc17, od17, .func (PySem.W.fnOf "_law_way" "_law_way" (defArgs (top 24)) (defBody (top 24)) (defScope (top 24)) .none kV17 dc17 pm17 an17 cd17 ct17), sl17⟩) (c17 : PySem.W.codeIn K cd17 "_law_way" = true) (k17 : PySem.W.keepIn K (.ref f17) = true)
    (a18 : PySem.W.nsIn K mainGlobals "_law_row" = some (some (.ref f18))) (l18 : K.lookup f18 = some ⟨oc18, od18, .func (PySem.W.fnOf "_law_row" "_law_row" (defArgs (top 25)) (defBody (top 25)) (defScope (top 25)) .none kV18 dc18 pm18 an18 cd18 ct18), sl18⟩) (c18 : PySem.W.codeIn K cd18 "_law_row" = true) (k18 : PySem.W.keepIn K (.ref f18) = true)
    (a19 : PySem.W.nsIn K mainGlobals "law" = some (some (.ref f19))) (l19 : K.lookup f19 = some ⟨oc19, od19, .func (PySem.W.fnOf "law" "law" (defArgs (top 26)) (defBody (top 26)) (defScope (top 26)) .none kV19 dc19 pm19 an19 cd19 ct19), sl19⟩) (c19 : PySem.W.codeIn K cd19 "law" = true) (k19 : PySem.W.keepIn K (.ref f19) = true) (bW : PySem.W.nsIn K mainGlobals "WORDS" = some (some (.ref aW))) (lW : K.lookup aW = some ⟨.type "tuple", odW, .seq #[.str "call" tw0, .str "make" tw1, .str "sum" tw2, .str "let" tw3, .str "less" tw4, .str "open" tw5, .str "hold" tw6] nW, slW⟩) (z_ValueError : PySem.W.nsIn K mainGlobals "ValueError" = some none) (z_all : PySem.W.nsIn K mainGlobals "all" = some none) (z_bool : PySem.W.nsIn K mainGlobals "bool" = some none) (z_dict : PySem.W.nsIn K mainGlobals "dict" = some none) (z_int : PySem.W.nsIn K mainGlobals "int" = some none) (z_isinstance : PySem.W.nsIn K mainGlobals "isinstance" = some none) (z_len : PySem.W.nsIn K mainGlobals "len" = some none) (z_list : PySem.W.nsIn K mainGlobals "list" = some none) (z_range : PySem.W.nsIn K mainGlobals "range" = some none) (z_reversed : PySem.W.nsIn K mainGlobals "reversed" = some none) (z_set : PySem.W.nsIn K mainGlobals "set" = some none) (z_str : PySem.W.nsIn K mainGlobals "str" = some none) (z_sum : PySem.W.nsIn K mainGlobals "sum" = some none) (z_tuple : PySem.W.nsIn K mainGlobals "tuple" = some none) (z_zip : PySem.W.nsIn K mainGlobals "zip" = some none) :
    ∃ fd : FuncData, (∀ (s : Shared) (v : Value), BindsTo s fd ⟨[v], []⟩ [("_law_script", v)]) ∧ ∀ base : Heap, K.In base → base.Ns mainGlobals mg → FnOk l.prog w K mg base CX0 7 fa fd ["_law_script"] (spD K 1 lawT) := by
  have e := hfa.symm.trans (PySem.W.mg_of X G a19)
  cases e
  have T : Tops mg := ⟨PySem.W.mg_none_of X G z_ValueError, PySem.W.mg_none_of X G z_all, PySem.W.mg_none_of X G z_bool, PySem.W.mg_none_of X G z_dict, PySem.W.mg_none_of X G z_int, PySem.W.mg_none_of X G z_isinstance, PySem.W.mg_none_of X G z_len, PySem.W.mg_none_of X G z_list, PySem.W.mg_none_of X G z_range, PySem.W.mg_none_of X G z_reversed, PySem.W.mg_none_of X G z_set, PySem.W.mg_none_of X G z_str, PySem.W.mg_none_of X G z_sum, PySem.W.mg_none_of X G z_tuple, PySem.W.mg_none_of X G z_zip⟩
  have F1 := fun_mk (st := top 4) l1 c1 k1
  have F2 := fun_mk (st := top 7) l2 c2 k2
  have F3 := fun_mk (st := top 8) l3 c3 k3
  have F4 := fun_mk (st := top 9) l4 c4 k4
  have F5 := fun_mk (st := top 11) l5 c5 k5
  have F6 := fun_mk (st := top 14) l6 c6 k6
  have F7 := fun_mk (st := top 13) l7 c7 k7
  have F8 := fun_mk (st := top 12) l8 c8 k8
  have F9 := fun_mk (st := top 16) l9 c9 k9
  have F10 := fun_mk (st := top 17) l10 c10 k10
  have F11 := fun_mk (st := top 18) l11 c11 k11
  have F12 := fun_mk (st := top 19) l12 c12 k12
  have F13 := fun_mk (st := top 20) l13 c13 k13
  have F14 := fun_mk (st := top 21) l14 c14 k14
  have F15 := fun_mk (st := top 22) l15 c15 k15
  have F16 := fun_mk (st := top 23) l16 c16 k16
  have F17 := fun_mk (st := top 24) l17 c17 k17
  have F18 := fun_mk (st := top 25) l18 c18 k18
  have F19 := fun_mk (st := top 26) l19 c19 k19
  refine ⟨PySem.W.fnOf "law" "law" (defArgs (top 26)) (defBody (top 26)) (defScope (top 26)) .none kV19 dc19 pm19 an19 cd19 ct19, fun s v => .of_eq rfl, fun base _ _ => ?_⟩
  have Z : Con K mg := ⟨gc_words (ws := words) (PySem.W.mg_of X G bW) lW rfl rfl (by rw [sizeLine_eq]; show (7 : Nat) ≤ _; decide) (.cons ⟨_, rfl⟩ (.cons ⟨_, rfl⟩ (.cons ⟨_, rfl⟩ (.cons ⟨_, rfl⟩ (.cons ⟨_, rfl⟩ (.cons ⟨_, rfl⟩ (.cons ⟨_, rfl⟩ .nil)))))))⟩
  have D_is_whole := fd_is_whole (P := l.prog) (w := w) (base := base) T  F1 (PySem.W.mg_of X G a1)
  have D_is_price := fd_is_price (P := l.prog) (w := w) (base := base) T D_is_whole F2 (PySem.W.mg_of X G a2)
  have D_check_table := fd_check_table (P := l.prog) (w := w) (base := base) T Z D_is_price F3 (PySem.W.mg_of X G a3)
  have D_price_of := fd_price_of (P := l.prog) (w := w) (base := base) T D_check_table F4 (PySem.W.mg_of X G a4)
  have D_own_prices := fd_own_prices (P := l.prog) (w := w) (base := base) T D_check_table F5 (PySem.W.mg_of X G a5)
  have D_way_on := fd_way_on (P := l.prog) (w := w) (base := base) T  F6 (PySem.W.mg_of X G a6)
  have D_ways_of := fd_ways_of (P := l.prog) (w := w) (base := base) T D_way_on F7 (PySem.W.mg_of X G a7)
  have D_by_way := fd_by_way (P := l.prog) (w := w) (base := base) T D_ways_of D_own_prices F8 (PySem.W.mg_of X G a8)
  have D__law_cell_at := fd_law_cell_at (P := l.prog) (w := w) (base := base) T  F9 (PySem.W.mg_of X G a9)
  have D__law_name := fd_law_name (P := l.prog) (w := w) (base := base) T  F10 (PySem.W.mg_of X G a10)
  have D__law_whole := fd_law_whole (P := l.prog) (w := w) (base := base) T  F11 (PySem.W.mg_of X G a11)
  have D__law_kinds := fd_law_kinds (P := l.prog) (w := w) (base := base) T  F12 (PySem.W.mg_of X G a12)
  have D__law_table := fd_law_table (P := l.prog) (w := w) (base := base) T D__law_cell_at D__law_kinds F13 (PySem.W.mg_of X G a13)
  have D__law_thing := fd_law_thing (P := l.prog) (w := w) (base := base) T  F14 (PySem.W.mg_of X G a14)
  have D__law_call := fd_law_call (P := l.prog) (w := w) (base := base) T D__law_cell_at D__law_name D__law_thing F15 (PySem.W.mg_of X G a15)
  have D__law_run := fd_law_run (P := l.prog) (w := w) (base := base) T D__law_kinds D__law_call F16 (PySem.W.mg_of X G a16)
  have D__law_way := fd_law_way (P := l.prog) (w := w) (base := base) T  F17 (PySem.W.mg_of X G a17)
  have D__law_row := fd_law_row (P := l.prog) (w := w) (base := base) T D__law_whole F18 (PySem.W.mg_of X G a18)
  exact ok_law T D_price_of D_by_way D__law_table D__law_run D__law_way D__law_row F19
end
end K23
open PySem PySem.W PyProof.Rows
set_option maxRecDepth 100000 in
set_option maxHeartbeats 0 in
theorem PySem.Challenge.cw_toll_k23_by_way_holds : PySem.Challenge.rw_toll_k23_by_way.Holds := by
  w_on; o_law; k_head; (case hw => w_witness2)
  k_fill
  refine DL.walkD (l := PySem.Challenge.rw_toll_k23_by_way) (k := 7) (x := "_law_script") rfl rfl ⟨rfl, by decide, by decide⟩ (fun w h Y => PySem.W.kIn_of Y) ?F
  case F =>
    intro w mg fa h KX G hmg
    refine' K23.all_mk KX G hmg ?a1 ?l1 ?c1 ?k1 ?a2 ?l2 ?c2 ?k2 ?a3 ?l3 ?c3 ?k3 ?a4 ?l4 ?c4 ?k4 ?a5 ?l5 ?c5 ?k5 ?a6 ?l6 ?c6 ?k6 ?a7 ?l7 ?c7 ?k7 ?a8 ?l8 ?c8 ?k8 ?a9 ?l9 ?c9 ?k9 ?a10 ?l10 ?c10 ?k10 ?a11 ?l11 ?c11 ?k11 ?a12 ?l12 ?c12 ?k12 ?a13 ?l13 ?c13 ?k13 ?a14 ?l14 ?c14 ?k14 ?a15 ?l15 ?c15 ?k15 ?a16 ?l16 ?c16 ?k16 ?a17 ?l17 ?c17 ?k17 ?a18 ?l18 ?c18 ?k18 ?a19 ?l19 ?c19 ?k19 ?bW ?lW ?z_ValueError ?z_all ?z_bool ?z_dict ?z_int ?z_isinstance ?z_len ?z_list ?z_range ?z_reversed ?z_set ?z_str ?z_sum ?z_tuple ?z_zip
    (case a1 => k_is)
    (case l1 => k_is)
    (case c1 => k_is)
    (case k1 => k_is)
    (case a2 => k_is)
    (case l2 => k_is)
    (case c2 => k_is)
    (case k2 => k_is)
    (case a3 => k_is)
    (case l3 => k_is)
    (case c3 => k_is)
    (case k3 => k_is)
    (case a4 => k_is)
    (case l4 => k_is)
    (case c4 => k_is)
    (case k4 => k_is)
    (case a5 => k_is)
    (case l5 => k_is)
    (case c5 => k_is)
    (case k5 => k_is)
    (case a6 => k_is)
    (case l6 => k_is)
    (case c6 => k_is)
    (case k6 => k_is)
    (case a7 => k_is)
    (case l7 => k_is)
    (case c7 => k_is)
    (case k7 => k_is)
    (case a8 => k_is)
    (case l8 => k_is)
    (case c8 => k_is)
    (case k8 => k_is)
    (case a9 => k_is)
    (case l9 => k_is)
    (case c9 => k_is)
    (case k9 => k_is)
    (case a10 => k_is)
    (case l10 => k_is)
    (case c10 => k_is)
    (case k10 => k_is)
    (case a11 => k_is)
    (case l11 => k_is)
    (case c11 => k_is)
    (case k11 => k_is)
    (case a12 => k_is)
    (case l12 => k_is)
    (case c12 => k_is)
    (case k12 => k_is)
    (case a13 => k_is)
    (case l13 => k_is)
    (case c13 => k_is)
    (case k13 => k_is)
    (case a14 => k_is)
    (case l14 => k_is)
    (case c14 => k_is)
    (case k14 => k_is)
    (case a15 => k_is)
    (case l15 => k_is)
    (case c15 => k_is)
    (case k15 => k_is)
    (case a16 => k_is)
    (case l16 => k_is)
    (case c16 => k_is)
    (case k16 => k_is)
    (case a17 => k_is)
    (case l17 => k_is)
    (case c17 => k_is)
    (case k17 => k_is)
    (case a18 => k_is)
    (case l18 => k_is)
    (case c18 => k_is)
    (case k18 => k_is)
    (case a19 => k_is)
    (case l19 => k_is)
    (case c19 => k_is)
    (case k19 => k_is)
    (case bW => k_is)
    (case lW => k_is)
    (case z_ValueError => k_is)
    (case z_all => k_is)
    (case z_bool => k_is)
    (case z_dict => k_is)
    (case z_int => k_is)
    (case z_isinstance => k_is)
    (case z_len => k_is)
    (case z_list => k_is)
    (case z_range => k_is)
    (case z_reversed => k_is)
    (case z_set => k_is)
    (case z_str => k_is)
    (case z_sum => k_is)
    (case z_tuple => k_is)
    (case z_zip => k_is)


