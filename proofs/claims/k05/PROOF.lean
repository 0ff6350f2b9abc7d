import PyProof.Rows.All
import Wide.All
import OpenK.AllK
import Wide.FinOn
import Lean
import PyProof.EqAt
import PyProof.EqKinds
import PyProof.TupleCall
import PyProof.NeKinds
import PyProof.Rows.Range3
import KE.KDictOf
import KE.KMinBuiltin
import PyProof.Rows.CallKwBuiltin
import KE.KRevIter
import KE.KDictList
import PyProof.DictWalks
import KE.KSortTup
import KE.KDictSum
import PyProof.StrLaws
import PySem.Challenge.RW_toll_k05_shown
set_option Elab.async false
set_option linter.all false
set_option maxRecDepth 100000
namespace L2
open PySem PySem.Spec PyProof.Rows

/-- a key: an int or a str -/
noncomputable abbrev Key := Sum Int Str
noncomputable def keyIs : Key → Value → Bool
  | .inl k, v => Value.isInt k v
  | .inr x, v => Value.isStrOf x v
noncomputable def keyH (w : World) : Key → Int
  | .inl k => hashInt k
  | .inr x => hashStr w x
theorem keyIs_shape : ∀ {k : Key} {v : Value}, keyIs k v = true → (∃ i t, k = Sum.inl i ∧ v = Value.int i t) ∨ (∃ x t, k = Sum.inr x ∧ v = Value.str x t)
  | .inl i, v, h => by
    obtain ⟨t, e⟩ := Value.isInt_shape (k := i) (v := v) h
    exact .inl ⟨i, t, rfl, e⟩
  | .inr x, v, h => by
    obtain ⟨t, e⟩ := Value.isStrOf_shape (x := x) (v := v) h
    exact .inr ⟨x, t, rfl, e⟩
theorem keyIs_int (i : Int) (t : Tok) : keyIs (.inl i) (.int i t) = true := by simp [keyIs, Value.isInt]
theorem keyIs_str (x : Str) (t : Tok) : keyIs (.inr x) (.str x t) = true := by simp [keyIs, Value.isStrOf]
theorem key_ll (a b : Int) : decide ((Sum.inl a : Key) = Sum.inl b) = (a == b) := by
  by_cases e : a = b
  · subst e; simp
  · have h : ¬ (Sum.inl a : Key) = Sum.inl b := fun q => e (Sum.inl.inj q)
    rw [decide_eq_false h]
    exact (beq_eq_false_iff_ne.mpr e).symm
theorem key_rr (a b : Str) : decide ((Sum.inr a : Key) = Sum.inr b) = decide (a = b) := by
  by_cases e : a = b
  · subst e; simp
  · have h : ¬ (Sum.inr a : Key) = Sum.inr b := fun q => e (Sum.inr.inj q)
    rw [decide_eq_false h, decide_eq_false e]
theorem key_lr (a : Int) (b : Str) : decide ((Sum.inl a : Key) = Sum.inr b) = false := decide_eq_false (fun q => nomatch q)
theorem key_rl (a : Str) (b : Int) : decide ((Sum.inr a : Key) = Sum.inl b) = false := decide_eq_false (fun q => nomatch q)

noncomputable def mixKind (prog : Program) (w : World) : PySem.KeyKind prog w Key where
  is := keyIs
  hash := keyH w
  inj := fun v a b ha hb => by
    rcases keyIs_shape ha with ⟨i, t, rfl, rfl⟩ | ⟨x, t, rfl, rfl⟩
    · rcases keyIs_shape hb with ⟨j, u, rfl, e⟩ | ⟨y, u, rfl, e⟩
      · injection e with e1 _; rw [e1]
      · exact nomatch e
    · rcases keyIs_shape hb with ⟨j, u, rfl, e⟩ | ⟨y, u, rfl, e⟩
      · exact nomatch e
      · injection e with e1 _; rw [e1]
  byValue := fun k v h => by
    rcases keyIs_shape h with ⟨i, t, rfl, rfl⟩ | ⟨x, t, rfl, rfl⟩ <;> rfl
  pyHash := fun hv h => by
    rcases keyIs_shape hv with ⟨i, t, rfl, rfl⟩ | ⟨x, t, rfl, rfl⟩
    · exact wpAny_pyHash_int h
    · exact wpAny_pyHash_str h
  eqBool := fun hu hv h => by
    rcases keyIs_shape hu with ⟨i, t, rfl, rfl⟩ | ⟨x, t, rfl, rfl⟩
    · rcases keyIs_shape hv with ⟨j, u, rfl, rfl⟩ | ⟨y, u, rfl, rfl⟩
      · rw [key_ll] at h; exact wpAny_eqBool_int h
      · rw [key_lr] at h; exact SeqAt.EqAt.int_str i t y u _ _ _ _ h
    · rcases keyIs_shape hv with ⟨j, u, rfl, rfl⟩ | ⟨y, u, rfl, rfl⟩
      · rw [key_rl] at h; exact SeqAt.EqAt.str_int x t j u _ _ _ _ h
      · rw [key_rr] at h; exact wpAny_eqBool_str h
  «strs» := fun k x t v h => by
    rcases keyIs_shape h with ⟨i, u, rfl, e⟩ | ⟨y, u, rfl, e⟩
    · exact nomatch e
    · injection e with e1 _
      subst e1
      cases v <;> rfl

theorem mixKind_int (prog : Program) (w : World) (i : Int) (t : Tok) : (mixKind prog w).is (.inl i) (.int i t) = true := keyIs_int i t
theorem mixKind_str (prog : Program) (w : World) (x : Str) (t : Tok) : (mixKind prog w).is (.inr x) (.str x t) = true := keyIs_str x t
end L2

namespace L2
open PySem PySem.Spec PyProof.Rows

/-- a value, without the heap -/
inductive V where
  | non | bl (b : Bool) | int (i : Int) | str (x : Str) | byt (b : Array UInt8) | flt (b : UInt64) | ref (a : Addr) | ty (n : String)
  deriving DecidableEq

noncomputable def RelV : V → Value → Prop
  | .non, u => u = Value.none
  | .bl b, u => u = Value.bool b
  | .int i, u => ∃ t, u = Value.int i t
  | .str x, u => ∃ t, u = Value.str x t
  | .byt b, u => ∃ t, u = Value.bytes b t
  | .flt b, u => ∃ t, u = Value.float b t
  | .ref a, u => u = Value.ref a
  | .ty n, u => u = Value.type n

noncomputable abbrev Vals : List V → List Value → Prop := Paired RelV
theorem Vals.length {xs : List V} {us : List Value} (r : Vals xs us) : xs.length = us.length := Paired.length r
theorem Vals.get : ∀ {xs : List V} {us : List Value} {i : Nat} {x : V}, Vals xs us → xs[i]? = some x → ∃ u, us[i]? = some u ∧ RelV x u
  | _, _, _, _, .nil, e => by simp at e
  | _, _, 0, _, .cons r _, e => by simp at e; subst e; exact ⟨_, rfl, r⟩
  | _, _, i + 1, x, .cons _ t, e => by
    obtain ⟨u, h1, h2⟩ := Vals.get (i := i) (x := x) t (by simpa using e)
    exact ⟨u, by simpa using h1, h2⟩
theorem Vals.set {x : V} {u : Value} (r : RelV x u) : ∀ {xs : List V} {us : List Value} (i : Nat), Vals xs us → Vals (xs.set i x) (us.set i u)
  | _, _, _, .nil => .nil
  | _, _, 0, .cons _ t => .cons r t
  | _, _, i + 1, .cons q t => .cons q (Vals.set r i t)
theorem Vals.append : ∀ {xs ys : List V} {us ws : List Value}, Vals xs us → Vals ys ws → Vals (xs ++ ys) (us ++ ws)
  | _, _, _, _, .nil, s => s
  | _, _, _, _, .cons r t, s => .cons r (Vals.append t s)
theorem Vals.take : ∀ {xs : List V} {us : List Value} (n : Nat), Vals xs us → Vals (xs.take n) (us.take n)
  | _, _, 0, _ => .nil
  | _, _, _ + 1, .nil => .nil
  | _, _, n + 1, .cons r t => .cons r (Vals.take n t)
theorem Vals.drop : ∀ {xs : List V} {us : List Value} (n : Nat), Vals xs us → Vals (xs.drop n) (us.drop n)
  | _, _, 0, r => r
  | _, _, _ + 1, .nil => .nil
  | _, _, n + 1, .cons _ t => Vals.drop n t
noncomputable def RelO : Option V → Option Value → Prop
  | some v, some u => RelV v u
  | none, none => True
  | _, _ => False
noncomputable def KV {κ : Type} : List (κ × V) → List (κ × Value) → Prop := Paired fun (p : κ × V) (q : κ × Value) => p.1 = q.1 ∧ RelV p.2 q.2

/-- a key of a dict (00_mix): an int or a text -/
noncomputable def kV : Key → V
  | .inl i => .int i
  | .inr x => .str x

/-- what stands at a tracked address -/
inductive HO where
  /-- a list -/
  | lst (xs : List V)
  /-- a tuple (never changes) -/
  | tup (xs : List V)
  /-- a dict whose keys are ints and texts; one whose keys are tuples of ints and texts (the empty one is both) -/
  | dK (kvs : List (Key × V)) | dT (kvs : List (List Key × V))
  /-- a set of ints: its members, its size -/
  | set (S : Int → Bool) (n : Nat)
  /-- an instance of the class at C, its dict at dx, its attributes -/
  | ins (C dx : Addr) (fs : List (Str × V))
  /-- the dict of the instance at x -/
  | own (x : Addr)
  /-- the dict of an exception -/
  | xd (fs : List (Str × V))
  /-- a bound method, f of x -/
  | met (f x : Addr)
  /-- a range object lo, lo + 1, .. below hi -/
  | rng (lo hi : Int)
  /-- a thing that is known to the object (the script; a dict while a loop walks it): read, never written while it is so -/
  | frz (o : Obj) (u : HO)
  /-- a code object's table -/
  | tbl (ps : Array Value)
  /-- any other thing, by what is true of its one object (a def of one's own: SetO a S n := HO.ext fun h => ..) -/
  | ext (φ : Heap → Prop)

noncomputable abbrev Hp := Addr → Option HO
noncomputable def upd (H : Hp) (a : Addr) (o : HO) : Hp := fun b => if b = a then some o else H b
theorem upd_same {H : Hp} {a : Addr} {o : HO} : upd H a o a = some o := by unfold upd; rw [if_pos rfl]
theorem upd_ne {H : Hp} {a b : Addr} {o : HO} (h : b ≠ a) : upd H a o b = H b := by unfold upd; rw [if_neg h]
theorem upd_upd {H : Hp} {a : Addr} {o u : HO} : upd (upd H a o) a u = upd H a u := by
  funext b; unfold upd; split <;> rfl
theorem ne_of_none {H : Hp} {a b : Addr} {o : HO} (h : H a = some o) (h' : H b = none) : a ≠ b := by
  intro e; subst e; rw [h] at h'; cases h'

section
variable (P : Program) (w : World)
noncomputable def ObjOk (H : Hp) (h : Heap) (a : Addr) : HO → Prop
  | .lst xs => xs.length ≤ sizeLine ∧ ∃ (its : List Value) (n : Nat), Vals xs its ∧ h.get? a = some { cls := .type "list", data := .seq its.toArray n }
  | .tup xs => xs.length ≤ sizeLine ∧ ∃ its : List Value, Vals xs its ∧ IsTup h a its.toArray ∧ ∃ o, h.get? a = some o ∧ o.dict = none
  | .dK kvs => kvs.length ≤ sizeLine ∧ (a == sysModules) = false ∧ ∃ vs, KV kvs vs ∧ h.DictOf (mixKind P w) a vs
  | .dT kvs => kvs.length ≤ sizeLine ∧ (a == sysModules) = false ∧ ∃ xs : List (List Key × Addr × Value),
      Paired (fun (p : List Key × V) (q : List Key × Addr × Value) => p.1 = q.1 ∧ H q.2.1 = some (.tup (p.1.map kV)) ∧ RelV p.2 q.2.2) kvs xs ∧
      ∃ o es ep, h.get? a = some o ∧ o.ExactDict ∧ o.data = .dict es ep ∧ es.toList = xs.map (entryOfKey (tupleKind (mixKind P w))) ∧ (xs.map (·.1)).Nodup
  | .set S n => h.SetOf (intKind P w) a S n
  | .ins C dx fs => H dx = some (.own a) ∧ fs.length ≤ 1000 ∧ dx ≠ a ∧ h.get? a = some (PySem.W.instObj C dx) ∧
      ∃ mA, h.Ns1 dx mA ∧ (∀ f, RelO (fs.lookup f) (mA f)) ∧ PySem.Within mA (fs.map (·.1))
  | .own _ => ∃ o, h.get? a = some o
  | .xd fs => ∃ mA, h.Ns1 a mA ∧ ∀ f, RelO (fs.lookup f) (mA f)
  | .rng lo hi => ∃ t u v, h.get? a = some { cls := .type "range", data := .fields #[.int lo t, .int hi u, .int 1 v] }
  | .frz o u => h.get? a = some o ∧ ObjOk H h a u
  | .tbl ps => h.get? a = some { cls := .none, data := .fields ps }
  | .met f x => h.get? a = some (PySem.W.methodObj (.ref f) (.ref x))
  | .ext φ => φ h ∧ (∃ o, h.get? a = some o) ∧ ∀ h1 h2 : Heap, φ h1 → (∀ o, h1.get? a = some o → h2.get? a = some o) → φ h2
/-- the abstract heap is held -/
noncomputable def HOk (H : Hp) (h : Heap) : Prop := ∀ a o, H a = some o → ObjOk P w H h a o
end

section
variable {P : Program} {w : World} {H H' : Hp} {h h' : Heap} {a : Addr} {o : HO}
theorem ObjOk.lt (x : ObjOk P w H h a o) : a < h.objs.size := by
  cases o with
  | lst xs => obtain ⟨_, _, _, _, e⟩ := x; exact Heap.lt_size e
  | tup xs => obtain ⟨_, _, _, p⟩ := x; exact p.1.lt
  | dK kvs => obtain ⟨_, _, _, _, o, _, _, e, _⟩ := x; exact Heap.lt_size e
  | dT kvs => obtain ⟨_, _, _, _, o, _, _, e, _⟩ := x; exact Heap.lt_size e
  | set S n => obtain ⟨o, _, _, _, e, _⟩ := x; exact Heap.lt_size e
  | ins C dx fs => obtain ⟨_, _, _, e, _⟩ := x; exact Heap.lt_size e
  | own y => obtain ⟨_, e⟩ := x; exact Heap.lt_size e
  | xd fs => obtain ⟨_, ⟨_, _, _, e, _⟩, _⟩ := x; exact Heap.lt_size e
  | rng lo hi => obtain ⟨_, _, _, e⟩ := x; exact Heap.lt_size e
  | frz ob u => obtain ⟨e, _⟩ := x; exact Heap.lt_size e
  | tbl ps => exact Heap.lt_size (show h.get? a = some _ from x)
  | met f y => exact Heap.lt_size (show h.get? a = some _ from x)
  | ext φ => obtain ⟨_, ⟨_, e⟩, _⟩ := x; exact Heap.lt_size e
theorem Paired.mapP {α β : Type} {F G : α → β → Prop} : ∀ {l₁ : List α} {l₂ : List β}, Paired F l₁ l₂ → (∀ a b, F a b → G a b) → Paired G l₁ l₂
  | _, _, .nil, _ => .nil
  | _, _, .cons r t, f => .cons (f _ _ r) (Paired.mapP t f)
/-- what an object's description leans on: its own object, its own dict, the tuples -/
theorem ObjOk.stay (x : ObjOk P w H h a o) (k : ∀ b u, (b = a ∨ H b = some (.own a)) → h.get? b = some u → h'.get? b = some u)
    (ho : ∀ b, H b = some (.own a) → H' b = some (.own a)) (ht : ∀ b xs, H b = some (.tup xs) → H' b = some (.tup xs)) : ObjOk P w H' h' a o := by
  induction o with
  | lst xs => obtain ⟨z, its, n, r, e⟩ := x; exact ⟨z, its, n, r, k _ _ (.inl rfl) e⟩
  | tup xs => obtain ⟨z, its, r, ⟨ob, e, c⟩, od, ed, cd⟩ := x; exact ⟨z, its, r, ⟨ob, k _ _ (.inl rfl) e, c⟩, od, k _ _ (.inl rfl) ed, cd⟩
  | dK kvs => obtain ⟨z, y, vs, r, ob, es, ep, e, c⟩ := x; exact ⟨z, y, vs, r, ob, es, ep, k _ _ (.inl rfl) e, c⟩
  | dT kvs =>
    obtain ⟨z, y, xs, r, ob, es, ep, e, c⟩ := x
    exact ⟨z, y, xs, Paired.mapP r fun p q z => ⟨z.1, ht _ _ z.2.1, z.2.2⟩, ob, es, ep, k _ _ (.inl rfl) e, c⟩
  | set S n => obtain ⟨ob, es, ep, t, e, c⟩ := x; exact ⟨ob, es, ep, t, k _ _ (.inl rfl) e, c⟩
  | ins C dx fs =>
    obtain ⟨d, z, ne, e, mA, ⟨od, es, ep, e2, c⟩, r⟩ := x
    exact ⟨ho _ d, z, ne, k _ _ (.inl rfl) e, mA, ⟨od, es, ep, k _ _ (.inr d) e2, c⟩, r⟩
  | own y => obtain ⟨ob, e⟩ := x; exact ⟨ob, k _ _ (.inl rfl) e⟩
  | xd fs => obtain ⟨mA, ⟨od, es, ep, e, c⟩, r⟩ := x; exact ⟨mA, ⟨od, es, ep, k _ _ (.inl rfl) e, c⟩, r⟩
  | rng lo hi => obtain ⟨t, u, v, e⟩ := x; exact ⟨t, u, v, k _ _ (.inl rfl) e⟩
  | frz ob u ih => obtain ⟨e, q⟩ := x; exact ⟨k _ _ (.inl rfl) e, ih q⟩
  | tbl ps =>
    have e : h.get? a = some { cls := .none, data := .fields ps } := x
    show h'.get? a = some { cls := .none, data := .fields ps }
    exact k a _ (.inl rfl) e
  | met f y =>
    have e : h.get? a = some (PySem.W.methodObj (.ref f) (.ref y)) := x
    show h'.get? a = some (PySem.W.methodObj (.ref f) (.ref y))
    exact k a _ (.inl rfl) e
  | ext φ => obtain ⟨p, ⟨o, e⟩, st⟩ := x; exact ⟨st _ _ p fun o q => k _ _ (.inl rfl) q, ⟨o, k _ _ (.inl rfl) e⟩, st⟩
theorem HOk.lt (x : HOk P w H h) (e : H a = some o) : a < h.objs.size := (x a o e).lt
theorem HOk.fresh (x : HOk P w H h) (e : h.objs.size ≤ a) : H a = none := by
  cases q : H a with
  | none => rfl
  | some u => exact absurd (Nat.lt_of_lt_of_le (x.lt q) e) (Nat.lt_irrefl _)
/-- every object of the heap is kept -/
theorem HOk.kept (x : HOk P w H h) (k : ∀ b u, h.get? b = some u → h'.get? b = some u) : HOk P w H h' := fun a o e =>
  (x a o e).stay (fun b u _ q => k b u q) (fun _ q => q) fun _ _ q => q
/-- a new object is laid and tracked -/
theorem HOk.laid (x : HOk P w H h) (k : ∀ b u, h.get? b = some u → h'.get? b = some u) (hp : h.objs.size ≤ a) (new : ObjOk P w (upd H a o) h' a o) : HOk P w (upd H a o) h' := fun b u e => by
  have hn := x.fresh hp
  by_cases hb : b = a
  · subst hb; rw [upd_same] at e; cases e; exact new
  · rw [upd_ne hb] at e
    exact (x b u e).stay (fun c v _ q => k c v q) (fun c q => by rw [upd_ne (ne_of_none q hn)]; exact q) fun c xs q => by rw [upd_ne (ne_of_none q hn)]; exact q
end

/-- what may be read as u: it is u, or a known u -/
noncomputable def Rd (H : Hp) (a : Addr) (u : HO) : Prop := H a = some u ∨ ∃ o, H a = some (.frz o u)
theorem Rd.of {H : Hp} {a : Addr} {u : HO} (h : H a = some u) : Rd H a u := .inl h
theorem Rd.ok {P : Program} {w : World} {H : Hp} {h : Heap} {a : Addr} {u : HO} (r : Rd H a u) (x : HOk P w H h) : ObjOk P w H h a u := by
  rcases r with r | ⟨o, r⟩
  · exact x a u r
  · obtain ⟨_, q⟩ := x a _ r
    exact q
/-- what may be written -/
noncomputable def Mut : Option HO → Prop
  | some (.lst _) => True
  | some (.dK _) => True
  | some (.dT _) => True
  | some (.set _ _) => True
  | some (.ins _ _ _) => True
  | some (.ext _) => True
  | _ => False
section
variable {P : Program} {w : World} {H : Hp} {h h' : Heap} {x e : Addr} {o' : HO}
/-- the object at e is changed: x itself, or the dict of the instance x -/
theorem HOk.write (ok : HOk P w H h) (mu : Mut (H x)) (he : e = x ∨ H e = some (.own x)) (k : ∀ b u, b ≠ e → h.get? b = some u → h'.get? b = some u) (heo : ∃ u, h'.get? e = some u)
    (new : ObjOk P w (upd H x o') h' x o') : HOk P w (upd H x o') h' := fun b u q => by
  have nown : ∀ c y, H c = some (.own y) → c ≠ x := fun c y r z => by subst z; rw [r] at mu; exact mu
  have ntup : ∀ c xs, H c = some (.tup xs) → c ≠ x := fun c xs r z => by subst z; rw [r] at mu; exact mu
  by_cases hb : b = x
  · subst hb; rw [upd_same] at q; cases q; exact new
  · rw [upd_ne hb] at q
    by_cases hbe : b = e
    · have q' : H b = some (.own x) := by
        rcases he with z | z
        · exact absurd (hbe.trans z) hb
        · rw [hbe]; exact z
      rw [q] at q'; cases q'
      obtain ⟨v, hv⟩ := heo
      exact ⟨v, by rw [hbe]; exact hv⟩
    · refine (ok b u q).stay (fun c v hc r => k c v ?_ r) (fun c r => by rw [upd_ne (nown c b r)]; exact r) fun c xs r => by rw [upd_ne (ntup c xs r)]; exact r
      rcases hc with rfl | hc
      · exact hbe
      · rintro rfl
        rcases he with z | z
        · exact nown c b hc z
        · rw [hc] at z; cases z; exact hb rfl
end

structure Un (fs ex : List Addr) (H H' : Hp) (h h' : Heap) : Prop where
  keep : ∀ b o, h.get? b = some o → H b = none → b ∉ fs → b ∉ ex → h'.get? b = some o
  slot : ∀ b o, h.get? b = some o → H b = none → b ∈ fs → b ∉ ex → ∃ sl, h'.get? b = some { o with slots := sl }
  free : ∀ b o, h.get? b = some o → H b = none → b ∉ ex → H' b = none
  there : ∀ b o, h.get? b = some o → b ∉ ex → ∃ o', h'.get? b = some o'
  tups : ∀ b xs, H b = some (.tup xs) → H' b = some (.tup xs)
  frzs : ∀ b o u, H b = some (.frz o u) → H' b = some (.frz o u)
  tbls : ∀ b ps, H b = some (.tbl ps) → ∃ more, H' b = some (.tbl (ps ++ more))
section
variable {fs fs' ex ex' : List Addr} {H H1 H2 : Hp} {h h1 h2 h' : Heap} {a x e : Addr} {o : HO}
theorem Un.any (u : Un fs ex H H1 h h1) {b : Addr} {ob : Obj} (q : h.get? b = some ob) (n : H b = none) (hx : b ∉ ex) : ∃ sl, h1.get? b = some { ob with slots := sl } := by
  by_cases hb : b ∈ fs
  · exact u.slot b ob q n hb hx
  · exact ⟨ob.slots, u.keep b ob q n hb hx⟩
theorem Un.trans (a : Un fs ex H H1 h h1) (b : Un fs ex H1 H2 h1 h2) : Un fs ex H H2 h h2 where
  keep := fun c ob q n hc hx => b.keep c ob (a.keep c ob q n hc hx) (a.free c ob q n hx) hc hx
  slot := fun c ob q n hc hx => by
    obtain ⟨sl, e1⟩ := a.slot c ob q n hc hx
    obtain ⟨sl', e2⟩ := b.slot c _ e1 (a.free c ob q n hx) hc hx
    exact ⟨sl', e2⟩
  free := fun c ob q n hx => by
    obtain ⟨o', e1⟩ := a.there c ob q hx
    exact b.free c o' e1 (a.free c ob q n hx) hx
  there := fun c ob q hx => by
    obtain ⟨o', e1⟩ := a.there c ob q hx
    exact b.there c o' e1 hx
  tups := fun c xs q => b.tups c xs (a.tups c xs q)
  frzs := fun c ob xs q => b.frzs c ob xs (a.frzs c ob xs q)
  tbls := fun c ps q => by
    obtain ⟨m1, e1⟩ := a.tbls c ps q
    obtain ⟨m2, e2⟩ := b.tbls c _ e1
    exact ⟨m1 ++ m2, by rw [e2, Array.append_assoc]⟩
theorem Un.kept (k : ∀ b u, h.get? b = some u → h'.get? b = some u) : Un fs ex H H h h' :=
  ⟨fun b ob q _ _ _ => k b ob q, fun b ob q _ _ _ => ⟨ob.slots, k b ob q⟩, fun _ _ _ n _ => n, fun b ob q _ => ⟨ob, k b ob q⟩, fun _ _ q => q, fun _ _ _ q => q, fun _ ps q => ⟨#[], by rw [q]; simp⟩⟩
theorem Un.refl : Un fs ex H H h h := Un.kept fun _ _ q => q
theorem Un.laid (k : ∀ b u, h.get? b = some u → h'.get? b = some u) (hp : h.objs.size ≤ a) (hn : H a = none) : Un fs ex H (upd H a o) h h' where
  keep := fun b u q _ _ _ => k b u q
  slot := fun b u q _ _ _ => ⟨u.slots, k b u q⟩
  free := fun b u q n _ => by rw [upd_ne (Nat.ne_of_lt (Nat.lt_of_lt_of_le (Heap.lt_size q) hp))]; exact n
  there := fun b u q _ => ⟨u, k b u q⟩
  tups := fun b xs q => by rw [upd_ne (ne_of_none q hn)]; exact q
  frzs := fun b u xs q => by rw [upd_ne (ne_of_none q hn)]; exact q
  tbls := fun b ps q => ⟨#[], by rw [upd_ne (ne_of_none q hn), q]; simp⟩
theorem Un.write (mu : Mut (H x)) (he : e = x ∨ H e = some (.own x)) (k : ∀ b u, b ≠ e → h.get? b = some u → h'.get? b = some u) (heo : ∃ u, h'.get? e = some u) : Un fs ex H (upd H x o) h h' := by
  have hx : ∀ b, H b = none → b ≠ x := fun b n z => by subst z; rw [n] at mu; exact mu
  have hb : ∀ b, H b = none → b ≠ e := fun b n z => by
    subst z
    rcases he with r | r
    · exact hx b n r
    · rw [n] at r; cases r
  have hm : ∀ b u, H b = some u → ¬ Mut (some u) → b ≠ x := fun b u q nm z => by subst z; rw [q] at mu; exact nm mu
  refine ⟨fun b u q n _ _ => k b u (hb b n) q, fun b u q n _ _ => ⟨u.slots, k b u (hb b n) q⟩, fun b u q n _ => by rw [upd_ne (hx b n)]; exact n, fun b u q _ => ?_,
    fun b xs q => by rw [upd_ne (hm b _ q fun z => z)]; exact q, fun b u xs q => by rw [upd_ne (hm b _ q fun z => z)]; exact q, fun b ps q => ⟨#[], by rw [upd_ne (hm b _ q fun z => z), q]; simp⟩⟩
  by_cases hbe : b = e
  · subst hbe; exact heo
  · exact ⟨u, k b u hbe q⟩
theorem Un.mono (u : Un fs ex H H1 h h1) (hs : ∀ b ∈ fs, b ∈ fs') (hx : ∀ b ∈ ex, b ∈ ex') : Un fs' ex' H H1 h h1 :=
  ⟨fun b ob q n hb he => u.keep b ob q n (fun z => hb (hs b z)) fun z => he (hx b z), fun _ _ q n _ he => u.any q n fun z => he (hx _ z), fun b ob q n he => u.free b ob q n fun z => he (hx b z), fun b ob q he => u.there b ob q fun z => he (hx b z), u.tups, u.frzs, u.tbls⟩
end

noncomputable def trk (h : Heap) (H : Hp) : List Addr := (List.range h.objs.size).filter fun a => (H a).isSome
noncomputable def hidT (h : Heap) (H : Hp) : Heap := PySem.W.hideAll h (trk h H)
theorem hidT_size (h : Heap) (H : Hp) : (hidT h H).objs.size = h.objs.size := PySem.W.hideAll_size _ _
theorem hidT_get {h : Heap} {H : Hp} {b : Addr} {o : Obj} (e : h.get? b = some o) (n : H b = none) : (hidT h H).get? b = some o :=
  PySem.W.hideAll_get _ e fun hm => by
    have q : (H b).isSome = true := (List.mem_filter.mp hm).2
    rw [n] at q; simp at q
theorem of_hidT {h : Heap} {H : Hp} {b : Addr} {o : Obj} (e : (hidT h H).get? b = some o) : h.get? b = some o ∧ H b = none := by
  have e' : h.get? b = some o := PySem.W.of_hideAll (trk h H) e
  refine ⟨e', ?_⟩
  cases q : H b with
  | none => rfl
  | some x =>
    have hm : b ∈ trk h H := List.mem_filter.mpr ⟨List.mem_range.mpr (Heap.lt_size e'), by simp [q]⟩
    have z : (hidT h H).get? b = none := PySem.W.hideAll_none (trk h H) hm
    rw [z] at e; cases e

noncomputable def allNews (g h : Heap) (L : Addr) : List (Addr × Obj) := (List.range h.objs.size).filterMap fun a => if a = L ∨ (g.get? a).isSome = true then none else (h.get? a).map fun o => (a, o)
noncomputable def rest (g h : Heap) (L d : Addr) : List (Addr × Obj) := (allNews g h L).filter fun p => decide (p.1 ≠ d)
end L2

namespace L2
open PySem PySem.Spec PyProof.Rows

/-- the module's facts, over the base: the heap at the law's entry without what is tracked there -/
structure Mod (K : PySem.W.Frag) (mg : Str → Option Value) (base : Heap) : Prop where
  kin : K.In base
  glob : base.Ns mainGlobals mg
  blt : ∃ mb, base.Ns builtinsNs mb ∧ ∀ x : Str, x ≠ "__name__" → mb x = bootBuiltins x
  nolimit : base.NoLimit

/-- the context: a def's body (or a comprehension's block) running. base: fixed through the whole law; s₀, H₀: the entry; outer: the frames whose slots others may change (a def's callers); stack: all frames that run;
   ex: iterators that were made ahead of the entry and are walked here (a comprehension's); fn: the names whose cells were made at the entry (a def: all; a comprehension's block: its own); calm: not within an except suite; pn: pins that every state bears; xe: what is wanted of an exception that leaves the code -/
structure Cx where
  prog : Program
  w : World
  K : PySem.W.Frag
  mg : Str → Option Value
  base : Heap
  A : Around
  N : List Str
  s₀ : Shared
  H₀ : Hp
  env : Env
  outer : List Env
  stack : List Env
  ex : List Addr
  fn : Str → Bool
  calm : Bool
  pn : List (Addr × Obj)
  xe : Value → Shared → Prop
/-- the callers' frames -/
noncomputable def frs (l : List Env) : List Addr := l.filterMap (·.frame)
noncomputable abbrev Cx.fs (X : Cx) : List Addr := frs X.outer

noncomputable def Vis (sc : Scope) (x : Str) : Prop := sc.names.lookup x = some .local ∨ sc.names.lookup x = some .cell ∨ sc.names.lookup x = some .free
noncomputable def Loc (sc : Scope) (x : Str) : Prop := sc.names.lookup x = some .local ∨ sc.names.lookup x = some .cell
noncomputable def Look (env : Env) (h : Heap) (m : Str → Option Value) (x : Str) (u : Value) : Prop :=
  (env.kindOf x = some .local ∧ m x = some u) ∨ ((env.kindOf x = some .cell ∨ env.kindOf x = some .free) ∧ ∃ c, env.cells.lookup x = some c ∧ h.IsCell c (some u))

structure Cx.Ok (X : Cx) : Prop where
  mod : Mod X.K X.mg X.base
  kind : X.env.scope.kind = .function
  glob : X.env.globals = mainGlobals
  blt : X.env.builtins = builtinsNs
  above : X.s₀.heap.objs.size ≤ X.env.locals
  inj : ∀ x y c, X.env.cells.lookup x = some c → X.env.cells.lookup y = some c → x = y
  has : ∀ x, (X.env.kindOf x = some .cell ∨ X.env.kindOf x = some .free) → ∃ c, X.env.cells.lookup x = some c
  cab : ∀ x c, X.fn x = true → X.env.cells.lookup x = some c → X.s₀.heap.objs.size ≤ c
  hd : X.calm = true → X.A.handled = none
  frames : X.A.frames = some X.stack
  stk : X.stack = X.outer ∨ (X.stack = X.env :: X.outer ∧ X.env.frame = some X.env.locals)
  exf : ∀ b ∈ X.ex, b ≠ X.env.locals ∧ ∀ x c, X.env.cells.lookup x = some c → c ≠ b
  bs : ∀ b o, X.base.get? b = some o → X.s₀.heap.get? b = some o ∧ X.H₀ b = none
  bsz : X.base.objs.size ≤ X.s₀.heap.objs.size
  noex : ∀ b o, X.base.get? b = some o → b ∉ X.ex
  exfs : ∀ b ∈ X.ex, b ∉ X.fs
  funs : X.s₀.heap.FunFrames X.base X.outer
  frf : ∀ b ∈ X.fs, X.H₀ b = none

structure Inv (X : Cx) (pins : List (Addr × Obj)) (σ : List (Option V)) (H : Hp) (s : Shared) : Prop where
  ok : X.Ok
  os : s.os = X.s₀.os
  bare : AllBare s.gens
  base : Un X.fs X.ex X.H₀ H X.s₀.heap s.heap
  loc : ∃ m, s.heap.Ns X.env.locals m ∧ ∀ (i : Nat) (x : Str) (v : V), X.N[i]? = some x → σ[i]? = some (some v) → Vis X.env.scope x → ∃ u, RelV v u ∧ Look X.env s.heap m x u
  cell : ∀ x c, X.env.cells.lookup x = some c → ∃ v, s.heap.IsCell c v
  free : H X.env.locals = none
  freeC : ∀ x c, X.env.cells.lookup x = some c → H c = none
  pin : ∀ p ∈ X.pn ++ pins, s.heap.get? p.1 = some p.2 ∧ H p.1 = none ∧ p.1 ≠ X.env.locals ∧ p.1 ∉ X.fs ∧ ∀ v, p.2.data ≠ .cell v
  hok : HOk X.prog X.w H s.heap
  len : σ.length = X.N.length

section
variable {X : Cx} {pins : List (Addr × Obj)} {σ : List (Option V)} {H H' : Hp} {s : Shared} {h' : Heap}

theorem Cx.Ok.nofr (ok : X.Ok) {b : Addr} {o : Obj} (e : X.base.get? b = some o) : b ∉ X.fs := fun hb => by
  have := (ok.funs.mem hb).1
  rw [e] at this; cases this
theorem Inv.bs (I : Inv X pins σ H s) : ∀ b o, X.base.get? b = some o → s.heap.get? b = some o ∧ H b = none := fun b o e =>
  ⟨I.base.keep b o (I.ok.bs b o e).1 (I.ok.bs b o e).2 (I.ok.nofr e) (I.ok.noex b o e), I.base.free b o (I.ok.bs b o e).1 (I.ok.bs b o e).2 (I.ok.noex b o e)⟩
theorem Inv.bk (I : Inv X pins σ H s) : ∀ b o, X.base.get? b = some o → s.heap.get? b = some o := fun b o e => (I.bs b o e).1
theorem Inv.mod (I : Inv X pins σ H s) : Mod X.K X.mg X.base := I.ok.mod
theorem Inv.kIn (I : Inv X pins σ H s) : X.K.In s.heap := I.ok.mod.kin.keeps I.bk
theorem Inv.nolimit (I : Inv X pins σ H s) : s.heap.NoLimit := I.ok.mod.nolimit.keeps I.bk
/-- the frame over the base: for OpenK's rules (K.In X.base is I.mod.kin) -/
theorem Inv.fr (I : Inv X pins σ H s) : ∃ m, Fr X.base X.env.locals s.heap m :=
  let ⟨m, hn, _⟩ := I.loc
  ⟨m, hn, I.bk, Nat.le_trans I.ok.bsz I.ok.above⟩
theorem Inv.lt (I : Inv X pins σ H s) : X.env.locals < s.heap.objs.size := let ⟨_, hn, _⟩ := I.loc; hn.lt
theorem Inv.sz (I : Inv X pins σ H s) : X.s₀.heap.objs.size ≤ s.heap.objs.size := Nat.le_trans I.ok.above (Nat.le_of_lt I.lt)
theorem Inv.nofs (I : Inv X pins σ H s) {a : Addr} (h : s.heap.objs.size ≤ a) : a ∉ X.fs := fun hb => by
  obtain ⟨_, o, ho, _⟩ := I.ok.funs.mem hb
  exact absurd (Nat.lt_of_lt_of_le (Heap.lt_size ho) (Nat.le_trans I.sz h)) (Nat.lt_irrefl _)
theorem Inv.cne (I : Inv X pins σ H s) : ∀ x c, X.env.cells.lookup x = some c → c ≠ X.env.locals := fun x c e z => by
  obtain ⟨v, o, ho, hd⟩ := I.cell x c e
  obtain ⟨m, ⟨o', es, ep, ho', hd', _⟩, _⟩ := I.loc
  rw [z, ho'] at ho; cases ho; rw [hd'] at hd; cases hd
theorem Inv.funs (I : Inv X pins σ H s) : s.heap.FunFrames X.base X.outer := by
  have all : ∀ (l : List Env), (∀ b ∈ frs l, b ∈ X.fs) → X.s₀.heap.FunFrames X.base l → s.heap.FunFrames X.base l := by
    intro l
    induction l with
    | nil => intro _ _; trivial
    | cons env r ih =>
      intro hs hl
      obtain ⟨hk, ⟨L, o, hf, hn, ho, hd⟩, hr⟩ := hl
      have hL : L ∈ X.fs := hs L (by unfold frs; rw [List.filterMap_cons, hf]; exact List.mem_cons_self)
      obtain ⟨sl, e⟩ := I.base.slot L o ho (I.ok.frf L hL) hL fun z => I.ok.exfs L z hL
      exact ⟨hk, ⟨L, _, hf, hn, e, hd⟩, ih (fun b hb => hs b (by unfold frs; rw [List.filterMap_cons, hf]; exact List.mem_cons_of_mem _ hb)) hr⟩
  exact all X.outer (fun _ hb => hb) I.ok.funs

/-- the frames that run, for a call -/
theorem Inv.stack (I : Inv X pins σ H s) : s.heap.FunFrames X.base X.stack := by
  rcases I.ok.stk with e | ⟨e, hf⟩
  · rw [e]; exact I.funs
  · rw [e]
    obtain ⟨m, hn, _⟩ := I.loc
    refine .cons (by rw [I.ok.kind]; decide) hf hn ?_ I.funs
    exact Heap.get?_none_of_le (Nat.le_trans I.ok.bsz I.ok.above)
theorem Inv.stkSub (I : Inv X pins σ H s) : ∀ b ∈ frs X.stack, b ∈ X.env.locals :: X.fs := fun b hb => by
  rcases I.ok.stk with e | ⟨e, hf⟩
  · rw [e] at hb; exact List.mem_cons_of_mem _ hb
  · rw [e] at hb
    unfold frs at hb
    rw [List.filterMap_cons, hf] at hb
    exact hb
theorem Inv.stkFree (I : Inv X pins σ H s) : ∀ b ∈ frs X.stack, H b = none := fun b hb => by
  rcases List.mem_cons.mp (I.stkSub b hb) with e | hb
  · rw [e]; exact I.free
  · obtain ⟨_, o, ho, _⟩ := I.ok.funs.mem hb
    exact I.base.free b o ho (I.ok.frf b hb) fun z => I.ok.exfs b z hb

/-- THE STEP: the untracked objects but the frame and the records at ch are kept (the callers' frames up to slots), the frame's map is kept, the new abstract heap is held -/
theorem Inv.step {g' : Array GenState} {t' : Nat} {d' : Drawn} {ch : List Addr} (I : Inv X pins σ H s)
    (hch : ∀ b ∈ ch, (b ∈ X.ex ∨ X.s₀.heap.objs.size ≤ b) ∧ b ≠ X.env.locals ∧ (∀ x c, X.env.cells.lookup x = some c → c ≠ b) ∧ ∀ p ∈ X.pn ++ pins, p.1 ≠ b)
    (keep : ∀ b o, b ≠ X.env.locals → b ∉ X.fs → b ∉ ch → s.heap.get? b = some o → H b = none → h'.get? b = some o)
    (slot : ∀ b o, b ≠ X.env.locals → b ∈ X.fs → b ∉ ch → s.heap.get? b = some o → H b = none → ∃ sl, h'.get? b = some { o with slots := sl }) (free : ∀ b o, b ∉ ch → s.heap.get? b = some o → H b = none → H' b = none)
    (there : ∀ b o, b ∉ ch → s.heap.get? b = some o → ∃ o', h'.get? b = some o')
    (tups : ∀ b xs, H b = some (.tup xs) → H' b = some (.tup xs)) (frzs : ∀ b o u, H b = some (.frz o u) → H' b = some (.frz o u)) (tbls : ∀ b ps, H b = some (.tbl ps) → ∃ more, H' b = some (.tbl (ps ++ more)))
    (ns : ∀ m, s.heap.Ns X.env.locals m → h'.Ns X.env.locals m) (hok : HOk X.prog X.w H' h') (hg : AllBare g') :
    Inv X pins σ H' { s with heap := h', gens := g', drawn := d', toks := t' } := by
  have neL : ∀ b o, X.s₀.heap.get? b = some o → b ≠ X.env.locals := fun b o e => Nat.ne_of_lt (Nat.lt_of_lt_of_le (Heap.lt_size e) I.ok.above)
  have neC : ∀ b o, X.s₀.heap.get? b = some o → b ∉ X.ex → b ∉ ch := fun b o e hx hb => by
    rcases (hch b hb).1 with z | z
    · exact hx z
    · exact absurd (Nat.lt_of_lt_of_le (Heap.lt_size e) z) (Nat.lt_irrefl _)
  have cellK : ∀ x c, X.env.cells.lookup x = some c → ∀ v, s.heap.IsCell c v → h'.IsCell c v := fun x c e v ⟨o, ho, hd⟩ => by
    have nch : c ∉ ch := fun z => (hch c z).2.2.1 x c e rfl
    by_cases hc : c ∈ X.fs
    · obtain ⟨sl, q⟩ := slot c o (I.cne x c e) hc nch ho (I.freeC x c e)
      exact ⟨_, q, hd⟩
    · exact ⟨o, keep c o (I.cne x c e) hc nch ho (I.freeC x c e), hd⟩
  refine ⟨I.ok, I.os, hg, ⟨fun b o e n hb hx => ?_, fun b o e n hb hx => ?_, fun b o e n hx => ?_, fun b o e hx => ?_, fun b xs e => tups b xs (I.base.tups b xs e), fun b o xs e => frzs b o xs (I.base.frzs b o xs e), fun b ps e => ?_⟩, ?_, fun x c e => ?_, ?_, fun x c e => ?_, fun p hp => ?_, hok, I.len⟩
  · exact keep b o (neL b o e) hb (neC b o e hx) (I.base.keep b o e n hb hx) (I.base.free b o e n hx)
  · obtain ⟨sl, e1⟩ := I.base.slot b o e n hb hx
    obtain ⟨sl', e2⟩ := slot b _ (neL b o e) hb (neC b o e hx) e1 (I.base.free b o e n hx)
    exact ⟨sl', e2⟩
  · obtain ⟨o', e1⟩ := I.base.there b o e hx
    exact free b o' (neC b o e hx) e1 (I.base.free b o e n hx)
  · obtain ⟨o', e1⟩ := I.base.there b o e hx
    exact there b o' (neC b o e hx) e1
  · obtain ⟨m1, e1⟩ := I.base.tbls b ps e
    obtain ⟨m2, e2⟩ := tbls b _ e1
    exact ⟨m1 ++ m2, by rw [e2, Array.append_assoc]⟩
  · obtain ⟨m, hn, hl⟩ := I.loc
    refine ⟨m, ns m hn, fun i x v e1 e2 e3 => ?_⟩
    obtain ⟨u, r, l⟩ := hl i x v e1 e2 e3
    refine ⟨u, r, ?_⟩
    rcases l with l | ⟨k, c, e, z⟩
    · exact .inl l
    · exact .inr ⟨k, c, e, cellK x c e _ z⟩
  · obtain ⟨v, z⟩ := I.cell x c e
    exact ⟨v, cellK x c e v z⟩
  · obtain ⟨m, ⟨o, _, _, ho, _⟩, _⟩ := I.loc
    exact free _ o (fun z => (hch _ z).2.1 rfl) ho I.free
  · obtain ⟨v, o, ho, hd⟩ := I.cell x c e
    exact free c o (fun z => (hch c z).2.2.1 x c e rfl) ho (I.freeC x c e)
  · obtain ⟨e, n, ne, nf, d⟩ := I.pin p hp
    have nch : p.1 ∉ ch := fun z => (hch p.1 z).2.2.2 p hp rfl
    exact ⟨keep p.1 p.2 ne nf nch e n, free p.1 p.2 nch e n, ne, nf, d⟩
/-- .. where the frame's own object is kept too -/
theorem Inv.un {t' : Nat} (I : Inv X pins σ H s) (u : Un X.fs [] H H' s.heap h') (hok : HOk X.prog X.w H' h') : Inv X pins σ H' { s with heap := h', toks := t' } := by
  obtain ⟨m, ⟨o, es, ep, ho, r⟩, _⟩ := id I.loc
  obtain ⟨sl, hL⟩ := u.any ho I.free (by simp)
  exact I.step (g' := s.gens) (d' := s.drawn) (ch := []) (fun _ z => nomatch z) (fun b o _ hb _ e n => u.keep b o e n hb (by simp)) (fun b o _ hb _ e n => u.slot b o e n hb (by simp)) (fun b o _ e n => u.free b o e n (by simp)) (fun b o _ e => u.there b o e (by simp)) u.tups u.frzs u.tbls (fun m' hm => by
    obtain ⟨o', es', ep', ho', r'⟩ := hm
    rw [ho] at ho'; cases ho'
    exact ⟨_, es', ep', hL, r'⟩) hok I.bare
/-- behind a call (or a comprehension's block): the slots of this frame may have changed too, the records at ch may have turned -/
theorem Inv.call {g' : Array GenState} {t' : Nat} {d' : Drawn} {ch : List Addr} (I : Inv X pins σ H s) (u : Un (frs X.stack) ch H H' s.heap h') (hok : HOk X.prog X.w H' h') (hg : AllBare g')
    (hch : ∀ b ∈ ch, (b ∈ X.ex ∨ X.s₀.heap.objs.size ≤ b) ∧ b ≠ X.env.locals ∧ (∀ x c, X.env.cells.lookup x = some c → c ≠ b) ∧ ∀ p ∈ X.pn ++ pins, p.1 ≠ b) :
    Inv X pins σ H' { s with heap := h', gens := g', drawn := d', toks := t' } := by
  obtain ⟨m, ⟨o, es, ep, ho, r⟩, _⟩ := id I.loc
  obtain ⟨sl, hL⟩ := u.any ho I.free fun z => (hch _ z).2.1 rfl
  exact I.step (ch := ch) hch (fun b o hL hb hc e n => u.keep b o e n (fun z => (List.mem_cons.mp (I.stkSub b z)).elim hL hb) hc) (fun b o _ _ hc e n => u.any e n hc) (fun b o hc e n => u.free b o e n hc) (fun b o hc e => u.there b o e hc) u.tups u.frzs u.tbls (fun m' hm => by
    obtain ⟨o', es', ep', ho', r'⟩ := hm
    rw [ho] at ho'; cases ho'
    exact ⟨_, es', ep', hL, r'⟩) hok hg
/-- an untracked record of ours (an iterator) has turned -/
theorem Inv.turned {t' : Nat} {it : Addr} (I : Inv X pins σ H s) (k : ∀ b o, b ≠ it → s.heap.get? b = some o → h'.get? b = some o) (hn : H it = none) (hL : it ≠ X.env.locals)
    (h1 : it ∈ X.ex ∨ X.s₀.heap.objs.size ≤ it) (h2 : ∀ x c, X.env.cells.lookup x = some c → c ≠ it) (h3 : ∀ p ∈ X.pn ++ pins, p.1 ≠ it) : Inv X pins σ H { s with heap := h', toks := t' } := by
  have nit : ∀ b u, H b = some u → b ≠ it := fun b u e z => by rw [z, hn] at e; cases e
  refine I.step (g' := s.gens) (d' := s.drawn) (ch := [it]) (fun b hb => ?_) (fun b o _ _ hc e _ => k b o (fun z => hc (by simp [z])) e) (fun b o _ _ hc e _ => ⟨o.slots, k b o (fun z => hc (by simp [z])) e⟩) (fun _ _ _ _ n => n)
    (fun b o hc e => ⟨o, k b o (fun z => hc (by simp [z])) e⟩) (fun _ _ e => e) (fun _ _ _ e => e) (fun b ps e => ⟨#[], by rw [e]; simp⟩) (fun m hm => ?_) (fun b u e => ?_) I.bare
  · have e : b = it := by simpa using hb
    subst e
    exact ⟨h1, hL, h2, h3⟩
  · obtain ⟨o, es, ep, ho, r⟩ := hm
    exact ⟨o, es, ep, k _ o (Ne.symm hL) ho, r⟩
  · refine (I.hok b u e).stay (fun c v hc q => k c v ?_ q) (fun _ q => q) fun _ _ q => q
    rcases hc with z | z
    · rw [z]; exact nit b u e
    · exact nit c _ z
theorem Inv.tok (I : Inv X pins σ H s) (t : Nat) : Inv X pins σ H { s with toks := t } := I.un (h' := s.heap) (t' := t) Un.refl I.hok
/-- all objects kept -/
theorem Inv.kept {t' : Nat} (I : Inv X pins σ H s) (k : ∀ b u, s.heap.get? b = some u → h'.get? b = some u) : Inv X pins σ H { s with heap := h', toks := t' } := I.un (Un.kept k) (I.hok.kept k)
/-- a new object laid and tracked -/
theorem Inv.laid {a : Addr} {o : HO} {t' : Nat} (I : Inv X pins σ H s) (k : ∀ b u, s.heap.get? b = some u → h'.get? b = some u) (hp : s.heap.objs.size ≤ a) (new : ObjOk X.prog X.w (upd H a o) h' a o) :
    Inv X pins σ (upd H a o) { s with heap := h', toks := t' } := I.un (Un.laid k hp (I.hok.fresh hp)) (I.hok.laid k hp new)
/-- an object written -/
theorem Inv.write {x e : Addr} {o : HO} {t' : Nat} (I : Inv X pins σ H s) (mu : Mut (H x)) (he : e = x ∨ H e = some (.own x)) (k : ∀ b u, b ≠ e → s.heap.get? b = some u → h'.get? b = some u) (heo : ∃ u, h'.get? e = some u)
    (new : ObjOk X.prog X.w (upd H x o) h' x o) : Inv X pins σ (upd H x o) { s with heap := h', toks := t' } := I.un (Un.write mu he k heo) (I.hok.write mu he k heo new)
/-- forgetting slots, pins -/
theorem Inv.weak {σ' : List (Option V)} (I : Inv X pins σ H s) (hl : σ'.length = σ.length) (w : ∀ (i : Nat) v, σ'[i]? = some (some v) → σ[i]? = some (some v)) : Inv X pins σ' H s :=
  ⟨I.ok, I.os, I.bare, I.base, let ⟨m, hn, hl'⟩ := I.loc; ⟨m, hn, fun i x v e1 e2 e3 => hl' i x v e1 (w i v e2) e3⟩, I.cell, I.free, I.freeC, I.pin, I.hok, hl.trans I.len⟩
theorem Inv.pins_of {pins' : List (Addr × Obj)} (I : Inv X pins σ H s) (h : ∀ p ∈ pins', s.heap.get? p.1 = some p.2 ∧ H p.1 = none ∧ p.1 ≠ X.env.locals ∧ p.1 ∉ X.fs ∧ ∀ v, p.2.data ≠ .cell v) : Inv X pins' σ H s :=
  ⟨I.ok, I.os, I.bare, I.base, I.loc, I.cell, I.free, I.freeC, fun p hp => (List.mem_append.mp hp).elim (fun z => I.pin p (List.mem_append_left _ z)) (h p), I.hok, I.len⟩

theorem nodup_ix {N : List Str} (hN : N.Nodup) {i j : Nat} {x : Str} (a : N[i]? = some x) (b : N[j]? = some x) : i = j := by
  obtain ⟨h1, e1⟩ := List.getElem?_eq_some_iff.mp a
  obtain ⟨h2, e2⟩ := List.getElem?_eq_some_iff.mp b
  exact (List.getElem_inj hN).mp (e1.trans e2.symm)

/-- a name is stored; what changed -/
theorem store_ok2 {M : Model} {A : Around} {E : Value → Shared → Prop} {i : Nat} {x : Str} {v : V} {u : Value} {Q : Unit → Shared → Prop} (I : Inv X pins σ H s) (hN : X.N.Nodup) (hi : X.N[i]? = some x) (hx : Loc X.env.scope x) (r : RelV v u)
    (h : ∀ s', Inv X pins (σ.set i (some v)) H s' → (∃ a, Heap.SameBut a s.heap s'.heap ∧ (a = X.env.locals ∨ X.env.cells.lookup x = some a)) → Q () s') (hf : X.fn x = true ∨ X.env.scope.names.lookup x = some .local := by first | exact .inl rfl | exact .inr rfl | assumption) : wpAny M A (storeName X.env x u) Q E s := by
  obtain ⟨m, hn, hl⟩ := id I.loc
  have hcls : (X.env.scope.kind == .class || (X.env.scope.kind == .module && X.env.locals != X.env.globals)) = false := by rw [I.ok.kind]; rfl
  have hiσ : i < σ.length := by rw [I.len]; exact (List.getElem?_eq_some_iff.mp hi).1
  have cne := I.cne
  have tracked : ∀ {a : Addr} {h' : Heap}, (∃ o, s.heap.get? a = some o ∧ H a = none) → Heap.SameBut a s.heap h' → HOk X.prog X.w H h' := fun {a h'} ha hs b ob e => by
    obtain ⟨_, _, hfree⟩ := ha
    refine (I.hok b ob e).stay (fun c w' hc q => (hs.2 c ?_).trans q) (fun _ q => q) fun _ _ q => q
    rintro rfl
    rcases hc with rfl | hc
    · rw [hfree] at e; cases e
    · rw [hfree] at hc; cases hc
  rcases hx with hk | hk
  · refine wpAny_storeName_local hk hn (fun h' hn' hs => ?_) hcls
    obtain ⟨oL, _, _, hoL, _⟩ := id hn
    refine h _ ⟨I.ok, I.os, I.bare, ⟨fun b o e n hb hx => ?_, fun b o e n hb hx => ?_, I.base.free, fun b o e hx => ?_, I.base.tups, I.base.frzs, I.base.tbls⟩, ⟨_, hn', fun j y v' e1 e2 e3 => ?_⟩, fun y c e => ?_, I.free, I.freeC, fun p hp => ?_, tracked ⟨oL, hoL, I.free⟩ hs, by simpa using I.len⟩ ⟨_, hs, .inl rfl⟩
    · exact (hs.2 b (Nat.ne_of_lt (Nat.lt_of_lt_of_le (Heap.lt_size e) I.ok.above))).trans (I.base.keep b o e n hb hx)
    · obtain ⟨sl, e1⟩ := I.base.slot b o e n hb hx
      exact ⟨sl, (hs.2 b (Nat.ne_of_lt (Nat.lt_of_lt_of_le (Heap.lt_size e) I.ok.above))).trans e1⟩
    · obtain ⟨o', e1⟩ := I.base.there b o e hx
      exact ⟨o', (hs.2 b (Nat.ne_of_lt (Nat.lt_of_lt_of_le (Heap.lt_size e) I.ok.above))).trans e1⟩
    · by_cases hj : j = i
      · subst hj
        rw [hi] at e1; cases e1
        rw [List.getElem?_set_self hiσ] at e2
        cases e2
        exact ⟨u, r, .inl ⟨hk, by simp⟩⟩
      · rw [List.getElem?_set_ne (Ne.symm hj)] at e2
        obtain ⟨u', r', q⟩ := hl j y v' e1 e2 e3
        refine ⟨u', r', ?_⟩
        rcases q with ⟨k, e⟩ | ⟨k, c, e, z⟩
        · refine .inl ⟨k, ?_⟩
          have : y ≠ x := fun e => hj (nodup_ix hN e1 (e ▸ hi))
          simp [this, e]
        · exact .inr ⟨k, c, e, z.sameBut hs (cne y c e)⟩
    · obtain ⟨w', z⟩ := I.cell y c e
      exact ⟨w', z.sameBut hs (cne y c e)⟩
    · obtain ⟨e, n, ne, nf, d⟩ := I.pin p hp
      exact ⟨(hs.2 p.1 ne).trans e, n, ne, nf, d⟩
  · have hfn : X.fn x = true := by
      rcases hf with z | z
      · exact z
      · rw [z] at hk; cases hk
    obtain ⟨c, hc⟩ := I.ok.has x (.inl hk)
    obtain ⟨w', z⟩ := I.cell x c hc
    refine wpAny_storeName_cell I.ok.kind hk hc z (fun h' hc' hs => ?_)
    obtain ⟨oc, hoc, hocd⟩ := id z
    refine h { s with heap := h' } ⟨I.ok, I.os, I.bare, ⟨fun b o e n hb hx => ?_, fun b o e n hb hx => ?_, I.base.free, fun b o e hx => ?_, I.base.tups, I.base.frzs, I.base.tbls⟩, ⟨m, hn.sameBut hs (Ne.symm (cne x c hc)), fun j y v' e1 e2 e3 => ?_⟩, fun y c' e => ?_, I.free, I.freeC, fun p hp => ?_, tracked ⟨oc, hoc, I.freeC x c hc⟩ hs, by simpa using I.len⟩ ⟨c, hs, .inr hc⟩
    · exact (hs.2 b (Nat.ne_of_lt (Nat.lt_of_lt_of_le (Heap.lt_size e) (I.ok.cab x c hfn hc)))).trans (I.base.keep b o e n hb hx)
    · obtain ⟨sl, e1⟩ := I.base.slot b o e n hb hx
      exact ⟨sl, (hs.2 b (Nat.ne_of_lt (Nat.lt_of_lt_of_le (Heap.lt_size e) (I.ok.cab x c hfn hc)))).trans e1⟩
    · obtain ⟨o', e1⟩ := I.base.there b o e hx
      exact ⟨o', (hs.2 b (Nat.ne_of_lt (Nat.lt_of_lt_of_le (Heap.lt_size e) (I.ok.cab x c hfn hc)))).trans e1⟩
    · by_cases hj : j = i
      · subst hj
        rw [hi] at e1; cases e1
        rw [List.getElem?_set_self hiσ] at e2
        cases e2
        exact ⟨u, r, .inr ⟨.inl hk, c, hc, hc'⟩⟩
      · rw [List.getElem?_set_ne (Ne.symm hj)] at e2
        obtain ⟨u', r', q⟩ := hl j y v' e1 e2 e3
        refine ⟨u', r', ?_⟩
        rcases q with q | ⟨k, c', e, z'⟩
        · exact .inl q
        · refine .inr ⟨k, c', e, z'.sameBut hs ?_⟩
          rintro rfl
          exact hj (nodup_ix hN e1 (I.ok.inj _ _ _ e hc ▸ hi))
    · by_cases hcc : c' = c
      · subst hcc; exact ⟨_, hc'⟩
      · obtain ⟨w2, z2⟩ := I.cell y c' e
        exact ⟨w2, z2.sameBut hs hcc⟩
    · obtain ⟨e, n, ne, nf, d⟩ := I.pin p hp
      refine ⟨(hs.2 p.1 ?_).trans e, n, ne, nf, d⟩
      intro q
      rw [q, hoc] at e
      have q' : oc = p.2 := Option.some.inj e
      exact d w' (by rw [← q']; exact hocd)
theorem store_ok {M : Model} {A : Around} {E : Value → Shared → Prop} {i : Nat} {x : Str} {v : V} {u : Value} {Q : Unit → Shared → Prop} (I : Inv X pins σ H s) (hN : X.N.Nodup) (hi : X.N[i]? = some x) (hx : Loc X.env.scope x) (r : RelV v u)
    (h : ∀ s', Inv X pins (σ.set i (some v)) H s' → Q () s') (hf : X.fn x = true ∨ X.env.scope.names.lookup x = some .local := by first | exact .inl rfl | exact .inr rfl | assumption) : wpAny M A (storeName X.env x u) Q E s :=
  store_ok2 I hN hi hx r (fun s' I' _ => h s' I') hf
/-- behind a call or a block, the state as it is -/
theorem Inv.call' {s' : Shared} {ch : List Addr} (I : Inv X pins σ H s) (ho : s'.os = s.os) (u : Un (frs X.stack) ch H H' s.heap s'.heap) (hok : HOk X.prog X.w H' s'.heap) (hg : AllBare s'.gens)
    (hch : ∀ b ∈ ch, (b ∈ X.ex ∨ X.s₀.heap.objs.size ≤ b) ∧ b ≠ X.env.locals ∧ (∀ x c, X.env.cells.lookup x = some c → c ≠ b) ∧ ∀ p ∈ X.pn ++ pins, p.1 ≠ b) : Inv X pins σ H' s' := by
  obtain ⟨h', g', d', t', o'⟩ := s'
  have e : o' = s.os := ho
  subst e
  exact I.call (g' := g') (t' := t') (d' := d') u hok hg hch
end

/-- an exception: its class, its own dict's address (where it has one), the abstract heap behind it -/
noncomputable abbrev XK := Value → Option Addr → Hp → Prop
noncomputable abbrev St := List (Option V)
noncomputable abbrev VK := V → Hp → Prop
/-- an expression's reading; a test's; an argument list's -/
noncomputable abbrev TE := St → Hp → VK → Prop
noncomputable abbrev TT := St → Hp → (Bool → Hp → Prop) → Prop
noncomputable abbrev TA := St → Hp → (List V → Hp → Prop) → Prop
/-- what is wanted behind a statement -/
structure Ends where
  nx : St → Hp → Prop
  rt : VK
  bk : St → Hp → Prop := fun _ _ => False
  ct : St → Hp → Prop := fun _ _ => False
noncomputable abbrev TS := Ends → St → Hp → Prop

noncomputable def EP (X : Cx) (pins : List (Addr × Obj)) (σ : St) (Q : VK) (u : Value) (s' : Shared) : Prop := ∃ v H', Inv X pins σ H' s' ∧ RelV v u ∧ Q v H'
noncomputable def TP (X : Cx) (pins : List (Addr × Obj)) (σ : St) (Q : Bool → Hp → Prop) (b : Bool) (s' : Shared) : Prop := ∃ H', Inv X pins σ H' s' ∧ Q b H'
noncomputable def AP (X : Cx) (pins : List (Addr × Obj)) (σ : St) (Q : List V → Hp → Prop) (us : List Value) (s' : Shared) : Prop := ∃ vs H', Inv X pins σ H' s' ∧ Vals vs us ∧ Q vs H'
noncomputable def SP (X : Cx) (pins : List (Addr × Obj)) (D : Ends) (f : Flow) (s' : Shared) : Prop :=
  match f with
  | .next => ∃ σ' H', Inv X pins σ' H' s' ∧ D.nx σ' H'
  | .brk => ∃ σ' H', Inv X pins σ' H' s' ∧ D.bk σ' H'
  | .cont => ∃ σ' H', Inv X pins σ' H' s' ∧ D.ct σ' H'
  | .ret u => ∃ v σ' H', Inv X pins σ' H' s' ∧ RelV v u ∧ D.rt v H'

noncomputable def PE (X : Cx) (e : Expr) (t : TE) : Prop :=
  ∀ (pins : List (Addr × Obj)) (s : Shared) (σ : St) (H : Hp) (Q : VK), Inv X pins σ H s → t σ H Q → wpAny (model X.prog X.w) X.A (eval e X.env) (EP X pins σ Q) X.xe s
noncomputable def PT (X : Cx) (e : Expr) (t : TT) : Prop :=
  ∀ (pins : List (Addr × Obj)) (s : Shared) (σ : St) (H : Hp) (Q : Bool → Hp → Prop), Inv X pins σ H s → t σ H Q → wpAny (model X.prog X.w) X.A (isTrue e X.env (eval e X.env)) (TP X pins σ Q) X.xe s
/-- a test whatever its 'whole' is (and, or) -/
noncomputable def PW (X : Cx) (e : Expr) (t : TT) : Prop :=
  ∀ (whole : Sem Value) (pins : List (Addr × Obj)) (s : Shared) (σ : St) (H : Hp) (Q : Bool → Hp → Prop), Inv X pins σ H s → t σ H Q → wpAny (model X.prog X.w) X.A (isTrue e X.env whole) (TP X pins σ Q) X.xe s
theorem PW.pt {X : Cx} {e : Expr} {t : TT} (h : PW X e t) : PT X e t := h _
/-- an argument list (no star), from the left -/
noncomputable def PA (X : Cx) (es : List Expr) (t : TA) : Prop :=
  ∀ (pos : Pos) (pins : List (Addr × Obj)) (s : Shared) (σ : St) (H : Hp) (Q : List V → Hp → Prop), Inv X pins σ H s → t σ H Q → wpAny (model X.prog X.w) X.A (spliced (backTo pos (starEach es X.env))) (AP X pins σ Q) X.xe s
noncomputable def PS (X : Cx) (st : Stmt) (t : TS) : Prop :=
  ∀ (pins : List (Addr × Obj)) (s : Shared) (σ : St) (H : Hp) (D : Ends), Inv X pins σ H s → t D σ H → wpAny (model X.prog X.w) X.A (exec st X.env) (SP X pins D) X.xe s
noncomputable def PSs (X : Cx) (st : List Stmt) (t : TS) : Prop :=
  ∀ (pins : List (Addr × Obj)) (s : Shared) (σ : St) (H : Hp) (D : Ends), Inv X pins σ H s → t D σ H → wpAny (model X.prog X.w) X.A (execs st X.env) (SP X pins D) X.xe s
/-- weaken the end -/
theorem thn {α : Type} {t : Sem α} {Q Q' : α → Shared → Prop} {M : Model} {A : Around} {E : Value → Shared → Prop} {s : Shared} (h : wpAny M A t Q E s) (hQ : ∀ a s, Q a s → Q' a s) : wpAny M A t Q' E s := wpAny_mono h hQ fun _ _ x => x
end L2

namespace L2
open PySem PySem.Spec PyProof.Rows
section
variable {X : Cx}

noncomputable def tVar (i : Nat) : TE := fun σ H Q => ∃ v, σ[i]? = some (some v) ∧ Q v H
noncomputable def tC (v : V) : TE := fun _ H Q => Q v H
theorem pe_var {i : Nat} {x : Str} {pos : Pos} (hN : X.N[i]? = some x) (hv : Vis X.env.scope x) (hd : (x == ("__debug__" : Str)) = false := by decide) (hcd : (x == ("__classdict__" : Str)) = false := by decide) : PE X (.Name x pos) (tVar i) := by
  intro pins s σ H Q I h
  obtain ⟨v, e, h⟩ := h
  obtain ⟨m, hn, hl⟩ := I.loc
  obtain ⟨u, r, l⟩ := hl i x v hN e hv
  have fin : EP X pins σ Q u s := ⟨v, H, I, r, h⟩
  rcases l with ⟨hk, hm⟩ | ⟨hk, c, hc, hcell⟩
  · exact wpAny_Name (wpAny_loadName_local I.ok.kind hk hn hm fin) hd
  · rcases hk with hk | hk
    · exact wpAny_Name (wpAny_loadName_cell I.ok.kind hk hc hcell fin) hd
    · exact wpAny_Name (wpAny_loadName_free I.ok.kind hk hc hcell fin hcd) hd
theorem pe_int {i j pos} : PE X (.Constant (.int i) j pos) (tC (.int i)) := fun _ _ _ H _ I h => wpAny_Constant_int ⟨.int i, H, I.tok _, ⟨_, rfl⟩, h⟩
theorem pe_bl {b j pos} : PE X (.Constant (.bool b) j pos) (tC (.bl b)) := fun _ _ _ H _ I h => Constant_bool ⟨.bl b, H, I, rfl, h⟩
theorem pe_str {x j pos} : PE X (.Constant (.str x) j pos) (tC (.str x)) := fun _ _ _ H _ I h => Calls.Constant_str ⟨.str x, H, I.tok _, ⟨_, rfl⟩, h⟩

/-- a global name of the def -/
noncomputable def Gl (X : Cx) (x : Str) : Prop := X.env.kindOf x = some .globalImplicit
theorem ld_glob {E : Value → Shared → Prop} {pins : List (Addr × Obj)} {s : Shared} {σ : St} {H : Hp} {x : Str} {u : Value} {pos : Pos} {Q : Value → Shared → Prop} (I : Inv X pins σ H s) (hg : Gl X x) (hm : X.mg x = some u) (h : Q u s)
    (hd : (x == ("__debug__" : Str)) = false := by decide) : wpAny (model X.prog X.w) X.A (eval (.Name x pos) X.env) Q E s :=
  Calls.Name_function_global I.ok.kind hg (Calls.loadGlobal_global (by rw [I.ok.glob]; exact I.mod.glob.keeps I.bk) hm h) hd
theorem ld_blt {E : Value → Shared → Prop} {pins : List (Addr × Obj)} {s : Shared} {σ : St} {H : Hp} {x : Str} {u : Value} {pos : Pos} {Q : Value → Shared → Prop} (I : Inv X pins σ H s) (hg : Gl X x) (hm : X.mg x = none) (hv : bootBuiltins x = some u) (h : Q u s)
    (hn : x ≠ "__name__" := by decide) (hd : (x == ("__debug__" : Str)) = false := by decide) : wpAny (model X.prog X.w) X.A (eval (.Name x pos) X.env) Q E s := by
  obtain ⟨mb, h1, h2⟩ := I.mod.blt
  exact Calls.Name_function_global I.ok.kind hg (Calls.loadGlobal_builtin (by rw [I.ok.glob]; exact I.mod.glob.keeps I.bk) hm (by rw [I.ok.blt]; exact h1.keeps I.bk) ((h2 x hn).trans hv) h) hd
theorem pe_bltn {x : Str} {v : V} {u : Value} {pos : Pos} (hg : Gl X x) (hm : X.mg x = none) (hv : bootBuiltins x = some u) (r : RelV v u) (hn : x ≠ "__name__" := by decide) (hd : (x == ("__debug__" : Str)) = false := by decide) : PE X (.Name x pos) (tC v) :=
  fun _ _ _ H _ I h => ld_blt I hg hm hv ⟨v, H, I, r, h⟩ hn hd

variable {a b : Expr} {ta tb : TE} {pos : Pos}
variable {tA tB' : TT} {rest : List Expr}
noncomputable def tAnd (t u : TT) : TT := fun σ H Q => t σ H fun c H1 => if c = true then u σ H1 Q else Q false H1
noncomputable def tOr (t u : TT) : TT := fun σ H Q => t σ H fun c H1 => if c = true then Q true H1 else u σ H1 Q
noncomputable def tNot (t : TT) : TT := fun σ H Q => t σ H fun c H1 => Q (!c) H1
theorem pw_and1 (ha : PT X a tA) : PW X (.BoolOp .And [a] pos) tA := by
  intro wh pins s σ H Q I h
  refine isTrue_and (thn (ha pins s σ H Q I h) fun c s1 e => ?_)
  cases c with
  | true => exact isTrue_and_nil e
  | false => exact e
theorem pw_or1 (ha : PT X a tA) : PW X (.BoolOp .Or [a] pos) tA := by
  intro wh pins s σ H Q I h
  refine isTrue_or (thn (ha pins s σ H Q I h) fun c s1 e => ?_)
  cases c with
  | false => exact isTrue_or_nil e
  | true => exact e
theorem pw_and (ha : PT X a tA) (hb : PW X (.BoolOp .And (b :: rest) pos) tB') : PW X (.BoolOp .And (a :: b :: rest) pos) (tAnd tA tB') := by
  intro wh pins s σ H Q I h
  refine isTrue_and (thn (ha pins s σ H _ I h) fun c s1 ⟨H1, I1, q1⟩ => ?_)
  cases c with
  | true => exact hb wh pins s1 σ H1 Q I1 q1
  | false => exact ⟨H1, I1, q1⟩
theorem pw_or (ha : PT X a tA) (hb : PW X (.BoolOp .Or (b :: rest) pos) tB') : PW X (.BoolOp .Or (a :: b :: rest) pos) (tOr tA tB') := by
  intro wh pins s σ H Q I h
  refine isTrue_or (thn (ha pins s σ H _ I h) fun c s1 ⟨H1, I1, q1⟩ => ?_)
  cases c with
  | true => exact ⟨H1, I1, q1⟩
  | false => exact hb wh pins s1 σ H1 Q I1 q1
theorem pt_not (ha : PT X a tA) : PT X (.UnaryOp .Not a pos) (tNot tA) := by
  intro pins s σ H Q I h
  exact isTrue_not (ha pins s σ H (fun c H1 => Q (!c) H1) I h)
end
end L2

namespace L2
open PySem PySem.Spec PyProof.Rows

noncomputable def SqL (K : PySem.W.Frag) (H : Hp) (a : Addr) (xs : List V) : Prop :=
  Rd H a (.lst xs) ∨
    ∃ (o : Obj) (its : Array Value) (n : Nat), K.lookup a = some o ∧ o.cls = .type "list" ∧ o.dict = none ∧ o.data = .seq its n ∧ its.size ≤ sizeLine ∧ Vals xs its.toList
noncomputable def SqT (K : PySem.W.Frag) (H : Hp) (a : Addr) (xs : List V) : Prop :=
  Rd H a (.tup xs) ∨
    ∃ (o : Obj) (its : Array Value) (n : Nat), K.lookup a = some o ∧ o.cls = .type "tuple" ∧ o.data = .seq its n ∧ its.size ≤ sizeLine ∧ Vals xs its.toList
noncomputable def absV : Value → Option V
  | .none => some .non
  | .bool b => some (.bl b)
  | .int i _ => some (.int i)
  | .str x _ => some (.str x)
  | .bytes b _ => some (.byt b)
  | .float b _ => some (.flt b)
  | .ref a => some (.ref a)
  | .type n => some (.ty n)
  | _ => none
theorem RelV.abs {x : V} {u : Value} (r : RelV x u) : absV u = some x := by
  cases x with
  | non => cases r; rfl
  | bl _ => cases r; rfl
  | int _ => obtain ⟨t, rfl⟩ := r; rfl
  | str _ => obtain ⟨t, rfl⟩ := r; rfl
  | byt _ => obtain ⟨t, rfl⟩ := r; rfl
  | flt _ => obtain ⟨t, rfl⟩ := r; rfl
  | ref _ => cases r; rfl
  | ty _ => cases r; rfl
theorem RelV.inj {x y : V} {u : Value} (r : RelV x u) (q : RelV y u) : x = y := Option.some.inj (r.abs.symm.trans q.abs)
theorem Vals.inj : ∀ {xs ys : List V} {us : List Value}, Vals xs us → Vals ys us → xs = ys
  | _, _, _, .nil, .nil => rfl
  | _, _, _, .cons r t, .cons r' t' => by rw [r.inj r', Vals.inj t t']
section
variable {X : Cx} {pins : List (Addr × Obj)} {σ : St} {H : Hp} {s : Shared} {a : Addr} {xs ys : List V}
theorem SqL.of {K : PySem.W.Frag} (h : H a = some (.lst xs)) : SqL K H a xs := .inl (.inl h)
theorem SqT.of {K : PySem.W.Frag} (h : H a = some (.tup xs)) : SqT K H a xs := .inl (.inl h)
theorem Inv.list (I : Inv X pins σ H s) (h : SqL X.K H a xs) : ∃ its : List Value, Vals xs its ∧ PlainL s.heap a its.toArray ∧ xs.length ≤ sizeLine := by
  rcases h with h | ⟨o, its, n, hk, hc, hd, hs, hz, r⟩
  · obtain ⟨z, its, n, r, e⟩ := h.ok I.hok
    exact ⟨its, r, ⟨_, n, e, rfl, rfl, rfl⟩, z⟩
  · refine ⟨its.toList, r, ⟨o, n, I.kIn a o hk, hc, hd, by simpa using hs⟩, ?_⟩
    have e := r.length
    simp only [Array.length_toList] at e
    omega
theorem Inv.tuple (I : Inv X pins σ H s) (h : SqT X.K H a xs) : ∃ its : List Value, Vals xs its ∧ IsTup s.heap a its.toArray ∧ xs.length ≤ sizeLine := by
  rcases h with h | ⟨o, its, n, hk, hc, hs, hz, r⟩
  · obtain ⟨z, its, r, p⟩ := h.ok I.hok
    exact ⟨its, r, p.1, z⟩
  · refine ⟨its.toList, r, ⟨o, I.kIn a o hk, hc, n, by simpa using hs⟩, ?_⟩
    have e := r.length
    simp only [Array.length_toList] at e
    omega
theorem Inv.list_inj (I : Inv X pins σ H s) (h : SqL X.K H a xs) (h' : SqL X.K H a ys) : xs = ys := by
  obtain ⟨its, r, ⟨o, n, e, _, _, d⟩, _⟩ := I.list h
  obtain ⟨its', r', ⟨o', n', e', _, _, d'⟩, _⟩ := I.list h'
  rw [e] at e'; cases e'
  rw [d] at d'
  injection d' with d1 _
  have : its = its' := by simpa using congrArg Array.toList d1
  subst this
  exact r.inj r'
theorem Inv.tuple_inj (I : Inv X pins σ H s) (h : SqT X.K H a xs) (h' : SqT X.K H a ys) : xs = ys := by
  obtain ⟨its, r, ⟨o, e, _, n, d⟩, _⟩ := I.tuple h
  obtain ⟨its', r', ⟨o', e', _, n', d'⟩, _⟩ := I.tuple h'
  rw [e] at e'; cases e'
  rw [d] at d'
  injection d' with d1 _
  have : its = its' := by simpa using congrArg Array.toList d1
  subst this
  exact r.inj r'
end

noncomputable abbrev Cx.wish (X : Cx) (E : Value → Shared → Prop) : Cx := { X with xe := E }
/-- no exception leaves -/
noncomputable abbrev Cx.nox (X : Cx) : Cx := X.wish fun _ _ => False
theorem Cx.Ok.wish {X : Cx} (ok : X.Ok) (E : Value → Shared → Prop) : (X.wish E).Ok :=
  ⟨ok.mod, ok.kind, ok.glob, ok.blt, ok.above, ok.inj, ok.has, ok.cab, ok.hd, ok.frames, ok.stk, ok.exf, ok.bs, ok.bsz, ok.noex, ok.exfs, ok.funs, ok.frf⟩
theorem Cx.Ok.unwish {X : Cx} {E : Value → Shared → Prop} (ok : (X.wish E).Ok) : X.Ok :=
  ⟨ok.mod, ok.kind, ok.glob, ok.blt, ok.above, ok.inj, ok.has, ok.cab, ok.hd, ok.frames, ok.stk, ok.exf, ok.bs, ok.bsz, ok.noex, ok.exfs, ok.funs, ok.frf⟩
section
variable {X : Cx} {pins : List (Addr × Obj)} {σ : St} {H : Hp} {s : Shared} {E : Value → Shared → Prop}
theorem Inv.wish (I : Inv X pins σ H s) (E : Value → Shared → Prop) : Inv (X.wish E) pins σ H s := ⟨I.ok.wish E, I.os, I.bare, I.base, I.loc, I.cell, I.free, I.freeC, I.pin, I.hok, I.len⟩
theorem Inv.unwish (I : Inv (X.wish E) pins σ H s) : Inv X pins σ H s := ⟨I.ok.unwish, I.os, I.bare, I.base, I.loc, I.cell, I.free, I.freeC, I.pin, I.hok, I.len⟩
theorem SP.unwish {D : Ends} {f : Flow} {s' : Shared} (h : SP (X.wish E) pins D f s') : SP X pins D f s' := by
  cases f with
  | next => obtain ⟨σ', H', I, q⟩ := h; exact ⟨σ', H', I.unwish, q⟩
  | brk => obtain ⟨σ', H', I, q⟩ := h; exact ⟨σ', H', I.unwish, q⟩
  | cont => obtain ⟨σ', H', I, q⟩ := h; exact ⟨σ', H', I.unwish, q⟩
  | ret u => obtain ⟨v, σ', H', I, r, q⟩ := h; exact ⟨v, σ', H', I.unwish, r, q⟩
theorem PE.nox {e : Expr} {t : TE} (h : PE X.nox e t) : PE X e t := fun pins s σ H Q I hw =>
  wpAny_mono (h pins s σ H Q (I.wish _) hw) (fun _ _ ⟨v, H', I', r, q⟩ => ⟨v, H', I'.unwish, r, q⟩) fun _ _ z => False.elim z
theorem PT.nox {e : Expr} {t : TT} (h : PT X.nox e t) : PT X e t := fun pins s σ H Q I hw =>
  wpAny_mono (h pins s σ H Q (I.wish _) hw) (fun _ _ ⟨H', I', q⟩ => ⟨H', I'.unwish, q⟩) fun _ _ z => False.elim z
theorem PSs.nox {st : List Stmt} {t : TS} (h : PSs X.nox st t) : PSs X st t := fun pins s σ H D I hw =>
  wpAny_mono (h pins s σ H D (I.wish _) hw) (fun _ _ q => q.unwish) fun _ _ z => False.elim z
end

section
variable {X : Cx} {st : Stmt} {rest : List Stmt} {t u : TS} {e : Expr} {te : TE} {pos : Pos}
noncomputable def tNext : TS := fun D σ H => D.nx σ H
noncomputable def tSeq (t u : TS) : TS := fun D σ H => t { D with nx := u D } σ H
theorem pss_nil : PSs X [] tNext := fun _ _ σ H _ I h => wpAny_execs_nil ⟨σ, H, I, h⟩
theorem pss_cons (h1 : PS X st t) (h2 : PSs X rest u) : PSs X (st :: rest) (tSeq t u) := by
  intro pins s σ H D I h
  refine wpAny_execs_cons (thn (h1 pins s σ H { D with nx := u D } I h) fun f s1 q => ?_)
  cases f with
  | next =>
    obtain ⟨σ', H', I', q⟩ := q
    exact h2 pins s1 σ' H' D I' q
  | ret v => exact q
  | brk => exact q
  | cont => exact q
theorem pss_one (h1 : PS X st t) : PSs X [st] t := by
  intro pins s σ H D I h
  refine wpAny_execs_cons (thn (h1 pins s σ H D I h) fun f s1 q => ?_)
  cases f with
  | next => exact wpAny_execs_nil q
  | ret v => exact q
  | brk => exact q
  | cont => exact q
/-- in a def's body nothing is shown -/
theorem Inv.quiet {pins : List (Addr × Obj)} {σ : St} {H : Hp} {s : Shared} (I : Inv X pins σ H s) : interactive X.env = false := by simp [interactive, I.ok.kind]
/-- an expression whose value is dropped -/
noncomputable def tDrop (te : TE) : TS := fun D σ H => te σ H fun _ H1 => D.nx σ H1
theorem ps_expr (he : PE X e te) (hs : swapsWith e none pos.line X.env = pure false := by rfl) : PS X (.Expr e pos) (tDrop te) := by
  intro pins s σ H D I h
  exact wpAny_Expr_any (thn (he pins s σ H _ I h) fun v s1 ⟨x, H1, I1, r1, q1⟩ => ⟨σ, H1, I1, q1⟩) I.quiet hs
noncomputable def tRet (te : TE) : TS := fun D σ H => te σ H D.rt
theorem ps_ret (he : PE X e te) : PS X (.Return (some e) pos) (tRet te) := by
  intro pins s σ H D I h
  exact wpAny_Return_some (thn (he pins s σ H _ I h) fun v s1 ⟨x, H1, I1, r1, q1⟩ => ⟨x, σ, H1, I1, r1, q1⟩)
noncomputable def tIfS (c : TT) (t u : TS) : TS := fun D σ H => c σ H fun b H1 => if b = true then t D σ H1 else u D σ H1
theorem ps_if {c : Expr} {a b : List Stmt} {tc : TT} (hc : PT X c tc) (ha : PSs X a t) (hb : PSs X b u) : PS X (.If c a b pos) (tIfS tc t u) := by
  intro pins s σ H D I h
  refine wpAny_If (thn (hc pins s σ H _ I h) fun d s1 ⟨H1, I1, q1⟩ => ?_)
  cases d with
  | true => exact ha pins s1 σ H1 D I1 q1
  | false => exact hb pins s1 σ H1 D I1 q1
end

noncomputable abbrev TG := V → St → Hp → (St → Hp → Prop) → Prop
noncomputable abbrev TGs := List V → St → Hp → (St → Hp → Prop) → Prop
noncomputable def PG (X : Cx) (target : Expr) (t : TG) : Prop :=
  ∀ (pins : List (Addr × Obj)) (s : Shared) (σ : St) (H : Hp) (v : V) (u : Value) (Q : St → Hp → Prop), Inv X pins σ H s → RelV v u → t v σ H Q →
    wpAny (model X.prog X.w) X.A (assign target X.env u) (fun _ s' => ∃ σ' H', Inv X pins σ' H' s' ∧ Q σ' H') X.xe s
/-- several targets, one after another -/
noncomputable def PGs (X : Cx) (ts : List Expr) (t : TGs) : Prop :=
  ∀ (pins : List (Addr × Obj)) (s : Shared) (σ : St) (H : Hp) (vs : List V) (us : List Value) (Q : St → Hp → Prop), Inv X pins σ H s → Vals vs us → t vs σ H Q →
    wpAny (model X.prog X.w) X.A (assignInOrder ((assignEach ts X.env).map (·.2)) us) (fun _ s' => ∃ σ' H', Inv X pins σ' H' s' ∧ Q σ' H') X.xe s
/-- o[i] = v, by values -/
noncomputable abbrev TSet := V → V → V → Hp → (Hp → Prop) → Prop
noncomputable def PSet (X : Cx) (t : TSet) : Prop :=
  ∀ (pins : List (Addr × Obj)) (s : Shared) (σ : St) (H : Hp) (o i v : V) (ov iv u : Value) (Q : Hp → Prop), Inv X pins σ H s → RelV o ov → RelV i iv → RelV v u → t o i v H Q →
    wpAny (model X.prog X.w) X.A (setItem ov iv u) (fun _ s' => ∃ H', Inv X pins σ H' s' ∧ Q H') X.xe s
section
variable {X : Cx} {pos : Pos}
noncomputable def gName (i : Nat) : TG := fun v σ H Q => Q (σ.set i (some v)) H
theorem pg_name {i : Nat} {x : Str} (hN : X.N.Nodup) (hi : X.N[i]? = some x) (hx : Loc X.env.scope x) (hf : X.fn x = true ∨ X.env.scope.names.lookup x = some .local := by first | exact .inl rfl | exact .inr rfl | assumption) : PG X (.Name x pos) (gName i) := by
  intro pins s σ H v u Q I r h
  exact wpAny_assign_Name (store_ok I hN hi hx r (fun s' I' => ⟨_, H, I', h⟩) hf)
noncomputable def gNil : TGs := fun vs σ H Q => vs = [] ∧ Q σ H
noncomputable def gCons (t : TG) (u : TGs) : TGs := fun vs σ H Q => ∃ v r, vs = v :: r ∧ t v σ H fun σ' H' => u r σ' H' Q
theorem pgs_nil : PGs X [] gNil := by
  intro pins s σ H vs us Q I r h
  obtain ⟨e, h⟩ := h
  subst e
  cases r
  exact assignInOrder_nil ⟨σ, H, I, h⟩
theorem pgs_cons {e : Expr} {es : List Expr} {t : TG} {u : TGs} (h1 : PG X e t) (h2 : PGs X es u)
    (hs : (assignEach (e :: es) X.env).map (·.2) = assign e X.env :: (assignEach es X.env).map (·.2) := by rfl) : PGs X (e :: es) (gCons t u) := by
  intro pins s σ H vs us Q I r h
  obtain ⟨v, vr, e1, h⟩ := h
  subst e1
  cases r with
  | cons r rr =>
    rw [hs]
    refine assignInOrder_cons (thn (h1 pins s σ H _ _ _ I r h) fun _ s1 ⟨σ1, H1, I1, q1⟩ => ?_)
    exact h2 pins s1 σ1 H1 _ _ Q I1 rr q1
/-- (a, b, ..) = a tuple of that length -/
noncomputable def gTup (K : PySem.W.Frag) (n : Nat) (t : TGs) : TG := fun v σ H Q => ∃ a xs, v = .ref a ∧ SqT K H a xs ∧ xs.length = n ∧ t xs σ H Q
theorem pg_tup {es : List Expr} {k : Nat} {t : TGs} {n : Nat} (hc : X.calm = true) (h : PGs X es t)
    (hn : (assignEach es X.env).length = n := by rfl) (hst : (assignEach es X.env).findIdx? (·.1) = none := by rfl) : PG X (.Tuple es k pos) (gTup X.K n t) := by
  intro pins s σ H v u Q I r hw
  obtain ⟨a, xs, e1, hq, hl, hw⟩ := hw
  subst e1
  cases r
  obtain ⟨its, rv, ht, hz⟩ := I.tuple hq
  refine assign_Tuple_tuple (I.ok.hd hc) ht (by simp [hn, ← hl, rv.length]) hst fun h' hx => ?_
  have I1 : Inv X pins σ H { s with heap := h' } := I.kept (t' := s.toks) fun b o e => hx b o (Nat.ne_of_lt (Heap.lt_size e)) e
  exact h pins _ σ H xs _ Q I1 (by simpa using rv) hw
/-- o[i] = .. -/
noncomputable def gSub (to ti : TE) (t : TSet) : TG := fun v σ H Q => to σ H fun o H1 => ti σ H1 fun i H2 => t o i v H2 fun H3 => Q σ H3
theorem pg_sub {o i : Expr} {to ti : TE} {t : TSet} (ho : PE X o to) (hi : PE X i ti) (hs : PSet X t)
    (ha : ∀ v, assign (.Subscript o i pos) X.env v = (do
      let ov ← holding [v] (eval o X.env)
      let iv ← holding [v, ov] (eval i X.env)
      standAt pos
      holding [v, ov, iv] (setItem ov iv v)
      release [v, ov, iv] []) := by intro _; rfl) : PG X (.Subscript o i pos) (gSub to ti t) := by
  intro pins s σ H v u Q I r h
  rw [ha]
  refine wpAny_bind (wpAny_holding (thn (ho pins s σ H _ I h) fun ov s1 ⟨x, H1, I1, r1, q1⟩ => ?_))
  refine wpAny_bind (wpAny_holding (thn (hi pins s1 σ H1 _ I1 q1) fun iv s2 ⟨y, H2, I2, r2, q2⟩ => ?_))
  refine wpAny_bind (wpAny_standAt (wpAny_bind (wpAny_holding (thn (hs pins s2 σ H2 x y v ov iv u _ I2 r1 r2 r q2) fun _ s3 ⟨H3, I3, q3⟩ => ?_))))
  exact wpAny_release ⟨σ, H3, I3, q3⟩
/-- target = value -/
noncomputable def tAsg (te : TE) (g : TG) : TS := fun D σ H => te σ H fun x H1 => g x σ H1 D.nx
theorem ps_asg {tg e : Expr} {te : TE} {g : TG} (he : PE X e te) (hg : PG X tg g) (hs : swapsWithSole [tg] e pos.line X.env = pure false := by rfl) (hw : swappedStores [tg] e X.env = pure none := by rfl)
    (h1 : (assignEach [tg] X.env).map (·.2) = [assign tg X.env] := by rfl) : PS X (.Assign [tg] e pos) (tAsg te g) := by
  intro pins s σ H D I h
  refine wpAny_Assign_stores (thn (he pins s σ H _ I h) fun v s1 ⟨x, H1, I1, r1, q1⟩ => ?_) hs hw
  rw [h1]
  exact thn (hg pins s1 σ H1 x v _ I1 r1 q1) fun _ s2 q => q
/-- name = value -/
theorem ps_set {i : Nat} {x : Str} {e : Expr} {te : TE} {pos' : Pos} (hN : X.N.Nodup) (hi : X.N[i]? = some x) (hx : Loc X.env.scope x) (he : PE X e te) (hs : swapsWith e (some (.Name x pos')) pos.line X.env = pure false := by rfl) (hf : X.fn x = true ∨ X.env.scope.names.lookup x = some .local := by first | exact .inl rfl | exact .inr rfl | assumption) :
    PS X (.Assign [.Name x pos'] e pos) (tAsg te (gName i)) := by
  intro pins s σ H D I h
  refine wpAny_Assign_Name (thn (he pins s σ H _ I h) fun v s1 ⟨y, H1, I1, r1, q1⟩ => ?_) hs
  exact store_ok I1 hN hi hx r1 (fun s2 I2 => ⟨_, H1, I2, q1⟩) hf
end

section
variable {X : Cx} {pos : Pos}
end

/-- at turn i: it yields x (the heap may grow), or it stops -/
structure It where
  go : Nat → Hp → Prop
  yld : Nat → Hp → V → Hp → Prop
  stop : Nat → Hp → Prop
/-- the iterator's own objects may turn: they are not the frame's, not pinned, younger than the entry (or a comprehension's own) -/
noncomputable def FpOk (X : Cx) (pins : List (Addr × Obj)) (H : Hp) (b : Addr) : Prop :=
  H b = none ∧ b ≠ X.env.locals ∧ b ∉ X.fs ∧ (b ∈ X.ex ∨ X.s₀.heap.objs.size ≤ b) ∧ (∀ x c, X.env.cells.lookup x = some c → c ≠ b) ∧ ∀ p ∈ X.pn ++ pins, p.1 ≠ b
theorem Inv.fpOk {X : Cx} {pins : List (Addr × Obj)} {σ : St} {H H' : Hp} {s : Shared} {b : Addr} (I : Inv X pins σ H s) (hb : s.heap.objs.size ≤ b) (hn : H' b = none) : FpOk X pins H' b := by
  refine ⟨hn, Nat.ne_of_gt (Nat.lt_of_lt_of_le I.lt hb), I.nofs hb, .inr (Nat.le_trans I.sz hb), fun x c e z => ?_, fun p hp z => ?_⟩
  · obtain ⟨v, q⟩ := I.cell x c e
    exact absurd (Nat.lt_of_lt_of_le q.lt (by rw [z]; exact hb)) (Nat.lt_irrefl _)
  · exact absurd (Nat.lt_of_lt_of_le (Heap.lt_size (I.pin p hp).1) (by rw [z]; exact hb)) (Nat.lt_irrefl _)
structure Turn (P : Program) (w : World) (K : PySem.W.Frag) (tg : Expr) (J : It) (fp : List Addr) (it : Addr) (tn : Nat → Heap → Prop) : Prop where
  mem : it ∈ fp
  obj : ∀ i h, tn i h → ∀ b ∈ fp, ∃ o, h.get? b = some o ∧ ∀ v, o.data ≠ .cell v
  keep : ∀ i h h', tn i h → (∀ b ∈ fp, ∀ o, h.get? b = some o → h'.get? b = some o) → tn i h'
  item : ∀ (X : Cx), X.prog = P → X.w = w → X.K = K → X.calm = true → ∀ (i : Nat) (pins : List (Addr × Obj)) (s : Shared) (σ : St) (H : Hp) (E : Value → Shared → Prop), Inv X pins σ H s → (∀ b ∈ fp, FpOk X pins H b) → tn i s.heap → J.go i H →
    wpAny (model P w) X.A (pyNext (.ref it)) (fun r s1 => ∃ u, r = some u ∧
      wpAny (model P w) X.A (letOwnedTupleGo tg (.ref it) u) (fun _ s2 => ∃ x H', Inv X pins σ H' s2 ∧ RelV x u ∧ J.yld i H x H' ∧ tn (i + 1) s2.heap ∧ ∀ b ∈ fp, H' b = none) E s1) E s
  done : ∀ (X : Cx), X.prog = P → X.w = w → X.K = K → X.calm = true → ∀ (i : Nat) (pins : List (Addr × Obj)) (s : Shared) (σ : St) (H : Hp) (E : Value → Shared → Prop), Inv X pins σ H s → (∀ b ∈ fp, FpOk X pins H b) → tn i s.heap → J.stop i H →
    wpAny (model P w) X.A (pyNext (.ref it)) (fun r s1 => r = none ∧ Inv X pins σ H s1) E s
  self : ∀ (A : Around) (i : Nat) (s : Shared) (Q : Value → Shared → Prop) (E : Value → Shared → Prop), tn i s.heap → Q (.ref it) s → wpAny (model P w) A (pyIter (.ref it)) Q E s
noncomputable abbrev TI := St → Hp → (It → Hp → Prop) → Prop
/-- an iterator has come -/
noncomputable def PIE (X : Cx) (pins : List (Addr × Obj)) (σ : St) (tg : Expr) (R : It → Hp → Prop) (itv : Value) (s2 : Shared) : Prop :=
  ∃ (it : Addr) (fp : List Addr) (tn : Nat → Heap → Prop) (J : It) (H' : Hp), itv = .ref it ∧ Inv X pins σ H' s2 ∧ Turn X.prog X.w X.K tg J fp it tn ∧ tn 0 s2.heap ∧ (∀ b ∈ fp, FpOk X pins H' b) ∧ R J H'
noncomputable def PI (X : Cx) (tg iter : Expr) (wi : TI) : Prop :=
  ∀ (pins : List (Addr × Obj)) (s : Shared) (σ : St) (H : Hp) (R : It → Hp → Prop), Inv X pins σ H s → wi σ H R →
    wpAny (model X.prog X.w) X.A (eval iter X.env) (fun v s1 => wpAny (model X.prog X.w) X.A (pyIter v) (PIE X pins σ tg R) X.xe s1) X.xe s

/-- the step ahead of the store is nothing for an iterator that keeps no tuple -/
theorem go_of {M : Model} {A : Around} {E : Value → Shared → Prop} {s : Shared} {tg : Expr} {it : Addr} {u : Value} {o : Obj} {n : String} {vs : Array Value} {Q : Unit → Shared → Prop} (ho : s.heap.get? it = some o) (hc : o.cls = .type n) (hd : o.data = .fields vs)
    (hn : ["enumerate", "zip", "dict_itemiterator", "dict_reverseitemiterator", "odict_iterator", "itertools.zip_longest", "itertools.pairwise"].contains n = false) (hQ : Q () s) : wpAny M A (letOwnedTupleGo tg (.ref it) u) Q E s := by
  unfold letOwnedTupleGo
  cases tg <;> first
    | exact wpAny_pure hQ
    | (cases u <;> first
        | exact wpAny_pure hQ
        | (refine wpAny_bind (wpAny_load ho ?_)
           rw [hc, hd]
           show wpAny M A (if (["enumerate", "zip", "dict_itemiterator", "dict_reverseitemiterator", "odict_iterator", "itertools.zip_longest", "itertools.pairwise"].contains n && vs[0]? == some (rawInt _)) = true then _ else _) Q E s
           rw [if_neg (by intro h; rw [hn, Bool.false_and] at h; cases h)]
           exact wpAny_pure hQ))

/-- the list at a, as it stands at each turn (a loop may append to it) -/
noncomputable def Itl (K : PySem.W.Frag) (a : Addr) : It :=
  ⟨fun i H => ∃ xs x, SqL K H a xs ∧ xs[i]? = some x, fun i H x H' => H' = H ∧ ∀ xs, SqL K H a xs → xs[i]? = some x, fun i H => ∃ xs, SqL K H a xs ∧ xs.length ≤ i⟩
noncomputable def Itt (K : PySem.W.Frag) (a : Addr) : It :=
  ⟨fun i H => ∃ xs x, SqT K H a xs ∧ xs[i]? = some x, fun i H x H' => H' = H ∧ ∀ xs, SqT K H a xs → xs[i]? = some x, fun i H => ∃ xs, SqT K H a xs ∧ xs.length ≤ i⟩
/-- lo, lo + 1, .. (n of them) -/
noncomputable def Itr (lo : Int) (n : Nat) : It := ⟨fun i _ => i < n, fun i H x H' => H' = H ∧ x = .int (lo + i), fun i _ => n ≤ i⟩
theorem turn_list {P : Program} {w : World} {K : PySem.W.Frag} {tg : Expr} (a it : Addr) : Turn P w K tg (Itl K a) [it] it (fun i h => h.IsListIter it a i) where
  mem := by simp
  obj := fun i h st b hb => by
    have e : b = it := by simpa using hb
    subst e
    obtain ⟨o, e, c, d⟩ := st
    exact ⟨o, e, fun v z => by rw [d] at z; cases z⟩
  keep := fun i h h' st k => st.at fun o e => k it (by simp) o e
  item := by
    intro X hP hw hK hc i pins s σ H E I hf st hg
    subst hP hw hK
    obtain ⟨xs, x, hq, hx⟩ := hg
    obtain ⟨its, rv, p, hz⟩ := I.list hq
    obtain ⟨u, hu, ru⟩ := rv.get hx
    obtain ⟨f0, f1, f2, f3, f4, f5⟩ := hf it (by simp)
    refine wpAny_pyNext_list_item st p.isList (x := u) (by simpa using hu) fun h' st' sb => ?_
    have I1 : Inv X pins σ H { s with heap := h' } := I.turned (t' := s.toks) (fun b o hb e => (sb.2 b hb).trans e) f0 f1 f3 f4 f5
    obtain ⟨o, e, c, d⟩ := id st'
    exact ⟨u, rfl, go_of (s := { s with heap := h' }) e c d (by decide) ⟨x, H, I1, ru, ⟨rfl, fun ys hy => by rw [I.list_inj hy hq]; exact hx⟩, st', fun b hb => (hf b hb).1⟩⟩
  done := by
    intro X hP hw hK hc i pins s σ H E I hf st hg
    subst hP hw hK
    obtain ⟨xs, hq, hx⟩ := hg
    obtain ⟨its, rv, p, hz⟩ := I.list hq
    obtain ⟨f0, f1, f2, f3, f4, f5⟩ := hf it (by simp)
    have hl := rv.length
    exact wpAny_pyNext_list_end (I.ok.hd hc) st p.isList (by simp; omega) fun h' eb => ⟨rfl, I.turned (t' := s.toks) (fun b o hb e => eb b o hb e) f0 f1 f3 f4 f5⟩
  self := fun _ _ _ _ _ st h => wpAny_pyIter_listiter st h
theorem turn_tuple {P : Program} {w : World} {K : PySem.W.Frag} {tg : Expr} (a it : Addr) : Turn P w K tg (Itt K a) [it] it (fun i h => h.IsTupleIter it a i) where
  mem := by simp
  obj := fun i h st b hb => by
    have e : b = it := by simpa using hb
    subst e
    obtain ⟨o, e, c, d⟩ := st
    exact ⟨o, e, fun v z => by rw [d] at z; cases z⟩
  keep := fun i h h' st k => st.at fun o e => k it (by simp) o e
  item := by
    intro X hP hw hK hc i pins s σ H E I hf st hg
    subst hP hw hK
    obtain ⟨xs, x, hq, hx⟩ := hg
    obtain ⟨its, rv, p, hz⟩ := I.tuple hq
    obtain ⟨u, hu, ru⟩ := rv.get hx
    obtain ⟨f0, f1, f2, f3, f4, f5⟩ := hf it (by simp)
    refine wpAny_pyNext_tuple_item st (show s.heap.IsTuple a its.toArray from p) (x := u) (by simpa using hu) fun h' st' sb => ?_
    have I1 : Inv X pins σ H { s with heap := h' } := I.turned (t' := s.toks) (fun b o hb e => (sb.2 b hb).trans e) f0 f1 f3 f4 f5
    obtain ⟨o, e, c, d⟩ := id st'
    exact ⟨u, rfl, go_of (s := { s with heap := h' }) e c d (by decide) ⟨x, H, I1, ru, ⟨rfl, fun ys hy => by rw [I.tuple_inj hy hq]; exact hx⟩, st', fun b hb => (hf b hb).1⟩⟩
  done := by
    intro X hP hw hK hc i pins s σ H E I hf st hg
    subst hP hw hK
    obtain ⟨xs, hq, hx⟩ := hg
    obtain ⟨its, rv, p, hz⟩ := I.tuple hq
    obtain ⟨f0, f1, f2, f3, f4, f5⟩ := hf it (by simp)
    have hl := rv.length
    exact wpAny_pyNext_tuple_end (I.ok.hd hc) st (show s.heap.IsTuple a its.toArray from p) (by simp; omega) fun h' eb => ⟨rfl, I.turned (t' := s.toks) (fun b o hb e => eb b o hb e) f0 f1 f3 f4 f5⟩
  self := fun _ _ _ _ _ st h => wpAny_pyIter_tupleiter st h
theorem turn_range {P : Program} {w : World} {K : PySem.W.Frag} {tg : Expr} (it : Addr) (lo : Int) (n : Nat) : Turn P w K tg (Itr lo n) [it] it (fun i h => IsRangeIter h it (lo + (i : Nat) * 1) ((n : Int) - (i : Nat)) 1) where
  mem := by simp
  obj := fun i h st b hb => by
    have e : b = it := by simpa using hb
    subst e
    exact ⟨_, st, fun v z => by
      have z' : Data.fields _ = Data.cell v := z
      cases z'⟩
  keep := fun i h h' st k => k it (by simp) _ st
  item := by
    intro X hP hw hK hc i pins s σ H E I hf st hg
    subst hP hw hK
    obtain ⟨f0, f1, f2, f3, f4, f5⟩ := hf it (by simp)
    have W := Walks.range (prog := X.prog) (w := X.w) (I.ok.hd hc) it lo 1 n
    refine W.item i s _ _ hg st fun v h' tk hv st' kk => ?_
    obtain ⟨t, rfl⟩ := hv
    have I1 : Inv X pins σ H { s with heap := h', toks := tk } := I.turned (fun b o hb e => kk b o (by simpa using hb) e) f0 f1 f3 f4 f5
    refine ⟨_, rfl, go_of (s := { s with heap := h', toks := tk }) (n := "range_iterator") st' rfl rfl (by decide) ⟨.int (lo + i), H, I1, ⟨t, ?_⟩, ⟨rfl, rfl⟩, st', fun b hb => (hf b hb).1⟩⟩
    rw [Int.mul_one]
  done := by
    intro X hP hw hK hc i pins s σ H E I hf st hg
    subst hP hw hK
    obtain ⟨f0, f1, f2, f3, f4, f5⟩ := hf it (by simp)
    exact wpAny_pyNext_range_end (I.ok.hd hc) st (by have : n ≤ i := hg; omega) fun h' eb => ⟨rfl, I.turned (t' := s.toks) (fun b o hb e => eb b o hb e) f0 f1 f3 f4 f5⟩
  self := fun _ _ _ _ _ st h => wpAny_pyIter_rangeiter st h
end L2

namespace L2
open PySem PySem.Spec PyProof.Rows
section
variable {X : Cx} {tg : Expr}
/-- a range object just made, walked -/
theorem range_it {pins : List (Addr × Obj)} {σ : St} {H : Hp} {s : Shared} {R : It → Hp → Prop} {E : Value → Shared → Prop} {lo hi : Int} {t u v : Tok} {tk : Nat} (I : Inv X pins σ H s) (h1 : -(2 ^ 62) ≤ lo) (h2 : lo < 2 ^ 62) (h3 : -(2 ^ 62) ≤ hi) (h4 : hi < 2 ^ 62)
    (q : R (Itr lo (hi - lo).toNat) H) : wpAny (model X.prog X.w) X.A (pyIter (.ref s.heap.objs.size)) (PIE X pins σ tg R) E { s with heap := s.heap.push { cls := .type "range", data := .fields #[.int lo t, .int hi u, .int 1 v] }, toks := tk } := by
  refine wpAny_pyIter_range (IsRange.new ..) (small_one h1 h2 h3 h4) ?_
  have I1 : Inv X pins σ H { s with heap := s.heap.push { cls := .type "range", data := .fields #[.int lo t, .int hi u, .int 1 v] }, toks := tk } := I.kept fun b o e => Heap.get?_push_of_some _ e
  refine ⟨(s.heap.push { cls := .type "range", data := .fields #[.int lo t, .int hi u, .int 1 v] }).objs.size, [(s.heap.push { cls := .type "range", data := .fields #[.int lo t, .int hi u, .int 1 v] }).objs.size], _, _, H, rfl,
    I1.kept (t' := tk) fun b o e => Heap.get?_push_of_some _ e, turn_range _ lo (hi - lo).toNat, ?_, fun b hb => ?_, q⟩
  · have e1 : lo + ((0 : Nat) : Int) * 1 = lo := by simp
    have e2 : (((hi - lo).toNat : Nat) : Int) - ((0 : Nat) : Int) = Builtin.Range.rangeSize lo hi 1 := by rw [rangeSize_one]; split <;> omega
    show IsRangeIter _ _ (lo + ((0 : Nat) : Int) * 1) ((((hi - lo).toNat : Nat) : Int) - ((0 : Nat) : Int)) 1
    rw [e1, e2]
    exact Heap.get?_push_size _ rfl
  · have e : b = (s.heap.push { cls := .type "range", data := .fields #[.int lo t, .int hi u, .int 1 v] }).objs.size := by simpa using hb
    subst e
    exact I1.fpOk (Nat.le_refl _) (I1.hok.fresh (Nat.le_refl _))
noncomputable def iRng1 (ta : TA) : TI := fun σ H R => ta σ H fun vs H1 => ∃ j : Int, vs = [.int j] ∧ -(2 ^ 62) ≤ j ∧ j < 2 ^ 62 ∧ R (Itr 0 j.toNat) H1
noncomputable def iRng2 (ta : TA) : TI := fun σ H R => ta σ H fun vs H1 => ∃ i j : Int, vs = [.int i, .int j] ∧ (-(2 ^ 62) ≤ i ∧ i < 2 ^ 62 ∧ -(2 ^ 62) ≤ j ∧ j < 2 ^ 62) ∧ R (Itr i (j - i).toNat) H1
theorem pi_range1 {a : Expr} {ta : TA} {p pos : Pos} (hg : Gl X "range") (hm : X.mg "range" = none) (ha : PA X [a] ta) (hs : starEach [a] X.env = [(false, eval a X.env)] := by rfl) : PI X tg (.Call (.Name "range" p) [a] [] pos) (iRng1 ta) := by
  intro pins s σ H R I h
  refine Call_ (ld_blt I hg hm boot_range (PyProof.Rows.callWith_type1 (thn (ha pos pins s σ H _ I h) fun us s1 ⟨vs, H1, I1, r1, q1⟩ => ?_) hs rfl))
  obtain ⟨j, e, q1, q2, q⟩ := q1
  subst e
  cases r1 with
  | cons r rr =>
    cases rr
    obtain ⟨t, rfl⟩ := r
    exact call_range_1 (range_it I1 (by omega) (by omega) q1 q2 (by simpa using q))
theorem pi_range2 {a b : Expr} {ta : TA} {p pos : Pos} (hg : Gl X "range") (hm : X.mg "range" = none) (ha : PA X [a, b] ta) (hs : starEach [a, b] X.env = [(false, eval a X.env), (false, eval b X.env)] := by rfl) (hs2 : starEach [b] X.env = [(false, eval b X.env)] := by rfl) :
    PI X tg (.Call (.Name "range" p) [a, b] [] pos) (iRng2 ta) := by
  intro pins s σ H R I h
  refine Call_ (ld_blt I hg hm boot_range (PyProof.Rows.callWith_type1 (thn (ha pos pins s σ H _ I h) fun us s1 ⟨vs, H1, I1, r1, q1⟩ => ?_) (by rw [hs, hs2]) (by rw [hs2]; rfl)))
  obtain ⟨i, j, e, ⟨q1, q2, q3, q4⟩, q⟩ := q1
  subst e
  cases r1 with
  | cons r rr =>
    cases rr with
    | cons r' rr =>
      cases rr
      obtain ⟨t, rfl⟩ := r
      obtain ⟨t', rfl⟩ := r'
      exact call_range_2 (range_it I1 q1 q2 q3 q4 q)

/-- W: the invariant by the turn and a measure; N: what the body is to reach -/
noncomputable def tFor (wi : TI) (g : TG) (tb : TS) : TS := fun D σ H => wi σ H fun J H1 => ∃ W : Nat → Nat → St → Hp → Prop, (∃ m, W 0 m σ H1) ∧ ∀ i m σ H, W i m σ H →
  (J.stop i H ∧ D.nx σ H) ∨ (J.go i H ∧ ∃ N : St → Hp → Prop, (∀ σ' H', N σ' H' → ∃ m', m' < m ∧ W (i + 1) m' σ' H') ∧ ∀ x H', J.yld i H x H' → g x σ H' fun σ2 H2 => tb { D with nx := N, ct := N, bk := D.nx } σ2 H2)
/-- the records at fp as they stand -/
noncomputable def pinsAt (fp : List Addr) (h : Heap) : List (Addr × Obj) := fp.filterMap fun b => (h.get? b).map fun o => (b, o)
theorem mem_pinsAt {fp : List Addr} {h : Heap} {b : Addr} {o : Obj} (hb : b ∈ fp) (e : h.get? b = some o) : (b, o) ∈ pinsAt fp h := List.mem_filterMap.mpr ⟨b, hb, by rw [e]; rfl⟩
theorem of_pinsAt {fp : List Addr} {h : Heap} {p : Addr × Obj} (hp : p ∈ pinsAt fp h) : p.1 ∈ fp ∧ h.get? p.1 = some p.2 := by
  obtain ⟨b, hb, e⟩ := List.mem_filterMap.mp hp
  cases q : h.get? b with
  | none => rw [q] at e; cases e
  | some o =>
    rw [q] at e
    have e' : (b, o) = p := Option.some.inj e
    subst e'
    exact ⟨hb, q⟩
theorem Inv.pinned {pins : List (Addr × Obj)} {σ : St} {H : Hp} {s : Shared} {fp : List Addr} (I : Inv X pins σ H s) (hf : ∀ b ∈ fp, FpOk X pins H b) (ho : ∀ b ∈ fp, ∃ o, s.heap.get? b = some o ∧ ∀ v, o.data ≠ .cell v) : Inv X (pins ++ pinsAt fp s.heap) σ H s :=
  I.pins_of fun p hp => (List.mem_append.mp hp).elim (fun z => I.pin p (List.mem_append_right _ z)) fun z => by
    obtain ⟨hb, e⟩ := of_pinsAt z
    obtain ⟨f0, f1, f2, _⟩ := hf p.1 hb
    obtain ⟨o, e', d⟩ := ho p.1 hb
    rw [e] at e'; cases e'
    exact ⟨e, f0, f1, f2, d⟩
theorem Inv.unpinned {pins pl : List (Addr × Obj)} {σ : St} {H : Hp} {s : Shared} (I : Inv X (pins ++ pl) σ H s) : Inv X pins σ H s := I.pins_of fun p hp => I.pin p (List.mem_append_right _ (List.mem_append_left _ hp))
theorem ps_for {iter : Expr} {body : List Stmt} {wi : TI} {g : TG} {tb : TS} {pos : Pos} (hp : PassesOwn (model X.prog X.w) X.A X.env X.xe) (hc : X.calm = true) (hi : PI X tg iter wi) (hg : PG X tg g) (hb : PSs X body tb)
    (hs : ∀ x, foldedSetIterable iter X.env x = pure x := by intro _; rfl) : PS X (.For tg iter body [] pos) (tFor wi g tb) := by
  intro pins s σ H D I h
  refine wpAny_For (thn (hi pins s σ H _ I h) fun v s1 h1 => thn h1 fun itv s2 h2 => ?_) hs
  obtain ⟨it, fp, tn, J, H2, e, I2, T, st2, f2, W, ⟨m0, w0⟩, turn⟩ := h2
  subst e
  -- what stays true of the iterator's objects through the loop
  have stat : ∀ {H' : Hp}, (∀ b ∈ fp, H' b = none) → ∀ b ∈ fp, FpOk X pins H' b := fun hn b hb => ⟨hn b hb, (f2 b hb).2⟩
  refine codeAny_forLoop_any (fun n s' => ∃ i σ' H', Inv X pins σ' H' s' ∧ tn i s'.heap ∧ (∀ b ∈ fp, H' b = none) ∧ W i n σ' H') ?_ m0 ⟨0, σ, H2, I2, st2, fun b hb => (f2 b hb).1, w0⟩
  rintro n s3 ⟨i, σ3, H3, I3, st3, fr3, w3⟩
  rcases turn i n σ3 H3 w3 with ⟨stop, qn⟩ | ⟨go, N, hN, step⟩
  · refine wpAny_passesOwn hp (thn (T.done X rfl rfl rfl hc i pins s3 σ3 H3 X.xe I3 (stat fr3) st3 stop) fun r s4 ⟨hr, I4⟩ => ?_)
    subst hr
    exact wpAny_execs_nil ⟨σ3, H3, I4, qn⟩
  · refine wpAny_passesOwn hp (thn (T.item X rfl rfl rfl hc i pins s3 σ3 H3 X.xe I3 (stat fr3) st3 go) fun r s4 ⟨u, hr, h4⟩ => ?_)
    subst hr
    refine wpAny_passesOwn hp (thn h4 fun _ s5 ⟨x, H5, I5, r5, y5, st5, fr5⟩ => ?_)
    have I5' := I5.pinned (stat fr5) (T.obj _ _ st5)
    refine wpAny_passesOwn hp (thn (hg _ s5 σ3 H5 x u _ I5' r5 (step x H5 y5)) fun _ s6 ⟨σ6, H6, I6, q6⟩ => ?_)
    refine wpAny_passesOwn hp (thn (hb _ s6 σ6 H6 _ I6 q6) fun f s7 q7 => ?_)
    have again : ∀ {σ7 : St} {H7 : Hp}, Inv X (pins ++ pinsAt fp s5.heap) σ7 H7 s7 → N σ7 H7 → ∃ m, m < n ∧ ∃ i σ' H', Inv X pins σ' H' s7 ∧ tn i s7.heap ∧ (∀ b ∈ fp, H' b = none) ∧ W i m σ' H' := fun {σ7 H7} I7 n7 => by
      obtain ⟨m', hm, w7⟩ := hN σ7 H7 n7
      refine ⟨m', hm, i + 1, σ7, H7, I7.unpinned, T.keep _ _ _ st5 fun b hb o e => (I7.pin (b, o) (List.mem_append_right _ (List.mem_append_right _ (mem_pinsAt hb e)))).1, fun b hb => ?_, w7⟩
      obtain ⟨o, e, d⟩ := T.obj _ _ st5 b hb
      exact (I7.pin (b, o) (List.mem_append_right _ (List.mem_append_right _ (mem_pinsAt hb e)))).2.1
    cases f with
    | next => obtain ⟨σ7, H7, I7, n7⟩ := q7; exact again I7 n7
    | cont => obtain ⟨σ7, H7, I7, n7⟩ := q7; exact again I7 n7
    | brk => obtain ⟨σ7, H7, I7, q7⟩ := q7; exact ⟨σ7, H7, I7.unpinned, q7⟩
    | ret v => obtain ⟨x7, σ7, H7, I7, r7, q7⟩ := q7; exact ⟨x7, σ7, H7, I7.unpinned, r7, q7⟩
end

end L2

namespace L2
open PySem PySem.Spec PyProof.Rows

noncomputable abbrev R2 := V → V → Hp → VK → Prop
/-- a two-place operation on values: f is binaryOp op, inplaceOp op or compareOp op -/
noncomputable def OpR (X : Cx) (f : Value → Value → Sem Value) (r : R2) : Prop :=
  ∀ (pins : List (Addr × Obj)) (s : Shared) (σ : St) (H : Hp) (x y : V) (v u : Value) (Q : VK), Inv X pins σ H s → RelV x v → RelV y u → r x y H Q →
    wpAny (model X.prog X.w) X.A (f v u) (EP X pins σ Q) X.xe s
/-- a one-place operation -/
noncomputable def UnR (X : Cx) (f : Value → Sem Value) (r : V → Hp → VK → Prop) : Prop :=
  ∀ (pins : List (Addr × Obj)) (s : Shared) (σ : St) (H : Hp) (x : V) (v : Value) (Q : VK), Inv X pins σ H s → RelV x v → r x H Q →
    wpAny (model X.prog X.w) X.A (f v) (EP X pins σ Q) X.xe s
/-- a call of a value that is known (a builtin, a type) with values -/
noncomputable def CallR (X : Cx) (f : Value) (r : List V → Hp → VK → Prop) : Prop :=
  ∀ (pins : List (Addr × Obj)) (s : Shared) (σ : St) (H : Hp) (xs : List V) (us : List Value) (Q : VK), Inv X pins σ H s → Vals xs us → r xs H Q →
    wpAny (model X.prog X.w) X.A (call f us) (EP X pins σ Q) X.xe s
/-- a value's truth -/
noncomputable def TruR (X : Cx) (r : V → Hp → (Bool → Hp → Prop) → Prop) : Prop :=
  ∀ (pins : List (Addr × Obj)) (s : Shared) (σ : St) (H : Hp) (x : V) (v : Value) (Q : Bool → Hp → Prop), Inv X pins σ H s → RelV x v → r x H Q →
    wpAny (model X.prog X.w) X.A (truthy v) (TP X pins σ Q) X.xe s

noncomputable def tOp (r : R2) (ta tb : TE) : TE := fun σ H Q => ta σ H fun x H1 => tb σ H1 fun y H2 => r x y H2 Q
noncomputable def tUn (r : V → Hp → VK → Prop) (ta : TE) : TE := fun σ H Q => ta σ H fun x H1 => r x H1 Q
/-- ints in, under C, and a value out -/
noncomputable def rI (C : Int → Int → Prop) (g : Int → Int → V) : R2 := fun x y H Q => ∃ i j, x = .int i ∧ y = .int j ∧ C i j ∧ Q (g i j) H
noncomputable def rI0 (g : Int → Int → V) : R2 := fun x y H Q => ∃ i j, x = .int i ∧ y = .int j ∧ Q (g i j) H
noncomputable def rU (g : Int → V) : V → Hp → VK → Prop := fun x H Q => ∃ i, x = .int i ∧ Q (g i) H

section
variable {X : Cx} {a b c : Expr} {ta tb tc : TE} {pos : Pos}

theorem binT (ha : PE X a ta) (hb : PE X b tb) {pins : List (Addr × Obj)} {s : Shared} {σ : St} {H : Hp} {R : V → V → Hp → Prop} (I : Inv X pins σ H s)
    (h : ta σ H fun x H1 => tb σ H1 fun y H2 => R x y H2) {Q : Value → Shared → Prop} {f : Value → Value → Sem Value}
    (hf : ∀ v u s2 x y H2, Inv X pins σ H2 s2 → RelV x v → RelV y u → R x y H2 → wpAny (model X.prog X.w) X.A (f v u) Q X.xe s2) :
    wpAny (model X.prog X.w) X.A (eval a X.env) (fun v s₁ => wpAny (model X.prog X.w) X.A (eval b X.env) (fun u s₂ => wpAny (model X.prog X.w) X.A (f v u) Q X.xe s₂) X.xe s₁) X.xe s := by
  refine thn (ha pins s σ H _ I h) fun v s1 ⟨x, H1, I1, r1, q1⟩ => ?_
  refine thn (hb pins s1 σ H1 _ I1 q1) fun u s2 ⟨y, H2, I2, r2, q2⟩ => ?_
  exact hf v u s2 x y H2 I2 r1 r2 q2

theorem pe_op {op : Operator} {r : R2} (ho : OpR X (binaryOp op) r) (ha : PE X a ta) (hb : PE X b tb) : PE X (.BinOp a op b pos) (tOp r ta tb) := by
  intro pins s σ H Q I h
  exact wpAny_BinOp (binT ha hb I h fun v u s2 x y H2 I2 rx ry q => ho pins s2 σ H2 x y v u Q I2 rx ry q)
theorem pe_un {op : UnaryOp} {r : V → Hp → VK → Prop} (ho : UnR X (unaryOp op) r) (ha : PE X a ta) : PE X (.UnaryOp op a pos) (tUn r ta) := by
  intro pins s σ H Q I h
  exact UnaryOp_ (thn (ha pins s σ H _ I h) fun v s1 ⟨x, H1, I1, r1, q1⟩ => ho pins s1 σ H1 x v Q I1 r1 q1)
theorem opI {f : Value → Value → Sem Value} {C : Int → Int → Prop} {g : Int → Int → Int}
    (rule : ∀ (i j : Int) (t u : Tok) (s : Shared) (Q : Value → Shared → Prop) (E : Value → Shared → Prop), C i j → Q (.int (g i j) s.toks) { s with toks := s.toks + 1 } → wpAny (model X.prog X.w) X.A (f (.int i t) (.int j u)) Q E s) :
    OpR X f (rI C fun i j => .int (g i j)) := by
  intro pins s σ H x y v u Q I rx ry h
  obtain ⟨i, j, rfl, rfl, hc, q⟩ := h
  obtain ⟨t, rfl⟩ := rx
  obtain ⟨t', rfl⟩ := ry
  exact rule i j t t' s _ _ hc ⟨.int (g i j), H, I.tok _, ⟨_, rfl⟩, q⟩
theorem opI0 {f : Value → Value → Sem Value} {g : Int → Int → Int}
    (rule : ∀ (i j : Int) (t u : Tok) (s : Shared) (Q : Value → Shared → Prop) (E : Value → Shared → Prop), Q (.int (g i j) s.toks) { s with toks := s.toks + 1 } → wpAny (model X.prog X.w) X.A (f (.int i t) (.int j u)) Q E s) :
    OpR X f (rI0 fun i j => .int (g i j)) := by
  intro pins s σ H x y v u Q I rx ry h
  obtain ⟨i, j, rfl, rfl, q⟩ := h
  obtain ⟨t, rfl⟩ := rx
  obtain ⟨t', rfl⟩ := ry
  exact rule i j t t' s _ _ ⟨.int (g i j), H, I.tok _, ⟨_, rfl⟩, q⟩
theorem opB0 {f : Value → Value → Sem Value} {g : Int → Int → Bool}
    (rule : ∀ (i j : Int) (t u : Tok) (s : Shared) (Q : Value → Shared → Prop) (E : Value → Shared → Prop), Q (.bool (g i j)) s → wpAny (model X.prog X.w) X.A (f (.int i t) (.int j u)) Q E s) :
    OpR X f (rI0 fun i j => .bl (g i j)) := by
  intro pins s σ H x y v u Q I rx ry h
  obtain ⟨i, j, rfl, rfl, q⟩ := h
  obtain ⟨t, rfl⟩ := rx
  obtain ⟨t', rfl⟩ := ry
  exact rule i j t t' s _ _ ⟨.bl (g i j), H, I, rfl, q⟩

noncomputable def CPow (i j : Int) : Prop := 0 ≤ j ∧ j ≤ 1000000 ∧ i.natAbs < 2 ^ 64
noncomputable def CMul (i j : Int) : Prop := (-(2 ^ 64) < i ∧ i < 2 ^ 64) ∨ (-(2 ^ 64) < j ∧ j < 2 ^ 64)
theorem CMul.ok {i j : Int} (h : CMul i j) : IntMulOk i j := by
  rcases h with ⟨h1, h2⟩ | ⟨h1, h2⟩
  · exact .of_left (intBits_le_64 h1 h2)
  · exact .of_right (intBits_le_64 h1 h2)
theorem op_add : OpR X (binaryOp .Add) (rI0 fun i j => .int (i + j)) := opI0 fun _ _ _ _ _ _ _ q => add_int q
theorem op_sub : OpR X (binaryOp .Sub) (rI0 fun i j => .int (i - j)) := opI0 fun _ _ _ _ _ _ _ q => sub_int q
theorem op_modN : OpR X (binaryOp .Mod) (rI (fun _ j => j ≠ 0) fun i j => .int (i.fmod j)) := opI fun _ _ _ _ _ _ _ hc q => mod_int' hc q
theorem op_pow : OpR X (binaryOp .Pow) (rI CPow fun i j => .int (i ^ j.toNat)) := opI fun _ _ _ _ _ _ _ hc q => pow_int_small hc.1 hc.2.1 hc.2.2 q
theorem unI {f : Value → Sem Value} {g : Int → Int}
    (rule : ∀ (i : Int) (t : Tok) (s : Shared) (Q : Value → Shared → Prop) (E : Value → Shared → Prop), Q (.int (g i) s.toks) { s with toks := s.toks + 1 } → wpAny (model X.prog X.w) X.A (f (.int i t)) Q E s) :
    UnR X f (rU fun i => .int (g i)) := by
  intro pins s σ H x v Q I rx h
  obtain ⟨i, rfl, q⟩ := h
  obtain ⟨t, rfl⟩ := rx
  exact rule i t s _ _ ⟨.int (g i), H, I.tok _, ⟨_, rfl⟩, q⟩
theorem un_neg : UnR X (unaryOp .USub) (rU fun i => .int (-i)) := unI fun _ _ _ _ _ q => neg_int q
end

section
variable {X : Cx} {a b c : Expr} {ta tb tc : TE} {pos : Pos}
theorem fin_bl {pins : List (Addr × Obj)} {σ : St} {H : Hp} {s : Shared} {Q : VK} {k k' : Bool} (I : Inv X pins σ H s) (q : Q (.bl k) H) (e : k = k') : EP X pins σ Q (.bool k') s := by
  subst e
  exact ⟨.bl k, H, I, rfl, q⟩
theorem op_lt : OpR X (compareOp .Lt) (rI0 fun i j => .bl (decide (i < j))) := opB0 fun _ _ _ _ _ _ _ q => lt_int q
theorem op_gt : OpR X (compareOp .Gt) (rI0 fun i j => .bl (decide (j < i))) := opB0 fun _ _ _ _ _ _ _ q => gt_int q
/-- the one string within the other -/
theorem op_in_str : OpR X (compareOp .In) (fun x y H Q => ∃ i j, x = .str i ∧ y = .str j ∧ Q (.bl (!(Builtin.Str.occurrences j i 0 j.length 1).isEmpty)) H) := by
  intro pins s σ H x y v u Q I rx ry h
  obtain ⟨i, j, rfl, rfl, q⟩ := h
  obtain ⟨t, rfl⟩ := rx
  obtain ⟨t', rfl⟩ := ry
  exact in_str (fin_bl I q rfl)

/-- two rules for one operation: by cases -/
theorem OpR.or {f : Value → Value → Sem Value} {r r' : R2} (h : OpR X f r) (h' : OpR X f r') : OpR X f (fun x y H Q => r x y H Q ∨ r' x y H Q) := by
  intro pins s σ H x y v u Q I rx ry q
  rcases q with q | q
  · exact h pins s σ H x y v u Q I rx ry q
  · exact h' pins s σ H x y v u Q I rx ry q

theorem nomark (b : Expr) {op : CmpOp} (h : op ≠ .In := by decide) (h2 : op ≠ .NotIn := by decide) : behindInMarks op b = false := by
  have e1 : (op == CmpOp.In) = false := by cases op <;> first | rfl | exact absurd rfl h
  have e2 : (op == CmpOp.NotIn) = false := by cases op <;> first | rfl | exact absurd rfl h2
  cases b <;> simp [behindInMarks, e1, e2]
/-- a comparison as a value; hm: nomark b, or (for in, not in) by with_unfolding_all rfl -/
theorem pe_cmpR {op : CmpOp} {r : R2} (ho : OpR X (compareOp op) r) (ha : PE X a ta) (hb : PE X b tb) (hm : behindInMarks op b = false) : PE X (.Compare a [op] [b] pos) (tOp r ta tb) := by
  intro pins s σ H Q I h
  exact wpAny_Compare1 (binT ha hb I h fun v u s2 x y H2 I2 rx ry q => ho pins s2 σ H2 x y v u Q I2 rx ry q) hm
/-- a reading of a value as a test -/
noncomputable def tTest (t : TE) : TT := fun σ H Q => t σ H fun x H' => ∃ k, x = .bl k ∧ Q k H'
theorem pt_cmpR {op : CmpOp} {r : R2} (ho : OpR X (compareOp op) r) (ha : PE X a ta) (hb : PE X b tb) (hm : behindInMarks op b = false) : PT X (.Compare a [op] [b] pos) (tTest (tOp r ta tb)) := by
  intro pins s σ H Q I h
  refine wpAny_isTrue_Compare1 (thn (ha pins s σ H _ I h) fun v s1 ⟨x, H1, I1, r1, q1⟩ => thn (hb pins s1 σ H1 _ I1 q1) fun u s2 ⟨y, H2, I2, r2, q2⟩ =>
    thn (ho pins s2 σ H2 x y v u _ I2 r1 r2 q2) fun c s3 ⟨z, H3, I3, r3, k, e, q3⟩ => ?_) hm
  subst e
  cases r3
  exact wpAny_truthy_bool ⟨H3, I3, q3⟩
/-- a value's truth by the abstract heap -/
noncomputable def TruV (K : PySem.W.Frag) (x : V) (H : Hp) (k : Bool) : Prop :=
  match x with
  | .non => k = false
  | .bl b => k = b
  | .int i => k = (i != 0)
  | .str y => y.length ≤ sizeLine ∧ k = ((y.length : Int) != 0)
  | .byt y => y.size ≤ sizeLine ∧ k = ((y.size : Int) != 0)
  | .ref p => (∃ xs, SqL K H p xs ∧ k = !xs.isEmpty) ∨ (∃ xs, SqT K H p xs ∧ k = !xs.isEmpty) ∨ ∃ kvs, H p = some (.dK kvs) ∧ k = !kvs.isEmpty
  | _ => False
theorem isEmpty_kv {κ : Type} {kvs : List (κ × V)} {vs : List (κ × Value)} (r : KV kvs vs) : (!vs.isEmpty) = !kvs.isEmpty := by
  cases r <;> rfl
theorem isEmpty_of {xs : List V} {its : List Value} (r : Vals xs its) : (!its.toArray.isEmpty) = !xs.isEmpty := by
  cases r <;> simp
theorem line63 : (sizeLine : Nat) < 2 ^ 63 := by rw [sizeLine_eq]; decide
theorem tru_ok : TruR X (fun x H Q => ∃ k, TruV X.K x H k ∧ Q k H) := by
  intro pins s σ H x v Q I rx h
  obtain ⟨k, e, q⟩ := h
  have hl := line63
  have hs : sizeLine = 16777216 := sizeLine_eq
  cases x with
  | non =>
    cases rx
    have e' : k = false := e
    subst e'
    exact truthy_none ⟨H, I, q⟩
  | bl b =>
    cases rx
    have e' : k = b := e
    subst e'
    exact wpAny_truthy_bool ⟨H, I, q⟩
  | int i =>
    obtain ⟨t, rfl⟩ := rx
    have e' : k = (i != 0) := e
    subst e'
    exact PySem.P.truthy_int ⟨H, I, q⟩
  | str y =>
    obtain ⟨t, rfl⟩ := rx
    obtain ⟨hy, e'⟩ : y.length ≤ sizeLine ∧ k = ((y.length : Int) != 0) := e
    subst e'
    exact PySem.P.truthy_str (by omega) ⟨H, I.tok _, q⟩
  | byt y =>
    obtain ⟨t, rfl⟩ := rx
    obtain ⟨hy, e'⟩ : y.size ≤ sizeLine ∧ k = ((y.size : Int) != 0) := e
    subst e'
    exact PySem.W.truthy_bytes (by omega) ⟨H, I.tok _, q⟩
  | ref p =>
    cases rx
    have e' : (∃ xs, SqL X.K H p xs ∧ k = !xs.isEmpty) ∨ (∃ xs, SqT X.K H p xs ∧ k = !xs.isEmpty) ∨ ∃ kvs, H p = some (.dK kvs) ∧ k = !kvs.isEmpty := e
    rcases e' with ⟨xs, hx, e'⟩ | ⟨xs, hx, e'⟩ | ⟨kvs, hx, e'⟩
    · subst e'
      obtain ⟨its, r, pl, hz⟩ := I.list hx
      have hlen := r.length
      exact wpAny_truthy_list pl.isList (by simp only [List.size_toArray]; omega) ⟨H, I.tok _, by rw [isEmpty_of r]; exact q⟩
    · subst e'
      obtain ⟨its, r, pl, hz⟩ := I.tuple hx
      have hlen := r.length
      exact truthy_tuple pl (by simp only [List.size_toArray]; omega) ⟨H, I.tok _, by rw [isEmpty_of r]; exact q⟩
    · subst e'
      obtain ⟨hz, hS, vs, r, m⟩ : kvs.length ≤ sizeLine ∧ (p == sysModules) = false ∧ ∃ vs, KV kvs vs ∧ s.heap.DictOf (mixKind X.prog X.w) p vs := I.hok p _ hx
      have hlen : kvs.length = vs.length := Paired.length r
      exact wpAny_truthy_dict hS m (by omega) ⟨H, I.tok _, by rw [isEmpty_kv r]; exact q⟩
  | _ => exact (show False from e).elim
/-- any expression whose test is its value's truth (a name, a call, a subscript, a field ..: he by fun _ => rfl) -/
theorem pt_truth (ha : PE X a ta) (he : ∀ whole, isTrue a X.env whole = (do let v ← whole; standAt a.pos; holding [v] (truthy v))) :
    PT X a (fun σ H Q => ta σ H fun x H' => ∃ k, TruV X.K x H' k ∧ Q k H') := by
  intro pins s σ H Q I h
  exact isTrue_plain (thn (ha pins s σ H _ I h) fun v s1 ⟨x, H1, I1, r1, q1⟩ => tru_ok pins s1 σ H1 x v Q I1 r1 q1) (he _)

theorem op_add_str : OpR X (binaryOp .Add) (fun x y H Q => ∃ i j, x = .str i ∧ y = .str j ∧ i.length + j.length ≤ sizeLine ∧ Q (.str (i ++ j)) H) := by
  intro pins s σ H x y v u Q I rx ry h
  obtain ⟨i, j, rfl, rfl, hz, q⟩ := h
  obtain ⟨t, rfl⟩ := rx
  obtain ⟨t', rfl⟩ := ry
  exact add_str (fun t' tk => ⟨.str (i ++ j), H, I.tok _, ⟨_, rfl⟩, q⟩) hz
theorem vals1 {x : V} {us : List Value} (r : Vals [x] us) : ∃ u, us = [u] ∧ RelV x u := by
  cases r with
  | cons r1 r2 => cases r2; exact ⟨_, rfl, r1⟩
theorem vals2 {x y : V} {us : List Value} (r : Vals [x, y] us) : ∃ u w', us = [u, w'] ∧ RelV x u ∧ RelV y w' := by
  cases r with
  | cons r1 r2 =>
    cases r2 with
    | cons r3 r4 => cases r4; exact ⟨_, _, rfl, r1, r3⟩
theorem call_int1 : CallR X (.type "int") (fun xs H Q => (∃ i, xs = [.int i] ∧ Q (.int i) H) ∨ ∃ k, xs = [.bl k] ∧ Q (.int (if k then 1 else 0)) H) := by
  intro pins s σ H xs us Q I r h
  rcases h with ⟨i, rfl, q⟩ | ⟨k, rfl, q⟩
  · obtain ⟨u, rfl, t, rfl⟩ := vals1 r
    exact call_int_int ⟨.int i, H, I, ⟨_, rfl⟩, q⟩
  · obtain ⟨u, rfl, r1⟩ := vals1 r
    cases r1
    exact call_int_bool ⟨.int (if k then 1 else 0), H, I.tok _, ⟨_, rfl⟩, q⟩
theorem call_str_int : CallR X (.type "str") (fun xs H Q => ∃ i, xs = [.int i] ∧ i.natAbs.log2 < 1920 ∧ Q (.str (toString i)) H) := by
  intro pins s σ H xs us Q I r h
  obtain ⟨i, rfl, hz, q⟩ := h
  obtain ⟨u, rfl, t, rfl⟩ := vals1 r
  exact PySem.P.str_of_int hz ⟨.str _, H, I.tok _, ⟨_, rfl⟩, q⟩
end
end L2

namespace L2
open PySem PySem.Spec PyProof.Rows

structure ObjM (h : Heap) (x dx C : Addr) (mA : Str → Option Value) : Prop where
  obj : h.get? x = some (PySem.W.instObj C dx)
  ns : h.Ns1 dx mA
  ne : dx ≠ x

theorem lookIn_ns {h : Heap} {dx : Addr} {mA : Str → Option Value} (n : h.Ns1 dx mA) : ∃ od, h.get? dx = some od ∧ ∀ name, PySem.W.lookIn name od = some (mA name) := by
  obtain ⟨o, es, ep, ho, hd, hk, _, hm⟩ := n
  refine ⟨o, ho, fun name => ?_⟩
  have e := hm name
  unfold nsFind findBy at e
  rw [← Array.find?_toList] at e
  unfold PySem.W.lookIn
  rw [hd]
  dsimp only
  split
  · rename_i y q
    rw [q] at e
    exact congrArg some e
  · rename_i q
    rw [q] at e
    have a : es.toList.any (·.refKey) = false := by
      rw [List.any_eq_false]
      intro y hy
      obtain ⟨z, t, hkey⟩ := hk y (Array.mem_toList_iff.mp hy)
      simp [DictEntry.refKey, hkey]
    have a' : ¬ es.toList.any (·.refKey) = true := by rw [a]; exact Bool.false_ne_true
    rw [if_neg a']
    exact congrArg some e

theorem ObjM.look {h : Heap} {x dx C : Addr} {mA : Str → Option Value} (I : ObjM h x dx C mA) : ∃ od, PySem.W.InstAt h x (PySem.W.instObj C dx) C (some od) ∧ ∀ name, PySem.W.lookIn name od = some (mA name) :=
  let ⟨od, ho, hl⟩ := lookIn_ns I.ns
  ⟨od, ⟨I.obj, rfl, rfl, ho⟩, hl⟩

section
variable {prog : Program} {w : World} {A : Around} {E : Value → Shared → Prop} {s : Shared} {K : PySem.W.Frag} {x dx C f : Addr} {mA : Str → Option Value} {name : Str} {v : Value}

end

theorem RelO.some_of {v : V} {o : Option Value} (r : RelO (some v) o) : ∃ u, o = some u ∧ RelV v u := by
  cases o with
  | none => exact (show False from r).elim
  | some u => exact ⟨u, rfl, r⟩
section
variable {P : Program} {w : World} {H H' : Hp} {h h' : Heap} {a C dx : Addr} {fs fs' : List (Str × V)}
theorem ins_get (hok : HOk P w H h) (e : H a = some (.ins C dx fs)) : ∃ mA, ObjM h a dx C mA ∧ (∀ f, RelO (fs.lookup f) (mA f)) ∧ PySem.Within mA (fs.map (·.1)) ∧ fs.length ≤ 1000 ∧ H dx = some (.own a) := by
  obtain ⟨d, z, ne, ob, mA, n, r, q⟩ := (show ObjOk P w H h a (.ins C dx fs) from hok a _ e)
  exact ⟨mA, ⟨ob, n, ne⟩, r, q, z, d⟩
end

structure Cls (K : PySem.W.Frag) (C : Addr) : Prop where
  pg : PySem.W.plainGet K C Str.empty = true
  hd : PySem.W.hasDictIn K C = true
  po : PySem.W.plainOver K C = true
  sa : PySem.W.findIn K (.ref C) "__setattr__" = some (some (.builtin "object.__setattr__"))
theorem Cls.get {K : PySem.W.Frag} {C : Addr} (c : Cls K C) (f : Str) : PySem.W.plainGet K C f = true := c.pg
/-- a constant of the class -/
structure Con (K : PySem.W.Frag) (C : Addr) (f : Str) (v : V) (u : Value) : Prop where
  at_ : PySem.W.findIn K (.ref C) f = some (some u)
  rel : RelV v u
  get : PySem.W.specialIn K u "__get__" = some none
  cp : PySem.W.copiedNames.contains f = false
section
variable {X : Cx} {pins : List (Addr × Obj)} {σ : St} {H : Hp} {s : Shared} {a C dx : Addr} {fs : List (Str × V)} {f : Str} {v : V} {A : Around} {E : Value → Shared → Prop}

end

section
variable {X : Cx} {o e value : Expr} {f : Str} {pos pos' tpos : Pos} {ta tv : TE}
end

section
variable {X : Cx} {pins : List (Addr × Obj)} {σ : St} {H : Hp} {s : Shared} {A : Around} {E : Value → Shared → Prop} {Q : Value → Shared → Prop} {c : Value} {b : Bool}
/-- the type of a value, as the fragment's deciders take it; for an instance its class -/
inductive TyOf (K : PySem.W.Frag) (H : Hp) : V → Value → Prop where
  | non : TyOf K H .non (.type "NoneType")
  | bl (x : Bool) : TyOf K H (.bl x) (.type "bool")
  | int (i : Int) : TyOf K H (.int i) (.type "int")
  | str (x : Str) : TyOf K H (.str x) (.type "str")
  | flt (x : UInt64) : TyOf K H (.flt x) (.type "float")
  | lst {a : Addr} {xs : List V} (e : H a = some (.lst xs)) : TyOf K H (.ref a) (.type "list")
  | frz {a : Addr} {o : Obj} {xs : List V} (e : H a = some (.frz o (.lst xs))) : TyOf K H (.ref a) (.type "list")
  | tup {a : Addr} {xs : List V} (e : H a = some (.tup xs)) : TyOf K H (.ref a) (.type "tuple")
  | dK {a : Addr} {kvs : List (Key × V)} (e : H a = some (.dK kvs)) : TyOf K H (.ref a) (.type "dict")
  | dT {a : Addr} {kvs : List (List Key × V)} (e : H a = some (.dT kvs)) : TyOf K H (.ref a) (.type "dict")
  | ins {a C dx : Addr} {fs : List (Str × V)} (e : H a = some (.ins C dx fs)) (cl : Cls K C) (ha : PySem.W.findIn K (.ref C) "__class__" = some (some (.builtin "object.__class__")))
      (hn : PySem.W.specialIn K (.builtin "object.__class__") "__get__" = some (some (.builtin "getset_descriptor.__get__"))) (htk : PySem.W.takesIn K (.builtin "object.__class__") = some true)
      (hm : PySem.W.mroIn K C (.type "object") = some true) : TyOf K H (.ref a) (.ref C)
/-- isinstance(x, c) for one class c, a built-in or an own one: kitOne's answer -/
theorem isinst_ok {x : V} {u t : Value} (I : Inv X pins σ H s) (rx : RelV x u) (ty : TyOf X.K H x t) (e : PySem.W.kitOne X.K t c = some b) (h : ∀ tk, Q (.bool b) { s with toks := tk }) :
    wpAny (model X.prog X.w) A (call (.builtin "isinstance") [u, c]) Q E s := by
  cases ty with
  | non => cases (show u = Value.none from rx); exact PySem.W.kia_one PySem.W.kitx_none I.kIn True.intro e (fun z => nomatch z) h
  | bl y => cases (show u = Value.bool y from rx); exact PySem.W.kia_one PySem.W.kitx_bool I.kIn True.intro e (fun z => nomatch z) h
  | int i => obtain ⟨t, q⟩ := (show ∃ t, u = Value.int i t from rx); cases q; exact PySem.W.kia_one PySem.W.kitx_int I.kIn True.intro e (fun z => nomatch z) h
  | str y => obtain ⟨t, q⟩ := (show ∃ t, u = Value.str y t from rx); cases q; exact PySem.W.kia_one PySem.W.kitx_str I.kIn True.intro e (fun z => nomatch z) h
  | flt y => obtain ⟨t, q⟩ := (show ∃ t, u = Value.float y t from rx); cases q; exact PySem.W.kia_one PySem.W.kitx_float I.kIn True.intro e (fun z => nomatch z) h
  | @lst a xs ea =>
    cases (show u = Value.ref a from rx)
    obtain ⟨_, _, n, _, h1⟩ := (show ObjOk X.prog X.w H s.heap a (.lst xs) from I.hok a _ ea)
    exact PySem.W.kia_one PySem.W.kitx_list I.kIn ⟨_, h1, rfl⟩ e (fun z => nomatch z) h
  | @frz a ob xs ea =>
    cases (show u = Value.ref a from rx)
    obtain ⟨_, _, _, n, _, h1⟩ := (show ObjOk X.prog X.w H s.heap a (.frz ob (.lst xs)) from I.hok a _ ea)
    exact PySem.W.kia_one PySem.W.kitx_list I.kIn ⟨_, h1, rfl⟩ e (fun z => nomatch z) h
  | @tup a xs ea =>
    cases (show u = Value.ref a from rx)
    obtain ⟨_, _, _, p⟩ := (show ObjOk X.prog X.w H s.heap a (.tup xs) from I.hok a _ ea)
    obtain ⟨o, h1, h2, _⟩ := p.1
    exact PySem.W.kia_one PySem.W.kitx_tuple I.kIn ⟨o, h1, h2⟩ e (fun z => nomatch z) h
  | @dK a kvs ea =>
    cases (show u = Value.ref a from rx)
    obtain ⟨_, _, vs, _, p⟩ := (show ObjOk X.prog X.w H s.heap a (.dK kvs) from I.hok a _ ea)
    obtain ⟨o, es, ep, h1, h2, _⟩ := p
    exact PySem.W.kia_one PySem.W.kitx_dict I.kIn ⟨o, h1, h2.1⟩ e (fun z => nomatch z) h
  | @dT a kvs ea =>
    cases (show u = Value.ref a from rx)
    obtain ⟨_, _, xs, _, o, es, ep, h1, h2, _⟩ := (show ObjOk X.prog X.w H s.heap a (.dT kvs) from I.hok a _ ea)
    exact PySem.W.kia_one PySem.W.kitx_dict I.kIn ⟨o, h1, h2.1⟩ e (fun z => nomatch z) h
  | @ins a C dx fs ea cl ha hn htk hm =>
    cases (show u = Value.ref a from rx)
    obtain ⟨mA, O, _⟩ := ins_get I.hok ea
    obtain ⟨od, J, _⟩ := O.look
    exact PySem.W.kia_one (PySem.W.kitx_own (cl.get _) cl.hd ha hn htk hm) I.kIn J e (fun z => nomatch z) h
end
end L2

namespace L2
open PySem PySem.Spec PyProof.Rows

structure Room (k : Nat) (A : Around) : Prop where
  hd : A.handled = none
  dp : A.depth + 3 * k + 5 < recursionLimit
  un : A.units + 16 * k + 200 < cLine
theorem Room.mono {j k : Nat} {A : Around} (r : Room k A) (h : j ≤ k) : Room j A := ⟨r.hd, by have := r.dp; omega, by have := r.un; omega⟩
theorem Room.deeper {k : Nat} {A : Around} (r : Room (k + 1) A) (env : Env) : Room k (A.deeper env) :=
  ⟨r.hd, by have := r.dp; show A.depth + 1 + 3 * k + 5 < _; omega, by have := r.un; show A.units + 3 + 16 * k + 200 < _; omega⟩
theorem Room.in1 {k : Nat} {A : Around} (r : Room (k + 1) A) : Room k A.in1 :=
  ⟨r.hd, by have := r.dp; show A.depth + 3 * k + 5 < _; omega, by have := r.un; show A.units + 1 + 16 * k + 200 < _; omega⟩
theorem make_depth {A : Around} {C : Addr} {us : List Value} {kw : List (Str × Value)} : (A.under (.builtin "type.__call__" ⟨.ref C :: us, kw⟩)).depth = A.depth + 1 := by
  first | rfl | simp [Around.under, Code.weight, Code.isCreation, Code.isGuard, Code.isCaller, Code.frames, Code.isFrame, guardIds]
theorem make_units {A : Around} {C : Addr} {us : List Value} {kw : List (Str × Value)} : (A.under (.builtin "type.__call__" ⟨.ref C :: us, kw⟩)).units = A.units + 1 := by
  first | rfl | simp [Around.under, Code.cUnits, Code.frames, Code.isFrame]
theorem Room.make {k : Nat} {A : Around} (r : Room (k + 1) A) (C : Addr) (us : List Value) (kw : List (Str × Value)) : Room k (A.under (.builtin "type.__call__" ⟨.ref C :: us, kw⟩)) :=
  ⟨r.hd, by have := r.dp; rw [make_depth]; omega, by have := r.un; rw [make_units]; omega⟩
theorem Room.depth {k : Nat} {A : Around} (r : Room k A) : A.depth < recursionLimit := by have := r.dp; omega
theorem Room.units {k : Nat} {A : Around} (r : Room k A) : A.units + 64 < cLine := by have := r.un; omega
noncomputable def tNil : TA := fun _ H Q => Q [] H
noncomputable def tCons (ta : TE) (tr : TA) : TA := fun σ H Q => ta σ H fun x H1 => tr σ H1 fun xs H2 => Q (x :: xs) H2
section
variable {X : Cx} {e : Expr} {es : List Expr} {te : TE} {t : TA} {pos : Pos}
theorem pa_nil : PA X [] tNil := fun _ _ _ _ H Q I h => Calls.spliced_nil ⟨[], H, I, .nil, h⟩
theorem pa_cons (ha : PE X e te) (hr : PA X es t) (hs : starEach (e :: es) X.env = (false, eval e X.env) :: starEach es X.env := by rfl) : PA X (e :: es) (tCons te t) := by
  intro pos pins s σ H Q I h
  rw [hs]
  show wpAny _ _ (spliced ((false, eval e X.env) :: backTo pos (starEach es X.env))) _ _ s
  refine Calls.spliced_cons (thn (ha pins s σ H _ I h) fun u s1 ⟨x, H1, I1, r1, q1⟩ => ?_)
  exact thn (hr pos pins s1 σ H1 _ I1 q1) fun us s2 ⟨xs, H2, I2, r2, q2⟩ => ⟨x :: xs, H2, I2, .cons r1 r2, q2⟩

/-- a tuple, a list of written items -/
noncomputable def tTup (t : TA) : TE := fun σ H Q => t σ H fun xs H1 => xs.length ≤ sizeLine ∧ ∀ p, H1 p = none → Q (.ref p) (upd H1 p (.tup xs))
noncomputable def tLst (t : TA) : TE := fun σ H Q => t σ H fun xs H1 => xs.length ≤ sizeLine ∧ ∀ p, H1 p = none → Q (.ref p) (upd H1 p (.lst xs))
theorem pe_tup {x1} (h : PA X es t) : PE X (.Tuple es x1 pos) (tTup t) := by
  intro pins s σ H Q I hq
  refine wpAny_Tuple_spliced (thn (h pos pins s σ H _ I hq) fun us s1 ⟨xs, H1, I1, r, z, q⟩ => ⟨by rw [← r.length]; exact z, ?_⟩)
  have hf : H1 s1.heap.objs.size = none := I1.hok.fresh (Nat.le_refl _)
  refine ⟨.ref s1.heap.objs.size, upd H1 s1.heap.objs.size (.tup xs), I1.laid (t' := s1.toks) (fun b u e => Heap.get?_push_of_some _ e) (Nat.le_refl _) ?_, rfl, q _ hf⟩
  exact ⟨z, us, r, ⟨_, Heap.get?_push_size _ rfl, rfl, _, rfl⟩, _, Heap.get?_push_size _ rfl, rfl⟩
theorem pe_lst (h : PA X es t) : PE X (.List es pos) (tLst t) := by
  intro pins s σ H Q I hq
  refine wpAny_List_spliced (thn (h pos pins s σ H _ I hq) fun us s1 ⟨xs, H1, I1, r, z, q⟩ => ⟨by rw [← r.length]; exact z, ?_⟩)
  have hf : H1 s1.heap.objs.size = none := I1.hok.fresh (Nat.le_refl _)
  refine ⟨.ref s1.heap.objs.size, upd H1 s1.heap.objs.size (.lst xs), I1.laid (t' := s1.toks) (fun b u e => Heap.get?_push_of_some _ e) (Nat.le_refl _) ?_, rfl, q _ hf⟩
  exact ⟨z, us, 0, r, Heap.get?_push_size _ rfl⟩
end

/-- a def's promise: the bound arguments in the parameters' order, the heap, the wanted end, the wanted exception -/
noncomputable abbrev Sp := List V → Hp → VK → XK → Prop
/-- how an exception lies behind a call (file 08 gives it): the callers' frames, abstract heap and state ahead of the call, the wish, the exception, the state -/
noncomputable abbrev CXT := List Env → Hp → Shared → XK → Value → Shared → Prop

/-- the state at a call -/
structure Env0 (P : Program) (w : World) (K : PySem.W.Frag) (mg : Str → Option Value) (base : Heap) (A : Around) (outer : List Env) (s : Shared) (H : Hp) : Prop where
  frames : A.frames = some outer
  mod : Mod K mg base
  bs : ∀ b o, base.get? b = some o → s.heap.get? b = some o ∧ H b = none
  bsz : base.objs.size ≤ s.heap.objs.size
  funs : s.heap.FunFrames base outer
  frf : ∀ b ∈ frs outer, H b = none
  hok : HOk P w H s.heap
  bare : AllBare s.gens
/-- a call's end -/
noncomputable def CE (outer : List Env) (P : Program) (w : World) (H : Hp) (s : Shared) (Q : VK) (u : Value) (s' : Shared) : Prop :=
  ∃ v H', s'.os = s.os ∧ AllBare s'.gens ∧ Un (frs outer) [] H H' s.heap s'.heap ∧ HOk P w H' s'.heap ∧ RelV v u ∧ Q v H'
noncomputable def CR (CX : CXT) (outer : List Env) (P : Program) (w : World) (H : Hp) (s : Shared) (Q : VK) (E : XK) (r : Result) (s' : Shared) : Prop :=
  match r with
  | .ok (.ret u) => CE outer P w H s Q u s'
  | .ok _ => False
  | .error e => CX outer H s E e s'
structure FnOk (P : Program) (w : World) (K : PySem.W.Frag) (mg : Str → Option Value) (base : Heap) (CX : CXT) (k : Nat) (f : Addr) (fd : FuncData) (ps : List Str) (sp : Sp) : Prop where
  len : ∀ vs H Q E, sp vs H Q E → vs.length = ps.length
  run : ∀ (A : Around) (outer : List Env) (s : Shared) (H : Hp) (args : Args) (us : List Value) (vs : List V) (Q : VK) (E : XK), Room k A → Env0 P w K mg base A outer s H → BindsTo s fd args (ps.zip us) → Vals vs us → sp vs H Q E →
    codeAny (model P w) A (.call (.ref f) args) (CR CX outer P w H s Q E) s
theorem FnOk.mono {P : Program} {w : World} {K : PySem.W.Frag} {mg : Str → Option Value} {base : Heap} {CX : CXT} {j k : Nat} {f : Addr} {fd : FuncData} {ps : List Str} {sp : Sp} (F : FnOk P w K mg base CX j f fd ps sp) (h : j ≤ k) :
    FnOk P w K mg base CX k f fd ps sp := ⟨F.len, fun A outer s H args us vs Q E hr => F.run A outer s H args us vs Q E (hr.mono h)⟩
theorem Env0.make {P : Program} {w : World} {K : PySem.W.Frag} {mg : Str → Option Value} {base : Heap} {A : Around} {outer : List Env} {s : Shared} {H : Hp} (e : Env0 P w K mg base A outer s H) (C : Addr) (us : List Value) (kw : List (Str × Value)) :
    Env0 P w K mg base (A.under (.builtin "type.__call__" ⟨.ref C :: us, kw⟩)) outer s H := ⟨by first | exact e.frames | (simpa [Around.under, Code.envs, Code.isFrame, pushEnvs] using e.frames), e.mod, e.bs, e.bsz, e.funs, e.frf, e.hok, e.bare⟩
theorem Env0.in1 {P : Program} {w : World} {K : PySem.W.Frag} {mg : Str → Option Value} {base : Heap} {A : Around} {outer : List Env} {s : Shared} {H : Hp} (e : Env0 P w K mg base A outer s H) :
    Env0 P w K mg base A.in1 outer s H := ⟨e.frames, e.mod, e.bs, e.bsz, e.funs, e.frf, e.hok, e.bare⟩

section
variable {X : Cx} {pins : List (Addr × Obj)} {σ : St} {H : Hp} {s s' : Shared}
/-- from a body: what a callee wants -/
theorem Inv.env0 (I : Inv X pins σ H s) : Env0 X.prog X.w X.K X.mg X.base X.A X.stack s H :=
  ⟨I.ok.frames, I.ok.mod, I.bs, Nat.le_trans I.ok.bsz I.sz, I.stack, I.stkFree, I.hok, I.bare⟩
/-- behind a call -/
theorem Inv.after {Q : VK} {u : Value} (I : Inv X pins σ H s) (h : CE X.stack X.prog X.w H s Q u s') : EP X pins σ Q u s' := by
  obtain ⟨v, H', os, bare, un, hok, r, q⟩ := h
  obtain ⟨hh, g, d, t, os'⟩ := s'
  obtain rfl : os' = s.os := os
  exact ⟨v, H', I.call (h' := hh) (g' := g) (d' := d) (t' := t) (ch := []) un hok bare (fun b z => absurd z (by simp)), r, q⟩
end

/-- f(..): the written arguments, then the defaults dvs; E: what is wanted of an exception -/
noncomputable def tCall (sp : Sp) (dvs : List V) (E : XK) (t : TA) : TE := fun σ H Q => t σ H fun vs H1 => sp (vs ++ dvs) H1 Q E
/-- how the parameters are bound: us the positional arguments, kw the keywords' values by name, ds the defaults that fill up -/
noncomputable def Binds (K : PySem.W.Frag) (fd : FuncData) (ps : List Str) (ds : List Value) : Prop :=
  ∀ (s : Shared) (us : List Value), K.In s.heap → (us ++ ds).length = ps.length → BindsTo s fd ⟨us, []⟩ (ps.zip (us ++ ds))
/-- every parameter is given -/
theorem Binds.all {K : PySem.W.Frag} {fd : FuncData} {ps : List Str} (h : ∀ us : List Value, us.length = ps.length → bindArgs fd ⟨us, []⟩ = pure (ps.zip us)) : Binds K fd ps [] := fun s us _ hl => by
  rw [List.append_nil] at hl ⊢
  exact .of_eq (h us hl)

/-- an exception of a callee reaches what this body wants of exceptions -/
noncomputable def Passes (CX : CXT) (X : Cx) (E : XK) : Prop := ∀ (pins : List (Addr × Obj)) (σ : St) (H : Hp) (s : Shared) (e : Value) (s' : Shared), Inv X pins σ H s → CX X.stack H s E e s' → X.xe e s'

section
variable {X : Cx} {CX : CXT} {k : Nat} {f C : Addr} {fd : FuncData} {ps : List Str} {sp : Sp} {dvs : List V} {ds : List Value} {E : XK} {x m : Str} {p pos apos : Pos} {e o : Expr} {es : List Expr} {ta : TE} {t : TA}

/-- the callee runs -/
theorem run_fn {pins : List (Addr × Obj)} {σ : St} {H : Hp} {s : Shared} {Q : VK} {us : List Value} {vs : List V} (F : FnOk X.prog X.w X.K X.mg X.base CX k f fd ps sp) (hr : Room k X.A) (hb : Binds X.K fd ps ds) (hd : Vals dvs ds) (hx : Passes CX X E)
    (I : Inv X pins σ H s) (r : Vals vs us) (h : sp (vs ++ dvs) H Q E) : wpAny (model X.prog X.w) X.A (call (.ref f) us) (EP X pins σ Q) X.xe s := by
  have r2 : Vals (vs ++ dvs) (us ++ ds) := r.append hd
  have hl : (us ++ ds).length = ps.length := by rw [← r2.length]; exact F.len _ _ _ _ h
  refine wpAny_call (codeAny_mono (F.run X.A X.stack s H ⟨us, []⟩ (us ++ ds) (vs ++ dvs) Q E hr I.env0 (hb s us I.kIn hl) r2 h) fun r s' hq => ?_)
  cases r with
  | error e => exact hx pins σ H s e s' I hq
  | ok fl =>
    cases fl with
    | ret u => exact I.after hq
    | next => exact False.elim hq
    | brk => exact False.elim hq
    | cont => exact False.elim hq

theorem pe_call (F : FnOk X.prog X.w X.K X.mg X.base CX k f fd ps sp) (hr : Room k X.A) (hg : Gl X x) (hm : X.mg x = some (.ref f)) (hk : PySem.W.keepIn X.K (.ref f) = true) (hb : Binds X.K fd ps ds) (hd : Vals dvs ds) (hx : Passes CX X E)
    (ha : PA X (e :: es) t) (hdb : (x == ("__debug__" : Str)) = false := by decide) (he : starEach (e :: es) X.env = (false, eval e X.env) :: starEach es X.env := by rfl) (hpl : (backTo pos (starEach es X.env)).any (·.1) = false := by rfl) :
    PE X (.Call (.Name x p) (e :: es) [] pos) (tCall sp dvs E t) := by
  intro pins s σ H Q I h
  refine wpAny_Call_Name_kw (ld_glob I hg hm ?_ hdb)
  refine PySem.W.callWith_K (h₀ := X.base) I.ok.mod.kin hk (thn (ha pos pins s σ H _ I h) fun us s1 ⟨vs, H1, I1, r, q⟩ => ⟨I1.kIn, ?_⟩) he hpl
  exact run_fn F hr hb hd hx I1 r q
end

section
variable {X : Cx} {CX : CXT} {k : Nat} {f C : Addr} {fd : FuncData} {ps ks : List Str} {sp : Sp} {E : XK} {x m : Str} {p pos apos kpos : Pos} {e o : Expr} {es : List Expr} {kws : List Keyword} {te ta : TE} {t tk : TA} {nm : Option Str}
variable {g : List Value → List Value → List Value} {gV : List V → List V → List V}
end

/-- names: the parameters first -/
structure FnScope (N P : List Str) (sc : Scope) : Prop where
  kind : sc.kind = .function
  co : sc.isCoroutine = false
  gen : sc.isGenerator = false
  nd : N.Nodup
  pre : N.take P.length = P
  par : ∀ x ∈ P, sc.names.lookup x = some .local ∨ sc.names.lookup x = some .cell
  nofree : ∀ y ∈ sc.names, y.2 ≠ .free

theorem bindL_out {kindOf : Str → Option NameKind} {x : Str} : ∀ {binds : List (Str × Value)} {m : Str → Option Value}, (∀ v, (x, v) ∉ binds) → bindL kindOf binds m x = m x
  | [], _, _ => rfl
  | (n, v) :: r, m, h => by
    unfold bindL
    rw [bindL_out fun w hw => h w (List.mem_cons_of_mem _ hw)]
    split
    · have : x ≠ n := by rintro rfl; exact h v List.mem_cons_self
      simp [this]
    · rfl
theorem bindC_out {kindOf : Str → Option NameKind} {x : Str} : ∀ {binds : List (Str × Value)} {m : Str → Option Value}, (∀ v, (x, v) ∉ binds) → bindC kindOf binds m x = m x
  | [], _, _ => rfl
  | (n, v) :: r, m, h => by
    unfold bindC
    rw [bindC_out fun w hw => h w (List.mem_cons_of_mem _ hw)]
    split
    · rfl
    · have : x ≠ n := by rintro rfl; exact h v List.mem_cons_self
      simp [this]
theorem bindL_get {kindOf : Str → Option NameKind} {x : Str} {v : Value} : ∀ {P : List Str} {vs : List Value} {i : Nat} {m : Str → Option Value}, P.Nodup → P[i]? = some x → vs[i]? = some v → kindOf x = some .local →
    bindL kindOf (P.zip vs) m x = some v
  | [], _, _, _, _, h, _, _ => by simp at h
  | _ :: _, [], _, _, _, _, h, _ => by simp at h
  | p :: P, w :: vs, 0, m, nd, h1, h2, hk => by
    simp at h1 h2; subst h1; subst h2
    show bindL kindOf ((p, w) :: P.zip vs) m p = _
    unfold bindL
    rw [bindL_out fun v hv => (List.nodup_cons.mp nd).1 (List.of_mem_zip hv).1, if_pos hk]
    simp
  | p :: P, w :: vs, i + 1, m, nd, h1, h2, hk => by
    show bindL kindOf ((p, w) :: P.zip vs) m x = _
    unfold bindL
    exact bindL_get (i := i) (List.nodup_cons.mp nd).2 (by simpa using h1) (by simpa using h2) hk
theorem bindC_get {kindOf : Str → Option NameKind} {x : Str} {v : Value} : ∀ {P : List Str} {vs : List Value} {i : Nat} {m : Str → Option Value}, P.Nodup → P[i]? = some x → vs[i]? = some v → kindOf x ≠ some .local →
    bindC kindOf (P.zip vs) m x = some v
  | [], _, _, _, _, h, _, _ => by simp at h
  | _ :: _, [], _, _, _, _, h, _ => by simp at h
  | p :: P, w :: vs, 0, m, nd, h1, h2, hk => by
    simp at h1 h2; subst h1; subst h2
    show bindC kindOf ((p, w) :: P.zip vs) m p = _
    unfold bindC
    rw [bindC_out fun v hv => (List.nodup_cons.mp nd).1 (List.of_mem_zip hv).1, if_neg hk]
    simp
  | p :: P, w :: vs, i + 1, m, nd, h1, h2, hk => by
    show bindC kindOf ((p, w) :: P.zip vs) m x = _
    unfold bindC
    exact bindC_get (i := i) (List.nodup_cons.mp nd).2 (by simpa using h1) (by simpa using h2) hk

/-- the names' values at the entry -/
noncomputable def start (N : List Str) (vs : List V) : St := vs.map some ++ List.replicate (N.length - vs.length) none

/-- the context of a def's body, at its entry; an exception leaves the frame, then lies as CX says -/
noncomputable def cxOf (CX : CXT) (P : Program) (w : World) (K : PySem.W.Frag) (mg : Str → Option Value) (base : Heap) (N : List Str) (qual : Str) (scope : Scope) (f : Addr) (cd : Value) (A : Around) (outer : List Env) (s : Shared) (H : Hp) (E : XK) : Cx where
  prog := P
  w := w
  K := K
  mg := mg
  base := base
  A := A.deeper (envOfC qual scope s.heap.objs.size f cd)
  N := N
  s₀ := s
  H₀ := H
  env := envOfC qual scope s.heap.objs.size f cd
  outer := outer
  stack := envOfC qual scope s.heap.objs.size f cd :: outer
  ex := []
  calm := true
  fn := fun _ => true
  pn := []
  xe := fun e s' => wpAny (model P w) (A.deeper (envOfC qual scope s.heap.objs.size f cd)) (leaving (envOfC qual scope s.heap.objs.size f cd) e) (fun _ s'' => CX outer H s E e s'') (fun e' s'' => CX outer H s E e' s'') s'

theorem cell_has {sc : Scope} {n : Nat} {x : Str} (h : sc.names.lookup x = some .cell) : ∃ c, (cellsFrom n sc.names []).lookup x = some c := by
  have q := PySem.W.cellsFrom_some sc.names n [] (.inl h)
  exact Option.isSome_iff_exists.mp q

theorem inv_start {CX : CXT} {P : Program} {w : World} {K : PySem.W.Frag} {mg : Str → Option Value} {base : Heap} {N ps : List Str} {qual : Str} {scope : Scope} {f : Addr} {cd : Value} {A : Around} {outer : List Env} {s s1 : Shared} {H : Hp} {E : XK} {us : List Value} {vs : List V}
    (S : FnScope N ps scope) (hd : A.handled = none) (e0 : Env0 P w K mg base A outer s H) (hl : vs.length = ps.length) (r : Vals vs us)
    (x : InCallC s s.heap.objs.size (bindL (envOfC qual scope s.heap.objs.size f cd).kindOf (ps.zip us) fun _ => none) (cellsFrom (s.heap.objs.size + 1) scope.names []) (bindC (envOfC qual scope s.heap.objs.size f cd).kindOf (ps.zip us) fun _ => none) s1) :
    Inv (cxOf CX P w K mg base N qual scope f cd A outer s H E) [] (start N vs) H s1 := by
  have hpl : ps.length ≤ N.length := by have := congrArg List.length S.pre; rw [List.length_take] at this; omega
  obtain ⟨h1, tk, rfl, hk⟩ := x.done
  have noA : ∀ b : Addr, b ∉ (cxOf CX P w K mg base N qual scope f cd A outer s H E).ex := fun b z => absurd (show b ∈ ([] : List Addr) from z) (by simp)
  refine ⟨⟨e0.mod, S.kind, rfl, rfl, Nat.le_refl _, fun y z c h1 h2 => ?_, fun y hy => ?_, fun y c _ h => ?_, fun _ => hd, Around.frames_deeper e0.frames, .inr ⟨rfl, rfl⟩, fun b z => absurd z (noA b), e0.bs, e0.bsz, fun b _ _ => noA b, fun b z => absurd z (noA b), e0.funs, e0.frf⟩,
    rfl, e0.bare, Un.kept hk, ⟨_, x.toInCall.ns, fun i y v h1 h2 h3 => ?_⟩, fun y c h => ⟨_, x.cell y c h⟩, e0.hok.fresh (Nat.le_refl _), fun y c h => ?_, fun p hp => absurd (show p ∈ ([] : List (Addr × Obj)) from hp) (by simp), e0.hok.kept hk, ?_⟩
  · exact name_of_addr x.apart (PySem.mem_of_lookup h1) (PySem.mem_of_lookup h2)
  · have hy : scope.names.lookup y = some .cell ∨ scope.names.lookup y = some .free := hy
    rcases hy with hy | hy
    · exact cell_has hy
    · exact absurd rfl (S.nofree _ (PySem.mem_of_lookup hy))
  · exact Nat.le_of_lt (x.above y c (PySem.mem_of_lookup h))
  · have hi : i < vs.length := by
      unfold start at h2
      by_cases hi : i < vs.length
      · exact hi
      · rw [List.getElem?_append_right (by simpa using hi)] at h2
        rw [List.getElem?_replicate] at h2
        split at h2 <;> cases h2
    have ha : vs[i]? = some v := by
      unfold start at h2
      rw [List.getElem?_append_left (by simpa using hi), List.getElem?_map] at h2
      cases e : vs[i]? with
      | none => rw [e] at h2; cases h2
      | some a => rw [e] at h2; cases h2; rfl
    obtain ⟨u, hu, rv⟩ := r.get ha
    have hp : ps[i]? = some y := by
      rw [← S.pre, List.getElem?_take_of_lt (by omega)]; exact h1
    have ndP : ps.Nodup := by rw [← S.pre]; exact S.nd.sublist (List.take_sublist _ _)
    refine ⟨u, rv, ?_⟩
    rcases S.par y (List.mem_of_getElem? hp) with k | k
    · exact .inl ⟨k, bindL_get ndP hp hu k⟩
    · obtain ⟨c, e⟩ := cell_has (n := s.heap.objs.size + 1) k
      refine .inr ⟨.inl k, c, e, ?_⟩
      have q := x.cell y c e
      rw [bindC_get ndP hp hu (by show scope.names.lookup y ≠ _; rw [k]; decide)] at q
      exact q
  · exact e0.hok.fresh (Nat.le_of_lt (x.above y c (PySem.mem_of_lookup h)))
  · unfold start
    show _ = N.length
    rw [List.length_append, List.length_map, List.length_replicate]
    omega

/-- THE RULE: a def (or a method) of the text, by its body. The body's reading t is chosen for each entry; it is run at the parameters' values -/
theorem fn_of {CX : CXT} {P : Program} {w : World} {K : PySem.W.Frag} {mg : Str → Option Value} {base : Heap} {k : Nat} {f : Addr} {name qual : Str} {params : Arguments} {body : List Stmt} {scope : Scope} {dV kV doc pm cdv ct oc : Value} {an od : Option Addr}
    {osl : Array (Option Value)} {N ps : List Str} {sp : Sp} (lk : K.lookup f = some ⟨oc, od, .func (PySem.W.fnOf name qual params body scope dV kV doc pm an cdv ct), osl⟩) (hcd : PySem.W.codeIn K cdv qual = true) (S : FnScope N ps scope)
    (len : ∀ vs H Q E, sp vs H Q E → vs.length = ps.length)
    (hbody : ∀ (A : Around) (outer : List Env) (s : Shared) (H : Hp) (vs : List V) (Q : VK) (E : XK), Room k (A.deeper (envOfC qual scope s.heap.objs.size f cdv)) → sp vs H Q E →
      ∃ t, PSs (cxOf CX P w K mg base N qual scope f cdv A outer s H E) body t ∧ t { nx := fun _ H' => Q .non H', rt := Q } (start N vs) H) :
    FnOk P w K mg base CX (k + 1) f (PySem.W.fnOf name qual params body scope dV kV doc pm an cdv ct) ps sp := by
  refine ⟨len, fun A outer s H args us vs Q E hr e0 hb r hsp => ?_⟩
  have hl := len _ _ _ _ hsp
  have KX : K.In s.heap := e0.mod.kin.keeps fun b o e => (e0.bs b o e).1
  have lim : s.heap.NoLimit := e0.mod.nolimit.keeps fun b o e => (e0.bs b o e).1
  have hkind : ∀ y ∈ ps.zip us, scope.names.lookup y.1 = some .local ∨ (scope.names.lookup y.1 = some .cell ∧ ((cellsFrom (s.heap.objs.size + 1) scope.names []).lookup y.1).isSome = true) := fun ⟨n, v⟩ hy => by
    rcases S.par n (List.of_mem_zip hy).1 with q | q
    · exact .inl q
    · exact .inr ⟨q, PySem.W.cellsFrom_some _ _ _ (.inl q)⟩
  refine codeAny_call_function hr.depth (KX _ _ lk) rfl S.co S.gen rfl (PySem.W.codeRec_of KX hcd) (hb _ _ _ _ ?_)
  refine wpAny_newFunctionEnv_cells S.kind hkind fun env he s1 x => ?_
  subst he
  refine ⟨lim.keeps x.toInCall.keep, codeAny_func ?_⟩
  obtain ⟨t, ht, hq⟩ := hbody A outer s H vs Q E (hr.deeper _) hsp
  have I : Inv (cxOf CX P w K mg base N qual scope f cdv A outer s H E) [] (start N vs) H s1 := inv_start S hr.hd e0 hl r x
  refine wpAny_mono (ht [] s1 (start N vs) H _ I hq) (fun fl s' hs => ?_) fun e s' hs => hs
  have fin : ∀ {σ' : St} {H' : Hp} {v : V} {u : Value}, Inv (cxOf CX P w K mg base N qual scope f cdv A outer s H E) [] σ' H' s' → RelV v u → Q v H' → CE outer P w H s Q u s' :=
    fun {σ' H' v u} J rv q => ⟨v, H', J.os, J.bare, J.base, J.hok, rv, q⟩
  cases fl with
  | ret u =>
    obtain ⟨v, σ', H', J, rv, q⟩ := hs
    exact fin J rv q
  | next =>
    obtain ⟨σ', H', J, q⟩ := hs
    exact fin (v := V.non) (u := Value.none) J rfl q
  | brk =>
    obtain ⟨_, _, _, q⟩ := hs
    exact False.elim q
  | cont =>
    obtain ⟨_, _, _, q⟩ := hs
    exact False.elim q
end L2

namespace L2
open PySem PySem.Spec PyProof.Rows
section
variable {X : Cx} {x : Str} {p pos : Pos} {e : Expr} {es : List Expr} {t : TA} {id T : String} {r : List V → Hp → VK → Prop}

noncomputable def tCB (r : List V → Hp → VK → Prop) (t : TA) : TE := fun σ H Q => t σ H fun vs H1 => r vs H1 Q
/-- f(e, ..), f a built-in function -/
theorem pe_callB (hc : CallR X (.builtin id) r) (hg : Gl X x) (hm : X.mg x = none) (hv : bootBuiltins x = some (.builtin id)) (ha : PA X (e :: es) t) (hn : x ≠ "__name__" := by decide) (hdb : (x == ("__debug__" : Str)) = false := by decide)
    (he : starEach (e :: es) X.env = (false, eval e X.env) :: starEach es X.env := by rfl) (hpl : (backTo pos (starEach es X.env)).any (·.1) = false := by rfl) : PE X (.Call (.Name x p) (e :: es) [] pos) (tCB r t) := by
  intro pins s σ H Q I h
  refine wpAny_Call_Name_kw (ld_blt I hg hm hv ?_ hn hdb)
  exact PyProof.Rows.callWith_builtin1 (thn (ha pos pins s σ H _ I h) fun us s1 ⟨vs, H1, I1, r1, q1⟩ => hc pins s1 σ H1 vs us Q I1 r1 q1) he hpl
/-- T(e, ..), T a built-in type -/
theorem pe_callTy (hc : CallR X (.type T) r) (hg : Gl X x) (hm : X.mg x = none) (hv : bootBuiltins x = some (.type T)) (ha : PA X (e :: es) t) (hn : x ≠ "__name__" := by decide) (hdb : (x == ("__debug__" : Str)) = false := by decide)
    (he : starEach (e :: es) X.env = (false, eval e X.env) :: starEach es X.env := by rfl) (hpl : (backTo pos (starEach es X.env)).any (·.1) = false := by rfl) : PE X (.Call (.Name x p) (e :: es) [] pos) (tCB r t) := by
  intro pins s σ H Q I h
  refine wpAny_Call_Name_kw (ld_blt I hg hm hv ?_ hn hdb)
  exact PyProof.Rows.callWith_type1 (thn (ha pos pins s σ H _ I h) fun us s1 ⟨vs, H1, I1, r1, q1⟩ => hc pins s1 σ H1 vs us Q I1 r1 q1) he hpl
end
end L2

namespace HT
open PySem PyProof.Rows

section
open PySem.SeqAt
open PySem.AutoSeq1 (wpAny_loadPart')
open PySem.MeetsSeq PySem.MeetsSeq2 PySem.MeetsSeq3

end

section
variable {prog : Program} {w : World} {A : Around} {E : Value → Shared → Prop} {s : Shared}

/-- t + u, t not empty -/
theorem cat_tup {t b : Addr} {vs ws : List Value} {Q : Value → Shared → Prop} (ht : IsTup s.heap t vs.toArray) (hb : IsTup s.heap b ws.toArray) (hv : vs ≠ [])
    (h1 : ws = [] → Q (.ref t) s) (h2 : ws ≠ [] → Q (.ref s.heap.objs.size) { s with heap := s.heap.push { cls := .type "tuple", data := .seq (vs ++ ws).toArray } })
    (hsz : vs.length + ws.length ≤ sizeLine) : wpAny (model prog w) A (binaryOp .Add (.ref t) (.ref b)) Q E s := by
  obtain ⟨⟨cls, dd, data, sl⟩, ho, hc, n, hd⟩ := id ht
  obtain ⟨⟨cls2, dd2, data2, sl2⟩, ho2, hc2, n2, hd2⟩ := id hb
  simp only at hc hd hc2 hd2
  subst hc hd hc2 hd2
  have e : vs.toArray ++ ws.toArray = (vs ++ ws).toArray := by simp
  by_cases hw : ws = []
  · exact concat_meets ⟨_, ho, rfl⟩ ⟨_, ho2, rfl⟩ noFill_tuple_add seq_tuple_add PySem.F.slot_tuple_add PySem.F.entry_tuple_add (PySem.F.args_tuple_add_2 _ _)
      (tuple_addW1 t b vs.toArray ws.toArray n n2 dd dd2 sl sl2 (by simpa using hv) (by simp [hw])) ⟨ho, ho2, h1 hw⟩
  · refine concat_meets ⟨_, ho, rfl⟩ ⟨_, ho2, rfl⟩ noFill_tuple_add seq_tuple_add PySem.F.slot_tuple_add PySem.F.entry_tuple_add (PySem.F.args_tuple_add_2 _ _)
      (tuple_addW2 t b vs.toArray ws.toArray n n2 dd dd2 sl sl2 (by simpa using hv) (by simpa using hw) (by rw [List.size_toArray, List.size_toArray]; exact hsz)) ⟨ho, ho2, ?_⟩
    rw [e]
    exact h2 hw

/-- a slice's bound as a place among n (d where it is left out) -/
noncomputable def sIx (n d : Nat) : Option Int → Nat
  | none => d
  | some v => if v < 0 then (v + (n : Int)).toNat else min v.toNat n
theorem sIx_none (n d : Nat) : sIx n d none = d := rfl
theorem sIx_nat (n d k : Nat) : sIx n d (some (k : Int)) = min k n := by
  show (if (k : Int) < 0 then ((k : Int) + (n : Int)).toNat else min (k : Int).toNat n) = min k n
  rw [if_neg (by omega), Int.toNat_natCast]
theorem sIx_le (n d : Nat) (hd : d ≤ n) (o : Option Int) : sIx n d o ≤ n := by
  cases o with
  | none => exact hd
  | some v =>
    show (if v < 0 then (v + (n : Int)).toNat else min v.toNat n) ≤ n
    by_cases hv : v < 0
    · rw [if_pos hv]; omega
    · rw [if_neg hv]; exact Nat.min_le_right _ _
theorem clip_eq (v : Int) (n d : Nat) : (if v < 0 then max (v + (n : Int)) 0 else min v (n : Int)) = ((sIx n d (some v) : Nat) : Int) := by
  show (if v < 0 then max (v + (n : Int)) 0 else min v (n : Int)) = (((if v < 0 then (v + (n : Int)).toNat else min v.toNat n) : Nat) : Int)
  by_cases hv : v < 0
  · simp only [if_pos hv]; omega
  · simp only [if_neg hv]; omega
theorem adjust_gen (lo hi : Option Int) (n : Nat) : Builtin.Slice.sliceAdjust lo hi 1 (n : Int) = (((sIx n 0 lo : Nat) : Int), ((sIx n n hi : Nat) : Int)) := by
  have h1 : ¬ ((1 : Int) < 0) := by omega
  unfold Builtin.Slice.sliceAdjust
  simp only [h1, if_false]
  refine Prod.ext ?_ ?_
  · cases lo with
    | none => rfl
    | some v => exact clip_eq v n 0
  · cases hi with
    | none => rfl
    | some v => exact clip_eq v n n
theorem places_gen (i j : Nat) : Builtin.Slice.slicePlaces (i : Int) (j : Int) 1 = j - i := by
  unfold Builtin.Slice.slicePlaces
  have h1 : (1 : Int) > 0 := by omega
  simp only [h1, if_true, Int.ediv_one]
  split <;> omega
theorem slicePart_ {v : Value} {o : Option Int} {Q : Option Int → Shared → Prop} (p : IsPart v o) (h : Q o s) : wpAny (model prog w) A (Builtin.Slice.slicePartIndex v) Q E s := by
  cases p with
  | none => exact slicePart_none h
  | int i t => exact slicePart_int h
theorem sliceApplied_gen {sl : Addr} {vl vu : Value} {lo hi : Option Int} {n : Nat} {Q : Int × Int × Nat → Shared → Prop} (hs : s.heap.IsSliceOf sl vl vu .none) (pl : IsPart vl lo) (pu : IsPart vu hi)
    (h : Q (((sIx n 0 lo : Nat) : Int), 1, sIx n n hi - sIx n 0 lo) s) : wpAny (model prog w) A (Builtin.Slice.sliceApplied (.ref sl) (pure (n : Int))) Q E s := by
  obtain ⟨os, hos, hcs, hds⟩ := id hs
  unfold Builtin.Slice.sliceApplied Builtin.Slice.sliceFields
  refine wpAny_bind (wpAny_bind (wpAny_field hos hds (x := vl) rfl (wpAny_bind (wpAny_field hos hds (x := vu) rfl (wpAny_bind (wpAny_field hos hds (x := .none) rfl (wpAny_pure ?_)))))))
  refine wpAny_bind (slicePart_none ?_)
  show wpAny _ _ (if ((1 : Int) == 0) = true then _ else _) _ _ s
  rw [if_neg (by decide)]
  refine wpAny_bind (slicePart_ pl (wpAny_bind (slicePart_ pu (wpAny_bind (wpAny_pure ?_)))))
  show wpAny _ _ (match Builtin.Slice.sliceAdjust lo hi 1 (n : Int) with | (lo, hi) => pure (lo, (1 : Int), Builtin.Slice.slicePlaces lo hi 1)) _ _ s
  rw [adjust_gen lo hi n]
  show wpAny _ _ (pure (((sIx n 0 lo : Nat) : Int), (1 : Int), Builtin.Slice.slicePlaces ((sIx n 0 lo : Nat) : Int) ((sIx n n hi : Nat) : Int) 1)) _ _ s
  rw [places_gen]
  exact wpAny_pure h
theorem pick_gen (xs : Array Value) (i k : Nat) : ((List.range k).filterMap fun (m : Nat) => xs[((i : Int) + (m : Int) * 1).toNat]?).toArray = ((xs.toList.drop i).take k).toArray := by
  have e : (fun (m : Nat) => xs[((i : Int) + (m : Int) * 1).toNat]?) = fun m => xs[i + m]? := by
    funext m
    have : ((i : Int) + (m : Int) * 1).toNat = i + m := by omega
    rw [this]
  rw [e]
  have := pick_run xs i k
  rw [List.filterMap_map] at this
  have e2 : ((fun x => xs[x]?) ∘ fun x => i + x) = fun m => xs[i + m]? := rfl
  rw [e2] at this
  rw [this]

theorem getItem_tuple_cut {t sl : Addr} {items : Array Value} {vl vu : Value} {lo hi : Option Int} {Q : Value → Shared → Prop} (ht : IsTup s.heap t items) (hs : s.heap.IsSliceOf sl vl vu .none) (pl : IsPart vl lo) (pu : IsPart vu hi)
    (hw : ¬ (sIx items.size 0 lo = 0 ∧ sIx items.size items.size hi = items.size))
    (h : Q (.ref s.heap.objs.size) { s with heap := s.heap.push { cls := .type "tuple", data := .seq ((items.toList.drop (sIx items.size 0 lo)).take (sIx items.size items.size hi - sIx items.size 0 lo)).toArray } })
    (hsz : items.size ≤ sizeLine) : wpAny (model prog w) A (getItem (.ref t) (.ref sl)) Q E s := by
  have htake : sizeOk (.seq ((items.toList.drop (sIx items.size 0 lo)).take (sIx items.size items.size hi - sIx items.size 0 lo)).toArray) := by
    show ((items.toList.drop (sIx items.size 0 lo)).take (sIx items.size items.size hi - sIx items.size 0 lo)).toArray.size ≤ sizeLine
    rw [List.size_toArray, List.length_take, List.length_drop, Array.length_toList]
    omega
  have hj : sIx items.size items.size hi ≤ items.size := sIx_le _ _ (Nat.le_refl _) hi
  obtain ⟨os, hos, hcs, hds⟩ := id hs
  have hTs : s.TypeIs (.ref sl) "slice" := ⟨os, hos, hcs⟩
  unfold getItem
  try with_reducible refine wpAny_holding ?_
  first | refine wpAny_bind (wpAny_pure ?_) | skip
  refine wpAny_bind (wpAny_sequenceKey ht.typeIs (by decide) ?_)
  refine wpAny_bind (wpAny_callSpecial?_slot (name := Str.ofString "__getitem__") ht.typeIs PyProof.Rows.slot_tuple_getitem
    (wpAny_call_entry PyProof.Rows.slot_tuple_getitem ht.typeIs entry_tuple_getitem ?_ (args_tuple_getitem _ _)))
  show wpAny _ _ (Builtin.Tuple.tupleItemsOf (.ref t) >>= _) _ _ s
  refine wpAny_bind (tupleItemsOf_ ht ?_)
  refine wpAny_bind (wpAny_typeOf hTs ?_)
  rw [if_pos (by decide)]
  refine wpAny_bind (sliceApplied_gen hs pl pu ?_)
  have hno : ¬ ((((sIx items.size 0 lo : Nat) : Int) == 0 && (1 : Int) == 1 && (sIx items.size items.size hi - sIx items.size 0 lo) == items.size) = true) := by
    intro q
    rw [Bool.and_eq_true, Bool.and_eq_true] at q
    have q1 : ((sIx items.size 0 lo : Nat) : Int) = 0 := eq_of_beq q.1.1
    have q2 : sIx items.size items.size hi - sIx items.size 0 lo = items.size := eq_of_beq q.2
    exact hw ⟨by omega, by omega⟩
  show wpAny _ _ (if (((sIx items.size 0 lo : Nat) : Int) == 0 && (1 : Int) == 1 && (sIx items.size items.size hi - sIx items.size 0 lo) == items.size) = true then _ else _) _ _ s
  rw [if_neg hno, pick_gen]
  first
    | exact wpAny_bind (m := Builtin.Tuple.tupleExact _) (wpAny_newObj_type (wpAny_pure ⟨_, rfl, wpAny_pure h⟩) htake)
    | exact wpAny_bind (m := Builtin.Tuple.tupleExact _) (wpAny_newObj_type (wpAny_bind (wpAny_pure (wpAny_pure ⟨_, rfl, wpAny_pure h⟩))) htake)
    | exact wpAny_bind (wpAny_bind (m := Builtin.Tuple.tupleExact _) (wpAny_newObj_type (wpAny_pure (wpAny_pure ⟨_, rfl, wpAny_pure h⟩)) htake))
    | exact wpAny_bind (wpAny_bind (m := Builtin.Tuple.tupleExact _) (wpAny_newObj_type (wpAny_pure ⟨_, rfl, wpAny_pure h⟩) htake))
end
end HT

namespace L2
open PySem PySem.Spec PyProof.Rows

noncomputable abbrev TO := St → Hp → (Option Int → Hp → Prop) → Prop
/-- a slice's part (left out, or an int) -/
noncomputable def PO (X : Cx) (e : Option Expr) (t : TO) : Prop :=
  ∀ (pins : List (Addr × Obj)) (s : Shared) (σ : St) (H : Hp) (Q : Option Int → Hp → Prop), Inv X pins σ H s → t σ H Q →
    wpAny (model X.prog X.w) X.A (evalPart e X.env) (fun u s' => ∃ o H', Inv X pins σ H' s' ∧ IsPart u o ∧ Q o H') X.xe s
noncomputable def tNoPart : TO := fun _ H Q => Q none H
noncomputable def tPart (t : TE) : TO := fun σ H Q => t σ H fun x H1 => ∃ i, x = .int i ∧ Q (some i) H1

section
variable {X : Cx} {e : Expr} {te : TE} {lo hi : Option Expr} {tl th : TO} {pos p2 : Pos}

theorem po_none : PO X none tNoPart := by
  intro pins s σ H Q I h
  rw [evalPart_none]
  exact wpAny_pure ⟨none, H, I, .none, h⟩
theorem po_some (h : PE X e te) : PO X (some e) (tPart te) := by
  intro pins s σ H Q I hw
  rw [evalPart_some]
  refine thn (h pins s σ H _ I hw) fun u s1 ⟨x, H1, I1, r1, q1⟩ => ?_
  obtain ⟨i, rfl, q⟩ := q1
  obtain ⟨t, rfl⟩ := r1
  exact ⟨some i, H1, I1, .int i t, q⟩

/-- what a slice of a value is, by values: the slice object stands at sl -/
noncomputable def SlR (X : Cx) (r : V → Option Int → Option Int → Hp → VK → Prop) : Prop :=
  ∀ (pins : List (Addr × Obj)) (s : Shared) (σ : St) (H : Hp) (x : V) (v vl vu : Value) (lo hi : Option Int) (sl : Addr) (Q : VK), Inv X pins σ H s → RelV x v → s.heap.IsSliceOf sl vl vu .none → IsPart vl lo → IsPart vu hi → r x lo hi H Q →
    ∃ T id, typeLookup (.type T) "__getitem__" = pure (some (.builtin id)) ∧ s.TypeIs v T ∧ wpAny (model X.prog X.w) X.A (getItem v (.ref sl)) (EP X pins σ Q) X.xe s
theorem SlR.or {r r' : V → Option Int → Option Int → Hp → VK → Prop} (h : SlR X r) (h' : SlR X r') : SlR X (fun x lo hi H Q => r x lo hi H Q ∨ r' x lo hi H Q) := by
  intro pins s σ H x v vl vu lo hi sl Q I rx hs pl pu q
  rcases q with q | q
  · exact h pins s σ H x v vl vu lo hi sl Q I rx hs pl pu q
  · exact h' pins s σ H x v vl vu lo hi sl Q I rx hs pl pu q
noncomputable def tSl (r : V → Option Int → Option Int → Hp → VK → Prop) (te : TE) (tl th : TO) : TE := fun σ H Q => te σ H fun x H1 => tl σ H1 fun l H2 => th σ H2 fun u H3 => r x l u H3 Q
/-- a[lo:hi], any a -/
theorem pe_slice {r : V → Option Int → Option Int → Hp → VK → Prop} (hr : SlR X r) (he : PE X e te) (hl : PO X lo tl) (hu : PO X hi th) : PE X (.Subscript e (.Slice lo hi none p2) pos) (tSl r te tl th) := by
  intro pins s σ H Q I h
  refine Subscript_ (thn (he pins s σ H _ I h) fun v s1 ⟨x, H1, I1, r1, q1⟩ => ?_)
  refine wpAny_Slice (thn (hl pins s1 σ H1 _ I1 q1) fun vl s2 ⟨l, H2, I2, pl, q2⟩ => thn (hu pins s2 σ H2 _ I2 q2) fun vu s3 ⟨u, H3, I3, pu, q3⟩ => ?_)
  rw [evalPart_none]
  refine wpAny_pure ?_
  have I4 : Inv X pins σ H3 { s3 with heap := s3.heap.push { cls := .type "slice", data := .fields #[vl, vu, .none] } } := I3.kept (t' := s3.toks) fun b ob q => Heap.get?_push_of_some _ q
  obtain ⟨T, id, hT, ht, hg⟩ := hr pins { s3 with heap := s3.heap.push { cls := .type "slice", data := .fields #[vl, vu, .none] } } σ H3 x v vl vu l u s3.heap.objs.size Q I4 r1 (Heap.IsSliceOf.new ..) pl pu q3
  show wpAny (model X.prog X.w) X.A (subscriptTail e (.Slice lo hi none p2) v (.ref s3.heap.objs.size)) (EP X pins σ Q) X.xe { s3 with heap := s3.heap.push { cls := .type "slice", data := .fields #[vl, vu, .none] } }
  exact tail_any (ops := [.ref s3.heap.objs.size, v]) ht hT hg (by with_unfolding_all rfl)

/-- the items of xs[lo:hi] -/
noncomputable def cutV (xs : List V) (lo hi : Option Int) : List V := (xs.drop (HT.sIx xs.length 0 lo)).take (HT.sIx xs.length xs.length hi - HT.sIx xs.length 0 lo)
theorem cutV_length (xs : List V) (lo hi : Option Int) : (cutV xs lo hi).length ≤ xs.length := by
  unfold cutV
  rw [List.length_take, List.length_drop]
  omega
/-- t[lo:hi], not the whole of it (the whole would be t itself) -/
noncomputable def rSlT (K : PySem.W.Frag) : V → Option Int → Option Int → Hp → VK → Prop := fun x lo hi H Q => ∃ a xs, x = .ref a ∧ SqT K H a xs ∧
  ¬ (HT.sIx xs.length 0 lo = 0 ∧ HT.sIx xs.length xs.length hi = xs.length) ∧ ∀ p, H p = none → Q (.ref p) (upd H p (.tup (cutV xs lo hi)))
theorem sl_tup : SlR X (rSlT X.K) := by
  intro pins s σ H x v vl vu lo hi sl Q I rx hs pl pu h
  obtain ⟨a, xs, rfl, hx, hw, q⟩ := h
  cases rx
  obtain ⟨its, r, ht, hz⟩ := I.tuple hx
  have hlen : its.toArray.size = xs.length := by rw [List.size_toArray]; exact r.length.symm
  refine ⟨"tuple", _, PyProof.Rows.slot_tuple_getitem.lookup, ht.typeIs, ?_⟩
  refine HT.getItem_tuple_cut ht hs pl pu (by rw [hlen]; exact hw) ?_ (by rw [hlen]; exact hz)
  rw [hlen]
  refine ⟨.ref s.heap.objs.size, _, I.laid (t' := s.toks) (o := .tup (cutV xs lo hi)) (fun b ob q => Heap.get?_push_of_some _ q) (Nat.le_refl _) ?_, rfl, q _ (I.hok.fresh (Nat.le_refl _))⟩
  exact ⟨Nat.le_trans (cutV_length xs lo hi) hz, _, (r.drop (HT.sIx xs.length 0 lo)).take (HT.sIx xs.length xs.length hi - HT.sIx xs.length 0 lo), IsTup.new _ _, _, Heap.get?_push_size _ rfl, rfl⟩

/-- t + u, t not empty: u empty gives t itself -/
noncomputable def rCatT (K : PySem.W.Frag) : R2 := fun x y H Q => ∃ a b xs ys, x = .ref a ∧ y = .ref b ∧ SqT K H a xs ∧ SqT K H b ys ∧ xs ≠ [] ∧ xs.length + ys.length ≤ sizeLine ∧
  (ys = [] → Q (.ref a) H) ∧ (ys ≠ [] → ∀ p, H p = none → Q (.ref p) (upd H p (.tup (xs ++ ys))))
theorem Vals.nil_iff {xs : List V} {us : List Value} (r : Vals xs us) : us = [] ↔ xs = [] := by
  cases r with
  | nil => simp
  | cons _ _ => simp
theorem op_catT : OpR X (binaryOp .Add) (rCatT X.K) := by
  intro pins s σ H x y v u Q I rx ry h
  obtain ⟨a, b, xs, ys, rfl, rfl, ha, hb, hx, hz, q1, q2⟩ := h
  cases rx
  cases ry
  obtain ⟨its, r1, p1, _⟩ := I.tuple ha
  obtain ⟨its2, r2, p2, _⟩ := I.tuple hb
  refine HT.cat_tup p1 p2 (fun z => hx (r1.nil_iff.mp z)) (fun z => ⟨.ref a, H, I, rfl, q1 (r2.nil_iff.mp z)⟩) (fun z => ?_) (by rw [← r1.length, ← r2.length]; exact hz)
  refine ⟨.ref s.heap.objs.size, _, I.laid (t' := s.toks) (o := .tup (xs ++ ys)) (fun b ob q => Heap.get?_push_of_some _ q) (Nat.le_refl _) ?_, rfl, q2 (fun w => z (r2.nil_iff.mpr w)) _ (I.hok.fresh (Nat.le_refl _))⟩
  exact ⟨by rw [List.length_append]; exact hz, _, r1.append r2, IsTup.new _ _, _, Heap.get?_push_size _ rfl, rfl⟩
end
end L2

namespace L2
open PySem PySem.Spec PyProof.Rows

/-- the place that an index of any sign means -/
noncomputable def ixN (n : Nat) (i : Int) : Option Nat := if 0 ≤ i then (if i < n then some i.toNat else none) else if -(n : Int) ≤ i then some (i + n).toNat else none
noncomputable def atI {α : Type} (xs : List α) (i : Int) : Option α := (ixN xs.length i).bind fun j => xs[j]?
theorem ixN_seq {n : Nat} {i : Int} {j : Nat} (h : ixN n i = some j) : seqIndex? i n = some j ∧ j < n ∧ -(n : Int) ≤ i ∧ i < n := by
  unfold ixN at h
  by_cases h0 : 0 ≤ i
  · rw [if_pos h0] at h
    by_cases h1 : i < n
    · rw [if_pos h1] at h
      have e : i.toNat = j := Option.some.inj h
      exact ⟨by rw [seqIndex_of h0 h1, e], by omega, by omega, h1⟩
    · rw [if_neg h1] at h; cases h
  · rw [if_neg h0] at h
    by_cases h1 : -(n : Int) ≤ i
    · rw [if_pos h1] at h
      have e : (i + n).toNat = j := Option.some.inj h
      exact ⟨by rw [seqIndex_neg (by omega) h1, e], by omega, h1, by omega⟩
    · rw [if_neg h1] at h; cases h
theorem atI_get {α : Type} {xs : List α} {i : Int} {v : α} (h : atI xs i = some v) : ∃ j, seqIndex? i xs.length = some j ∧ xs[j]? = some v ∧ j < xs.length ∧ -(xs.length : Int) ≤ i ∧ i < xs.length := by
  unfold atI at h
  cases e : ixN xs.length i with
  | none => rw [e] at h; cases h
  | some j =>
    rw [e] at h
    obtain ⟨h1, h2, h3, h4⟩ := ixN_seq e
    exact ⟨j, h1, h, h2, h3, h4⟩
theorem atI_nat {α : Type} {xs : List α} {j : Nat} {v : α} (h : xs[j]? = some v) : atI xs (j : Int) = some v := by
  have hj : j < xs.length := (List.getElem?_eq_some_iff.mp h).1
  have e : ixN xs.length (j : Int) = some j := by
    unfold ixN
    rw [if_pos (by omega), if_pos (by omega)]; simp
  unfold atI; rw [e]; exact h
theorem atI_last {α : Type} (xs : List α) (v : α) : atI (xs ++ [v]) (-1) = some v := by
  have hl : (xs ++ [v]).length = xs.length + 1 := by simp
  have e : ixN (xs ++ [v]).length (-1) = some xs.length := by
    unfold ixN
    rw [hl, if_neg (by decide), if_pos (by omega)]
    congr 1
    omega
  unfold atI
  rw [e]
  show (xs ++ [v])[xs.length]? = some v
  simp

/-- what stands as an index of a plain subscript -/
noncomputable def PlainIx (b : Expr) : Prop := ∀ o i, subscripted b false o i = operate [o, i] (getItem o i)
/-- a subscript by values -/
noncomputable def IxR (X : Cx) (r : R2) : Prop :=
  ∀ (value slice : Expr) (pins : List (Addr × Obj)) (s : Shared) (σ : St) (H : Hp) (x y : V) (v u : Value) (Q : VK), Inv X pins σ H s → RelV x v → RelV y u → r x y H Q →
    subscripted slice false v u = operate [v, u] (getItem v u) → wpAny (model X.prog X.w) X.A (subscriptTail value slice v u) (EP X pins σ Q) X.xe s
/-- a call of a builtin's method by values: the receiver, the arguments -/
noncomputable def MtR (X : Cx) (id : String) (r : V → List V → Hp → VK → Prop) : Prop :=
  ∀ (pins : List (Addr × Obj)) (s : Shared) (σ : St) (H : Hp) (x : V) (xs : List V) (v : Value) (us : List Value) (Q : VK), Inv X pins σ H s → RelV x v → Vals xs us → r x xs H Q →
    wpAny (model X.prog X.w) X.A (call (.builtin id) (v :: us)) (EP X pins σ Q) X.xe s
section
variable {X : Cx} {a b : Expr} {ta tb : TE} {pos : Pos}
theorem IxR.or {r r' : R2} (h : IxR X r) (h' : IxR X r') : IxR X (fun x y H Q => r x y H Q ∨ r' x y H Q) := by
  intro value slice pins s σ H x y v u Q I rx ry q hs
  rcases q with q | q
  · exact h value slice pins s σ H x y v u Q I rx ry q hs
  · exact h' value slice pins s σ H x y v u Q I rx ry q hs
theorem MtR.or {id : String} {r r' : V → List V → Hp → VK → Prop} (h : MtR X id r) (h' : MtR X id r') : MtR X id (fun x xs H Q => r x xs H Q ∨ r' x xs H Q) := by
  intro pins s σ H x xs v us Q I rx rs q
  rcases q with q | q
  · exact h pins s σ H x xs v us Q I rx rs q
  · exact h' pins s σ H x xs v us Q I rx rs q
/-- a[b] -/
theorem pe_ix {r : R2} (hr : IxR X r) (ha : PE X a ta) (hb : PE X b tb) (hs : PlainIx b) : PE X (.Subscript a b pos) (tOp r ta tb) := by
  intro pins s σ H Q I h
  exact Subscript_ (binT ha hb I h fun v u s2 x y H2 I2 rx ry q => hr a b pins s2 σ H2 x y v u Q I2 rx ry q (hs _ _))

noncomputable def rIxL (K : PySem.W.Frag) : R2 := fun x y H Q => ∃ p xs i v, x = .ref p ∧ y = .int i ∧ SqL K H p xs ∧ atI xs i = some v ∧ Q v H
noncomputable def rIxT (K : PySem.W.Frag) : R2 := fun x y H Q => ∃ p xs i v, x = .ref p ∧ y = .int i ∧ SqT K H p xs ∧ atI xs i = some v ∧ Q v H
noncomputable def rIxS : R2 := fun x y H Q => ∃ z i c, x = .str z ∧ y = .int i ∧ z.length ≤ sizeLine ∧ atI z.cps.toList i = some c ∧ Q (.str ⟨#[c]⟩) H
theorem ix_list : IxR X (rIxL X.K) := by
  intro value slice pins s σ H x y v u Q I rx ry h hs
  obtain ⟨p, xs, i, z, rfl, rfl, hq, he, q⟩ := h
  cases rx
  obtain ⟨t, rfl⟩ := ry
  obtain ⟨its, r, pl, hz⟩ := I.list hq
  obtain ⟨j, h1, h2, h3, h4, h5⟩ := atI_get he
  obtain ⟨w, ew, rw'⟩ := r.get h2
  have hl := r.length
  have hn := line63
  have fin : EP X pins σ Q w s := ⟨z, H, I, rw', q⟩
  by_cases h0 : 0 ≤ i
  · have hj : i.toNat = j := by
      rw [seqIndex_of h0 h5] at h1
      exact Option.some.inj h1
    exact item_listR pl.isList h0 (by omega) (by rw [hj]; simpa using ew) fin hs
  · have hj : (i + (its.toArray.size : Int)).toNat = j := by
      rw [seqIndex_neg (by omega) h4] at h1
      rw [List.size_toArray, ← hl]
      exact Option.some.inj h1
    exact subscriptTail_builtinR (x := w) pl.isList.typeIs slot_list_getitem.lookup
      (wpAny_getItem_list_neg (Q := fun r s' => r = w ∧ EP X pins σ Q r s') pl.isList (by omega) (by rw [List.size_toArray] <;> omega) (by omega) (by rw [hj]; simpa using ew) ⟨rfl, fin⟩) hs
theorem ix_tup : IxR X (rIxT X.K) := by
  intro value slice pins s σ H x y v u Q I rx ry h hs
  obtain ⟨p, xs, i, z, rfl, rfl, hq, he, q⟩ := h
  cases rx
  obtain ⟨t, rfl⟩ := ry
  obtain ⟨its, r, pl, hz⟩ := I.tuple hq
  obtain ⟨j, h1, h2, h3, h4, h5⟩ := atI_get he
  obtain ⟨w, ew, rw'⟩ := r.get h2
  have hl := r.length
  have hn := line63
  have fin : EP X pins σ Q w s := ⟨z, H, I, rw', q⟩
  exact subscriptTail_builtinR (x := w) pl.typeIs slot_tuple_getitem.lookup
    (getItem_tuple (j := j) (Q := fun r s' => r = w ∧ EP X pins σ Q r s') pl (by omega) (by omega) (by rw [List.size_toArray, ← hl]; exact h1) (by simpa using ew) ⟨rfl, fin⟩) hs
theorem ix_str : IxR X rIxS := by
  intro value slice pins s σ H x y v u Q I rx ry h hs
  obtain ⟨z, i, c, rfl, rfl, hz, he, q⟩ := h
  obtain ⟨t, rfl⟩ := rx
  obtain ⟨t', rfl⟩ := ry
  obtain ⟨j, h1, h2, h3, h4, h5⟩ := atI_get he
  have hl : z.cps.toList.length = z.length := by simp [Str.length]
  rw [hl] at h1 h4 h5
  have hn := line63
  exact tail_any (typeIs_str s z t) slot_str_getitem.lookup (getItem_str (c := c) (by
    have e1 : decide (i < -(2 ^ 63 : Int)) = false := decide_eq_false (by omega)
    have e2 : decide (i ≥ 2 ^ 63) = false := decide_eq_false (by omega)
    rw [e1, e2, Bool.or_false]) (by rw [h1]; simpa using h2) ⟨.str ⟨#[c]⟩, H, I.tok _, ⟨_, rfl⟩, q⟩) hs
/-- list, tuple or str -/
noncomputable def rIx (K : PySem.W.Frag) : R2 := fun x y H Q => rIxL K x y H Q ∨ rIxT K x y H Q ∨ rIxS x y H Q
theorem ix_seq : IxR X (rIx X.K) := ix_list.or (ix_tup.or ix_str)

/-- the list's object behind a store -/
theorem mapSeq_set (its : List Value) (n j : Nat) (u : Value) : Obj.mapSeq (·.setIfInBounds j u) { cls := .type "list", data := .seq its.toArray n } = { cls := .type "list", data := .seq (its.set j u).toArray n } := by
  simp [Obj.mapSeq]
theorem Inv.lst {pins : List (Addr × Obj)} {σ : St} {H : Hp} {s : Shared} {p : Addr} {xs : List V} (I : Inv X pins σ H s) (h : H p = some (.lst xs)) :
    ∃ (its : List Value) (n : Nat), Vals xs its ∧ s.heap.get? p = some { cls := .type "list", data := .seq its.toArray n } ∧ xs.length ≤ sizeLine := by
  obtain ⟨z, its, n, r, e⟩ := I.hok p _ h
  exact ⟨its, n, r, e, z⟩
/-- the list at p is written by an update of its object -/
theorem Inv.lstUpd {pins : List (Addr × Obj)} {σ : St} {H : Hp} {s : Shared} {p : Addr} {xs ys : List V} {its its' : List Value} {n n' : Nat} {f : Obj → Obj} (I : Inv X pins σ H s) (h : H p = some (.lst xs))
    (ho : s.heap.get? p = some { cls := .type "list", data := .seq its.toArray n }) (hf : f { cls := .type "list", data := .seq its.toArray n } = { cls := .type "list", data := .seq its'.toArray n' }) (r : Vals ys its') (hz : ys.length ≤ sizeLine) (t : Nat) :
    Inv X pins σ (upd H p (.lst ys)) { s with heap := s.heap.update p f, toks := t } := by
  have e : (s.heap.update p f).get? p = some { cls := .type "list", data := .seq its'.toArray n' } := by
    rw [Heap.get?_update_self f ho (by rw [hf] <;> rfl), hf]
  refine I.write (x := p) (e := p) (by rw [h]; trivial) (.inl rfl) (fun b u hb q => (Heap.get?_update_other _ _ (Ne.symm hb)).trans q) ⟨_, e⟩ ?_
  exact ⟨hz, its', n', r, e⟩
noncomputable def rSetL : V → V → V → Hp → (Hp → Prop) → Prop := fun o i v H Q => ∃ p xs k j, o = .ref p ∧ i = .int k ∧ H p = some (.lst xs) ∧ ixN xs.length k = some j ∧ Q (upd H p (.lst (xs.set j v)))
theorem set_list : PSet X rSetL := by
  intro pins s σ H o i v ov iv u Q I ro ri rv h
  obtain ⟨p, xs, k, j, rfl, rfl, hp, hj, q⟩ := h
  cases ro
  obtain ⟨t, rfl⟩ := ri
  obtain ⟨its, n, r, ho, hz⟩ := I.lst hp
  obtain ⟨h1, h2, h3, h4⟩ := ixN_seq hj
  have hl := r.length
  have hn := line63
  have I' : Inv X pins σ (upd H p (.lst (xs.set j v))) { s with heap := s.heap.update p (Obj.mapSeq (·.setIfInBounds j u)) } :=
    I.lstUpd hp ho (mapSeq_set its n j u) (r.set rv j) (by rw [List.length_set]; exact hz) s.toks
  by_cases h0 : 0 ≤ k
  · have hk : k.toNat = j := by
      rw [seqIndex_of h0 h4] at h1
      exact Option.some.inj h1
    exact PySem.W.ki_setAt ho h0 (by omega) (by rw [List.size_toArray, ← hl]; exact h4) (by rw [hk]; exact ⟨_, I', q⟩)
  · have hk : (k + (its.toArray.size : Int)).toNat = j := by
      rw [seqIndex_neg (by omega) h3] at h1
      rw [List.size_toArray, ← hl]
      exact Option.some.inj h1
    exact PySem.W.ki_setBack ho (by omega) (by rw [List.size_toArray, ← hl]; exact h3) (by omega) (by rw [hk]; exact ⟨_, I', q⟩)

theorem slice_bounds (lo hi : Option Int) (n : Nat) : (sliceBounds lo hi none n).1 = ((HT.sIx n 0 lo : Nat) : Int) ∧ (sliceBounds lo hi none n).2.1 = ((HT.sIx n n hi : Nat) : Int) ∧ (sliceBounds lo hi none n).2.2 = 1 := by
  refine ⟨?_, ?_, rfl⟩
  · cases lo with
    | none => simp [sliceBounds, HT.sIx]
    | some i =>
      simp only [sliceBounds, HT.sIx, Option.getD_none, show (1 : Int) > 0 by decide, if_true]
      by_cases h : i < 0
      · simp only [h, if_true] <;> omega
      · simp only [h, if_false] <;> omega
  · cases hi with
    | none => simp [sliceBounds, HT.sIx]
    | some i =>
      simp only [sliceBounds, HT.sIx, Option.getD_none, show (1 : Int) > 0 by decide, if_true]
      by_cases h : i < 0
      · simp only [h, if_true] <;> omega
      · simp only [h, if_false] <;> omega
theorem slicePick_cut (its : List Value) (lo hi : Option Int) : slicePick its.toArray lo hi none = ((its.drop (HT.sIx its.length 0 lo)).take (HT.sIx its.length its.length hi - HT.sIx its.length 0 lo)).toArray := by
  obtain ⟨h1, h2, h3⟩ := slice_bounds lo hi its.toArray.size
  unfold slicePick
  rw [h1, h2, h3]
  simp only [sliceRange_one, pick_run, List.size_toArray] <;> rfl
/-- xs[lo:hi] of a list: a new list -/
noncomputable def rSlL (K : PySem.W.Frag) : V → Option Int → Option Int → Hp → VK → Prop := fun x lo hi H Q => ∃ a xs, x = .ref a ∧ SqL K H a xs ∧ ∀ p, H p = none → Q (.ref p) (upd H p (.lst (cutV xs lo hi)))
theorem sl_list : SlR X (rSlL X.K) := by
  intro pins s σ H x v vl vu lo hi sl Q I rx hs pl pu h
  obtain ⟨a, xs, rfl, hx, q⟩ := h
  cases rx
  obtain ⟨its, r, ht, hz⟩ := I.list hx
  have hlen := r.length
  refine ⟨"list", _, slot_list_getitem.lookup, ht.isList.typeIs, ?_⟩
  refine wpAny_getItem_list_slice ht.isList hs pl pu .none (by simp) ?_ (by rw [List.size_toArray] <;> omega)
  rw [slicePick_cut, ← hlen]
  refine ⟨.ref s.heap.objs.size, _, I.laid (t' := s.toks) (o := .lst (cutV xs lo hi)) (fun b ob q => Heap.get?_push_of_some _ q) (Nat.le_refl _) ?_, rfl, q _ (I.hok.fresh (Nat.le_refl _))⟩
  exact ⟨Nat.le_trans (cutV_length xs lo hi) hz, _, 0, (r.drop (HT.sIx xs.length 0 lo)).take (HT.sIx xs.length xs.length hi - HT.sIx xs.length 0 lo), Heap.get?_push_size _ rfl⟩

noncomputable def flatV : V → Bool
  | .non => true
  | .bl _ => true
  | .int _ => true
  | .str _ => true
  | _ => false
/-- == of flat values -/
noncomputable def eqV : V → V → Bool
  | .non, .non => true
  | .bl a, .bl b => a == b
  | .bl a, .int b => (if a then 1 else 0) == b
  | .int a, .bl b => a == (if b then 1 else 0)
  | .int a, .int b => a == b
  | .str a, .str b => a == b
  | _, _ => false
theorem eqAt_V {A : Around} {s : Shared} {y x : V} {u v : Value} (ry : RelV y u) (rx : RelV x v) (fy : flatV y = true) (fx : flatV x = true) : SeqAt.EqAt A s u v (eqV y x) := by
  cases y with
  | non =>
    cases ry
    cases x with
    | non => cases rx; exact SeqAt.EqAt.same _
    | bl b => cases rx; exact SeqAt.EqAt.none_bool b
    | int b => obtain ⟨t, rfl⟩ := rx; exact SeqAt.EqAt.none_int b t
    | str b => obtain ⟨t, rfl⟩ := rx; exact SeqAt.EqAt.none_str b t
    | _ => exact absurd (show false = true from fx) Bool.false_ne_true
  | bl a =>
    cases ry
    cases x with
    | non => cases rx; exact SeqAt.EqAt.bool_none a
    | bl b => cases rx; exact SeqAt.EqAt.bool_bool a b
    | int b => obtain ⟨t, rfl⟩ := rx; exact SeqAt.EqAt.bool_int a b t
    | str b => obtain ⟨t, rfl⟩ := rx; exact SeqAt.EqAt.bool_str a b t
    | _ => exact absurd (show false = true from fx) Bool.false_ne_true
  | int a =>
    obtain ⟨t', rfl⟩ := ry
    cases x with
    | non => cases rx; exact SeqAt.EqAt.int_none a t'
    | bl b => cases rx; exact SeqAt.EqAt.int_bool a t' b
    | int b => obtain ⟨t, rfl⟩ := rx; exact SeqAt.EqAt.int_int a t' b t
    | str b => obtain ⟨t, rfl⟩ := rx; exact SeqAt.EqAt.int_str a t' b t
    | _ => exact absurd (show false = true from fx) Bool.false_ne_true
  | str a =>
    obtain ⟨t', rfl⟩ := ry
    cases x with
    | non => cases rx; exact SeqAt.EqAt.str_none a t'
    | bl b => cases rx; exact SeqAt.EqAt.str_bool a t' b
    | int b => obtain ⟨t, rfl⟩ := rx; exact SeqAt.EqAt.str_int a t' b t
    | str b => obtain ⟨t, rfl⟩ := rx; exact SeqAt.EqAt.str_str a t' b t
    | _ => exact absurd (show false = true from fx) Bool.false_ne_true
  | _ => exact absurd (show false = true from fy) Bool.false_ne_true
/-- the items' answers, read off the values (a value's own answer does not lean on its token) -/
noncomputable def eqU (x : V) (u : Value) : Bool := match u with
  | .none => eqV .non x
  | .bool b => eqV (.bl b) x
  | .int i _ => eqV (.int i) x
  | .str z _ => eqV (.str z) x
  | _ => false
theorem eqU_of {x y : V} {u : Value} (r : RelV y u) (f : flatV y = true) : eqU x u = eqV y x := by
  cases y with
  | non => cases r; rfl
  | bl b => cases r; rfl
  | int i => obtain ⟨t, rfl⟩ := r; rfl
  | str z => obtain ⟨t, rfl⟩ := r; rfl
  | _ => exact absurd (show false = true from f) Bool.false_ne_true
theorem any_eqU {x : V} : ∀ {xs : List V} {us : List Value}, Vals xs us → xs.all flatV = true → us.any (eqU x) = xs.any fun y => eqV y x
  | _, _, .nil, _ => rfl
  | y :: xs, u :: us, .cons r t, f => by
    rw [List.all_cons, Bool.and_eq_true] at f
    rw [List.any_cons, List.any_cons, eqU_of r f.1, any_eqU t f.2]
theorem mem_eqAt {A : Around} {s : Shared} {x : V} {v : Value} (rx : RelV x v) (fx : flatV x = true) : ∀ {xs : List V} {us : List Value}, Vals xs us → xs.all flatV = true → ∀ u ∈ us, SeqAt.EqAt A s u v (eqU x u)
  | _, _, .nil, _ => fun u hu => by cases hu
  | y :: xs, u :: us, .cons r t, f => fun u' hu => by
    rw [List.all_cons, Bool.and_eq_true] at f
    rcases List.mem_cons.mp hu with rfl | hu
    · rw [eqU_of r f.1]; exact eqAt_V r rx f.1 fx
    · exact mem_eqAt rx fx t f.2 u' hu
noncomputable def inV (x : V) (xs : List V) : Bool := xs.any fun y => eqV y x
/-- x in a list or tuple of flat items -/
noncomputable def rIn (K : PySem.W.Frag) (neg : Bool) : R2 := fun x y H Q => ∃ p xs, y = .ref p ∧ (SqL K H p xs ∨ SqT K H p xs) ∧ flatV x = true ∧ xs.all flatV = true ∧ Q (.bl (if neg then !inV x xs else inV x xs)) H
theorem op_in_seq : OpR X (compareOp .In) (rIn X.K false) := by
  intro pins s σ H x y v u Q I rx ry h
  obtain ⟨p, xs, rfl, hq, fx, fs, q⟩ := h
  cases ry
  rcases hq with hq | hq
  · obtain ⟨its, r, pl, hz⟩ := I.list hq
    refine SeqAt.in_listAt (eqU x) pl.isList (fun w hw => mem_eqAt rx fx r fs w (by simpa using hw)) ⟨.bl _, H, I, rfl, ?_⟩
    rw [show its.toArray.any (eqU x) = its.any (eqU x) by simp, any_eqU r fs]
    exact q
  · obtain ⟨its, r, pl, hz⟩ := I.tuple hq
    refine SeqAt.in_tupleAt (eqU x) pl (fun w hw => mem_eqAt rx fx r fs w (by simpa using hw)) ⟨.bl _, H, I, rfl, ?_⟩
    rw [show its.toArray.any (eqU x) = its.any (eqU x) by simp, any_eqU r fs]
    exact q
theorem call_len_seq : CallR X (.builtin "len") (fun xs H Q => ∃ p ys, xs = [.ref p] ∧ (SqL X.K H p ys ∨ SqT X.K H p ys) ∧ Q (.int ys.length) H) := by
  intro pins s σ H xs us Q I r h
  obtain ⟨p, ys, rfl, hq, q⟩ := h
  obtain ⟨u, rfl, rx⟩ := vals1 r
  cases rx
  have hn := line63
  rcases hq with hq | hq
  · obtain ⟨its, r', pl, hz⟩ := I.list hq
    have hlen := r'.length
    exact Calls.call_len_list pl.isList (by simp only [List.size_toArray] <;> omega) ⟨.int ys.length, H, I.tok _, ⟨s.toks + 1, by rw [List.size_toArray, hlen]⟩, q⟩
  · obtain ⟨its, r', pl, hz⟩ := I.tuple hq
    have hlen := r'.length
    exact len_tuple pl (by simp only [List.size_toArray] <;> omega) ⟨.int ys.length, H, I.tok _, ⟨s.toks + 1, by rw [List.size_toArray, hlen]⟩, q⟩
theorem call_len_str : CallR X (.builtin "len") (fun xs H Q => ∃ z, xs = [.str z] ∧ z.length ≤ sizeLine ∧ Q (.int z.length) H) := by
  intro pins s σ H xs us Q I r h
  obtain ⟨z, rfl, hz, q⟩ := h
  obtain ⟨u, rfl, t, rfl⟩ := vals1 r
  have hn := line63
  exact len_str (by omega) ⟨.int z.length, H, I.tok _, ⟨_, rfl⟩, q⟩
theorem CallR.or {f : Value} {r r' : List V → Hp → VK → Prop} (h : CallR X f r) (h' : CallR X f r') : CallR X f (fun xs H Q => r xs H Q ∨ r' xs H Q) := by
  intro pins s σ H xs us Q I rs q
  rcases q with q | q
  · exact h pins s σ H xs us Q I rs q
  · exact h' pins s σ H xs us Q I rs q
theorem call_tuple_of : CallR X (.type "tuple") (fun xs H Q => ∃ p ys, xs = [.ref p] ∧ ((SqL X.K H p ys ∧ ∀ l, H l = none → Q (.ref l) (upd H l (.tup ys))) ∨ (SqT X.K H p ys ∧ Q (.ref p) H))) := by
  intro pins s σ H xs us Q I r h
  obtain ⟨p, ys, rfl, h⟩ := h
  obtain ⟨u, rfl, rx⟩ := vals1 r
  cases rx
  rcases h with ⟨hq, q⟩ | ⟨hq, q⟩
  · obtain ⟨its, r', pl, hz⟩ := I.list hq
    have hlen := r'.length
    refine call_tuple_list pl.isList (fun h' kp => ?_) (by simp only [List.size_toArray] <;> omega)
    have I1 : Inv X pins σ H { s with heap := h' } := I.kept (t' := s.toks) kp
    have I2 : Inv X pins σ (upd H h'.objs.size (.tup ys)) { s with heap := h'.push { cls := .type "tuple", data := .seq its.toArray } } :=
      I1.laid (t' := s.toks) (fun b o e => Heap.get?_push_of_some _ e) (Nat.le_refl _) (show ObjOk X.prog X.w _ _ _ (.tup ys) from ⟨hz, its, r', IsTup.new _ _, _, Heap.get?_push_size _ rfl, rfl⟩)
    exact ⟨.ref h'.objs.size, _, I2, rfl, q _ (I1.hok.fresh (Nat.le_refl _))⟩
  · obtain ⟨its, r', pl, hz⟩ := I.tuple hq
    exact call_tuple_same pl ⟨.ref p, H, I, rfl, q⟩

/-- the value is of that builtin type -/
noncomputable def tyV (K : PySem.W.Frag) (T : String) (x : V) (H : Hp) : Prop := match x with
  | .str _ => T = "str"
  | .int _ => T = "int"
  | .ref p => (T = "list" ∧ ∃ xs, SqL K H p xs) ∨ (T = "tuple" ∧ ∃ o, K.lookup p = some o ∧ o.cls = .type "tuple" ∧ o.dict = none) ∨
      (T = "dict" ∧ ((∃ kvs, H p = some (.dK kvs)) ∨ ∃ kvs, H p = some (.dT kvs))) ∨ (T = "set" ∧ ∃ S n, H p = some (.set S n))
  | _ => False
theorem tyV_is {pins : List (Addr × Obj)} {σ : St} {H : Hp} {s : Shared} {T : String} {x : V} {v : Value} (I : Inv X pins σ H s) (r : RelV x v) (ty : tyV X.K T x H) :
    s.TypeIs v T ∧ ∀ a, v = .ref a → ∃ ob, s.heap.get? a = some ob ∧ ob.dict = none := by
  cases x with
  | str z =>
    obtain ⟨t, rfl⟩ := r
    cases (show T = "str" from ty)
    exact ⟨typeIs_str s z t, fun _ e => nomatch e⟩
  | int i =>
    obtain ⟨t, rfl⟩ := r
    cases (show T = "int" from ty)
    exact ⟨typeIs_int s i t, fun _ e => nomatch e⟩
  | ref p =>
    cases r
    rcases ty with ⟨rfl, xs, hq⟩ | ⟨rfl, o, hk, hc, hd⟩ | ⟨rfl, hk⟩ | ⟨rfl, S, n, hk⟩
    · obtain ⟨its, _, pl, _⟩ := I.list hq
      refine ⟨pl.isList.typeIs, fun a e => ?_⟩
      cases e
      obtain ⟨o, n, e, c, hd, _⟩ := pl
      exact ⟨o, e, hd⟩
    · refine ⟨⟨o, I.kIn p o hk, hc⟩, fun a e => ?_⟩
      cases e
      exact ⟨o, I.kIn _ o hk, hd⟩
    · have z : ∃ o, s.heap.get? p = some o ∧ o.ExactDict := by
        rcases hk with ⟨kvs, hk⟩ | ⟨kvs, hk⟩
        · obtain ⟨_, _, _, _, o, _, _, e, ex, _⟩ := I.hok p _ hk
          exact ⟨o, e, ex⟩
        · obtain ⟨_, _, _, _, o, _, _, e, ex, _⟩ := I.hok p _ hk
          exact ⟨o, e, ex⟩
      obtain ⟨o, e, ex⟩ := z
      refine ⟨⟨o, e, ex.1⟩, fun a e2 => ?_⟩
      cases e2
      exact ⟨o, e, ex.2.1⟩
    · obtain ⟨o, _, _, _, e, ex, _⟩ := I.hok p _ hk
      refine ⟨⟨o, e, ex.1⟩, fun a e2 => ?_⟩
      cases e2
      exact ⟨o, e, ex.2.1⟩
  | _ => exact False.elim ty
noncomputable def tBM (K : PySem.W.Frag) (T : String) (r : V → List V → Hp → VK → Prop) (to : TE) (t : TA) : TE := fun σ H Q => to σ H fun x H1 => tyV K T x H1 ∧ t σ H1 fun xs H2 => r x xs H2 Q
variable {o e : Expr} {es : List Expr} {to : TE} {t : TA} {name : Str} {apos cpos : Pos} {T id : String} {r : V → List V → Hp → VK → Prop}
theorem pe_bm (pa : PlainAttrs T) (slot : Slot T name id) (hty : typeOf (.builtin id) = pure (.type "method_descriptor")) (hm : MtR X id r) (ho : PE X o to) (ha : PA X (e :: es) t)
    (hbase : attributeBase o name X.env (eval o X.env) = eval o X.env := by rfl)
    (hfew : ((backTo cpos (starEach (e :: es) X.env)).all (fun x => !x.1) && (backToKw cpos (keywordEach [] X.env)).all (fun x => x.1.isSome)
      && decide ((e :: es).length + ([] : List Keyword).length + (if ([] : List Keyword).isEmpty then 0 else 1) < 30)) = true := by rfl)
    (hline : (apos.endLine == cpos.line) = true := by rfl) (hs : starEach (e :: es) X.env = (false, eval e X.env) :: starEach es X.env := by rfl) (hplain : (backTo cpos (starEach es X.env)).any (·.1) = false := by rfl) :
    PE X (.Call (.Attribute o name apos) (e :: es) [] cpos) (tBM X.K T r to t) := by
  intro pins s σ H Q I h
  refine wpAny_Call_method_late hbase hfew hline rfl (thn (ho pins s σ H _ I h) fun v s1 ⟨x, H1, I1, r1, ty, q1⟩ => ?_)
  obtain ⟨h1, h2⟩ := tyV_is I1 r1 ty
  refine ⟨T, id, pa, slot, hty, h1, h2, ?_⟩
  have hA := ha cpos pins s1 σ H1 _ I1 q1
  rw [hs] at hA ⊢
  refine Calls.callWith_builtin (by show (false || (backTo cpos (starEach es X.env)).any (·.1)) = false; rw [hplain] <;> rfl) (Calls.evalArgs_plain ?_)
  exact thn hA fun us s2 ⟨vs, H2, I2, r2, q2⟩ => hm pins s2 σ H2 x vs v us Q I2 r1 r2 q2
/- xs.append(e), list.index on a module's tuple .. are MtR facts of 06m -/
end
end L2

namespace L2
open PySem PySem.Spec PyProof.Rows

noncomputable def MtM (X : Cx) (id : String) (r : V → List V → Hp → VK → Prop) : Prop :=
  ∀ (pins : List (Addr × Obj)) (s : Shared) (σ : St) (H : Hp) (x : V) (xs : List V) (v : Value) (us : List Value) (Q : VK), Inv X pins σ H s → RelV x v → Vals xs us → r x xs H Q →
    wpAny (model X.prog X.w) X.A (call (.builtin id) (v :: us)) (EP X pins σ Q) X.xe s

theorem Vals.one : ∀ {x : V} {us : List Value}, Vals [x] us → ∃ u, us = [u] ∧ RelV x u
  | _, _, .cons r .nil => ⟨_, rfl, r⟩
theorem Vals.two : ∀ {x y : V} {us : List Value}, Vals [x, y] us → ∃ u v, us = [u, v] ∧ RelV x u ∧ RelV y v
  | _, _, _, .cons r (.cons q .nil) => ⟨_, _, rfl, r, q⟩
theorem Vals.zero : ∀ {us : List Value}, Vals [] us → us = []
  | _, .nil => rfl
theorem Vals.dropLast {xs : List V} {us : List Value} (h : Vals xs us) : Vals xs.dropLast us.dropLast := by
  induction h with
  | nil => exact .nil
  | cons r t ih =>
    cases t with
    | nil => exact .nil
    | cons q t' => exact .cons r ih
theorem Vals.eraseIdx : ∀ {xs : List V} {us : List Value} (i : Nat), Vals xs us → Vals (xs.eraseIdx i) (us.eraseIdx i)
  | _, _, _, .nil => .nil
  | _, _, 0, .cons _ t => t
  | _, _, i + 1, .cons r t => .cons r (Vals.eraseIdx i t)
theorem Vals.reverse {xs : List V} {us : List Value} (h : Vals xs us) : Vals xs.reverse us.reverse := by
  induction h with
  | nil => exact .nil
  | cons r t ih => rw [List.reverse_cons, List.reverse_cons]; exact Vals.append ih (.cons r .nil)
theorem Vals.rep {xs : List V} {us : List Value} (h : Vals xs us) : ∀ k : Nat, Vals (List.replicate k xs).flatten (List.replicate k us).flatten
  | 0 => .nil
  | k + 1 => by
    rw [List.replicate_succ, List.replicate_succ, List.flatten_cons, List.flatten_cons]
    exact Vals.append h (Vals.rep h k)
theorem len_erase {α : Type} : ∀ (l : List α) (i : Nat), (l.eraseIdx i).length ≤ l.length
  | [], _ => Nat.le_refl _
  | _ :: _, 0 => Nat.le_succ _
  | _ :: r, i + 1 => Nat.succ_le_succ (len_erase r i)
theorem foldl_rep (its : List Value) : ∀ (k : Nat) (acc : List Value),
    List.foldl (fun x1 x2 => x1 ++ x2) acc.toArray (List.replicate k its.toArray) = (acc ++ (List.replicate k its).flatten).toArray
  | 0, acc => by simp
  | k + 1, acc => by
    have e : acc.toArray ++ its.toArray = (acc ++ its).toArray := by simp
    have e2 : (acc ++ its) ++ (List.replicate k its).flatten = acc ++ (List.replicate (k + 1) its).flatten := by
      rw [List.replicate_succ, List.flatten_cons, List.append_assoc]
    rw [← e2, ← foldl_rep its k (acc ++ its), ← e, List.replicate_succ, List.foldl_cons]

section
variable {X : Cx} {pins : List (Addr × Obj)} {σ : St} {H : Hp} {s : Shared} {l b : Addr} {xs ys zs : List V}

theorem Inv.lset {its its' : List Value} {n : Nat} {f : Array Value → Array Value} {t' : Nat} (I : Inv X pins σ H s) (hH : H l = some (.lst xs))
    (e : s.heap.get? l = some { cls := .type "list", data := .seq its.toArray n }) (hf : f its.toArray = its'.toArray) (hv : Vals ys its') (hz : ys.length ≤ sizeLine) :
    Inv X pins σ (upd H l (.lst ys)) { s with heap := s.heap.update l (Obj.mapSeq f), toks := t' } := by
  have q := PySem.IsL.update e f
  rw [hf] at q
  refine I.write (x := l) (e := l) (by rw [hH]; exact trivial) (.inl rfl) (fun b' u hb hu => (Heap.get?_update_other s.heap (Obj.mapSeq f) (Ne.symm hb)).trans hu) ⟨_, q⟩ ?_
  exact ⟨hz, its', _, hv, q⟩
theorem Inv.lnew {its : List Value} {t' : Nat} (I : Inv X pins σ H s) (hv : Vals ys its) (hz : ys.length ≤ sizeLine) :
    Inv X pins σ (upd H s.heap.objs.size (.lst ys)) { s with heap := s.heap.push { cls := .type "list", data := .seq its.toArray }, toks := t' } :=
  I.laid (fun _ _ q => Heap.get?_push_of_some _ q) (Nat.le_refl _) ⟨hz, its, 0, hv, Heap.get?_push_size _ rfl⟩
theorem Inv.fresh (I : Inv X pins σ H s) : H s.heap.objs.size = none := I.hok.fresh (Nat.le_refl _)
theorem Inv.lstM (I : Inv X pins σ H s) (hH : H l = some (.lst xs)) : xs.length ≤ sizeLine ∧ ∃ (its : List Value) (n : Nat), Vals xs its ∧ xs.length = its.length ∧ s.heap.get? l = some { cls := .type "list", data := .seq its.toArray n } := by
  obtain ⟨z, its, n, r, e⟩ := I.hok l _ hH
  exact ⟨z, its, n, r, r.length, e⟩

theorem notLongL {n : Nat} (h : n ≤ sizeLine) : Builtin.List.listTooLong n = false := by
  unfold Builtin.List.listTooLong
  exact decide_eq_false (by omega)
end

section
variable {X : Cx}

noncomputable def rAppend : V → List V → Hp → VK → Prop := fun x vs H Q => ∃ l xs y, x = .ref l ∧ vs = [y] ∧ H l = some (.lst xs) ∧ xs.length < sizeLine ∧ Q .non (upd H l (.lst (xs ++ [y])))
theorem mt_append : MtM X "list.append" rAppend := by
  intro pins s σ H x vs v us Q I rx rv h
  obtain ⟨l, xs, y, rfl, rfl, hH, hz, q⟩ := h
  cases rx
  obtain ⟨u, rfl, ru⟩ := rv.one
  obtain ⟨z, its, n, r, hl, e⟩ := I.lstM hH
  refine call_meets F.slot_list_append ⟨_, e, rfl⟩ F.entry_list_append (F.args_list_append_2 _ _) (PySem.list_append l its.toArray n u (by rw [List.size_toArray]; omega)) ⟨e, ?_⟩
  refine ⟨.non, _, I.lset (its' := its ++ [u]) hH e (by simp) (r.append (.cons ru .nil)) ?_, rfl, q⟩
  rw [List.length_append, List.length_singleton]
  omega

noncomputable def rPopAt : V → List V → Hp → VK → Prop := fun x vs H Q => ∃ l xs i k y, x = .ref l ∧ vs = [.int i] ∧ H l = some (.lst xs) ∧ -(2 ^ 63) ≤ i ∧ i < 2 ^ 63 ∧ seqIndex? i xs.length = some k ∧ xs[k]? = some y ∧ Q y (upd H l (.lst (xs.eraseIdx k)))
theorem mt_popAt : MtM X "list.pop" rPopAt := by
  intro pins s σ H x vs v us Q I rx rv h
  obtain ⟨l, xs, i, k, y, rfl, rfl, hH, h1, h2, hk, hy, q⟩ := h
  cases rx
  obtain ⟨u, rfl, ru⟩ := rv.one
  obtain ⟨t, rfl⟩ := ru
  obtain ⟨z, its, n, r, hl, e⟩ := I.lstM hH
  obtain ⟨w, hw, rw'⟩ := r.get hy
  refine call_meets F.slot_list_pop ⟨_, e, rfl⟩ F.entry_list_pop (F.args_list_pop_2 _ _)
    (MeetsSeq.list_pop_at l its.toArray n i t k w (fitsIndex_both h1 h2) (by rw [List.size_toArray, ← hl]; exact hk) (by rw [← Array.getElem?_toList]; exact hw) (by rw [List.size_toArray]; omega)) ⟨e, ?_⟩
  refine ⟨y, _, I.lset (its' := its.eraseIdx k) hH e ?_ (r.eraseIdx k) ?_, rw', q⟩
  · show its.toArray.eraseIdxIfInBounds k = (its.eraseIdx k).toArray
    rw [List.eraseIdxIfInBounds_toArray]
  · have := len_erase xs k
    omega

noncomputable def rCat : R2 := fun x y H Q => ∃ l b xs zs, x = .ref l ∧ y = .ref b ∧ H l = some (.lst xs) ∧ H b = some (.lst zs) ∧ xs.length + zs.length ≤ sizeLine ∧ ∀ p, H p = none → Q (.ref p) (upd H p (.lst (xs ++ zs)))
theorem op_cat : OpR X (binaryOp .Add) rCat := by
  intro pins s σ H x y v u Q I rx ry h
  obtain ⟨l, b, xs, zs, rfl, rfl, hH, hB, hz, q⟩ := h
  cases rx
  cases ry
  obtain ⟨z, its, n, r, hl, e⟩ := I.lstM hH
  obtain ⟨z2, its2, n2, r2, hl2, e2⟩ := I.lstM hB
  refine PySem.P.add_list e e2 ?_ (by rw [List.size_toArray, List.size_toArray]; omega)
  have ea : its.toArray ++ its2.toArray = (its ++ its2).toArray := by simp
  rw [ea]
  exact ⟨.ref _, _, I.lnew (t' := s.toks) (r.append r2) (by rw [List.length_append]; omega), rfl, q _ I.fresh⟩
/-- a list times an int (a negative one is nothing) -/
noncomputable def rRep : R2 := fun x y H Q => ∃ l k xs, x = .ref l ∧ y = .int k ∧ H l = some (.lst xs) ∧ -(2 ^ 63) ≤ k ∧ k < 2 ^ 63 ∧ xs.length * k.toNat ≤ sizeLine ∧
  ∀ p, H p = none → Q (.ref p) (upd H p (.lst (List.replicate k.toNat xs).flatten))
theorem len_rep {α : Type} (xs : List α) (k : Nat) : (List.replicate k xs).flatten.length = k * xs.length := by
  induction k with
  | zero => simp
  | succ k ih => rw [List.replicate_succ, List.flatten_cons, List.length_append, ih, Nat.succ_mul, Nat.add_comm]
theorem op_rep : OpR X (binaryOp .Mult) rRep := by
  intro pins s σ H x y v u Q I rx ry h
  obtain ⟨l, k, xs, rfl, rfl, hH, h1, h2, hz, q⟩ := h
  cases rx
  obtain ⟨t, rfl⟩ := ry
  obtain ⟨z, its, n, r, hl, e⟩ := I.lstM hH
  have hlen : its.toArray.size * k.toNat ≤ sizeLine := by rw [List.size_toArray, ← hl]; exact hz
  have hcap : ¬ its.toArray.size * k.toNat > (2 ^ 63 - 1) / 8 := by
    have : (sizeLine : Nat) ≤ (2 ^ 63 - 1) / 8 := by decide
    omega
  have hfit : ¬ (!Builtin.List.listFitsIndex k) = true := by
    rw [fitsIndex_both h1 h2]
    exact Bool.false_ne_true
  have hlong : ¬ Builtin.List.listTooLong (its.toArray.size * k.toNat) = true := by
    rw [notLongL hlen]
    exact Bool.false_ne_true
  have hnew : List.foldl (fun x1 x2 => x1 ++ x2) #[] (List.replicate (if its.toArray.isEmpty = true then 0 else k.toNat) its.toArray) = (List.replicate k.toNat its).flatten.toArray := by
    have f0 : ∀ m : Nat, List.foldl (fun x1 x2 => x1 ++ x2) #[] (List.replicate m its.toArray) = (List.replicate m its).flatten.toArray := fun m => by
      have := foldl_rep its m []
      rw [List.nil_append] at this
      exact this
    rw [f0]
    cases its with
    | nil => simp
    | cons a r' => rw [if_neg (by simp)]
  refine wpAny_binaryOp_repeat_ref (T := "list") (U := "int") (by decide) ⟨_, e, rfl⟩ (fun s' => typeIs_int s' k t) noFill_list_mul F.fills_int_mul F.slot_int_rmul repeat_list F.slot_int_index.lookup
    (call_meets F.slot_int_rmul (typeIs_int s k t) F.entry_int_rmul (F.args_int_rmul_2 _ _) (int___rmul___int_list k t l its.toArray n)
      ⟨e, rfl, ⟨_, e, rfl⟩, call_meets F.slot_list_mul ⟨_, e, rfl⟩ F.entry_list_mul (F.args_list_mul_2 _ _) (AutoListH.list___mul___list_int_3 l its.toArray n k t hfit hcap hlong) ⟨e, ?_⟩⟩)
  rw [hnew]
  exact ⟨.ref _, _, I.lnew (t' := s.toks) (r.rep k.toNat) (by rw [len_rep, Nat.mul_comm]; exact hz), rfl, q _ I.fresh⟩

end

section
variable {prog : Program} {w : World} {A : Around} {E : Value → Shared → Prop} {s : Shared}
end

section
variable {X : Cx}
end
end L2

namespace Att
open PySem PySem.W PySem.Calls PyProof.Rows

theorem ints_of_wellAll {P : Params} {h : Heap} : ∀ (ns : List Int) (vs : List Value), WellAll P h vs (ns.map WData.int) → IntsAre vs ns := by
  intro ns
  induction ns with
  | nil =>
    intro vs w
    rw [List.map_nil] at w
    cases w
    exact .nil
  | cons n ns ih =>
    intro vs w
    rw [List.map_cons] at w
    cases w with
    | cons a b =>
      cases a
      exact .cons _ _ (ih _ b)

theorem script_of {l : OpenLaw} {n : Nat} (hn : l.most = some n) {P : Params} {h : Heap} {args : List WData} {vals : List Value}
    (hpre : l.row.toRowW.claim.pre args = true) (hwl : WellAll P h vals args) :
    ∃ a vs ns, vals = [Value.ref a] ∧ args = [WData.list (ns.map WData.int)] ∧ h.get? a = some { cls := .type "list", data := .seq vs.toArray } ∧ IntsAre vs ns ∧ ns.length ≤ n := by
  have hsh : WShape.hasAll [] args [.list .int] = true := (pre_splitW hpre).1
  have hc : l.pre.holds [] { args := args } = true := (pre_splitW hpre).2
  obtain ⟨d, r, rfl, h1, h2⟩ := hasAllW_cons hsh
  obtain rfl := hasAllW_nil h2
  obtain ⟨xs, rfl, h3⟩ := hasW_list h1
  obtain ⟨ns, rfl⟩ := items_int h3
  have hlen : ns.length ≤ n := by
    unfold OpenLaw.pre at hc
    have h4 : (WTm.not (.lt (.lit (.int (n : Int))) (.len (.arg 0)))).holds [] { args := [.list (ns.map .int)] } = true := by
      have h4 := (holds_andW hc).1
      rw [hn] at h4
      exact h4
    have h5 := condW_of h4 (w_not (w_lt w_lit (w_len_list (w_arg rfl))))
    rw [List.length_map] at h5
    refine Nat.le_of_not_lt fun q => ?_
    have q' : (n : Int) < ((ns.length : Nat) : Int) := by omega
    first
      | (rw [decide_eq_true q'] at h5; exact absurd h5 (by decide))
      | (simp at h5; omega)
  cases hwl with
  | cons w1 w2 =>
    cases w2
    cases w1 with
    | list ho hall => exact ⟨_, _, ns, rfl, rfl, ho, ints_of_wellAll ns _ hall, hlen⟩

theorem post_true (l : OpenLaw) (args : List WData) : l.row.toRowW.claim.post args (.bool true) args = true :=
  postW_of (r := l.row.toRowW) (X := (true == true))
    (show WShape.has [] (.bool true) .bool = true by first | rfl | decide | simp [WShape.has, WShape.arms, WShape.armsAll])
    (show (WTm.eq .res (.lit (.bool true))).value [] { args := args, res := some (.bool true), after := args } = some (.bool (true == true)) from w_eq_bool (w_res rfl) w_lit) rfl

/-- the same from a codeAny of the CALL (for a layer whose function contracts speak of calls) -/
theorem attach_call {l : OpenLaw} {n : Nat} {q : Program} {loose : List Str} {XP : (Str → Option Value) → Heap → Prop} {YP : World → Heap → Prop} {d : DefRec}
    (hn : l.most = some n) (hdf : d.params.defaults = [])
    (call : ∀ (w : World) (s₀ s₁ : Shared) (mg mb : Str → Option Value) (fa : Addr) (o : Obj) (pm cd doc : Value) (a : Addr) (vs : List Value) (ns : List Int),
      Ground q loose [] XP w s₀ mg mb s₁.heap → YP w s₁.heap →
      s₁.heap.get? fa = some o → o.data = .func (docDef d.name d.params d.body d.scope pm cd doc) → s₁.heap.CodeRec cd d.name → mg d.name = some (.ref fa) →
      s₁.heap.get? a = some { cls := .type "list", data := .seq vs.toArray } → IntsAre vs ns → ns.length ≤ n → s₁.gens = #[] →
      codeAny (model l.prog w) callerA (.call (.ref fa) ⟨[.ref a], []⟩) (fun r s' => r = .ok (.ret (.bool true)) ∧ OldK s₁.heap s'.heap ∧ s'.os = s₁.os ∧ AllBare s'.gens) s₁) :
    WalkO q loose XP YP l.row.toRowW d [] (fun f vs => PySem.call f vs) := by
  intro w s₀ s₁ mg mb G Y fa o pm cd doc dV kV ho hd hcd hD hmg hg args vals as hpre hlay hrd hwl hlo
  obtain rfl : dV = .none := Dflts.none hD hdf
  obtain rfl : kV = .none := Dflts.noKw hD
  obtain ⟨a, vs, ns, rfl, rfl, hobj, hints, hlen⟩ := script_of hn hpre hwl
  refine enter_call (codeAny_mono (call w s₀ s₁ mg mb fa o pm cd doc a vs ns G Y ho (fd_plain hd) hcd hmg hobj hints hlen hg) fun r s' hq => ?_)
  obtain ⟨rfl, h2, h3, h4⟩ := hq
  exact ⟨.inl ⟨.bool true, .bool true, [], rfl, fun _ => rfl, .bool true, post_true l _, fun _ => ⟨List.Pairwise.nil, fun _ hm => (nomatch hm)⟩⟩, h2, h3, h4⟩

section
variable {prog : Program} {w : World} {A : Around} {E : Value → Shared → Prop} {s : Shared} {K : Frag}

end
end Att

namespace L2
open PySem PySem.Spec PyProof.Rows

theorem vals_ints : ∀ {vs : List Value} {ns : List Int}, IntsAre vs ns → Vals (ns.map V.int) vs
  | _, _, .nil => .nil
  | _, _, .cons n t h => .cons ⟨t, rfl⟩ (vals_ints h)

/-- nothing is tracked but the script, known to the object (or it is an object of the module) -/
noncomputable def Only (H : Hp) : Prop := ∀ b, H b = none ∨ ∃ o xs, H b = some (.frz o (.lst xs))

/-- THE HEAD: the law's promise, at the heap behind the top. F, the promise of the law's def, may use that base is part of the heap (so K.In base, base.Ns mainGlobals mg stand in Mod) -/
theorem law_call {P : Program} {w : World} {K : PySem.W.Frag} {mg mb : Str → Option Value} {CX : CXT} {k : Nat} {fa a : Addr} {fd : FuncData} {x : Str} {sp : Sp} {s₁ : Shared} {vs : List Value} {ns : List Int}
    (KX : K.In s₁.heap) (hns : s₁.heap.Ns mainGlobals mg) (hb : s₁.heap.Ns builtinsNs mb) (hbb : ∀ x : Str, x ≠ "__name__" → mb x = bootBuiltins x) (hlim : s₁.heap.NoLimit) (hg : s₁.gens = #[])
    (ha : s₁.heap.get? a = some { cls := .type "list", data := .seq vs.toArray }) (hi : IntsAre vs ns) (hl : ns.length ≤ sizeLine) (hr : Room k callerA)
    (F : ∀ base : Heap, K.In base → base.Ns mainGlobals mg → FnOk P w K mg base CX k fa fd [x] sp) (hbind : ∀ (s : Shared) (u : Value), BindsTo s fd ⟨[u], []⟩ [(x, u)])
    (hsp : ∀ H : Hp, Only H → SqL K H a (ns.map V.int) → sp [.ref a] H (fun v _ => v = .bl true) fun _ _ _ => False)
    (hCX : ∀ H e s', CX [] H s₁ (fun _ _ _ => False) e s' → False) :
    codeAny (model P w) callerA (.call (.ref fa) ⟨[.ref a], []⟩) (fun r s' => r = .ok (.ret (.bool true)) ∧ OldK s₁.heap s'.heap ∧ s'.os = s₁.os ∧ AllBare s'.gens) s₁ := by
  have rv := vals_ints hi
  have lenV := hi.length
  -- from an abstract heap in which nothing but the script may be tracked
  have core : ∀ H : Hp, Only H → SqL K H a (ns.map V.int) → HOk P w H s₁.heap → (∀ b, H b ≠ none → b = a) → (H a ≠ none → K.lookup a = none) →
      codeAny (model P w) callerA (.call (.ref fa) ⟨[.ref a], []⟩) (fun r s' => r = .ok (.ret (.bool true)) ∧ OldK s₁.heap s'.heap ∧ s'.os = s₁.os ∧ AllBare s'.gens) s₁ := by
    intro H hO hS hok hA hK
    have base_of : ∀ {b : Addr} {o : Obj}, s₁.heap.get? b = some o → H b = none → (hidT s₁.heap H).get? b = some o := fun e n => hidT_get e n
    have noA : ∀ {b : Addr} {o : Obj} {es : Array DictEntry} {ep : Nat}, s₁.heap.get? b = some o → o.data = .dict es ep → H b = none := fun {b o es ep} e d => by
      cases q : H b with
      | none => rfl
      | some u =>
        have e' : b = a := hA b (by rw [q]; simp)
        subst e'
        rw [ha] at e; cases e
        have d' : Data.seq vs.toArray _ = Data.dict es ep := d
        cases d'
    have nsK : ∀ {b : Addr} {m : Str → Option Value}, s₁.heap.Ns b m → (hidT s₁.heap H).Ns b m := fun {b m} ⟨o, es, ep, e, d, r⟩ => ⟨o, es, ep, base_of e (noA e d), d, r⟩
    have hKb : K.In (hidT s₁.heap H) := fun b o e => base_of (KX b o e) (by
      cases q : H b with
      | none => rfl
      | some u =>
        have e' : b = a := hA b (by rw [q]; simp)
        subst e'
        rw [hK (by rw [q]; simp)] at e; cases e)
    have hM : Mod K mg (hidT s₁.heap H) := ⟨hKb, nsK hns, ⟨mb, nsK hb, hbb⟩, let ⟨mc, h1, h2⟩ := hlim; ⟨mc, nsK h1, h2⟩⟩
    have e0 : Env0 P w K mg (hidT s₁.heap H) callerA [] s₁ H := ⟨rfl, hM, fun b o e => of_hidT e, Nat.le_of_eq (hidT_size _ _), trivial, fun b hb => absurd (show b ∈ ([] : List Addr) from hb) (by simp), hok, .of_eq hg⟩
    refine codeAny_mono ((F _ hKb (nsK hns)).run callerA [] s₁ H ⟨[.ref a], []⟩ [.ref a] [.ref a] _ _ hr e0 (hbind s₁ (.ref a)) (.cons rfl .nil) (hsp H hO hS)) fun r s' h => ?_
    cases r with
    | error e => exact (hCX H e s' h).elim
    | ok fl =>
      cases fl with
      | next => exact False.elim h
      | brk => exact False.elim h
      | cont => exact False.elim h
      | ret u =>
        obtain ⟨v, H', os, bare, un, hok', r', q⟩ := h
        have q' : v = .bl true := q
        subst q'
        obtain rfl : u = Value.bool true := r'
        refine ⟨rfl, OldK.of_keep fun b o e => ?_, os, bare⟩
        cases q : H b with
        | none => exact un.keep b o e q (by intro z; exact absurd (show b ∈ ([] : List Addr) from z) (by simp)) (by simp)
        | some u =>
          rcases hO b with z | ⟨ob, xs, z⟩
          · rw [q] at z; cases z
          · have z2 := un.frzs b ob _ z
            obtain ⟨e1, _⟩ := hok b _ z
            obtain ⟨e2, _⟩ := hok' b _ z2
            rw [e] at e1; cases e1
            exact e2
  cases hk : K.lookup a with
  | some o =>
    -- the script is one of the module's own objects
    have e := KX a o hk
    rw [ha] at e
    cases e
    refine core (fun _ => none) (fun _ => .inl rfl) (.inr ⟨_, vs.toArray, _, hk, rfl, rfl, rfl, by rw [List.size_toArray, lenV]; exact hl, by simpa using rv⟩) (fun b u z => by have z' : (none : Option HO) = some u := z; cases z') (fun b z => absurd rfl z) fun z => absurd rfl z
  | none =>
    refine core (fun b => if b = a then some (.frz { cls := .type "list", data := .seq vs.toArray } (.lst (ns.map V.int))) else none) (fun b => ?_) (.inl (.inr ⟨{ cls := .type "list", data := .seq vs.toArray }, if_pos rfl⟩)) (fun b u z => ?_) (fun b z => ?_) fun _ => hk
    · by_cases hb : b = a
      · exact .inr ⟨_, _, if_pos hb⟩
      · exact .inl (if_neg hb)
    · by_cases hb : b = a
      · have z' := (if_pos hb).symm.trans z
        cases z'
        subst hb
        exact ⟨ha, by rw [List.length_map]; exact hl, vs, _, rv, ha⟩
      · have z' := (if_neg hb).symm.trans z
        cases z'
    · by_cases hb : b = a
      · exact hb
      · exact absurd (if_neg hb) z
end L2

namespace L2
open PySem PySem.Spec PyProof.Rows

noncomputable abbrev KOf {K : PySem.W.Frag} {h : Heap} (_ : K.In h) : PySem.W.Frag := K

/-- the goal that k_head leaves (case hc), from the law's promise. F gives the function object fd (K's own) once, then the promise over every base -/
theorem walk_of {l : PySem.W.OpenLaw} {n k : Nat} {q : Program} {loose : List Str} {XP : (Str → Option Value) → Heap → Prop} {YP : World → Heap → Prop} {d : DefRec} {K : Params → PySem.W.Frag} {CX : World → CXT} {sp : World → Sp} {x : Str}
    (hn : l.most = some n) (hn2 : n ≤ sizeLine) (hdf : d.params.defaults = []) (hr : Room k callerA)
    (hY : ∀ (w : World) (h : Heap), YP w h → (K w.params).In h)
    (F : ∀ (w : World) (mg : Str → Option Value) (fa : Addr) (h : Heap), (K w.params).In h → h.Ns mainGlobals mg → mg d.name = some (.ref fa) →
      ∃ fd : FuncData, (∀ (s : Shared) (u : Value), BindsTo s fd ⟨[u], []⟩ [(x, u)]) ∧
        ∀ base : Heap, (K w.params).In base → base.Ns mainGlobals mg → FnOk l.prog w (K w.params) mg base (CX w) k fa fd [x] (sp w))
    (hsp : ∀ (w : World) (H : Hp) (a : Addr) (ns : List Int), ns.length ≤ n → Only H → SqL (K w.params) H a (ns.map V.int) → sp w [.ref a] H (fun v _ => v = .bl true) fun _ _ _ => False)
    (hCX : ∀ (w : World) (H : Hp) (s : Shared) (e : Value) (s' : Shared), CX w [] H s (fun _ _ _ => False) e s' → False) :
    PySem.W.WalkO q loose XP YP l.row.toRowW d [] (fun f vs => PySem.call f vs) := by
  refine Att.attach_call hn hdf fun w s₀ s₁ mg mb fa o pm cd doc a vs ns G Y ho hd hcd hmg hobj hints hlen hg => ?_
  have KX := hY w _ Y
  obtain ⟨fd, hb, hF⟩ := F w mg fa _ KX G.T.g hmg
  exact law_call KX G.T.g G.T.b G.T.builtins G.T.nolimit hg hobj hints (Nat.le_trans hlen hn2) hr hF hb (fun H hO hS => hsp w H a ns hlen hO hS) fun H e s' => hCX w H s₁ e s'
end L2

/- THE LAST THEOREM (shape; LID, My.* are yours):
   My.Adr: a structure of the addresses that your layer names (classes, functions); My.Txt K t: a structure (Prop) of the equations over K;
   My.txt_mk : {K} {implicit addresses ..} (e1 : nsIn K mainGlobals "law" = some (some (.ref f))) (e2 : K.lookup f = some ⟨oc, od, .func (fnOf "law" "law" params body scope dV kV doc pm an cdv ct), sl⟩) (e3 : codeIn K cdv "law" = true) .. : ∃ t, My.Txt K t

set_option maxRecDepth 100000 in
set_option maxHeartbeats 0 in
theorem PySem.Challenge.cw_LID_holds : PySem.Challenge.rw_LID.Holds := by
  w_on; o_law; k_head; (case hw => w_witness2)
  k_fill
  refine L2.walk_of (l := PySem.Challenge.rw_LID) (n := 63) (k := 40) (x := "script") (CX := fun w => ..) (sp := fun _ => My.sp_law) rfl (by decide) rfl ⟨rfl, by decide, by decide⟩ (fun w h Y => PySem.W.kIn_of Y) ?F ?S ?C
  case F =>
    intro w mg fa h KX G hmg
    have T : ∃ t, My.Txt (L2.KOf KX) t := by
      dsimp only [L2.KOf]                          -- K must stand as «<heap const> w.params» for k_is
      refine' My.txt_mk ?e1 ?e2 ?e3 ..
      (case e1 => PySem.W.k_is)                    -- in the order: a name -> its address -> its object -> its parts
      (case e2 => PySem.W.k_is)
      ..
    obtain ⟨t, T⟩ := T
    have e0 := hmg.symm.trans (PySem.W.mg_of KX G T.law)
    cases e0                                       -- fa is the law's own address
    exact ⟨_, fun s u => .of_eq rfl, fun base kb nb => My.law_fn T kb nb⟩     -- if «.of_eq rfl» comes too early: refine' ⟨_, ?b, fun base kb nb => My.law_fn T kb nb⟩; exact fun s u => .of_eq rfl
  case S => exact fun w H a ns hl hO hS => ..
  case C => exact ..
(the tactic k_is has no namespace: write k_is) -/

namespace L2
open PySem PySem.Spec PyProof.Rows

noncomputable def defArgs (s : Stmt) : Arguments := match s with
  | .FunctionDef _ a _ _ _ _ _ _ _ _ => a
  | _ => { posonlyargs := [], args := [], vararg := none, kwonlyargs := [], kw_defaults := [], kwarg := none, defaults := [] }
noncomputable def defBody (s : Stmt) : List Stmt := match s with
  | .FunctionDef _ _ b _ _ _ _ _ _ _ => b
  | _ => []
noncomputable def defScope (s : Stmt) : Scope := match s with
  | .FunctionDef _ _ _ _ _ _ sc _ _ _ => sc
  | _ => { kind := .function, names := [], isGenerator := false, isCoroutine := false }

noncomputable abbrev CX0 : CXT := fun _ _ _ _ _ _ => False
noncomputable abbrev E0 : XK := fun _ _ _ => False
theorem pass0 {X : Cx} : Passes CX0 X E0 := fun _ _ _ _ _ _ _ h => h.elim

structure Fun (K : PySem.W.Frag) (x qual : Str) (st : Stmt) (f : Addr) (fd : FuncData) : Prop where
  ex : ∃ (oc : Value) (od : Option Addr) (kV doc pm : Value) (an : Option Addr) (cdv ct : Value) (osl : Array (Option Value)),
    fd = PySem.W.fnOf x qual (defArgs st) (defBody st) (defScope st) .none kV doc pm an cdv ct ∧ K.lookup f = some ⟨oc, od, .func fd, osl⟩ ∧ PySem.W.codeIn K cdv qual = true
  kp : PySem.W.keepIn K (.ref f) = true
section
variable {P : Program} {w : World} {K : PySem.W.Frag} {mg : Str → Option Value} {base : Heap}
/-- THE RULE for a def: its body as a term of rules, and the reading of that term -/
theorem Fun.ok {x qual : Str} {st : Stmt} {f : Addr} {fd : FuncData} {N ps : List Str} {k : Nat} {sp : Sp} (F : Fun K x qual st f fd) (S : FnScope N ps (defScope st)) (len : ∀ vs H Q E, sp vs H Q E → vs.length = ps.length)
    (hbody : ∀ (cdv : Value) (A : Around) (outer : List Env) (s : Shared) (H : Hp) (vs : List V) (Q : VK) (E : XK), Room k (A.deeper (envOfC qual (defScope st) s.heap.objs.size f cdv)) → sp vs H Q E →
      ∃ t, PSs (cxOf CX0 P w K mg base N qual (defScope st) f cdv A outer s H E).nox (defBody st) t ∧ t { nx := fun _ H' => Q .non H', rt := Q } (start N vs) H) : FnOk P w K mg base CX0 (k + 1) f fd ps sp := by
  obtain ⟨oc, od, kV, doc, pm, an, cdv, ct, osl, rfl, lk, hcd⟩ := F.ex
  refine fn_of lk hcd S len fun A outer s H vs Q E hr hsp => ?_
  obtain ⟨t, h, q⟩ := hbody cdv A outer s H vs Q E hr hsp
  exact ⟨t, h.nox, q⟩
/-- how its arguments bind (no defaults): h is «fun _ _ _ _ _ _ us hl => match us, hl with | [_, _], _ => rfl», one _ a parameter -/
theorem Fun.binds {x qual : Str} {st : Stmt} {f : Addr} {fd : FuncData} {ps : List Str} (F : Fun K x qual st f fd)
    (h : ∀ (kV doc pm : Value) (an : Option Addr) (cdv ct : Value) (us : List Value), us.length = ps.length → bindArgs (PySem.W.fnOf x qual (defArgs st) (defBody st) (defScope st) .none kV doc pm an cdv ct) ⟨us, []⟩ = pure (ps.zip us)) : Binds K fd ps [] := by
  obtain ⟨oc, od, kV, doc, pm, an, cdv, ct, osl, rfl, lk, hcd⟩ := F.ex
  exact .all (h kV doc pm an cdv ct)
theorem fun_mk {x qual : Str} {st : Stmt} {f : Addr} {oc : Value} {od an : Option Addr} {osl : Array (Option Value)} {kV doc pm cdv ct : Value} (l : K.lookup f = some ⟨oc, od, .func (PySem.W.fnOf x qual (defArgs st) (defBody st) (defScope st) .none kV doc pm an cdv ct), osl⟩)
    (c : PySem.W.codeIn K cdv qual = true) (k : PySem.W.keepIn K (.ref f) = true) : Fun K x qual st f (PySem.W.fnOf x qual (defArgs st) (defBody st) (defScope st) .none kV doc pm an cdv ct) := ⟨⟨oc, od, kV, doc, pm, an, cdv, ct, osl, rfl, l, c⟩, k⟩
end
section
variable {X : Cx}
end

theorem iteF {A B : Prop} (h : B) : if false = true then A else B := by
  rw [if_neg Bool.false_ne_true]
  exact h
theorem iteT {A B : Prop} (h : A) : if true = true then A else B := by
  rw [if_pos rfl]
  exact h
/-- all that was tracked is as it was -/
noncomputable def Same (H H' : Hp) : Prop := ∀ b o, H b = some o → H' b = some o
theorem Same.refl (H : Hp) : Same H H := fun _ _ h => h
theorem Same.trans {H H1 H2 : Hp} (a : Same H H1) (b : Same H1 H2) : Same H H2 := fun c o h => b c o (a c o h)
theorem Same.free {H H' : Hp} (e : Same H H') {l : Addr} (h : H' l = Option.none) : H l = Option.none := by
  cases q : H l with
  | none => rfl
  | some o =>
    rw [e l o q] at h
    cases h
theorem Same.seq {K : PySem.W.Frag} {H H' : Hp} {a : Addr} {xs : List V} (e : Same H H') (h : SqL K H a xs) : SqL K H' a xs := by
  rcases h with (h | ⟨o, h⟩) | h
  · exact .inl (.inl (e _ _ h))
  · exact .inl (.inr ⟨o, e _ _ h⟩)
  · exact .inr h

end L2

set_option Elab.async false
set_option linter.all false
set_option maxRecDepth 100000
set_option maxHeartbeats 4000000
namespace L3
open PySem PySem.Spec L2
open PyProof.Rows hiding St

theorem forIn_R {α β : Type} {f : α → β → Sem (ForInStep β)} (R : List α → β → Prop) (h : ∀ x l c, R (x :: l) c → ∃ c', f x c = pure (.yield c') ∧ R l c') :
    ∀ (l : List α) (c : β), R l c → ∃ c', forIn l c f = pure c' ∧ R [] c'
  | [], c, r => ⟨c, rfl, r⟩
  | x :: l, c, r => by
    obtain ⟨c1, e, r1⟩ := h x l c r
    obtain ⟨c2, e2, r2⟩ := forIn_R R h l c1 r1
    exact ⟨c2, by rw [List.forIn_cons, e, pure_bind]; exact e2, r2⟩

theorem cellOf_some {env : Env} {x : Str} {c : Addr} (h : env.cells.lookup x = some c) : cellOf env x = pure c := by
  unfold cellOf
  rw [h]

theorem closure_ok {scope : Scope} {env : Env} (h : ∀ y ∈ scope.names, y.2 = .free → ∃ c, env.cells.lookup y.1 = some c) :
    ∃ cl, closureFor scope env = pure cl ∧ (∀ x c, cl.lookup x = some c → env.cells.lookup x = some c) ∧ ∀ y ∈ scope.names, y.2 = .free → ∃ c, cl.lookup y.1 = some c := by
  let f : Str × NameKind → List (Str × Addr) → Sem (ForInStep (List (Str × Addr))) := fun x r => match x with
    | (name, kind) => if (kind == .free) = true then (do let a ← cellOf env name; pure (.yield ((name, a) :: r))) else pure (.yield r)
  have q := forIn_R (f := f) (fun rem cs => (∀ x c, cs.lookup x = some c → env.cells.lookup x = some c) ∧ (∀ y ∈ scope.names, y.2 = .free → (∃ c, cs.lookup y.1 = some c) ∨ y ∈ rem) ∧ ∀ y ∈ rem, y ∈ scope.names) ?_ scope.names []
    ⟨fun x c e => (by cases e), fun y hy _ => .inr hy, fun _ hy => hy⟩
  · obtain ⟨cl, e, p1, p2, _⟩ := q
    refine ⟨cl, ?_, p1, fun y hy hf => (p2 y hy hf).elim (fun z => z) fun z => (by cases z)⟩
    have e1 : closureFor scope env = (forIn scope.names [] f >>= fun r => pure r) := rfl
    rw [e1, e, pure_bind]
  · rintro ⟨n, k⟩ l cs ⟨p1, p2, p3⟩
    have hm := p3 _ (List.mem_cons_self ..)
    by_cases hk : k = .free
    · subst hk
      obtain ⟨c, hc⟩ := h _ hm rfl
      refine ⟨(n, c) :: cs, ?_, fun x c' e => ?_, fun y hy hf => ?_, fun y hy => p3 y (List.mem_cons_of_mem _ hy)⟩
      · show (if ((NameKind.free == NameKind.free) = true) then _ else _) = _
        rw [if_pos (by decide), cellOf_some hc, pure_bind]
      · rw [List.lookup_cons] at e
        cases hx : x == n with
        | true =>
          rw [hx] at e
          have ex : x = n := eq_of_beq hx
          subst ex
          cases e
          exact hc
        | false =>
          rw [hx] at e
          exact p1 x c' e
      · rcases p2 y hy hf with ⟨c', e⟩ | z
        · refine .inl ?_
          rw [List.lookup_cons]
          cases hx : y.1 == n with
          | true => exact ⟨c, rfl⟩
          | false => exact ⟨c', e⟩
        · rcases List.mem_cons.mp z with rfl | z
          · exact .inl ⟨c, by rw [List.lookup_cons]; simp⟩
          · exact .inr z
    · refine ⟨cs, ?_, p1, fun y hy hf => ?_, fun y hy => p3 y (List.mem_cons_of_mem _ hy)⟩
      · show (if ((k == NameKind.free) = true) then _ else _) = _
        rw [if_neg (by simpa using hk)]
      · rcases p2 y hy hf with z | z
        · exact .inl z
        · rcases List.mem_cons.mp z with rfl | z
          · exact absurd hf hk
          · exact .inr z

theorem lookup_relabel_free {env : Env} : ∀ {names : List (Str × NameKind)} {x : Str}, names.lookup x = some .free →
    (names.map fun (n, k) => if (k == NameKind.free && env.scope.kind == .function && env.kindOf n == some .cell) then (n, NameKind.cell) else (n, k)).lookup x = some .cell ∨
    (names.map fun (n, k) => if (k == NameKind.free && env.scope.kind == .function && env.kindOf n == some .cell) then (n, NameKind.cell) else (n, k)).lookup x = some .free
  | [], _, h => by cases h
  | (n, k) :: r, x, h => by
    have ih := @lookup_relabel_free env r x
    rw [List.map_cons]
    cases hx : x == n with
    | true =>
      rw [List.lookup_cons, hx] at h
      cases h
      by_cases hc : (NameKind.free == NameKind.free && env.scope.kind == .function && env.kindOf n == some .cell) = true
      · refine .inl ?_
        show List.lookup x ((if (NameKind.free == NameKind.free && env.scope.kind == .function && env.kindOf n == some .cell) = true then (n, NameKind.cell) else (n, NameKind.free)) :: _) = _
        rw [if_pos hc, List.lookup_cons, hx]
      · refine .inr ?_
        show List.lookup x ((if (NameKind.free == NameKind.free && env.scope.kind == .function && env.kindOf n == some .cell) = true then (n, NameKind.cell) else (n, NameKind.free)) :: _) = _
        rw [if_neg hc, List.lookup_cons, hx]
    | false =>
      rw [List.lookup_cons, hx] at h
      have e : ∀ (b : Bool) (l : List (Str × NameKind)), List.lookup x ((if b = true then (n, NameKind.cell) else (n, k)) :: l) = l.lookup x := fun b l => by
        cases b with
        | true => rw [if_pos rfl, List.lookup_cons, hx]
        | false => rw [if_neg Bool.false_ne_true, List.lookup_cons, hx]
      rcases ih h with q | q
      · exact .inl ((e _ _).trans q)
      · exact .inr ((e _ _).trans q)

/-- what lookups in the relabelled table come from -/
theorem relabel_from {scope : Scope} {env : Env} (hnc : ∀ y ∈ scope.names, y.2 ≠ .cell) {x : Str} {k : NameKind} (h : (relabel scope env).names.lookup x = some k) (hk : k = .cell ∨ k = .free) :
    ∃ y ∈ scope.names, y.1 = x ∧ y.2 = .free := by
  have hm := PySem.mem_of_lookup h
  obtain ⟨⟨n, k0⟩, hy, e⟩ := List.mem_map.mp hm
  refine ⟨(n, k0), hy, ?_⟩
  have e' : (if (k0 == NameKind.free && env.scope.kind == .function && env.kindOf n == some .cell) = true then (n, NameKind.cell) else (n, k0)) = (x, k) := e
  by_cases hc : (k0 == NameKind.free && env.scope.kind == .function && env.kindOf n == some .cell) = true
  · rw [if_pos hc] at e'
    cases e'
    refine ⟨rfl, ?_⟩
    rw [Bool.and_eq_true, Bool.and_eq_true] at hc
    exact eq_of_beq hc.1.1
  · rw [if_neg hc] at e'
    cases e'
    rcases hk with rfl | rfl
    · exact absurd rfl (hnc _ hy)
    · exact ⟨rfl, rfl⟩

noncomputable abbrev cxComp (X : Cx) (N' : List Str) (scope : Scope) (cl : List (Str × Addr)) (C : Addr) (fp : List Addr) (s₀ : Shared) (H₀ : Hp) : Cx :=
  { X with N := N', s₀ := s₀, H₀ := H₀, env := compEnvC scope cl C X.env, outer := X.stack, ex := fp, fn := fun _ => false, pn := [], xe := fun _ _ => False }

structure CompScope (psc scope : Scope) (T F : List Str) : Prop where
  kind : scope.kind = .function
  nocell : ∀ y ∈ scope.names, y.2 ≠ .cell
  loc : ∀ y ∈ scope.names, y.2 = .local → scope.names.lookup y.1 = some .local
  fr : ∀ y ∈ scope.names, y.2 = .free → psc.names.lookup y.1 = some .cell ∨ psc.names.lookup y.1 = some .free
  nd : (T ++ F).Nodup
  ffree : ∀ x ∈ F, scope.names.lookup x = some .free

section
variable {X : Cx} {pins : List (Addr × Obj)} {σ : St} {H H' : Hp} {s s' : Shared} {scope : Scope} {T F : List Str} {cl : List (Str × Addr)} {C : Addr} {fp : List Addr} {js : List Nat}

theorem cells_there (I : Inv X pins σ H s) (S : CompScope X.env.scope scope T F) : ∀ y ∈ scope.names, y.2 = .free → ∃ c, X.env.cells.lookup y.1 = some c := fun y hy hf => I.ok.has y.1 (S.fr y hy hf)

theorem ok_comp (I : Inv X pins σ H s) (S : CompScope X.env.scope scope T F) (p1 : ∀ x c, cl.lookup x = some c → X.env.cells.lookup x = some c)
    (p2 : ∀ y ∈ scope.names, y.2 = .free → ∃ c, cl.lookup y.1 = some c) (hC : s.heap.objs.size ≤ C) (hf : ∀ b ∈ fp, FpOk X pins H b) (hfl : ∀ b ∈ fp, b < s.heap.objs.size) :
    (cxComp X (T ++ F) scope cl C fp s H).Ok where
  mod := I.ok.mod
  kind := S.kind
  glob := I.ok.glob
  blt := I.ok.blt
  above := hC
  inj := fun x y c hx hy => I.ok.inj x y c (p1 x c hx) (p1 y c hy)
  has := fun x hx => by
    have q : ∃ y ∈ scope.names, y.1 = x ∧ y.2 = .free := by
      rcases hx with hx | hx
      · exact relabel_from (env := X.env) S.nocell (show (relabel scope X.env).names.lookup x = some .cell from hx) (.inl rfl)
      · exact relabel_from (env := X.env) S.nocell (show (relabel scope X.env).names.lookup x = some .free from hx) (.inr rfl)
    obtain ⟨y, hy, rfl, hf⟩ := q
    exact p2 y hy hf
  cab := fun x c h => by cases h
  hd := I.ok.hd
  frames := I.ok.frames
  stk := .inl rfl
  exf := fun b hb => ⟨Nat.ne_of_lt (Nat.lt_of_lt_of_le (hfl b hb) hC), fun x c e => (hf b hb).2.2.2.2.1 x c (p1 x c e)⟩
  bs := I.bs
  bsz := Nat.le_trans I.ok.bsz I.sz
  noex := fun b o e hb => by
    rcases (hf b hb).2.2.2.1 with z | z
    · exact I.ok.noex b o e z
    · exact absurd (Nat.lt_of_lt_of_le (Heap.lt_size (I.ok.bs b o e).1) z) (Nat.lt_irrefl _)
  exfs := fun b hb z => by
    rcases List.mem_cons.mp (I.stkSub b z) with q | q
    · exact (hf b hb).2.1 q
    · exact (hf b hb).2.2.1 q
  funs := I.stack
  frf := I.stkFree

/-- the names at the block's entry: the targets unbound, the free names as outside -/
noncomputable def st0 (T : List Str) (js : List Nat) (σ : St) : St := List.replicate T.length none ++ js.map fun j => (σ[j]?).join

theorem paired_get {α β : Type} {R : α → β → Prop} : ∀ {l : List α} {r : List β} {i : Nat} {b : β}, Paired R l r → r[i]? = some b → ∃ a, l[i]? = some a ∧ R a b
  | _, _, _, _, .nil, e => by simp at e
  | _, _, 0, _, .cons h _, e => by simp at e; subst e; exact ⟨_, rfl, h⟩
  | _, _, i + 1, b, .cons _ t, e => by
    obtain ⟨a, q1, q2⟩ := paired_get (i := i) (b := b) t (by simpa using e)
    exact ⟨a, by simpa using q1, q2⟩

theorem inv_comp {h₁ : Heap} {m : Str → Option Value} {t' : Nat} (I : Inv X pins σ H s) (S : CompScope X.env.scope scope T F) (p1 : ∀ x c, cl.lookup x = some c → X.env.cells.lookup x = some c)
    (p2 : ∀ y ∈ scope.names, y.2 = .free → ∃ c, cl.lookup y.1 = some c) (hjs : Paired (fun x j => X.N[j]? = some x) F js) (hC : s.heap.objs.size ≤ C) (hf : ∀ b ∈ fp, FpOk X pins H b) (hfl : ∀ b ∈ fp, b < s.heap.objs.size)
    (hn : h₁.Ns C m) (hk : ∀ b o, s.heap.get? b = some o → h₁.get? b = some o) : Inv (cxComp X (T ++ F) scope cl C fp s H) [] (st0 T js σ) H { s with heap := h₁, toks := t' } := by
  refine ⟨ok_comp I S p1 p2 hC hf hfl, rfl, I.bare, Un.kept hk, ⟨m, hn, fun i x v h1 h2 h3 => ?_⟩, fun x c e => ?_, I.hok.fresh hC, fun x c e => I.freeC x c (p1 x c e), fun p hp => (by cases hp), I.hok.kept hk, ?_⟩
  · have hi : T.length ≤ i := by
      rcases Nat.lt_or_ge i T.length with z | z
      · exfalso
        unfold st0 at h2
        rw [List.getElem?_append_left (by simpa using z), List.getElem?_replicate] at h2
        split at h2 <;> cases h2
      · exact z
    unfold st0 at h2
    rw [List.getElem?_append_right (by simpa using hi), List.getElem?_map, List.length_replicate] at h2
    cases ej : js[i - T.length]? with
    | none => rw [ej] at h2; cases h2
    | some j =>
      rw [ej] at h2
      have hσ : (σ[j]?).join = some v := Option.some.inj h2
      obtain ⟨x', hx', hX⟩ := paired_get hjs ej
      have h1' : (T ++ F)[i]? = some x := h1
      rw [List.getElem?_append_right hi, hx'] at h1'
      cases h1'
      have hσ' : σ[j]? = some (some v) := by
        cases e : σ[j]? with
        | none => rw [e] at hσ; cases hσ
        | some o => rw [e] at hσ; cases hσ; rfl
      have hxF : x ∈ F := List.mem_of_getElem? hx'
      have hfree := S.ffree x hxF
      have hpsc := S.fr _ (PySem.mem_of_lookup hfree) rfl
      obtain ⟨m0, _, look⟩ := I.loc
      obtain ⟨u, ru, lk⟩ := look j x v hX hσ' (.inr hpsc)
      refine ⟨u, ru, ?_⟩
      rcases lk with ⟨k, _⟩ | ⟨_, c, hc, hcell⟩
      · exfalso
        have k' : X.env.scope.names.lookup x = some .local := k
        rcases hpsc with z | z
        · rw [k'] at z; cases z
        · rw [k'] at z; cases z
      · obtain ⟨c', hc'⟩ := p2 _ (PySem.mem_of_lookup hfree) rfl
        have e2 := p1 x c' hc'
        rw [hc] at e2
        cases e2
        refine .inr ⟨?_, c, hc', hcell.keeps hk⟩
        exact lookup_relabel_free (env := X.env) hfree
  · obtain ⟨v, q⟩ := I.cell x c (p1 x c e)
    exact ⟨v, q.keeps hk⟩
  · show (st0 T js σ).length = (T ++ F).length
    unfold st0
    rw [List.length_append, List.length_append, List.length_replicate, List.length_map, (Paired.length hjs)]

/-- behind the block -/
theorem inv_back {N' : List Str} {σ' : St} (I : Inv X pins σ H s) (J : Inv (cxComp X N' scope cl C fp s H) [] σ' H' s') (hf : ∀ b ∈ fp, FpOk X pins H b) : Inv X pins σ H' s' :=
  I.call' (ch := fp) (show s'.os = s.os from J.os) J.base J.hok J.bare fun b hb => ⟨(hf b hb).2.2.2.1, (hf b hb).2.1, (hf b hb).2.2.2.2.1, (hf b hb).2.2.2.2.2⟩
end
end L3

set_option Elab.async false
set_option linter.all false
set_option maxRecDepth 100000
set_option maxHeartbeats 4000000
namespace L3
open PySem PySem.Spec L2
open PyProof.Rows hiding St

section
variable {prog : Program} {w : World} {A : Around} {R : Result → Shared → Prop} {s : Shared}
/-- the turns of a list comprehension with one clause; nothing raises -/
theorem comp_turns {elt target iter : Expr} {ifs : List Expr} {scope : Scope} {pos : Pos} {it acc : Value} {env : Env} (I : Nat → Shared → Prop)
    (turn : ∀ n s, I n s → wpAny (model prog w) A (pyNext it) (fun r s₁ => match r with
      | none => R (.ok .next) s₁
      | some v => wpAny (model prog w) A (letOwnedTupleGo target it v) (fun _ s₂ => wpAny (model prog w) A (assign target env v) (fun _ s₃ =>
          wpAny (model prog w) A (forIn ifs true fun c r => if r = true then do let ok ← isTrue c env (eval c env); pure (ForInStep.yield ok) else pure (ForInStep.yield r)) (fun ok s₄ =>
            if ok = true then wpAny (model prog w) A (eval elt env) (fun x s₅ => wpAny (model prog w) A (call (.builtin "list.append") [acc, x]) (fun _ s₆ => ∃ m, m < n ∧ I m s₆) (fun _ _ => False) s₅) (fun _ _ => False) s₄
            else ∃ m, m < n ∧ I m s₄) (fun _ _ => False) s₃) (fun _ _ => False) s₂) (fun _ _ => False) s₁) (fun _ _ => False) s)
    (n : Nat) (h : I n s) : codeAny (model prog w) A (.compLoop (.ListComp elt [⟨target, iter, ifs, 0⟩] scope pos) 0 it acc env) R s := by
  refine codeAny_loop rfl I (fun n s hI => ?_) n h
  show wpAny _ A ((compTurn (.ListComp elt [⟨target, iter, ifs, 0⟩] scope pos) 0 it acc env).onRaise (fun x => do noteFrame x env; theTreesLotGoes x)) _ _ s
  refine wpAny_noted (wpAny_noRaise ?_)
  rw [compTurn_list]
  refine wpAny_bind (wpAny_standAt (wpAny_bind (thn (turn n s hI) fun r s₁ h₁ => ?_)))
  cases r with
  | none => exact wpAny_pure h₁
  | some v =>
    refine wpAny_bind (thn h₁ fun _ s₂ h₂ => wpAny_bind (thn h₂ fun _ s₃ h₃ => wpAny_bind (thn h₃ fun ok s₄ h₄ => ?_)))
    cases ok with
    | false => exact wpAny_pure ⟨rfl, h₄⟩
    | true => exact wpAny_bind (wpAny_bind (thn h₄ fun x s₅ h₅ => wpAny_bind (thn h₅ fun _ s₆ h₆ => wpAny_pure (wpAny_pure ⟨rfl, h₆⟩))))
end

/-- a clause's tests -/
noncomputable def PIf (X : Cx) (ifs : List Expr) (t : TT) : Prop :=
  ∀ (pins : List (Addr × Obj)) (s : Shared) (σ : St) (H : Hp) (Q : Bool → Hp → Prop), Inv X pins σ H s → t σ H Q →
    wpAny (model X.prog X.w) X.A (forIn ifs true fun c r => if r = true then do let ok ← isTrue c X.env (eval c X.env); pure (ForInStep.yield ok) else pure (ForInStep.yield r)) (TP X pins σ Q) X.xe s
noncomputable def tYes : TT := fun _ H Q => Q true H
theorem pif_nil {X : Cx} : PIf X [] tYes := fun _ _ _ H _ I h => wpAny_tests_nil ⟨H, I, h⟩
theorem pif_one {X : Cx} {c : Expr} {tc : TT} (h : PT X c tc) : PIf X [c] tc := fun pins s σ H Q I q => wpAny_tests_one (h pins s σ H Q I q)

/-- a target that binds names below n alone -/
noncomputable def KeepFrom (n : Nat) (σ σ' : St) : Prop := σ'.length = σ.length ∧ ∀ i, n ≤ i → σ'[i]? = σ[i]?
theorem KeepFrom.refl (n : Nat) (σ : St) : KeepFrom n σ σ := ⟨rfl, fun _ _ => rfl⟩
theorem KeepFrom.trans {n : Nat} {a b c : St} (x : KeepFrom n a b) (y : KeepFrom n b c) : KeepFrom n a c := ⟨y.1.trans x.1, fun i h => (y.2 i h).trans (x.2 i h)⟩
theorem KeepFrom.set {n i : Nat} {σ : St} {v : V} (h : i < n) : KeepFrom n σ (σ.set i (some v)) := ⟨by simp, fun j hj => by rw [List.getElem?_set_ne (by omega)]⟩
noncomputable def GKeep (n : Nat) (g : TG) : Prop := ∀ v σ H Q, g v σ H Q → g v σ H fun σ' H' => Q σ' H' ∧ KeepFrom n σ σ'
noncomputable def GKeeps (n : Nat) (g : TGs) : Prop := ∀ vs σ H Q, g vs σ H Q → g vs σ H fun σ' H' => Q σ' H' ∧ KeepFrom n σ σ'
theorem gk_name {n i : Nat} (h : i < n) : GKeep n (gName i) := fun v σ H Q q => ⟨q, KeepFrom.set h⟩
theorem gk_nil {n : Nat} : GKeeps n gNil := fun vs σ H Q q => ⟨q.1, q.2, KeepFrom.refl n σ⟩
theorem gk_cons {n : Nat} {t : TG} {u : TGs} (mono : ∀ v σ H Q Q', (∀ σ' H', Q σ' H' → Q' σ' H') → t v σ H Q → t v σ H Q') (monos : ∀ v σ H Q Q', (∀ σ' H', Q σ' H' → Q' σ' H') → u v σ H Q → u v σ H Q') (h1 : GKeep n t) (h2 : GKeeps n u) : GKeeps n (gCons t u) := fun vs σ H Q q => by
  obtain ⟨v, r, e, q⟩ := q
  refine ⟨v, r, e, mono _ _ _ _ _ (fun σ' H' z => ?_) (h1 v σ H _ q)⟩
  exact monos _ _ _ _ _ (fun σ2 H2 y => ⟨y.1, z.2.trans y.2⟩) (h2 r σ' H' Q z.1)
theorem gk_tup {K : PySem.W.Frag} {n k : Nat} {t : TGs} (h : GKeeps n t) : GKeep n (gTup K k t) := fun v σ H Q q => by
  obtain ⟨a, xs, e, hq, hl, q⟩ := q
  exact ⟨a, xs, e, hq, hl, h xs σ H Q q⟩
theorem gm_name {i : Nat} : ∀ v σ H (Q Q' : St → Hp → Prop), (∀ σ' H', Q σ' H' → Q' σ' H') → gName i v σ H Q → gName i v σ H Q' := fun _ _ _ _ _ f q => f _ _ q
theorem gm_nil : ∀ v σ H (Q Q' : St → Hp → Prop), (∀ σ' H', Q σ' H' → Q' σ' H') → gNil v σ H Q → gNil v σ H Q' := fun _ _ _ _ _ f q => ⟨q.1, f _ _ q.2⟩
theorem gm_cons {t : TG} {u : TGs} (mono : ∀ v σ H Q Q', (∀ σ' H', Q σ' H' → Q' σ' H') → t v σ H Q → t v σ H Q') (monos : ∀ v σ H Q Q', (∀ σ' H', Q σ' H' → Q' σ' H') → u v σ H Q → u v σ H Q') :
    ∀ v σ H (Q Q' : St → Hp → Prop), (∀ σ' H', Q σ' H' → Q' σ' H') → gCons t u v σ H Q → gCons t u v σ H Q' := fun vs σ H Q Q' f q => by
  obtain ⟨v, r, e, q⟩ := q
  exact ⟨v, r, e, mono _ _ _ _ _ (fun σ' H' z => monos _ _ _ _ _ f z) q⟩

/-- the loop's reading: W by the turn, a measure, what has been gathered at D -/
noncomputable def tLoop (J : It) (g : TG) (tc : TT) (te : TE) (σ0 : St) (D : Addr) (Z : Hp → Prop) (H : Hp) : Prop :=
  ∃ W : Nat → Nat → List V → Hp → Prop, (∃ m, W 0 m [] H) ∧ ∀ i m ys H, W i m ys H → H D = some (.lst ys) ∧ ((J.stop i H ∧ Z H) ∨ (J.go i H ∧ ∃ N : List V → Hp → Prop, (∀ zs H', N zs H' → ∃ m', m' < m ∧ W (i + 1) m' zs H') ∧ ∀ x H', J.yld i H x H' →
    g x σ0 H' fun σ2 H2 => tc σ2 H2 fun b H3 => if b = true then te σ2 H3 fun y H4 => H4 D = some (.lst ys) ∧ ys.length < sizeLine ∧ N (ys ++ [y]) (upd H4 D (.lst (ys ++ [y]))) else N ys H3))
noncomputable def tComp (wi : TI) (T : List Str) (js : List Nat) (g : TG) (tc : TT) (te : TE) : TE := fun σ H Q => wi σ H fun J H1 => ∀ D, H1 D = none → tLoop J g tc te (st0 T js σ) D (Q (.ref D)) (upd H1 D (.lst []))

section
variable {X : Cx} {pins : List (Addr × Obj)} {σ : St} {H2 : Hp} {s2 : Shared} {scope : Scope} {T F : List Str} {cl : List (Str × Addr)} {fp : List Addr} {js : List Nat} {tg iter elt : Expr} {ifs : List Expr} {pos : Pos}
  {g : TG} {tc : TT} {te : TE} {J : It} {it : Addr} {tn : Nat → Heap → Prop} {E : Value → Shared → Prop} {RR : Value → Addr → Result → Shared → Prop}

theorem comp_block (hc : X.calm = true) (S : CompScope X.env.scope scope T F) (hjs : Paired (fun x j => X.N[j]? = some x) F js)
    (hg : ∀ cl C fp s H, PG (cxComp X (T ++ F) scope cl C fp s H) tg g) (hk : GKeep T.length g)
    (ht : ∀ cl C fp s H, PIf (cxComp X (T ++ F) scope cl C fp s H) ifs tc) (he : ∀ cl C fp s H, PE (cxComp X (T ++ F) scope cl C fp s H) elt te)
    (p1 : ∀ x c, cl.lookup x = some c → X.env.cells.lookup x = some c) (p2 : ∀ y ∈ scope.names, y.2 = .free → ∃ c, cl.lookup y.1 = some c)
    (I2 : Inv X pins σ H2 s2) (Tn : Turn X.prog X.w X.K tg J fp it tn) (st2 : tn 0 s2.heap) (f2 : ∀ b ∈ fp, FpOk X pins H2 b) (Z : Addr → Hp → Prop)
    (loop : ∀ D, H2 D = none → tLoop J g tc te (st0 T js σ) D (Z D) (upd H2 D (.lst [])))
    (hRR : ∀ D C H' s' m', s'.heap.Ns C m' → FpOk X pins H' C → Inv X pins σ H' s' → Z D H' → RR (.ref D) C (.ok .next) s') :
    wpAny (model X.prog X.w) X.A (newList []) (fun acc s₃ => wpAny (model X.prog X.w) X.A (newFunctionEnv scope X.env.globals cl [] X.env.qual none .none (some X.env)) (fun cenv s₄ =>
      codeAny (model X.prog X.w) X.A (.compStart (.ListComp elt [⟨tg, iter, ifs, 0⟩] scope pos) 0 (.ref it) acc { cenv with scope := relabel scope X.env }) (RR acc cenv.locals) s₄) E s₃) E s2 := by
  refine wpAny_newObj_type (wpAny_newFunctionEnv S.nocell (by intro y hy; cases hy) (fun h₁ hns hsb => ?_) S.kind)
  dsimp only at hns hsb ⊢
  have I3 : Inv X pins σ (upd H2 s2.heap.objs.size (.lst [])) { s2 with heap := s2.heap.push { cls := .type "list", data := .seq ([] : List Value).toArray } } := I2.lnew (its := []) (t' := s2.toks) .nil (Nat.zero_le _)
  have hobj : ∀ b ∈ fp, b < s2.heap.objs.size := fun b hb => by
    obtain ⟨o, e, _⟩ := Tn.obj _ _ st2 b hb
    exact Heap.lt_size e
  have f3 : ∀ b ∈ fp, FpOk X pins (upd H2 s2.heap.objs.size (.lst [])) b := fun b hb => ⟨by rw [upd_ne (Nat.ne_of_lt (hobj b hb))]; exact (f2 b hb).1, (f2 b hb).2⟩
  obtain ⟨W, ⟨m0, w0⟩, turn⟩ := loop s2.heap.objs.size I2.fresh
  generalize hs3 : ({ s2 with heap := s2.heap.push { cls := .type "list", data := .seq ([] : List Value).toArray } } : Shared) = s3 at I3
  have e3 : s2.heap.push { cls := .type "list", dict := none, data := .seq ([] : List Value).toArray } = s3.heap := by rw [← hs3]
  rw [e3] at hns hsb ⊢
  have sz3 : s3.heap.objs.size = s2.heap.objs.size + 1 := by rw [← e3, Heap.size_push]
  have hold : ∀ b o, s3.heap.get? b = some o → h₁.get? b = some o := fun b o e => hsb.extBut b o (Nat.ne_of_lt (Heap.lt_size e)) (Heap.get?_push_of_some _ e)
  have hobj3 : ∀ b ∈ fp, b < s3.heap.objs.size := fun b hb => by rw [sz3]; exact Nat.lt_succ_of_lt (hobj b hb)
  have J0 : Inv (cxComp X (T ++ F) scope cl s3.heap.objs.size fp s3 (upd H2 s2.heap.objs.size (.lst []))) [] (st0 T js σ) (upd H2 s2.heap.objs.size (.lst [])) { s3 with heap := h₁, toks := s2.toks + ([] : List (Str × Value)).length } :=
    inv_comp I3 S p1 p2 hjs (Nat.le_refl _) f3 hobj3 hns hold
  have stL : tn 0 h₁ := Tn.keep _ _ _ st2 fun b _ o e => hold b o (by rw [← e3]; exact Heap.get?_push_of_some _ e)
  have es : ({ s2 with heap := h₁, toks := s2.toks + ([] : List (Str × Value)).length } : Shared) = { s3 with heap := h₁, toks := s2.toks + ([] : List (Str × Value)).length } := by rw [← hs3]
  have main : codeAny (model X.prog X.w) X.A (.compLoop (.ListComp elt [⟨tg, iter, ifs, 0⟩] scope pos) 0 (.ref it) (.ref s2.heap.objs.size) (compEnvC scope cl s3.heap.objs.size X.env)) (RR (.ref s2.heap.objs.size) s3.heap.objs.size)
      { s3 with heap := h₁, toks := s2.toks + ([] : List (Str × Value)).length } := by
    have stat : ∀ {H' : Hp}, (∀ b ∈ fp, H' b = none) → ∀ b ∈ fp, FpOk (cxComp X (T ++ F) scope cl s3.heap.objs.size fp s3 (upd H2 s2.heap.objs.size (.lst []))) [] H' b := fun hn b hb =>
      ⟨hn b hb, Nat.ne_of_lt (hobj3 b hb), J0.ok.exfs b hb, .inl hb, (J0.ok.exf b hb).2, fun p hp => (by cases hp)⟩
    refine comp_turns (fun n s' => ∃ i ys H', Inv (cxComp X (T ++ F) scope cl s3.heap.objs.size fp s3 (upd H2 s2.heap.objs.size (.lst []))) [] (st0 T js σ) H' s' ∧ tn i s'.heap ∧ (∀ b ∈ fp, H' b = none) ∧ W i n ys H') ?_ m0
      ⟨0, [], _, J0, stL, fun b hb => (f3 b hb).1, w0⟩
    rintro n s4 ⟨i, ys, H4, I4, st4, fr4, w4⟩
    obtain ⟨hD, alt⟩ := turn i n ys H4 w4
    rcases alt with ⟨stop, z⟩ | ⟨go, N, hN, step⟩
    · refine thn (Tn.done (cxComp X (T ++ F) scope cl s3.heap.objs.size fp s3 (upd H2 s2.heap.objs.size (.lst []))) rfl rfl rfl hc i [] s4 _ H4 (fun _ _ => False) I4 (stat fr4) st4 stop) fun r s5 ⟨hr, I5⟩ => ?_
      subst hr
      obtain ⟨m5, n5, _⟩ := I5.loc
      have fC : FpOk X pins H4 s3.heap.objs.size := I2.fpOk (by rw [sz3]; exact Nat.le_succ _) I5.free
      exact hRR _ _ H4 s5 m5 n5 fC ((inv_back I3 I5 f3)) z
    · refine thn (Tn.item (cxComp X (T ++ F) scope cl s3.heap.objs.size fp s3 (upd H2 s2.heap.objs.size (.lst []))) rfl rfl rfl hc i [] s4 _ H4 (fun _ _ => False) I4 (stat fr4) st4 go) fun r s5 ⟨u, hr, h5⟩ => ?_
      subst hr
      refine thn h5 fun _ s6 ⟨x, H6, I6, r6, y6, st6, fr6⟩ => ?_
      have I6' := I6.pinned (stat fr6) (Tn.obj _ _ st6)
      refine thn (hg _ _ _ _ _ _ s6 _ H6 x u _ I6' r6 (hk x _ H6 _ (step x H6 y6))) fun _ s7 ⟨σ7, H7, I7, q7, kp⟩ => ?_
      refine thn (ht _ _ _ _ _ _ s7 σ7 H7 _ I7 q7) fun ok s8 ⟨H8, I8, q8⟩ => ?_
      have again : ∀ {s9 : Shared} {H9 : Hp}, Inv (cxComp X (T ++ F) scope cl s3.heap.objs.size fp s3 (upd H2 s2.heap.objs.size (.lst []))) ([] ++ pinsAt fp s6.heap) σ7 H9 s9 → ∀ {zs : List V}, (∃ m', m' < n ∧ W (i + 1) m' zs H9) →
          ∃ m, m < n ∧ ∃ i ys H', Inv (cxComp X (T ++ F) scope cl s3.heap.objs.size fp s3 (upd H2 s2.heap.objs.size (.lst []))) [] (st0 T js σ) H' s9 ∧ tn i s9.heap ∧ (∀ b ∈ fp, H' b = none) ∧ W i m ys H' := fun {s9 H9} I9 {zs} q9 => by
        obtain ⟨m', hm, w9⟩ := q9
        have I9' := I9.unpinned
        refine ⟨m', hm, i + 1, zs, H9, I9'.weak kp.1.symm (fun a v ea => ?_), Tn.keep _ _ _ st6 fun b hb o e => (I9.pin (b, o) (List.mem_append_right _ (List.mem_append_right _ (mem_pinsAt hb e)))).1, fun b hb => ?_, w9⟩
        · have ha : T.length ≤ a := by
            rcases Nat.lt_or_ge a T.length with z | z
            · exfalso
              unfold st0 at ea
              rw [List.getElem?_append_left (by simpa using z), List.getElem?_replicate] at ea
              split at ea <;> cases ea
            · exact z
          rw [kp.2 a ha]
          exact ea
        · obtain ⟨o, e, d⟩ := Tn.obj _ _ st6 b hb
          exact (I9.pin (b, o) (List.mem_append_right _ (List.mem_append_right _ (mem_pinsAt hb e)))).2.1
      cases ok with
      | false =>
        rw [if_neg Bool.false_ne_true] at q8 ⊢
        exact again I8 (hN _ _ q8)
      | true =>
        rw [if_pos rfl] at q8 ⊢
        refine thn (he _ _ _ _ _ _ s8 σ7 H8 _ I8 q8) fun y s9 ⟨v9, H9, I9, r9, hD9, hl9, q9⟩ => ?_
        refine thn (mt_append _ s9 σ7 H9 (.ref s2.heap.objs.size) [v9] (.ref s2.heap.objs.size) [y] (fun _ H10 => H10 = upd H9 s2.heap.objs.size (.lst (ys ++ [v9]))) I9 rfl (.cons r9 .nil) ⟨_, _, _, rfl, rfl, hD9, hl9, rfl⟩) fun _ s10 ⟨_, H10, I10, _, e10⟩ => ?_
        subst e10
        exact again I10 (hN _ _ q9)
  show codeAny _ _ _ _ ({ s2 with heap := h₁, toks := s2.toks + ([] : List (Str × Value)).length } : Shared)
  rw [es]
  exact codeAny_compStart_list main (Tn.self _ 0 _ _ _ stL main)

/-- [elt for tg in iter if ..] -/
theorem pe_comp {wi : TI} (hc : X.calm = true) (hi : PI X tg iter wi) (S : CompScope X.env.scope scope T F) (hjs : Paired (fun x j => X.N[j]? = some x) F js)
    (hg : ∀ cl C fp s H, PG (cxComp X (T ++ F) scope cl C fp s H) tg g) (hk : GKeep T.length g)
    (ht : ∀ cl C fp s H, PIf (cxComp X (T ++ F) scope cl C fp s H) ifs tc) (he : ∀ cl C fp s H, PE (cxComp X (T ++ F) scope cl C fp s H) elt te)
    (hs : ∀ x, foldedSetIterable iter X.env x = pure x := by intro _; rfl) : PE X (.ListComp elt [⟨tg, iter, ifs, 0⟩] scope pos) (tComp wi T js g tc te) := by
  intro pins s σ H Q I h
  obtain ⟨cl, hcl, p1, p2⟩ := closure_ok (cells_there I S)
  rw [eval_ListComp]
  refine wpAny_comprehension_free (use := none) rfl hs hcl S.kind S.loc (thn (hi pins s σ H _ I h) fun v s1 h1 => thn h1 fun itv s2 h2 => ?_)
  obtain ⟨it, fp, tn, J, H2, e, I2, Tn, st2, f2, loop⟩ := h2
  subst e
  refine comp_block (RR := fun acc C => compPost (model X.prog X.w) X.A X.xe none (EP X pins σ Q) acc C) hc S hjs hg hk ht he p1 p2 I2 Tn st2 f2 (fun D H' => Q (.ref D) H') loop ?_
  intro D C H' s' m' hn fC I' z
  obtain ⟨f0, f1, f2, f3, f4, f5⟩ := fC
  exact ⟨m', hn, fun h' sb => ⟨.ref D, H', I'.turned (t' := s'.toks) (fun b o hb e => (sb.2 b hb).trans e) f0 f1 f3 f4 f5, rfl, z⟩⟩

/-- x = [elt for tg in iter if ..] -/
theorem ps_setComp {wi : TI} {i : Nat} {y : Str} {py spos : Pos} (hc : X.calm = true) (hN : X.N.Nodup) (hy : X.N[i]? = some y) (hl : X.env.scope.names.lookup y = some .local ∨ X.env.scope.names.lookup y = some .cell) (hi : PI X tg iter wi) (S : CompScope X.env.scope scope T F) (hjs : Paired (fun x j => X.N[j]? = some x) F js)
    (hg : ∀ cl C fp s H, PG (cxComp X (T ++ F) scope cl C fp s H) tg g) (hk : GKeep T.length g)
    (ht : ∀ cl C fp s H, PIf (cxComp X (T ++ F) scope cl C fp s H) ifs tc) (he : ∀ cl C fp s H, PE (cxComp X (T ++ F) scope cl C fp s H) elt te)
    (hsw : swapsWith (.ListComp elt [⟨tg, iter, ifs, 0⟩] scope pos) (some (.Name y py)) spos.line X.env = pure true := by rfl)
    (hs : ∀ x, foldedSetIterable iter X.env x = pure x := by intro _; rfl) (hfn : X.fn y = true ∨ X.env.scope.names.lookup y = some .local := by first | exact .inl rfl | exact .inr rfl | assumption) :
    PS X (.Assign [.Name y py] (.ListComp elt [⟨tg, iter, ifs, 0⟩] scope pos) spos) (fun D σ H => tComp wi T js g tc te σ H fun v H1 => D.nx (σ.set i (some v)) H1) := by
  intro pins s σ H D I h
  obtain ⟨cl, hcl, p1, p2⟩ := closure_ok (cells_there I S)
  rw [exec_Assign_Name_used _ _ _ _ hsw]
  refine wpAny_bind (wpAny_standAt (wpAny_bind ?_))
  show wpAny _ X.A (do let _ ← comprehension (.ListComp elt [⟨tg, iter, ifs, 0⟩] scope pos) scope X.env _ (newList []) false (eval iter X.env) (some (assign (.Name y py) X.env))) _ _ s
  refine wpAny_bind (thn (wpAny_comprehension_free (use := some (assign (.Name y py) X.env)) (Q := fun _ s' => SP X pins D .next s') rfl hs hcl S.kind S.loc (thn (hi pins s σ H _ I h) fun v s1 h1 => thn h1 fun itv s2 h2 => ?_)) fun _ s' hq => wpAny_pure (wpAny_pure hq))
  obtain ⟨it, fp, tn, J, H2, e, I2, Tn, st2, f2, loop⟩ := h2
  subst e
  refine comp_block (RR := fun acc C => compPost (model X.prog X.w) X.A X.xe (some (assign (.Name y py) X.env)) (fun _ s' => SP X pins D .next s') acc C) hc S hjs hg hk ht he p1 p2 I2 Tn st2 f2 (fun D0 H' => D.nx (σ.set i (some (.ref D0))) H') loop ?_
  intro D0 C H' s' m' hn fC I' z
  obtain ⟨f0, f1, f2, f3, f4, f5⟩ := fC
  show wpAny _ X.A (assign (.Name y py) X.env (.ref D0)) _ _ s'
  refine wpAny_assign_Name (store_ok2 (v := .ref D0) I' hN hy hl rfl (fun s'' I'' ch => ?_) hfn)
  obtain ⟨a, sb, ha⟩ := ch
  have hCa : C ≠ a := by
    rcases ha with rfl | ha
    · exact f1
    · exact fun z => f4 y a ha z.symm
  exact ⟨m', hn.sameBut sb hCa, fun h' sb' => ⟨_, H', I''.turned (t' := s''.toks) (fun b o hb e => (sb'.2 b hb).trans e) f0 f1 f3 f4 f5, z⟩⟩
end
end L3

set_option Elab.async false
set_option linter.all false
set_option maxRecDepth 100000
set_option maxHeartbeats 4000000
namespace L3
open PySem PySem.Spec L2
open PyProof.Rows hiding St

noncomputable def Itv (n : Nat) (val : Nat → V → Prop) : It := ⟨fun i _ => i < n, fun i H x H' => H' = H ∧ val i x, fun i _ => i = n⟩
/-- the sign at a place -/
noncomputable def SignV (x : Str) (i : Nat) (v : V) : Prop := ∃ c, x.cps[i]? = some c ∧ v = .str ⟨#[c]⟩

theorem turn_str {P : Program} {w : World} {K : PySem.W.Frag} {tg : Expr} {it : Addr} {x : Str} {t : Tok} {T : String}
    (W : ∀ A : Around, A.handled = none → Walks P w A it [it] [it] x.cps.size (SignAt x) (fun i h => h.IsStrIter it T x t i))
    (hs : ∀ (A : Around) (i : Nat) (s : Shared) (Q : Value → Shared → Prop) (E : Value → Shared → Prop), s.heap.IsStrIter it T x t i → Q (.ref it) s → wpAny (model P w) A (pyIter (.ref it)) Q E s)
    (hT : ["enumerate", "zip", "dict_itemiterator", "dict_reverseitemiterator", "odict_iterator", "itertools.zip_longest", "itertools.pairwise"].contains T = false) :
    Turn P w K tg (Itv x.cps.size (SignV x)) [it] it (fun i h => h.IsStrIter it T x t i) where
  mem := by simp
  obj := fun i h st b hb => by
    have e : b = it := by simpa using hb
    subst e
    obtain ⟨o, e, c, d⟩ := st
    exact ⟨o, e, fun v z => by rw [d] at z; cases z⟩
  keep := fun i h h' st k => let ⟨o, e, r⟩ := st; ⟨o, k it (by simp) o e, r⟩
  item := by
    intro X hP hw hK hc i pins s σ H E I hf st hg
    subst hP hw hK
    obtain ⟨f0, f1, f2, f3, f4, f5⟩ := hf it (by simp)
    refine (W X.A (I.ok.hd hc)).item i s _ _ hg st fun v h' tk hv st' kk => ?_
    obtain ⟨c, u, hx, rfl⟩ := hv
    have I1 : Inv X pins σ H { s with heap := h', toks := tk } := I.turned (fun b o hb e => kk b o (by simpa using hb) e) f0 f1 f3 f4 f5
    obtain ⟨o, e, c', d⟩ := id st'
    exact ⟨_, rfl, go_of (s := { s with heap := h', toks := tk }) e c' d hT ⟨.str ⟨#[c]⟩, H, I1, ⟨u, rfl⟩, ⟨rfl, c, hx, rfl⟩, st', fun b hb => (hf b hb).1⟩⟩
  done := by
    intro X hP hw hK hc i pins s σ H E I hf st hg
    subst hP hw hK
    obtain ⟨f0, f1, f2, f3, f4, f5⟩ := hf it (by simp)
    have e : i = x.cps.size := hg
    subst e
    exact (W X.A (I.ok.hd hc)).done s _ _ st fun h' tk kk => ⟨rfl, I.turned (fun b o hb e => kk b o (by simpa using hb) e) f0 f1 f3 f4 f5⟩
  self := fun A i s Q E st h => hs A i s Q E st h

section
variable {X : Cx}
end
end L3

set_option Elab.async false
set_option linter.all false
set_option maxRecDepth 100000
set_option maxHeartbeats 4000000
namespace DL
open PySem PySem.Spec L2 L3
open PyProof.Rows hiding St

/-- a constant of the module: it lies outside what changes -/
inductive Cst where
  | int (i : Int) | str (x : Str) | tup (cs : List Cst)
mutual
noncomputable def CRep (K : PySem.W.Frag) : Cst → V → Prop
  | .int i, v => v = .int i
  | .str x, v => v = .str x
  | .tup cs, v => ∃ (a : Addr) (o : Obj) (its : Array Value) (n : Nat) (xs : List V), v = .ref a ∧ K.lookup a = some o ∧ o.cls = .type "tuple" ∧ o.data = .seq its n ∧ its.size ≤ sizeLine ∧ Vals xs its.toList ∧ CReps K cs xs
noncomputable def CReps (K : PySem.W.Frag) : List Cst → List V → Prop
  | [], xs => xs = []
  | c :: cs, xs => ∃ v r, xs = v :: r ∧ CRep K c v ∧ CReps K cs r
end
/-- a value with all that it holds -/
inductive D where
  | non | bl (b : Bool) | int (i : Int) | str (x : Str) | ty (n : String)
  | tup (ds : List D) | lst (ds : List D) | dk (ks : List Key) (ds : List D) | dt (ks : List (List Key)) (ds : List D)
  /-- the script -/
  | scr (ns : List Int)
  /-- an exception of the class at C -/
  | exc (C : Addr)
  /-- a list of whole numbers (below m, where 0 < m), no matter which -/
  | fd (m : Int)
  | cn (c : Cst)

/-- the script at a -/
noncomputable def Scr (K : PySem.W.Frag) (H : Hp) (a : Addr) (ns : List Int) : Prop :=
  (∃ o, H a = some (.frz o (.lst (ns.map V.int)))) ∨
    ∃ (o : Obj) (its : Array Value) (n : Nat), K.lookup a = some o ∧ o.cls = .type "list" ∧ o.dict = none ∧ o.data = .seq its n ∧ its.size ≤ sizeLine ∧ Vals (ns.map V.int) its.toList
theorem Scr.seq {K : PySem.W.Frag} {H : Hp} {a : Addr} {ns : List Int} (h : Scr K H a ns) : SqL K H a (ns.map V.int) := by
  rcases h with ⟨o, h⟩ | h
  · exact .inl (.inr ⟨o, h⟩)
  · exact .inr h

/-- a tuple that is tracked -/
noncomputable def SqR (K : PySem.W.Frag) (H : Hp) (a : Addr) (xs : List V) : Prop := SqT K H a xs ∧ H a = some (.tup xs)
/-- an exception of the class at C, known by its class alone -/
noncomputable def ExcO (a C : Addr) : HO := .ext fun h => ∃ o, h.get? a = some o ∧ o.cls = .ref C ∧ PySem.W.notCls o = true
/-- a list of whole numbers, from 0 on and below m where 0 < m, and not empty where not: what it holds may change -/
noncomputable def FeedO (a : Addr) (m : Int) : HO := .ext fun h => ∃ (its : Array Value) (n : Nat), h.get? a = some { cls := .type "list", dict := none, data := .seq its n, slots := #[] } ∧ its.size ≤ 1000 ∧ (m ≤ 0 → 1 ≤ its.size) ∧ ∀ v ∈ its, ∃ (i : Int) (t : Tok), v = .int i t ∧ (0 < m → 0 ≤ i ∧ i < m)
mutual
/-- the value v stands for d; none of its lists and dicts lies in O -/
noncomputable def Rep (K : PySem.W.Frag) (H : Hp) (O : List Addr) : D → V → Prop
  | .non, v => v = .non
  | .bl b, v => v = .bl b
  | .int i, v => v = .int i
  | .str x, v => v = .str x
  | .ty n, v => v = .ty n
  | .cn c, v => CRep K c v
  | .tup ds, v => ∃ a xs, v = .ref a ∧ SqR K H a xs ∧ Reps K H O ds xs
  | .lst ds, v => ∃ a xs, v = .ref a ∧ H a = some (.lst xs) ∧ a ∉ O ∧ Reps K H O ds xs
  | .scr ns, v => ∃ a, v = .ref a ∧ Scr K H a ns
  | .exc C, v => ∃ a, v = .ref a ∧ H a = some (ExcO a C) ∧ a ∉ O
  | .fd m, v => ∃ a, v = .ref a ∧ H a = some (FeedO a m) ∧ a ∉ O
  | .dk ks ds, v => ∃ a xs, v = .ref a ∧ H a = some (.dK (ks.zip xs)) ∧ a ∉ O ∧ ks.length = ds.length ∧ ks.Nodup ∧ Reps K H O ds xs
  | .dt ks ds, v => ∃ a xs, v = .ref a ∧ H a = some (.dT (ks.zip xs)) ∧ a ∉ O ∧ ks.length = ds.length ∧ ks.Nodup ∧ Reps K H O ds xs
noncomputable def Reps (K : PySem.W.Frag) (H : Hp) (O : List Addr) : List D → List V → Prop
  | [], xs => xs = []
  | d :: ds, xs => ∃ v r, xs = v :: r ∧ Rep K H O d v ∧ Reps K H O ds r
end

/-- what stands outside O is kept -/
structure Grow (O O' : List Addr) (H H' : Hp) : Prop where
  keep : ∀ b u, H b = some u → b ∉ O → H' b = some u ∧ b ∉ O'
  tups : ∀ b xs, H b = some (.tup xs) → H' b = some (.tup xs)
  frzs : ∀ b o u, H b = some (.frz o u) → H' b = some (.frz o u)
theorem Grow.same {O : List Addr} {H H' : Hp} (s : Same H H') : Grow O O H H' := ⟨fun b u h n => ⟨s b u h, n⟩, fun b xs h => s b _ h, fun b o u h => s b _ h⟩
theorem Grow.refl {O : List Addr} {H : Hp} : Grow O O H H := Grow.same (Same.refl H)
theorem Grow.trans {O O' O'' : List Addr} {H H' H'' : Hp} (a : Grow O O' H H') (b : Grow O' O'' H' H'') : Grow O O'' H H'' :=
  ⟨fun c u h n => let ⟨h', n'⟩ := a.keep c u h n; b.keep c u h' n', fun c xs h => b.tups c xs (a.tups c xs h), fun c o u h => b.frzs c o u (a.frzs c o u h)⟩

theorem sqT_grow {K : PySem.W.Frag} {O O' : List Addr} {H H' : Hp} {a : Addr} {xs : List V} (g : Grow O O' H H') (h : SqT K H a xs) : SqT K H' a xs := by
  rcases h with (h | ⟨o, h⟩) | h
  · exact .inl (.inl (g.tups _ _ h))
  · exact .inl (.inr ⟨o, g.frzs _ _ _ h⟩)
  · exact .inr h
theorem sqR_grow {K : PySem.W.Frag} {O O' : List Addr} {H H' : Hp} {a : Addr} {xs : List V} (g : Grow O O' H H') (h : SqR K H a xs) : SqR K H' a xs := ⟨sqT_grow g h.1, g.tups _ _ h.2⟩
theorem scr_grow {K : PySem.W.Frag} {O O' : List Addr} {H H' : Hp} {a : Addr} {ns : List Int} (g : Grow O O' H H') (h : Scr K H a ns) : Scr K H' a ns := by
  rcases h with ⟨o, h⟩ | h
  · exact .inl ⟨o, g.frzs _ _ _ h⟩
  · exact .inr h
mutual
theorem Rep.grow {K : PySem.W.Frag} {O O' : List Addr} {H H' : Hp} (g : Grow O O' H H') : ∀ (d : D) (v : V), Rep K H O d v → Rep K H' O' d v
  | .non, _, h => h
  | .bl _, _, h => h
  | .int _, _, h => h
  | .str _, _, h => h
  | .ty _, _, h => h
  | .cn _, _, h => h
  | .tup ds, v, h => by
    obtain ⟨a, xs, e, q, r⟩ := h
    exact ⟨a, xs, e, sqR_grow g q, Reps.grow g ds xs r⟩
  | .lst ds, v, h => by
    obtain ⟨a, xs, e, q, n, r⟩ := h
    exact ⟨a, xs, e, (g.keep _ _ q n).1, (g.keep _ _ q n).2, Reps.grow g ds xs r⟩
  | .scr ns, v, h => by
    obtain ⟨a, e, q⟩ := h
    exact ⟨a, e, scr_grow g q⟩
  | .exc C, v, h => by
    obtain ⟨a, e, q, n⟩ := h
    exact ⟨a, e, (g.keep _ _ q n).1, (g.keep _ _ q n).2⟩
  | .fd m, v, h => by
    obtain ⟨a, e, q, n⟩ := h
    exact ⟨a, e, (g.keep _ _ q n).1, (g.keep _ _ q n).2⟩
  | .dk ks ds, v, h => by
    obtain ⟨a, xs, e, q, n, l, nd, r⟩ := h
    exact ⟨a, xs, e, (g.keep _ _ q n).1, (g.keep _ _ q n).2, l, nd, Reps.grow g ds xs r⟩
  | .dt ks ds, v, h => by
    obtain ⟨a, xs, e, q, n, l, nd, r⟩ := h
    exact ⟨a, xs, e, (g.keep _ _ q n).1, (g.keep _ _ q n).2, l, nd, Reps.grow g ds xs r⟩
theorem Reps.grow {K : PySem.W.Frag} {O O' : List Addr} {H H' : Hp} (g : Grow O O' H H') : ∀ (ds : List D) (xs : List V), Reps K H O ds xs → Reps K H' O' ds xs
  | [], _, h => h
  | d :: ds, xs, h => by
    obtain ⟨v, r, e, q, t⟩ := h
    exact ⟨v, r, e, Rep.grow g d v q, Reps.grow g ds r t⟩
end
mutual
theorem Rep.sub {K : PySem.W.Frag} {O O' : List Addr} {H : Hp} (g : ∀ a ∈ O', a ∈ O) : ∀ (d : D) (v : V), Rep K H O d v → Rep K H O' d v
  | .non, _, h => h
  | .bl _, _, h => h
  | .int _, _, h => h
  | .str _, _, h => h
  | .ty _, _, h => h
  | .cn _, _, h => h
  | .tup ds, v, h => by
    obtain ⟨a, xs, e, q, r⟩ := h
    exact ⟨a, xs, e, q, Reps.sub g ds xs r⟩
  | .lst ds, v, h => by
    obtain ⟨a, xs, e, q, n, r⟩ := h
    exact ⟨a, xs, e, q, fun z => n (g a z), Reps.sub g ds xs r⟩
  | .scr _, _, h => h
  | .exc _, _, h => by
    obtain ⟨a, e, q, n⟩ := h
    exact ⟨a, e, q, fun z => n (g a z)⟩
  | .fd _, _, h => by
    obtain ⟨a, e, q, n⟩ := h
    exact ⟨a, e, q, fun z => n (g a z)⟩
  | .dk ks ds, v, h => by
    obtain ⟨a, xs, e, q, n, l, nd, r⟩ := h
    exact ⟨a, xs, e, q, fun z => n (g a z), l, nd, Reps.sub g ds xs r⟩
  | .dt ks ds, v, h => by
    obtain ⟨a, xs, e, q, n, l, nd, r⟩ := h
    exact ⟨a, xs, e, q, fun z => n (g a z), l, nd, Reps.sub g ds xs r⟩
theorem Reps.sub {K : PySem.W.Frag} {O O' : List Addr} {H : Hp} (g : ∀ a ∈ O', a ∈ O) : ∀ (ds : List D) (xs : List V), Reps K H O ds xs → Reps K H O' ds xs
  | [], _, h => h
  | d :: ds, xs, h => by
    obtain ⟨v, r, e, q, t⟩ := h
    exact ⟨v, r, e, Rep.sub g d v q, Reps.sub g ds r t⟩
end
mutual
noncomputable def pureD : D → Prop
  | .tup ds => pureDs ds
  | .lst _ => False
  | .dk _ _ => False
  | .dt _ _ => False
  | .scr _ => True
  | .exc _ => False
  | .fd _ => False
  | .non => True
  | .bl _ => True
  | .int _ => True
  | .str _ => True
  | .ty _ => True
  | .cn _ => True
noncomputable def pureDs : List D → Prop
  | [] => True
  | d :: ds => pureD d ∧ pureDs ds
end
theorem pureDs_iff : ∀ {ds : List D}, pureDs ds ↔ ∀ d ∈ ds, pureD d
  | [] => by simp [pureDs]
  | d :: ds => by
    rw [pureDs, pureDs_iff]
    simp
mutual
theorem Rep.pure {K : PySem.W.Frag} {O O' : List Addr} {H : Hp} : ∀ (d : D) (v : V), pureD d → Rep K H O d v → Rep K H O' d v
  | .non, _, _, h => h
  | .bl _, _, _, h => h
  | .int _, _, _, h => h
  | .str _, _, _, h => h
  | .ty _, _, _, h => h
  | .cn _, _, _, h => h
  | .tup ds, v, p, h => by
    obtain ⟨a, xs, e, q, r⟩ := h
    exact ⟨a, xs, e, q, Reps.pure ds xs p r⟩
  | .scr _, _, _, h => h
  | .exc _, _, p, _ => p.elim
  | .fd _, _, p, _ => p.elim
  | .lst ds, v, p, h => p.elim
  | .dk ks ds, v, p, h => p.elim
  | .dt ks ds, v, p, h => p.elim
theorem Reps.pure {K : PySem.W.Frag} {O O' : List Addr} {H : Hp} : ∀ (ds : List D) (xs : List V), pureDs ds → Reps K H O ds xs → Reps K H O' ds xs
  | [], _, _, h => h
  | d :: ds, xs, p, h => by
    obtain ⟨v, r, e, q, t⟩ := h
    exact ⟨v, r, e, Rep.pure d v p.1 q, Reps.pure ds r p.2 t⟩
end

mutual
noncomputable def RepN (K : PySem.W.Frag) (H : Hp) (P : Addr → Prop) : D → V → Prop
  | .non, v => v = .non
  | .bl b, v => v = .bl b
  | .int i, v => v = .int i
  | .str x, v => v = .str x
  | .ty n, v => v = .ty n
  | .cn c, v => CRep K c v
  | .tup ds, v => ∃ a xs, v = .ref a ∧ SqR K H a xs ∧ RepNs K H P ds xs
  | .lst ds, v => ∃ a xs, v = .ref a ∧ H a = some (.lst xs) ∧ P a ∧ RepNs K H P ds xs
  | .scr ns, v => ∃ a, v = .ref a ∧ Scr K H a ns
  | .exc C, v => ∃ a, v = .ref a ∧ H a = some (ExcO a C) ∧ P a
  | .fd m, v => ∃ a, v = .ref a ∧ H a = some (FeedO a m) ∧ P a
  | .dk ks ds, v => ∃ a xs, v = .ref a ∧ H a = some (.dK (ks.zip xs)) ∧ P a ∧ ks.length = ds.length ∧ ks.Nodup ∧ RepNs K H P ds xs
  | .dt ks ds, v => ∃ a xs, v = .ref a ∧ H a = some (.dT (ks.zip xs)) ∧ P a ∧ ks.length = ds.length ∧ ks.Nodup ∧ RepNs K H P ds xs
noncomputable def RepNs (K : PySem.W.Frag) (H : Hp) (P : Addr → Prop) : List D → List V → Prop
  | [], xs => xs = []
  | d :: ds, xs => ∃ v r, xs = v :: r ∧ RepN K H P d v ∧ RepNs K H P ds r
end
mutual
theorem RepN.to {K : PySem.W.Frag} {P P' : Addr → Prop} {H H' : Hp} (s : Same H H') (g : ∀ a, P a → P' a) : ∀ (d : D) (v : V), RepN K H P d v → RepN K H' P' d v
  | .non, _, h => h
  | .bl _, _, h => h
  | .int _, _, h => h
  | .str _, _, h => h
  | .ty _, _, h => h
  | .cn _, _, h => h
  | .tup ds, v, h => by
    obtain ⟨a, xs, e, q, r⟩ := h
    exact ⟨a, xs, e, sqR_grow (Grow.same (O := []) s) q, RepNs.to s g ds xs r⟩
  | .lst ds, v, h => by
    obtain ⟨a, xs, e, q, n, r⟩ := h
    exact ⟨a, xs, e, s _ _ q, g a n, RepNs.to s g ds xs r⟩
  | .scr ns, v, h => by
    obtain ⟨a, e, q⟩ := h
    exact ⟨a, e, scr_grow (Grow.same (O := []) s) q⟩
  | .exc C, v, h => by
    obtain ⟨a, e, q, n⟩ := h
    exact ⟨a, e, s _ _ q, g a n⟩
  | .fd m, v, h => by
    obtain ⟨a, e, q, n⟩ := h
    exact ⟨a, e, s _ _ q, g a n⟩
  | .dk ks ds, v, h => by
    obtain ⟨a, xs, e, q, n, l, nd, r⟩ := h
    exact ⟨a, xs, e, s _ _ q, g a n, l, nd, RepNs.to s g ds xs r⟩
  | .dt ks ds, v, h => by
    obtain ⟨a, xs, e, q, n, l, nd, r⟩ := h
    exact ⟨a, xs, e, s _ _ q, g a n, l, nd, RepNs.to s g ds xs r⟩
theorem RepNs.to {K : PySem.W.Frag} {P P' : Addr → Prop} {H H' : Hp} (s : Same H H') (g : ∀ a, P a → P' a) : ∀ (ds : List D) (xs : List V), RepNs K H P ds xs → RepNs K H' P' ds xs
  | [], _, h => h
  | d :: ds, xs, h => by
    obtain ⟨v, r, e, q, t⟩ := h
    exact ⟨v, r, e, RepN.to s g d v q, RepNs.to s g ds r t⟩
end
mutual
theorem RepN.rep {K : PySem.W.Frag} {P : Addr → Prop} {H : Hp} {O : List Addr} (g : ∀ a, P a → a ∉ O) : ∀ (d : D) (v : V), RepN K H P d v → Rep K H O d v
  | .non, _, h => h
  | .bl _, _, h => h
  | .int _, _, h => h
  | .str _, _, h => h
  | .ty _, _, h => h
  | .cn _, _, h => h
  | .tup ds, v, h => by
    obtain ⟨a, xs, e, q, r⟩ := h
    exact ⟨a, xs, e, q, RepNs.reps g ds xs r⟩
  | .lst ds, v, h => by
    obtain ⟨a, xs, e, q, n, r⟩ := h
    exact ⟨a, xs, e, q, g a n, RepNs.reps g ds xs r⟩
  | .scr _, _, h => h
  | .exc C, v, h => by
    obtain ⟨a, e, q, n⟩ := h
    exact ⟨a, e, q, g a n⟩
  | .fd m, v, h => by
    obtain ⟨a, e, q, n⟩ := h
    exact ⟨a, e, q, g a n⟩
  | .dk ks ds, v, h => by
    obtain ⟨a, xs, e, q, n, l, nd, r⟩ := h
    exact ⟨a, xs, e, q, g a n, l, nd, RepNs.reps g ds xs r⟩
  | .dt ks ds, v, h => by
    obtain ⟨a, xs, e, q, n, l, nd, r⟩ := h
    exact ⟨a, xs, e, q, g a n, l, nd, RepNs.reps g ds xs r⟩
theorem RepNs.reps {K : PySem.W.Frag} {P : Addr → Prop} {H : Hp} {O : List Addr} (g : ∀ a, P a → a ∉ O) : ∀ (ds : List D) (xs : List V), RepNs K H P ds xs → Reps K H O ds xs
  | [], _, h => h
  | d :: ds, xs, h => by
    obtain ⟨v, r, e, q, t⟩ := h
    exact ⟨v, r, e, RepN.rep g d v q, RepNs.reps g ds r t⟩
end
mutual
theorem Rep.toN {K : PySem.W.Frag} {P : Addr → Prop} {O : List Addr} {H : Hp} : ∀ (d : D) (v : V), pureD d → Rep K H O d v → RepN K H P d v
  | .non, _, _, h => h
  | .bl _, _, _, h => h
  | .int _, _, _, h => h
  | .str _, _, _, h => h
  | .ty _, _, _, h => h
  | .cn _, _, _, h => h
  | .tup ds, v, p, h => by
    obtain ⟨a, xs, e, q, r⟩ := h
    exact ⟨a, xs, e, q, Reps.toN ds xs p r⟩
  | .scr _, _, _, h => h
  | .exc _, _, p, _ => p.elim
  | .fd _, _, p, _ => p.elim
  | .lst ds, v, p, h => p.elim
  | .dk ks ds, v, p, h => p.elim
  | .dt ks ds, v, p, h => p.elim
theorem Reps.toN {K : PySem.W.Frag} {P : Addr → Prop} {O : List Addr} {H : Hp} : ∀ (ds : List D) (xs : List V), pureDs ds → Reps K H O ds xs → RepNs K H P ds xs
  | [], _, _, h => h
  | d :: ds, xs, p, h => by
    obtain ⟨v, r, e, q, t⟩ := h
    exact ⟨v, r, e, Rep.toN d v p.1 q, Reps.toN ds r p.2 t⟩
end
theorem RepNs.append {K : PySem.W.Frag} {P : Addr → Prop} {H : Hp} : ∀ {ds es : List D} {xs ys : List V}, RepNs K H P ds xs → RepNs K H P es ys → RepNs K H P (ds ++ es) (xs ++ ys)
  | [], es, xs, ys, h, h' => by cases h; exact h'
  | d :: ds, es, xs, ys, h, h' => by
    obtain ⟨v, r, rfl, q, t⟩ := h
    exact ⟨v, r ++ ys, rfl, q, RepNs.append t h'⟩
theorem RepNs.length {K : PySem.W.Frag} {P : Addr → Prop} {H : Hp} {ds : List D} {xs : List V} (h : RepNs K H P ds xs) : xs.length = ds.length := by
  induction ds generalizing xs with
  | nil => cases (show xs = [] from h); rfl
  | cons d ds ih =>
    obtain ⟨v, r, rfl, _, t⟩ := h
    simp [ih t]

section
variable {K : PySem.W.Frag} {H : Hp} {O : List Addr}
theorem Reps.length : ∀ {ds : List D} {xs : List V}, Reps K H O ds xs → xs.length = ds.length
  | [], _, h => by cases h; rfl
  | d :: ds, xs, h => by
    obtain ⟨v, r, e, _, t⟩ := h
    subst e
    simp [Reps.length t]
theorem Reps.get : ∀ {ds : List D} {xs : List V} {i : Nat} {d : D}, Reps K H O ds xs → ds[i]? = some d → ∃ v, xs[i]? = some v ∧ Rep K H O d v
  | [], _, _, _, _, e => by simp at e
  | d :: ds, xs, 0, d', h, e => by
    obtain ⟨v, r, rfl, q, _⟩ := h
    simp at e
    subst e
    exact ⟨v, rfl, q⟩
  | d :: ds, xs, i + 1, d', h, e => by
    obtain ⟨v, r, rfl, _, t⟩ := h
    obtain ⟨v', e', q'⟩ := Reps.get (i := i) t (by simpa using e)
    exact ⟨v', by simpa using e', q'⟩
theorem Reps.at : ∀ {ds : List D} {xs : List V} {i : Nat} {v : V}, Reps K H O ds xs → xs[i]? = some v → ∃ d, ds[i]? = some d ∧ Rep K H O d v := fun {ds xs i v} h e => by
  have hl := h.length
  have hi := (List.getElem?_eq_some_iff.mp e).1
  have hd : ds[i]? = some (ds[i]'(by omega)) := by simp [show i < ds.length by omega]
  obtain ⟨v', e', q⟩ := h.get hd
  rw [e] at e'
  cases e'
  exact ⟨_, hd, q⟩
theorem Reps.append : ∀ {ds es : List D} {xs ys : List V}, Reps K H O ds xs → Reps K H O es ys → Reps K H O (ds ++ es) (xs ++ ys)
  | [], es, xs, ys, h, h' => by cases h; exact h'
  | d :: ds, es, xs, ys, h, h' => by
    obtain ⟨v, r, rfl, q, t⟩ := h
    exact ⟨v, r ++ ys, rfl, q, Reps.append t h'⟩
theorem Reps.one {d : D} {v : V} (h : Rep K H O d v) : Reps K H O [d] [v] := ⟨v, [], rfl, h, rfl⟩
theorem Reps.take : ∀ {ds : List D} {xs : List V} (n : Nat), Reps K H O ds xs → Reps K H O (ds.take n) (xs.take n)
  | _, _, 0, _ => rfl
  | [], _, n + 1, h => by cases h; rfl
  | d :: ds, xs, n + 1, h => by
    obtain ⟨v, r, rfl, q, t⟩ := h
    exact ⟨v, r.take n, rfl, q, Reps.take n t⟩
theorem Reps.drop : ∀ {ds : List D} {xs : List V} (n : Nat), Reps K H O ds xs → Reps K H O (ds.drop n) (xs.drop n)
  | _, _, 0, h => h
  | [], _, n + 1, h => by cases h; rfl
  | d :: ds, xs, n + 1, h => by
    obtain ⟨v, r, rfl, q, t⟩ := h
    exact Reps.drop n t
theorem Reps.set : ∀ {ds : List D} {xs : List V} (n : Nat) {d : D} {v : V}, Rep K H O d v → Reps K H O ds xs → Reps K H O (ds.set n d) (xs.set n v)
  | [], _, _, _, _, _, h => by cases h; rfl
  | d :: ds, xs, 0, d', v', q', h => by
    obtain ⟨v, r, rfl, q, t⟩ := h
    exact ⟨v', r, rfl, q', t⟩
  | d :: ds, xs, n + 1, d', v', q', h => by
    obtain ⟨v, r, rfl, q, t⟩ := h
    exact ⟨v, r.set n v', rfl, q, Reps.set n q' t⟩
theorem Reps.ints : ∀ (ns : List Int), Reps K H O (ns.map D.int) (ns.map V.int)
  | [] => rfl
  | n :: ns => ⟨_, _, rfl, rfl, Reps.ints ns⟩
theorem Reps.dropLast {ds : List D} {xs : List V} (h : Reps K H O ds xs) : Reps K H O ds.dropLast xs.dropLast := by
  rw [List.dropLast_eq_take, List.dropLast_eq_take, h.length]
  exact h.take _
theorem Reps.rep {ds : List D} {xs : List V} (h : Reps K H O ds xs) : ∀ k : Nat, Reps K H O (List.replicate k ds).flatten (List.replicate k xs).flatten
  | 0 => rfl
  | k + 1 => by
    rw [List.replicate_succ, List.replicate_succ, List.flatten_cons, List.flatten_cons]
    exact h.append (Reps.rep h k)
end

/-- v as it is read: d, whatever its own place -/
noncomputable def View (K : PySem.W.Frag) (H : Hp) (O : List Addr) (d : D) (v : V) : Prop := match d with
  | .lst ds => ∃ a xs, v = .ref a ∧ H a = some (.lst xs) ∧ Reps K H O ds xs
  | .dk ks ds => ∃ a xs, v = .ref a ∧ H a = some (.dK (ks.zip xs)) ∧ ks.length = ds.length ∧ ks.Nodup ∧ Reps K H O ds xs
  | .dt ks ds => ∃ a xs, v = .ref a ∧ H a = some (.dT (ks.zip xs)) ∧ ks.length = ds.length ∧ ks.Nodup ∧ Reps K H O ds xs
  | d => Rep K H O d v
/-- a list or dict that is ours, at a -/
noncomputable def Con (K : PySem.W.Frag) (H : Hp) (O : List Addr) (d : D) (a : Addr) : Prop := match d with
  | .lst ds => ∃ xs, H a = some (.lst xs) ∧ Reps K H O ds xs
  | .dk ks ds => ∃ xs, H a = some (.dK (ks.zip xs)) ∧ ks.length = ds.length ∧ ks.Nodup ∧ Reps K H O ds xs
  | .dt ks ds => ∃ xs, H a = some (.dT (ks.zip xs)) ∧ ks.length = ds.length ∧ ks.Nodup ∧ Reps K H O ds xs
  | _ => False
theorem Rep.view {K : PySem.W.Frag} {H : Hp} {O : List Addr} {d : D} {v : V} (h : Rep K H O d v) : View K H O d v := by
  cases d with
  | lst ds => obtain ⟨a, xs, e, q, _, r⟩ := h; exact ⟨a, xs, e, q, r⟩
  | dk ks ds => obtain ⟨a, xs, e, q, _, r⟩ := h; exact ⟨a, xs, e, q, r⟩
  | dt ks ds => obtain ⟨a, xs, e, q, _, r⟩ := h; exact ⟨a, xs, e, q, r⟩
  | _ => exact h
theorem Con.view {K : PySem.W.Frag} {H : Hp} {O : List Addr} {d : D} {a : Addr} (h : Con K H O d a) : View K H O d (.ref a) := by
  cases d with
  | lst ds => obtain ⟨xs, q, r⟩ := h; exact ⟨a, xs, rfl, q, r⟩
  | dk ks ds => obtain ⟨xs, q, r⟩ := h; exact ⟨a, xs, rfl, q, r⟩
  | dt ks ds => obtain ⟨xs, q, r⟩ := h; exact ⟨a, xs, rfl, q, r⟩
  | _ => exact h.elim
theorem Con.rep {K : PySem.W.Frag} {H : Hp} {O : List Addr} {d : D} {a : Addr} (h : Con K H O d a) (n : a ∉ O) : Rep K H O d (.ref a) := by
  cases d with
  | lst ds => obtain ⟨xs, q, r⟩ := h; exact ⟨a, xs, rfl, q, n, r⟩
  | dk ks ds => obtain ⟨xs, q, r⟩ := h; exact ⟨a, xs, rfl, q, n, r⟩
  | dt ks ds => obtain ⟨xs, q, r⟩ := h; exact ⟨a, xs, rfl, q, n, r⟩
  | _ => exact h.elim
theorem Con.same {K : PySem.W.Frag} {H H' : Hp} {O : List Addr} {d : D} {a : Addr} (h : Con K H O d a) (s : Same H H') : Con K H' O d a := by
  cases d with
  | lst ds => obtain ⟨xs, q, r⟩ := h; exact ⟨xs, s _ _ q, Reps.grow (Grow.same s) _ _ r⟩
  | dk ks ds => obtain ⟨xs, q, l, n, r⟩ := h; exact ⟨xs, s _ _ q, l, n, Reps.grow (Grow.same s) _ _ r⟩
  | dt ks ds => obtain ⟨xs, q, l, n, r⟩ := h; exact ⟨xs, s _ _ q, l, n, Reps.grow (Grow.same s) _ _ r⟩
  | _ => exact h.elim
theorem Con.sub {K : PySem.W.Frag} {H : Hp} {O O' : List Addr} {d : D} {a : Addr} (h : Con K H O d a) (g : ∀ a ∈ O', a ∈ O) : Con K H O' d a := by
  cases d with
  | lst ds => obtain ⟨xs, q, r⟩ := h; exact ⟨xs, q, Reps.sub g _ _ r⟩
  | dk ks ds => obtain ⟨xs, q, l, n, r⟩ := h; exact ⟨xs, q, l, n, Reps.sub g _ _ r⟩
  | dt ks ds => obtain ⟨xs, q, l, n, r⟩ := h; exact ⟨xs, q, l, n, Reps.sub g _ _ r⟩
  | _ => exact h.elim
theorem View.sub {K : PySem.W.Frag} {H : Hp} {O O' : List Addr} {d : D} {v : V} (h : View K H O d v) (g : ∀ a ∈ O', a ∈ O) : View K H O' d v := by
  cases d with
  | lst ds => obtain ⟨a, xs, e, q, r⟩ := h; exact ⟨a, xs, e, q, Reps.sub g _ _ r⟩
  | dk ks ds => obtain ⟨a, xs, e, q, l, n, r⟩ := h; exact ⟨a, xs, e, q, l, n, Reps.sub g _ _ r⟩
  | dt ks ds => obtain ⟨a, xs, e, q, l, n, r⟩ := h; exact ⟨a, xs, e, q, l, n, Reps.sub g _ _ r⟩
  | _ => exact Rep.sub g _ _ h
theorem View.rep0 {K : PySem.W.Frag} {H : Hp} {O : List Addr} {d : D} {v : V} (h : View K H O d v) : Rep K H [] d v := by
  have h := h.sub (O' := []) (fun _ z => nomatch z)
  cases d with
  | lst ds => obtain ⟨a, xs, e, q, r⟩ := h; exact ⟨a, xs, e, q, by simp, r⟩
  | dk ks ds => obtain ⟨a, xs, e, q, l, n, r⟩ := h; exact ⟨a, xs, e, q, by simp, l, n, r⟩
  | dt ks ds => obtain ⟨a, xs, e, q, l, n, r⟩ := h; exact ⟨a, xs, e, q, by simp, l, n, r⟩
  | _ => exact h

/-- val: a thing that stays; own: the frame's own list or dict; fre: a new list or dict; new: a thing all whose lists and dicts are new -/
inductive Kd where | val | own | fre | new
  deriving DecidableEq
structure EV where
  k : Kd
  d : D
noncomputable abbrev DE := List (Option EV)
noncomputable abbrev dv (d : D) : EV := ⟨.val, d⟩
noncomputable abbrev df (d : D) : EV := ⟨.fre, d⟩
noncomputable abbrev dO (d : D) : EV := ⟨.own, d⟩
/-- H0: the heap at the expression's start -/
noncomputable def RV (K : PySem.W.Frag) (H0 H : Hp) (O : List Addr) (r : EV) (v : V) : Prop := match r.k with
  | .val => Rep K H O r.d v
  | .own => ∃ a, v = .ref a ∧ a ∈ O ∧ Con K H O r.d a
  | .fre => ∃ a, v = .ref a ∧ H0 a = none ∧ a ∉ O ∧ Con K H (a :: O) r.d a
  | .new => RepN K H (fun a => a ∉ O ∧ H0 a = none) r.d v
section
variable {K : PySem.W.Frag} {H0 H1 H H' : Hp} {O : List Addr} {r : EV} {v : V}
theorem RV.val {d : D} (h : Rep K H O d v) : RV K H0 H O (dv d) v := h
theorem RV.same (h : RV K H0 H O r v) (s : Same H H') : RV K H0 H' O r v := by
  obtain ⟨k, d⟩ := r
  cases k with
  | val => exact Rep.grow (Grow.same s) _ _ h
  | own => obtain ⟨a, e, m, c⟩ := h; exact ⟨a, e, m, c.same s⟩
  | fre => obtain ⟨a, e, m, n, c⟩ := h; exact ⟨a, e, m, n, c.same s⟩
  | new => exact RepN.to s (fun _ z => z) _ _ h
theorem RV.start (h : RV K H0 H O r v) (s : Same H1 H0) : RV K H1 H O r v := by
  obtain ⟨k, d⟩ := r
  cases k with
  | val => exact h
  | own => exact h
  | fre => obtain ⟨a, e, m, n, c⟩ := h; exact ⟨a, e, s.free m, n, c⟩
  | new => exact RepN.to (Same.refl H) (fun a z => ⟨z.1, s.free z.2⟩) _ _ h
theorem RV.view (h : RV K H0 H O r v) : View K H O r.d v := by
  obtain ⟨k, d⟩ := r
  cases k with
  | val => exact Rep.view h
  | own => obtain ⟨a, e, m, c⟩ := h; subst e; exact c.view
  | fre => obtain ⟨a, e, m, n, c⟩ := h; subst e; exact (c.sub fun b hb => List.mem_cons_of_mem _ hb).view
  | new => exact (RepN.rep (fun a z => z.1) _ _ h).view
theorem RV.solid (h : RV K H0 H O r v) (hk : r.k ≠ .own) : Rep K H O r.d v := by
  obtain ⟨k, d⟩ := r
  cases k with
  | val => exact h
  | own => exact absurd rfl hk
  | fre => obtain ⟨a, e, m, n, c⟩ := h; subst e; exact (c.sub fun b hb => List.mem_cons_of_mem _ hb).rep n
  | new => exact RepN.rep (fun a z => z.1) _ _ h
end

/-- the frame: own lists and dicts by slot and place -/
structure REnv (K : PySem.W.Frag) (H₀ H : Hp) (σ : St) (ρ : DE) (o : List (Nat × Addr)) : Prop where
  same : Same H₀ H
  fresh : ∀ p ∈ o, H₀ p.2 = none
  trk : ∀ p ∈ o, ∃ u, H p.2 = some u
  mtb : ∀ p ∈ o, (∀ xs, H p.2 ≠ some (.tup xs)) ∧ ∀ ob u, H p.2 ≠ some (.frz ob u)
  nda : (o.map Prod.snd).Nodup
  slots : ∀ i r, ρ[i]? = some (some r) → ∃ v, σ[i]? = some (some v) ∧ ((r.k = .val ∧ Rep K H (o.map Prod.snd) r.d v) ∨ (r.k = .own ∧ ∃ a, v = .ref a ∧ (i, a) ∈ o ∧ Con K H (o.map Prod.snd) r.d a))
  len : σ.length = ρ.length
section
variable {K : PySem.W.Frag} {H₀ H H' : Hp} {σ : St} {ρ : DE} {o : List (Nat × Addr)}
theorem REnv.to (R : REnv K H₀ H σ ρ o) (s : Same H H') : REnv K H₀ H' σ ρ o where
  same := R.same.trans s
  fresh := R.fresh
  trk := fun p hp => let ⟨u, e⟩ := R.trk p hp; ⟨u, s _ _ e⟩
  mtb := fun p hp => by
    obtain ⟨u, e⟩ := R.trk p hp
    obtain ⟨m1, m2⟩ := R.mtb p hp
    refine ⟨fun xs z => ?_, fun ob w z => ?_⟩
    · rw [s _ _ e] at z; rw [← e] at z; exact m1 xs z
    · rw [s _ _ e] at z; rw [← e] at z; exact m2 ob w z
  nda := R.nda
  slots := fun i r e => by
    obtain ⟨v, ev, h⟩ := R.slots i r e
    refine ⟨v, ev, ?_⟩
    rcases h with ⟨k, h⟩ | ⟨k, a, e1, m, c⟩
    · exact .inl ⟨k, Rep.grow (Grow.same s) _ _ h⟩
    · exact .inr ⟨k, a, e1, m, c.same s⟩
  len := R.len
theorem REnv.ofree (R : REnv K H₀ H σ ρ o) {a : Addr} (h : H a = none) : a ∉ o.map Prod.snd := fun z => by
  obtain ⟨p, hp, e⟩ := List.mem_map.mp z
  obtain ⟨u, q⟩ := R.trk p hp
  rw [e, h] at q
  cases q
end

noncomputable abbrev TD := DE → (EV → Prop) → Prop
noncomputable abbrev TDb := DE → (Bool → Prop) → Prop
noncomputable abbrev TDs := DE → (List EV → Prop) → Prop
structure DZ where
  nx : DE → Prop
  rt : EV → Prop
  bk : DE → Prop := fun _ => False
  ct : DE → Prop := fun _ => False
noncomputable abbrev TDS := DE → DZ → Prop
noncomputable def RVs (K : PySem.W.Frag) (H0 H : Hp) (O : List Addr) : List EV → List V → Prop
  | [], vs => vs = []
  | r :: rs, vs => ∃ v ws, vs = v :: ws ∧ RV K H0 H O r v ∧ RVs K H0 H O rs ws
theorem RVs.same {K : PySem.W.Frag} {H0 H H' : Hp} {O : List Addr} (s : Same H H') : ∀ {rs : List EV} {vs : List V}, RVs K H0 H O rs vs → RVs K H0 H' O rs vs
  | [], _, h => h
  | r :: rs, vs, h => by
    obtain ⟨v, ws, e, q, t⟩ := h
    exact ⟨v, ws, e, q.same s, t.same s⟩
theorem RVs.start {K : PySem.W.Frag} {H0 H1 H : Hp} {O : List Addr} (s : Same H1 H0) : ∀ {rs : List EV} {vs : List V}, RVs K H0 H O rs vs → RVs K H1 H O rs vs
  | [], _, h => h
  | r :: rs, vs, h => by
    obtain ⟨v, ws, e, q, t⟩ := h
    exact ⟨v, ws, e, q.start s, t.start s⟩
theorem RVs.reps {K : PySem.W.Frag} {H0 H : Hp} {O : List Addr} : ∀ {rs : List EV} {vs : List V}, RVs K H0 H O rs vs → (∀ r ∈ rs, r.k ≠ .own) → Reps K H O (rs.map EV.d) vs
  | [], _, h, _ => h
  | r :: rs, vs, h, n => by
    obtain ⟨v, ws, e, q, t⟩ := h
    exact ⟨v, ws, e, q.solid (n r (List.mem_cons_self ..)), t.reps fun r' h' => n r' (List.mem_cons_of_mem _ h')⟩
theorem RVs.reps0 {K : PySem.W.Frag} {H0 H : Hp} {O : List Addr} : ∀ {rs : List EV} {vs : List V}, RVs K H0 H O rs vs → Reps K H [] (rs.map EV.d) vs
  | [], _, h => h
  | r :: rs, vs, h => by
    obtain ⟨v, ws, e, q, t⟩ := h
    exact ⟨v, ws, e, q.view.rep0, t.reps0⟩

noncomputable def liftE (K : PySem.W.Frag) (H₀ : Hp) (t : TD) : TE := fun σ H Q => ∃ ρ o, REnv K H₀ H σ ρ o ∧ ∃ φ, t ρ φ ∧ ∀ v r H', Same H H' → RV K H H' (o.map Prod.snd) r v → φ r → Q v H'
noncomputable def liftT (K : PySem.W.Frag) (H₀ : Hp) (t : TDb) : TT := fun σ H Q => ∃ ρ o, REnv K H₀ H σ ρ o ∧ ∃ φ, t ρ φ ∧ ∀ b H', Same H H' → φ b → Q b H'
noncomputable def liftA (K : PySem.W.Frag) (H₀ : Hp) (t : TDs) : TA := fun σ H Q => ∃ ρ o, REnv K H₀ H σ ρ o ∧ ∃ φ, t ρ φ ∧ ∀ vs rs H', Same H H' → RVs K H H' (o.map Prod.snd) rs vs → φ rs → Q vs H'
noncomputable def liftS (K : PySem.W.Frag) (H₀ : Hp) (t : TDS) : TS := fun D σ H => ∃ ρ o, REnv K H₀ H σ ρ o ∧ ∃ Z, t ρ Z ∧
  (∀ ρ' σ' H' o', Grow (o.map Prod.snd) (o'.map Prod.snd) H H' → REnv K H₀ H' σ' ρ' o' → Z.nx ρ' → D.nx σ' H') ∧
  (∀ ρ' σ' H' o', Grow (o.map Prod.snd) (o'.map Prod.snd) H H' → REnv K H₀ H' σ' ρ' o' → Z.bk ρ' → D.bk σ' H') ∧
  (∀ ρ' σ' H' o', Grow (o.map Prod.snd) (o'.map Prod.snd) H H' → REnv K H₀ H' σ' ρ' o' → Z.ct ρ' → D.ct σ' H') ∧
  (∀ v r H', Same H₀ H' → RV K H₀ H' [] r v → Z.rt r → D.rt v H')
noncomputable def ED (G : Hp → Prop) (X : Cx) (e : Expr) (t : TD) : Prop := ∀ H₀ : {H : Hp // G H}, PE X e (liftE X.K H₀.1 t)
noncomputable def ET (G : Hp → Prop) (X : Cx) (e : Expr) (t : TDb) : Prop := ∀ H₀ : {H : Hp // G H}, PT X e (liftT X.K H₀.1 t)
noncomputable def EW (G : Hp → Prop) (X : Cx) (e : Expr) (t : TDb) : Prop := ∀ H₀ : {H : Hp // G H}, PW X e (liftT X.K H₀.1 t)
noncomputable def EA (G : Hp → Prop) (X : Cx) (es : List Expr) (t : TDs) : Prop := ∀ H₀ : {H : Hp // G H}, PA X es (liftA X.K H₀.1 t)
noncomputable def SD (G : Hp → Prop) (X : Cx) (st : Stmt) (t : TDS) : Prop := ∀ H₀ : {H : Hp // G H}, PS X st (liftS X.K H₀.1 t)
noncomputable def SDs (G : Hp → Prop) (X : Cx) (st : List Stmt) (t : TDS) : Prop := ∀ H₀ : {H : Hp // G H}, PSs X st (liftS X.K H₀.1 t)
theorem impE {X : Cx} {e : Expr} {t t' : TE} (h : PE X e t) (i : ∀ σ H Q, t' σ H Q → t σ H Q) : PE X e t' := fun pins s σ H Q I q => h pins s σ H Q I (i σ H Q q)
theorem impT {X : Cx} {e : Expr} {t t' : TT} (h : PT X e t) (i : ∀ σ H Q, t' σ H Q → t σ H Q) : PT X e t' := fun pins s σ H Q I q => h pins s σ H Q I (i σ H Q q)
theorem impW {X : Cx} {e : Expr} {t t' : TT} (h : PW X e t) (i : ∀ σ H Q, t' σ H Q → t σ H Q) : PW X e t' := fun wh pins s σ H Q I q => h wh pins s σ H Q I (i σ H Q q)
theorem impA {X : Cx} {es : List Expr} {t t' : TA} (h : PA X es t) (i : ∀ σ H Q, t' σ H Q → t σ H Q) : PA X es t' := fun pos pins s σ H Q I q => h pos pins s σ H Q I (i σ H Q q)
theorem impS {X : Cx} {st : Stmt} {t t' : TS} (h : PS X st t) (i : ∀ D σ H, t' D σ H → t D σ H) : PS X st t' := fun pins s σ H D I q => h pins s σ H D I (i D σ H q)
theorem impSs {X : Cx} {st : List Stmt} {t t' : TS} (h : PSs X st t) (i : ∀ D σ H, t' D σ H → t D σ H) : PSs X st t' := fun pins s σ H D I q => h pins s σ H D I (i D σ H q)
end DL

set_option Elab.async false
set_option linter.all false
set_option maxRecDepth 100000
set_option maxHeartbeats 4000000
namespace DL
open PySem PySem.Spec L2 L3
open PyProof.Rows hiding St
variable {Γ : Hp → Prop}

noncomputable def slot : DE → Nat → Option EV
  | [], _ => none
  | x :: _, 0 => x
  | _ :: r, i + 1 => slot r i
theorem slot_eq : ∀ {ρ : DE} {i : Nat} {r : EV}, slot ρ i = some r → ρ[i]? = some (some r)
  | [], _, _, h => by cases h
  | x :: _, 0, _, h => by cases h; rfl
  | _ :: l, i + 1, r, h => by rw [List.getElem?_cons_succ]; exact slot_eq (ρ := l) h
noncomputable def dName (i : Nat) : TD := fun ρ φ => match slot ρ i with
  | some r => φ r
  | none => False
noncomputable def dC (d : D) : TD := fun _ φ => φ (dv d)
section
variable {X : Cx} {a b c e : Expr} {ta tb tc te : TD} {pos : Pos}
theorem ed_name (i : Nat) {x : Str} (hN : X.N[i]? = some x := by rfl) (hv : Vis X.env.scope x := by first | exact Or.inl rfl | exact Or.inr (Or.inl rfl) | exact Or.inr (Or.inr rfl)) (hd : (x == ("__debug__" : Str)) = false := by decide)
    (hcd : (x == ("__classdict__" : Str)) = false := by decide) : ED Γ X (.Name x pos) (dName i) := fun H₀ => impE (pe_var hN hv hd hcd) fun σ H Q h => by
  obtain ⟨ρ, o, R, φ, hφ, k⟩ := h
  cases e : slot ρ i with
  | none =>
    simp only [dName, e] at hφ
  | some r =>
    simp only [dName, e] at hφ
    obtain ⟨v, ev, h⟩ := R.slots i r (slot_eq e)
    refine ⟨v, ev, k v r H (Same.refl H) ?_ hφ⟩
    obtain ⟨kd, d⟩ := r
    rcases h with ⟨rfl, h⟩ | ⟨rfl, a, e1, m, c⟩
    · exact h
    · exact ⟨a, e1, List.mem_map.mpr ⟨_, m, rfl⟩, c⟩
theorem ed_c {x : Expr} {v : V} {d : D} (h : PE X x (tC v)) (hr : ∀ H O, Rep X.K H O d v) : ED Γ X x (dC d) := fun H₀ => impE h fun σ H Q h => by
  obtain ⟨ρ, o, R, φ, hφ, k⟩ := h
  exact k v (dv d) H (Same.refl H) (hr H _) hφ
theorem ed_int {i : Int} {j pos} : ED Γ X (.Constant (.int i) j pos) (dC (.int i)) := ed_c pe_int fun _ _ => rfl
theorem ed_bl {b : Bool} {j pos} : ED Γ X (.Constant (.bool b) j pos) (dC (.bl b)) := ed_c pe_bl fun _ _ => rfl
theorem ed_str {x : Str} {j pos} : ED Γ X (.Constant (.str x) j pos) (dC (.str x)) := ed_c pe_str fun _ _ => rfl
theorem ed_ty {x : Str} {n : String} (hm : X.mg x = none) (hv : bootBuiltins x = some (.type n)) (hg : Gl X x := by rfl) (hn : x ≠ "__name__" := by decide) (hd : (x == ("__debug__" : Str)) = false := by decide) : ED Γ X (.Name x pos) (dC (.ty n)) :=
  ed_c (pe_bltn hg hm hv (v := .ty n) rfl hn hd) fun _ _ => rfl

noncomputable def Link2 (K : PySem.W.Frag) (rr : R2) (s : D → D → (EV → Prop) → Prop) : Prop :=
  ∀ (H : Hp) (O : List Addr) (x y : D) (vx vy : V) (φ : EV → Prop) (Q : VK), (∀ a, H a = none → a ∉ O) → View K H O x vx → View K H O y vy → s x y φ →
    (∀ v r H', Same H H' → RV K H H' O r v → φ r → Q v H') → rr vx vy H Q
noncomputable def d2 (s : D → D → (EV → Prop) → Prop) (ta tb : TD) : TD := fun ρ φ => ta ρ fun x => tb ρ fun y => s x.d y.d φ
theorem lift2 {rr : R2} {s : D → D → (EV → Prop) → Prop} {H₀ : Hp} (hl : Link2 X.K rr s) : ∀ σ H Q, liftE X.K H₀ (d2 s ta tb) σ H Q → tOp rr (liftE X.K H₀ ta) (liftE X.K H₀ tb) σ H Q := fun σ H Q h => by
  obtain ⟨ρ, o, R, φ, hφ, k⟩ := h
  refine ⟨ρ, o, R, _, hφ, fun v1 r1 H1 s1 rv1 h1 => ⟨ρ, o, R.to s1, _, h1, fun v2 r2 H2 s2 rv2 h2 => ?_⟩⟩
  exact hl H2 _ r1.d r2.d v1 v2 φ Q (fun a e => R.ofree ((s1.trans s2).free e)) (rv1.same s2).view rv2.view h2 fun v r H' s3 rv h => k v r H' (s1.trans (s2.trans s3)) (rv.start (s1.trans s2)) h
theorem ed_bin {op : Operator} {rr : R2} {s : D → D → (EV → Prop) → Prop} (ho : OpR X (binaryOp op) rr) (hl : Link2 X.K rr s) (ha : ED Γ X a ta) (hb : ED Γ X b tb) : ED Γ X (.BinOp a op b pos) (d2 s ta tb) := fun H₀ =>
  impE (pe_op ho (ha H₀) (hb H₀)) (lift2 hl)
theorem ed_cmp {op : CmpOp} {rr : R2} {s : D → D → (EV → Prop) → Prop} (ho : OpR X (compareOp op) rr) (hl : Link2 X.K rr s) (ha : ED Γ X a ta) (hb : ED Γ X b tb) (hm : behindInMarks op b = false) : ED Γ X (.Compare a [op] [b] pos) (d2 s ta tb) := fun H₀ =>
  impE (pe_cmpR ho (ha H₀) (hb H₀) hm) (lift2 hl)

theorem op_mulG : OpR X (binaryOp .Mult) (rI IntMulOk fun i j => .int (i * j)) := opI fun _ _ _ _ _ _ _ hc q => PyProof.Rows.mul_int q hc
noncomputable def FdOk (i j : Int) : Prop := j ≠ 0 ∧ j.natAbs.log2 < 9000
theorem op_fdivG : OpR X (binaryOp .FloorDiv) (rI FdOk fun i j => .int (i.fdiv j)) := opI fun _ _ _ _ _ _ _ hc q => floordiv_int hc.1 q (.inl (PyProof.noPylong_of_log2 hc.2))
noncomputable def sI (C : Int → Int → Prop) (g : Int → Int → D) : D → D → (EV → Prop) → Prop := fun x y φ => match x, y with
  | .int i, .int j => C i j ∧ φ (dv (g i j))
  | _, _ => False
theorem link_I {K : PySem.W.Frag} {C : Int → Int → Prop} {g : Int → Int → D} {gv : Int → Int → V} (hg : ∀ i j H O, Rep K H O (g i j) (gv i j)) : Link2 K (rI C gv) (sI C g) := by
  intro H O x y vx vy φ Q ho hx hy h k
  unfold sI at h
  split at h
  · exact ⟨_, _, hx, hy, h.1, k _ _ H (Same.refl H) (by exact hg _ _ H O) h.2⟩
  · exact h.elim
noncomputable def sI0 (g : Int → Int → D) : D → D → (EV → Prop) → Prop := fun x y φ => match x, y with
  | .int i, .int j => φ (dv (g i j))
  | _, _ => False
theorem link_I0 {K : PySem.W.Frag} {g : Int → Int → D} {gv : Int → Int → V} (hg : ∀ i j H O, Rep K H O (g i j) (gv i j)) : Link2 K (rI0 gv) (sI0 g) := by
  intro H O x y vx vy φ Q ho hx hy h k
  unfold sI0 at h
  split at h
  · exact ⟨_, _, hx, hy, k _ _ H (Same.refl H) (by exact hg _ _ H O) h⟩
  · exact h.elim
noncomputable abbrev sSub := sI0 fun i j => .int (i - j)
noncomputable abbrev sFd := sI FdOk fun i j => .int (i.fdiv j)
noncomputable abbrev sMod := sI (fun _ j => j ≠ 0) fun i j => .int (i.fmod j)
noncomputable abbrev sPow := sI CPow fun i j => .int (i ^ j.toNat)
noncomputable abbrev sLt := sI0 fun i j => .bl (decide (i < j))
noncomputable abbrev sLe := sI0 fun i j => .bl (decide (i ≤ j))
noncomputable abbrev sGt := sI0 fun i j => .bl (decide (j < i))
noncomputable abbrev sGe := sI0 fun i j => .bl (decide (j ≤ i))
theorem ed_sub (ha : ED Γ X a ta) (hb : ED Γ X b tb) : ED Γ X (.BinOp a .Sub b pos) (d2 sSub ta tb) := ed_bin op_sub (link_I0 fun _ _ _ _ => rfl) ha hb
theorem ed_fd (ha : ED Γ X a ta) (hb : ED Γ X b tb) : ED Γ X (.BinOp a .FloorDiv b pos) (d2 sFd ta tb) := ed_bin op_fdivG (link_I fun _ _ _ _ => rfl) ha hb
theorem ed_mod (ha : ED Γ X a ta) (hb : ED Γ X b tb) : ED Γ X (.BinOp a .Mod b pos) (d2 sMod ta tb) := ed_bin op_modN (link_I fun _ _ _ _ => rfl) ha hb
theorem ed_pow (ha : ED Γ X a ta) (hb : ED Γ X b tb) : ED Γ X (.BinOp a .Pow b pos) (d2 sPow ta tb) := ed_bin op_pow (link_I fun _ _ _ _ => rfl) ha hb
theorem ed_gt (ha : ED Γ X a ta) (hb : ED Γ X b tb) : ED Γ X (.Compare a [.Gt] [b] pos) (d2 sGt ta tb) := ed_cmp op_gt (link_I0 fun _ _ _ _ => rfl) ha hb (nomark _)
noncomputable def sAdd : D → D → (EV → Prop) → Prop := fun x y φ => match x, y with
  | .int i, .int j => φ (dv (.int (i + j)))
  | .str p, .str q => p.length + q.length ≤ sizeLine ∧ φ (dv (.str (p ++ q)))
  | .lst p, .lst q => p.length + q.length ≤ sizeLine ∧ φ (df (.lst (p ++ q)))
  | .tup p, .tup q => p ≠ [] ∧ q ≠ [] ∧ p.length + q.length ≤ sizeLine ∧ φ (dv (.tup (p ++ q)))
  | _, _ => False
theorem same_new {H : Hp} {p : Addr} (h : H p = none) (o : HO) : Same H (upd H p o) := fun b u q => by rw [upd_ne (ne_of_none q h)]; exact q
theorem reps_new {K : PySem.W.Frag} {H : Hp} {O : List Addr} {p : Addr} {o : HO} {ds : List D} {xs : List V} (hp : H p = none) (r : Reps K H O ds xs) : Reps K (upd H p o) O ds xs := Reps.grow (Grow.same (same_new hp o)) _ _ r
theorem grow_new {H : Hp} {O : List Addr} {p : Addr} {o : HO} (hp : H p = none) : Grow O (p :: O) H (upd H p o) :=
  ⟨fun b u h n => ⟨same_new hp o b u h, fun z => (List.mem_cons.mp z).elim (fun e => ne_of_none h hp e) n⟩, fun b xs h => same_new hp o b _ h, fun b ob u h => same_new hp o b _ h⟩
theorem rv_lst {K : PySem.W.Frag} {H : Hp} {O : List Addr} {p : Addr} {ds : List D} {xs : List V} (ho : ∀ a, H a = none → a ∉ O) (hp : H p = none) (r : Reps K H O ds xs) : RV K H (upd H p (.lst xs)) O (df (.lst ds)) (.ref p) :=
  ⟨p, rfl, hp, ho p hp, xs, upd_same, Reps.grow (grow_new hp) _ _ r⟩
theorem rv_tup {K : PySem.W.Frag} {H : Hp} {O : List Addr} {p : Addr} {ds : List D} {xs : List V} (hp : H p = none) (r : Reps K H O ds xs) : RV K H (upd H p (.tup xs)) O (dv (.tup ds)) (.ref p) :=
  ⟨p, xs, rfl, ⟨SqT.of upd_same, upd_same⟩, reps_new hp r⟩
theorem link_add : Link2 X.K (fun x y H Q => rI0 (fun i j => .int (i + j)) x y H Q ∨ (∃ i j, x = .str i ∧ y = .str j ∧ i.length + j.length ≤ sizeLine ∧ Q (.str (i ++ j)) H) ∨ rCat x y H Q ∨ rCatT X.K x y H Q) sAdd := by
  intro H O x y vx vy φ Q ho hx hy h k
  unfold sAdd at h
  split at h
  · exact .inl ⟨_, _, hx, hy, k _ _ H (Same.refl H) (by exact rfl) h⟩
  · exact .inr (.inl ⟨_, _, hx, hy, h.1, k _ _ H (Same.refl H) (by exact rfl) h.2⟩)
  · obtain ⟨a1, xs, rfl, q1, r1⟩ := hx
    obtain ⟨a2, ys, rfl, q2, r2⟩ := hy
    refine .inr (.inr (.inl ⟨a1, a2, xs, ys, rfl, rfl, q1, q2, by rw [r1.length, r2.length]; exact h.1, fun p hp => ?_⟩))
    exact k _ _ _ (same_new hp _) (rv_lst ho hp (r1.append r2)) h.2
  · obtain ⟨n1, n2, hz, hp⟩ := h
    obtain ⟨a1, xs, rfl, q1, r1⟩ := hx
    obtain ⟨a2, ys, rfl, q2, r2⟩ := hy
    refine .inr (.inr (.inr ⟨a1, a2, xs, ys, rfl, rfl, q1.1, q2.1, ?_, by rw [r1.length, r2.length]; exact hz, fun z => ?_, fun _ p hpn => ?_⟩))
    · intro z
      have e := r1.length
      rw [z] at e
      exact n1 (List.eq_nil_of_length_eq_zero e.symm)
    · exfalso
      have e := r2.length
      rw [z] at e
      exact n2 (List.eq_nil_of_length_eq_zero e.symm)
    · exact k _ _ _ (same_new hpn _) (rv_tup hpn (r1.append r2)) hp
  · exact h.elim
theorem ed_add (ha : ED Γ X a ta) (hb : ED Γ X b tb) : ED Γ X (.BinOp a .Add b pos) (d2 sAdd ta tb) := ed_bin (op_add.or (op_add_str.or (op_cat.or op_catT))) link_add ha hb
noncomputable def sMul : D → D → (EV → Prop) → Prop := fun x y φ => match x, y with
  | .int i, .int j => IntMulOk i j ∧ φ (dv (.int (i * j)))
  | .lst p, .int k => -(2 ^ 63) ≤ k ∧ k < 2 ^ 63 ∧ p.length * k.toNat ≤ sizeLine ∧ φ (df (.lst (List.replicate k.toNat p).flatten))
  | _, _ => False
end
end DL

set_option Elab.async false
set_option linter.all false
set_option maxRecDepth 100000
set_option maxHeartbeats 4000000
namespace DL
open PySem PySem.Spec L2 L3
open PyProof.Rows hiding St
variable {Γ : Hp → Prop}

mutual
noncomputable def eqD : D → D → Bool
  | .non, .non => true
  | .bl a, .bl b => a == b
  | .bl a, .int b => (if a then 1 else 0) == b
  | .int a, .bl b => a == (if b then 1 else 0)
  | .int a, .int b => a == b
  | .str a, .str b => a == b
  | .tup a, .tup b => eqDs a b
  | .lst a, .lst b => eqDs a b
  | _, _ => false
noncomputable def eqDs : List D → List D → Bool
  | [], [] => true
  | a :: as, b :: bs => eqD a b && eqDs as bs
  | _, _ => false
end
noncomputable def okD : Nat → D → Prop
  | 0, d => match d with
    | .non => True
    | .bl _ => True
    | .int _ => True
    | .str _ => True
    | _ => False
  | n + 1, d => match d with
    | .non => True
    | .bl _ => True
    | .int _ => True
    | .str _ => True
    | .tup ds => ∀ x ∈ ds, okD n x
    | .lst ds => ∀ x ∈ ds, okD n x
    | _ => False
theorem eqDs_true : ∀ {ds es : List D}, eqDs ds es = true ↔ ds.length = es.length ∧ ∀ (j : Nat) (x y : D), ds[j]? = some x → es[j]? = some y → eqD x y = true
  | [], [] => by simp [eqDs]
  | [], y :: es => by simp [eqDs]
  | x :: ds, [] => by simp [eqDs]
  | x :: ds, y :: es => by
    rw [eqDs, Bool.and_eq_true, eqDs_true]
    constructor
    · rintro ⟨h, hl, q⟩
      refine ⟨by simp [hl], fun j a b ha hb => ?_⟩
      cases j with
      | zero => simp at ha hb; subst ha hb; exact h
      | succ j => exact q j a b (by simpa using ha) (by simpa using hb)
    · rintro ⟨hl, q⟩
      exact ⟨q 0 x y rfl rfl, by simpa using hl, fun j a b ha hb => q (j + 1) a b (by simpa using ha) (by simpa using hb)⟩
theorem eqDs_range (ds es : List D) : eqDs ds es = ((List.range (min ds.length es.length)).all (fun j => eqD (ds.getD j .non) (es.getD j .non)) && ds.length == es.length) := by
  rw [Bool.eq_iff_iff, eqDs_true, Bool.and_eq_true, List.all_eq_true]
  constructor
  · rintro ⟨hl, q⟩
    refine ⟨fun j hj => ?_, by simp [hl]⟩
    have hj' := List.mem_range.mp hj
    have h1 : j < ds.length := by omega
    have h2 : j < es.length := by omega
    have e1 : ds[j]? = some ds[j] := by simp [h1]
    have e2 : es[j]? = some es[j] := by simp [h2]
    have := q j _ _ e1 e2
    simpa [List.getD, e1, e2] using this
  · rintro ⟨q, hl⟩
    have hl' : ds.length = es.length := by simpa using hl
    refine ⟨hl', fun j x y hx hy => ?_⟩
    have h1 := (List.getElem?_eq_some_iff.mp hx).1
    have := q j (List.mem_range.mpr (by omega))
    simpa [List.getD, hx, hy] using this
theorem eqD_refl : ∀ (n : Nat) (d : D), okD n d → eqD d d = true := by
  intro n
  induction n with
  | zero => intro d h; cases d <;> first | exact h.elim | simp [eqD]
  | succ n ih =>
    intro d h
    cases d with
    | tup ds =>
      show eqDs ds ds = true
      refine eqDs_true.mpr ⟨rfl, fun j x y hx hy => ?_⟩
      rw [hx] at hy
      cases hy
      exact ih x (h x (List.mem_of_getElem? hx))
    | lst ds =>
      show eqDs ds ds = true
      refine eqDs_true.mpr ⟨rfl, fun j x y hx hy => ?_⟩
      rw [hx] at hy
      cases hy
      exact ih x (h x (List.mem_of_getElem? hx))
    | dk _ _ => exact h.elim
    | dt _ _ => exact h.elim
    | ty _ => exact h.elim
    | cn _ => exact h.elim
    | scr _ => exact h.elim
    | exc _ => exact h.elim
    | fd _ => exact h.elim
    | _ => simp [eqD]

section
variable {X : Cx} {pins : List (Addr × Obj)} {σ : St} {H : Hp} {s : Shared}
/-- one value at one place is one thing -/
theorem Rep.inj (I : Inv X pins σ H s) : ∀ (n : Nat) (d e : D) (v : V), okD n d → okD n e → Rep X.K H [] d v → Rep X.K H [] e v → d = e := by
  intro n
  induction n with
  | zero =>
    intro d e v hd he h1 h2
    cases d <;> first | exact hd.elim | (cases e <;> first | exact he.elim | (have z := (show v = _ from h1).symm.trans (show v = _ from h2); first | rfl | (injection z with z; rw [z]) | cases z))
  | succ n ih =>
    have lists : ∀ (ds es : List D) (xs : List V), (∀ x ∈ ds, okD n x) → (∀ x ∈ es, okD n x) → Reps X.K H [] ds xs → Reps X.K H [] es xs → ds = es := by
      intro ds
      induction ds with
      | nil =>
        intro es xs _ _ r1 r2
        have := r1.length
        have h2 := r2.length
        rw [this] at h2
        exact (List.eq_nil_of_length_eq_zero h2.symm).symm
      | cons d ds ih2 =>
        intro es xs h1 h2 r1 r2
        obtain ⟨v, r, rfl, q, t⟩ := r1
        cases es with
        | nil => cases r2
        | cons e es =>
          obtain ⟨v', r', e1, q', t'⟩ := r2
          cases e1
          rw [ih d e v (h1 d (List.mem_cons_self ..)) (h2 e (List.mem_cons_self ..)) q q', ih2 es r (fun x hx => h1 x (List.mem_cons_of_mem _ hx)) (fun x hx => h2 x (List.mem_cons_of_mem _ hx)) t t']
    intro d e v hd he h1 h2
    have noTL : ∀ (a : Addr) (xs ys : List V), SqT X.K H a xs → H a = some (.lst ys) → False := fun a xs ys q1 q2 => by
      obtain ⟨its, _, p1, _⟩ := I.tuple q1
      obtain ⟨its2, _, p2, _⟩ := I.list (SqL.of q2)
      exact SeqAt.ne_of_list_tuple p2.isList (show s.heap.IsTuple a its.toArray from p1) rfl
    cases d with
    | tup ds =>
      obtain ⟨a, xs, rfl, q1, r1⟩ := h1
      cases e with
      | tup es =>
        obtain ⟨a', ys, e1, q2, r2⟩ := h2
        cases e1
        have := I.tuple_inj q1.1 q2.1
        subst this
        rw [lists ds es xs hd he r1 r2]
      | lst es =>
        obtain ⟨a', ys, e1, q2, _, r2⟩ := h2
        cases e1
        exact (noTL _ _ _ q1.1 q2).elim
      | dk _ _ => exact he.elim
      | dt _ _ => exact he.elim
      | scr _ => exact he.elim
      | exc _ => exact he.elim
      | fd _ => exact he.elim
      | ty _ => exact he.elim
      | cn _ => exact he.elim
      | _ => cases (show V.ref a = _ from h2)
    | lst ds =>
      obtain ⟨a, xs, rfl, q1, _, r1⟩ := h1
      cases e with
      | tup es =>
        obtain ⟨a', ys, e1, q2, r2⟩ := h2
        cases e1
        exact (noTL _ _ _ q2.1 q1).elim
      | lst es =>
        obtain ⟨a', ys, e1, q2, _, r2⟩ := h2
        cases e1
        have := I.list_inj (SqL.of q1) (SqL.of q2)
        subst this
        rw [lists ds es xs hd he r1 r2]
      | dk _ _ => exact he.elim
      | dt _ _ => exact he.elim
      | scr _ => exact he.elim
      | exc _ => exact he.elim
      | fd _ => exact he.elim
      | ty _ => exact he.elim
      | cn _ => exact he.elim
      | _ => cases (show V.ref a = _ from h2)
    | dk _ _ => exact hd.elim
    | dt _ _ => exact hd.elim
    | scr _ => exact hd.elim
    | exc _ => exact hd.elim
    | fd _ => exact hd.elim
    | ty _ => exact hd.elim
    | cn _ => exact hd.elim
    | non =>
      cases e with
      | tup es => obtain ⟨a', ys, e1, _⟩ := h2; cases (show v = _ from h1); cases e1
      | lst es => obtain ⟨a', ys, e1, _⟩ := h2; cases (show v = _ from h1); cases e1
      | dk _ _ => exact he.elim
      | dt _ _ => exact he.elim
      | scr _ => exact he.elim
      | exc _ => exact he.elim
      | fd _ => exact he.elim
      | ty _ => exact he.elim
      | cn _ => exact he.elim
      | non => rfl
      | _ => cases (show v = _ from h1); cases (show V.non = _ from h2)
    | bl b =>
      cases e with
      | tup es => obtain ⟨a', ys, e1, _⟩ := h2; cases (show v = _ from h1); cases e1
      | lst es => obtain ⟨a', ys, e1, _⟩ := h2; cases (show v = _ from h1); cases e1
      | dk _ _ => exact he.elim
      | dt _ _ => exact he.elim
      | scr _ => exact he.elim
      | exc _ => exact he.elim
      | fd _ => exact he.elim
      | ty _ => exact he.elim
      | cn _ => exact he.elim
      | _ => cases (show v = _ from h1); cases (show V.bl b = _ from h2) <;> rfl
    | int b =>
      cases e with
      | tup es => obtain ⟨a', ys, e1, _⟩ := h2; cases (show v = _ from h1); cases e1
      | lst es => obtain ⟨a', ys, e1, _⟩ := h2; cases (show v = _ from h1); cases e1
      | dk _ _ => exact he.elim
      | dt _ _ => exact he.elim
      | scr _ => exact he.elim
      | exc _ => exact he.elim
      | fd _ => exact he.elim
      | ty _ => exact he.elim
      | cn _ => exact he.elim
      | _ => cases (show v = _ from h1); cases (show V.int b = _ from h2) <;> rfl
    | str b =>
      cases e with
      | tup es => obtain ⟨a', ys, e1, _⟩ := h2; cases (show v = _ from h1); cases e1
      | lst es => obtain ⟨a', ys, e1, _⟩ := h2; cases (show v = _ from h1); cases e1
      | dk _ _ => exact he.elim
      | dt _ _ => exact he.elim
      | scr _ => exact he.elim
      | exc _ => exact he.elim
      | fd _ => exact he.elim
      | ty _ => exact he.elim
      | cn _ => exact he.elim
      | _ => cases (show v = _ from h1); cases (show V.str b = _ from h2) <;> rfl

/-- a value's look in the heap -/
inductive Sh (K : PySem.W.Frag) (H : Hp) (s : Shared) : D → Value → Prop where
  | non : Sh K H s .non .none
  | bl (b : Bool) : Sh K H s (.bl b) (.bool b)
  | int (i : Int) (t : Tok) : Sh K H s (.int i) (.int i t)
  | str (x : Str) (t : Tok) : Sh K H s (.str x) (.str x t)
  | tup {a : Addr} {ds : List D} {xs : List V} {its : List Value} (p : s.heap.IsTuple a its.toArray) (r : Vals xs its) (q : Reps K H [] ds xs) : Sh K H s (.tup ds) (.ref a)
  | lst {a : Addr} {ds : List D} {xs : List V} {its : List Value} (p : s.heap.IsList a its.toArray) (r : Vals xs its) (q : Reps K H [] ds xs) : Sh K H s (.lst ds) (.ref a)
theorem sh_of (I : Inv X pins σ H s) {n : Nat} {d : D} {x : V} {u : Value} (hd : okD n d) (h : Rep X.K H [] d x) (r : RelV x u) : Sh X.K H s d u := by
  cases d with
  | non => cases (show x = _ from h); cases r; exact .non
  | bl b => cases (show x = _ from h); cases r; exact .bl b
  | int b => cases (show x = _ from h); obtain ⟨t, rfl⟩ := r; exact .int b t
  | str b => cases (show x = _ from h); obtain ⟨t, rfl⟩ := r; exact .str b t
  | ty _ => cases n <;> exact hd.elim
  | cn _ => cases n <;> exact hd.elim
  | dk _ _ => cases n <;> exact hd.elim
  | dt _ _ => cases n <;> exact hd.elim
  | scr _ => cases n <;> exact hd.elim
  | exc _ => cases n <;> exact hd.elim
  | fd _ => cases n <;> exact hd.elim
  | tup ds =>
    obtain ⟨a, xs, rfl, q, t⟩ := h
    cases r
    obtain ⟨its, rv, p, _⟩ := I.tuple q.1
    exact .tup (show s.heap.IsTuple a its.toArray from p) rv t
  | lst ds =>
    obtain ⟨a, xs, rfl, q, _, t⟩ := h
    cases r
    obtain ⟨its, rv, p, _⟩ := I.list (SqL.of q)
    exact .lst p.isList rv t
theorem eq_main (I : Inv X pins σ H s) : ∀ (n : Nat) (d e : D) (x y : V) (u v : Value) (A : Around), okD n d → okD n e → Rep X.K H [] d x → Rep X.K H [] e y → RelV x u → RelV y v → A.units + n < cLine →
    SeqAt.RcAt A s u v (eqD d e) ∧ SeqAt.RcNeAt A s u v (!eqD d e) ∧ SeqAt.EqAt A s u v (eqD d e) := by
  intro n
  induction n with
  | zero =>
    intro d e x y u v A hd he h1 h2 r1 r2 hu
    have hu' : A.units < cLine := by omega
    cases sh_of I hd h1 r1 with
    | tup => exact hd.elim
    | lst => exact hd.elim
    | non =>
      cases sh_of I he h2 r2 with
      | non => exact ⟨SeqAt.RcAt.none_none, SeqAt.RcNeAt.none_none, SeqAt.EqAt.same _⟩
      | bl b => exact ⟨SeqAt.RcAt.none_bool b, SeqAt.RcNeAt.none_bool b, SeqAt.EqAt.none_bool b⟩
      | int i t => exact ⟨SeqAt.RcAt.none_int i t, SeqAt.RcNeAt.none_int i t, SeqAt.EqAt.none_int i t⟩
      | str i t => exact ⟨SeqAt.RcAt.none_str i t, SeqAt.RcNeAt.none_str i t, SeqAt.EqAt.none_str i t⟩
      | tup => exact he.elim
      | lst => exact he.elim
    | bl a =>
      cases sh_of I he h2 r2 with
      | non => exact ⟨SeqAt.RcAt.bool_none a, SeqAt.RcNeAt.bool_none a, SeqAt.EqAt.bool_none a⟩
      | bl b => exact ⟨SeqAt.RcAt.bool_bool a b, SeqAt.RcNeAt.bool_bool a b, SeqAt.EqAt.bool_bool a b⟩
      | int i t => exact ⟨SeqAt.RcAt.bool_int a i t, SeqAt.RcNeAt.bool_int a i t, SeqAt.EqAt.bool_int a i t⟩
      | str i t => exact ⟨SeqAt.RcAt.bool_str a i t, SeqAt.RcNeAt.bool_str a i t, SeqAt.EqAt.bool_str a i t⟩
      | tup => exact he.elim
      | lst => exact he.elim
    | int a t =>
      cases sh_of I he h2 r2 with
      | non => exact ⟨SeqAt.RcAt.int_none a t, SeqAt.RcNeAt.int_none a t, SeqAt.EqAt.int_none a t⟩
      | bl b => exact ⟨SeqAt.RcAt.int_bool a t b, SeqAt.RcNeAt.int_bool a t b, SeqAt.EqAt.int_bool a t b⟩
      | int i t' => exact ⟨SeqAt.RcAt.int_int a t i t', SeqAt.RcNeAt.int_int a t i t', SeqAt.EqAt.int_int a t i t'⟩
      | str i t' => exact ⟨SeqAt.RcAt.int_str a t i t', SeqAt.RcNeAt.int_str a t i t', SeqAt.EqAt.int_str a t i t'⟩
      | tup => exact he.elim
      | lst => exact he.elim
    | str a t =>
      cases sh_of I he h2 r2 with
      | non => exact ⟨SeqAt.RcAt.str_none a t, SeqAt.RcNeAt.str_none a t, SeqAt.EqAt.str_none a t⟩
      | bl b => exact ⟨SeqAt.RcAt.str_bool a t b, SeqAt.RcNeAt.str_bool a t b, SeqAt.EqAt.str_bool a t b⟩
      | int i t' => exact ⟨SeqAt.RcAt.str_int a t i t', SeqAt.RcNeAt.str_int a t i t', SeqAt.EqAt.str_int a t i t'⟩
      | str i t' => exact ⟨SeqAt.RcAt.str_str a t i t', SeqAt.RcNeAt.str_str a t i t', SeqAt.EqAt.str_str a t i t'⟩
      | tup => exact he.elim
      | lst => exact he.elim
  | succ n ih =>
    intro d e x y u v A hd he h1 h2 r1 r2 hu
    have hu' : A.units < cLine := by omega
    have hin : A.in1.units + n < cLine := by
      have : A.in1.units = A.units + 1 := rfl
      omega
    have refs : ∀ {l b : Addr} {k : Bool}, u = .ref l → v = .ref b → k = eqD d e → SeqAt.RcAt A s (.ref l) (.ref b) k → SeqAt.EqAt A s (.ref l) (.ref b) k := fun {l b k} e1 e2 ek h => by
      by_cases hlb : l = b
      · subst hlb
        have hv : x = y := by
          have z1 : x = .ref l := by
            cases x <;> subst e1 <;> first | (have := (show Value.ref l = Value.ref _ from r1); cases this; rfl) | (obtain ⟨t, z⟩ := r1; cases z) | cases r1
          have z2 : y = .ref l := by
            cases y <;> subst e2 <;> first | (have := (show Value.ref l = Value.ref _ from r2); cases this; rfl) | (obtain ⟨t, z⟩ := r2; cases z) | cases r2
          rw [z1, z2]
        subst hv
        have hde := Rep.inj I (n + 1) d e x hd he h1 h2
        subst hde
        rw [ek, eqD_refl (n + 1) d hd]
        exact SeqAt.EqAt.same _
      · exact SeqAt.EqAt.of_refs hlb h
    have items : ∀ {ds es : List D} {xs ys : List V} {its its2 : List Value}, (∀ z ∈ ds, okD n z) → (∀ z ∈ es, okD n z) → Reps X.K H [] ds xs → Reps X.K H [] es ys → Vals xs its → Vals ys its2 →
        ∀ j (h1 : j < its.toArray.size) (h2 : j < its2.toArray.size), SeqAt.EqAt A.in1 s its.toArray[j] its2.toArray[j] (eqD (ds.getD j .non) (es.getD j .non)) := fun {ds es xs ys its its2} o1 o2 q1 q2 w1 w2 j h1 h2 => by
      have l1 := w1.length
      have l2 := w2.length
      have k1 := q1.length
      have k2 := q2.length
      have g1 : j < ds.length := by simp at h1; omega
      have g2 : j < es.length := by simp at h2; omega
      have e1 : ds[j]? = some ds[j] := by simp [g1]
      have e2 : es[j]? = some es[j] := by simp [g2]
      obtain ⟨x', ex, rx⟩ := q1.get e1
      obtain ⟨y', ey, ry⟩ := q2.get e2
      obtain ⟨u', eu, ru⟩ := w1.get ex
      obtain ⟨v', ev, rv⟩ := w2.get ey
      have f1 : its.toArray[j] = u' := by
        have := (List.getElem?_eq_some_iff.mp eu).2
        simpa using this
      have f2 : its2.toArray[j] = v' := by
        have := (List.getElem?_eq_some_iff.mp ev).2
        simpa using this
      rw [f1, f2, show ds.getD j .non = ds[j] by simp [List.getD, e1], show es.getD j .non = es[j] by simp [List.getD, e2]]
      exact (ih ds[j] es[j] x' y' u' v' A.in1 (o1 _ (List.getElem_mem g1)) (o2 _ (List.getElem_mem g2)) rx ry ru rv hin).2.2
    cases sh_of I hd h1 r1 with
    | non =>
      cases sh_of I he h2 r2 with
      | non => exact ⟨SeqAt.RcAt.none_none, SeqAt.RcNeAt.none_none, SeqAt.EqAt.same _⟩
      | bl b => exact ⟨SeqAt.RcAt.none_bool b, SeqAt.RcNeAt.none_bool b, SeqAt.EqAt.none_bool b⟩
      | int i t => exact ⟨SeqAt.RcAt.none_int i t, SeqAt.RcNeAt.none_int i t, SeqAt.EqAt.none_int i t⟩
      | str i t => exact ⟨SeqAt.RcAt.none_str i t, SeqAt.RcNeAt.none_str i t, SeqAt.EqAt.none_str i t⟩
      | tup p _ _ => exact ⟨SeqAt.RcAt.none_tuple p hu', SeqAt.RcNeAt.none_tuple p hu', SeqAt.EqAt.none_tuple p hu'⟩
      | lst p _ _ => exact ⟨SeqAt.RcAt.none_list p hu', SeqAt.RcNeAt.none_list p hu', SeqAt.EqAt.none_list p hu'⟩
    | bl a =>
      cases sh_of I he h2 r2 with
      | non => exact ⟨SeqAt.RcAt.bool_none a, SeqAt.RcNeAt.bool_none a, SeqAt.EqAt.bool_none a⟩
      | bl b => exact ⟨SeqAt.RcAt.bool_bool a b, SeqAt.RcNeAt.bool_bool a b, SeqAt.EqAt.bool_bool a b⟩
      | int i t => exact ⟨SeqAt.RcAt.bool_int a i t, SeqAt.RcNeAt.bool_int a i t, SeqAt.EqAt.bool_int a i t⟩
      | str i t => exact ⟨SeqAt.RcAt.bool_str a i t, SeqAt.RcNeAt.bool_str a i t, SeqAt.EqAt.bool_str a i t⟩
      | tup p _ _ => exact ⟨SeqAt.RcAt.bool_tuple a p hu', SeqAt.RcNeAt.bool_tuple a p hu', SeqAt.EqAt.bool_tuple a p hu'⟩
      | lst p _ _ => exact ⟨SeqAt.RcAt.bool_list a p hu', SeqAt.RcNeAt.bool_list a p hu', SeqAt.EqAt.bool_list a p hu'⟩
    | int a t =>
      cases sh_of I he h2 r2 with
      | non => exact ⟨SeqAt.RcAt.int_none a t, SeqAt.RcNeAt.int_none a t, SeqAt.EqAt.int_none a t⟩
      | bl b => exact ⟨SeqAt.RcAt.int_bool a t b, SeqAt.RcNeAt.int_bool a t b, SeqAt.EqAt.int_bool a t b⟩
      | int i t' => exact ⟨SeqAt.RcAt.int_int a t i t', SeqAt.RcNeAt.int_int a t i t', SeqAt.EqAt.int_int a t i t'⟩
      | str i t' => exact ⟨SeqAt.RcAt.int_str a t i t', SeqAt.RcNeAt.int_str a t i t', SeqAt.EqAt.int_str a t i t'⟩
      | tup p _ _ => exact ⟨SeqAt.RcAt.int_tuple a t p hu', SeqAt.RcNeAt.int_tuple a t p hu', SeqAt.EqAt.int_tuple a t p hu'⟩
      | lst p _ _ => exact ⟨SeqAt.RcAt.int_list a t p hu', SeqAt.RcNeAt.int_list a t p hu', SeqAt.EqAt.int_list a t p hu'⟩
    | str a t =>
      cases sh_of I he h2 r2 with
      | non => exact ⟨SeqAt.RcAt.str_none a t, SeqAt.RcNeAt.str_none a t, SeqAt.EqAt.str_none a t⟩
      | bl b => exact ⟨SeqAt.RcAt.str_bool a t b, SeqAt.RcNeAt.str_bool a t b, SeqAt.EqAt.str_bool a t b⟩
      | int i t' => exact ⟨SeqAt.RcAt.str_int a t i t', SeqAt.RcNeAt.str_int a t i t', SeqAt.EqAt.str_int a t i t'⟩
      | str i t' => exact ⟨SeqAt.RcAt.str_str a t i t', SeqAt.RcNeAt.str_str a t i t', SeqAt.EqAt.str_str a t i t'⟩
      | tup p _ _ => exact ⟨SeqAt.RcAt.str_tuple a t p hu', SeqAt.RcNeAt.str_tuple a t p hu', SeqAt.EqAt.str_tuple a t p hu'⟩
      | lst p _ _ => exact ⟨SeqAt.RcAt.str_list a t p hu', SeqAt.RcNeAt.str_list a t p hu', SeqAt.EqAt.str_list a t p hu'⟩
    | @tup l ds xs its p r q =>
      cases sh_of I he h2 r2 with
      | non => exact ⟨SeqAt.RcAt.tuple_none p hu', SeqAt.RcNeAt.tuple_none p hu', SeqAt.EqAt.tuple_none p hu'⟩
      | bl b => exact ⟨SeqAt.RcAt.tuple_bool b p hu', SeqAt.RcNeAt.tuple_bool b p hu', SeqAt.EqAt.tuple_bool b p hu'⟩
      | int i t => exact ⟨SeqAt.RcAt.tuple_int i t p hu', SeqAt.RcNeAt.tuple_int i t p hu', SeqAt.EqAt.tuple_int i t p hu'⟩
      | str i t => exact ⟨SeqAt.RcAt.tuple_str i t p hu', SeqAt.RcNeAt.tuple_str i t p hu', SeqAt.EqAt.tuple_str i t p hu'⟩
      | lst p2 _ _ => exact ⟨SeqAt.RcAt.tuple_list p p2 hu', SeqAt.RcNeAt.tuple_list p p2 hu', SeqAt.EqAt.tuple_list p p2 hu'⟩
      | @tup b es ys its2 p2 r' q' =>
        have e1 : its.toArray.size = ds.length := by rw [List.size_toArray, ← r.length, q.length]
        have e2 : its2.toArray.size = es.length := by rw [List.size_toArray, ← r'.length, q'.length]
        have ek : eqD (.tup ds) (.tup es) = ((List.range (min its.toArray.size its2.toArray.size)).all (fun j => eqD (ds.getD j .non) (es.getD j .non)) && its.toArray.size == its2.toArray.size) := by
          rw [e1, e2]
          exact eqDs_range ds es
        rw [ek]
        have hrc := SeqAt.RcAt.tuples p p2 hu' (items hd he q q' r r')
        exact ⟨hrc, SeqAt.RcNeAt.tuples p p2 hu' (items hd he q q' r r'), refs rfl rfl ek.symm hrc⟩
    | @lst l ds xs its p r q =>
      cases sh_of I he h2 r2 with
      | non => exact ⟨SeqAt.RcAt.list_none p hu', SeqAt.RcNeAt.list_none p hu', SeqAt.EqAt.list_none p hu'⟩
      | bl b => exact ⟨SeqAt.RcAt.list_bool b p hu', SeqAt.RcNeAt.list_bool b p hu', SeqAt.EqAt.list_bool b p hu'⟩
      | int i t => exact ⟨SeqAt.RcAt.list_int i t p hu', SeqAt.RcNeAt.list_int i t p hu', SeqAt.EqAt.list_int i t p hu'⟩
      | str i t => exact ⟨SeqAt.RcAt.list_str i t p hu', SeqAt.RcNeAt.list_str i t p hu', SeqAt.EqAt.list_str i t p hu'⟩
      | tup p2 _ _ => exact ⟨SeqAt.RcAt.list_tuple p p2 hu', SeqAt.RcNeAt.list_tuple p p2 hu', SeqAt.EqAt.list_tuple p p2 hu'⟩
      | @lst b es ys its2 p2 r' q' =>
        have e1 : its.toArray.size = ds.length := by rw [List.size_toArray, ← r.length, q.length]
        have e2 : its2.toArray.size = es.length := by rw [List.size_toArray, ← r'.length, q'.length]
        by_cases hsz : its.toArray.size = its2.toArray.size
        · have ek : eqD (.lst ds) (.lst es) = (List.range its.toArray.size).all (fun j => eqD (ds.getD j .non) (es.getD j .non)) := by
            show eqDs ds es = _
            rw [eqDs_range, ← e1, ← e2, ← hsz]
            simp
          rw [ek]
          have hrc := SeqAt.RcAt.lists p p2 hsz hu' (items hd he q q' r r')
          exact ⟨hrc, SeqAt.RcNeAt.lists p p2 hsz hu' (items hd he q q' r r'), refs rfl rfl ek.symm hrc⟩
        · have ek : eqD (.lst ds) (.lst es) = false := by
            show eqDs ds es = _
            have hb : (its.toArray.size == its2.toArray.size) = false := beq_eq_false_iff_ne.mpr hsz
            rw [eqDs_range, ← e1, ← e2, hb, Bool.and_false]
          rw [ek]
          have hne : (its.toArray.size != its2.toArray.size) = true := by simpa using hsz
          have hrc := SeqAt.RcAt.lists_lengths p p2 hne hu'
          exact ⟨hrc, SeqAt.RcNeAt.lists_lengths p p2 hne hu', refs rfl rfl ek.symm hrc⟩
end
section
variable {X : Cx} {a b : Expr} {ta tb : TD} {pos : Pos}
noncomputable def rEqD (K : PySem.W.Frag) (neg : Bool) : R2 := fun x y H Q => ∃ d e, Rep K H [] d x ∧ Rep K H [] e y ∧ okD 40 d ∧ okD 40 e ∧ Q (.bl (if neg then !eqD d e else eqD d e)) H
theorem op_eqD (hu : X.A.units + 64 < cLine) : OpR X (compareOp .Eq) (rEqD X.K false) := by
  intro pins s σ H x y v u Q I rx ry h
  obtain ⟨d, e, h1, h2, o1, o2, q⟩ := h
  exact (eq_main I 40 d e x y v u X.A o1 o2 h1 h2 rx ry (by omega)).1 X.prog X.w X.xe _ ⟨.bl _, H, I, rfl, q⟩
theorem op_neD (hu : X.A.units + 64 < cLine) : OpR X (compareOp .NotEq) (rEqD X.K true) := by
  intro pins s σ H x y v u Q I rx ry h
  obtain ⟨d, e, h1, h2, o1, o2, q⟩ := h
  exact (eq_main I 40 d e x y v u X.A o1 o2 h1 h2 rx ry (by omega)).2.1 X.prog X.w X.xe _ ⟨.bl _, H, I, rfl, q⟩
noncomputable def sEq : D → D → (EV → Prop) → Prop := fun x y φ => okD 40 x ∧ okD 40 y ∧ φ (dv (.bl (eqD x y)))
noncomputable def sNe : D → D → (EV → Prop) → Prop := fun x y φ => okD 40 x ∧ okD 40 y ∧ φ (dv (.bl (!eqD x y)))
theorem ed_eq (hu : X.A.units + 64 < cLine) (ha : ED Γ X a ta) (hb : ED Γ X b tb) : ED Γ X (.Compare a [.Eq] [b] pos) (d2 sEq ta tb) :=
  ed_cmp (op_eqD hu) (fun H O x y vx vy φ Q ho hx hy h k => ⟨x, y, hx.rep0, hy.rep0, h.1, h.2.1, k _ _ H (Same.refl H) (by exact rfl) h.2.2⟩) ha hb (nomark _)
end
end DL

set_option Elab.async false
set_option linter.all false
set_option maxRecDepth 100000
set_option maxHeartbeats 4000000
namespace DL
open PySem PySem.Spec L2 L3
open PyProof.Rows hiding St
variable {Γ : Hp → Prop}
section
variable {X : Cx} {a b c e : Expr} {es : List Expr} {ta tb tc te : TD} {t : TDs} {pos : Pos}

theorem link_mul : Link2 X.K (fun x y H Q => rI IntMulOk (fun i j => .int (i * j)) x y H Q ∨ rRep x y H Q) sMul := by
  intro H O x y vx vy φ Q ho hx hy h k
  unfold sMul at h
  split at h
  · exact .inl ⟨_, _, hx, hy, h.1, k _ _ H (Same.refl H) (by exact rfl) h.2⟩
  · obtain ⟨h1, h2, h3, h4⟩ := h
    obtain ⟨a1, xs, rfl, q1, r1⟩ := hx
    refine .inr ⟨a1, _, xs, rfl, hy, q1, h1, h2, by rw [r1.length]; exact h3, fun p hp => ?_⟩
    exact k _ _ _ (same_new hp _) (rv_lst ho hp (r1.rep _)) h4
  · exact h.elim
theorem ed_mul (ha : ED Γ X a ta) (hb : ED Γ X b tb) : ED Γ X (.BinOp a .Mult b pos) (d2 sMul ta tb) := ed_bin (op_mulG.or op_rep) link_mul ha hb

noncomputable def sNeg : D → (EV → Prop) → Prop := fun x φ => match x with
  | .int i => φ (dv (.int (-i)))
  | _ => False
noncomputable def d1 (s : D → (EV → Prop) → Prop) (ta : TD) : TD := fun ρ φ => ta ρ fun x => s x.d φ
theorem ed_neg (ha : ED Γ X a ta) : ED Γ X (.UnaryOp .USub a pos) (d1 sNeg ta) := fun H₀ => impE (pe_un un_neg (ha H₀)) fun σ H Q h => by
  obtain ⟨ρ, o, R, φ, hφ, k⟩ := h
  refine ⟨ρ, o, R, _, hφ, fun v1 r1 H1 s1 rv1 h1 => ?_⟩
  obtain ⟨kd, d⟩ := r1
  have hv := rv1.view
  cases d with
  | int i => exact ⟨i, hv, k _ _ H1 s1 (by exact rfl) h1⟩
  | _ => exact h1.elim

noncomputable def truD : D → Option Bool
  | .non => some false
  | .bl b => some b
  | .int i => some (i != 0)
  | .str x => if x.length ≤ sizeLine then some ((x.length : Int) != 0) else none
  | .lst ds => some (!ds.isEmpty)
  | .scr ns => some (!ns.isEmpty)
  | .tup ds => some (!ds.isEmpty)
  | .dk _ ds => some (!ds.isEmpty)
  | .dt _ _ => none
  | .ty _ => none
  | .cn _ => none
  | .exc _ => none
  | .fd _ => none
theorem isEmpty_reps {K : PySem.W.Frag} {H : Hp} {O : List Addr} {ds : List D} {xs : List V} (r : Reps K H O ds xs) : xs.isEmpty = ds.isEmpty := by
  have := r.length
  cases xs <;> cases ds <;> simp_all
theorem tru_view {K : PySem.W.Frag} {H : Hp} {O : List Addr} {d : D} {v : V} {b : Bool} (h : View K H O d v) (e : truD d = some b) : TruV K v H b := by
  cases d with
  | non => cases (show v = _ from h); cases e; rfl
  | bl i => cases (show v = _ from h); cases e; rfl
  | int i => cases (show v = _ from h); cases e; rfl
  | str x =>
    cases (show v = _ from h)
    have e' : (if x.length ≤ sizeLine then some ((x.length : Int) != 0) else none) = some b := e
    split at e'
    · rename_i hz
      cases e'
      exact ⟨hz, rfl⟩
    · cases e'
  | ty _ => cases e
  | cn _ => cases e
  | exc _ => cases e
  | fd _ => cases e
  | lst ds =>
    obtain ⟨a, xs, rfl, q, r⟩ := h
    cases e
    exact .inl ⟨xs, SqL.of q, by rw [isEmpty_reps r]⟩
  | scr ns =>
    obtain ⟨a, rfl, q⟩ := h
    cases e
    exact .inl ⟨_, q.seq, by cases ns <;> rfl⟩
  | tup ds =>
    obtain ⟨a, xs, rfl, q, r⟩ := h
    cases e
    exact .inr (.inl ⟨xs, q.1, by rw [isEmpty_reps r]⟩)
  | dk ks ds =>
    obtain ⟨a, xs, rfl, q, l, _, r⟩ := h
    cases e
    refine .inr (.inr ⟨_, q, ?_⟩)
    have := r.length
    cases ks <;> cases ds <;> cases xs <;> simp_all
  | dt ks ds => cases e
noncomputable def tTru (t : TD) : TDb := fun ρ φ => t ρ fun r => match truD r.d with
  | some b => φ b
  | none => False
theorem et_val (h : ED Γ X a ta) (he : ∀ whole, isTrue a X.env whole = (do let v ← whole; standAt a.pos; holding [v] (truthy v)) := by intro _; rfl) : ET Γ X a (tTru ta) := fun H₀ => impT (pt_truth (h H₀) he) fun σ H Q q => by
  obtain ⟨ρ, o, R, φ, hφ, k⟩ := q
  refine ⟨ρ, o, R, _, hφ, fun v1 r1 H1 s1 rv1 h1 => ?_⟩
  cases e : truD r1.d with
  | none => simp only [e] at h1
  | some b =>
    simp only [e] at h1
    exact ⟨b, tru_view rv1.view e, k b H1 s1 h1⟩
noncomputable def tBo (t : TD) : TDb := fun ρ φ => t ρ fun r => match r.d with
  | .bl b => φ b
  | _ => False
theorem et_cmp {op : CmpOp} {rr : R2} {s : D → D → (EV → Prop) → Prop} (ho : OpR X (compareOp op) rr) (hl : Link2 X.K rr s) (ha : ED Γ X a ta) (hb : ED Γ X b tb) (hm : behindInMarks op b = false) : ET Γ X (.Compare a [op] [b] pos) (tBo (d2 s ta tb)) := fun H₀ =>
  impT (pt_cmpR ho (ha H₀) (hb H₀) hm) fun σ H Q h => by
    obtain ⟨ρ, o, R, φ, hφ, k⟩ := h
    refine lift2 (ta := ta) (tb := tb) (H₀ := H₀.1) hl σ H _ ⟨ρ, o, R, _, hφ, fun v r H' s1 rv h1 => ?_⟩
    obtain ⟨kd, d⟩ := r
    cases d with
    | bl b => exact ⟨b, rv.view, k b H' s1 h1⟩
    | _ => exact h1.elim
theorem et_lt (ha : ED Γ X a ta) (hb : ED Γ X b tb) : ET Γ X (.Compare a [.Lt] [b] pos) (tBo (d2 sLt ta tb)) := et_cmp op_lt (link_I0 fun _ _ _ _ => rfl) ha hb (nomark _)
theorem et_gt (ha : ED Γ X a ta) (hb : ED Γ X b tb) : ET Γ X (.Compare a [.Gt] [b] pos) (tBo (d2 sGt ta tb)) := et_cmp op_gt (link_I0 fun _ _ _ _ => rfl) ha hb (nomark _)
theorem et_eq (hu : X.A.units + 64 < cLine) (ha : ED Γ X a ta) (hb : ED Γ X b tb) : ET Γ X (.Compare a [.Eq] [b] pos) (tBo (d2 sEq ta tb)) :=
  et_cmp (op_eqD hu) (fun H O x y vx vy φ Q ho hx hy h k => ⟨x, y, hx.rep0, hy.rep0, h.1, h.2.1, k _ _ H (Same.refl H) (by exact rfl) h.2.2⟩) ha hb (nomark _)
theorem et_ne (hu : X.A.units + 64 < cLine) (ha : ED Γ X a ta) (hb : ED Γ X b tb) : ET Γ X (.Compare a [.NotEq] [b] pos) (tBo (d2 sNe ta tb)) :=
  et_cmp (op_neD hu) (fun H O x y vx vy φ Q ho hx hy h k => ⟨x, y, hx.rep0, hy.rep0, h.1, h.2.1, k _ _ H (Same.refl H) (by exact rfl) h.2.2⟩) ha hb (nomark _)
/-- is None, is not None -/
noncomputable def isNon : D → Bool
  | .non => true
  | _ => false
noncomputable def sIs : D → D → (EV → Prop) → Prop := fun x y φ => match y with
  | .non => φ (dv (.bl (isNon x)))
  | _ => False
noncomputable def sIsNot : D → D → (EV → Prop) → Prop := fun x y φ => match y with
  | .non => φ (dv (.bl (!isNon x)))
  | _ => False
variable {tA tB' : TDb} {rest : List Expr}
noncomputable def bAnd (t u : TDb) : TDb := fun ρ φ => t ρ fun c => (c = true → u ρ φ) ∧ (c = false → φ false)
noncomputable def bOr (t u : TDb) : TDb := fun ρ φ => t ρ fun c => (c = true → φ true) ∧ (c = false → u ρ φ)
noncomputable def bNot (t : TDb) : TDb := fun ρ φ => t ρ fun c => φ (!c)
theorem ew_and1 (ha : ET Γ X a tA) : EW Γ X (.BoolOp .And [a] pos) tA := fun H₀ => pw_and1 (ha H₀)
theorem ew_or1 (ha : ET Γ X a tA) : EW Γ X (.BoolOp .Or [a] pos) tA := fun H₀ => pw_or1 (ha H₀)
theorem ew_and (ha : ET Γ X a tA) (hb : EW Γ X (.BoolOp .And (b :: rest) pos) tB') : EW Γ X (.BoolOp .And (a :: b :: rest) pos) (bAnd tA tB') := fun H₀ => impW (pw_and (ha H₀) (hb H₀)) fun σ H Q h => by
  obtain ⟨ρ, o, R, φ, hφ, k⟩ := h
  refine ⟨ρ, o, R, _, hφ, fun c H1 s1 h1 => ?_⟩
  cases c with
  | true => exact iteT ⟨ρ, o, R.to s1, φ, h1.1 rfl, fun b H2 s2 q => k b H2 (s1.trans s2) q⟩
  | false => exact iteF (k false H1 s1 (h1.2 rfl))
theorem ew_or (ha : ET Γ X a tA) (hb : EW Γ X (.BoolOp .Or (b :: rest) pos) tB') : EW Γ X (.BoolOp .Or (a :: b :: rest) pos) (bOr tA tB') := fun H₀ => impW (pw_or (ha H₀) (hb H₀)) fun σ H Q h => by
  obtain ⟨ρ, o, R, φ, hφ, k⟩ := h
  refine ⟨ρ, o, R, _, hφ, fun c H1 s1 h1 => ?_⟩
  cases c with
  | true => exact iteT (k true H1 s1 (h1.1 rfl))
  | false => exact iteF ⟨ρ, o, R.to s1, φ, h1.2 rfl, fun b H2 s2 q => k b H2 (s1.trans s2) q⟩
theorem EW.et (h : EW Γ X a tA) : ET Γ X a tA := fun H₀ => PW.pt (h H₀)
theorem et_not (ha : ET Γ X a tA) : ET Γ X (.UnaryOp .Not a pos) (bNot tA) := fun H₀ => impT (pt_not (ha H₀)) fun σ H Q h => by
  obtain ⟨ρ, o, R, φ, hφ, k⟩ := h
  exact ⟨ρ, o, R, _, hφ, fun c H1 s1 h1 => k _ H1 s1 h1⟩
/-- .. as values (bools) -/
noncomputable def vAnd (ta tb : TD) : TD := fun ρ φ => ta ρ fun x => match x.d with
  | .bl c => (c = true → tb ρ φ) ∧ (c = false → φ (dv (.bl false)))
  | _ => False
noncomputable def vOr (ta tb : TD) : TD := fun ρ φ => ta ρ fun x => match x.d with
  | .bl c => (c = true → φ (dv (.bl true))) ∧ (c = false → tb ρ φ)
  | _ => False
noncomputable def vNot (ta : TD) : TD := fun ρ φ => ta ρ fun x => match x.d with
  | .bl c => φ (dv (.bl (!c)))
  | _ => False
noncomputable def vIf (t : TDb) (ta tb : TD) : TD := fun ρ φ => t ρ fun c => (c = true → ta ρ φ) ∧ (c = false → tb ρ φ)
noncomputable def aNil : TDs := fun _ φ => φ []
noncomputable def aCons (te : TD) (t : TDs) : TDs := fun ρ φ => te ρ fun r => t ρ fun rs => φ (r :: rs)
theorem ea_nil : EA Γ X [] aNil := fun H₀ => impA pa_nil fun σ H Q h => by
  obtain ⟨ρ, o, R, φ, hφ, k⟩ := h
  exact k [] [] H (Same.refl H) (by exact rfl) hφ
theorem ea_cons (ha : ED Γ X e te) (hr : EA Γ X es t) (hs : starEach (e :: es) X.env = (false, eval e X.env) :: starEach es X.env := by rfl) : EA Γ X (e :: es) (aCons te t) := fun H₀ => impA (pa_cons (ha H₀) (hr H₀) hs) fun σ H Q h => by
  obtain ⟨ρ, o, R, φ, hφ, k⟩ := h
  refine ⟨ρ, o, R, _, hφ, fun v r H1 s1 rv h1 => ⟨ρ, o, R.to s1, _, h1, fun vs rs H2 s2 rvs h2 => ?_⟩⟩
  exact k (v :: vs) (r :: rs) H2 (s1.trans s2) ⟨v, vs, rfl, rv.same s2, rvs.start s1⟩ h2
noncomputable def solidB : List EV → Bool
  | [] => true
  | r :: rs => (match r.k with | .own => false | _ => true) && solidB rs
theorem solidB_iff : ∀ {rs : List EV}, solidB rs = true → ∀ r ∈ rs, r.k ≠ .own
  | [], _ => fun r h => nomatch h
  | ⟨k, d⟩ :: rs, h => fun r hr => by
    rw [solidB, Bool.and_eq_true] at h
    rcases List.mem_cons.mp hr with rfl | hr
    · intro z
      have z' : k = .own := z
      subst z'
      exact absurd h.1 (by simp)
    · exact solidB_iff h.2 r hr
noncomputable def dTup (t : TDs) : TD := fun ρ φ => t ρ fun rs => solidB rs = true ∧ Nat.ble rs.length 1000 = true ∧ φ (dv (.tup (rs.map EV.d)))
noncomputable def dLst (t : TDs) : TD := fun ρ φ => t ρ fun rs => solidB rs = true ∧ Nat.ble rs.length 1000 = true ∧ φ (df (.lst (rs.map EV.d)))
theorem le_line {n : Nat} (h : Nat.ble n 1000 = true) : n ≤ sizeLine := Nat.le_trans (Nat.le_of_ble_eq_true h) (by decide)
theorem RVs.length {K : PySem.W.Frag} {H0 H : Hp} {O : List Addr} : ∀ {rs : List EV} {vs : List V}, RVs K H0 H O rs vs → vs.length = rs.length
  | [], _, h => by cases h; rfl
  | r :: rs, vs, h => by
    obtain ⟨v, ws, rfl, _, t⟩ := h
    simp [RVs.length t]
theorem ed_tup {x1} (h : EA Γ X es t) : ED Γ X (.Tuple es x1 pos) (dTup t) := fun H₀ => impE (pe_tup (h H₀)) fun σ H Q q => by
  obtain ⟨ρ, o, R, φ, hφ, k⟩ := q
  refine ⟨ρ, o, R, _, hφ, fun vs rs H1 s1 rvs h1 => ⟨by rw [rvs.length]; exact le_line h1.2.1, fun p hp => ?_⟩⟩
  exact k _ _ _ (s1.trans (same_new hp _)) (RV.start (rv_tup hp (rvs.reps (solidB_iff h1.1))) s1) h1.2.2
theorem ed_lst (h : EA Γ X es t) : ED Γ X (.List es pos) (dLst t) := fun H₀ => impE (pe_lst (h H₀)) fun σ H Q q => by
  obtain ⟨ρ, o, R, φ, hφ, k⟩ := q
  refine ⟨ρ, o, R, _, hφ, fun vs rs H1 s1 rvs h1 => ⟨by rw [rvs.length]; exact le_line h1.2.1, fun p hp => ?_⟩⟩
  exact k _ _ _ (s1.trans (same_new hp _)) (RV.start (rv_lst (fun a e => R.ofree (s1.free e)) hp (rvs.reps (solidB_iff h1.1))) s1) h1.2.2

noncomputable def sIx : D → D → (EV → Prop) → Prop := fun x y φ => match x, y with
  | .lst ds, .int i => match atI ds i with
    | some d => φ (dv d)
    | none => False
  | .tup ds, .int i => match atI ds i with
    | some d => φ (dv d)
    | none => False
  | .scr ns, .int i => match atI ns i with
    | some n => φ (dv (.int n))
    | none => False
  | .str z, .int i => z.length ≤ sizeLine ∧ match atI z.cps.toList i with
    | some c => φ (dv (.str ⟨#[c]⟩))
    | none => False
  | _, _ => False
theorem atI_reps {K : PySem.W.Frag} {H : Hp} {O : List Addr} {ds : List D} {xs : List V} {i : Int} {d : D} (r : Reps K H O ds xs) (h : atI ds i = some d) : ∃ v, atI xs i = some v ∧ Rep K H O d v := by
  unfold atI at h ⊢
  rw [r.length]
  cases e : ixN ds.length i with
  | none => rw [e] at h; cases h
  | some j =>
    rw [e] at h
    exact r.get h
theorem link_ix : Link2 X.K (rIx X.K) sIx := by
  intro H O x y vx vy φ Q ho hx hy h k
  unfold sIx at h
  split at h
  · obtain ⟨a, xs, rfl, q, r⟩ := hx
    split at h
    · rename_i d e
      obtain ⟨v, ev, rv⟩ := atI_reps r e
      exact .inl ⟨a, xs, _, v, rfl, hy, SqL.of q, ev, k _ _ H (Same.refl H) (RV.val rv) h⟩
    · exact h.elim
  · obtain ⟨a, xs, rfl, q, r⟩ := hx
    split at h
    · rename_i d e
      obtain ⟨v, ev, rv⟩ := atI_reps r e
      exact .inr (.inl ⟨a, xs, _, v, rfl, hy, q.1, ev, k _ _ H (Same.refl H) (RV.val rv) h⟩)
    · exact h.elim
  · obtain ⟨a, rfl, q⟩ := hx
    split at h
    · rename_i n e
      refine .inl ⟨a, _, _, .int n, rfl, hy, q.seq, ?_, k _ _ H (Same.refl H) (by exact rfl) h⟩
      unfold atI at e ⊢
      rw [List.length_map]
      cases e2 : ixN _ _ with
      | none => rw [e2] at e; cases e
      | some j =>
        rw [e2] at e
        exact (List.getElem?_map ..).trans (congrArg (Option.map V.int) e)
    · exact h.elim
  · obtain ⟨hz, h⟩ := h
    split at h
    · rename_i c e
      exact .inr (.inr ⟨_, _, c, hx, hy, hz, e, k _ _ H (Same.refl H) (by exact rfl) h⟩)
    · exact h.elim
  · exact h.elim
noncomputable abbrev TDo := DE → (Option Int → Prop) → Prop
noncomputable def liftO (K : PySem.W.Frag) (H₀ : Hp) (t : TDo) : TO := fun σ H Q => ∃ ρ o, REnv K H₀ H σ ρ o ∧ ∃ φ, t ρ φ ∧ ∀ b H', Same H H' → φ b → Q b H'
noncomputable def EO (G : Hp → Prop) (X : Cx) (e : Option Expr) (t : TDo) : Prop := ∀ H₀ : {H : Hp // G H}, PO X e (liftO X.K H₀.1 t)
noncomputable def oNone : TDo := fun _ φ => φ none
noncomputable def oSome (t : TD) : TDo := fun ρ φ => t ρ fun r => match r.d with
  | .int i => φ (some i)
  | _ => False
theorem impO {e : Option Expr} {t t' : TO} (h : PO X e t) (i : ∀ σ H Q, t' σ H Q → t σ H Q) : PO X e t' := fun pins s σ H Q I q => h pins s σ H Q I (i σ H Q q)
theorem eo_none : EO Γ X none oNone := fun H₀ => impO po_none fun σ H Q h => by
  obtain ⟨ρ, o, R, φ, hφ, k⟩ := h
  exact k none H (Same.refl H) hφ
theorem eo_some (h : ED Γ X e te) : EO Γ X (some e) (oSome te) := fun H₀ => impO (po_some (h H₀)) fun σ H Q q => by
  obtain ⟨ρ, o, R, φ, hφ, k⟩ := q
  refine ⟨ρ, o, R, _, hφ, fun v r H1 s1 rv h1 => ?_⟩
  obtain ⟨kd, d⟩ := r
  cases d with
  | int i => exact ⟨i, rv.view, k _ H1 s1 h1⟩
  | _ => exact h1.elim
noncomputable def cutD (xs : List D) (lo hi : Option Int) : List D := (xs.drop (HT.sIx xs.length 0 lo)).take (HT.sIx xs.length xs.length hi - HT.sIx xs.length 0 lo)
theorem reps_cut {K : PySem.W.Frag} {H : Hp} {O : List Addr} {ds : List D} {xs : List V} (r : Reps K H O ds xs) (lo hi : Option Int) : Reps K H O (cutD ds lo hi) (cutV xs lo hi) := by
  unfold cutD cutV
  rw [r.length]
  exact (r.drop _).take _
noncomputable def sSl : D → Option Int → Option Int → (EV → Prop) → Prop := fun x lo hi φ => match x with
  | .lst ds => φ (df (.lst (cutD ds lo hi)))
  | .scr ns => φ (df (.lst (cutD (ns.map D.int) lo hi)))
  | .tup ds => ¬ (HT.sIx ds.length 0 lo = 0 ∧ HT.sIx ds.length ds.length hi = ds.length) ∧ φ (dv (.tup (cutD ds lo hi)))
  | _ => False
noncomputable def dSl (te : TD) (tl th : TDo) : TD := fun ρ φ => te ρ fun x => tl ρ fun l => th ρ fun u => sSl x.d l u φ
theorem ed_slice {lo hi : Option Expr} {tl th : TDo} {p2 : Pos} (he : ED Γ X e te) (hl : EO Γ X lo tl) (hu : EO Γ X hi th) : ED Γ X (.Subscript e (.Slice lo hi none p2) pos) (dSl te tl th) := fun H₀ =>
  impE (pe_slice (sl_list.or sl_tup) (he H₀) (hl H₀) (hu H₀)) fun σ H Q q => by
    obtain ⟨ρ, o, R, φ, hφ, k⟩ := q
    refine ⟨ρ, o, R, _, hφ, fun v r H1 s1 rv h1 => ⟨ρ, o, R.to s1, _, h1, fun l H2 s2 h2 => ⟨ρ, o, R.to (s1.trans s2), _, h2, fun u H3 s3 h3 => ?_⟩⟩⟩
    have s12 := s1.trans s2
    have s13 := s12.trans s3
    have vw := (rv.same (s2.trans s3)).view
    obtain ⟨kd, d⟩ := r
    cases d with
    | lst ds =>
      obtain ⟨a, xs, rfl, q, r⟩ := vw
      refine .inl ⟨a, xs, rfl, SqL.of q, fun p hp => ?_⟩
      exact k _ _ _ (s13.trans (same_new hp _)) (RV.start (rv_lst (fun a e => R.ofree (s13.free e)) hp (reps_cut r l u)) s13) h3
    | scr ns =>
      obtain ⟨a, rfl, q⟩ := vw
      refine .inl ⟨a, _, rfl, q.seq, fun p hp => ?_⟩
      exact k _ _ _ (s13.trans (same_new hp _)) (RV.start (rv_lst (fun a e => R.ofree (s13.free e)) hp (reps_cut (Reps.ints ns) l u)) s13) h3
    | tup ds =>
      obtain ⟨a, xs, rfl, q, r⟩ := vw
      refine .inr ⟨a, xs, rfl, q.1, by rw [r.length]; exact h3.1, fun p hp => ?_⟩
      exact k _ _ _ (s13.trans (same_new hp _)) (RV.start (rv_tup hp (reps_cut r l u)) s13) h3.2
    | _ => exact h3.elim
end
end DL

set_option Elab.async false
set_option linter.all false
set_option maxRecDepth 100000
set_option maxHeartbeats 4000000
namespace DL
open PySem PySem.Spec L2 L3
open PyProof.Rows hiding St
variable {Γ : Hp → Prop}

noncomputable def pureEV (r : EV) : Prop := match r.k with
  | .val => pureD r.d
  | .own => False
  | .fre => match r.d with
    | .lst ds => pureDs ds
    | .dk _ ds => pureDs ds
    | .dt _ ds => pureDs ds
    | _ => False
  | .new => True
theorem RV.lift {K : PySem.W.Frag} {H0 H : Hp} {O : List Addr} {r : EV} {v : V} (h : RV K H0 H [] r v) (p : pureEV r) (ho : ∀ a, H0 a = none → a ∉ O) : RV K H0 H O r v := by
  obtain ⟨k, d⟩ := r
  cases k with
  | val => exact Rep.pure _ _ p h
  | own => exact p.elim
  | fre =>
    obtain ⟨a, e, m, n, c⟩ := h
    refine ⟨a, e, m, ho a m, ?_⟩
    cases d with
    | lst ds => obtain ⟨xs, q, r⟩ := c; exact ⟨xs, q, Reps.pure _ _ p r⟩
    | dk ks ds => obtain ⟨xs, q, l, nd, r⟩ := c; exact ⟨xs, q, l, nd, Reps.pure _ _ p r⟩
    | dt ks ds => obtain ⟨xs, q, l, nd, r⟩ := c; exact ⟨xs, q, l, nd, Reps.pure _ _ p r⟩
    | _ => exact c.elim
  | new => exact RepN.to (Same.refl H) (fun a z => ⟨ho a z.2, z.2⟩) _ _ h
noncomputable abbrev FT := List D → (EV → Prop) → Prop
noncomputable def spD (K : PySem.W.Frag) (n : Nat) (T : FT) : Sp := fun vs H Q _ => ∃ ds φ, ds.length = n ∧ Reps K H [] ds vs ∧ T ds φ ∧ ∀ v r H', Same H H' → RV K H H' [] r v → pureEV r → φ r → Q v H'
structure FD (P : Program) (w : World) (K : PySem.W.Frag) (mg : Str → Option Value) (base : Heap) (k : Nat) (x : Str) (ps : List Str) (T : FT) : Prop where
  ex : ∃ f fd, FnOk P w K mg base CX0 k f fd ps (spD K ps.length T) ∧ Binds K fd ps [] ∧ PySem.W.keepIn K (.ref f) = true ∧ mg x = some (.ref f)
noncomputable def dCall (n : Nat) (T : FT) (t : TDs) : TD := fun ρ φ => t ρ fun rs => Nat.beq rs.length n = true ∧ T (rs.map EV.d) φ
section
variable {X : Cx} {x : Str} {ps : List Str} {T : FT} {k : Nat} {e : Expr} {es : List Expr} {t : TDs} {p pos : Pos}
theorem lift_call {H₀ : Hp} : ∀ σ H Q, liftE X.K H₀ (dCall ps.length T t) σ H Q → tCall (spD X.K ps.length T) [] E0 (liftA X.K H₀ t) σ H Q := fun σ H Q q => by
  obtain ⟨ρ, o, R, φ, hφ, kk⟩ := q
  refine ⟨ρ, o, R, _, hφ, fun vs rs H1 s1 rvs h1 => ?_⟩
  show spD X.K ps.length T (vs ++ []) H1 Q E0
  rw [List.append_nil]
  refine ⟨rs.map EV.d, φ, by rw [List.length_map]; exact Nat.eq_of_beq_eq_true h1.1, rvs.reps0, h1.2, fun v r H2 s2 rv pr h2 => ?_⟩
  exact kk v r H2 (s1.trans s2) (RV.start (rv.lift pr fun a e => R.ofree (s1.free e)) s1) h2
theorem ed_call (F : FD X.prog X.w X.K X.mg X.base k x ps T) (hr : Room k X.A) (ha : EA Γ X (e :: es) t) (hg : Gl X x := by rfl) (hdb : (x == ("__debug__" : Str)) = false := by decide)
    (he : starEach (e :: es) X.env = (false, eval e X.env) :: starEach es X.env := by rfl) (hpl : (backTo pos (starEach es X.env)).any (·.1) = false := by rfl) : ED Γ X (.Call (.Name x p) (e :: es) [] pos) (dCall ps.length T t) := fun H₀ => by
  obtain ⟨f, fd, ok, b, kp, m⟩ := F.ex
  exact impE (pe_call ok hr hg m kp b .nil pass0 (ha H₀) hdb he hpl) lift_call
noncomputable def Views (K : PySem.W.Frag) (H : Hp) (O : List Addr) : List D → List V → Prop
  | [], vs => vs = []
  | d :: ds, vs => ∃ v ws, vs = v :: ws ∧ View K H O d v ∧ Views K H O ds ws
theorem RVs.views {K : PySem.W.Frag} {H0 H : Hp} {O : List Addr} : ∀ {rs : List EV} {vs : List V}, RVs K H0 H O rs vs → Views K H O (rs.map EV.d) vs
  | [], _, h => h
  | r :: rs, vs, h => by
    obtain ⟨v, ws, e, q, t⟩ := h
    exact ⟨v, ws, e, q.view, t.views⟩
noncomputable def LinkC (K : PySem.W.Frag) (r : List V → Hp → VK → Prop) (s : FT) : Prop :=
  ∀ (H : Hp) (O : List Addr) (ds : List D) (vs : List V) (φ : EV → Prop) (Q : VK), (∀ a, H a = none → a ∉ O) → Views K H O ds vs → s ds φ → (∀ v r H', Same H H' → RV K H H' O r v → φ r → Q v H') → r vs H Q
noncomputable def dCB (s : FT) (t : TDs) : TD := fun ρ φ => t ρ fun rs => s (rs.map EV.d) φ
theorem lift_cb {r : List V → Hp → VK → Prop} {s : FT} (hl : LinkC X.K r s) {H₀ : Hp} : ∀ σ H Q, liftE X.K H₀ (dCB s t) σ H Q → tCB r (liftA X.K H₀ t) σ H Q := fun σ H Q q => by
  obtain ⟨ρ, o, R, φ, hφ, kk⟩ := q
  refine ⟨ρ, o, R, _, hφ, fun vs rs H1 s1 rvs h1 => ?_⟩
  exact hl H1 _ _ vs φ Q (fun a e => R.ofree (s1.free e)) rvs.views h1 fun v r H2 s2 rv h2 => kk v r H2 (s1.trans s2) (rv.start s1) h2
theorem ed_callB {id : String} {r : List V → Hp → VK → Prop} {s : FT} (hc : CallR X (.builtin id) r) (hl : LinkC X.K r s) (hm : X.mg x = none) (hv : bootBuiltins x = some (.builtin id)) (ha : EA Γ X (e :: es) t) (hg : Gl X x := by rfl) (hn : x ≠ "__name__" := by decide) (hdb : (x == ("__debug__" : Str)) = false := by decide)
    (he : starEach (e :: es) X.env = (false, eval e X.env) :: starEach es X.env := by rfl) (hpl : (backTo pos (starEach es X.env)).any (·.1) = false := by rfl) : ED Γ X (.Call (.Name x p) (e :: es) [] pos) (dCB s t) := fun H₀ =>
  impE (pe_callB hc hg hm hv (ha H₀) hn hdb he hpl) (lift_cb hl)
theorem ed_callTy {T : String} {r : List V → Hp → VK → Prop} {s : FT} (hc : CallR X (.type T) r) (hl : LinkC X.K r s) (hm : X.mg x = none) (hv : bootBuiltins x = some (.type T)) (ha : EA Γ X (e :: es) t) (hg : Gl X x := by rfl) (hn : x ≠ "__name__" := by decide) (hdb : (x == ("__debug__" : Str)) = false := by decide)
    (he : starEach (e :: es) X.env = (false, eval e X.env) :: starEach es X.env := by rfl) (hpl : (backTo pos (starEach es X.env)).any (·.1) = false := by rfl) : ED Γ X (.Call (.Name x p) (e :: es) [] pos) (dCB s t) := fun H₀ =>
  impE (pe_callTy hc hg hm hv (ha H₀) hn hdb he hpl) (lift_cb hl)
noncomputable def sLen : FT := fun ds φ => match ds with
  | [.lst l] => φ (dv (.int l.length))
  | [.tup l] => φ (dv (.int l.length))
  | [.scr l] => φ (dv (.int l.length))
  | [.str z] => z.length ≤ sizeLine ∧ φ (dv (.int z.length))
  | _ => False
theorem link_len : LinkC X.K (fun xs H Q => (∃ p ys, xs = [.ref p] ∧ (SqL X.K H p ys ∨ SqT X.K H p ys) ∧ Q (.int ys.length) H) ∨ ∃ z, xs = [.str z] ∧ z.length ≤ sizeLine ∧ Q (.int z.length) H) sLen := by
  intro H O ds vs φ Q ho hv h k
  unfold sLen at h
  split at h
  · obtain ⟨v, ws, rfl, ⟨a, xs, rfl, q, r⟩, rfl⟩ := hv
    refine .inl ⟨a, xs, rfl, .inl (SqL.of q), ?_⟩
    rw [r.length]
    exact k _ _ H (Same.refl H) (by exact rfl) h
  · obtain ⟨v, ws, rfl, ⟨a, xs, rfl, q, r⟩, rfl⟩ := hv
    refine .inl ⟨a, xs, rfl, .inr q.1, ?_⟩
    rw [r.length]
    exact k _ _ H (Same.refl H) (by exact rfl) h
  · obtain ⟨v, ws, rfl, ⟨a, rfl, q⟩, rfl⟩ := hv
    refine .inl ⟨a, _, rfl, .inl q.seq, ?_⟩
    rw [List.length_map]
    exact k _ _ H (Same.refl H) (by exact rfl) h
  · obtain ⟨v, ws, rfl, hz, rfl⟩ := hv
    cases (show v = _ from hz)
    exact .inr ⟨_, rfl, h.1, k _ _ H (Same.refl H) (by exact rfl) h.2⟩
  · exact h.elim
theorem ed_len (hm : X.mg "len" = none) (ha : EA Γ X (e :: es) t) (hg : Gl X "len" := by rfl) (he : starEach (e :: es) X.env = (false, eval e X.env) :: starEach es X.env := by rfl) (hpl : (backTo pos (starEach es X.env)).any (·.1) = false := by rfl) : ED Γ X (.Call (.Name "len" p) (e :: es) [] pos) (dCB sLen t) :=
  ed_callB (call_len_seq.or call_len_str) link_len hm PySem.boot_len ha hg (by decide) (by decide) he hpl
noncomputable def sAbs : FT := fun ds φ => match ds with
  | [.int i] => φ (dv (.int (if i < 0 then -i else i)))
  | _ => False
end
end DL

set_option Elab.async false
set_option linter.all false
set_option maxRecDepth 100000
set_option maxHeartbeats 4000000
namespace DL
open PySem PySem.Spec L2 L3
open PyProof.Rows hiding St
variable {Γ : Hp → Prop}

noncomputable def EV.sto (r : EV) : EV := ⟨match r.k with
  | .fre => .own
  | .new => .val
  | k => k, r.d⟩
noncomputable def EV.ret (r : EV) : EV := ⟨match r.k with
  | .own => .fre
  | k => k, r.d⟩
noncomputable def setS : DE → Nat → EV → DE
  | [], _, _ => []
  | _ :: r, 0, v => some v :: r
  | x :: r, i + 1, v => x :: setS r i v
theorem setS_eq : ∀ (ρ : DE) (i : Nat) (v : EV), setS ρ i v = ρ.set i (some v)
  | [], _, _ => rfl
  | _ :: _, 0, _ => rfl
  | x :: r, i + 1, v => by rw [setS, setS_eq r i v, List.set_cons_succ]
theorem Con.grow {K : PySem.W.Frag} {H H' : Hp} {O O' : List Addr} {d : D} {a : Addr} (h : Con K H O d a) (s : ∀ u, H a = some u → H' a = some u) (g : Grow O O' H H') : Con K H' O' d a := by
  cases d with
  | lst ds => obtain ⟨xs, q, r⟩ := h; exact ⟨xs, s _ q, Reps.grow g _ _ r⟩
  | dk ks ds => obtain ⟨xs, q, l, n, r⟩ := h; exact ⟨xs, s _ q, l, n, Reps.grow g _ _ r⟩
  | dt ks ds => obtain ⟨xs, q, l, n, r⟩ := h; exact ⟨xs, s _ q, l, n, Reps.grow g _ _ r⟩
  | _ => exact h.elim
theorem Con.mtb {K : PySem.W.Frag} {H : Hp} {O : List Addr} {d : D} {a : Addr} (h : Con K H O d a) : (∃ u, H a = some u) ∧ (∀ xs, H a ≠ some (.tup xs)) ∧ ∀ ob u, H a ≠ some (.frz ob u) := by
  cases d with
  | lst ds => obtain ⟨xs, q, r⟩ := h; exact ⟨⟨_, q⟩, (fun xs z => by rw [q] at z; cases z), (fun ob u z => by rw [q] at z; cases z)⟩
  | dk ks ds => obtain ⟨xs, q, r⟩ := h; exact ⟨⟨_, q⟩, (fun xs z => by rw [q] at z; cases z), (fun ob u z => by rw [q] at z; cases z)⟩
  | dt ks ds => obtain ⟨xs, q, r⟩ := h; exact ⟨⟨_, q⟩, (fun xs z => by rw [q] at z; cases z), (fun ob u z => by rw [q] at z; cases z)⟩
  | _ => exact h.elim
section
variable {K : PySem.W.Frag} {H₀ H H' : Hp} {σ : St} {ρ : DE} {o : List (Nat × Addr)}
/-- a thing that stays -/
theorem REnv.setV (R : REnv K H₀ H σ ρ o) (i : Nat) {d : D} {v : V} (h : Rep K H (o.map Prod.snd) d v) : REnv K H₀ H (σ.set i (some v)) (setS ρ i (dv d)) o where
  same := R.same
  fresh := R.fresh
  trk := R.trk
  mtb := R.mtb
  nda := R.nda
  len := by rw [setS_eq, List.length_set, List.length_set]; exact R.len
  slots := fun j r e => by
    rw [setS_eq] at e
    by_cases hj : j = i
    · subst hj
      have hl : j < ρ.length := by
        rcases Nat.lt_or_ge j ρ.length with z | z
        · exact z
        · rw [List.getElem?_eq_none (by rw [List.length_set]; exact z)] at e
          cases e
      rw [List.getElem?_set_self hl] at e
      cases e
      exact ⟨v, List.getElem?_set_self (by rw [R.len]; exact hl), .inl ⟨rfl, h⟩⟩
    · rw [List.getElem?_set_ne (Ne.symm hj)] at e
      obtain ⟨w, ew, q⟩ := R.slots j r e
      exact ⟨w, by rw [List.getElem?_set_ne (Ne.symm hj)]; exact ew, q⟩
/-- a new list or dict becomes ours -/
theorem REnv.setO (R : REnv K H₀ H σ ρ o) (s : Same H H') (i : Nat) {d : D} {a : Addr} (ha : H a = none) (c : Con K H' (a :: o.map Prod.snd) d a) :
    REnv K H₀ H' (σ.set i (some (.ref a))) (setS ρ i (dO d)) ((i, a) :: o) ∧ Grow (o.map Prod.snd) (((i, a) :: o).map Prod.snd) H H' := by
  have g : Grow (o.map Prod.snd) (((i, a) :: o).map Prod.snd) H H' := by
    refine ⟨fun b u h n => ⟨s b u h, fun z => ?_⟩, fun b xs h => s b _ h, fun b ob u h => s b _ h⟩
    rw [List.map_cons] at z
    rcases List.mem_cons.mp z with z | z
    · exact ne_of_none h ha z
    · exact n z
  refine ⟨?_, g⟩
  have R' := R.to s
  exact {
    same := R'.same
    fresh := fun p hp => by
      rcases List.mem_cons.mp hp with rfl | hp
      · exact R.same.free ha
      · exact R.fresh p hp
    trk := fun p hp => by
      rcases List.mem_cons.mp hp with rfl | hp
      · exact c.mtb.1
      · exact R'.trk p hp
    mtb := fun p hp => by
      rcases List.mem_cons.mp hp with rfl | hp
      · exact c.mtb.2
      · exact R'.mtb p hp
    nda := by
      rw [List.map_cons, List.nodup_cons]
      exact ⟨fun z => R.ofree ha z, R.nda⟩
    len := by rw [setS_eq, List.length_set, List.length_set]; exact R.len
    slots := fun j r e => by
      rw [setS_eq] at e
      by_cases hj : j = i
      · subst hj
        have hl : j < ρ.length := by
          rcases Nat.lt_or_ge j ρ.length with z | z
          · exact z
          · rw [List.getElem?_eq_none (by rw [List.length_set]; exact z)] at e
            cases e
        rw [List.getElem?_set_self hl] at e
        cases e
        exact ⟨_, List.getElem?_set_self (by rw [R.len]; exact hl), .inr ⟨rfl, a, rfl, List.mem_cons_self .., c⟩⟩
      · rw [List.getElem?_set_ne (Ne.symm hj)] at e
        obtain ⟨w, ew, q⟩ := R.slots j r e
        refine ⟨w, by rw [List.getElem?_set_ne (Ne.symm hj)]; exact ew, ?_⟩
        rcases q with ⟨k, q⟩ | ⟨k, a', e1, m, c'⟩
        · exact .inl ⟨k, Rep.grow g _ _ q⟩
        · exact .inr ⟨k, a', e1, List.mem_cons_of_mem _ m, c'.grow (fun u q => s _ _ q) g⟩ }
/-- either -/
theorem REnv.put (R : REnv K H₀ H σ ρ o) (s : Same H H') (i : Nat) {r : EV} {v : V} (h : RV K H H' (o.map Prod.snd) r v) (hk : r.k ≠ .own) :
    ∃ o', REnv K H₀ H' (σ.set i (some v)) (setS ρ i r.sto) o' ∧ Grow (o.map Prod.snd) (o'.map Prod.snd) H H' := by
  obtain ⟨k, d⟩ := r
  cases k with
  | val => exact ⟨_, (R.to s).setV i h, Grow.same s⟩
  | own => exact absurd rfl hk
  | fre =>
    obtain ⟨a, rfl, m, n, c⟩ := h
    exact ⟨_, R.setO s i m c⟩
  | new => exact ⟨_, (R.to s).setV i (RepN.rep (fun a z => z.1) _ _ h), Grow.same s⟩
theorem inj_snd : ∀ {o : List (Nat × Addr)}, (o.map Prod.snd).Nodup → ∀ {p q : Nat × Addr}, p ∈ o → q ∈ o → p.2 = q.2 → p = q
  | [], _, _, _, h, _, _ => nomatch h
  | x :: o, nd, p, q, hp, hq, e => by
    rw [List.map_cons, List.nodup_cons] at nd
    rcases List.mem_cons.mp hp with h1 | hp
    · rcases List.mem_cons.mp hq with h2 | hq
      · rw [h1, h2]
      · exact absurd (List.mem_map.mpr ⟨q, hq, by rw [← e, h1]⟩) nd.1
    · rcases List.mem_cons.mp hq with h2 | hq
      · exact absurd (List.mem_map.mpr ⟨p, hp, by rw [e, h2]⟩) nd.1
      · exact inj_snd nd.2 hp hq e
/-- our own list or dict at slot i is changed -/
theorem REnv.chg (R : REnv K H₀ H σ ρ o) {i : Nat} {a : Addr} {d d' : D} {ho : HO} (hs : ρ[i]? = some (some (dO d))) (hσ : σ[i]? = some (some (.ref a))) (hm : (i, a) ∈ o) (hho : (∀ xs, ho ≠ .tup xs) ∧ ∀ ob u, ho ≠ .frz ob u)
    (c : (∀ ds xs, Reps K H (o.map Prod.snd) ds xs → Reps K (upd H a ho) (o.map Prod.snd) ds xs) → Con K (upd H a ho) (o.map Prod.snd) d' a) :
    REnv K H₀ (upd H a ho) σ (setS ρ i (dO d')) o ∧ Grow (o.map Prod.snd) (o.map Prod.snd) H (upd H a ho) := by
  have ha : a ∈ o.map Prod.snd := List.mem_map.mpr ⟨_, hm, rfl⟩
  obtain ⟨m1, m2⟩ := R.mtb _ hm
  have g : Grow (o.map Prod.snd) (o.map Prod.snd) H (upd H a ho) :=
    ⟨fun b u h n => ⟨by rw [upd_ne (show b ≠ a from fun z => n (by rw [z]; exact ha))]; exact h, n⟩, fun b xs h => by rw [upd_ne (show b ≠ a from fun z => m1 xs (by rw [← z]; exact h))]; exact h, fun b ob u h => by rw [upd_ne (show b ≠ a from fun z => m2 ob u (by rw [← z]; exact h))]; exact h⟩
  refine ⟨?_, g⟩
  exact {
    same := fun b u h => by
      have : b ≠ a := fun z => by
        have := R.fresh _ hm
        rw [← z, h] at this
        cases this
      rw [upd_ne this]
      exact R.same b u h
    fresh := R.fresh
    trk := fun p hp => by
      by_cases e : p.2 = a
      · exact ⟨ho, by rw [e]; exact upd_same⟩
      · rw [upd_ne e]
        exact R.trk p hp
    mtb := fun p hp => by
      by_cases e : p.2 = a
      · rw [e, upd_same]
        exact ⟨fun xs z => hho.1 xs (Option.some.inj z), fun ob u z => hho.2 ob u (Option.some.inj z)⟩
      · rw [upd_ne e]
        exact R.mtb p hp
    nda := R.nda
    len := by rw [setS_eq, List.length_set]; exact R.len
    slots := fun j r e => by
      rw [setS_eq] at e
      by_cases hj : j = i
      · subst hj
        have hl : j < ρ.length := (List.getElem?_eq_some_iff.mp hs).1
        rw [List.getElem?_set_self hl] at e
        cases e
        obtain ⟨v, ev, q⟩ := R.slots j _ hs
        rcases q with ⟨k, _⟩ | ⟨_, a', e1, m', _⟩
        · cases k
        · have haa : a' = a := by
            rw [hσ] at ev
            cases ev
            cases e1
            rfl
          subst haa
          exact ⟨v, ev, .inr ⟨rfl, a', e1, hm, c fun ds xs q => Reps.grow g _ _ q⟩⟩
      · rw [List.getElem?_set_ne (Ne.symm hj)] at e
        obtain ⟨w, ew, q⟩ := R.slots j r e
        refine ⟨w, ew, ?_⟩
        rcases q with ⟨k, q⟩ | ⟨k, a', e1, m', c'⟩
        · exact .inl ⟨k, Rep.grow g _ _ q⟩
        · refine .inr ⟨k, a', e1, m', c'.grow (fun u q => ?_) g⟩
          have hne : a' ≠ a := fun z => by
            exact hj (congrArg Prod.fst (inj_snd R.nda m' hm z))
          rw [upd_ne hne]
          exact q }
end

section
variable {X : Cx} {st : Stmt} {rest : List Stmt} {t u : TDS} {e : Expr} {te : TD} {tc : TDb} {pos : Pos}
noncomputable def sNil : TDS := fun ρ Z => Z.nx ρ
noncomputable def sSeq (t u : TDS) : TDS := fun ρ Z => t ρ { Z with nx := fun ρ' => u ρ' Z }
theorem ss_nil : SDs Γ X [] sNil := fun H₀ => impSs pss_nil fun D σ H h => by
  obtain ⟨ρ, o, R, Z, hZ, k1, _⟩ := h
  exact k1 ρ σ H o Grow.refl R hZ
theorem ss_cons (h1 : SD Γ X st t) (h2 : SDs Γ X rest u) : SDs Γ X (st :: rest) (sSeq t u) := fun H₀ => impSs (pss_cons (h1 H₀) (h2 H₀)) fun D σ H h => by
  obtain ⟨ρ, o, R, Z, hZ, k1, k2, k3, k4⟩ := h
  refine ⟨ρ, o, R, _, hZ, fun ρ' σ' H' o' g R' q => ?_, k2, k3, k4⟩
  exact ⟨ρ', o', R', Z, q, fun ρ2 σ2 H2 o2 g2 R2 q2 => k1 ρ2 σ2 H2 o2 (g.trans g2) R2 q2, fun ρ2 σ2 H2 o2 g2 R2 q2 => k2 ρ2 σ2 H2 o2 (g.trans g2) R2 q2, fun ρ2 σ2 H2 o2 g2 R2 q2 => k3 ρ2 σ2 H2 o2 (g.trans g2) R2 q2, k4⟩
theorem ss_one (h1 : SD Γ X st t) : SDs Γ X [st] t := fun H₀ => pss_one (h1 H₀)
noncomputable def sRet (te : TD) : TDS := fun ρ Z => te ρ fun r => Z.rt r.ret
theorem RV.ret {K : PySem.W.Frag} {H₀ H H' : Hp} {σ : St} {ρ : DE} {o : List (Nat × Addr)} (R : REnv K H₀ H σ ρ o) {r : EV} {v : V} (h : RV K H H' (o.map Prod.snd) r v) : RV K H₀ H' [] r.ret v := by
  obtain ⟨k, d⟩ := r
  cases k with
  | val => exact Rep.sub (O' := []) (fun _ z => absurd z (by simp)) _ _ h
  | own =>
    obtain ⟨a, e, m, c⟩ := h
    obtain ⟨p, hp, ep⟩ := List.mem_map.mp m
    subst ep
    exact ⟨p.2, e, R.fresh p hp, by simp, c.sub fun b hb => by
      have : b = p.2 := by simpa using hb
      rw [this]
      exact m⟩
  | fre =>
    obtain ⟨a, e, m, n, c⟩ := h
    exact ⟨a, e, R.same.free m, by simp, c.sub fun b hb => by
      have : b = a := by simpa using hb
      rw [this]
      exact List.mem_cons_self ..⟩
  | new => exact RepN.to (Same.refl H') (fun a z => ⟨by simp, R.same.free z.2⟩) _ _ h
theorem sd_ret (he : ED Γ X e te) : SD Γ X (.Return (some e) pos) (sRet te) := fun H₀ => impS (ps_ret (he H₀)) fun D σ H h => by
  obtain ⟨ρ, o, R, Z, hZ, k1, k2, k3, k4⟩ := h
  refine ⟨ρ, o, R, _, hZ, fun v r H1 s1 rv h1 => ?_⟩
  exact k4 v r.ret H1 (R.same.trans s1) (RV.ret R rv) h1
noncomputable def sIf (tc : TDb) (t u : TDS) : TDS := fun ρ Z => tc ρ fun c => (c = true → t ρ Z) ∧ (c = false → u ρ Z)
theorem sd_if {c : Expr} {a b : List Stmt} (hc : ET Γ X c tc) (ha : SDs Γ X a t) (hb : SDs Γ X b u) : SD Γ X (.If c a b pos) (sIf tc t u) := fun H₀ => impS (ps_if (hc H₀) (ha H₀) (hb H₀)) fun D σ H h => by
  obtain ⟨ρ, o, R, Z, hZ, k1, k2, k3, k4⟩ := h
  refine ⟨ρ, o, R, _, hZ, fun c H1 s1 h1 => ?_⟩
  have g : Grow (o.map Prod.snd) (o.map Prod.snd) H H1 := Grow.same s1
  have kk : ∀ {v : TDS}, v ρ Z → liftS X.K H₀.1 v D σ H1 := fun hv => ⟨ρ, o, R.to s1, Z, hv, fun ρ2 σ2 H2 o2 g2 R2 q2 => k1 ρ2 σ2 H2 o2 (g.trans g2) R2 q2, fun ρ2 σ2 H2 o2 g2 R2 q2 => k2 ρ2 σ2 H2 o2 (g.trans g2) R2 q2, fun ρ2 σ2 H2 o2 g2 R2 q2 => k3 ρ2 σ2 H2 o2 (g.trans g2) R2 q2, k4⟩
  cases c with
  | true => exact iteT (kk (h1.1 rfl))
  | false => exact iteF (kk (h1.2 rfl))
/-- behind a statement something is known -/
noncomputable def sCut (t : TDS) : TDS := fun ρ Z => ∃ J : DE → Prop, t ρ { Z with nx := J } ∧ ∀ ρ', J ρ' → Z.nx ρ'
theorem sd_cut (h : SD Γ X st t) : SD Γ X st (sCut t) := fun H₀ => impS (h H₀) fun D σ H h => by
  obtain ⟨ρ, o, R, Z, ⟨J, hZ, hJ⟩, k1, k2, k3, k4⟩ := h
  exact ⟨ρ, o, R, _, hZ, fun ρ2 σ2 H2 o2 g2 R2 q2 => k1 ρ2 σ2 H2 o2 g2 R2 (hJ ρ2 q2), k2, k3, k4⟩
noncomputable def sExpr (te : TD) : TDS := fun ρ Z => te ρ fun _ => Z.nx ρ
/-- name = e -/
noncomputable def sSet (i : Nat) (te : TD) : TDS := fun ρ Z => te ρ fun r => (match r.k with | .own => False | _ => True) ∧ Z.nx (setS ρ i r.sto)
theorem notOwn {r : EV} (h : match r.k with | .own => False | _ => True) : r.k ≠ .own := by
  obtain ⟨k, d⟩ := r
  cases k with
  | own => exact h.elim
  | val => exact fun z => nomatch z
  | fre => exact fun z => nomatch z
  | new => exact fun z => nomatch z
theorem sd_set (i : Nat) {x : Str} {pos' : Pos} (hN : X.N.Nodup) (he : ED Γ X e te) (hi : X.N[i]? = some x := by rfl) (hx : Loc X.env.scope x := by first | exact Or.inl rfl | exact Or.inr rfl) (hs : swapsWith e (some (.Name x pos')) pos.line X.env = pure false := by rfl)
    (hf : X.fn x = true ∨ X.env.scope.names.lookup x = some .local := by first | exact .inl rfl | exact .inr rfl | assumption) : SD Γ X (.Assign [.Name x pos'] e pos) (sSet i te) := fun H₀ => impS (ps_set hN hi hx (he H₀) hs hf) fun D σ H h => by
  obtain ⟨ρ, o, R, Z, hZ, k1, k2, k3, k4⟩ := h
  refine ⟨ρ, o, R, _, hZ, fun v r H1 s1 rv h1 => ?_⟩
  obtain ⟨o', R', g⟩ := R.put s1 i rv (notOwn h1.1)
  exact k1 _ _ H1 o' g R' h1.2

noncomputable abbrev TGD := D → DE → (DE → Prop) → Prop
noncomputable def GLink (K : PySem.W.Frag) (g2 : TG) (g : TGD) : Prop := ∀ (H₀ H : Hp) (σ : St) (ρ : DE) (o : List (Nat × Addr)) (d : D) (v : V) (ψ : DE → Prop) (Q : St → Hp → Prop), REnv K H₀ H σ ρ o → Rep K H (o.map Prod.snd) d v → g d ρ ψ →
  (∀ ρ' σ', REnv K H₀ H σ' ρ' o → ψ ρ' → Q σ' H) → g2 v σ H Q
noncomputable def gN (i : Nat) : TGD := fun d ρ ψ => ψ (setS ρ i (dv d))
theorem gl_name {K : PySem.W.Frag} (i : Nat) : GLink K (gName i) (gN i) := fun H₀ H σ ρ o d v ψ Q R h hg k => k _ _ (R.setV i h) hg
noncomputable def gT2 (i j : Nat) : TGD := fun d ρ ψ => match d with
  | .tup [a, b] => ψ (setS (setS ρ i (dv a)) j (dv b))
  | _ => False
theorem gl_tup2 {K : PySem.W.Frag} (i j : Nat) : GLink K (gTup K 2 (gCons (gName i) (gCons (gName j) gNil))) (gT2 i j) := fun H₀ H σ ρ o d v ψ Q R h hg k => by
  unfold gT2 at hg
  split at hg
  · rename_i a b
    obtain ⟨p, xs, rfl, q, r⟩ := h
    obtain ⟨v1, r1, rfl, h1, v2, r2, rfl, h2, rfl⟩ := r
    refine ⟨p, _, rfl, q.1, rfl, v1, _, rfl, v2, _, rfl, rfl, ?_⟩
    have R1 := R.setV i h1
    have R2 := R1.setV j h2
    exact k _ _ R2 hg
  · exact hg.elim
/-- a, b = e (e a tuple) -/
noncomputable def sUn (te : TD) (g : TGD) : TDS := fun ρ Z => te ρ fun r => (match r.k with | .own => False | _ => True) ∧ g r.d ρ Z.nx
/-- a, b = x, y -/
noncomputable def sPar (i j : Nat) (ta : TDs) : TDS := fun ρ Z => ta ρ fun rs => match rs with
  | [⟨.val, a⟩, ⟨.val, b⟩] => Z.nx (setS (setS ρ i (dv a)) j (dv b))
  | _ => False
structure ItD (K : PySem.W.Frag) (J : It) (ds : List D) (P : Hp → List Addr → Prop) : Prop where
  go : ∀ (H : Hp) (O : List Addr) (i : Nat) (d : D), P H O → ds[i]? = some d → J.go i H ∧ ∀ x H', J.yld i H x H' → Same H H' ∧ Rep K H' O d x
  stop : ∀ (H : Hp) (O : List Addr), P H O → J.stop ds.length H
  keep : ∀ (O O' : List Addr) (H H' : Hp), P H O → Grow O O' H H' → P H' O'
noncomputable abbrev TID := DE → (List D → Prop) → Prop
noncomputable def liftI (K : PySem.W.Frag) (H₀ : Hp) (t : TID) : TI := fun σ H R => ∃ ρ o, REnv K H₀ H σ ρ o ∧ ∃ φ, t ρ φ ∧ ∀ J ds P H', Same H H' → ItD K J ds P → P H' (o.map Prod.snd) → φ ds → R J H'
noncomputable def EI (G : Hp → Prop) (X : Cx) (tg iter : Expr) (t : TID) : Prop := ∀ H₀ : {H : Hp // G H}, PI X tg iter (liftI X.K H₀.1 t)
noncomputable def sFor (ti : TID) (g : TGD) (tb : TDS) : TDS := fun ρ Z => ti ρ fun ds => ∃ P : Nat → DE → Prop, P 0 ρ ∧ (∀ i d ρ, ds[i]? = some d → P i ρ → g d ρ fun ρ' => tb ρ' { Z with nx := P (i + 1), ct := P (i + 1), bk := Z.nx }) ∧ ∀ ρ, P ds.length ρ → Z.nx ρ
theorem sd_for {tg iter : Expr} {body : List Stmt} {ti : TID} {g2 : TG} {g : TGD} {tb : TDS} (hi : EI Γ X tg iter ti) (hg : PG X tg g2) (hl : GLink X.K g2 g) (hb : SDs Γ X body tb) (hc : X.calm = true := by rfl) (hp : PassesOwn (model X.prog X.w) X.A X.env X.xe := by exact PassesOwn.never)
    (hs : ∀ x, foldedSetIterable iter X.env x = pure x := by intro _; rfl) : SD Γ X (.For tg iter body [] pos) (sFor ti g tb) := fun H₀ => impS (ps_for hp hc (hi H₀) hg (hb H₀) hs) fun D σ H h => by
  obtain ⟨ρ, o, R, Z, hZ, k1, k2, k3, k4⟩ := h
  refine ⟨ρ, o, R, _, hZ, fun J ds PJ H1 s1 I hP ⟨P, p0, turn, fin⟩ => ?_⟩
  refine ⟨fun i m σ' H' => m = ds.length - i ∧ i ≤ ds.length ∧ ∃ ρ' o', Grow (o.map Prod.snd) (o'.map Prod.snd) H1 H' ∧ REnv X.K H₀ H' σ' ρ' o' ∧ P i ρ', ⟨_, rfl, Nat.zero_le _, ρ, o, Grow.refl, R.to s1, p0⟩, ?_⟩
  rintro i m σ' H' ⟨rfl, hi', ρ', o', g', R', p'⟩
  have hP' := I.keep _ _ _ _ hP g'
  have gg : Grow (o.map Prod.snd) (o'.map Prod.snd) H H' := (Grow.same s1).trans g'
  by_cases hlt : i < ds.length
  · have ed : ds[i]? = some ds[i] := by simp [hlt]
    obtain ⟨j1, j2⟩ := I.go H' _ i _ hP' ed
    refine .inr ⟨j1, fun σ2 H2 => ∃ ρ2 o2, Grow (o.map Prod.snd) (o2.map Prod.snd) H1 H2 ∧ REnv X.K H₀ H2 σ2 ρ2 o2 ∧ P (i + 1) ρ2, fun σ2 H2 ⟨ρ2, o2, g2, R2, p2⟩ => ⟨_, (by omega : ds.length - (i + 1) < ds.length - i), rfl, hlt, ρ2, o2, g2, R2, p2⟩, fun x H2 y => ?_⟩
    obtain ⟨s2, rp⟩ := j2 x H2 y
    refine hl H₀.1 H2 σ' ρ' o' _ x _ _ (R'.to s2) rp (turn i _ ρ' ed p') fun ρ3 σ3 R3 q3 => ?_
    have g13 : Grow (o.map Prod.snd) (o'.map Prod.snd) H1 H2 := g'.trans (Grow.same s2)
    have gg3 : Grow (o.map Prod.snd) (o'.map Prod.snd) H H2 := gg.trans (Grow.same s2)
    exact ⟨ρ3, o', R3, _, q3, fun ρ4 σ4 H4 o4 g4 R4 q4 => ⟨ρ4, o4, g13.trans g4, R4, q4⟩, fun ρ4 σ4 H4 o4 g4 R4 q4 => k1 ρ4 σ4 H4 o4 (gg3.trans g4) R4 q4, fun ρ4 σ4 H4 o4 g4 R4 q4 => ⟨ρ4, o4, g13.trans g4, R4, q4⟩, k4⟩
  · have e : i = ds.length := by omega
    subst e
    exact .inl ⟨I.stop H' _ hP', k1 ρ' σ' H' o' gg R' (fin ρ' p')⟩
end
end DL

set_option Elab.async false
set_option linter.all false
set_option maxRecDepth 100000
set_option maxHeartbeats 4000000
namespace DL
open PySem PySem.Spec L2 L3
open PyProof.Rows hiding St
variable {Γ : Hp → Prop}
section
variable {X : Cx} {tg e : Expr} {te : TD} {t : TDs} {pos : Pos}
theorem impI {iter : Expr} {t t' : TI} (h : PI X tg iter t) (i : ∀ σ H R, t' σ H R → t σ H R) : PI X tg iter t' := fun pins s σ H R I q => h pins s σ H R I (i σ H R q)
/-- a value walked -/
noncomputable def PV (X : Cx) (tg : Expr) (r : V → Hp → (It → Hp → Prop) → Prop) : Prop :=
  ∀ (pins : List (Addr × Obj)) (s : Shared) (σ : St) (H : Hp) (x : V) (v : Value) (R : It → Hp → Prop), Inv X pins σ H s → RelV x v → r x H R → wpAny (model X.prog X.w) X.A (pyIter v) (PIE X pins σ tg R) X.xe s
theorem pi_of {l : Expr} {tl : TE} {r : V → Hp → (It → Hp → Prop) → Prop} (hl : PE X l tl) (hv : PV X tg r) : PI X tg l (fun σ H R => tl σ H fun x H1 => r x H1 R) := fun pins s σ H R I h =>
  thn (hl pins s σ H _ I h) fun v s1 ⟨x, H1, I1, r1, q1⟩ => hv pins s1 σ H1 x v R I1 r1 q1
theorem pv_list : PV X tg (fun x H R => ∃ a, x = .ref a ∧ (∃ xs, SqL X.K H a xs) ∧ R (Itl X.K a) H) := by
  intro pins s1 σ H1 x v R I1 r1 q1
  obtain ⟨a, e, ⟨xs, hq⟩, q⟩ := q1
  subst e
  cases r1
  obtain ⟨its, rv, p, hz⟩ := I1.list hq
  refine wpAny_pyIter_list p.isList ?_
  refine ⟨s1.heap.objs.size, [s1.heap.objs.size], _, _, H1, rfl, I1.kept (t' := s1.toks) fun b o e => Heap.get?_push_of_some _ e, turn_list a _, ⟨_, Heap.get?_push_size _ rfl, rfl, rfl⟩, fun b hb => ?_, q⟩
  have e : b = s1.heap.objs.size := by simpa using hb
  subst e
  exact I1.fpOk (Nat.le_refl _) (I1.hok.fresh (Nat.le_refl _))
theorem pv_tup : PV X tg (fun x H R => ∃ a, x = .ref a ∧ (∃ xs, SqT X.K H a xs) ∧ R (Itt X.K a) H) := by
  intro pins s1 σ H1 x v R I1 r1 q1
  obtain ⟨a, e, ⟨xs, hq⟩, q⟩ := q1
  subst e
  cases r1
  obtain ⟨its, rv, p, hz⟩ := I1.tuple hq
  refine wpAny_pyIter_tuple (show s1.heap.IsTuple a its.toArray from p) ?_
  refine ⟨s1.heap.objs.size, [s1.heap.objs.size], _, _, H1, rfl, I1.kept (t' := s1.toks) fun b o e => Heap.get?_push_of_some _ e, turn_tuple a _, ⟨_, Heap.get?_push_size _ rfl, rfl, rfl⟩, fun b hb => ?_, q⟩
  have e : b = s1.heap.objs.size := by simpa using hb
  subst e
  exact I1.fpOk (Nat.le_refl _) (I1.hok.fresh (Nat.le_refl _))
theorem pv_str : PV X tg (fun x H R => ∃ z, x = .str z ∧ R (Itv z.cps.size (SignV z)) H) := by
  intro pins s1 σ H1 x v R I1 r1 q1
  obtain ⟨z, e, q⟩ := q1
  subst e
  obtain ⟨t, rfl⟩ := r1
  have lay : ∀ (T : String), (∀ A : Around, A.handled = none → Walks X.prog X.w A s1.heap.objs.size [s1.heap.objs.size] [s1.heap.objs.size] z.cps.size (SignAt z) (fun i h => h.IsStrIter s1.heap.objs.size T z t i)) →
      (∀ (A : Around) (i : Nat) (s : Shared) (Q : Value → Shared → Prop) (E : Value → Shared → Prop), s.heap.IsStrIter s1.heap.objs.size T z t i → Q (.ref s1.heap.objs.size) s → wpAny (model X.prog X.w) A (pyIter (.ref s1.heap.objs.size)) Q E s) →
      ["enumerate", "zip", "dict_itemiterator", "dict_reverseitemiterator", "odict_iterator", "itertools.zip_longest", "itertools.pairwise"].contains T = false →
      PIE X pins σ tg R (.ref s1.heap.objs.size) { s1 with heap := s1.heap.push { cls := .type T, data := .fields #[.str z t, .int 0 0] } } := fun T W hs hT => by
    have I2 : Inv X pins σ H1 { s1 with heap := s1.heap.push { cls := .type T, data := .fields #[.str z t, .int 0 0] } } := I1.kept (t' := s1.toks) fun b u e => Heap.get?_push_of_some _ e
    refine ⟨s1.heap.objs.size, [s1.heap.objs.size], _, _, H1, rfl, I2, turn_str W hs hT, ⟨_, Heap.get?_push_size _ rfl, rfl, rfl⟩, fun b hb => ?_, q⟩
    have e : b = s1.heap.objs.size := by simpa using hb
    subst e
    exact I1.fpOk (Nat.le_refl _) I1.fresh
  cases ha : z.cps.all (· < 128)
  · exact wpAny_pyIter_wide ha (lay "str_iterator" (fun A hA => Walks.strWide hA _ z t) (fun A i s Q E st q => wpAny_pyIter_striter_wide st q) (by decide))
  · exact wpAny_pyIter_ascii ha (lay "str_ascii_iterator" (fun A hA => Walks.strAscii hA _ z t) (fun A i s Q E st q => wpAny_pyIter_striter_ascii st q) (by decide))
/-- what a list, a tuple, the script, a text has -/
noncomputable def itemsD : D → Option (List D)
  | .lst ds => some ds
  | .tup ds => some ds
  | .scr ns => some (ns.map D.int)
  | .str z => some (z.cps.toList.map fun c => D.str ⟨#[c]⟩)
  | _ => none
noncomputable def iSeq (te : TD) : TID := fun ρ φ => te ρ fun r => (match r.k with | .own => False | _ => True) ∧ match itemsD r.d with
  | some ds => φ ds
  | none => False
theorem it_lst {K : PySem.W.Frag} {a : Addr} {ds : List D} : ItD K (Itl K a) ds (fun H O => ∃ xs, H a = some (.lst xs) ∧ a ∉ O ∧ Reps K H O ds xs) where
  go := fun H O i d ⟨xs, q, n, r⟩ e => by
    obtain ⟨v, ev, rv⟩ := r.get e
    refine ⟨⟨xs, v, SqL.of q, ev⟩, fun x H' y => ?_⟩
    obtain ⟨e1, y⟩ := y
    subst e1
    have := y xs (SqL.of q)
    rw [ev] at this
    cases this
    exact ⟨Same.refl _, rv⟩
  stop := fun H O ⟨xs, q, n, r⟩ => ⟨xs, SqL.of q, by rw [r.length]; exact Nat.le_refl _⟩
  keep := fun O O' H H' ⟨xs, q, n, r⟩ g => ⟨xs, (g.keep _ _ q n).1, (g.keep _ _ q n).2, Reps.grow g _ _ r⟩
theorem it_tup {K : PySem.W.Frag} {a : Addr} {ds : List D} : ItD K (Itt K a) ds (fun H O => ∃ xs, SqT K H a xs ∧ Reps K H O ds xs) where
  go := fun H O i d ⟨xs, q, r⟩ e => by
    obtain ⟨v, ev, rv⟩ := r.get e
    refine ⟨⟨xs, v, q, ev⟩, fun x H' y => ?_⟩
    obtain ⟨e1, y⟩ := y
    subst e1
    have := y xs q
    rw [ev] at this
    cases this
    exact ⟨Same.refl _, rv⟩
  stop := fun H O ⟨xs, q, r⟩ => ⟨xs, q, by rw [r.length]; exact Nat.le_refl _⟩
  keep := fun O O' H H' ⟨xs, q, r⟩ g => ⟨xs, sqT_grow g q, Reps.grow g _ _ r⟩
theorem it_scr {K : PySem.W.Frag} {a : Addr} {ns : List Int} : ItD K (Itl K a) (ns.map D.int) (fun H _ => Scr K H a ns) where
  go := fun H O i d q e => by
    rw [List.getElem?_map] at e
    cases en : ns[i]? with
    | none => rw [en] at e; cases e
    | some n =>
      rw [en] at e
      cases e
      have ev : (ns.map V.int)[i]? = some (.int n) := by rw [List.getElem?_map, en]; rfl
      refine ⟨⟨_, _, q.seq, ev⟩, fun x H' y => ?_⟩
      obtain ⟨e1, y⟩ := y
      subst e1
      have := y _ q.seq
      rw [ev] at this
      cases this
      exact ⟨Same.refl _, rfl⟩
  stop := fun H O q => ⟨_, q.seq, by rw [List.length_map, List.length_map]; exact Nat.le_refl _⟩
  keep := fun O O' H H' q g => scr_grow g q
theorem it_str {K : PySem.W.Frag} {z : Str} : ItD K (Itv z.cps.size (SignV z)) (z.cps.toList.map fun c => D.str ⟨#[c]⟩) (fun _ _ => True) where
  go := fun H O i d _ e => by
    rw [List.getElem?_map] at e
    cases en : z.cps.toList[i]? with
    | none => rw [en] at e; cases e
    | some n =>
      rw [en] at e
      cases e
      have hl := (List.getElem?_eq_some_iff.mp en).1
      refine ⟨(show i < z.cps.size by simpa using hl), fun x H' y => ?_⟩
      obtain ⟨e1, c, hc, ex⟩ := y
      subst e1 ex
      have : z.cps.toList[i]? = some c := by rw [Array.getElem?_toList]; exact hc
      rw [en] at this
      cases this
      exact ⟨Same.refl _, rfl⟩
  stop := fun H O _ => by show _ = _; simp
  keep := fun _ _ _ _ _ _ => trivial
noncomputable def rngD (lo : Int) (n : Nat) : List D := (List.range n).map fun (i : Nat) => D.int (lo + (i : Int))
theorem it_rng {K : PySem.W.Frag} {lo : Int} {n : Nat} : ItD K (Itr lo n) (rngD lo n) (fun _ _ => True) where
  go := fun H O i d _ e => by
    unfold rngD at e
    rw [List.getElem?_map] at e
    cases en : (List.range n)[i]? with
    | none => rw [en] at e; cases e
    | some m =>
      rw [en] at e
      cases e
      have hl := (List.getElem?_eq_some_iff.mp en).1
      rw [List.length_range] at hl
      have : m = i := by
        rw [List.getElem?_range hl] at en
        exact (Option.some.inj en).symm
      subst this
      refine ⟨hl, fun x H' y => ?_⟩
      obtain ⟨e1, ex⟩ := y
      subst e1 ex
      exact ⟨Same.refl _, rfl⟩
  stop := fun H O _ => by show n ≤ _; unfold rngD; simp
  keep := fun _ _ _ _ _ _ => trivial
theorem PV.or {r r' : V → Hp → (It → Hp → Prop) → Prop} (h : PV X tg r) (h' : PV X tg r') : PV X tg (fun x H R => r x H R ∨ r' x H R) := fun pins s σ H x v R I rx q => q.elim (h pins s σ H x v R I rx) (h' pins s σ H x v R I rx)
theorem ei_seq (he : ED Γ X e te) : EI Γ X tg e (iSeq te) := fun H₀ => impI (pi_of (he H₀) (pv_list.or (pv_tup.or pv_str))) fun σ H R q => by
  obtain ⟨ρ, o, RE, φ, hφ, k⟩ := q
  refine ⟨ρ, o, RE, _, hφ, fun v r H1 s1 rv h1 => ?_⟩
  obtain ⟨h0, h1⟩ := h1
  have rp := rv.solid (notOwn h0)
  obtain ⟨kd, d⟩ := r
  cases d with
  | lst ds =>
    obtain ⟨a, xs, rfl, q, n, r⟩ := rp
    exact .inl ⟨a, rfl, ⟨xs, SqL.of q⟩, k _ _ _ H1 s1 it_lst ⟨xs, q, n, r⟩ h1⟩
  | tup ds =>
    obtain ⟨a, xs, rfl, q, r⟩ := rp
    exact .inr (.inl ⟨a, rfl, ⟨xs, q.1⟩, k _ _ _ H1 s1 it_tup ⟨xs, q.1, r⟩ h1⟩)
  | scr ns =>
    obtain ⟨a, rfl, q⟩ := rp
    exact .inl ⟨a, rfl, ⟨_, q.seq⟩, k _ _ _ H1 s1 it_scr q h1⟩
  | str z =>
    cases (show v = _ from rp)
    exact .inr (.inr ⟨z, rfl, k _ _ _ H1 s1 it_str trivial h1⟩)
  | _ => exact h1.elim
noncomputable def iR1 (t : TDs) : TID := fun ρ φ => t ρ fun rs => match rs with
  | [⟨_, .int j⟩] => -(2 ^ 62) ≤ j ∧ j < 2 ^ 62 ∧ φ (rngD 0 j.toNat)
  | _ => False
noncomputable def iR2 (t : TDs) : TID := fun ρ φ => t ρ fun rs => match rs with
  | [⟨_, .int i⟩, ⟨_, .int j⟩] => (-(2 ^ 62) ≤ i ∧ i < 2 ^ 62 ∧ -(2 ^ 62) ≤ j ∧ j < 2 ^ 62) ∧ φ (rngD i (j - i).toNat)
  | _ => False
theorem ei_range1 {a : Expr} {p : Pos} (hm : X.mg "range" = none) (ha : EA Γ X [a] t) (hg : Gl X "range" := by rfl) (hs : starEach [a] X.env = [(false, eval a X.env)] := by rfl) : EI Γ X tg (.Call (.Name "range" p) [a] [] pos) (iR1 t) := fun H₀ => impI (pi_range1 hg hm (ha H₀) hs) fun σ H R q => by
  obtain ⟨ρ, o, RE, φ, hφ, k⟩ := q
  refine ⟨ρ, o, RE, _, hφ, fun vs rs H1 s1 rvs h1 => ?_⟩
  split at h1
  · rename_i kd j
    obtain ⟨v, ws, rfl, rv, rfl⟩ := rvs
    cases (show v = _ from rv.view)
    exact ⟨j, rfl, h1.1, h1.2.1, k _ _ _ H1 s1 it_rng trivial h1.2.2⟩
  · exact h1.elim
theorem ei_range2 {a b : Expr} {p : Pos} (hm : X.mg "range" = none) (ha : EA Γ X [a, b] t) (hg : Gl X "range" := by rfl) (hs : starEach [a, b] X.env = [(false, eval a X.env), (false, eval b X.env)] := by rfl) (hs2 : starEach [b] X.env = [(false, eval b X.env)] := by rfl) : EI Γ X tg (.Call (.Name "range" p) [a, b] [] pos) (iR2 t) := fun H₀ => impI (pi_range2 hg hm (ha H₀) hs hs2) fun σ H R q => by
  obtain ⟨ρ, o, RE, φ, hφ, k⟩ := q
  refine ⟨ρ, o, RE, _, hφ, fun vs rs H1 s1 rvs h1 => ?_⟩
  split at h1
  · rename_i kd i kd2 j
    obtain ⟨v, ws, rfl, rv, v2, ws2, rfl, rv2, rfl⟩ := rvs
    cases (show v = _ from rv.view)
    cases (show v2 = _ from rv2.view)
    exact ⟨i, j, rfl, h1.1, k _ _ _ H1 s1 it_rng trivial h1.2⟩
  · exact h1.elim
end

section
variable {X : Cx} {σ : St} {scope : Scope} {T F : List Str} {js : List Nat} {tg iter elt : Expr} {ifs : List Expr} {pos : Pos} {ti : TID} {g2 : TG} {g : TGD} {tc : TDb} {te : TD}
/-- the names within: the targets unbound, then those of around -/
noncomputable def ρ0 (n : Nat) (js : List Nat) (ρ : DE) : DE := List.replicate n none ++ js.map fun j => slot ρ j
noncomputable def ixO (n : Nat) (js : List Nat) (j : Nat) : Nat := if j ∈ js then n + js.idxOf j else n + js.length + 1 + j
theorem slot_iff : ∀ {ρ : DE} {i : Nat} {r : EV}, slot ρ i = some r ↔ ρ[i]? = some (some r)
  | [], _, _ => by simp [slot]
  | x :: _, 0, _ => by simp [slot]
  | _ :: l, i + 1, r => by rw [slot, List.getElem?_cons_succ]; exact slot_iff (ρ := l)
/-- the frame of the block, and the list D that is gathered -/
theorem renv_block {K : PySem.W.Frag} {H₀ H H' : Hp} {σ : St} {ρ : DE} {o : List (Nat × Addr)} {n : Nat} {js : List Nat} {D : Addr} {ys : List V} (R : REnv K H₀ H σ ρ o) (nd : js.Nodup) (hD : H D = none) (s : Same H H') (hD' : H' D = some (.lst ys)) (Tn : List Str) (hT : Tn.length = n) :
    REnv K H₀ H' (st0 Tn js σ) (ρ0 n js ρ) ((n + js.length, D) :: o.map fun p => (ixO n js p.1, p.2)) := by
  have hO : ((n + js.length, D) :: o.map fun p => (ixO n js p.1, p.2)).map Prod.snd = D :: o.map Prod.snd := by
    rw [List.map_cons, List.map_map]
    rfl
  have g : Grow (o.map Prod.snd) (D :: o.map Prod.snd) H H' := ⟨fun b u h nb => ⟨s b u h, fun z => (List.mem_cons.mp z).elim (fun e => ne_of_none h hD e) nb⟩, fun b xs h => s b _ h, fun b ob u h => s b _ h⟩
  have R' := R.to s
  exact {
    same := R'.same
    fresh := fun p hp => by
      rcases List.mem_cons.mp hp with rfl | hp
      · exact R.same.free hD
      · obtain ⟨q, hq, rfl⟩ := List.mem_map.mp hp
        exact R.fresh q hq
    trk := fun p hp => by
      rcases List.mem_cons.mp hp with rfl | hp
      · exact ⟨_, hD'⟩
      · obtain ⟨q, hq, rfl⟩ := List.mem_map.mp hp
        exact R'.trk q hq
    mtb := fun p hp => by
      rcases List.mem_cons.mp hp with rfl | hp
      · exact ⟨(fun xs z => by rw [hD'] at z; cases z), (fun ob u z => by rw [hD'] at z; cases z)⟩
      · obtain ⟨q, hq, rfl⟩ := List.mem_map.mp hp
        exact R'.mtb q hq
    nda := by
      rw [hO, List.nodup_cons]
      exact ⟨R.ofree hD, R.nda⟩
    len := by
      unfold st0 ρ0
      simp [hT]
    slots := fun i r e => by
      rw [hO]
      unfold ρ0 at e
      have hi : n ≤ i := by
        rcases Nat.lt_or_ge i n with z | z
        · rw [List.getElem?_append_left (by simpa using z), List.getElem?_replicate] at e
          split at e <;> cases e
        · exact z
      rw [List.getElem?_append_right (by simpa using hi), List.length_replicate, List.getElem?_map] at e
      cases ej : js[i - n]? with
      | none => rw [ej] at e; cases e
      | some j =>
        rw [ej] at e
        have e' : slot ρ j = some r := Option.some.inj e
        obtain ⟨v, ev, q⟩ := R.slots j r (slot_eq e')
        refine ⟨v, ?_, ?_⟩
        · unfold st0
          rw [List.getElem?_append_right (by simpa [hT] using hi), List.length_replicate, List.getElem?_map, hT, ej]
          show some ((σ[j]?).join) = _
          rw [ev]
          rfl
        · rcases q with ⟨k, q⟩ | ⟨k, a, e1, m, c⟩
          · exact .inl ⟨k, Rep.grow g _ _ q⟩
          · refine .inr ⟨k, a, e1, List.mem_cons_of_mem _ (List.mem_map.mpr ⟨_, m, ?_⟩), c.grow (fun u q => s _ _ q) g⟩
            have hmem : j ∈ js := List.mem_of_getElem? ej
            have hidx : js.idxOf j = i - n := by
              have h1 := (List.getElem?_eq_some_iff.mp ej)
              have h2 := List.getElem_idxOf (List.idxOf_lt_length_iff.mpr hmem)
              exact (List.getElem_inj nd).mp (h2.trans h1.2.symm)
            show (ixO n js j, a) = (i, a)
            unfold ixO
            rw [if_pos hmem, hidx]
            congr 1
            omega }
noncomputable def bYes : TDb := fun _ φ => φ true
noncomputable def dComp (ti : TID) (n : Nat) (js : List Nat) (g : TGD) (tc : TDb) (te : TD) : TD := fun ρ φ => ti ρ fun ds => ∃ f : D → Option D, ds.length ≤ 100000 ∧
  (∀ d ∈ ds, g d (ρ0 n js ρ) fun ρ' => tc ρ' fun c => (c = true → te ρ' fun r => (match r.k with | .own => False | _ => True) ∧ f d = some r.d) ∧ (c = false → f d = none)) ∧ φ (df (.lst (ds.filterMap f)))
/-- a clause's tests -/
noncomputable def EIf (G : Hp → Prop) (X : Cx) (ifs : List Expr) (t : TDb) : Prop := ∀ H₀ : {H : Hp // G H}, PIf X ifs (liftT X.K H₀.1 t)
theorem eif_nil : EIf Γ X [] bYes := fun H₀ pins s σ H Q I h => by
  obtain ⟨ρ, o, R, φ, hφ, k⟩ := h
  exact pif_nil pins s σ H Q I (k true H (Same.refl H) hφ)
theorem eif_one {c : Expr} (h : ET Γ X c tc) : EIf Γ X [c] tc := fun H₀ => pif_one (h H₀)
theorem lift_comp {H₀ : Hp} (nd : js.Nodup) (hl : GLink X.K g2 g) : ∀ σ H Q, liftE X.K H₀ (dComp ti T.length js g tc te) σ H Q → tComp (liftI X.K H₀ ti) T js g2 (liftT X.K H₀ tc) (liftE X.K H₀ te) σ H Q := fun σ H Q q => by
    obtain ⟨ρ, o, R, φ, hφ, k⟩ := q
    refine ⟨ρ, o, R, _, hφ, fun J ds P H1 s1 I hP ⟨f, hlen, turn, fin⟩ Da hDa => ?_⟩
    have R1 := R.to s1
    have gD : ∀ {H' : Hp}, Same H1 H' → Grow (o.map Prod.snd) (Da :: o.map Prod.snd) H1 H' := fun s => ⟨fun b u h nb => ⟨s b u h, fun z => (List.mem_cons.mp z).elim (fun e => ne_of_none h hDa e) nb⟩, fun b xs h => s b _ h, fun b ob u h => s b _ h⟩
    refine ⟨fun i m ys H' => m = ds.length - i ∧ i ≤ ds.length ∧ Same H1 H' ∧ H' Da = some (.lst ys) ∧ Reps X.K H' (Da :: o.map Prod.snd) ((ds.take i).filterMap f) ys,
      ⟨_, rfl, Nat.zero_le _, same_new hDa _, upd_same, rfl⟩, ?_⟩
    rintro i m ys H' ⟨rfl, hi', s2, hD', rp⟩
    refine ⟨hD', ?_⟩
    have hP' := I.keep _ _ _ _ hP (gD s2)
    by_cases hlt : i < ds.length
    · have ed : ds[i]? = some ds[i] := by simp [hlt]
      obtain ⟨j1, j2⟩ := I.go H' _ i _ hP' ed
      refine .inr ⟨j1, fun zs H2 => Same H1 H2 ∧ H2 Da = some (.lst zs) ∧ Reps X.K H2 (Da :: o.map Prod.snd) ((ds.take (i + 1)).filterMap f) zs, fun zs H2 ⟨a1, a2, a3⟩ => ⟨_, (by omega : ds.length - (i + 1) < ds.length - i), rfl, hlt, a1, a2, a3⟩, fun x H2 y => ?_⟩
      obtain ⟨s3, rx⟩ := j2 x H2 y
      have s13 := s2.trans s3
      have hD2 := s3 _ _ hD'
      have RB := renv_block (n := T.length) R1 nd hDa s13 hD2 T rfl
      have hO : ((T.length + js.length, Da) :: o.map fun p => (ixO T.length js p.1, p.2)).map Prod.snd = Da :: o.map Prod.snd := by
        rw [List.map_cons, List.map_map]
        rfl
      have tk : (ds.take (i + 1)).filterMap f = (ds.take i).filterMap f ++ (f ds[i]).toList := by
        rw [List.take_succ, ed, List.filterMap_append]
        cases e : f ds[i] <;> simp [e]
      have rpl : ys.length ≤ 100000 := by
        rw [rp.length]
        refine Nat.le_trans (List.length_filterMap_le _ _) ?_
        rw [List.length_take]
        omega
      refine hl H₀ H2 (st0 T js σ) (ρ0 T.length js ρ) _ _ x _ _ RB (by rw [hO]; exact rx) (turn _ (List.getElem_mem hlt)) fun ρ' σ' R' q' => ?_
      refine ⟨ρ', _, R', _, q', fun c H3 s4 h4 => ?_⟩
      have hD3 := s4 _ _ hD2
      cases c with
      | false =>
        refine iteF ⟨s13.trans s4, hD3, ?_⟩
        rw [tk, h4.2 rfl]
        simpa using Reps.grow (Grow.same (s3.trans s4)) _ _ rp
      | true =>
        refine iteT ⟨ρ', _, R'.to s4, _, h4.1 rfl, fun v r H4 s5 rv h5 => ?_⟩
        have hD4 := s5 _ _ hD3
        have rd := rv.solid (notOwn h5.1)
        rw [hO] at rd
        have ne : ∀ b u, H1 b = some u → b ≠ Da := fun b u h => ne_of_none h hDa
        have gu : Grow (Da :: o.map Prod.snd) (Da :: o.map Prod.snd) H4 (upd H4 Da (.lst (ys ++ [v]))) :=
          ⟨fun b u h n => ⟨by rw [upd_ne (fun z => n (List.mem_cons.mpr (.inl z)))]; exact h, n⟩, fun b xs h => by rw [upd_ne (fun z => by rw [z, hD4] at h; cases h)]; exact h, fun b ob u h => by rw [upd_ne (fun z => by rw [z, hD4] at h; cases h)]; exact h⟩
        refine ⟨hD4, Nat.lt_of_le_of_lt rpl (by decide), ⟨fun b u h => ?_, upd_same, ?_⟩⟩
        · rw [upd_ne (ne b u h)]
          exact s5 _ _ (s4 _ _ (s13 b u h))
        · rw [tk, h5.2]
          exact Reps.grow gu _ _ ((Reps.grow (Grow.same (s3.trans (s4.trans s5))) _ _ rp).append (Reps.one rd))
    · have e : i = ds.length := by omega
      subst e
      rw [List.take_length] at rp
      refine .inl ⟨I.stop H' _ hP', ?_⟩
      exact k (.ref Da) (df (.lst (ds.filterMap f))) H' (s1.trans s2) ⟨Da, rfl, s1.free hDa, R.ofree (s1.free hDa), ys, hD', rp⟩ fin
theorem ed_comp (hi : EI Γ X tg iter ti) (S : CompScope X.env.scope scope T F) (hjs : Paired (fun x j => X.N[j]? = some x) F js) (nd : js.Nodup)
    (hg : ∀ cl C fp s H, PG (cxComp X (T ++ F) scope cl C fp s H) tg g2) (hk : GKeep T.length g2) (hl : GLink X.K g2 g)
    (ht : ∀ cl C fp s H, EIf Γ (cxComp X (T ++ F) scope cl C fp s H) ifs tc) (he : ∀ cl C fp s H, ED Γ (cxComp X (T ++ F) scope cl C fp s H) elt te)
    (hc : X.calm = true := by rfl) (hs : ∀ x, foldedSetIterable iter X.env x = pure x := by intro _; rfl) : ED Γ X (.ListComp elt [⟨tg, iter, ifs, 0⟩] scope pos) (dComp ti T.length js g tc te) := fun H₀ =>
  impE (pe_comp (tc := liftT X.K H₀.1 tc) (te := liftE X.K H₀.1 te) hc (hi H₀) S hjs hg hk (fun cl C fp s H => ht cl C fp s H H₀) (fun cl C fp s H => he cl C fp s H H₀) hs) (lift_comp nd hl)
end
end DL

set_option Elab.async false
set_option linter.all false
set_option maxRecDepth 100000
set_option maxHeartbeats 4000000
namespace DL
open PySem PySem.Spec L2 L3
open PyProof.Rows hiding St
variable {Γ : Hp → Prop}
section
variable {X : Cx} {x : Str} {e a b : Expr} {es : List Expr} {t : TDs} {ta tb : TD} {p pos : Pos}
/-- what the module's classes have to do with Python's own: nothing -/
structure Kit (K : PySem.W.Frag) : Prop where
  ne : ∀ q ∈ ([("NoneType", "int"), ("NoneType", "bool"), ("NoneType", "str"), ("NoneType", "tuple"), ("NoneType", "list"), ("NoneType", "dict"), ("bool", "str"), ("bool", "tuple"), ("bool", "list"), ("bool", "dict"),
    ("int", "bool"), ("int", "str"), ("int", "tuple"), ("int", "list"), ("int", "dict"), ("str", "int"), ("str", "bool"), ("str", "tuple"), ("str", "list"), ("str", "dict"),
    ("tuple", "int"), ("tuple", "bool"), ("tuple", "str"), ("tuple", "list"), ("tuple", "dict"), ("list", "int"), ("list", "bool"), ("list", "str"), ("list", "tuple"), ("list", "dict"),
    ("dict", "int"), ("dict", "bool"), ("dict", "str"), ("dict", "tuple"), ("dict", "list")] : List (String × String)), PySem.W.kitOne K (.type q.1) (.type q.2) = some false
  bi : PySem.W.kitOne K (.type "bool") (.type "int") = some true
theorem kit_all {K : PySem.W.Frag} : Kit K := by
  constructor
  · intro q hq
    simp only [List.mem_cons, List.not_mem_nil, or_false] at hq
    rcases hq with rfl | rfl | rfl | rfl | rfl | rfl | rfl | rfl | rfl | rfl | rfl | rfl | rfl | rfl | rfl | rfl | rfl | rfl | rfl | rfl | rfl | rfl | rfl | rfl | rfl | rfl | rfl | rfl | rfl | rfl | rfl | rfl | rfl | rfl | rfl <;> kernel_rfl
  · kernel_rfl
theorem kit_same {K : PySem.W.Frag} {T : String} : PySem.W.kitOne K (.type T) (.type T) = some true := by
  unfold PySem.W.kitOne
  rw [if_pos (by simp)]
theorem boot_str' : bootBuiltins "str" = some (.type "str") := by decide +kernel
theorem boot_int' : bootBuiltins "int" = some (.type "int") := by decide +kernel
theorem boot_tuple' : bootBuiltins "tuple" = some (.type "tuple") := by decide +kernel
theorem boot_isinstance' : bootBuiltins "isinstance" = some (.builtin "isinstance") := by decide +kernel
theorem kit_ne {K : PySem.W.Frag} (a T : String) (h : (a, T) ∈ ([("NoneType", "int"), ("NoneType", "bool"), ("NoneType", "str"), ("NoneType", "tuple"), ("NoneType", "list"), ("NoneType", "dict"), ("bool", "str"), ("bool", "tuple"), ("bool", "list"), ("bool", "dict"),
    ("int", "bool"), ("int", "str"), ("int", "tuple"), ("int", "list"), ("int", "dict"), ("str", "int"), ("str", "bool"), ("str", "tuple"), ("str", "list"), ("str", "dict"),
    ("tuple", "int"), ("tuple", "bool"), ("tuple", "str"), ("tuple", "list"), ("tuple", "dict"), ("list", "int"), ("list", "bool"), ("list", "str"), ("list", "tuple"), ("list", "dict"),
    ("dict", "int"), ("dict", "bool"), ("dict", "str"), ("dict", "tuple"), ("dict", "list")] : List (String × String))) : PySem.W.kitOne K (.type a) (.type T) = some false := kit_all.ne (a, T) h
noncomputable def tyName : D → String
  | .non => "NoneType"
  | .bl _ => "bool"
  | .int _ => "int"
  | .str _ => "str"
  | .tup _ => "tuple"
  | .lst _ => "list"
  | .dk _ _ => "dict"
  | .dt _ _ => "dict"
  | .ty _ => "type"
  | .cn _ => "tuple"
  | .scr _ => "list"
  | .exc _ => "exc"
  | .fd _ => "exc"
noncomputable def kitPairs : List (String × String) := [("NoneType", "int"), ("NoneType", "bool"), ("NoneType", "str"), ("NoneType", "tuple"), ("NoneType", "list"), ("NoneType", "dict"), ("bool", "str"), ("bool", "tuple"), ("bool", "list"), ("bool", "dict"),
    ("int", "bool"), ("int", "str"), ("int", "tuple"), ("int", "list"), ("int", "dict"), ("str", "int"), ("str", "bool"), ("str", "tuple"), ("str", "list"), ("str", "dict"),
    ("tuple", "int"), ("tuple", "bool"), ("tuple", "str"), ("tuple", "list"), ("tuple", "dict"), ("list", "int"), ("list", "bool"), ("list", "str"), ("list", "tuple"), ("list", "dict"),
    ("dict", "int"), ("dict", "bool"), ("dict", "str"), ("dict", "tuple"), ("dict", "list")]
noncomputable def isN (a T : String) : Option Bool := if a = T then some true else if a = "bool" ∧ T = "int" then some true else if (a, T) ∈ kitPairs then some false else none
/-- isinstance(x, T) -/
noncomputable def isT (d : D) (T : String) : Option Bool := match d with
  | .ty _ => none
  | .cn _ => none
  | .scr _ => none
  | .exc _ => none
  | .fd _ => none
  | d => isN (tyName d) T
theorem isN_kit {K : PySem.W.Frag} {a T : String} {b : Bool} (h : isN a T = some b) : PySem.W.kitOne K (.type a) (.type T) = some b := by
  unfold isN at h
  split at h
  · rename_i q
    cases h
    subst q
    exact kit_same
  · split at h
    · rename_i q
      cases h
      obtain ⟨rfl, rfl⟩ := q
      exact kit_all.bi
    · split at h
      · rename_i q
        cases h
        exact kit_ne a T q
      · cases h
theorem isT_kit {K : PySem.W.Frag} {d : D} {T : String} {b : Bool} (h : isT d T = some b) : PySem.W.kitOne K (.type (tyName d)) (.type T) = some b := by
  cases d with
  | ty _ => cases h
  | cn _ => cases h
  | scr _ => cases h
  | exc _ => cases h
  | fd _ => cases h
  | _ => exact isN_kit h
theorem isT_non_int : isT .non "int" = some false := (by decide : isN "NoneType" "int" = some false)
theorem isT_non_bool : isT .non "bool" = some false := (by decide : isN "NoneType" "bool" = some false)
theorem isT_non_tuple : isT .non "tuple" = some false := (by decide : isN "NoneType" "tuple" = some false)
theorem isT_bl_int (b : Bool) : isT (.bl b) "int" = some true := (by decide : isN "bool" "int" = some true)
theorem isT_bl_bool (b : Bool) : isT (.bl b) "bool" = some true := (by decide : isN "bool" "bool" = some true)
theorem isT_bl_tuple (b : Bool) : isT (.bl b) "tuple" = some false := (by decide : isN "bool" "tuple" = some false)
theorem isT_int_int (i : Int) : isT (.int i) "int" = some true := (by decide : isN "int" "int" = some true)
theorem isT_int_bool (i : Int) : isT (.int i) "bool" = some false := (by decide : isN "int" "bool" = some false)
theorem isT_int_str (i : Int) : isT (.int i) "str" = some false := (by decide : isN "int" "str" = some false)
theorem isT_int_tuple (i : Int) : isT (.int i) "tuple" = some false := (by decide : isN "int" "tuple" = some false)
theorem isT_str_int (x : Str) : isT (.str x) "int" = some false := (by decide : isN "str" "int" = some false)
theorem isT_str_bool (x : Str) : isT (.str x) "bool" = some false := (by decide : isN "str" "bool" = some false)
theorem isT_str_str (x : Str) : isT (.str x) "str" = some true := (by decide : isN "str" "str" = some true)
theorem isT_str_tuple (x : Str) : isT (.str x) "tuple" = some false := (by decide : isN "str" "tuple" = some false)
theorem isT_tup_int (l : List D) : isT (.tup l) "int" = some false := (by decide : isN "tuple" "int" = some false)
theorem isT_tup_bool (l : List D) : isT (.tup l) "bool" = some false := (by decide : isN "tuple" "bool" = some false)
theorem isT_tup_tuple (l : List D) : isT (.tup l) "tuple" = some true := (by decide : isN "tuple" "tuple" = some true)
theorem isT_tup_list (l : List D) : isT (.tup l) "list" = some false := (by decide : isN "tuple" "list" = some false)
theorem isT_lst_int (l : List D) : isT (.lst l) "int" = some false := (by decide : isN "list" "int" = some false)
theorem isT_lst_bool (l : List D) : isT (.lst l) "bool" = some false := (by decide : isN "list" "bool" = some false)
theorem isT_lst_tuple (l : List D) : isT (.lst l) "tuple" = some false := (by decide : isN "list" "tuple" = some false)
theorem isT_lst_list (l : List D) : isT (.lst l) "list" = some true := (by decide : isN "list" "list" = some true)
theorem isT_dk_int (k : List Key) (l : List D) : isT (.dk k l) "int" = some false := (by decide : isN "dict" "int" = some false)
theorem isT_dk_bool (k : List Key) (l : List D) : isT (.dk k l) "bool" = some false := (by decide : isN "dict" "bool" = some false)
theorem isT_dk_tuple (k : List Key) (l : List D) : isT (.dk k l) "tuple" = some false := (by decide : isN "dict" "tuple" = some false)
theorem isT_dk_dict (k : List Key) (l : List D) : isT (.dk k l) "dict" = some true := (by decide : isN "dict" "dict" = some true)
theorem call_isD : CallR X (.builtin "isinstance") (fun xs H Q => ∃ d x T b, xs = [x, .ty T] ∧ Rep X.K H [] d x ∧ isT d T = some b ∧ Q (.bl b) H) := by
  intro pins s σ H xs us Q I r h
  obtain ⟨d, x, T, b, rfl, rp, e, q⟩ := h
  obtain ⟨u, v, rfl, ru, rv⟩ := vals2 r
  cases rv
  have ek := isT_kit (K := X.K) e
  have fin : ∀ tk, EP X pins σ Q (.bool b) { s with toks := tk } := fun tk => ⟨.bl b, H, I.tok tk, rfl, q⟩
  cases d with
  | non => cases (show x = _ from rp); exact isinst_ok I ru .non ek fin
  | bl c => cases (show x = _ from rp); exact isinst_ok I ru (.bl c) ek fin
  | int c => cases (show x = _ from rp); exact isinst_ok I ru (.int c) ek fin
  | str c => cases (show x = _ from rp); exact isinst_ok I ru (.str c) ek fin
  | ty _ => cases e
  | cn _ => cases e
  | scr _ => cases e
  | exc _ => cases e
  | fd _ => cases e
  | lst ds => obtain ⟨a, xs, rfl, q1, _⟩ := rp; exact isinst_ok I ru (.lst q1) ek fin
  | dk ks ds => obtain ⟨a, xs, rfl, q1, _⟩ := rp; exact isinst_ok I ru (.dK q1) ek fin
  | dt ks ds => obtain ⟨a, xs, rfl, q1, _⟩ := rp; exact isinst_ok I ru (.dT q1) ek fin
  | tup ds =>
    obtain ⟨a, xs, rfl, q1, _⟩ := rp
    cases (show u = Value.ref a from ru)
    obtain ⟨its, _, p, _⟩ := I.tuple q1.1
    obtain ⟨o, h1, h2, _⟩ := p
    exact PySem.W.kia_one PySem.W.kitx_tuple I.kIn ⟨o, h1, h2⟩ ek (fun z => nomatch z) fin
noncomputable def sIsI : FT := fun ds φ => match ds with
  | [d, .ty T] => match isT d T with
    | some b => φ (dv (.bl b))
    | none => False
  | _ => False
theorem ed_isinst (hm : X.mg "isinstance" = none) (ha : EA Γ X (e :: es) t) (hg : Gl X "isinstance" := by rfl) (he : starEach (e :: es) X.env = (false, eval e X.env) :: starEach es X.env := by rfl) (hpl : (backTo pos (starEach es X.env)).any (·.1) = false := by rfl) : ED Γ X (.Call (.Name "isinstance" p) (e :: es) [] pos) (dCB sIsI t) :=
  ed_callB call_isD (fun H O ds vs φ Q ho hv h k => by
    unfold sIsI at h
    split at h
    · split at h
      · rename_i d T b eb
        obtain ⟨v, ws, rfl, h1, v2, ws2, rfl, h2, rfl⟩ := hv
        cases (show v2 = _ from h2)
        exact ⟨_, v, _, _, rfl, h1.rep0, eb, k _ _ H (Same.refl H) (by exact rfl) h⟩
      · exact h.elim
    · exact h.elim) hm boot_isinstance' ha hg (by decide) (by decide) he hpl
noncomputable def sStr : FT := fun ds φ => match ds with
  | [.int i] => i.natAbs.log2 < 1920 ∧ φ (dv (.str (toString i)))
  | _ => False
theorem ed_strI (hm : X.mg "str" = none) (ha : EA Γ X (e :: es) t) (hg : Gl X "str" := by rfl) (he : starEach (e :: es) X.env = (false, eval e X.env) :: starEach es X.env := by rfl) (hpl : (backTo pos (starEach es X.env)).any (·.1) = false := by rfl) : ED Γ X (.Call (.Name "str" p) (e :: es) [] pos) (dCB sStr t) :=
  ed_callTy call_str_int (fun H O ds vs φ Q ho hv h k => by
    unfold sStr at h
    split at h
    · obtain ⟨v, ws, rfl, h1, rfl⟩ := hv
      cases (show v = _ from h1)
      exact ⟨_, rfl, h.1, k _ _ H (Same.refl H) (by exact rfl) h.2⟩
    · exact h.elim) hm boot_str' ha hg (by decide) (by decide) he hpl
noncomputable def sTupC : FT := fun ds φ => match ds with
  | [.lst l] => φ (dv (.tup l))
  | [.tup l] => φ (dv (.tup l))
  | _ => False
theorem ed_tupleC (hm : X.mg "tuple" = none) (ha : EA Γ X (e :: es) t) (hg : Gl X "tuple" := by rfl) (he : starEach (e :: es) X.env = (false, eval e X.env) :: starEach es X.env := by rfl) (hpl : (backTo pos (starEach es X.env)).any (·.1) = false := by rfl) : ED Γ X (.Call (.Name "tuple" p) (e :: es) [] pos) (dCB sTupC t) :=
  ed_callTy call_tuple_of (fun H O ds vs φ Q ho hv h k => by
    unfold sTupC at h
    split at h
    · obtain ⟨v, ws, rfl, ⟨a, xs, rfl, q, r⟩, rfl⟩ := hv
      exact ⟨a, xs, rfl, .inl ⟨SqL.of q, fun l hl => k _ _ _ (same_new hl _) (rv_tup hl r) h⟩⟩
    · obtain ⟨v, ws, rfl, ⟨a, xs, rfl, q, r⟩, rfl⟩ := hv
      exact ⟨a, xs, rfl, .inr ⟨q.1, k (.ref a) (dv (.tup _)) H (Same.refl H) ⟨a, xs, rfl, q, r⟩ h⟩⟩
    · exact h.elim) hm boot_tuple' ha hg (by decide) (by decide) he hpl
noncomputable def sListC : FT := fun ds φ => match ds with
  | [.lst l] => φ (df (.lst l))
  | [.tup l] => φ (df (.lst l))
  | _ => False
noncomputable def sIntC : FT := fun ds φ => match ds with
  | [.bl b] => φ (dv (.int (if b then 1 else 0)))
  | [.int i] => φ (dv (.int i))
  | _ => False
theorem ed_intC (hm : X.mg "int" = none) (ha : EA Γ X (e :: es) t) (hg : Gl X "int" := by rfl) (he : starEach (e :: es) X.env = (false, eval e X.env) :: starEach es X.env := by rfl) (hpl : (backTo pos (starEach es X.env)).any (·.1) = false := by rfl) : ED Γ X (.Call (.Name "int" p) (e :: es) [] pos) (dCB sIntC t) :=
  ed_callTy call_int1 (fun H O ds vs φ Q ho hv h k => by
    unfold sIntC at h
    split at h
    · obtain ⟨v, ws, rfl, h1, rfl⟩ := hv
      cases (show v = _ from h1)
      exact .inr ⟨_, rfl, k _ _ H (Same.refl H) (by exact rfl) h⟩
    · obtain ⟨v, ws, rfl, h1, rfl⟩ := hv
      cases (show v = _ from h1)
      exact .inl ⟨_, rfl, k _ _ H (Same.refl H) (by exact rfl) h⟩
    · exact h.elim) hm boot_int' ha hg (by decide) (by decide) he hpl
end

section
variable {X : Cx} {x : Str} {e : Expr} {te : TD} {apos np cpos pos : Pos}
noncomputable def sApp (i : Nat) (te : TD) : TDS := fun ρ Z => match slot ρ i with
  | some ⟨.own, .lst ds⟩ => te ρ fun r => (match r.k with | .own => False | _ => True) ∧ ds.length ≤ 100000 ∧ Z.nx (setS ρ i (dO (.lst (ds ++ [r.d]))))
  | _ => False
theorem sd_append (i : Nat) (he : ED Γ X e te) (hN : X.N[i]? = some x := by rfl) (hv : Vis X.env.scope x := by first | exact Or.inl rfl | exact Or.inr (Or.inl rfl) | exact Or.inr (Or.inr rfl)) (hd : (x == ("__debug__" : Str)) = false := by decide)
    (hcd : (x == ("__classdict__" : Str)) = false := by decide)
    (hp : ∀ {ta tb : TE}, PE X (.Name x np) ta → PE X e tb → PS X (.Expr (.Call (.Attribute (.Name x np) "append" apos) [e] [] cpos) pos) (tDrop (tBM X.K "list" rAppend ta (tCons tb tNil))) := by
      intro ta tb h1 h2
      exact ps_expr (pe_bm PySem.F.plainAttrs_list PySem.F.slot_list_append PySem.F.type_list_append mt_append h1 (pa_cons h2 pa_nil))) :
    SD Γ X (.Expr (.Call (.Attribute (.Name x np) "append" apos) [e] [] cpos) pos) (sApp i te) := fun H₀ => impS (hp (pe_var hN hv hd hcd) (he H₀)) fun D σ H h => by
  obtain ⟨ρ, o, R, Z, hZ, k1, k2, k3, k4⟩ := h
  unfold sApp at hZ
  split at hZ
  · rename_i ds es
    obtain ⟨v0, ev0, q0⟩ := R.slots i _ (slot_eq es)
    rcases q0 with ⟨k, _⟩ | ⟨_, a, rfl, m, c⟩
    · cases k
    obtain ⟨xs, hx, rx⟩ := c
    refine ⟨.ref a, ev0, .inl ⟨rfl, xs, SqL.of hx⟩, ?_⟩
    refine ⟨ρ, o, R, _, hZ, fun v r H1 s1 rv h1 => ?_⟩
    obtain ⟨h0, hl, hn⟩ := h1
    have hx1 := s1 _ _ hx
    have R1 := R.to s1
    have rx1 := Reps.grow (Grow.same s1) _ _ rx
    refine ⟨a, xs, v, rfl, rfl, hx1, ?_, ?_⟩
    · rw [rx.length]
      exact Nat.lt_of_le_of_lt hl (by decide)
    · obtain ⟨R2, g2⟩ := R1.chg (d' := .lst (ds ++ [r.d])) (ho := .lst (xs ++ [v])) (slot_eq es) ev0 m ⟨fun _ z => (by cases z), fun _ _ z => (by cases z)⟩ fun gr => ⟨xs ++ [v], upd_same, gr _ _ (rx1.append (Reps.one (rv.solid (notOwn h0))))⟩
      exact k1 _ σ _ o ((Grow.same s1).trans g2) R2 hn
  · exact hZ.elim
end

section
variable {P : Program} {w : World} {K : PySem.W.Frag} {mg : Str → Option Value} {base : Heap}
noncomputable def startD (n : Nat) (ds : List D) : DE := ds.map (fun d => some (dv d)) ++ List.replicate (n - ds.length) none
theorem fn_okD {x qual : Str} {st : Stmt} {f : Addr} {fd : FuncData} {N ps : List Str} {k : Nat} {T : FT} (F : Fun K x qual st f fd) (S : FnScope N ps (defScope st))
    (hbody : ∀ (cdv : Value) (A : Around) (outer : List Env) (s : Shared) (H : Hp) (E : XK) (ds : List D) (φ : EV → Prop), Room k (A.deeper (envOfC qual (defScope st) s.heap.objs.size f cdv)) → ds.length = ps.length → T ds φ →
      ∃ t, SDs (fun _ => True) (cxOf CX0 P w K mg base N qual (defScope st) f cdv A outer s H E).nox (defBody st) t ∧ t (startD N.length ds) { nx := fun _ => φ (dv .non), rt := fun r => pureEV r ∧ φ r }) : FnOk P w K mg base CX0 (k + 1) f fd ps (spD K ps.length T) := by
  refine F.ok S (fun vs H Q E h => ?_) (fun cdv A outer s H vs Q E hr h => ?_)
  · obtain ⟨ds, φ, hl, r, _⟩ := h
    rw [r.length, hl]
  · obtain ⟨ds, φ, hl, r, hT, kk⟩ := h
    obtain ⟨t, ht, hq⟩ := hbody cdv A outer s H E ds φ hr hl hT
    have rl := r.length
    refine ⟨liftS K H t, ht ⟨H, trivial⟩, startD N.length ds, [], ⟨Same.refl H, (fun _ z => absurd z (by simp)), (fun _ z => absurd z (by simp)), (fun _ z => absurd z (by simp)), List.nodup_nil, fun i r' e => ?_, ?_⟩, _, hq, fun ρ' σ' H' o' g R' q => ?_, fun _ _ _ _ _ _ q => q.elim, fun _ _ _ _ _ _ q => q.elim, fun v r' H' s' rv q => kk v r' H' s' rv q.1 q.2⟩
    · unfold startD at e
      rcases Nat.lt_or_ge i ds.length with hi | hi
      · rw [List.getElem?_append_left (by simpa using hi), List.getElem?_map] at e
        have ed : ds[i]? = some ds[i] := by simp [hi]
        rw [ed] at e
        have e' : some (dv ds[i]) = some r' := Option.some.inj e
        cases e'
        obtain ⟨v, ev, rv⟩ := r.get ed
        refine ⟨v, ?_, .inl ⟨rfl, rv⟩⟩
        unfold L2.start
        rw [List.getElem?_append_left (by rw [List.length_map, rl]; exact hi), List.getElem?_map, ev]
        rfl
      · rw [List.getElem?_append_right (by simpa using hi), List.getElem?_replicate] at e
        split at e <;> cases e
    · unfold L2.start startD
      simp [rl]
    · exact kk .non (dv .non) H' R'.same rfl trivial q
theorem fd_of {x qual : Str} {st : Stmt} {f : Addr} {fd : FuncData} {N ps : List Str} {k : Nat} {T : FT} (F : Fun K x qual st f fd) (S : FnScope N ps (defScope st)) (b : Binds K fd ps []) (m : mg x = some (.ref f))
    (hbody : ∀ (cdv : Value) (A : Around) (outer : List Env) (s : Shared) (H : Hp) (E : XK) (ds : List D) (φ : EV → Prop), Room k (A.deeper (envOfC qual (defScope st) s.heap.objs.size f cdv)) → ds.length = ps.length → T ds φ →
      ∃ t, SDs (fun _ => True) (cxOf CX0 P w K mg base N qual (defScope st) f cdv A outer s H E).nox (defBody st) t ∧ t (startD N.length ds) { nx := fun _ => φ (dv .non), rt := fun r => pureEV r ∧ φ r }) : FD P w K mg base (k + 1) x ps T := ⟨f, fd, fn_okD F S hbody, b, F.kp, m⟩

end
/-- the law: True of every script -/
noncomputable def lawT : FT := fun ds φ => ∃ ns : List Int, ds = [.scr ns] ∧ ns.length ≤ 63 ∧ φ (dv (.bl true))
theorem walkD {l : PySem.W.OpenLaw} {q : Program} {loose : List Str} {XP : (Str → Option Value) → Heap → Prop} {YP : World → Heap → Prop} {d : DefRec} {K : Params → PySem.W.Frag} {x : Str} {k : Nat} (hn : l.most = some 63) (hdf : d.params.defaults = []) (hr : Room k callerA)
    (hY : ∀ (w : World) (h : Heap), YP w h → (K w.params).In h)
    (F : ∀ (w : World) (mg : Str → Option Value) (fa : Addr) (h : Heap), (K w.params).In h → h.Ns mainGlobals mg → mg d.name = some (.ref fa) →
      ∃ fd : FuncData, (∀ (s : Shared) (u : Value), BindsTo s fd ⟨[u], []⟩ [(x, u)]) ∧ ∀ base : Heap, (K w.params).In base → base.Ns mainGlobals mg → FnOk l.prog w (K w.params) mg base CX0 k fa fd [x] (spD (K w.params) 1 lawT)) :
    PySem.W.WalkO q loose XP YP l.row.toRowW d [] (fun f vs => PySem.call f vs) :=
  L2.walk_of (n := 63) (k := k) (x := x) (CX := fun _ => CX0) (sp := fun w => spD (K w.params) 1 lawT) hn (by decide) hdf hr hY F (fun w H a ns hl ho hS => by
    refine ⟨[.scr ns], fun r => r = dv (.bl true), rfl, ⟨.ref a, [], rfl, ⟨a, rfl, ?_⟩, rfl⟩, ⟨ns, rfl, hl, rfl⟩, fun v r H' s rv p e => by subst e; exact rv⟩
    rcases hS with (h | ⟨o, h⟩) | h
    · rcases ho a with z | ⟨o, xs, z⟩
      · rw [z] at h; cases h
      · rw [z] at h; cases h
    · exact .inl ⟨o, h⟩
    · exact .inr h) fun _ _ _ _ _ z => z
end DL

set_option Elab.async false
set_option linter.all false
set_option maxRecDepth 100000
set_option maxHeartbeats 4000000
namespace DL
/-- what ratio makes of two numbers -/
noncomputable def sg (t b : Int) : Int := if b < 0 then -(Int.gcd t b : Int) else Int.gcd t b
noncomputable def rt (t b : Int) : Int × Int := (t.fdiv (sg t b), b.fdiv (sg t b))
end DL
namespace DL
open PySem PySem.Spec L2 L3
open PyProof.Rows hiding St
variable {Γ : Hp → Prop}
open PySem.Builtin.Int (intBits)
theorem fdOk {i j : Int} {m : Nat} (h : j ≠ 0) (hb : intBits j ≤ m) (hm : m ≤ 8999 := by omega) : FdOk i j := by
  refine ⟨h, ?_⟩
  unfold intBits at hb
  rw [if_neg (by simpa using h)] at hb
  omega
end DL
namespace DL
open PySem PySem.Spec L2 L3
open PyProof.Rows hiding St
open PySem.Builtin.Int (intBits)
theorem okD_int {n : Nat} {i : Int} : okD n (.int i) = True := by cases n <;> rfl
theorem okD_bl {n : Nat} {i : Bool} : okD n (.bl i) = True := by cases n <;> rfl
theorem okD_str {n : Nat} {i : Str} : okD n (.str i) = True := by cases n <;> rfl
theorem okD_non {n : Nat} : okD n .non = True := by cases n <;> rfl
theorem okD_tup {n : Nat} {ds : List D} (h : 0 < n) : okD n (.tup ds) = ∀ x ∈ ds, okD (n - 1) x := by
  cases n with
  | zero => omega
  | succ n => rfl
theorem okD_lst {n : Nat} {ds : List D} (h : 0 < n) : okD n (.lst ds) = ∀ x ∈ ds, okD (n - 1) x := by
  cases n with
  | zero => omega
  | succ n => rfl
theorem eqD_int {a b : Int} : eqD (.int a) (.int b) = (a == b) := rfl
theorem eqD_str {a b : Str} : eqD (.str a) (.str b) = (a == b) := rfl
theorem eqD_bl {a b : Bool} : eqD (.bl a) (.bl b) = (a == b) := rfl
/-- two numbers -/
noncomputable def w2 (g : Int → Int → (EV → Prop) → Prop) : FT := fun ds φ => match ds with
  | [.int a, .int b] => g a b φ
  | _ => False
noncomputable def w1 (g : Int → (EV → Prop) → Prop) : FT := fun ds φ => match ds with
  | [.int a] => g a φ
  | _ => False
/-- two ratios -/
noncomputable def r2 (g : Int → Int → Int → Int → (EV → Prop) → Prop) : FT := fun ds φ => match ds with
  | [.tup [.int a, .int b], .tup [.int c, .int d]] => g a b c d φ
  | _ => False
end DL
namespace DL
open L2
theorem atI_0 {α : Type} {x : α} {l : List α} : atI (x :: l) 0 = some x := by
  rw [show (0 : Int) = ((0 : Nat) : Int) from rfl]
  exact atI_nat rfl
theorem atI_1 {α : Type} {x y : α} {l : List α} : atI (x :: y :: l) 1 = some y := by
  rw [show (1 : Int) = ((1 : Nat) : Int) from rfl]
  exact atI_nat rfl
theorem atI_2 {α : Type} {x y z : α} {l : List α} : atI (x :: y :: z :: l) 2 = some z := by
  rw [show (2 : Int) = ((2 : Nat) : Int) from rfl]
  exact atI_nat rfl
end DL

set_option Elab.async false
set_option linter.all false
set_option maxRecDepth 100000
namespace L2
open PySem PySem.Spec PyProof.Rows

section
variable {κ : Type} [DecidableEq κ]
noncomputable def valV (kvs : List (κ × V)) (k : κ) : Option V := (kvs.find? fun kv => decide (kv.1 = k)).map (·.2)
/-- in its place, or at the end -/
noncomputable def putK (kvs : List (κ × V)) (k : κ) (v : V) : List (κ × V) :=
  if (kvs.any fun kv => decide (kv.1 = k)) = true then kvs.map (fun kv => if kv.1 = k then (kv.1, v) else kv) else kvs ++ [(k, v)]
noncomputable def dropK (kvs : List (κ × V)) (k : κ) : List (κ × V) := kvs.filter fun kv => decide (kv.1 ≠ k)

theorem valV_pos {p : κ × V} {r : List (κ × V)} {k : κ} (e : p.1 = k) : valV (p :: r) k = some p.2 := by simp [valV, List.find?_cons, e]
theorem valV_neg {p : κ × V} {r : List (κ × V)} {k : κ} (e : ¬ p.1 = k) : valV (p :: r) k = valV r k := by simp [valV, List.find?_cons, e]
theorem valV_any (k : κ) : ∀ kvs : List (κ × V), (kvs.any fun kv => decide (kv.1 = k)) = (valV kvs k).isSome
  | [] => rfl
  | p :: r => by
    rw [List.any_cons]
    by_cases e : p.1 = k
    · simp only [valV_pos e, decide_eq_true e, Bool.true_or, Option.isSome_some]
    · rw [valV_neg e, decide_eq_false e, Bool.false_or]; exact valV_any k r
theorem RelO.isSome_eq {o : Option V} {u : Option Value} (r : RelO o u) : o.isSome = u.isSome := by
  cases o with
  | none => cases u with
    | none => rfl
    | some _ => exact (show False from r).elim
  | some _ => cases u with
    | none => exact (show False from r).elim
    | some _ => rfl
theorem RelO.getD {o : Option V} {u : Option Value} {d : V} {d' : Value} (r : RelO o u) (rd : RelV d d') : RelV (o.getD d) (u.getD d') := by
  cases o with
  | none => cases u with
    | none => exact rd
    | some _ => exact (show False from r).elim
  | some _ => cases u with
    | none => exact (show False from r).elim
    | some _ => exact r

/-- raw tables of the same keys -/
theorem KV.val {kvs : List (κ × V)} {vs : List (κ × Value)} (r : KV kvs vs) (k : κ) : RelO (valV kvs k) (valueAt vs k) := by
  unfold KV at r
  induction r with
  | nil => exact True.intro
  | @cons p q ps qs h t ih =>
    obtain ⟨h1, h2⟩ := h
    by_cases e : p.1 = k
    · have e' : q.1 = k := h1.symm.trans e
      have b : valueAt (q :: qs) k = some q.2 := by simp [valueAt, List.find?_cons, e']
      rw [valV_pos e, b]; exact h2
    · have e' : ¬ q.1 = k := fun z => e (h1.trans z)
      have b : valueAt (q :: qs) k = valueAt qs k := by simp [valueAt, List.find?_cons, e']
      rw [valV_neg e, b]; exact ih
theorem KV.any {kvs : List (κ × V)} {vs : List (κ × Value)} (r : KV kvs vs) (k : κ) : (kvs.any fun kv => decide (kv.1 = k)) = vs.any fun kv => decide (kv.1 = k) := by
  unfold KV at r
  induction r with
  | nil => rfl
  | cons h t ih => rw [List.any_cons, List.any_cons, ih, h.1]
theorem KV.repl {kvs : List (κ × V)} {vs : List (κ × Value)} (r : KV kvs vs) (k : κ) {y : V} {u : Value} (ry : RelV y u) :
    KV (kvs.map fun kv => if kv.1 = k then (kv.1, y) else kv) (vs.map fun kv => if kv.1 = k then (kv.1, u) else kv) := by
  unfold KV at r ⊢
  induction r with
  | nil => exact .nil
  | @cons p q ps qs h t ih =>
    rw [List.map_cons, List.map_cons]
    refine .cons ?_ ih
    obtain ⟨h1, h2⟩ := h
    by_cases e : p.1 = k
    · rw [if_pos e, if_pos (h1.symm.trans e)]; exact ⟨h1, ry⟩
    · rw [if_neg e, if_neg (fun z => e (h1.trans z))]; exact ⟨h1, h2⟩
theorem KV.put {kvs : List (κ × V)} {vs : List (κ × Value)} (r : KV kvs vs) (k : κ) {y : V} {u : Value} (ry : RelV y u) : KV (putK kvs k y) (stored vs k u) := by
  unfold putK stored
  rw [r.any k]
  by_cases e : (vs.any fun kv => decide (kv.1 = k)) = true
  · rw [if_pos e, if_pos e]; exact r.repl k ry
  · rw [if_neg e, if_neg e]; exact Paired.snoc r ⟨rfl, ry⟩
theorem KV.drop {kvs : List (κ × V)} {vs : List (κ × Value)} (r : KV kvs vs) (k : κ) : KV (dropK kvs k) (without vs k) := by
  unfold KV at r ⊢
  unfold dropK without
  induction r with
  | nil => exact .nil
  | @cons p q ps qs h t ih =>
    obtain ⟨h1, h2⟩ := h
    rw [List.filter_cons, List.filter_cons]
    by_cases e : p.1 = k
    · have a : ¬ decide (p.1 ≠ k) = true := by simp [e]
      have b : ¬ decide (q.1 ≠ k) = true := by simp [h1.symm.trans e]
      rw [if_neg a, if_neg b]; exact ih
    · have e' : ¬ q.1 = k := fun z => e (h1.trans z)
      have a : decide (p.1 ≠ k) = true := by simp [e]
      have b : decide (q.1 ≠ k) = true := by simp [e']
      rw [if_pos a, if_pos b]; exact .cons ⟨h1, h2⟩ ih
theorem KV.length {kvs : List (κ × V)} {vs : List (κ × Value)} (r : KV kvs vs) : kvs.length = vs.length := Paired.length r
end


theorem kV_is {P : Program} {w : World} {k : Key} {u : Value} (r : RelV (kV k) u) : (mixKind P w).is k u = true := by
  cases k with
  | inl i => obtain ⟨t, e⟩ := (show ∃ t, u = Value.int i t from r); subst e; exact mixKind_int P w i t
  | inr x => obtain ⟨t, e⟩ := (show ∃ t, u = Value.str x t from r); subst e; exact mixKind_str P w x t
theorem items_are {P : Program} {w : World} : ∀ {ks : List Key} {us : List Value}, Vals (ks.map kV) us → ItemsAre (mixKind P w) ks us
  | [], _, r => by rw [List.map_nil] at r; cases r; exact .nil
  | k :: ks, _, r => by
    rw [List.map_cons] at r
    cases r with
    | cons h t => exact .cons (kV_is h) (items_are t)

/-- raw entries of a dict with tuple keys -/
noncomputable abbrev KT (H : Hp) : List (List Key × V) → List (List Key × Addr × Value) → Prop := Paired fun p q => p.1 = q.1 ∧ H q.2.1 = some (.tup (p.1.map kV)) ∧ RelV p.2 q.2.2
theorem KT.val {H : Hp} {kvs : List (List Key × V)} {xs : List (List Key × Addr × Value)} (r : KT H kvs xs) (k : List Key) : RelO (valV kvs k) ((atKey xs k).map (·.2)) := by
  induction r with
  | nil => exact True.intro
  | @cons p q ps qs h t ih =>
    obtain ⟨h1, _, h2⟩ := h
    by_cases e : p.1 = k
    · have e' : q.1 = k := h1.symm.trans e
      have b : atKey (q :: qs) k = some q.2 := by simp [atKey, List.find?_cons, e']
      rw [valV_pos e, b]; exact h2
    · have e' : ¬ q.1 = k := fun z => e (h1.trans z)
      have b : atKey (q :: qs) k = atKey qs k := by simp [atKey, List.find?_cons, e']
      rw [valV_neg e, b]; exact ih
theorem KT.repl {H : Hp} {kvs : List (List Key × V)} {xs : List (List Key × Addr × Value)} (r : KT H kvs xs) (k : List Key) {y : V} {u : Value} (ry : RelV y u) :
    KT H (kvs.map fun kv => if kv.1 = k then (kv.1, y) else kv) (xs.map (putAt k u)) := by
  induction r with
  | nil => exact .nil
  | @cons p q ps qs h t ih =>
    rw [List.map_cons, List.map_cons]
    refine .cons ?_ ih
    obtain ⟨h1, h2, h3⟩ := h
    unfold putAt
    by_cases e : p.1 = k
    · rw [if_pos e, if_pos (h1.symm.trans e)]; exact ⟨h1, h2, ry⟩
    · rw [if_neg e, if_neg (fun z => e (h1.trans z))]; exact ⟨h1, h2, h3⟩
theorem KT.put {H : Hp} {kvs : List (List Key × V)} {xs : List (List Key × Addr × Value)} (r : KT H kvs xs) (k : List Key) {b : Addr} {y : V} {u : Value} (hb : H b = some (.tup (k.map kV))) (ry : RelV y u) :
    KT H (putK kvs k y) (storedH xs k b u) := by
  have e : (kvs.any fun kv => decide (kv.1 = k)) = (atKey xs k).isSome := by
    rw [valV_any, (r.val k).isSome_eq, Option.isSome_map]
  unfold putK storedH
  rw [e]
  by_cases q : (atKey xs k).isSome = true
  · rw [if_pos q, if_pos q]; exact r.repl k ry
  · rw [if_neg q, if_neg q]; exact Paired.snoc r ⟨rfl, hb, ry⟩
theorem KT.keeps {H H' : Hp} {kvs : List (List Key × V)} {xs : List (List Key × Addr × Value)} (r : KT H kvs xs) (ht : ∀ b ys, H b = some (.tup ys) → H' b = some (.tup ys)) : KT H' kvs xs :=
  Paired.mapP r fun _ _ z => ⟨z.1, ht _ _ z.2.1, z.2.2⟩

section
variable {P : Program} {w : World} {H : Hp} {h : Heap} {a : Addr}
theorem rd_of {u : HO} (ok : HOk P w H h) (e : Rd H a u) : ObjOk P w H h a u := e.ok ok
theorem dk_rd {kvs : List (Key × V)} (ok : HOk P w H h) (e : Rd H a (.dK kvs)) : kvs.length ≤ sizeLine ∧ (a == sysModules) = false ∧ ∃ vs, KV kvs vs ∧ h.DictOf (mixKind P w) a vs :=
  show ObjOk P w H h a (.dK kvs) from rd_of ok e
/-- a tracked tuple of ints and texts is a key -/
theorem key_of {ks : List Key} (ok : HOk P w H h) (e : H a = some (.tup (ks.map kV))) : (tupleKind (mixKind P w)).is h ks a := by
  obtain ⟨_, its, r, ⟨o, h1, h2, n, h3⟩, _⟩ := (show ObjOk P w H h a (.tup (ks.map kV)) from ok a _ e)
  exact ⟨o, its.toArray, n, h1, h2, h3, by simpa using items_are r⟩
theorem dt_rd {kvs : List (List Key × V)} (ok : HOk P w H h) (e : Rd H a (.dT kvs)) : kvs.length ≤ sizeLine ∧ (a == sysModules) = false ∧
    ∃ xs, KT H kvs xs ∧ h.DictOfH (tupleKind (mixKind P w)) a xs := by
  obtain ⟨z, y, xs, r, o, es, ep, h1, h2, h3, h4, h5⟩ := (show ObjOk P w H h a (.dT kvs) from rd_of ok e)
  refine ⟨z, y, xs, r, o, es, ep, h1, h2, h3, h4, fun x hx => ?_, h5⟩
  have all : ∀ {l : List (List Key × V)} {m : List (List Key × Addr × Value)}, KT H l m → ∀ x ∈ m, (tupleKind (mixKind P w)).is h x.1 x.2.1 := by
    intro l m q
    induction q with
    | nil => intro x hx; exact nomatch hx
    | @cons p q ps qs hq t ih =>
      intro x hx
      rcases List.mem_cons.mp hx with e | hx
      · subst e
        exact key_of ok (by rw [← hq.1]; exact hq.2.1)
      · exact ih x hx
  exact all r x hx
end

/-- what the dict at a holds at the key y -/
noncomputable def DGet (H : Hp) (a : Addr) (y : V) (r : Option V) : Prop :=
  (∃ kvs k, Rd H a (.dK kvs) ∧ y = kV k ∧ r = valV kvs k) ∨ ∃ kvs k b, Rd H a (.dT kvs) ∧ y = .ref b ∧ H b = some (.tup (k.map kV)) ∧ r = valV kvs k
/-- the heap behind a[y] = v -/
noncomputable def DPut (H : Hp) (a : Addr) (y v : V) (H' : Hp) : Prop :=
  (∃ kvs k, H a = some (.dK kvs) ∧ y = kV k ∧ kvs.length < sizeLine ∧ H' = upd H a (.dK (putK kvs k v))) ∨
  ∃ kvs k b, H a = some (.dT kvs) ∧ y = .ref b ∧ H b = some (.tup (k.map kV)) ∧ kvs.length < sizeLine ∧ H' = upd H a (.dT (putK kvs k v))
theorem DGet.k {H : Hp} {a : Addr} {kvs : List (Key × V)} {k : Key} (e : H a = some (.dK kvs)) : DGet H a (kV k) (valV kvs k) := .inl ⟨kvs, k, .inl e, rfl, rfl⟩
theorem DGet.t {H : Hp} {a b : Addr} {kvs : List (List Key × V)} {k : List Key} (e : H a = some (.dT kvs)) (eb : H b = some (.tup (k.map kV))) : DGet H a (.ref b) (valV kvs k) := .inr ⟨kvs, k, b, .inl e, rfl, eb, rfl⟩
theorem DPut.k {H : Hp} {a : Addr} {kvs : List (Key × V)} {k : Key} {v : V} (e : H a = some (.dK kvs)) (hl : kvs.length < sizeLine) : DPut H a (kV k) v (upd H a (.dK (putK kvs k v))) := .inl ⟨kvs, k, e, rfl, hl, rfl⟩
theorem DPut.t {H : Hp} {a b : Addr} {kvs : List (List Key × V)} {k : List Key} {v : V} (e : H a = some (.dT kvs)) (eb : H b = some (.tup (k.map kV))) (hl : kvs.length < sizeLine) :
    DPut H a (.ref b) v (upd H a (.dT (putK kvs k v))) := .inr ⟨kvs, k, b, e, rfl, eb, hl, rfl⟩


section
variable {X : Cx} {pins : List (Addr × Obj)} {σ : St} {H : Hp} {s : Shared} {a : Addr} {y v : V} {u r : Value} {o : Option V} {A : Around} {E : Value → Shared → Prop}

/-- d[y], there -/
theorem d_getItem {Q : Value → Shared → Prop} (hu : A.units + 1 < cLine) (I : Inv X pins σ H s) (g : DGet H a y (some v)) (ry : RelV y u) (h : ∀ w' s', Inv X pins σ H s' → RelV v w' → Q w' s') :
    wpAny (model X.prog X.w) A (getItem (.ref a) u) Q E s := by
  rcases g with ⟨kvs, k, e, ey, l⟩ | ⟨kvs, k, b, e, ey, eb, l⟩
  · subst ey
    obtain ⟨z, hd, vs, rel, dd⟩ := dk_rd I.hok e
    obtain ⟨w', hw, rw'⟩ := RelO.some_of (v := v) (o := valueAt vs k) (by rw [l]; exact rel.val k)
    exact wpAny_getItem_of (kV_is ry) dd.mapOf hw (h w' _ (I.tok _) rw')
  · subst ey
    cases (show u = Value.ref b from ry)
    obtain ⟨z, hd, xs, rel, dd⟩ := dt_rd I.hok e
    obtain ⟨w', hw, rw'⟩ := RelO.some_of (v := v) (o := (atKey xs k).map (·.2)) (by rw [l]; exact rel.val k)
    obtain ⟨p, hp, hp2⟩ := Option.map_eq_some_iff.mp hw
    refine wpAny_getItem_heap (tupleKind_room_in1 hu) (key_of I.hok eb) dd hp ?_
    rw [hp2]
    exact h w' _ (I.tok _) rw'
/-- y in d -/
theorem d_in {Q : Value → Shared → Prop} (hu : A.units + 1 < cLine) (I : Inv X pins σ H s) (g : DGet H a y o) (ry : RelV y u) (h : ∀ s', Inv X pins σ H s' → Q (.bool o.isSome) s') :
    wpAny (model X.prog X.w) A (compareOp .In u (.ref a)) Q E s := by
  rcases g with ⟨kvs, k, e, ey, l⟩ | ⟨kvs, k, b, e, ey, eb, l⟩
  · subst ey
    obtain ⟨z, hd, vs, rel, dd⟩ := dk_rd I.hok e
    refine wpAny_in_of (kV_is ry) hd dd.mapOf ?_
    rw [← (rel.val k).isSome_eq, ← l]
    exact h _ (I.tok _)
  · subst ey
    cases (show u = Value.ref b from ry)
    obtain ⟨z, hd, xs, rel, dd⟩ := dt_rd I.hok e
    refine wpAny_in_heap (tupleKind_room_in1 hu) (key_of I.hok eb) hd dd ?_
    have q := (rel.val k).isSome_eq
    rw [Option.isSome_map] at q
    rw [← q, ← l]
    exact h _ (I.tok _)
end

section
variable {X : Cx} {pins : List (Addr × Obj)} {σ : St} {H : Hp} {s : Shared} {a : Addr} {kvs : List (Key × V)} {k : Key} {u : Value} {A : Around} {E : Value → Shared → Prop}
end


theorem dict_typeIs {X : Cx} {pins : List (Addr × Obj)} {σ : St} {H : Hp} {s : Shared} {a : Addr} {y : V} {o : Option V} (I : Inv X pins σ H s) (g : DGet H a y o) : s.TypeIs (.ref a) "dict" := by
  rcases g with ⟨kvs, k, e, _, _⟩ | ⟨kvs, k, b, e, _, _, _⟩
  · obtain ⟨_, _, vs, _, dd⟩ := dk_rd I.hok e
    exact dd.typeIs
  · obtain ⟨_, _, xs, _, dd⟩ := dt_rd I.hok e
    exact dd.typeIs
section
variable {X : Cx} {o i e value : Expr} {pos pos' tpos : Pos} {td ty tv : TE}
end


section
variable {X : Cx} {pos : Pos}
end

/-- a method call o.m(e) of a built-in, with one argument: what must be seen of the text -/
structure M1 (X : Cx) (o : Expr) (m : Str) (apos : Pos) (e : Expr) (cpos : Pos) : Prop where
  base : attributeBase o m X.env (eval o X.env) = eval o X.env
  few : ((backTo cpos (starEach [e] X.env)).all (fun x => !x.1) && (backToKw cpos (keywordEach [] X.env)).all (fun x => x.1.isSome)
    && decide (([e] : List Expr).length + ([] : List Keyword).length + (if ([] : List Keyword).isEmpty then 0 else 1) < 30)) = true
  line : (apos.endLine == cpos.line) = true
  trees : backTo cpos (starEach [e] X.env) = [(false, eval e X.env)]
section
variable {X : Cx} {pins : List (Addr × Obj)} {σ : St} {H : Hp} {s : Shared} {a : Addr} {y d : V} {u r : Value} {o : Option V} {A : Around} {E : Value → Shared → Prop}
end

section
variable {X : Cx} {o e f : Expr} {apos cpos : Pos} {td ty tx : TE}
end

section
variable {X : Cx} {pins : List (Addr × Obj)} {σ : St} {H : Hp} {s : Shared} {a : Addr} {kvs : List (Key × V)} {A : Around} {E : Value → Shared → Prop}
end


section
variable {X : Cx} {pins : List (Addr × Obj)} {σ : St} {H : Hp} {s : Shared} {a : Addr} {y : V} {u : Value} {A : Around} {E : Value → Shared → Prop}
end
end L2

namespace L2
open PySem PySem.Spec PyProof.Rows
section
variable {X : Cx}
end
end L2

set_option Elab.async false
set_option linter.all false
set_option maxRecDepth 100000
set_option maxHeartbeats 4000000
namespace DL
open PySem PySem.Spec L2 L3
open PyProof.Rows hiding St
variable {Γ : Hp → Prop}

noncomputable instance decMemKey (k : Key) (ks : List Key) : Decidable (k ∈ ks) := decidable_of_iff (ks.any (fun x => decide (x = k)) = true) (by simp)
section
variable {α : Type}
noncomputable def lookA : List Key → List α → Key → Option α
  | k' :: ks, d :: ds, k => if k' = k then some d else lookA ks ds k
  | _, _, _ => none
noncomputable def kput (ks : List Key) (k : Key) : List Key := if k ∈ ks then ks else ks ++ [k]
noncomputable def dput : List Key → List α → Key → α → List α
  | k' :: ks, d' :: ds, k, d => if k' = k then d :: ds else d' :: dput ks ds k d
  | _, _, _, d => [d]
end
theorem valV_zip : ∀ (ks : List Key) (xs : List V) (k : Key), valV (ks.zip xs) k = lookA ks xs k
  | [], xs, k => by cases xs <;> rfl
  | k' :: ks, [], k => rfl
  | k' :: ks, x :: xs, k => by
    rw [List.zip_cons_cons, lookA]
    by_cases e : k' = k
    · rw [if_pos e, valV_pos (by exact e)]
    · rw [if_neg e, valV_neg (by exact e), valV_zip ks xs k]
theorem lookA_none {α : Type} : ∀ {ks : List Key} {xs : List α} {k : Key}, ks.length = xs.length → (lookA ks xs k = none ↔ k ∉ ks)
  | [], xs, k, h => by cases xs <;> simp [lookA] at *
  | k' :: ks, [], k, h => by simp at h
  | k' :: ks, x :: xs, k, h => by
    rw [lookA]
    by_cases e : k' = k
    · simp [e]
    · rw [if_neg e, lookA_none (by simpa using h)]
      simp [e, Ne.symm e]
section
variable {K : PySem.W.Frag} {H : Hp} {O : List Addr}
theorem reps_look : ∀ {ks : List Key} {ds : List D} {xs : List V} {k : Key}, Reps K H O ds xs → (∀ d, lookA ks ds k = some d → ∃ v, lookA ks xs k = some v ∧ Rep K H O d v) ∧ (lookA ks ds k = none → lookA ks xs k = none)
  | [], ds, xs, k, r => ⟨(fun d h => by cases ds <;> cases h), (fun _ => by cases xs <;> rfl)⟩
  | k' :: ks, [], xs, k, r => by
    cases r
    exact ⟨(fun d h => by cases h), fun _ => rfl⟩
  | k' :: ks, d' :: ds, xs, k, r => by
    obtain ⟨v, ws, rfl, q, t⟩ := r
    rw [lookA, lookA]
    by_cases e : k' = k
    · rw [if_pos e, if_pos e]
      exact ⟨(fun d h => by cases h; exact ⟨v, rfl, q⟩), (fun h => by cases h)⟩
    · rw [if_neg e, if_neg e]
      exact reps_look t
end
noncomputable def keyD : D → Option Key
  | .int i => some (.inl i)
  | .str x => some (.inr x)
  | _ => none
theorem key_view {K : PySem.W.Frag} {H : Hp} {O : List Addr} {d : D} {v : V} {k : Key} (h : View K H O d v) (e : keyD d = some k) : v = kV k := by
  cases d with
  | int i => cases e; exact h
  | str i => cases e; exact h
  | _ => cases e
section
variable {X : Cx} {a b c e o : Expr} {es : List Expr} {ta tb tc te td : TD} {t : TDs} {pos : Pos}
theorem op_inD (hu : X.A.units + 1 < cLine) : OpR X (compareOp .In) (fun x y H Q => ∃ a kvs k, y = .ref a ∧ H a = some (.dK kvs) ∧ x = kV k ∧ Q (.bl (valV kvs k).isSome) H) := by
  intro pins s σ H x y v u Q I rx ry h
  obtain ⟨a, kvs, k, rfl, ha, rfl, q⟩ := h
  cases ry
  exact d_in hu I (DGet.k ha) rx fun s' I' => ⟨.bl _, H, I', rfl, q⟩
theorem isSome_look {α : Type} {ks : List Key} {xs : List α} {k : Key} (h : ks.length = xs.length) : (lookA ks xs k).isSome = decide (k ∈ ks) := by
  by_cases hk : k ∈ ks
  · rw [decide_eq_true hk]
    cases e : lookA ks xs k with
    | none => exact absurd hk ((lookA_none h).mp e)
    | some _ => rfl
  · rw [decide_eq_false hk, (lookA_none h).mpr hk]
    rfl
/-- x in y: y a dict, a list or tuple of flat things, a text -/
noncomputable def flatD : D → Bool
  | .non => true
  | .bl _ => true
  | .int _ => true
  | .str _ => true
  | _ => false
noncomputable def inD (x : D) (l : List D) : Bool := l.any fun y => eqD y x
noncomputable def sIn (neg : Bool) : D → D → (EV → Prop) → Prop := fun x y φ => match y with
  | .dk ks _ => (match keyD x with | some k => φ (dv (.bl (if neg then !decide (k ∈ ks) else decide (k ∈ ks)))) | none => False)
  | .lst l => flatD x = true ∧ l.all flatD = true ∧ φ (dv (.bl (if neg then !inD x l else inD x l)))
  | .tup l => flatD x = true ∧ l.all flatD = true ∧ φ (dv (.bl (if neg then !inD x l else inD x l)))
  | .str z => (match x with | .str p => φ (dv (.bl (if neg then !(!(Builtin.Str.occurrences z p 0 z.length 1).isEmpty) else !(Builtin.Str.occurrences z p 0 z.length 1).isEmpty))) | _ => False)
  | _ => False
theorem flat_view {K : PySem.W.Frag} {H : Hp} {O : List Addr} {d : D} {v : V} (h : View K H O d v) (f : flatD d = true) : flatV v = true ∧ ∀ (e : D) (w : V), View K H O e w → flatD e = true → eqV v w = eqD d e := by
  cases d with
  | non => cases (show v = _ from h); exact ⟨rfl, fun e w he fe => by cases e <;> first | (cases (show w = _ from he); rfl) | cases fe⟩
  | bl b => cases (show v = _ from h); exact ⟨rfl, fun e w he fe => by cases e <;> first | (cases (show w = _ from he); rfl) | cases fe⟩
  | int b => cases (show v = _ from h); exact ⟨rfl, fun e w he fe => by cases e <;> first | (cases (show w = _ from he); rfl) | cases fe⟩
  | str b => cases (show v = _ from h); exact ⟨rfl, fun e w he fe => by cases e <;> first | (cases (show w = _ from he); rfl) | cases fe⟩
  | _ => cases f
theorem in_reps {K : PySem.W.Frag} {H : Hp} {O : List Addr} {x : D} {v : V} (hx : View K H O x v) (fx : flatD x = true) : ∀ {l : List D} {xs : List V}, Reps K H O l xs → l.all flatD = true → xs.all flatV = true ∧ inV v xs = inD x l
  | [], _, r, _ => by cases r; exact ⟨rfl, rfl⟩
  | d :: l, xs, r, f => by
    obtain ⟨w, ws, rfl, q, t⟩ := r
    rw [List.all_cons, Bool.and_eq_true] at f
    obtain ⟨i1, i2⟩ := in_reps hx fx t f.2
    obtain ⟨g1, g2⟩ := flat_view q.view f.1
    refine ⟨by rw [List.all_cons, g1, i1]; rfl, ?_⟩
    unfold inV inD at *
    rw [List.any_cons, List.any_cons, i2, g2 x v hx fx]
theorem link_in {K : PySem.W.Frag} {neg : Bool} : Link2 K (fun x y H Q => (∃ a kvs k, y = .ref a ∧ H a = some (.dK kvs) ∧ x = kV k ∧ Q (.bl (if neg then !(valV kvs k).isSome else (valV kvs k).isSome)) H) ∨ rIn K neg x y H Q ∨ ∃ i j, x = .str i ∧ y = .str j ∧ Q (.bl (if neg then !(!(Builtin.Str.occurrences j i 0 j.length 1).isEmpty) else !(Builtin.Str.occurrences j i 0 j.length 1).isEmpty)) H) (sIn neg) := by
  intro H O x y vx vy φ Q ho hx hy h k
  unfold sIn at h
  split at h
  · split at h
    · rename_i ks ds kk ek
      obtain ⟨a, xs, rfl, q, l, nd, r⟩ := hy
      refine .inl ⟨a, _, kk, rfl, q, key_view hx ek, ?_⟩
      rw [valV_zip, isSome_look (by rw [l, r.length])]
      exact k _ _ H (Same.refl H) (by exact rfl) h
    · exact h.elim
  · obtain ⟨f1, f2, h⟩ := h
    obtain ⟨a, xs, rfl, q, r⟩ := hy
    obtain ⟨g1, g2⟩ := in_reps hx f1 r f2
    refine .inr (.inl ⟨a, xs, rfl, .inl (SqL.of q), (flat_view hx f1).1, g1, ?_⟩)
    rw [g2]
    exact k _ _ H (Same.refl H) (by exact rfl) h
  · obtain ⟨f1, f2, h⟩ := h
    obtain ⟨a, xs, rfl, q, r⟩ := hy
    obtain ⟨g1, g2⟩ := in_reps hx f1 r f2
    refine .inr (.inl ⟨a, xs, rfl, .inr q.1, (flat_view hx f1).1, g1, ?_⟩)
    rw [g2]
    exact k _ _ H (Same.refl H) (by exact rfl) h
  · split at h
    · exact .inr (.inr ⟨_, _, hx, hy, k _ _ H (Same.refl H) (by exact rfl) h⟩)
    · exact h.elim
  · exact h.elim
theorem et_in (hu : X.A.units + 64 < cLine) (ha : ED Γ X a ta) (hb : ED Γ X b tb) (hm : behindInMarks .In b = false := by with_unfolding_all rfl) : ET Γ X (.Compare a [.In] [b] pos) (tBo (d2 (sIn false) ta tb)) := et_cmp ((op_inD (by omega)).or (op_in_seq.or op_in_str)) link_in ha hb hm
/-- a[b], a dict too -/
noncomputable def sIxx : D → D → (EV → Prop) → Prop := fun x y φ => match x with
  | .dk ks ds => (match keyD y with
    | some k => (match lookA ks ds k with
      | some d => φ (dv d)
      | none => False)
    | none => False)
  | x => sIx x y φ
theorem ix_dict (hu : X.A.units + 1 < cLine) : IxR X (fun x y H Q => ∃ a kvs k v, x = .ref a ∧ H a = some (.dK kvs) ∧ y = kV k ∧ valV kvs k = some v ∧ Q v H) := by
  intro value slice pins s σ H x y v u Q I rx ry h hs
  obtain ⟨a, kvs, k, w, rfl, ha, rfl, e, q⟩ := h
  cases rx
  have g : DGet H a (kV k) (some w) := by rw [← e]; exact DGet.k ha
  exact tail_any (dict_typeIs I g) PySem.F.slot_dict_getitem.lookup (d_getItem hu I g ry fun w' s' I' rw' => ⟨w, H, I', rw', q⟩) hs
theorem link_ixx : Link2 X.K (fun x y H Q => rIx X.K x y H Q ∨ ∃ a kvs k v, x = .ref a ∧ H a = some (.dK kvs) ∧ y = kV k ∧ valV kvs k = some v ∧ Q v H) sIxx := by
  intro H O x y vx vy φ Q ho hx hy h k
  cases x with
  | dk ks ds =>
    obtain ⟨a, xs, rfl, q, l, nd, r⟩ := hx
    unfold sIxx at h
    dsimp only at h
    split at h
    · rename_i kk ek
      split at h
      · rename_i d ed
        obtain ⟨v, ev, rv⟩ := (reps_look (ks := ks) (k := kk) r).1 d ed
        exact .inr ⟨a, _, kk, v, rfl, q, key_view hy ek, by rw [valV_zip]; exact ev, k _ _ H (Same.refl H) (RV.val rv) h⟩
      · exact h.elim
    · exact h.elim
  | _ => exact .inl (link_ix H O _ y vx vy φ Q ho hx hy h k)
theorem ed_ixx (hu : X.A.units + 64 < cLine) (ha : ED Γ X a ta) (hb : ED Γ X b tb) (hs : PlainIx b := by intro _ _; rfl) : ED Γ X (.Subscript a b pos) (d2 sIxx ta tb) := fun H₀ => impE (pe_ix (ix_seq.or (ix_dict (by omega))) (ha H₀) (hb H₀) hs) (lift2 link_ixx)
/-- d.get(k, x) -/
noncomputable def dGet2 (td tk tx : TD) : TD := fun ρ φ => td ρ fun r => match r.d with
  | .dk ks ds => tk ρ fun y => tx ρ fun z => (match z.k with | .own => False | _ => True) ∧ (match keyD y.d with
    | some k => φ (dv ((lookA ks ds k).getD z.d))
    | none => False)
  | _ => False
end
section
variable {X : Cx} {x : Str} {e ke : Expr} {te tk : TD} {np pos pos' : Pos}
noncomputable def sDput' (i : Nat) (tk te : TD) : TDS := fun ρ Z => match slot ρ i with
  | some ⟨.own, .dk ks ds⟩ => te ρ fun r => tk ρ fun kr => (match r.k with | .own => False | _ => True) ∧ ds.length ≤ 100000 ∧ (match keyD kr.d with
    | some k => Z.nx (setS ρ i (dO (.dk (kput ks k) (dput ks ds k r.d))))
    | none => False)
  | _ => False
end
end DL

set_option Elab.async false
set_option linter.all false
set_option maxRecDepth 100000
set_option maxHeartbeats 4000000
namespace DL
open PySem PySem.Spec L2 L3
open PyProof.Rows hiding St
variable {Γ : Hp → Prop}
section
variable {X : Cx} {e : Expr} {te : TD} {pos : Pos}
theorem pe_fmt {t : TE} (h : PE X e t) : PE X (.FormattedValue e (-1) none pos) (fun σ H Q => t σ H fun x H1 => (∃ i, x = .int i ∧ i.natAbs.log2 < 1920 ∧ Q (.str (toString i)) H1) ∨ ∃ z, x = .str z ∧ z.length ≤ sizeLine ∧ Q (.str z) H1) := by
  intro pins s σ H Q I q
  refine FormattedValue_plain (thn (h pins s σ H _ I q) fun v s1 ⟨x, H1, I1, rx, q1⟩ => ?_)
  rcases q1 with ⟨i, rfl, hl, q1⟩ | ⟨z, rfl, hz, q1⟩
  · obtain ⟨t, rfl⟩ := rx
    exact formatField_int_small hl ⟨.str (toString i), H1, I1.tok _, ⟨_, rfl⟩, q1⟩
  · obtain ⟨t, rfl⟩ := rx
    exact formatField_str (fun t' tk => ⟨.str z, H1, I1.tok _, ⟨_, rfl⟩, q1⟩) hz
noncomputable def dFmt (te : TD) : TD := fun ρ φ => te ρ fun r => match r.d with
  | .int i => i.natAbs.log2 < 1920 ∧ φ (dv (.str (toString i)))
  | .str z => z.length ≤ sizeLine ∧ φ (dv (.str z))
  | _ => False
theorem ed_fmt (h : ED Γ X e te) : ED Γ X (.FormattedValue e (-1) none pos) (dFmt te) := fun H₀ => impE (pe_fmt (h H₀)) fun σ H Q q => by
  obtain ⟨ρ, o, R, φ, hφ, k⟩ := q
  refine ⟨ρ, o, R, _, hφ, fun v r H1 s1 rv h1 => ?_⟩
  obtain ⟨kd, d⟩ := r
  cases d with
  | int i => exact .inl ⟨i, rv.view, h1.1, k _ _ H1 s1 (by exact rfl) h1.2⟩
  | str z => exact .inr ⟨z, rv.view, h1.1, k _ _ H1 s1 (by exact rfl) h1.2⟩
  | _ => exact h1.elim
noncomputable def dJoin : List TD → Str → TD
  | [], out => fun ρ φ => φ (dv (.str out))
  | t :: ts, out => fun ρ φ => t ρ fun r => match r.d with
    | .str y => (out ++ y).length ≤ sizeLine ∧ dJoin ts (out ++ y) ρ φ
    | _ => False
theorem join_ok : ∀ {es : List Expr} {ts : List TD}, Paired (ED Γ X) es ts → ∀ (out : Str) (H₀ : {H : Hp // Γ H}) (pins : List (Addr × Obj)) (s : Shared) (σ : St) (H : Hp) (Q : VK), out.length ≤ sizeLine → Inv X pins σ H s → liftE X.K H₀.1 (dJoin ts out) σ H Q →
    wpAny (model X.prog X.w) X.A (joinParts out (evalEach es X.env)) (EP X pins σ Q) X.xe s
  | _, _, .nil, out, H₀, pins, s, σ, H, Q, hz, I, q => by
    obtain ⟨ρ, o, R, φ, hφ, k⟩ := q
    exact joinParts_nil ⟨.str out, H, I.tok _, ⟨_, rfl⟩, k _ (dv (.str out)) H (Same.refl H) (by exact rfl) hφ⟩ hz
  | _, _, .cons (a := e1) (b := t1) (l₁ := es) (l₂ := ts) he r, out, H₀, pins, s, σ, H, Q, hz, I, q => by
    obtain ⟨ρ, o, R, φ, hφ, k⟩ := q
    show wpAny _ _ (joinParts out (eval e1 X.env :: evalEach es X.env)) _ _ s
    have one := he H₀ pins s σ H (fun v H1 => ∃ y, v = .str y ∧ (out ++ y).length ≤ sizeLine ∧ liftE X.K H₀.1 (dJoin ts (out ++ y)) σ H1 Q) I ⟨ρ, o, R, _, hφ, fun v r H1 s1 rv h1 => by
      obtain ⟨kd, d⟩ := r
      cases d with
      | str y => exact ⟨y, rv.view, h1.1, ρ, o, R.to s1, φ, h1.2, fun v r H2 s2 rv2 h2 => k v r H2 (s1.trans s2) (rv2.start s1) h2⟩
      | _ => exact h1.elim⟩
    refine joinParts_cons (thn one fun v s1 hh => ?_)
    obtain ⟨x, H1, I1, rx, y, ex, hy, q1⟩ := hh
    subst ex
    obtain ⟨t, rfl⟩ := rx
    exact ⟨hy, join_ok r _ H₀ pins s1 σ H1 Q hy I1 q1⟩
theorem ed_join {v₁ v₂ : Expr} {rest : List Expr} {ts : List TD} (h : Paired (ED Γ X) (v₁ :: v₂ :: rest) ts) : ED Γ X (.JoinedStr (v₁ :: v₂ :: rest) pos) (dJoin ts Str.empty) := fun H₀ pins s σ H Q I q =>
  JoinedStr_many (join_ok h Str.empty H₀ pins s σ H Q (by decide) I q)
end
end DL

set_option Elab.async false
set_option linter.all false
set_option maxRecDepth 100000
set_option maxHeartbeats 4000000
namespace DL
open PySem PySem.Spec L2 L3
open PyProof.Rows hiding St
noncomputable def codes (n : Int) : List Nat := (PySem.Str.ofString (toString n)).cps.toList
theorem codes_ofString (x : String) : (PySem.Str.ofString x).cps.toList = x.toList.map Char.toNat := by
  exact signs_ofString x
theorem codes_nat (m : Nat) : codes (m : Int) = (Nat.toDigits 10 m).map Char.toNat := by
  unfold codes
  rw [codes_ofString, show toString ((m : Nat) : Int) = m.repr from rfl, Nat.toList_repr]
theorem codes_neg (m : Nat) : codes (Int.negSucc m) = 45 :: (Nat.toDigits 10 (m + 1)).map Char.toNat := by
  unfold codes
  rw [codes_ofString, show toString (Int.negSucc m) = "-" ++ (m + 1).repr from rfl]
  rw [String.toList_append, List.map_append, Nat.toList_repr]
  rfl
theorem digit_range {m c : Nat} (h : c ∈ (Nat.toDigits 10 m).map Char.toNat) : 48 ≤ c ∧ c ≤ 57 := by
  obtain ⟨ch, hc, rfl⟩ := List.mem_map.mp h
  have := Nat.isDigit_of_mem_toDigits (by decide) (by decide) hc
  simp only [Char.isDigit, Bool.and_eq_true, decide_eq_true_eq] at this
  exact ⟨this.1, this.2⟩
theorem codes_range {n : Int} {c : Nat} (h : c ∈ codes n) : c = 45 ∨ (48 ≤ c ∧ c ≤ 57) := by
  cases n with
  | ofNat m => rw [show Int.ofNat m = ((m : Nat) : Int) from rfl, codes_nat] at h; exact .inr (digit_range h)
  | negSucc m =>
    rw [codes_neg] at h
    rcases List.mem_cons.mp h with h | h
    · exact .inl h
    · exact .inr (digit_range h)
end DL

set_option Elab.async false
set_option linter.all false
set_option maxRecDepth 100000
set_option maxHeartbeats 4000000
namespace DL
open PySem PySem.Spec L2 L3
open PyProof.Rows hiding St
variable {Γ : Hp → Prop}
open PySem.Builtin.Int (intBits)
theorem cp10 {j : Int} (h0 : 0 ≤ j) (h1 : j ≤ 1000) : CPow 10 j = True := by
  refine eq_true ⟨h0, by omega, by decide⟩
theorem tenpow_ne {k : Nat} : ((10 : Int) ^ k = 0) = False := by
  refine eq_false ?_
  have : (0 : Int) < 10 ^ k := Int.pow_pos (by decide)
  omega
theorem fd_lit {i j : Int} (h : j ≠ 0) (h1 : j.natAbs ≤ 1000000000000) : FdOk i j = True := eq_true (fdOk (m := 64) h (PySem.intBits_le_iff.mpr (by omega)))
theorem cutD_take (l : List D) (k : Nat) : cutD l none (some (k : Int)) = l.take k := by
  unfold cutD
  rw [HT.sIx_none, HT.sIx_nat, List.drop_zero, Nat.sub_zero]
  rw [List.take_eq_take_iff]
  omega
theorem cutD_drop (l : List D) (k : Nat) : cutD l (some (k : Int)) none = l.drop k := by
  unfold cutD
  rw [HT.sIx_none, HT.sIx_nat]
  by_cases h : k ≤ l.length
  · rw [Nat.min_eq_left h, List.take_of_length_le (by simp)]
  · rw [Nat.min_eq_right (by omega), List.drop_of_length_le (Nat.le_refl _), List.drop_of_length_le (by omega)]
    simp
theorem atI_of {α : Type} {l : List α} {i : Int} {x : α} (h0 : 0 ≤ i) (h : l[i.toNat]? = some x) : atI l i = some x := by
  have := atI_nat h
  rwa [Int.toNat_of_nonneg h0] at this
theorem atI_mod {α : Type} {l : List α} (h : l ≠ []) (x : Int) : ∃ r ∈ l, atI l (x.fmod (l.length : Int)) = some r := by
  have hp : (0 : Int) < (l.length : Int) := by
    have := List.length_pos_iff.mpr h
    omega
  have h0 := Int.fmod_nonneg_of_pos x hp
  have h1 := Int.fmod_lt_of_pos x hp
  have hl : (x.fmod (l.length : Int)).toNat < l.length := by omega
  exact ⟨l[(x.fmod (l.length : Int)).toNat], List.getElem_mem hl, atI_of h0 (by simp [hl])⟩
theorem filterMap_map {α β γ : Type} (l : List α) (m : α → β) (f : β → Option γ) (g : α → γ) (h : ∀ a ∈ l, f (m a) = some (g a)) : (l.map m).filterMap f = l.map g := by
  induction l with
  | nil => rfl
  | cons a l ih =>
    rw [List.map_cons, List.filterMap_cons, h a (List.mem_cons_self ..), List.map_cons, ih fun b hb => h b (List.mem_cons_of_mem _ hb)]
theorem mod_bd (x m : Int) (h : 0 < m) : 0 ≤ x.fmod m ∧ x.fmod m < m := ⟨Int.fmod_nonneg_of_pos x h, Int.fmod_lt_of_pos x h⟩
theorem bitsOf {x : Int} {m : Nat} (h : x.natAbs < 2 ^ m) : intBits x ≤ m := PySem.intBits_le_iff.mpr h
theorem codes_len {n : Int} {k : Nat} (h : n.natAbs < 10 ^ k) (hk : 0 < k) : (codes n).length ≤ k + 1 := by
  have dl : ∀ m : Nat, m < 10 ^ k → ((Nat.toDigits 10 m).map Char.toNat).length ≤ k := fun m hm => by
    rw [List.length_map]
    exact (Nat.length_toDigits_le_iff (by decide) hk).mpr hm
  cases n with
  | ofNat m => rw [show Int.ofNat m = ((m : Nat) : Int) from rfl, codes_nat]; exact Nat.le_succ_of_le (dl m (by simpa using h))
  | negSucc m =>
    rw [codes_neg, List.length_cons]
    exact Nat.succ_le_succ (dl (m + 1) (by simpa using h))
theorem len_codes (x : Str) : x.length = x.cps.toList.length := by
  show x.cps.size = _
  simp
theorem num_len {n : Int} (h : n.natAbs < 10 ^ 100) : (PySem.Str.ofString (toString n)).length ≤ 101 := by
  rw [len_codes]
  exact codes_len h (by decide)
end DL
namespace DL
open PySem PySem.Spec L2 L3
theorem sFor_at {ti : TID} {g : TGD} {tb : TDS} {ρ : DE} {Z : DZ} (ds : List D) (h : ∀ φ : List D → Prop, φ ds → ti ρ φ) (P : Nat → DE → Prop) (h0 : P 0 ρ)
    (ht : ∀ i d ρ, ds[i]? = some d → P i ρ → g d ρ fun ρ' => tb ρ' { Z with nx := P (i + 1), ct := P (i + 1), bk := Z.nx }) (hd : ∀ ρ, P ds.length ρ → Z.nx ρ) : sFor ti g tb ρ Z := h _ ⟨P, h0, ht, hd⟩
theorem dComp_at {ti : TID} {n : Nat} {js : List Nat} {g : TGD} {tc : TDb} {te : TD} {ρ : DE} {φ : EV → Prop} (ds : List D) (h : ∀ ψ : List D → Prop, ψ ds → ti ρ ψ) (f : D → Option D) (hl : ds.length ≤ 100000)
    (ht : ∀ d ∈ ds, g d (ρ0 n js ρ) fun ρ' => tc ρ' fun c => (c = true → te ρ' fun r => (match r.k with | .own => False | _ => True) ∧ f d = some r.d) ∧ (c = false → f d = none)) (hφ : φ (df (.lst (ds.filterMap f)))) : dComp ti n js g tc te ρ φ := h _ ⟨f, hl, ht, hφ⟩
theorem rng_get {lo : Int} {n i : Nat} {d : D} (h : (rngD lo n)[i]? = some d) : i < n ∧ d = .int (lo + (i : Int)) := by
  unfold rngD at h
  rw [List.getElem?_map] at h
  cases e : (List.range n)[i]? with
  | none => rw [e] at h; cases h
  | some m =>
    rw [e] at h
    have hi := (List.getElem?_eq_some_iff.mp e).1
    rw [List.length_range] at hi
    rw [List.getElem?_range hi] at e
    cases e
    cases h
    exact ⟨hi, rfl⟩
theorem rng_len {lo : Int} {n : Nat} : (rngD lo n).length = n := by unfold rngD; simp
end DL
namespace DL
open PySem PySem.Spec L2 L3
theorem atI_map {α β : Type} (f : α → β) (l : List α) (i : Int) : atI (l.map f) i = (atI l i).map f := by
  unfold atI
  rw [List.length_map]
  cases ixN l.length i with
  | none => rfl
  | some j => simp
end DL

set_option Elab.async false
set_option linter.all false
set_option maxRecDepth 100000
set_option maxHeartbeats 4000000
namespace DL
open PySem PySem.Spec L2 L3
open PyProof.Rows hiding St

theorem objOk_there {P : Program} {w : World} {H : Hp} {h : Heap} {a : Addr} {o : HO} (x : ObjOk P w H h a o) : ∃ ob, h.get? a = some ob := by
  cases o with
  | lst xs => obtain ⟨_, _, _, _, e⟩ := x; exact ⟨_, e⟩
  | tup xs => obtain ⟨_, _, _, ⟨ob, e, _⟩, _⟩ := x; exact ⟨_, e⟩
  | dK kvs => obtain ⟨_, _, _, _, o, _, _, e, _⟩ := x; exact ⟨_, e⟩
  | dT kvs => obtain ⟨_, _, _, _, o, _, _, e, _⟩ := x; exact ⟨_, e⟩
  | set S n => obtain ⟨o, _, _, _, e, _⟩ := x; exact ⟨_, e⟩
  | ins C dx fs => obtain ⟨_, _, _, e, _⟩ := x; exact ⟨_, e⟩
  | own y => obtain ⟨_, e⟩ := x; exact ⟨_, e⟩
  | xd fs => obtain ⟨_, ⟨_, _, _, e, _⟩, _⟩ := x; exact ⟨_, e⟩
  | rng lo hi => obtain ⟨_, _, _, e⟩ := x; exact ⟨_, e⟩
  | frz ob u => obtain ⟨e, _⟩ := x; exact ⟨_, e⟩
  | tbl ps => exact ⟨_, (show h.get? a = some _ from x)⟩
  | met f y => exact ⟨_, (show h.get? a = some _ from x)⟩
  | ext φ => obtain ⟨_, ⟨_, e⟩, _⟩ := x; exact ⟨_, e⟩

/-- from s (with H) to h' (with H'): what is tracked or stood at s lies in B too -/
structure FlyB (P : Program) (w : World) (outer : List Env) (H : Hp) (h : Heap) (H' : Hp) (B : Heap) (h' : Heap) : Prop where
  un : Un (frs outer) [] H H' h h'
  hok : HOk P w H' h'
  cov : ∀ b o, h'.get? b = some o → b ∉ frs outer → (H' b ≠ none ∨ ∃ o0, h.get? b = some o0) → B.get? b = some o
section
variable {P : Program} {w : World} {outer : List Env} {H H' : Hp} {h h1 h2 B B' : Heap}
theorem FlyB.there (F : FlyB P w outer H h H' B h1) {b : Addr} (c : H' b ≠ none ∨ ∃ o0, h.get? b = some o0) : ∃ o, h1.get? b = some o := by
  rcases c with c | ⟨o0, c⟩
  · cases e : H' b with
    | none => exact absurd e c
    | some u => exact objOk_there (F.hok b u e)
  · exact F.un.there b o0 c (by simp)
theorem FlyB.step (F : FlyB P w outer H h H' B h1) (k : B.StaysIn h2) (u : h1.UpToSlots h2) (ff : h1.FunFrames B' outer) (hf : ∀ b ∈ frs outer, H' b = none) : FlyB P w outer H h H' B h2 := by
  have nx : ∀ b : Addr, b ∉ ([] : List Addr) := fun b z => nomatch z
  refine ⟨⟨fun b o q n hb hx => k b o (F.cov b o (F.un.keep b o q n hb hx) hb (.inr ⟨o, q⟩)), fun b o q n hb hx => ?_, F.un.free, fun b o q hx => ?_, F.un.tups, F.un.frzs, F.un.tbls⟩, fun a o e => ?_, fun b o q hb c => ?_⟩
  · obtain ⟨sl, e1⟩ := F.un.slot b o q n hb hx
    obtain ⟨_, o', e2, nf⟩ := ff.mem hb
    rw [e1] at e2
    cases e2
    obtain ⟨sl', e3⟩ := u b _ e1 nf
    exact ⟨sl', e3⟩
  · obtain ⟨o', e1⟩ := F.un.there b o q hx
    by_cases hb : b ∈ frs outer
    · obtain ⟨_, o2, e2, nf⟩ := ff.mem hb
      obtain ⟨sl', e3⟩ := u b _ e2 nf
      exact ⟨_, e3⟩
    · exact ⟨o', k b o' (F.cov b o' e1 hb (.inr ⟨o, q⟩))⟩
  · refine (F.hok a o e).stay (fun b v hc q => ?_) (fun _ q => q) fun _ _ q => q
    have ht : H' b ≠ none := by
      rcases hc with rfl | hc
      · rw [e]; exact fun z => nomatch z
      · rw [hc]; exact fun z => nomatch z
    exact k b v (F.cov b v q (fun z => ht (hf b z)) (.inl ht))
  · obtain ⟨o1, e1⟩ := F.there c
    have e2 := F.cov b o1 e1 hb c
    have e3 := k b o1 e2
    rw [q] at e3
    cases e3
    exact e2
end

/-- behind a call that raises: an exception e of the class at C -/
noncomputable def CX1 (P : Program) (w : World) : CXT := fun outer H s E e s' => ∃ (a C : Addr) (t : Value) (H' : Hp) (B : Heap), e = .ref a ∧ s'.os = s.os ∧ AllBare s'.gens ∧ FlyB P w outer H s.heap H' B s'.heap ∧
  Heap.FlyingW B outer a (.ref C) t s'.heap ∧ E (.ref C) none H'

section
variable {X : Cx} {pins : List (Addr × Obj)} {σ : St} {H1 H' : Hp} {s1 : Shared} {B h2 : Heap}
end
section
variable {P : Program} {w : World} {K : PySem.W.Frag} {mg : Str → Option Value} {base : Heap} {N : List Str} {qual : Str} {scope : Scope} {f : Addr} {cd : Value} {A : Around} {outer : List Env} {s : Shared} {H : Hp} {E : XK}
end
end DL

set_option Elab.async false
set_option linter.all false
set_option maxRecDepth 100000
set_option maxHeartbeats 4000000
namespace DL
open PySem PySem.Spec L2 L3
open PyProof.Rows hiding St
variable {Γ : Hp → Prop}

/-- the slot is empty -/
noncomputable def clrS : DE → Nat → DE
  | [], _ => []
  | _ :: r, 0 => none :: r
  | x :: r, i + 1 => x :: clrS r i
/-- what is ours is held fast -/
noncomputable def frzE (ρ : DE) : DE := ρ.map fun x => x.map fun r => dv r.d
theorem REnv.frz {K : PySem.W.Frag} {H₀ H : Hp} {σ : St} {ρ : DE} {o : List (Nat × Addr)} (R : REnv K H₀ H σ ρ o) : REnv K H H σ (frzE ρ) [] where
  same := Same.refl H
  fresh := fun _ z => absurd z (by simp)
  trk := fun _ z => absurd z (by simp)
  mtb := fun _ z => absurd z (by simp)
  nda := List.nodup_nil
  len := by unfold frzE; rw [List.length_map]; exact R.len
  slots := fun j r e => by
    unfold frzE at e
    rw [List.getElem?_map] at e
    cases e1 : ρ[j]? with
    | none => rw [e1] at e; cases e
    | some x =>
      rw [e1] at e
      cases x with
      | none => cases e
      | some r' =>
        have e' : some (dv r'.d) = some r := Option.some.inj e
        cases e'
        obtain ⟨v, ev, q⟩ := R.slots j r' e1
        refine ⟨v, ev, .inl ⟨rfl, ?_⟩⟩
        rcases q with ⟨_, q⟩ | ⟨_, a, rfl, m, c⟩
        · exact Rep.sub (O' := []) (fun _ z => absurd z (by simp)) _ _ q
        · exact (c.sub (O' := []) fun _ z => absurd z (by simp)).rep (by simp)
theorem REnv.gr {K : PySem.W.Frag} {H H1 : Hp} {σ : St} {ρ : DE} {o1 : List (Nat × Addr)} {O : List Addr} (R : REnv K H H1 σ ρ o1) : Grow O (o1.map Prod.snd) H H1 :=
  ⟨fun b u h n => ⟨R.same b u h, fun z => by
    obtain ⟨p, hp, e⟩ := List.mem_map.mp z
    have := R.fresh p hp
    rw [e, h] at this
    cases this⟩, fun b xs h => R.same b _ h, fun b ob u h => R.same b _ h⟩

noncomputable def XP (Γ : Hp → Prop) (X : Cx) (χ : DE → Addr → Prop) : Prop := ∀ (H₀ : Hp), Γ H₀ → ∀ (ρ : DE) (o : List (Nat × Addr)) (pins : List (Addr × Obj)) (σ : St) (H : Hp) (s : Shared) (e : Value) (s' : Shared), Inv X pins σ H s → REnv X.K H₀ H σ ρ o →
  CX1 X.prog X.w X.stack H s (fun cls _ H' => Same H H' ∧ ∃ C, cls = .ref C ∧ χ ρ C) e s' → X.xe e s'
noncomputable abbrev FTX := List D → (EV → Prop) → (Addr → Prop) → Prop
noncomputable def dCallX (n : Nat) (T : FTX) (χ : DE → Addr → Prop) (t : TDs) : TD := fun ρ φ => t ρ fun rs => Nat.beq rs.length n = true ∧ T (rs.map EV.d) φ (χ ρ)
section
variable {P : Program} {w : World} {K : PySem.W.Frag} {mg : Str → Option Value} {base : Heap}
end

noncomputable def sRaise (χ : DE → Addr → Prop) (C : Addr) (t : TDs) : TDS := fun ρ _ => t ρ fun rs => Nat.ble rs.length 9 = true ∧ χ ρ C
end DL

set_option Elab.async false
set_option linter.all false
set_option maxRecDepth 100000
set_option maxHeartbeats 4000000
namespace DL
open PySem PySem.Spec L2 L3 PySem.W PySem.Builtin PySem.Builtin.ObjectAttr PySem.Builtin.Getset_descriptor
open PyProof.Rows hiding St InstAt

section
variable {prog : Program} {w : World} {A : Around} {E : Value → Shared → Prop} {s : Shared} {K : PySem.W.Frag} {a C : Addr}
structure ExcIn (K : PySem.W.Frag) (C : Addr) : Prop where
  ga : findIn K (.ref C) "__getattribute__" = some (some (.builtin "BaseException.__getattribute__"))
  hk : findIn K (.ref C) "__getattr__" = some none
  ha : findIn K (.ref C) "__class__" = some (some (.builtin "object.__class__"))
  hn : specialIn K (.builtin "object.__class__") "__get__" = some (some (.builtin "getset_descriptor.__get__"))
  htk : takesIn K (.builtin "object.__class__") = some true
  hm : mroIn K C (.type "object") = some true
  hb : subIn K (.ref C) (.type "BaseException") = some true
  hd : hasDictIn K C = true

end
end DL

set_option Elab.async false
set_option linter.all false
set_option maxRecDepth 100000
set_option maxHeartbeats 4000000
namespace DL
open PySem PySem.Spec L2 L3
open PyProof.Rows hiding St
variable {Γ : Hp → Prop}

section
variable {X : Cx} {p np pos : Pos} {e : Expr} {te : TD} {c : Str} {C0 : Addr}
noncomputable def dIsE (K : PySem.W.Frag) (z : Value) (te : TD) : TD := fun ρ φ => te ρ fun r => match r.d with
  | .exc C => ∃ b, PySem.W.kitOne K (.ref C) z = some b ∧ ExcIn K C ∧ φ (dv (.bl b))
  | _ => False
end

noncomputable def hanZ (j : Nat) (Z : DZ) : DZ := { nx := fun ρ => Z.nx (clrS ρ j), rt := Z.rt, bk := fun ρ => Z.bk (clrS ρ j), ct := fun ρ => Z.ct (clrS ρ j) }
noncomputable def sTry (K : PySem.W.Frag) (C0 : Addr) (j : Nat) (tb : (DE → Addr → Prop) → TDS) (ts : TDS) : TDS := fun ρ Z =>
  tb (fun ρ' C => PySem.W.exmOne K (.ref C) (.ref C0) = some true ∧ ts (setS ρ' j (dv (.exc C))) (hanZ j Z)) (frzE ρ) Z
end DL

set_option Elab.async false
set_option linter.all false
set_option maxRecDepth 100000
set_option maxHeartbeats 4000000
namespace DL
open PySem PySem.Spec L2 L3
open PyProof.Rows hiding St
theorem pg_tupK {X : Cx} {K0 : PySem.W.Frag} {es : List Expr} {k : Nat} {t : TGs} {n : Nat} {pos : Pos} (hK : X.K = K0) (hc : X.calm = true) (h : PGs X es t) (hn : (assignEach es X.env).length = n := by rfl) (hst : (assignEach es X.env).findIdx? (·.1) = none := by rfl) : PG X (.Tuple es k pos) (gTup K0 n t) := by
  subst hK
  exact pg_tup hc h hn hst
end DL

set_option Elab.async false
set_option linter.all false
set_option maxRecDepth 100000
set_option maxHeartbeats 4000000
namespace DL
open PySem PySem.Spec L2 L3
open PyProof.Rows hiding St
variable {Γ : Hp → Prop}
section
variable {X : Cx} {p np pos : Pos} {e : Expr} {te : TD} {c : Str} {T : String}
end
end DL

set_option Elab.async false
set_option linter.all false
set_option maxRecDepth 100000
set_option maxHeartbeats 4000000
namespace DL
open PySem PySem.Spec L2 L3
open PyProof.Rows hiding St
variable {Γ : Hp → Prop}
section
variable {X : Cx} {x : Str} {e ke : Expr} {te tk : TD} {np pos pos' : Pos}
noncomputable def sLput (i : Nat) (tk te : TD) : TDS := fun ρ Z => match slot ρ i with
  | some ⟨.own, .lst ds⟩ => te ρ fun r => tk ρ fun kr => (match r.k with | .own => False | _ => True) ∧ (match kr.d with
    | .int k => (match ixN ds.length k with
      | some j => Z.nx (setS ρ i (dO (.lst (ds.set j r.d))))
      | none => False)
    | _ => False)
  | _ => False
end
end DL

set_option Elab.async false
set_option linter.all false
set_option maxRecDepth 100000
set_option maxHeartbeats 4000000
namespace DL
open PySem PySem.Spec L2 L3
open PyProof.Rows hiding St
variable {Γ : Hp → Prop}
noncomputable def blsD : List D → Option (List Bool)
  | [] => some []
  | .bl b :: r => (blsD r).map (b :: ·)
  | _ :: _ => none
section
variable {X : Cx} {e : Expr} {es : List Expr} {t : TDs} {p pos : Pos}
noncomputable def sAllL (g : List Bool → Bool) : FT := fun ds φ => match ds with
  | [.lst l] => match blsD l with
    | some bs => φ (dv (.bl (g bs)))
    | none => False
  | _ => False
end
end DL

set_option Elab.async false
set_option linter.all false
set_option maxRecDepth 100000
set_option maxHeartbeats 8000000
namespace L3
open PySem PySem.Spec PyProof.Rows
section
variable {P : Program} {w : World} {A : Around} {E : Value → Shared → Prop} {s : Shared}
/-- b: a tuple; else a list -/
noncomputable def SqAt (b : Bool) (h : Heap) (l : Addr) (xs : Array Value) : Prop := match b with
  | true => h.IsTuple l xs
  | false => h.IsList l xs
noncomputable def ItAt (b : Bool) (h : Heap) (it l : Addr) (i : Nat) : Prop := match b with
  | true => h.IsTupleIter it l i
  | false => h.IsListIter it l i
theorem SqAt.at {b : Bool} {h g : Heap} {l : Addr} {xs : Array Value} (x : SqAt b h l xs) (k : ∀ o, h.get? l = some o → g.get? l = some o) : SqAt b g l xs := by
  cases b with
  | true => exact Heap.IsTuple.at (show h.IsTuple l xs from x) k
  | false => exact Heap.IsList.at (show h.IsList l xs from x) k
theorem ItAt.at {b : Bool} {h g : Heap} {it l : Addr} {i : Nat} (x : ItAt b h it l i) (k : ∀ o, h.get? it = some o → g.get? it = some o) : ItAt b g it l i := by
  cases b with
  | true => exact Heap.IsTupleIter.at (show h.IsTupleIter it l i from x) k
  | false => exact Heap.IsListIter.at (show h.IsListIter it l i from x) k
end
end L3

set_option Elab.async false
set_option linter.all false
set_option maxRecDepth 100000
set_option maxHeartbeats 8000000
namespace L3
open PySem PySem.Spec L2
open PyProof.Rows hiding St
theorem ItAt.there {b : Bool} {h : Heap} {it l : Addr} {i : Nat} (x : ItAt b h it l i) : ∃ o, h.get? it = some o ∧ ∀ v, o.data ≠ .cell v := by
  cases b with
  | true =>
    obtain ⟨o, e, c, d⟩ := (show h.IsTupleIter it l i from x)
    exact ⟨o, e, fun v q => by rw [d] at q; cases q⟩
  | false =>
    obtain ⟨o, e, c, d⟩ := (show h.IsListIter it l i from x)
    exact ⟨o, e, fun v q => by rw [d] at q; cases q⟩
end L3

set_option Elab.async false
set_option linter.all false
set_option maxRecDepth 100000
set_option maxHeartbeats 4000000
namespace DL
open PySem PySem.Spec L2 L3
open PyProof.Rows hiding St
variable {Γ : Hp → Prop}

noncomputable def zipD (xs ys : List D) : List D := List.zipWith (fun x y => D.tup [x, y]) xs ys
/-- a sequence as it is walked -/
noncomputable def seqD : D → Option (List D)
  | .lst ds => some ds
  | .tup ds => some ds
  | .scr ns => some (ns.map D.int)
  | _ => none
theorem seqD_lst {ds : List D} : seqD (.lst ds) = some ds := rfl
theorem seqD_tup {ds : List D} : seqD (.tup ds) = some ds := rfl
theorem seqD_scr {ns : List Int} : seqD (.scr ns) = some (ns.map D.int) := rfl
/-- at l, of kind b, stand ds -/
noncomputable def SeqP (b : Bool) (K : PySem.W.Frag) (H : Hp) (O : List Addr) (l : Addr) (d : D) : Prop := match d with
  | .lst ds => b = false ∧ ∃ xs, H l = some (.lst xs) ∧ l ∉ O ∧ Reps K H O ds xs
  | .tup ds => b = true ∧ ∃ xs, SqT K H l xs ∧ Reps K H O ds xs
  | .scr ns => b = false ∧ Scr K H l ns
  | _ => False
theorem SeqP.of {K : PySem.W.Frag} {H : Hp} {O : List Addr} {d : D} {v : V} {ds : List D} (h : Rep K H O d v) (e : seqD d = some ds) : ∃ b l, v = .ref l ∧ SeqP b K H O l d := by
  cases d with
  | lst es => obtain ⟨a, xs, rfl, q, n, r⟩ := h; exact ⟨false, a, rfl, rfl, xs, q, n, r⟩
  | tup es => obtain ⟨a, xs, rfl, q, r⟩ := h; exact ⟨true, a, rfl, rfl, xs, q.1, r⟩
  | scr ns => obtain ⟨a, rfl, q⟩ := h; exact ⟨false, a, rfl, rfl, q⟩
  | _ => cases e
theorem SeqP.grow {b : Bool} {K : PySem.W.Frag} {H H' : Hp} {O O' : List Addr} {l : Addr} {d : D} (h : SeqP b K H O l d) (g : Grow O O' H H') : SeqP b K H' O' l d := by
  cases d with
  | lst es => obtain ⟨rfl, xs, q, n, r⟩ := h; exact ⟨rfl, xs, (g.keep _ _ q n).1, (g.keep _ _ q n).2, Reps.grow g _ _ r⟩
  | tup es => obtain ⟨rfl, xs, q, r⟩ := h; exact ⟨rfl, xs, sqT_grow g q, Reps.grow g _ _ r⟩
  | scr ns => obtain ⟨rfl, q⟩ := h; exact ⟨rfl, scr_grow g q⟩
  | _ => exact h.elim
section
variable {X : Cx} {pins : List (Addr × Obj)} {σ : St} {H : Hp} {s : Shared}
noncomputable def iZ (t : TDs) : TID := fun ρ φ => t ρ fun rs => match rs with
  | [⟨k1, d1⟩, ⟨k2, d2⟩] => (match k1 with | .own => False | _ => True) ∧ (match k2 with | .own => False | _ => True) ∧ match seqD d1, seqD d2 with
    | some xs, some ys => φ (zipD xs ys)
    | _, _ => False
  | _ => False
/-- the numbers of a list -/
noncomputable def intsD : List D → Option (List Int)
  | [] => some []
  | .int n :: r => (intsD r).map (n :: ·)
  | _ :: _ => none
theorem intsD_map : ∀ (ns : List Int), intsD (ns.map D.int) = some ns
  | [] => rfl
  | n :: ns => by rw [List.map_cons, intsD, intsD_map ns]; rfl
noncomputable def sSum : FT := fun ds φ => match ds with
  | [.lst l] => match intsD l with
    | some ns => φ (dv (.int ns.sum))
    | none => False
  | _ => False
end

noncomputable def frzS : DE → Nat → DE
  | [], _ => []
  | x :: r, 0 => x.map (fun r => dv r.d) :: r
  | x :: r, i + 1 => x :: frzS r i
theorem frzS_get : ∀ (ρ : DE) (i j : Nat), (frzS ρ i)[j]? = if j = i then ρ[j]?.map (fun x => x.map fun r => dv r.d) else ρ[j]?
  | [], i, j => by simp [frzS]
  | x :: r, 0, 0 => rfl
  | x :: r, 0, j + 1 => by simp [frzS]
  | x :: r, i + 1, 0 => by simp [frzS]
  | x :: r, i + 1, j + 1 => by
    have := frzS_get r i j
    simp only [frzS, List.getElem?_cons_succ, this]
    by_cases h : j = i
    · simp [h]
    · rw [if_neg h, if_neg (by omega)]
theorem frzS_len : ∀ (ρ : DE) (i : Nat), (frzS ρ i).length = ρ.length
  | [], _ => rfl
  | _ :: _, 0 => rfl
  | x :: r, i + 1 => by simp [frzS, frzS_len r i]
theorem REnv.frz1 {K : PySem.W.Frag} {H₀ H : Hp} {σ : St} {ρ : DE} {o : List (Nat × Addr)} (R : REnv K H₀ H σ ρ o) (i : Nat) : ∃ o', REnv K H₀ H σ (frzS ρ i) o' ∧ ∀ p ∈ o', p ∈ o := by
  refine ⟨o.filter fun p => decide (p.1 ≠ i), ?_, fun p hp => (List.mem_filter.mp hp).1⟩
  have sub : ∀ p ∈ o.filter (fun p => decide (p.1 ≠ i)), p ∈ o := fun p hp => (List.mem_filter.mp hp).1
  have subA : ∀ a ∈ (o.filter (fun p => decide (p.1 ≠ i))).map Prod.snd, a ∈ o.map Prod.snd := fun a ha => by
    obtain ⟨p, hp, e⟩ := List.mem_map.mp ha
    exact List.mem_map.mpr ⟨p, sub p hp, e⟩
  exact {
    same := R.same
    fresh := fun p hp => R.fresh p (sub p hp)
    trk := fun p hp => R.trk p (sub p hp)
    mtb := fun p hp => R.mtb p (sub p hp)
    nda := List.Nodup.sublist (List.Sublist.map _ List.filter_sublist) R.nda
    len := by rw [frzS_len]; exact R.len
    slots := fun j r e => by
      rw [frzS_get] at e
      by_cases hj : j = i
      · rw [if_pos hj] at e
        cases e1 : ρ[j]? with
        | none => rw [e1] at e; cases e
        | some x =>
          rw [e1] at e
          cases x with
          | none => cases e
          | some r' =>
            have e' : some (dv r'.d) = some r := Option.some.inj e
            cases e'
            obtain ⟨v, ev, q⟩ := R.slots j r' e1
            refine ⟨v, ev, .inl ⟨rfl, ?_⟩⟩
            rcases q with ⟨_, q⟩ | ⟨_, a, rfl, m, c⟩
            · exact Rep.sub subA _ _ q
            · refine (c.sub subA).rep fun z => ?_
              obtain ⟨p, hp, ep⟩ := List.mem_map.mp z
              have := inj_snd R.nda (sub p hp) m ep
              have hne := of_decide_eq_true (List.mem_filter.mp hp).2
              rw [this] at hne
              exact hne hj
      · rw [if_neg hj] at e
        obtain ⟨v, ev, q⟩ := R.slots j r e
        refine ⟨v, ev, ?_⟩
        rcases q with ⟨k, q⟩ | ⟨k, a, e1, m, c⟩
        · exact .inl ⟨k, Rep.sub subA _ _ q⟩
        · exact .inr ⟨k, a, e1, List.mem_filter.mpr ⟨m, decide_eq_true hj⟩, c.sub subA⟩ }
noncomputable def sFrz (i : Nat) (t : TDS) : TDS := fun ρ Z => t (frzS ρ i) Z
theorem sd_frz (i : Nat) {X : Cx} {st : Stmt} {t : TDS} (h : SD Γ X st t) : SD Γ X st (sFrz i t) := fun H₀ => impS (h H₀) fun D σ H h => by
  obtain ⟨ρ, o, R, Z, hZ, k1, k2, k3, k4⟩ := h
  obtain ⟨o', R', sub⟩ := R.frz1 i
  have g : Grow (o.map Prod.snd) (o'.map Prod.snd) H H := ⟨fun b u h n => ⟨h, fun z => n (by
    obtain ⟨p, hp, e⟩ := List.mem_map.mp z
    exact List.mem_map.mpr ⟨p, sub p hp, e⟩)⟩, fun b xs h => h, fun b ob u h => h⟩
  exact ⟨_, o', R', Z, hZ, fun ρ2 σ2 H2 o2 g2 R2 q2 => k1 ρ2 σ2 H2 o2 (g.trans g2) R2 q2, fun ρ2 σ2 H2 o2 g2 R2 q2 => k2 ρ2 σ2 H2 o2 (g.trans g2) R2 q2, fun ρ2 σ2 H2 o2 g2 R2 q2 => k3 ρ2 σ2 H2 o2 (g.trans g2) R2 q2, k4⟩
end DL

set_option Elab.async false
set_option linter.all false
set_option maxRecDepth 100000
set_option maxHeartbeats 4000000
namespace HT
open PySem PyProof.Rows
section
variable {prog : Program} {w : World} {A : Around} {E : Value → Shared → Prop} {s : Shared}
/-- () + u: u itself -/
theorem cat_tup0 {t b : Addr} {ws : List Value} {Q : Value → Shared → Prop} (ht : IsTup s.heap t #[]) (hb : IsTup s.heap b ws.toArray)
    (h1 : Q (.ref b) s) : wpAny (model prog w) A (binaryOp .Add (.ref t) (.ref b)) Q E s := by
  obtain ⟨⟨cls, dd, data, sl⟩, ho, hc, n, hd⟩ := id ht
  obtain ⟨⟨cls2, dd2, data2, sl2⟩, ho2, hc2, n2, hd2⟩ := id hb
  simp only at hc hd hc2 hd2
  subst hc hd hc2 hd2
  exact concat_meets ⟨_, ho, rfl⟩ ⟨_, ho2, rfl⟩ noFill_tuple_add seq_tuple_add PySem.F.slot_tuple_add PySem.F.entry_tuple_add (PySem.F.args_tuple_add_2 _ _)
      (tuple_addW0 t b #[] ws.toArray n n2 dd dd2 sl sl2 (by simp)) ⟨ho, ho2, h1⟩
end
end HT
namespace L2
open PySem PySem.Spec PyProof.Rows
section
variable {X : Cx}
noncomputable def rCatT0 (K : PySem.W.Frag) : R2 := fun x y H Q => ∃ a b ys, x = .ref a ∧ y = .ref b ∧ SqT K H a [] ∧ SqT K H b ys ∧ Q (.ref b) H
theorem op_catT0 : OpR X (binaryOp .Add) (rCatT0 X.K) := by
  intro pins s σ H x y v u Q I rx ry h
  obtain ⟨a, b, ys, rfl, rfl, ha, hb, q⟩ := h
  cases rx
  cases ry
  obtain ⟨its, r1, p1, _⟩ := I.tuple ha
  obtain ⟨its2, r2, p2, _⟩ := I.tuple hb
  cases r1
  exact HT.cat_tup0 p1 p2 ⟨.ref b, H, I, rfl, q⟩
end
end L2

set_option Elab.async false
set_option linter.all false
set_option maxRecDepth 100000
set_option maxHeartbeats 4000000
namespace DL
open PySem PySem.Spec L2 L3
open PyProof.Rows hiding St
variable {Γ : Hp → Prop}
theorem RV.anew {K : PySem.W.Frag} {H0 H : Hp} {O : List Addr} {r : EV} {v : V} (h : RV K H0 H O r v) (p : pureEV r) : RepN K H (fun a => a ∉ O ∧ H0 a = none) r.d v := by
  obtain ⟨k, d⟩ := r
  cases k with
  | val => exact Rep.toN _ _ p h
  | own => exact p.elim
  | new => exact h
  | fre =>
    obtain ⟨a, rfl, m, n, c⟩ := h
    cases d with
    | lst ds => obtain ⟨xs, q, r⟩ := c; exact ⟨a, xs, rfl, q, ⟨n, m⟩, Reps.toN _ _ p r⟩
    | dk ks ds => obtain ⟨xs, q, l, nd, r⟩ := c; exact ⟨a, xs, rfl, q, ⟨n, m⟩, l, nd, Reps.toN _ _ p r⟩
    | dt ks ds => obtain ⟨xs, q, l, nd, r⟩ := c; exact ⟨a, xs, rfl, q, ⟨n, m⟩, l, nd, Reps.toN _ _ p r⟩
    | _ => exact c.elim
noncomputable def pureEVs : List EV → Prop
  | [] => True
  | r :: rs => pureEV r ∧ pureEVs rs
theorem RVs.anew {K : PySem.W.Frag} {H0 H : Hp} {O : List Addr} : ∀ {rs : List EV} {vs : List V}, RVs K H0 H O rs vs → pureEVs rs → RepNs K H (fun a => a ∉ O ∧ H0 a = none) (rs.map EV.d) vs
  | [], _, h, _ => h
  | r :: rs, vs, h, p => by
    obtain ⟨v, ws, e, h1, t⟩ := h
    exact ⟨v, ws, e, h1.anew p.1, RVs.anew t p.2⟩
theorem RVs.get {K : PySem.W.Frag} {H0 H : Hp} {O : List Addr} : ∀ {rs : List EV} {vs : List V} {i : Nat} {r : EV}, RVs K H0 H O rs vs → rs[i]? = some r → ∃ v, vs[i]? = some v ∧ RV K H0 H O r v
  | [], _, _, _, _, e => by simp at e
  | r :: rs, vs, 0, r', h, e => by
    obtain ⟨v, ws, rfl, q, _⟩ := h
    simp at e
    subst e
    exact ⟨v, rfl, q⟩
  | r :: rs, vs, i + 1, r', h, e => by
    obtain ⟨v, ws, rfl, _, t⟩ := h
    obtain ⟨v', e', q'⟩ := RVs.get (i := i) t (by simpa using e)
    exact ⟨v', by simpa using e', q'⟩
theorem atI_rvs {K : PySem.W.Frag} {H0 H : Hp} {O : List Addr} {rs : List EV} {vs : List V} {i : Int} {r : EV} (h : RVs K H0 H O rs vs) (e : atI rs i = some r) : ∃ v, atI vs i = some v ∧ RV K H0 H O r v := by
  unfold atI at e ⊢
  rw [h.length]
  cases e' : ixN rs.length i with
  | none => rw [e'] at e; cases e
  | some j =>
    rw [e'] at e
    exact h.get e
section
variable {X : Cx} {a b e ix : Expr} {es : List Expr} {t : TDs} {ta tb te tk : TD} {pos : Pos}
noncomputable def dTupN (t : TDs) : TD := fun ρ φ => t ρ fun rs => pureEVs rs ∧ Nat.ble rs.length 1000 = true ∧ φ ⟨.new, .tup (rs.map EV.d)⟩
theorem ed_tupN {x1} (h : EA Γ X es t) : ED Γ X (.Tuple es x1 pos) (dTupN t) := fun H₀ => impE (pe_tup (h H₀)) fun σ H Q q => by
  obtain ⟨ρ, o, R, φ, hφ, k⟩ := q
  refine ⟨ρ, o, R, _, hφ, fun vs rs H1 s1 rvs h1 => ⟨by rw [rvs.length]; exact le_line h1.2.1, fun p hp => ?_⟩⟩
  refine k _ ⟨.new, .tup (rs.map EV.d)⟩ _ (s1.trans (same_new hp _)) ⟨p, vs, rfl, ⟨SqT.of upd_same, upd_same⟩, RepNs.to (same_new hp _) (fun _ z => z) _ _ (rvs.anew h1.1)⟩ h1.2.2
/-- t + u: new, where both are -/
noncomputable def dAddN (ta tb : TD) : TD := fun ρ φ => ta ρ fun x => tb ρ fun y => match x.d, y.d with
  | .tup p, .tup q => pureEV x ∧ pureEV y ∧ p.length + q.length ≤ sizeLine ∧ φ ⟨.new, .tup (p ++ q)⟩
  | _, _ => False
theorem ed_addN (ha : ED Γ X a ta) (hb : ED Γ X b tb) : ED Γ X (.BinOp a .Add b pos) (dAddN ta tb) := fun H₀ => impE (pe_op (op_catT.or op_catT0) (ha H₀) (hb H₀)) fun σ H Q q => by
  obtain ⟨ρ, o, R, φ, hφ, k⟩ := q
  refine ⟨ρ, o, R, _, hφ, fun v1 r1 H1 s1 rv1 h1 => ⟨ρ, o, R.to s1, _, h1, fun v2 r2 H2 s2 rv2 h2 => ?_⟩⟩
  have n1 := fun p => (rv1.same s2).anew p
  have n2 := fun p => (rv2.start s1).anew p
  obtain ⟨k1, d1⟩ := r1
  obtain ⟨k2, d2⟩ := r2
  cases d1 with
  | tup p =>
    cases d2 with
    | tup q =>
      obtain ⟨p1, p2, hl, hn⟩ := h2
      obtain ⟨a1, xs, rfl, q1, r1⟩ := n1 p1
      obtain ⟨a2, ys, rfl, q2, r2⟩ := n2 p2
      have l1 := r1.length
      have l2 := r2.length
      cases p with
      | nil =>
        have e : xs = [] := List.eq_nil_of_length_eq_zero l1
        subst e
        exact .inr ⟨a1, a2, ys, rfl, rfl, q1.1, q2.1, k _ ⟨.new, .tup q⟩ H2 (s1.trans s2) ⟨a2, ys, rfl, q2, r2⟩ hn⟩
      | cons d p =>
        refine .inl ⟨a1, a2, xs, ys, rfl, rfl, q1.1, q2.1, (fun z => by subst z; cases l1), by rw [l1, l2]; exact hl, fun z => ?_, fun z p' hp => ?_⟩
        · subst z
          have e : q = [] := List.eq_nil_of_length_eq_zero l2.symm
          subst e
          rw [List.append_nil] at hn
          exact k _ ⟨.new, .tup (d :: p)⟩ H2 (s1.trans s2) ⟨a1, xs, rfl, q1, r1⟩ hn
        · exact k _ ⟨.new, .tup (d :: p ++ q)⟩ _ ((s1.trans s2).trans (same_new hp _)) ⟨p', xs ++ ys, rfl, ⟨SqT.of upd_same, upd_same⟩, RepNs.to (same_new hp _) (fun _ z => z) _ _ (r1.append r2)⟩ hn
    | _ => exact h2.elim
  | _ => exact h2.elim
/-- t[lo:hi], the whole or not -/
noncomputable def dSlT (te : TD) (tl th : TDo) : TD := fun ρ φ => te ρ fun x => tl ρ fun l => th ρ fun u => match x.d with
  | .tup ds => φ (dv (.tup (cutD ds l u)))
  | _ => False
/-- [a, b, ..][i]: the thing with all that is known of it -/
noncomputable def dPick (t : TDs) (tk : TD) : TD := fun ρ φ => t ρ fun rs => Nat.ble rs.length 1000 = true ∧ tk ρ fun kr => match kr.d with
  | .int k => match atI rs k with
    | some r => φ r
    | none => False
  | _ => False
theorem ed_pick {lp : Pos} (h : EA Γ X es t) (hk : ED Γ X ix tk) (hs : PlainIx ix := by intro _ _; rfl) : ED Γ X (.Subscript (.List es lp) ix pos) (dPick t tk) := fun H₀ => impE (pe_ix ix_seq (pe_lst (h H₀)) (hk H₀) hs) fun σ H Q q => by
  obtain ⟨ρ, o, R, φ, hφ, k⟩ := q
  refine ⟨ρ, o, R, _, hφ, fun vs rs H1 s1 rvs h1 => ⟨by rw [rvs.length]; exact le_line h1.1, fun p hp => ?_⟩⟩
  have s2 := same_new hp (.lst vs)
  refine ⟨ρ, o, R.to (s1.trans s2), _, h1.2, fun v r H3 s3 rv h3 => ?_⟩
  have vw := rv.view
  split at h3
  · rename_i n en
    rw [en] at vw
    cases (show v = _ from vw)
    split at h3
    · rename_i r' er
      obtain ⟨v', ev, rv'⟩ := atI_rvs rvs er
      exact .inl ⟨p, vs, n, v', rfl, rfl, SqL.of (s3 _ _ upd_same), ev, k v' r' H3 (s1.trans (s2.trans s3)) (rv'.same (s2.trans s3)) h3⟩
    · exact h3.elim
  · exact h3.elim
/-- x = [a, b, ..]; return x[i] -/
noncomputable def sLP (i : Nat) (t : TDs) (tk : TD) : TDS := fun ρ Z => t ρ fun rs => solidB rs = true ∧ Nat.ble rs.length 1000 = true ∧ slot (setS ρ i (dO (.lst (rs.map EV.d)))) i = some (dO (.lst (rs.map EV.d))) ∧ tk (setS ρ i (dO (.lst (rs.map EV.d)))) fun kr => match kr.d with
  | .int k => match atI rs k with
    | some r => Z.rt r.ret
    | none => False
  | _ => False
noncomputable def popD (ds : List D) : Option (List D × D) := match ds.getLast? with
  | some d => some (ds.dropLast, d)
  | none => none
theorem popD_app (ds : List D) (d : D) : popD (ds ++ [d]) = some (ds, d) := by
  unfold popD
  simp
/-- x = xs.pop() -/
noncomputable def sPop (i j : Nat) : TDS := fun ρ Z => match slot ρ i with
  | some ⟨.own, .lst ds⟩ => match popD ds with
    | some (ds', d) => Z.nx (setS (setS ρ i (dO (.lst ds'))) j (dv d))
    | none => False
  | _ => False
/-- xs.append((xs.pop(), b, ..)) -/
noncomputable def sAppPop (i : Nat) (t : TDs) : TDS := fun ρ Z => match slot ρ i with
  | some ⟨.own, .lst ds⟩ => match popD ds with
    | some (ds', d) => t (setS ρ i (dO (.lst ds'))) fun rs => solidB rs = true ∧ Nat.ble rs.length 100 = true ∧ ds'.length ≤ 100000 ∧ slot (setS ρ i (dO (.lst ds'))) i = some (dO (.lst ds')) ∧ Z.nx (setS (setS ρ i (dO (.lst ds'))) i (dO (.lst (ds' ++ [.tup (d :: rs.map EV.d)]))))
    | none => False
  | _ => False
/-- xs.extend([a, ..]) -/
noncomputable def sExt (i : Nat) (t : TDs) : TDS := fun ρ Z => match slot ρ i with
  | some ⟨.own, .lst ds⟩ => t ρ fun rs => solidB rs = true ∧ Nat.ble rs.length 1000 = true ∧ ds.length ≤ 100000 ∧ Z.nx (setS ρ i (dO (.lst (ds ++ rs.map EV.d))))
  | _ => False
/-- n += e -/
noncomputable def sAug (i : Nat) (te : TD) : TDS := fun ρ Z => match slot ρ i with
  | some ⟨.val, .int a⟩ => te ρ fun r => match r.d with
    | .int b => Z.nx (setS ρ i (dv (.int (a + b))))
    | _ => False
  | _ => False
noncomputable def sIsB : D → D → (EV → Prop) → Prop := fun x y φ => match x, y with
  | .bl c, .bl d => φ (dv (.bl (c == d)))
  | _, _ => False
noncomputable def sIsNotB : D → D → (EV → Prop) → Prop := fun x y φ => match x, y with
  | .bl c, .bl d => φ (dv (.bl (c != d)))
  | _, _ => False
end
end DL

set_option Elab.async false
set_option linter.all false
set_option maxRecDepth 100000
set_option maxHeartbeats 4000000
namespace DL
open PySem PySem.Spec L2 L3
open PyProof.Rows hiding St
variable {Γ : Hp → Prop}
section
variable {X : Cx} {p np pos tpos : Pos} {e : Expr} {te : TD} {c : Str} {C0 : Addr} {es : List Expr} {Cs : List Addr}
noncomputable def dIsET (K : PySem.W.Frag) (zs : List Addr) (te : TD) : TD := fun ρ φ => te ρ fun r => match r.d with
  | .exc C => ∃ b, PySem.W.kitAny K (.ref C) (zs.map Value.ref) = some b ∧ ExcIn K C ∧ zs.length ≤ 1000 ∧ φ (dv (.bl b))
  | _ => False
end
end DL

set_option Elab.async false
set_option linter.all false
set_option maxRecDepth 100000
set_option maxHeartbeats 4000000
namespace DL
open PySem PySem.Spec L2 L3
open PyProof.Rows hiding St
noncomputable def g1 (g : D → (EV → Prop) → Prop) : FT := fun ds φ => match ds with
  | [d] => g d φ
  | _ => False
noncomputable def g2 (g : D → D → (EV → Prop) → Prop) : FT := fun ds φ => match ds with
  | [d, e] => g d e φ
  | _ => False
noncomputable def g3 (g : D → D → D → (EV → Prop) → Prop) : FT := fun ds φ => match ds with
  | [d, e, f] => g d e f φ
  | _ => False
theorem f1_of {g : D → (EV → Prop) → Prop} {ds : List D} {φ : EV → Prop} (h : g1 g ds φ) : ∃ d, ds = [d] ∧ g d φ := by
  unfold g1 at h
  split at h
  · exact ⟨_, rfl, h⟩
  · exact h.elim
theorem f2_of {g : D → D → (EV → Prop) → Prop} {ds : List D} {φ : EV → Prop} (h : g2 g ds φ) : ∃ d e, ds = [d, e] ∧ g d e φ := by
  unfold g2 at h
  split at h
  · exact ⟨_, _, rfl, h⟩
  · exact h.elim
theorem f3_of {g : D → D → D → (EV → Prop) → Prop} {ds : List D} {φ : EV → Prop} (h : g3 g ds φ) : ∃ d e f, ds = [d, e, f] ∧ g d e f φ := by
  unfold g3 at h
  split at h
  · exact ⟨_, _, _, rfl, h⟩
  · exact h.elim
theorem cut_seq {t u : TDS} {ρ : DE} {Z : DZ} (J : DE → Prop) (h1 : t ρ { Z with nx := J }) (h2 : ∀ ρ2, J ρ2 → u ρ2 Z) : sSeq (sCut t) u ρ Z := ⟨J, h1, h2⟩
theorem sApp_at {i : Nat} {te : TD} {ρ : DE} {Z : DZ} {ds : List D} (e : slot ρ i = some (dO (.lst ds))) (h : te ρ fun r => (match r.k with | .own => False | _ => True) ∧ ds.length ≤ 100000 ∧ Z.nx (setS ρ i (dO (.lst (ds ++ [r.d]))))) : sApp i te ρ Z := by
  unfold sApp
  rw [e]
  exact h
end DL

set_option Elab.async false
set_option linter.all false
set_option maxRecDepth 100000
set_option maxHeartbeats 4000000
namespace L2
open PySem PySem.Spec PyProof.Rows
/-- a dict whose keys are texts -/
noncomputable def StrD (h : Heap) (a : Addr) (kvs : List (Str × Value)) : Prop :=
  ∃ o es ep, h.get? a = some o ∧ o.cls = .type "dict" ∧ o.data = .dict es ep ∧ es.size = kvs.length ∧ (∀ (i : Nat) (e : DictEntry), es[i]? = some e → ∃ k v t, kvs[i]? = some (k, v) ∧ e.key = .str k t ∧ e.val = v) ∧ (kvs.map (·.1)).Nodup
section
variable {prog : Program} {w : World} {A : Around} {E : Value → Shared → Prop} {s : Shared}
theorem StrD.typeIs {a : Addr} {kvs : List (Str × Value)} (h : StrD s.heap a kvs) : s.TypeIs (.ref a) "dict" := by
  obtain ⟨o, es, ep, g, c, _⟩ := h
  exact ⟨o, g, c⟩
end
end L2

set_option Elab.async false
set_option linter.all false
set_option maxRecDepth 100000
set_option maxHeartbeats 4000000
namespace DL
open PySem PySem.Spec L2 L3
open PyProof.Rows hiding St
variable {Γ : Hp → Prop}
section
variable {X : Cx} {pins : List (Addr × Obj)} {σ : St} {H : Hp} {s : Shared}
end
section
variable {X : Cx} {a b : Expr} {ta tb : TD} {pos : Pos}
end
end DL

set_option Elab.async false
set_option linter.all false
set_option maxRecDepth 100000
set_option maxHeartbeats 4000000
namespace L2
open PySem PySem.Spec PyProof.Rows
section
variable {X : Cx} {tg : Expr}
end
end L2
namespace DL
open PySem PySem.Spec L2 L3
open PyProof.Rows hiding St
variable {Γ : Hp → Prop}
section
variable {X : Cx} {a b e : Expr} {es : List Expr} {t : TDs} {ta tb te : TD} {p pos : Pos} {tg : Expr}
noncomputable def sDictC : FT := fun ds φ => match ds with
  | [.dk ks l] => φ (df (.dk ks l))
  | _ => False
noncomputable def sLenD : FT := fun ds φ => match ds with
  | [.dk ks l] => φ (dv (.int ks.length))
  | _ => False
end
end DL

set_option Elab.async false
set_option linter.all false
set_option maxRecDepth 100000
set_option maxHeartbeats 4000000
namespace DL
open PySem PySem.Spec L2 L3
open PyProof.Rows hiding St
variable {Γ : Hp → Prop}
section
variable {X : Cx} {es : List Expr} {t : TDs} {tpos pos : Pos}
noncomputable def pureRs : List EV → Prop
  | [] => True
  | r :: rs => pureEV r.ret ∧ pureRs rs
noncomputable def sRetT (t : TDs) : TDS := fun ρ Z => t ρ fun rs => pureRs rs ∧ Nat.ble rs.length 1000 = true ∧ Z.rt ⟨.new, .tup (rs.map EV.d)⟩
theorem RVs.rets {K : PySem.W.Frag} {H₀ H H' : Hp} {σ : St} {ρ : DE} {o : List (Nat × Addr)} (R : REnv K H₀ H σ ρ o) : ∀ {rs : List EV} {vs : List V}, RVs K H H' (o.map Prod.snd) rs vs → pureRs rs → RepNs K H' (fun a => a ∉ ([] : List Addr) ∧ H₀ a = none) (rs.map EV.d) vs
  | [], _, h, _ => h
  | r :: rs, vs, h, p => by
    obtain ⟨v, ws, e, q, t⟩ := h
    have q' := (RV.ret R q).anew p.1
    exact ⟨v, ws, e, by
      have : r.ret.d = r.d := rfl
      rw [this] at q'
      exact q', RVs.rets R t p.2⟩
theorem sd_retT {x1} (h : EA Γ X es t) : SD Γ X (.Return (some (.Tuple es x1 tpos)) pos) (sRetT t) := fun H₀ => impS (ps_ret (pe_tup (h H₀))) fun D σ H h => by
  obtain ⟨ρ, o, R, Z, hZ, k1, k2, k3, k4⟩ := h
  refine ⟨ρ, o, R, _, hZ, fun vs rs H1 s1 rvs h1 => ⟨by rw [rvs.length]; exact le_line h1.2.1, fun p hp => ?_⟩⟩
  refine k4 _ ⟨.new, .tup (rs.map EV.d)⟩ _ (R.same.trans (s1.trans (same_new hp _))) ?_ h1.2.2
  exact ⟨p, vs, rfl, ⟨SqT.of upd_same, upd_same⟩, RepNs.to (same_new hp _) (fun _ z => z) _ _ (RVs.rets R rvs h1.1)⟩
end
end DL

set_option Elab.async false
set_option linter.all false
set_option maxRecDepth 100000
set_option maxHeartbeats 4000000
namespace DL
open PySem PySem.Spec L2 L3
open PyProof.Rows hiding St
section
variable {K : PySem.W.Frag} {H₀ H : Hp} {σ : St} {ρ : DE} {o : List (Nat × Addr)}
end
section
variable {Γ : Hp → Prop} {X : Cx} {st : Stmt} {rest : List Stmt} {t u : TDS} {e ke : Expr} {te tk : TD} {pos : Pos}
end
end DL

set_option Elab.async false
set_option linter.all false
set_option maxRecDepth 100000
set_option maxHeartbeats 4000000
namespace DL
open PySem PySem.Spec L2 L3
open PyProof.Rows hiding St
section
variable {P : Program} {w : World} {K : PySem.W.Frag} {mg : Str → Option Value} {base : Heap}
end
end DL

set_option Elab.async false
set_option linter.all false
set_option maxRecDepth 100000
set_option maxHeartbeats 4000000
namespace L2
open PySem PySem.Spec PyProof.Rows
section
variable {prog : Program} {w : World} {A : Around} {R : Result → Shared → Prop} {I : Addr} {fp wr : List Addr} {n : Nat} {P : Nat → Value → Prop} {St : Nat → Heap → Prop} {kw : List (Str × Value)}
end
section
variable {prog : Program} {w : World} {A : Around} {E : Value → Shared → Prop} {s : Shared} {l : Addr} {xs : Array (Int × Tok)}
end
section
variable {X : Cx}
noncomputable def maxI : Int → List Int → Int
  | d, [] => d
  | _, n :: ns => ns.foldl max n
end
end L2
namespace DL
open PySem PySem.Spec L2 L3
open PyProof.Rows hiding St
variable {Γ : Hp → Prop}
section
variable {X : Cx} {e de : Expr} {es : List Expr} {t : TDs} {te td : TD} {p kp pos : Pos}
noncomputable def sMax : FT := fun ds φ => match ds with
  | [.lst l] => match intsD l with
    | some ns => ns ≠ [] ∧ φ (dv (.int (maxI 0 ns)))
    | none => False
  | _ => False
/-- max(xs, default=d) -/
noncomputable def dMaxD (te td : TD) : TD := fun ρ φ => te ρ fun r => td ρ fun r2 => match r.d, r2.d with
  | .lst l, .int d => (match intsD l with
    | some ns => φ (dv (.int (maxI d ns)))
    | none => False)
  | _, _ => False
end
end DL

set_option Elab.async false
set_option linter.all false
set_option maxRecDepth 100000
set_option maxHeartbeats 4000000
namespace DL
open PySem PySem.Spec L2 L3
open PyProof.Rows hiding St
variable {Γ : Hp → Prop}
section
variable {X : Cx} {a : Expr} {es : List Expr} {t : TDs} {ta : TD} {lp pos : Pos}
end
end DL

set_option Elab.async false
set_option linter.all false
set_option maxRecDepth 100000
set_option maxHeartbeats 4000000
namespace L2
open PySem PySem.Spec PyProof.Rows
section
variable {prog : Program} {w : World} {A : Around} {E : Value → Shared → Prop} {s : Shared}
end
section
variable {prog : Program} {w : World} {K : Type} [DecidableEq K] {knd : KeyKind prog w K} {A : Around} {s : Shared} {R : Result → Shared → Prop}
end
end L2

set_option Elab.async false
set_option linter.all false
set_option maxRecDepth 100000
set_option maxHeartbeats 4000000
namespace L2
open PySem PySem.Spec PyProof.Rows
section
variable {prog : Program} {w : World} {A : Around} {E : Value → Shared → Prop} {s : Shared}
end
end L2

set_option Elab.async false
set_option linter.all false
set_option maxRecDepth 100000
set_option maxHeartbeats 4000000
namespace L2
open PySem PySem.Spec PyProof.Rows
section
variable {X : Cx}
end
end L2

set_option Elab.async false
set_option linter.all false
set_option maxRecDepth 100000
set_option maxHeartbeats 4000000
namespace DL
open PySem PySem.Spec L2 L3
open PyProof.Rows hiding St
variable {Γ : Hp → Prop}
section
variable {X : Cx} {e ke : Expr} {es : List Expr} {t : TDs} {te tk : TD} {p p2 pos pos2 : Pos}
noncomputable def kD : Key → D
  | .inl i => .int i
  | .inr x => .str x
noncomputable def pairsD (ks : List Key) (ds : List D) : List D := (ks.zip ds).map fun q => .tup [kD q.1, q.2]
noncomputable def sDictP : FT := fun xs φ => match xs with
  | [.lst l] => ∃ ks ds, l = pairsD ks ds ∧ ks.length = ds.length ∧ ks.Nodup ∧ φ (df (.dk ks ds))
  | _ => False
noncomputable def dListRev (te : TD) : TD := fun ρ φ => te ρ fun r => match r.d with
  | .lst l => φ (df (.lst l.reverse))
  | _ => False
noncomputable def sDaug (i : Nat) (tk te : TD) : TDS := fun ρ Z => match slot ρ i with
  | some ⟨.own, .dk ks ds⟩ => tk ρ fun kr => (match keyD kr.d with
    | some k => (match lookA ks ds k with
      | some (.int n) => te ρ fun r => (match r.d with
        | .int y => ds.length ≤ 100000 ∧ Z.nx (setS ρ i (dO (.dk (kput ks k) (dput ks ds k (.int (n + y))))))
        | _ => False)
      | _ => False)
    | none => False)
  | _ => False
end
end DL

set_option Elab.async false
set_option linter.all false
set_option maxRecDepth 100000
set_option maxHeartbeats 4000000
namespace L2
open PySem PySem.Spec PyProof.Rows
section
variable {X : Cx} {tg : Expr} {pins : List (Addr × Obj)} {σ : St} {H : Hp} {s : Shared} {a : Addr} {ob : Obj} {kvs : List (Key × V)}
/-- the values of a dict that is held fast -/
noncomputable def Itv (a : Addr) (ob : Obj) (kvs : List (Key × V)) : It := ⟨fun i H => H a = some (.frz ob (.dK kvs)) ∧ i < kvs.length, fun i H x H' => H' = H ∧ ∃ k, kvs[i]? = some (k, x), fun i H => H a = some (.frz ob (.dK kvs)) ∧ i = kvs.length⟩
theorem KV.at {κ : Type} : ∀ {kvs : List (κ × V)} {vs : List (κ × Value)} {i : Nat} {p : κ × V}, KV kvs vs → kvs[i]? = some p → ∃ u, vs[i]? = some (p.1, u) ∧ RelV p.2 u
  | _, _, i, _, .nil, e => by simp at e
  | _, _, 0, p, .cons r t, e => by
    simp at e
    subst e
    rename_i b _ _
    exact ⟨b.2, by simp [r.1], r.2⟩
  | _, _, i + 1, p, .cons r t, e => by
    obtain ⟨u, h1, h2⟩ := KV.at (i := i) (p := p) t (by simpa using e)
    exact ⟨u, by simpa using h1, h2⟩
end
end L2
namespace DL
open PySem PySem.Spec L2 L3
open PyProof.Rows hiding St
section
variable {X : Cx} {tg elt : Expr} {ifs : List Expr} {scope : Scope} {T : List Str} {g2 : TG} {g : TGD} {tc : TDb} {te : TD} {pos : Pos}
end
end DL

set_option Elab.async false
set_option linter.all false
set_option maxRecDepth 100000
set_option maxHeartbeats 4000000
namespace L2
open PySem PySem.Spec PyProof.Rows
section
variable {X : Cx}
end
end L2
namespace DL
open PySem PySem.Spec L2 L3
open PyProof.Rows hiding St
variable {Γ : Hp → Prop}
section
variable {X : Cx} {e : Expr} {es : List Expr} {t : TDs} {te : TD} {p pos : Pos}
noncomputable def sListD : FT := fun ds φ => match ds with
  | [.dk ks l] => φ (df (.lst (ks.map kD)))
  | _ => False
noncomputable def sAugM (i : Nat) (te : TD) : TDS := fun ρ Z => match slot ρ i with
  | some ⟨.val, .int a⟩ => te ρ fun r => match r.d with
    | .int b => IntMulOk a b ∧ Z.nx (setS ρ i (dv (.int (a * b))))
    | _ => False
  | _ => False
noncomputable def sPopX (i : Nat) : TDS := fun ρ Z => match slot ρ i with
  | some ⟨.own, .lst ds⟩ => match popD ds with
    | some (ds', d) => Z.nx (setS ρ i (dO (.lst ds')))
    | none => False
  | _ => False
end
end DL

set_option Elab.async false
set_option linter.all false
set_option maxRecDepth 100000
set_option maxHeartbeats 8000000
namespace L3
open PySem PySem.Spec L2
open PyProof.Rows hiding St
end L3
namespace DL
open PySem PySem.Spec L2 L3
open PyProof.Rows hiding St
variable {Γ : Hp → Prop}
section
variable {X : Cx}
noncomputable def enD (l : List D) : List D := l.zipIdx.map fun q => .tup [.int (q.2 : Nat), q.1]
noncomputable def iE (t : TDs) : TID := fun ρ φ => t ρ fun rs => match rs with
  | [r] => (match r.k with | .own => False | _ => True) ∧ (match r.d with
    | .lst l => φ (enD l)
    | _ => False)
  | _ => False
end
end DL

set_option Elab.async false
set_option linter.all false
set_option maxRecDepth 100000
set_option maxHeartbeats 4000000
namespace L2
open PySem PySem.Spec PyProof.Rows
/-- the items of xs[lo:hi:st] -/
noncomputable def pickBy {α : Type} (xs : List α) (lo hi st : Option Int) : List α :=
  let b := sliceBounds lo hi st xs.length
  (sliceRange b.1 b.2.1 b.2.2).filterMap fun i => xs[i]?
section
variable {X : Cx} {e : Expr} {te : TE} {lo hi : Option Expr} {st : Expr} {tl th ts : TO} {pos p2 : Pos}
end
end L2
namespace DL
open PySem PySem.Spec L2 L3
open PyProof.Rows hiding St
variable {Γ : Hp → Prop}
section
variable {X : Cx} {e : Expr} {te : TD} {pos : Pos}
noncomputable def dStep (te : TD) (tl th ts : TDo) : TD := fun ρ φ => te ρ fun x => tl ρ fun l => th ρ fun u => ts ρ fun k => k ≠ some 0 ∧ match x.d with
  | .lst ds => φ (df (.lst (pickBy ds l u k)))
  | .scr ns => φ (df (.lst ((pickBy ns l u k).map D.int)))
  | _ => False
end
end DL

set_option Elab.async false
set_option linter.all false
set_option maxRecDepth 100000
set_option maxHeartbeats 4000000
namespace DL
open PySem PySem.Spec L2 L3
open PyProof.Rows hiding St
variable {Γ : Hp → Prop}
noncomputable abbrev TK := List Key
noncomputable instance decMemTK (k : TK) (ks : List TK) : Decidable (k ∈ ks) := decidable_of_iff (ks.any (fun x => decide (x = k)) = true) (by simp)
section
variable {α : Type}
noncomputable def lookAT : List TK → List α → TK → Option α
  | k' :: ks, d :: ds, k => if k' = k then some d else lookAT ks ds k
  | _, _, _ => none
noncomputable def kputT (ks : List TK) (k : TK) : List TK := if k ∈ ks then ks else ks ++ [k]
noncomputable def dputT : List TK → List α → TK → α → List α
  | k' :: ks, d' :: ds, k, d => if k' = k then d :: ds else d' :: dputT ks ds k d
  | _, _, _, d => [d]
end
section
variable {K : PySem.W.Frag} {H : Hp} {O : List Addr}
end

noncomputable def keysD : List D → Option (List Key)
  | [] => some []
  | d :: ds => match keyD d, keysD ds with
    | some k, some ks => some (k :: ks)
    | _, _ => none
noncomputable def keyT : D → Option TK
  | .tup ds => keysD ds
  | _ => none
section
variable {X : Cx} {a b c e o : Expr} {es : List Expr} {ta tb tc te td : TD} {t : TDs} {pos : Pos}
noncomputable def sInT (neg : Bool) : D → D → (EV → Prop) → Prop := fun x y φ => match y with
  | .dt ks _ => (match keyT x with | some k => φ (dv (.bl (if neg then !decide (k ∈ ks) else decide (k ∈ ks)))) | none => False)
  | _ => False
noncomputable def sIxT : D → D → (EV → Prop) → Prop := fun x y φ => match x with
  | .dt ks ds => (match keyT y with
    | some k => (match lookAT ks ds k with
      | some d => φ (dv d)
      | none => False)
    | none => False)
  | _ => False
noncomputable def dGet2T (td tk tx : TD) : TD := fun ρ φ => td ρ fun r => match r.d with
  | .dt ks ds => tk ρ fun y => tx ρ fun z => (match z.k with | .own => False | _ => True) ∧ (match keyT y.d with
    | some k => φ (dv ((lookAT ks ds k).getD z.d))
    | none => False)
  | _ => False
end
section
variable {X : Cx} {x : Str} {e ke : Expr} {te tk : TD} {np pos pos' : Pos}
noncomputable def sDputT (i : Nat) (tk te : TD) : TDS := fun ρ Z => match slot ρ i with
  | some ⟨.own, .dt ks ds⟩ => te ρ fun r => tk ρ fun kr => (match r.k with | .own => False | _ => True) ∧ ds.length ≤ 100000 ∧ (match keyT kr.d with
    | some k => Z.nx (setS ρ i (dO (.dt (kputT ks k) (dputT ks ds k r.d))))
    | none => False)
  | _ => False
end
end DL

set_option Elab.async false
set_option linter.all false
set_option maxRecDepth 100000
set_option maxHeartbeats 4000000
namespace L2
open PySem PySem.Spec PySem.W PyProof.Rows
/-- a dict by its rows alone -/
noncomputable def RawD (h : Heap) (d : Addr) (rows : Array DictEntry) (ep : Nat) : Prop := ∃ o, h.get? d = some o ∧ o.ExactDict ∧ o.data = .dict rows ep
theorem RawD.ty {s : Shared} {d : Addr} {rows : Array DictEntry} {ep : Nat} (x : RawD s.heap d rows ep) : s.TypeIs (.ref d) "dict" := let ⟨o, g, c, _⟩ := x; ⟨o, g, c.1⟩
theorem RawD.to {h k : Heap} {d : Addr} {rows : Array DictEntry} {ep : Nat} (x : RawD h d rows ep) (f : ∀ o, h.get? d = some o → k.get? d = some o) : RawD k d rows ep := let ⟨o, g, r⟩ := x; ⟨o, f o g, r⟩
theorem RawD.lt {h : Heap} {d : Addr} {rows : Array DictEntry} {ep : Nat} (x : RawD h d rows ep) : d < h.objs.size := let ⟨_, g, _⟩ := x; Heap.lt_size g
section
variable {prog : Program} {w : World} {A : Around} {E : Value → Shared → Prop} {s : Shared} {D J : Addr} {rows : Array DictEntry} {ep i : Nat}
end
end L2

set_option Elab.async false
set_option linter.all false
set_option maxRecDepth 100000
set_option maxHeartbeats 4000000
namespace L2
open PySem PySem.Spec PySem.W PyProof.Rows
section
variable {n : Nat} {cmp : Nat → Nat → (Bool → Shared → Prop) → Shared → Prop} {s : Shared}
noncomputable abbrev POrd (n : Nat) (p : Array Nat) : Prop := p.Perm (List.toArray (List.range n))
theorem POrd.lt {p : Array Nat} (h : POrd n p) (hn : 0 < n) (i : Nat) : p.getD i 0 < n := by
  by_cases hi : i < p.size
  · have e : p.getD i 0 = p[i] := by simp [Array.getD, hi]
    rw [e]
    have m : p[i] ∈ List.toArray (List.range n) := h.mem_iff.mp (Array.getElem_mem hi)
    simpa using m
  · have e : p.getD i 0 = 0 := by simp [Array.getD, hi]
    omega
end
/-- at b a tuple of these whole numbers -/
noncomputable def TupZ (h : Heap) (b : Addr) (ns : List Int) : Prop := ∃ o its k, h.get? b = some o ∧ o.cls = .type "tuple" ∧ o.data = .seq its k ∧ Vals (ns.map V.int) its.toList
theorem TupZ.to {h k : Heap} {b : Addr} {ns : List Int} (x : TupZ h b ns) (f : ∀ o, h.get? b = some o → k.get? b = some o) : TupZ k b ns := let ⟨o, its, n, g, r⟩ := x; ⟨o, its, n, f o g, r⟩
section
variable {prog : Program} {w : World} {A : Around} {E : Value → Shared → Prop} {s : Shared}
end
end L2

set_option Elab.async false
set_option linter.all false
set_option maxRecDepth 100000
set_option maxHeartbeats 4000000
namespace L2
open PySem PySem.Spec PySem.W PyProof.Rows
section
variable {prog : Program} {w : World} {A : Around} {E : Value → Shared → Prop} {s : Shared}
end
end L2

set_option Elab.async false
set_option linter.all false
set_option maxRecDepth 100000
set_option maxHeartbeats 4000000
namespace L2
open PySem PySem.Spec PySem.W PyProof.Rows
section
variable {X : Cx}
end
end L2

set_option Elab.async false
set_option linter.all false
set_option maxRecDepth 100000
set_option maxHeartbeats 4000000
namespace DL
open PySem PySem.Spec L2 L3
open PyProof.Rows hiding St
variable {Γ : Hp → Prop}
/-- the tuple that is the key k -/
noncomputable def tkD (k : TK) : D := .tup (k.map kD)
section
variable {X : Cx} {e : Expr} {es : List Expr} {t : TDs} {te : TD} {p pos : Pos}
noncomputable def sListT : FT := fun ds φ => match ds with
  | [.dt ks l] => φ (df (.lst (ks.map tkD)))
  | _ => False
/-- a key of whole numbers -/
noncomputable def intK (k : TK) : Prop := ∃ ns : List Int, k = ns.map Sum.inl
noncomputable def sSortedT : FT := fun ds φ => match ds with
  | [.dt ks _] => ks.length < 64 ∧ (∀ k ∈ ks, intK k) ∧ (2 ≤ ks.length → ∀ k ∈ ks, k ≠ []) ∧ ∀ ks' : List TK, ks'.Perm ks → φ (df (.lst (ks'.map tkD)))
  | _ => False
end
theorem keysD_map : ∀ k : TK, keysD (k.map kD) = some k
  | [] => rfl
  | .inl i :: k => by rw [List.map_cons, keysD, keysD_map k]; rfl
  | .inr i :: k => by rw [List.map_cons, keysD, keysD_map k]; rfl
theorem keyT_tk (k : TK) : keyT (tkD k) = some k := keysD_map k
theorem tk_ints (ns : List Int) : tkD (ns.map Sum.inl) = .tup (ns.map D.int) := by
  unfold tkD
  rw [List.map_map]
  rfl
theorem keyT_ints (ns : List Int) : keyT (.tup (ns.map D.int)) = some (ns.map Sum.inl) := by
  rw [← tk_ints, keyT_tk]
end DL

set_option Elab.async false
set_option linter.all false
set_option maxRecDepth 100000
set_option maxHeartbeats 4000000
namespace L2
open PySem PySem.Spec PySem.W PyProof.Rows
section
variable {n : Nat} {lt : Nat → Nat → Bool} {cmp : Nat → Nat → (Bool → Shared → Prop) → Shared → Prop} {s : Shared}
noncomputable abbrev at0 (p : Array Nat) (i : Nat) : Nat := p.getD i 0
theorem at0_get {p : Array Nat} {i : Nat} : at0 p i = (p[i]?).getD 0 := by
  unfold at0
  simp
theorem POrd.size {p : Array Nat} (h : POrd n p) : p.size = n := by
  have := h.size_eq
  simpa using this
theorem POrd.inj {p : Array Nat} (h : POrd n p) {i j : Nat} (hi : i < n) (hj : j < n) (e : at0 p i = at0 p j) : i = j := by
  have nd : p.toList.Nodup := by
    have h1 : p.toList.Perm (List.range n) := by simpa using h.toList
    exact h1.nodup_iff.mpr List.nodup_range
  have hs := h.size
  have e1 : at0 p i = p.toList[i]'(by simpa [hs] using hi) := by rw [at0_get, Array.getElem?_eq_getElem (by omega)]; simp
  have e2 : at0 p j = p.toList[j]'(by simpa [hs] using hj) := by rw [at0_get, Array.getElem?_eq_getElem (by omega)]; simp
  rw [e1, e2] at e
  have pw := List.pairwise_iff_getElem.mp nd
  rcases Nat.lt_trichotomy i j with z | z | z
  · exact absurd e (pw i j _ _ z)
  · exact z
  · exact absurd e.symm (pw j i _ _ z)
end
end L2

set_option Elab.async false
set_option linter.all false
set_option maxRecDepth 100000
set_option maxHeartbeats 4000000
namespace L2
open PySem PySem.Spec PySem.W PyProof.Rows
section
variable {prog : Program} {w : World} {A : Around} {E : Value → Shared → Prop} {s : Shared}
end
section
variable {X : Cx}
end
end L2

set_option Elab.async false
set_option linter.all false
set_option maxRecDepth 100000
set_option maxHeartbeats 4000000
namespace DL
open PySem PySem.Spec L2 L3
open PyProof.Rows hiding St
variable {Γ : Hp → Prop}
section
variable {X : Cx} {e : Expr} {es : List Expr} {t : TDs} {te : TD} {p pos : Pos}
end
end DL

set_option Elab.async false
set_option linter.all false
set_option maxRecDepth 100000
set_option maxHeartbeats 8000000
namespace L3
open PySem PySem.Spec PyProof.Rows
section
variable {P : Program} {w : World} {A : Around} {E : Value → Shared → Prop} {s : Shared}
theorem SqAt.push {b : Bool} {h : Heap} {l : Addr} {xs : Array Value} (x : SqAt b h l xs) (o : Obj) : SqAt b (h.push o) l xs := x.at fun _ e => Heap.get?_push_of_some _ e
end
end L3

set_option Elab.async false
set_option linter.all false
set_option maxRecDepth 100000
set_option maxHeartbeats 8000000
namespace L3
open PySem PySem.Spec L2
open PyProof.Rows hiding St
end L3
namespace DL
open PySem PySem.Spec L2 L3
open PyProof.Rows hiding St
variable {Γ : Hp → Prop}
section
variable {X : Cx} {pins : List (Addr × Obj)} {σ : St} {H : Hp} {s : Shared}
end
end DL

set_option Elab.async false
set_option linter.all false
set_option maxRecDepth 100000
set_option maxHeartbeats 4000000
namespace DL
open PySem PySem.Spec L2 L3
open PyProof.Rows hiding St
variable {Γ : Hp → Prop}
section
variable {X : Cx} {a b c : Expr} {ta tb tc : TD} {pos : Pos}
end
end DL

set_option Elab.async false
set_option linter.all false
set_option maxRecDepth 100000
set_option maxHeartbeats 4000000
namespace DL
open PySem PySem.Spec L2 L3
open PyProof.Rows hiding St
variable {Γ : Hp → Prop}
section
variable {X : Cx} {a b : Expr} {ta tb : TD} {pos : Pos}
end
end DL

set_option Elab.async false
set_option linter.all false
set_option maxRecDepth 100000
set_option maxHeartbeats 4000000
namespace DL
open PySem PySem.Spec L2 L3
open PyProof.Rows hiding St
variable {Γ : Hp → Prop}
noncomputable def inR (m : Int) (ns : List Int) : Prop := ns.length ≤ 1000 ∧ (m ≤ 0 → 1 ≤ ns.length) ∧ ∀ n ∈ ns, 0 < m → 0 ≤ n ∧ n < m
section
variable {X : Cx} {pins : List (Addr × Obj)} {σ : St} {H : Hp} {s : Shared} {a : Addr} {m : Int}
theorem feed_ints : ∀ (its : List Value), (∀ v ∈ its, ∃ (i : Int) (t : Tok), v = .int i t ∧ (0 < m → 0 ≤ i ∧ i < m)) → ∃ ns : List Int, ns.length = its.length ∧ (∀ n ∈ ns, 0 < m → 0 ≤ n ∧ n < m) ∧ Vals (ns.map V.int) its
  | [], _ => ⟨[], rfl, (fun _ h => nomatch h), .nil⟩
  | v :: its, h => by
    obtain ⟨i, t, rfl, h1⟩ := h v List.mem_cons_self
    obtain ⟨ns, l, r, vs⟩ := feed_ints its fun w hw => h w (List.mem_cons_of_mem _ hw)
    refine ⟨i :: ns, by simp [l], fun n hn => ?_, .cons ⟨t, rfl⟩ vs⟩
    rcases List.mem_cons.mp hn with rfl | hn
    · exact h1
    · exact r n hn
theorem vals_ints : ∀ {ns : List Int} {its : List Value}, Vals (ns.map V.int) its → (∀ n ∈ ns, 0 < m → 0 ≤ n ∧ n < m) → ∀ v ∈ its, ∃ (i : Int) (t : Tok), v = .int i t ∧ (0 < m → 0 ≤ i ∧ i < m)
  | [], _, .nil, _, v, h => nomatch h
  | n :: ns, _, .cons r t, hr, v, h => by
    obtain ⟨tk, e⟩ := r
    rcases List.mem_cons.mp h with rfl | h
    · exact ⟨n, tk, e, hr n List.mem_cons_self⟩
    · exact vals_ints t (fun k hk => hr k (List.mem_cons_of_mem _ hk)) v h
theorem feed_open (I : Inv X pins σ H s) (h : H a = some (FeedO a m)) : ∃ ns : List Int, inR m ns ∧ Inv X pins σ (upd H a (.lst (ns.map V.int))) s := by
  obtain ⟨⟨its, n, e, sz, sz1, all⟩, _⟩ := (show ObjOk X.prog X.w H s.heap a (FeedO a m) from I.hok a _ h)
  obtain ⟨ns, l, r, vs⟩ := feed_ints its.toList fun v hv => all v (by simpa using hv)
  have ll : ns.length ≤ 1000 := by rw [l, Array.length_toList]; exact sz
  refine ⟨ns, ⟨ll, fun hm => by rw [l, Array.length_toList]; exact sz1 hm, r⟩, ?_⟩
  exact I.write (t' := s.toks) (h' := s.heap) (x := a) (e := a) (o := .lst (ns.map V.int)) (by rw [h]; exact True.intro) (.inl rfl) (fun _ _ _ z => z) ⟨_, e⟩ (show ObjOk X.prog X.w _ s.heap a (.lst _) from ⟨by rw [List.length_map, sizeLine_eq]; omega, its.toList, n, vs, by simpa using e⟩)
theorem feed_ok {P : Program} {w : World} {H' : Hp} {h' : Heap} {its : Array Value} {n : Nat} (e : h'.get? a = some { cls := .type "list", dict := none, data := .seq its n, slots := #[] }) (sz : its.size ≤ 1000) (sz1 : m ≤ 0 → 1 ≤ its.size) (all : ∀ v ∈ its, ∃ (i : Int) (t : Tok), v = .int i t ∧ (0 < m → 0 ≤ i ∧ i < m)) : ObjOk P w H' h' a (FeedO a m) :=
  ⟨⟨its, n, e, sz, sz1, all⟩, ⟨_, e⟩, fun h1 h2 ⟨its', n', e', r⟩ k => ⟨its', n', k _ e', r⟩⟩
theorem feed_close {ns : List Int} (I : Inv X pins σ H s) (h : H a = some (.lst (ns.map V.int))) (r : inR m ns) : Inv X pins σ (upd H a (FeedO a m)) s := by
  obtain ⟨z, its, n, vs, e⟩ := (show ObjOk X.prog X.w H s.heap a (.lst (ns.map V.int)) from I.hok a _ h)
  have l : its.length = ns.length := by have := vs.length; rw [List.length_map] at this; exact this.symm
  exact I.write (t' := s.toks) (h' := s.heap) (x := a) (e := a) (o := FeedO a m) (by rw [h]; exact True.intro) (.inl rfl) (fun _ _ _ z => z) ⟨_, e⟩ (feed_ok (its := its.toArray) e (by rw [List.size_toArray, l]; exact r.1) (fun hm => by rw [List.size_toArray, l]; exact r.2.1 hm) fun v hv => vals_ints vs r.2.2 v (by simpa using hv))
end
section
variable {X : Cx}
end
end DL

set_option Elab.async false
set_option linter.all false
set_option maxRecDepth 100000
set_option maxHeartbeats 4000000
namespace DL
open PySem PySem.Spec L2 L3
open PyProof.Rows hiding St
variable {Γ : Hp → Prop}
theorem reps_intsQ {K : PySem.W.Frag} {H : Hp} {O : List Addr} : ∀ {ns : List Int} {xs : List V}, Reps K H O (ns.map D.int) xs → xs = ns.map V.int
  | [], _, h => h
  | n :: ns, xs, h => by
    obtain ⟨v, r, rfl, q, t⟩ := h
    cases (show v = _ from q)
    rw [reps_intsQ t]
    rfl
theorem REnv.feed {K : PySem.W.Frag} {H₀ H : Hp} {σ : St} {ρ : DE} {o : List (Nat × Addr)} (R : REnv K H₀ H σ ρ o) {i : Nat} {ns : List Int} {m : Int} (e : slot ρ i = some (dO (.lst (ns.map D.int)))) :
    ∃ a o', H a = some (.lst (ns.map V.int)) ∧ REnv K H₀ (upd H a (FeedO a m)) σ (setS ρ i (dv (.fd m))) o' ∧ Grow (o.map Prod.snd) (o'.map Prod.snd) H (upd H a (FeedO a m)) := by
  obtain ⟨v, ev, q⟩ := R.slots i _ (slot_iff.mp e)
  obtain ⟨a, rfl, mem, xs, hx, rp⟩ : ∃ a, v = .ref a ∧ (i, a) ∈ o ∧ ∃ xs, H a = some (.lst xs) ∧ Reps K H (o.map Prod.snd) (ns.map D.int) xs := by
    rcases q with ⟨k, _⟩ | ⟨_, a, e1, m, c⟩
    · cases k
    · exact ⟨a, e1, m, c⟩
  cases reps_intsQ rp
  have sub : ∀ p ∈ o.filter (fun p => decide (p.1 ≠ i)), p ∈ o := fun p hp => (List.mem_filter.mp hp).1
  have ne : ∀ p ∈ o.filter (fun p => decide (p.1 ≠ i)), p.2 ≠ a := fun p hp z => by
    have := inj_snd R.nda (sub p hp) mem z
    have hne := of_decide_eq_true (List.mem_filter.mp hp).2
    rw [this] at hne
    exact hne rfl
  have subA : ∀ b ∈ (o.filter (fun p => decide (p.1 ≠ i))).map Prod.snd, b ∈ o.map Prod.snd := fun b hb => by
    obtain ⟨p, hp, e⟩ := List.mem_map.mp hb
    exact List.mem_map.mpr ⟨p, sub p hp, e⟩
  have ain : a ∈ o.map Prod.snd := List.mem_map.mpr ⟨_, mem, rfl⟩
  have aout : a ∉ (o.filter (fun p => decide (p.1 ≠ i))).map Prod.snd := fun hb => by
    obtain ⟨p, hp, e⟩ := List.mem_map.mp hb
    exact ne p hp e
  have g : Grow (o.map Prod.snd) ((o.filter (fun p => decide (p.1 ≠ i))).map Prod.snd) H (upd H a (FeedO a m)) :=
    ⟨fun b u h n => ⟨by rw [upd_ne (fun z => n (by rw [z]; exact ain))]; exact h, fun z => n (subA b z)⟩, fun b ys h => by rw [upd_ne (fun z => by subst z; rw [hx] at h; cases h)]; exact h, fun b ob u h => by rw [upd_ne (fun z => by subst z; rw [hx] at h; cases h)]; exact h⟩
  refine ⟨a, _, hx, ?_, g⟩
  have hlen := R.len
  exact {
    same := fun b u h => by
      have hb : b ≠ a := fun z => by
        subst z
        have := R.fresh _ mem
        rw [this] at h
        cases h
      rw [upd_ne hb]
      exact R.same b u h
    fresh := fun p hp => R.fresh p (sub p hp)
    trk := fun p hp => by rw [upd_ne (ne p hp)]; exact R.trk p (sub p hp)
    mtb := fun p hp => by rw [upd_ne (ne p hp)]; exact R.mtb p (sub p hp)
    nda := List.Nodup.sublist (List.Sublist.map _ List.filter_sublist) R.nda
    len := by rw [setS_eq, List.length_set]; exact R.len
    slots := fun j r ej => by
      rw [setS_eq, List.getElem?_set] at ej
      by_cases hj : i = j
      · subst hj
        rw [if_pos rfl] at ej
        split at ej
        · cases ej
          exact ⟨.ref a, ev, .inl ⟨rfl, a, rfl, upd_same, aout⟩⟩
        · cases ej
      · rw [if_neg hj] at ej
        obtain ⟨v, evj, q⟩ := R.slots j r ej
        refine ⟨v, evj, ?_⟩
        rcases q with ⟨k, q⟩ | ⟨k, b, e1, mb, c⟩
        · exact .inl ⟨k, Rep.grow g _ _ q⟩
        · have inb : (j, b) ∈ o.filter (fun p => decide (p.1 ≠ i)) := List.mem_filter.mpr ⟨mb, decide_eq_true (Ne.symm hj)⟩
          have nb := ne _ inb
          refine .inr ⟨k, b, e1, inb, ?_⟩
          obtain ⟨kk, d⟩ := r
          cases d with
          | lst ds => obtain ⟨xs, q, r⟩ := c; exact ⟨xs, by rw [upd_ne nb]; exact q, Reps.grow g _ _ r⟩
          | dk ks ds => obtain ⟨xs, q, l, nd, r⟩ := c; exact ⟨xs, by rw [upd_ne nb]; exact q, l, nd, Reps.grow g _ _ r⟩
          | dt ks ds => obtain ⟨xs, q, l, nd, r⟩ := c; exact ⟨xs, by rw [upd_ne nb]; exact q, l, nd, Reps.grow g _ _ r⟩
          | _ => exact c.elim }
/-- from here on the own list at i is one that is drawn from -/
noncomputable def sFeed (i : Nat) (m : Int) (t : TDS) : TDS := fun ρ Z => ∃ ns : List Int, slot ρ i = some (dO (.lst (ns.map D.int))) ∧ inR m ns ∧ t (setS ρ i (dv (.fd m))) Z
theorem sd_feed (i : Nat) (m : Int) {X : Cx} {st : Stmt} {t : TDS} (h : SD Γ X st t) : SD Γ X st (sFeed i m t) := fun H₀ pins s σ H EE I q => by
  obtain ⟨ρ, o, R, Z, ⟨ns, e, r, hZ⟩, k1, k2, k3, k4⟩ := q
  obtain ⟨a, o', ha, R', g⟩ := R.feed (m := m) e
  refine h H₀ pins s σ _ EE (feed_close I ha r) ⟨_, o', R', Z, hZ, fun ρ2 σ2 H2 o2 g2 R2 q2 => k1 ρ2 σ2 H2 o2 (g.trans g2) R2 q2, fun ρ2 σ2 H2 o2 g2 R2 q2 => k2 ρ2 σ2 H2 o2 (g.trans g2) R2 q2, fun ρ2 σ2 H2 o2 g2 R2 q2 => k3 ρ2 σ2 H2 o2 (g.trans g2) R2 q2, k4⟩
end DL

set_option Elab.async false
set_option linter.all false
set_option maxRecDepth 100000
set_option maxHeartbeats 4000000
namespace L2
open PySem PySem.Spec PyProof.Rows
section
variable {prog : Program} {w : World} {A : Around} {E : Value → Shared → Prop} {s : Shared}
end
section
variable {X : Cx}
end
end L2
namespace DL
open PySem PySem.Spec L2 L3
open PyProof.Rows hiding St
noncomputable def gL4 (i j l m : Nat) : TGD := fun d ρ ψ => match d with
  | .lst [a, b, c, e] => ψ (setS (setS (setS (setS ρ i (dv a)) j (dv b)) l (dv c)) m (dv e))
  | _ => False
end DL

set_option Elab.async false
set_option linter.all false
set_option maxRecDepth 100000
set_option maxHeartbeats 4000000
namespace L2
open PySem PySem.Spec PyProof.Rows
section
variable {prog : Program} {w : World} {A : Around} {E : Value → Shared → Prop} {s : Shared}
end
end L2

set_option Elab.async false
set_option linter.all false
set_option maxRecDepth 100000
set_option maxHeartbeats 4000000
namespace DL
open PySem PySem.Spec L2 L3
open PyProof.Rows hiding St
variable {Γ : Hp → Prop}
section
variable {X : Cx} {pins : List (Addr × Obj)} {σ : St} {H : Hp} {s : Shared}
end
section
variable {X : Cx} {a b : Expr} {ta tb : TD} {pos : Pos}
end
end DL

set_option Elab.async false
set_option linter.all false
set_option maxRecDepth 100000
set_option maxHeartbeats 4000000
namespace DL
open PySem PySem.Spec L2 L3
open PyProof.Rows hiding St
variable {Γ : Hp → Prop}
section
variable {X : Cx} {σ : St} {scope : Scope} {T F : List Str} {js : List Nat} {tg iter elt : Expr} {ifs : List Expr} {pos : Pos} {ti : TID} {g2 : TG} {g : TGD} {tc : TDb} {te : TD}
/-- a comprehension whose parts are known by a property alone -/
noncomputable def dCompP (ti : TID) (n : Nat) (js : List Nat) (g : TGD) (tc : TDb) (te : TD) : TD := fun ρ φ => ti ρ fun ds => ∃ P : Nat → List D → Prop, ds.length ≤ 100000 ∧ P 0 [] ∧
  (∀ (i : Nat) (d : D) (es : List D), ds[i]? = some d → es.length ≤ i → P i es → g d (ρ0 n js ρ) fun ρ' => tc ρ' fun c => (c = true → te ρ' fun r => (match r.k with | .own => False | _ => True) ∧ P (i + 1) (es ++ [r.d])) ∧ (c = false → P (i + 1) es)) ∧ ∀ es, P ds.length es → φ (df (.lst es))
theorem lift_compP {H₀ : Hp} (nd : js.Nodup) (hl : GLink X.K g2 g) : ∀ σ H Q, liftE X.K H₀ (dCompP ti T.length js g tc te) σ H Q → tComp (liftI X.K H₀ ti) T js g2 (liftT X.K H₀ tc) (liftE X.K H₀ te) σ H Q := fun σ H Q q => by
    obtain ⟨ρ, o, R, φ, hφ, k⟩ := q
    refine ⟨ρ, o, R, _, hφ, fun J ds P H1 s1 I hP ⟨PP, hlen, P0, turn, fin⟩ Da hDa => ?_⟩
    have R1 := R.to s1
    have gD : ∀ {H' : Hp}, Same H1 H' → Grow (o.map Prod.snd) (Da :: o.map Prod.snd) H1 H' := fun s => ⟨fun b u h nb => ⟨s b u h, fun z => (List.mem_cons.mp z).elim (fun e => ne_of_none h hDa e) nb⟩, fun b xs h => s b _ h, fun b ob u h => s b _ h⟩
    refine ⟨fun i m ys H' => m = ds.length - i ∧ i ≤ ds.length ∧ Same H1 H' ∧ H' Da = some (.lst ys) ∧ ∃ es, es.length ≤ i ∧ PP i es ∧ Reps X.K H' (Da :: o.map Prod.snd) es ys,
      ⟨_, rfl, Nat.zero_le _, same_new hDa _, upd_same, [], Nat.le_refl _, P0, rfl⟩, ?_⟩
    rintro i m ys H' ⟨rfl, hi', s2, hD', es, le, pe, rp⟩
    refine ⟨hD', ?_⟩
    have hP' := I.keep _ _ _ _ hP (gD s2)
    by_cases hlt : i < ds.length
    · have ed : ds[i]? = some ds[i] := by simp [hlt]
      obtain ⟨j1, j2⟩ := I.go H' _ i _ hP' ed
      refine .inr ⟨j1, fun zs H2 => Same H1 H2 ∧ H2 Da = some (.lst zs) ∧ ∃ es, es.length ≤ i + 1 ∧ PP (i + 1) es ∧ Reps X.K H2 (Da :: o.map Prod.snd) es zs, fun zs H2 ⟨a1, a2, a3⟩ => ⟨_, (by omega : ds.length - (i + 1) < ds.length - i), rfl, hlt, a1, a2, a3⟩, fun x H2 y => ?_⟩
      obtain ⟨s3, rx⟩ := j2 x H2 y
      have s13 := s2.trans s3
      have hD2 := s3 _ _ hD'
      have RB := renv_block (n := T.length) R1 nd hDa s13 hD2 T rfl
      have hO : ((T.length + js.length, Da) :: o.map fun p => (ixO T.length js p.1, p.2)).map Prod.snd = Da :: o.map Prod.snd := by
        rw [List.map_cons, List.map_map]
        rfl
      have rpl : ys.length ≤ 100000 := by
        rw [rp.length]
        omega
      refine hl H₀ H2 (st0 T js σ) (ρ0 T.length js ρ) _ _ x _ _ RB (by rw [hO]; exact rx) (turn i _ es ed le pe) fun ρ' σ' R' q' => ?_
      refine ⟨ρ', _, R', _, q', fun c H3 s4 h4 => ?_⟩
      have hD3 := s4 _ _ hD2
      cases c with
      | false =>
        exact iteF ⟨s13.trans s4, hD3, es, Nat.le_succ_of_le le, h4.2 rfl, Reps.grow (Grow.same (s3.trans s4)) _ _ rp⟩
      | true =>
        refine iteT ⟨ρ', _, R'.to s4, _, h4.1 rfl, fun v r H4 s5 rv h5 => ?_⟩
        have hD4 := s5 _ _ hD3
        have rd := rv.solid (notOwn h5.1)
        rw [hO] at rd
        have ne : ∀ b u, H1 b = some u → b ≠ Da := fun b u h => ne_of_none h hDa
        have gu : Grow (Da :: o.map Prod.snd) (Da :: o.map Prod.snd) H4 (upd H4 Da (.lst (ys ++ [v]))) :=
          ⟨fun b u h n => ⟨by rw [upd_ne (fun z => n (List.mem_cons.mpr (.inl z)))]; exact h, n⟩, fun b xs h => by rw [upd_ne (fun z => by rw [z, hD4] at h; cases h)]; exact h, fun b ob u h => by rw [upd_ne (fun z => by rw [z, hD4] at h; cases h)]; exact h⟩
        refine ⟨hD4, Nat.lt_of_le_of_lt rpl (by decide), ⟨fun b u h => ?_, upd_same, es ++ [r.d], by rw [List.length_append]; exact Nat.succ_le_succ le, h5.2, ?_⟩⟩
        · rw [upd_ne (ne b u h)]
          exact s5 _ _ (s4 _ _ (s13 b u h))
        · exact Reps.grow gu _ _ ((Reps.grow (Grow.same (s3.trans (s4.trans s5))) _ _ rp).append (Reps.one rd))
    · have e : i = ds.length := by omega
      subst e
      refine .inl ⟨I.stop H' _ hP', ?_⟩
      exact k (.ref Da) (df (.lst es)) H' (s1.trans s2) ⟨Da, rfl, s1.free hDa, R.ofree (s1.free hDa), ys, hD', rp⟩ (fin es pe)
theorem ed_compP (hi : EI Γ X tg iter ti) (S : CompScope X.env.scope scope T F) (hjs : Paired (fun x j => X.N[j]? = some x) F js) (nd : js.Nodup)
    (hg : ∀ cl C fp s H, PG (cxComp X (T ++ F) scope cl C fp s H) tg g2) (hk : GKeep T.length g2) (hl : GLink X.K g2 g)
    (ht : ∀ cl C fp s H, EIf Γ (cxComp X (T ++ F) scope cl C fp s H) ifs tc) (he : ∀ cl C fp s H, ED Γ (cxComp X (T ++ F) scope cl C fp s H) elt te)
    (hc : X.calm = true := by rfl) (hs : ∀ x, foldedSetIterable iter X.env x = pure x := by intro _; rfl) : ED Γ X (.ListComp elt [⟨tg, iter, ifs, 0⟩] scope pos) (dCompP ti T.length js g tc te) := fun H₀ =>
  impE (pe_comp (tc := liftT X.K H₀.1 tc) (te := liftE X.K H₀.1 te) hc (hi H₀) S hjs hg hk (fun cl C fp s H => ht cl C fp s H H₀) (fun cl C fp s H => he cl C fp s H H₀) hs) (lift_compP nd hl)
theorem dCompP_at {ti : TID} {n : Nat} {js : List Nat} {g : TGD} {tc : TDb} {te : TD} {ρ : DE} {φ : EV → Prop} (ds : List D) (h : ∀ ψ : List D → Prop, ψ ds → ti ρ ψ) (P : Nat → List D → Prop) (hl : ds.length ≤ 100000) (h0 : P 0 [])
    (ht : ∀ (i : Nat) (d : D) (es : List D), ds[i]? = some d → es.length ≤ i → P i es → g d (ρ0 n js ρ) fun ρ' => tc ρ' fun c => (c = true → te ρ' fun r => (match r.k with | .own => False | _ => True) ∧ P (i + 1) (es ++ [r.d])) ∧ (c = false → P (i + 1) es)) (hφ : ∀ es, P ds.length es → φ (df (.lst es))) : dCompP ti n js g tc te ρ φ := h _ ⟨P, hl, h0, ht, hφ⟩
end
end DL

set_option Elab.async false
set_option linter.all false
set_option maxRecDepth 100000
set_option maxHeartbeats 4000000
namespace L2
open PySem PySem.Spec PyProof.Rows
theorem vals_texts : ∀ {ts : List Str} {us : List Value}, Vals (ts.map V.str) us → ∃ l : List (Str × Tok), us = strValues l ∧ l.map (·.1) = ts
  | [], _, .nil => ⟨[], rfl, rfl⟩
  | t :: ts, _, .cons r q => by
    obtain ⟨k, rfl⟩ := r
    obtain ⟨l, rfl, e⟩ := vals_texts q
    exact ⟨(t, k) :: l, rfl, by rw [List.map_cons, e]⟩
theorem join_fold (n : Nat) : ∀ (ts : List Str) (a : Nat), ts.foldl (fun acc (t : Str) => acc + t.length + n) a = a + (ts.map fun t => t.length + n).sum
  | [], a => by simp
  | t :: ts, a => by
    rw [List.foldl_cons, join_fold n ts, List.map_cons, List.sum_cons]
    omega
section
variable {X : Cx}
theorem mt_join : MtR X "str.join" (fun x xs H Q => ∃ sep p ts, x = .str sep ∧ xs = [.ref p] ∧ (SqL X.K H p (ts.map V.str) ∨ SqT X.K H p (ts.map V.str)) ∧ (ts.map fun t => t.length + sep.length).sum ≤ sizeLine ∧ Q (.str (Str.join sep ts)) H) := by
  intro pins s σ H x xs v us Q I rx rs h
  obtain ⟨sep, p, ts, rfl, rfl, hq, hb, q⟩ := h
  obtain ⟨t, rfl⟩ := rx
  obtain ⟨u, rfl, ru⟩ := vals1 rs
  cases ru
  have fin : ∀ l : List (Str × Tok), l.map (·.1) = ts → (joinMade sep l).post (fun v s' => EP X pins σ Q v s') s := fun l el => by
    have lg : (Builtin.Str.glued sep ts).length ≤ sizeLine := by
      rw [size_glued]
      refine Nat.le_trans ?_ hb
      have e : (ts.map fun t => t.length + sep.length).sum = (ts.map (·.length)).sum + ts.length * sep.length := by
        clear hb q hq el
        induction ts with
        | nil => simp
        | cons t ts ih => simp [ih, Nat.add_mul]; omega
      rw [e]
      exact Nat.add_le_add_left (Nat.mul_le_mul_right _ (Nat.sub_le _ _)) _
    have two : EP X pins σ Q (.str (Builtin.Str.glued sep ts) s.toks) { s with toks := s.toks + 1 } := ⟨.str (Str.join sep ts), H, I.tok _, ⟨s.toks, by rw [PySem.StrLaws.glued_eq_join]⟩, q⟩
    match l, el with
    | [], el => subst el; exact ⟨lg, two⟩
    | [p], el => subst el; exact ⟨.str p.1, H, I, ⟨p.2, rfl⟩, q⟩
    | p :: r :: l, el => subst el; exact ⟨lg, two⟩
  have hl : ∀ l : List (Str × Tok), l.map (·.1) = ts → Builtin.Str.tooLong ((l.map (·.1)).toArray.foldl (· + ·.length + sep.length) 0) = false := fun l el => by
    rw [el]
    unfold Builtin.Str.tooLong
    simp only [List.foldl_toArray]
    rw [join_fold]
    simp
    omega
  rcases hq with hq | hq
  · obtain ⟨its, rv, pl, hz⟩ := I.list hq
    obtain ⟨l, rfl, el⟩ := vals_texts rv
    exact call_meets PySem.F.slot_str_join (typeIs_str s sep t) PySem.F.entry_str_join (PySem.F.args_str_join_2 _ _) (meets_str_join_list sep t p l (hl l el)) ⟨pl.isList, fin l el⟩
  · obtain ⟨its, rv, pl, hz⟩ := I.tuple hq
    obtain ⟨l, rfl, el⟩ := vals_texts rv
    obtain ⟨o, g, c, n, d⟩ := pl
    exact call_meets PySem.F.slot_str_join (typeIs_str s sep t) PySem.F.entry_str_join (PySem.F.args_str_join_2 _ _) (meets_str_join_tuple sep t p l (hl l el)) ⟨⟨o, n, g, c, d⟩, fin l el⟩
end
end L2
namespace DL
open PySem PySem.Spec L2 L3
open PyProof.Rows hiding St
variable {Γ : Hp → Prop}
theorem reps_strsJ {K : PySem.W.Frag} {H : Hp} {O : List Addr} : ∀ {ns : List Str} {xs : List V}, Reps K H O (ns.map D.str) xs → xs = ns.map V.str
  | [], _, h => h
  | n :: ns, xs, h => by
    obtain ⟨v, r, rfl, q, t⟩ := h
    cases (show v = _ from q)
    rw [reps_strsJ t]
    rfl
section
variable {X : Cx} {o e : Expr} {td te : TD} {apos cpos : Pos}
/-- sep.join(xs): xs a list or a tuple of texts -/
noncomputable def dJoin1 (td te : TD) : TD := fun ρ φ => td ρ fun x => match x.d with
  | .str sep => te ρ fun y => (match y.d with
    | .lst ds => ∃ ts : List Str, ds = ts.map D.str ∧ (ts.map fun t => t.length + sep.length).sum ≤ sizeLine ∧ φ (dv (.str (Str.join sep ts)))
    | .tup ds => ∃ ts : List Str, ds = ts.map D.str ∧ (ts.map fun t => t.length + sep.length).sum ≤ sizeLine ∧ φ (dv (.str (Str.join sep ts)))
    | _ => False)
  | _ => False
theorem ed_join1 (ho : ED Γ X o td) (he : ED Γ X e te) (hbase : attributeBase o "join" X.env (eval o X.env) = eval o X.env := by rfl)
    (hfew : ((backTo cpos (starEach [e] X.env)).all (fun x => !x.1) && (backToKw cpos (keywordEach [] X.env)).all (fun x => x.1.isSome) && decide (([e] : List Expr).length + ([] : List Keyword).length + (if ([] : List Keyword).isEmpty then 0 else 1) < 30)) = true := by rfl)
    (hline : (apos.endLine == cpos.line) = true := by rfl) (hs : starEach [e] X.env = (false, eval e X.env) :: starEach [] X.env := by rfl) (hpl : (backTo cpos (starEach [] X.env)).any (·.1) = false := by rfl) :
    ED Γ X (.Call (.Attribute o "join" apos) [e] [] cpos) (dJoin1 td te) := fun H₀ =>
  impE (pe_bm PySem.F.plainAttrs_str PySem.F.slot_str_join PySem.F.type_str_join mt_join (ho H₀) (pa_cons (he H₀) pa_nil hs) hbase hfew hline hs hpl) fun σ H Q q => by
    obtain ⟨ρ, oo, R, φ, hφ, kk⟩ := q
    refine ⟨ρ, oo, R, _, hφ, fun v r H1 s1 rv h1 => ?_⟩
    obtain ⟨kd, d⟩ := r
    cases d with
    | str sep =>
      cases (show v = _ from rv.view)
      refine ⟨rfl, ρ, oo, R.to s1, _, h1, fun v2 r2 H2 s2 rv2 h2 => ?_⟩
      obtain ⟨kd2, d2⟩ := r2
      cases d2 with
      | lst ds =>
        obtain ⟨ts, rfl, hb, h2⟩ := h2
        obtain ⟨a, xs, rfl, q, rp⟩ := rv2.view
        cases reps_strsJ rp
        exact ⟨sep, a, ts, rfl, rfl, .inl (SqL.of q), hb, kk _ (dv (.str (Str.join sep ts))) H2 (s1.trans s2) (by exact rfl) h2⟩
      | tup ds =>
        obtain ⟨ts, rfl, hb, h2⟩ := h2
        obtain ⟨a, xs, rfl, q, rp⟩ := rv2.view
        cases reps_strsJ rp
        exact ⟨sep, a, ts, rfl, rfl, .inr q.1, hb, kk _ (dv (.str (Str.join sep ts))) H2 (s1.trans s2) (by exact rfl) h2⟩
      | _ => exact h2.elim
    | _ => exact h1.elim
end
end DL

set_option Elab.async false
set_option linter.all false
set_option maxRecDepth 100000
set_option maxHeartbeats 4000000
namespace DL
open PySem PySem.Spec L2 L3
open PyProof.Rows hiding St
variable {Γ : Hp → Prop}
theorem erase_map {α β : Type} (f : α → β) : ∀ (l : List α) (i : Nat), (l.map f).eraseIdx i = (l.eraseIdx i).map f
  | [], _ => rfl
  | _ :: _, 0 => rfl
  | x :: l, i + 1 => by simp [erase_map f l i]
theorem upd_id {H : Hp} {a : Addr} {o u : HO} (h : H a = some u) : upd (upd H a o) a u = H := by
  rw [upd_upd]
  funext b
  by_cases e : b = a
  · subst e
    rw [upd_same, h]
  · rw [upd_ne e]
section
variable {X : Cx}
/-- feed[0], whatever stands there -/
theorem ix_feed : IxR X (fun x y H Q => ∃ a m, x = .ref a ∧ H a = some (FeedO a m) ∧ m ≤ 0 ∧ y = .int 0 ∧ ∀ c : Int, Q (.int c) H) := by
  intro value slice pins s σ H x y v u Q I rx ry h hs
  obtain ⟨a, m, rfl, ha, m0, rfl, q⟩ := h
  obtain ⟨ns, hr, I1⟩ := feed_open I ha
  obtain ⟨n, hn⟩ : ∃ n, ns[0]? = some n := ⟨ns[0]'(hr.2.1 m0), by simp⟩
  refine thn (ix_list value slice pins s σ _ (.ref a) (.int 0) v u (fun x' H' => x' = .int n ∧ H' = upd H a (.lst (ns.map V.int))) I1 rx ry ⟨a, _, 0, .int n, rfl, rfl, SqL.of upd_same, ?_, rfl, rfl⟩ hs) fun w s' ⟨x', H', I', r', e1, e2⟩ => ?_
  · exact atI_of (by decide) (by rw [List.getElem?_map]; show (ns[0]?).map _ = _; rw [hn]; rfl)
  · subst e1 e2
    have := feed_close (m := m) I' upd_same hr
    rw [upd_id ha] at this
    exact ⟨.int n, H, this, r', q n⟩
theorem set_feed : PSet X (fun o i v H Q => ∃ a m c, o = .ref a ∧ H a = some (FeedO a m) ∧ m ≤ 0 ∧ i = .int 0 ∧ v = .int c ∧ Q H) := by
  intro pins s σ H o i v ov iv u Q I ro ri rv h
  obtain ⟨a, m, c, rfl, ha, m0, rfl, rfl, q⟩ := h
  obtain ⟨ns, hr, I1⟩ := feed_open I ha
  have h1 := hr.2.1 m0
  refine thn (set_list pins s σ _ (.ref a) (.int 0) (.int c) ov iv u (fun H' => H' = upd (upd H a (.lst (ns.map V.int))) a (.lst ((ns.map V.int).set 0 (.int c)))) I1 ro ri rv ⟨a, ns.map V.int, 0, 0, rfl, rfl, upd_same, ?_, rfl⟩) fun _ s' ⟨H', I', e⟩ => ?_
  · unfold ixN
    rw [if_pos (by decide), if_pos (by rw [List.length_map]; omega)]
    rfl
  · subst e
    have hq : upd (upd H a (.lst (ns.map V.int))) a (.lst ((ns.map V.int).set 0 (.int c))) a = some (.lst ((ns.set 0 c).map V.int)) := by
      rw [upd_same, ← List.map_set]
    have := feed_close (m := m) I' hq ⟨by rw [List.length_set]; exact hr.1, fun _ => by rw [List.length_set]; exact h1, fun n hn hm => absurd m0 (by omega)⟩
    rw [upd_upd, upd_id ha] at this
    exact ⟨H, this, q⟩
noncomputable def dFd0 (i : Nat) : TD := fun ρ φ => match slot ρ i with
  | some ⟨.val, .fd m⟩ => m ≤ 0 ∧ ∀ c : Int, φ (dv (.int c))
  | _ => False
theorem fd_slot {K : PySem.W.Frag} {H₀ H : Hp} {σ : St} {ρ : DE} {o : List (Nat × Addr)} (R : REnv K H₀ H σ ρ o) {i : Nat} {m : Int} (e : slot ρ i = some ⟨.val, .fd m⟩) : ∃ a, σ[i]? = some (some (.ref a)) ∧ H a = some (FeedO a m) := by
  obtain ⟨v, ev, q⟩ := R.slots i _ (slot_iff.mp e)
  rcases q with ⟨_, a, rfl, h, _⟩ | ⟨k, _⟩
  · exact ⟨a, ev, h⟩
  · cases k
theorem ed_fd0 (i : Nat) {x : Str} {np pos : Pos} {j p2} (hN : X.N[i]? = some x := by rfl) (hv : Vis X.env.scope x := by first | exact Or.inl rfl | exact Or.inr (Or.inl rfl) | exact Or.inr (Or.inr rfl)) (hd : (x == ("__debug__" : Str)) = false := by decide)
    (hcd : (x == ("__classdict__" : Str)) = false := by decide) (hs : PlainIx (.Constant (.int 0) j p2) := by intro _ _; rfl) : ED Γ X (.Subscript (.Name x np) (.Constant (.int 0) j p2) pos) (dFd0 i) := fun H₀ =>
  impE (pe_ix ix_feed (pe_var hN hv hd hcd) pe_int hs) fun σ H Q q => by
    obtain ⟨ρ, oo, R, φ, hφ, kk⟩ := q
    unfold dFd0 at hφ
    split at hφ
    · rename_i m es
      obtain ⟨m0, hφ⟩ := hφ
      obtain ⟨a, ev, ha⟩ := fd_slot R es
      exact ⟨.ref a, ev, a, m, rfl, ha, m0, rfl, fun c => kk _ (dv (.int c)) H (Same.refl H) (by exact rfl) (hφ c)⟩
    · exact hφ.elim
noncomputable def sFdPut (i : Nat) (te : TD) : TDS := fun ρ Z => match slot ρ i with
  | some ⟨.val, .fd m⟩ => m ≤ 0 ∧ te ρ fun r => (match r.d with
    | .int _ => Z.nx ρ
    | _ => False)
  | _ => False
theorem sd_fdput (i : Nat) {x : Str} {e : Expr} {te : TD} {np pos pos' : Pos} {j p2} (he : ED Γ X e te) (hN : X.N[i]? = some x := by rfl) (hv : Vis X.env.scope x := by first | exact Or.inl rfl | exact Or.inr (Or.inl rfl) | exact Or.inr (Or.inr rfl)) (hd : (x == ("__debug__" : Str)) = false := by decide)
    (hcd : (x == ("__classdict__" : Str)) = false := by decide) (hs : swapsWithSole [.Subscript (.Name x np) (.Constant (.int 0) j p2) pos'] e pos.line X.env = pure false := by rfl) (hw : swappedStores [.Subscript (.Name x np) (.Constant (.int 0) j p2) pos'] e X.env = pure none := by rfl)
    (h1 : (assignEach [.Subscript (.Name x np) (.Constant (.int 0) j p2) pos'] X.env).map (·.2) = [assign (.Subscript (.Name x np) (.Constant (.int 0) j p2) pos') X.env] := by rfl)
    (ha : ∀ v, assign (.Subscript (.Name x np) (.Constant (.int 0) j p2) pos') X.env v = (do
      let ov ← holding [v] (eval (.Name x np) X.env)
      let iv ← holding [v, ov] (eval (.Constant (.int 0) j p2) X.env)
      standAt pos'
      holding [v, ov, iv] (setItem ov iv v)
      release [v, ov, iv] []) := by intro _; rfl) : SD Γ X (.Assign [.Subscript (.Name x np) (.Constant (.int 0) j p2) pos'] e pos) (sFdPut i te) := fun H₀ =>
  impS (ps_asg (he H₀) (pg_sub (pe_var hN hv hd hcd) pe_int set_feed ha) hs hw h1) fun D σ H h => by
    obtain ⟨ρ, o, R, Z, hZ, k1, k2, k3, k4⟩ := h
    unfold sFdPut at hZ
    split at hZ
    · rename_i m es
      obtain ⟨m0, hZ⟩ := hZ
      obtain ⟨a, ev, ha⟩ := fd_slot R es
      refine ⟨ρ, o, R, _, hZ, fun v r H1 s1 rv hz => ?_⟩
      obtain ⟨kd, d⟩ := r
      cases d with
      | int c =>
        cases (show v = _ from rv.view)
        exact ⟨.ref a, ev, a, m, c, rfl, s1 _ _ ha, m0, rfl, rfl, k1 ρ σ H1 o (Grow.same s1) (R.to s1) hz⟩
      | _ => exact hz.elim
    · exact hZ.elim
/-- if len(feed) > 1: return feed.pop(1); return 0 -/
noncomputable def sNext1 (i : Nat) : TDS := fun ρ Z => match slot ρ i with
  | some ⟨.val, .fd m⟩ => m ≤ 0 ∧ ∀ c : Int, Z.rt (dv (.int c))
  | _ => False
theorem ss_next1 (i : Nat) {x : Str} {p0 p1 p2 p3 p4 p6 p7 p8 p9 p10 p11 p12 p13 : Pos} {j1 j2 j3} (hml : X.mg "len" = none) (hN : X.N[i]? = some x := by rfl) (hv : Vis X.env.scope x := by first | exact Or.inl rfl | exact Or.inr (Or.inl rfl) | exact Or.inr (Or.inr rfl))
    (hd : (x == ("__debug__" : Str)) = false := by decide) (hcd : (x == ("__classdict__" : Str)) = false := by decide) (hg : Gl X "len" := by rfl) (hm : behindInMarks .Gt (.Constant (.int 1) j1 p2) = false := by with_unfolding_all rfl)
    (he : starEach [.Name x p1] X.env = (false, eval (.Name x p1) X.env) :: starEach [] X.env := by rfl) (hpl : (backTo p3 (starEach [] X.env)).any (·.1) = false := by rfl)
    (hq : ∀ {to : TE}, PE X (.Name x p7) to → PE X (.Call (.Attribute (.Name x p7) "pop" p8) [.Constant (.int 1) j2 p9] [] p10) (tBM X.K "list" rPopAt to (tCons (tC (.int 1)) tNil)) := by
      intro to h1
      exact pe_bm PySem.F.plainAttrs_list PySem.F.slot_list_pop PySem.F.type_list_pop mt_popAt h1 (pa_cons pe_int pa_nil)) :
    SDs Γ X [.If (.Compare (.Call (.Name "len" p0) [.Name x p1] [] p3) [.Gt] [.Constant (.int 1) j1 p2] p4) [.Return (some (.Call (.Attribute (.Name x p7) "pop" p8) [.Constant (.int 1) j2 p9] [] p10)) p11] [] p6, .Return (some (.Constant (.int 0) j3 p12)) p13] (sNext1 i) := fun H₀ pins s σ H EE I h => by
  obtain ⟨ρ, o, R, Z, hZ, k1, k2, k3, k4⟩ := h
  unfold sNext1 at hZ
  split at hZ
  · rename_i m es
    obtain ⟨m0, hZ⟩ := hZ
    obtain ⟨a, ev, ha⟩ := fd_slot R es
    obtain ⟨ns, hr, I1⟩ := feed_open I ha
    have body := pss_cons (ps_if (pt_cmpR op_gt (pe_callB call_len_seq hg hml PySem.boot_len (pa_cons (pe_var hN hv hd hcd (pos := p1)) pa_nil he) (by decide) (by decide) he hpl (p := p0)) (pe_int (i := 1) (j := j1) (pos := p2)) hm (pos := p4)) (pss_one (ps_ret (hq (pe_var hN hv hd hcd (pos := p7))) (pos := p11))) pss_nil (pos := p6)) (pss_one (ps_ret (pe_int (i := 0) (j := j3) (pos := p12)) (pos := p13)))
    let D1 : Ends := { EE with nx := fun _ _ => False, bk := fun _ _ => False, ct := fun _ _ => False, rt := fun v H2 => ∃ (c : Int) (ns' : List Int), v = .int c ∧ H2 a = some (.lst (ns'.map V.int)) ∧ inR m ns' ∧ ∀ b u, b ≠ a → H b = some u → H2 b = some u }
    refine thn (body pins s σ _ D1 I1 ?_) fun fl s' p => ?_
    · have h1 : upd H a (HO.lst (ns.map V.int)) a = some (.lst (ns.map V.int)) := upd_same
      have hk : ∀ b u, b ≠ a → H b = some u → upd H a (HO.lst (ns.map V.int)) b = some u := fun b u hb hbu => by rw [upd_ne hb]; exact hbu
      refine ⟨.ref a, ev, a, ns.map V.int, rfl, .inl (SqL.of h1), _, _, rfl, rfl, _, rfl, ?_⟩
      rw [List.length_map]
      dsimp only
      by_cases hl : (1 : Int) < ns.length
      · rw [if_pos (decide_eq_true hl)]
        have hl' : 1 < ns.length := by omega
        refine ⟨.ref a, ev, .inl ⟨rfl, _, SqL.of h1⟩, a, _, 1, 1, .int ns[1], rfl, rfl, h1, by decide, by decide, ?_, ?_, ?_⟩
        · have : (1 : Int) < (ns.map V.int).length := by rw [List.length_map]; exact hl
          simp [seqIndex?]
          omega
        · rw [List.getElem?_map, List.getElem?_eq_getElem hl']
          rfl
        · refine ⟨ns[1], ns.eraseIdx 1, rfl, ?_, ⟨?_, fun _ => ?_, fun n hn hm => absurd m0 (by omega)⟩, fun b u hb hbu => by rw [upd_ne hb]; exact hk b u hb hbu⟩
          · rw [upd_same, erase_map]
          · exact Nat.le_trans (List.length_eraseIdx_le ..) hr.1
          · rw [List.length_eraseIdx_of_lt hl']
            omega
      · rw [if_neg (by simpa using hl)]
        exact ⟨0, ns, rfl, h1, hr, hk⟩
    · cases fl with
      | ret u =>
        obtain ⟨v, σ', H2, I2, rv, c, ns', rfl, e2, r2, kp⟩ := p
        refine ⟨.int c, σ', upd H2 a (FeedO a m), feed_close I2 e2 r2, rv, k4 _ (dv (.int c)) _ (R.same.trans fun b u hb => ?_) (by exact rfl) (hZ c)⟩
        by_cases hba : b = a
        · subst hba
          rw [upd_same]
          rw [ha] at hb
          exact hb
        · rw [upd_ne hba]
          exact kp b u hba hb
      | next => obtain ⟨_, _, _, f⟩ := p; exact f.elim
      | brk => obtain ⟨_, _, _, f⟩ := p; exact f.elim
      | cont => obtain ⟨_, _, _, f⟩ := p; exact f.elim
  · exact hZ.elim
end
section
variable {X : Cx} {σ : St} {scope : Scope} {T F : List Str} {js : List Nat} {tg iter elt : Expr} {ifs : List Expr} {pos : Pos} {ti : TID} {g2 : TG} {g : TGD} {tc : TDb} {te : TD}
theorem sd_setCompP (i : Nat) {y : Str} {py spos : Pos} (hN : X.N.Nodup) (hi : EI Γ X tg iter ti) (S : CompScope X.env.scope scope T F) (hjs : Paired (fun x j => X.N[j]? = some x) F js) (nd : js.Nodup)
    (hg : ∀ cl C fp s H, PG (cxComp X (T ++ F) scope cl C fp s H) tg g2) (hk : GKeep T.length g2) (hl : GLink X.K g2 g)
    (ht : ∀ cl C fp s H, EIf Γ (cxComp X (T ++ F) scope cl C fp s H) ifs tc) (he : ∀ cl C fp s H, ED Γ (cxComp X (T ++ F) scope cl C fp s H) elt te)
    (hc : X.calm = true := by rfl) (hs : ∀ x, foldedSetIterable iter X.env x = pure x := by intro _; rfl) (hy : X.N[i]? = some y := by rfl) (hlo : X.env.scope.names.lookup y = some .local := by rfl) (hsw : swapsWith (.ListComp elt [⟨tg, iter, ifs, 0⟩] scope pos) (some (.Name y py)) spos.line X.env = pure true := by rfl) : SD Γ X (.Assign [.Name y py] (.ListComp elt [⟨tg, iter, ifs, 0⟩] scope pos) spos) (sSet i (dCompP ti T.length js g tc te)) := fun H₀ =>
  impS (ps_setComp (tc := liftT X.K H₀.1 tc) (te := liftE X.K H₀.1 te) hc hN hy (.inl hlo) (hi H₀) S hjs hg hk (fun cl C fp s H => ht cl C fp s H H₀) (fun cl C fp s H => he cl C fp s H H₀) hsw hs (.inr hlo)) fun D σ H h => by
    obtain ⟨ρ, o, R, Z, hZ, k1, k2, k3, k4⟩ := h
    refine lift_compP nd hl σ H _ ⟨ρ, o, R, _, hZ, fun v r H1 s1 rv h1 => ?_⟩
    obtain ⟨o', R', g'⟩ := R.put s1 i rv (notOwn h1.1)
    exact k1 _ _ H1 o' g' R' h1.2
end
end DL

set_option Elab.async false
set_option linter.all false
set_option maxRecDepth 100000
set_option maxHeartbeats 4000000
namespace DL
open PySem PySem.Spec L2 L3
open PyProof.Rows hiding St
variable {Γ : Hp → Prop}
theorem sqR_go {K : PySem.W.Frag} {H H' : Hp} {a : Addr} {xs : List V} (kt : ∀ b xs, H b = some (.tup xs) → H' b = some (.tup xs)) (kf : ∀ b o u, H b = some (.frz o u) → H' b = some (.frz o u)) (h : SqR K H a xs) : SqR K H' a xs := by
  obtain ⟨h1, h2⟩ := h
  refine ⟨?_, kt _ _ h2⟩
  rcases h1 with (h | ⟨o, h⟩) | h
  · exact .inl (.inl (kt _ _ h))
  · exact .inl (.inr ⟨o, kf _ _ _ h⟩)
  · exact .inr h
theorem scr_go {K : PySem.W.Frag} {H H' : Hp} {a : Addr} {ns : List Int} (kf : ∀ b o u, H b = some (.frz o u) → H' b = some (.frz o u)) (h : Scr K H a ns) : Scr K H' a ns := by
  rcases h with ⟨o, h⟩ | h
  · exact .inl ⟨o, kf _ _ _ h⟩
  · exact .inr h
mutual
theorem RepN.go {K : PySem.W.Frag} {P P' : Addr → Prop} {H H' : Hp} (kt : ∀ b xs, H b = some (.tup xs) → H' b = some (.tup xs)) (kf : ∀ b o u, H b = some (.frz o u) → H' b = some (.frz o u)) (g : ∀ b u, P b → H b = some u → H' b = some u ∧ P' b) : ∀ (d : D) (v : V), RepN K H P d v → RepN K H' P' d v
  | .non, _, h => h
  | .bl _, _, h => h
  | .int _, _, h => h
  | .str _, _, h => h
  | .ty _, _, h => h
  | .cn _, _, h => h
  | .tup ds, v, h => by
    obtain ⟨a, xs, e, q, r⟩ := h
    exact ⟨a, xs, e, sqR_go kt kf q, RepNs.go kt kf g ds xs r⟩
  | .lst ds, v, h => by
    obtain ⟨a, xs, e, q, n, r⟩ := h
    exact ⟨a, xs, e, (g a _ n q).1, (g a _ n q).2, RepNs.go kt kf g ds xs r⟩
  | .scr ns, v, h => by
    obtain ⟨a, e, q⟩ := h
    exact ⟨a, e, scr_go kf q⟩
  | .exc C, v, h => by
    obtain ⟨a, e, q, n⟩ := h
    exact ⟨a, e, (g a _ n q).1, (g a _ n q).2⟩
  | .fd C, v, h => by
    obtain ⟨a, e, q, n⟩ := h
    exact ⟨a, e, (g a _ n q).1, (g a _ n q).2⟩
  | .dk ks ds, v, h => by
    obtain ⟨a, xs, e, q, n, l, nd, r⟩ := h
    exact ⟨a, xs, e, (g a _ n q).1, (g a _ n q).2, l, nd, RepNs.go kt kf g ds xs r⟩
  | .dt ks ds, v, h => by
    obtain ⟨a, xs, e, q, n, l, nd, r⟩ := h
    exact ⟨a, xs, e, (g a _ n q).1, (g a _ n q).2, l, nd, RepNs.go kt kf g ds xs r⟩
theorem RepNs.go {K : PySem.W.Frag} {P P' : Addr → Prop} {H H' : Hp} (kt : ∀ b xs, H b = some (.tup xs) → H' b = some (.tup xs)) (kf : ∀ b o u, H b = some (.frz o u) → H' b = some (.frz o u)) (g : ∀ b u, P b → H b = some u → H' b = some u ∧ P' b) : ∀ (ds : List D) (xs : List V), RepNs K H P ds xs → RepNs K H' P' ds xs
  | [], _, h => h
  | d :: ds, xs, h => by
    obtain ⟨v, r, e, q, t⟩ := h
    exact ⟨v, r, e, RepN.go kt kf g d v q, RepNs.go kt kf g ds r t⟩
end
section
variable {X : Cx} {σ : St} {scope : Scope} {T F : List Str} {js : List Nat} {tg iter elt : Expr} {ifs : List Expr} {pos : Pos} {ti : TID} {g2 : TG} {g : TGD} {tc : TDb} {te : TD}
/-- a comprehension all whose parts are new -/
noncomputable def dCompN (ti : TID) (n : Nat) (js : List Nat) (g : TGD) (tc : TDb) (te : TD) : TD := fun ρ φ => ti ρ fun ds => ∃ P : Nat → List D → Prop, ds.length ≤ 100000 ∧ P 0 [] ∧
  (∀ (i : Nat) (d : D) (es : List D), ds[i]? = some d → es.length ≤ i → P i es → g d (ρ0 n js ρ) fun ρ' => tc ρ' fun c => (c = true → te ρ' fun r => pureEV r ∧ P (i + 1) (es ++ [r.d])) ∧ (c = false → P (i + 1) es)) ∧ ∀ es, P ds.length es → φ ⟨.new, .lst es⟩
theorem lift_compN {H₀ : Hp} (nd : js.Nodup) (hl : GLink X.K g2 g) : ∀ σ H Q, liftE X.K H₀ (dCompN ti T.length js g tc te) σ H Q → tComp (liftI X.K H₀ ti) T js g2 (liftT X.K H₀ tc) (liftE X.K H₀ te) σ H Q := fun σ H Q q => by
    obtain ⟨ρ, o, R, φ, hφ, k⟩ := q
    refine ⟨ρ, o, R, _, hφ, fun J ds P H1 s1 I hP ⟨PP, hlen, P0, turn, fin⟩ Da hDa => ?_⟩
    have R1 := R.to s1
    have gD : ∀ {H' : Hp}, Same H1 H' → Grow (o.map Prod.snd) (Da :: o.map Prod.snd) H1 H' := fun s => ⟨fun b u h nb => ⟨s b u h, fun z => (List.mem_cons.mp z).elim (fun e => ne_of_none h hDa e) nb⟩, fun b xs h => s b _ h, fun b ob u h => s b _ h⟩
    refine ⟨fun i m ys H' => m = ds.length - i ∧ i ≤ ds.length ∧ Same H1 H' ∧ H' Da = some (.lst ys) ∧ ∃ es, es.length ≤ i ∧ PP i es ∧ RepNs X.K H' (fun b => b ∉ Da :: o.map Prod.snd ∧ H1 b = none) es ys,
      ⟨_, rfl, Nat.zero_le _, same_new hDa _, upd_same, [], Nat.le_refl _, P0, rfl⟩, ?_⟩
    rintro i m ys H' ⟨rfl, hi', s2, hD', es, le, pe, rp⟩
    refine ⟨hD', ?_⟩
    have hP' := I.keep _ _ _ _ hP (gD s2)
    by_cases hlt : i < ds.length
    · have ed : ds[i]? = some ds[i] := by simp [hlt]
      obtain ⟨j1, j2⟩ := I.go H' _ i _ hP' ed
      refine .inr ⟨j1, fun zs H2 => Same H1 H2 ∧ H2 Da = some (.lst zs) ∧ ∃ es, es.length ≤ i + 1 ∧ PP (i + 1) es ∧ RepNs X.K H2 (fun b => b ∉ Da :: o.map Prod.snd ∧ H1 b = none) es zs, fun zs H2 ⟨a1, a2, a3⟩ => ⟨_, (by omega : ds.length - (i + 1) < ds.length - i), rfl, hlt, a1, a2, a3⟩, fun x H2 y => ?_⟩
      obtain ⟨s3, rx⟩ := j2 x H2 y
      have s13 := s2.trans s3
      have hD2 := s3 _ _ hD'
      have RB := renv_block (n := T.length) R1 nd hDa s13 hD2 T rfl
      have hO : ((T.length + js.length, Da) :: o.map fun p => (ixO T.length js p.1, p.2)).map Prod.snd = Da :: o.map Prod.snd := by
        rw [List.map_cons, List.map_map]
        rfl
      have rpl : ys.length ≤ 100000 := by
        rw [rp.length]
        omega
      refine hl H₀ H2 (st0 T js σ) (ρ0 T.length js ρ) _ _ x _ _ RB (by rw [hO]; exact rx) (turn i _ es ed le pe) fun ρ' σ' R' q' => ?_
      refine ⟨ρ', _, R', _, q', fun c H3 s4 h4 => ?_⟩
      have hD3 := s4 _ _ hD2
      cases c with
      | false =>
        exact iteF ⟨s13.trans s4, hD3, es, Nat.le_succ_of_le le, h4.2 rfl, RepNs.to (s3.trans s4) (fun _ z => z) _ _ rp⟩
      | true =>
        refine iteT ⟨ρ', _, R'.to s4, _, h4.1 rfl, fun v r H4 s5 rv h5 => ?_⟩
        have hD4 := s5 _ _ hD3
        have rd := rv.anew h5.1
        rw [hO] at rd
        have ne : ∀ b u, H1 b = some u → b ≠ Da := fun b u h => ne_of_none h hDa
        have gu : Grow (Da :: o.map Prod.snd) (Da :: o.map Prod.snd) H4 (upd H4 Da (.lst (ys ++ [v]))) :=
          ⟨fun b u h n => ⟨by rw [upd_ne (fun z => n (List.mem_cons.mpr (.inl z)))]; exact h, n⟩, fun b xs h => by rw [upd_ne (fun z => by rw [z, hD4] at h; cases h)]; exact h, fun b ob u h => by rw [upd_ne (fun z => by rw [z, hD4] at h; cases h)]; exact h⟩
        refine ⟨hD4, Nat.lt_of_le_of_lt rpl (by decide), ⟨fun b u h => ?_, upd_same, es ++ [r.d], by rw [List.length_append]; exact Nat.succ_le_succ le, h5.2, ?_⟩⟩
        · rw [upd_ne (ne b u h)]
          exact s5 _ _ (s4 _ _ (s13 b u h))
        · refine RepNs.append (RepNs.go (fun b xs h => gu.tups b xs h) (fun b ob u h => gu.frzs b ob u h) (fun b u z h => ⟨(gu.keep b u h z.1).1, z⟩) _ _ (RepNs.to (s3.trans (s4.trans s5)) (fun _ z => z) _ _ rp)) ⟨v, [], rfl, ?_, rfl⟩
          exact RepN.go (fun b xs h => gu.tups b xs h) (fun b ob u h => gu.frzs b ob u h) (fun b u z h => ⟨(gu.keep b u h z.1).1, z.1, (s13.trans s4).free z.2⟩) _ _ rd
    · have e : i = ds.length := by omega
      subst e
      refine .inl ⟨I.stop H' _ hP', ?_⟩
      exact k (.ref Da) ⟨.new, .lst es⟩ H' (s1.trans s2) ⟨Da, ys, rfl, hD', ⟨R.ofree (s1.free hDa), s1.free hDa⟩, RepNs.to (Same.refl _) (fun b z => ⟨fun y => z.1 (List.mem_cons_of_mem _ y), s1.free z.2⟩) _ _ rp⟩ (fin es pe)
theorem ed_compN (hi : EI Γ X tg iter ti) (S : CompScope X.env.scope scope T F) (hjs : Paired (fun x j => X.N[j]? = some x) F js) (nd : js.Nodup)
    (hg : ∀ cl C fp s H, PG (cxComp X (T ++ F) scope cl C fp s H) tg g2) (hk : GKeep T.length g2) (hl : GLink X.K g2 g)
    (ht : ∀ cl C fp s H, EIf Γ (cxComp X (T ++ F) scope cl C fp s H) ifs tc) (he : ∀ cl C fp s H, ED Γ (cxComp X (T ++ F) scope cl C fp s H) elt te)
    (hc : X.calm = true := by rfl) (hs : ∀ x, foldedSetIterable iter X.env x = pure x := by intro _; rfl) : ED Γ X (.ListComp elt [⟨tg, iter, ifs, 0⟩] scope pos) (dCompN ti T.length js g tc te) := fun H₀ =>
  impE (pe_comp (tc := liftT X.K H₀.1 tc) (te := liftE X.K H₀.1 te) hc (hi H₀) S hjs hg hk (fun cl C fp s H => ht cl C fp s H H₀) (fun cl C fp s H => he cl C fp s H H₀) hs) (lift_compN nd hl)
theorem dCompN_at {ti : TID} {n : Nat} {js : List Nat} {g : TGD} {tc : TDb} {te : TD} {ρ : DE} {φ : EV → Prop} (ds : List D) (h : ∀ ψ : List D → Prop, ψ ds → ti ρ ψ) (P : Nat → List D → Prop) (hl : ds.length ≤ 100000) (h0 : P 0 [])
    (ht : ∀ (i : Nat) (d : D) (es : List D), ds[i]? = some d → es.length ≤ i → P i es → g d (ρ0 n js ρ) fun ρ' => tc ρ' fun c => (c = true → te ρ' fun r => pureEV r ∧ P (i + 1) (es ++ [r.d])) ∧ (c = false → P (i + 1) es)) (hφ : ∀ es, P ds.length es → φ ⟨.new, .lst es⟩) : dCompN ti n js g tc te ρ φ := h _ ⟨P, hl, h0, ht, hφ⟩
end
end DL

set_option Elab.async false
set_option linter.all false
set_option maxRecDepth 100000
set_option maxHeartbeats 4000000
namespace K05
open PySem PySem.Spec L2 L3 DL
open PyProof.Rows hiding St
theorem strE {a b : Str} (h : a.cps.toList = b.cps.toList) : a = b := by
  cases a
  cases b
  congr 1
  exact Array.toList_inj.mp h
theorem sC (a b : Str) : (a ++ b).cps.toList = a.cps.toList ++ b.cps.toList := by
  show (a.cps ++ b.cps).toList = _
  simp
theorem sA (a b c : Str) : a ++ b ++ c = a ++ (b ++ c) := strE (by rw [sC, sC, sC, sC, List.append_assoc])
theorem s0 : ("" : Str).cps.toList = [] := by decide +kernel
theorem sL (a : Str) : ("" : Str) ++ a = a := strE (by rw [sC, s0]; rfl)
theorem sR (a : Str) : a ++ ("" : Str) = a := strE (by rw [sC, s0, List.append_nil])
theorem sLn (a b : Str) : (a ++ b).length = a.length + b.length := by
  show (a.cps ++ b.cps).size = _
  simp
  rfl
noncomputable def lp : Str := "("
noncomputable def rp : Str := ")"
noncomputable def sp : Str := " "
noncomputable def sep (p : Option Str) (w : Str) : Str := match p with
  | none => ""
  | some q => if q ≠ lp ∧ w ≠ rp then sp else ""
noncomputable def stepL (a : Str × Option Str) (w : Str) : Str × Option Str := (a.1 ++ sep a.2 w ++ w, some w)
noncomputable def runL (a : Str × Option Str) (ws : List Str) : Str × Option Str := ws.foldl stepL a
noncomputable def lineF (ws : List Str) : Str := (runL ("", none) ws).1
theorem run_acc : ∀ (ws : List Str) (a : Str) (p : Option Str), runL (a, p) ws = (a ++ (runL ("", p) ws).1, (runL ("", p) ws).2)
  | [], a, p => by simp [runL, sR]
  | w :: ws, a, p => by
    show runL (a ++ sep p w ++ w, some w) ws = (a ++ (runL ("" ++ sep p w ++ w, some w) ws).1, (runL ("" ++ sep p w ++ w, some w) ws).2)
    rw [run_acc ws (a ++ sep p w ++ w), run_acc ws ("" ++ sep p w ++ w), sL]
    simp only [sA]
theorem run_app (a : Str × Option Str) (xs ys : List Str) : runL a (xs ++ ys) = runL (runL a xs) ys := by
  unfold runL
  rw [List.foldl_append]
theorem run_last : ∀ (ws : List Str) (w : Str) (a : Str × Option Str), (runL a (w :: ws)).2 = some ((w :: ws).getLast (by simp))
  | [], w, a => rfl
  | v :: ws, w, a => by
    show (runL (stepL a w) (v :: ws)).2 = _
    rw [run_last ws v]
    simp
/-- a piece: it does not begin with ) nor end with ( -/
noncomputable def Good (c : List Str) : Prop := ∃ w ws, c = w :: ws ∧ w ≠ rp ∧ (w :: ws).getLast (by simp) ≠ lp
noncomputable def gap (p : Option Str) : Str := match p with
  | none => ""
  | some q => if q ≠ lp then sp else ""
theorem run_piece {c : List Str} (h : Good c) (a : Str) (p : Option Str) : ∃ q, q ≠ lp ∧ runL (a, p) c = (a ++ gap p ++ lineF c, some q) := by
  obtain ⟨w, ws, rfl, h1, h2⟩ := h
  refine ⟨_, h2, ?_⟩
  have e1 : (runL (a, p) (w :: ws)).2 = _ := run_last ws w (a, p)
  have e2 : (runL (a, p) (w :: ws)).1 = a ++ gap p ++ lineF (w :: ws) := by
    have hs : sep p w = gap p := by
      unfold sep gap
      cases p with
      | none => rfl
      | some q => by_cases z : q = lp <;> simp [z, h1]
    show (runL (a ++ sep p w ++ w, some w) ws).1 = a ++ gap p ++ (runL ("" ++ "" ++ w, some w) ws).1
    rw [run_acc ws (a ++ sep p w ++ w), run_acc ws ("" ++ "" ++ w), hs, sL, sL]
    simp only [sA]
  rw [← e1, ← e2]
theorem run_pieces : ∀ {cs : List (List Str)}, (∀ c ∈ cs, Good c) → ∀ (a q : Str), q ≠ lp → ∃ q', q' ≠ lp ∧ runL (a, some q) cs.flatten = (a ++ (cs.foldr (fun c s => sp ++ lineF c ++ s) ""), some q')
  | [], _, a, q, hq => ⟨q, hq, by simp [runL, sR]⟩
  | c :: cs, h, a, q, hq => by
    obtain ⟨q1, h1, e1⟩ := run_piece (h c List.mem_cons_self) a (some q)
    obtain ⟨q2, h2, e2⟩ := run_pieces (cs := cs) (fun x hx => h x (List.mem_cons_of_mem _ hx)) (a ++ gap (some q) ++ lineF c) q1 h1
    refine ⟨q2, h2, ?_⟩
    rw [List.flatten_cons, run_app, e1, e2]
    have : gap (some q) = sp := by
      show (if q ≠ lp then sp else "") = sp
      rw [if_pos hq]
    rw [this, List.foldr_cons]
    simp only [sA]
theorem join_tail : ∀ (t : Str) (ts : List Str), Str.join sp (t :: ts) = t ++ ts.foldr (fun x s => sp ++ x ++ s) ""
  | t, [] => by
    show t = t ++ ""
    rw [sR]
  | t, u :: ts => by
    show t ++ sp ++ Str.join sp (u :: ts) = _
    rw [join_tail u ts, List.foldr_cons]
    simp only [sA]
theorem fold_map (cs : List (List Str)) : (cs.map lineF).foldr (fun x s => sp ++ x ++ s) "" = cs.foldr (fun c s => sp ++ lineF c ++ s) "" := by
  rw [List.foldr_map]
/-- pieces side by side -/
theorem line_join {cs : List (List Str)} (h : ∀ c ∈ cs, Good c) : lineF cs.flatten = Str.join sp (cs.map lineF) := by
  cases cs with
  | nil => rfl
  | cons c cs =>
    obtain ⟨q1, h1, e1⟩ := run_piece (h c List.mem_cons_self) "" none
    obtain ⟨q2, h2, e2⟩ := run_pieces (cs := cs) (fun x hx => h x (List.mem_cons_of_mem _ hx)) ("" ++ gap none ++ lineF c) q1 h1
    show (runL ("", none) (c :: cs).flatten).1 = _
    rw [List.flatten_cons, run_app, e1, e2, List.map_cons, join_tail, fold_map]
    show "" ++ "" ++ lineF c ++ _ = _
    rw [sL, sL]
/-- pieces within brackets -/
theorem line_br {cs : List (List Str)} (h : ∀ c ∈ cs, Good c) (hn : cs ≠ []) : lineF ([lp] ++ cs.flatten ++ [rp]) = lp ++ Str.join sp (cs.map lineF) ++ rp := by
  match cs, hn with
  | c :: cs, _ =>
    obtain ⟨q1, h1, e1⟩ := run_piece (h c List.mem_cons_self) lp (some lp)
    obtain ⟨q2, h2, e2⟩ := run_pieces (cs := cs) (fun x hx => h x (List.mem_cons_of_mem _ hx)) (lp ++ gap (some lp) ++ lineF c) q1 h1
    show (runL ("", none) ([lp] ++ (c :: cs).flatten ++ [rp])).1 = _
    rw [run_app, run_app]
    have e0 : runL ("", none) [lp] = (lp, some lp) := by
      show ("" ++ "" ++ lp, some lp) = _
      rw [sL, sL]
    rw [e0, List.flatten_cons, run_app, e1, e2, List.map_cons, join_tail, fold_map]
    show _ ++ sep (some q2) rp ++ rp = _
    have g1 : gap (some lp) = "" := by show (if lp ≠ lp then sp else "") = ""; rw [if_neg (fun z => z rfl)]
    have g2 : sep (some q2) rp = "" := by show (if q2 ≠ lp ∧ rp ≠ rp then sp else "") = ""; rw [if_neg (fun z => z.2 rfl)]
    rw [g1, g2, sR]
    simp only [sA, sL]
theorem lp_rp : lp ≠ rp := by decide +kernel
theorem good_br (ws : List Str) : Good ([lp] ++ ws ++ [rp]) := ⟨lp, ws ++ [rp], rfl, lp_rp, by
  rw [List.getLast_cons (by simp), List.getLast_append_of_ne_nil _ (by simp)]
  exact lp_rp.symm⟩
noncomputable def GoodW (w : Str) : Prop := w ≠ lp ∧ w ≠ rp ∧ w.length ≤ 70
theorem good_one {w : Str} (h : GoodW w) : Good [w] := ⟨w, [], rfl, h.2.1, h.1⟩
theorem line_one (w : Str) : lineF [w] = w := by
  show "" ++ "" ++ w = w
  rw [sL, sL]
noncomputable def wsum (ws : List Str) : Nat := (ws.map fun w => w.length + 1).sum
theorem wsum_app (a b : List Str) : wsum (a ++ b) = wsum a + wsum b := by
  unfold wsum
  simp
theorem run_len : ∀ (ws : List Str) (a : Str) (p : Option Str), (runL (a, p) ws).1.length ≤ a.length + wsum ws
  | [], a, p => Nat.le_refl _
  | w :: ws, a, p => by
    have := run_len ws (a ++ sep p w ++ w) (some w)
    have e : wsum (w :: ws) = w.length + 1 + wsum ws := by unfold wsum; simp
    have l : (sep p w).length ≤ 1 := by
      cases p with
      | none => exact (by decide +kernel : ("" : Str).length ≤ 1)
      | some q =>
        show (if q ≠ lp ∧ w ≠ rp then sp else "").length ≤ 1
        split
        · exact (by decide +kernel : sp.length ≤ 1)
        · exact (by decide +kernel : ("" : Str).length ≤ 1)
    rw [sLn, sLn] at this
    show (runL (a ++ sep p w ++ w, some w) ws).1.length ≤ _
    omega
theorem line_len (ws : List Str) : (lineF ws).length ≤ wsum ws := by
  have := run_len ws "" none
  have e : ("" : Str).length = 0 := by decide +kernel
  unfold lineF
  omega
theorem wsum_flat (cs : List (List Str)) : wsum cs.flatten = (cs.map wsum).sum := by
  induction cs with
  | nil => rfl
  | cons c cs ih => rw [List.flatten_cons, wsum_app, ih]; simp
end K05

set_option Elab.async false
set_option linter.all false
set_option maxRecDepth 100000
set_option maxHeartbeats 4000000
set_option exponentiation.threshold 5000
namespace K05
open PySem PySem.Spec L2 L3 DL
open PyProof.Rows hiding St
noncomputable def numS (i : Int) : Str := PySem.Str.ofString (toString i)
theorem num_len {i : Int} (h : i.natAbs < 10 ^ 60) : (numS i).length ≤ 61 := by
  have e : (numS i).length = (codes i).length := by
    show (numS i).cps.size = _
    unfold numS codes
    simp
  rw [e]
  cases i with
  | ofNat m =>
    have : codes (m : Int) = _ := codes_nat m
    show (codes (m : Int)).length ≤ 61
    rw [this, List.length_map]
    have := (Nat.length_toDigits_le_iff (b := 10) (n := m) (k := 60) (by decide) (by decide)).mpr (by simpa using h)
    omega
  | negSucc m =>
    rw [codes_neg, List.length_cons, List.length_map]
    have := (Nat.length_toDigits_le_iff (b := 10) (n := m + 1) (k := 60) (by decide) (by decide)).mpr (by simpa using h)
    omega
theorem num_good {i : Int} (h : i.natAbs < 10 ^ 60) : GoodW (numS i) := by
  have no : ∀ c, c = 40 ∨ c = 41 → numS i ≠ ⟨#[c]⟩ := fun c hc e => by
    have : c ∈ codes i := by
      show c ∈ (numS i).cps.toList
      rw [e]
      simp
    have := codes_range this
    omega
  have := num_len h
  exact ⟨no 40 (.inl rfl), no 41 (.inr rfl), by omega⟩
noncomputable def ExB (e : D) (c : List Str) : Prop :=
  (∃ i : Int, i.natAbs < 10 ^ 60 ∧ e = .tup [.str "num", .int i] ∧ c = [numS i]) ∨ (∃ z, GoodW z ∧ e = .tup [.str "var", .str z] ∧ c = [z]) ∨ (e = .tup [.str "nil"] ∧ c = [("nil" : Str)]) ∨ (e = .tup [.str "leaf"] ∧ c = [("leaf" : Str)])
noncomputable def PairR (R : D → List Str → Prop) (es : List D) (cs : List (List Str)) : Prop := es.length = cs.length ∧ ∀ (i : Nat) e c, es[i]? = some e → cs[i]? = some c → R e c
noncomputable def ops : List Str := ["add", "sub", "cons", "node"]
noncomputable def Ex : Nat → D → List Str → Prop
  | 0, _, _ => False
  | n + 1, e, c => ExB e c ∨ (∃ f es cs, GoodW f ∧ PairR (Ex n) es cs ∧ es.length ≤ 4 ∧ e = .tup [.str "call", .str f, .tup es] ∧ c = [lp, "call", f] ++ cs.flatten ++ [rp]) ∨
    (∃ o es cs, o ∈ ops ∧ PairR (Ex n) es cs ∧ es.length ≤ 4 ∧ e = .tup (.str o :: es) ∧ c = [lp, o] ++ cs.flatten ++ [rp])
noncomputable def LE : Nat → Nat
  | 0 => 0
  | n + 1 => 100 + 4 * LE n
theorem good_const {w : Str} (h : w ∈ (["nil", "leaf", "call", "add", "sub", "cons", "node", "give", "let", "less", "list", "tree", "fn", "num"] : List Str)) : GoodW w := by
  have : ∀ w ∈ (["nil", "leaf", "call", "add", "sub", "cons", "node", "give", "let", "less", "list", "tree", "fn", "num"] : List Str), w ≠ lp ∧ w ≠ rp ∧ w.length ≤ 70 := by decide +kernel
  exact this w h
theorem sum_le {l : List Nat} {b : Nat} (h : ∀ x ∈ l, x ≤ b) : l.sum ≤ l.length * b := by
  induction l with
  | nil => simp
  | cons x l ih =>
    have h1 := h x List.mem_cons_self
    have h2 := ih fun y hy => h y (List.mem_cons_of_mem _ hy)
    rw [List.sum_cons, List.length_cons, Nat.add_mul]
    omega
theorem wsum_cons (w : Str) (ws : List Str) : wsum (w :: ws) = w.length + 1 + wsum ws := by unfold wsum; simp
theorem PairR.mem {R : D → List Str → Prop} {es : List D} {cs : List (List Str)} (h : PairR R es cs) {c : List Str} (hc : c ∈ cs) : ∃ e ∈ es, R e c := by
  obtain ⟨i, hi⟩ := List.getElem?_of_mem hc
  have hl := (List.getElem?_eq_some_iff.mp hi).1
  have he : es[i]? = some (es[i]'(by rw [h.1]; exact hl)) := by simp
  exact ⟨_, List.mem_of_getElem? he, h.2 i _ c he hi⟩
theorem PairR.mem' {R : D → List Str → Prop} {es : List D} {cs : List (List Str)} (h : PairR R es cs) {e : D} (he : e ∈ es) : ∃ c ∈ cs, R e c := by
  obtain ⟨i, hi⟩ := List.getElem?_of_mem he
  have hl := (List.getElem?_eq_some_iff.mp hi).1
  have hc : cs[i]? = some (cs[i]'(by rw [← h.1]; exact hl)) := by simp
  exact ⟨_, List.mem_of_getElem? hc, h.2 i e _ hi hc⟩
theorem exb_facts {e : D} {c : List Str} (h : ExB e c) : Good c ∧ wsum c ≤ 100 ∧ pureD e := by
  rcases h with ⟨i, hi, rfl, rfl⟩ | ⟨z, hz, rfl, rfl⟩ | ⟨rfl, rfl⟩ | ⟨rfl, rfl⟩
  · have g := num_good hi
    refine ⟨good_one g, ?_, ⟨trivial, trivial, trivial⟩⟩
    have := g.2.2
    unfold wsum
    simp
    omega
  · refine ⟨good_one hz, ?_, ⟨trivial, trivial, trivial⟩⟩
    have := hz.2.2
    unfold wsum
    simp
    omega
  · exact ⟨good_one (good_const (by simp)), by decide +kernel, ⟨trivial, trivial⟩⟩
  · exact ⟨good_one (good_const (by simp)), by decide +kernel, ⟨trivial, trivial⟩⟩
theorem ops_good {o : Str} (h : o ∈ ops) : GoodW o := good_const (by
  unfold ops at h
  simp only [List.mem_cons, List.not_mem_nil, or_false] at h ⊢
  rcases h with h | h | h | h <;> simp [h])
theorem flat_le {n : Nat} {es : List D} {cs : List (List Str)} (h : PairR (Ex n) es cs) (hl : es.length ≤ 4) (ih : ∀ e c, Ex n e c → Good c ∧ wsum c ≤ LE n ∧ pureD e) : wsum cs.flatten ≤ 4 * LE n := by
  rw [wsum_flat]
  have := sum_le (l := cs.map wsum) (b := LE n) fun x hx => by
    obtain ⟨c, hc, rfl⟩ := List.mem_map.mp hx
    obtain ⟨e, _, he⟩ := h.mem hc
    exact (ih e c he).2.1
  rw [List.length_map, ← h.1] at this
  exact Nat.le_trans this (Nat.mul_le_mul_right _ hl)
theorem lp_len : lp.length = 1 := by decide +kernel
theorem rp_len : rp.length = 1 := by decide +kernel
theorem ex_facts : ∀ (n : Nat) (e : D) (c : List Str), Ex n e c → Good c ∧ wsum c ≤ LE n ∧ pureD e
  | 0, _, _, h => h.elim
  | n + 1, e, c, h => by
    rcases h with h | ⟨f, es, cs, hf, hp, hl, rfl, rfl⟩ | ⟨o, es, cs, ho, hp, hl, rfl, rfl⟩
    · obtain ⟨a, b, c⟩ := exb_facts h
      exact ⟨a, by show _ ≤ 100 + 4 * LE n; omega, c⟩
    · have fl := flat_le hp hl (ex_facts n)
      refine ⟨good_br ([("call" : Str), f] ++ cs.flatten), ?_, trivial, trivial, pureDs_iff.mpr fun d hd => ?_, trivial⟩
      · show wsum ([lp, "call", f] ++ cs.flatten ++ [rp]) ≤ 100 + 4 * LE n
        have h1 := hf.2.2
        have h2 : ("call" : Str).length = 4 := by decide +kernel
        rw [wsum_app, wsum_app, wsum_cons, wsum_cons, wsum_cons, lp_len, h2]
        have h3 : wsum [rp] = 2 := by rw [wsum_cons, rp_len]; rfl
        have h4 : wsum [] = 0 := rfl
        omega
      · obtain ⟨c', _, hc'⟩ := hp.mem' hd
        exact (ex_facts n d c' hc').2.2
    · have fl := flat_le hp hl (ex_facts n)
      have og := ops_good ho
      refine ⟨good_br ([o] ++ cs.flatten), ?_, trivial, pureDs_iff.mpr fun d hd => ?_⟩
      · show wsum ([lp, o] ++ cs.flatten ++ [rp]) ≤ 100 + 4 * LE n
        have h1 := og.2.2
        rw [wsum_app, wsum_app, wsum_cons, wsum_cons, lp_len]
        have h3 : wsum [rp] = 2 := by rw [wsum_cons, rp_len]; rfl
        have h4 : wsum [] = 0 := rfl
        omega
      · obtain ⟨c', _, hc'⟩ := hp.mem' hd
        exact (ex_facts n d c' hc').2.2
theorem flat_ones (ws : List Str) : (ws.map (fun w => [w])).flatten = ws := by
  induction ws with
  | nil => rfl
  | cons w ws ih => rw [List.map_cons, List.flatten_cons, ih]; rfl
/-- words and pieces within brackets -/
theorem br_text (ws : List Str) (cs : List (List Str)) (hw : ∀ w ∈ ws, GoodW w) (hc : ∀ c ∈ cs, Good c) (hn : ws ≠ []) : lineF ([lp] ++ ws ++ cs.flatten ++ [rp]) = lp ++ Str.join sp (ws ++ cs.map lineF) ++ rp := by
  have h := line_br (cs := ws.map (fun w => [w]) ++ cs) (fun c hc' => by
    rcases List.mem_append.mp hc' with h | h
    · obtain ⟨w, hw', rfl⟩ := List.mem_map.mp h
      exact good_one (hw w hw')
    · exact hc c h) (by simp [hn])
  have e1 : (ws.map (fun w => [w]) ++ cs).flatten = ws ++ cs.flatten := by
    rw [List.flatten_append, flat_ones]
  have e2 : (ws.map (fun w => [w]) ++ cs).map lineF = ws ++ cs.map lineF := by
    rw [List.map_append, List.map_map]
    congr 1
    rw [show (lineF ∘ fun w => [w]) = id from funext line_one, List.map_id]
  rw [e1, e2] at h
  rw [← h]
  simp
end K05

set_option Elab.async false
set_option linter.all false
set_option maxRecDepth 100000
set_option maxHeartbeats 8000000
set_option exponentiation.threshold 5000
namespace K05
open PySem PySem.Spec L2 L3 DL
open PyProof.Rows hiding St
open PySem.Builtin.Int (intBits)
local macro_rules | `(tactic| walk_at "dl") => `(tactic| simp only [sNil, sSeq, sRet, sIf, sSet, sExpr, sUn, sPar, d2, d1, dName, dC, slot, setS, EV.sto, EV.ret, aNil, aCons, dTup, dLst, dCall, dCB, solidB, vAnd, vOr, vNot, vIf, bAnd, bOr, bNot, bYes, tTru, tBo, truD, sSub, sFd, sMod, sPow, sLt, sLe, sGt, sGe, sI, sI0, sAdd, sMul, sNeg, sEq, sNe, sIs, sIsNot, isNon, sIx, sSl, dSl, oNone, oSome, sLen, sAbs, sIsI, sStr, sTupC, sListC, sIntC, sApp, iSeq, iR1, iR2, itemsD, gN, gT2, startD, isT_non_int, isT_non_bool, isT_bl_int, isT_bl_bool, isT_int_int, isT_int_bool, isT_int_str, isT_str_int, isT_str_str, isT_tup_tuple, isT_tup_int, isT_tup_list, isT_lst_list, isT_lst_tuple, isT_dk_dict, List.map_cons, List.map_nil, List.length_cons, List.length_nil, List.cons_append, List.nil_append, List.replicate_succ, List.replicate_zero, Nat.reduceAdd, Nat.reduceSub, Nat.zero_add, Nat.sub_self, Bool.and_self, Bool.and_true, Bool.true_and, true_and, and_true, Bool.not_true, Bool.not_false, forall_const, true_implies, false_implies, Bool.true_eq_false, Bool.false_eq_true, reduceCtorEq, implies_true, okD_int, okD_bl, okD_str, okD_non, eqD_int, eqD_str, eqD_bl, pureEV, pureD, pureDs, Bool.not_eq_eq_eq_not, Bool.not_true, Bool.not_false, beq_eq_false_iff_ne, beq_iff_eq, ne_eq, decide_eq_true_eq, decide_eq_false_iff_not, Bool.not_eq_true, Bool.not_eq_false, not_true_eq_false, not_false_eq_true, atI_0, atI_1, atI_2, and_self, Nat.beq_eq, Nat.ble_eq, Nat.reduceLeDiff, eq_self, Nat.reduceEqDiff, sIxx, dGet2, dFmt, dJoin, keyD, sIn, flatD, cp10, Int.reduceLE, Int.reduceToNat, tenpow_ne, atI_map, List.length_map, Option.map_some, Int.zero_add, sDput', Int.reduceEq, Int.reduceNeg, Int.reduceLT, sRaise, dCallX, sTry, hanZ, clrS, frzE, Option.map_none, List.map_cons, dIsE, sFrz, frzS, iZ, seqD_lst, seqD_tup, seqD_scr, sSum, intsD_map, sPop, sAppPop, sExt, sAug, sIsB, sIsNotB, dTupN, dAddN, dSlT, dPick, sLP, popD_app, pureEVs, sAllL, isT_str_bool, isT_str_tuple, isT_non_tuple, isT_bl_tuple, isT_int_tuple, isT_tup_bool, isT_lst_int, isT_lst_bool, isT_dk_int, isT_dk_bool, isT_dk_tuple, isT_non_bool, isT_str_int, dIsET, sDictC, sLenD, intsD_map, sDictP, dListRev, sDaug, sListD, sAugM, sPopX, iE, dStep, dMaxD, sMax, sInT, sIxT, dGet2T, sDputT, sListT, sSortedT, keyT_ints, keyT_tk, sLput, iZ, seqD, sFeed, gL4, dJoin1, dFd0, sFdPut, sNext1, sRetT, pureRs])
seal SDs SD ED EA ET EW
noncomputable def top (i : Nat) : Stmt := PySem.Challenge.pw_toll_k05_shown.main.body.getD i (.Pass ⟨0, 0, 0, 0⟩)
structure Tops (mg : Str → Option Value) : Prop where
  int : mg "int" = none
  isinstance : mg "isinstance" = none
  len : mg "len" = none
  range : mg "range" = none
  str : mg "str" = none
  tuple : mg "tuple" = none
section
variable {P : Program} {w : World} {K : PySem.W.Frag} {mg : Str → Option Value} {base : Heap} {f : Addr} {fd : FuncData}

noncomputable def tBr : FT := g1 fun d φ => ∃ ts : List Str, (d = .lst (ts.map D.str) ∨ d = .tup (ts.map D.str)) ∧ wsum ts ≤ 16000000 ∧ φ (dv (.str (lp ++ Str.join sp ts ++ rp)))
noncomputable def tShowE (n : Nat) : FT := g1 fun e φ => ∃ c, n ≤ 4 ∧ Ex n e c ∧ φ (dv (.str (lineF c)))
noncomputable def linesD (cs : List (List Str)) : List D := (cs.map lineF).map D.str
noncomputable def tShowAll (n : Nat) : FT := g1 fun d φ => ∃ es cs, (d = .tup es ∨ d = .lst es) ∧ n ≤ 4 ∧ PairR (Ex n) es cs ∧ es.length ≤ 4 ∧ φ (df (.lst (linesD cs)))
theorem join_len : ∀ ts : List Str, (Str.join sp ts).length ≤ wsum ts
  | [] => by decide +kernel
  | [t] => by
    show t.length ≤ _
    rw [wsum_cons]
    omega
  | t :: u :: ts => by
    have := join_len (u :: ts)
    show (t ++ sp ++ Str.join sp (u :: ts)).length ≤ _
    have e : sp.length = 1 := by decide +kernel
    rw [sLn, sLn, wsum_cons, e]
    omega
theorem join_sum (ts : List Str) : (ts.map fun t => t.length + ((" " : Str)).length).sum = wsum ts := by
  have e : ((" " : Str)).length = 1 := by decide +kernel
  unfold wsum
  rw [e]
theorem sLine : sizeLine = 16777216 := by decide +kernel
theorem br_fin {ts : List Str} {φ : EV → Prop} (hb : wsum ts ≤ 16000000) (h : φ (dv (.str (lp ++ Str.join sp ts ++ rp)))) : (ts.map fun t => t.length + (Str.ofString " ").length).sum ≤ sizeLine ∧ Str.empty.length + (Str.ofString "(").length ≤ sizeLine ∧ ((Str.ofString " ").join ts).length ≤ sizeLine ∧ Str.empty.length + (Str.ofString "(").length + ((Str.ofString " ").join ts).length ≤ sizeLine ∧
    Str.empty.length + (Str.ofString "(").length + ((Str.ofString " ").join ts).length + (Str.ofString ")").length ≤ sizeLine ∧ φ ⟨.val, .str (Str.empty ++ Str.ofString "(" ++ (Str.ofString " ").join ts ++ Str.ofString ")")⟩ := by
  have h1 : (ts.map fun t => t.length + (Str.ofString " ").length).sum = wsum ts := join_sum ts
  have h2 : ((Str.ofString " ").join ts).length ≤ wsum ts := join_len ts
  have h3 := sLine
  have h4 : (Str.ofString "(").length = 1 := by decide +kernel
  have h5 : (Str.ofString ")").length = 1 := by decide +kernel
  have h6 : Str.empty.length = 0 := by decide +kernel
  have e : Str.empty ++ Str.ofString "(" = lp := by decide +kernel
  rw [e]
  exact ⟨by omega, by omega, by omega, by omega, by omega, h⟩
theorem pair_step {R : D → List Str → Prop} {es : List D} {cs : List (List Str)} {i : Nat} {e : D} (h : PairR R es cs) (he : es[i]? = some e) : ∃ c, cs[i]? = some c ∧ R e c ∧ linesD (cs.take (i + 1)) = linesD (cs.take i) ++ [.str (lineF c)] := by
  have hl := (List.getElem?_eq_some_iff.mp he).1
  have hc : cs[i]? = some (cs[i]'(by rw [← h.1]; exact hl)) := by simp
  refine ⟨_, hc, h.2 i e _ he hc, ?_⟩
  unfold linesD
  rw [List.take_succ, hc, Option.toList_some, List.map_append, List.map_append]
  rfl
theorem lines_pure (cs : List (List Str)) : pureDs (linesD cs) := pureDs_iff.mpr fun d hd => by
  unfold linesD at hd
  obtain ⟨t, _, rfl⟩ := List.mem_map.mp hd
  trivial
theorem log_ok {i : Int} (h : i.natAbs < 10 ^ 60) : i.natAbs.log2 < 1920 := by
  by_cases z : i.natAbs = 0
  · rw [z]; decide
  · exact (Nat.log2_lt z).mpr (Nat.lt_trans h (by decide +kernel))
theorem sIx_no (m : Nat) : ¬(HT.sIx (m + 1) 0 (some 1) = 0 ∧ HT.sIx (m + 1) (m + 1) none = m + 1) := fun z => by
  have := z.1
  unfold HT.sIx at this
  simp at this
theorem lines_len (cs : List (List Str)) : (linesD cs).length = cs.length := by unfold linesD; simp
theorem lines_sum {n : Nat} {es : List D} {cs : List (List Str)} (h : PairR (Ex n) es cs) (hl : es.length ≤ 4) : wsum (cs.map lineF) ≤ 4 * (LE n + 1) := by
  unfold wsum
  have := sum_le (l := (cs.map lineF).map fun w => w.length + 1) (b := LE n + 1) fun x hx => by
    rw [List.map_map] at hx
    obtain ⟨c, hc, rfl⟩ := List.mem_map.mp hx
    obtain ⟨e, _, he⟩ := h.mem hc
    have := (ex_facts n e c he).2.1
    have := line_len c
    show (lineF c).length + 1 ≤ _
    omega
  rw [List.length_map, List.length_map, ← h.1] at this
  exact Nat.le_trans this (Nat.mul_le_mul_right _ hl)
theorem le_mono : ∀ {n : Nat}, n ≤ 4 → LE n ≤ 8500
  | 0, _ => by decide
  | 1, _ => by decide
  | 2, _ => by decide
  | 3, _ => by decide
  | 4, _ => by decide
  | n + 5, h => by omega
theorem text_good {n : Nat} {es : List D} {cs : List (List Str)} (h : PairR (Ex n) es cs) : ∀ c ∈ cs, Good c := fun c hc => by
  obtain ⟨e, _, he⟩ := h.mem hc
  exact (ex_facts n e c he).1
theorem fd_bracketed (T : Tops mg) (F : Fun K "bracketed" "bracketed" (top 2) f fd) (m : mg "bracketed" = some (.ref f)) : FD P w K mg base 1 "bracketed" ["words"] tBr := by
  have S : FnScope ["words", "inner"] ["words"] (defScope (top 2)) := ⟨rfl, rfl, rfl, by decide +kernel, rfl, by decide +kernel, by decide +kernel⟩
  refine fd_of F S (F.binds fun _ _ _ _ _ _ us hl => match us, hl with | [_], _ => rfl) m fun cdv A outer s H E ds φ hr hl hT => ?_
  have hu := hr.units
  refine ⟨_, (ss_cons (sd_set 1 S.nd (ed_join1 ed_str (ed_name 0)))
      (ss_one (sd_ret (ed_join (.cons ed_str (.cons (ed_fmt (ed_name 1)) (.cons ed_str .nil))))))), ?_⟩
  obtain ⟨d, rfl, ts, hd, hb, h⟩ := f1_of hT
  rcases hd with rfl | rfl
  · walk_at "dl"
    simp only [sLn]
    exact ⟨ts, rfl, br_fin hb h⟩
  · walk_at "dl"
    simp only [sLn]
    exact ⟨ts, rfl, br_fin hb h⟩
theorem fd_show_all {n : Nat} (T : Tops mg) (F_show_expression : FD P w K mg base (2 * n + 2) "show_expression" ["expression"] (tShowE n)) (F : Fun K "show_all" "show_all" (top 6) f fd) (m : mg "show_all" = some (.ref f)) : FD P w K mg base (2 * n + 3) "show_all" ["expressions"] (tShowAll n) := by
  have S : FnScope ["expressions"] ["expressions"] (defScope (top 6)) := ⟨rfl, rfl, rfl, by decide +kernel, rfl, by decide +kernel, by decide +kernel⟩
  refine fd_of F S (F.binds fun _ _ _ _ _ _ us hl => match us, hl with | [_], _ => rfl) m fun cdv A outer s H E ds φ hr hl hT => ?_
  have hu := hr.units
  refine ⟨_, (ss_one (sd_ret (ed_compP (T := ["expression"]) (F := []) (js := []) (ei_seq (ed_name 0)) (show CompScope (defScope (top 6)) _ ["expression"] [] from ⟨rfl, by decide +kernel, by decide +kernel, by decide +kernel, by decide +kernel, by decide +kernel⟩) .nil (by decide) (fun cl C fp s H => (pg_name (i := 0) (show ((["expression"] : List Str) ++ ([] : List Str)).Nodup by decide +kernel) rfl (by first | exact Or.inl rfl | exact Or.inr rfl))) (gk_name (by decide)) (gl_name 0) (fun cl C fp s H => eif_nil) (fun cl C fp s H => (ed_call F_show_expression (hr.mono (by omega)) (ea_cons (ed_name 0) ea_nil)))))), ?_⟩
  obtain ⟨d, rfl, es, cs, hd, hn, hp, hl, h⟩ := f1_of hT
  refine dCompP_at es (fun ψ hψ => ?_) (fun i fs => fs = linesD (cs.take i)) (by omega) rfl ?_ ?_
  · rcases hd with rfl | rfl
    · walk_at "dl"
      exact hψ
    · walk_at "dl"
      exact hψ
  · rintro i e fs he hle rfl
    obtain ⟨c, hc, hr, eq⟩ := pair_step hp he
    simp only [ρ0, List.map_cons, List.map_nil, List.replicate, List.cons_append, List.nil_append]
    walk_at "dl"
    simp only [tShowE, g1]
    exact ⟨c, hn, hr, trivial, eq.symm⟩
  · rintro fs rfl
    rw [hp.1, List.take_length]
    walk_at "dl"
    exact ⟨lines_pure cs, h⟩
theorem fd_show_expression {n : Nat} (T : Tops mg) (F_bracketed : FD P w K mg base 1 "bracketed" ["words"] tBr) (F_show_all : FD P w K mg base (2 * n + 3) "show_all" ["expressions"] (tShowAll n)) (F : Fun K "show_expression" "show_expression" (top 5) f fd) (m : mg "show_expression" = some (.ref f)) : FD P w K mg base (2 * n + 4) "show_expression" ["expression"] (tShowE (n + 1)) := by
  have S : FnScope ["expression", "kind"] ["expression"] (defScope (top 5)) := ⟨rfl, rfl, rfl, by decide +kernel, rfl, by decide +kernel, by decide +kernel⟩
  refine fd_of F S (F.binds fun _ _ _ _ _ _ us hl => match us, hl with | [_], _ => rfl) m fun cdv A outer s H E ds φ hr hl hT => ?_
  have hu := hr.units
  refine ⟨_, (ss_cons (sd_set 1 S.nd (ed_ixx hu (ed_name 0) ed_int))
      (ss_cons (sd_if (et_eq hu (ed_name 1) ed_str) (ss_one (sd_ret (ed_strI T.str (ea_cons (ed_ixx hu (ed_name 0) ed_int) ea_nil)))) ss_nil)
      (ss_cons (sd_if (et_eq hu (ed_name 1) ed_str) (ss_one (sd_ret (ed_ixx hu (ed_name 0) ed_int))) ss_nil)
      (ss_cons (sd_if (et_in hu (ed_name 1) (ed_tup (ea_cons ed_str (ea_cons ed_str ea_nil)))) (ss_one (sd_ret (ed_name 1))) ss_nil)
      (ss_cons (sd_if (et_eq hu (ed_name 1) ed_str) (ss_one (sd_ret (ed_call F_bracketed (hr.mono (by omega)) (ea_cons (ed_add (ed_lst (ea_cons (ed_name 1) (ea_cons (ed_ixx hu (ed_name 0) ed_int) ea_nil))) (ed_call F_show_all (hr.mono (by omega)) (ea_cons (ed_ixx hu (ed_name 0) ed_int) ea_nil))) ea_nil)))) ss_nil)
      (ss_one (sd_ret (ed_call F_bracketed (hr.mono (by omega)) (ea_cons (ed_add (ed_lst (ea_cons (ed_name 1) ea_nil)) (ed_call F_show_all (hr.mono (by omega)) (ea_cons (ed_slice (ed_name 0) (eo_some ed_int) eo_none) ea_nil))) ea_nil))))))))), ?_⟩
  obtain ⟨e, rfl, c, hn, he, h⟩ := f1_of hT
  rcases he with (⟨i, hi, rfl, rfl⟩ | ⟨z, hz, rfl, rfl⟩ | ⟨rfl, rfl⟩ | ⟨rfl, rfl⟩) | ⟨f, es, cs, hf, hp, hl4, rfl, rfl⟩ | ⟨o, es, cs, ho, hp, hl4, rfl, rfl⟩
  · rw [line_one] at h
    walk_at "dl"
    exact ⟨log_ok hi, h⟩
  · rw [line_one] at h
    walk_at "dl"
    exact ⟨fun z => absurd z (by decide), fun _ => h⟩
  · rw [line_one] at h
    walk_at "dl"
    exact ⟨fun z => absurd z (by decide), fun _ => ⟨fun z => absurd z (by decide), fun _ => ⟨by decide, fun _ => h, fun z => absurd z (by decide)⟩⟩⟩
  · rw [line_one] at h
    walk_at "dl"
    exact ⟨fun z => absurd z (by decide), fun _ => ⟨fun z => absurd z (by decide), fun _ => ⟨by decide, fun _ => h, fun z => absurd z (by decide)⟩⟩⟩
  · walk_at "dl"
    simp only [tShowAll, tBr, g1]
    refine ⟨fun z => absurd z (by decide), fun _ => ⟨fun z => absurd z (by decide), fun _ => ⟨by decide, fun z => absurd z (by decide), fun _ => ?_⟩⟩⟩
    have e := br_text ["call", f] cs (fun w hw => by
      simp only [List.mem_cons, List.not_mem_nil, or_false] at hw
      rcases hw with rfl | rfl
      · exact good_const (by simp)
      · exact hf) (text_good hp) (by simp)
    rw [show ([lp, ("call" : Str), f] ++ cs.flatten ++ [rp]) = [lp] ++ [("call" : Str), f] ++ cs.flatten ++ [rp] from by simp, e] at h
    have b1 := lines_sum hp hl4
    have b2 := le_mono (n := n) (by omega)
    have b3 := hf.2.2
    have b4 : wsum ([("call" : Str), f] ++ cs.map lineF) ≤ 16000000 := by
      have : ("call" : Str).length = 4 := by decide +kernel
      rw [wsum_app, wsum_cons, wsum_cons]
      show _ + (_ + 0) + _ ≤ _
      omega
    refine ⟨es, cs, .inl rfl, by omega, hp, hl4, ?_, [("call" : Str), f] ++ cs.map lineF, .inl ?_, b4, trivial, h⟩
    · rw [lines_len, ← hp.1, sLine]
      show 2 + _ ≤ _
      omega
    · unfold linesD
      rw [List.map_append]
      rfl
  · have hk : o ≠ "num" ∧ o ≠ "var" ∧ inD (.str o) [.str "nil", .str "leaf"] = false ∧ o ≠ "call" := by
      unfold ops at ho
      simp only [List.mem_cons, List.not_mem_nil, or_false] at ho
      rcases ho with rfl | rfl | rfl | rfl <;> decide
    have hc1 : cutD (D.str o :: es) (some 1) none = es := cutD_drop (D.str o :: es) 1
    have og := ops_good ho
    walk_at "dl"
    simp only [tShowAll, tBr, g1, hc1]
    refine ⟨fun z => absurd z hk.1, fun _ => ⟨fun z => absurd z hk.2.1, fun _ => ⟨by decide, fun z => ?_, fun _ => ?_⟩⟩⟩
    · exact absurd z (by rw [show (if False then !inD (.str o) [.str "nil", .str "leaf"] else inD (.str o) [.str "nil", .str "leaf"]) = inD (.str o) [.str "nil", .str "leaf"] from rfl, hk.2.2.1]; decide)
    refine ⟨fun z => absurd z hk.2.2.2, fun _ => ⟨sIx_no _, ?_⟩⟩
    have e := br_text [o] cs (fun w hw => by
      simp only [List.mem_cons, List.not_mem_nil, or_false] at hw
      subst hw
      exact og) (text_good hp) (by simp)
    rw [show ([lp, o] ++ cs.flatten ++ [rp]) = [lp] ++ [o] ++ cs.flatten ++ [rp] from by simp, e] at h
    have b1 := lines_sum hp hl4
    have b2 := le_mono (n := n) (by omega)
    have b3 := og.2.2
    have b4 : wsum ([o] ++ cs.map lineF) ≤ 16000000 := by
      rw [wsum_app, wsum_cons]
      show _ + 0 + _ ≤ _
      omega
    refine ⟨es, cs, .inl rfl, by omega, hp, hl4, ?_, [o] ++ cs.map lineF, .inl ?_, b4, trivial, h⟩
    · rw [lines_len, ← hp.1, sLine]
      show 1 + _ ≤ _
      omega
    · unfold linesD
      rw [List.map_append]
      rfl

theorem fd_showE (T : Tops mg) (F_b : FD P w K mg base 1 "bracketed" ["words"] tBr) {f2 : Addr} {fd2 : FuncData} (Fa : Fun K "show_all" "show_all" (top 6) f2 fd2) (ma : mg "show_all" = some (.ref f2)) (F : Fun K "show_expression" "show_expression" (top 5) f fd) (m : mg "show_expression" = some (.ref f)) : ∀ n : Nat, FD P w K mg base (2 * n + 2) "show_expression" ["expression"] (tShowE n)
  | 0 => by
    have S : FnScope ["expression", "kind"] ["expression"] (defScope (top 5)) := ⟨rfl, rfl, rfl, by decide +kernel, rfl, by decide +kernel, by decide +kernel⟩
    refine fd_of F S (F.binds fun _ _ _ _ _ _ us hl => match us, hl with | [_], _ => rfl) m fun cdv A outer s H E ds φ hr hl hT => ?_
    obtain ⟨e, rfl, c, hn, he, h⟩ := f1_of hT
    exact he.elim
  | n + 1 => fd_show_expression T F_b (fd_show_all T (fd_showE T F_b Fa ma F m n) Fa ma) F m
end

set_option Elab.async false
set_option linter.all false
set_option maxRecDepth 100000
set_option maxHeartbeats 8000000
set_option exponentiation.threshold 5000
section
variable {P : Program} {w : World} {K : PySem.W.Frag} {mg : Str → Option Value} {base : Heap} {f : Addr} {fd : FuncData}

theorem ex_up : ∀ {n : Nat} {e : D} {c : List Str}, Ex n e c → Ex (n + 1) e c
  | 0, _, _, h => h.elim
  | n + 1, e, c, h => by
    rcases h with h | ⟨f, es, cs, hf, hp, hl, he, hc⟩ | ⟨o, es, cs, ho, hp, hl, he, hc⟩
    · exact .inl h
    · exact .inr (.inl ⟨f, es, cs, hf, ⟨hp.1, fun i e c a b => ex_up (hp.2 i e c a b)⟩, hl, he, hc⟩)
    · exact .inr (.inr ⟨o, es, cs, ho, ⟨hp.1, fun i e c a b => ex_up (hp.2 i e c a b)⟩, hl, he, hc⟩)
noncomputable def bk (ws : List Str) (cs : List (List Str)) : List Str := [lp] ++ ws ++ cs.flatten ++ [rp]
noncomputable def brW (zs : List Str) : List Str := [lp] ++ zs ++ [rp]
noncomputable def Bo : Nat → D → List Str → Prop
  | 0, _, _ => False
  | n + 1, b, c =>
    (∃ e k, Ex 4 e k ∧ b = .tup [.str "give", e] ∧ c = bk ["give"] [k]) ∨
    (∃ z e k b1 c1, GoodW z ∧ Ex 4 e k ∧ Bo n b1 c1 ∧ b = .tup [.str "let", .str z, e, b1] ∧ c = bk ["let", z] [k, c1]) ∨
    (∃ e1 k1 e2 k2 b1 c1 b2 c2, Ex 4 e1 k1 ∧ Ex 4 e2 k2 ∧ Bo n b1 c1 ∧ Bo n b2 c2 ∧ b = .tup [.str "less", e1, e2, b1, b2] ∧ c = bk ["less"] [k1, k2, c1, c2]) ∨
    (∃ (o z : Str) (b1 : D) (c1 zs : List Str) (b2 : D) (c2 : List Str), (o = "list" ∨ o = "tree") ∧ GoodW z ∧ Bo n b1 c1 ∧ (∀ w ∈ zs, GoodW w) ∧ zs ≠ [] ∧ zs.length ≤ 3 ∧ Bo n b2 c2 ∧ b = .tup ([.str o, .str z, b1] ++ zs.map D.str ++ [b2]) ∧ c = bk [o, z] [c1, brW zs, c2])
noncomputable def LB : Nat → Nat
  | 0 => 0
  | n + 1 => 18000 + 2 * LB n
theorem LE4 : LE 4 = 8500 := rfl
theorem wsum_bk (ws : List Str) (cs : List (List Str)) : wsum (bk ws cs) = 4 + wsum ws + (cs.map wsum).sum := by
  unfold bk
  rw [wsum_app, wsum_app, wsum_app, wsum_flat]
  have h3 : wsum [rp] = 2 := by rw [wsum_cons, rp_len]; rfl
  have h4 : wsum [lp] = 2 := by rw [wsum_cons, lp_len]; rfl
  omega
theorem gw_len {w : Str} (h : GoodW w) : wsum [w] ≤ 71 := by
  rw [wsum_cons]
  have := h.2.2
  show _ + 0 ≤ _
  omega
theorem wsum_two (w v : Str) : wsum [w, v] = wsum [w] + wsum [v] := wsum_app [w] [v]
theorem words_le {zs : List Str} (h : ∀ w ∈ zs, GoodW w) : wsum zs ≤ zs.length * 71 := by
  unfold wsum
  have := sum_le (l := zs.map fun w => w.length + 1) (b := 71) fun x hx => by
    obtain ⟨w, hw, rfl⟩ := List.mem_map.mp hx
    have := (h w hw).2.2
    omega
  rwa [List.length_map] at this
theorem wsum_brW (zs : List Str) : wsum (brW zs) = 4 + wsum zs := by
  unfold brW
  rw [wsum_app, wsum_app]
  have h3 : wsum [rp] = 2 := by rw [wsum_cons, rp_len]; rfl
  have h4 : wsum [lp] = 2 := by rw [wsum_cons, lp_len]; rfl
  omega
theorem good_bk (ws : List Str) (cs : List (List Str)) : Good (bk ws cs) := by
  have := good_br (ws ++ cs.flatten)
  unfold bk
  rwa [← List.append_assoc] at this
theorem kind_good {o : Str} (h : o = "list" ∨ o = "tree") : GoodW o := by
  rcases h with rfl | rfl
  · exact good_const (by simp)
  · exact good_const (by simp)
theorem str_pure (zs : List Str) : pureDs (zs.map D.str) := pureDs_iff.mpr fun d hd => by
  obtain ⟨t, _, rfl⟩ := List.mem_map.mp hd
  trivial
theorem bo_facts : ∀ (n : Nat) (b : D) (c : List Str), Bo n b c → Good c ∧ wsum c ≤ LB n ∧ pureD b
  | 0, _, _, h => h.elim
  | n + 1, b, c, h => by
    have k1 : wsum [("give" : Str)] ≤ 71 := gw_len (good_const (by simp))
    have k2 : wsum [("let" : Str)] ≤ 71 := gw_len (good_const (by simp))
    have k3 : wsum [("less" : Str)] ≤ 71 := gw_len (good_const (by simp))
    rcases h with ⟨e, k, he, rfl, rfl⟩ | ⟨z, e, k, b1, c1, hz, he, hb, rfl, rfl⟩ | ⟨e1, k1', e2, k2', b1, c1, b2, c2, he1, he2, hb1, hb2, rfl, rfl⟩ | ⟨o, z, b1, c1, zs, b2, c2, ho, hz, hb1, hzs, hn, hl, hb2, rfl, rfl⟩
    · obtain ⟨a, b, c⟩ := ex_facts 4 e k he
      refine ⟨good_bk _ _, ?_, trivial, c, trivial⟩
      rw [wsum_bk]
      show _ + (wsum k + 0) ≤ 18000 + 2 * LB n
      rw [LE4] at b
      omega
    · obtain ⟨a, b, c⟩ := ex_facts 4 e k he
      obtain ⟨a', b', c'⟩ := bo_facts n b1 c1 hb
      refine ⟨good_bk _ _, ?_, trivial, trivial, c, c', trivial⟩
      have := gw_len hz
      rw [wsum_bk, wsum_two]
      show _ + (wsum k + (wsum c1 + 0)) ≤ 18000 + 2 * LB n
      rw [LE4] at b
      omega
    · obtain ⟨a1, b1', c1'⟩ := ex_facts 4 e1 _ he1
      obtain ⟨a2, b2', c2'⟩ := ex_facts 4 e2 _ he2
      obtain ⟨a3, b3', c3'⟩ := bo_facts n b1 c1 hb1
      obtain ⟨a4, b4', c4'⟩ := bo_facts n b2 c2 hb2
      refine ⟨good_bk _ _, ?_, trivial, c1', c2', c3', c4', trivial⟩
      rw [wsum_bk]
      show _ + (wsum k1' + (wsum k2' + (wsum c1 + (wsum c2 + 0)))) ≤ 18000 + 2 * LB n
      rw [LE4] at b1' b2'
      omega
    · obtain ⟨a3, b3', c3'⟩ := bo_facts n b1 c1 hb1
      obtain ⟨a4, b4', c4'⟩ := bo_facts n b2 c2 hb2
      refine ⟨good_bk _ _, ?_, pureDs_iff.mpr ?_⟩
      · have h1 := gw_len hz
        have h2 := gw_len (kind_good ho)
        have h3 := words_le hzs
        rw [wsum_bk, wsum_two]
        show _ + (wsum c1 + (wsum (brW zs) + (wsum c2 + 0))) ≤ 18000 + 2 * LB n
        rw [wsum_brW]
        omega
      · intro d hd
        simp only [List.cons_append, List.nil_append, List.mem_cons, List.mem_append, List.not_mem_nil, or_false] at hd
        rcases hd with rfl | rfl | rfl | hd | rfl
        · trivial
        · trivial
        · exact c3'
        · obtain ⟨t, _, rfl⟩ := List.mem_map.mp hd
          trivial
        · exact c4'
theorem lb_mono : ∀ {n : Nat}, n ≤ 5 → LB n ≤ 600000
  | 0, _ => by decide
  | 1, _ => by decide
  | 2, _ => by decide
  | 3, _ => by decide
  | 4, _ => by decide
  | 5, _ => by decide
  | n + 6, h => by omega
theorem atI_last {α : Type} (l : List α) (d : α) : atI (l ++ [d]) (-1) = some d := by
  unfold atI ixN
  rw [List.length_append, List.length_singleton, if_neg (by decide), if_pos (by omega)]
  show (l ++ [d])[((-1 : Int) + ((l.length + 1 : Nat) : Int)).toNat]? = some d
  rw [show ((-1 : Int) + ((l.length + 1 : Nat) : Int)).toNat = l.length by omega]
  simp
theorem cut_in (a m : List D) (b : D) (k : Nat) (h : a.length = k) : cutD (a ++ m ++ [b]) (some (k : Int)) (some (-1)) = m := by
  unfold DL.cutD
  rw [HT.sIx_nat]
  have e : HT.sIx (a ++ m ++ [b]).length (a ++ m ++ [b]).length (some (-1)) = k + m.length := by
    unfold HT.sIx
    simp
    omega
  rw [e, Nat.min_eq_left (by simp; omega), List.append_assoc, List.drop_left' h, show k + m.length - k = m.length by omega, List.take_left]
noncomputable def tShowB (n : Nat) : FT := g1 fun b φ => ∃ c, n ≤ 5 ∧ Bo n b c ∧ φ (dv (.str (lineF c)))
theorem bk_text {ws : List Str} {cs : List (List Str)} (hw : ∀ w ∈ ws, GoodW w) (hc : ∀ c ∈ cs, Good c) (hn : ws ≠ []) : lineF (bk ws cs) = lp ++ Str.join sp (ws ++ cs.map lineF) ++ rp := br_text ws cs hw hc hn
theorem brW_text {zs : List Str} (h : ∀ w ∈ zs, GoodW w) (hn : zs ≠ []) : lineF (brW zs) = lp ++ Str.join sp zs ++ rp := by
  have := br_text zs [] h (by simp) hn
  simpa [brW] using this
theorem line_w (c : List Str) : wsum [lineF c] ≤ wsum c + 1 := by
  rw [wsum_cons]
  have := line_len c
  show _ + 0 ≤ _
  omega
theorem wsum_c2 (w : Str) (ws : List Str) : wsum (w :: ws) = wsum [w] + wsum ws := wsum_app [w] ws
theorem pair2 {R : D → List Str → Prop} {a b : D} {x y : List Str} (h1 : R a x) (h2 : R b y) : PairR R [a, b] [x, y] := ⟨rfl, fun i e c he hc => by
  match i, he, hc with
  | 0, he, hc =>
    simp at he hc
    subst he hc
    exact h1
  | 1, he, hc =>
    simp at he hc
    subst he hc
    exact h2
  | i + 2, he, _ => simp at he⟩
theorem fd_show_body {n : Nat} (T : Tops mg) (F_bracketed : FD P w K mg base 1 "bracketed" ["words"] tBr) (F_show_expression : FD P w K mg base 10 "show_expression" ["expression"] (tShowE 4)) (F_show_body : FD P w K mg base (n + 12) "show_body" ["body"] (tShowB n)) (F : Fun K "show_body" "show_body" (top 4) f fd) (m : mg "show_body" = some (.ref f)) : FD P w K mg base (n + 13) "show_body" ["body"] (tShowB (n + 1)) := by
  have S : FnScope ["body", "kind", "compared"] ["body"] (defScope (top 4)) := ⟨rfl, rfl, rfl, by decide +kernel, rfl, by decide +kernel, by decide +kernel⟩
  refine fd_of F S (F.binds fun _ _ _ _ _ _ us hl => match us, hl with | [_], _ => rfl) m fun cdv A outer s H E ds φ hr hl hT => ?_
  have hu := hr.units
  refine ⟨_, (ss_cons (sd_set 1 S.nd (ed_ixx hu (ed_name 0) ed_int))
      (ss_cons (sd_if (et_eq hu (ed_name 1) ed_str) (ss_one (sd_ret (ed_call F_bracketed (hr.mono (by omega)) (ea_cons (ed_lst (ea_cons (ed_name 1) (ea_cons (ed_call F_show_expression (hr.mono (by omega)) (ea_cons (ed_ixx hu (ed_name 0) ed_int) ea_nil)) ea_nil))) ea_nil)))) ss_nil)
      (ss_cons (sd_if (et_eq hu (ed_name 1) ed_str) (ss_one (sd_ret (ed_call F_bracketed (hr.mono (by omega)) (ea_cons (ed_lst (ea_cons (ed_name 1) (ea_cons (ed_ixx hu (ed_name 0) ed_int) (ea_cons (ed_call F_show_expression (hr.mono (by omega)) (ea_cons (ed_ixx hu (ed_name 0) ed_int) ea_nil)) (ea_cons (ed_call F_show_body (hr.mono (by omega)) (ea_cons (ed_ixx hu (ed_name 0) ed_int) ea_nil)) ea_nil))))) ea_nil)))) ss_nil)
      (ss_cons (sd_if (et_eq hu (ed_name 1) ed_str) (ss_cons (sd_setCompP (T := ["part"]) (F := []) (js := []) 2 S.nd (ei_seq (ed_slice (ed_name 0) (eo_some ed_int) (eo_some ed_int))) (show CompScope (defScope (top 4)) _ ["part"] [] from ⟨rfl, by decide +kernel, by decide +kernel, by decide +kernel, by decide +kernel, by decide +kernel⟩) .nil (by decide) (fun cl C fp s H => (pg_name (i := 0) (show ((["part"] : List Str) ++ ([] : List Str)).Nodup by decide +kernel) rfl (by first | exact Or.inl rfl | exact Or.inr rfl))) (gk_name (by decide)) (gl_name 0) (fun cl C fp s H => eif_nil) (fun cl C fp s H => (ed_call F_show_expression (hr.mono (by omega)) (ea_cons (ed_name 0) ea_nil))))
        (ss_one (sd_ret (ed_call F_bracketed (hr.mono (by omega)) (ea_cons (ed_add (ed_add (ed_lst (ea_cons (ed_name 1) ea_nil)) (ed_name 2)) (ed_compP (T := ["part"]) (F := []) (js := []) (ei_seq (ed_slice (ed_name 0) (eo_some ed_int) eo_none)) (show CompScope (defScope (top 4)) _ ["part"] [] from ⟨rfl, by decide +kernel, by decide +kernel, by decide +kernel, by decide +kernel, by decide +kernel⟩) .nil (by decide) (fun cl C fp s H => (pg_name (i := 0) (show ((["part"] : List Str) ++ ([] : List Str)).Nodup by decide +kernel) rfl (by first | exact Or.inl rfl | exact Or.inr rfl))) (gk_name (by decide)) (gl_name 0) (fun cl C fp s H => eif_nil) (fun cl C fp s H => (ed_call F_show_body (hr.mono (by omega)) (ea_cons (ed_name 0) ea_nil))))) ea_nil))))) ss_nil)
      (ss_one (sd_ret (ed_call F_bracketed (hr.mono (by omega)) (ea_cons (ed_lst (ea_cons (ed_name 1) (ea_cons (ed_ixx hu (ed_name 0) ed_int) (ea_cons (ed_call F_show_body (hr.mono (by omega)) (ea_cons (ed_ixx hu (ed_name 0) ed_int) ea_nil)) (ea_cons (ed_call F_bracketed (hr.mono (by omega)) (ea_cons (ed_slice (ed_name 0) (eo_some ed_int) (eo_some (ed_neg ed_int))) ea_nil)) (ea_cons (ed_call F_show_body (hr.mono (by omega)) (ea_cons (ed_ixx hu (ed_name 0) (ed_neg ed_int)) ea_nil)) ea_nil)))))) ea_nil)))))))), ?_⟩
  obtain ⟨b, rfl, c, hn, he, h⟩ := f1_of hT
  have k1 : wsum [("give" : Str)] ≤ 71 := gw_len (good_const (by simp))
  have k2 : wsum [("let" : Str)] ≤ 71 := gw_len (good_const (by simp))
  have k3 : wsum [("less" : Str)] ≤ 71 := gw_len (good_const (by simp))
  have kb := lb_mono (n := n) (by omega)
  have k4 := LE4
  rcases he with ⟨e, k, he, rfl, rfl⟩ | ⟨z, e, k, b1, c1, hz, he, hb, rfl, rfl⟩ | ⟨e1, w1, e2, w2, b1, c1, b2, c2, he1, he2, hb1, hb2, rfl, rfl⟩ | ⟨o, z, b1, c1, zs, b2, c2, ho, hz, hb1, hzs, hne, hl3, hb2, rfl, rfl⟩
  · have ef := ex_facts 4 e k he
    have lw := line_w k
    rw [bk_text (fun w hw => by
      simp only [List.mem_cons, List.not_mem_nil, or_false] at hw
      subst hw
      exact good_const (by simp)) (fun c hc => by
      simp only [List.mem_cons, List.not_mem_nil, or_false] at hc
      subst hc
      exact ef.1) (by simp)] at h
    walk_at "dl"
    simp only [tShowE, tBr, DL.g1]
    refine ⟨k, by omega, he, trivial, [("give" : Str), lineF k], .inl rfl, ?_, trivial, h⟩
    rw [wsum_two]
    omega
  · have ef := ex_facts 4 e k he
    have bf := bo_facts n b1 c1 hb
    have lw := line_w k
    have lw2 := line_w c1
    have zl := gw_len hz
    rw [bk_text (fun w hw => by
      simp only [List.mem_cons, List.not_mem_nil, or_false] at hw
      rcases hw with rfl | rfl
      · exact good_const (by simp)
      · exact hz) (fun c hc => by
      simp only [List.mem_cons, List.not_mem_nil, or_false] at hc
      rcases hc with rfl | rfl
      · exact ef.1
      · exact bf.1) (by simp)] at h
    walk_at "dl"
    simp only [tShowE, tShowB, tBr, DL.g1]
    refine ⟨fun z => absurd z (by decide), fun _ => ⟨k, by omega, he, c1, by omega, hb, rfl, [("let" : Str), z, lineF k, lineF c1], .inl rfl, ?_, trivial, h⟩⟩
    have e1 : wsum [("let" : Str), z, lineF k, lineF c1] = wsum [("let" : Str)] + (wsum [z] + (wsum [lineF k] + wsum [lineF c1])) := by rw [wsum_c2 "let", wsum_c2 z, wsum_c2 (lineF k)]
    omega
  · have ef1 := ex_facts 4 e1 _ he1
    have ef2 := ex_facts 4 e2 _ he2
    have bf1 := bo_facts n b1 _ hb1
    have bf2 := bo_facts n b2 _ hb2
    have lw1 := line_w w1
    have lw2 := line_w w2
    have lw3 := line_w c1
    have lw4 := line_w c2
    rw [bk_text (fun w hw => by
      simp only [List.mem_cons, List.not_mem_nil, or_false] at hw
      subst hw
      exact good_const (by simp)) (fun c hc => by
      simp only [List.mem_cons, List.not_mem_nil, or_false] at hc
      rcases hc with rfl | rfl | rfl | rfl
      · exact ef1.1
      · exact ef2.1
      · exact bf1.1
      · exact bf2.1) (by simp)] at h
    have c13 : cutD [D.str "less", e1, e2, b1, b2] (some 1) (some 3) = [e1, e2] := rfl
    have c3 : cutD [D.str "less", e1, e2, b1, b2] (some 3) none = [b1, b2] := cutD_drop [D.str "less", e1, e2, b1, b2] 3
    walk_at "dl"
    refine ⟨fun z => absurd z (by decide), fun _ => ⟨fun z => absurd z (by decide), fun _ => ?_⟩⟩
    refine dCompP_at [e1, e2] (fun ψ hψ => ?_) (fun i fs => fs = linesD ([w1, w2].take i)) (Nat.le_of_ble_eq_true rfl) rfl ?_ ?_
    · walk_at "dl"
      rw [c13]
      exact ⟨by decide, hψ⟩
    · rintro i e fs he hle rfl
      obtain ⟨c, hc, hr', eq⟩ := pair_step (pair2 he1 he2) he
      simp only [ρ0, List.map_cons, List.map_nil, List.replicate, List.cons_append, List.nil_append]
      walk_at "dl"
      simp only [tShowE, DL.g1]
      exact ⟨c, by omega, hr', trivial, eq.symm⟩
    rintro fs rfl
    rw [show [w1, w2].take [e1, e2].length = [w1, w2] from rfl]
    walk_at "dl"
    refine ⟨by rw [lines_len, sLine]; exact Nat.le_of_ble_eq_true rfl, ?_⟩
    refine dCompP_at [b1, b2] (fun ψ hψ => ?_) (fun i fs => fs = linesD ([c1, c2].take i)) (Nat.le_of_ble_eq_true rfl) rfl ?_ ?_
    · walk_at "dl"
      rw [c3]
      exact ⟨by decide, hψ⟩
    · rintro i e fs he hle rfl
      obtain ⟨c, hc, hr', eq⟩ := pair_step (pair2 hb1 hb2) he
      simp only [ρ0, List.map_cons, List.map_nil, List.replicate, List.cons_append, List.nil_append]
      walk_at "dl"
      simp only [tShowB, DL.g1]
      exact ⟨c, by omega, hr', trivial, eq.symm⟩
    rintro fs rfl
    rw [show [c1, c2].take [b1, b2].length = [c1, c2] from rfl]
    walk_at "dl"
    simp only [tBr, DL.g1]
    refine ⟨by rw [lines_len, lines_len, sLine]; exact Nat.le_of_ble_eq_true rfl, [("less" : Str), lineF w1, lineF w2, lineF c1, lineF c2], .inl rfl, ?_, trivial, h⟩
    have e1 : wsum [("less" : Str), lineF w1, lineF w2, lineF c1, lineF c2] = wsum [("less" : Str)] + (wsum [lineF w1] + (wsum [lineF w2] + (wsum [lineF c1] + wsum [lineF c2]))) := by rw [wsum_c2 "less", wsum_c2 (lineF w1), wsum_c2 (lineF w2), wsum_c2 (lineF c1)]
    omega
  · have hk : o ≠ "give" ∧ o ≠ "let" ∧ o ≠ "less" := by
      rcases ho with rfl | rfl <;> decide
    have bf1 := bo_facts n b1 _ hb1
    have bf2 := bo_facts n b2 _ hb2
    have zl := gw_len hz
    have ol := gw_len (kind_good ho)
    have lw3 := line_w c1
    have lw4 := line_w c2
    have lw5 := line_w (brW zs)
    have zl3 := words_le hzs
    have wb := wsum_brW zs
    rw [bk_text (fun w hw => by
      simp only [List.mem_cons, List.not_mem_nil, or_false] at hw
      rcases hw with rfl | rfl
      · exact kind_good ho
      · exact hz) (fun c hc => by
      simp only [List.mem_cons, List.not_mem_nil, or_false] at hc
      rcases hc with rfl | rfl | rfl
      · exact bf1.1
      · exact good_br zs
      · exact bf2.1) (by simp)] at h
    have ec : cutD ([D.str o, D.str z, b1] ++ zs.map D.str ++ [b2]) (some 3) (some (-1)) = zs.map D.str := cut_in _ _ _ _ rfl
    have el2 : atI ([D.str o, D.str z, b1] ++ zs.map D.str ++ [b2]) (-1) = some b2 := atI_last _ _
    simp only [List.cons_append, List.nil_append] at ec el2 ⊢
    walk_at "dl"
    simp only [tShowB, tBr, DL.g1, ec, el2]
    refine ⟨fun z => absurd z hk.1, fun _ => ⟨fun z => absurd z hk.2.1, fun _ => ⟨fun z => absurd z hk.2.2, fun _ => ?_⟩⟩⟩
    refine ⟨c1, by omega, hb1, ?_, zs, .inr rfl, by omega, c2, by omega, hb2, rfl, [o, z, lineF c1, lineF (brW zs), lineF c2], .inl ?_, ?_, trivial, h⟩
    · intro q
      have := q.1
      unfold HT.sIx at this
      simp at this
    · rw [brW_text hzs hne]
      rfl
    · have e1 : wsum [o, z, lineF c1, lineF (brW zs), lineF c2] = wsum [o] + (wsum [z] + (wsum [lineF c1] + (wsum [lineF (brW zs)] + wsum [lineF c2]))) := by rw [wsum_c2 o, wsum_c2 z, wsum_c2 (lineF c1), wsum_c2 (lineF (brW zs))]
      omega

theorem fd_showB (T : Tops mg) (F_b : FD P w K mg base 1 "bracketed" ["words"] tBr) (F_e : FD P w K mg base 10 "show_expression" ["expression"] (tShowE 4)) (F : Fun K "show_body" "show_body" (top 4) f fd) (m : mg "show_body" = some (.ref f)) : ∀ n : Nat, FD P w K mg base (n + 12) "show_body" ["body"] (tShowB n)
  | 0 => by
    have S : FnScope ["body", "kind", "compared"] ["body"] (defScope (top 4)) := ⟨rfl, rfl, rfl, by decide +kernel, rfl, by decide +kernel, by decide +kernel⟩
    refine fd_of F S (F.binds fun _ _ _ _ _ _ us hl => match us, hl with | [_], _ => rfl) m fun cdv A outer s H E ds φ hr hl hT => ?_
    obtain ⟨e, rfl, c, hn, he, h⟩ := f1_of hT
    exact he.elim
  | n + 1 => fd_show_body T F_b F_e (fd_showB T F_b F_e F m n) F m
end

set_option Elab.async false
set_option linter.all false
set_option maxRecDepth 100000
set_option maxHeartbeats 8000000
set_option exponentiation.threshold 5000
section
variable {P : Program} {w : World} {K : PySem.W.Frag} {mg : Str → Option Value} {base : Heap} {f : Addr} {fd : FuncData}

noncomputable def prD (p : Str × Str) : D := .tup [.str p.1, .str p.2]
noncomputable def prW (p : Str × Str) : List Str := brW [p.1, p.2]
noncomputable def Fu (e : D) (c : List Str) : Prop := ∃ (name : Str) (ps : List (Str × Str)) (shape : Str) (ns : List Int) (b : D) (k : List Str), GoodW name ∧ ps ≠ [] ∧ ps.length ≤ 4 ∧ (∀ p ∈ ps, GoodW p.1 ∧ GoodW p.2) ∧ GoodW shape ∧ ns.length ≤ 5 ∧ (∀ i ∈ ns, i.natAbs < 10 ^ 60) ∧ Bo 5 b k ∧
  e = .tup [.str name, .tup (ps.map prD), .tup [.str shape, .tup (ns.map D.int)], b] ∧ c = bk ["fn", name] [bk [] (ps.map prW), brW (shape :: ns.map numS), k]
theorem good_brW (zs : List Str) : Good (brW zs) := good_br zs
theorem pr_wsum {p : Str × Str} (h : GoodW p.1 ∧ GoodW p.2) : wsum (prW p) ≤ 146 := by
  unfold prW
  rw [wsum_brW, wsum_two]
  have := gw_len h.1
  have := gw_len h.2
  omega
theorem ps_wsum {ps : List (Str × Str)} (h : ∀ p ∈ ps, GoodW p.1 ∧ GoodW p.2) (hl : ps.length ≤ 4) : wsum (bk [] (ps.map prW)) ≤ 588 := by
  rw [wsum_bk]
  have := sum_le (l := (ps.map prW).map wsum) (b := 146) fun x hx => by
    obtain ⟨c, hc, rfl⟩ := List.mem_map.mp hx
    obtain ⟨p, hp, rfl⟩ := List.mem_map.mp hc
    exact pr_wsum (h p hp)
  rw [List.length_map, List.length_map] at this
  have e : wsum [] = 0 := rfl
  have := Nat.mul_le_mul_right 146 hl
  omega
theorem ns_good {ns : List Int} {shape : Str} (hs : GoodW shape) (h : ∀ i ∈ ns, i.natAbs < 10 ^ 60) : ∀ w ∈ shape :: ns.map numS, GoodW w := fun w hw => by
  rcases List.mem_cons.mp hw with rfl | hw
  · exact hs
  · obtain ⟨i, hi, rfl⟩ := List.mem_map.mp hw
    exact num_good (h i hi)
theorem ns_wsum {ns : List Int} {shape : Str} (hs : GoodW shape) (h : ∀ i ∈ ns, i.natAbs < 10 ^ 60) (hl : ns.length ≤ 5) : wsum (brW (shape :: ns.map numS)) ≤ 430 := by
  rw [wsum_brW]
  have := words_le (ns_good hs h)
  rw [List.length_cons, List.length_map] at this
  omega
theorem fu_facts {e : D} {c : List Str} (h : Fu e c) : Good c ∧ wsum c ≤ 602000 ∧ pureD e := by
  obtain ⟨name, ps, shape, ns, b, k, g1, g2, g3, g4, g5, g6, g7, g8, rfl, rfl⟩ := h
  obtain ⟨b1, b2, b3⟩ := bo_facts 5 b k g8
  refine ⟨good_bk _ _, ?_, trivial, pureDs_iff.mpr ?_, ⟨trivial, pureDs_iff.mpr ?_, trivial⟩, b3, trivial⟩
  · rw [wsum_bk, wsum_two]
    have h1 := gw_len g1
    have h2 : wsum [("fn" : Str)] ≤ 71 := gw_len (good_const (by simp))
    have h3 := ps_wsum g4 g3
    have h4 := ns_wsum g5 g7 g6
    have h5 := lb_mono (n := 5) (by omega)
    show _ + (wsum (bk [] (ps.map prW)) + (wsum (brW (shape :: ns.map numS)) + (wsum k + 0))) ≤ _
    omega
  · intro d hd
    obtain ⟨p, _, rfl⟩ := List.mem_map.mp hd
    exact ⟨trivial, trivial, trivial⟩
  · intro d hd
    obtain ⟨p, _, rfl⟩ := List.mem_map.mp hd
    trivial
noncomputable def tShowF : FT := g1 fun e φ => ∃ c, Fu e c ∧ φ (dv (.str (lineF c)))
noncomputable def tShow : FT := g1 fun d φ => ∃ fs cs, d = .tup fs ∧ PairR Fu fs cs ∧ fs.length ≤ 8 ∧ φ (dv (.str (lineF cs.flatten)))
theorem map_step {α β : Type} {l : List α} {i : Nat} {d : α} (f : α → β) (h : l[i]? = some d) : (l.take (i + 1)).map f = (l.take i).map f ++ [f d] := by
  rw [List.take_succ, h]
  simp
theorem pr_line {p : Str × Str} (h : GoodW p.1 ∧ GoodW p.2) : lineF (prW p) = lp ++ Str.join sp [p.1, p.2] ++ rp := brW_text (fun w hw => by
  simp only [List.mem_cons, List.not_mem_nil, or_false] at hw
  rcases hw with rfl | rfl
  · exact h.1
  · exact h.2) (by simp)
theorem ps_line {ps : List (Str × Str)} (hn : ps ≠ []) : lineF (bk [] (ps.map prW)) = lp ++ Str.join sp ((ps.map prW).map lineF) ++ rp := by
  have := line_br (cs := ps.map prW) (fun c hc => by
    obtain ⟨p, _, rfl⟩ := List.mem_map.mp hc
    exact good_brW _) (by simpa using hn)
  unfold bk
  simpa using this
theorem ps_sum {ps : List (Str × Str)} (h : ∀ p ∈ ps, GoodW p.1 ∧ GoodW p.2) (hl : ps.length ≤ 4) : wsum ((ps.map prW).map lineF) ≤ 588 := by
  unfold wsum
  have := sum_le (l := ((ps.map prW).map lineF).map fun w => w.length + 1) (b := 147) fun x hx => by
    obtain ⟨c, hc, rfl⟩ := List.mem_map.mp hx
    obtain ⟨p, hp, rfl⟩ := List.mem_map.mp hc
    obtain ⟨q, hq, rfl⟩ := List.mem_map.mp hp
    have := pr_wsum (h q hq)
    have := line_len (prW q)
    omega
  simp only [List.length_map] at this
  have := Nat.mul_le_mul_right 147 hl
  omega
theorem fu_sum {fs : List D} {cs : List (List Str)} (h : PairR Fu fs cs) (hl : fs.length ≤ 8) : wsum (cs.map lineF) ≤ 8 * 602001 := by
  unfold wsum
  have := sum_le (l := (cs.map lineF).map fun w => w.length + 1) (b := 602001) fun x hx => by
    rw [List.map_map] at hx
    obtain ⟨c, hc, rfl⟩ := List.mem_map.mp hx
    obtain ⟨e, _, he⟩ := h.mem hc
    have := (fu_facts he).2.1
    have := line_len c
    show (lineF c).length + 1 ≤ _
    omega
  rw [List.length_map, List.length_map, ← h.1] at this
  exact Nat.le_trans this (Nat.mul_le_mul_right _ hl)
theorem fd_show_function (T : Tops mg) (F_bracketed : FD P w K mg base 1 "bracketed" ["words"] tBr) (F_show_body : FD P w K mg base 17 "show_body" ["body"] (tShowB 5)) (F : Fun K "show_function" "show_function" (top 3) f fd) (m : mg "show_function" = some (.ref f)) : FD P w K mg base 18 "show_function" ["function"] tShowF := by
  have S : FnScope ["function", "gives", "params", "size"] ["function"] (defScope (top 3)) := ⟨rfl, rfl, rfl, by decide +kernel, rfl, by decide +kernel, by decide +kernel⟩
  refine fd_of F S (F.binds fun _ _ _ _ _ _ us hl => match us, hl with | [_], _ => rfl) m fun cdv A outer s H E ds φ hr hl hT => ?_
  have hu := hr.units
  refine ⟨_, (ss_cons (sd_cut (sd_set 1 S.nd (ed_ixx hu (ed_name 0) ed_int)))
      (ss_cons (sd_cut (sd_set 2 S.nd (ed_call F_bracketed (hr.mono (by decide)) (ea_cons (ed_compP (T := ["param"]) (F := []) (js := []) (ei_seq (ed_ixx hu (ed_name 0) ed_int)) (show CompScope (defScope (top 3)) _ ["param"] [] from ⟨rfl, by decide +kernel, by decide +kernel, by decide +kernel, by decide +kernel, by decide +kernel⟩) .nil (by decide) (fun cl C fp s H => (pg_name (i := 0) (show ((["param"] : List Str) ++ ([] : List Str)).Nodup by decide +kernel) rfl (by first | exact Or.inl rfl | exact Or.inr rfl))) (gk_name (by decide)) (gl_name 0) (fun cl C fp s H => eif_nil) (fun cl C fp s H => (ed_call F_bracketed (hr.mono (by decide)) (ea_cons (ed_name 0) ea_nil)))) ea_nil))))
      (ss_cons (sd_cut (sd_setCompP (T := ["number"]) (F := []) (js := []) 3 S.nd (ei_seq (ed_ixx hu (ed_name 1) ed_int)) (show CompScope (defScope (top 3)) _ ["number"] [] from ⟨rfl, by decide +kernel, by decide +kernel, by decide +kernel, by decide +kernel, by decide +kernel⟩) .nil (by decide) (fun cl C fp s H => (pg_name (i := 0) (show ((["number"] : List Str) ++ ([] : List Str)).Nodup by decide +kernel) rfl (by first | exact Or.inl rfl | exact Or.inr rfl))) (gk_name (by decide)) (gl_name 0) (fun cl C fp s H => eif_nil) (fun cl C fp s H => (ed_strI T.str (ea_cons (ed_name 0) ea_nil)))))
      (ss_one (sd_ret (ed_call F_bracketed (hr.mono (by decide)) (ea_cons (ed_lst (ea_cons ed_str (ea_cons (ed_ixx hu (ed_name 0) ed_int) (ea_cons (ed_name 2) (ea_cons (ed_call F_bracketed (hr.mono (by decide)) (ea_cons (ed_add (ed_lst (ea_cons (ed_ixx hu (ed_name 1) ed_int) ea_nil)) (ed_name 3)) ea_nil)) (ea_cons (ed_call F_show_body (hr.mono (by decide)) (ea_cons (ed_ixx hu (ed_name 0) ed_int) ea_nil)) ea_nil)))))) ea_nil))))))), ?_⟩
  obtain ⟨e, rfl, c, ⟨name, ps, shape, ns, b, k, q1, q2, q3, q4, q5, q6, q7, q8, rfl, rfl⟩, h⟩ := f1_of hT
  refine cut_seq (fun ρ => ρ = [some (dv (.tup [.str name, .tup (ps.map prD), .tup [.str shape, .tup (ns.map D.int)], b])), some (dv (.tup [.str shape, .tup (ns.map D.int)])), none, none]) ?_ ?_
  · walk_at "dl"
  rintro _ rfl
  refine cut_seq (fun ρ => ρ = [some (dv (.tup [.str name, .tup (ps.map prD), .tup [.str shape, .tup (ns.map D.int)], b])), some (dv (.tup [.str shape, .tup (ns.map D.int)])), some (dv (.str (lineF (bk [] (ps.map prW))))), none]) ?_ ?_
  · walk_at "dl"
    refine dCompP_at (ps.map prD) (fun ψ hψ => ?_) (fun i fs => fs = ((ps.take i).map fun p => D.str (lineF (prW p)))) (by rw [List.length_map]; omega) rfl ?_ ?_
    · walk_at "dl"
      exact hψ
    · rintro i e fs he hle rfl
      rw [List.getElem?_map] at he
      obtain ⟨p, hp, rfl⟩ := Option.map_eq_some_iff.mp he
      have gp := q4 p (List.mem_of_getElem? hp)
      simp only [ρ0, List.map_cons, List.map_nil, List.replicate, List.cons_append, List.nil_append, prD]
      walk_at "dl"
      simp only [tBr, DL.g1]
      refine ⟨[p.1, p.2], .inr rfl, ?_, trivial, ?_⟩
      · rw [wsum_two]
        have := gw_len gp.1
        have := gw_len gp.2
        omega
      · rw [map_step _ hp, pr_line gp]
    rintro fs rfl
    rw [List.length_map, List.take_length]
    walk_at "dl"
    simp only [tBr, DL.g1]
    refine ⟨(ps.map prW).map lineF, .inl ?_, ?_, ?_⟩
    · rw [List.map_map, List.map_map]
      rfl
    · have := ps_sum q4 q3
      omega
    · rw [ps_line q2]
      exact ⟨trivial, rfl⟩
  rintro _ rfl
  refine cut_seq (fun ρ => ρ = [some (dv (.tup [.str name, .tup (ps.map prD), .tup [.str shape, .tup (ns.map D.int)], b])), some (dv (.tup [.str shape, .tup (ns.map D.int)])), some (dv (.str (lineF (bk [] (ps.map prW))))), some (dO (.lst ((ns.map numS).map D.str)))]) ?_ ?_
  · walk_at "dl"
    refine dCompP_at (ns.map D.int) (fun ψ hψ => ?_) (fun i fs => fs = ((ns.take i).map fun p => D.str (numS p))) (by rw [List.length_map]; omega) rfl ?_ ?_
    · walk_at "dl"
      exact hψ
    · rintro i e fs he hle rfl
      rw [List.getElem?_map] at he
      obtain ⟨p, hp, rfl⟩ := Option.map_eq_some_iff.mp he
      have gp := q7 p (List.mem_of_getElem? hp)
      simp only [ρ0, List.map_cons, List.map_nil, List.replicate, List.cons_append, List.nil_append]
      walk_at "dl"
      exact ⟨log_ok gp, by rw [map_step _ hp]; rfl⟩
    rintro fs rfl
    rw [List.length_map, List.take_length]
    walk_at "dl"
    rw [List.map_map]
    rfl
  rintro _ rfl
  walk_at "dl"
  simp only [tBr, DL.g1, tShowB]
  have bf := bo_facts 5 b k q8
  have kb := lb_mono (n := 5) (by omega)
  have ng := ns_good q5 q7
  have w1 := gw_len q1
  have w2 : wsum [("fn" : Str)] ≤ 71 := gw_len (good_const (by simp))
  have w3 := line_w (bk [] (ps.map prW))
  have w4 := line_w (brW (shape :: ns.map numS))
  have w5 := line_w k
  have w6 := ps_wsum q4 q3
  have w7 := ns_wsum q5 q7 q6
  rw [bk_text (fun w hw => by
      simp only [List.mem_cons, List.not_mem_nil, or_false] at hw
      rcases hw with rfl | rfl
      · exact good_const (by simp)
      · exact q1) (fun c hc => by
      simp only [List.mem_cons, List.not_mem_nil, or_false] at hc
      rcases hc with rfl | rfl | rfl
      · exact good_bk _ _
      · exact good_brW _
      · exact bf.1) (by simp)] at h
  refine ⟨by rw [sLine]; omega, shape :: ns.map numS, .inl rfl, ?_, k, by omega, q8, rfl, [("fn" : Str), name, lineF (bk [] (ps.map prW)), lineF (brW (shape :: ns.map numS)), lineF k], .inl ?_, ?_, trivial, h⟩
  · rw [wsum_brW] at w7
    omega
  · rw [brW_text ng (by simp)]
    rfl
  · have e1 : wsum [("fn" : Str), name, lineF (bk [] (ps.map prW)), lineF (brW (shape :: ns.map numS)), lineF k] = wsum [("fn" : Str)] + (wsum [name] + (wsum [lineF (bk [] (ps.map prW))] + (wsum [lineF (brW (shape :: ns.map numS))] + wsum [lineF k]))) := by rw [wsum_c2 "fn", wsum_c2 name, wsum_c2 (lineF (bk [] (ps.map prW))), wsum_c2 (lineF (brW (shape :: ns.map numS)))]
    omega
theorem fd_show (T : Tops mg) (F_show_function : FD P w K mg base 18 "show_function" ["function"] tShowF) (F : Fun K "show" "show" (top 1) f fd) (m : mg "show" = some (.ref f)) : FD P w K mg base 19 "show" ["program"] tShow := by
  have S : FnScope ["program"] ["program"] (defScope (top 1)) := ⟨rfl, rfl, rfl, by decide +kernel, rfl, by decide +kernel, by decide +kernel⟩
  refine fd_of F S (F.binds fun _ _ _ _ _ _ us hl => match us, hl with | [_], _ => rfl) m fun cdv A outer s H E ds φ hr hl hT => ?_
  have hu := hr.units
  refine ⟨_, (ss_one (sd_ret (ed_join1 ed_str (ed_compP (T := ["function"]) (F := []) (js := []) (ei_seq (ed_name 0)) (show CompScope (defScope (top 1)) _ ["function"] [] from ⟨rfl, by decide +kernel, by decide +kernel, by decide +kernel, by decide +kernel, by decide +kernel⟩) .nil (by decide) (fun cl C fp s H => (pg_name (i := 0) (show ((["function"] : List Str) ++ ([] : List Str)).Nodup by decide +kernel) rfl (by first | exact Or.inl rfl | exact Or.inr rfl))) (gk_name (by decide)) (gl_name 0) (fun cl C fp s H => eif_nil) (fun cl C fp s H => (ed_call F_show_function (hr.mono (by decide)) (ea_cons (ed_name 0) ea_nil))))))), ?_⟩
  obtain ⟨d, rfl, es, cs, rfl, hp, hl8, h⟩ := f1_of hT
  walk_at "dl"
  refine dCompP_at es (fun ψ hψ => ?_) (fun i fs => fs = linesD (cs.take i)) (by omega) rfl ?_ ?_
  · walk_at "dl"
    exact hψ
  · rintro i e fs he hle rfl
    obtain ⟨c, hc, hr', eq⟩ := pair_step hp he
    simp only [ρ0, List.map_cons, List.map_nil, List.replicate, List.cons_append, List.nil_append]
    walk_at "dl"
    simp only [tShowF, DL.g1]
    exact ⟨c, hr', trivial, eq.symm⟩
  rintro fs rfl
  rw [hp.1, List.take_length]
  walk_at "dl"
  refine ⟨cs.map lineF, rfl, ?_, ?_⟩
  · have := fu_sum hp hl8
    rw [join_sum, sLine]
    omega
  · rw [line_join (fun c hc => by
      obtain ⟨e, _, he⟩ := hp.mem hc
      exact (fu_facts he).1)] at h
    exact h
end

set_option Elab.async false
set_option linter.all false
set_option maxRecDepth 100000
set_option maxHeartbeats 8000000
set_option exponentiation.threshold 5000
section
variable {P : Program} {w : World} {K : PySem.W.Frag} {mg : Str → Option Value} {base : Heap} {f : Addr} {fd : FuncData}

noncomputable def tCellS : FT := fun ds φ => match ds with
  | [.scr _, .int k] => 0 ≤ k ∧ ∀ c : Int, φ (dv (.int c))
  | _ => False
theorem cellS_of {ds : List D} {φ : EV → Prop} (h : tCellS ds φ) : ∃ ns k, ds = [.scr ns, .int k] ∧ 0 ≤ k ∧ ∀ c : Int, φ (dv (.int c)) := by
  unfold tCellS at h
  split at h
  · exact ⟨_, _, rfl, h⟩
  · exact h.elim
theorem atI_nat {α : Type} {l : List α} {i : Nat} (h : i < l.length) : atI l (i : Int) = l[i]? := by
  unfold atI ixN
  rw [if_pos (by omega), if_pos (by omega)]
  simp
noncomputable def tNext1 : FT := g1 fun d φ => d = .fd 0 ∧ ∀ c : Int, φ (dv (.int c))
noncomputable def abc : Str := "abcdefghijklmnopqrstuvwxyz"
theorem abc_len : abc.cps.toList.length = 26 := by decide +kernel
theorem abc_big : ∀ c ∈ abc.cps.toList, 97 ≤ c := by decide +kernel
theorem abc_at (i : Int) : ∃ c, 97 ≤ c ∧ atI abc.cps.toList (i.fmod 26) = some c := by
  have m := mod_bd i 26 (by decide)
  have h : (i.fmod 26).toNat < abc.cps.toList.length := by rw [abc_len]; omega
  exact ⟨_, abc_big _ (List.getElem_mem h), atI_of m.1 (List.getElem?_eq_getElem h)⟩
theorem leaf_at {Q : Nat → Prop} (x : Int) (h : ∀ c, 97 ≤ c → Q c) : match atI ("abcdefghijklmnopqrstuvwxyz" : Str).cps.toList (x.fmod 26) with
    | some c => Q c
    | none => False := by
  obtain ⟨c, hc, e⟩ := abc_at x
  unfold abc at e
  rw [e]
  exact h c hc
noncomputable def Lets (w : Str) : Prop := ∀ c ∈ w.cps.toList, 97 ≤ c
theorem lets_good {w : Str} (h : Lets w) (hl : w.length ≤ 70) : GoodW w := by
  refine ⟨fun e => ?_, fun e => ?_, hl⟩
  · subst e
    exact absurd (h 40 (by decide +kernel)) (by decide)
  · subst e
    exact absurd (h 41 (by decide +kernel)) (by decide)
theorem lets_add {w : Str} {c : Nat} (h : Lets w) (hc : 97 ≤ c) : Lets (w ++ (⟨#[c]⟩ : Str)) := fun x hx => by
  rw [sC] at hx
  rcases List.mem_append.mp hx with hx | hx
  · exact h x hx
  · have : x = c := by simpa using hx
    omega
theorem one_len (c : Nat) : (⟨#[c]⟩ : Str).length = 1 := rfl
theorem lets_nil : Lets "" := fun c hc => by
  rw [s0] at hc
  cases hc
noncomputable def tName : FT := g2 fun c k φ => ∃ i j : Int, c = .int i ∧ k = .int j ∧ 0 ≤ j ∧ j ≤ 100 ∧ ∀ w, GoodW w → φ (dv (.str w))
noncomputable def six : List Int := [1, 3, 5, 7, 9, 11]
theorem pick_six (x : Int) : ∃ r : Int, 0 ≤ r ∧ r ≤ 11 ∧ atI [D.int 1, D.int 3, D.int 5, D.int 7, D.int 9, D.int 11] (x.fmod 6) = some (.int r) := by
  obtain ⟨d, hd, e⟩ := atI_mod (l := six.map D.int) (by decide) x
  obtain ⟨r, hr, rfl⟩ := List.mem_map.mp hd
  have : ∀ r ∈ six, 0 ≤ r ∧ r ≤ 11 := by decide
  exact ⟨r, (this r hr).1, (this r hr).2, e⟩
noncomputable def ws26 : List Str := ["num", "list", "tree", "give", "let", "less", "call", "cons", "node", "add", "sub", "fn", "var", "make", "sum", "open", "hold", "leafs", "nila", "price", "room", "run", "ways", "find", "ahead", "cut"]
noncomputable def ws13 : List Str := ["num", "list", "tree", "give", "let", "less", "call", "cons", "node", "add", "sub", "fn", "var"]
noncomputable def ws11 : List Str := ["make", "sum", "open", "hold", "leafs", "nila", "price", "room", "run", "ways", "find"]
noncomputable def ws2 : List Str := ["ahead", "cut"]
theorem sIf_b {tc : TDb} {t1 t2 : TDS} {ρ : DE} {Z : DZ} (b : Bool) (h : ∀ ψ : Bool → Prop, ψ b → tc ρ ψ) (h1 : b = true → t1 ρ Z) (h2 : b = false → t2 ρ Z) : sIf tc t1 t2 ρ Z := h _ ⟨h1, h2⟩
theorem ws_good : ∀ w ∈ ws26, GoodW w := by
  have : ∀ w ∈ ws26, w ≠ lp ∧ w ≠ rp ∧ w.length ≤ 70 := by decide +kernel
  exact this
theorem pick_ws (x : Int) : ∃ w, GoodW w ∧ atI (ws26.map D.str) (x.fmod 26) = some (.str w) := by
  obtain ⟨d, hd, e⟩ := atI_mod (l := ws26.map D.str) (by decide) x
  obtain ⟨r, hr, rfl⟩ := List.mem_map.mp hd
  exact ⟨r, ws_good r hr, e⟩
theorem fd_law_cell_at (T : Tops mg) (F : Fun K "_law_cell_at" "_law_cell_at" (top 8) f fd) (m : mg "_law_cell_at" = some (.ref f)) : FD P w K mg base 1 "_law_cell_at" ["_law_script", "_law_k"] tCellS := by
  have S : FnScope ["_law_script", "_law_k"] ["_law_script", "_law_k"] (defScope (top 8)) := ⟨rfl, rfl, rfl, by decide +kernel, rfl, by decide +kernel, by decide +kernel⟩
  refine fd_of F S (F.binds fun _ _ _ _ _ _ us hl => match us, hl with | [_, _], _ => rfl) m fun cdv A outer s H E ds φ hr hl hT => ?_
  have hu := hr.units
  refine ⟨_, (ss_cons (sd_if (et_lt (ed_name 1) (ed_len T.len (ea_cons (ed_name 0) ea_nil))) (ss_one (sd_ret (ed_mod (ed_ixx hu (ed_name 0) (ed_name 1)) (ed_pow ed_int ed_int)))) ss_nil)
      (ss_one (sd_ret ed_int))), ?_⟩
  obtain ⟨ns, k, rfl, hk, h⟩ := cellS_of hT
  walk_at "dl"
  refine ⟨fun z => ?_, fun _ => h 0⟩
  obtain ⟨j, rfl⟩ : ∃ j : Nat, k = j := ⟨k.toNat, by omega⟩
  rw [atI_nat (by omega), List.getElem?_eq_getElem (by omega)]
  exact h _
theorem fd_law_next (T : Tops mg) (F : Fun K "_law_next" "_law_next" (top 10) f fd) (m : mg "_law_next" = some (.ref f)) : FD P w K mg base 1 "_law_next" ["_law_feed"] tNext1 := by
  have S : FnScope ["_law_feed"] ["_law_feed"] (defScope (top 10)) := ⟨rfl, rfl, rfl, by decide +kernel, rfl, by decide +kernel, by decide +kernel⟩
  refine fd_of F S (F.binds fun _ _ _ _ _ _ us hl => match us, hl with | [_], _ => rfl) m fun cdv A outer s H E ds φ hr hl hT => ?_
  have hu := hr.units
  refine ⟨_, (ss_next1 0 T.len), ?_⟩
  obtain ⟨d, rfl, rfl, h⟩ := f1_of hT
  walk_at "dl"
  exact h
theorem fd_law_name (T : Tops mg) (F : Fun K "_law_name" "_law_name" (top 9) f fd) (m : mg "_law_name" = some (.ref f)) : FD P w K mg base 1 "_law_name" ["_law_cell", "_law_k"] tName := by
  have S : FnScope ["_law_cell", "_law_k", "_law_some", "_law_many", "_law_at", "_law_word", "_law_j", "_law_letter"] ["_law_cell", "_law_k"] (defScope (top 9)) := ⟨rfl, rfl, rfl, by decide +kernel, rfl, by decide +kernel, by decide +kernel⟩
  refine fd_of F S (F.binds fun _ _ _ _ _ _ us hl => match us, hl with | [_, _], _ => rfl) m fun cdv A outer s H E ds φ hr hl hT => ?_
  have hu := hr.units
  refine ⟨_, (ss_cons (sd_cut (sd_if (et_eq hu (ed_mod (ed_fd (ed_name 0) ed_int) ed_int) ed_int) (ss_cons (sd_cut (sd_set 2 S.nd (ed_lst (ea_cons ed_str (ea_cons ed_str (ea_cons ed_str (ea_cons ed_str (ea_cons ed_str (ea_cons ed_str (ea_cons ed_str (ea_cons ed_str (ea_cons ed_str (ea_cons ed_str (ea_cons ed_str (ea_cons ed_str (ea_cons ed_str ea_nil))))))))))))))))
        (ss_cons (sd_cut (sd_set 2 S.nd (ed_add (ed_name 2) (ed_lst (ea_cons ed_str (ea_cons ed_str (ea_cons ed_str (ea_cons ed_str (ea_cons ed_str (ea_cons ed_str (ea_cons ed_str (ea_cons ed_str (ea_cons ed_str (ea_cons ed_str (ea_cons ed_str ea_nil)))))))))))))))
        (ss_cons (sd_cut (sd_set 2 S.nd (ed_add (ed_name 2) (ed_lst (ea_cons ed_str (ea_cons ed_str ea_nil))))))
        (ss_one (sd_ret (ed_ixx hu (ed_name 2) (ed_mod (ed_add (ed_mul (ed_name 1) (ed_ixx hu (ed_lst (ea_cons ed_int (ea_cons ed_int (ea_cons ed_int (ea_cons ed_int (ea_cons ed_int (ea_cons ed_int ea_nil))))))) (ed_mod (ed_fd (ed_name 0) ed_int) ed_int))) (ed_fd (ed_name 0) ed_int)) ed_int))))))) ss_nil))
      (ss_cons (sd_cut (sd_set 3 S.nd (ed_add ed_int (ed_mod (ed_name 0) ed_int))))
      (ss_cons (sd_cut (sd_set 4 S.nd (ed_mod (ed_fd (ed_name 0) ed_int) (ed_name 3))))
      (ss_cons (sd_cut (sd_set 5 S.nd ed_str))
      (ss_cons (sd_cut (sd_for (ei_range1 T.range (ea_cons (ed_name 3) ea_nil)) (pg_name (i := 6) S.nd rfl (by first | exact Or.inl rfl | exact Or.inr rfl)) (gl_name 6) (ss_cons (sd_set 7 S.nd (ed_mod (ed_fd (ed_name 0) ed_int) ed_int))
        (ss_cons (sd_if (et_eq hu (ed_mod (ed_fd (ed_name 0) ed_int) ed_int) ed_int) (ss_one (sd_set 7 S.nd (ed_mod (ed_add (ed_fd (ed_fd (ed_name 0) ed_int) (ed_add (ed_name 6) ed_int)) (ed_mul (ed_name 6) (ed_name 6))) ed_int))) ss_nil)
        (ss_cons (sd_if (et_eq hu (ed_name 6) (ed_name 4)) (ss_one (sd_set 7 S.nd (ed_mod (ed_add (ed_name 7) (ed_mul (ed_name 1) (ed_ixx hu (ed_lst (ea_cons ed_int (ea_cons ed_int (ea_cons ed_int (ea_cons ed_int (ea_cons ed_int (ea_cons ed_int ea_nil))))))) (ed_mod (ed_fd (ed_name 0) ed_int) ed_int)))) ed_int))) ss_nil)
        (ss_one (sd_set 5 S.nd (ed_add (ed_name 5) (ed_ixx hu ed_str (ed_name 7))))))))))
      (ss_cons (sd_if (EW.et (ew_or (et_eq hu (ed_name 5) ed_str) (ew_or1 (et_eq hu (ed_name 5) ed_str)))) (ss_one (sd_set 5 S.nd (ed_add (ed_name 5) ed_str))) ss_nil)
      (ss_one (sd_ret (ed_name 5))))))))), ?_⟩
  obtain ⟨c0, k0, rfl, i, j, rfl, rfl, j0, j1, h⟩ := f2_of hT
  obtain ⟨r, r0, r1, er⟩ := pick_six (i.fdiv 40)
  obtain ⟨w, gw, ew⟩ := pick_ws (j * r + i.fdiv 240)
  refine cut_seq (fun ρ => ρ = [some (dv (.int i)), some (dv (.int j)), none, none, none, none, none, none]) ?_ ?_
  · refine sIf_b (decide ((i.fdiv 5).fmod 8 = 3)) (fun ψ hψ => ?_) (fun _ => ?_) (fun _ => ?_)
    · walk_at "dl"
      exact ⟨of_eq_true (fd_lit (by decide) (by decide)), hψ⟩
    · refine cut_seq (fun ρ => ∃ l : List D, l = ws13.map D.str ∧ ρ = [some (dv (.int i)), some (dv (.int j)), some (dO (.lst l)), none, none, none, none, none]) ?_ ?_
      · walk_at "dl"
        exact ⟨_, rfl, rfl⟩
      rintro _ ⟨l1, e1, rfl⟩
      have n1 : l1.length = 13 := by rw [e1]; rfl
      refine cut_seq (fun ρ => ∃ l : List D, l = l1 ++ ws11.map D.str ∧ ρ = [some (dv (.int i)), some (dv (.int j)), some (dO (.lst l)), none, none, none, none, none]) ?_ ?_
      · walk_at "dl"
        exact ⟨by rw [n1, sLine]; omega, _, rfl, rfl⟩
      rintro _ ⟨l2, e2, rfl⟩
      have n2 : l2.length = 24 := by rw [e2, List.length_append, n1]; rfl
      refine cut_seq (fun ρ => ∃ l : List D, l = l2 ++ ws2.map D.str ∧ ρ = [some (dv (.int i)), some (dv (.int j)), some (dO (.lst l)), none, none, none, none, none]) ?_ ?_
      · walk_at "dl"
        exact ⟨by rw [n2, sLine]; omega, _, rfl, rfl⟩
      rintro _ ⟨l3, e3, rfl⟩
      rw [e2, e1, ← List.map_append, ← List.map_append, show ws13 ++ ws11 ++ ws2 = ws26 from rfl] at e3
      rw [← e3] at ew
      walk_at "dl"
      rw [er]
      walk_at "dl"
      rw [ew]
      exact ⟨of_eq_true (fd_lit (by decide) (by decide)), IntMulOk.of_left (a := j) (bitsOf (by omega)), of_eq_true (fd_lit (by decide) (by decide)), trivial, h w gw⟩
    · walk_at "dl"
  rintro _ rfl
  have mb := mod_bd i 8 (by decide)
  have mb2 := mod_bd (i.fdiv 8) (1 + i.fmod 8) (by omega)
  refine cut_seq (fun ρ => ρ = [some (dv (.int i)), some (dv (.int j)), none, some (dv (.int (1 + i.fmod 8))), none, none, none, none]) ?_ ?_
  · walk_at "dl"
  rintro _ rfl
  refine cut_seq (fun ρ => ρ = [some (dv (.int i)), some (dv (.int j)), none, some (dv (.int (1 + i.fmod 8))), some (dv (.int ((i.fdiv 8).fmod (1 + i.fmod 8)))), none, none, none]) ?_ ?_
  · walk_at "dl"
    exact ⟨of_eq_true (fd_lit (by decide) (by decide)), fun z => by omega⟩
  rintro _ rfl
  refine cut_seq (fun ρ => ρ = [some (dv (.int i)), some (dv (.int j)), none, some (dv (.int (1 + i.fmod 8))), some (dv (.int ((i.fdiv 8).fmod (1 + i.fmod 8)))), some (dv (.str "")), none, none]) ?_ ?_
  · walk_at "dl"
  rintro _ rfl
  refine cut_seq (fun ρ => ∃ (w : Str) (a b : Option EV), Lets w ∧ w.length ≤ 8 ∧ ρ = [some (dv (.int i)), some (dv (.int j)), none, some (dv (.int (1 + i.fmod 8))), some (dv (.int ((i.fdiv 8).fmod (1 + i.fmod 8)))), some (dv (.str w)), a, b]) ?_ ?_
  · refine sFor_at (rngD 0 (1 + i.fmod 8).toNat) (fun ψ hψ => ?_) (fun n ρ => ∃ (w : Str) (a b : Option EV), Lets w ∧ w.length ≤ n ∧ ρ = [some (dv (.int i)), some (dv (.int j)), none, some (dv (.int (1 + i.fmod 8))), some (dv (.int ((i.fdiv 8).fmod (1 + i.fmod 8)))), some (dv (.str w)), a, b]) ?_ ?_ ?_
    · walk_at "dl"
      exact ⟨by omega, by omega, hψ⟩
    · exact ⟨"", none, none, lets_nil, by decide +kernel, rfl⟩
    · rintro n d ρ hd ⟨w, a, b, lw, wl, rfl⟩
      have dn : d = .int n := by
        obtain ⟨hn, rfl⟩ := rng_get hd
        simp
      have n8 : n < 8 := by
        obtain ⟨hn, _⟩ := rng_get hd
        omega
      subst dn
      obtain ⟨r', r0', r1', er'⟩ := pick_six (i.fdiv 3328)
      have al : ("abcdefghijklmnopqrstuvwxyz" : Str).length ≤ sizeLine := by rw [sLine]; decide +kernel
      have go : ∀ (x y : Int) (u : EV), ∀ c, 97 ≤ c → w.length + ({ cps := #[c] } : Str).length ≤ sizeLine ∧ ∃ (w_1 : Str) (a b : Option EV), Lets w_1 ∧ w_1.length ≤ n + 1 ∧ [some (dv (D.int i)), some (dv (D.int j)), none, some (dv (D.int (1 + i.fmod 8))), some (dv (D.int ((i.fdiv 8).fmod (1 + i.fmod 8)))), some (dv (D.str (w ++ ({ cps := #[c] } : Str)))), some (dv (D.int n)), some u] = [some (dv (D.int i)), some (dv (D.int j)), none, some (dv (D.int (1 + i.fmod 8))), some (dv (D.int ((i.fdiv 8).fmod (1 + i.fmod 8)))), some (dv (D.str w_1)), a, b] := fun x y u c hc => ⟨by rw [one_len, sLine]; omega, w ++ ({ cps := #[c] } : Str), _, _, lets_add lw hc, by rw [sLn, one_len]; omega, rfl⟩
      have mo : IntMulOk (n : Int) n := IntMulOk.of_left (a := (n : Int)) (bitsOf (by omega))
      have mo2 : IntMulOk j r' := IntMulOk.of_left (a := j) (bitsOf (by omega))
      have fo : ∀ x : Int, FdOk x ((n : Int) + 1) := fun x => fdOk (m := 64) (by omega) (bitsOf (by omega))
      walk_at "dl"
      rw [er']
      exact ⟨of_eq_true (fd_lit (by decide) (by decide)), of_eq_true (fd_lit (by decide) (by decide)), fun _ => ⟨of_eq_true (fd_lit (by decide) (by decide)), fo _, mo, fun _ => ⟨of_eq_true (fd_lit (by decide) (by decide)), mo2, al, leaf_at _ (go 0 0 _)⟩, fun _ => ⟨al, leaf_at _ (go 0 0 _)⟩⟩, fun _ => ⟨fun _ => ⟨of_eq_true (fd_lit (by decide) (by decide)), mo2, al, leaf_at _ (go 0 0 _)⟩, fun _ => ⟨al, leaf_at _ (go 0 0 _)⟩⟩⟩
    · rintro ρ ⟨w, a, b, lw, wl, rfl⟩
      rw [rng_len] at wl
      exact ⟨w, a, b, lw, by omega, rfl⟩
  rintro _ ⟨w, a, b, lw, wl, rfl⟩
  walk_at "dl"
  have xl : ("x" : Str).length = 1 := by decide +kernel
  have g1 : GoodW w := lets_good lw (by omega)
  have ex : ("x" : Str) = ⟨#[120]⟩ := by decide +kernel
  have g2 : GoodW (w ++ ("x" : Str)) := lets_good (by rw [ex]; exact lets_add lw (by decide)) (by rw [sLn, xl]; omega)
  exact ⟨fun _ => ⟨by rw [xl, sLine]; omega, h _ g2⟩, fun _ => ⟨fun _ => ⟨by rw [xl, sLine]; omega, h _ g2⟩, fun _ => h _ g1⟩⟩
end
end K05

set_option Elab.async false
set_option linter.all false
set_option maxRecDepth 100000
set_option maxHeartbeats 8000000
set_option exponentiation.threshold 5000
namespace K05
open PySem PySem.Spec L2 L3 DL
open PyProof.Rows hiding St
open PySem.Builtin.Int (intBits)
local macro_rules | `(tactic| walk_at "dl") => `(tactic| simp only [sNil, sSeq, sRet, sIf, sSet, sExpr, sUn, sPar, d2, d1, dName, dC, slot, setS, EV.sto, EV.ret, aNil, aCons, dTup, dLst, dCall, dCB, solidB, vAnd, vOr, vNot, vIf, bAnd, bOr, bNot, bYes, tTru, tBo, truD, sSub, sFd, sMod, sPow, sLt, sLe, sGt, sGe, sI, sI0, sAdd, sMul, sNeg, sEq, sNe, sIs, sIsNot, isNon, sIx, sSl, dSl, oNone, oSome, sLen, sAbs, sIsI, sStr, sTupC, sListC, sIntC, sApp, iSeq, iR1, iR2, itemsD, gN, gT2, startD, isT_non_int, isT_non_bool, isT_bl_int, isT_bl_bool, isT_int_int, isT_int_bool, isT_int_str, isT_str_int, isT_str_str, isT_tup_tuple, isT_tup_int, isT_tup_list, isT_lst_list, isT_lst_tuple, isT_dk_dict, List.map_cons, List.map_nil, List.length_cons, List.length_nil, List.cons_append, List.nil_append, List.replicate_succ, List.replicate_zero, Nat.reduceAdd, Nat.reduceSub, Nat.zero_add, Nat.sub_self, Bool.and_self, Bool.and_true, Bool.true_and, true_and, and_true, Bool.not_true, Bool.not_false, forall_const, true_implies, false_implies, Bool.true_eq_false, Bool.false_eq_true, reduceCtorEq, implies_true, okD_int, okD_bl, okD_str, okD_non, eqD_int, eqD_str, eqD_bl, pureEV, pureD, pureDs, Bool.not_eq_eq_eq_not, Bool.not_true, Bool.not_false, beq_eq_false_iff_ne, beq_iff_eq, ne_eq, decide_eq_true_eq, decide_eq_false_iff_not, Bool.not_eq_true, Bool.not_eq_false, not_true_eq_false, not_false_eq_true, atI_0, atI_1, atI_2, and_self, Nat.beq_eq, Nat.ble_eq, Nat.reduceLeDiff, eq_self, Nat.reduceEqDiff, sIxx, dGet2, dFmt, dJoin, keyD, sIn, flatD, cp10, Int.reduceLE, Int.reduceToNat, tenpow_ne, atI_map, List.length_map, Option.map_some, Int.zero_add, sDput', Int.reduceEq, Int.reduceNeg, Int.reduceLT, sRaise, dCallX, sTry, hanZ, clrS, frzE, Option.map_none, List.map_cons, dIsE, sFrz, frzS, iZ, seqD_lst, seqD_tup, seqD_scr, sSum, intsD_map, sPop, sAppPop, sExt, sAug, sIsB, sIsNotB, dTupN, dAddN, dSlT, dPick, sLP, popD_app, pureEVs, sAllL, isT_str_bool, isT_str_tuple, isT_non_tuple, isT_bl_tuple, isT_int_tuple, isT_tup_bool, isT_lst_int, isT_lst_bool, isT_dk_int, isT_dk_bool, isT_dk_tuple, isT_non_bool, isT_str_int, dIsET, sDictC, sLenD, intsD_map, sDictP, dListRev, sDaug, sListD, sAugM, sPopX, iE, dStep, dMaxD, sMax, sInT, sIxT, dGet2T, sDputT, sListT, sSortedT, keyT_ints, keyT_tk, sLput, iZ, seqD, sFeed, gL4, dJoin1, dFd0, sFdPut, sNext1, sRetT, pureRs, dCall])
seal SDs SD ED EA ET EW
section
variable {P : Program} {w : World} {K : PySem.W.Frag} {mg : Str → Option Value} {base : Heap} {f : Addr} {fd : FuncData}

noncomputable def rowD (r : D × List Str) : D := .tup [r.1, .lst (r.2.map D.str)]
noncomputable def wds (rows : List (D × List Str)) : List Str := (rows.map Prod.snd).flatten
noncomputable def tFlat : FT := g1 fun d φ => ∃ rows : List (D × List Str), d = .lst (rows.map rowD) ∧ (wds rows).length ≤ 10000000 ∧ φ (df (.lst ((wds rows).map D.str)))
noncomputable def OkT (rows : List (Str × Str)) : Prop := (∀ p ∈ rows, GoodW p.1) ∧ rows.length ≤ 1000
noncomputable def tPlain : FT := g3 fun th sh ce φ => ∃ (rows : List (Str × Str)) (s : Str) (i : Int), th = .lst (rows.map prD) ∧ OkT rows ∧ sh = .str s ∧ ce = .int i ∧ ∀ e c, ExB e c → φ ⟨.new, rowD (e, c)⟩
theorem wds_step {rows : List (D × List Str)} {i : Nat} {r : D × List Str} (h : rows[i]? = some r) : wds (rows.take (i + 1)) = wds (rows.take i) ++ r.2 := by
  unfold wds
  rw [List.take_succ, h]
  simp
theorem wds_take (rows : List (D × List Str)) (i : Nat) : (wds (rows.take i)).length ≤ (wds rows).length := by
  conv => rhs; rw [← List.take_append_drop i rows]
  unfold wds
  rw [List.map_append, List.flatten_append, List.length_append]
  omega
theorem strs_pure (ws : List Str) : pureDs (ws.map D.str) := str_pure ws
noncomputable def Wd (fs : List D) : Prop := ∃ zs : List Str, fs = zs.map D.str ∧ ∀ z ∈ zs, GoodW z
theorem wd_nil : Wd [] := ⟨[], rfl, fun _ h => (nomatch h)⟩
theorem wd_add {fs : List D} {z : Str} (h : Wd fs) (g : GoodW z) : Wd (fs ++ [.str z]) := by
  obtain ⟨zs, rfl, a⟩ := h
  refine ⟨zs ++ [z], by simp, fun w hw => ?_⟩
  rcases List.mem_append.mp hw with hw | hw
  · exact a w hw
  · rw [List.mem_singleton.mp hw]
    exact g
theorem okW (zs : List Str) : okD 40 (D.lst (zs.map D.str)) := by
  rw [okD_lst (by decide)]
  intro x hx
  obtain ⟨z, _, rfl⟩ := List.mem_map.mp hx
  rw [okD_str]
  trivial
theorem ok0 : okD 40 (D.lst []) := by
  rw [okD_lst (by decide)]
  exact fun x hx => (nomatch hx)
theorem pick_sg (x : Int) : ∃ r : Int, (r = 1 ∨ r = -1) ∧ atI [dv (D.int 1), dv (D.int (-1))] (x.fmod 2) = some (dv (.int r)) := by
  have m := mod_bd x 2 (by decide)
  rcases (by omega : x.fmod 2 = 0 ∨ x.fmod 2 = 1) with e | e
  · exact ⟨1, .inl rfl, by rw [e, atI_0]⟩
  · exact ⟨-1, .inr rfl, by rw [e, atI_1]⟩
theorem pick_wd {zs : List Str} (h : ∀ z ∈ zs, GoodW z) (hn : zs ≠ []) (x : Int) : ∃ w, GoodW w ∧ atI (zs.map D.str) (x.fmod (zs.length : Int)) = some (.str w) := by
  obtain ⟨d, hd, e⟩ := atI_mod (l := zs.map D.str) (by simpa using hn) x
  obtain ⟨r, hr, rfl⟩ := List.mem_map.mp hd
  rw [List.length_map] at e
  exact ⟨r, h r hr, e⟩
theorem fd_law_flat (T : Tops mg) (F : Fun K "_law_flat" "_law_flat" (top 11) f fd) (m : mg "_law_flat" = some (.ref f)) : FD P w K mg base 1 "_law_flat" ["_law_made"] tFlat := by
  have S : FnScope ["_law_made", "_law_words", "_law_one", "_law_more"] ["_law_made"] (defScope (top 11)) := ⟨rfl, rfl, rfl, by decide +kernel, rfl, by decide +kernel, by decide +kernel⟩
  refine fd_of F S (F.binds fun _ _ _ _ _ _ us hl => match us, hl with | [_], _ => rfl) m fun cdv A outer s H E ds φ hr hl hT => ?_
  have hu := hr.units
  refine ⟨_, (ss_cons (sd_cut (sd_set 1 S.nd (ed_lst ea_nil)))
      (ss_cons (sd_cut (sd_for (ei_seq (ed_name 0)) (pg_tupK (K0 := K) (n := 2) (by rfl) (by rfl) (pgs_cons (pg_name (i := 2) S.nd rfl (by first | exact Or.inl rfl | exact Or.inr rfl)) (pgs_cons (pg_name (i := 3) S.nd rfl (by first | exact Or.inl rfl | exact Or.inr rfl)) pgs_nil))) (gl_tup2 2 3) (ss_one (sd_set 1 S.nd (ed_add (ed_name 1) (ed_name 3))))))
      (ss_one (sd_ret (ed_name 1))))), ?_⟩
  obtain ⟨d, rfl, rows, rfl, hb, h⟩ := f1_of hT
  refine cut_seq (fun ρ => ρ = [some (dv (.lst (rows.map rowD))), some (dO (.lst [])), none, none]) ?_ ?_
  · walk_at "dl"
  rintro _ rfl
  refine cut_seq (fun ρ => ∃ a b, ρ = [some (dv (.lst (rows.map rowD))), some (dO (.lst ((wds rows).map D.str))), a, b]) ?_ ?_
  · refine sFor_at (rows.map rowD) (fun ψ hψ => ?_) (fun i ρ => ∃ a b, ρ = [some (dv (.lst (rows.map rowD))), some (dO (.lst ((wds (rows.take i)).map D.str))), a, b]) ⟨none, none, rfl⟩ ?_ ?_
    · walk_at "dl"
      exact hψ
    · rintro i d ρ hd ⟨a, b, rfl⟩
      rw [List.getElem?_map] at hd
      obtain ⟨r, hr', rfl⟩ := Option.map_eq_some_iff.mp hd
      unfold rowD
      walk_at "dl"
      have e := wds_step hr'
      have l1 := wds_take rows (i + 1)
      rw [e] at l1 ⊢
      rw [List.length_append] at l1
      rw [List.map_append]
      exact ⟨by rw [sLine]; omega, _, _, rfl⟩
    · rintro ρ ⟨a, b, rfl⟩
      rw [List.length_map, List.take_length]
      exact ⟨a, b, rfl⟩
  rintro _ ⟨a, b, rfl⟩
  walk_at "dl"
  exact ⟨strs_pure _, h⟩
theorem fd_law_plain (T : Tops mg) (F : Fun K "_law_plain" "_law_plain" (top 12) f fd) (m : mg "_law_plain" = some (.ref f)) : FD P w K mg base 1 "_law_plain" ["_law_there", "_law_shape", "_law_cell"] tPlain := by
  have S : FnScope ["_law_there", "_law_shape", "_law_cell", "_law_some", "_law_name_here", "_law_number", "_law_word"] ["_law_there", "_law_shape", "_law_cell"] (defScope (top 12)) := ⟨rfl, rfl, rfl, by decide +kernel, rfl, by decide +kernel, by decide +kernel⟩
  refine fd_of F S (F.binds fun _ _ _ _ _ _ us hl => match us, hl with | [_, _, _], _ => rfl) m fun cdv A outer s H E ds φ hr hl hT => ?_
  have hu := hr.units
  refine ⟨_, (ss_cons (sd_cut (sd_setCompP (T := ["_law_name_here", "_law_kind"]) (F := ["_law_shape"]) (js := [1]) 3 S.nd (ei_seq (ed_name 0)) (show CompScope (defScope (top 12)) _ ["_law_name_here", "_law_kind"] ["_law_shape"] from ⟨rfl, by decide +kernel, by decide +kernel, by decide +kernel, by decide +kernel, by decide +kernel⟩) (.cons rfl .nil) (by decide) (fun cl C fp s H => (pg_tupK (K0 := K) (n := 2) (by rfl) (by rfl) (pgs_cons (pg_name (i := 0) (show ((["_law_name_here", "_law_kind"] : List Str) ++ (["_law_shape"] : List Str)).Nodup by decide +kernel) rfl (by first | exact Or.inl rfl | exact Or.inr rfl)) (pgs_cons (pg_name (i := 1) (show ((["_law_name_here", "_law_kind"] : List Str) ++ (["_law_shape"] : List Str)).Nodup by decide +kernel) rfl (by first | exact Or.inl rfl | exact Or.inr rfl)) pgs_nil)))) (gk_tup (gk_cons gm_name (gm_cons gm_name gm_nil) (gk_name (by decide)) (gk_cons gm_name gm_nil (gk_name (by decide)) gk_nil))) (gl_tup2 0 1) (fun cl C fp s H => (eif_one (et_eq hu (ed_name 1) (ed_name 2)))) (fun cl C fp s H => (ed_name 0))))
      (ss_cons (sd_if (EW.et (ew_and (et_ne hu (ed_name 3) (ed_lst ea_nil)) (ew_and1 (et_ne hu (ed_mod (ed_name 2) ed_int) ed_int)))) (ss_cons (sd_set 4 S.nd (ed_ixx hu (ed_name 3) (ed_mod (ed_fd (ed_name 2) ed_int) (ed_len T.len (ea_cons (ed_name 3) ea_nil)))))
        (ss_one (sd_ret (ed_tupN (ea_cons (ed_tupN (ea_cons ed_str (ea_cons (ed_name 4) ea_nil))) (ea_cons (ed_lst (ea_cons (ed_name 4) ea_nil)) ea_nil)))))) ss_nil)
      (ss_cons (sd_if (et_eq hu (ed_name 1) ed_str) (ss_cons (sd_set 5 S.nd (ed_mul (ed_pick (ea_cons ed_int (ea_cons (ed_neg ed_int) ea_nil)) (ed_mod (ed_fd (ed_name 2) ed_int) ed_int)) (ed_mod (ed_fd (ed_name 2) ed_int) (ed_pow ed_int ed_int))))
        (ss_one (sd_ret (ed_tupN (ea_cons (ed_tupN (ea_cons ed_str (ea_cons (ed_name 5) ea_nil))) (ea_cons (ed_lst (ea_cons (ed_strI T.str (ea_cons (ed_name 5) ea_nil)) ea_nil)) ea_nil)))))) ss_nil)
      (ss_cons (sd_set 6 S.nd (ed_pick (ea_cons ed_str (ea_cons ed_str ea_nil)) (ed_intC T.int (ea_cons (ed_eq hu (ed_name 1) ed_str) ea_nil))))
      (ss_one (sd_ret (ed_tupN (ea_cons (ed_tupN (ea_cons (ed_name 6) ea_nil)) (ea_cons (ed_lst (ea_cons (ed_name 6) ea_nil)) ea_nil))))))))), ?_⟩
  obtain ⟨a0, b0, c0, rfl, rows, s, i, rfl, ⟨hg, hl1⟩, rfl, rfl, h⟩ := f3_of hT
  refine cut_seq (fun ρ => ∃ zs : List Str, (∀ z ∈ zs, GoodW z) ∧ ρ = [some (dv (.lst (rows.map prD))), some (dv (.str s)), some (dv (.int i)), some (dO (.lst (zs.map D.str))), none, none, none]) ?_ ?_
  · refine dCompP_at (rows.map prD) (fun ψ hψ => ?_) (fun i fs => Wd fs) (by rw [List.length_map]; omega) wd_nil ?_ ?_
    · walk_at "dl"
      exact hψ
    · rintro k e fs he hle wd
      rw [List.getElem?_map] at he
      obtain ⟨p, hp, rfl⟩ := Option.map_eq_some_iff.mp he
      have gp := hg p (List.mem_of_getElem? hp)
      simp only [ρ0, List.map_cons, List.map_nil, List.replicate, List.cons_append, List.nil_append, prD]
      walk_at "dl"
      exact ⟨fun _ => wd_add wd gp, fun _ => wd⟩
    · rintro fs ⟨zs, rfl, hz⟩
      exact ⟨trivial, zs, hz, rfl⟩
  rintro _ ⟨zs, hz, rfl⟩
  walk_at "dl"
  refine ⟨okW zs, ok0, fun hne => ⟨fun _ => ?_, fun _ => ?_⟩, fun _ => ?_⟩
  · have hzn : zs ≠ [] := fun z => by
      subst z
      exact absurd hne (by decide)
    have hl0 : ¬ (zs.length : Int) = 0 := fun z => hzn (List.eq_nil_of_length_eq_zero (by omega))
    obtain ⟨w, gw, ew⟩ := pick_wd hz hzn (i.fdiv 3)
    rw [atI_map] at ew
    rw [ew]
    exact ⟨of_eq_true (fd_lit (by decide) (by decide)), hl0, trivial, trivial, h _ _ (.inr (.inl ⟨w, gw, rfl, rfl⟩))⟩
  · refine ⟨fun hs => ?_, fun hs => ?_⟩
    · obtain ⟨r, hr', er⟩ := pick_sg (i.fdiv 3)
      have mm := mod_bd (i.fdiv 6) (10 ^ 60) (by decide)
      have bd : (r * (i.fdiv 6).fmod (10 ^ 60)).natAbs < 10 ^ 60 := by
        rcases hr' with rfl | rfl
        · omega
        · omega
      rw [er]
      exact ⟨of_eq_true (fd_lit (by decide) (by decide)), of_eq_true (fd_lit (by decide) (by decide)), IntMulOk.of_left (by rcases hr' with rfl | rfl <;> decide), log_ok bd, h _ _ (.inl ⟨_, bd, rfl, rfl⟩)⟩
    · by_cases ht : s = "tree"
      · rw [if_pos ht, atI_1]
        exact ⟨trivial, trivial, rfl, trivial, h _ _ (.inr (.inr (.inr ⟨rfl, rfl⟩)))⟩
      · rw [if_neg ht, atI_0]
        exact ⟨trivial, trivial, rfl, trivial, h _ _ (.inr (.inr (.inl ⟨rfl, rfl⟩)))⟩
  · refine ⟨fun hs => ?_, fun hs => ?_⟩
    · obtain ⟨r, hr', er⟩ := pick_sg (i.fdiv 3)
      have mm := mod_bd (i.fdiv 6) (10 ^ 60) (by decide)
      have bd : (r * (i.fdiv 6).fmod (10 ^ 60)).natAbs < 10 ^ 60 := by
        rcases hr' with rfl | rfl
        · omega
        · omega
      rw [er]
      exact ⟨of_eq_true (fd_lit (by decide) (by decide)), of_eq_true (fd_lit (by decide) (by decide)), IntMulOk.of_left (by rcases hr' with rfl | rfl <;> decide), log_ok bd, h _ _ (.inl ⟨_, bd, rfl, rfl⟩)⟩
    · by_cases ht : s = "tree"
      · rw [if_pos ht, atI_1]
        exact ⟨trivial, trivial, rfl, trivial, h _ _ (.inr (.inr (.inr ⟨rfl, rfl⟩)))⟩
      · rw [if_neg ht, atI_0]
        exact ⟨trivial, trivial, rfl, trivial, h _ _ (.inr (.inr (.inl ⟨rfl, rfl⟩)))⟩
end
end K05

set_option Elab.async false
set_option linter.all false
set_option maxRecDepth 100000
set_option maxHeartbeats 8000000
set_option exponentiation.threshold 5000
namespace K05
open PySem PySem.Spec L2 L3 DL
open PyProof.Rows hiding St
open PySem.Builtin.Int (intBits)
local macro_rules | `(tactic| walk_at "dl") => `(tactic| simp only [sNil, sSeq, sRet, sIf, sSet, sExpr, sUn, sPar, d2, d1, dName, dC, slot, setS, EV.sto, EV.ret, aNil, aCons, dTup, dLst, dCall, dCB, solidB, vAnd, vOr, vNot, vIf, bAnd, bOr, bNot, bYes, tTru, tBo, truD, sSub, sFd, sMod, sPow, sLt, sLe, sGt, sGe, sI, sI0, sAdd, sMul, sNeg, sEq, sNe, sIs, sIsNot, isNon, sIx, sSl, dSl, oNone, oSome, sLen, sAbs, sIsI, sStr, sTupC, sListC, sIntC, sApp, iSeq, iR1, iR2, itemsD, gN, gT2, startD, isT_non_int, isT_non_bool, isT_bl_int, isT_bl_bool, isT_int_int, isT_int_bool, isT_int_str, isT_str_int, isT_str_str, isT_tup_tuple, isT_tup_int, isT_tup_list, isT_lst_list, isT_lst_tuple, isT_dk_dict, List.map_cons, List.map_nil, List.length_cons, List.length_nil, List.cons_append, List.nil_append, List.replicate_succ, List.replicate_zero, Nat.reduceAdd, Nat.reduceSub, Nat.zero_add, Nat.sub_self, Bool.and_self, Bool.and_true, Bool.true_and, true_and, and_true, Bool.not_true, Bool.not_false, forall_const, true_implies, false_implies, Bool.true_eq_false, Bool.false_eq_true, reduceCtorEq, implies_true, okD_int, okD_bl, okD_str, okD_non, eqD_int, eqD_str, eqD_bl, pureEV, pureD, pureDs, Bool.not_eq_eq_eq_not, Bool.not_true, Bool.not_false, beq_eq_false_iff_ne, beq_iff_eq, ne_eq, decide_eq_true_eq, decide_eq_false_iff_not, Bool.not_eq_true, Bool.not_eq_false, not_true_eq_false, not_false_eq_true, atI_0, atI_1, atI_2, and_self, Nat.beq_eq, Nat.ble_eq, Nat.reduceLeDiff, eq_self, Nat.reduceEqDiff, sIxx, dGet2, dFmt, dJoin, keyD, sIn, flatD, cp10, Int.reduceLE, Int.reduceToNat, tenpow_ne, atI_map, List.length_map, Option.map_some, Int.zero_add, sDput', Int.reduceEq, Int.reduceNeg, Int.reduceLT, sRaise, dCallX, sTry, hanZ, clrS, frzE, Option.map_none, List.map_cons, dIsE, sFrz, frzS, iZ, seqD_lst, seqD_tup, seqD_scr, sSum, intsD_map, sPop, sAppPop, sExt, sAug, sIsB, sIsNotB, dTupN, dAddN, dSlT, dPick, sLP, popD_app, pureEVs, sAllL, isT_str_bool, isT_str_tuple, isT_non_tuple, isT_bl_tuple, isT_int_tuple, isT_tup_bool, isT_lst_int, isT_lst_bool, isT_dk_int, isT_dk_bool, isT_dk_tuple, isT_non_bool, isT_str_int, dIsET, sDictC, sLenD, intsD_map, sDictP, dListRev, sDaug, sListD, sAugM, sPopX, iE, dStep, dMaxD, sMax, sInT, sIxT, dGet2T, sDputT, sListT, sSortedT, keyT_ints, keyT_tk, sLput, iZ, seqD, sFeed, gL4, dJoin1, dFd0, sFdPut, sNext1, sRetT, pureRs])
seal SDs SD ED EA ET EW
section
variable {P : Program} {w : World} {K : PySem.W.Frag} {mg : Str → Option Value} {base : Heap} {f : Addr} {fd : FuncData}

noncomputable def g5 (g : D → D → D → D → D → (EV → Prop) → Prop) : FT := fun ds φ => ∃ a b c d e, ds = [a, b, c, d, e] ∧ g a b c d e φ
structure Hd where
  name : Str
  kinds : List Str
  shape : Str
  size : List Int
noncomputable def hdD (h : Hd) : D := .tup [.str h.name, .lst (h.kinds.map D.str), .str h.shape, .lst (h.size.map D.int)]
structure OkH (h : Hd) : Prop where
  name : GoodW h.name
  n0 : h.kinds ≠ []
  n4 : h.kinds.length ≤ 4
  kinds : ∀ k ∈ h.kinds, GoodW k
  shape : GoodW h.shape
  s5 : h.size.length ≤ 5
  size : ∀ i ∈ h.size, i.natAbs < 10 ^ 60
noncomputable def OkHs (hs : List Hd) : Prop := (∀ h ∈ hs, OkH h) ∧ hs.length ≤ 8
noncomputable def tE : Nat → FT
  | 0 => fun _ _ => False
  | n + 1 => g5 fun fe he th sh de φ => fe = .fd 0 ∧ ∃ (hs : List Hd) (rows : List (Str × Str)) (s : Str), he = .lst (hs.map hdD) ∧ OkHs hs ∧ th = .lst (rows.map prD) ∧ OkT rows ∧ sh = .str s ∧ de = .int n ∧ n ≤ 3 ∧ ∀ e c, Ex (n + 1) e c → φ ⟨.new, rowD (e, c)⟩
noncomputable def Hds (fs : List D) : Prop := ∃ hs : List Hd, fs = hs.map hdD ∧ ∀ h ∈ hs, OkH h
theorem hds_nil : Hds [] := ⟨[], rfl, fun _ h => (nomatch h)⟩
theorem hds_add {fs : List D} {z : Hd} (h : Hds fs) (g : OkH z) : Hds (fs ++ [hdD z]) := by
  obtain ⟨zs, rfl, a⟩ := h
  refine ⟨zs ++ [z], by simp, fun w hw => ?_⟩
  rcases List.mem_append.mp hw with hw | hw
  · exact a w hw
  · rw [List.mem_singleton.mp hw]
    exact g
noncomputable def RowsE (n : Nat) (i : Nat) (fs : List D) : Prop := ∃ rs : List (D × List Str), fs = rs.map rowD ∧ rs.length = i ∧ ∀ r ∈ rs, Ex n r.1 r.2
theorem rowsE_add {n i : Nat} {fs : List D} {e : D} {c : List Str} (h : RowsE n i fs) (g : Ex n e c) : RowsE n (i + 1) (fs ++ [rowD (e, c)]) := by
  obtain ⟨zs, rfl, l, a⟩ := h
  refine ⟨zs ++ [(e, c)], by simp, by simp [l], fun w hw => ?_⟩
  rcases List.mem_append.mp hw with hw | hw
  · exact a w hw
  · rw [List.mem_singleton.mp hw]
    exact g
theorem okHd (hs : List Hd) : okD 40 (D.lst (hs.map hdD)) := by
  rw [okD_lst (by decide)]
  intro x hx
  obtain ⟨z, _, rfl⟩ := List.mem_map.mp hx
  unfold hdD
  rw [okD_tup (by decide)]
  intro y hy
  simp only [List.mem_cons, List.not_mem_nil, or_false] at hy
  rcases hy with rfl | rfl | rfl | rfl
  · rw [okD_str]; trivial
  · rw [okD_lst (by decide)]
    intro x hx
    obtain ⟨z, _, rfl⟩ := List.mem_map.mp hx
    rw [okD_str]; trivial
  · rw [okD_str]; trivial
  · rw [okD_lst (by decide)]
    intro x hx
    obtain ⟨z, _, rfl⟩ := List.mem_map.mp hx
    rw [okD_int]; trivial
theorem pick_hd {hs : List Hd} (h : ∀ z ∈ hs, OkH z) (hn : hs ≠ []) (x : Int) : ∃ w, OkH w ∧ atI (hs.map hdD) (x.fmod (hs.length : Int)) = some (hdD w) := by
  obtain ⟨d, hd, e⟩ := atI_mod (l := hs.map hdD) (by simpa using hn) x
  obtain ⟨r, hr, rfl⟩ := List.mem_map.mp hd
  rw [List.length_map] at e
  exact ⟨r, h r hr, e⟩
theorem rows_pair {n : Nat} {rs : List (D × List Str)} (h : ∀ r ∈ rs, Ex n r.1 r.2) : PairR (Ex n) (rs.map Prod.fst) (rs.map Prod.snd) := by
  refine ⟨by simp, fun i e c he hc => ?_⟩
  rw [List.getElem?_map] at he hc
  obtain ⟨r, hr, rfl⟩ := Option.map_eq_some_iff.mp he
  rw [hr] at hc
  cases hc
  exact h r (List.mem_of_getElem? hr)
theorem rows_pure {n : Nat} {rs : List (D × List Str)} (h : ∀ r ∈ rs, Ex n r.1 r.2) : pureDs (rs.map Prod.fst) := pureDs_iff.mpr fun d hd => by
  obtain ⟨r, hr, rfl⟩ := List.mem_map.mp hd
  exact (ex_facts n _ _ (h r hr)).2.2
theorem len_wsum (c : List Str) : c.length ≤ wsum c := by
  induction c with
  | nil => exact Nat.le_refl _
  | cons a c ih =>
    rw [wsum_cons, List.length_cons]
    omega
theorem wds_len {n : Nat} {rs : List (D × List Str)} (h : ∀ r ∈ rs, Ex n r.1 r.2) (hl : rs.length ≤ 4) (hn : n ≤ 4) : (wds rs).length ≤ 34000 := by
  have := flat_le (rows_pair h) (by simpa using hl) (ex_facts n)
  have := le_mono hn
  have := len_wsum (rs.map Prod.snd).flatten
  show (rs.map Prod.snd).flatten.length ≤ _
  omega
theorem pick_as (x : Int) : ∃ o, o ∈ ops ∧ atI [dv (D.str "add"), dv (D.str "sub")] (x.fmod 2) = some (dv (.str o)) := by
  have m := mod_bd x 2 (by decide)
  rcases (by omega : x.fmod 2 = 0 ∨ x.fmod 2 = 1) with e | e
  · exact ⟨"add", by decide, by rw [e, atI_0]⟩
  · exact ⟨"sub", by decide, by rw [e, atI_1]⟩
noncomputable def fstD : D → Option D
  | .tup (e :: _) => some e
  | _ => none
theorem fst_rows (rs : List (D × List Str)) : (rs.map rowD).filterMap fstD = rs.map Prod.fst := by
  rw [List.filterMap_map, ← List.filterMap_eq_map]
  rfl
theorem fd_law_e {n : Nat} (T : Tops mg) (F__law_next : FD P w K mg base 1 "_law_next" ["_law_feed"] tNext1) (F__law_plain : FD P w K mg base 1 "_law_plain" ["_law_there", "_law_shape", "_law_cell"] tPlain) (F__law_flat : FD P w K mg base 1 "_law_flat" ["_law_made"] tFlat) (F__law_e : FD P w K mg base (n + 2) "_law_e" ["_law_feed", "_law_heads", "_law_there", "_law_shape", "_law_deep"] (tE n)) (F : Fun K "_law_e" "_law_e" (top 13) f fd) (m : mg "_law_e" = some (.ref f)) : FD P w K mg base (n + 3) "_law_e" ["_law_feed", "_law_heads", "_law_there", "_law_shape", "_law_deep"] (tE (n + 1)) := by
  have S : FnScope ["_law_feed", "_law_heads", "_law_there", "_law_shape", "_law_deep", "_law_cell", "_law_some", "_law_head_here", "_law_made", "_law_word", "_law_kinds"] ["_law_feed", "_law_heads", "_law_there", "_law_shape", "_law_deep"] (defScope (top 13)) := ⟨rfl, rfl, rfl, by decide +kernel, rfl, by decide +kernel, by decide +kernel⟩
  refine fd_of F S (F.binds fun _ _ _ _ _ _ us hl => match us, hl with | [_, _, _, _, _], _ => rfl) m fun cdv A outer s H E ds φ hr hl hT => ?_
  have hu := hr.units
  refine ⟨_, (ss_cons (sd_cut (sd_set 5 S.nd (ed_call F__law_next (hr.mono (by omega)) (ea_cons (ed_name 0) ea_nil))))
      (ss_cons (sd_cut (sd_if (EW.et (ew_or (et_lt (ed_name 4) ed_int) (ew_or (et_lt (ed_fd0 0) ed_int) (ew_or1 (et_lt (ed_mod (ed_name 5) ed_int) ed_int))))) (ss_one (sd_ret (ed_call F__law_plain (hr.mono (by omega)) (ea_cons (ed_name 2) (ea_cons (ed_name 3) (ea_cons (ed_fd (ed_name 5) ed_int) ea_nil)))))) ss_nil))
      (ss_cons (sd_cut (sd_fdput 0 (ed_sub (ed_fd0 0) ed_int)))
      (ss_cons (sd_cut (sd_setCompP (T := ["_law_head_here"]) (F := ["_law_shape"]) (js := [3]) 6 S.nd (ei_seq (ed_name 1)) (show CompScope (defScope (top 13)) _ ["_law_head_here"] ["_law_shape"] from ⟨rfl, by decide +kernel, by decide +kernel, by decide +kernel, by decide +kernel, by decide +kernel⟩) (.cons rfl .nil) (by decide) (fun cl C fp s H => (pg_name (i := 0) (show ((["_law_head_here"] : List Str) ++ (["_law_shape"] : List Str)).Nodup by decide +kernel) rfl (by first | exact Or.inl rfl | exact Or.inr rfl))) (gk_name (by decide)) (gl_name 0) (fun cl C fp s H => (eif_one (et_eq hu (ed_ixx hu (ed_name 0) ed_int) (ed_name 1)))) (fun cl C fp s H => (ed_name 0))))
      (ss_cons (sd_cut (sd_if (EW.et (ew_and (et_gt (ed_mod (ed_name 5) ed_int) ed_int) (ew_and1 (et_ne hu (ed_name 6) (ed_lst ea_nil))))) (ss_cons (sd_cut (sd_set 7 S.nd (ed_ixx hu (ed_name 6) (ed_mod (ed_fd (ed_name 5) ed_int) (ed_len T.len (ea_cons (ed_name 6) ea_nil))))))
        (ss_cons (sd_cut (sd_setCompP (T := ["_law_kind"]) (F := ["_law_feed", "_law_heads", "_law_there", "_law_deep"]) (js := [0, 1, 2, 4]) 8 S.nd (ei_seq (ed_ixx hu (ed_name 7) ed_int)) (show CompScope (defScope (top 13)) _ ["_law_kind"] ["_law_feed", "_law_heads", "_law_there", "_law_deep"] from ⟨rfl, by decide +kernel, by decide +kernel, by decide +kernel, by decide +kernel, by decide +kernel⟩) (.cons rfl (.cons rfl (.cons rfl (.cons rfl .nil)))) (by decide) (fun cl C fp s H => (pg_name (i := 0) (show ((["_law_kind"] : List Str) ++ (["_law_feed", "_law_heads", "_law_there", "_law_deep"] : List Str)).Nodup by decide +kernel) rfl (by first | exact Or.inl rfl | exact Or.inr rfl))) (gk_name (by decide)) (gl_name 0) (fun cl C fp s H => eif_nil) (fun cl C fp s H => (ed_call F__law_e (hr.mono (by omega)) (ea_cons (ed_name 1) (ea_cons (ed_name 2) (ea_cons (ed_name 3) (ea_cons (ed_name 0) (ea_cons (ed_sub (ed_name 4) ed_int) ea_nil)))))))))
        (ss_one (sd_frz 8 (sd_ret (ed_tupN (ea_cons (ed_tupN (ea_cons ed_str (ea_cons (ed_ixx hu (ed_name 7) ed_int) (ea_cons (ed_tupleC T.tuple (ea_cons (ed_comp (T := ["_law_one", "_law_more"]) (F := []) (js := []) (ei_seq (ed_name 8)) (show CompScope (defScope (top 13)) _ ["_law_one", "_law_more"] [] from ⟨rfl, by decide +kernel, by decide +kernel, by decide +kernel, by decide +kernel, by decide +kernel⟩) .nil (by decide) (fun cl C fp s H => (pg_tupK (K0 := K) (n := 2) (by rfl) (by rfl) (pgs_cons (pg_name (i := 0) (show ((["_law_one", "_law_more"] : List Str) ++ ([] : List Str)).Nodup by decide +kernel) rfl (by first | exact Or.inl rfl | exact Or.inr rfl)) (pgs_cons (pg_name (i := 1) (show ((["_law_one", "_law_more"] : List Str) ++ ([] : List Str)).Nodup by decide +kernel) rfl (by first | exact Or.inl rfl | exact Or.inr rfl)) pgs_nil)))) (gk_tup (gk_cons gm_name (gm_cons gm_name gm_nil) (gk_name (by decide)) (gk_cons gm_name gm_nil (gk_name (by decide)) gk_nil))) (gl_tup2 0 1) (fun cl C fp s H => eif_nil) (fun cl C fp s H => (ed_name 0))) ea_nil)) ea_nil)))) (ea_cons (ed_add (ed_add (ed_lst (ea_cons ed_str (ea_cons ed_str (ea_cons (ed_ixx hu (ed_name 7) ed_int) ea_nil)))) (ed_call F__law_flat (hr.mono (by omega)) (ea_cons (ed_name 8) ea_nil))) (ed_lst (ea_cons ed_str ea_nil))) ea_nil)))))))) ss_nil))
      (ss_cons (sd_cut (sd_set 9 S.nd (ed_pick (ea_cons ed_str (ea_cons ed_str ea_nil)) (ed_mod (ed_fd (ed_name 5) ed_int) ed_int))))
      (ss_cons (sd_cut (sd_set 10 S.nd (ed_lst (ea_cons ed_str (ea_cons ed_str ea_nil)))))
      (ss_cons (sd_cut (sd_if (et_eq hu (ed_name 3) ed_str) (ss_cons (sd_set 9 S.nd ed_str)
        (ss_one (sd_set 10 S.nd (ed_lst (ea_cons ed_str (ea_cons ed_str ea_nil)))))) ss_nil))
      (ss_cons (sd_cut (sd_if (et_eq hu (ed_name 3) ed_str) (ss_cons (sd_set 9 S.nd ed_str)
        (ss_one (sd_set 10 S.nd (ed_lst (ea_cons ed_str (ea_cons ed_str (ea_cons ed_str ea_nil))))))) ss_nil))
      (ss_cons (sd_cut (sd_frz 10 (sd_setCompP (T := ["_law_kind"]) (F := ["_law_feed", "_law_heads", "_law_there", "_law_deep"]) (js := [0, 1, 2, 4]) 8 S.nd (ei_seq (ed_name 10)) (show CompScope (defScope (top 13)) _ ["_law_kind"] ["_law_feed", "_law_heads", "_law_there", "_law_deep"] from ⟨rfl, by decide +kernel, by decide +kernel, by decide +kernel, by decide +kernel, by decide +kernel⟩) (.cons rfl (.cons rfl (.cons rfl (.cons rfl .nil)))) (by decide) (fun cl C fp s H => (pg_name (i := 0) (show ((["_law_kind"] : List Str) ++ (["_law_feed", "_law_heads", "_law_there", "_law_deep"] : List Str)).Nodup by decide +kernel) rfl (by first | exact Or.inl rfl | exact Or.inr rfl))) (gk_name (by decide)) (gl_name 0) (fun cl C fp s H => eif_nil) (fun cl C fp s H => (ed_call F__law_e (hr.mono (by omega)) (ea_cons (ed_name 1) (ea_cons (ed_name 2) (ea_cons (ed_name 3) (ea_cons (ed_name 0) (ea_cons (ed_sub (ed_name 4) ed_int) ea_nil))))))))))
      (ss_one (sd_frz 8 (sd_ret (ed_tupN (ea_cons (ed_tupleC T.tuple (ea_cons (ed_add (ed_lst (ea_cons (ed_name 9) ea_nil)) (ed_comp (T := ["_law_one", "_law_more"]) (F := []) (js := []) (ei_seq (ed_name 8)) (show CompScope (defScope (top 13)) _ ["_law_one", "_law_more"] [] from ⟨rfl, by decide +kernel, by decide +kernel, by decide +kernel, by decide +kernel, by decide +kernel⟩) .nil (by decide) (fun cl C fp s H => (pg_tupK (K0 := K) (n := 2) (by rfl) (by rfl) (pgs_cons (pg_name (i := 0) (show ((["_law_one", "_law_more"] : List Str) ++ ([] : List Str)).Nodup by decide +kernel) rfl (by first | exact Or.inl rfl | exact Or.inr rfl)) (pgs_cons (pg_name (i := 1) (show ((["_law_one", "_law_more"] : List Str) ++ ([] : List Str)).Nodup by decide +kernel) rfl (by first | exact Or.inl rfl | exact Or.inr rfl)) pgs_nil)))) (gk_tup (gk_cons gm_name (gm_cons gm_name gm_nil) (gk_name (by decide)) (gk_cons gm_name gm_nil (gk_name (by decide)) gk_nil))) (gl_tup2 0 1) (fun cl C fp s H => eif_nil) (fun cl C fp s H => (ed_name 0)))) ea_nil)) (ea_cons (ed_add (ed_add (ed_lst (ea_cons ed_str (ea_cons (ed_name 9) ea_nil))) (ed_call F__law_flat (hr.mono (by omega)) (ea_cons (ed_name 8) ea_nil))) (ed_lst (ea_cons ed_str ea_nil))) ea_nil)))))))))))))))), ?_⟩
  obtain ⟨a0, b0, c0, d0, e0, rfl, rfl, hs, rows, s, rfl, oh, rfl, ot, rfl, rfl, hn3, h⟩ := hT
  refine cut_seq (fun ρ => ∃ c : Int, ρ = [some (dv (.fd 0)), some (dv (.lst (hs.map hdD))), some (dv (.lst (rows.map prD))), some (dv (.str s)), some (dv (.int n)), some (dv (.int c)), none, none, none, none, none]) ?_ ?_
  · walk_at "dl"
    simp only [tNext1, DL.g1]
    exact ⟨trivial, fun c => ⟨trivial, c, rfl⟩⟩
  rintro _ ⟨c, rfl⟩
  refine cut_seq (fun ρ => ∃ m : Nat, n = m + 1 ∧ ρ = [some (dv (.fd 0)), some (dv (.lst (hs.map hdD))), some (dv (.lst (rows.map prD))), some (dv (.str s)), some (dv (.int n)), some (dv (.int c)), none, none, none, none, none]) ?_ ?_
  · walk_at "dl"
    simp only [tPlain, DL.g3]
    have pl : FdOk c 8 ∧ ∃ (rows' : List (Str × Str)) (s' : Str) (i : Int), D.lst (rows.map prD) = .lst (rows'.map prD) ∧ OkT rows' ∧ D.str s = .str s' ∧ D.int (c.fdiv 8) = .int i ∧ ∀ e c, ExB e c → True ∧ φ ⟨.new, rowD (e, c)⟩ := ⟨of_eq_true (fd_lit (by decide) (by decide)), rows, s, _, rfl, ot, rfl, rfl, fun e c hec => ⟨trivial, h e c (.inl hec)⟩⟩
    exact ⟨fun _ => pl, fun hn => fun c1 => ⟨fun _ => pl, fun _ => ⟨fun _ => pl, fun _ => ⟨n - 1, by omega⟩⟩⟩⟩
  rintro _ ⟨m, rfl, rfl⟩
  refine cut_seq (fun ρ => ρ = [some (dv (.fd 0)), some (dv (.lst (hs.map hdD))), some (dv (.lst (rows.map prD))), some (dv (.str s)), some (dv (.int (m + 1 : Nat))), some (dv (.int c)), none, none, none, none, none]) ?_ ?_
  · walk_at "dl"
  rintro _ rfl
  refine cut_seq (fun ρ => ∃ os : List Hd, (∀ h ∈ os, OkH h) ∧ ρ = [some (dv (.fd 0)), some (dv (.lst (hs.map hdD))), some (dv (.lst (rows.map prD))), some (dv (.str s)), some (dv (.int (m + 1 : Nat))), some (dv (.int c)), some (dO (.lst (os.map hdD))), none, none, none, none]) ?_ ?_
  · refine dCompP_at (hs.map hdD) (fun ψ hψ => ?_) (fun i fs => Hds fs) (by rw [List.length_map]; have := oh.2; omega) hds_nil ?_ ?_
    · walk_at "dl"
      exact hψ
    · rintro k e fs he hle wd
      rw [List.getElem?_map] at he
      obtain ⟨p, hp, rfl⟩ := Option.map_eq_some_iff.mp he
      have gp := oh.1 p (List.mem_of_getElem? hp)
      simp only [ρ0, List.map_cons, List.map_nil, List.replicate, List.cons_append, List.nil_append, hdD]
      walk_at "dl"
      exact ⟨fun _ => hds_add wd gp, fun _ => wd⟩
    · rintro fs ⟨zs, rfl, hz⟩
      exact ⟨trivial, zs, hz, rfl⟩
  rintro _ ⟨os, oo, rfl⟩
  refine cut_seq (fun ρ => ρ = [some (dv (.fd 0)), some (dv (.lst (hs.map hdD))), some (dv (.lst (rows.map prD))), some (dv (.str s)), some (dv (.int (m + 1 : Nat))), some (dv (.int c)), some (dO (.lst (os.map hdD))), none, none, none, none]) ?_ ?_
  · refine sIf_b (decide (c.fmod 8 > 5) && decide (os ≠ [])) (fun ψ hψ => ?_) (fun hb => ?_) (fun _ => ?_)
    · have ne : (5 < c.fmod 8 → okD 40 (D.lst (os.map hdD)) ∧ okD 40 (D.lst []) ∧ ψ !eqD (D.lst (os.map hdD)) (D.lst [])) ∧ (¬5 < c.fmod 8 → ψ false) := by
        refine ⟨fun z => ⟨okHd os, ok0, ?_⟩, fun z => ?_⟩
        · have e : (decide (c.fmod 8 > 5) && decide (os ≠ [])) = !eqD (D.lst (os.map hdD)) (D.lst []) := by
            cases os with
            | nil => simp [eqD, eqDs]
            | cons a l =>
              have : decide (c.fmod 8 > 5) = true := decide_eq_true z
              rw [this]
              rfl
          rw [← e]
          exact hψ
        · rw [show decide (c.fmod 8 > 5) = false from decide_eq_false z] at hψ
          exact hψ
      walk_at "dl"
      exact ne
    · have hos : os ≠ [] := by
        simp only [Bool.and_eq_true, decide_eq_true_eq] at hb
        exact hb.2
      have hl0 : ¬ (os.length : Int) = 0 := fun z => hos (List.eq_nil_of_length_eq_zero (by omega))
      obtain ⟨w, ow, ew⟩ := pick_hd oo hos (c.fdiv 8)
      rw [atI_map] at ew
      refine cut_seq (fun ρ => ρ = [some (dv (.fd 0)), some (dv (.lst (hs.map hdD))), some (dv (.lst (rows.map prD))), some (dv (.str s)), some (dv (.int (m + 1 : Nat))), some (dv (.int c)), some (dO (.lst (os.map hdD))), some (dv (hdD w)), none, none, none]) ?_ ?_
      · walk_at "dl"
        rw [ew]
        exact ⟨of_eq_true (fd_lit (by decide) (by decide)), hl0, rfl⟩
      rintro _ rfl
      refine cut_seq (fun ρ => ∃ rs : List (D × List Str), rs.length = w.kinds.length ∧ (∀ r ∈ rs, Ex (m + 1) r.1 r.2) ∧ ρ = [some (dv (.fd 0)), some (dv (.lst (hs.map hdD))), some (dv (.lst (rows.map prD))), some (dv (.str s)), some (dv (.int (m + 1 : Nat))), some (dv (.int c)), some (dO (.lst (os.map hdD))), some (dv (hdD w)), some (dO (.lst (rs.map rowD))), none, none]) ?_ ?_
      · refine dCompP_at (w.kinds.map D.str) (fun ψ hψ => ?_) (RowsE (m + 1)) (by rw [List.length_map]; have := ow.n4; omega) ⟨[], rfl, rfl, fun _ z => (nomatch z)⟩ ?_ ?_
        · unfold hdD
          walk_at "dl"
          exact hψ
        · rintro k e fs he hle wd
          rw [List.getElem?_map] at he
          obtain ⟨p, hp, rfl⟩ := Option.map_eq_some_iff.mp he
          simp only [ρ0, List.map_cons, List.map_nil, List.replicate, List.cons_append, List.nil_append]
          walk_at "dl"
          exact ⟨_, _, _, _, _, rfl, rfl, hs, rows, p, rfl, oh, rfl, ot, rfl, by rw [show ((m + 1 : Nat) : Int) - 1 = (m : Int) by omega], by omega, fun e c hec => ⟨trivial, rowsE_add wd hec⟩⟩
        · rintro fs ⟨zs, rfl, lz, hz⟩
          rw [List.length_map] at lz
          exact ⟨trivial, zs, lz, hz, rfl⟩
      rintro _ ⟨rs, lr, hr', rfl⟩
      have l4 := ow.n4
      have wl := wds_len hr' (by omega) (by omega)
      simp only [hdD]
      walk_at "dl"
      refine dComp_at (rs.map rowD) (fun ψ hψ => ?_) fstD (by rw [List.length_map]; omega) (fun d hd => ?_) ?_
      · walk_at "dl"
        exact hψ
      · obtain ⟨r, _, rfl⟩ := List.mem_map.mp hd
        unfold rowD
        simp only [ρ0, List.map_cons, List.map_nil, List.replicate, List.cons_append, List.nil_append]
        walk_at "dl"
        rfl
      rw [fst_rows]
      walk_at "dl"
      simp only [tFlat, DL.g1]
      have key := h (.tup [.str "call", .str w.name, .tup (rs.map Prod.fst)]) ([lp, "call", w.name] ++ (rs.map Prod.snd).flatten ++ [rp]) (.inr (.inl ⟨w.name, _, _, ow.name, rows_pair hr', by rw [List.length_map]; omega, rfl, rfl⟩))
      have pu := strs_pure ([lp, "call", w.name] ++ wds rs ++ [rp])
      unfold rowD at key
      rw [List.map_append, List.map_append] at key pu
      exact ⟨rows_pure hr', rs, rfl, by omega, by simp only [List.length_map, List.length_cons, List.length_nil]; rw [sLine]; omega, by simp only [List.length_append, List.length_map, List.length_cons, List.length_nil]; rw [sLine]; omega, pu, key⟩
    · walk_at "dl"
  rintro _ rfl
  refine cut_seq (fun ρ => ∃ o, o ∈ ops ∧ ρ = [some (dv (.fd 0)), some (dv (.lst (hs.map hdD))), some (dv (.lst (rows.map prD))), some (dv (.str s)), some (dv (.int (m + 1 : Nat))), some (dv (.int c)), some (dO (.lst (os.map hdD))), none, none, some (dv (.str o)), none]) ?_ ?_
  · walk_at "dl"
    obtain ⟨o, ho, eo⟩ := pick_as (c.fdiv 8)
    rw [eo]
    exact ⟨of_eq_true (fd_lit (by decide) (by decide)), trivial, o, ho, rfl⟩
  rintro _ ⟨o, ho, rfl⟩
  refine cut_seq (fun ρ => ∃ (o : Str) (ks : List Str), o ∈ ops ∧ ks.length ≤ 3 ∧ ρ = [some (dv (.fd 0)), some (dv (.lst (hs.map hdD))), some (dv (.lst (rows.map prD))), some (dv (.str s)), some (dv (.int (m + 1 : Nat))), some (dv (.int c)), some (dO (.lst (os.map hdD))), none, none, some (dv (.str o)), some (dO (.lst (ks.map D.str)))]) ?_ ?_
  · walk_at "dl"
    exact ⟨o, ["num", "num"], ho, by decide, rfl⟩
  rintro _ ⟨o, ks, ho, hk, rfl⟩
  refine cut_seq (fun ρ => ∃ (o : Str) (ks : List Str), o ∈ ops ∧ ks.length ≤ 3 ∧ ρ = [some (dv (.fd 0)), some (dv (.lst (hs.map hdD))), some (dv (.lst (rows.map prD))), some (dv (.str s)), some (dv (.int (m + 1 : Nat))), some (dv (.int c)), some (dO (.lst (os.map hdD))), none, none, some (dv (.str o)), some (dO (.lst (ks.map D.str)))]) ?_ ?_
  · walk_at "dl"
    exact ⟨fun _ => ⟨"cons", ["num", "list"], by decide, by decide, rfl⟩, fun _ => ⟨o, ks, ho, hk, rfl⟩⟩
  rintro _ ⟨o, ks, ho, hk, rfl⟩
  refine cut_seq (fun ρ => ∃ (o : Str) (ks : List Str), o ∈ ops ∧ ks.length ≤ 3 ∧ ρ = [some (dv (.fd 0)), some (dv (.lst (hs.map hdD))), some (dv (.lst (rows.map prD))), some (dv (.str s)), some (dv (.int (m + 1 : Nat))), some (dv (.int c)), some (dO (.lst (os.map hdD))), none, none, some (dv (.str o)), some (dO (.lst (ks.map D.str)))]) ?_ ?_
  · walk_at "dl"
    exact ⟨fun _ => ⟨"node", ["tree", "num", "tree"], by decide, by decide, rfl⟩, fun _ => ⟨o, ks, ho, hk, rfl⟩⟩
  rintro _ ⟨o, ks, ho, hk, rfl⟩
  refine cut_seq (fun ρ => ∃ (rs : List (D × List Str)) (x : Option EV), rs.length = ks.length ∧ (∀ r ∈ rs, Ex (m + 1) r.1 r.2) ∧ ρ = [some (dv (.fd 0)), some (dv (.lst (hs.map hdD))), some (dv (.lst (rows.map prD))), some (dv (.str s)), some (dv (.int (m + 1 : Nat))), some (dv (.int c)), some (dO (.lst (os.map hdD))), none, some (dO (.lst (rs.map rowD))), some (dv (.str o)), x]) ?_ ?_
  · walk_at "dl"
    refine dCompP_at (ks.map D.str) (fun ψ hψ => ?_) (RowsE (m + 1)) (by rw [List.length_map]; omega) ⟨[], rfl, rfl, fun _ z => (nomatch z)⟩ ?_ ?_
    · walk_at "dl"
      exact hψ
    · rintro k e fs he hle wd
      rw [List.getElem?_map] at he
      obtain ⟨p, hp, rfl⟩ := Option.map_eq_some_iff.mp he
      simp only [ρ0, List.map_cons, List.map_nil, List.replicate, List.cons_append, List.nil_append]
      walk_at "dl"
      exact ⟨_, _, _, _, _, rfl, rfl, hs, rows, p, rfl, oh, rfl, ot, rfl, by rw [show ((m + 1 : Nat) : Int) - 1 = (m : Int) by omega], by omega, fun e c hec => ⟨trivial, rowsE_add wd hec⟩⟩
    · rintro fs ⟨zs, rfl, lz, hz⟩
      rw [List.length_map] at lz
      walk_at "dl"
      exact ⟨zs, _, lz, hz, rfl⟩
  rintro _ ⟨rs, x, lr, hr', rfl⟩
  have wl := wds_len hr' (by omega) (by omega)
  walk_at "dl"
  refine dComp_at (rs.map rowD) (fun ψ hψ => ?_) fstD (by rw [List.length_map]; omega) (fun d hd => ?_) ?_
  · walk_at "dl"
    exact hψ
  · obtain ⟨r, _, rfl⟩ := List.mem_map.mp hd
    unfold rowD
    simp only [ρ0, List.map_cons, List.map_nil, List.replicate, List.cons_append, List.nil_append]
    walk_at "dl"
    rfl
  rw [fst_rows]
  walk_at "dl"
  simp only [tFlat, DL.g1]
  have key := h (.tup (.str o :: rs.map Prod.fst)) ([lp, o] ++ (rs.map Prod.snd).flatten ++ [rp]) (.inr (.inr ⟨o, _, _, ho, rows_pair hr', by rw [List.length_map]; omega, rfl, rfl⟩))
  have pu := strs_pure ([lp, o] ++ wds rs ++ [rp])
  unfold rowD at key
  rw [List.map_append, List.map_append] at key pu
  exact ⟨by rw [sLine]; omega, rs, rfl, by omega, by simp only [List.length_map, List.length_cons, List.length_nil]; rw [sLine]; omega, by simp only [List.length_append, List.length_map, List.length_cons, List.length_nil]; rw [sLine]; omega, ⟨rows_pure hr', pu⟩, key⟩

theorem fd_lawE (T : Tops mg) (F1 : FD P w K mg base 1 "_law_next" ["_law_feed"] tNext1) (F2 : FD P w K mg base 1 "_law_plain" ["_law_there", "_law_shape", "_law_cell"] tPlain) (F3 : FD P w K mg base 1 "_law_flat" ["_law_made"] tFlat) (F : Fun K "_law_e" "_law_e" (top 13) f fd) (m : mg "_law_e" = some (.ref f)) : ∀ n : Nat, FD P w K mg base (n + 2) "_law_e" ["_law_feed", "_law_heads", "_law_there", "_law_shape", "_law_deep"] (tE n)
  | 0 => by
    have S : FnScope ["_law_feed", "_law_heads", "_law_there", "_law_shape", "_law_deep", "_law_cell", "_law_some", "_law_head_here", "_law_made", "_law_word", "_law_kinds"] ["_law_feed", "_law_heads", "_law_there", "_law_shape", "_law_deep"] (defScope (top 13)) := ⟨rfl, rfl, rfl, by decide +kernel, rfl, by decide +kernel, by decide +kernel⟩
    refine fd_of F S (F.binds fun _ _ _ _ _ _ us hl => match us, hl with | [_, _, _, _, _], _ => rfl) m fun cdv A outer s H E ds φ hr hl hT => ?_
    exact hT.elim
  | n + 1 => fd_law_e T F1 F2 F3 (fd_lawE T F1 F2 F3 F m n) F m
end

set_option Elab.async false
set_option linter.all false
set_option maxRecDepth 100000
set_option maxHeartbeats 8000000
set_option exponentiation.threshold 5000
section
variable {P : Program} {w : World} {K : PySem.W.Frag} {mg : Str → Option Value} {base : Heap} {f : Addr} {fd : FuncData}

noncomputable def g6 (g : D → D → D → D → D → D → (EV → Prop) → Prop) : FT := fun ds φ => ∃ a b c d e f, ds = [a, b, c, d, e, f] ∧ g a b c d e f φ
noncomputable def g8 (g : D → D → D → D → D → D → D → D → (EV → Prop) → Prop) : FT := fun ds φ => ∃ a b c d e f i j, ds = [a, b, c, d, e, f, i, j] ∧ g a b c d e f i j φ
noncomputable def OkR (n : Nat) (rows : List (Str × Str)) : Prop := (∀ p ∈ rows, GoodW p.1) ∧ rows.length + 3 * n ≤ 100
noncomputable def OkZ (n : Nat) (zs : List Str) : Prop := (∀ z ∈ zs, GoodW z) ∧ 3 * n ≤ zs.length ∧ zs.length ≤ 100
noncomputable def tBody : Nat → FT
  | 0 => fun _ _ => False
  | n + 1 => g6 fun fe he th na sh de φ => fe = .fd 0 ∧ ∃ (hs : List Hd) (rows : List (Str × Str)) (zs : List Str) (s : Str), he = .lst (hs.map hdD) ∧ OkHs hs ∧ th = .lst (rows.map prD) ∧ OkR n rows ∧ na = .lst (zs.map D.str) ∧ OkZ n zs ∧ sh = .str s ∧ de = .int n ∧ n ≤ 4 ∧ ∀ b c, Bo (n + 1) b c → φ ⟨.new, rowD (b, c)⟩
noncomputable def tOpen (n : Nat) : FT := g8 fun fe he th na sh de op ki φ => fe = .fd 0 ∧ ∃ (hs : List Hd) (rows : List (Str × Str)) (zs : List Str) (s : Str) (o k : Str), he = .lst (hs.map hdD) ∧ OkHs hs ∧ th = .lst (rows.map prD) ∧ OkR n rows ∧ na = .lst (zs.map D.str) ∧ OkZ n zs ∧ sh = .str s ∧ de = .int n ∧ 1 ≤ n ∧ n ≤ 4 ∧ op = .str o ∧ GoodW o ∧ ki = .str k ∧ (k = "list" ∨ k = "tree") ∧ ∀ b c, Bo (n + 1) b c → φ ⟨.new, rowD (b, c)⟩
theorem words_eq (k o : Str) (c1 zs c2 : List Str) : bk [k, o] [c1, brW zs, c2] = lp :: k :: o :: (c1 ++ [lp] ++ zs ++ [rp] ++ c2 ++ [rp]) := by
  simp [bk, brW]
theorem pick_kinds (k : Str) : ∃ ks : List Str, (ks = [("num" : Str), "list"] ∨ ks = [("tree" : Str), "num", "tree"]) ∧ atI [df (D.lst [.str "num", .str "list"]), df (D.lst [.str "tree", .str "num", .str "tree"])] (if k = "tree" then 1 else 0) = some (df (.lst (ks.map D.str))) := by
  by_cases h : k = "tree"
  · exact ⟨["tree", "num", "tree"], .inr rfl, by rw [if_pos h, atI_1]; rfl⟩
  · exact ⟨["num", "list"], .inl rfl, by rw [if_neg h, atI_0]; rfl⟩
theorem fd_law_open {n : Nat} (T : Tops mg) (F__law_body : FD P w K mg base (2 * n + 7) "_law_body" ["_law_feed", "_law_heads", "_law_there", "_law_names", "_law_shape", "_law_deep"] (tBody n)) (F : Fun K "_law_open" "_law_open" (top 14) f fd) (m : mg "_law_open" = some (.ref f)) : FD P w K mg base (2 * n + 8) "_law_open" ["_law_feed", "_law_heads", "_law_there", "_law_names", "_law_shape", "_law_deep", "_law_opened", "_law_kind"] (tOpen n) := by
  have S : FnScope ["_law_feed", "_law_heads", "_law_there", "_law_names", "_law_shape", "_law_deep", "_law_opened", "_law_kind", "_law_kinds", "_law_some", "_law_brought", "_law_first", "_law_other", "_law_words"] ["_law_feed", "_law_heads", "_law_there", "_law_names", "_law_shape", "_law_deep", "_law_opened", "_law_kind"] (defScope (top 14)) := ⟨rfl, rfl, rfl, by decide +kernel, rfl, by decide +kernel, by decide +kernel⟩
  refine fd_of F S (F.binds fun _ _ _ _ _ _ us hl => match us, hl with | [_, _, _, _, _, _, _, _], _ => rfl) m fun cdv A outer s H E ds φ hr hl hT => ?_
  have hu := hr.units
  refine ⟨_, (ss_cons (sd_cut (sd_set 8 S.nd (ed_pick (ea_cons (ed_lst (ea_cons ed_str (ea_cons ed_str ea_nil))) (ea_cons (ed_lst (ea_cons ed_str (ea_cons ed_str (ea_cons ed_str ea_nil)))) ea_nil)) (ed_intC T.int (ea_cons (ed_eq hu (ed_name 7) ed_str) ea_nil)))))
      (ss_cons (sd_cut (sd_setCompP (T := ["_law_k"]) (F := ["_law_names", "_law_kinds"]) (js := [3, 8]) 9 S.nd (ei_range1 T.range (ea_cons (ed_len T.len (ea_cons (ed_name 8) ea_nil)) ea_nil)) (show CompScope (defScope (top 14)) _ ["_law_k"] ["_law_names", "_law_kinds"] from ⟨rfl, by decide +kernel, by decide +kernel, by decide +kernel, by decide +kernel, by decide +kernel⟩) (.cons rfl (.cons rfl .nil)) (by decide) (fun cl C fp s H => (pg_name (i := 0) (show ((["_law_k"] : List Str) ++ (["_law_names", "_law_kinds"] : List Str)).Nodup by decide +kernel) rfl (by first | exact Or.inl rfl | exact Or.inr rfl))) (gk_name (by decide)) (gl_name 0) (fun cl C fp s H => eif_nil) (fun cl C fp s H => (ed_tupN (ea_cons (ed_ixx hu (ed_name 1) (ed_name 0)) (ea_cons (ed_ixx hu (ed_name 2) (ed_name 0)) ea_nil))))))
      (ss_cons (sd_cut (sd_set 10 S.nd (ed_slice (ed_name 3) eo_none (eo_some (ed_len T.len (ea_cons (ed_name 8) ea_nil))))))
      (ss_cons (sd_cut (sd_set 11 S.nd (ed_call F__law_body (hr.mono (by omega)) (ea_cons (ed_name 0) (ea_cons (ed_name 1) (ea_cons (ed_name 2) (ea_cons (ed_name 3) (ea_cons (ed_name 4) (ea_cons (ed_sub (ed_name 5) ed_int) ea_nil)))))))))
      (ss_cons (sd_cut (sd_set 12 S.nd (ed_call F__law_body (hr.mono (by omega)) (ea_cons (ed_name 0) (ea_cons (ed_name 1) (ea_cons (ed_add (ed_name 2) (ed_name 9)) (ea_cons (ed_slice (ed_name 3) (eo_some (ed_len T.len (ea_cons (ed_name 8) ea_nil))) eo_none) (ea_cons (ed_name 4) (ea_cons (ed_sub (ed_name 5) ed_int) ea_nil)))))))))
      (ss_cons (sd_cut (sd_set 13 S.nd (ed_add (ed_add (ed_add (ed_add (ed_add (ed_add (ed_lst (ea_cons ed_str (ea_cons (ed_name 7) (ea_cons (ed_name 6) ea_nil)))) (ed_ixx hu (ed_name 11) ed_int)) (ed_lst (ea_cons ed_str ea_nil))) (ed_name 10)) (ed_lst (ea_cons ed_str ea_nil))) (ed_ixx hu (ed_name 12) ed_int)) (ed_lst (ea_cons ed_str ea_nil)))))
      (ss_one (sd_retT (ea_cons (ed_addN (ed_addN (ed_tupN (ea_cons (ed_name 7) (ea_cons (ed_name 6) (ea_cons (ed_ixx hu (ed_name 11) ed_int) ea_nil)))) (ed_tupleC T.tuple (ea_cons (ed_name 10) ea_nil))) (ed_tupN (ea_cons (ed_ixx hu (ed_name 12) ed_int) ea_nil))) (ea_cons (ed_name 13) ea_nil)))))))))), ?_⟩
  obtain ⟨a0, b0, c0, d0, e0, f0, g0, h0, rfl, rfl, hs, rows, zs, s, o, k, rfl, oh, rfl, ⟨or1, or2⟩, rfl, ⟨oz1, oz2, oz3⟩, rfl, rfl, hn1, hn4, rfl, go, rfl, hk, h⟩ := hT
  obtain ⟨m, rfl⟩ : ∃ m, n = m + 1 := ⟨n - 1, by omega⟩
  obtain ⟨ks, hks, eks⟩ := pick_kinds k
  have kl : ks.length ≤ 3 ∧ ks ≠ [] := by rcases hks with rfl | rfl <;> decide
  refine cut_seq (fun ρ => ρ = [some (dv (.fd 0)), some (dv (.lst (hs.map hdD))), some (dv (.lst (rows.map prD))), some (dv (.lst (zs.map D.str))), some (dv (.str s)), some (dv (.int (m + 1 : Nat))), some (dv (.str o)), some (dv (.str k)), some (dO (.lst (ks.map D.str))), none, none, none, none, none]) ?_ ?_
  · walk_at "dl"
    rw [eks]
    exact ⟨trivial, rfl⟩
  rintro _ rfl
  refine cut_seq (fun ρ => ∃ more : List (Str × Str), (∀ p ∈ more, GoodW p.1) ∧ more.length ≤ 3 ∧ ρ = [some (dv (.fd 0)), some (dv (.lst (hs.map hdD))), some (dv (.lst (rows.map prD))), some (dv (.lst (zs.map D.str))), some (dv (.str s)), some (dv (.int (m + 1 : Nat))), some (dv (.str o)), some (dv (.str k)), some (dO (.lst (ks.map D.str))), some (dO (.lst (more.map prD))), none, none, none, none]) ?_ ?_
  · refine dCompP_at (rngD 0 ks.length) (fun ψ hψ => ?_) (fun i fs => ∃ more : List (Str × Str), fs = more.map prD ∧ (∀ p ∈ more, GoodW p.1) ∧ more.length ≤ i) (by rw [rng_len]; omega) ⟨[], rfl, fun _ z => (nomatch z), Nat.le_refl _⟩ ?_ ?_
    · walk_at "dl"
      rw [Int.toNat_natCast]
      exact ⟨by omega, by omega, hψ⟩
    · rintro i e fs he hle ⟨more, rfl, hm1, hm2⟩
      obtain ⟨hi, rfl⟩ := rng_get he
      simp only [ρ0, List.map_cons, List.map_nil, List.replicate, List.cons_append, List.nil_append]
      walk_at "dl"
      rw [atI_nat (by omega), List.getElem?_eq_getElem (by omega), atI_nat hi, List.getElem?_eq_getElem hi]
      refine ⟨⟨trivial, trivial⟩, more ++ [(zs[i]'(by omega), ks[i])], by rw [List.map_append]; rfl, fun p hp => ?_, by rw [List.length_append]; exact Nat.succ_le_succ hm2⟩
      rcases List.mem_append.mp hp with hp | hp
      · exact hm1 p hp
      · rw [List.mem_singleton.mp hp]
        exact oz1 _ (List.getElem_mem _)
    · rintro fs ⟨more, rfl, hm1, hm2⟩
      rw [rng_len] at hm2
      exact ⟨trivial, more, hm1, by omega, rfl⟩
  rintro _ ⟨more, hm1, hm2, rfl⟩
  refine cut_seq (fun ρ => ρ = [some (dv (.fd 0)), some (dv (.lst (hs.map hdD))), some (dv (.lst (rows.map prD))), some (dv (.lst (zs.map D.str))), some (dv (.str s)), some (dv (.int (m + 1 : Nat))), some (dv (.str o)), some (dv (.str k)), some (dO (.lst (ks.map D.str))), some (dO (.lst (more.map prD))), some (dO (.lst ((zs.take ks.length).map D.str))), none, none, none]) ?_ ?_
  · walk_at "dl"
    rw [cutD_take, ← List.map_take]
  rintro _ rfl
  refine cut_seq (fun ρ => ∃ b1 c1, Bo (m + 1) b1 c1 ∧ ρ = [some (dv (.fd 0)), some (dv (.lst (hs.map hdD))), some (dv (.lst (rows.map prD))), some (dv (.lst (zs.map D.str))), some (dv (.str s)), some (dv (.int (m + 1 : Nat))), some (dv (.str o)), some (dv (.str k)), some (dO (.lst (ks.map D.str))), some (dO (.lst (more.map prD))), some (dO (.lst ((zs.take ks.length).map D.str))), some (dv (rowD (b1, c1))), none, none]) ?_ ?_
  · walk_at "dl"
    exact ⟨_, _, _, _, _, _, rfl, rfl, hs, rows, zs, s, rfl, oh, rfl, ⟨or1, by omega⟩, rfl, ⟨oz1, by omega, oz3⟩, rfl, by rw [show ((m + 1 : Nat) : Int) - 1 = (m : Int) by omega], by omega, fun b c hbc => ⟨trivial, b, c, hbc, rfl⟩⟩
  rintro _ ⟨b1, c1, hb1, rfl⟩
  refine cut_seq (fun ρ => ∃ b2 c2, Bo (m + 1) b2 c2 ∧ ρ = [some (dv (.fd 0)), some (dv (.lst (hs.map hdD))), some (dv (.lst (rows.map prD))), some (dv (.lst (zs.map D.str))), some (dv (.str s)), some (dv (.int (m + 1 : Nat))), some (dv (.str o)), some (dv (.str k)), some (dO (.lst (ks.map D.str))), some (dO (.lst (more.map prD))), some (dO (.lst ((zs.take ks.length).map D.str))), some (dv (rowD (b1, c1))), some (dv (rowD (b2, c2))), none]) ?_ ?_
  · walk_at "dl"
    refine ⟨by rw [sLine]; omega, _, _, _, _, _, _, rfl, rfl, hs, rows ++ more, zs.drop ks.length, s, rfl, oh, by rw [List.map_append], ⟨fun p hp => ?_, by rw [List.length_append]; omega⟩, by rw [cutD_drop, List.map_drop], ⟨fun z hz => oz1 z (List.mem_of_mem_drop hz), by rw [List.length_drop]; omega, by rw [List.length_drop]; omega⟩, rfl, by rw [show ((m + 1 : Nat) : Int) - 1 = (m : Int) by omega], by omega, fun b c hbc => ⟨trivial, b, c, hbc, rfl⟩⟩
    rcases List.mem_append.mp hp with hp | hp
    · exact or1 p hp
    · exact hm1 p hp
  rintro _ ⟨b2, c2, hb2, rfl⟩
  refine cut_seq (fun ρ => ρ = [some (dv (.fd 0)), some (dv (.lst (hs.map hdD))), some (dv (.lst (rows.map prD))), some (dv (.lst (zs.map D.str))), some (dv (.str s)), some (dv (.int (m + 1 : Nat))), some (dv (.str o)), some (dv (.str k)), some (dO (.lst (ks.map D.str))), some (dO (.lst (more.map prD))), some (dO (.lst ((zs.take ks.length).map D.str))), some (dv (rowD (b1, c1))), some (dv (rowD (b2, c2))), some (dO (.lst ((bk [k, o] [c1, brW (zs.take ks.length), c2]).map D.str)))]) ?_ ?_
  · have f1 := (bo_facts _ _ _ hb1).2.1
    have f2 := (bo_facts _ _ _ hb2).2.1
    have f3 := lb_mono (n := m + 1) (by omega)
    have f4 := len_wsum c1
    have f5 := len_wsum c2
    have f6 := List.length_take_le ks.length zs
    rw [words_eq]
    unfold rowD
    walk_at "dl"
    simp only [List.length_append, List.length_map, List.length_cons, List.length_nil, List.map_append]
    rw [sLine]
    exact ⟨by omega, by omega, by omega, by omega, by omega, by omega, rfl⟩
  rintro _ rfl
  have f1 := (bo_facts _ _ _ hb1).2.2
  have f2 := (bo_facts _ _ _ hb2).2.2
  have f6 := List.length_take_le ks.length zs
  have key := h (.tup ([.str k, .str o, b1] ++ (zs.take ks.length).map D.str ++ [b2])) (bk [k, o] [c1, brW (zs.take ks.length), c2]) (.inr (.inr (.inr ⟨k, o, b1, c1, zs.take ks.length, b2, c2, hk, go, hb1, fun w hw => oz1 w (List.mem_of_mem_take hw), fun z => ?_, by omega, hb2, rfl, rfl⟩)))
  · unfold rowD
    walk_at "dl"
    unfold rowD at key
    exact ⟨f1, strs_pure _, by rw [sLine]; omega, f2, by rw [sLine]; omega, strs_pure _, key⟩
  · have := congrArg List.length z
    rw [List.length_take, List.length_nil] at this
    have := List.length_pos_iff.mpr kl.2
    omega
end

set_option Elab.async false
set_option linter.all false
set_option maxRecDepth 100000
set_option maxHeartbeats 8000000
set_option exponentiation.threshold 5000
section
variable {P : Program} {w : World} {K : PySem.W.Frag} {mg : Str → Option Value} {base : Heap} {f : Addr} {fd : FuncData}

theorem pick_3 (x : Int) : ∃ k : Str, atI [dv (D.str "num"), dv (D.str "list"), dv (D.str "tree")] (x.fmod 3) = some (dv (.str k)) := by
  have m := mod_bd x 3 (by decide)
  rcases (by omega : x.fmod 3 = 0 ∨ x.fmod 3 = 1 ∨ x.fmod 3 = 2) with e | e | e
  · exact ⟨"num", by rw [e, atI_0]⟩
  · exact ⟨"list", by rw [e, atI_1]⟩
  · exact ⟨"tree", by rw [e, atI_2]⟩
theorem bk1 (k : List Str) : bk ["give"] [k] = [lp, "give"] ++ k ++ [rp] := by simp [bk]
theorem bk2 (z : Str) (q c : List Str) : bk ["let", z] [q, c] = [lp, "let", z] ++ q ++ c ++ [rp] := by simp [bk]
theorem sIf_any {tc : TDb} {t1 t2 : TDS} {ρ : DE} {Z : DZ} {Q : Prop} (h : ∀ ψ : Bool → Prop, (∀ b, (b = false → Q) → ψ b) → tc ρ ψ) (h1 : t1 ρ Z) (h2 : Q → t2 ρ Z) : sIf tc t1 t2 ρ Z := h _ fun b q => ⟨fun _ => h1, fun hb => h2 (q hb)⟩
theorem pick_lt (b : Bool) : ∃ k : Str, (k = "list" ∨ k = "tree") ∧ atI [dv (D.str "list"), dv (D.str "tree")] (if b = true then 1 else 0) = some (dv (.str k)) := by
  cases b
  · exact ⟨"list", .inl rfl, by rw [if_neg (by decide), atI_0]⟩
  · exact ⟨"tree", .inr rfl, by rw [if_pos rfl, atI_1]⟩
theorem fd_law_body {n : Nat} (T : Tops mg) (F2__law_e : FD P w K mg base 5 "_law_e" ["_law_feed", "_law_heads", "_law_there", "_law_shape", "_law_deep"] (tE 3)) (F__law_next : FD P w K mg base 1 "_law_next" ["_law_feed"] tNext1) (F__law_flat : FD P w K mg base 1 "_law_flat" ["_law_made"] tFlat) (F__law_e : FD P w K mg base 6 "_law_e" ["_law_feed", "_law_heads", "_law_there", "_law_shape", "_law_deep"] (tE 4)) (F__law_body : FD P w K mg base (2 * n + 7) "_law_body" ["_law_feed", "_law_heads", "_law_there", "_law_names", "_law_shape", "_law_deep"] (tBody n)) (F__law_open : FD P w K mg base (2 * n + 8) "_law_open" ["_law_feed", "_law_heads", "_law_there", "_law_names", "_law_shape", "_law_deep", "_law_opened", "_law_kind"] (tOpen n)) (F : Fun K "_law_body" "_law_body" (top 15) f fd) (m : mg "_law_body" = some (.ref f)) : FD P w K mg base (2 * n + 9) "_law_body" ["_law_feed", "_law_heads", "_law_there", "_law_names", "_law_shape", "_law_deep"] (tBody (n + 1)) := by
  have S : FnScope ["_law_feed", "_law_heads", "_law_there", "_law_names", "_law_shape", "_law_deep", "_law_cell", "_law_way", "_law_made", "_law_kind", "_law_body_here", "_law_some"] ["_law_feed", "_law_heads", "_law_there", "_law_names", "_law_shape", "_law_deep"] (defScope (top 15)) := ⟨rfl, rfl, rfl, by decide +kernel, rfl, by decide +kernel, by decide +kernel⟩
  refine fd_of F S (F.binds fun _ _ _ _ _ _ us hl => match us, hl with | [_, _, _, _, _, _], _ => rfl) m fun cdv A outer s H E ds φ hr hl hT => ?_
  have hu := hr.units
  refine ⟨_, (ss_cons (sd_cut (sd_set 6 S.nd (ed_call F__law_next (hr.mono (by omega)) (ea_cons (ed_name 0) ea_nil))))
      (ss_cons (sd_cut (sd_set 7 S.nd (ed_mod (ed_name 6) ed_int)))
      (ss_cons (sd_cut (sd_if (EW.et (ew_or (et_lt (ed_name 7) ed_int) (ew_or (et_lt (ed_name 5) ed_int) (ew_or1 (et_lt (ed_fd0 0) ed_int))))) (ss_cons (sd_cut (sd_set 8 S.nd (ed_call F__law_e (hr.mono (by omega)) (ea_cons (ed_name 0) (ea_cons (ed_name 1) (ea_cons (ed_name 2) (ea_cons (ed_name 4) (ea_cons ed_int ea_nil))))))))
        (ss_one (sd_ret (ed_tupN (ea_cons (ed_tupN (ea_cons ed_str (ea_cons (ed_ixx hu (ed_name 8) ed_int) ea_nil))) (ea_cons (ed_add (ed_add (ed_lst (ea_cons ed_str (ea_cons ed_str ea_nil))) (ed_ixx hu (ed_name 8) ed_int)) (ed_lst (ea_cons ed_str ea_nil))) ea_nil)))))) ss_nil))
      (ss_cons (sd_cut (sd_fdput 0 (ed_sub (ed_fd0 0) ed_int)))
      (ss_cons (sd_cut (sd_if (et_lt (ed_name 7) ed_int) (ss_cons (sd_cut (sd_set 9 S.nd (ed_pick (ea_cons ed_str (ea_cons ed_str (ea_cons ed_str ea_nil))) (ed_mod (ed_fd (ed_name 6) ed_int) ed_int))))
        (ss_cons (sd_cut (sd_set 8 S.nd (ed_call F2__law_e (hr.mono (by omega)) (ea_cons (ed_name 0) (ea_cons (ed_name 1) (ea_cons (ed_name 2) (ea_cons (ed_name 9) (ea_cons ed_int ea_nil))))))))
        (ss_cons (sd_cut (sd_set 10 S.nd (ed_call F__law_body (hr.mono (by omega)) (ea_cons (ed_name 0) (ea_cons (ed_name 1) (ea_cons (ed_add (ed_name 2) (ed_lst (ea_cons (ed_tupN (ea_cons (ed_ixx hu (ed_name 3) ed_int) (ea_cons (ed_name 9) ea_nil))) ea_nil))) (ea_cons (ed_slice (ed_name 3) (eo_some ed_int) eo_none) (ea_cons (ed_name 4) (ea_cons (ed_sub (ed_name 5) ed_int) ea_nil)))))))))
        (ss_one (sd_ret (ed_tupN (ea_cons (ed_tupN (ea_cons ed_str (ea_cons (ed_ixx hu (ed_name 3) ed_int) (ea_cons (ed_ixx hu (ed_name 8) ed_int) (ea_cons (ed_ixx hu (ed_name 10) ed_int) ea_nil))))) (ea_cons (ed_add (ed_add (ed_add (ed_lst (ea_cons ed_str (ea_cons ed_str (ea_cons (ed_ixx hu (ed_name 3) ed_int) ea_nil)))) (ed_ixx hu (ed_name 8) ed_int)) (ed_ixx hu (ed_name 10) ed_int)) (ed_lst (ea_cons ed_str ea_nil))) ea_nil)))))))) ss_nil))
      (ss_cons (sd_cut (sd_set 9 S.nd (ed_pick (ea_cons ed_str (ea_cons ed_str ea_nil)) (ed_intC T.int (ea_cons (ed_gt (ed_name 7) ed_int) ea_nil)))))
      (ss_cons (sd_cut (sd_setCompP (T := ["_law_name_here", "_law_one"]) (F := ["_law_kind"]) (js := [9]) 11 S.nd (ei_seq (ed_name 2)) (show CompScope (defScope (top 15)) _ ["_law_name_here", "_law_one"] ["_law_kind"] from ⟨rfl, by decide +kernel, by decide +kernel, by decide +kernel, by decide +kernel, by decide +kernel⟩) (.cons rfl .nil) (by decide) (fun cl C fp s H => (pg_tupK (K0 := K) (n := 2) (by rfl) (by rfl) (pgs_cons (pg_name (i := 0) (show ((["_law_name_here", "_law_one"] : List Str) ++ (["_law_kind"] : List Str)).Nodup by decide +kernel) rfl (by first | exact Or.inl rfl | exact Or.inr rfl)) (pgs_cons (pg_name (i := 1) (show ((["_law_name_here", "_law_one"] : List Str) ++ (["_law_kind"] : List Str)).Nodup by decide +kernel) rfl (by first | exact Or.inl rfl | exact Or.inr rfl)) pgs_nil)))) (gk_tup (gk_cons gm_name (gm_cons gm_name gm_nil) (gk_name (by decide)) (gk_cons gm_name gm_nil (gk_name (by decide)) gk_nil))) (gl_tup2 0 1) (fun cl C fp s H => (eif_one (et_eq hu (ed_name 1) (ed_name 2)))) (fun cl C fp s H => (ed_name 0))))
      (ss_cons (sd_cut (sd_if (EW.et (ew_and (et_lt (ed_name 7) ed_int) (ew_and1 (et_ne hu (ed_name 11) (ed_lst ea_nil))))) (ss_one (sd_ret (ed_call F__law_open (hr.mono (by omega)) (ea_cons (ed_name 0) (ea_cons (ed_name 1) (ea_cons (ed_name 2) (ea_cons (ed_name 3) (ea_cons (ed_name 4) (ea_cons (ed_name 5) (ea_cons (ed_ixx hu (ed_name 11) (ed_mod (ed_fd (ed_name 6) ed_int) (ed_len T.len (ea_cons (ed_name 11) ea_nil)))) (ea_cons (ed_name 9) ea_nil))))))))))) ss_nil))
      (ss_cons (sd_cut (sd_set 8 S.nd (ed_lst (ea_cons (ed_call F2__law_e (hr.mono (by omega)) (ea_cons (ed_name 0) (ea_cons (ed_name 1) (ea_cons (ed_name 2) (ea_cons ed_str (ea_cons ed_int ea_nil)))))) (ea_cons (ed_call F2__law_e (hr.mono (by omega)) (ea_cons (ed_name 0) (ea_cons (ed_name 1) (ea_cons (ed_name 2) (ea_cons ed_str (ea_cons ed_int ea_nil)))))) ea_nil)))))
      (ss_cons (sd_cut (sd_append 8 (ed_call F__law_body (hr.mono (by omega)) (ea_cons (ed_name 0) (ea_cons (ed_name 1) (ea_cons (ed_name 2) (ea_cons (ed_name 3) (ea_cons (ed_name 4) (ea_cons (ed_sub (ed_name 5) ed_int) ea_nil)))))))))
      (ss_cons (sd_cut (sd_append 8 (ed_call F__law_body (hr.mono (by omega)) (ea_cons (ed_name 0) (ea_cons (ed_name 1) (ea_cons (ed_name 2) (ea_cons (ed_name 3) (ea_cons (ed_name 4) (ea_cons (ed_sub (ed_name 5) ed_int) ea_nil)))))))))
      (ss_one (sd_frz 8 (sd_ret (ed_tupN (ea_cons (ed_tupleC T.tuple (ea_cons (ed_add (ed_lst (ea_cons ed_str ea_nil)) (ed_comp (T := ["_law_one", "_law_more"]) (F := []) (js := []) (ei_seq (ed_name 8)) (show CompScope (defScope (top 15)) _ ["_law_one", "_law_more"] [] from ⟨rfl, by decide +kernel, by decide +kernel, by decide +kernel, by decide +kernel, by decide +kernel⟩) .nil (by decide) (fun cl C fp s H => (pg_tupK (K0 := K) (n := 2) (by rfl) (by rfl) (pgs_cons (pg_name (i := 0) (show ((["_law_one", "_law_more"] : List Str) ++ ([] : List Str)).Nodup by decide +kernel) rfl (by first | exact Or.inl rfl | exact Or.inr rfl)) (pgs_cons (pg_name (i := 1) (show ((["_law_one", "_law_more"] : List Str) ++ ([] : List Str)).Nodup by decide +kernel) rfl (by first | exact Or.inl rfl | exact Or.inr rfl)) pgs_nil)))) (gk_tup (gk_cons gm_name (gm_cons gm_name gm_nil) (gk_name (by decide)) (gk_cons gm_name gm_nil (gk_name (by decide)) gk_nil))) (gl_tup2 0 1) (fun cl C fp s H => eif_nil) (fun cl C fp s H => (ed_name 0)))) ea_nil)) (ea_cons (ed_add (ed_add (ed_lst (ea_cons ed_str (ea_cons ed_str ea_nil))) (ed_call F__law_flat (hr.mono (by omega)) (ea_cons (ed_name 8) ea_nil))) (ed_lst (ea_cons ed_str ea_nil))) ea_nil))))))))))))))))), ?_⟩
  obtain ⟨a0, b0, c0, d0, e0, f0, rfl, rfl, hs, rows, zs, s, rfl, oh, rfl, ⟨or1, or2⟩, rfl, ⟨oz1, oz2, oz3⟩, rfl, rfl, hn4, h⟩ := hT
  refine cut_seq (fun ρ => ∃ c : Int, ρ = [some (dv (.fd 0)), some (dv (.lst (hs.map hdD))), some (dv (.lst (rows.map prD))), some (dv (.lst (zs.map D.str))), some (dv (.str s)), some (dv (.int n)), some (dv (.int c)), none, none, none, none, none]) ?_ ?_
  · walk_at "dl"
    simp only [tNext1, DL.g1]
    exact ⟨trivial, fun c => ⟨trivial, c, rfl⟩⟩
  rintro _ ⟨c, rfl⟩
  refine cut_seq (fun ρ => ρ = [some (dv (.fd 0)), some (dv (.lst (hs.map hdD))), some (dv (.lst (rows.map prD))), some (dv (.lst (zs.map D.str))), some (dv (.str s)), some (dv (.int n)), some (dv (.int c)), some (dv (.int (c.fmod 8))), none, none, none, none]) ?_ ?_
  · walk_at "dl"
  rintro _ rfl
  refine cut_seq (fun ρ => ∃ m : Nat, n = m + 1 ∧ ρ = [some (dv (.fd 0)), some (dv (.lst (hs.map hdD))), some (dv (.lst (rows.map prD))), some (dv (.lst (zs.map D.str))), some (dv (.str s)), some (dv (.int n)), some (dv (.int c)), some (dv (.int (c.fmod 8))), none, none, none, none]) ?_ ?_
  · refine sIf_any (Q := 1 ≤ n) (fun ψ hψ => ?_) ?_ (fun q => ?_)
    · walk_at "dl"
      have t : ψ true := hψ true fun z => (nomatch z)
      exact ⟨fun _ => t, fun _ => ⟨fun _ => t, fun hn => fun c1 => hψ _ fun _ => by omega⟩⟩
    · refine cut_seq (fun ρ => ∃ e k, Ex 4 e k ∧ ρ = [some (dv (.fd 0)), some (dv (.lst (hs.map hdD))), some (dv (.lst (rows.map prD))), some (dv (.lst (zs.map D.str))), some (dv (.str s)), some (dv (.int n)), some (dv (.int c)), some (dv (.int (c.fmod 8))), some (dv (rowD (e, k))), none, none, none]) ?_ ?_
      · walk_at "dl"
        exact ⟨_, _, _, _, _, rfl, rfl, hs, rows, s, rfl, oh, rfl, ⟨or1, by omega⟩, rfl, rfl, by decide, fun e k hek => ⟨trivial, e, k, hek, rfl⟩⟩
      rintro _ ⟨e, k, hek, rfl⟩
      have ef := ex_facts 4 e k hek
      have lk := len_wsum k
      have l4 := LE4
      have key := h (.tup [.str "give", e]) (bk ["give"] [k]) (.inl ⟨e, k, hek, rfl, rfl⟩)
      have pu := strs_pure (bk ["give"] [k])
      rw [bk1] at key pu
      unfold rowD at key ⊢
      simp only [List.map_append, List.map_cons, List.map_nil, List.cons_append, List.nil_append] at key pu
      walk_at "dl"
      exact ⟨ef.2.2, by rw [sLine]; omega, by rw [sLine]; omega, pu.2.2, key⟩
    · walk_at "dl"
      exact ⟨n - 1, by omega⟩
  rintro _ ⟨m, rfl, rfl⟩
  refine cut_seq (fun ρ => ρ = [some (dv (.fd 0)), some (dv (.lst (hs.map hdD))), some (dv (.lst (rows.map prD))), some (dv (.lst (zs.map D.str))), some (dv (.str s)), some (dv (.int (m + 1 : Nat))), some (dv (.int c)), some (dv (.int (c.fmod 8))), none, none, none, none]) ?_ ?_
  · walk_at "dl"
  rintro _ rfl
  refine cut_seq (fun ρ => ρ = [some (dv (.fd 0)), some (dv (.lst (hs.map hdD))), some (dv (.lst (rows.map prD))), some (dv (.lst (zs.map D.str))), some (dv (.str s)), some (dv (.int (m + 1 : Nat))), some (dv (.int c)), some (dv (.int (c.fmod 8))), none, none, none, none]) ?_ ?_
  · refine sIf_b (decide (c.fmod 8 < 4)) (fun ψ hψ => ?_) (fun _ => ?_) (fun _ => ?_)
    · walk_at "dl"
      exact hψ
    · obtain ⟨k, ek⟩ := pick_3 (c.fdiv 8)
      refine cut_seq (fun ρ => ρ = [some (dv (.fd 0)), some (dv (.lst (hs.map hdD))), some (dv (.lst (rows.map prD))), some (dv (.lst (zs.map D.str))), some (dv (.str s)), some (dv (.int (m + 1 : Nat))), some (dv (.int c)), some (dv (.int (c.fmod 8))), none, some (dv (.str k)), none, none]) ?_ ?_
      · walk_at "dl"
        rw [ek]
        exact ⟨of_eq_true (fd_lit (by decide) (by decide)), trivial, rfl⟩
      rintro _ rfl
      refine cut_seq (fun ρ => ∃ e q, Ex 4 e q ∧ ρ = [some (dv (.fd 0)), some (dv (.lst (hs.map hdD))), some (dv (.lst (rows.map prD))), some (dv (.lst (zs.map D.str))), some (dv (.str s)), some (dv (.int (m + 1 : Nat))), some (dv (.int c)), some (dv (.int (c.fmod 8))), some (dv (rowD (e, q))), some (dv (.str k)), none, none]) ?_ ?_
      · walk_at "dl"
        exact ⟨_, _, _, _, _, rfl, rfl, hs, rows, k, rfl, oh, rfl, ⟨or1, by omega⟩, rfl, rfl, by decide, fun e k hek => ⟨trivial, e, k, ex_up hek, rfl⟩⟩
      rintro _ ⟨e, q, hek, rfl⟩
      obtain ⟨z0, zr, rfl⟩ : ∃ z0 zr, zs = z0 :: zr := by
        cases zs with
        | nil => simp at oz2
        | cons a b => exact ⟨a, b, rfl⟩
      have gz := oz1 z0 List.mem_cons_self
      rw [List.length_cons] at oz2 oz3
      refine cut_seq (fun ρ => ∃ b1 c1, Bo (m + 1) b1 c1 ∧ ρ = [some (dv (.fd 0)), some (dv (.lst (hs.map hdD))), some (dv (.lst (rows.map prD))), some (dv (.lst ((z0 :: zr).map D.str))), some (dv (.str s)), some (dv (.int (m + 1 : Nat))), some (dv (.int c)), some (dv (.int (c.fmod 8))), some (dv (rowD (e, q))), some (dv (.str k)), some (dv (rowD (b1, c1))), none]) ?_ ?_
      · walk_at "dl"
        refine ⟨by rw [sLine]; omega, _, _, _, _, _, _, rfl, rfl, hs, rows ++ [(z0, k)], zr, s, rfl, oh, by rw [List.map_append]; rfl, ⟨fun p hp => ?_, by rw [List.length_append]; show rows.length + 1 + 3 * m ≤ 100; omega⟩, congrArg D.lst (cutD_drop (D.str z0 :: zr.map D.str) 1), ⟨fun z hz => oz1 z (List.mem_cons_of_mem _ hz), by omega, by omega⟩, rfl, by rw [show ((m + 1 : Nat) : Int) - 1 = (m : Int) by omega], by omega, fun b c hbc => ⟨trivial, b, c, hbc, rfl⟩⟩
        rcases List.mem_append.mp hp with hp | hp
        · exact or1 p hp
        · rw [List.mem_singleton.mp hp]
          exact gz
      rintro _ ⟨b1, c1, hb1, rfl⟩
      have ef := ex_facts 4 e q hek
      have bf := bo_facts _ _ _ hb1
      have lk := len_wsum q
      have lk1 := len_wsum c1
      have l4 := LE4
      have f3 := lb_mono (n := m + 1) (by omega)
      have key := h (.tup [.str "let", .str z0, e, b1]) (bk ["let", z0] [q, c1]) (.inr (.inl ⟨z0, e, q, b1, c1, gz, hek, hb1, rfl, rfl⟩))
      have pu := strs_pure (bk ["let", z0] [q, c1])
      rw [bk2] at key pu
      unfold rowD at key ⊢
      simp only [List.map_append, List.map_cons, List.map_nil, List.cons_append, List.nil_append] at key pu
      walk_at "dl"
      exact ⟨⟨ef.2.2, bf.2.2⟩, by rw [sLine]; omega, by rw [sLine]; omega, by rw [List.length_append, List.length_map, List.length_map, sLine]; omega, pu.2.2.2, key⟩
    · walk_at "dl"
  rintro _ rfl
  refine cut_seq (fun ρ => ∃ k : Str, (k = "list" ∨ k = "tree") ∧ ρ = [some (dv (.fd 0)), some (dv (.lst (hs.map hdD))), some (dv (.lst (rows.map prD))), some (dv (.lst (zs.map D.str))), some (dv (.str s)), some (dv (.int (m + 1 : Nat))), some (dv (.int c)), some (dv (.int (c.fmod 8))), none, some (dv (.str k)), none, none]) ?_ ?_
  · obtain ⟨k, hk, ek⟩ := pick_lt (decide (5 < c.fmod 8))
    simp only [decide_eq_true_eq] at ek
    walk_at "dl"
    rw [ek]
    exact ⟨trivial, k, hk, rfl⟩
  rintro _ ⟨k, hk, rfl⟩
  refine cut_seq (fun ρ => ∃ ws : List Str, (∀ w ∈ ws, GoodW w) ∧ ρ = [some (dv (.fd 0)), some (dv (.lst (hs.map hdD))), some (dv (.lst (rows.map prD))), some (dv (.lst (zs.map D.str))), some (dv (.str s)), some (dv (.int (m + 1 : Nat))), some (dv (.int c)), some (dv (.int (c.fmod 8))), none, some (dv (.str k)), none, some (dO (.lst (ws.map D.str)))]) ?_ ?_
  · refine dCompP_at (rows.map prD) (fun ψ hψ => ?_) (fun i fs => Wd fs) (by rw [List.length_map]; omega) wd_nil ?_ ?_
    · walk_at "dl"
      exact hψ
    · rintro i e fs he hle wd
      rw [List.getElem?_map] at he
      obtain ⟨p, hp, rfl⟩ := Option.map_eq_some_iff.mp he
      have gp := or1 p (List.mem_of_getElem? hp)
      simp only [ρ0, List.map_cons, List.map_nil, List.replicate, List.cons_append, List.nil_append, prD]
      walk_at "dl"
      exact ⟨fun _ => wd_add wd gp, fun _ => wd⟩
    · rintro fs ⟨ws, rfl, hz⟩
      exact ⟨trivial, ws, hz, rfl⟩
  rintro _ ⟨ws, hws, rfl⟩
  refine cut_seq (fun ρ => ρ = [some (dv (.fd 0)), some (dv (.lst (hs.map hdD))), some (dv (.lst (rows.map prD))), some (dv (.lst (zs.map D.str))), some (dv (.str s)), some (dv (.int (m + 1 : Nat))), some (dv (.int c)), some (dv (.int (c.fmod 8))), none, some (dv (.str k)), none, some (dO (.lst (ws.map D.str)))]) ?_ ?_
  · walk_at "dl"
    refine fun _ => ⟨okW ws, ok0, fun hne => ?_⟩
    have hwn : ws ≠ [] := fun z => by
      subst z
      exact absurd hne (by decide)
    have hl0 : ¬ (ws.length : Int) = 0 := fun z => hwn (List.eq_nil_of_length_eq_zero (by omega))
    obtain ⟨w, gw, ew⟩ := pick_wd hws hwn (c.fdiv 8)
    rw [atI_map] at ew
    rw [ew]
    exact ⟨of_eq_true (fd_lit (by decide) (by decide)), hl0, _, _, _, _, _, _, _, _, rfl, rfl, hs, rows, zs, s, w, k, rfl, oh, rfl, ⟨or1, or2⟩, rfl, ⟨oz1, oz2, oz3⟩, rfl, rfl, by omega, by omega, rfl, gw, rfl, hk, fun b c hbc => ⟨trivial, h b c hbc⟩⟩
  rintro _ rfl
  refine cut_seq (fun ρ => ∃ e1 k1 e2 k2, Ex 4 e1 k1 ∧ Ex 4 e2 k2 ∧ ρ = [some (dv (.fd 0)), some (dv (.lst (hs.map hdD))), some (dv (.lst (rows.map prD))), some (dv (.lst (zs.map D.str))), some (dv (.str s)), some (dv (.int (m + 1 : Nat))), some (dv (.int c)), some (dv (.int (c.fmod 8))), some (dO (.lst [rowD (e1, k1), rowD (e2, k2)])), some (dv (.str k)), none, some (dO (.lst (ws.map D.str)))]) ?_ ?_
  · walk_at "dl"
    exact ⟨_, _, _, _, _, rfl, rfl, hs, rows, _, rfl, oh, rfl, ⟨or1, by omega⟩, rfl, rfl, by decide, fun e k hek => ⟨_, _, _, _, _, rfl, rfl, hs, rows, _, rfl, oh, rfl, ⟨or1, by omega⟩, rfl, rfl, by decide, fun e' k' hek' => ⟨rfl, e, k, e', k', ex_up hek, ex_up hek', rfl⟩⟩⟩
  rintro _ ⟨e1, k1, e2, k2, he1, he2, rfl⟩
  refine cut_seq (fun ρ => ∃ b1 c1, Bo (m + 1) b1 c1 ∧ ρ = [some (dv (.fd 0)), some (dv (.lst (hs.map hdD))), some (dv (.lst (rows.map prD))), some (dv (.lst (zs.map D.str))), some (dv (.str s)), some (dv (.int (m + 1 : Nat))), some (dv (.int c)), some (dv (.int (c.fmod 8))), some (dO (.lst [rowD (e1, k1), rowD (e2, k2), rowD (b1, c1)])), some (dv (.str k)), none, some (dO (.lst (ws.map D.str)))]) ?_ ?_
  · refine sApp_at rfl ?_
    walk_at "dl"
    exact ⟨_, _, _, _, _, _, rfl, rfl, hs, rows, zs, s, rfl, oh, rfl, ⟨or1, by omega⟩, rfl, ⟨oz1, by omega, oz3⟩, rfl, by rw [show ((m + 1 : Nat) : Int) - 1 = (m : Int) by omega], by omega, fun b c hbc => ⟨trivial, b, c, hbc, rfl⟩⟩
  rintro _ ⟨b1, c1, hb1, rfl⟩
  refine cut_seq (fun ρ => ∃ b2 c2, Bo (m + 1) b2 c2 ∧ ρ = [some (dv (.fd 0)), some (dv (.lst (hs.map hdD))), some (dv (.lst (rows.map prD))), some (dv (.lst (zs.map D.str))), some (dv (.str s)), some (dv (.int (m + 1 : Nat))), some (dv (.int c)), some (dv (.int (c.fmod 8))), some (dO (.lst [rowD (e1, k1), rowD (e2, k2), rowD (b1, c1), rowD (b2, c2)])), some (dv (.str k)), none, some (dO (.lst (ws.map D.str)))]) ?_ ?_
  · refine sApp_at rfl ?_
    walk_at "dl"
    exact ⟨_, _, _, _, _, _, rfl, rfl, hs, rows, zs, s, rfl, oh, rfl, ⟨or1, by omega⟩, rfl, ⟨oz1, by omega, oz3⟩, rfl, by rw [show ((m + 1 : Nat) : Int) - 1 = (m : Int) by omega], by omega, fun b c hbc => ⟨trivial, b, c, hbc, rfl⟩⟩
  rintro _ ⟨b2, c2, hb2, rfl⟩
  have ef1 := ex_facts 4 _ _ he1
  have ef2 := ex_facts 4 _ _ he2
  have bf1 := bo_facts _ _ _ hb1
  have bf2 := bo_facts _ _ _ hb2
  have lk1 := len_wsum k1
  have lk2 := len_wsum k2
  have lk3 := len_wsum c1
  have lk4 := len_wsum c2
  have l4 := LE4
  have f3 := lb_mono (n := m + 1) (by omega)
  have fl : (wds [(e1, k1), (e2, k2), (b1, c1), (b2, c2)]).length = k1.length + (k2.length + (c1.length + c2.length)) := by simp [wds]
  have key := h (.tup [.str "less", e1, e2, b1, b2]) (bk ["less"] [k1, k2, c1, c2]) (.inr (.inr (.inl ⟨e1, k1, e2, k2, b1, c1, b2, c2, he1, he2, hb1, hb2, rfl, rfl⟩)))
  have pu := strs_pure (bk ["less"] [k1, k2, c1, c2])
  unfold bk at key pu
  unfold rowD at key
  rw [List.map_append, List.map_append] at key pu
  walk_at "dl"
  refine dComp_at ([(e1, k1), (e2, k2), (b1, c1), (b2, c2)].map rowD) (fun ψ hψ => ?_) fstD (Nat.le_of_ble_eq_true rfl) (fun d hd => ?_) ?_
  · walk_at "dl"
    exact hψ
  · obtain ⟨r, _, rfl⟩ := List.mem_map.mp hd
    unfold rowD
    simp only [ρ0, List.map_cons, List.map_nil, List.replicate, List.cons_append, List.nil_append]
    walk_at "dl"
    rfl
  rw [fst_rows]
  walk_at "dl"
  simp only [tFlat, DL.g1]
  exact ⟨by rw [sLine]; omega, [(e1, k1), (e2, k2), (b1, c1), (b2, c2)], rfl, by omega, by simp only [List.length_map, List.length_cons, List.length_nil]; rw [sLine]; omega, by simp only [List.length_append, List.length_map, List.length_cons, List.length_nil]; rw [sLine]; omega, ⟨⟨ef1.2.2, ef2.2.2, bf1.2.2, bf2.2.2⟩, pu⟩, key⟩

theorem fd_lawB (T : Tops mg) (F1 : FD P w K mg base 1 "_law_next" ["_law_feed"] tNext1) (F3 : FD P w K mg base 1 "_law_flat" ["_law_made"] tFlat) (F4 : FD P w K mg base 6 "_law_e" ["_law_feed", "_law_heads", "_law_there", "_law_shape", "_law_deep"] (tE 4)) (F5 : FD P w K mg base 5 "_law_e" ["_law_feed", "_law_heads", "_law_there", "_law_shape", "_law_deep"] (tE 3)) {f2 : Addr} {fd2 : FuncData} (G : Fun K "_law_open" "_law_open" (top 14) f2 fd2) (mo : mg "_law_open" = some (.ref f2)) (F : Fun K "_law_body" "_law_body" (top 15) f fd) (m : mg "_law_body" = some (.ref f)) : ∀ n : Nat, FD P w K mg base (2 * n + 7) "_law_body" ["_law_feed", "_law_heads", "_law_there", "_law_names", "_law_shape", "_law_deep"] (tBody n)
  | 0 => by
    have S : FnScope ["_law_feed", "_law_heads", "_law_there", "_law_names", "_law_shape", "_law_deep", "_law_cell", "_law_way", "_law_made", "_law_kind", "_law_body_here", "_law_some"] ["_law_feed", "_law_heads", "_law_there", "_law_names", "_law_shape", "_law_deep"] (defScope (top 15)) := ⟨rfl, rfl, rfl, by decide +kernel, rfl, by decide +kernel, by decide +kernel⟩
    refine fd_of F S (F.binds fun _ _ _ _ _ _ us hl => match us, hl with | [_, _, _, _, _, _], _ => rfl) m fun cdv A outer s H E ds φ hr hl hT => ?_
    exact hT.elim
  | n + 1 => fd_law_body T F5 F1 F3 F4 (fd_lawB T F1 F3 F4 F5 G mo F m n) (fd_law_open T (fd_lawB T F1 F3 F4 F5 G mo F m n) G mo) F m
end

set_option Elab.async false
set_option linter.all false
set_option maxRecDepth 100000
set_option maxHeartbeats 8000000
set_option exponentiation.threshold 5000
section
variable {P : Program} {w : World} {K : PySem.W.Frag} {mg : Str → Option Value} {base : Heap} {f : Addr} {fd : FuncData}

noncomputable def tHead : FT := g3 fun na ce mo φ => ∃ (w : Str) (i M : Int), na = .str w ∧ GoodW w ∧ ce = .int i ∧ mo = .int M ∧ 0 < M ∧ M ≤ 10 ^ 60 ∧ ∀ h : Hd, OkH h → φ ⟨.new, hdD h⟩
noncomputable def tBuilt : FT := g5 fun na pa sh si bo φ => ∃ (w : Str) (ps : List (Str × Str)) (s : Str) (ns : List Int) (b : D) (c : List Str), na = .str w ∧ GoodW w ∧ pa = .lst (ps.map prD) ∧ ps ≠ [] ∧ ps.length ≤ 4 ∧ (∀ p ∈ ps, GoodW p.1 ∧ GoodW p.2) ∧ sh = .str s ∧ GoodW s ∧ si = .lst (ns.map D.int) ∧ ns.length ≤ 5 ∧ (∀ i ∈ ns, i.natAbs < 10 ^ 60) ∧ bo = rowD (b, c) ∧ Bo 5 b c ∧ ∀ e k, Fu e k → φ ⟨.new, rowD (e, k)⟩
theorem pick_3w (x : Int) : ∃ k : Str, GoodW k ∧ atI [D.str "num", D.str "list", D.str "tree"] (x.fmod 3) = some (.str k) := by
  have m := mod_bd x 3 (by decide)
  rcases (by omega : x.fmod 3 = 0 ∨ x.fmod 3 = 1 ∨ x.fmod 3 = 2) with e | e | e
  · exact ⟨"num", good_const (by simp), by rw [e, atI_0]⟩
  · exact ⟨"list", good_const (by simp), by rw [e, atI_1]⟩
  · exact ⟨"tree", good_const (by simp), by rw [e, atI_2]⟩
theorem ints_pure (ns : List Int) : pureDs (ns.map D.int) := pureDs_iff.mpr fun d hd => by
  obtain ⟨t, _, rfl⟩ := List.mem_map.mp hd
  trivial
theorem prs_pure (ps : List (Str × Str)) : pureDs (ps.map prD) := pureDs_iff.mpr fun d hd => by
  obtain ⟨t, _, rfl⟩ := List.mem_map.mp hd
  exact ⟨trivial, trivial, trivial⟩
theorem prw_len (ps : List (Str × Str)) : ((ps.map prW).flatten).length = 4 * ps.length := by
  induction ps with
  | nil => rfl
  | cons p ps ih =>
    rw [List.map_cons, List.flatten_cons, List.length_append, ih, List.length_cons]
    show 4 + _ = _
    omega
theorem prw_step {ps : List (Str × Str)} {j : Nat} {p : Str × Str} (h : ps[j]? = some p) : ((ps.take (j + 1)).map prW).flatten = ((ps.take j).map prW).flatten ++ prW p := by
  rw [List.take_succ, h]
  simp
theorem fu_words (w s : Str) (ps : List (Str × Str)) (qs c : List Str) : bk ["fn", w] [bk [] (ps.map prW), brW (s :: qs), c] = ([lp, "fn", w, lp] ++ (ps.map prW).flatten ++ [rp, lp, s] ++ qs ++ [rp]) ++ c ++ [rp] := by
  simp [bk, brW]
theorem pick_27 {i : Nat} (h : i < 4) : ∃ r : Int, 0 < r ∧ r ≤ 27 ∧ atI [D.int 1, D.int 3, D.int 9, D.int 27] (i : Int) = some (.int r) := by
  rcases (by omega : i = 0 ∨ i = 1 ∨ i = 2 ∨ i = 3) with rfl | rfl | rfl | rfl
  · exact ⟨1, by decide, by decide, by rw [atI_nat (by decide)]; rfl⟩
  · exact ⟨3, by decide, by decide, by rw [atI_nat (by decide)]; rfl⟩
  · exact ⟨9, by decide, by decide, by rw [atI_nat (by decide)]; rfl⟩
  · exact ⟨27, by decide, by decide, by rw [atI_nat (by decide)]; rfl⟩
theorem fd_law_head (T : Tops mg) (F : Fun K "_law_head" "_law_head" (top 16) f fd) (m : mg "_law_head" = some (.ref f)) : FD P w K mg base 1 "_law_head" ["_law_name_here", "_law_cell", "_law_most"] tHead := by
  have S : FnScope ["_law_name_here", "_law_cell", "_law_most", "_law_kinds", "_law_shape", "_law_size", "_law_k", "_law_number"] ["_law_name_here", "_law_cell", "_law_most"] (defScope (top 16)) := ⟨rfl, rfl, rfl, by decide +kernel, rfl, by decide +kernel, by decide +kernel⟩
  refine fd_of F S (F.binds fun _ _ _ _ _ _ us hl => match us, hl with | [_, _, _], _ => rfl) m fun cdv A outer s H E ds φ hr hl hT => ?_
  have hu := hr.units
  refine ⟨_, (ss_cons (sd_cut (sd_setCompP (T := ["_law_k"]) (F := ["_law_cell"]) (js := [1]) 3 S.nd (ei_range1 T.range (ea_cons (ed_add ed_int (ed_mod (ed_name 1) ed_int)) ea_nil)) (show CompScope (defScope (top 16)) _ ["_law_k"] ["_law_cell"] from ⟨rfl, by decide +kernel, by decide +kernel, by decide +kernel, by decide +kernel, by decide +kernel⟩) (.cons rfl .nil) (by decide) (fun cl C fp s H => (pg_name (i := 0) (show ((["_law_k"] : List Str) ++ (["_law_cell"] : List Str)).Nodup by decide +kernel) rfl (by first | exact Or.inl rfl | exact Or.inr rfl))) (gk_name (by decide)) (gl_name 0) (fun cl C fp s H => eif_nil) (fun cl C fp s H => (ed_ixx hu (ed_lst (ea_cons ed_str (ea_cons ed_str (ea_cons ed_str ea_nil)))) (ed_mod (ed_fd (ed_fd (ed_name 1) ed_int) (ed_ixx hu (ed_lst (ea_cons ed_int (ea_cons ed_int (ea_cons ed_int (ea_cons ed_int ea_nil))))) (ed_name 0))) ed_int)))))
      (ss_cons (sd_cut (sd_set 4 S.nd (ed_ixx hu (ed_lst (ea_cons ed_str (ea_cons ed_str (ea_cons ed_str ea_nil)))) (ed_mod (ed_fd (ed_name 1) ed_int) ed_int))))
      (ss_cons (sd_cut (sd_set 5 S.nd (ed_lst ea_nil)))
      (ss_cons (sd_cut (sd_for (ei_range1 T.range (ea_cons (ed_add (ed_len T.len (ea_cons (ed_name 3) ea_nil)) ed_int) ea_nil)) (pg_name (i := 6) S.nd rfl (by first | exact Or.inl rfl | exact Or.inr rfl)) (gl_name 6) (ss_cons (sd_cut (sd_set 7 S.nd (ed_mod (ed_fd (ed_fd (ed_name 1) ed_int) (ed_add (ed_mul ed_int (ed_name 6)) ed_int)) (ed_name 2))))
        (ss_cons (sd_cut (sd_if (EW.et (ew_or (et_eq hu (ed_name 4) ed_str) (ew_or1 (EW.et (ew_and (et_gt (ed_name 6) ed_int) (ew_and1 (et_eq hu (ed_ixx hu (ed_name 3) (ed_sub (ed_name 6) ed_int)) ed_str))))))) (ss_one (sd_set 7 S.nd ed_int)) ss_nil))
        (ss_one (sd_append 5 (ed_name 7)))))))
      (ss_one (sd_retT (ea_cons (ed_name 0) (ea_cons (ed_name 3) (ea_cons (ed_name 4) (ea_cons (ed_name 5) ea_nil)))))))))), ?_⟩
  obtain ⟨a0, b0, c0, rfl, w, i, M, rfl, gw, rfl, rfl, M0, M1, h⟩ := f3_of hT
  have mb := mod_bd i 4 (by decide)
  refine cut_seq (fun ρ => ∃ ks : List Str, (∀ k ∈ ks, GoodW k) ∧ ks ≠ [] ∧ ks.length ≤ 4 ∧ ρ = [some (dv (.str w)), some (dv (.int i)), some (dv (.int M)), some (dO (.lst (ks.map D.str))), none, none, none, none]) ?_ ?_
  · refine dCompP_at (rngD 0 (1 + i.fmod 4).toNat) (fun ψ hψ => ?_) (fun j fs => ∃ ks : List Str, fs = ks.map D.str ∧ ks.length = j ∧ ∀ k ∈ ks, GoodW k) (by rw [rng_len]; omega) ⟨[], rfl, rfl, fun _ z => (nomatch z)⟩ ?_ ?_
    · walk_at "dl"
      exact ⟨by omega, by omega, hψ⟩
    · rintro j e fs he hle ⟨ks, rfl, kl, kg⟩
      obtain ⟨hj, rfl⟩ := rng_get he
      obtain ⟨r, r0, r1, er⟩ := pick_27 (i := j) (by omega)
      obtain ⟨k, gk, ek⟩ := pick_3w ((i.fdiv 4).fdiv r)
      simp only [ρ0, List.map_cons, List.map_nil, List.replicate, List.cons_append, List.nil_append]
      walk_at "dl"
      rw [er]
      walk_at "dl"
      rw [ek]
      refine ⟨of_eq_true (fd_lit (by decide) (by decide)), fdOk (m := 64) (by omega) (bitsOf (by omega)), ks ++ [k], by rw [List.map_append]; rfl, by rw [List.length_append, kl]; rfl, fun z hz => ?_⟩
      rcases List.mem_append.mp hz with hz | hz
      · exact kg z hz
      · rw [List.mem_singleton.mp hz]
        exact gk
    · rintro fs ⟨ks, rfl, kl, kg⟩
      rw [rng_len] at kl
      exact ⟨trivial, ks, kg, fun z => by rw [z, List.length_nil] at kl; omega, by omega, rfl⟩
  rintro _ ⟨ks, kg, kn, kl, rfl⟩
  obtain ⟨s, gs, es⟩ := pick_3w (i.fdiv 324)
  refine cut_seq (fun ρ => ρ = [some (dv (.str w)), some (dv (.int i)), some (dv (.int M)), some (dO (.lst (ks.map D.str))), some (dv (.str s)), none, none, none]) ?_ ?_
  · walk_at "dl"
    rw [es]
    exact ⟨of_eq_true (fd_lit (by decide) (by decide)), rfl⟩
  rintro _ rfl
  refine cut_seq (fun ρ => ρ = [some (dv (.str w)), some (dv (.int i)), some (dv (.int M)), some (dO (.lst (ks.map D.str))), some (dv (.str s)), some (dO (.lst [])), none, none]) ?_ ?_
  · walk_at "dl"
  rintro _ rfl
  refine cut_seq (fun ρ => ∃ (ns : List Int) (a b : Option EV), ns.length ≤ 5 ∧ (∀ n ∈ ns, n.natAbs < 10 ^ 60) ∧ ρ = [some (dv (.str w)), some (dv (.int i)), some (dv (.int M)), some (dO (.lst (ks.map D.str))), some (dv (.str s)), some (dO (.lst (ns.map D.int))), a, b]) ?_ ?_
  · refine sFor_at (rngD 0 (ks.length + 1)) (fun ψ hψ => ?_) (fun j ρ => ∃ (ns : List Int) (a b : Option EV), ns.length ≤ j ∧ (∀ n ∈ ns, n.natAbs < 10 ^ 60) ∧ ρ = [some (dv (.str w)), some (dv (.int i)), some (dv (.int M)), some (dO (.lst (ks.map D.str))), some (dv (.str s)), some (dO (.lst (ns.map D.int))), a, b]) ⟨[], none, none, Nat.le_refl _, fun _ z => (nomatch z), rfl⟩ ?_ ?_
    · walk_at "dl"
      exact ⟨by omega, by omega, by rw [show ((ks.length : Int) + 1).toNat = ks.length + 1 by omega]; exact hψ⟩
    · rintro j d ρ hd ⟨ns, a, b, nl, ng, rfl⟩
      obtain ⟨hj, rfl⟩ := rng_get hd
      rw [Int.zero_add]
      refine cut_seq (fun ρ => ∃ n : Int, n.natAbs < 10 ^ 60 ∧ ρ = [some (dv (.str w)), some (dv (.int i)), some (dv (.int M)), some (dO (.lst (ks.map D.str))), some (dv (.str s)), some (dO (.lst (ns.map D.int))), some (dv (.int j)), some (dv (.int n))]) ?_ ?_
      · have mm := mod_bd ((i.fdiv 972).fdiv (5 * j + 1)) M M0
        walk_at "dl"
        exact ⟨of_eq_true (fd_lit (by decide) (by decide)), IntMulOk.of_left (by decide), fdOk (m := 64) (by omega) (bitsOf (by omega)), by omega, _, by omega, rfl⟩
      rintro _ ⟨n, hn, rfl⟩
      refine cut_seq (fun ρ => ∃ n : Int, n.natAbs < 10 ^ 60 ∧ ρ = [some (dv (.str w)), some (dv (.int i)), some (dv (.int M)), some (dO (.lst (ks.map D.str))), some (dv (.str s)), some (dO (.lst (ns.map D.int))), some (dv (.int j)), some (dv (.int n))]) ?_ ?_
      · refine sIf_any (Q := True) (fun ψ hψ => ?_) ?_ (fun _ => ?_)
        · have t : ∀ b, ψ b := fun b => hψ b fun _ => trivial
          walk_at "dl"
          refine ⟨fun _ => t _, fun _ => ⟨fun j0 => ?_, fun _ => t _⟩⟩
          rw [show (j : Int) - 1 = ((j - 1 : Nat) : Int) by omega, atI_nat (by omega), List.getElem?_eq_getElem (by omega)]
          exact ⟨by rw [okD_str]; trivial, t _⟩
        · walk_at "dl"
          exact ⟨0, by decide, rfl⟩
        · walk_at "dl"
          exact ⟨n, hn, rfl⟩
      rintro _ ⟨n, hn, rfl⟩
      refine sApp_at rfl ?_
      walk_at "dl"
      refine ⟨by omega, ns ++ [n], _, _, by rw [List.length_append]; exact Nat.succ_le_succ nl, fun z hz => ?_, by rw [List.map_append]; rfl⟩
      rcases List.mem_append.mp hz with hz | hz
      · exact ng z hz
      · rw [List.mem_singleton.mp hz]
        exact hn
    · rintro ρ ⟨ns, a, b, nl, ng, rfl⟩
      rw [rng_len] at nl
      exact ⟨ns, a, b, by omega, ng, rfl⟩
  rintro _ ⟨ns, a, b, nl, ng, rfl⟩
  have key := h ⟨w, ks, s, ns⟩ ⟨gw, kn, kl, kg, gs, nl, ng⟩
  walk_at "dl"
  exact ⟨⟨strs_pure _, ints_pure _⟩, key⟩
theorem fd_law_built (T : Tops mg) (F : Fun K "_law_built" "_law_built" (top 17) f fd) (m : mg "_law_built" = some (.ref f)) : FD P w K mg base 1 "_law_built" ["_law_name_here", "_law_params", "_law_shape", "_law_size", "_law_body_here"] tBuilt := by
  have S : FnScope ["_law_name_here", "_law_params", "_law_shape", "_law_size", "_law_body_here", "_law_words", "_law_word", "_law_kind"] ["_law_name_here", "_law_params", "_law_shape", "_law_size", "_law_body_here"] (defScope (top 17)) := ⟨rfl, rfl, rfl, by decide +kernel, rfl, by decide +kernel, by decide +kernel⟩
  refine fd_of F S (F.binds fun _ _ _ _ _ _ us hl => match us, hl with | [_, _, _, _, _], _ => rfl) m fun cdv A outer s H E ds φ hr hl hT => ?_
  have hu := hr.units
  refine ⟨_, (ss_cons (sd_cut (sd_set 5 S.nd (ed_lst (ea_cons ed_str (ea_cons ed_str (ea_cons (ed_name 0) (ea_cons ed_str ea_nil)))))))
      (ss_cons (sd_cut (sd_for (ei_seq (ed_name 1)) (pg_tupK (K0 := K) (n := 2) (by rfl) (by rfl) (pgs_cons (pg_name (i := 6) S.nd rfl (by first | exact Or.inl rfl | exact Or.inr rfl)) (pgs_cons (pg_name (i := 7) S.nd rfl (by first | exact Or.inl rfl | exact Or.inr rfl)) pgs_nil))) (gl_tup2 6 7) (ss_one (sd_set 5 S.nd (ed_add (ed_name 5) (ed_lst (ea_cons ed_str (ea_cons (ed_name 6) (ea_cons (ed_name 7) (ea_cons ed_str ea_nil))))))))))
      (ss_cons (sd_cut (sd_set 5 S.nd (ed_add (ed_add (ed_add (ed_name 5) (ed_lst (ea_cons ed_str (ea_cons ed_str (ea_cons (ed_name 2) ea_nil))))) (ed_compP (T := ["_law_number"]) (F := []) (js := []) (ei_seq (ed_name 3)) (show CompScope (defScope (top 17)) _ ["_law_number"] [] from ⟨rfl, by decide +kernel, by decide +kernel, by decide +kernel, by decide +kernel, by decide +kernel⟩) .nil (by decide) (fun cl C fp s H => (pg_name (i := 0) (show ((["_law_number"] : List Str) ++ ([] : List Str)).Nodup by decide +kernel) rfl (by first | exact Or.inl rfl | exact Or.inr rfl))) (gk_name (by decide)) (gl_name 0) (fun cl C fp s H => eif_nil) (fun cl C fp s H => (ed_strI T.str (ea_cons (ed_name 0) ea_nil))))) (ed_lst (ea_cons ed_str ea_nil)))))
      (ss_one (sd_ret (ed_tupN (ea_cons (ed_tupN (ea_cons (ed_name 0) (ea_cons (ed_tupleC T.tuple (ea_cons (ed_name 1) ea_nil)) (ea_cons (ed_tupN (ea_cons (ed_name 2) (ea_cons (ed_tupleC T.tuple (ea_cons (ed_name 3) ea_nil)) ea_nil))) (ea_cons (ed_ixx hu (ed_name 4) ed_int) ea_nil))))) (ea_cons (ed_add (ed_add (ed_name 5) (ed_ixx hu (ed_name 4) ed_int)) (ed_lst (ea_cons ed_str ea_nil))) ea_nil)))))))), ?_⟩
  obtain ⟨a0, b0, c0, d0, e0, rfl, w, ps, s, ns, b, c, rfl, gw, rfl, pn, pl, pg, rfl, gs, rfl, nl, ng, rfl, hb, h⟩ := hT
  refine cut_seq (fun ρ => ρ = [some (dv (.str w)), some (dv (.lst (ps.map prD))), some (dv (.str s)), some (dv (.lst (ns.map D.int))), some (dv (rowD (b, c))), some (dO (.lst (([lp, "fn", w, lp] : List Str).map D.str))), none, none]) ?_ ?_
  · walk_at "dl"
    rfl
  rintro _ rfl
  refine cut_seq (fun ρ => ∃ x y, ρ = [some (dv (.str w)), some (dv (.lst (ps.map prD))), some (dv (.str s)), some (dv (.lst (ns.map D.int))), some (dv (rowD (b, c))), some (dO (.lst (([lp, "fn", w, lp] ++ (ps.map prW).flatten).map D.str))), x, y]) ?_ ?_
  · refine sFor_at (ps.map prD) (fun ψ hψ => ?_) (fun j ρ => ∃ x y, ρ = [some (dv (.str w)), some (dv (.lst (ps.map prD))), some (dv (.str s)), some (dv (.lst (ns.map D.int))), some (dv (rowD (b, c))), some (dO (.lst (([lp, "fn", w, lp] ++ ((ps.take j).map prW).flatten).map D.str))), x, y]) ⟨none, none, rfl⟩ ?_ ?_
    · walk_at "dl"
      exact hψ
    · rintro j d ρ hd ⟨x, y, rfl⟩
      rw [List.getElem?_map] at hd
      obtain ⟨p, hp, rfl⟩ := Option.map_eq_some_iff.mp hd
      have jl := (List.getElem?_eq_some_iff.mp hp).1
      have fl := prw_len (ps.take j)
      have tl := List.length_take_le j ps
      rw [prw_step hp]
      simp only [prD]
      walk_at "dl"
      rw [List.map_append]
      exact ⟨by rw [sLine]; omega, _, _, rfl⟩
    · rintro ρ ⟨x, y, rfl⟩
      rw [List.length_map, List.take_length]
      exact ⟨x, y, rfl⟩
  rintro _ ⟨x, y, rfl⟩
  refine cut_seq (fun ρ => ρ = [some (dv (.str w)), some (dv (.lst (ps.map prD))), some (dv (.str s)), some (dv (.lst (ns.map D.int))), some (dv (rowD (b, c))), some (dO (.lst (([lp, "fn", w, lp] ++ (ps.map prW).flatten ++ [rp, lp, s] ++ ns.map numS ++ [rp]).map D.str))), x, y]) ?_ ?_
  · have fl := prw_len ps
    generalize (ps.map prW).flatten = qs at *
    walk_at "dl"
    refine ⟨by rw [sLine]; omega, ?_⟩
    refine dCompP_at (ns.map D.int) (fun ψ hψ => ?_) (fun i fs => fs = ((ns.take i).map fun p => D.str (numS p))) (by rw [List.length_map]; omega) rfl ?_ ?_
    · walk_at "dl"
      exact hψ
    · rintro i e fs he hle rfl
      rw [List.getElem?_map] at he
      obtain ⟨p, hp, rfl⟩ := Option.map_eq_some_iff.mp he
      have gp := ng p (List.mem_of_getElem? hp)
      simp only [ρ0, List.map_cons, List.map_nil, List.replicate, List.cons_append, List.nil_append]
      walk_at "dl"
      exact ⟨log_ok gp, by rw [map_step _ hp]; rfl⟩
    rintro fs rfl
    rw [List.length_map, List.take_length]
    walk_at "dl"
    simp only [List.length_append, List.length_map, List.length_cons, List.length_nil, List.map_append, List.map_map]
    rw [sLine]
    exact ⟨by omega, by omega, rfl⟩
  rintro _ rfl
  have fl := prw_len ps
  have bf := bo_facts _ _ _ hb
  have lk := len_wsum c
  have f3 := lb_mono (n := 5) (by omega)
  have key := h (.tup [.str w, .tup (ps.map prD), .tup [.str s, .tup (ns.map D.int)], b]) (bk ["fn", w] [bk [] (ps.map prW), brW (s :: ns.map numS), c]) ⟨w, ps, s, ns, b, c, gw, pn, pl, pg, gs, nl, ng, hb, rfl, rfl⟩
  rw [fu_words] at key
  have wl : ([lp, "fn", w, lp] ++ (ps.map prW).flatten ++ [rp, lp, s] ++ ns.map numS ++ [rp]).length ≤ 100 := by
    simp only [List.length_append, List.length_map, List.length_cons, List.length_nil]
    omega
  generalize [lp, "fn", w, lp] ++ (ps.map prW).flatten ++ [rp, lp, s] ++ ns.map numS ++ [rp] = qs at *
  have pu := strs_pure (qs ++ c ++ [rp])
  unfold rowD at key ⊢
  rw [List.map_append, List.map_append] at key pu
  walk_at "dl"
  exact ⟨ints_pure _, ⟨prs_pure _, bf.2.2⟩, by rw [sLine]; omega, by rw [List.length_append, List.length_map, List.length_map, sLine]; omega, pu, key⟩
end

set_option Elab.async false
set_option linter.all false
set_option maxRecDepth 100000
set_option maxHeartbeats 8000000
set_option exponentiation.threshold 5000
section
variable {P : Program} {w : World} {K : PySem.W.Frag} {mg : Str → Option Value} {base : Heap} {f : Addr} {fd : FuncData}

noncomputable def g4 (g : D → D → D → D → (EV → Prop) → Prop) : FT := fun ds φ => ∃ a b c d, ds = [a, b, c, d] ∧ g a b c d φ
noncomputable def tFun : FT := g4 fun fe he hh wo φ => fe = .fd 0 ∧ ∃ (hs : List Hd) (h : Hd) (i : Int), he = .lst (hs.map hdD) ∧ OkHs hs ∧ hh = hdD h ∧ OkH h ∧ wo = .int i ∧ ∀ e k, Fu e k → φ ⟨.new, rowD (e, k)⟩
noncomputable def tGrown : FT := g1 fun d φ => ∃ ns, d = .scr ns ∧ ∀ rs : List (D × List Str), rs.length ≤ 8 → (∀ r ∈ rs, Fu r.1 r.2) → φ ⟨.new, .lst (rs.map rowD)⟩
noncomputable def tLine : FT := g1 fun d φ => ∃ ws : List Str, d = .lst (ws.map D.str) ∧ wsum ws ≤ 16000000 ∧ φ (dv (.str (lineF ws)))
theorem pick_many (x : Int) : ∃ r : Int, 0 ≤ r ∧ r ≤ 8 ∧ atI [D.int 1, D.int 2, D.int 3, D.int 8] (x.fmod 4) = some (.int r) := by
  have m := mod_bd x 4 (by decide)
  rcases (by omega : x.fmod 4 = 0 ∨ x.fmod 4 = 1 ∨ x.fmod 4 = 2 ∨ x.fmod 4 = 3) with e | e | e | e
  · exact ⟨1, by decide, by decide, by rw [e, atI_0]⟩
  · exact ⟨2, by decide, by decide, by rw [e, atI_1]⟩
  · exact ⟨3, by decide, by decide, by rw [e, atI_2]⟩
  · exact ⟨8, by decide, by decide, by rw [e]; exact atI_nat (l := [D.int 1, D.int 2, D.int 3, D.int 8]) (i := 3) (by decide)⟩
theorem pick_most (x : Int) : ∃ r : Int, 0 < r ∧ r ≤ 10 ^ 60 ∧ atI [D.int (10 ^ 60), D.int 3, D.int 1000] (x.fmod 3) = some (.int r) := by
  have m := mod_bd x 3 (by decide)
  rcases (by omega : x.fmod 3 = 0 ∨ x.fmod 3 = 1 ∨ x.fmod 3 = 2) with e | e | e
  · exact ⟨10 ^ 60, by decide, by decide, by rw [e, atI_0]⟩
  · exact ⟨3, by decide, by decide, by rw [e, atI_1]⟩
  · exact ⟨1000, by decide, by decide, by rw [e, atI_2]⟩
theorem cut_ints (ns : List Int) (a : Option Int) : ∃ xs : List Int, cutD (ns.map D.int) a (some 75) = xs.map D.int ∧ xs.length ≤ 75 := by
  unfold DL.cutD
  rw [← List.map_drop, ← List.map_take]
  refine ⟨_, rfl, ?_⟩
  have : HT.sIx (ns.map D.int).length (ns.map D.int).length (some 75) ≤ 75 := by
    have := HT.sIx_nat (ns.map D.int).length (ns.map D.int).length 75
    rw [show (some (75 : Int)) = some ((75 : Nat) : Int) from rfl, this]
    exact Nat.min_le_left _ _
  have l := List.length_take_le (HT.sIx (ns.map D.int).length (ns.map D.int).length (some 75) - HT.sIx (ns.map D.int).length 0 a) (ns.drop (HT.sIx (ns.map D.int).length 0 a))
  omega
noncomputable def RowsF (i : Nat) (fs : List D) : Prop := ∃ rs : List (D × List Str), fs = rs.map rowD ∧ rs.length = i ∧ ∀ r ∈ rs, Fu r.1 r.2
theorem rowsF_add {i : Nat} {fs : List D} {e : D} {c : List Str} (h : RowsF i fs) (g : Fu e c) : RowsF (i + 1) (fs ++ [rowD (e, c)]) := by
  obtain ⟨zs, rfl, l, a⟩ := h
  refine ⟨zs ++ [(e, c)], by simp, by simp [l], fun w hw => ?_⟩
  rcases List.mem_append.mp hw with hw | hw
  · exact a w hw
  · rw [List.mem_singleton.mp hw]
    exact g
noncomputable def OkP (ps : List (Str × Str)) : Prop := ∀ p ∈ ps, GoodW p.1 ∧ GoodW p.2
theorem fd_law_function (T : Tops mg) (F__law_name : FD P w K mg base 1 "_law_name" ["_law_cell", "_law_k"] tName) (F__law_body : FD P w K mg base 17 "_law_body" ["_law_feed", "_law_heads", "_law_there", "_law_names", "_law_shape", "_law_deep"] (tBody 5)) (F__law_built : FD P w K mg base 1 "_law_built" ["_law_name_here", "_law_params", "_law_shape", "_law_size", "_law_body_here"] tBuilt) (F : Fun K "_law_function" "_law_function" (top 18) f fd) (m : mg "_law_function" = some (.ref f)) : FD P w K mg base 18 "_law_function" ["_law_feed", "_law_heads", "_law_head_here", "_law_words"] tFun := by
  have S : FnScope ["_law_feed", "_law_heads", "_law_head_here", "_law_words", "_law_params", "_law_names", "_law_body_here"] ["_law_feed", "_law_heads", "_law_head_here", "_law_words"] (defScope (top 18)) := ⟨rfl, rfl, rfl, by decide +kernel, rfl, by decide +kernel, by decide +kernel⟩
  refine fd_of F S (F.binds fun _ _ _ _ _ _ us hl => match us, hl with | [_, _, _, _], _ => rfl) m fun cdv A outer s H E ds φ hr hl hT => ?_
  have hu := hr.units
  refine ⟨_, (ss_cons (sd_cut (sd_setCompP (T := ["_law_k"]) (F := ["_law_words", "_law_head_here"]) (js := [3, 2]) 4 S.nd (ei_range1 T.range (ea_cons (ed_len T.len (ea_cons (ed_ixx hu (ed_name 2) ed_int) ea_nil)) ea_nil)) (show CompScope (defScope (top 18)) _ ["_law_k"] ["_law_words", "_law_head_here"] from ⟨rfl, by decide +kernel, by decide +kernel, by decide +kernel, by decide +kernel, by decide +kernel⟩) (.cons rfl (.cons rfl .nil)) (by decide) (fun cl C fp s H => (pg_name (i := 0) (show ((["_law_k"] : List Str) ++ (["_law_words", "_law_head_here"] : List Str)).Nodup by decide +kernel) rfl (by first | exact Or.inl rfl | exact Or.inr rfl))) (gk_name (by decide)) (gl_name 0) (fun cl C fp s H => eif_nil) (fun cl C fp s H => (ed_tup (ea_cons (ed_call F__law_name (hr.mono (by decide)) (ea_cons (ed_name 1) (ea_cons (ed_name 0) ea_nil))) (ea_cons (ed_ixx hu (ed_ixx hu (ed_name 2) ed_int) (ed_name 0)) ea_nil))))))
      (ss_cons (sd_cut (sd_setCompP (T := ["_law_k"]) (F := ["_law_words"]) (js := [3]) 5 S.nd (ei_range2 T.range (ea_cons (ed_len T.len (ea_cons (ed_name 4) ea_nil)) (ea_cons ed_int ea_nil))) (show CompScope (defScope (top 18)) _ ["_law_k"] ["_law_words"] from ⟨rfl, by decide +kernel, by decide +kernel, by decide +kernel, by decide +kernel, by decide +kernel⟩) (.cons rfl .nil) (by decide) (fun cl C fp s H => (pg_name (i := 0) (show ((["_law_k"] : List Str) ++ (["_law_words"] : List Str)).Nodup by decide +kernel) rfl (by first | exact Or.inl rfl | exact Or.inr rfl))) (gk_name (by decide)) (gl_name 0) (fun cl C fp s H => eif_nil) (fun cl C fp s H => (ed_call F__law_name (hr.mono (by decide)) (ea_cons (ed_name 1) (ea_cons (ed_name 0) ea_nil))))))
      (ss_cons (sd_cut (sd_frz 5 (sd_frz 4 (sd_set 6 S.nd (ed_call F__law_body (hr.mono (by decide)) (ea_cons (ed_name 0) (ea_cons (ed_name 1) (ea_cons (ed_name 4) (ea_cons (ed_name 5) (ea_cons (ed_ixx hu (ed_name 2) ed_int) (ea_cons ed_int ea_nil)))))))))))
      (ss_one (sd_ret (ed_call F__law_built (hr.mono (by decide)) (ea_cons (ed_ixx hu (ed_name 2) ed_int) (ea_cons (ed_name 4) (ea_cons (ed_ixx hu (ed_name 2) ed_int) (ea_cons (ed_ixx hu (ed_name 2) ed_int) (ea_cons (ed_name 6) ea_nil))))))))))), ?_⟩
  obtain ⟨a0, b0, c0, d0, rfl, rfl, hs, hh, i, rfl, oh, rfl, ohh, rfl, h⟩ := hT
  have k4 := ohh.n4
  have k0 := List.length_pos_iff.mpr ohh.n0
  refine cut_seq (fun ρ => ∃ ps : List (Str × Str), OkP ps ∧ ps.length = hh.kinds.length ∧ ρ = [some (dv (.fd 0)), some (dv (.lst (hs.map hdD))), some (dv (hdD hh)), some (dv (.int i)), some (dO (.lst (ps.map prD))), none, none]) ?_ ?_
  · refine dCompP_at (rngD 0 hh.kinds.length) (fun ψ hψ => ?_) (fun j fs => ∃ ps : List (Str × Str), fs = ps.map prD ∧ ps.length = j ∧ OkP ps) (by rw [rng_len]; omega) ⟨[], rfl, rfl, fun _ z => (nomatch z)⟩ ?_ ?_
    · simp only [hdD]
      walk_at "dl"
      rw [Int.toNat_natCast]
      exact ⟨by omega, by omega, hψ⟩
    · rintro j e fs he hle ⟨ps, rfl, pl, pg⟩
      obtain ⟨hj, rfl⟩ := rng_get he
      simp only [ρ0, List.map_cons, List.map_nil, List.replicate, List.cons_append, List.nil_append, hdD]
      walk_at "dl"
      simp only [tName, DL.g2]
      rw [atI_nat hj, List.getElem?_eq_getElem hj]
      refine ⟨i, j, rfl, rfl, by omega, by omega, fun w gw => ⟨trivial, ps ++ [(w, hh.kinds[j])], by rw [List.map_append]; rfl, by rw [List.length_append, pl]; rfl, fun p hp => ?_⟩⟩
      rcases List.mem_append.mp hp with hp | hp
      · exact pg p hp
      · rw [List.mem_singleton.mp hp]
        exact ⟨gw, ohh.kinds _ (List.getElem_mem _)⟩
    · rintro fs ⟨ps, rfl, pl, pg⟩
      rw [rng_len] at pl
      exact ⟨trivial, ps, pg, pl, rfl⟩
  rintro _ ⟨ps, pg, pl, rfl⟩
  refine cut_seq (fun ρ => ∃ zs : List Str, (∀ z ∈ zs, GoodW z) ∧ zs.length = 25 - ps.length ∧ ρ = [some (dv (.fd 0)), some (dv (.lst (hs.map hdD))), some (dv (hdD hh)), some (dv (.int i)), some (dO (.lst (ps.map prD))), some (dO (.lst (zs.map D.str))), none]) ?_ ?_
  · refine dCompP_at (rngD ps.length (25 - ps.length)) (fun ψ hψ => ?_) (fun j fs => ∃ zs : List Str, fs = zs.map D.str ∧ zs.length = j ∧ ∀ z ∈ zs, GoodW z) (by rw [rng_len]; omega) ⟨[], rfl, rfl, fun _ z => (nomatch z)⟩ ?_ ?_
    · walk_at "dl"
      exact ⟨⟨by omega, by omega, by decide, by decide⟩, by rw [show ((25 : Int) - ps.length).toNat = 25 - ps.length by omega]; exact hψ⟩
    · rintro j e fs he hle ⟨zs, rfl, pl, pg⟩
      obtain ⟨hj, rfl⟩ := rng_get he
      simp only [ρ0, List.map_cons, List.map_nil, List.replicate, List.cons_append, List.nil_append]
      walk_at "dl"
      simp only [tName, DL.g2]
      refine ⟨i, _, rfl, rfl, by omega, by omega, fun w gw => ⟨trivial, zs ++ [w], by rw [List.map_append]; rfl, by rw [List.length_append, pl]; rfl, fun p hp => ?_⟩⟩
      rcases List.mem_append.mp hp with hp | hp
      · exact pg p hp
      · rw [List.mem_singleton.mp hp]
        exact gw
    · rintro fs ⟨zs, rfl, pl, pg⟩
      rw [rng_len] at pl
      exact ⟨trivial, zs, pg, pl, rfl⟩
  rintro _ ⟨zs, zg, zl, rfl⟩
  refine cut_seq (fun ρ => ∃ (b : D) (c : List Str), Bo 5 b c ∧ ρ = [some (dv (.fd 0)), some (dv (.lst (hs.map hdD))), some (dv (hdD hh)), some (dv (.int i)), some (dv (.lst (ps.map prD))), some (dv (.lst (zs.map D.str))), some (dv (rowD (b, c)))]) ?_ ?_
  · simp only [hdD]
    walk_at "dl"
    exact ⟨_, _, _, _, _, _, rfl, rfl, hs, ps, zs, hh.shape, rfl, oh, rfl, ⟨fun p hp => (pg p hp).1, by show ps.length + 3 * 4 ≤ 100; omega⟩, rfl, ⟨zg, by show 3 * 4 ≤ zs.length; omega, by omega⟩, rfl, rfl, by decide, fun b c hbc => ⟨trivial, b, c, hbc, rfl⟩⟩
  rintro _ ⟨b, c, hb, rfl⟩
  simp only [hdD]
  walk_at "dl"
  exact ⟨_, _, _, _, _, rfl, hh.name, ps, hh.shape, hh.size, b, c, rfl, ohh.name, rfl, fun z => by rw [z, List.length_nil] at pl; omega, by omega, pg, rfl, ohh.shape, rfl, ohh.s5, ohh.size, rfl, hb, fun e k hek => ⟨trivial, h e k hek⟩⟩

theorem wsum_take (ws : List Str) (i : Nat) : wsum (ws.take i) ≤ wsum ws := by
  conv => rhs; rw [← List.take_append_drop i ws]
  rw [wsum_app]
  omega
noncomputable def prev (ws : List Str) : Nat → Option Str
  | 0 => none
  | j + 1 => ws[j]?
theorem run_prev (ws : List Str) : ∀ {j : Nat}, j ≤ ws.length → (runL ("", none) (ws.take j)).2 = prev ws j
  | 0, _ => rfl
  | j + 1, h => by
    have e : ws.take (j + 1) = ws.take j ++ [ws[j]] := by rw [List.take_succ, List.getElem?_eq_getElem (by omega)]; rfl
    rw [e, run_app]
    show some _ = ws[j]?
    rw [List.getElem?_eq_getElem (by omega)]
theorem line_step {ws : List Str} {j : Nat} (h : j < ws.length) : lineF (ws.take (j + 1)) = lineF (ws.take j) ++ sep (prev ws j) ws[j] ++ ws[j] := by
  have e : ws.take (j + 1) = ws.take j ++ [ws[j]] := by rw [List.take_succ, List.getElem?_eq_getElem h]; rfl
  have p := run_prev ws (Nat.le_of_lt h)
  unfold lineF
  rw [e, run_app, ← p]
  rfl
theorem fd_law_line (T : Tops mg) (F : Fun K "_law_line" "_law_line" (top 20) f fd) (m : mg "_law_line" = some (.ref f)) : FD P w K mg base 1 "_law_line" ["_law_words"] tLine := by
  have S : FnScope ["_law_words", "_law_line_here", "_law_k"] ["_law_words"] (defScope (top 20)) := ⟨rfl, rfl, rfl, by decide +kernel, rfl, by decide +kernel, by decide +kernel⟩
  refine fd_of F S (F.binds fun _ _ _ _ _ _ us hl => match us, hl with | [_], _ => rfl) m fun cdv A outer s H E ds φ hr hl hT => ?_
  have hu := hr.units
  refine ⟨_, (ss_cons (sd_cut (sd_set 1 S.nd ed_str))
      (ss_cons (sd_cut (sd_for (ei_range1 T.range (ea_cons (ed_len T.len (ea_cons (ed_name 0) ea_nil)) ea_nil)) (pg_name (i := 2) S.nd rfl (by first | exact Or.inl rfl | exact Or.inr rfl)) (gl_name 2) (ss_cons (sd_cut (sd_if (EW.et (ew_and (et_gt (ed_name 2) ed_int) (ew_and (et_ne hu (ed_ixx hu (ed_name 0) (ed_sub (ed_name 2) ed_int)) ed_str) (ew_and1 (et_ne hu (ed_ixx hu (ed_name 0) (ed_name 2)) ed_str))))) (ss_one (sd_set 1 S.nd (ed_add (ed_name 1) ed_str))) ss_nil))
        (ss_one (sd_set 1 S.nd (ed_add (ed_name 1) (ed_ixx hu (ed_name 0) (ed_name 2))))))))
      (ss_one (sd_ret (ed_name 1))))), ?_⟩
  obtain ⟨d, rfl, ws, rfl, hw, h⟩ := f1_of hT
  refine cut_seq (fun ρ => ρ = [some (dv (.lst (ws.map D.str))), some (dv (.str "")), none]) ?_ ?_
  · walk_at "dl"
  rintro _ rfl
  refine cut_seq (fun ρ => ∃ a, ρ = [some (dv (.lst (ws.map D.str))), some (dv (.str (lineF ws))), a]) ?_ ?_
  · refine sFor_at (rngD 0 ws.length) (fun ψ hψ => ?_) (fun j ρ => ∃ a, ρ = [some (dv (.lst (ws.map D.str))), some (dv (.str (lineF (ws.take j)))), a]) ⟨none, rfl⟩ ?_ ?_
    · have := len_wsum ws
      walk_at "dl"
      rw [Int.toNat_natCast]
      exact ⟨by omega, by omega, hψ⟩
    · rintro j d ρ hd ⟨a, rfl⟩
      obtain ⟨hj, rfl⟩ := rng_get hd
      rw [Int.zero_add]
      have st := line_step hj
      have ll := line_len (ws.take (j + 1))
      have lw := wsum_take ws (j + 1)
      have l0 := line_len (ws.take j)
      have w0 := wsum_take ws j
      rw [st, sLn, sLn] at ll
      rw [st]
      have spl : (" " : Str).length = 1 := by decide +kernel
      refine cut_seq (fun ρ => ρ = [some (dv (.lst (ws.map D.str))), some (dv (.str (lineF (ws.take j) ++ sep (prev ws j) ws[j]))), some (dv (.int j))]) ?_ ?_
      · cases j with
        | zero =>
          rw [show prev ws 0 = none from rfl, show sep none ws[0] = "" from rfl, sR]
          walk_at "dl"
          exact fun z => absurd z (by decide)
        | succ k =>
          have hk : k < ws.length := by omega
          rw [show prev ws (k + 1) = some ws[k] from List.getElem?_eq_getElem hk]
          walk_at "dl"
          rw [show ((k + 1 : Nat) : Int) - 1 = (k : Int) by omega, atI_nat hk, List.getElem?_eq_getElem hk, atI_nat hj, List.getElem?_eq_getElem hj]
          have s1 : ws[k] ≠ "(" → ws[k + 1] ≠ ")" → sep (some ws[k]) ws[k + 1] = " " := fun a b => if_pos ⟨a, b⟩
          have s2 : ws[k] = "(" → sep (some ws[k]) ws[k + 1] = "" := fun a => if_neg fun z => z.1 a
          have s3 : ws[k + 1] = ")" → sep (some ws[k]) ws[k + 1] = "" := fun a => if_neg fun z => z.2 a
          walk_at "dl"
          refine ⟨fun _ => ⟨fun n1 => ⟨fun n2 => ⟨by rw [spl, sLine]; omega, by rw [s1 n1 n2]⟩, fun e2 => by rw [s3 e2, sR]⟩, fun e1 => by rw [s2 e1, sR]⟩, fun z => absurd (by omega : (0 : Int) < ((k + 1 : Nat) : Int)) z⟩
      rintro _ rfl
      walk_at "dl"
      rw [atI_nat hj, List.getElem?_eq_getElem hj]
      exact ⟨by rw [sLn, sLine]; omega, _, rfl⟩
    · rintro ρ ⟨a, rfl⟩
      rw [rng_len, List.take_length]
      exact ⟨a, rfl⟩
  rintro _ ⟨a, rfl⟩
  walk_at "dl"
  exact h
theorem fd_law_grown (T : Tops mg) (F__law_cell_at : FD P w K mg base 1 "_law_cell_at" ["_law_script", "_law_k"] tCellS) (F__law_name : FD P w K mg base 1 "_law_name" ["_law_cell", "_law_k"] tName) (F__law_head : FD P w K mg base 1 "_law_head" ["_law_name_here", "_law_cell", "_law_most"] tHead) (F__law_function : FD P w K mg base 18 "_law_function" ["_law_feed", "_law_heads", "_law_head_here", "_law_words"] tFun) (F : Fun K "_law_grown" "_law_grown" (top 19) f fd) (m : mg "_law_grown" = some (.ref f)) : FD P w K mg base 19 "_law_grown" ["_law_script"] tGrown := by
  have S : FnScope ["_law_script", "_law_first", "_law_many", "_law_heads", "_law_k", "_law_most", "_law_feed"] ["_law_script"] (defScope (top 19)) := ⟨rfl, rfl, rfl, by decide +kernel, rfl, by decide +kernel, by decide +kernel⟩
  refine fd_of F S (F.binds fun _ _ _ _ _ _ us hl => match us, hl with | [_], _ => rfl) m fun cdv A outer s H E ds φ hr hl hT => ?_
  have hu := hr.units
  refine ⟨_, (ss_cons (sd_cut (sd_set 1 S.nd (ed_call F__law_cell_at (hr.mono (by decide)) (ea_cons (ed_name 0) (ea_cons ed_int ea_nil)))))
      (ss_cons (sd_cut (sd_set 2 S.nd (ed_ixx hu (ed_lst (ea_cons ed_int (ea_cons ed_int (ea_cons ed_int (ea_cons ed_int ea_nil))))) (ed_mod (ed_name 1) ed_int))))
      (ss_cons (sd_cut (sd_set 3 S.nd (ed_lst ea_nil)))
      (ss_cons (sd_cut (sd_for (ei_range1 T.range (ea_cons (ed_name 2) ea_nil)) (pg_name (i := 4) S.nd rfl (by first | exact Or.inl rfl | exact Or.inr rfl)) (gl_name 4) (ss_cons (sd_cut (sd_set 5 S.nd (ed_ixx hu (ed_lst (ea_cons (ed_pow ed_int ed_int) (ea_cons ed_int (ea_cons ed_int ea_nil)))) (ed_mod (ed_add (ed_fd (ed_name 1) ed_int) (ed_name 4)) ed_int))))
        (ss_cons (sd_cut (sd_if (et_eq hu (ed_name 2) ed_int) (ss_one (sd_set 5 S.nd ed_int)) ss_nil))
        (ss_one (sd_append 3 (ed_call F__law_head (hr.mono (by decide)) (ea_cons (ed_call F__law_name (hr.mono (by decide)) (ea_cons (ed_call F__law_cell_at (hr.mono (by decide)) (ea_cons (ed_name 0) (ea_cons ed_int ea_nil))) (ea_cons (ed_name 4) ea_nil))) (ea_cons (ed_call F__law_cell_at (hr.mono (by decide)) (ea_cons (ed_name 0) (ea_cons (ed_add ed_int (ed_name 4)) ea_nil))) (ea_cons (ed_name 5) ea_nil))))))))))
      (ss_cons (sd_cut (sd_set 6 S.nd (ed_add (ed_lst (ea_cons ed_int ea_nil)) (ed_compP (T := ["_law_cell"]) (F := []) (js := []) (ei_seq (ed_slice (ed_name 0) (eo_some (ed_add ed_int (ed_name 2))) (eo_some ed_int))) (show CompScope (defScope (top 19)) _ ["_law_cell"] [] from ⟨rfl, by decide +kernel, by decide +kernel, by decide +kernel, by decide +kernel, by decide +kernel⟩) .nil (by decide) (fun cl C fp s H => (pg_name (i := 0) (show ((["_law_cell"] : List Str) ++ ([] : List Str)).Nodup by decide +kernel) rfl (by first | exact Or.inl rfl | exact Or.inr rfl))) (gk_name (by decide)) (gl_name 0) (fun cl C fp s H => eif_nil) (fun cl C fp s H => (ed_mod (ed_name 0) (ed_pow ed_int ed_int)))))))
      (ss_one (sd_feed 6 0 (sd_frz 3 (sd_ret (ed_compN (T := ["_law_head_here"]) (F := ["_law_feed", "_law_heads", "_law_script"]) (js := [6, 3, 0]) (ei_seq (ed_name 3)) (show CompScope (defScope (top 19)) _ ["_law_head_here"] ["_law_feed", "_law_heads", "_law_script"] from ⟨rfl, by decide +kernel, by decide +kernel, by decide +kernel, by decide +kernel, by decide +kernel⟩) (.cons rfl (.cons rfl (.cons rfl .nil))) (by decide) (fun cl C fp s H => (pg_name (i := 0) (show ((["_law_head_here"] : List Str) ++ (["_law_feed", "_law_heads", "_law_script"] : List Str)).Nodup by decide +kernel) rfl (by first | exact Or.inl rfl | exact Or.inr rfl))) (gk_name (by decide)) (gl_name 0) (fun cl C fp s H => eif_nil) (fun cl C fp s H => (ed_call F__law_function (hr.mono (by decide)) (ea_cons (ed_name 1) (ea_cons (ed_name 2) (ea_cons (ed_name 0) (ea_cons (ed_call F__law_cell_at (hr.mono (by decide)) (ea_cons (ed_name 3) (ea_cons ed_int ea_nil))) ea_nil)))))))))))))))), ?_⟩
  obtain ⟨d, rfl, ns, rfl, h⟩ := f1_of hT
  refine cut_seq (fun ρ => ∃ c : Int, ρ = [some (dv (.scr ns)), some (dv (.int c)), none, none, none, none, none]) ?_ ?_
  · walk_at "dl"
    simp only [tCellS]
    exact ⟨by decide, fun c => ⟨trivial, c, rfl⟩⟩
  rintro _ ⟨c, rfl⟩
  obtain ⟨q, q0, q8, eq⟩ := pick_many c
  refine cut_seq (fun ρ => ρ = [some (dv (.scr ns)), some (dv (.int c)), some (dv (.int q)), none, none, none, none]) ?_ ?_
  · walk_at "dl"
    rw [eq]
  rintro _ rfl
  refine cut_seq (fun ρ => ρ = [some (dv (.scr ns)), some (dv (.int c)), some (dv (.int q)), some (dO (.lst [])), none, none, none]) ?_ ?_
  · walk_at "dl"
  rintro _ rfl
  refine cut_seq (fun ρ => ∃ (hs : List Hd) (a b : Option EV), hs.length ≤ 8 ∧ (∀ h ∈ hs, OkH h) ∧ ρ = [some (dv (.scr ns)), some (dv (.int c)), some (dv (.int q)), some (dO (.lst (hs.map hdD))), a, b, none]) ?_ ?_
  · refine sFor_at (rngD 0 q.toNat) (fun ψ hψ => ?_) (fun j ρ => ∃ (hs : List Hd) (a b : Option EV), hs.length ≤ j ∧ (∀ h ∈ hs, OkH h) ∧ ρ = [some (dv (.scr ns)), some (dv (.int c)), some (dv (.int q)), some (dO (.lst (hs.map hdD))), a, b, none]) ⟨[], none, none, Nat.le_refl _, fun _ z => (nomatch z), rfl⟩ ?_ ?_
    · walk_at "dl"
      exact ⟨by omega, by omega, hψ⟩
    · rintro j d ρ hd ⟨hs, a, b, hl8, hg, rfl⟩
      obtain ⟨hj, rfl⟩ := rng_get hd
      rw [Int.zero_add]
      obtain ⟨M, M0, M1, eM⟩ := pick_most (c.fdiv 4 + j)
      refine cut_seq (fun ρ => ∃ M : Int, 0 < M ∧ M ≤ 10 ^ 60 ∧ ρ = [some (dv (.scr ns)), some (dv (.int c)), some (dv (.int q)), some (dO (.lst (hs.map hdD))), some (dv (.int j)), some (dv (.int M)), none]) ?_ ?_
      · walk_at "dl"
        rw [eM]
        exact ⟨of_eq_true (fd_lit (by decide) (by decide)), M, M0, M1, rfl⟩
      rintro _ ⟨M, M0, M1, rfl⟩
      refine cut_seq (fun ρ => ∃ M : Int, 0 < M ∧ M ≤ 10 ^ 60 ∧ ρ = [some (dv (.scr ns)), some (dv (.int c)), some (dv (.int q)), some (dO (.lst (hs.map hdD))), some (dv (.int j)), some (dv (.int M)), none]) ?_ ?_
      · walk_at "dl"
        exact ⟨fun _ => ⟨1000, by decide, by decide, rfl⟩, fun _ => ⟨M, M0, M1, rfl⟩⟩
      rintro _ ⟨M, M0, M1, rfl⟩
      refine sApp_at rfl ?_
      walk_at "dl"
      simp only [tCellS, tName, tHead, DL.g2, DL.g3]
      refine ⟨by decide, fun c0 => ⟨c0, j, rfl, rfl, by omega, by omega, fun w gw => ⟨by omega, fun c1 => ⟨w, c1, M, rfl, gw, rfl, rfl, M0, M1, fun hd ohd => ⟨trivial, by omega, hs ++ [hd], _, _, by rw [List.length_append]; exact Nat.succ_le_succ hl8, fun z hz => ?_, by rw [List.map_append]; rfl⟩⟩⟩⟩⟩
      rcases List.mem_append.mp hz with hz | hz
      · exact hg z hz
      · rw [List.mem_singleton.mp hz]
        exact ohd
    · rintro ρ ⟨hs, a, b, hl8, hg, rfl⟩
      rw [rng_len] at hl8
      exact ⟨hs, a, b, by omega, hg, rfl⟩
  rintro _ ⟨hs, a, b, hl8, hg, rfl⟩
  obtain ⟨xs, ex, lx⟩ := cut_ints ns (some (3 + q))
  refine cut_seq (fun ρ => ∃ fs : List Int, 1 ≤ fs.length ∧ fs.length ≤ 100 ∧ ρ = [some (dv (.scr ns)), some (dv (.int c)), some (dv (.int q)), some (dO (.lst (hs.map hdD))), a, b, some (dO (.lst (fs.map D.int)))]) ?_ ?_
  · walk_at "dl"
    refine dCompP_at (xs.map D.int) (fun ψ hψ => ?_) (fun i fs => ∃ zs : List Int, fs = zs.map D.int ∧ zs.length = i) (by rw [List.length_map]; omega) ⟨[], rfl, rfl⟩ ?_ ?_
    · walk_at "dl"
      rw [ex]
      exact hψ
    · rintro i e fs he hle ⟨zs, rfl, lz⟩
      rw [List.getElem?_map] at he
      obtain ⟨p, hp, rfl⟩ := Option.map_eq_some_iff.mp he
      simp only [ρ0, List.map_cons, List.map_nil, List.replicate, List.cons_append, List.nil_append]
      walk_at "dl"
      exact ⟨zs ++ [_], by rw [List.map_append]; rfl, by rw [List.length_append, lz]; rfl⟩
    rintro fs ⟨zs, rfl, lz⟩
    rw [List.length_map] at lz
    walk_at "dl"
    exact ⟨by rw [sLine]; omega, 40 :: zs, by rw [List.length_cons]; omega, by rw [List.length_cons]; omega, rfl⟩
  rintro _ ⟨fs, f1, f100, rfl⟩
  refine ⟨fs, rfl, ⟨by omega, fun _ => f1, fun n hn hm => absurd hm (by decide)⟩, ?_⟩
  walk_at "dl"
  refine dCompN_at (hs.map hdD) (fun ψ hψ => ?_) RowsF (by rw [List.length_map]; omega) ⟨[], rfl, rfl, fun _ z => (nomatch z)⟩ ?_ ?_
  · walk_at "dl"
    exact hψ
  · rintro i e gs he hle wd
    rw [List.getElem?_map] at he
    obtain ⟨p, hp, rfl⟩ := Option.map_eq_some_iff.mp he
    simp only [ρ0, List.map_cons, List.map_nil, List.replicate, List.cons_append, List.nil_append]
    walk_at "dl"
    simp only [tCellS]
    exact ⟨by decide, fun c0 => ⟨_, _, _, _, rfl, rfl, hs, p, c0, rfl, ⟨hg, hl8⟩, rfl, hg p (List.mem_of_getElem? hp), rfl, fun e k hek => ⟨trivial, rowsF_add wd hek⟩⟩⟩
  · rintro gs ⟨rs, rfl, lr, hr'⟩
    rw [List.length_map] at lr
    exact ⟨trivial, h rs (by omega) hr'⟩
end

set_option Elab.async false
set_option linter.all false
set_option maxRecDepth 100000
set_option maxHeartbeats 8000000
set_option exponentiation.threshold 5000
section
variable {P : Program} {w : World} {K : PySem.W.Frag} {mg : Str → Option Value} {base : Heap} {f : Addr} {fd : FuncData}

theorem rows_fu {rs : List (D × List Str)} (h : ∀ r ∈ rs, Fu r.1 r.2) : PairR Fu (rs.map Prod.fst) (rs.map Prod.snd) := by
  refine ⟨by simp, fun i e c he hc => ?_⟩
  rw [List.getElem?_map] at he hc
  obtain ⟨r, hr, rfl⟩ := Option.map_eq_some_iff.mp he
  rw [hr] at hc
  cases hc
  exact h r (List.mem_of_getElem? hr)
theorem wsum_rows {rs : List (D × List Str)} (h : ∀ r ∈ rs, Fu r.1 r.2) (hl : rs.length ≤ 8) : wsum (wds rs) ≤ 8 * 602000 := by
  unfold wds
  rw [wsum_flat]
  have := sum_le (l := (rs.map Prod.snd).map wsum) (b := 602000) fun x hx => by
    obtain ⟨c, hc, rfl⟩ := List.mem_map.mp hx
    obtain ⟨r, hr, rfl⟩ := List.mem_map.mp hc
    exact (fu_facts (h r hr)).2.1
  rw [List.length_map, List.length_map] at this
  exact Nat.le_trans this (Nat.mul_le_mul_right _ hl)
theorem turn_eq (rs : List (D × List Str)) : cutD (rs.map rowD) (some 1) none ++ cutD (rs.map rowD) none (some 1) = (rs.drop 1 ++ rs.take 1).map rowD := by
  have h1 := cutD_drop (rs.map rowD) 1
  have h2 := cutD_take (rs.map rowD) 1
  rw [List.map_append, List.map_drop, List.map_take]
  exact congr (congrArg _ h1) h2
theorem ok_law (T : Tops mg) (F_show : FD P w K mg base 19 "show" ["program"] tShow) (F__law_grown : FD P w K mg base 19 "_law_grown" ["_law_script"] tGrown) (F__law_flat : FD P w K mg base 1 "_law_flat" ["_law_made"] tFlat) (F__law_line : FD P w K mg base 1 "_law_line" ["_law_words"] tLine) (F : Fun K "law" "law" (top 21) f fd) : FnOk P w K mg base CX0 20 f fd ["_law_script"] (spD K 1 lawT) := by
  have S : FnScope ["_law_script", "_law_made", "_law_due", "_law_turned", "_law_found"] ["_law_script"] (defScope (top 21)) := ⟨rfl, rfl, rfl, by decide +kernel, rfl, by decide +kernel, by decide +kernel⟩
  refine fn_okD F S fun cdv A outer s H E ds φ hr hl hT => ?_
  have hu := hr.units
  refine ⟨_, (ss_cons (sd_cut (sd_set 1 S.nd (ed_call F__law_grown (hr.mono (by decide)) (ea_cons (ed_name 0) ea_nil))))
      (ss_cons (sd_cut (sd_set 2 S.nd (ed_call F__law_line (hr.mono (by decide)) (ea_cons (ed_call F__law_flat (hr.mono (by decide)) (ea_cons (ed_name 1) ea_nil)) ea_nil))))
      (ss_cons (sd_cut (sd_set 3 S.nd (ed_add (ed_slice (ed_name 1) (eo_some ed_int) eo_none) (ed_slice (ed_name 1) eo_none (eo_some ed_int)))))
      (ss_cons (sd_cut (sd_set 4 S.nd (ed_call F_show (hr.mono (by decide)) (ea_cons (ed_tupleC T.tuple (ea_cons (ed_comp (T := ["_law_one", "_law_words"]) (F := []) (js := []) (ei_seq (ed_name 1)) (show CompScope (defScope (top 21)) _ ["_law_one", "_law_words"] [] from ⟨rfl, by decide +kernel, by decide +kernel, by decide +kernel, by decide +kernel, by decide +kernel⟩) .nil (by decide) (fun cl C fp s H => (pg_tupK (K0 := K) (n := 2) (by rfl) (by rfl) (pgs_cons (pg_name (i := 0) (show ((["_law_one", "_law_words"] : List Str) ++ ([] : List Str)).Nodup by decide +kernel) rfl (by first | exact Or.inl rfl | exact Or.inr rfl)) (pgs_cons (pg_name (i := 1) (show ((["_law_one", "_law_words"] : List Str) ++ ([] : List Str)).Nodup by decide +kernel) rfl (by first | exact Or.inl rfl | exact Or.inr rfl)) pgs_nil)))) (gk_tup (gk_cons gm_name (gm_cons gm_name gm_nil) (gk_name (by decide)) (gk_cons gm_name gm_nil (gk_name (by decide)) gk_nil))) (gl_tup2 0 1) (fun cl C fp s H => eif_nil) (fun cl C fp s H => (ed_name 0))) ea_nil)) ea_nil))))
      (ss_cons (sd_cut (sd_if (EW.et (ew_or (et_not (et_val (ed_isinst T.isinstance (ea_cons (ed_name 4) (ea_cons (ed_ty T.str boot_str') ea_nil))))) (ew_or1 (et_ne hu (ed_name 4) (ed_name 2))))) (ss_one (sd_ret ed_bl)) ss_nil))
      (ss_cons (sd_cut (sd_frz 3 (sd_if (et_ne hu (ed_call F_show (hr.mono (by decide)) (ea_cons (ed_tupleC T.tuple (ea_cons (ed_comp (T := ["_law_one", "_law_words"]) (F := []) (js := []) (ei_seq (ed_name 3)) (show CompScope (defScope (top 21)) _ ["_law_one", "_law_words"] [] from ⟨rfl, by decide +kernel, by decide +kernel, by decide +kernel, by decide +kernel, by decide +kernel⟩) .nil (by decide) (fun cl C fp s H => (pg_tupK (K0 := K) (n := 2) (by rfl) (by rfl) (pgs_cons (pg_name (i := 0) (show ((["_law_one", "_law_words"] : List Str) ++ ([] : List Str)).Nodup by decide +kernel) rfl (by first | exact Or.inl rfl | exact Or.inr rfl)) (pgs_cons (pg_name (i := 1) (show ((["_law_one", "_law_words"] : List Str) ++ ([] : List Str)).Nodup by decide +kernel) rfl (by first | exact Or.inl rfl | exact Or.inr rfl)) pgs_nil)))) (gk_tup (gk_cons gm_name (gm_cons gm_name gm_nil) (gk_name (by decide)) (gk_cons gm_name gm_nil (gk_name (by decide)) gk_nil))) (gl_tup2 0 1) (fun cl C fp s H => eif_nil) (fun cl C fp s H => (ed_name 0))) ea_nil)) ea_nil)) (ed_call F__law_line (hr.mono (by decide)) (ea_cons (ed_call F__law_flat (hr.mono (by decide)) (ea_cons (ed_name 3) ea_nil)) ea_nil))) (ss_one (sd_ret ed_bl)) ss_nil)))
      (ss_one (sd_ret (ed_eq hu (ed_call F_show (hr.mono (by decide)) (ea_cons (ed_tupleC T.tuple (ea_cons (ed_comp (T := ["_law_one", "_law_words"]) (F := []) (js := []) (ei_seq (ed_name 1)) (show CompScope (defScope (top 21)) _ ["_law_one", "_law_words"] [] from ⟨rfl, by decide +kernel, by decide +kernel, by decide +kernel, by decide +kernel, by decide +kernel⟩) .nil (by decide) (fun cl C fp s H => (pg_tupK (K0 := K) (n := 2) (by rfl) (by rfl) (pgs_cons (pg_name (i := 0) (show ((["_law_one", "_law_words"] : List Str) ++ ([] : List Str)).Nodup by decide +kernel) rfl (by first | exact Or.inl rfl | exact Or.inr rfl)) (pgs_cons (pg_name (i := 1) (show ((["_law_one", "_law_words"] : List Str) ++ ([] : List Str)).Nodup by decide +kernel) rfl (by first | exact Or.inl rfl | exact Or.inr rfl)) pgs_nil)))) (gk_tup (gk_cons gm_name (gm_cons gm_name gm_nil) (gk_name (by decide)) (gk_cons gm_name gm_nil (gk_name (by decide)) gk_nil))) (gl_tup2 0 1) (fun cl C fp s H => eif_nil) (fun cl C fp s H => (ed_name 0))) ea_nil)) ea_nil)) (ed_name 2)))))))))), ?_⟩
  obtain ⟨ns, rfl, hn, h⟩ := hT
  refine cut_seq (fun ρ => ∃ rs : List (D × List Str), rs.length ≤ 8 ∧ (∀ r ∈ rs, Fu r.1 r.2) ∧ ρ = [some (dv (.scr ns)), some (dv (.lst (rs.map rowD))), none, none, none]) ?_ ?_
  · walk_at "dl"
    simp only [tGrown, DL.g1]
    exact ⟨ns, rfl, fun rs l8 hrs => ⟨trivial, rs, l8, hrs, rfl⟩⟩
  rintro _ ⟨rs, l8, hrs, rfl⟩
  have ws := wsum_rows hrs l8
  have wl := len_wsum (wds rs)
  refine cut_seq (fun ρ => ρ = [some (dv (.scr ns)), some (dv (.lst (rs.map rowD))), some (dv (.str (lineF (wds rs)))), none, none]) ?_ ?_
  · walk_at "dl"
    simp only [tFlat, tLine, DL.g1]
    exact ⟨rs, rfl, by omega, wds rs, rfl, by omega, trivial, rfl⟩
  rintro _ rfl
  have hts : ∀ r ∈ rs.drop 1 ++ rs.take 1, Fu r.1 r.2 := fun r hr => by
    rcases List.mem_append.mp hr with hr | hr
    · exact hrs r (List.mem_of_mem_drop hr)
    · exact hrs r (List.mem_of_mem_take hr)
  have tl8 : (rs.drop 1 ++ rs.take 1).length ≤ 8 := by
    rw [List.length_append, List.length_drop, List.length_take]
    omega
  have tq := turn_eq rs
  refine cut_seq (fun ρ => ρ = [some (dv (.scr ns)), some (dv (.lst (rs.map rowD))), some (dv (.str (lineF (wds rs)))), some (dO (.lst ((rs.drop 1 ++ rs.take 1).map rowD))), none]) ?_ ?_
  · walk_at "dl"
    exact ⟨by rw [← List.length_append, tq, List.length_map, sLine]; omega, by rw [tq]⟩
  generalize rs.drop 1 ++ rs.take 1 = ts at *
  have wt := wsum_rows hts tl8
  have wtl := len_wsum (wds ts)
  rintro _ rfl
  refine cut_seq (fun ρ => ρ = [some (dv (.scr ns)), some (dv (.lst (rs.map rowD))), some (dv (.str (lineF (wds rs)))), some (dO (.lst (ts.map rowD))), some (dv (.str (lineF (wds rs))))]) ?_ ?_
  · walk_at "dl"
    refine dComp_at (rs.map rowD) (fun ψ hψ => ?_) fstD (by rw [List.length_map]; omega) (fun d hd => ?_) ?_
    · walk_at "dl"
      exact hψ
    · obtain ⟨r, _, rfl⟩ := List.mem_map.mp hd
      unfold rowD
      simp only [ρ0, List.map_cons, List.map_nil, List.replicate, List.cons_append, List.nil_append]
      walk_at "dl"
      rfl
    rw [fst_rows]
    walk_at "dl"
    simp only [tShow, DL.g1]
    exact ⟨_, _, rfl, rows_fu hrs, by rw [List.length_map]; omega, trivial, rfl⟩
  rintro _ rfl
  refine cut_seq (fun ρ => ρ = [some (dv (.scr ns)), some (dv (.lst (rs.map rowD))), some (dv (.str (lineF (wds rs)))), some (dO (.lst (ts.map rowD))), some (dv (.str (lineF (wds rs))))]) ?_ ?_
  · walk_at "dl"
  rintro _ rfl
  refine cut_seq (fun ρ => ρ = [some (dv (.scr ns)), some (dv (.lst (rs.map rowD))), some (dv (.str (lineF (wds rs)))), some (dv (.lst (ts.map rowD))), some (dv (.str (lineF (wds rs))))]) ?_ ?_
  · walk_at "dl"
    refine dComp_at (ts.map rowD) (fun ψ hψ => ?_) fstD (by rw [List.length_map]; omega) (fun d hd => ?_) ?_
    · walk_at "dl"
      exact hψ
    · obtain ⟨r, _, rfl⟩ := List.mem_map.mp hd
      unfold rowD
      simp only [ρ0, List.map_cons, List.map_nil, List.replicate, List.cons_append, List.nil_append]
      walk_at "dl"
      rfl
    rw [fst_rows]
    walk_at "dl"
    simp only [tShow, tFlat, tLine, DL.g1]
    refine ⟨_, _, rfl, rows_fu hts, by rw [List.length_map]; omega, ts, rfl, by omega, wds ts, rfl, by omega, by rw [okD_str]; trivial, by rw [okD_str]; trivial, fun z => ?_⟩
    rw [eqD_str] at z
    exact absurd (z.symm.trans (beq_self_eq_true (lineF (wds ts)))) (by decide)
  rintro _ rfl
  walk_at "dl"
  refine dComp_at (rs.map rowD) (fun ψ hψ => ?_) fstD (by rw [List.length_map]; omega) (fun d hd => ?_) ?_
  · walk_at "dl"
    exact hψ
  · obtain ⟨r, _, rfl⟩ := List.mem_map.mp hd
    unfold rowD
    simp only [ρ0, List.map_cons, List.map_nil, List.replicate, List.cons_append, List.nil_append]
    walk_at "dl"
    rfl
  rw [fst_rows]
  walk_at "dl"
  simp only [tShow, DL.g1]
  refine ⟨_, _, rfl, rows_fu hrs, by rw [List.length_map]; omega, by rw [okD_str]; trivial, ?_⟩
  rw [eqD_str, show (lineF (rs.map Prod.snd).flatten == lineF (wds rs)) = true from beq_self_eq_true (lineF (wds rs))]
  exact h
theorem all_mk {l : PySem.W.OpenLaw} {w : World} {K : PySem.W.Frag} {h : Heap} {mg : Str → Option Value} {fa : Addr} (X : K.In h) (G : h.Ns mainGlobals mg) (hfa : mg "law" = some (.ref fa)) {f1 : Addr} {od1 an1 : Option Addr} {sl1 : Array (Option Value)} {oc1 kV1 dc1 pm1 cd1 ct1 : Value} {f2 : Addr} {od2 an2 : Option Addr} {sl2 : Array (Option Value)} {oc2 kV2 dc2 pm2 cd2 ct2 : Value} {f3 : Addr} {od3 an3 : Option Addr} {sl3 : Array (Option Value)} {oc3 kV3 dc3 pm3 cd3 ct3 : Value} {f4 : Addr} {od4 an4 : Option Addr} {sl4 : Array (Option Value)} {oc4 kV4 dc4 pm4 cd4 ct4 : Value} {f5 : Addr} {od5 an5 : Option Addr} {sl5 : Array (Option Value)} {oc5 kV5 dc5 pm5 cd5 ct5 : Value} {f6 : Addr} {od6 an6 : Option Addr} {sl6 : Array (Option Value)} {oc6 kV6 dc6 pm6 cd6 ct6 : Value} {f7 : Addr} {od7 an7 : Option Addr} {sl7 : Array (Option Value)} {oc7 kV7 dc7 pm7 cd7 ct7 : Value} {f8 : Addr} {od8 an8 : Option Addr} {sl8 : Array (Option Value)} {oc8 kV8 dc8 pm8 cd8 ct8 : Value} {f9 : Addr} {od9 an9 : Option Addr} {sl9 : Array (Option Value)} {oc9 kV9 dc9 pm9 cd9 ct9 : Value} {f10 : Addr} {od10 an10 : Option Addr} {sl10 : Array (Option Value)} {oc10 kV10 dc10 pm10 cd10 ct10 : Value} {f11 : Addr} {od11 an11 : Option Addr} {sl11 : Array (Option Value)} {oc11 kV11 dc11 pm11 cd11 ct11 : Value} {f12 : Addr} {od12 an12 : Option Addr} {sl12 : Array (Option Value)} {oc12 kV12 dc12 pm12 cd12 ct12 : Value} {f13 : Addr} {od13 an13 : Option Addr} {sl13 : Array (Option Value)} {oc13 kV13 dc13 pm13 cd13 ct13 : Value} {f14 : Addr} {od14 an14 : Option Addr} {sl14 : Array (Option Value)} {oc14 kV14 dc14 pm14 cd14 ct14 : Value} {f15 : Addr} {od15 an15 : Option Addr} {sl15 : Array (Option Value)} {oc15 kV15 dc15 pm15 cd15 ct15 : Value} {f16 : Addr} {od16 an16 : Option Addr} {sl16 : Array (Option Value)} {oc16 kV16 dc16 pm16 cd16 ct16 : Value} {f17 : Addr} {od17 an17 : Option Addr} {sl17 : Array (Option Value)} {oc17 kV17 dc17 pm17 cd17 ct17 : Value} {f18 : Addr} {od18 an18 : Option Addr} {sl18 : Array (Option Value)} {oc18 kV18 dc18 pm18 cd18 ct18 : Value} {f19 : Addr} {od19 an19 : Option Addr} {sl19 : Array (Option Value)} {oc19 kV19 dc19 pm19 cd19 ct19 : Value} {f20 : Addr} {od20 an20 : Option Addr} {sl20 : Array (Option Value)} {oc20 kV20 dc20 pm20 cd20 ct20 : Value}
    (a1 : PySem.W.nsIn K mainGlobals "bracketed" = some (some (.ref f1))) (l1 : K.lookup f1 = some ⟨oc1, od1, .func (PySem.W.fnOf "bracketed" "bracketed" (defArgs (top 2)) (defBody (top 2)) (defScope (top 2)) .none kV1 dc1 pm1 an1 cd1 ct1), sl1⟩) (c1 : PySem.W.codeIn K cd1 "bracketed" = true) (k1 : PySem.W.keepIn K (.ref f1) = true)
    (a2 : PySem.W.nsIn K mainGlobals "show_expression" = some (some (.ref f2))) (l2 : K.lookup f2 = some ⟨oc2, od2, .func (PySem.W.fnOf "show_expression" "show_expression" (defArgs (top 5)) (defBody (top 5)) (defScope (top 5)) .none kV2 dc2 pm2 an2 cd2 ct2), sl2⟩) (c2 : PySem.W.codeIn K cd2 "show_expression" = true) (k2 : PySem.W.keepIn K (.ref f2) = true)
    (a3 : PySem.W.nsIn K mainGlobals "show_all" = some (some (.ref f3))) (l3 : K.lookup f3 = some ⟨oc3, od3, .func (PySem.W.fnOf "show_all" "show_all" (defArgs (top 6)) (defBody (top 6)) (defScope (top 6)) .none kV3 dc3 pm3 an3 cd3 ct3), sl3⟩) (c3 : PySem.W.codeIn K cd3 "show_all" = true) (k3 : PySem.W.keepIn K (.ref f3) = true)
    (a4 : PySem.W.nsIn K mainGlobals "show_body" = some (some (.ref f4))) (l4 : K.lookup f4 = some ⟨oc4, od4, .func (PySem.W.fnOf "show_body" "show_body" (defArgs (top 4)) (defBody (top 4)) (defScope (top 4)) .none kV4 dc4 pm4 an4 cd4 ct4), sl4⟩) (c4 : PySem.W.codeIn K cd4 "show_body" = true) (k4 : PySem.W.keepIn K (.ref f4) = true)
    (a5 : PySem.W.nsIn K mainGlobals "show_function" = some (some (.ref f5))) (l5 : K.lookup f5 = some ⟨oc5, od5, .func (PySem.W.fnOf "show_function" "show_function" (defArgs (top 3)) (defBody (top 3)) (defScope (top 3)) .none kV5 dc5 pm5 an5 cd5 ct5), sl5⟩) (c5 : PySem.W.codeIn K cd5 "show_function" = true) (k5 : PySem.W.keepIn K (.ref f5) = true)
    (a6 : PySem.W.nsIn K mainGlobals "show" = some (some (.ref f6))) (l6 : K.lookup f6 = some ⟨oc6, od6, .func (PySem.W.fnOf "show" "show" (defArgs (top 1)) (defBody (top 1)) (defScope (top 1)) .none kV6 dc6 pm6 an6 cd6 ct6), sl6⟩) (c6 : PySem.W.codeIn K cd6 "show" = true) (k6 : PySem.W.keepIn K (.ref f6) = true)
    (a7 : PySem.W.nsIn K mainGlobals "_law_cell_at" = some (some (.ref f7))) (l7 : K.lookup f7 = some ⟨oc7, od7, .func (PySem.W.fnOf "_law_cell_at" "_law_cell_at" (defArgs (top 8)) (defBody (top 8)) (defScope (top 8)) .none kV7 dc7 pm7 an7 cd7 ct7), sl7⟩) (c7 : PySem.W.codeIn K cd7 "_law_cell_at" = true) (k7 : PySem.W.keepIn K (.ref f7) = true)
    (a8 : PySem.W.nsIn K mainGlobals "_law_next" = some (some (.ref f8))) (l8 : K.lookup f8 = some ⟨oc8, od8, .func (PySem.W.fnOf "_law_next" "_law_next" (defArgs (top 10)) (defBody (top 10)) (defScope (top 10)) .none kV8 dc8 pm8 an8 cd8 ct8), sl8⟩) (c8 : PySem.W.codeIn K cd8 "_law_next" = true) (k8 : PySem.W.keepIn K (.ref f8) = true)
    (a9 : PySem.W.nsIn K mainGlobals "_law_name" = some (some (.ref f9))) (l9 : K.lookup f9 = some ⟨oc9, od9, .func (PySem.W.fnOf "_law_name" "_law_name" (defArgs (top 9)) (defBody (top 9)) (defScope (top 9)) .none kV9 dc9 pm9 an9 cd9 ct9), sl9⟩) (c9 : PySem.W.codeIn K cd9 "_law_name" = true) (k9 : PySem.W.keepIn K (.ref f9) = true)
    (a10 : PySem.W.nsIn K mainGlobals "_law_flat" = some (some (.ref f10))) (l10 : K.lookup f10 = some ⟨oc10, od10, .func (PySem.W.fnOf "_law_flat" "_law_flat" (defArgs (top 11)) (defBody (top 11)) (defScope (top 11)) .none kV10 dc10 pm10 an10 cd10 ct10), sl10⟩) (c10 : PySem.W.codeIn K cd10 "_law_flat" = true) (k10 : PySem.W.keepIn K (.ref f10) = true)
    (a11 : PySem.W.nsIn K mainGlobals "_law_plain" = some (some (.ref f11))) (l11 : K.lookup f11 = some ⟨oc11, od11, .func (PySem.W.fnOf "_law_plain" "_law_plain" (defArgs (top 12)) (defBody (top 12)) (defScope (top 12)) .none kV11 dc11 pm11 an11 cd11 ct11), sl11⟩) (c11 : PySem.W.codeIn K cd11 "_law_plain" = true) (k11 : PySem.W.keepIn K (.ref f11) = true)
    (a12 : PySem.W.nsIn K mainGlobals "_law_e" = some (some (.ref f12))) (l12 : K.lookup f12 = some ⟨oc12, od12, .func (PySem.W.fnOf "_law_e" "_law_e" (defArgs (top 13)) (defBody (top 13)) (defScope (top 13)) .none kV12 dc12 pm12 an12 cd12 ct12), sl12⟩) (c12 : PySem.W.codeIn K cd12 "_law_e" = true) (k12 : PySem.W.keepIn K (.ref f12) = true)
    (a13 : PySem.W.nsIn K mainGlobals "_law_body" = some (some (.ref f13))) (l13 : K.lookup f13 = some ⟨oc13, od13, .func (PySem.W.fnOf "_law_body" "_law_body" (defArgs (top 15)) (defBody (top 15)) (defScope (top 15)) .none kV13 dc13 pm13 an13 cd13 ct13), sl13⟩) (c13 : PySem.W.codeIn K cd13 "_law_body" = true) (k13 : PySem.W.keepIn K (.ref f13) = true)
    (a14 : PySem.W.nsIn K mainGlobals "_law_open" = some (some (.ref f14))) (l14 : K.lookup f14 = some ⟨oc14, od14, .func (PySem.W.fnOf "_law_open" "_law_open" (defArgs (top 14)) (defBody (top 14)) (defScope (top 14)) .none kV14 dc14 pm14 an14 cd14 ct14), sl14⟩) (c14 : PySem.W.codeIn K cd14 "_law_open" = true) (k14 : PySem.W.keepIn K (.ref f14) = true)
    (a15 : PySem.W.nsIn K mainGlobals "_law_head" = some (some (.ref f15))) (l15 : K.lookup f15 = some ⟨oc15, od15, .func (PySem.W.fnOf "_law_head" "_law_head" (defArgs (top 16)) (defBody (top 16)) (defScope (top 16)) .none kV15 dc15 pm15 an15 cd15 ct15), sl15⟩) (c15 : PySem.W.codeIn K cd15 "_law_head" = true) (k15 : PySem.W.keepIn K (.ref f15) = true)
    (a16 : PySem.W.nsIn K mainGlobals "_law_built" = some (some (.ref f16))) (l16 : K.lookup f16 = some ⟨oc16, od16, .func (PySem.W.fnOf "_law_built" "_law_built" (defArgs (top 17)) (defBody (top 17)) (defScope (top 17)) .none kV16 dc16 pm16 an16 cd16 ct16), sl16⟩) (c16 : PySem.W.codeIn K cd16 "_law_built" = true) (k16 : PySem.W.keepIn K (.ref f16) = true)
    (a17 : PySem.W.nsIn K mainGlobals "_law_function" = some (some (.ref f17))) (l17 : K.lookup f17 = some ⟨oc17, od17, .func (PySem.W.fnOf "_law_function" "_law_function" (defArgs (top 18)) (defBody (top 18)) (defScope (top 18)) .none kV17 dc17 pm17 an17 cd17 ct17), sl17⟩) (c17 : PySem.W.codeIn K cd17 "_law_function" = true) (k17 : PySem.W.keepIn K (.ref f17) = true)
    (a18 : PySem.W.nsIn K mainGlobals "_law_grown" = some (some (.ref f18))) (l18 : K.lookup f18 = some ⟨oc18, od18, .func (PySem.W.fnOf "_law_grown" "_law_grown" (defArgs (top 19)) (defBody (top 19)) (defScope (top 19)) .none kV18 dc18 pm18 an18 cd18 ct18), sl18⟩) (c18 : PySem.W.codeIn K cd18 "_law_grown" = true) (k18 : PySem.W.keepIn K (.ref f18) = true)
    (a19 : PySem.W.nsIn K mainGlobals "_law_line" = some (some (.ref f19))) (l19 : K.lookup f19 = some ⟨oc19, od19, .func (PySem.W.fnOf "_law_line" "_law_line" (defArgs (top 20)) (defBody (top 20)) (defScope (top 20)) .none kV19 dc19 pm19 an19 cd19 ct19), sl19⟩) (c19 : PySem.W.codeIn K cd19 "_law_line" = true) (k19 : PySem.W.keepIn K (.ref f19) = true)
    (a20 : PySem.W.nsIn K mainGlobals "law" = some (some (.ref f20))) (l20 : K.lookup f20 = some ⟨oc20, od20, .func (PySem.W.fnOf "law" "law" (defArgs (top 21)) (defBody (top 21)) (defScope (top 21)) .none kV20 dc20 pm20 an20 cd20 ct20), sl20⟩) (c20 : PySem.W.codeIn K cd20 "law" = true) (k20 : PySem.W.keepIn K (.ref f20) = true) (z_int : PySem.W.nsIn K mainGlobals "int" = some none) (z_isinstance : PySem.W.nsIn K mainGlobals "isinstance" = some none) (z_len : PySem.W.nsIn K mainGlobals "len" = some none) (z_range : PySem.W.nsIn K mainGlobals "range" = some none) (z_str : PySem.W.nsIn K mainGlobals "str" = some none) (z_tuple : PySem.W.nsIn K mainGlobals "tuple" = some none) :
    ∃ fd : FuncData, (∀ (s : Shared) (v : Value), BindsTo s fd ⟨[v], []⟩ [("_law_script", v)]) ∧ ∀ base : Heap, K.In base → base.Ns mainGlobals mg → FnOk l.prog w K mg base CX0 20 fa fd ["_law_script"] (spD K 1 lawT) := by
  have e := hfa.symm.trans (PySem.W.mg_of X G a20)
  cases e
  have T : Tops mg := ⟨PySem.W.mg_none_of X G z_int, PySem.W.mg_none_of X G z_isinstance, PySem.W.mg_none_of X G z_len, PySem.W.mg_none_of X G z_range, PySem.W.mg_none_of X G z_str, PySem.W.mg_none_of X G z_tuple⟩
  have F1 := fun_mk (st := top 2) l1 c1 k1
  have F2 := fun_mk (st := top 5) l2 c2 k2
  have F3 := fun_mk (st := top 6) l3 c3 k3
  have F4 := fun_mk (st := top 4) l4 c4 k4
  have F5 := fun_mk (st := top 3) l5 c5 k5
  have F6 := fun_mk (st := top 1) l6 c6 k6
  have F7 := fun_mk (st := top 8) l7 c7 k7
  have F8 := fun_mk (st := top 10) l8 c8 k8
  have F9 := fun_mk (st := top 9) l9 c9 k9
  have F10 := fun_mk (st := top 11) l10 c10 k10
  have F11 := fun_mk (st := top 12) l11 c11 k11
  have F12 := fun_mk (st := top 13) l12 c12 k12
  have F13 := fun_mk (st := top 15) l13 c13 k13
  have F14 := fun_mk (st := top 14) l14 c14 k14
  have F15 := fun_mk (st := top 16) l15 c15 k15
  have F16 := fun_mk (st := top 17) l16 c16 k16
  have F17 := fun_mk (st := top 18) l17 c17 k17
  have F18 := fun_mk (st := top 19) l18 c18 k18
  have F19 := fun_mk (st := top 20) l19 c19 k19
  have F20 := fun_mk (st := top 21) l20 c20 k20
  refine ⟨PySem.W.fnOf "law" "law" (defArgs (top 21)) (defBody (top 21)) (defScope (top 21)) .none kV20 dc20 pm20 an20 cd20 ct20, fun s v => .of_eq rfl, fun base _ _ => ?_⟩
  have D_bracketed := fd_bracketed (P := l.prog) (w := w) (base := base) T  F1 (PySem.W.mg_of X G a1)
  have D_show_expression := fd_showE (P := l.prog) (w := w) (base := base) T D_bracketed F3 (PySem.W.mg_of X G a3) F2 (PySem.W.mg_of X G a2)
  have D_show_all := fd_show_all (P := l.prog) (w := w) (base := base) T (D_show_expression 4) F3 (PySem.W.mg_of X G a3)
  have D_show_body := fd_showB (P := l.prog) (w := w) (base := base) T D_bracketed (D_show_expression 4) F4 (PySem.W.mg_of X G a4)
  have D_show_function := fd_show_function (P := l.prog) (w := w) (base := base) T D_bracketed (D_show_body 5) F5 (PySem.W.mg_of X G a5)
  have D_show := fd_show (P := l.prog) (w := w) (base := base) T D_show_function F6 (PySem.W.mg_of X G a6)
  have D__law_cell_at := fd_law_cell_at (P := l.prog) (w := w) (base := base) T  F7 (PySem.W.mg_of X G a7)
  have D__law_next := fd_law_next (P := l.prog) (w := w) (base := base) T  F8 (PySem.W.mg_of X G a8)
  have D__law_name := fd_law_name (P := l.prog) (w := w) (base := base) T  F9 (PySem.W.mg_of X G a9)
  have D__law_flat := fd_law_flat (P := l.prog) (w := w) (base := base) T  F10 (PySem.W.mg_of X G a10)
  have D__law_plain := fd_law_plain (P := l.prog) (w := w) (base := base) T  F11 (PySem.W.mg_of X G a11)
  have D__law_e := fd_lawE (P := l.prog) (w := w) (base := base) T D__law_next D__law_plain D__law_flat F12 (PySem.W.mg_of X G a12)
  have D__law_body := fd_lawB (P := l.prog) (w := w) (base := base) T D__law_next D__law_flat (D__law_e 4) (D__law_e 3) F14 (PySem.W.mg_of X G a14) F13 (PySem.W.mg_of X G a13)
  have D__law_open := fd_law_open (P := l.prog) (w := w) (base := base) T (D__law_body 4) F14 (PySem.W.mg_of X G a14)
  have D__law_head := fd_law_head (P := l.prog) (w := w) (base := base) T  F15 (PySem.W.mg_of X G a15)
  have D__law_built := fd_law_built (P := l.prog) (w := w) (base := base) T  F16 (PySem.W.mg_of X G a16)
  have D__law_function := fd_law_function (P := l.prog) (w := w) (base := base) T D__law_name (D__law_body 5) D__law_built F17 (PySem.W.mg_of X G a17)
  have D__law_grown := fd_law_grown (P := l.prog) (w := w) (base := base) T D__law_cell_at D__law_name D__law_head D__law_function F18 (PySem.W.mg_of X G a18)
  have D__law_line := fd_law_line (P := l.prog) (w := w) (base := base) T  F19 (PySem.W.mg_of X G a19)
  exact ok_law T D_show D__law_grown D__law_flat D__law_line F20
end
end K05
open PySem PySem.W PyProof.Rows
set_option maxRecDepth 100000 in
set_option maxHeartbeats 0 in
theorem PySem.Challenge.cw_toll_k05_shown_holds : PySem.Challenge.rw_toll_k05_shown.Holds := by
  w_on; o_law; k_head; (case hw => w_witness2)
  k_fill
  refine DL.walkD (l := PySem.Challenge.rw_toll_k05_shown) (k := 20) (x := "_law_script") rfl rfl ⟨rfl, by decide, by decide⟩ (fun w h Y => PySem.W.kIn_of Y) ?F
  case F =>
    intro w mg fa h KX G hmg
    refine' K05.all_mk KX G hmg ?a1 ?l1 ?c1 ?k1 ?a2 ?l2 ?c2 ?k2 ?a3 ?l3 ?c3 ?k3 ?a4 ?l4 ?c4 ?k4 ?a5 ?l5 ?c5 ?k5 ?a6 ?l6 ?c6 ?k6 ?a7 ?l7 ?c7 ?k7 ?a8 ?l8 ?c8 ?k8 ?a9 ?l9 ?c9 ?k9 ?a10 ?l10 ?c10 ?k10 ?a11 ?l11 ?c11 ?k11 ?a12 ?l12 ?c12 ?k12 ?a13 ?l13 ?c13 ?k13 ?a14 ?l14 ?c14 ?k14 ?a15 ?l15 ?c15 ?k15 ?a16 ?l16 ?c16 ?k16 ?a17 ?l17 ?c17 ?k17 ?a18 ?l18 ?c18 ?k18 ?a19 ?l19 ?c19 ?k19 ?a20 ?l20 ?c20 ?k20 ?z_int ?z_isinstance ?z_len ?z_range ?z_str ?z_tuple
    (case a1 => k_is)
    (case l1 => k_is)
    (case c1 => k_is)
    (case k1 => k_is)
    (case a2 => k_is)
    (case l2 => k_is)
    (case c2 => k_is)
    (case k2 => k_is)
    (case a3 => k_is)
    (case l3 => k_is)
    (case c3 => k_is)
    (case k3 => k_is)
    (case a4 => k_is)
    (case l4 => k_is)
    (case c4 => k_is)
    (case k4 => k_is)
    (case a5 => k_is)
    (case l5 => k_is)
    (case c5 => k_is)
    (case k5 => k_is)
    (case a6 => k_is)
    (case l6 => k_is)
    (case c6 => k_is)
    (case k6 => k_is)
    (case a7 => k_is)
    (case l7 => k_is)
    (case c7 => k_is)
    (case k7 => k_is)
    (case a8 => k_is)
    (case l8 => k_is)
    (case c8 => k_is)
    (case k8 => k_is)
    (case a9 => k_is)
    (case l9 => k_is)
    (case c9 => k_is)
    (case k9 => k_is)
    (case a10 => k_is)
    (case l10 => k_is)
    (case c10 => k_is)
    (case k10 => k_is)
    (case a11 => k_is)
    (case l11 => k_is)
    (case c11 => k_is)
    (case k11 => k_is)
    (case a12 => k_is)
    (case l12 => k_is)
    (case c12 => k_is)
    (case k12 => k_is)
    (case a13 => k_is)
    (case l13 => k_is)
    (case c13 => k_is)
    (case k13 => k_is)
    (case a14 => k_is)
    (case l14 => k_is)
    (case c14 => k_is)
    (case k14 => k_is)
    (case a15 => k_is)
    (case l15 => k_is)
    (case c15 => k_is)
    (case k15 => k_is)
    (case a16 => k_is)
    (case l16 => k_is)
    (case c16 => k_is)
    (case k16 => k_is)
    (case a17 => k_is)
    (case l17 => k_is)
    (case c17 => k_is)
    (case k17 => k_is)
    (case a18 => k_is)
    (case l18 => k_is)
    (case c18 => k_is)
    (case k18 => k_is)
    (case a19 => k_is)
    (case l19 => k_is)
    (case c19 => k_is)
    (case k19 => k_is)
    (case a20 => k_is)
    (case l20 => k_is)
    (case c20 => k_is)
    (case k20 => k_is)
    (case z_int => k_is)
    (case z_isinstance => k_is)
    (case z_len => k_is)
    (case z_range => k_is)
    (case z_str => k_is)
    (case z_tuple => k_is)


