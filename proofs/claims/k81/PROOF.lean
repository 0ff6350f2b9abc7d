import PyProof.Rows.All
import Wide.All
import OpenK.AllK
import Wide.FinOn
import Lean
import PyProof.EqAt
import PyProof.EqKinds
import PyProof.TupleCall
import PyProof.NeKinds
import PyProof.Rows.Range3
import KE.KDictOf
import KE.KMinBuiltin
import PyProof.Rows.CallKwBuiltin
import KE.KRevIter
import KE.KDictList
import PyProof.DictWalks
import KE.KSortTup
import KE.KDictSum
import KE.KItemsList
import PyProof.StrLaws
import PyProof.StrCalls
import PyProof.StrBlockH
import KE.KIntText
import KE.IntTextLaws
import PyProof.StrOps2
import PyProof.SliceStr2
import PyProof.StrBlockI
import PyProof.StrLawsTight
import PyProof.Rows.StrItems
import PyProof.Rows.StrNews2
import PyProof.Rows.RegReprOcc
import PyProof.StrLawsFirst
import PyProof.StrLawsFrom
import PySem.Challenge.RW_toll_k81_trees
set_option Elab.async false
set_option linter.all false
set_option maxRecDepth 100000
namespace L2
open PySem PySem.Spec PyProof.Rows

/-- a key: an int or a str -/
noncomputable abbrev Key := Sum Int Str
noncomputable def keyIs : Key → Value → Bool
  | .inl k, v => Value.isInt k v
  | .inr x, v => Value.isStrOf x v
noncomputable def keyH (w : World) : Key → Int
  | .inl k => hashInt k
  | .inr x => hashStr w x
theorem keyIs_shape : ∀ {k : Key} {v : Value}, keyIs k v = true → (∃ i t, k = Sum.inl i ∧ v = Value.int i t) ∨ (∃ x t, k = Sum.inr x ∧ v = Value.str x t)
  | .inl i, v, h => by
    obtain ⟨t, e⟩ := Value.isInt_shape (k := i) (v := v) h
    exact .inl ⟨i, t, rfl, e⟩
  | .inr x, v, h => by
    obtain ⟨t, e⟩ := Value.isStrOf_shape (x := x) (v := v) h
    exact .inr ⟨x, t, rfl, e⟩
theorem keyIs_int (i : Int) (t : Tok) : keyIs (.inl i) (.int i t) = true := by simp [keyIs, Value.isInt]
theorem keyIs_str (x : Str) (t : Tok) : keyIs (.inr x) (.str x t) = true := by simp [keyIs, Value.isStrOf]
theorem key_ll (a b : Int) : decide ((Sum.inl a : Key) = Sum.inl b) = (a == b) := by
  by_cases e : a = b
  · subst e; simp
  · have h : ¬ (Sum.inl a : Key) = Sum.inl b := fun q => e (Sum.inl.inj q)
    rw [decide_eq_false h]
    exact (beq_eq_false_iff_ne.mpr e).symm
theorem key_rr (a b : Str) : decide ((Sum.inr a : Key) = Sum.inr b) = decide (a = b) := by
  by_cases e : a = b
  · subst e; simp
  · have h : ¬ (Sum.inr a : Key) = Sum.inr b := fun q => e (Sum.inr.inj q)
    rw [decide_eq_false h, decide_eq_false e]
theorem key_lr (a : Int) (b : Str) : decide ((Sum.inl a : Key) = Sum.inr b) = false := decide_eq_false (fun q => nomatch q)
theorem key_rl (a : Str) (b : Int) : decide ((Sum.inr a : Key) = Sum.inl b) = false := decide_eq_false (fun q => nomatch q)

noncomputable def mixKind (prog : Program) (w : World) : PySem.KeyKind prog w Key where
  is := keyIs
  hash := keyH w
  inj := fun v a b ha hb => by
    rcases keyIs_shape ha with ⟨i, t, rfl, rfl⟩ | ⟨x, t, rfl, rfl⟩
    · rcases keyIs_shape hb with ⟨j, u, rfl, e⟩ | ⟨y, u, rfl, e⟩
      · injection e with e1 _; rw [e1]
      · exact nomatch e
    · rcases keyIs_shape hb with ⟨j, u, rfl, e⟩ | ⟨y, u, rfl, e⟩
      · exact nomatch e
      · injection e with e1 _; rw [e1]
  byValue := fun k v h => by
    rcases keyIs_shape h with ⟨i, t, rfl, rfl⟩ | ⟨x, t, rfl, rfl⟩ <;> rfl
  pyHash := fun hv h => by
    rcases keyIs_shape hv with ⟨i, t, rfl, rfl⟩ | ⟨x, t, rfl, rfl⟩
    · exact wpAny_pyHash_int h
    · exact wpAny_pyHash_str h
  eqBool := fun hu hv h => by
    rcases keyIs_shape hu with ⟨i, t, rfl, rfl⟩ | ⟨x, t, rfl, rfl⟩
    · rcases keyIs_shape hv with ⟨j, u, rfl, rfl⟩ | ⟨y, u, rfl, rfl⟩
      · rw [key_ll] at h; exact wpAny_eqBool_int h
      · rw [key_lr] at h; exact SeqAt.EqAt.int_str i t y u _ _ _ _ h
    · rcases keyIs_shape hv with ⟨j, u, rfl, rfl⟩ | ⟨y, u, rfl, rfl⟩
      · rw [key_rl] at h; exact SeqAt.EqAt.str_int x t j u _ _ _ _ h
      · rw [key_rr] at h; exact wpAny_eqBool_str h
  «strs» := fun k x t v h => by
    rcases keyIs_shape h with ⟨i, u, rfl, e⟩ | ⟨y, u, rfl, e⟩
    · exact nomatch e
    · injection e with e1 _
      subst e1
      cases v <;> rfl

theorem mixKind_int (prog : Program) (w : World) (i : Int) (t : Tok) : (mixKind prog w).is (.inl i) (.int i t) = true := keyIs_int i t
theorem mixKind_str (prog : Program) (w : World) (x : Str) (t : Tok) : (mixKind prog w).is (.inr x) (.str x t) = true := keyIs_str x t
end L2

namespace L2
open PySem PySem.Spec PyProof.Rows

/-- a value, without the heap -/
inductive V where
  | non | bl (b : Bool) | int (i : Int) | str (x : Str) | byt (b : Array UInt8) | flt (b : UInt64) | ref (a : Addr) | ty (n : String)
  deriving DecidableEq

noncomputable def RelV : V → Value → Prop
  | .non, u => u = Value.none
  | .bl b, u => u = Value.bool b
  | .int i, u => ∃ t, u = Value.int i t
  | .str x, u => ∃ t, u = Value.str x t
  | .byt b, u => ∃ t, u = Value.bytes b t
  | .flt b, u => ∃ t, u = Value.float b t
  | .ref a, u => u = Value.ref a
  | .ty n, u => u = Value.type n

noncomputable abbrev Vals : List V → List Value → Prop := Paired RelV
theorem Vals.length {xs : List V} {us : List Value} (r : Vals xs us) : xs.length = us.length := Paired.length r
theorem Vals.get : ∀ {xs : List V} {us : List Value} {i : Nat} {x : V}, Vals xs us → xs[i]? = some x → ∃ u, us[i]? = some u ∧ RelV x u
  | _, _, _, _, .nil, e => by simp at e
  | _, _, 0, _, .cons r _, e => by simp at e; subst e; exact ⟨_, rfl, r⟩
  | _, _, i + 1, x, .cons _ t, e => by
    obtain ⟨u, h1, h2⟩ := Vals.get (i := i) (x := x) t (by simpa using e)
    exact ⟨u, by simpa using h1, h2⟩
theorem Vals.set {x : V} {u : Value} (r : RelV x u) : ∀ {xs : List V} {us : List Value} (i : Nat), Vals xs us → Vals (xs.set i x) (us.set i u)
  | _, _, _, .nil => .nil
  | _, _, 0, .cons _ t => .cons r t
  | _, _, i + 1, .cons q t => .cons q (Vals.set r i t)
theorem Vals.append : ∀ {xs ys : List V} {us ws : List Value}, Vals xs us → Vals ys ws → Vals (xs ++ ys) (us ++ ws)
  | _, _, _, _, .nil, s => s
  | _, _, _, _, .cons r t, s => .cons r (Vals.append t s)
theorem Vals.take : ∀ {xs : List V} {us : List Value} (n : Nat), Vals xs us → Vals (xs.take n) (us.take n)
  | _, _, 0, _ => .nil
  | _, _, _ + 1, .nil => .nil
  | _, _, n + 1, .cons r t => .cons r (Vals.take n t)
theorem Vals.drop : ∀ {xs : List V} {us : List Value} (n : Nat), Vals xs us → Vals (xs.drop n) (us.drop n)
  | _, _, 0, r => r
  | _, _, _ + 1, .nil => .nil
  | _, _, n + 1, .cons _ t => Vals.drop n t
noncomputable def RelO : Option V → Option Value → Prop
  | some v, some u => RelV v u
  | none, none => True
  | _, _ => False
noncomputable def KV {κ : Type} : List (κ × V) → List (κ × Value) → Prop := Paired fun (p : κ × V) (q : κ × Value) => p.1 = q.1 ∧ RelV p.2 q.2

/-- a key of a dict (00_mix): an int or a text -/
noncomputable def kV : Key → V
  | .inl i => .int i
  | .inr x => .str x

/-- what stands at a tracked address -/
inductive HO where
  /-- a list -/
  | lst (xs : List V)
  /-- a tuple (never changes) -/
  | tup (xs : List V)
  /-- a dict whose keys are ints and texts; one whose keys are tuples of ints and texts (the empty one is both) -/
  | dK (kvs : List (Key × V)) | dT (kvs : List (List Key × V))
  /-- a set of ints: its members, its size -/
  | set (S : Int → Bool) (n : Nat)
  /-- an instance of the class at C, its dict at dx, its attributes -/
  | ins (C dx : Addr) (fs : List (Str × V))
  /-- the dict of the instance at x -/
  | own (x : Addr)
  /-- the dict of an exception -/
  | xd (fs : List (Str × V))
  /-- a bound method, f of x -/
  | met (f x : Addr)
  /-- a range object lo, lo + 1, .. below hi -/
  | rng (lo hi : Int)
  /-- a thing that is known to the object (the script; a dict while a loop walks it): read, never written while it is so -/
  | frz (o : Obj) (u : HO)
  /-- a code object's table -/
  | tbl (ps : Array Value)
  /-- any other thing, by what is true of its one object (a def of one's own: SetO a S n := HO.ext fun h => ..) -/
  | ext (φ : Heap → Prop)

noncomputable abbrev Hp := Addr → Option HO
noncomputable def upd (H : Hp) (a : Addr) (o : HO) : Hp := fun b => if b = a then some o else H b
theorem upd_same {H : Hp} {a : Addr} {o : HO} : upd H a o a = some o := by unfold upd; rw [if_pos rfl]
theorem upd_ne {H : Hp} {a b : Addr} {o : HO} (h : b ≠ a) : upd H a o b = H b := by unfold upd; rw [if_neg h]
theorem ne_of_none {H : Hp} {a b : Addr} {o : HO} (h : H a = some o) (h' : H b = none) : a ≠ b := by
  intro e; subst e; rw [h] at h'; cases h'

section
variable (P : Program) (w : World)
noncomputable def ObjOk (H : Hp) (h : Heap) (a : Addr) : HO → Prop
  | .lst xs => xs.length ≤ sizeLine ∧ ∃ (its : List Value) (n : Nat), Vals xs its ∧ h.get? a = some { cls := .type "list", data := .seq its.toArray n }
  | .tup xs => xs.length ≤ sizeLine ∧ ∃ its : List Value, Vals xs its ∧ IsTup h a its.toArray ∧ ∃ o, h.get? a = some o ∧ o.dict = none
  | .dK kvs => kvs.length ≤ sizeLine ∧ (a == sysModules) = false ∧ ∃ vs, KV kvs vs ∧ h.DictOf (mixKind P w) a vs
  | .dT kvs => kvs.length ≤ sizeLine ∧ (a == sysModules) = false ∧ ∃ xs : List (List Key × Addr × Value),
      Paired (fun (p : List Key × V) (q : List Key × Addr × Value) => p.1 = q.1 ∧ H q.2.1 = some (.tup (p.1.map kV)) ∧ RelV p.2 q.2.2) kvs xs ∧
      ∃ o es ep, h.get? a = some o ∧ o.ExactDict ∧ o.data = .dict es ep ∧ es.toList = xs.map (entryOfKey (tupleKind (mixKind P w))) ∧ (xs.map (·.1)).Nodup
  | .set S n => h.SetOf (intKind P w) a S n
  | .ins C dx fs => H dx = some (.own a) ∧ fs.length ≤ 1000 ∧ dx ≠ a ∧ h.get? a = some (PySem.W.instObj C dx) ∧
      ∃ mA, h.Ns1 dx mA ∧ (∀ f, RelO (fs.lookup f) (mA f)) ∧ PySem.Within mA (fs.map (·.1))
  | .own _ => ∃ o, h.get? a = some o
  | .xd fs => ∃ mA, h.Ns1 a mA ∧ ∀ f, RelO (fs.lookup f) (mA f)
  | .rng lo hi => ∃ t u v, h.get? a = some { cls := .type "range", data := .fields #[.int lo t, .int hi u, .int 1 v] }
  | .frz o u => h.get? a = some o ∧ ObjOk H h a u
  | .tbl ps => h.get? a = some { cls := .none, data := .fields ps }
  | .met f x => h.get? a = some (PySem.W.methodObj (.ref f) (.ref x))
  | .ext φ => φ h ∧ (∃ o, h.get? a = some o) ∧ ∀ h1 h2 : Heap, φ h1 → (∀ o, h1.get? a = some o → h2.get? a = some o) → φ h2
/-- the abstract heap is held -/
noncomputable def HOk (H : Hp) (h : Heap) : Prop := ∀ a o, H a = some o → ObjOk P w H h a o
end

section
variable {P : Program} {w : World} {H H' : Hp} {h h' : Heap} {a : Addr} {o : HO}
theorem ObjOk.lt (x : ObjOk P w H h a o) : a < h.objs.size := by
  cases o with
  | lst xs => obtain ⟨_, _, _, _, e⟩ := x; exact Heap.lt_size e
  | tup xs => obtain ⟨_, _, _, p⟩ := x; exact p.1.lt
  | dK kvs => obtain ⟨_, _, _, _, o, _, _, e, _⟩ := x; exact Heap.lt_size e
  | dT kvs => obtain ⟨_, _, _, _, o, _, _, e, _⟩ := x; exact Heap.lt_size e
  | set S n => obtain ⟨o, _, _, _, e, _⟩ := x; exact Heap.lt_size e
  | ins C dx fs => obtain ⟨_, _, _, e, _⟩ := x; exact Heap.lt_size e
  | own y => obtain ⟨_, e⟩ := x; exact Heap.lt_size e
  | xd fs => obtain ⟨_, ⟨_, _, _, e, _⟩, _⟩ := x; exact Heap.lt_size e
  | rng lo hi => obtain ⟨_, _, _, e⟩ := x; exact Heap.lt_size e
  | frz ob u => obtain ⟨e, _⟩ := x; exact Heap.lt_size e
  | tbl ps => exact Heap.lt_size (show h.get? a = some _ from x)
  | met f y => exact Heap.lt_size (show h.get? a = some _ from x)
  | ext φ => obtain ⟨_, ⟨_, e⟩, _⟩ := x; exact Heap.lt_size e
theorem Paired.mapP {α β : Type} {F G : α → β → Prop} : ∀ {l₁ : List α} {l₂ : List β}, Paired F l₁ l₂ → (∀ a b, F a b → G a b) → Paired G l₁ l₂
  | _, _, .nil, _ => .nil
  | _, _, .cons r t, f => .cons (f _ _ r) (Paired.mapP t f)
/-- what an object's description leans on: its own object, its own dict, the tuples -/
theorem ObjOk.stay (x : ObjOk P w H h a o) (k : ∀ b u, (b = a ∨ H b = some (.own a)) → h.get? b = some u → h'.get? b = some u)
    (ho : ∀ b, H b = some (.own a) → H' b = some (.own a)) (ht : ∀ b xs, H b = some (.tup xs) → H' b = some (.tup xs)) : ObjOk P w H' h' a o := by
  induction o with
  | lst xs => obtain ⟨z, its, n, r, e⟩ := x; exact ⟨z, its, n, r, k _ _ (.inl rfl) e⟩
  | tup xs => obtain ⟨z, its, r, ⟨ob, e, c⟩, od, ed, cd⟩ := x; exact ⟨z, its, r, ⟨ob, k _ _ (.inl rfl) e, c⟩, od, k _ _ (.inl rfl) ed, cd⟩
  | dK kvs => obtain ⟨z, y, vs, r, ob, es, ep, e, c⟩ := x; exact ⟨z, y, vs, r, ob, es, ep, k _ _ (.inl rfl) e, c⟩
  | dT kvs =>
    obtain ⟨z, y, xs, r, ob, es, ep, e, c⟩ := x
    exact ⟨z, y, xs, Paired.mapP r fun p q z => ⟨z.1, ht _ _ z.2.1, z.2.2⟩, ob, es, ep, k _ _ (.inl rfl) e, c⟩
  | set S n => obtain ⟨ob, es, ep, t, e, c⟩ := x; exact ⟨ob, es, ep, t, k _ _ (.inl rfl) e, c⟩
  | ins C dx fs =>
    obtain ⟨d, z, ne, e, mA, ⟨od, es, ep, e2, c⟩, r⟩ := x
    exact ⟨ho _ d, z, ne, k _ _ (.inl rfl) e, mA, ⟨od, es, ep, k _ _ (.inr d) e2, c⟩, r⟩
  | own y => obtain ⟨ob, e⟩ := x; exact ⟨ob, k _ _ (.inl rfl) e⟩
  | xd fs => obtain ⟨mA, ⟨od, es, ep, e, c⟩, r⟩ := x; exact ⟨mA, ⟨od, es, ep, k _ _ (.inl rfl) e, c⟩, r⟩
  | rng lo hi => obtain ⟨t, u, v, e⟩ := x; exact ⟨t, u, v, k _ _ (.inl rfl) e⟩
  | frz ob u ih => obtain ⟨e, q⟩ := x; exact ⟨k _ _ (.inl rfl) e, ih q⟩
  | tbl ps =>
    have e : h.get? a = some { cls := .none, data := .fields ps } := x
    show h'.get? a = some { cls := .none, data := .fields ps }
    exact k a _ (.inl rfl) e
  | met f y =>
    have e : h.get? a = some (PySem.W.methodObj (.ref f) (.ref y)) := x
    show h'.get? a = some (PySem.W.methodObj (.ref f) (.ref y))
    exact k a _ (.inl rfl) e
  | ext φ => obtain ⟨p, ⟨o, e⟩, st⟩ := x; exact ⟨st _ _ p fun o q => k _ _ (.inl rfl) q, ⟨o, k _ _ (.inl rfl) e⟩, st⟩
theorem HOk.lt (x : HOk P w H h) (e : H a = some o) : a < h.objs.size := (x a o e).lt
theorem HOk.fresh (x : HOk P w H h) (e : h.objs.size ≤ a) : H a = none := by
  cases q : H a with
  | none => rfl
  | some u => exact absurd (Nat.lt_of_lt_of_le (x.lt q) e) (Nat.lt_irrefl _)
/-- every object of the heap is kept -/
theorem HOk.kept (x : HOk P w H h) (k : ∀ b u, h.get? b = some u → h'.get? b = some u) : HOk P w H h' := fun a o e =>
  (x a o e).stay (fun b u _ q => k b u q) (fun _ q => q) fun _ _ q => q
/-- a new object is laid and tracked -/
theorem HOk.laid (x : HOk P w H h) (k : ∀ b u, h.get? b = some u → h'.get? b = some u) (hp : h.objs.size ≤ a) (new : ObjOk P w (upd H a o) h' a o) : HOk P w (upd H a o) h' := fun b u e => by
  have hn := x.fresh hp
  by_cases hb : b = a
  · subst hb; rw [upd_same] at e; cases e; exact new
  · rw [upd_ne hb] at e
    exact (x b u e).stay (fun c v _ q => k c v q) (fun c q => by rw [upd_ne (ne_of_none q hn)]; exact q) fun c xs q => by rw [upd_ne (ne_of_none q hn)]; exact q
end

/-- what may be read as u: it is u, or a known u -/
noncomputable def Rd (H : Hp) (a : Addr) (u : HO) : Prop := H a = some u ∨ ∃ o, H a = some (.frz o u)
theorem Rd.of {H : Hp} {a : Addr} {u : HO} (h : H a = some u) : Rd H a u := .inl h
theorem Rd.ok {P : Program} {w : World} {H : Hp} {h : Heap} {a : Addr} {u : HO} (r : Rd H a u) (x : HOk P w H h) : ObjOk P w H h a u := by
  rcases r with r | ⟨o, r⟩
  · exact x a u r
  · obtain ⟨_, q⟩ := x a _ r
    exact q
/-- what may be written -/
noncomputable def Mut : Option HO → Prop
  | some (.lst _) => True
  | some (.dK _) => True
  | some (.dT _) => True
  | some (.set _ _) => True
  | some (.ins _ _ _) => True
  | some (.ext _) => True
  | _ => False
section
variable {P : Program} {w : World} {H : Hp} {h h' : Heap} {x e : Addr} {o' : HO}
/-- the object at e is changed: x itself, or the dict of the instance x -/
theorem HOk.write (ok : HOk P w H h) (mu : Mut (H x)) (he : e = x ∨ H e = some (.own x)) (k : ∀ b u, b ≠ e → h.get? b = some u → h'.get? b = some u) (heo : ∃ u, h'.get? e = some u)
    (new : ObjOk P w (upd H x o') h' x o') : HOk P w (upd H x o') h' := fun b u q => by
  have nown : ∀ c y, H c = some (.own y) → c ≠ x := fun c y r z => by subst z; rw [r] at mu; exact mu
  have ntup : ∀ c xs, H c = some (.tup xs) → c ≠ x := fun c xs r z => by subst z; rw [r] at mu; exact mu
  by_cases hb : b = x
  · subst hb; rw [upd_same] at q; cases q; exact new
  · rw [upd_ne hb] at q
    by_cases hbe : b = e
    · have q' : H b = some (.own x) := by
        rcases he with z | z
        · exact absurd (hbe.trans z) hb
        · rw [hbe]; exact z
      rw [q] at q'; cases q'
      obtain ⟨v, hv⟩ := heo
      exact ⟨v, by rw [hbe]; exact hv⟩
    · refine (ok b u q).stay (fun c v hc r => k c v ?_ r) (fun c r => by rw [upd_ne (nown c b r)]; exact r) fun c xs r => by rw [upd_ne (ntup c xs r)]; exact r
      rcases hc with rfl | hc
      · exact hbe
      · rintro rfl
        rcases he with z | z
        · exact nown c b hc z
        · rw [hc] at z; cases z; exact hb rfl
end

structure Un (fs ex : List Addr) (H H' : Hp) (h h' : Heap) : Prop where
  keep : ∀ b o, h.get? b = some o → H b = none → b ∉ fs → b ∉ ex → h'.get? b = some o
  slot : ∀ b o, h.get? b = some o → H b = none → b ∈ fs → b ∉ ex → ∃ sl, h'.get? b = some { o with slots := sl }
  free : ∀ b o, h.get? b = some o → H b = none → b ∉ ex → H' b = none
  there : ∀ b o, h.get? b = some o → b ∉ ex → ∃ o', h'.get? b = some o'
  tups : ∀ b xs, H b = some (.tup xs) → H' b = some (.tup xs)
  frzs : ∀ b o u, H b = some (.frz o u) → H' b = some (.frz o u)
  tbls : ∀ b ps, H b = some (.tbl ps) → ∃ more, H' b = some (.tbl (ps ++ more))
section
variable {fs fs' ex ex' : List Addr} {H H1 H2 : Hp} {h h1 h2 h' : Heap} {a x e : Addr} {o : HO}
theorem Un.any (u : Un fs ex H H1 h h1) {b : Addr} {ob : Obj} (q : h.get? b = some ob) (n : H b = none) (hx : b ∉ ex) : ∃ sl, h1.get? b = some { ob with slots := sl } := by
  by_cases hb : b ∈ fs
  · exact u.slot b ob q n hb hx
  · exact ⟨ob.slots, u.keep b ob q n hb hx⟩
theorem Un.trans (a : Un fs ex H H1 h h1) (b : Un fs ex H1 H2 h1 h2) : Un fs ex H H2 h h2 where
  keep := fun c ob q n hc hx => b.keep c ob (a.keep c ob q n hc hx) (a.free c ob q n hx) hc hx
  slot := fun c ob q n hc hx => by
    obtain ⟨sl, e1⟩ := a.slot c ob q n hc hx
    obtain ⟨sl', e2⟩ := b.slot c _ e1 (a.free c ob q n hx) hc hx
    exact ⟨sl', e2⟩
  free := fun c ob q n hx => by
    obtain ⟨o', e1⟩ := a.there c ob q hx
    exact b.free c o' e1 (a.free c ob q n hx) hx
  there := fun c ob q hx => by
    obtain ⟨o', e1⟩ := a.there c ob q hx
    exact b.there c o' e1 hx
  tups := fun c xs q => b.tups c xs (a.tups c xs q)
  frzs := fun c ob xs q => b.frzs c ob xs (a.frzs c ob xs q)
  tbls := fun c ps q => by
    obtain ⟨m1, e1⟩ := a.tbls c ps q
    obtain ⟨m2, e2⟩ := b.tbls c _ e1
    exact ⟨m1 ++ m2, by rw [e2, Array.append_assoc]⟩
theorem Un.kept (k : ∀ b u, h.get? b = some u → h'.get? b = some u) : Un fs ex H H h h' :=
  ⟨fun b ob q _ _ _ => k b ob q, fun b ob q _ _ _ => ⟨ob.slots, k b ob q⟩, fun _ _ _ n _ => n, fun b ob q _ => ⟨ob, k b ob q⟩, fun _ _ q => q, fun _ _ _ q => q, fun _ ps q => ⟨#[], by rw [q]; simp⟩⟩
theorem Un.refl : Un fs ex H H h h := Un.kept fun _ _ q => q
theorem Un.laid (k : ∀ b u, h.get? b = some u → h'.get? b = some u) (hp : h.objs.size ≤ a) (hn : H a = none) : Un fs ex H (upd H a o) h h' where
  keep := fun b u q _ _ _ => k b u q
  slot := fun b u q _ _ _ => ⟨u.slots, k b u q⟩
  free := fun b u q n _ => by rw [upd_ne (Nat.ne_of_lt (Nat.lt_of_lt_of_le (Heap.lt_size q) hp))]; exact n
  there := fun b u q _ => ⟨u, k b u q⟩
  tups := fun b xs q => by rw [upd_ne (ne_of_none q hn)]; exact q
  frzs := fun b u xs q => by rw [upd_ne (ne_of_none q hn)]; exact q
  tbls := fun b ps q => ⟨#[], by rw [upd_ne (ne_of_none q hn), q]; simp⟩
theorem Un.write (mu : Mut (H x)) (he : e = x ∨ H e = some (.own x)) (k : ∀ b u, b ≠ e → h.get? b = some u → h'.get? b = some u) (heo : ∃ u, h'.get? e = some u) : Un fs ex H (upd H x o) h h' := by
  have hx : ∀ b, H b = none → b ≠ x := fun b n z => by subst z; rw [n] at mu; exact mu
  have hb : ∀ b, H b = none → b ≠ e := fun b n z => by
    subst z
    rcases he with r | r
    · exact hx b n r
    · rw [n] at r; cases r
  have hm : ∀ b u, H b = some u → ¬ Mut (some u) → b ≠ x := fun b u q nm z => by subst z; rw [q] at mu; exact nm mu
  refine ⟨fun b u q n _ _ => k b u (hb b n) q, fun b u q n _ _ => ⟨u.slots, k b u (hb b n) q⟩, fun b u q n _ => by rw [upd_ne (hx b n)]; exact n, fun b u q _ => ?_,
    fun b xs q => by rw [upd_ne (hm b _ q fun z => z)]; exact q, fun b u xs q => by rw [upd_ne (hm b _ q fun z => z)]; exact q, fun b ps q => ⟨#[], by rw [upd_ne (hm b _ q fun z => z), q]; simp⟩⟩
  by_cases hbe : b = e
  · subst hbe; exact heo
  · exact ⟨u, k b u hbe q⟩
theorem Un.mono (u : Un fs ex H H1 h h1) (hs : ∀ b ∈ fs, b ∈ fs') (hx : ∀ b ∈ ex, b ∈ ex') : Un fs' ex' H H1 h h1 :=
  ⟨fun b ob q n hb he => u.keep b ob q n (fun z => hb (hs b z)) fun z => he (hx b z), fun _ _ q n _ he => u.any q n fun z => he (hx _ z), fun b ob q n he => u.free b ob q n fun z => he (hx b z), fun b ob q he => u.there b ob q fun z => he (hx b z), u.tups, u.frzs, u.tbls⟩
end

noncomputable def trk (h : Heap) (H : Hp) : List Addr := (List.range h.objs.size).filter fun a => (H a).isSome
noncomputable def hidT (h : Heap) (H : Hp) : Heap := PySem.W.hideAll h (trk h H)
theorem hidT_size (h : Heap) (H : Hp) : (hidT h H).objs.size = h.objs.size := PySem.W.hideAll_size _ _
theorem hidT_get {h : Heap} {H : Hp} {b : Addr} {o : Obj} (e : h.get? b = some o) (n : H b = none) : (hidT h H).get? b = some o :=
  PySem.W.hideAll_get _ e fun hm => by
    have q : (H b).isSome = true := (List.mem_filter.mp hm).2
    rw [n] at q; simp at q
theorem of_hidT {h : Heap} {H : Hp} {b : Addr} {o : Obj} (e : (hidT h H).get? b = some o) : h.get? b = some o ∧ H b = none := by
  have e' : h.get? b = some o := PySem.W.of_hideAll (trk h H) e
  refine ⟨e', ?_⟩
  cases q : H b with
  | none => rfl
  | some x =>
    have hm : b ∈ trk h H := List.mem_filter.mpr ⟨List.mem_range.mpr (Heap.lt_size e'), by simp [q]⟩
    have z : (hidT h H).get? b = none := PySem.W.hideAll_none (trk h H) hm
    rw [z] at e; cases e

noncomputable def allNews (g h : Heap) (L : Addr) : List (Addr × Obj) := (List.range h.objs.size).filterMap fun a => if a = L ∨ (g.get? a).isSome = true then none else (h.get? a).map fun o => (a, o)
noncomputable def rest (g h : Heap) (L d : Addr) : List (Addr × Obj) := (allNews g h L).filter fun p => decide (p.1 ≠ d)
end L2

namespace L2
open PySem PySem.Spec PyProof.Rows

/-- the module's facts, over the base: the heap at the law's entry without what is tracked there -/
structure Mod (K : PySem.W.Frag) (mg : Str → Option Value) (base : Heap) : Prop where
  kin : K.In base
  glob : base.Ns mainGlobals mg
  blt : ∃ mb, base.Ns builtinsNs mb ∧ ∀ x : Str, x ≠ "__name__" → mb x = bootBuiltins x
  nolimit : base.NoLimit

/-- the context: a def's body (or a comprehension's block) running. base: fixed through the whole law; s₀, H₀: the entry; outer: the frames whose slots others may change (a def's callers); stack: all frames that run;
   ex: iterators that were made ahead of the entry and are walked here (a comprehension's); fn: the names whose cells were made at the entry (a def: all; a comprehension's block: its own); calm: not within an except suite; pn: pins that every state bears; xe: what is wanted of an exception that leaves the code -/
structure Cx where
  prog : Program
  w : World
  K : PySem.W.Frag
  mg : Str → Option Value
  base : Heap
  A : Around
  N : List Str
  s₀ : Shared
  H₀ : Hp
  env : Env
  outer : List Env
  stack : List Env
  ex : List Addr
  fn : Str → Bool
  calm : Bool
  pn : List (Addr × Obj)
  xe : Value → Shared → Prop
/-- the callers' frames -/
noncomputable def frs (l : List Env) : List Addr := l.filterMap (·.frame)
noncomputable abbrev Cx.fs (X : Cx) : List Addr := frs X.outer

noncomputable def Vis (sc : Scope) (x : Str) : Prop := sc.names.lookup x = some .local ∨ sc.names.lookup x = some .cell ∨ sc.names.lookup x = some .free
noncomputable def Loc (sc : Scope) (x : Str) : Prop := sc.names.lookup x = some .local ∨ sc.names.lookup x = some .cell
noncomputable def Look (env : Env) (h : Heap) (m : Str → Option Value) (x : Str) (u : Value) : Prop :=
  (env.kindOf x = some .local ∧ m x = some u) ∨ ((env.kindOf x = some .cell ∨ env.kindOf x = some .free) ∧ ∃ c, env.cells.lookup x = some c ∧ h.IsCell c (some u))

structure Cx.Ok (X : Cx) : Prop where
  mod : Mod X.K X.mg X.base
  kind : X.env.scope.kind = .function
  glob : X.env.globals = mainGlobals
  blt : X.env.builtins = builtinsNs
  above : X.s₀.heap.objs.size ≤ X.env.locals
  inj : ∀ x y c, X.env.cells.lookup x = some c → X.env.cells.lookup y = some c → x = y
  has : ∀ x, (X.env.kindOf x = some .cell ∨ X.env.kindOf x = some .free) → ∃ c, X.env.cells.lookup x = some c
  cab : ∀ x c, X.fn x = true → X.env.cells.lookup x = some c → X.s₀.heap.objs.size ≤ c
  hd : X.calm = true → X.A.handled = none
  frames : X.A.frames = some X.stack
  stk : X.stack = X.outer ∨ (X.stack = X.env :: X.outer ∧ X.env.frame = some X.env.locals)
  exf : ∀ b ∈ X.ex, b ≠ X.env.locals ∧ ∀ x c, X.env.cells.lookup x = some c → c ≠ b
  bs : ∀ b o, X.base.get? b = some o → X.s₀.heap.get? b = some o ∧ X.H₀ b = none
  bsz : X.base.objs.size ≤ X.s₀.heap.objs.size
  noex : ∀ b o, X.base.get? b = some o → b ∉ X.ex
  exfs : ∀ b ∈ X.ex, b ∉ X.fs
  funs : X.s₀.heap.FunFrames X.base X.outer
  frf : ∀ b ∈ X.fs, X.H₀ b = none

structure Inv (X : Cx) (pins : List (Addr × Obj)) (σ : List (Option V)) (H : Hp) (s : Shared) : Prop where
  ok : X.Ok
  os : s.os = X.s₀.os
  bare : AllBare s.gens
  base : Un X.fs X.ex X.H₀ H X.s₀.heap s.heap
  loc : ∃ m, s.heap.Ns X.env.locals m ∧ ∀ (i : Nat) (x : Str) (v : V), X.N[i]? = some x → σ[i]? = some (some v) → Vis X.env.scope x → ∃ u, RelV v u ∧ Look X.env s.heap m x u
  cell : ∀ x c, X.env.cells.lookup x = some c → ∃ v, s.heap.IsCell c v
  free : H X.env.locals = none
  freeC : ∀ x c, X.env.cells.lookup x = some c → H c = none
  pin : ∀ p ∈ X.pn ++ pins, s.heap.get? p.1 = some p.2 ∧ H p.1 = none ∧ p.1 ≠ X.env.locals ∧ p.1 ∉ X.fs ∧ ∀ v, p.2.data ≠ .cell v
  hok : HOk X.prog X.w H s.heap
  len : σ.length = X.N.length

section
variable {X : Cx} {pins : List (Addr × Obj)} {σ : List (Option V)} {H H' : Hp} {s : Shared} {h' : Heap}

theorem Cx.Ok.nofr (ok : X.Ok) {b : Addr} {o : Obj} (e : X.base.get? b = some o) : b ∉ X.fs := fun hb => by
  have := (ok.funs.mem hb).1
  rw [e] at this; cases this
theorem Inv.bs (I : Inv X pins σ H s) : ∀ b o, X.base.get? b = some o → s.heap.get? b = some o ∧ H b = none := fun b o e =>
  ⟨I.base.keep b o (I.ok.bs b o e).1 (I.ok.bs b o e).2 (I.ok.nofr e) (I.ok.noex b o e), I.base.free b o (I.ok.bs b o e).1 (I.ok.bs b o e).2 (I.ok.noex b o e)⟩
theorem Inv.bk (I : Inv X pins σ H s) : ∀ b o, X.base.get? b = some o → s.heap.get? b = some o := fun b o e => (I.bs b o e).1
theorem Inv.mod (I : Inv X pins σ H s) : Mod X.K X.mg X.base := I.ok.mod
theorem Inv.kIn (I : Inv X pins σ H s) : X.K.In s.heap := I.ok.mod.kin.keeps I.bk
theorem Inv.nolimit (I : Inv X pins σ H s) : s.heap.NoLimit := I.ok.mod.nolimit.keeps I.bk
/-- the frame over the base: for OpenK's rules (K.In X.base is I.mod.kin) -/
theorem Inv.fr (I : Inv X pins σ H s) : ∃ m, Fr X.base X.env.locals s.heap m :=
  let ⟨m, hn, _⟩ := I.loc
  ⟨m, hn, I.bk, Nat.le_trans I.ok.bsz I.ok.above⟩
theorem Inv.lt (I : Inv X pins σ H s) : X.env.locals < s.heap.objs.size := let ⟨_, hn, _⟩ := I.loc; hn.lt
theorem Inv.sz (I : Inv X pins σ H s) : X.s₀.heap.objs.size ≤ s.heap.objs.size := Nat.le_trans I.ok.above (Nat.le_of_lt I.lt)
theorem Inv.nofs (I : Inv X pins σ H s) {a : Addr} (h : s.heap.objs.size ≤ a) : a ∉ X.fs := fun hb => by
  obtain ⟨_, o, ho, _⟩ := I.ok.funs.mem hb
  exact absurd (Nat.lt_of_lt_of_le (Heap.lt_size ho) (Nat.le_trans I.sz h)) (Nat.lt_irrefl _)
theorem Inv.cne (I : Inv X pins σ H s) : ∀ x c, X.env.cells.lookup x = some c → c ≠ X.env.locals := fun x c e z => by
  obtain ⟨v, o, ho, hd⟩ := I.cell x c e
  obtain ⟨m, ⟨o', es, ep, ho', hd', _⟩, _⟩ := I.loc
  rw [z, ho'] at ho; cases ho; rw [hd'] at hd; cases hd
theorem Inv.funs (I : Inv X pins σ H s) : s.heap.FunFrames X.base X.outer := by
  have all : ∀ (l : List Env), (∀ b ∈ frs l, b ∈ X.fs) → X.s₀.heap.FunFrames X.base l → s.heap.FunFrames X.base l := by
    intro l
    induction l with
    | nil => intro _ _; trivial
    | cons env r ih =>
      intro hs hl
      obtain ⟨hk, ⟨L, o, hf, hn, ho, hd⟩, hr⟩ := hl
      have hL : L ∈ X.fs := hs L (by unfold frs; rw [List.filterMap_cons, hf]; exact List.mem_cons_self)
      obtain ⟨sl, e⟩ := I.base.slot L o ho (I.ok.frf L hL) hL fun z => I.ok.exfs L z hL
      exact ⟨hk, ⟨L, _, hf, hn, e, hd⟩, ih (fun b hb => hs b (by unfold frs; rw [List.filterMap_cons, hf]; exact List.mem_cons_of_mem _ hb)) hr⟩
  exact all X.outer (fun _ hb => hb) I.ok.funs

/-- the frames that run, for a call -/
theorem Inv.stack (I : Inv X pins σ H s) : s.heap.FunFrames X.base X.stack := by
  rcases I.ok.stk with e | ⟨e, hf⟩
  · rw [e]; exact I.funs
  · rw [e]
    obtain ⟨m, hn, _⟩ := I.loc
    refine .cons (by rw [I.ok.kind]; decide) hf hn ?_ I.funs
    exact Heap.get?_none_of_le (Nat.le_trans I.ok.bsz I.ok.above)
theorem Inv.stkSub (I : Inv X pins σ H s) : ∀ b ∈ frs X.stack, b ∈ X.env.locals :: X.fs := fun b hb => by
  rcases I.ok.stk with e | ⟨e, hf⟩
  · rw [e] at hb; exact List.mem_cons_of_mem _ hb
  · rw [e] at hb
    unfold frs at hb
    rw [List.filterMap_cons, hf] at hb
    exact hb
theorem Inv.stkFree (I : Inv X pins σ H s) : ∀ b ∈ frs X.stack, H b = none := fun b hb => by
  rcases List.mem_cons.mp (I.stkSub b hb) with e | hb
  · rw [e]; exact I.free
  · obtain ⟨_, o, ho, _⟩ := I.ok.funs.mem hb
    exact I.base.free b o ho (I.ok.frf b hb) fun z => I.ok.exfs b z hb

/-- THE STEP: the untracked objects but the frame and the records at ch are kept (the callers' frames up to slots), the frame's map is kept, the new abstract heap is held -/
theorem Inv.step {g' : Array GenState} {t' : Nat} {d' : Drawn} {ch : List Addr} (I : Inv X pins σ H s)
    (hch : ∀ b ∈ ch, (b ∈ X.ex ∨ X.s₀.heap.objs.size ≤ b) ∧ b ≠ X.env.locals ∧ (∀ x c, X.env.cells.lookup x = some c → c ≠ b) ∧ ∀ p ∈ X.pn ++ pins, p.1 ≠ b)
    (keep : ∀ b o, b ≠ X.env.locals → b ∉ X.fs → b ∉ ch → s.heap.get? b = some o → H b = none → h'.get? b = some o)
    (slot : ∀ b o, b ≠ X.env.locals → b ∈ X.fs → b ∉ ch → s.heap.get? b = some o → H b = none → ∃ sl, h'.get? b = some { o with slots := sl }) (free : ∀ b o, b ∉ ch → s.heap.get? b = some o → H b = none → H' b = none)
    (there : ∀ b o, b ∉ ch → s.heap.get? b = some o → ∃ o', h'.get? b = some o')
    (tups : ∀ b xs, H b = some (.tup xs) → H' b = some (.tup xs)) (frzs : ∀ b o u, H b = some (.frz o u) → H' b = some (.frz o u)) (tbls : ∀ b ps, H b = some (.tbl ps) → ∃ more, H' b = some (.tbl (ps ++ more)))
    (ns : ∀ m, s.heap.Ns X.env.locals m → h'.Ns X.env.locals m) (hok : HOk X.prog X.w H' h') (hg : AllBare g') :
    Inv X pins σ H' { s with heap := h', gens := g', drawn := d', toks := t' } := by
  have neL : ∀ b o, X.s₀.heap.get? b = some o → b ≠ X.env.locals := fun b o e => Nat.ne_of_lt (Nat.lt_of_lt_of_le (Heap.lt_size e) I.ok.above)
  have neC : ∀ b o, X.s₀.heap.get? b = some o → b ∉ X.ex → b ∉ ch := fun b o e hx hb => by
    rcases (hch b hb).1 with z | z
    · exact hx z
    · exact absurd (Nat.lt_of_lt_of_le (Heap.lt_size e) z) (Nat.lt_irrefl _)
  have cellK : ∀ x c, X.env.cells.lookup x = some c → ∀ v, s.heap.IsCell c v → h'.IsCell c v := fun x c e v ⟨o, ho, hd⟩ => by
    have nch : c ∉ ch := fun z => (hch c z).2.2.1 x c e rfl
    by_cases hc : c ∈ X.fs
    · obtain ⟨sl, q⟩ := slot c o (I.cne x c e) hc nch ho (I.freeC x c e)
      exact ⟨_, q, hd⟩
    · exact ⟨o, keep c o (I.cne x c e) hc nch ho (I.freeC x c e), hd⟩
  refine ⟨I.ok, I.os, hg, ⟨fun b o e n hb hx => ?_, fun b o e n hb hx => ?_, fun b o e n hx => ?_, fun b o e hx => ?_, fun b xs e => tups b xs (I.base.tups b xs e), fun b o xs e => frzs b o xs (I.base.frzs b o xs e), fun b ps e => ?_⟩, ?_, fun x c e => ?_, ?_, fun x c e => ?_, fun p hp => ?_, hok, I.len⟩
  · exact keep b o (neL b o e) hb (neC b o e hx) (I.base.keep b o e n hb hx) (I.base.free b o e n hx)
  · obtain ⟨sl, e1⟩ := I.base.slot b o e n hb hx
    obtain ⟨sl', e2⟩ := slot b _ (neL b o e) hb (neC b o e hx) e1 (I.base.free b o e n hx)
    exact ⟨sl', e2⟩
  · obtain ⟨o', e1⟩ := I.base.there b o e hx
    exact free b o' (neC b o e hx) e1 (I.base.free b o e n hx)
  · obtain ⟨o', e1⟩ := I.base.there b o e hx
    exact there b o' (neC b o e hx) e1
  · obtain ⟨m1, e1⟩ := I.base.tbls b ps e
    obtain ⟨m2, e2⟩ := tbls b _ e1
    exact ⟨m1 ++ m2, by rw [e2, Array.append_assoc]⟩
  · obtain ⟨m, hn, hl⟩ := I.loc
    refine ⟨m, ns m hn, fun i x v e1 e2 e3 => ?_⟩
    obtain ⟨u, r, l⟩ := hl i x v e1 e2 e3
    refine ⟨u, r, ?_⟩
    rcases l with l | ⟨k, c, e, z⟩
    · exact .inl l
    · exact .inr ⟨k, c, e, cellK x c e _ z⟩
  · obtain ⟨v, z⟩ := I.cell x c e
    exact ⟨v, cellK x c e v z⟩
  · obtain ⟨m, ⟨o, _, _, ho, _⟩, _⟩ := I.loc
    exact free _ o (fun z => (hch _ z).2.1 rfl) ho I.free
  · obtain ⟨v, o, ho, hd⟩ := I.cell x c e
    exact free c o (fun z => (hch c z).2.2.1 x c e rfl) ho (I.freeC x c e)
  · obtain ⟨e, n, ne, nf, d⟩ := I.pin p hp
    have nch : p.1 ∉ ch := fun z => (hch p.1 z).2.2.2 p hp rfl
    exact ⟨keep p.1 p.2 ne nf nch e n, free p.1 p.2 nch e n, ne, nf, d⟩
/-- .. where the frame's own object is kept too -/
theorem Inv.un {t' : Nat} (I : Inv X pins σ H s) (u : Un X.fs [] H H' s.heap h') (hok : HOk X.prog X.w H' h') : Inv X pins σ H' { s with heap := h', toks := t' } := by
  obtain ⟨m, ⟨o, es, ep, ho, r⟩, _⟩ := id I.loc
  obtain ⟨sl, hL⟩ := u.any ho I.free (by simp)
  exact I.step (g' := s.gens) (d' := s.drawn) (ch := []) (fun _ z => nomatch z) (fun b o _ hb _ e n => u.keep b o e n hb (by simp)) (fun b o _ hb _ e n => u.slot b o e n hb (by simp)) (fun b o _ e n => u.free b o e n (by simp)) (fun b o _ e => u.there b o e (by simp)) u.tups u.frzs u.tbls (fun m' hm => by
    obtain ⟨o', es', ep', ho', r'⟩ := hm
    rw [ho] at ho'; cases ho'
    exact ⟨_, es', ep', hL, r'⟩) hok I.bare
/-- behind a call (or a comprehension's block): the slots of this frame may have changed too, the records at ch may have turned -/
theorem Inv.call {g' : Array GenState} {t' : Nat} {d' : Drawn} {ch : List Addr} (I : Inv X pins σ H s) (u : Un (frs X.stack) ch H H' s.heap h') (hok : HOk X.prog X.w H' h') (hg : AllBare g')
    (hch : ∀ b ∈ ch, (b ∈ X.ex ∨ X.s₀.heap.objs.size ≤ b) ∧ b ≠ X.env.locals ∧ (∀ x c, X.env.cells.lookup x = some c → c ≠ b) ∧ ∀ p ∈ X.pn ++ pins, p.1 ≠ b) :
    Inv X pins σ H' { s with heap := h', gens := g', drawn := d', toks := t' } := by
  obtain ⟨m, ⟨o, es, ep, ho, r⟩, _⟩ := id I.loc
  obtain ⟨sl, hL⟩ := u.any ho I.free fun z => (hch _ z).2.1 rfl
  exact I.step (ch := ch) hch (fun b o hL hb hc e n => u.keep b o e n (fun z => (List.mem_cons.mp (I.stkSub b z)).elim hL hb) hc) (fun b o _ _ hc e n => u.any e n hc) (fun b o hc e n => u.free b o e n hc) (fun b o hc e => u.there b o e hc) u.tups u.frzs u.tbls (fun m' hm => by
    obtain ⟨o', es', ep', ho', r'⟩ := hm
    rw [ho] at ho'; cases ho'
    exact ⟨_, es', ep', hL, r'⟩) hok hg
/-- an untracked record of ours (an iterator) has turned -/
theorem Inv.turned {t' : Nat} {it : Addr} (I : Inv X pins σ H s) (k : ∀ b o, b ≠ it → s.heap.get? b = some o → h'.get? b = some o) (hn : H it = none) (hL : it ≠ X.env.locals)
    (h1 : it ∈ X.ex ∨ X.s₀.heap.objs.size ≤ it) (h2 : ∀ x c, X.env.cells.lookup x = some c → c ≠ it) (h3 : ∀ p ∈ X.pn ++ pins, p.1 ≠ it) : Inv X pins σ H { s with heap := h', toks := t' } := by
  have nit : ∀ b u, H b = some u → b ≠ it := fun b u e z => by rw [z, hn] at e; cases e
  refine I.step (g' := s.gens) (d' := s.drawn) (ch := [it]) (fun b hb => ?_) (fun b o _ _ hc e _ => k b o (fun z => hc (by simp [z])) e) (fun b o _ _ hc e _ => ⟨o.slots, k b o (fun z => hc (by simp [z])) e⟩) (fun _ _ _ _ n => n)
    (fun b o hc e => ⟨o, k b o (fun z => hc (by simp [z])) e⟩) (fun _ _ e => e) (fun _ _ _ e => e) (fun b ps e => ⟨#[], by rw [e]; simp⟩) (fun m hm => ?_) (fun b u e => ?_) I.bare
  · have e : b = it := by simpa using hb
    subst e
    exact ⟨h1, hL, h2, h3⟩
  · obtain ⟨o, es, ep, ho, r⟩ := hm
    exact ⟨o, es, ep, k _ o (Ne.symm hL) ho, r⟩
  · refine (I.hok b u e).stay (fun c v hc q => k c v ?_ q) (fun _ q => q) fun _ _ q => q
    rcases hc with z | z
    · rw [z]; exact nit b u e
    · exact nit c _ z
theorem Inv.tok (I : Inv X pins σ H s) (t : Nat) : Inv X pins σ H { s with toks := t } := I.un (h' := s.heap) (t' := t) Un.refl I.hok
/-- all objects kept -/
theorem Inv.kept {t' : Nat} (I : Inv X pins σ H s) (k : ∀ b u, s.heap.get? b = some u → h'.get? b = some u) : Inv X pins σ H { s with heap := h', toks := t' } := I.un (Un.kept k) (I.hok.kept k)
/-- a new object laid and tracked -/
theorem Inv.laid {a : Addr} {o : HO} {t' : Nat} (I : Inv X pins σ H s) (k : ∀ b u, s.heap.get? b = some u → h'.get? b = some u) (hp : s.heap.objs.size ≤ a) (new : ObjOk X.prog X.w (upd H a o) h' a o) :
    Inv X pins σ (upd H a o) { s with heap := h', toks := t' } := I.un (Un.laid k hp (I.hok.fresh hp)) (I.hok.laid k hp new)
/-- an object written -/
theorem Inv.write {x e : Addr} {o : HO} {t' : Nat} (I : Inv X pins σ H s) (mu : Mut (H x)) (he : e = x ∨ H e = some (.own x)) (k : ∀ b u, b ≠ e → s.heap.get? b = some u → h'.get? b = some u) (heo : ∃ u, h'.get? e = some u)
    (new : ObjOk X.prog X.w (upd H x o) h' x o) : Inv X pins σ (upd H x o) { s with heap := h', toks := t' } := I.un (Un.write mu he k heo) (I.hok.write mu he k heo new)
/-- forgetting slots, pins -/
theorem Inv.weak {σ' : List (Option V)} (I : Inv X pins σ H s) (hl : σ'.length = σ.length) (w : ∀ (i : Nat) v, σ'[i]? = some (some v) → σ[i]? = some (some v)) : Inv X pins σ' H s :=
  ⟨I.ok, I.os, I.bare, I.base, let ⟨m, hn, hl'⟩ := I.loc; ⟨m, hn, fun i x v e1 e2 e3 => hl' i x v e1 (w i v e2) e3⟩, I.cell, I.free, I.freeC, I.pin, I.hok, hl.trans I.len⟩
theorem Inv.pins_of {pins' : List (Addr × Obj)} (I : Inv X pins σ H s) (h : ∀ p ∈ pins', s.heap.get? p.1 = some p.2 ∧ H p.1 = none ∧ p.1 ≠ X.env.locals ∧ p.1 ∉ X.fs ∧ ∀ v, p.2.data ≠ .cell v) : Inv X pins' σ H s :=
  ⟨I.ok, I.os, I.bare, I.base, I.loc, I.cell, I.free, I.freeC, fun p hp => (List.mem_append.mp hp).elim (fun z => I.pin p (List.mem_append_left _ z)) (h p), I.hok, I.len⟩

theorem nodup_ix {N : List Str} (hN : N.Nodup) {i j : Nat} {x : Str} (a : N[i]? = some x) (b : N[j]? = some x) : i = j := by
  obtain ⟨h1, e1⟩ := List.getElem?_eq_some_iff.mp a
  obtain ⟨h2, e2⟩ := List.getElem?_eq_some_iff.mp b
  exact (List.getElem_inj hN).mp (e1.trans e2.symm)

/-- a name is stored; what changed -/
theorem store_ok2 {M : Model} {A : Around} {E : Value → Shared → Prop} {i : Nat} {x : Str} {v : V} {u : Value} {Q : Unit → Shared → Prop} (I : Inv X pins σ H s) (hN : X.N.Nodup) (hi : X.N[i]? = some x) (hx : Loc X.env.scope x) (r : RelV v u)
    (h : ∀ s', Inv X pins (σ.set i (some v)) H s' → (∃ a, Heap.SameBut a s.heap s'.heap ∧ (a = X.env.locals ∨ X.env.cells.lookup x = some a)) → Q () s') (hf : X.fn x = true ∨ X.env.scope.names.lookup x = some .local := by first | exact .inl rfl | exact .inr rfl | assumption) : wpAny M A (storeName X.env x u) Q E s := by
  obtain ⟨m, hn, hl⟩ := id I.loc
  have hcls : (X.env.scope.kind == .class || (X.env.scope.kind == .module && X.env.locals != X.env.globals)) = false := by rw [I.ok.kind]; rfl
  have hiσ : i < σ.length := by rw [I.len]; exact (List.getElem?_eq_some_iff.mp hi).1
  have cne := I.cne
  have tracked : ∀ {a : Addr} {h' : Heap}, (∃ o, s.heap.get? a = some o ∧ H a = none) → Heap.SameBut a s.heap h' → HOk X.prog X.w H h' := fun {a h'} ha hs b ob e => by
    obtain ⟨_, _, hfree⟩ := ha
    refine (I.hok b ob e).stay (fun c w' hc q => (hs.2 c ?_).trans q) (fun _ q => q) fun _ _ q => q
    rintro rfl
    rcases hc with rfl | hc
    · rw [hfree] at e; cases e
    · rw [hfree] at hc; cases hc
  rcases hx with hk | hk
  · refine wpAny_storeName_local hk hn (fun h' hn' hs => ?_) hcls
    obtain ⟨oL, _, _, hoL, _⟩ := id hn
    refine h _ ⟨I.ok, I.os, I.bare, ⟨fun b o e n hb hx => ?_, fun b o e n hb hx => ?_, I.base.free, fun b o e hx => ?_, I.base.tups, I.base.frzs, I.base.tbls⟩, ⟨_, hn', fun j y v' e1 e2 e3 => ?_⟩, fun y c e => ?_, I.free, I.freeC, fun p hp => ?_, tracked ⟨oL, hoL, I.free⟩ hs, by simpa using I.len⟩ ⟨_, hs, .inl rfl⟩
    · exact (hs.2 b (Nat.ne_of_lt (Nat.lt_of_lt_of_le (Heap.lt_size e) I.ok.above))).trans (I.base.keep b o e n hb hx)
    · obtain ⟨sl, e1⟩ := I.base.slot b o e n hb hx
      exact ⟨sl, (hs.2 b (Nat.ne_of_lt (Nat.lt_of_lt_of_le (Heap.lt_size e) I.ok.above))).trans e1⟩
    · obtain ⟨o', e1⟩ := I.base.there b o e hx
      exact ⟨o', (hs.2 b (Nat.ne_of_lt (Nat.lt_of_lt_of_le (Heap.lt_size e) I.ok.above))).trans e1⟩
    · by_cases hj : j = i
      · subst hj
        rw [hi] at e1; cases e1
        rw [List.getElem?_set_self hiσ] at e2
        cases e2
        exact ⟨u, r, .inl ⟨hk, by simp⟩⟩
      · rw [List.getElem?_set_ne (Ne.symm hj)] at e2
        obtain ⟨u', r', q⟩ := hl j y v' e1 e2 e3
        refine ⟨u', r', ?_⟩
        rcases q with ⟨k, e⟩ | ⟨k, c, e, z⟩
        · refine .inl ⟨k, ?_⟩
          have : y ≠ x := fun e => hj (nodup_ix hN e1 (e ▸ hi))
          simp [this, e]
        · exact .inr ⟨k, c, e, z.sameBut hs (cne y c e)⟩
    · obtain ⟨w', z⟩ := I.cell y c e
      exact ⟨w', z.sameBut hs (cne y c e)⟩
    · obtain ⟨e, n, ne, nf, d⟩ := I.pin p hp
      exact ⟨(hs.2 p.1 ne).trans e, n, ne, nf, d⟩
  · have hfn : X.fn x = true := by
      rcases hf with z | z
      · exact z
      · rw [z] at hk; cases hk
    obtain ⟨c, hc⟩ := I.ok.has x (.inl hk)
    obtain ⟨w', z⟩ := I.cell x c hc
    refine wpAny_storeName_cell I.ok.kind hk hc z (fun h' hc' hs => ?_)
    obtain ⟨oc, hoc, hocd⟩ := id z
    refine h { s with heap := h' } ⟨I.ok, I.os, I.bare, ⟨fun b o e n hb hx => ?_, fun b o e n hb hx => ?_, I.base.free, fun b o e hx => ?_, I.base.tups, I.base.frzs, I.base.tbls⟩, ⟨m, hn.sameBut hs (Ne.symm (cne x c hc)), fun j y v' e1 e2 e3 => ?_⟩, fun y c' e => ?_, I.free, I.freeC, fun p hp => ?_, tracked ⟨oc, hoc, I.freeC x c hc⟩ hs, by simpa using I.len⟩ ⟨c, hs, .inr hc⟩
    · exact (hs.2 b (Nat.ne_of_lt (Nat.lt_of_lt_of_le (Heap.lt_size e) (I.ok.cab x c hfn hc)))).trans (I.base.keep b o e n hb hx)
    · obtain ⟨sl, e1⟩ := I.base.slot b o e n hb hx
      exact ⟨sl, (hs.2 b (Nat.ne_of_lt (Nat.lt_of_lt_of_le (Heap.lt_size e) (I.ok.cab x c hfn hc)))).trans e1⟩
    · obtain ⟨o', e1⟩ := I.base.there b o e hx
      exact ⟨o', (hs.2 b (Nat.ne_of_lt (Nat.lt_of_lt_of_le (Heap.lt_size e) (I.ok.cab x c hfn hc)))).trans e1⟩
    · by_cases hj : j = i
      · subst hj
        rw [hi] at e1; cases e1
        rw [List.getElem?_set_self hiσ] at e2
        cases e2
        exact ⟨u, r, .inr ⟨.inl hk, c, hc, hc'⟩⟩
      · rw [List.getElem?_set_ne (Ne.symm hj)] at e2
        obtain ⟨u', r', q⟩ := hl j y v' e1 e2 e3
        refine ⟨u', r', ?_⟩
        rcases q with q | ⟨k, c', e, z'⟩
        · exact .inl q
        · refine .inr ⟨k, c', e, z'.sameBut hs ?_⟩
          rintro rfl
          exact hj (nodup_ix hN e1 (I.ok.inj _ _ _ e hc ▸ hi))
    · by_cases hcc : c' = c
      · subst hcc; exact ⟨_, hc'⟩
      · obtain ⟨w2, z2⟩ := I.cell y c' e
        exact ⟨w2, z2.sameBut hs hcc⟩
    · obtain ⟨e, n, ne, nf, d⟩ := I.pin p hp
      refine ⟨(hs.2 p.1 ?_).trans e, n, ne, nf, d⟩
      intro q
      rw [q, hoc] at e
      have q' : oc = p.2 := Option.some.inj e
      exact d w' (by rw [← q']; exact hocd)
theorem store_ok {M : Model} {A : Around} {E : Value → Shared → Prop} {i : Nat} {x : Str} {v : V} {u : Value} {Q : Unit → Shared → Prop} (I : Inv X pins σ H s) (hN : X.N.Nodup) (hi : X.N[i]? = some x) (hx : Loc X.env.scope x) (r : RelV v u)
    (h : ∀ s', Inv X pins (σ.set i (some v)) H s' → Q () s') (hf : X.fn x = true ∨ X.env.scope.names.lookup x = some .local := by first | exact .inl rfl | exact .inr rfl | assumption) : wpAny M A (storeName X.env x u) Q E s :=
  store_ok2 I hN hi hx r (fun s' I' _ => h s' I') hf
/-- behind a call or a block, the state as it is -/
theorem Inv.call' {s' : Shared} {ch : List Addr} (I : Inv X pins σ H s) (ho : s'.os = s.os) (u : Un (frs X.stack) ch H H' s.heap s'.heap) (hok : HOk X.prog X.w H' s'.heap) (hg : AllBare s'.gens)
    (hch : ∀ b ∈ ch, (b ∈ X.ex ∨ X.s₀.heap.objs.size ≤ b) ∧ b ≠ X.env.locals ∧ (∀ x c, X.env.cells.lookup x = some c → c ≠ b) ∧ ∀ p ∈ X.pn ++ pins, p.1 ≠ b) : Inv X pins σ H' s' := by
  obtain ⟨h', g', d', t', o'⟩ := s'
  have e : o' = s.os := ho
  subst e
  exact I.call (g' := g') (t' := t') (d' := d') u hok hg hch
end

/-- an exception: its class, its own dict's address (where it has one), the abstract heap behind it -/
noncomputable abbrev XK := Value → Option Addr → Hp → Prop
noncomputable abbrev St := List (Option V)
noncomputable abbrev VK := V → Hp → Prop
/-- an expression's reading; a test's; an argument list's -/
noncomputable abbrev TE := St → Hp → VK → Prop
noncomputable abbrev TT := St → Hp → (Bool → Hp → Prop) → Prop
noncomputable abbrev TA := St → Hp → (List V → Hp → Prop) → Prop
/-- what is wanted behind a statement -/
structure Ends where
  nx : St → Hp → Prop
  rt : VK
  bk : St → Hp → Prop := fun _ _ => False
  ct : St → Hp → Prop := fun _ _ => False
noncomputable abbrev TS := Ends → St → Hp → Prop

noncomputable def EP (X : Cx) (pins : List (Addr × Obj)) (σ : St) (Q : VK) (u : Value) (s' : Shared) : Prop := ∃ v H', Inv X pins σ H' s' ∧ RelV v u ∧ Q v H'
noncomputable def TP (X : Cx) (pins : List (Addr × Obj)) (σ : St) (Q : Bool → Hp → Prop) (b : Bool) (s' : Shared) : Prop := ∃ H', Inv X pins σ H' s' ∧ Q b H'
noncomputable def AP (X : Cx) (pins : List (Addr × Obj)) (σ : St) (Q : List V → Hp → Prop) (us : List Value) (s' : Shared) : Prop := ∃ vs H', Inv X pins σ H' s' ∧ Vals vs us ∧ Q vs H'
noncomputable def SP (X : Cx) (pins : List (Addr × Obj)) (D : Ends) (f : Flow) (s' : Shared) : Prop :=
  match f with
  | .next => ∃ σ' H', Inv X pins σ' H' s' ∧ D.nx σ' H'
  | .brk => ∃ σ' H', Inv X pins σ' H' s' ∧ D.bk σ' H'
  | .cont => ∃ σ' H', Inv X pins σ' H' s' ∧ D.ct σ' H'
  | .ret u => ∃ v σ' H', Inv X pins σ' H' s' ∧ RelV v u ∧ D.rt v H'

noncomputable def PE (X : Cx) (e : Expr) (t : TE) : Prop :=
  ∀ (pins : List (Addr × Obj)) (s : Shared) (σ : St) (H : Hp) (Q : VK), Inv X pins σ H s → t σ H Q → wpAny (model X.prog X.w) X.A (eval e X.env) (EP X pins σ Q) X.xe s
noncomputable def PT (X : Cx) (e : Expr) (t : TT) : Prop :=
  ∀ (pins : List (Addr × Obj)) (s : Shared) (σ : St) (H : Hp) (Q : Bool → Hp → Prop), Inv X pins σ H s → t σ H Q → wpAny (model X.prog X.w) X.A (isTrue e X.env (eval e X.env)) (TP X pins σ Q) X.xe s
/-- a test whatever its 'whole' is (and, or) -/
noncomputable def PW (X : Cx) (e : Expr) (t : TT) : Prop :=
  ∀ (whole : Sem Value) (pins : List (Addr × Obj)) (s : Shared) (σ : St) (H : Hp) (Q : Bool → Hp → Prop), Inv X pins σ H s → t σ H Q → wpAny (model X.prog X.w) X.A (isTrue e X.env whole) (TP X pins σ Q) X.xe s
theorem PW.pt {X : Cx} {e : Expr} {t : TT} (h : PW X e t) : PT X e t := h _
/-- an argument list (no star), from the left -/
noncomputable def PA (X : Cx) (es : List Expr) (t : TA) : Prop :=
  ∀ (pos : Pos) (pins : List (Addr × Obj)) (s : Shared) (σ : St) (H : Hp) (Q : List V → Hp → Prop), Inv X pins σ H s → t σ H Q → wpAny (model X.prog X.w) X.A (spliced (backTo pos (starEach es X.env))) (AP X pins σ Q) X.xe s
noncomputable def PS (X : Cx) (st : Stmt) (t : TS) : Prop :=
  ∀ (pins : List (Addr × Obj)) (s : Shared) (σ : St) (H : Hp) (D : Ends), Inv X pins σ H s → t D σ H → wpAny (model X.prog X.w) X.A (exec st X.env) (SP X pins D) X.xe s
noncomputable def PSs (X : Cx) (st : List Stmt) (t : TS) : Prop :=
  ∀ (pins : List (Addr × Obj)) (s : Shared) (σ : St) (H : Hp) (D : Ends), Inv X pins σ H s → t D σ H → wpAny (model X.prog X.w) X.A (execs st X.env) (SP X pins D) X.xe s
/-- weaken the end -/
theorem thn {α : Type} {t : Sem α} {Q Q' : α → Shared → Prop} {M : Model} {A : Around} {E : Value → Shared → Prop} {s : Shared} (h : wpAny M A t Q E s) (hQ : ∀ a s, Q a s → Q' a s) : wpAny M A t Q' E s := wpAny_mono h hQ fun _ _ x => x
end L2

namespace L2
open PySem PySem.Spec PyProof.Rows
section
variable {X : Cx}

noncomputable def tVar (i : Nat) : TE := fun σ H Q => ∃ v, σ[i]? = some (some v) ∧ Q v H
noncomputable def tC (v : V) : TE := fun _ H Q => Q v H
theorem pe_var {i : Nat} {x : Str} {pos : Pos} (hN : X.N[i]? = some x) (hv : Vis X.env.scope x) (hd : (x == ("__debug__" : Str)) = false := by decide) (hcd : (x == ("__classdict__" : Str)) = false := by decide) : PE X (.Name x pos) (tVar i) := by
  intro pins s σ H Q I h
  obtain ⟨v, e, h⟩ := h
  obtain ⟨m, hn, hl⟩ := I.loc
  obtain ⟨u, r, l⟩ := hl i x v hN e hv
  have fin : EP X pins σ Q u s := ⟨v, H, I, r, h⟩
  rcases l with ⟨hk, hm⟩ | ⟨hk, c, hc, hcell⟩
  · exact wpAny_Name (wpAny_loadName_local I.ok.kind hk hn hm fin) hd
  · rcases hk with hk | hk
    · exact wpAny_Name (wpAny_loadName_cell I.ok.kind hk hc hcell fin) hd
    · exact wpAny_Name (wpAny_loadName_free I.ok.kind hk hc hcell fin hcd) hd
theorem pe_int {i j pos} : PE X (.Constant (.int i) j pos) (tC (.int i)) := fun _ _ _ H _ I h => wpAny_Constant_int ⟨.int i, H, I.tok _, ⟨_, rfl⟩, h⟩
theorem pe_bl {b j pos} : PE X (.Constant (.bool b) j pos) (tC (.bl b)) := fun _ _ _ H _ I h => Constant_bool ⟨.bl b, H, I, rfl, h⟩
theorem pe_non {j pos} : PE X (.Constant .none j pos) (tC .non) := fun _ _ _ H _ I h => Constant_none ⟨.non, H, I, rfl, h⟩
theorem pe_str {x j pos} : PE X (.Constant (.str x) j pos) (tC (.str x)) := fun _ _ _ H _ I h => Calls.Constant_str ⟨.str x, H, I.tok _, ⟨_, rfl⟩, h⟩

/-- a global name of the def -/
noncomputable def Gl (X : Cx) (x : Str) : Prop := X.env.kindOf x = some .globalImplicit
theorem ld_glob {E : Value → Shared → Prop} {pins : List (Addr × Obj)} {s : Shared} {σ : St} {H : Hp} {x : Str} {u : Value} {pos : Pos} {Q : Value → Shared → Prop} (I : Inv X pins σ H s) (hg : Gl X x) (hm : X.mg x = some u) (h : Q u s)
    (hd : (x == ("__debug__" : Str)) = false := by decide) : wpAny (model X.prog X.w) X.A (eval (.Name x pos) X.env) Q E s :=
  Calls.Name_function_global I.ok.kind hg (Calls.loadGlobal_global (by rw [I.ok.glob]; exact I.mod.glob.keeps I.bk) hm h) hd
theorem ld_blt {E : Value → Shared → Prop} {pins : List (Addr × Obj)} {s : Shared} {σ : St} {H : Hp} {x : Str} {u : Value} {pos : Pos} {Q : Value → Shared → Prop} (I : Inv X pins σ H s) (hg : Gl X x) (hm : X.mg x = none) (hv : bootBuiltins x = some u) (h : Q u s)
    (hn : x ≠ "__name__" := by decide) (hd : (x == ("__debug__" : Str)) = false := by decide) : wpAny (model X.prog X.w) X.A (eval (.Name x pos) X.env) Q E s := by
  obtain ⟨mb, h1, h2⟩ := I.mod.blt
  exact Calls.Name_function_global I.ok.kind hg (Calls.loadGlobal_builtin (by rw [I.ok.glob]; exact I.mod.glob.keeps I.bk) hm (by rw [I.ok.blt]; exact h1.keeps I.bk) ((h2 x hn).trans hv) h) hd
/-- a module's constant, a class, a function, as a value -/
theorem pe_glob {x : Str} {v : V} {u : Value} {pos : Pos} (hg : Gl X x) (hm : X.mg x = some u) (r : RelV v u) (hd : (x == ("__debug__" : Str)) = false := by decide) : PE X (.Name x pos) (tC v) :=
  fun _ _ _ H _ I h => ld_glob I hg hm ⟨v, H, I, r, h⟩ hd
theorem pe_bltn {x : Str} {v : V} {u : Value} {pos : Pos} (hg : Gl X x) (hm : X.mg x = none) (hv : bootBuiltins x = some u) (r : RelV v u) (hn : x ≠ "__name__" := by decide) (hd : (x == ("__debug__" : Str)) = false := by decide) : PE X (.Name x pos) (tC v) :=
  fun _ _ _ H _ I h => ld_blt I hg hm hv ⟨v, H, I, r, h⟩ hn hd

variable {a b : Expr} {ta tb : TE} {pos : Pos}
variable {tA tB' : TT} {rest : List Expr}
noncomputable def tAnd (t u : TT) : TT := fun σ H Q => t σ H fun c H1 => if c = true then u σ H1 Q else Q false H1
noncomputable def tOr (t u : TT) : TT := fun σ H Q => t σ H fun c H1 => if c = true then Q true H1 else u σ H1 Q
noncomputable def tNot (t : TT) : TT := fun σ H Q => t σ H fun c H1 => Q (!c) H1
theorem pw_and1 (ha : PT X a tA) : PW X (.BoolOp .And [a] pos) tA := by
  intro wh pins s σ H Q I h
  refine isTrue_and (thn (ha pins s σ H Q I h) fun c s1 e => ?_)
  cases c with
  | true => exact isTrue_and_nil e
  | false => exact e
theorem pw_or1 (ha : PT X a tA) : PW X (.BoolOp .Or [a] pos) tA := by
  intro wh pins s σ H Q I h
  refine isTrue_or (thn (ha pins s σ H Q I h) fun c s1 e => ?_)
  cases c with
  | false => exact isTrue_or_nil e
  | true => exact e
theorem pw_and (ha : PT X a tA) (hb : PW X (.BoolOp .And (b :: rest) pos) tB') : PW X (.BoolOp .And (a :: b :: rest) pos) (tAnd tA tB') := by
  intro wh pins s σ H Q I h
  refine isTrue_and (thn (ha pins s σ H _ I h) fun c s1 ⟨H1, I1, q1⟩ => ?_)
  cases c with
  | true => exact hb wh pins s1 σ H1 Q I1 q1
  | false => exact ⟨H1, I1, q1⟩
theorem pw_or (ha : PT X a tA) (hb : PW X (.BoolOp .Or (b :: rest) pos) tB') : PW X (.BoolOp .Or (a :: b :: rest) pos) (tOr tA tB') := by
  intro wh pins s σ H Q I h
  refine isTrue_or (thn (ha pins s σ H _ I h) fun c s1 ⟨H1, I1, q1⟩ => ?_)
  cases c with
  | true => exact ⟨H1, I1, q1⟩
  | false => exact hb wh pins s1 σ H1 Q I1 q1
theorem pt_not (ha : PT X a tA) : PT X (.UnaryOp .Not a pos) (tNot tA) := by
  intro pins s σ H Q I h
  exact isTrue_not (ha pins s σ H (fun c H1 => Q (!c) H1) I h)
/-- .. as values (bools) -/
noncomputable def tAndV (ta tb : TE) : TE := fun σ H Q => ta σ H fun x H1 => ∃ c, x = .bl c ∧ if c = true then tb σ H1 Q else Q (.bl false) H1
noncomputable def tOrV (ta tb : TE) : TE := fun σ H Q => ta σ H fun x H1 => ∃ c, x = .bl c ∧ if c = true then Q (.bl true) H1 else tb σ H1 Q
noncomputable def tNotV (ta : TE) : TE := fun σ H Q => ta σ H fun x H1 => ∃ c, x = .bl c ∧ Q (.bl (!c)) H1
theorem pe_one {op} {t : TE} (h : PE X a t) : PE X (.BoolOp op [a] pos) t := fun pins s σ H Q I hw => BoolOp_one (h pins s σ H Q I hw)
theorem pe_and (ha : PE X a ta) (hb : PE X (.BoolOp .And (b :: rest) pos) tb) : PE X (.BoolOp .And (a :: b :: rest) pos) (tAndV ta tb) := by
  intro pins s σ H Q I h
  refine BoolOp_and (thn (ha pins s σ H _ I h) fun v s1 ⟨x, H1, I1, r1, q1⟩ => ?_)
  obtain ⟨c, rfl, q1⟩ := q1
  cases r1
  refine wpAny_truthy_bool ?_
  cases c with
  | true => exact hb pins s1 σ H1 Q I1 q1
  | false => exact ⟨.bl false, H1, I1, rfl, q1⟩
theorem pe_or (ha : PE X a ta) (hb : PE X (.BoolOp .Or (b :: rest) pos) tb) : PE X (.BoolOp .Or (a :: b :: rest) pos) (tOrV ta tb) := by
  intro pins s σ H Q I h
  refine BoolOp_or (thn (ha pins s σ H _ I h) fun v s1 ⟨x, H1, I1, r1, q1⟩ => ?_)
  obtain ⟨c, rfl, q1⟩ := q1
  cases r1
  refine wpAny_truthy_bool ?_
  cases c with
  | false => exact hb pins s1 σ H1 Q I1 q1
  | true => exact ⟨.bl true, H1, I1, rfl, q1⟩
theorem pe_not (ha : PE X a ta) : PE X (.UnaryOp .Not a pos) (tNotV ta) := by
  intro pins s σ H Q I h
  refine UnaryOp_ (thn (ha pins s σ H _ I h) fun v s1 ⟨x, H1, I1, r1, q1⟩ => ?_)
  obtain ⟨c, rfl, q1⟩ := q1
  cases r1
  exact not_of (wpAny_truthy_bool ⟨.bl (!c), H1, I1, rfl, q1⟩)
/-- a if t else b -/
noncomputable def tIf (t : TT) (ta tb : TE) : TE := fun σ H Q => t σ H fun c H1 => if c = true then ta σ H1 Q else tb σ H1 Q
theorem pe_ifExp {c : Expr} (hc : PT X c tA) (ha : PE X a ta) (hb : PE X b tb) : PE X (.IfExp c a b pos) (tIf tA ta tb) := by
  intro pins s σ H Q I h
  refine wpAny_IfExp (thn (hc pins s σ H _ I h) fun d s1 ⟨H1, I1, q1⟩ => ?_)
  cases d with
  | true => exact ha pins s1 σ H1 Q I1 q1
  | false => exact hb pins s1 σ H1 Q I1 q1
end
end L2

namespace L2
open PySem PySem.Spec PyProof.Rows

noncomputable def SqL (K : PySem.W.Frag) (H : Hp) (a : Addr) (xs : List V) : Prop :=
  Rd H a (.lst xs) ∨
    ∃ (o : Obj) (its : Array Value) (n : Nat), K.lookup a = some o ∧ o.cls = .type "list" ∧ o.dict = none ∧ o.data = .seq its n ∧ its.size ≤ sizeLine ∧ Vals xs its.toList
noncomputable def SqT (K : PySem.W.Frag) (H : Hp) (a : Addr) (xs : List V) : Prop :=
  Rd H a (.tup xs) ∨
    ∃ (o : Obj) (its : Array Value) (n : Nat), K.lookup a = some o ∧ o.cls = .type "tuple" ∧ o.data = .seq its n ∧ its.size ≤ sizeLine ∧ Vals xs its.toList
noncomputable def absV : Value → Option V
  | .none => some .non
  | .bool b => some (.bl b)
  | .int i _ => some (.int i)
  | .str x _ => some (.str x)
  | .bytes b _ => some (.byt b)
  | .float b _ => some (.flt b)
  | .ref a => some (.ref a)
  | .type n => some (.ty n)
  | _ => none
theorem RelV.abs {x : V} {u : Value} (r : RelV x u) : absV u = some x := by
  cases x with
  | non => cases r; rfl
  | bl _ => cases r; rfl
  | int _ => obtain ⟨t, rfl⟩ := r; rfl
  | str _ => obtain ⟨t, rfl⟩ := r; rfl
  | byt _ => obtain ⟨t, rfl⟩ := r; rfl
  | flt _ => obtain ⟨t, rfl⟩ := r; rfl
  | ref _ => cases r; rfl
  | ty _ => cases r; rfl
theorem RelV.inj {x y : V} {u : Value} (r : RelV x u) (q : RelV y u) : x = y := Option.some.inj (r.abs.symm.trans q.abs)
theorem Vals.inj : ∀ {xs ys : List V} {us : List Value}, Vals xs us → Vals ys us → xs = ys
  | _, _, _, .nil, .nil => rfl
  | _, _, _, .cons r t, .cons r' t' => by rw [r.inj r', Vals.inj t t']
section
variable {X : Cx} {pins : List (Addr × Obj)} {σ : St} {H : Hp} {s : Shared} {a : Addr} {xs ys : List V}
theorem SqL.of {K : PySem.W.Frag} (h : H a = some (.lst xs)) : SqL K H a xs := .inl (.inl h)
theorem SqT.of {K : PySem.W.Frag} (h : H a = some (.tup xs)) : SqT K H a xs := .inl (.inl h)
theorem Inv.list (I : Inv X pins σ H s) (h : SqL X.K H a xs) : ∃ its : List Value, Vals xs its ∧ PlainL s.heap a its.toArray ∧ xs.length ≤ sizeLine := by
  rcases h with h | ⟨o, its, n, hk, hc, hd, hs, hz, r⟩
  · obtain ⟨z, its, n, r, e⟩ := h.ok I.hok
    exact ⟨its, r, ⟨_, n, e, rfl, rfl, rfl⟩, z⟩
  · refine ⟨its.toList, r, ⟨o, n, I.kIn a o hk, hc, hd, by simpa using hs⟩, ?_⟩
    have e := r.length
    simp only [Array.length_toList] at e
    omega
theorem Inv.tuple (I : Inv X pins σ H s) (h : SqT X.K H a xs) : ∃ its : List Value, Vals xs its ∧ IsTup s.heap a its.toArray ∧ xs.length ≤ sizeLine := by
  rcases h with h | ⟨o, its, n, hk, hc, hs, hz, r⟩
  · obtain ⟨z, its, r, p⟩ := h.ok I.hok
    exact ⟨its, r, p.1, z⟩
  · refine ⟨its.toList, r, ⟨o, I.kIn a o hk, hc, n, by simpa using hs⟩, ?_⟩
    have e := r.length
    simp only [Array.length_toList] at e
    omega
theorem Inv.list_inj (I : Inv X pins σ H s) (h : SqL X.K H a xs) (h' : SqL X.K H a ys) : xs = ys := by
  obtain ⟨its, r, ⟨o, n, e, _, _, d⟩, _⟩ := I.list h
  obtain ⟨its', r', ⟨o', n', e', _, _, d'⟩, _⟩ := I.list h'
  rw [e] at e'; cases e'
  rw [d] at d'
  injection d' with d1 _
  have : its = its' := by simpa using congrArg Array.toList d1
  subst this
  exact r.inj r'
theorem Inv.tuple_inj (I : Inv X pins σ H s) (h : SqT X.K H a xs) (h' : SqT X.K H a ys) : xs = ys := by
  obtain ⟨its, r, ⟨o, e, _, n, d⟩, _⟩ := I.tuple h
  obtain ⟨its', r', ⟨o', e', _, n', d'⟩, _⟩ := I.tuple h'
  rw [e] at e'; cases e'
  rw [d] at d'
  injection d' with d1 _
  have : its = its' := by simpa using congrArg Array.toList d1
  subst this
  exact r.inj r'
end

noncomputable abbrev Cx.wish (X : Cx) (E : Value → Shared → Prop) : Cx := { X with xe := E }
/-- no exception leaves -/
noncomputable abbrev Cx.nox (X : Cx) : Cx := X.wish fun _ _ => False
theorem Cx.Ok.wish {X : Cx} (ok : X.Ok) (E : Value → Shared → Prop) : (X.wish E).Ok :=
  ⟨ok.mod, ok.kind, ok.glob, ok.blt, ok.above, ok.inj, ok.has, ok.cab, ok.hd, ok.frames, ok.stk, ok.exf, ok.bs, ok.bsz, ok.noex, ok.exfs, ok.funs, ok.frf⟩
theorem Cx.Ok.unwish {X : Cx} {E : Value → Shared → Prop} (ok : (X.wish E).Ok) : X.Ok :=
  ⟨ok.mod, ok.kind, ok.glob, ok.blt, ok.above, ok.inj, ok.has, ok.cab, ok.hd, ok.frames, ok.stk, ok.exf, ok.bs, ok.bsz, ok.noex, ok.exfs, ok.funs, ok.frf⟩
section
variable {X : Cx} {pins : List (Addr × Obj)} {σ : St} {H : Hp} {s : Shared} {E : Value → Shared → Prop}
theorem Inv.wish (I : Inv X pins σ H s) (E : Value → Shared → Prop) : Inv (X.wish E) pins σ H s := ⟨I.ok.wish E, I.os, I.bare, I.base, I.loc, I.cell, I.free, I.freeC, I.pin, I.hok, I.len⟩
theorem Inv.unwish (I : Inv (X.wish E) pins σ H s) : Inv X pins σ H s := ⟨I.ok.unwish, I.os, I.bare, I.base, I.loc, I.cell, I.free, I.freeC, I.pin, I.hok, I.len⟩
theorem SP.unwish {D : Ends} {f : Flow} {s' : Shared} (h : SP (X.wish E) pins D f s') : SP X pins D f s' := by
  cases f with
  | next => obtain ⟨σ', H', I, q⟩ := h; exact ⟨σ', H', I.unwish, q⟩
  | brk => obtain ⟨σ', H', I, q⟩ := h; exact ⟨σ', H', I.unwish, q⟩
  | cont => obtain ⟨σ', H', I, q⟩ := h; exact ⟨σ', H', I.unwish, q⟩
  | ret u => obtain ⟨v, σ', H', I, r, q⟩ := h; exact ⟨v, σ', H', I.unwish, r, q⟩
theorem PE.nox {e : Expr} {t : TE} (h : PE X.nox e t) : PE X e t := fun pins s σ H Q I hw =>
  wpAny_mono (h pins s σ H Q (I.wish _) hw) (fun _ _ ⟨v, H', I', r, q⟩ => ⟨v, H', I'.unwish, r, q⟩) fun _ _ z => False.elim z
theorem PT.nox {e : Expr} {t : TT} (h : PT X.nox e t) : PT X e t := fun pins s σ H Q I hw =>
  wpAny_mono (h pins s σ H Q (I.wish _) hw) (fun _ _ ⟨H', I', q⟩ => ⟨H', I'.unwish, q⟩) fun _ _ z => False.elim z
theorem PSs.nox {st : List Stmt} {t : TS} (h : PSs X.nox st t) : PSs X st t := fun pins s σ H D I hw =>
  wpAny_mono (h pins s σ H D (I.wish _) hw) (fun _ _ q => q.unwish) fun _ _ z => False.elim z
end

section
variable {X : Cx} {st : Stmt} {rest : List Stmt} {t u : TS} {e : Expr} {te : TE} {pos : Pos}
noncomputable def tNext : TS := fun D σ H => D.nx σ H
noncomputable def tSeq (t u : TS) : TS := fun D σ H => t { D with nx := u D } σ H
theorem pss_nil : PSs X [] tNext := fun _ _ σ H _ I h => wpAny_execs_nil ⟨σ, H, I, h⟩
theorem pss_cons (h1 : PS X st t) (h2 : PSs X rest u) : PSs X (st :: rest) (tSeq t u) := by
  intro pins s σ H D I h
  refine wpAny_execs_cons (thn (h1 pins s σ H { D with nx := u D } I h) fun f s1 q => ?_)
  cases f with
  | next =>
    obtain ⟨σ', H', I', q⟩ := q
    exact h2 pins s1 σ' H' D I' q
  | ret v => exact q
  | brk => exact q
  | cont => exact q
theorem pss_one (h1 : PS X st t) : PSs X [st] t := by
  intro pins s σ H D I h
  refine wpAny_execs_cons (thn (h1 pins s σ H D I h) fun f s1 q => ?_)
  cases f with
  | next => exact wpAny_execs_nil q
  | ret v => exact q
  | brk => exact q
  | cont => exact q
/-- in a def's body nothing is shown -/
theorem Inv.quiet {pins : List (Addr × Obj)} {σ : St} {H : Hp} {s : Shared} (I : Inv X pins σ H s) : interactive X.env = false := by simp [interactive, I.ok.kind]
/-- an expression whose value is dropped -/
noncomputable def tDrop (te : TE) : TS := fun D σ H => te σ H fun _ H1 => D.nx σ H1
theorem ps_expr (he : PE X e te) (hs : swapsWith e none pos.line X.env = pure false := by rfl) : PS X (.Expr e pos) (tDrop te) := by
  intro pins s σ H D I h
  exact wpAny_Expr_any (thn (he pins s σ H _ I h) fun v s1 ⟨x, H1, I1, r1, q1⟩ => ⟨σ, H1, I1, q1⟩) I.quiet hs
noncomputable def tRet (te : TE) : TS := fun D σ H => te σ H D.rt
theorem ps_ret (he : PE X e te) : PS X (.Return (some e) pos) (tRet te) := by
  intro pins s σ H D I h
  exact wpAny_Return_some (thn (he pins s σ H _ I h) fun v s1 ⟨x, H1, I1, r1, q1⟩ => ⟨x, σ, H1, I1, r1, q1⟩)
noncomputable def tIfS (c : TT) (t u : TS) : TS := fun D σ H => c σ H fun b H1 => if b = true then t D σ H1 else u D σ H1
theorem ps_if {c : Expr} {a b : List Stmt} {tc : TT} (hc : PT X c tc) (ha : PSs X a t) (hb : PSs X b u) : PS X (.If c a b pos) (tIfS tc t u) := by
  intro pins s σ H D I h
  refine wpAny_If (thn (hc pins s σ H _ I h) fun d s1 ⟨H1, I1, q1⟩ => ?_)
  cases d with
  | true => exact ha pins s1 σ H1 D I1 q1
  | false => exact hb pins s1 σ H1 D I1 q1
end

noncomputable abbrev TG := V → St → Hp → (St → Hp → Prop) → Prop
noncomputable abbrev TGs := List V → St → Hp → (St → Hp → Prop) → Prop
noncomputable def PG (X : Cx) (target : Expr) (t : TG) : Prop :=
  ∀ (pins : List (Addr × Obj)) (s : Shared) (σ : St) (H : Hp) (v : V) (u : Value) (Q : St → Hp → Prop), Inv X pins σ H s → RelV v u → t v σ H Q →
    wpAny (model X.prog X.w) X.A (assign target X.env u) (fun _ s' => ∃ σ' H', Inv X pins σ' H' s' ∧ Q σ' H') X.xe s
/-- several targets, one after another -/
noncomputable def PGs (X : Cx) (ts : List Expr) (t : TGs) : Prop :=
  ∀ (pins : List (Addr × Obj)) (s : Shared) (σ : St) (H : Hp) (vs : List V) (us : List Value) (Q : St → Hp → Prop), Inv X pins σ H s → Vals vs us → t vs σ H Q →
    wpAny (model X.prog X.w) X.A (assignInOrder ((assignEach ts X.env).map (·.2)) us) (fun _ s' => ∃ σ' H', Inv X pins σ' H' s' ∧ Q σ' H') X.xe s
section
variable {X : Cx} {pos : Pos}
noncomputable def gName (i : Nat) : TG := fun v σ H Q => Q (σ.set i (some v)) H
theorem pg_name {i : Nat} {x : Str} (hN : X.N.Nodup) (hi : X.N[i]? = some x) (hx : Loc X.env.scope x) (hf : X.fn x = true ∨ X.env.scope.names.lookup x = some .local := by first | exact .inl rfl | exact .inr rfl | assumption) : PG X (.Name x pos) (gName i) := by
  intro pins s σ H v u Q I r h
  exact wpAny_assign_Name (store_ok I hN hi hx r (fun s' I' => ⟨_, H, I', h⟩) hf)
noncomputable def gNil : TGs := fun vs σ H Q => vs = [] ∧ Q σ H
noncomputable def gCons (t : TG) (u : TGs) : TGs := fun vs σ H Q => ∃ v r, vs = v :: r ∧ t v σ H fun σ' H' => u r σ' H' Q
theorem pgs_nil : PGs X [] gNil := by
  intro pins s σ H vs us Q I r h
  obtain ⟨e, h⟩ := h
  subst e
  cases r
  exact assignInOrder_nil ⟨σ, H, I, h⟩
theorem pgs_cons {e : Expr} {es : List Expr} {t : TG} {u : TGs} (h1 : PG X e t) (h2 : PGs X es u)
    (hs : (assignEach (e :: es) X.env).map (·.2) = assign e X.env :: (assignEach es X.env).map (·.2) := by rfl) : PGs X (e :: es) (gCons t u) := by
  intro pins s σ H vs us Q I r h
  obtain ⟨v, vr, e1, h⟩ := h
  subst e1
  cases r with
  | cons r rr =>
    rw [hs]
    refine assignInOrder_cons (thn (h1 pins s σ H _ _ _ I r h) fun _ s1 ⟨σ1, H1, I1, q1⟩ => ?_)
    exact h2 pins s1 σ1 H1 _ _ Q I1 rr q1
/-- (a, b, ..) = a tuple of that length -/
noncomputable def gTup (K : PySem.W.Frag) (n : Nat) (t : TGs) : TG := fun v σ H Q => ∃ a xs, v = .ref a ∧ SqT K H a xs ∧ xs.length = n ∧ t xs σ H Q
theorem pg_tup {es : List Expr} {k : Nat} {t : TGs} {n : Nat} (hc : X.calm = true) (h : PGs X es t)
    (hn : (assignEach es X.env).length = n := by rfl) (hst : (assignEach es X.env).findIdx? (·.1) = none := by rfl) : PG X (.Tuple es k pos) (gTup X.K n t) := by
  intro pins s σ H v u Q I r hw
  obtain ⟨a, xs, e1, hq, hl, hw⟩ := hw
  subst e1
  cases r
  obtain ⟨its, rv, ht, hz⟩ := I.tuple hq
  refine assign_Tuple_tuple (I.ok.hd hc) ht (by simp [hn, ← hl, rv.length]) hst fun h' hx => ?_
  have I1 : Inv X pins σ H { s with heap := h' } := I.kept (t' := s.toks) fun b o e => hx b o (Nat.ne_of_lt (Heap.lt_size e)) e
  exact h pins _ σ H xs _ Q I1 (by simpa using rv) hw
/-- target = value -/
noncomputable def tAsg (te : TE) (g : TG) : TS := fun D σ H => te σ H fun x H1 => g x σ H1 D.nx
theorem ps_asg {tg e : Expr} {te : TE} {g : TG} (he : PE X e te) (hg : PG X tg g) (hs : swapsWithSole [tg] e pos.line X.env = pure false := by rfl) (hw : swappedStores [tg] e X.env = pure none := by rfl)
    (h1 : (assignEach [tg] X.env).map (·.2) = [assign tg X.env] := by rfl) : PS X (.Assign [tg] e pos) (tAsg te g) := by
  intro pins s σ H D I h
  refine wpAny_Assign_stores (thn (he pins s σ H _ I h) fun v s1 ⟨x, H1, I1, r1, q1⟩ => ?_) hs hw
  rw [h1]
  exact thn (hg pins s1 σ H1 x v _ I1 r1 q1) fun _ s2 q => q
/-- name = value -/
theorem ps_set {i : Nat} {x : Str} {e : Expr} {te : TE} {pos' : Pos} (hN : X.N.Nodup) (hi : X.N[i]? = some x) (hx : Loc X.env.scope x) (he : PE X e te) (hs : swapsWith e (some (.Name x pos')) pos.line X.env = pure false := by rfl) (hf : X.fn x = true ∨ X.env.scope.names.lookup x = some .local := by first | exact .inl rfl | exact .inr rfl | assumption) :
    PS X (.Assign [.Name x pos'] e pos) (tAsg te (gName i)) := by
  intro pins s σ H D I h
  refine wpAny_Assign_Name (thn (he pins s σ H _ I h) fun v s1 ⟨y, H1, I1, r1, q1⟩ => ?_) hs
  exact store_ok I1 hN hi hx r1 (fun s2 I2 => ⟨_, H1, I2, q1⟩) hf
end

section
variable {X : Cx} {pos : Pos}
/-- the invariant W with its measure -/
noncomputable def tWhile (c : TT) (tb : TS) : TS := fun D σ H => ∃ W : Nat → St → Hp → Prop, (∃ m, W m σ H) ∧ ∀ m σ H, W m σ H →
  c σ H fun b H1 => if b = true then ∃ N : St → Hp → Prop, (∀ σ' H', N σ' H' → ∃ m', m' < m ∧ W m' σ' H') ∧ tb { D with nx := N, ct := N, bk := D.nx } σ H1 else D.nx σ H1
theorem ps_while {c : Expr} {body : List Stmt} {tc : TT} {tb : TS} (hp : PassesOwn (model X.prog X.w) X.A X.env X.xe) (hc : PT X c tc) (hb : PSs X body tb) : PS X (.While c body [] pos) (tWhile tc tb) := by
  intro pins s σ H D I h
  obtain ⟨W, ⟨m0, w0⟩, turn⟩ := h
  refine wpAny_While (codeAny_whileLoop (fun n s' => ∃ σ' H', Inv X pins σ' H' s' ∧ W n σ' H') ?_ m0 ⟨σ, H, I, w0⟩)
  rintro n s1 ⟨σ1, H1, I1, w1⟩
  refine wpAny_passesOwn hp (thn (hc pins s1 σ1 H1 _ I1 (turn n σ1 H1 w1)) fun b s2 ⟨H2, I2, q2⟩ => ?_)
  cases b with
  | true =>
    obtain ⟨N, hN, q2⟩ := q2
    rw [if_pos rfl]
    refine wpAny_passesOwn hp (thn (hb pins s2 σ1 H2 _ I2 q2) fun f s3 q3 => ?_)
    cases f with
    | next =>
      obtain ⟨σ3, H3, I3, n3⟩ := q3
      obtain ⟨m', hm, w3⟩ := hN σ3 H3 n3
      exact ⟨m', hm, σ3, H3, I3, w3⟩
    | cont =>
      obtain ⟨σ3, H3, I3, n3⟩ := q3
      obtain ⟨m', hm, w3⟩ := hN σ3 H3 n3
      exact ⟨m', hm, σ3, H3, I3, w3⟩
    | brk => exact q3
    | ret v => exact q3
  | false =>
    rw [if_neg Bool.false_ne_true]
    exact wpAny_execs_nil ⟨σ1, H2, I2, q2⟩
end

/-- at turn i: it yields x (the heap may grow), or it stops -/
structure It where
  go : Nat → Hp → Prop
  yld : Nat → Hp → V → Hp → Prop
  stop : Nat → Hp → Prop
/-- the iterator's own objects may turn: they are not the frame's, not pinned, younger than the entry (or a comprehension's own) -/
noncomputable def FpOk (X : Cx) (pins : List (Addr × Obj)) (H : Hp) (b : Addr) : Prop :=
  H b = none ∧ b ≠ X.env.locals ∧ b ∉ X.fs ∧ (b ∈ X.ex ∨ X.s₀.heap.objs.size ≤ b) ∧ (∀ x c, X.env.cells.lookup x = some c → c ≠ b) ∧ ∀ p ∈ X.pn ++ pins, p.1 ≠ b
theorem Inv.fpOk {X : Cx} {pins : List (Addr × Obj)} {σ : St} {H H' : Hp} {s : Shared} {b : Addr} (I : Inv X pins σ H s) (hb : s.heap.objs.size ≤ b) (hn : H' b = none) : FpOk X pins H' b := by
  refine ⟨hn, Nat.ne_of_gt (Nat.lt_of_lt_of_le I.lt hb), I.nofs hb, .inr (Nat.le_trans I.sz hb), fun x c e z => ?_, fun p hp z => ?_⟩
  · obtain ⟨v, q⟩ := I.cell x c e
    exact absurd (Nat.lt_of_lt_of_le q.lt (by rw [z]; exact hb)) (Nat.lt_irrefl _)
  · exact absurd (Nat.lt_of_lt_of_le (Heap.lt_size (I.pin p hp).1) (by rw [z]; exact hb)) (Nat.lt_irrefl _)
structure Turn (P : Program) (w : World) (K : PySem.W.Frag) (tg : Expr) (J : It) (fp : List Addr) (it : Addr) (tn : Nat → Heap → Prop) : Prop where
  mem : it ∈ fp
  obj : ∀ i h, tn i h → ∀ b ∈ fp, ∃ o, h.get? b = some o ∧ ∀ v, o.data ≠ .cell v
  keep : ∀ i h h', tn i h → (∀ b ∈ fp, ∀ o, h.get? b = some o → h'.get? b = some o) → tn i h'
  item : ∀ (X : Cx), X.prog = P → X.w = w → X.K = K → X.calm = true → ∀ (i : Nat) (pins : List (Addr × Obj)) (s : Shared) (σ : St) (H : Hp) (E : Value → Shared → Prop), Inv X pins σ H s → (∀ b ∈ fp, FpOk X pins H b) → tn i s.heap → J.go i H →
    wpAny (model P w) X.A (pyNext (.ref it)) (fun r s1 => ∃ u, r = some u ∧
      wpAny (model P w) X.A (letOwnedTupleGo tg (.ref it) u) (fun _ s2 => ∃ x H', Inv X pins σ H' s2 ∧ RelV x u ∧ J.yld i H x H' ∧ tn (i + 1) s2.heap ∧ ∀ b ∈ fp, H' b = none) E s1) E s
  done : ∀ (X : Cx), X.prog = P → X.w = w → X.K = K → X.calm = true → ∀ (i : Nat) (pins : List (Addr × Obj)) (s : Shared) (σ : St) (H : Hp) (E : Value → Shared → Prop), Inv X pins σ H s → (∀ b ∈ fp, FpOk X pins H b) → tn i s.heap → J.stop i H →
    wpAny (model P w) X.A (pyNext (.ref it)) (fun r s1 => r = none ∧ Inv X pins σ H s1) E s
  self : ∀ (A : Around) (i : Nat) (s : Shared) (Q : Value → Shared → Prop) (E : Value → Shared → Prop), tn i s.heap → Q (.ref it) s → wpAny (model P w) A (pyIter (.ref it)) Q E s
noncomputable abbrev TI := St → Hp → (It → Hp → Prop) → Prop
/-- an iterator has come -/
noncomputable def PIE (X : Cx) (pins : List (Addr × Obj)) (σ : St) (tg : Expr) (R : It → Hp → Prop) (itv : Value) (s2 : Shared) : Prop :=
  ∃ (it : Addr) (fp : List Addr) (tn : Nat → Heap → Prop) (J : It) (H' : Hp), itv = .ref it ∧ Inv X pins σ H' s2 ∧ Turn X.prog X.w X.K tg J fp it tn ∧ tn 0 s2.heap ∧ (∀ b ∈ fp, FpOk X pins H' b) ∧ R J H'
noncomputable def PI (X : Cx) (tg iter : Expr) (wi : TI) : Prop :=
  ∀ (pins : List (Addr × Obj)) (s : Shared) (σ : St) (H : Hp) (R : It → Hp → Prop), Inv X pins σ H s → wi σ H R →
    wpAny (model X.prog X.w) X.A (eval iter X.env) (fun v s1 => wpAny (model X.prog X.w) X.A (pyIter v) (PIE X pins σ tg R) X.xe s1) X.xe s

/-- the step ahead of the store is nothing for an iterator that keeps no tuple -/
theorem go_of {M : Model} {A : Around} {E : Value → Shared → Prop} {s : Shared} {tg : Expr} {it : Addr} {u : Value} {o : Obj} {n : String} {vs : Array Value} {Q : Unit → Shared → Prop} (ho : s.heap.get? it = some o) (hc : o.cls = .type n) (hd : o.data = .fields vs)
    (hn : ["enumerate", "zip", "dict_itemiterator", "dict_reverseitemiterator", "odict_iterator", "itertools.zip_longest", "itertools.pairwise"].contains n = false) (hQ : Q () s) : wpAny M A (letOwnedTupleGo tg (.ref it) u) Q E s := by
  unfold letOwnedTupleGo
  cases tg <;> first
    | exact wpAny_pure hQ
    | (cases u <;> first
        | exact wpAny_pure hQ
        | (refine wpAny_bind (wpAny_load ho ?_)
           rw [hc, hd]
           show wpAny M A (if (["enumerate", "zip", "dict_itemiterator", "dict_reverseitemiterator", "odict_iterator", "itertools.zip_longest", "itertools.pairwise"].contains n && vs[0]? == some (rawInt _)) = true then _ else _) Q E s
           rw [if_neg (by intro h; rw [hn, Bool.false_and] at h; cases h)]
           exact wpAny_pure hQ))

/-- the list at a, as it stands at each turn (a loop may append to it) -/
noncomputable def Itl (K : PySem.W.Frag) (a : Addr) : It :=
  ⟨fun i H => ∃ xs x, SqL K H a xs ∧ xs[i]? = some x, fun i H x H' => H' = H ∧ ∀ xs, SqL K H a xs → xs[i]? = some x, fun i H => ∃ xs, SqL K H a xs ∧ xs.length ≤ i⟩
noncomputable def Itt (K : PySem.W.Frag) (a : Addr) : It :=
  ⟨fun i H => ∃ xs x, SqT K H a xs ∧ xs[i]? = some x, fun i H x H' => H' = H ∧ ∀ xs, SqT K H a xs → xs[i]? = some x, fun i H => ∃ xs, SqT K H a xs ∧ xs.length ≤ i⟩
/-- lo, lo + 1, .. (n of them) -/
noncomputable def Itr (lo : Int) (n : Nat) : It := ⟨fun i _ => i < n, fun i H x H' => H' = H ∧ x = .int (lo + i), fun i _ => n ≤ i⟩
theorem turn_list {P : Program} {w : World} {K : PySem.W.Frag} {tg : Expr} (a it : Addr) : Turn P w K tg (Itl K a) [it] it (fun i h => h.IsListIter it a i) where
  mem := by simp
  obj := fun i h st b hb => by
    have e : b = it := by simpa using hb
    subst e
    obtain ⟨o, e, c, d⟩ := st
    exact ⟨o, e, fun v z => by rw [d] at z; cases z⟩
  keep := fun i h h' st k => st.at fun o e => k it (by simp) o e
  item := by
    intro X hP hw hK hc i pins s σ H E I hf st hg
    subst hP hw hK
    obtain ⟨xs, x, hq, hx⟩ := hg
    obtain ⟨its, rv, p, hz⟩ := I.list hq
    obtain ⟨u, hu, ru⟩ := rv.get hx
    obtain ⟨f0, f1, f2, f3, f4, f5⟩ := hf it (by simp)
    refine wpAny_pyNext_list_item st p.isList (x := u) (by simpa using hu) fun h' st' sb => ?_
    have I1 : Inv X pins σ H { s with heap := h' } := I.turned (t' := s.toks) (fun b o hb e => (sb.2 b hb).trans e) f0 f1 f3 f4 f5
    obtain ⟨o, e, c, d⟩ := id st'
    exact ⟨u, rfl, go_of (s := { s with heap := h' }) e c d (by decide) ⟨x, H, I1, ru, ⟨rfl, fun ys hy => by rw [I.list_inj hy hq]; exact hx⟩, st', fun b hb => (hf b hb).1⟩⟩
  done := by
    intro X hP hw hK hc i pins s σ H E I hf st hg
    subst hP hw hK
    obtain ⟨xs, hq, hx⟩ := hg
    obtain ⟨its, rv, p, hz⟩ := I.list hq
    obtain ⟨f0, f1, f2, f3, f4, f5⟩ := hf it (by simp)
    have hl := rv.length
    exact wpAny_pyNext_list_end (I.ok.hd hc) st p.isList (by simp; omega) fun h' eb => ⟨rfl, I.turned (t' := s.toks) (fun b o hb e => eb b o hb e) f0 f1 f3 f4 f5⟩
  self := fun _ _ _ _ _ st h => wpAny_pyIter_listiter st h
theorem turn_tuple {P : Program} {w : World} {K : PySem.W.Frag} {tg : Expr} (a it : Addr) : Turn P w K tg (Itt K a) [it] it (fun i h => h.IsTupleIter it a i) where
  mem := by simp
  obj := fun i h st b hb => by
    have e : b = it := by simpa using hb
    subst e
    obtain ⟨o, e, c, d⟩ := st
    exact ⟨o, e, fun v z => by rw [d] at z; cases z⟩
  keep := fun i h h' st k => st.at fun o e => k it (by simp) o e
  item := by
    intro X hP hw hK hc i pins s σ H E I hf st hg
    subst hP hw hK
    obtain ⟨xs, x, hq, hx⟩ := hg
    obtain ⟨its, rv, p, hz⟩ := I.tuple hq
    obtain ⟨u, hu, ru⟩ := rv.get hx
    obtain ⟨f0, f1, f2, f3, f4, f5⟩ := hf it (by simp)
    refine wpAny_pyNext_tuple_item st (show s.heap.IsTuple a its.toArray from p) (x := u) (by simpa using hu) fun h' st' sb => ?_
    have I1 : Inv X pins σ H { s with heap := h' } := I.turned (t' := s.toks) (fun b o hb e => (sb.2 b hb).trans e) f0 f1 f3 f4 f5
    obtain ⟨o, e, c, d⟩ := id st'
    exact ⟨u, rfl, go_of (s := { s with heap := h' }) e c d (by decide) ⟨x, H, I1, ru, ⟨rfl, fun ys hy => by rw [I.tuple_inj hy hq]; exact hx⟩, st', fun b hb => (hf b hb).1⟩⟩
  done := by
    intro X hP hw hK hc i pins s σ H E I hf st hg
    subst hP hw hK
    obtain ⟨xs, hq, hx⟩ := hg
    obtain ⟨its, rv, p, hz⟩ := I.tuple hq
    obtain ⟨f0, f1, f2, f3, f4, f5⟩ := hf it (by simp)
    have hl := rv.length
    exact wpAny_pyNext_tuple_end (I.ok.hd hc) st (show s.heap.IsTuple a its.toArray from p) (by simp; omega) fun h' eb => ⟨rfl, I.turned (t' := s.toks) (fun b o hb e => eb b o hb e) f0 f1 f3 f4 f5⟩
  self := fun _ _ _ _ _ st h => wpAny_pyIter_tupleiter st h
theorem turn_range {P : Program} {w : World} {K : PySem.W.Frag} {tg : Expr} (it : Addr) (lo : Int) (n : Nat) : Turn P w K tg (Itr lo n) [it] it (fun i h => IsRangeIter h it (lo + (i : Nat) * 1) ((n : Int) - (i : Nat)) 1) where
  mem := by simp
  obj := fun i h st b hb => by
    have e : b = it := by simpa using hb
    subst e
    exact ⟨_, st, fun v z => by
      have z' : Data.fields _ = Data.cell v := z
      cases z'⟩
  keep := fun i h h' st k => k it (by simp) _ st
  item := by
    intro X hP hw hK hc i pins s σ H E I hf st hg
    subst hP hw hK
    obtain ⟨f0, f1, f2, f3, f4, f5⟩ := hf it (by simp)
    have W := Walks.range (prog := X.prog) (w := X.w) (I.ok.hd hc) it lo 1 n
    refine W.item i s _ _ hg st fun v h' tk hv st' kk => ?_
    obtain ⟨t, rfl⟩ := hv
    have I1 : Inv X pins σ H { s with heap := h', toks := tk } := I.turned (fun b o hb e => kk b o (by simpa using hb) e) f0 f1 f3 f4 f5
    refine ⟨_, rfl, go_of (s := { s with heap := h', toks := tk }) (n := "range_iterator") st' rfl rfl (by decide) ⟨.int (lo + i), H, I1, ⟨t, ?_⟩, ⟨rfl, rfl⟩, st', fun b hb => (hf b hb).1⟩⟩
    rw [Int.mul_one]
  done := by
    intro X hP hw hK hc i pins s σ H E I hf st hg
    subst hP hw hK
    obtain ⟨f0, f1, f2, f3, f4, f5⟩ := hf it (by simp)
    exact wpAny_pyNext_range_end (I.ok.hd hc) st (by have : n ≤ i := hg; omega) fun h' eb => ⟨rfl, I.turned (t' := s.toks) (fun b o hb e => eb b o hb e) f0 f1 f3 f4 f5⟩
  self := fun _ _ _ _ _ st h => wpAny_pyIter_rangeiter st h
end L2

namespace L2
open PySem PySem.Spec PyProof.Rows
section
variable {X : Cx} {tg : Expr}
/-- a range object just made, walked -/
theorem range_it {pins : List (Addr × Obj)} {σ : St} {H : Hp} {s : Shared} {R : It → Hp → Prop} {E : Value → Shared → Prop} {lo hi : Int} {t u v : Tok} {tk : Nat} (I : Inv X pins σ H s) (h1 : -(2 ^ 62) ≤ lo) (h2 : lo < 2 ^ 62) (h3 : -(2 ^ 62) ≤ hi) (h4 : hi < 2 ^ 62)
    (q : R (Itr lo (hi - lo).toNat) H) : wpAny (model X.prog X.w) X.A (pyIter (.ref s.heap.objs.size)) (PIE X pins σ tg R) E { s with heap := s.heap.push { cls := .type "range", data := .fields #[.int lo t, .int hi u, .int 1 v] }, toks := tk } := by
  refine wpAny_pyIter_range (IsRange.new ..) (small_one h1 h2 h3 h4) ?_
  have I1 : Inv X pins σ H { s with heap := s.heap.push { cls := .type "range", data := .fields #[.int lo t, .int hi u, .int 1 v] }, toks := tk } := I.kept fun b o e => Heap.get?_push_of_some _ e
  refine ⟨(s.heap.push { cls := .type "range", data := .fields #[.int lo t, .int hi u, .int 1 v] }).objs.size, [(s.heap.push { cls := .type "range", data := .fields #[.int lo t, .int hi u, .int 1 v] }).objs.size], _, _, H, rfl,
    I1.kept (t' := tk) fun b o e => Heap.get?_push_of_some _ e, turn_range _ lo (hi - lo).toNat, ?_, fun b hb => ?_, q⟩
  · have e1 : lo + ((0 : Nat) : Int) * 1 = lo := by simp
    have e2 : (((hi - lo).toNat : Nat) : Int) - ((0 : Nat) : Int) = Builtin.Range.rangeSize lo hi 1 := by rw [rangeSize_one]; split <;> omega
    show IsRangeIter _ _ (lo + ((0 : Nat) : Int) * 1) ((((hi - lo).toNat : Nat) : Int) - ((0 : Nat) : Int)) 1
    rw [e1, e2]
    exact Heap.get?_push_size _ rfl
  · have e : b = (s.heap.push { cls := .type "range", data := .fields #[.int lo t, .int hi u, .int 1 v] }).objs.size := by simpa using hb
    subst e
    exact I1.fpOk (Nat.le_refl _) (I1.hok.fresh (Nat.le_refl _))
noncomputable def iRng1 (ta : TA) : TI := fun σ H R => ta σ H fun vs H1 => ∃ j : Int, vs = [.int j] ∧ -(2 ^ 62) ≤ j ∧ j < 2 ^ 62 ∧ R (Itr 0 j.toNat) H1
theorem pi_range1 {a : Expr} {ta : TA} {p pos : Pos} (hg : Gl X "range") (hm : X.mg "range" = none) (ha : PA X [a] ta) (hs : starEach [a] X.env = [(false, eval a X.env)] := by rfl) : PI X tg (.Call (.Name "range" p) [a] [] pos) (iRng1 ta) := by
  intro pins s σ H R I h
  refine Call_ (ld_blt I hg hm boot_range (PyProof.Rows.callWith_type1 (thn (ha pos pins s σ H _ I h) fun us s1 ⟨vs, H1, I1, r1, q1⟩ => ?_) hs rfl))
  obtain ⟨j, e, q1, q2, q⟩ := q1
  subst e
  cases r1 with
  | cons r rr =>
    cases rr
    obtain ⟨t, rfl⟩ := r
    exact call_range_1 (range_it I1 (by omega) (by omega) q1 q2 (by simpa using q))
/-- the records at fp as they stand -/
noncomputable def pinsAt (fp : List Addr) (h : Heap) : List (Addr × Obj) := fp.filterMap fun b => (h.get? b).map fun o => (b, o)
theorem mem_pinsAt {fp : List Addr} {h : Heap} {b : Addr} {o : Obj} (hb : b ∈ fp) (e : h.get? b = some o) : (b, o) ∈ pinsAt fp h := List.mem_filterMap.mpr ⟨b, hb, by rw [e]; rfl⟩
theorem of_pinsAt {fp : List Addr} {h : Heap} {p : Addr × Obj} (hp : p ∈ pinsAt fp h) : p.1 ∈ fp ∧ h.get? p.1 = some p.2 := by
  obtain ⟨b, hb, e⟩ := List.mem_filterMap.mp hp
  cases q : h.get? b with
  | none => rw [q] at e; cases e
  | some o =>
    rw [q] at e
    have e' : (b, o) = p := Option.some.inj e
    subst e'
    exact ⟨hb, q⟩
theorem Inv.pinned {pins : List (Addr × Obj)} {σ : St} {H : Hp} {s : Shared} {fp : List Addr} (I : Inv X pins σ H s) (hf : ∀ b ∈ fp, FpOk X pins H b) (ho : ∀ b ∈ fp, ∃ o, s.heap.get? b = some o ∧ ∀ v, o.data ≠ .cell v) : Inv X (pins ++ pinsAt fp s.heap) σ H s :=
  I.pins_of fun p hp => (List.mem_append.mp hp).elim (fun z => I.pin p (List.mem_append_right _ z)) fun z => by
    obtain ⟨hb, e⟩ := of_pinsAt z
    obtain ⟨f0, f1, f2, _⟩ := hf p.1 hb
    obtain ⟨o, e', d⟩ := ho p.1 hb
    rw [e] at e'; cases e'
    exact ⟨e, f0, f1, f2, d⟩
theorem Inv.unpinned {pins pl : List (Addr × Obj)} {σ : St} {H : Hp} {s : Shared} (I : Inv X (pins ++ pl) σ H s) : Inv X pins σ H s := I.pins_of fun p hp => I.pin p (List.mem_append_right _ (List.mem_append_left _ hp))
end

end L2

namespace L2
open PySem PySem.Spec PyProof.Rows

noncomputable abbrev R2 := V → V → Hp → VK → Prop
/-- a two-place operation on values: f is binaryOp op, inplaceOp op or compareOp op -/
noncomputable def OpR (X : Cx) (f : Value → Value → Sem Value) (r : R2) : Prop :=
  ∀ (pins : List (Addr × Obj)) (s : Shared) (σ : St) (H : Hp) (x y : V) (v u : Value) (Q : VK), Inv X pins σ H s → RelV x v → RelV y u → r x y H Q →
    wpAny (model X.prog X.w) X.A (f v u) (EP X pins σ Q) X.xe s
/-- a one-place operation -/
noncomputable def UnR (X : Cx) (f : Value → Sem Value) (r : V → Hp → VK → Prop) : Prop :=
  ∀ (pins : List (Addr × Obj)) (s : Shared) (σ : St) (H : Hp) (x : V) (v : Value) (Q : VK), Inv X pins σ H s → RelV x v → r x H Q →
    wpAny (model X.prog X.w) X.A (f v) (EP X pins σ Q) X.xe s
/-- a call of a value that is known (a builtin, a type) with values -/
noncomputable def CallR (X : Cx) (f : Value) (r : List V → Hp → VK → Prop) : Prop :=
  ∀ (pins : List (Addr × Obj)) (s : Shared) (σ : St) (H : Hp) (xs : List V) (us : List Value) (Q : VK), Inv X pins σ H s → Vals xs us → r xs H Q →
    wpAny (model X.prog X.w) X.A (call f us) (EP X pins σ Q) X.xe s
/-- a value's truth -/
noncomputable def TruR (X : Cx) (r : V → Hp → (Bool → Hp → Prop) → Prop) : Prop :=
  ∀ (pins : List (Addr × Obj)) (s : Shared) (σ : St) (H : Hp) (x : V) (v : Value) (Q : Bool → Hp → Prop), Inv X pins σ H s → RelV x v → r x H Q →
    wpAny (model X.prog X.w) X.A (truthy v) (TP X pins σ Q) X.xe s

noncomputable def tOp (r : R2) (ta tb : TE) : TE := fun σ H Q => ta σ H fun x H1 => tb σ H1 fun y H2 => r x y H2 Q
noncomputable def tUn (r : V → Hp → VK → Prop) (ta : TE) : TE := fun σ H Q => ta σ H fun x H1 => r x H1 Q
/-- ints in, under C, and a value out -/
noncomputable def rI (C : Int → Int → Prop) (g : Int → Int → V) : R2 := fun x y H Q => ∃ i j, x = .int i ∧ y = .int j ∧ C i j ∧ Q (g i j) H
noncomputable def rI0 (g : Int → Int → V) : R2 := fun x y H Q => ∃ i j, x = .int i ∧ y = .int j ∧ Q (g i j) H
noncomputable def rU (g : Int → V) : V → Hp → VK → Prop := fun x H Q => ∃ i, x = .int i ∧ Q (g i) H

section
variable {X : Cx} {a b c : Expr} {ta tb tc : TE} {pos : Pos}

theorem binT (ha : PE X a ta) (hb : PE X b tb) {pins : List (Addr × Obj)} {s : Shared} {σ : St} {H : Hp} {R : V → V → Hp → Prop} (I : Inv X pins σ H s)
    (h : ta σ H fun x H1 => tb σ H1 fun y H2 => R x y H2) {Q : Value → Shared → Prop} {f : Value → Value → Sem Value}
    (hf : ∀ v u s2 x y H2, Inv X pins σ H2 s2 → RelV x v → RelV y u → R x y H2 → wpAny (model X.prog X.w) X.A (f v u) Q X.xe s2) :
    wpAny (model X.prog X.w) X.A (eval a X.env) (fun v s₁ => wpAny (model X.prog X.w) X.A (eval b X.env) (fun u s₂ => wpAny (model X.prog X.w) X.A (f v u) Q X.xe s₂) X.xe s₁) X.xe s := by
  refine thn (ha pins s σ H _ I h) fun v s1 ⟨x, H1, I1, r1, q1⟩ => ?_
  refine thn (hb pins s1 σ H1 _ I1 q1) fun u s2 ⟨y, H2, I2, r2, q2⟩ => ?_
  exact hf v u s2 x y H2 I2 r1 r2 q2

theorem pe_op {op : Operator} {r : R2} (ho : OpR X (binaryOp op) r) (ha : PE X a ta) (hb : PE X b tb) : PE X (.BinOp a op b pos) (tOp r ta tb) := by
  intro pins s σ H Q I h
  exact wpAny_BinOp (binT ha hb I h fun v u s2 x y H2 I2 rx ry q => ho pins s2 σ H2 x y v u Q I2 rx ry q)
theorem pe_un {op : UnaryOp} {r : V → Hp → VK → Prop} (ho : UnR X (unaryOp op) r) (ha : PE X a ta) : PE X (.UnaryOp op a pos) (tUn r ta) := by
  intro pins s σ H Q I h
  exact UnaryOp_ (thn (ha pins s σ H _ I h) fun v s1 ⟨x, H1, I1, r1, q1⟩ => ho pins s1 σ H1 x v Q I1 r1 q1)
theorem opI {f : Value → Value → Sem Value} {C : Int → Int → Prop} {g : Int → Int → Int}
    (rule : ∀ (i j : Int) (t u : Tok) (s : Shared) (Q : Value → Shared → Prop) (E : Value → Shared → Prop), C i j → Q (.int (g i j) s.toks) { s with toks := s.toks + 1 } → wpAny (model X.prog X.w) X.A (f (.int i t) (.int j u)) Q E s) :
    OpR X f (rI C fun i j => .int (g i j)) := by
  intro pins s σ H x y v u Q I rx ry h
  obtain ⟨i, j, rfl, rfl, hc, q⟩ := h
  obtain ⟨t, rfl⟩ := rx
  obtain ⟨t', rfl⟩ := ry
  exact rule i j t t' s _ _ hc ⟨.int (g i j), H, I.tok _, ⟨_, rfl⟩, q⟩
theorem opI0 {f : Value → Value → Sem Value} {g : Int → Int → Int}
    (rule : ∀ (i j : Int) (t u : Tok) (s : Shared) (Q : Value → Shared → Prop) (E : Value → Shared → Prop), Q (.int (g i j) s.toks) { s with toks := s.toks + 1 } → wpAny (model X.prog X.w) X.A (f (.int i t) (.int j u)) Q E s) :
    OpR X f (rI0 fun i j => .int (g i j)) := by
  intro pins s σ H x y v u Q I rx ry h
  obtain ⟨i, j, rfl, rfl, q⟩ := h
  obtain ⟨t, rfl⟩ := rx
  obtain ⟨t', rfl⟩ := ry
  exact rule i j t t' s _ _ ⟨.int (g i j), H, I.tok _, ⟨_, rfl⟩, q⟩
theorem opB0 {f : Value → Value → Sem Value} {g : Int → Int → Bool}
    (rule : ∀ (i j : Int) (t u : Tok) (s : Shared) (Q : Value → Shared → Prop) (E : Value → Shared → Prop), Q (.bool (g i j)) s → wpAny (model X.prog X.w) X.A (f (.int i t) (.int j u)) Q E s) :
    OpR X f (rI0 fun i j => .bl (g i j)) := by
  intro pins s σ H x y v u Q I rx ry h
  obtain ⟨i, j, rfl, rfl, q⟩ := h
  obtain ⟨t, rfl⟩ := rx
  obtain ⟨t', rfl⟩ := ry
  exact rule i j t t' s _ _ ⟨.bl (g i j), H, I, rfl, q⟩

noncomputable def CPow (i j : Int) : Prop := 0 ≤ j ∧ j ≤ 1000000 ∧ i.natAbs < 2 ^ 64
noncomputable def CMul (i j : Int) : Prop := (-(2 ^ 64) < i ∧ i < 2 ^ 64) ∨ (-(2 ^ 64) < j ∧ j < 2 ^ 64)
theorem CMul.ok {i j : Int} (h : CMul i j) : IntMulOk i j := by
  rcases h with ⟨h1, h2⟩ | ⟨h1, h2⟩
  · exact .of_left (intBits_le_64 h1 h2)
  · exact .of_right (intBits_le_64 h1 h2)
theorem op_add : OpR X (binaryOp .Add) (rI0 fun i j => .int (i + j)) := opI0 fun _ _ _ _ _ _ _ q => add_int q
theorem op_sub : OpR X (binaryOp .Sub) (rI0 fun i j => .int (i - j)) := opI0 fun _ _ _ _ _ _ _ q => sub_int q
theorem op_modN : OpR X (binaryOp .Mod) (rI (fun _ j => j ≠ 0) fun i j => .int (i.fmod j)) := opI fun _ _ _ _ _ _ _ hc q => mod_int' hc q
theorem op_pow : OpR X (binaryOp .Pow) (rI CPow fun i j => .int (i ^ j.toNat)) := opI fun _ _ _ _ _ _ _ hc q => pow_int_small hc.1 hc.2.1 hc.2.2 q
theorem unI {f : Value → Sem Value} {g : Int → Int}
    (rule : ∀ (i : Int) (t : Tok) (s : Shared) (Q : Value → Shared → Prop) (E : Value → Shared → Prop), Q (.int (g i) s.toks) { s with toks := s.toks + 1 } → wpAny (model X.prog X.w) X.A (f (.int i t)) Q E s) :
    UnR X f (rU fun i => .int (g i)) := by
  intro pins s σ H x v Q I rx h
  obtain ⟨i, rfl, q⟩ := h
  obtain ⟨t, rfl⟩ := rx
  exact rule i t s _ _ ⟨.int (g i), H, I.tok _, ⟨_, rfl⟩, q⟩
theorem un_neg : UnR X (unaryOp .USub) (rU fun i => .int (-i)) := unI fun _ _ _ _ _ q => neg_int q
end

section
variable {X : Cx} {a b c : Expr} {ta tb tc : TE} {pos : Pos}
theorem fin_bl {pins : List (Addr × Obj)} {σ : St} {H : Hp} {s : Shared} {Q : VK} {k k' : Bool} (I : Inv X pins σ H s) (q : Q (.bl k) H) (e : k = k') : EP X pins σ Q (.bool k') s := by
  subst e
  exact ⟨.bl k, H, I, rfl, q⟩
theorem op_lt : OpR X (compareOp .Lt) (rI0 fun i j => .bl (decide (i < j))) := opB0 fun _ _ _ _ _ _ _ q => lt_int q
theorem op_le : OpR X (compareOp .LtE) (rI0 fun i j => .bl (decide (i ≤ j))) := opB0 fun _ _ _ _ _ _ _ q => le_int q
theorem op_gt : OpR X (compareOp .Gt) (rI0 fun i j => .bl (decide (j < i))) := opB0 fun _ _ _ _ _ _ _ q => gt_int q
/-- the one string within the other -/
theorem op_in_str : OpR X (compareOp .In) (fun x y H Q => ∃ i j, x = .str i ∧ y = .str j ∧ Q (.bl (!(Builtin.Str.occurrences j i 0 j.length 1).isEmpty)) H) := by
  intro pins s σ H x y v u Q I rx ry h
  obtain ⟨i, j, rfl, rfl, q⟩ := h
  obtain ⟨t, rfl⟩ := rx
  obtain ⟨t', rfl⟩ := ry
  exact in_str (fin_bl I q rfl)

/-- is None, is not None: the right side a value none -/
theorem op_isN : OpR X (compareOp .Is) (fun x y H Q => y = .non ∧ Q (.bl (decide (x = .non))) H) := by
  intro pins s σ H x y v u Q I rx ry h
  obtain ⟨rfl, q⟩ := h
  cases ry
  refine is_none_gen (fin_bl I q ?_)
  cases x <;> first
    | (cases rx; rfl)
    | (obtain ⟨t, rfl⟩ := rx; rfl)
theorem op_notN : OpR X (compareOp .IsNot) (fun x y H Q => y = .non ∧ Q (.bl (!decide (x = .non))) H) := by
  intro pins s σ H x y v u Q I rx ry h
  obtain ⟨rfl, q⟩ := h
  cases ry
  refine isnot_none_gen (fin_bl I q ?_)
  cases x <;> first
    | (cases rx; rfl)
    | (obtain ⟨t, rfl⟩ := rx; rfl)

/-- two rules for one operation: by cases -/
theorem OpR.or {f : Value → Value → Sem Value} {r r' : R2} (h : OpR X f r) (h' : OpR X f r') : OpR X f (fun x y H Q => r x y H Q ∨ r' x y H Q) := by
  intro pins s σ H x y v u Q I rx ry q
  rcases q with q | q
  · exact h pins s σ H x y v u Q I rx ry q
  · exact h' pins s σ H x y v u Q I rx ry q

theorem nomark (b : Expr) {op : CmpOp} (h : op ≠ .In := by decide) (h2 : op ≠ .NotIn := by decide) : behindInMarks op b = false := by
  have e1 : (op == CmpOp.In) = false := by cases op <;> first | rfl | exact absurd rfl h
  have e2 : (op == CmpOp.NotIn) = false := by cases op <;> first | rfl | exact absurd rfl h2
  cases b <;> simp [behindInMarks, e1, e2]
/-- a comparison as a value; hm: nomark b, or (for in, not in) by with_unfolding_all rfl -/
theorem pe_cmpR {op : CmpOp} {r : R2} (ho : OpR X (compareOp op) r) (ha : PE X a ta) (hb : PE X b tb) (hm : behindInMarks op b = false) : PE X (.Compare a [op] [b] pos) (tOp r ta tb) := by
  intro pins s σ H Q I h
  exact wpAny_Compare1 (binT ha hb I h fun v u s2 x y H2 I2 rx ry q => ho pins s2 σ H2 x y v u Q I2 rx ry q) hm
/-- a reading of a value as a test -/
noncomputable def tTest (t : TE) : TT := fun σ H Q => t σ H fun x H' => ∃ k, x = .bl k ∧ Q k H'
theorem pt_cmpR {op : CmpOp} {r : R2} (ho : OpR X (compareOp op) r) (ha : PE X a ta) (hb : PE X b tb) (hm : behindInMarks op b = false) : PT X (.Compare a [op] [b] pos) (tTest (tOp r ta tb)) := by
  intro pins s σ H Q I h
  refine wpAny_isTrue_Compare1 (thn (ha pins s σ H _ I h) fun v s1 ⟨x, H1, I1, r1, q1⟩ => thn (hb pins s1 σ H1 _ I1 q1) fun u s2 ⟨y, H2, I2, r2, q2⟩ =>
    thn (ho pins s2 σ H2 x y v u _ I2 r1 r2 q2) fun c s3 ⟨z, H3, I3, r3, k, e, q3⟩ => ?_) hm
  subst e
  cases r3
  exact wpAny_truthy_bool ⟨H3, I3, q3⟩
/-- a op1 b op2 c -/
noncomputable def tChain (r r' : R2) (ta tb tc : TE) : TE := fun σ H Q => ta σ H fun x H1 => tb σ H1 fun y H2 => r x y H2 fun z H3 => ∃ k, z = .bl k ∧
  (if k = true then tc σ H3 fun w' H4 => r' y w' H4 Q else Q (.bl false) H3)
theorem pt_chain {op op' : CmpOp} {r r' : R2} (ho : OpR X (compareOp op) r) (ho' : OpR X (compareOp op') r') (ha : PE X a ta) (hb : PE X b tb) (hc : PE X c tc)
    (hm : lastMarks [op, op'] [b, c] = false := by with_unfolding_all rfl) : PT X (.Compare a [op, op'] [b, c] pos) (tTest (tChain r r' ta tb tc)) := by
  intro pins s σ H Q I h
  refine isTrue_chain (thn (ha pins s σ H _ I h) fun v s1 ⟨x, H1, I1, r1, q1⟩ => test_link (thn (hb pins s1 σ H1 _ I1 q1) fun u s2 ⟨y, H2, I2, r2, q2⟩ =>
    thn (ho pins s2 σ H2 x y v u _ I2 r1 r2 q2) fun d s3 ⟨z, H3, I3, r3, k, e, q3⟩ => ?_)) hm
  subst e
  cases r3
  refine wpAny_truthy_bool ?_
  cases k with
  | false =>
    obtain ⟨k', e', q'⟩ := q3
    cases e'
    exact ite_ff ⟨H3, I3, q'⟩
  | true =>
    refine ite_tt (test_last (thn (hc pins s3 σ H3 _ I3 q3) fun w' s4 ⟨z', H4, I4, r4, q4⟩ => thn (ho' pins s4 σ H4 y z' u w' _ I4 r2 r4 q4) fun d' s5 ⟨z2, H5, I5, r5, k2, e2, q5⟩ => ?_))
    subst e2
    cases r5
    exact wpAny_truthy_bool ⟨H5, I5, q5⟩

/-- a value's truth by the abstract heap -/
noncomputable def TruV (K : PySem.W.Frag) (x : V) (H : Hp) (k : Bool) : Prop :=
  match x with
  | .non => k = false
  | .bl b => k = b
  | .int i => k = (i != 0)
  | .str y => y.length ≤ sizeLine ∧ k = ((y.length : Int) != 0)
  | .byt y => y.size ≤ sizeLine ∧ k = ((y.size : Int) != 0)
  | .ref p => (∃ xs, SqL K H p xs ∧ k = !xs.isEmpty) ∨ (∃ xs, SqT K H p xs ∧ k = !xs.isEmpty) ∨ ∃ kvs, H p = some (.dK kvs) ∧ k = !kvs.isEmpty
  | _ => False
theorem isEmpty_kv {κ : Type} {kvs : List (κ × V)} {vs : List (κ × Value)} (r : KV kvs vs) : (!vs.isEmpty) = !kvs.isEmpty := by
  cases r <;> rfl
theorem isEmpty_of {xs : List V} {its : List Value} (r : Vals xs its) : (!its.toArray.isEmpty) = !xs.isEmpty := by
  cases r <;> simp
theorem line63 : (sizeLine : Nat) < 2 ^ 63 := by rw [sizeLine_eq]; decide
theorem tru_ok : TruR X (fun x H Q => ∃ k, TruV X.K x H k ∧ Q k H) := by
  intro pins s σ H x v Q I rx h
  obtain ⟨k, e, q⟩ := h
  have hl := line63
  have hs : sizeLine = 16777216 := sizeLine_eq
  cases x with
  | non =>
    cases rx
    have e' : k = false := e
    subst e'
    exact truthy_none ⟨H, I, q⟩
  | bl b =>
    cases rx
    have e' : k = b := e
    subst e'
    exact wpAny_truthy_bool ⟨H, I, q⟩
  | int i =>
    obtain ⟨t, rfl⟩ := rx
    have e' : k = (i != 0) := e
    subst e'
    exact PySem.P.truthy_int ⟨H, I, q⟩
  | str y =>
    obtain ⟨t, rfl⟩ := rx
    obtain ⟨hy, e'⟩ : y.length ≤ sizeLine ∧ k = ((y.length : Int) != 0) := e
    subst e'
    exact PySem.P.truthy_str (by omega) ⟨H, I.tok _, q⟩
  | byt y =>
    obtain ⟨t, rfl⟩ := rx
    obtain ⟨hy, e'⟩ : y.size ≤ sizeLine ∧ k = ((y.size : Int) != 0) := e
    subst e'
    exact PySem.W.truthy_bytes (by omega) ⟨H, I.tok _, q⟩
  | ref p =>
    cases rx
    have e' : (∃ xs, SqL X.K H p xs ∧ k = !xs.isEmpty) ∨ (∃ xs, SqT X.K H p xs ∧ k = !xs.isEmpty) ∨ ∃ kvs, H p = some (.dK kvs) ∧ k = !kvs.isEmpty := e
    rcases e' with ⟨xs, hx, e'⟩ | ⟨xs, hx, e'⟩ | ⟨kvs, hx, e'⟩
    · subst e'
      obtain ⟨its, r, pl, hz⟩ := I.list hx
      have hlen := r.length
      exact wpAny_truthy_list pl.isList (by simp only [List.size_toArray]; omega) ⟨H, I.tok _, by rw [isEmpty_of r]; exact q⟩
    · subst e'
      obtain ⟨its, r, pl, hz⟩ := I.tuple hx
      have hlen := r.length
      exact truthy_tuple pl (by simp only [List.size_toArray]; omega) ⟨H, I.tok _, by rw [isEmpty_of r]; exact q⟩
    · subst e'
      obtain ⟨hz, hS, vs, r, m⟩ : kvs.length ≤ sizeLine ∧ (p == sysModules) = false ∧ ∃ vs, KV kvs vs ∧ s.heap.DictOf (mixKind X.prog X.w) p vs := I.hok p _ hx
      have hlen : kvs.length = vs.length := Paired.length r
      exact wpAny_truthy_dict hS m (by omega) ⟨H, I.tok _, by rw [isEmpty_kv r]; exact q⟩
  | _ => exact (show False from e).elim
/-- any expression whose test is its value's truth (a name, a call, a subscript, a field ..: he by fun _ => rfl) -/
theorem pt_truth (ha : PE X a ta) (he : ∀ whole, isTrue a X.env whole = (do let v ← whole; standAt a.pos; holding [v] (truthy v))) :
    PT X a (fun σ H Q => ta σ H fun x H' => ∃ k, TruV X.K x H' k ∧ Q k H') := by
  intro pins s σ H Q I h
  exact isTrue_plain (thn (ha pins s σ H _ I h) fun v s1 ⟨x, H1, I1, r1, q1⟩ => tru_ok pins s1 σ H1 x v Q I1 r1 q1) (he _)

theorem op_add_str : OpR X (binaryOp .Add) (fun x y H Q => ∃ i j, x = .str i ∧ y = .str j ∧ i.length + j.length ≤ sizeLine ∧ Q (.str (i ++ j)) H) := by
  intro pins s σ H x y v u Q I rx ry h
  obtain ⟨i, j, rfl, rfl, hz, q⟩ := h
  obtain ⟨t, rfl⟩ := rx
  obtain ⟨t', rfl⟩ := ry
  exact add_str (fun t' tk => ⟨.str (i ++ j), H, I.tok _, ⟨_, rfl⟩, q⟩) hz
theorem vals1 {x : V} {us : List Value} (r : Vals [x] us) : ∃ u, us = [u] ∧ RelV x u := by
  cases r with
  | cons r1 r2 => cases r2; exact ⟨_, rfl, r1⟩
theorem vals2 {x y : V} {us : List Value} (r : Vals [x, y] us) : ∃ u w', us = [u, w'] ∧ RelV x u ∧ RelV y w' := by
  cases r with
  | cons r1 r2 =>
    cases r2 with
    | cons r3 r4 => cases r4; exact ⟨_, _, rfl, r1, r3⟩
theorem call_str_int : CallR X (.type "str") (fun xs H Q => ∃ i, xs = [.int i] ∧ i.natAbs.log2 < 1920 ∧ Q (.str (toString i)) H) := by
  intro pins s σ H xs us Q I r h
  obtain ⟨i, rfl, hz, q⟩ := h
  obtain ⟨u, rfl, t, rfl⟩ := vals1 r
  exact PySem.P.str_of_int hz ⟨.str _, H, I.tok _, ⟨_, rfl⟩, q⟩
end
end L2

namespace L2
open PySem PySem.Spec PyProof.Rows

structure ObjM (h : Heap) (x dx C : Addr) (mA : Str → Option Value) : Prop where
  obj : h.get? x = some (PySem.W.instObj C dx)
  ns : h.Ns1 dx mA
  ne : dx ≠ x

theorem lookIn_ns {h : Heap} {dx : Addr} {mA : Str → Option Value} (n : h.Ns1 dx mA) : ∃ od, h.get? dx = some od ∧ ∀ name, PySem.W.lookIn name od = some (mA name) := by
  obtain ⟨o, es, ep, ho, hd, hk, _, hm⟩ := n
  refine ⟨o, ho, fun name => ?_⟩
  have e := hm name
  unfold nsFind findBy at e
  rw [← Array.find?_toList] at e
  unfold PySem.W.lookIn
  rw [hd]
  dsimp only
  split
  · rename_i y q
    rw [q] at e
    exact congrArg some e
  · rename_i q
    rw [q] at e
    have a : es.toList.any (·.refKey) = false := by
      rw [List.any_eq_false]
      intro y hy
      obtain ⟨z, t, hkey⟩ := hk y (Array.mem_toList_iff.mp hy)
      simp [DictEntry.refKey, hkey]
    have a' : ¬ es.toList.any (·.refKey) = true := by rw [a]; exact Bool.false_ne_true
    rw [if_neg a']
    exact congrArg some e

theorem ObjM.look {h : Heap} {x dx C : Addr} {mA : Str → Option Value} (I : ObjM h x dx C mA) : ∃ od, PySem.W.InstAt h x (PySem.W.instObj C dx) C (some od) ∧ ∀ name, PySem.W.lookIn name od = some (mA name) :=
  let ⟨od, ho, hl⟩ := lookIn_ns I.ns
  ⟨od, ⟨I.obj, rfl, rfl, ho⟩, hl⟩

section
variable {prog : Program} {w : World} {A : Around} {E : Value → Shared → Prop} {s : Shared} {K : PySem.W.Frag} {x dx C f : Addr} {mA : Str → Option Value} {name : Str} {v : Value}

end

theorem RelO.some_of {v : V} {o : Option Value} (r : RelO (some v) o) : ∃ u, o = some u ∧ RelV v u := by
  cases o with
  | none => exact (show False from r).elim
  | some u => exact ⟨u, rfl, r⟩
section
variable {P : Program} {w : World} {H H' : Hp} {h h' : Heap} {a C dx : Addr} {fs fs' : List (Str × V)}
theorem ins_get (hok : HOk P w H h) (e : H a = some (.ins C dx fs)) : ∃ mA, ObjM h a dx C mA ∧ (∀ f, RelO (fs.lookup f) (mA f)) ∧ PySem.Within mA (fs.map (·.1)) ∧ fs.length ≤ 1000 ∧ H dx = some (.own a) := by
  obtain ⟨d, z, ne, ob, mA, n, r, q⟩ := (show ObjOk P w H h a (.ins C dx fs) from hok a _ e)
  exact ⟨mA, ⟨ob, n, ne⟩, r, q, z, d⟩
end

structure Cls (K : PySem.W.Frag) (C : Addr) : Prop where
  pg : PySem.W.plainGet K C Str.empty = true
  hd : PySem.W.hasDictIn K C = true
  po : PySem.W.plainOver K C = true
  sa : PySem.W.findIn K (.ref C) "__setattr__" = some (some (.builtin "object.__setattr__"))
theorem Cls.get {K : PySem.W.Frag} {C : Addr} (c : Cls K C) (f : Str) : PySem.W.plainGet K C f = true := c.pg
/-- a constant of the class -/
structure Con (K : PySem.W.Frag) (C : Addr) (f : Str) (v : V) (u : Value) : Prop where
  at_ : PySem.W.findIn K (.ref C) f = some (some u)
  rel : RelV v u
  get : PySem.W.specialIn K u "__get__" = some none
  cp : PySem.W.copiedNames.contains f = false
section
variable {X : Cx} {pins : List (Addr × Obj)} {σ : St} {H : Hp} {s : Shared} {a C dx : Addr} {fs : List (Str × V)} {f : Str} {v : V} {A : Around} {E : Value → Shared → Prop}

/-- a new instance, tracked, without attributes -/
theorem Inv.made (I : Inv X pins σ H s) : Inv X pins σ (upd (upd H s.heap.objs.size (.own (s.heap.objs.size + 1))) (s.heap.objs.size + 1) (.ins C s.heap.objs.size []))
    { s with heap := (s.heap.push PySem.W.emptyDict).push (PySem.W.instObj C s.heap.objs.size) } := by
  have e1 : (s.heap.push PySem.W.emptyDict).get? s.heap.objs.size = some PySem.W.emptyDict := Heap.get?_push_size s.heap rfl
  have e2 : ((s.heap.push PySem.W.emptyDict).push (PySem.W.instObj C s.heap.objs.size)).get? (s.heap.objs.size + 1) = some (PySem.W.instObj C s.heap.objs.size) := by
    have := Heap.get?_push_size (s.heap.push PySem.W.emptyDict) (o := PySem.W.instObj C s.heap.objs.size) rfl
    rwa [Heap.size_push] at this
  have e3 : (s.heap.push PySem.W.emptyDict).Ns s.heap.objs.size (fun _ => none) := ⟨PySem.W.emptyDict, #[], _, e1, rfl, (fun e he => absurd he (by simp)), fun _ => rfl⟩
  have I1 := I.laid (a := s.heap.objs.size) (o := .own (s.heap.objs.size + 1)) (h' := s.heap.push PySem.W.emptyDict) (t' := s.toks) (fun b u q => Heap.get?_push_of_some _ q) (Nat.le_refl _) ⟨_, e1⟩
  refine I1.laid (a := s.heap.objs.size + 1) (o := .ins C s.heap.objs.size []) (t' := s.toks) (fun b u q => Heap.get?_push_of_some _ q) (Nat.le_of_eq (Heap.size_push _ _)) ?_
  have ne : s.heap.objs.size ≠ s.heap.objs.size + 1 := Nat.ne_of_lt (Nat.lt_succ_self _)
  refine ⟨by rw [upd_ne ne, upd_same], Nat.zero_le _, ne, e2, fun _ => none, (Heap.Ns1.of_empty e3).at fun o q => Heap.get?_push_of_some _ q, fun _ => True.intro, fun y hy => absurd rfl hy⟩

end

section
variable {X : Cx} {o e value : Expr} {f : Str} {pos pos' tpos : Pos} {ta tv : TE}
end

section
variable {X : Cx} {pins : List (Addr × Obj)} {σ : St} {H : Hp} {s : Shared} {A : Around} {E : Value → Shared → Prop} {Q : Value → Shared → Prop} {c : Value} {b : Bool}
/-- the type of a value, as the fragment's deciders take it; for an instance its class -/
inductive TyOf (K : PySem.W.Frag) (H : Hp) : V → Value → Prop where
  | non : TyOf K H .non (.type "NoneType")
  | bl (x : Bool) : TyOf K H (.bl x) (.type "bool")
  | int (i : Int) : TyOf K H (.int i) (.type "int")
  | str (x : Str) : TyOf K H (.str x) (.type "str")
  | flt (x : UInt64) : TyOf K H (.flt x) (.type "float")
  | lst {a : Addr} {xs : List V} (e : H a = some (.lst xs)) : TyOf K H (.ref a) (.type "list")
  | frz {a : Addr} {o : Obj} {xs : List V} (e : H a = some (.frz o (.lst xs))) : TyOf K H (.ref a) (.type "list")
  | tup {a : Addr} {xs : List V} (e : H a = some (.tup xs)) : TyOf K H (.ref a) (.type "tuple")
  | dK {a : Addr} {kvs : List (Key × V)} (e : H a = some (.dK kvs)) : TyOf K H (.ref a) (.type "dict")
  | dT {a : Addr} {kvs : List (List Key × V)} (e : H a = some (.dT kvs)) : TyOf K H (.ref a) (.type "dict")
  | ins {a C dx : Addr} {fs : List (Str × V)} (e : H a = some (.ins C dx fs)) (cl : Cls K C) (ha : PySem.W.findIn K (.ref C) "__class__" = some (some (.builtin "object.__class__")))
      (hn : PySem.W.specialIn K (.builtin "object.__class__") "__get__" = some (some (.builtin "getset_descriptor.__get__"))) (htk : PySem.W.takesIn K (.builtin "object.__class__") = some true)
      (hm : PySem.W.mroIn K C (.type "object") = some true) : TyOf K H (.ref a) (.ref C)
/-- isinstance(x, c) for one class c, a built-in or an own one: kitOne's answer -/
theorem isinst_ok {x : V} {u t : Value} (I : Inv X pins σ H s) (rx : RelV x u) (ty : TyOf X.K H x t) (e : PySem.W.kitOne X.K t c = some b) (h : ∀ tk, Q (.bool b) { s with toks := tk }) :
    wpAny (model X.prog X.w) A (call (.builtin "isinstance") [u, c]) Q E s := by
  cases ty with
  | non => cases (show u = Value.none from rx); exact PySem.W.kia_one PySem.W.kitx_none I.kIn True.intro e (fun z => nomatch z) h
  | bl y => cases (show u = Value.bool y from rx); exact PySem.W.kia_one PySem.W.kitx_bool I.kIn True.intro e (fun z => nomatch z) h
  | int i => obtain ⟨t, q⟩ := (show ∃ t, u = Value.int i t from rx); cases q; exact PySem.W.kia_one PySem.W.kitx_int I.kIn True.intro e (fun z => nomatch z) h
  | str y => obtain ⟨t, q⟩ := (show ∃ t, u = Value.str y t from rx); cases q; exact PySem.W.kia_one PySem.W.kitx_str I.kIn True.intro e (fun z => nomatch z) h
  | flt y => obtain ⟨t, q⟩ := (show ∃ t, u = Value.float y t from rx); cases q; exact PySem.W.kia_one PySem.W.kitx_float I.kIn True.intro e (fun z => nomatch z) h
  | @lst a xs ea =>
    cases (show u = Value.ref a from rx)
    obtain ⟨_, _, n, _, h1⟩ := (show ObjOk X.prog X.w H s.heap a (.lst xs) from I.hok a _ ea)
    exact PySem.W.kia_one PySem.W.kitx_list I.kIn ⟨_, h1, rfl⟩ e (fun z => nomatch z) h
  | @frz a ob xs ea =>
    cases (show u = Value.ref a from rx)
    obtain ⟨_, _, _, n, _, h1⟩ := (show ObjOk X.prog X.w H s.heap a (.frz ob (.lst xs)) from I.hok a _ ea)
    exact PySem.W.kia_one PySem.W.kitx_list I.kIn ⟨_, h1, rfl⟩ e (fun z => nomatch z) h
  | @tup a xs ea =>
    cases (show u = Value.ref a from rx)
    obtain ⟨_, _, _, p⟩ := (show ObjOk X.prog X.w H s.heap a (.tup xs) from I.hok a _ ea)
    obtain ⟨o, h1, h2, _⟩ := p.1
    exact PySem.W.kia_one PySem.W.kitx_tuple I.kIn ⟨o, h1, h2⟩ e (fun z => nomatch z) h
  | @dK a kvs ea =>
    cases (show u = Value.ref a from rx)
    obtain ⟨_, _, vs, _, p⟩ := (show ObjOk X.prog X.w H s.heap a (.dK kvs) from I.hok a _ ea)
    obtain ⟨o, es, ep, h1, h2, _⟩ := p
    exact PySem.W.kia_one PySem.W.kitx_dict I.kIn ⟨o, h1, h2.1⟩ e (fun z => nomatch z) h
  | @dT a kvs ea =>
    cases (show u = Value.ref a from rx)
    obtain ⟨_, _, xs, _, o, es, ep, h1, h2, _⟩ := (show ObjOk X.prog X.w H s.heap a (.dT kvs) from I.hok a _ ea)
    exact PySem.W.kia_one PySem.W.kitx_dict I.kIn ⟨o, h1, h2.1⟩ e (fun z => nomatch z) h
  | @ins a C dx fs ea cl ha hn htk hm =>
    cases (show u = Value.ref a from rx)
    obtain ⟨mA, O, _⟩ := ins_get I.hok ea
    obtain ⟨od, J, _⟩ := O.look
    exact PySem.W.kia_one (PySem.W.kitx_own (cl.get _) cl.hd ha hn htk hm) I.kIn J e (fun z => nomatch z) h
end
end L2

namespace L2
open PySem PySem.Spec PyProof.Rows

structure Room (k : Nat) (A : Around) : Prop where
  hd : A.handled = none
  dp : A.depth + 3 * k + 5 < recursionLimit
  un : A.units + 16 * k + 200 < cLine
theorem Room.mono {j k : Nat} {A : Around} (r : Room k A) (h : j ≤ k) : Room j A := ⟨r.hd, by have := r.dp; omega, by have := r.un; omega⟩
theorem Room.deeper {k : Nat} {A : Around} (r : Room (k + 1) A) (env : Env) : Room k (A.deeper env) :=
  ⟨r.hd, by have := r.dp; show A.depth + 1 + 3 * k + 5 < _; omega, by have := r.un; show A.units + 3 + 16 * k + 200 < _; omega⟩
theorem Room.in1 {k : Nat} {A : Around} (r : Room (k + 1) A) : Room k A.in1 :=
  ⟨r.hd, by have := r.dp; show A.depth + 3 * k + 5 < _; omega, by have := r.un; show A.units + 1 + 16 * k + 200 < _; omega⟩
theorem Room.depth {k : Nat} {A : Around} (r : Room k A) : A.depth < recursionLimit := by have := r.dp; omega
theorem Room.units {k : Nat} {A : Around} (r : Room k A) : A.units + 64 < cLine := by have := r.un; omega
noncomputable def tNil : TA := fun _ H Q => Q [] H
noncomputable def tCons (ta : TE) (tr : TA) : TA := fun σ H Q => ta σ H fun x H1 => tr σ H1 fun xs H2 => Q (x :: xs) H2
section
variable {X : Cx} {e : Expr} {es : List Expr} {te : TE} {t : TA} {pos : Pos}
theorem pa_nil : PA X [] tNil := fun _ _ _ _ H Q I h => Calls.spliced_nil ⟨[], H, I, .nil, h⟩
theorem pa_cons (ha : PE X e te) (hr : PA X es t) (hs : starEach (e :: es) X.env = (false, eval e X.env) :: starEach es X.env := by rfl) : PA X (e :: es) (tCons te t) := by
  intro pos pins s σ H Q I h
  rw [hs]
  show wpAny _ _ (spliced ((false, eval e X.env) :: backTo pos (starEach es X.env))) _ _ s
  refine Calls.spliced_cons (thn (ha pins s σ H _ I h) fun u s1 ⟨x, H1, I1, r1, q1⟩ => ?_)
  exact thn (hr pos pins s1 σ H1 _ I1 q1) fun us s2 ⟨xs, H2, I2, r2, q2⟩ => ⟨x :: xs, H2, I2, .cons r1 r2, q2⟩

/-- a tuple, a list of written items -/
noncomputable def tTup (t : TA) : TE := fun σ H Q => t σ H fun xs H1 => xs.length ≤ sizeLine ∧ ∀ p, H1 p = none → Q (.ref p) (upd H1 p (.tup xs))
noncomputable def tLst (t : TA) : TE := fun σ H Q => t σ H fun xs H1 => xs.length ≤ sizeLine ∧ ∀ p, H1 p = none → Q (.ref p) (upd H1 p (.lst xs))
theorem pe_tup {x1} (h : PA X es t) : PE X (.Tuple es x1 pos) (tTup t) := by
  intro pins s σ H Q I hq
  refine wpAny_Tuple_spliced (thn (h pos pins s σ H _ I hq) fun us s1 ⟨xs, H1, I1, r, z, q⟩ => ⟨by rw [← r.length]; exact z, ?_⟩)
  have hf : H1 s1.heap.objs.size = none := I1.hok.fresh (Nat.le_refl _)
  refine ⟨.ref s1.heap.objs.size, upd H1 s1.heap.objs.size (.tup xs), I1.laid (t' := s1.toks) (fun b u e => Heap.get?_push_of_some _ e) (Nat.le_refl _) ?_, rfl, q _ hf⟩
  exact ⟨z, us, r, ⟨_, Heap.get?_push_size _ rfl, rfl, _, rfl⟩, _, Heap.get?_push_size _ rfl, rfl⟩
theorem pe_lst (h : PA X es t) : PE X (.List es pos) (tLst t) := by
  intro pins s σ H Q I hq
  refine wpAny_List_spliced (thn (h pos pins s σ H _ I hq) fun us s1 ⟨xs, H1, I1, r, z, q⟩ => ⟨by rw [← r.length]; exact z, ?_⟩)
  have hf : H1 s1.heap.objs.size = none := I1.hok.fresh (Nat.le_refl _)
  refine ⟨.ref s1.heap.objs.size, upd H1 s1.heap.objs.size (.lst xs), I1.laid (t' := s1.toks) (fun b u e => Heap.get?_push_of_some _ e) (Nat.le_refl _) ?_, rfl, q _ hf⟩
  exact ⟨z, us, 0, r, Heap.get?_push_size _ rfl⟩
end

/-- a def's promise: the bound arguments in the parameters' order, the heap, the wanted end, the wanted exception -/
noncomputable abbrev Sp := List V → Hp → VK → XK → Prop
/-- how an exception lies behind a call (file 08 gives it): the callers' frames, abstract heap and state ahead of the call, the wish, the exception, the state -/
noncomputable abbrev CXT := List Env → Hp → Shared → XK → Value → Shared → Prop

/-- the state at a call -/
structure Env0 (P : Program) (w : World) (K : PySem.W.Frag) (mg : Str → Option Value) (base : Heap) (A : Around) (outer : List Env) (s : Shared) (H : Hp) : Prop where
  frames : A.frames = some outer
  mod : Mod K mg base
  bs : ∀ b o, base.get? b = some o → s.heap.get? b = some o ∧ H b = none
  bsz : base.objs.size ≤ s.heap.objs.size
  funs : s.heap.FunFrames base outer
  frf : ∀ b ∈ frs outer, H b = none
  hok : HOk P w H s.heap
  bare : AllBare s.gens
/-- a call's end -/
noncomputable def CE (outer : List Env) (P : Program) (w : World) (H : Hp) (s : Shared) (Q : VK) (u : Value) (s' : Shared) : Prop :=
  ∃ v H', s'.os = s.os ∧ AllBare s'.gens ∧ Un (frs outer) [] H H' s.heap s'.heap ∧ HOk P w H' s'.heap ∧ RelV v u ∧ Q v H'
noncomputable def CR (CX : CXT) (outer : List Env) (P : Program) (w : World) (H : Hp) (s : Shared) (Q : VK) (E : XK) (r : Result) (s' : Shared) : Prop :=
  match r with
  | .ok (.ret u) => CE outer P w H s Q u s'
  | .ok _ => False
  | .error e => CX outer H s E e s'
structure FnOk (P : Program) (w : World) (K : PySem.W.Frag) (mg : Str → Option Value) (base : Heap) (CX : CXT) (k : Nat) (f : Addr) (fd : FuncData) (ps : List Str) (sp : Sp) : Prop where
  len : ∀ vs H Q E, sp vs H Q E → vs.length = ps.length
  run : ∀ (A : Around) (outer : List Env) (s : Shared) (H : Hp) (args : Args) (us : List Value) (vs : List V) (Q : VK) (E : XK), Room k A → Env0 P w K mg base A outer s H → BindsTo s fd args (ps.zip us) → Vals vs us → sp vs H Q E →
    codeAny (model P w) A (.call (.ref f) args) (CR CX outer P w H s Q E) s
theorem FnOk.mono {P : Program} {w : World} {K : PySem.W.Frag} {mg : Str → Option Value} {base : Heap} {CX : CXT} {j k : Nat} {f : Addr} {fd : FuncData} {ps : List Str} {sp : Sp} (F : FnOk P w K mg base CX j f fd ps sp) (h : j ≤ k) :
    FnOk P w K mg base CX k f fd ps sp := ⟨F.len, fun A outer s H args us vs Q E hr => F.run A outer s H args us vs Q E (hr.mono h)⟩
/-- a weaker promise -/
theorem FnOk.imp {P : Program} {w : World} {K : PySem.W.Frag} {mg : Str → Option Value} {base : Heap} {CX : CXT} {k : Nat} {f : Addr} {fd : FuncData} {ps : List Str} {sp sp' : Sp} (F : FnOk P w K mg base CX k f fd ps sp)
    (h : ∀ vs H Q E, sp' vs H Q E → sp vs H Q E) : FnOk P w K mg base CX k f fd ps sp' :=
  ⟨fun vs H Q E q => F.len vs H Q E (h _ _ _ _ q), fun A outer s H args us vs Q E hr he hb hv hs => F.run A outer s H args us vs Q E hr he hb hv (h _ _ _ _ hs)⟩

theorem Env0.in1 {P : Program} {w : World} {K : PySem.W.Frag} {mg : Str → Option Value} {base : Heap} {A : Around} {outer : List Env} {s : Shared} {H : Hp} (e : Env0 P w K mg base A outer s H) :
    Env0 P w K mg base A.in1 outer s H := ⟨e.frames, e.mod, e.bs, e.bsz, e.funs, e.frf, e.hok, e.bare⟩

section
variable {X : Cx} {pins : List (Addr × Obj)} {σ : St} {H : Hp} {s s' : Shared}
/-- from a body: what a callee wants -/
theorem Inv.env0 (I : Inv X pins σ H s) : Env0 X.prog X.w X.K X.mg X.base X.A X.stack s H :=
  ⟨I.ok.frames, I.ok.mod, I.bs, Nat.le_trans I.ok.bsz I.sz, I.stack, I.stkFree, I.hok, I.bare⟩
/-- behind a call -/
theorem Inv.after {Q : VK} {u : Value} (I : Inv X pins σ H s) (h : CE X.stack X.prog X.w H s Q u s') : EP X pins σ Q u s' := by
  obtain ⟨v, H', os, bare, un, hok, r, q⟩ := h
  obtain ⟨hh, g, d, t, os'⟩ := s'
  obtain rfl : os' = s.os := os
  exact ⟨v, H', I.call (h' := hh) (g' := g) (d' := d) (t' := t) (ch := []) un hok bare (fun b z => absurd z (by simp)), r, q⟩
end

/-- f(..): the written arguments, then the defaults dvs; E: what is wanted of an exception -/
noncomputable def tCall (sp : Sp) (dvs : List V) (E : XK) (t : TA) : TE := fun σ H Q => t σ H fun vs H1 => sp (vs ++ dvs) H1 Q E
/-- how the parameters are bound: us the positional arguments, kw the keywords' values by name, ds the defaults that fill up -/
noncomputable def Binds (K : PySem.W.Frag) (fd : FuncData) (ps : List Str) (ds : List Value) : Prop :=
  ∀ (s : Shared) (us : List Value), K.In s.heap → (us ++ ds).length = ps.length → BindsTo s fd ⟨us, []⟩ (ps.zip (us ++ ds))
/-- every parameter is given -/
theorem Binds.all {K : PySem.W.Frag} {fd : FuncData} {ps : List Str} (h : ∀ us : List Value, us.length = ps.length → bindArgs fd ⟨us, []⟩ = pure (ps.zip us)) : Binds K fd ps [] := fun s us _ hl => by
  rw [List.append_nil] at hl ⊢
  exact .of_eq (h us hl)

/-- an exception of a callee reaches what this body wants of exceptions -/
noncomputable def Passes (CX : CXT) (X : Cx) (E : XK) : Prop := ∀ (pins : List (Addr × Obj)) (σ : St) (H : Hp) (s : Shared) (e : Value) (s' : Shared), Inv X pins σ H s → CX X.stack H s E e s' → X.xe e s'

section
variable {X : Cx} {CX : CXT} {k : Nat} {f C : Addr} {fd : FuncData} {ps : List Str} {sp : Sp} {dvs : List V} {ds : List Value} {E : XK} {x m : Str} {p pos apos : Pos} {e o : Expr} {es : List Expr} {ta : TE} {t : TA}

/-- the callee runs -/
theorem run_fn {pins : List (Addr × Obj)} {σ : St} {H : Hp} {s : Shared} {Q : VK} {us : List Value} {vs : List V} (F : FnOk X.prog X.w X.K X.mg X.base CX k f fd ps sp) (hr : Room k X.A) (hb : Binds X.K fd ps ds) (hd : Vals dvs ds) (hx : Passes CX X E)
    (I : Inv X pins σ H s) (r : Vals vs us) (h : sp (vs ++ dvs) H Q E) : wpAny (model X.prog X.w) X.A (call (.ref f) us) (EP X pins σ Q) X.xe s := by
  have r2 : Vals (vs ++ dvs) (us ++ ds) := r.append hd
  have hl : (us ++ ds).length = ps.length := by rw [← r2.length]; exact F.len _ _ _ _ h
  refine wpAny_call (codeAny_mono (F.run X.A X.stack s H ⟨us, []⟩ (us ++ ds) (vs ++ dvs) Q E hr I.env0 (hb s us I.kIn hl) r2 h) fun r s' hq => ?_)
  cases r with
  | error e => exact hx pins σ H s e s' I hq
  | ok fl =>
    cases fl with
    | ret u => exact I.after hq
    | next => exact False.elim hq
    | brk => exact False.elim hq
    | cont => exact False.elim hq

theorem pe_call (F : FnOk X.prog X.w X.K X.mg X.base CX k f fd ps sp) (hr : Room k X.A) (hg : Gl X x) (hm : X.mg x = some (.ref f)) (hk : PySem.W.keepIn X.K (.ref f) = true) (hb : Binds X.K fd ps ds) (hd : Vals dvs ds) (hx : Passes CX X E)
    (ha : PA X (e :: es) t) (hdb : (x == ("__debug__" : Str)) = false := by decide) (he : starEach (e :: es) X.env = (false, eval e X.env) :: starEach es X.env := by rfl) (hpl : (backTo pos (starEach es X.env)).any (·.1) = false := by rfl) :
    PE X (.Call (.Name x p) (e :: es) [] pos) (tCall sp dvs E t) := by
  intro pins s σ H Q I h
  refine wpAny_Call_Name_kw (ld_glob I hg hm ?_ hdb)
  refine PySem.W.callWith_K (h₀ := X.base) I.ok.mod.kin hk (thn (ha pos pins s σ H _ I h) fun us s1 ⟨vs, H1, I1, r, q⟩ => ⟨I1.kIn, ?_⟩) he hpl
  exact run_fn F hr hb hd hx I1 r q
end

section
variable {X : Cx} {CX : CXT} {k : Nat} {f C : Addr} {fd : FuncData} {ps ks : List Str} {sp : Sp} {E : XK} {x m : Str} {p pos apos kpos : Pos} {e o : Expr} {es : List Expr} {kws : List Keyword} {te ta : TE} {t tk : TA} {nm : Option Str}
variable {g : List Value → List Value → List Value} {gV : List V → List V → List V}
end

/-- names: the parameters first -/
structure FnScope (N P : List Str) (sc : Scope) : Prop where
  kind : sc.kind = .function
  co : sc.isCoroutine = false
  gen : sc.isGenerator = false
  nd : N.Nodup
  pre : N.take P.length = P
  par : ∀ x ∈ P, sc.names.lookup x = some .local ∨ sc.names.lookup x = some .cell
  nofree : ∀ y ∈ sc.names, y.2 ≠ .free

theorem bindL_out {kindOf : Str → Option NameKind} {x : Str} : ∀ {binds : List (Str × Value)} {m : Str → Option Value}, (∀ v, (x, v) ∉ binds) → bindL kindOf binds m x = m x
  | [], _, _ => rfl
  | (n, v) :: r, m, h => by
    unfold bindL
    rw [bindL_out fun w hw => h w (List.mem_cons_of_mem _ hw)]
    split
    · have : x ≠ n := by rintro rfl; exact h v List.mem_cons_self
      simp [this]
    · rfl
theorem bindC_out {kindOf : Str → Option NameKind} {x : Str} : ∀ {binds : List (Str × Value)} {m : Str → Option Value}, (∀ v, (x, v) ∉ binds) → bindC kindOf binds m x = m x
  | [], _, _ => rfl
  | (n, v) :: r, m, h => by
    unfold bindC
    rw [bindC_out fun w hw => h w (List.mem_cons_of_mem _ hw)]
    split
    · rfl
    · have : x ≠ n := by rintro rfl; exact h v List.mem_cons_self
      simp [this]
theorem bindL_get {kindOf : Str → Option NameKind} {x : Str} {v : Value} : ∀ {P : List Str} {vs : List Value} {i : Nat} {m : Str → Option Value}, P.Nodup → P[i]? = some x → vs[i]? = some v → kindOf x = some .local →
    bindL kindOf (P.zip vs) m x = some v
  | [], _, _, _, _, h, _, _ => by simp at h
  | _ :: _, [], _, _, _, _, h, _ => by simp at h
  | p :: P, w :: vs, 0, m, nd, h1, h2, hk => by
    simp at h1 h2; subst h1; subst h2
    show bindL kindOf ((p, w) :: P.zip vs) m p = _
    unfold bindL
    rw [bindL_out fun v hv => (List.nodup_cons.mp nd).1 (List.of_mem_zip hv).1, if_pos hk]
    simp
  | p :: P, w :: vs, i + 1, m, nd, h1, h2, hk => by
    show bindL kindOf ((p, w) :: P.zip vs) m x = _
    unfold bindL
    exact bindL_get (i := i) (List.nodup_cons.mp nd).2 (by simpa using h1) (by simpa using h2) hk
theorem bindC_get {kindOf : Str → Option NameKind} {x : Str} {v : Value} : ∀ {P : List Str} {vs : List Value} {i : Nat} {m : Str → Option Value}, P.Nodup → P[i]? = some x → vs[i]? = some v → kindOf x ≠ some .local →
    bindC kindOf (P.zip vs) m x = some v
  | [], _, _, _, _, h, _, _ => by simp at h
  | _ :: _, [], _, _, _, _, h, _ => by simp at h
  | p :: P, w :: vs, 0, m, nd, h1, h2, hk => by
    simp at h1 h2; subst h1; subst h2
    show bindC kindOf ((p, w) :: P.zip vs) m p = _
    unfold bindC
    rw [bindC_out fun v hv => (List.nodup_cons.mp nd).1 (List.of_mem_zip hv).1, if_neg hk]
    simp
  | p :: P, w :: vs, i + 1, m, nd, h1, h2, hk => by
    show bindC kindOf ((p, w) :: P.zip vs) m x = _
    unfold bindC
    exact bindC_get (i := i) (List.nodup_cons.mp nd).2 (by simpa using h1) (by simpa using h2) hk

/-- the names' values at the entry -/
noncomputable def start (N : List Str) (vs : List V) : St := vs.map some ++ List.replicate (N.length - vs.length) none

/-- the context of a def's body, at its entry; an exception leaves the frame, then lies as CX says -/
noncomputable def cxOf (CX : CXT) (P : Program) (w : World) (K : PySem.W.Frag) (mg : Str → Option Value) (base : Heap) (N : List Str) (qual : Str) (scope : Scope) (f : Addr) (cd : Value) (A : Around) (outer : List Env) (s : Shared) (H : Hp) (E : XK) : Cx where
  prog := P
  w := w
  K := K
  mg := mg
  base := base
  A := A.deeper (envOfC qual scope s.heap.objs.size f cd)
  N := N
  s₀ := s
  H₀ := H
  env := envOfC qual scope s.heap.objs.size f cd
  outer := outer
  stack := envOfC qual scope s.heap.objs.size f cd :: outer
  ex := []
  calm := true
  fn := fun _ => true
  pn := []
  xe := fun e s' => wpAny (model P w) (A.deeper (envOfC qual scope s.heap.objs.size f cd)) (leaving (envOfC qual scope s.heap.objs.size f cd) e) (fun _ s'' => CX outer H s E e s'') (fun e' s'' => CX outer H s E e' s'') s'

theorem cell_has {sc : Scope} {n : Nat} {x : Str} (h : sc.names.lookup x = some .cell) : ∃ c, (cellsFrom n sc.names []).lookup x = some c := by
  have q := PySem.W.cellsFrom_some sc.names n [] (.inl h)
  exact Option.isSome_iff_exists.mp q

theorem inv_start {CX : CXT} {P : Program} {w : World} {K : PySem.W.Frag} {mg : Str → Option Value} {base : Heap} {N ps : List Str} {qual : Str} {scope : Scope} {f : Addr} {cd : Value} {A : Around} {outer : List Env} {s s1 : Shared} {H : Hp} {E : XK} {us : List Value} {vs : List V}
    (S : FnScope N ps scope) (hd : A.handled = none) (e0 : Env0 P w K mg base A outer s H) (hl : vs.length = ps.length) (r : Vals vs us)
    (x : InCallC s s.heap.objs.size (bindL (envOfC qual scope s.heap.objs.size f cd).kindOf (ps.zip us) fun _ => none) (cellsFrom (s.heap.objs.size + 1) scope.names []) (bindC (envOfC qual scope s.heap.objs.size f cd).kindOf (ps.zip us) fun _ => none) s1) :
    Inv (cxOf CX P w K mg base N qual scope f cd A outer s H E) [] (start N vs) H s1 := by
  have hpl : ps.length ≤ N.length := by have := congrArg List.length S.pre; rw [List.length_take] at this; omega
  obtain ⟨h1, tk, rfl, hk⟩ := x.done
  have noA : ∀ b : Addr, b ∉ (cxOf CX P w K mg base N qual scope f cd A outer s H E).ex := fun b z => absurd (show b ∈ ([] : List Addr) from z) (by simp)
  refine ⟨⟨e0.mod, S.kind, rfl, rfl, Nat.le_refl _, fun y z c h1 h2 => ?_, fun y hy => ?_, fun y c _ h => ?_, fun _ => hd, Around.frames_deeper e0.frames, .inr ⟨rfl, rfl⟩, fun b z => absurd z (noA b), e0.bs, e0.bsz, fun b _ _ => noA b, fun b z => absurd z (noA b), e0.funs, e0.frf⟩,
    rfl, e0.bare, Un.kept hk, ⟨_, x.toInCall.ns, fun i y v h1 h2 h3 => ?_⟩, fun y c h => ⟨_, x.cell y c h⟩, e0.hok.fresh (Nat.le_refl _), fun y c h => ?_, fun p hp => absurd (show p ∈ ([] : List (Addr × Obj)) from hp) (by simp), e0.hok.kept hk, ?_⟩
  · exact name_of_addr x.apart (PySem.mem_of_lookup h1) (PySem.mem_of_lookup h2)
  · have hy : scope.names.lookup y = some .cell ∨ scope.names.lookup y = some .free := hy
    rcases hy with hy | hy
    · exact cell_has hy
    · exact absurd rfl (S.nofree _ (PySem.mem_of_lookup hy))
  · exact Nat.le_of_lt (x.above y c (PySem.mem_of_lookup h))
  · have hi : i < vs.length := by
      unfold start at h2
      by_cases hi : i < vs.length
      · exact hi
      · rw [List.getElem?_append_right (by simpa using hi)] at h2
        rw [List.getElem?_replicate] at h2
        split at h2 <;> cases h2
    have ha : vs[i]? = some v := by
      unfold start at h2
      rw [List.getElem?_append_left (by simpa using hi), List.getElem?_map] at h2
      cases e : vs[i]? with
      | none => rw [e] at h2; cases h2
      | some a => rw [e] at h2; cases h2; rfl
    obtain ⟨u, hu, rv⟩ := r.get ha
    have hp : ps[i]? = some y := by
      rw [← S.pre, List.getElem?_take_of_lt (by omega)]; exact h1
    have ndP : ps.Nodup := by rw [← S.pre]; exact S.nd.sublist (List.take_sublist _ _)
    refine ⟨u, rv, ?_⟩
    rcases S.par y (List.mem_of_getElem? hp) with k | k
    · exact .inl ⟨k, bindL_get ndP hp hu k⟩
    · obtain ⟨c, e⟩ := cell_has (n := s.heap.objs.size + 1) k
      refine .inr ⟨.inl k, c, e, ?_⟩
      have q := x.cell y c e
      rw [bindC_get ndP hp hu (by show scope.names.lookup y ≠ _; rw [k]; decide)] at q
      exact q
  · exact e0.hok.fresh (Nat.le_of_lt (x.above y c (PySem.mem_of_lookup h)))
  · unfold start
    show _ = N.length
    rw [List.length_append, List.length_map, List.length_replicate]
    omega

/-- THE RULE: a def (or a method) of the text, by its body. The body's reading t is chosen for each entry; it is run at the parameters' values -/
theorem fn_of {CX : CXT} {P : Program} {w : World} {K : PySem.W.Frag} {mg : Str → Option Value} {base : Heap} {k : Nat} {f : Addr} {name qual : Str} {params : Arguments} {body : List Stmt} {scope : Scope} {dV kV doc pm cdv ct oc : Value} {an od : Option Addr}
    {osl : Array (Option Value)} {N ps : List Str} {sp : Sp} (lk : K.lookup f = some ⟨oc, od, .func (PySem.W.fnOf name qual params body scope dV kV doc pm an cdv ct), osl⟩) (hcd : PySem.W.codeIn K cdv qual = true) (S : FnScope N ps scope)
    (len : ∀ vs H Q E, sp vs H Q E → vs.length = ps.length)
    (hbody : ∀ (A : Around) (outer : List Env) (s : Shared) (H : Hp) (vs : List V) (Q : VK) (E : XK), Room k (A.deeper (envOfC qual scope s.heap.objs.size f cdv)) → sp vs H Q E →
      ∃ t, PSs (cxOf CX P w K mg base N qual scope f cdv A outer s H E) body t ∧ t { nx := fun _ H' => Q .non H', rt := Q } (start N vs) H) :
    FnOk P w K mg base CX (k + 1) f (PySem.W.fnOf name qual params body scope dV kV doc pm an cdv ct) ps sp := by
  refine ⟨len, fun A outer s H args us vs Q E hr e0 hb r hsp => ?_⟩
  have hl := len _ _ _ _ hsp
  have KX : K.In s.heap := e0.mod.kin.keeps fun b o e => (e0.bs b o e).1
  have lim : s.heap.NoLimit := e0.mod.nolimit.keeps fun b o e => (e0.bs b o e).1
  have hkind : ∀ y ∈ ps.zip us, scope.names.lookup y.1 = some .local ∨ (scope.names.lookup y.1 = some .cell ∧ ((cellsFrom (s.heap.objs.size + 1) scope.names []).lookup y.1).isSome = true) := fun ⟨n, v⟩ hy => by
    rcases S.par n (List.of_mem_zip hy).1 with q | q
    · exact .inl q
    · exact .inr ⟨q, PySem.W.cellsFrom_some _ _ _ (.inl q)⟩
  refine codeAny_call_function hr.depth (KX _ _ lk) rfl S.co S.gen rfl (PySem.W.codeRec_of KX hcd) (hb _ _ _ _ ?_)
  refine wpAny_newFunctionEnv_cells S.kind hkind fun env he s1 x => ?_
  subst he
  refine ⟨lim.keeps x.toInCall.keep, codeAny_func ?_⟩
  obtain ⟨t, ht, hq⟩ := hbody A outer s H vs Q E (hr.deeper _) hsp
  have I : Inv (cxOf CX P w K mg base N qual scope f cdv A outer s H E) [] (start N vs) H s1 := inv_start S hr.hd e0 hl r x
  refine wpAny_mono (ht [] s1 (start N vs) H _ I hq) (fun fl s' hs => ?_) fun e s' hs => hs
  have fin : ∀ {σ' : St} {H' : Hp} {v : V} {u : Value}, Inv (cxOf CX P w K mg base N qual scope f cdv A outer s H E) [] σ' H' s' → RelV v u → Q v H' → CE outer P w H s Q u s' :=
    fun {σ' H' v u} J rv q => ⟨v, H', J.os, J.bare, J.base, J.hok, rv, q⟩
  cases fl with
  | ret u =>
    obtain ⟨v, σ', H', J, rv, q⟩ := hs
    exact fin J rv q
  | next =>
    obtain ⟨σ', H', J, q⟩ := hs
    exact fin (v := V.non) (u := Value.none) J rfl q
  | brk =>
    obtain ⟨_, _, _, q⟩ := hs
    exact False.elim q
  | cont =>
    obtain ⟨_, _, _, q⟩ := hs
    exact False.elim q
end L2

namespace L2
open PySem PySem.Spec PyProof.Rows
section
variable {X : Cx} {x : Str} {p pos : Pos} {e : Expr} {es : List Expr} {t : TA} {id T : String} {r : List V → Hp → VK → Prop}

noncomputable def tCB (r : List V → Hp → VK → Prop) (t : TA) : TE := fun σ H Q => t σ H fun vs H1 => r vs H1 Q
/-- f(e, ..), f a built-in function -/
theorem pe_callB (hc : CallR X (.builtin id) r) (hg : Gl X x) (hm : X.mg x = none) (hv : bootBuiltins x = some (.builtin id)) (ha : PA X (e :: es) t) (hn : x ≠ "__name__" := by decide) (hdb : (x == ("__debug__" : Str)) = false := by decide)
    (he : starEach (e :: es) X.env = (false, eval e X.env) :: starEach es X.env := by rfl) (hpl : (backTo pos (starEach es X.env)).any (·.1) = false := by rfl) : PE X (.Call (.Name x p) (e :: es) [] pos) (tCB r t) := by
  intro pins s σ H Q I h
  refine wpAny_Call_Name_kw (ld_blt I hg hm hv ?_ hn hdb)
  exact PyProof.Rows.callWith_builtin1 (thn (ha pos pins s σ H _ I h) fun us s1 ⟨vs, H1, I1, r1, q1⟩ => hc pins s1 σ H1 vs us Q I1 r1 q1) he hpl
/-- T(e, ..), T a built-in type -/
theorem pe_callTy (hc : CallR X (.type T) r) (hg : Gl X x) (hm : X.mg x = none) (hv : bootBuiltins x = some (.type T)) (ha : PA X (e :: es) t) (hn : x ≠ "__name__" := by decide) (hdb : (x == ("__debug__" : Str)) = false := by decide)
    (he : starEach (e :: es) X.env = (false, eval e X.env) :: starEach es X.env := by rfl) (hpl : (backTo pos (starEach es X.env)).any (·.1) = false := by rfl) : PE X (.Call (.Name x p) (e :: es) [] pos) (tCB r t) := by
  intro pins s σ H Q I h
  refine wpAny_Call_Name_kw (ld_blt I hg hm hv ?_ hn hdb)
  exact PyProof.Rows.callWith_type1 (thn (ha pos pins s σ H _ I h) fun us s1 ⟨vs, H1, I1, r1, q1⟩ => hc pins s1 σ H1 vs us Q I1 r1 q1) he hpl
end
end L2

namespace HT
open PySem PyProof.Rows

section
open PySem.SeqAt
open PySem.AutoSeq1 (wpAny_loadPart')
open PySem.MeetsSeq PySem.MeetsSeq2 PySem.MeetsSeq3

end

section
variable {prog : Program} {w : World} {A : Around} {E : Value → Shared → Prop} {s : Shared}

/-- t + u, t not empty -/
theorem cat_tup {t b : Addr} {vs ws : List Value} {Q : Value → Shared → Prop} (ht : IsTup s.heap t vs.toArray) (hb : IsTup s.heap b ws.toArray) (hv : vs ≠ [])
    (h1 : ws = [] → Q (.ref t) s) (h2 : ws ≠ [] → Q (.ref s.heap.objs.size) { s with heap := s.heap.push { cls := .type "tuple", data := .seq (vs ++ ws).toArray } })
    (hsz : vs.length + ws.length ≤ sizeLine) : wpAny (model prog w) A (binaryOp .Add (.ref t) (.ref b)) Q E s := by
  obtain ⟨⟨cls, dd, data, sl⟩, ho, hc, n, hd⟩ := id ht
  obtain ⟨⟨cls2, dd2, data2, sl2⟩, ho2, hc2, n2, hd2⟩ := id hb
  simp only at hc hd hc2 hd2
  subst hc hd hc2 hd2
  have e : vs.toArray ++ ws.toArray = (vs ++ ws).toArray := by simp
  by_cases hw : ws = []
  · exact concat_meets ⟨_, ho, rfl⟩ ⟨_, ho2, rfl⟩ noFill_tuple_add seq_tuple_add PySem.F.slot_tuple_add PySem.F.entry_tuple_add (PySem.F.args_tuple_add_2 _ _)
      (tuple_addW1 t b vs.toArray ws.toArray n n2 dd dd2 sl sl2 (by simpa using hv) (by simp [hw])) ⟨ho, ho2, h1 hw⟩
  · refine concat_meets ⟨_, ho, rfl⟩ ⟨_, ho2, rfl⟩ noFill_tuple_add seq_tuple_add PySem.F.slot_tuple_add PySem.F.entry_tuple_add (PySem.F.args_tuple_add_2 _ _)
      (tuple_addW2 t b vs.toArray ws.toArray n n2 dd dd2 sl sl2 (by simpa using hv) (by simpa using hw) (by rw [List.size_toArray, List.size_toArray]; exact hsz)) ⟨ho, ho2, ?_⟩
    rw [e]
    exact h2 hw

/-- a slice's bound as a place among n (d where it is left out) -/
noncomputable def sIx (n d : Nat) : Option Int → Nat
  | none => d
  | some v => if v < 0 then (v + (n : Int)).toNat else min v.toNat n
theorem sIx_none (n d : Nat) : sIx n d none = d := rfl
theorem sIx_nat (n d k : Nat) : sIx n d (some (k : Int)) = min k n := by
  show (if (k : Int) < 0 then ((k : Int) + (n : Int)).toNat else min (k : Int).toNat n) = min k n
  rw [if_neg (by omega), Int.toNat_natCast]
theorem sIx_le (n d : Nat) (hd : d ≤ n) (o : Option Int) : sIx n d o ≤ n := by
  cases o with
  | none => exact hd
  | some v =>
    show (if v < 0 then (v + (n : Int)).toNat else min v.toNat n) ≤ n
    by_cases hv : v < 0
    · rw [if_pos hv]; omega
    · rw [if_neg hv]; exact Nat.min_le_right _ _
theorem clip_eq (v : Int) (n d : Nat) : (if v < 0 then max (v + (n : Int)) 0 else min v (n : Int)) = ((sIx n d (some v) : Nat) : Int) := by
  show (if v < 0 then max (v + (n : Int)) 0 else min v (n : Int)) = (((if v < 0 then (v + (n : Int)).toNat else min v.toNat n) : Nat) : Int)
  by_cases hv : v < 0
  · simp only [if_pos hv]; omega
  · simp only [if_neg hv]; omega
theorem adjust_gen (lo hi : Option Int) (n : Nat) : Builtin.Slice.sliceAdjust lo hi 1 (n : Int) = (((sIx n 0 lo : Nat) : Int), ((sIx n n hi : Nat) : Int)) := by
  have h1 : ¬ ((1 : Int) < 0) := by omega
  unfold Builtin.Slice.sliceAdjust
  simp only [h1, if_false]
  refine Prod.ext ?_ ?_
  · cases lo with
    | none => rfl
    | some v => exact clip_eq v n 0
  · cases hi with
    | none => rfl
    | some v => exact clip_eq v n n
theorem places_gen (i j : Nat) : Builtin.Slice.slicePlaces (i : Int) (j : Int) 1 = j - i := by
  unfold Builtin.Slice.slicePlaces
  have h1 : (1 : Int) > 0 := by omega
  simp only [h1, if_true, Int.ediv_one]
  split <;> omega
theorem slicePart_ {v : Value} {o : Option Int} {Q : Option Int → Shared → Prop} (p : IsPart v o) (h : Q o s) : wpAny (model prog w) A (Builtin.Slice.slicePartIndex v) Q E s := by
  cases p with
  | none => exact slicePart_none h
  | int i t => exact slicePart_int h
theorem sliceApplied_gen {sl : Addr} {vl vu : Value} {lo hi : Option Int} {n : Nat} {Q : Int × Int × Nat → Shared → Prop} (hs : s.heap.IsSliceOf sl vl vu .none) (pl : IsPart vl lo) (pu : IsPart vu hi)
    (h : Q (((sIx n 0 lo : Nat) : Int), 1, sIx n n hi - sIx n 0 lo) s) : wpAny (model prog w) A (Builtin.Slice.sliceApplied (.ref sl) (pure (n : Int))) Q E s := by
  obtain ⟨os, hos, hcs, hds⟩ := id hs
  unfold Builtin.Slice.sliceApplied Builtin.Slice.sliceFields
  refine wpAny_bind (wpAny_bind (wpAny_field hos hds (x := vl) rfl (wpAny_bind (wpAny_field hos hds (x := vu) rfl (wpAny_bind (wpAny_field hos hds (x := .none) rfl (wpAny_pure ?_)))))))
  refine wpAny_bind (slicePart_none ?_)
  show wpAny _ _ (if ((1 : Int) == 0) = true then _ else _) _ _ s
  rw [if_neg (by decide)]
  refine wpAny_bind (slicePart_ pl (wpAny_bind (slicePart_ pu (wpAny_bind (wpAny_pure ?_)))))
  show wpAny _ _ (match Builtin.Slice.sliceAdjust lo hi 1 (n : Int) with | (lo, hi) => pure (lo, (1 : Int), Builtin.Slice.slicePlaces lo hi 1)) _ _ s
  rw [adjust_gen lo hi n]
  show wpAny _ _ (pure (((sIx n 0 lo : Nat) : Int), (1 : Int), Builtin.Slice.slicePlaces ((sIx n 0 lo : Nat) : Int) ((sIx n n hi : Nat) : Int) 1)) _ _ s
  rw [places_gen]
  exact wpAny_pure h
theorem pick_gen (xs : Array Value) (i k : Nat) : ((List.range k).filterMap fun (m : Nat) => xs[((i : Int) + (m : Int) * 1).toNat]?).toArray = ((xs.toList.drop i).take k).toArray := by
  have e : (fun (m : Nat) => xs[((i : Int) + (m : Int) * 1).toNat]?) = fun m => xs[i + m]? := by
    funext m
    have : ((i : Int) + (m : Int) * 1).toNat = i + m := by omega
    rw [this]
  rw [e]
  have := pick_run xs i k
  rw [List.filterMap_map] at this
  have e2 : ((fun x => xs[x]?) ∘ fun x => i + x) = fun m => xs[i + m]? := rfl
  rw [e2] at this
  rw [this]

theorem getItem_tuple_cut {t sl : Addr} {items : Array Value} {vl vu : Value} {lo hi : Option Int} {Q : Value → Shared → Prop} (ht : IsTup s.heap t items) (hs : s.heap.IsSliceOf sl vl vu .none) (pl : IsPart vl lo) (pu : IsPart vu hi)
    (hw : ¬ (sIx items.size 0 lo = 0 ∧ sIx items.size items.size hi = items.size))
    (h : Q (.ref s.heap.objs.size) { s with heap := s.heap.push { cls := .type "tuple", data := .seq ((items.toList.drop (sIx items.size 0 lo)).take (sIx items.size items.size hi - sIx items.size 0 lo)).toArray } })
    (hsz : items.size ≤ sizeLine) : wpAny (model prog w) A (getItem (.ref t) (.ref sl)) Q E s := by
  have htake : sizeOk (.seq ((items.toList.drop (sIx items.size 0 lo)).take (sIx items.size items.size hi - sIx items.size 0 lo)).toArray) := by
    show ((items.toList.drop (sIx items.size 0 lo)).take (sIx items.size items.size hi - sIx items.size 0 lo)).toArray.size ≤ sizeLine
    rw [List.size_toArray, List.length_take, List.length_drop, Array.length_toList]
    omega
  have hj : sIx items.size items.size hi ≤ items.size := sIx_le _ _ (Nat.le_refl _) hi
  obtain ⟨os, hos, hcs, hds⟩ := id hs
  have hTs : s.TypeIs (.ref sl) "slice" := ⟨os, hos, hcs⟩
  unfold getItem
  try with_reducible refine wpAny_holding ?_
  first | refine wpAny_bind (wpAny_pure ?_) | skip
  refine wpAny_bind (wpAny_sequenceKey ht.typeIs (by decide) ?_)
  refine wpAny_bind (wpAny_callSpecial?_slot (name := Str.ofString "__getitem__") ht.typeIs PyProof.Rows.slot_tuple_getitem
    (wpAny_call_entry PyProof.Rows.slot_tuple_getitem ht.typeIs entry_tuple_getitem ?_ (args_tuple_getitem _ _)))
  show wpAny _ _ (Builtin.Tuple.tupleItemsOf (.ref t) >>= _) _ _ s
  refine wpAny_bind (tupleItemsOf_ ht ?_)
  refine wpAny_bind (wpAny_typeOf hTs ?_)
  rw [if_pos (by decide)]
  refine wpAny_bind (sliceApplied_gen hs pl pu ?_)
  have hno : ¬ ((((sIx items.size 0 lo : Nat) : Int) == 0 && (1 : Int) == 1 && (sIx items.size items.size hi - sIx items.size 0 lo) == items.size) = true) := by
    intro q
    rw [Bool.and_eq_true, Bool.and_eq_true] at q
    have q1 : ((sIx items.size 0 lo : Nat) : Int) = 0 := eq_of_beq q.1.1
    have q2 : sIx items.size items.size hi - sIx items.size 0 lo = items.size := eq_of_beq q.2
    exact hw ⟨by omega, by omega⟩
  show wpAny _ _ (if (((sIx items.size 0 lo : Nat) : Int) == 0 && (1 : Int) == 1 && (sIx items.size items.size hi - sIx items.size 0 lo) == items.size) = true then _ else _) _ _ s
  rw [if_neg hno, pick_gen]
  first
    | exact wpAny_bind (m := Builtin.Tuple.tupleExact _) (wpAny_newObj_type (wpAny_pure ⟨_, rfl, wpAny_pure h⟩) htake)
    | exact wpAny_bind (m := Builtin.Tuple.tupleExact _) (wpAny_newObj_type (wpAny_bind (wpAny_pure (wpAny_pure ⟨_, rfl, wpAny_pure h⟩))) htake)
    | exact wpAny_bind (wpAny_bind (m := Builtin.Tuple.tupleExact _) (wpAny_newObj_type (wpAny_pure (wpAny_pure ⟨_, rfl, wpAny_pure h⟩)) htake))
    | exact wpAny_bind (wpAny_bind (m := Builtin.Tuple.tupleExact _) (wpAny_newObj_type (wpAny_pure ⟨_, rfl, wpAny_pure h⟩) htake))
end
end HT

namespace L2
open PySem PySem.Spec PyProof.Rows

noncomputable abbrev TO := St → Hp → (Option Int → Hp → Prop) → Prop
/-- a slice's part (left out, or an int) -/
noncomputable def PO (X : Cx) (e : Option Expr) (t : TO) : Prop :=
  ∀ (pins : List (Addr × Obj)) (s : Shared) (σ : St) (H : Hp) (Q : Option Int → Hp → Prop), Inv X pins σ H s → t σ H Q →
    wpAny (model X.prog X.w) X.A (evalPart e X.env) (fun u s' => ∃ o H', Inv X pins σ H' s' ∧ IsPart u o ∧ Q o H') X.xe s
noncomputable def tNoPart : TO := fun _ H Q => Q none H
noncomputable def tPart (t : TE) : TO := fun σ H Q => t σ H fun x H1 => ∃ i, x = .int i ∧ Q (some i) H1

section
variable {X : Cx} {e : Expr} {te : TE} {lo hi : Option Expr} {tl th : TO} {pos p2 : Pos}

theorem po_none : PO X none tNoPart := by
  intro pins s σ H Q I h
  rw [evalPart_none]
  exact wpAny_pure ⟨none, H, I, .none, h⟩
theorem po_some (h : PE X e te) : PO X (some e) (tPart te) := by
  intro pins s σ H Q I hw
  rw [evalPart_some]
  refine thn (h pins s σ H _ I hw) fun u s1 ⟨x, H1, I1, r1, q1⟩ => ?_
  obtain ⟨i, rfl, q⟩ := q1
  obtain ⟨t, rfl⟩ := r1
  exact ⟨some i, H1, I1, .int i t, q⟩

/-- what a slice of a value is, by values: the slice object stands at sl -/
noncomputable def SlR (X : Cx) (r : V → Option Int → Option Int → Hp → VK → Prop) : Prop :=
  ∀ (pins : List (Addr × Obj)) (s : Shared) (σ : St) (H : Hp) (x : V) (v vl vu : Value) (lo hi : Option Int) (sl : Addr) (Q : VK), Inv X pins σ H s → RelV x v → s.heap.IsSliceOf sl vl vu .none → IsPart vl lo → IsPart vu hi → r x lo hi H Q →
    ∃ T id, typeLookup (.type T) "__getitem__" = pure (some (.builtin id)) ∧ s.TypeIs v T ∧ wpAny (model X.prog X.w) X.A (getItem v (.ref sl)) (EP X pins σ Q) X.xe s
theorem SlR.or {r r' : V → Option Int → Option Int → Hp → VK → Prop} (h : SlR X r) (h' : SlR X r') : SlR X (fun x lo hi H Q => r x lo hi H Q ∨ r' x lo hi H Q) := by
  intro pins s σ H x v vl vu lo hi sl Q I rx hs pl pu q
  rcases q with q | q
  · exact h pins s σ H x v vl vu lo hi sl Q I rx hs pl pu q
  · exact h' pins s σ H x v vl vu lo hi sl Q I rx hs pl pu q
noncomputable def tSl (r : V → Option Int → Option Int → Hp → VK → Prop) (te : TE) (tl th : TO) : TE := fun σ H Q => te σ H fun x H1 => tl σ H1 fun l H2 => th σ H2 fun u H3 => r x l u H3 Q
/-- a[lo:hi], any a -/
theorem pe_slice {r : V → Option Int → Option Int → Hp → VK → Prop} (hr : SlR X r) (he : PE X e te) (hl : PO X lo tl) (hu : PO X hi th) : PE X (.Subscript e (.Slice lo hi none p2) pos) (tSl r te tl th) := by
  intro pins s σ H Q I h
  refine Subscript_ (thn (he pins s σ H _ I h) fun v s1 ⟨x, H1, I1, r1, q1⟩ => ?_)
  refine wpAny_Slice (thn (hl pins s1 σ H1 _ I1 q1) fun vl s2 ⟨l, H2, I2, pl, q2⟩ => thn (hu pins s2 σ H2 _ I2 q2) fun vu s3 ⟨u, H3, I3, pu, q3⟩ => ?_)
  rw [evalPart_none]
  refine wpAny_pure ?_
  have I4 : Inv X pins σ H3 { s3 with heap := s3.heap.push { cls := .type "slice", data := .fields #[vl, vu, .none] } } := I3.kept (t' := s3.toks) fun b ob q => Heap.get?_push_of_some _ q
  obtain ⟨T, id, hT, ht, hg⟩ := hr pins { s3 with heap := s3.heap.push { cls := .type "slice", data := .fields #[vl, vu, .none] } } σ H3 x v vl vu l u s3.heap.objs.size Q I4 r1 (Heap.IsSliceOf.new ..) pl pu q3
  show wpAny (model X.prog X.w) X.A (subscriptTail e (.Slice lo hi none p2) v (.ref s3.heap.objs.size)) (EP X pins σ Q) X.xe { s3 with heap := s3.heap.push { cls := .type "slice", data := .fields #[vl, vu, .none] } }
  exact tail_any (ops := [.ref s3.heap.objs.size, v]) ht hT hg (by with_unfolding_all rfl)

/-- the items of xs[lo:hi] -/
noncomputable def cutV (xs : List V) (lo hi : Option Int) : List V := (xs.drop (HT.sIx xs.length 0 lo)).take (HT.sIx xs.length xs.length hi - HT.sIx xs.length 0 lo)
theorem cutV_length (xs : List V) (lo hi : Option Int) : (cutV xs lo hi).length ≤ xs.length := by
  unfold cutV
  rw [List.length_take, List.length_drop]
  omega
/-- t[lo:hi], not the whole of it (the whole would be t itself) -/
noncomputable def rSlT (K : PySem.W.Frag) : V → Option Int → Option Int → Hp → VK → Prop := fun x lo hi H Q => ∃ a xs, x = .ref a ∧ SqT K H a xs ∧
  ¬ (HT.sIx xs.length 0 lo = 0 ∧ HT.sIx xs.length xs.length hi = xs.length) ∧ ∀ p, H p = none → Q (.ref p) (upd H p (.tup (cutV xs lo hi)))
theorem sl_tup : SlR X (rSlT X.K) := by
  intro pins s σ H x v vl vu lo hi sl Q I rx hs pl pu h
  obtain ⟨a, xs, rfl, hx, hw, q⟩ := h
  cases rx
  obtain ⟨its, r, ht, hz⟩ := I.tuple hx
  have hlen : its.toArray.size = xs.length := by rw [List.size_toArray]; exact r.length.symm
  refine ⟨"tuple", _, PyProof.Rows.slot_tuple_getitem.lookup, ht.typeIs, ?_⟩
  refine HT.getItem_tuple_cut ht hs pl pu (by rw [hlen]; exact hw) ?_ (by rw [hlen]; exact hz)
  rw [hlen]
  refine ⟨.ref s.heap.objs.size, _, I.laid (t' := s.toks) (o := .tup (cutV xs lo hi)) (fun b ob q => Heap.get?_push_of_some _ q) (Nat.le_refl _) ?_, rfl, q _ (I.hok.fresh (Nat.le_refl _))⟩
  exact ⟨Nat.le_trans (cutV_length xs lo hi) hz, _, (r.drop (HT.sIx xs.length 0 lo)).take (HT.sIx xs.length xs.length hi - HT.sIx xs.length 0 lo), IsTup.new _ _, _, Heap.get?_push_size _ rfl, rfl⟩

/-- t + u, t not empty: u empty gives t itself -/
noncomputable def rCatT (K : PySem.W.Frag) : R2 := fun x y H Q => ∃ a b xs ys, x = .ref a ∧ y = .ref b ∧ SqT K H a xs ∧ SqT K H b ys ∧ xs ≠ [] ∧ xs.length + ys.length ≤ sizeLine ∧
  (ys = [] → Q (.ref a) H) ∧ (ys ≠ [] → ∀ p, H p = none → Q (.ref p) (upd H p (.tup (xs ++ ys))))
theorem Vals.nil_iff {xs : List V} {us : List Value} (r : Vals xs us) : us = [] ↔ xs = [] := by
  cases r with
  | nil => simp
  | cons _ _ => simp
theorem op_catT : OpR X (binaryOp .Add) (rCatT X.K) := by
  intro pins s σ H x y v u Q I rx ry h
  obtain ⟨a, b, xs, ys, rfl, rfl, ha, hb, hx, hz, q1, q2⟩ := h
  cases rx
  cases ry
  obtain ⟨its, r1, p1, _⟩ := I.tuple ha
  obtain ⟨its2, r2, p2, _⟩ := I.tuple hb
  refine HT.cat_tup p1 p2 (fun z => hx (r1.nil_iff.mp z)) (fun z => ⟨.ref a, H, I, rfl, q1 (r2.nil_iff.mp z)⟩) (fun z => ?_) (by rw [← r1.length, ← r2.length]; exact hz)
  refine ⟨.ref s.heap.objs.size, _, I.laid (t' := s.toks) (o := .tup (xs ++ ys)) (fun b ob q => Heap.get?_push_of_some _ q) (Nat.le_refl _) ?_, rfl, q2 (fun w => z (r2.nil_iff.mpr w)) _ (I.hok.fresh (Nat.le_refl _))⟩
  exact ⟨by rw [List.length_append]; exact hz, _, r1.append r2, IsTup.new _ _, _, Heap.get?_push_size _ rfl, rfl⟩
end
end L2

namespace L2
open PySem PySem.Spec PyProof.Rows

/-- the place that an index of any sign means -/
noncomputable def ixN (n : Nat) (i : Int) : Option Nat := if 0 ≤ i then (if i < n then some i.toNat else none) else if -(n : Int) ≤ i then some (i + n).toNat else none
noncomputable def atI {α : Type} (xs : List α) (i : Int) : Option α := (ixN xs.length i).bind fun j => xs[j]?
theorem ixN_seq {n : Nat} {i : Int} {j : Nat} (h : ixN n i = some j) : seqIndex? i n = some j ∧ j < n ∧ -(n : Int) ≤ i ∧ i < n := by
  unfold ixN at h
  by_cases h0 : 0 ≤ i
  · rw [if_pos h0] at h
    by_cases h1 : i < n
    · rw [if_pos h1] at h
      have e : i.toNat = j := Option.some.inj h
      exact ⟨by rw [seqIndex_of h0 h1, e], by omega, by omega, h1⟩
    · rw [if_neg h1] at h; cases h
  · rw [if_neg h0] at h
    by_cases h1 : -(n : Int) ≤ i
    · rw [if_pos h1] at h
      have e : (i + n).toNat = j := Option.some.inj h
      exact ⟨by rw [seqIndex_neg (by omega) h1, e], by omega, h1, by omega⟩
    · rw [if_neg h1] at h; cases h
theorem atI_get {α : Type} {xs : List α} {i : Int} {v : α} (h : atI xs i = some v) : ∃ j, seqIndex? i xs.length = some j ∧ xs[j]? = some v ∧ j < xs.length ∧ -(xs.length : Int) ≤ i ∧ i < xs.length := by
  unfold atI at h
  cases e : ixN xs.length i with
  | none => rw [e] at h; cases h
  | some j =>
    rw [e] at h
    obtain ⟨h1, h2, h3, h4⟩ := ixN_seq e
    exact ⟨j, h1, h, h2, h3, h4⟩
theorem atI_nat {α : Type} {xs : List α} {j : Nat} {v : α} (h : xs[j]? = some v) : atI xs (j : Int) = some v := by
  have hj : j < xs.length := (List.getElem?_eq_some_iff.mp h).1
  have e : ixN xs.length (j : Int) = some j := by
    unfold ixN
    rw [if_pos (by omega), if_pos (by omega)]; simp
  unfold atI; rw [e]; exact h
/-- what stands as an index of a plain subscript -/
noncomputable def PlainIx (b : Expr) : Prop := ∀ o i, subscripted b false o i = operate [o, i] (getItem o i)
/-- a subscript by values -/
noncomputable def IxR (X : Cx) (r : R2) : Prop :=
  ∀ (value slice : Expr) (pins : List (Addr × Obj)) (s : Shared) (σ : St) (H : Hp) (x y : V) (v u : Value) (Q : VK), Inv X pins σ H s → RelV x v → RelV y u → r x y H Q →
    subscripted slice false v u = operate [v, u] (getItem v u) → wpAny (model X.prog X.w) X.A (subscriptTail value slice v u) (EP X pins σ Q) X.xe s
/-- a call of a builtin's method by values: the receiver, the arguments -/
noncomputable def MtR (X : Cx) (id : String) (r : V → List V → Hp → VK → Prop) : Prop :=
  ∀ (pins : List (Addr × Obj)) (s : Shared) (σ : St) (H : Hp) (x : V) (xs : List V) (v : Value) (us : List Value) (Q : VK), Inv X pins σ H s → RelV x v → Vals xs us → r x xs H Q →
    wpAny (model X.prog X.w) X.A (call (.builtin id) (v :: us)) (EP X pins σ Q) X.xe s
section
variable {X : Cx} {a b : Expr} {ta tb : TE} {pos : Pos}
theorem IxR.or {r r' : R2} (h : IxR X r) (h' : IxR X r') : IxR X (fun x y H Q => r x y H Q ∨ r' x y H Q) := by
  intro value slice pins s σ H x y v u Q I rx ry q hs
  rcases q with q | q
  · exact h value slice pins s σ H x y v u Q I rx ry q hs
  · exact h' value slice pins s σ H x y v u Q I rx ry q hs
theorem MtR.or {id : String} {r r' : V → List V → Hp → VK → Prop} (h : MtR X id r) (h' : MtR X id r') : MtR X id (fun x xs H Q => r x xs H Q ∨ r' x xs H Q) := by
  intro pins s σ H x xs v us Q I rx rs q
  rcases q with q | q
  · exact h pins s σ H x xs v us Q I rx rs q
  · exact h' pins s σ H x xs v us Q I rx rs q
/-- a[b] -/
theorem pe_ix {r : R2} (hr : IxR X r) (ha : PE X a ta) (hb : PE X b tb) (hs : PlainIx b) : PE X (.Subscript a b pos) (tOp r ta tb) := by
  intro pins s σ H Q I h
  exact Subscript_ (binT ha hb I h fun v u s2 x y H2 I2 rx ry q => hr a b pins s2 σ H2 x y v u Q I2 rx ry q (hs _ _))

noncomputable def rIxL (K : PySem.W.Frag) : R2 := fun x y H Q => ∃ p xs i v, x = .ref p ∧ y = .int i ∧ SqL K H p xs ∧ atI xs i = some v ∧ Q v H
noncomputable def rIxT (K : PySem.W.Frag) : R2 := fun x y H Q => ∃ p xs i v, x = .ref p ∧ y = .int i ∧ SqT K H p xs ∧ atI xs i = some v ∧ Q v H
noncomputable def rIxS : R2 := fun x y H Q => ∃ z i c, x = .str z ∧ y = .int i ∧ z.length ≤ sizeLine ∧ atI z.cps.toList i = some c ∧ Q (.str ⟨#[c]⟩) H
theorem ix_list : IxR X (rIxL X.K) := by
  intro value slice pins s σ H x y v u Q I rx ry h hs
  obtain ⟨p, xs, i, z, rfl, rfl, hq, he, q⟩ := h
  cases rx
  obtain ⟨t, rfl⟩ := ry
  obtain ⟨its, r, pl, hz⟩ := I.list hq
  obtain ⟨j, h1, h2, h3, h4, h5⟩ := atI_get he
  obtain ⟨w, ew, rw'⟩ := r.get h2
  have hl := r.length
  have hn := line63
  have fin : EP X pins σ Q w s := ⟨z, H, I, rw', q⟩
  by_cases h0 : 0 ≤ i
  · have hj : i.toNat = j := by
      rw [seqIndex_of h0 h5] at h1
      exact Option.some.inj h1
    exact item_listR pl.isList h0 (by omega) (by rw [hj]; simpa using ew) fin hs
  · have hj : (i + (its.toArray.size : Int)).toNat = j := by
      rw [seqIndex_neg (by omega) h4] at h1
      rw [List.size_toArray, ← hl]
      exact Option.some.inj h1
    exact subscriptTail_builtinR (x := w) pl.isList.typeIs slot_list_getitem.lookup
      (wpAny_getItem_list_neg (Q := fun r s' => r = w ∧ EP X pins σ Q r s') pl.isList (by omega) (by rw [List.size_toArray] <;> omega) (by omega) (by rw [hj]; simpa using ew) ⟨rfl, fin⟩) hs
theorem ix_tup : IxR X (rIxT X.K) := by
  intro value slice pins s σ H x y v u Q I rx ry h hs
  obtain ⟨p, xs, i, z, rfl, rfl, hq, he, q⟩ := h
  cases rx
  obtain ⟨t, rfl⟩ := ry
  obtain ⟨its, r, pl, hz⟩ := I.tuple hq
  obtain ⟨j, h1, h2, h3, h4, h5⟩ := atI_get he
  obtain ⟨w, ew, rw'⟩ := r.get h2
  have hl := r.length
  have hn := line63
  have fin : EP X pins σ Q w s := ⟨z, H, I, rw', q⟩
  exact subscriptTail_builtinR (x := w) pl.typeIs slot_tuple_getitem.lookup
    (getItem_tuple (j := j) (Q := fun r s' => r = w ∧ EP X pins σ Q r s') pl (by omega) (by omega) (by rw [List.size_toArray, ← hl]; exact h1) (by simpa using ew) ⟨rfl, fin⟩) hs
theorem ix_str : IxR X rIxS := by
  intro value slice pins s σ H x y v u Q I rx ry h hs
  obtain ⟨z, i, c, rfl, rfl, hz, he, q⟩ := h
  obtain ⟨t, rfl⟩ := rx
  obtain ⟨t', rfl⟩ := ry
  obtain ⟨j, h1, h2, h3, h4, h5⟩ := atI_get he
  have hl : z.cps.toList.length = z.length := by simp [Str.length]
  rw [hl] at h1 h4 h5
  have hn := line63
  exact tail_any (typeIs_str s z t) slot_str_getitem.lookup (getItem_str (c := c) (by
    have e1 : decide (i < -(2 ^ 63 : Int)) = false := decide_eq_false (by omega)
    have e2 : decide (i ≥ 2 ^ 63) = false := decide_eq_false (by omega)
    rw [e1, e2, Bool.or_false]) (by rw [h1]; simpa using h2) ⟨.str ⟨#[c]⟩, H, I.tok _, ⟨_, rfl⟩, q⟩) hs
/-- list, tuple or str -/
noncomputable def rIx (K : PySem.W.Frag) : R2 := fun x y H Q => rIxL K x y H Q ∨ rIxT K x y H Q ∨ rIxS x y H Q
theorem ix_seq : IxR X (rIx X.K) := ix_list.or (ix_tup.or ix_str)

theorem Inv.lst {pins : List (Addr × Obj)} {σ : St} {H : Hp} {s : Shared} {p : Addr} {xs : List V} (I : Inv X pins σ H s) (h : H p = some (.lst xs)) :
    ∃ (its : List Value) (n : Nat), Vals xs its ∧ s.heap.get? p = some { cls := .type "list", data := .seq its.toArray n } ∧ xs.length ≤ sizeLine := by
  obtain ⟨z, its, n, r, e⟩ := I.hok p _ h
  exact ⟨its, n, r, e, z⟩
theorem slice_bounds (lo hi : Option Int) (n : Nat) : (sliceBounds lo hi none n).1 = ((HT.sIx n 0 lo : Nat) : Int) ∧ (sliceBounds lo hi none n).2.1 = ((HT.sIx n n hi : Nat) : Int) ∧ (sliceBounds lo hi none n).2.2 = 1 := by
  refine ⟨?_, ?_, rfl⟩
  · cases lo with
    | none => simp [sliceBounds, HT.sIx]
    | some i =>
      simp only [sliceBounds, HT.sIx, Option.getD_none, show (1 : Int) > 0 by decide, if_true]
      by_cases h : i < 0
      · simp only [h, if_true] <;> omega
      · simp only [h, if_false] <;> omega
  · cases hi with
    | none => simp [sliceBounds, HT.sIx]
    | some i =>
      simp only [sliceBounds, HT.sIx, Option.getD_none, show (1 : Int) > 0 by decide, if_true]
      by_cases h : i < 0
      · simp only [h, if_true] <;> omega
      · simp only [h, if_false] <;> omega
theorem slicePick_cut (its : List Value) (lo hi : Option Int) : slicePick its.toArray lo hi none = ((its.drop (HT.sIx its.length 0 lo)).take (HT.sIx its.length its.length hi - HT.sIx its.length 0 lo)).toArray := by
  obtain ⟨h1, h2, h3⟩ := slice_bounds lo hi its.toArray.size
  unfold slicePick
  rw [h1, h2, h3]
  simp only [sliceRange_one, pick_run, List.size_toArray] <;> rfl
/-- xs[lo:hi] of a list: a new list -/
noncomputable def rSlL (K : PySem.W.Frag) : V → Option Int → Option Int → Hp → VK → Prop := fun x lo hi H Q => ∃ a xs, x = .ref a ∧ SqL K H a xs ∧ ∀ p, H p = none → Q (.ref p) (upd H p (.lst (cutV xs lo hi)))
theorem sl_list : SlR X (rSlL X.K) := by
  intro pins s σ H x v vl vu lo hi sl Q I rx hs pl pu h
  obtain ⟨a, xs, rfl, hx, q⟩ := h
  cases rx
  obtain ⟨its, r, ht, hz⟩ := I.list hx
  have hlen := r.length
  refine ⟨"list", _, slot_list_getitem.lookup, ht.isList.typeIs, ?_⟩
  refine wpAny_getItem_list_slice ht.isList hs pl pu .none (by simp) ?_ (by rw [List.size_toArray] <;> omega)
  rw [slicePick_cut, ← hlen]
  refine ⟨.ref s.heap.objs.size, _, I.laid (t' := s.toks) (o := .lst (cutV xs lo hi)) (fun b ob q => Heap.get?_push_of_some _ q) (Nat.le_refl _) ?_, rfl, q _ (I.hok.fresh (Nat.le_refl _))⟩
  exact ⟨Nat.le_trans (cutV_length xs lo hi) hz, _, 0, (r.drop (HT.sIx xs.length 0 lo)).take (HT.sIx xs.length xs.length hi - HT.sIx xs.length 0 lo), Heap.get?_push_size _ rfl⟩

noncomputable def flatV : V → Bool
  | .non => true
  | .bl _ => true
  | .int _ => true
  | .str _ => true
  | _ => false
/-- == of flat values -/
noncomputable def eqV : V → V → Bool
  | .non, .non => true
  | .bl a, .bl b => a == b
  | .bl a, .int b => (if a then 1 else 0) == b
  | .int a, .bl b => a == (if b then 1 else 0)
  | .int a, .int b => a == b
  | .str a, .str b => a == b
  | _, _ => false
theorem eqAt_V {A : Around} {s : Shared} {y x : V} {u v : Value} (ry : RelV y u) (rx : RelV x v) (fy : flatV y = true) (fx : flatV x = true) : SeqAt.EqAt A s u v (eqV y x) := by
  cases y with
  | non =>
    cases ry
    cases x with
    | non => cases rx; exact SeqAt.EqAt.same _
    | bl b => cases rx; exact SeqAt.EqAt.none_bool b
    | int b => obtain ⟨t, rfl⟩ := rx; exact SeqAt.EqAt.none_int b t
    | str b => obtain ⟨t, rfl⟩ := rx; exact SeqAt.EqAt.none_str b t
    | _ => exact absurd (show false = true from fx) Bool.false_ne_true
  | bl a =>
    cases ry
    cases x with
    | non => cases rx; exact SeqAt.EqAt.bool_none a
    | bl b => cases rx; exact SeqAt.EqAt.bool_bool a b
    | int b => obtain ⟨t, rfl⟩ := rx; exact SeqAt.EqAt.bool_int a b t
    | str b => obtain ⟨t, rfl⟩ := rx; exact SeqAt.EqAt.bool_str a b t
    | _ => exact absurd (show false = true from fx) Bool.false_ne_true
  | int a =>
    obtain ⟨t', rfl⟩ := ry
    cases x with
    | non => cases rx; exact SeqAt.EqAt.int_none a t'
    | bl b => cases rx; exact SeqAt.EqAt.int_bool a t' b
    | int b => obtain ⟨t, rfl⟩ := rx; exact SeqAt.EqAt.int_int a t' b t
    | str b => obtain ⟨t, rfl⟩ := rx; exact SeqAt.EqAt.int_str a t' b t
    | _ => exact absurd (show false = true from fx) Bool.false_ne_true
  | str a =>
    obtain ⟨t', rfl⟩ := ry
    cases x with
    | non => cases rx; exact SeqAt.EqAt.str_none a t'
    | bl b => cases rx; exact SeqAt.EqAt.str_bool a t' b
    | int b => obtain ⟨t, rfl⟩ := rx; exact SeqAt.EqAt.str_int a t' b t
    | str b => obtain ⟨t, rfl⟩ := rx; exact SeqAt.EqAt.str_str a t' b t
    | _ => exact absurd (show false = true from fx) Bool.false_ne_true
  | _ => exact absurd (show false = true from fy) Bool.false_ne_true
/-- the items' answers, read off the values (a value's own answer does not lean on its token) -/
noncomputable def eqU (x : V) (u : Value) : Bool := match u with
  | .none => eqV .non x
  | .bool b => eqV (.bl b) x
  | .int i _ => eqV (.int i) x
  | .str z _ => eqV (.str z) x
  | _ => false
theorem eqU_of {x y : V} {u : Value} (r : RelV y u) (f : flatV y = true) : eqU x u = eqV y x := by
  cases y with
  | non => cases r; rfl
  | bl b => cases r; rfl
  | int i => obtain ⟨t, rfl⟩ := r; rfl
  | str z => obtain ⟨t, rfl⟩ := r; rfl
  | _ => exact absurd (show false = true from f) Bool.false_ne_true
theorem any_eqU {x : V} : ∀ {xs : List V} {us : List Value}, Vals xs us → xs.all flatV = true → us.any (eqU x) = xs.any fun y => eqV y x
  | _, _, .nil, _ => rfl
  | y :: xs, u :: us, .cons r t, f => by
    rw [List.all_cons, Bool.and_eq_true] at f
    rw [List.any_cons, List.any_cons, eqU_of r f.1, any_eqU t f.2]
theorem mem_eqAt {A : Around} {s : Shared} {x : V} {v : Value} (rx : RelV x v) (fx : flatV x = true) : ∀ {xs : List V} {us : List Value}, Vals xs us → xs.all flatV = true → ∀ u ∈ us, SeqAt.EqAt A s u v (eqU x u)
  | _, _, .nil, _ => fun u hu => by cases hu
  | y :: xs, u :: us, .cons r t, f => fun u' hu => by
    rw [List.all_cons, Bool.and_eq_true] at f
    rcases List.mem_cons.mp hu with rfl | hu
    · rw [eqU_of r f.1]; exact eqAt_V r rx f.1 fx
    · exact mem_eqAt rx fx t f.2 u' hu
noncomputable def inV (x : V) (xs : List V) : Bool := xs.any fun y => eqV y x
/-- x in a list or tuple of flat items -/
noncomputable def rIn (K : PySem.W.Frag) (neg : Bool) : R2 := fun x y H Q => ∃ p xs, y = .ref p ∧ (SqL K H p xs ∨ SqT K H p xs) ∧ flatV x = true ∧ xs.all flatV = true ∧ Q (.bl (if neg then !inV x xs else inV x xs)) H
theorem op_in_seq : OpR X (compareOp .In) (rIn X.K false) := by
  intro pins s σ H x y v u Q I rx ry h
  obtain ⟨p, xs, rfl, hq, fx, fs, q⟩ := h
  cases ry
  rcases hq with hq | hq
  · obtain ⟨its, r, pl, hz⟩ := I.list hq
    refine SeqAt.in_listAt (eqU x) pl.isList (fun w hw => mem_eqAt rx fx r fs w (by simpa using hw)) ⟨.bl _, H, I, rfl, ?_⟩
    rw [show its.toArray.any (eqU x) = its.any (eqU x) by simp, any_eqU r fs]
    exact q
  · obtain ⟨its, r, pl, hz⟩ := I.tuple hq
    refine SeqAt.in_tupleAt (eqU x) pl (fun w hw => mem_eqAt rx fx r fs w (by simpa using hw)) ⟨.bl _, H, I, rfl, ?_⟩
    rw [show its.toArray.any (eqU x) = its.any (eqU x) by simp, any_eqU r fs]
    exact q
theorem op_notIn_seq : OpR X (compareOp .NotIn) (rIn X.K true) := by
  intro pins s σ H x y v u Q I rx ry h
  obtain ⟨p, xs, rfl, hq, fx, fs, q⟩ := h
  cases ry
  rcases hq with hq | hq
  · obtain ⟨its, r, pl, hz⟩ := I.list hq
    refine SeqAt.notIn_listAt (eqU x) pl.isList (fun w hw => mem_eqAt rx fx r fs w (by simpa using hw)) ⟨.bl _, H, I, rfl, ?_⟩
    rw [show its.toArray.any (eqU x) = its.any (eqU x) by simp, any_eqU r fs]
    exact q
  · obtain ⟨its, r, pl, hz⟩ := I.tuple hq
    refine SeqAt.notIn_tupleAt (eqU x) pl (fun w hw => mem_eqAt rx fx r fs w (by simpa using hw)) ⟨.bl _, H, I, rfl, ?_⟩
    rw [show its.toArray.any (eqU x) = its.any (eqU x) by simp, any_eqU r fs]
    exact q
theorem op_notIn_str : OpR X (compareOp .NotIn) (fun x y H Q => ∃ i j, x = .str i ∧ y = .str j ∧ Q (.bl (!(!(Builtin.Str.occurrences j i 0 j.length 1).isEmpty))) H) := by
  intro pins s σ H x y v u Q I rx ry h
  obtain ⟨i, j, rfl, rfl, q⟩ := h
  obtain ⟨t, rfl⟩ := rx
  obtain ⟨t', rfl⟩ := ry
  exact notIn_str ⟨.bl _, H, I, rfl, q⟩

theorem call_len_seq : CallR X (.builtin "len") (fun xs H Q => ∃ p ys, xs = [.ref p] ∧ (SqL X.K H p ys ∨ SqT X.K H p ys) ∧ Q (.int ys.length) H) := by
  intro pins s σ H xs us Q I r h
  obtain ⟨p, ys, rfl, hq, q⟩ := h
  obtain ⟨u, rfl, rx⟩ := vals1 r
  cases rx
  have hn := line63
  rcases hq with hq | hq
  · obtain ⟨its, r', pl, hz⟩ := I.list hq
    have hlen := r'.length
    exact Calls.call_len_list pl.isList (by simp only [List.size_toArray] <;> omega) ⟨.int ys.length, H, I.tok _, ⟨s.toks + 1, by rw [List.size_toArray, hlen]⟩, q⟩
  · obtain ⟨its, r', pl, hz⟩ := I.tuple hq
    have hlen := r'.length
    exact len_tuple pl (by simp only [List.size_toArray] <;> omega) ⟨.int ys.length, H, I.tok _, ⟨s.toks + 1, by rw [List.size_toArray, hlen]⟩, q⟩
theorem call_len_str : CallR X (.builtin "len") (fun xs H Q => ∃ z, xs = [.str z] ∧ z.length ≤ sizeLine ∧ Q (.int z.length) H) := by
  intro pins s σ H xs us Q I r h
  obtain ⟨z, rfl, hz, q⟩ := h
  obtain ⟨u, rfl, t, rfl⟩ := vals1 r
  have hn := line63
  exact len_str (by omega) ⟨.int z.length, H, I.tok _, ⟨_, rfl⟩, q⟩
theorem CallR.or {f : Value} {r r' : List V → Hp → VK → Prop} (h : CallR X f r) (h' : CallR X f r') : CallR X f (fun xs H Q => r xs H Q ∨ r' xs H Q) := by
  intro pins s σ H xs us Q I rs q
  rcases q with q | q
  · exact h pins s σ H xs us Q I rs q
  · exact h' pins s σ H xs us Q I rs q
/-- the value is of that builtin type -/
noncomputable def tyV (K : PySem.W.Frag) (T : String) (x : V) (H : Hp) : Prop := match x with
  | .str _ => T = "str"
  | .int _ => T = "int"
  | .ref p => (T = "list" ∧ ∃ xs, SqL K H p xs) ∨ (T = "tuple" ∧ ∃ o, K.lookup p = some o ∧ o.cls = .type "tuple" ∧ o.dict = none) ∨
      (T = "dict" ∧ ((∃ kvs, H p = some (.dK kvs)) ∨ ∃ kvs, H p = some (.dT kvs))) ∨ (T = "set" ∧ ∃ S n, H p = some (.set S n))
  | _ => False
theorem tyV_is {pins : List (Addr × Obj)} {σ : St} {H : Hp} {s : Shared} {T : String} {x : V} {v : Value} (I : Inv X pins σ H s) (r : RelV x v) (ty : tyV X.K T x H) :
    s.TypeIs v T ∧ ∀ a, v = .ref a → ∃ ob, s.heap.get? a = some ob ∧ ob.dict = none := by
  cases x with
  | str z =>
    obtain ⟨t, rfl⟩ := r
    cases (show T = "str" from ty)
    exact ⟨typeIs_str s z t, fun _ e => nomatch e⟩
  | int i =>
    obtain ⟨t, rfl⟩ := r
    cases (show T = "int" from ty)
    exact ⟨typeIs_int s i t, fun _ e => nomatch e⟩
  | ref p =>
    cases r
    rcases ty with ⟨rfl, xs, hq⟩ | ⟨rfl, o, hk, hc, hd⟩ | ⟨rfl, hk⟩ | ⟨rfl, S, n, hk⟩
    · obtain ⟨its, _, pl, _⟩ := I.list hq
      refine ⟨pl.isList.typeIs, fun a e => ?_⟩
      cases e
      obtain ⟨o, n, e, c, hd, _⟩ := pl
      exact ⟨o, e, hd⟩
    · refine ⟨⟨o, I.kIn p o hk, hc⟩, fun a e => ?_⟩
      cases e
      exact ⟨o, I.kIn _ o hk, hd⟩
    · have z : ∃ o, s.heap.get? p = some o ∧ o.ExactDict := by
        rcases hk with ⟨kvs, hk⟩ | ⟨kvs, hk⟩
        · obtain ⟨_, _, _, _, o, _, _, e, ex, _⟩ := I.hok p _ hk
          exact ⟨o, e, ex⟩
        · obtain ⟨_, _, _, _, o, _, _, e, ex, _⟩ := I.hok p _ hk
          exact ⟨o, e, ex⟩
      obtain ⟨o, e, ex⟩ := z
      refine ⟨⟨o, e, ex.1⟩, fun a e2 => ?_⟩
      cases e2
      exact ⟨o, e, ex.2.1⟩
    · obtain ⟨o, _, _, _, e, ex, _⟩ := I.hok p _ hk
      refine ⟨⟨o, e, ex.1⟩, fun a e2 => ?_⟩
      cases e2
      exact ⟨o, e, ex.2.1⟩
  | _ => exact False.elim ty
noncomputable def tBM0 (K : PySem.W.Frag) (T : String) (r : V → List V → Hp → VK → Prop) (to : TE) : TE := fun σ H Q => to σ H fun x H1 => tyV K T x H1 ∧ r x [] H1 Q
noncomputable def tBM (K : PySem.W.Frag) (T : String) (r : V → List V → Hp → VK → Prop) (to : TE) (t : TA) : TE := fun σ H Q => to σ H fun x H1 => tyV K T x H1 ∧ t σ H1 fun xs H2 => r x xs H2 Q
variable {o e : Expr} {es : List Expr} {to : TE} {t : TA} {name : Str} {apos cpos : Pos} {T id : String} {r : V → List V → Hp → VK → Prop}
theorem pe_bm0 (pa : PlainAttrs T) (slot : Slot T name id) (hty : typeOf (.builtin id) = pure (.type "method_descriptor")) (hm : MtR X id r) (ho : PE X o to)
    (hbase : attributeBase o name X.env (eval o X.env) = eval o X.env := by rfl) (hline : (apos.endLine == cpos.line) = true := by rfl) : PE X (.Call (.Attribute o name apos) [] [] cpos) (tBM0 X.K T r to) := by
  intro pins s σ H Q I h
  refine wpAny_Call_method0_late hbase hline (thn (ho pins s σ H _ I h) fun v s1 ⟨x, H1, I1, r1, ty, q1⟩ => ?_)
  obtain ⟨h1, h2⟩ := tyV_is I1 r1 ty
  exact ⟨T, id, pa, slot, hty, h1, h2, Calls.callWith_builtin rfl (PySem.evalArgs_none (hm pins s1 σ H1 x [] v [] Q I1 r1 .nil q1))⟩
theorem pe_bm (pa : PlainAttrs T) (slot : Slot T name id) (hty : typeOf (.builtin id) = pure (.type "method_descriptor")) (hm : MtR X id r) (ho : PE X o to) (ha : PA X (e :: es) t)
    (hbase : attributeBase o name X.env (eval o X.env) = eval o X.env := by rfl)
    (hfew : ((backTo cpos (starEach (e :: es) X.env)).all (fun x => !x.1) && (backToKw cpos (keywordEach [] X.env)).all (fun x => x.1.isSome)
      && decide ((e :: es).length + ([] : List Keyword).length + (if ([] : List Keyword).isEmpty then 0 else 1) < 30)) = true := by rfl)
    (hline : (apos.endLine == cpos.line) = true := by rfl) (hs : starEach (e :: es) X.env = (false, eval e X.env) :: starEach es X.env := by rfl) (hplain : (backTo cpos (starEach es X.env)).any (·.1) = false := by rfl) :
    PE X (.Call (.Attribute o name apos) (e :: es) [] cpos) (tBM X.K T r to t) := by
  intro pins s σ H Q I h
  refine wpAny_Call_method_late hbase hfew hline rfl (thn (ho pins s σ H _ I h) fun v s1 ⟨x, H1, I1, r1, ty, q1⟩ => ?_)
  obtain ⟨h1, h2⟩ := tyV_is I1 r1 ty
  refine ⟨T, id, pa, slot, hty, h1, h2, ?_⟩
  have hA := ha cpos pins s1 σ H1 _ I1 q1
  rw [hs] at hA ⊢
  refine Calls.callWith_builtin (by show (false || (backTo cpos (starEach es X.env)).any (·.1)) = false; rw [hplain] <;> rfl) (Calls.evalArgs_plain ?_)
  exact thn hA fun us s2 ⟨vs, H2, I2, r2, q2⟩ => hm pins s2 σ H2 x vs v us Q I2 r1 r2 q2
/- xs.append(e), list.index on a module's tuple .. are MtR facts of 06m -/
end
end L2

namespace L2
open PySem PySem.Spec PyProof.Rows

noncomputable def MtM (X : Cx) (id : String) (r : V → List V → Hp → VK → Prop) : Prop :=
  ∀ (pins : List (Addr × Obj)) (s : Shared) (σ : St) (H : Hp) (x : V) (xs : List V) (v : Value) (us : List Value) (Q : VK), Inv X pins σ H s → RelV x v → Vals xs us → r x xs H Q →
    wpAny (model X.prog X.w) X.A (call (.builtin id) (v :: us)) (EP X pins σ Q) X.xe s

theorem Vals.one : ∀ {x : V} {us : List Value}, Vals [x] us → ∃ u, us = [u] ∧ RelV x u
  | _, _, .cons r .nil => ⟨_, rfl, r⟩
theorem Vals.two : ∀ {x y : V} {us : List Value}, Vals [x, y] us → ∃ u v, us = [u, v] ∧ RelV x u ∧ RelV y v
  | _, _, _, .cons r (.cons q .nil) => ⟨_, _, rfl, r, q⟩
theorem Vals.zero : ∀ {us : List Value}, Vals [] us → us = []
  | _, .nil => rfl
theorem Vals.dropLast {xs : List V} {us : List Value} (h : Vals xs us) : Vals xs.dropLast us.dropLast := by
  induction h with
  | nil => exact .nil
  | cons r t ih =>
    cases t with
    | nil => exact .nil
    | cons q t' => exact .cons r ih
theorem Vals.eraseIdx : ∀ {xs : List V} {us : List Value} (i : Nat), Vals xs us → Vals (xs.eraseIdx i) (us.eraseIdx i)
  | _, _, _, .nil => .nil
  | _, _, 0, .cons _ t => t
  | _, _, i + 1, .cons r t => .cons r (Vals.eraseIdx i t)
theorem Vals.rep {xs : List V} {us : List Value} (h : Vals xs us) : ∀ k : Nat, Vals (List.replicate k xs).flatten (List.replicate k us).flatten
  | 0 => .nil
  | k + 1 => by
    rw [List.replicate_succ, List.replicate_succ, List.flatten_cons, List.flatten_cons]
    exact Vals.append h (Vals.rep h k)
theorem erase_last {α : Type} (l : List α) : l.eraseIdx (l.length - 1) = l.dropLast := by
  induction l with
  | nil => rfl
  | cons a r ih =>
    cases r with
    | nil => rfl
    | cons b r =>
      have e : (a :: b :: r).length - 1 = ((b :: r).length - 1) + 1 := by
        have h1 : (a :: b :: r).length = r.length + 2 := rfl
        have h2 : (b :: r).length = r.length + 1 := rfl
        omega
      rw [e, List.eraseIdx_cons_succ, ih]
      all_goals rfl
theorem foldl_rep (its : List Value) : ∀ (k : Nat) (acc : List Value),
    List.foldl (fun x1 x2 => x1 ++ x2) acc.toArray (List.replicate k its.toArray) = (acc ++ (List.replicate k its).flatten).toArray
  | 0, acc => by simp
  | k + 1, acc => by
    have e : acc.toArray ++ its.toArray = (acc ++ its).toArray := by simp
    have e2 : (acc ++ its) ++ (List.replicate k its).flatten = acc ++ (List.replicate (k + 1) its).flatten := by
      rw [List.replicate_succ, List.flatten_cons, List.append_assoc]
    rw [← e2, ← foldl_rep its k (acc ++ its), ← e, List.replicate_succ, List.foldl_cons]

section
variable {X : Cx} {pins : List (Addr × Obj)} {σ : St} {H : Hp} {s : Shared} {l b : Addr} {xs ys zs : List V}

theorem Inv.lset {its its' : List Value} {n : Nat} {f : Array Value → Array Value} {t' : Nat} (I : Inv X pins σ H s) (hH : H l = some (.lst xs))
    (e : s.heap.get? l = some { cls := .type "list", data := .seq its.toArray n }) (hf : f its.toArray = its'.toArray) (hv : Vals ys its') (hz : ys.length ≤ sizeLine) :
    Inv X pins σ (upd H l (.lst ys)) { s with heap := s.heap.update l (Obj.mapSeq f), toks := t' } := by
  have q := PySem.IsL.update e f
  rw [hf] at q
  refine I.write (x := l) (e := l) (by rw [hH]; exact trivial) (.inl rfl) (fun b' u hb hu => (Heap.get?_update_other s.heap (Obj.mapSeq f) (Ne.symm hb)).trans hu) ⟨_, q⟩ ?_
  exact ⟨hz, its', _, hv, q⟩
theorem Inv.lnew {its : List Value} {t' : Nat} (I : Inv X pins σ H s) (hv : Vals ys its) (hz : ys.length ≤ sizeLine) :
    Inv X pins σ (upd H s.heap.objs.size (.lst ys)) { s with heap := s.heap.push { cls := .type "list", data := .seq its.toArray }, toks := t' } :=
  I.laid (fun _ _ q => Heap.get?_push_of_some _ q) (Nat.le_refl _) ⟨hz, its, 0, hv, Heap.get?_push_size _ rfl⟩
theorem Inv.fresh (I : Inv X pins σ H s) : H s.heap.objs.size = none := I.hok.fresh (Nat.le_refl _)
theorem Inv.lstM (I : Inv X pins σ H s) (hH : H l = some (.lst xs)) : xs.length ≤ sizeLine ∧ ∃ (its : List Value) (n : Nat), Vals xs its ∧ xs.length = its.length ∧ s.heap.get? l = some { cls := .type "list", data := .seq its.toArray n } := by
  obtain ⟨z, its, n, r, e⟩ := I.hok l _ hH
  exact ⟨z, its, n, r, r.length, e⟩

theorem notLongL {n : Nat} (h : n ≤ sizeLine) : Builtin.List.listTooLong n = false := by
  unfold Builtin.List.listTooLong
  exact decide_eq_false (by omega)
end

section
variable {X : Cx}

noncomputable def rAppend : V → List V → Hp → VK → Prop := fun x vs H Q => ∃ l xs y, x = .ref l ∧ vs = [y] ∧ H l = some (.lst xs) ∧ xs.length < sizeLine ∧ Q .non (upd H l (.lst (xs ++ [y])))
theorem mt_append : MtM X "list.append" rAppend := by
  intro pins s σ H x vs v us Q I rx rv h
  obtain ⟨l, xs, y, rfl, rfl, hH, hz, q⟩ := h
  cases rx
  obtain ⟨u, rfl, ru⟩ := rv.one
  obtain ⟨z, its, n, r, hl, e⟩ := I.lstM hH
  refine call_meets F.slot_list_append ⟨_, e, rfl⟩ F.entry_list_append (F.args_list_append_2 _ _) (PySem.list_append l its.toArray n u (by rw [List.size_toArray]; omega)) ⟨e, ?_⟩
  refine ⟨.non, _, I.lset (its' := its ++ [u]) hH e (by simp) (r.append (.cons ru .nil)) ?_, rfl, q⟩
  rw [List.length_append, List.length_singleton]
  omega

noncomputable def rPop : V → List V → Hp → VK → Prop := fun x vs H Q => ∃ l xs y, x = .ref l ∧ vs = [] ∧ H l = some (.lst xs) ∧ xs[xs.length - 1]? = some y ∧ Q y (upd H l (.lst xs.dropLast))
theorem mt_pop : MtM X "list.pop" rPop := by
  intro pins s σ H x vs v us Q I rx rv h
  obtain ⟨l, xs, y, rfl, rfl, hH, hy, q⟩ := h
  cases rx
  have hus := rv.zero
  subst hus
  obtain ⟨z, its, n, r, hl, e⟩ := I.lstM hH
  obtain ⟨u, hu, ru⟩ := r.get hy
  have hy' : its.toArray[its.toArray.size - 1]? = some u := by
    show its.toArray[its.length - 1]? = some u
    rw [← Array.getElem?_toList, ← hl]
    exact hu
  refine call_meets F.slot_list_pop ⟨_, e, rfl⟩ F.entry_list_pop (F.args_list_pop_1 _) (MeetsSeq.list_pop_last l its.toArray n u hy' (by rw [List.size_toArray]; omega)) ⟨e, ?_⟩
  refine ⟨y, _, I.lset (its' := its.dropLast) hH e ?_ r.dropLast ?_, ru, q⟩
  · show its.toArray.eraseIdxIfInBounds (its.toArray.size - 1) = its.dropLast.toArray
    rw [List.size_toArray, List.eraseIdxIfInBounds_toArray, erase_last]
  · rw [List.length_dropLast]
    omega

noncomputable def rCat : R2 := fun x y H Q => ∃ l b xs zs, x = .ref l ∧ y = .ref b ∧ H l = some (.lst xs) ∧ H b = some (.lst zs) ∧ xs.length + zs.length ≤ sizeLine ∧ ∀ p, H p = none → Q (.ref p) (upd H p (.lst (xs ++ zs)))
theorem op_cat : OpR X (binaryOp .Add) rCat := by
  intro pins s σ H x y v u Q I rx ry h
  obtain ⟨l, b, xs, zs, rfl, rfl, hH, hB, hz, q⟩ := h
  cases rx
  cases ry
  obtain ⟨z, its, n, r, hl, e⟩ := I.lstM hH
  obtain ⟨z2, its2, n2, r2, hl2, e2⟩ := I.lstM hB
  refine PySem.P.add_list e e2 ?_ (by rw [List.size_toArray, List.size_toArray]; omega)
  have ea : its.toArray ++ its2.toArray = (its ++ its2).toArray := by simp
  rw [ea]
  exact ⟨.ref _, _, I.lnew (t' := s.toks) (r.append r2) (by rw [List.length_append]; omega), rfl, q _ I.fresh⟩
/-- a list times an int (a negative one is nothing) -/
noncomputable def rRep : R2 := fun x y H Q => ∃ l k xs, x = .ref l ∧ y = .int k ∧ H l = some (.lst xs) ∧ -(2 ^ 63) ≤ k ∧ k < 2 ^ 63 ∧ xs.length * k.toNat ≤ sizeLine ∧
  ∀ p, H p = none → Q (.ref p) (upd H p (.lst (List.replicate k.toNat xs).flatten))
theorem len_rep {α : Type} (xs : List α) (k : Nat) : (List.replicate k xs).flatten.length = k * xs.length := by
  induction k with
  | zero => simp
  | succ k ih => rw [List.replicate_succ, List.flatten_cons, List.length_append, ih, Nat.succ_mul, Nat.add_comm]
theorem op_rep : OpR X (binaryOp .Mult) rRep := by
  intro pins s σ H x y v u Q I rx ry h
  obtain ⟨l, k, xs, rfl, rfl, hH, h1, h2, hz, q⟩ := h
  cases rx
  obtain ⟨t, rfl⟩ := ry
  obtain ⟨z, its, n, r, hl, e⟩ := I.lstM hH
  have hlen : its.toArray.size * k.toNat ≤ sizeLine := by rw [List.size_toArray, ← hl]; exact hz
  have hcap : ¬ its.toArray.size * k.toNat > (2 ^ 63 - 1) / 8 := by
    have : (sizeLine : Nat) ≤ (2 ^ 63 - 1) / 8 := by decide
    omega
  have hfit : ¬ (!Builtin.List.listFitsIndex k) = true := by
    rw [fitsIndex_both h1 h2]
    exact Bool.false_ne_true
  have hlong : ¬ Builtin.List.listTooLong (its.toArray.size * k.toNat) = true := by
    rw [notLongL hlen]
    exact Bool.false_ne_true
  have hnew : List.foldl (fun x1 x2 => x1 ++ x2) #[] (List.replicate (if its.toArray.isEmpty = true then 0 else k.toNat) its.toArray) = (List.replicate k.toNat its).flatten.toArray := by
    have f0 : ∀ m : Nat, List.foldl (fun x1 x2 => x1 ++ x2) #[] (List.replicate m its.toArray) = (List.replicate m its).flatten.toArray := fun m => by
      have := foldl_rep its m []
      rw [List.nil_append] at this
      exact this
    rw [f0]
    cases its with
    | nil => simp
    | cons a r' => rw [if_neg (by simp)]
  refine wpAny_binaryOp_repeat_ref (T := "list") (U := "int") (by decide) ⟨_, e, rfl⟩ (fun s' => typeIs_int s' k t) noFill_list_mul F.fills_int_mul F.slot_int_rmul repeat_list F.slot_int_index.lookup
    (call_meets F.slot_int_rmul (typeIs_int s k t) F.entry_int_rmul (F.args_int_rmul_2 _ _) (int___rmul___int_list k t l its.toArray n)
      ⟨e, rfl, ⟨_, e, rfl⟩, call_meets F.slot_list_mul ⟨_, e, rfl⟩ F.entry_list_mul (F.args_list_mul_2 _ _) (AutoListH.list___mul___list_int_3 l its.toArray n k t hfit hcap hlong) ⟨e, ?_⟩⟩)
  rw [hnew]
  exact ⟨.ref _, _, I.lnew (t' := s.toks) (r.rep k.toNat) (by rw [len_rep, Nat.mul_comm]; exact hz), rfl, q _ I.fresh⟩

end

section
variable {prog : Program} {w : World} {A : Around} {E : Value → Shared → Prop} {s : Shared}
end

section
variable {X : Cx}
end
end L2

namespace Att
open PySem PySem.W PySem.Calls PyProof.Rows

theorem ints_of_wellAll {P : Params} {h : Heap} : ∀ (ns : List Int) (vs : List Value), WellAll P h vs (ns.map WData.int) → IntsAre vs ns := by
  intro ns
  induction ns with
  | nil =>
    intro vs w
    rw [List.map_nil] at w
    cases w
    exact .nil
  | cons n ns ih =>
    intro vs w
    rw [List.map_cons] at w
    cases w with
    | cons a b =>
      cases a
      exact .cons _ _ (ih _ b)

theorem script_of {l : OpenLaw} {n : Nat} (hn : l.most = some n) {P : Params} {h : Heap} {args : List WData} {vals : List Value}
    (hpre : l.row.toRowW.claim.pre args = true) (hwl : WellAll P h vals args) :
    ∃ a vs ns, vals = [Value.ref a] ∧ args = [WData.list (ns.map WData.int)] ∧ h.get? a = some { cls := .type "list", data := .seq vs.toArray } ∧ IntsAre vs ns ∧ ns.length ≤ n := by
  have hsh : WShape.hasAll [] args [.list .int] = true := (pre_splitW hpre).1
  have hc : l.pre.holds [] { args := args } = true := (pre_splitW hpre).2
  obtain ⟨d, r, rfl, h1, h2⟩ := hasAllW_cons hsh
  obtain rfl := hasAllW_nil h2
  obtain ⟨xs, rfl, h3⟩ := hasW_list h1
  obtain ⟨ns, rfl⟩ := items_int h3
  have hlen : ns.length ≤ n := by
    unfold OpenLaw.pre at hc
    have h4 : (WTm.not (.lt (.lit (.int (n : Int))) (.len (.arg 0)))).holds [] { args := [.list (ns.map .int)] } = true := by
      have h4 := (holds_andW hc).1
      rw [hn] at h4
      exact h4
    have h5 := condW_of h4 (w_not (w_lt w_lit (w_len_list (w_arg rfl))))
    rw [List.length_map] at h5
    refine Nat.le_of_not_lt fun q => ?_
    have q' : (n : Int) < ((ns.length : Nat) : Int) := by omega
    first
      | (rw [decide_eq_true q'] at h5; exact absurd h5 (by decide))
      | (simp at h5; omega)
  cases hwl with
  | cons w1 w2 =>
    cases w2
    cases w1 with
    | list ho hall => exact ⟨_, _, ns, rfl, rfl, ho, ints_of_wellAll ns _ hall, hlen⟩

theorem post_true (l : OpenLaw) (args : List WData) : l.row.toRowW.claim.post args (.bool true) args = true :=
  postW_of (r := l.row.toRowW) (X := (true == true))
    (show WShape.has [] (.bool true) .bool = true by first | rfl | decide | simp [WShape.has, WShape.arms, WShape.armsAll])
    (show (WTm.eq .res (.lit (.bool true))).value [] { args := args, res := some (.bool true), after := args } = some (.bool (true == true)) from w_eq_bool (w_res rfl) w_lit) rfl

/-- the same from a codeAny of the CALL (for a layer whose function contracts speak of calls) -/
theorem attach_call {l : OpenLaw} {n : Nat} {q : Program} {loose : List Str} {XP : (Str → Option Value) → Heap → Prop} {YP : World → Heap → Prop} {d : DefRec}
    (hn : l.most = some n) (hdf : d.params.defaults = [])
    (call : ∀ (w : World) (s₀ s₁ : Shared) (mg mb : Str → Option Value) (fa : Addr) (o : Obj) (pm cd doc : Value) (a : Addr) (vs : List Value) (ns : List Int),
      Ground q loose [] XP w s₀ mg mb s₁.heap → YP w s₁.heap →
      s₁.heap.get? fa = some o → o.data = .func (docDef d.name d.params d.body d.scope pm cd doc) → s₁.heap.CodeRec cd d.name → mg d.name = some (.ref fa) →
      s₁.heap.get? a = some { cls := .type "list", data := .seq vs.toArray } → IntsAre vs ns → ns.length ≤ n → s₁.gens = #[] →
      codeAny (model l.prog w) callerA (.call (.ref fa) ⟨[.ref a], []⟩) (fun r s' => r = .ok (.ret (.bool true)) ∧ OldK s₁.heap s'.heap ∧ s'.os = s₁.os ∧ AllBare s'.gens) s₁) :
    WalkO q loose XP YP l.row.toRowW d [] (fun f vs => PySem.call f vs) := by
  intro w s₀ s₁ mg mb G Y fa o pm cd doc dV kV ho hd hcd hD hmg hg args vals as hpre hlay hrd hwl hlo
  obtain rfl : dV = .none := Dflts.none hD hdf
  obtain rfl : kV = .none := Dflts.noKw hD
  obtain ⟨a, vs, ns, rfl, rfl, hobj, hints, hlen⟩ := script_of hn hpre hwl
  refine enter_call (codeAny_mono (call w s₀ s₁ mg mb fa o pm cd doc a vs ns G Y ho (fd_plain hd) hcd hmg hobj hints hlen hg) fun r s' hq => ?_)
  obtain ⟨rfl, h2, h3, h4⟩ := hq
  exact ⟨.inl ⟨.bool true, .bool true, [], rfl, fun _ => rfl, .bool true, post_true l _, fun _ => ⟨List.Pairwise.nil, fun _ hm => (nomatch hm)⟩⟩, h2, h3, h4⟩

section
variable {prog : Program} {w : World} {A : Around} {E : Value → Shared → Prop} {s : Shared} {K : Frag}

end
end Att

namespace L2
open PySem PySem.Spec PyProof.Rows

theorem vals_ints : ∀ {vs : List Value} {ns : List Int}, IntsAre vs ns → Vals (ns.map V.int) vs
  | _, _, .nil => .nil
  | _, _, .cons n t h => .cons ⟨t, rfl⟩ (vals_ints h)

/-- nothing is tracked but the script, known to the object (or it is an object of the module) -/
noncomputable def Only (H : Hp) : Prop := ∀ b, H b = none ∨ ∃ o xs, H b = some (.frz o (.lst xs))

/-- THE HEAD: the law's promise, at the heap behind the top. F, the promise of the law's def, may use that base is part of the heap (so K.In base, base.Ns mainGlobals mg stand in Mod) -/
theorem law_call {P : Program} {w : World} {K : PySem.W.Frag} {mg mb : Str → Option Value} {CX : CXT} {k : Nat} {fa a : Addr} {fd : FuncData} {x : Str} {sp : Sp} {s₁ : Shared} {vs : List Value} {ns : List Int}
    (KX : K.In s₁.heap) (hns : s₁.heap.Ns mainGlobals mg) (hb : s₁.heap.Ns builtinsNs mb) (hbb : ∀ x : Str, x ≠ "__name__" → mb x = bootBuiltins x) (hlim : s₁.heap.NoLimit) (hg : s₁.gens = #[])
    (ha : s₁.heap.get? a = some { cls := .type "list", data := .seq vs.toArray }) (hi : IntsAre vs ns) (hl : ns.length ≤ sizeLine) (hr : Room k callerA)
    (F : ∀ base : Heap, K.In base → base.Ns mainGlobals mg → FnOk P w K mg base CX k fa fd [x] sp) (hbind : ∀ (s : Shared) (u : Value), BindsTo s fd ⟨[u], []⟩ [(x, u)])
    (hsp : ∀ H : Hp, Only H → SqL K H a (ns.map V.int) → sp [.ref a] H (fun v _ => v = .bl true) fun _ _ _ => False)
    (hCX : ∀ H e s', CX [] H s₁ (fun _ _ _ => False) e s' → False) :
    codeAny (model P w) callerA (.call (.ref fa) ⟨[.ref a], []⟩) (fun r s' => r = .ok (.ret (.bool true)) ∧ OldK s₁.heap s'.heap ∧ s'.os = s₁.os ∧ AllBare s'.gens) s₁ := by
  have rv := vals_ints hi
  have lenV := hi.length
  -- from an abstract heap in which nothing but the script may be tracked
  have core : ∀ H : Hp, Only H → SqL K H a (ns.map V.int) → HOk P w H s₁.heap → (∀ b, H b ≠ none → b = a) → (H a ≠ none → K.lookup a = none) →
      codeAny (model P w) callerA (.call (.ref fa) ⟨[.ref a], []⟩) (fun r s' => r = .ok (.ret (.bool true)) ∧ OldK s₁.heap s'.heap ∧ s'.os = s₁.os ∧ AllBare s'.gens) s₁ := by
    intro H hO hS hok hA hK
    have base_of : ∀ {b : Addr} {o : Obj}, s₁.heap.get? b = some o → H b = none → (hidT s₁.heap H).get? b = some o := fun e n => hidT_get e n
    have noA : ∀ {b : Addr} {o : Obj} {es : Array DictEntry} {ep : Nat}, s₁.heap.get? b = some o → o.data = .dict es ep → H b = none := fun {b o es ep} e d => by
      cases q : H b with
      | none => rfl
      | some u =>
        have e' : b = a := hA b (by rw [q]; simp)
        subst e'
        rw [ha] at e; cases e
        have d' : Data.seq vs.toArray _ = Data.dict es ep := d
        cases d'
    have nsK : ∀ {b : Addr} {m : Str → Option Value}, s₁.heap.Ns b m → (hidT s₁.heap H).Ns b m := fun {b m} ⟨o, es, ep, e, d, r⟩ => ⟨o, es, ep, base_of e (noA e d), d, r⟩
    have hKb : K.In (hidT s₁.heap H) := fun b o e => base_of (KX b o e) (by
      cases q : H b with
      | none => rfl
      | some u =>
        have e' : b = a := hA b (by rw [q]; simp)
        subst e'
        rw [hK (by rw [q]; simp)] at e; cases e)
    have hM : Mod K mg (hidT s₁.heap H) := ⟨hKb, nsK hns, ⟨mb, nsK hb, hbb⟩, let ⟨mc, h1, h2⟩ := hlim; ⟨mc, nsK h1, h2⟩⟩
    have e0 : Env0 P w K mg (hidT s₁.heap H) callerA [] s₁ H := ⟨rfl, hM, fun b o e => of_hidT e, Nat.le_of_eq (hidT_size _ _), trivial, fun b hb => absurd (show b ∈ ([] : List Addr) from hb) (by simp), hok, .of_eq hg⟩
    refine codeAny_mono ((F _ hKb (nsK hns)).run callerA [] s₁ H ⟨[.ref a], []⟩ [.ref a] [.ref a] _ _ hr e0 (hbind s₁ (.ref a)) (.cons rfl .nil) (hsp H hO hS)) fun r s' h => ?_
    cases r with
    | error e => exact (hCX H e s' h).elim
    | ok fl =>
      cases fl with
      | next => exact False.elim h
      | brk => exact False.elim h
      | cont => exact False.elim h
      | ret u =>
        obtain ⟨v, H', os, bare, un, hok', r', q⟩ := h
        have q' : v = .bl true := q
        subst q'
        obtain rfl : u = Value.bool true := r'
        refine ⟨rfl, OldK.of_keep fun b o e => ?_, os, bare⟩
        cases q : H b with
        | none => exact un.keep b o e q (by intro z; exact absurd (show b ∈ ([] : List Addr) from z) (by simp)) (by simp)
        | some u =>
          rcases hO b with z | ⟨ob, xs, z⟩
          · rw [q] at z; cases z
          · have z2 := un.frzs b ob _ z
            obtain ⟨e1, _⟩ := hok b _ z
            obtain ⟨e2, _⟩ := hok' b _ z2
            rw [e] at e1; cases e1
            exact e2
  cases hk : K.lookup a with
  | some o =>
    -- the script is one of the module's own objects
    have e := KX a o hk
    rw [ha] at e
    cases e
    refine core (fun _ => none) (fun _ => .inl rfl) (.inr ⟨_, vs.toArray, _, hk, rfl, rfl, rfl, by rw [List.size_toArray, lenV]; exact hl, by simpa using rv⟩) (fun b u z => by have z' : (none : Option HO) = some u := z; cases z') (fun b z => absurd rfl z) fun z => absurd rfl z
  | none =>
    refine core (fun b => if b = a then some (.frz { cls := .type "list", data := .seq vs.toArray } (.lst (ns.map V.int))) else none) (fun b => ?_) (.inl (.inr ⟨{ cls := .type "list", data := .seq vs.toArray }, if_pos rfl⟩)) (fun b u z => ?_) (fun b z => ?_) fun _ => hk
    · by_cases hb : b = a
      · exact .inr ⟨_, _, if_pos hb⟩
      · exact .inl (if_neg hb)
    · by_cases hb : b = a
      · have z' := (if_pos hb).symm.trans z
        cases z'
        subst hb
        exact ⟨ha, by rw [List.length_map]; exact hl, vs, _, rv, ha⟩
      · have z' := (if_neg hb).symm.trans z
        cases z'
    · by_cases hb : b = a
      · exact hb
      · exact absurd (if_neg hb) z
end L2

namespace L2
open PySem PySem.Spec PyProof.Rows

noncomputable abbrev KOf {K : PySem.W.Frag} {h : Heap} (_ : K.In h) : PySem.W.Frag := K

/-- the goal that k_head leaves (case hc), from the law's promise. F gives the function object fd (K's own) once, then the promise over every base -/
theorem walk_of {l : PySem.W.OpenLaw} {n k : Nat} {q : Program} {loose : List Str} {XP : (Str → Option Value) → Heap → Prop} {YP : World → Heap → Prop} {d : DefRec} {K : Params → PySem.W.Frag} {CX : World → CXT} {sp : World → Sp} {x : Str}
    (hn : l.most = some n) (hn2 : n ≤ sizeLine) (hdf : d.params.defaults = []) (hr : Room k callerA)
    (hY : ∀ (w : World) (h : Heap), YP w h → (K w.params).In h)
    (F : ∀ (w : World) (mg : Str → Option Value) (fa : Addr) (h : Heap), (K w.params).In h → h.Ns mainGlobals mg → mg d.name = some (.ref fa) →
      ∃ fd : FuncData, (∀ (s : Shared) (u : Value), BindsTo s fd ⟨[u], []⟩ [(x, u)]) ∧
        ∀ base : Heap, (K w.params).In base → base.Ns mainGlobals mg → FnOk l.prog w (K w.params) mg base (CX w) k fa fd [x] (sp w))
    (hsp : ∀ (w : World) (H : Hp) (a : Addr) (ns : List Int), ns.length ≤ n → Only H → SqL (K w.params) H a (ns.map V.int) → sp w [.ref a] H (fun v _ => v = .bl true) fun _ _ _ => False)
    (hCX : ∀ (w : World) (H : Hp) (s : Shared) (e : Value) (s' : Shared), CX w [] H s (fun _ _ _ => False) e s' → False) :
    PySem.W.WalkO q loose XP YP l.row.toRowW d [] (fun f vs => PySem.call f vs) := by
  refine Att.attach_call hn hdf fun w s₀ s₁ mg mb fa o pm cd doc a vs ns G Y ho hd hcd hmg hobj hints hlen hg => ?_
  have KX := hY w _ Y
  obtain ⟨fd, hb, hF⟩ := F w mg fa _ KX G.T.g hmg
  exact law_call KX G.T.g G.T.b G.T.builtins G.T.nolimit hg hobj hints (Nat.le_trans hlen hn2) hr hF hb (fun H hO hS => hsp w H a ns hlen hO hS) fun H e s' => hCX w H s₁ e s'
end L2

/- THE LAST THEOREM (shape; LID, My.* are yours):
   My.Adr: a structure of the addresses that your layer names (classes, functions); My.Txt K t: a structure (Prop) of the equations over K;
   My.txt_mk : {K} {implicit addresses ..} (e1 : nsIn K mainGlobals "law" = some (some (.ref f))) (e2 : K.lookup f = some ⟨oc, od, .func (fnOf "law" "law" params body scope dV kV doc pm an cdv ct), sl⟩) (e3 : codeIn K cdv "law" = true) .. : ∃ t, My.Txt K t

set_option maxRecDepth 100000 in
set_option maxHeartbeats 0 in
theorem PySem.Challenge.cw_LID_holds : PySem.Challenge.rw_LID.Holds := by
  w_on; o_law; k_head; (case hw => w_witness2)
  k_fill
  refine L2.walk_of (l := PySem.Challenge.rw_LID) (n := 63) (k := 40) (x := "script") (CX := fun w => ..) (sp := fun _ => My.sp_law) rfl (by decide) rfl ⟨rfl, by decide, by decide⟩ (fun w h Y => PySem.W.kIn_of Y) ?F ?S ?C
  case F =>
    intro w mg fa h KX G hmg
    have T : ∃ t, My.Txt (L2.KOf KX) t := by
      dsimp only [L2.KOf]                          -- K must stand as «<heap const> w.params» for k_is
      refine' My.txt_mk ?e1 ?e2 ?e3 ..
      (case e1 => PySem.W.k_is)                    -- in the order: a name -> its address -> its object -> its parts
      (case e2 => PySem.W.k_is)
      ..
    obtain ⟨t, T⟩ := T
    have e0 := hmg.symm.trans (PySem.W.mg_of KX G T.law)
    cases e0                                       -- fa is the law's own address
    exact ⟨_, fun s u => .of_eq rfl, fun base kb nb => My.law_fn T kb nb⟩     -- if «.of_eq rfl» comes too early: refine' ⟨_, ?b, fun base kb nb => My.law_fn T kb nb⟩; exact fun s u => .of_eq rfl
  case S => exact fun w H a ns hl hO hS => ..
  case C => exact ..
(the tactic k_is has no namespace: write k_is) -/

namespace L2
open PySem PySem.Spec PyProof.Rows

noncomputable def defArgs (s : Stmt) : Arguments := match s with
  | .FunctionDef _ a _ _ _ _ _ _ _ _ => a
  | _ => { posonlyargs := [], args := [], vararg := none, kwonlyargs := [], kw_defaults := [], kwarg := none, defaults := [] }
noncomputable def defBody (s : Stmt) : List Stmt := match s with
  | .FunctionDef _ _ b _ _ _ _ _ _ _ => b
  | _ => []
noncomputable def defScope (s : Stmt) : Scope := match s with
  | .FunctionDef _ _ _ _ _ _ sc _ _ _ => sc
  | _ => { kind := .function, names := [], isGenerator := false, isCoroutine := false }

noncomputable abbrev CX0 : CXT := fun _ _ _ _ _ _ => False
noncomputable abbrev E0 : XK := fun _ _ _ => False
theorem pass0 {X : Cx} : Passes CX0 X E0 := fun _ _ _ _ _ _ _ h => h.elim

structure Fun (K : PySem.W.Frag) (x qual : Str) (st : Stmt) (f : Addr) (fd : FuncData) : Prop where
  ex : ∃ (oc : Value) (od : Option Addr) (kV doc pm : Value) (an : Option Addr) (cdv ct : Value) (osl : Array (Option Value)),
    fd = PySem.W.fnOf x qual (defArgs st) (defBody st) (defScope st) .none kV doc pm an cdv ct ∧ K.lookup f = some ⟨oc, od, .func fd, osl⟩ ∧ PySem.W.codeIn K cdv qual = true
  kp : PySem.W.keepIn K (.ref f) = true
section
variable {P : Program} {w : World} {K : PySem.W.Frag} {mg : Str → Option Value} {base : Heap}
/-- THE RULE for a def: its body as a term of rules, and the reading of that term -/
theorem Fun.ok {x qual : Str} {st : Stmt} {f : Addr} {fd : FuncData} {N ps : List Str} {k : Nat} {sp : Sp} (F : Fun K x qual st f fd) (S : FnScope N ps (defScope st)) (len : ∀ vs H Q E, sp vs H Q E → vs.length = ps.length)
    (hbody : ∀ (cdv : Value) (A : Around) (outer : List Env) (s : Shared) (H : Hp) (vs : List V) (Q : VK) (E : XK), Room k (A.deeper (envOfC qual (defScope st) s.heap.objs.size f cdv)) → sp vs H Q E →
      ∃ t, PSs (cxOf CX0 P w K mg base N qual (defScope st) f cdv A outer s H E).nox (defBody st) t ∧ t { nx := fun _ H' => Q .non H', rt := Q } (start N vs) H) : FnOk P w K mg base CX0 (k + 1) f fd ps sp := by
  obtain ⟨oc, od, kV, doc, pm, an, cdv, ct, osl, rfl, lk, hcd⟩ := F.ex
  refine fn_of lk hcd S len fun A outer s H vs Q E hr hsp => ?_
  obtain ⟨t, h, q⟩ := hbody cdv A outer s H vs Q E hr hsp
  exact ⟨t, h.nox, q⟩
/-- how its arguments bind (no defaults): h is «fun _ _ _ _ _ _ us hl => match us, hl with | [_, _], _ => rfl», one _ a parameter -/
theorem Fun.binds {x qual : Str} {st : Stmt} {f : Addr} {fd : FuncData} {ps : List Str} (F : Fun K x qual st f fd)
    (h : ∀ (kV doc pm : Value) (an : Option Addr) (cdv ct : Value) (us : List Value), us.length = ps.length → bindArgs (PySem.W.fnOf x qual (defArgs st) (defBody st) (defScope st) .none kV doc pm an cdv ct) ⟨us, []⟩ = pure (ps.zip us)) : Binds K fd ps [] := by
  obtain ⟨oc, od, kV, doc, pm, an, cdv, ct, osl, rfl, lk, hcd⟩ := F.ex
  exact .all (h kV doc pm an cdv ct)
theorem fun_mk {x qual : Str} {st : Stmt} {f : Addr} {oc : Value} {od an : Option Addr} {osl : Array (Option Value)} {kV doc pm cdv ct : Value} (l : K.lookup f = some ⟨oc, od, .func (PySem.W.fnOf x qual (defArgs st) (defBody st) (defScope st) .none kV doc pm an cdv ct), osl⟩)
    (c : PySem.W.codeIn K cdv qual = true) (k : PySem.W.keepIn K (.ref f) = true) : Fun K x qual st f (PySem.W.fnOf x qual (defArgs st) (defBody st) (defScope st) .none kV doc pm an cdv ct) := ⟨⟨oc, od, kV, doc, pm, an, cdv, ct, osl, rfl, l, c⟩, k⟩
end
section
variable {X : Cx}
end

theorem iteF {A B : Prop} (h : B) : if false = true then A else B := by
  rw [if_neg Bool.false_ne_true]
  exact h
theorem iteT {A B : Prop} (h : A) : if true = true then A else B := by
  rw [if_pos rfl]
  exact h
/-- all that was tracked is as it was -/
noncomputable def Same (H H' : Hp) : Prop := ∀ b o, H b = some o → H' b = some o
theorem Same.refl (H : Hp) : Same H H := fun _ _ h => h
theorem Same.trans {H H1 H2 : Hp} (a : Same H H1) (b : Same H1 H2) : Same H H2 := fun c o h => b c o (a c o h)
theorem Same.free {H H' : Hp} (e : Same H H') {l : Addr} (h : H' l = Option.none) : H l = Option.none := by
  cases q : H l with
  | none => rfl
  | some o =>
    rw [e l o q] at h
    cases h
theorem Same.seq {K : PySem.W.Frag} {H H' : Hp} {a : Addr} {xs : List V} (e : Same H H') (h : SqL K H a xs) : SqL K H' a xs := by
  rcases h with (h | ⟨o, h⟩) | h
  · exact .inl (.inl (e _ _ h))
  · exact .inl (.inr ⟨o, e _ _ h⟩)
  · exact .inr h

end L2

set_option Elab.async false
set_option linter.all false
set_option maxRecDepth 100000
set_option maxHeartbeats 4000000
namespace L3
open PySem PySem.Spec L2
open PyProof.Rows hiding St

theorem forIn_R {α β : Type} {f : α → β → Sem (ForInStep β)} (R : List α → β → Prop) (h : ∀ x l c, R (x :: l) c → ∃ c', f x c = pure (.yield c') ∧ R l c') :
    ∀ (l : List α) (c : β), R l c → ∃ c', forIn l c f = pure c' ∧ R [] c'
  | [], c, r => ⟨c, rfl, r⟩
  | x :: l, c, r => by
    obtain ⟨c1, e, r1⟩ := h x l c r
    obtain ⟨c2, e2, r2⟩ := forIn_R R h l c1 r1
    exact ⟨c2, by rw [List.forIn_cons, e, pure_bind]; exact e2, r2⟩

theorem cellOf_some {env : Env} {x : Str} {c : Addr} (h : env.cells.lookup x = some c) : cellOf env x = pure c := by
  unfold cellOf
  rw [h]

theorem closure_ok {scope : Scope} {env : Env} (h : ∀ y ∈ scope.names, y.2 = .free → ∃ c, env.cells.lookup y.1 = some c) :
    ∃ cl, closureFor scope env = pure cl ∧ (∀ x c, cl.lookup x = some c → env.cells.lookup x = some c) ∧ ∀ y ∈ scope.names, y.2 = .free → ∃ c, cl.lookup y.1 = some c := by
  let f : Str × NameKind → List (Str × Addr) → Sem (ForInStep (List (Str × Addr))) := fun x r => match x with
    | (name, kind) => if (kind == .free) = true then (do let a ← cellOf env name; pure (.yield ((name, a) :: r))) else pure (.yield r)
  have q := forIn_R (f := f) (fun rem cs => (∀ x c, cs.lookup x = some c → env.cells.lookup x = some c) ∧ (∀ y ∈ scope.names, y.2 = .free → (∃ c, cs.lookup y.1 = some c) ∨ y ∈ rem) ∧ ∀ y ∈ rem, y ∈ scope.names) ?_ scope.names []
    ⟨fun x c e => (by cases e), fun y hy _ => .inr hy, fun _ hy => hy⟩
  · obtain ⟨cl, e, p1, p2, _⟩ := q
    refine ⟨cl, ?_, p1, fun y hy hf => (p2 y hy hf).elim (fun z => z) fun z => (by cases z)⟩
    have e1 : closureFor scope env = (forIn scope.names [] f >>= fun r => pure r) := rfl
    rw [e1, e, pure_bind]
  · rintro ⟨n, k⟩ l cs ⟨p1, p2, p3⟩
    have hm := p3 _ (List.mem_cons_self ..)
    by_cases hk : k = .free
    · subst hk
      obtain ⟨c, hc⟩ := h _ hm rfl
      refine ⟨(n, c) :: cs, ?_, fun x c' e => ?_, fun y hy hf => ?_, fun y hy => p3 y (List.mem_cons_of_mem _ hy)⟩
      · show (if ((NameKind.free == NameKind.free) = true) then _ else _) = _
        rw [if_pos (by decide), cellOf_some hc, pure_bind]
      · rw [List.lookup_cons] at e
        cases hx : x == n with
        | true =>
          rw [hx] at e
          have ex : x = n := eq_of_beq hx
          subst ex
          cases e
          exact hc
        | false =>
          rw [hx] at e
          exact p1 x c' e
      · rcases p2 y hy hf with ⟨c', e⟩ | z
        · refine .inl ?_
          rw [List.lookup_cons]
          cases hx : y.1 == n with
          | true => exact ⟨c, rfl⟩
          | false => exact ⟨c', e⟩
        · rcases List.mem_cons.mp z with rfl | z
          · exact .inl ⟨c, by rw [List.lookup_cons]; simp⟩
          · exact .inr z
    · refine ⟨cs, ?_, p1, fun y hy hf => ?_, fun y hy => p3 y (List.mem_cons_of_mem _ hy)⟩
      · show (if ((k == NameKind.free) = true) then _ else _) = _
        rw [if_neg (by simpa using hk)]
      · rcases p2 y hy hf with z | z
        · exact .inl z
        · rcases List.mem_cons.mp z with rfl | z
          · exact absurd hf hk
          · exact .inr z

theorem lookup_relabel_free {env : Env} : ∀ {names : List (Str × NameKind)} {x : Str}, names.lookup x = some .free →
    (names.map fun (n, k) => if (k == NameKind.free && env.scope.kind == .function && env.kindOf n == some .cell) then (n, NameKind.cell) else (n, k)).lookup x = some .cell ∨
    (names.map fun (n, k) => if (k == NameKind.free && env.scope.kind == .function && env.kindOf n == some .cell) then (n, NameKind.cell) else (n, k)).lookup x = some .free
  | [], _, h => by cases h
  | (n, k) :: r, x, h => by
    have ih := @lookup_relabel_free env r x
    rw [List.map_cons]
    cases hx : x == n with
    | true =>
      rw [List.lookup_cons, hx] at h
      cases h
      by_cases hc : (NameKind.free == NameKind.free && env.scope.kind == .function && env.kindOf n == some .cell) = true
      · refine .inl ?_
        show List.lookup x ((if (NameKind.free == NameKind.free && env.scope.kind == .function && env.kindOf n == some .cell) = true then (n, NameKind.cell) else (n, NameKind.free)) :: _) = _
        rw [if_pos hc, List.lookup_cons, hx]
      · refine .inr ?_
        show List.lookup x ((if (NameKind.free == NameKind.free && env.scope.kind == .function && env.kindOf n == some .cell) = true then (n, NameKind.cell) else (n, NameKind.free)) :: _) = _
        rw [if_neg hc, List.lookup_cons, hx]
    | false =>
      rw [List.lookup_cons, hx] at h
      have e : ∀ (b : Bool) (l : List (Str × NameKind)), List.lookup x ((if b = true then (n, NameKind.cell) else (n, k)) :: l) = l.lookup x := fun b l => by
        cases b with
        | true => rw [if_pos rfl, List.lookup_cons, hx]
        | false => rw [if_neg Bool.false_ne_true, List.lookup_cons, hx]
      rcases ih h with q | q
      · exact .inl ((e _ _).trans q)
      · exact .inr ((e _ _).trans q)

/-- what lookups in the relabelled table come from -/
theorem relabel_from {scope : Scope} {env : Env} (hnc : ∀ y ∈ scope.names, y.2 ≠ .cell) {x : Str} {k : NameKind} (h : (relabel scope env).names.lookup x = some k) (hk : k = .cell ∨ k = .free) :
    ∃ y ∈ scope.names, y.1 = x ∧ y.2 = .free := by
  have hm := PySem.mem_of_lookup h
  obtain ⟨⟨n, k0⟩, hy, e⟩ := List.mem_map.mp hm
  refine ⟨(n, k0), hy, ?_⟩
  have e' : (if (k0 == NameKind.free && env.scope.kind == .function && env.kindOf n == some .cell) = true then (n, NameKind.cell) else (n, k0)) = (x, k) := e
  by_cases hc : (k0 == NameKind.free && env.scope.kind == .function && env.kindOf n == some .cell) = true
  · rw [if_pos hc] at e'
    cases e'
    refine ⟨rfl, ?_⟩
    rw [Bool.and_eq_true, Bool.and_eq_true] at hc
    exact eq_of_beq hc.1.1
  · rw [if_neg hc] at e'
    cases e'
    rcases hk with rfl | rfl
    · exact absurd rfl (hnc _ hy)
    · exact ⟨rfl, rfl⟩

noncomputable abbrev cxComp (X : Cx) (N' : List Str) (scope : Scope) (cl : List (Str × Addr)) (C : Addr) (fp : List Addr) (s₀ : Shared) (H₀ : Hp) : Cx :=
  { X with N := N', s₀ := s₀, H₀ := H₀, env := compEnvC scope cl C X.env, outer := X.stack, ex := fp, fn := fun _ => false, pn := [], xe := fun _ _ => False }

structure CompScope (psc scope : Scope) (T F : List Str) : Prop where
  kind : scope.kind = .function
  nocell : ∀ y ∈ scope.names, y.2 ≠ .cell
  loc : ∀ y ∈ scope.names, y.2 = .local → scope.names.lookup y.1 = some .local
  fr : ∀ y ∈ scope.names, y.2 = .free → psc.names.lookup y.1 = some .cell ∨ psc.names.lookup y.1 = some .free
  nd : (T ++ F).Nodup
  ffree : ∀ x ∈ F, scope.names.lookup x = some .free

section
variable {X : Cx} {pins : List (Addr × Obj)} {σ : St} {H H' : Hp} {s s' : Shared} {scope : Scope} {T F : List Str} {cl : List (Str × Addr)} {C : Addr} {fp : List Addr} {js : List Nat}

theorem cells_there (I : Inv X pins σ H s) (S : CompScope X.env.scope scope T F) : ∀ y ∈ scope.names, y.2 = .free → ∃ c, X.env.cells.lookup y.1 = some c := fun y hy hf => I.ok.has y.1 (S.fr y hy hf)

theorem ok_comp (I : Inv X pins σ H s) (S : CompScope X.env.scope scope T F) (p1 : ∀ x c, cl.lookup x = some c → X.env.cells.lookup x = some c)
    (p2 : ∀ y ∈ scope.names, y.2 = .free → ∃ c, cl.lookup y.1 = some c) (hC : s.heap.objs.size ≤ C) (hf : ∀ b ∈ fp, FpOk X pins H b) (hfl : ∀ b ∈ fp, b < s.heap.objs.size) :
    (cxComp X (T ++ F) scope cl C fp s H).Ok where
  mod := I.ok.mod
  kind := S.kind
  glob := I.ok.glob
  blt := I.ok.blt
  above := hC
  inj := fun x y c hx hy => I.ok.inj x y c (p1 x c hx) (p1 y c hy)
  has := fun x hx => by
    have q : ∃ y ∈ scope.names, y.1 = x ∧ y.2 = .free := by
      rcases hx with hx | hx
      · exact relabel_from (env := X.env) S.nocell (show (relabel scope X.env).names.lookup x = some .cell from hx) (.inl rfl)
      · exact relabel_from (env := X.env) S.nocell (show (relabel scope X.env).names.lookup x = some .free from hx) (.inr rfl)
    obtain ⟨y, hy, rfl, hf⟩ := q
    exact p2 y hy hf
  cab := fun x c h => by cases h
  hd := I.ok.hd
  frames := I.ok.frames
  stk := .inl rfl
  exf := fun b hb => ⟨Nat.ne_of_lt (Nat.lt_of_lt_of_le (hfl b hb) hC), fun x c e => (hf b hb).2.2.2.2.1 x c (p1 x c e)⟩
  bs := I.bs
  bsz := Nat.le_trans I.ok.bsz I.sz
  noex := fun b o e hb => by
    rcases (hf b hb).2.2.2.1 with z | z
    · exact I.ok.noex b o e z
    · exact absurd (Nat.lt_of_lt_of_le (Heap.lt_size (I.ok.bs b o e).1) z) (Nat.lt_irrefl _)
  exfs := fun b hb z => by
    rcases List.mem_cons.mp (I.stkSub b z) with q | q
    · exact (hf b hb).2.1 q
    · exact (hf b hb).2.2.1 q
  funs := I.stack
  frf := I.stkFree

/-- the names at the block's entry: the targets unbound, the free names as outside -/
noncomputable def st0 (T : List Str) (js : List Nat) (σ : St) : St := List.replicate T.length none ++ js.map fun j => (σ[j]?).join

theorem paired_get {α β : Type} {R : α → β → Prop} : ∀ {l : List α} {r : List β} {i : Nat} {b : β}, Paired R l r → r[i]? = some b → ∃ a, l[i]? = some a ∧ R a b
  | _, _, _, _, .nil, e => by simp at e
  | _, _, 0, _, .cons h _, e => by simp at e; subst e; exact ⟨_, rfl, h⟩
  | _, _, i + 1, b, .cons _ t, e => by
    obtain ⟨a, q1, q2⟩ := paired_get (i := i) (b := b) t (by simpa using e)
    exact ⟨a, by simpa using q1, q2⟩

theorem inv_comp {h₁ : Heap} {m : Str → Option Value} {t' : Nat} (I : Inv X pins σ H s) (S : CompScope X.env.scope scope T F) (p1 : ∀ x c, cl.lookup x = some c → X.env.cells.lookup x = some c)
    (p2 : ∀ y ∈ scope.names, y.2 = .free → ∃ c, cl.lookup y.1 = some c) (hjs : Paired (fun x j => X.N[j]? = some x) F js) (hC : s.heap.objs.size ≤ C) (hf : ∀ b ∈ fp, FpOk X pins H b) (hfl : ∀ b ∈ fp, b < s.heap.objs.size)
    (hn : h₁.Ns C m) (hk : ∀ b o, s.heap.get? b = some o → h₁.get? b = some o) : Inv (cxComp X (T ++ F) scope cl C fp s H) [] (st0 T js σ) H { s with heap := h₁, toks := t' } := by
  refine ⟨ok_comp I S p1 p2 hC hf hfl, rfl, I.bare, Un.kept hk, ⟨m, hn, fun i x v h1 h2 h3 => ?_⟩, fun x c e => ?_, I.hok.fresh hC, fun x c e => I.freeC x c (p1 x c e), fun p hp => (by cases hp), I.hok.kept hk, ?_⟩
  · have hi : T.length ≤ i := by
      rcases Nat.lt_or_ge i T.length with z | z
      · exfalso
        unfold st0 at h2
        rw [List.getElem?_append_left (by simpa using z), List.getElem?_replicate] at h2
        split at h2 <;> cases h2
      · exact z
    unfold st0 at h2
    rw [List.getElem?_append_right (by simpa using hi), List.getElem?_map, List.length_replicate] at h2
    cases ej : js[i - T.length]? with
    | none => rw [ej] at h2; cases h2
    | some j =>
      rw [ej] at h2
      have hσ : (σ[j]?).join = some v := Option.some.inj h2
      obtain ⟨x', hx', hX⟩ := paired_get hjs ej
      have h1' : (T ++ F)[i]? = some x := h1
      rw [List.getElem?_append_right hi, hx'] at h1'
      cases h1'
      have hσ' : σ[j]? = some (some v) := by
        cases e : σ[j]? with
        | none => rw [e] at hσ; cases hσ
        | some o => rw [e] at hσ; cases hσ; rfl
      have hxF : x ∈ F := List.mem_of_getElem? hx'
      have hfree := S.ffree x hxF
      have hpsc := S.fr _ (PySem.mem_of_lookup hfree) rfl
      obtain ⟨m0, _, look⟩ := I.loc
      obtain ⟨u, ru, lk⟩ := look j x v hX hσ' (.inr hpsc)
      refine ⟨u, ru, ?_⟩
      rcases lk with ⟨k, _⟩ | ⟨_, c, hc, hcell⟩
      · exfalso
        have k' : X.env.scope.names.lookup x = some .local := k
        rcases hpsc with z | z
        · rw [k'] at z; cases z
        · rw [k'] at z; cases z
      · obtain ⟨c', hc'⟩ := p2 _ (PySem.mem_of_lookup hfree) rfl
        have e2 := p1 x c' hc'
        rw [hc] at e2
        cases e2
        refine .inr ⟨?_, c, hc', hcell.keeps hk⟩
        exact lookup_relabel_free (env := X.env) hfree
  · obtain ⟨v, q⟩ := I.cell x c (p1 x c e)
    exact ⟨v, q.keeps hk⟩
  · show (st0 T js σ).length = (T ++ F).length
    unfold st0
    rw [List.length_append, List.length_append, List.length_replicate, List.length_map, (Paired.length hjs)]

/-- behind the block -/
theorem inv_back {N' : List Str} {σ' : St} (I : Inv X pins σ H s) (J : Inv (cxComp X N' scope cl C fp s H) [] σ' H' s') (hf : ∀ b ∈ fp, FpOk X pins H b) : Inv X pins σ H' s' :=
  I.call' (ch := fp) (show s'.os = s.os from J.os) J.base J.hok J.bare fun b hb => ⟨(hf b hb).2.2.2.1, (hf b hb).2.1, (hf b hb).2.2.2.2.1, (hf b hb).2.2.2.2.2⟩
end
end L3

set_option Elab.async false
set_option linter.all false
set_option maxRecDepth 100000
set_option maxHeartbeats 4000000
namespace L3
open PySem PySem.Spec L2
open PyProof.Rows hiding St

section
variable {prog : Program} {w : World} {A : Around} {R : Result → Shared → Prop} {s : Shared}
/-- the turns of a list comprehension with one clause; nothing raises -/
theorem comp_turns {elt target iter : Expr} {ifs : List Expr} {scope : Scope} {pos : Pos} {it acc : Value} {env : Env} (I : Nat → Shared → Prop)
    (turn : ∀ n s, I n s → wpAny (model prog w) A (pyNext it) (fun r s₁ => match r with
      | none => R (.ok .next) s₁
      | some v => wpAny (model prog w) A (letOwnedTupleGo target it v) (fun _ s₂ => wpAny (model prog w) A (assign target env v) (fun _ s₃ =>
          wpAny (model prog w) A (forIn ifs true fun c r => if r = true then do let ok ← isTrue c env (eval c env); pure (ForInStep.yield ok) else pure (ForInStep.yield r)) (fun ok s₄ =>
            if ok = true then wpAny (model prog w) A (eval elt env) (fun x s₅ => wpAny (model prog w) A (call (.builtin "list.append") [acc, x]) (fun _ s₆ => ∃ m, m < n ∧ I m s₆) (fun _ _ => False) s₅) (fun _ _ => False) s₄
            else ∃ m, m < n ∧ I m s₄) (fun _ _ => False) s₃) (fun _ _ => False) s₂) (fun _ _ => False) s₁) (fun _ _ => False) s)
    (n : Nat) (h : I n s) : codeAny (model prog w) A (.compLoop (.ListComp elt [⟨target, iter, ifs, 0⟩] scope pos) 0 it acc env) R s := by
  refine codeAny_loop rfl I (fun n s hI => ?_) n h
  show wpAny _ A ((compTurn (.ListComp elt [⟨target, iter, ifs, 0⟩] scope pos) 0 it acc env).onRaise (fun x => do noteFrame x env; theTreesLotGoes x)) _ _ s
  refine wpAny_noted (wpAny_noRaise ?_)
  rw [compTurn_list]
  refine wpAny_bind (wpAny_standAt (wpAny_bind (thn (turn n s hI) fun r s₁ h₁ => ?_)))
  cases r with
  | none => exact wpAny_pure h₁
  | some v =>
    refine wpAny_bind (thn h₁ fun _ s₂ h₂ => wpAny_bind (thn h₂ fun _ s₃ h₃ => wpAny_bind (thn h₃ fun ok s₄ h₄ => ?_)))
    cases ok with
    | false => exact wpAny_pure ⟨rfl, h₄⟩
    | true => exact wpAny_bind (wpAny_bind (thn h₄ fun x s₅ h₅ => wpAny_bind (thn h₅ fun _ s₆ h₆ => wpAny_pure (wpAny_pure ⟨rfl, h₆⟩))))
end

/-- a clause's tests -/
noncomputable def PIf (X : Cx) (ifs : List Expr) (t : TT) : Prop :=
  ∀ (pins : List (Addr × Obj)) (s : Shared) (σ : St) (H : Hp) (Q : Bool → Hp → Prop), Inv X pins σ H s → t σ H Q →
    wpAny (model X.prog X.w) X.A (forIn ifs true fun c r => if r = true then do let ok ← isTrue c X.env (eval c X.env); pure (ForInStep.yield ok) else pure (ForInStep.yield r)) (TP X pins σ Q) X.xe s
noncomputable def tYes : TT := fun _ H Q => Q true H
theorem pif_nil {X : Cx} : PIf X [] tYes := fun _ _ _ H _ I h => wpAny_tests_nil ⟨H, I, h⟩
theorem pif_one {X : Cx} {c : Expr} {tc : TT} (h : PT X c tc) : PIf X [c] tc := fun pins s σ H Q I q => wpAny_tests_one (h pins s σ H Q I q)

/-- a target that binds names below n alone -/
noncomputable def KeepFrom (n : Nat) (σ σ' : St) : Prop := σ'.length = σ.length ∧ ∀ i, n ≤ i → σ'[i]? = σ[i]?
theorem KeepFrom.refl (n : Nat) (σ : St) : KeepFrom n σ σ := ⟨rfl, fun _ _ => rfl⟩
theorem KeepFrom.trans {n : Nat} {a b c : St} (x : KeepFrom n a b) (y : KeepFrom n b c) : KeepFrom n a c := ⟨y.1.trans x.1, fun i h => (y.2 i h).trans (x.2 i h)⟩
theorem KeepFrom.set {n i : Nat} {σ : St} {v : V} (h : i < n) : KeepFrom n σ (σ.set i (some v)) := ⟨by simp, fun j hj => by rw [List.getElem?_set_ne (by omega)]⟩
noncomputable def GKeep (n : Nat) (g : TG) : Prop := ∀ v σ H Q, g v σ H Q → g v σ H fun σ' H' => Q σ' H' ∧ KeepFrom n σ σ'
theorem gk_name {n i : Nat} (h : i < n) : GKeep n (gName i) := fun v σ H Q q => ⟨q, KeepFrom.set h⟩
/-- the loop's reading: W by the turn, a measure, what has been gathered at D -/
noncomputable def tLoop (J : It) (g : TG) (tc : TT) (te : TE) (σ0 : St) (D : Addr) (Z : Hp → Prop) (H : Hp) : Prop :=
  ∃ W : Nat → Nat → List V → Hp → Prop, (∃ m, W 0 m [] H) ∧ ∀ i m ys H, W i m ys H → H D = some (.lst ys) ∧ ((J.stop i H ∧ Z H) ∨ (J.go i H ∧ ∃ N : List V → Hp → Prop, (∀ zs H', N zs H' → ∃ m', m' < m ∧ W (i + 1) m' zs H') ∧ ∀ x H', J.yld i H x H' →
    g x σ0 H' fun σ2 H2 => tc σ2 H2 fun b H3 => if b = true then te σ2 H3 fun y H4 => H4 D = some (.lst ys) ∧ ys.length < sizeLine ∧ N (ys ++ [y]) (upd H4 D (.lst (ys ++ [y]))) else N ys H3))
noncomputable def tComp (wi : TI) (T : List Str) (js : List Nat) (g : TG) (tc : TT) (te : TE) : TE := fun σ H Q => wi σ H fun J H1 => ∀ D, H1 D = none → tLoop J g tc te (st0 T js σ) D (Q (.ref D)) (upd H1 D (.lst []))

section
variable {X : Cx} {pins : List (Addr × Obj)} {σ : St} {H2 : Hp} {s2 : Shared} {scope : Scope} {T F : List Str} {cl : List (Str × Addr)} {fp : List Addr} {js : List Nat} {tg iter elt : Expr} {ifs : List Expr} {pos : Pos}
  {g : TG} {tc : TT} {te : TE} {J : It} {it : Addr} {tn : Nat → Heap → Prop} {E : Value → Shared → Prop} {RR : Value → Addr → Result → Shared → Prop}

theorem comp_block (hc : X.calm = true) (S : CompScope X.env.scope scope T F) (hjs : Paired (fun x j => X.N[j]? = some x) F js)
    (hg : ∀ cl C fp s H, PG (cxComp X (T ++ F) scope cl C fp s H) tg g) (hk : GKeep T.length g)
    (ht : ∀ cl C fp s H, PIf (cxComp X (T ++ F) scope cl C fp s H) ifs tc) (he : ∀ cl C fp s H, PE (cxComp X (T ++ F) scope cl C fp s H) elt te)
    (p1 : ∀ x c, cl.lookup x = some c → X.env.cells.lookup x = some c) (p2 : ∀ y ∈ scope.names, y.2 = .free → ∃ c, cl.lookup y.1 = some c)
    (I2 : Inv X pins σ H2 s2) (Tn : Turn X.prog X.w X.K tg J fp it tn) (st2 : tn 0 s2.heap) (f2 : ∀ b ∈ fp, FpOk X pins H2 b) (Z : Addr → Hp → Prop)
    (loop : ∀ D, H2 D = none → tLoop J g tc te (st0 T js σ) D (Z D) (upd H2 D (.lst [])))
    (hRR : ∀ D C H' s' m', s'.heap.Ns C m' → FpOk X pins H' C → Inv X pins σ H' s' → Z D H' → RR (.ref D) C (.ok .next) s') :
    wpAny (model X.prog X.w) X.A (newList []) (fun acc s₃ => wpAny (model X.prog X.w) X.A (newFunctionEnv scope X.env.globals cl [] X.env.qual none .none (some X.env)) (fun cenv s₄ =>
      codeAny (model X.prog X.w) X.A (.compStart (.ListComp elt [⟨tg, iter, ifs, 0⟩] scope pos) 0 (.ref it) acc { cenv with scope := relabel scope X.env }) (RR acc cenv.locals) s₄) E s₃) E s2 := by
  refine wpAny_newObj_type (wpAny_newFunctionEnv S.nocell (by intro y hy; cases hy) (fun h₁ hns hsb => ?_) S.kind)
  dsimp only at hns hsb ⊢
  have I3 : Inv X pins σ (upd H2 s2.heap.objs.size (.lst [])) { s2 with heap := s2.heap.push { cls := .type "list", data := .seq ([] : List Value).toArray } } := I2.lnew (its := []) (t' := s2.toks) .nil (Nat.zero_le _)
  have hobj : ∀ b ∈ fp, b < s2.heap.objs.size := fun b hb => by
    obtain ⟨o, e, _⟩ := Tn.obj _ _ st2 b hb
    exact Heap.lt_size e
  have f3 : ∀ b ∈ fp, FpOk X pins (upd H2 s2.heap.objs.size (.lst [])) b := fun b hb => ⟨by rw [upd_ne (Nat.ne_of_lt (hobj b hb))]; exact (f2 b hb).1, (f2 b hb).2⟩
  obtain ⟨W, ⟨m0, w0⟩, turn⟩ := loop s2.heap.objs.size I2.fresh
  generalize hs3 : ({ s2 with heap := s2.heap.push { cls := .type "list", data := .seq ([] : List Value).toArray } } : Shared) = s3 at I3
  have e3 : s2.heap.push { cls := .type "list", dict := none, data := .seq ([] : List Value).toArray } = s3.heap := by rw [← hs3]
  rw [e3] at hns hsb ⊢
  have sz3 : s3.heap.objs.size = s2.heap.objs.size + 1 := by rw [← e3, Heap.size_push]
  have hold : ∀ b o, s3.heap.get? b = some o → h₁.get? b = some o := fun b o e => hsb.extBut b o (Nat.ne_of_lt (Heap.lt_size e)) (Heap.get?_push_of_some _ e)
  have hobj3 : ∀ b ∈ fp, b < s3.heap.objs.size := fun b hb => by rw [sz3]; exact Nat.lt_succ_of_lt (hobj b hb)
  have J0 : Inv (cxComp X (T ++ F) scope cl s3.heap.objs.size fp s3 (upd H2 s2.heap.objs.size (.lst []))) [] (st0 T js σ) (upd H2 s2.heap.objs.size (.lst [])) { s3 with heap := h₁, toks := s2.toks + ([] : List (Str × Value)).length } :=
    inv_comp I3 S p1 p2 hjs (Nat.le_refl _) f3 hobj3 hns hold
  have stL : tn 0 h₁ := Tn.keep _ _ _ st2 fun b _ o e => hold b o (by rw [← e3]; exact Heap.get?_push_of_some _ e)
  have es : ({ s2 with heap := h₁, toks := s2.toks + ([] : List (Str × Value)).length } : Shared) = { s3 with heap := h₁, toks := s2.toks + ([] : List (Str × Value)).length } := by rw [← hs3]
  have main : codeAny (model X.prog X.w) X.A (.compLoop (.ListComp elt [⟨tg, iter, ifs, 0⟩] scope pos) 0 (.ref it) (.ref s2.heap.objs.size) (compEnvC scope cl s3.heap.objs.size X.env)) (RR (.ref s2.heap.objs.size) s3.heap.objs.size)
      { s3 with heap := h₁, toks := s2.toks + ([] : List (Str × Value)).length } := by
    have stat : ∀ {H' : Hp}, (∀ b ∈ fp, H' b = none) → ∀ b ∈ fp, FpOk (cxComp X (T ++ F) scope cl s3.heap.objs.size fp s3 (upd H2 s2.heap.objs.size (.lst []))) [] H' b := fun hn b hb =>
      ⟨hn b hb, Nat.ne_of_lt (hobj3 b hb), J0.ok.exfs b hb, .inl hb, (J0.ok.exf b hb).2, fun p hp => (by cases hp)⟩
    refine comp_turns (fun n s' => ∃ i ys H', Inv (cxComp X (T ++ F) scope cl s3.heap.objs.size fp s3 (upd H2 s2.heap.objs.size (.lst []))) [] (st0 T js σ) H' s' ∧ tn i s'.heap ∧ (∀ b ∈ fp, H' b = none) ∧ W i n ys H') ?_ m0
      ⟨0, [], _, J0, stL, fun b hb => (f3 b hb).1, w0⟩
    rintro n s4 ⟨i, ys, H4, I4, st4, fr4, w4⟩
    obtain ⟨hD, alt⟩ := turn i n ys H4 w4
    rcases alt with ⟨stop, z⟩ | ⟨go, N, hN, step⟩
    · refine thn (Tn.done (cxComp X (T ++ F) scope cl s3.heap.objs.size fp s3 (upd H2 s2.heap.objs.size (.lst []))) rfl rfl rfl hc i [] s4 _ H4 (fun _ _ => False) I4 (stat fr4) st4 stop) fun r s5 ⟨hr, I5⟩ => ?_
      subst hr
      obtain ⟨m5, n5, _⟩ := I5.loc
      have fC : FpOk X pins H4 s3.heap.objs.size := I2.fpOk (by rw [sz3]; exact Nat.le_succ _) I5.free
      exact hRR _ _ H4 s5 m5 n5 fC ((inv_back I3 I5 f3)) z
    · refine thn (Tn.item (cxComp X (T ++ F) scope cl s3.heap.objs.size fp s3 (upd H2 s2.heap.objs.size (.lst []))) rfl rfl rfl hc i [] s4 _ H4 (fun _ _ => False) I4 (stat fr4) st4 go) fun r s5 ⟨u, hr, h5⟩ => ?_
      subst hr
      refine thn h5 fun _ s6 ⟨x, H6, I6, r6, y6, st6, fr6⟩ => ?_
      have I6' := I6.pinned (stat fr6) (Tn.obj _ _ st6)
      refine thn (hg _ _ _ _ _ _ s6 _ H6 x u _ I6' r6 (hk x _ H6 _ (step x H6 y6))) fun _ s7 ⟨σ7, H7, I7, q7, kp⟩ => ?_
      refine thn (ht _ _ _ _ _ _ s7 σ7 H7 _ I7 q7) fun ok s8 ⟨H8, I8, q8⟩ => ?_
      have again : ∀ {s9 : Shared} {H9 : Hp}, Inv (cxComp X (T ++ F) scope cl s3.heap.objs.size fp s3 (upd H2 s2.heap.objs.size (.lst []))) ([] ++ pinsAt fp s6.heap) σ7 H9 s9 → ∀ {zs : List V}, (∃ m', m' < n ∧ W (i + 1) m' zs H9) →
          ∃ m, m < n ∧ ∃ i ys H', Inv (cxComp X (T ++ F) scope cl s3.heap.objs.size fp s3 (upd H2 s2.heap.objs.size (.lst []))) [] (st0 T js σ) H' s9 ∧ tn i s9.heap ∧ (∀ b ∈ fp, H' b = none) ∧ W i m ys H' := fun {s9 H9} I9 {zs} q9 => by
        obtain ⟨m', hm, w9⟩ := q9
        have I9' := I9.unpinned
        refine ⟨m', hm, i + 1, zs, H9, I9'.weak kp.1.symm (fun a v ea => ?_), Tn.keep _ _ _ st6 fun b hb o e => (I9.pin (b, o) (List.mem_append_right _ (List.mem_append_right _ (mem_pinsAt hb e)))).1, fun b hb => ?_, w9⟩
        · have ha : T.length ≤ a := by
            rcases Nat.lt_or_ge a T.length with z | z
            · exfalso
              unfold st0 at ea
              rw [List.getElem?_append_left (by simpa using z), List.getElem?_replicate] at ea
              split at ea <;> cases ea
            · exact z
          rw [kp.2 a ha]
          exact ea
        · obtain ⟨o, e, d⟩ := Tn.obj _ _ st6 b hb
          exact (I9.pin (b, o) (List.mem_append_right _ (List.mem_append_right _ (mem_pinsAt hb e)))).2.1
      cases ok with
      | false =>
        rw [if_neg Bool.false_ne_true] at q8 ⊢
        exact again I8 (hN _ _ q8)
      | true =>
        rw [if_pos rfl] at q8 ⊢
        refine thn (he _ _ _ _ _ _ s8 σ7 H8 _ I8 q8) fun y s9 ⟨v9, H9, I9, r9, hD9, hl9, q9⟩ => ?_
        refine thn (mt_append _ s9 σ7 H9 (.ref s2.heap.objs.size) [v9] (.ref s2.heap.objs.size) [y] (fun _ H10 => H10 = upd H9 s2.heap.objs.size (.lst (ys ++ [v9]))) I9 rfl (.cons r9 .nil) ⟨_, _, _, rfl, rfl, hD9, hl9, rfl⟩) fun _ s10 ⟨_, H10, I10, _, e10⟩ => ?_
        subst e10
        exact again I10 (hN _ _ q9)
  show codeAny _ _ _ _ ({ s2 with heap := h₁, toks := s2.toks + ([] : List (Str × Value)).length } : Shared)
  rw [es]
  exact codeAny_compStart_list main (Tn.self _ 0 _ _ _ stL main)

/-- [elt for tg in iter if ..] -/
theorem pe_comp {wi : TI} (hc : X.calm = true) (hi : PI X tg iter wi) (S : CompScope X.env.scope scope T F) (hjs : Paired (fun x j => X.N[j]? = some x) F js)
    (hg : ∀ cl C fp s H, PG (cxComp X (T ++ F) scope cl C fp s H) tg g) (hk : GKeep T.length g)
    (ht : ∀ cl C fp s H, PIf (cxComp X (T ++ F) scope cl C fp s H) ifs tc) (he : ∀ cl C fp s H, PE (cxComp X (T ++ F) scope cl C fp s H) elt te)
    (hs : ∀ x, foldedSetIterable iter X.env x = pure x := by intro _; rfl) : PE X (.ListComp elt [⟨tg, iter, ifs, 0⟩] scope pos) (tComp wi T js g tc te) := by
  intro pins s σ H Q I h
  obtain ⟨cl, hcl, p1, p2⟩ := closure_ok (cells_there I S)
  rw [eval_ListComp]
  refine wpAny_comprehension_free (use := none) rfl hs hcl S.kind S.loc (thn (hi pins s σ H _ I h) fun v s1 h1 => thn h1 fun itv s2 h2 => ?_)
  obtain ⟨it, fp, tn, J, H2, e, I2, Tn, st2, f2, loop⟩ := h2
  subst e
  refine comp_block (RR := fun acc C => compPost (model X.prog X.w) X.A X.xe none (EP X pins σ Q) acc C) hc S hjs hg hk ht he p1 p2 I2 Tn st2 f2 (fun D H' => Q (.ref D) H') loop ?_
  intro D C H' s' m' hn fC I' z
  obtain ⟨f0, f1, f2, f3, f4, f5⟩ := fC
  exact ⟨m', hn, fun h' sb => ⟨.ref D, H', I'.turned (t' := s'.toks) (fun b o hb e => (sb.2 b hb).trans e) f0 f1 f3 f4 f5, rfl, z⟩⟩

/-- x = [elt for tg in iter if ..] -/
theorem ps_setComp {wi : TI} {i : Nat} {y : Str} {py spos : Pos} (hc : X.calm = true) (hN : X.N.Nodup) (hy : X.N[i]? = some y) (hl : X.env.scope.names.lookup y = some .local ∨ X.env.scope.names.lookup y = some .cell) (hi : PI X tg iter wi) (S : CompScope X.env.scope scope T F) (hjs : Paired (fun x j => X.N[j]? = some x) F js)
    (hg : ∀ cl C fp s H, PG (cxComp X (T ++ F) scope cl C fp s H) tg g) (hk : GKeep T.length g)
    (ht : ∀ cl C fp s H, PIf (cxComp X (T ++ F) scope cl C fp s H) ifs tc) (he : ∀ cl C fp s H, PE (cxComp X (T ++ F) scope cl C fp s H) elt te)
    (hsw : swapsWith (.ListComp elt [⟨tg, iter, ifs, 0⟩] scope pos) (some (.Name y py)) spos.line X.env = pure true := by rfl)
    (hs : ∀ x, foldedSetIterable iter X.env x = pure x := by intro _; rfl) (hfn : X.fn y = true ∨ X.env.scope.names.lookup y = some .local := by first | exact .inl rfl | exact .inr rfl | assumption) :
    PS X (.Assign [.Name y py] (.ListComp elt [⟨tg, iter, ifs, 0⟩] scope pos) spos) (fun D σ H => tComp wi T js g tc te σ H fun v H1 => D.nx (σ.set i (some v)) H1) := by
  intro pins s σ H D I h
  obtain ⟨cl, hcl, p1, p2⟩ := closure_ok (cells_there I S)
  rw [exec_Assign_Name_used _ _ _ _ hsw]
  refine wpAny_bind (wpAny_standAt (wpAny_bind ?_))
  show wpAny _ X.A (do let _ ← comprehension (.ListComp elt [⟨tg, iter, ifs, 0⟩] scope pos) scope X.env _ (newList []) false (eval iter X.env) (some (assign (.Name y py) X.env))) _ _ s
  refine wpAny_bind (thn (wpAny_comprehension_free (use := some (assign (.Name y py) X.env)) (Q := fun _ s' => SP X pins D .next s') rfl hs hcl S.kind S.loc (thn (hi pins s σ H _ I h) fun v s1 h1 => thn h1 fun itv s2 h2 => ?_)) fun _ s' hq => wpAny_pure (wpAny_pure hq))
  obtain ⟨it, fp, tn, J, H2, e, I2, Tn, st2, f2, loop⟩ := h2
  subst e
  refine comp_block (RR := fun acc C => compPost (model X.prog X.w) X.A X.xe (some (assign (.Name y py) X.env)) (fun _ s' => SP X pins D .next s') acc C) hc S hjs hg hk ht he p1 p2 I2 Tn st2 f2 (fun D0 H' => D.nx (σ.set i (some (.ref D0))) H') loop ?_
  intro D0 C H' s' m' hn fC I' z
  obtain ⟨f0, f1, f2, f3, f4, f5⟩ := fC
  show wpAny _ X.A (assign (.Name y py) X.env (.ref D0)) _ _ s'
  refine wpAny_assign_Name (store_ok2 (v := .ref D0) I' hN hy hl rfl (fun s'' I'' ch => ?_) hfn)
  obtain ⟨a, sb, ha⟩ := ch
  have hCa : C ≠ a := by
    rcases ha with rfl | ha
    · exact f1
    · exact fun z => f4 y a ha z.symm
  exact ⟨m', hn.sameBut sb hCa, fun h' sb' => ⟨_, H', I''.turned (t' := s''.toks) (fun b o hb e => (sb'.2 b hb).trans e) f0 f1 f3 f4 f5, z⟩⟩
end
end L3

set_option Elab.async false
set_option linter.all false
set_option maxRecDepth 100000
set_option maxHeartbeats 4000000
namespace L3
open PySem PySem.Spec L2
open PyProof.Rows hiding St

noncomputable def Itv (n : Nat) (val : Nat → V → Prop) : It := ⟨fun i _ => i < n, fun i H x H' => H' = H ∧ val i x, fun i _ => i = n⟩
/-- the sign at a place -/
noncomputable def SignV (x : Str) (i : Nat) (v : V) : Prop := ∃ c, x.cps[i]? = some c ∧ v = .str ⟨#[c]⟩

theorem turn_str {P : Program} {w : World} {K : PySem.W.Frag} {tg : Expr} {it : Addr} {x : Str} {t : Tok} {T : String}
    (W : ∀ A : Around, A.handled = none → Walks P w A it [it] [it] x.cps.size (SignAt x) (fun i h => h.IsStrIter it T x t i))
    (hs : ∀ (A : Around) (i : Nat) (s : Shared) (Q : Value → Shared → Prop) (E : Value → Shared → Prop), s.heap.IsStrIter it T x t i → Q (.ref it) s → wpAny (model P w) A (pyIter (.ref it)) Q E s)
    (hT : ["enumerate", "zip", "dict_itemiterator", "dict_reverseitemiterator", "odict_iterator", "itertools.zip_longest", "itertools.pairwise"].contains T = false) :
    Turn P w K tg (Itv x.cps.size (SignV x)) [it] it (fun i h => h.IsStrIter it T x t i) where
  mem := by simp
  obj := fun i h st b hb => by
    have e : b = it := by simpa using hb
    subst e
    obtain ⟨o, e, c, d⟩ := st
    exact ⟨o, e, fun v z => by rw [d] at z; cases z⟩
  keep := fun i h h' st k => let ⟨o, e, r⟩ := st; ⟨o, k it (by simp) o e, r⟩
  item := by
    intro X hP hw hK hc i pins s σ H E I hf st hg
    subst hP hw hK
    obtain ⟨f0, f1, f2, f3, f4, f5⟩ := hf it (by simp)
    refine (W X.A (I.ok.hd hc)).item i s _ _ hg st fun v h' tk hv st' kk => ?_
    obtain ⟨c, u, hx, rfl⟩ := hv
    have I1 : Inv X pins σ H { s with heap := h', toks := tk } := I.turned (fun b o hb e => kk b o (by simpa using hb) e) f0 f1 f3 f4 f5
    obtain ⟨o, e, c', d⟩ := id st'
    exact ⟨_, rfl, go_of (s := { s with heap := h', toks := tk }) e c' d hT ⟨.str ⟨#[c]⟩, H, I1, ⟨u, rfl⟩, ⟨rfl, c, hx, rfl⟩, st', fun b hb => (hf b hb).1⟩⟩
  done := by
    intro X hP hw hK hc i pins s σ H E I hf st hg
    subst hP hw hK
    obtain ⟨f0, f1, f2, f3, f4, f5⟩ := hf it (by simp)
    have e : i = x.cps.size := hg
    subst e
    exact (W X.A (I.ok.hd hc)).done s _ _ st fun h' tk kk => ⟨rfl, I.turned (fun b o hb e => kk b o (by simpa using hb) e) f0 f1 f3 f4 f5⟩
  self := fun A i s Q E st h => hs A i s Q E st h

noncomputable def truOf : V → Option Bool
  | .bl b => some b
  | .int i => some (i != 0)
  | .non => some false
  | _ => none
noncomputable def truAt (ys : List V) (d : Bool) (i : Nat) : Bool := ((ys[i]?).bind truOf).getD d
theorem all_range (ys : List V) (h : ∀ y ∈ ys, (truOf y).isSome = true) : (List.range ys.length).all (truAt ys true) = ys.all fun y => truOf y == some true := by
  rw [Bool.eq_iff_iff, List.all_eq_true, List.all_eq_true]
  constructor
  · intro q y hy
    obtain ⟨i, hi, e⟩ := List.getElem_of_mem hy
    have z := q i (List.mem_range.mpr hi)
    unfold truAt at z
    rw [List.getElem?_eq_getElem hi, Option.bind_some, e] at z
    obtain ⟨b, hb⟩ := Option.isSome_iff_exists.mp (h y hy)
    rw [hb] at z ⊢
    simpa using z
  · intro q i hi
    have hi' := List.mem_range.mp hi
    have z := q _ (List.getElem_mem hi')
    unfold truAt
    rw [List.getElem?_eq_getElem hi', Option.bind_some, eq_of_beq z]
    rfl
theorem truth_of {P : Program} {w : World} {A : Around} {ys : List V} {its : List Value} (d : Bool) (r : Vals ys its) (h : ∀ y ∈ ys, (truOf y).isSome = true) : TruthOf P w A (fun i v => its.toArray[i]? = some v) (truAt ys d) := by
  intro i v s Q E hP hQ
  obtain ⟨y, hy, ry⟩ := paired_get r (show its[i]? = some v by simpa using hP)
  unfold truAt at hQ
  rw [hy, Option.bind_some] at hQ
  have hs := h y (List.mem_of_getElem? hy)
  cases y with
  | bl b => cases ry; exact wpAny_truthy_bool hQ
  | int k => obtain ⟨t, rfl⟩ := ry; exact PySem.P.truthy_int hQ
  | non => cases ry; exact truthy_none hQ
  | _ => cases hs

section
variable {X : Cx}
theorem kept_push {s : Shared} {h' : Heap} {o : Obj} (hk : ∀ b x, b ∉ [s.heap.objs.size] → (s.heap.push o).get? b = some x → h'.get? b = some x) : ∀ b x, s.heap.get? b = some x → h'.get? b = some x :=
  fun b x e => hk b x (by simpa using Nat.ne_of_lt (Heap.lt_size e)) (Heap.get?_push_of_some _ e)
/-- all(xs), any(xs) of a list or a tuple of bools, ints, None -/
noncomputable def rAll (K : PySem.W.Frag) (f : List V → Bool) : List V → Hp → VK → Prop := fun xs H Q => ∃ p ys, xs = [.ref p] ∧ (SqL K H p ys ∨ SqT K H p ys) ∧ (∀ y ∈ ys, (truOf y).isSome = true) ∧ Q (.bl (f ys)) H
theorem call_all_seq (hc : X.calm = true) : CallR X (.builtin "all") (rAll X.K fun ys => ys.all fun y => truOf y == some true) := by
  intro pins s σ H xs us Q I r h
  obtain ⟨p, ys, rfl, hq, ht, q⟩ := h
  obtain ⟨u, rfl, rx⟩ := vals1 r
  cases rx
  rcases hq with hq | hq
  · obtain ⟨its, rv, pl, hz⟩ := I.list hq
    have hlt : p < s.heap.objs.size := by obtain ⟨_, e, _⟩ := pl.isList; exact Heap.lt_size e
    refine call_all_walk (wpAny_pyIter_list pl.isList ⟨s.heap.objs.size, [s.heap.objs.size, p], [s.heap.objs.size], its.toArray.size, _, _, truAt ys true, rfl, Walks.list (A := X.A.in1) (I.ok.hd hc) _ p (Nat.ne_of_lt hlt) its.toArray,
      ⟨⟨_, Heap.get?_push_size _ rfl, rfl, rfl⟩, pl.isList.push _⟩, truth_of true rv ht, fun h' tk hk => ?_⟩)
    rw [List.size_toArray, ← rv.length, all_range ys ht]
    exact ⟨.bl _, H, I.kept (kept_push hk), rfl, q⟩
  · obtain ⟨its, rv, pl, hz⟩ := I.tuple hq
    have hlt : p < s.heap.objs.size := by obtain ⟨_, e, _⟩ := pl; exact Heap.lt_size e
    have pl' : s.heap.IsTuple p its.toArray := pl
    refine call_all_walk (wpAny_pyIter_tuple pl' ⟨s.heap.objs.size, [s.heap.objs.size, p], [s.heap.objs.size], its.toArray.size, _, _, truAt ys true, rfl, Walks.tuple (A := X.A.in1) (I.ok.hd hc) _ p (Nat.ne_of_lt hlt) its.toArray,
      ⟨⟨_, Heap.get?_push_size _ rfl, rfl, rfl⟩, pl'.at fun o e => Heap.get?_push_of_some _ e⟩, truth_of true rv ht, fun h' tk hk => ?_⟩)
    rw [List.size_toArray, ← rv.length, all_range ys ht]
    exact ⟨.bl _, H, I.kept (kept_push hk), rfl, q⟩
end
end L3

set_option Elab.async false
set_option linter.all false
set_option maxRecDepth 100000
set_option maxHeartbeats 4000000
namespace DL
open PySem PySem.Spec L2 L3
open PyProof.Rows hiding St

/-- a constant of the module: it lies outside what changes -/
inductive Cst where
  | int (i : Int) | str (x : Str) | tup (cs : List Cst)
mutual
noncomputable def CRep (K : PySem.W.Frag) : Cst → V → Prop
  | .int i, v => v = .int i
  | .str x, v => v = .str x
  | .tup cs, v => ∃ (a : Addr) (o : Obj) (its : Array Value) (n : Nat) (xs : List V), v = .ref a ∧ K.lookup a = some o ∧ o.cls = .type "tuple" ∧ o.data = .seq its n ∧ its.size ≤ sizeLine ∧ Vals xs its.toList ∧ CReps K cs xs
noncomputable def CReps (K : PySem.W.Frag) : List Cst → List V → Prop
  | [], xs => xs = []
  | c :: cs, xs => ∃ v r, xs = v :: r ∧ CRep K c v ∧ CReps K cs r
end
/-- a value with all that it holds -/
inductive D where
  | non | bl (b : Bool) | int (i : Int) | str (x : Str) | ty (n : String)
  | tup (ds : List D) | lst (ds : List D) | dk (ks : List Key) (ds : List D) | dt (ks : List (List Key)) (ds : List D)
  /-- the script -/
  | scr (ns : List Int)
  /-- an exception of the class at C -/
  | exc (C : Addr)
  /-- a list of whole numbers (below m, where 0 < m), no matter which -/
  | fd (m : Int)
  | cn (c : Cst)

/-- the script at a -/
noncomputable def Scr (K : PySem.W.Frag) (H : Hp) (a : Addr) (ns : List Int) : Prop :=
  (∃ o, H a = some (.frz o (.lst (ns.map V.int)))) ∨
    ∃ (o : Obj) (its : Array Value) (n : Nat), K.lookup a = some o ∧ o.cls = .type "list" ∧ o.dict = none ∧ o.data = .seq its n ∧ its.size ≤ sizeLine ∧ Vals (ns.map V.int) its.toList
theorem Scr.seq {K : PySem.W.Frag} {H : Hp} {a : Addr} {ns : List Int} (h : Scr K H a ns) : SqL K H a (ns.map V.int) := by
  rcases h with ⟨o, h⟩ | h
  · exact .inl (.inr ⟨o, h⟩)
  · exact .inr h

/-- a tuple that is tracked -/
noncomputable def SqR (K : PySem.W.Frag) (H : Hp) (a : Addr) (xs : List V) : Prop := SqT K H a xs ∧ H a = some (.tup xs)
/-- an exception of the class at C, known by its class alone -/
noncomputable def ExcO (a C : Addr) : HO := .ext fun h => ∃ o, h.get? a = some o ∧ o.cls = .ref C ∧ PySem.W.notCls o = true
/-- a list of whole numbers, from 0 on and below m where 0 < m, and not empty where not: what it holds may change -/
noncomputable def FeedO (a : Addr) (m : Int) : HO := .ext fun h => ∃ (its : Array Value) (n : Nat), h.get? a = some { cls := .type "list", dict := none, data := .seq its n, slots := #[] } ∧ its.size ≤ 1000 ∧ (m ≤ 0 → 1 ≤ its.size) ∧ ∀ v ∈ its, ∃ (i : Int) (t : Tok), v = .int i t ∧ (0 < m → 0 ≤ i ∧ i < m)
mutual
/-- the value v stands for d; none of its lists and dicts lies in O -/
noncomputable def Rep (K : PySem.W.Frag) (H : Hp) (O : List Addr) : D → V → Prop
  | .non, v => v = .non
  | .bl b, v => v = .bl b
  | .int i, v => v = .int i
  | .str x, v => v = .str x
  | .ty n, v => v = .ty n
  | .cn c, v => CRep K c v
  | .tup ds, v => ∃ a xs, v = .ref a ∧ SqR K H a xs ∧ Reps K H O ds xs
  | .lst ds, v => ∃ a xs, v = .ref a ∧ H a = some (.lst xs) ∧ a ∉ O ∧ Reps K H O ds xs
  | .scr ns, v => ∃ a, v = .ref a ∧ Scr K H a ns
  | .exc C, v => ∃ a, v = .ref a ∧ H a = some (ExcO a C) ∧ a ∉ O
  | .fd m, v => ∃ a, v = .ref a ∧ H a = some (FeedO a m) ∧ a ∉ O
  | .dk ks ds, v => ∃ a xs, v = .ref a ∧ H a = some (.dK (ks.zip xs)) ∧ a ∉ O ∧ ks.length = ds.length ∧ ks.Nodup ∧ Reps K H O ds xs
  | .dt ks ds, v => ∃ a xs, v = .ref a ∧ H a = some (.dT (ks.zip xs)) ∧ a ∉ O ∧ ks.length = ds.length ∧ ks.Nodup ∧ Reps K H O ds xs
noncomputable def Reps (K : PySem.W.Frag) (H : Hp) (O : List Addr) : List D → List V → Prop
  | [], xs => xs = []
  | d :: ds, xs => ∃ v r, xs = v :: r ∧ Rep K H O d v ∧ Reps K H O ds r
end

/-- what stands outside O is kept -/
structure Grow (O O' : List Addr) (H H' : Hp) : Prop where
  keep : ∀ b u, H b = some u → b ∉ O → H' b = some u ∧ b ∉ O'
  tups : ∀ b xs, H b = some (.tup xs) → H' b = some (.tup xs)
  frzs : ∀ b o u, H b = some (.frz o u) → H' b = some (.frz o u)
theorem Grow.same {O : List Addr} {H H' : Hp} (s : Same H H') : Grow O O H H' := ⟨fun b u h n => ⟨s b u h, n⟩, fun b xs h => s b _ h, fun b o u h => s b _ h⟩
theorem Grow.refl {O : List Addr} {H : Hp} : Grow O O H H := Grow.same (Same.refl H)
theorem Grow.trans {O O' O'' : List Addr} {H H' H'' : Hp} (a : Grow O O' H H') (b : Grow O' O'' H' H'') : Grow O O'' H H'' :=
  ⟨fun c u h n => let ⟨h', n'⟩ := a.keep c u h n; b.keep c u h' n', fun c xs h => b.tups c xs (a.tups c xs h), fun c o u h => b.frzs c o u (a.frzs c o u h)⟩

theorem sqT_grow {K : PySem.W.Frag} {O O' : List Addr} {H H' : Hp} {a : Addr} {xs : List V} (g : Grow O O' H H') (h : SqT K H a xs) : SqT K H' a xs := by
  rcases h with (h | ⟨o, h⟩) | h
  · exact .inl (.inl (g.tups _ _ h))
  · exact .inl (.inr ⟨o, g.frzs _ _ _ h⟩)
  · exact .inr h
theorem sqR_grow {K : PySem.W.Frag} {O O' : List Addr} {H H' : Hp} {a : Addr} {xs : List V} (g : Grow O O' H H') (h : SqR K H a xs) : SqR K H' a xs := ⟨sqT_grow g h.1, g.tups _ _ h.2⟩
theorem scr_grow {K : PySem.W.Frag} {O O' : List Addr} {H H' : Hp} {a : Addr} {ns : List Int} (g : Grow O O' H H') (h : Scr K H a ns) : Scr K H' a ns := by
  rcases h with ⟨o, h⟩ | h
  · exact .inl ⟨o, g.frzs _ _ _ h⟩
  · exact .inr h
mutual
theorem Rep.grow {K : PySem.W.Frag} {O O' : List Addr} {H H' : Hp} (g : Grow O O' H H') : ∀ (d : D) (v : V), Rep K H O d v → Rep K H' O' d v
  | .non, _, h => h
  | .bl _, _, h => h
  | .int _, _, h => h
  | .str _, _, h => h
  | .ty _, _, h => h
  | .cn _, _, h => h
  | .tup ds, v, h => by
    obtain ⟨a, xs, e, q, r⟩ := h
    exact ⟨a, xs, e, sqR_grow g q, Reps.grow g ds xs r⟩
  | .lst ds, v, h => by
    obtain ⟨a, xs, e, q, n, r⟩ := h
    exact ⟨a, xs, e, (g.keep _ _ q n).1, (g.keep _ _ q n).2, Reps.grow g ds xs r⟩
  | .scr ns, v, h => by
    obtain ⟨a, e, q⟩ := h
    exact ⟨a, e, scr_grow g q⟩
  | .exc C, v, h => by
    obtain ⟨a, e, q, n⟩ := h
    exact ⟨a, e, (g.keep _ _ q n).1, (g.keep _ _ q n).2⟩
  | .fd m, v, h => by
    obtain ⟨a, e, q, n⟩ := h
    exact ⟨a, e, (g.keep _ _ q n).1, (g.keep _ _ q n).2⟩
  | .dk ks ds, v, h => by
    obtain ⟨a, xs, e, q, n, l, nd, r⟩ := h
    exact ⟨a, xs, e, (g.keep _ _ q n).1, (g.keep _ _ q n).2, l, nd, Reps.grow g ds xs r⟩
  | .dt ks ds, v, h => by
    obtain ⟨a, xs, e, q, n, l, nd, r⟩ := h
    exact ⟨a, xs, e, (g.keep _ _ q n).1, (g.keep _ _ q n).2, l, nd, Reps.grow g ds xs r⟩
theorem Reps.grow {K : PySem.W.Frag} {O O' : List Addr} {H H' : Hp} (g : Grow O O' H H') : ∀ (ds : List D) (xs : List V), Reps K H O ds xs → Reps K H' O' ds xs
  | [], _, h => h
  | d :: ds, xs, h => by
    obtain ⟨v, r, e, q, t⟩ := h
    exact ⟨v, r, e, Rep.grow g d v q, Reps.grow g ds r t⟩
end
mutual
theorem Rep.sub {K : PySem.W.Frag} {O O' : List Addr} {H : Hp} (g : ∀ a ∈ O', a ∈ O) : ∀ (d : D) (v : V), Rep K H O d v → Rep K H O' d v
  | .non, _, h => h
  | .bl _, _, h => h
  | .int _, _, h => h
  | .str _, _, h => h
  | .ty _, _, h => h
  | .cn _, _, h => h
  | .tup ds, v, h => by
    obtain ⟨a, xs, e, q, r⟩ := h
    exact ⟨a, xs, e, q, Reps.sub g ds xs r⟩
  | .lst ds, v, h => by
    obtain ⟨a, xs, e, q, n, r⟩ := h
    exact ⟨a, xs, e, q, fun z => n (g a z), Reps.sub g ds xs r⟩
  | .scr _, _, h => h
  | .exc _, _, h => by
    obtain ⟨a, e, q, n⟩ := h
    exact ⟨a, e, q, fun z => n (g a z)⟩
  | .fd _, _, h => by
    obtain ⟨a, e, q, n⟩ := h
    exact ⟨a, e, q, fun z => n (g a z)⟩
  | .dk ks ds, v, h => by
    obtain ⟨a, xs, e, q, n, l, nd, r⟩ := h
    exact ⟨a, xs, e, q, fun z => n (g a z), l, nd, Reps.sub g ds xs r⟩
  | .dt ks ds, v, h => by
    obtain ⟨a, xs, e, q, n, l, nd, r⟩ := h
    exact ⟨a, xs, e, q, fun z => n (g a z), l, nd, Reps.sub g ds xs r⟩
theorem Reps.sub {K : PySem.W.Frag} {O O' : List Addr} {H : Hp} (g : ∀ a ∈ O', a ∈ O) : ∀ (ds : List D) (xs : List V), Reps K H O ds xs → Reps K H O' ds xs
  | [], _, h => h
  | d :: ds, xs, h => by
    obtain ⟨v, r, e, q, t⟩ := h
    exact ⟨v, r, e, Rep.sub g d v q, Reps.sub g ds r t⟩
end
mutual
noncomputable def pureD : D → Prop
  | .tup ds => pureDs ds
  | .lst _ => False
  | .dk _ _ => False
  | .dt _ _ => False
  | .scr _ => True
  | .exc _ => False
  | .fd _ => False
  | .non => True
  | .bl _ => True
  | .int _ => True
  | .str _ => True
  | .ty _ => True
  | .cn _ => True
noncomputable def pureDs : List D → Prop
  | [] => True
  | d :: ds => pureD d ∧ pureDs ds
end
theorem pureDs_iff : ∀ {ds : List D}, pureDs ds ↔ ∀ d ∈ ds, pureD d
  | [] => by simp [pureDs]
  | d :: ds => by
    rw [pureDs, pureDs_iff]
    simp
mutual
theorem Rep.pure {K : PySem.W.Frag} {O O' : List Addr} {H : Hp} : ∀ (d : D) (v : V), pureD d → Rep K H O d v → Rep K H O' d v
  | .non, _, _, h => h
  | .bl _, _, _, h => h
  | .int _, _, _, h => h
  | .str _, _, _, h => h
  | .ty _, _, _, h => h
  | .cn _, _, _, h => h
  | .tup ds, v, p, h => by
    obtain ⟨a, xs, e, q, r⟩ := h
    exact ⟨a, xs, e, q, Reps.pure ds xs p r⟩
  | .scr _, _, _, h => h
  | .exc _, _, p, _ => p.elim
  | .fd _, _, p, _ => p.elim
  | .lst ds, v, p, h => p.elim
  | .dk ks ds, v, p, h => p.elim
  | .dt ks ds, v, p, h => p.elim
theorem Reps.pure {K : PySem.W.Frag} {O O' : List Addr} {H : Hp} : ∀ (ds : List D) (xs : List V), pureDs ds → Reps K H O ds xs → Reps K H O' ds xs
  | [], _, _, h => h
  | d :: ds, xs, p, h => by
    obtain ⟨v, r, e, q, t⟩ := h
    exact ⟨v, r, e, Rep.pure d v p.1 q, Reps.pure ds r p.2 t⟩
end

mutual
noncomputable def RepN (K : PySem.W.Frag) (H : Hp) (P : Addr → Prop) : D → V → Prop
  | .non, v => v = .non
  | .bl b, v => v = .bl b
  | .int i, v => v = .int i
  | .str x, v => v = .str x
  | .ty n, v => v = .ty n
  | .cn c, v => CRep K c v
  | .tup ds, v => ∃ a xs, v = .ref a ∧ SqR K H a xs ∧ RepNs K H P ds xs
  | .lst ds, v => ∃ a xs, v = .ref a ∧ H a = some (.lst xs) ∧ P a ∧ RepNs K H P ds xs
  | .scr ns, v => ∃ a, v = .ref a ∧ Scr K H a ns
  | .exc C, v => ∃ a, v = .ref a ∧ H a = some (ExcO a C) ∧ P a
  | .fd m, v => ∃ a, v = .ref a ∧ H a = some (FeedO a m) ∧ P a
  | .dk ks ds, v => ∃ a xs, v = .ref a ∧ H a = some (.dK (ks.zip xs)) ∧ P a ∧ ks.length = ds.length ∧ ks.Nodup ∧ RepNs K H P ds xs
  | .dt ks ds, v => ∃ a xs, v = .ref a ∧ H a = some (.dT (ks.zip xs)) ∧ P a ∧ ks.length = ds.length ∧ ks.Nodup ∧ RepNs K H P ds xs
noncomputable def RepNs (K : PySem.W.Frag) (H : Hp) (P : Addr → Prop) : List D → List V → Prop
  | [], xs => xs = []
  | d :: ds, xs => ∃ v r, xs = v :: r ∧ RepN K H P d v ∧ RepNs K H P ds r
end
mutual
theorem RepN.to {K : PySem.W.Frag} {P P' : Addr → Prop} {H H' : Hp} (s : Same H H') (g : ∀ a, P a → P' a) : ∀ (d : D) (v : V), RepN K H P d v → RepN K H' P' d v
  | .non, _, h => h
  | .bl _, _, h => h
  | .int _, _, h => h
  | .str _, _, h => h
  | .ty _, _, h => h
  | .cn _, _, h => h
  | .tup ds, v, h => by
    obtain ⟨a, xs, e, q, r⟩ := h
    exact ⟨a, xs, e, sqR_grow (Grow.same (O := []) s) q, RepNs.to s g ds xs r⟩
  | .lst ds, v, h => by
    obtain ⟨a, xs, e, q, n, r⟩ := h
    exact ⟨a, xs, e, s _ _ q, g a n, RepNs.to s g ds xs r⟩
  | .scr ns, v, h => by
    obtain ⟨a, e, q⟩ := h
    exact ⟨a, e, scr_grow (Grow.same (O := []) s) q⟩
  | .exc C, v, h => by
    obtain ⟨a, e, q, n⟩ := h
    exact ⟨a, e, s _ _ q, g a n⟩
  | .fd m, v, h => by
    obtain ⟨a, e, q, n⟩ := h
    exact ⟨a, e, s _ _ q, g a n⟩
  | .dk ks ds, v, h => by
    obtain ⟨a, xs, e, q, n, l, nd, r⟩ := h
    exact ⟨a, xs, e, s _ _ q, g a n, l, nd, RepNs.to s g ds xs r⟩
  | .dt ks ds, v, h => by
    obtain ⟨a, xs, e, q, n, l, nd, r⟩ := h
    exact ⟨a, xs, e, s _ _ q, g a n, l, nd, RepNs.to s g ds xs r⟩
theorem RepNs.to {K : PySem.W.Frag} {P P' : Addr → Prop} {H H' : Hp} (s : Same H H') (g : ∀ a, P a → P' a) : ∀ (ds : List D) (xs : List V), RepNs K H P ds xs → RepNs K H' P' ds xs
  | [], _, h => h
  | d :: ds, xs, h => by
    obtain ⟨v, r, e, q, t⟩ := h
    exact ⟨v, r, e, RepN.to s g d v q, RepNs.to s g ds r t⟩
end
mutual
theorem RepN.rep {K : PySem.W.Frag} {P : Addr → Prop} {H : Hp} {O : List Addr} (g : ∀ a, P a → a ∉ O) : ∀ (d : D) (v : V), RepN K H P d v → Rep K H O d v
  | .non, _, h => h
  | .bl _, _, h => h
  | .int _, _, h => h
  | .str _, _, h => h
  | .ty _, _, h => h
  | .cn _, _, h => h
  | .tup ds, v, h => by
    obtain ⟨a, xs, e, q, r⟩ := h
    exact ⟨a, xs, e, q, RepNs.reps g ds xs r⟩
  | .lst ds, v, h => by
    obtain ⟨a, xs, e, q, n, r⟩ := h
    exact ⟨a, xs, e, q, g a n, RepNs.reps g ds xs r⟩
  | .scr _, _, h => h
  | .exc C, v, h => by
    obtain ⟨a, e, q, n⟩ := h
    exact ⟨a, e, q, g a n⟩
  | .fd m, v, h => by
    obtain ⟨a, e, q, n⟩ := h
    exact ⟨a, e, q, g a n⟩
  | .dk ks ds, v, h => by
    obtain ⟨a, xs, e, q, n, l, nd, r⟩ := h
    exact ⟨a, xs, e, q, g a n, l, nd, RepNs.reps g ds xs r⟩
  | .dt ks ds, v, h => by
    obtain ⟨a, xs, e, q, n, l, nd, r⟩ := h
    exact ⟨a, xs, e, q, g a n, l, nd, RepNs.reps g ds xs r⟩
theorem RepNs.reps {K : PySem.W.Frag} {P : Addr → Prop} {H : Hp} {O : List Addr} (g : ∀ a, P a → a ∉ O) : ∀ (ds : List D) (xs : List V), RepNs K H P ds xs → Reps K H O ds xs
  | [], _, h => h
  | d :: ds, xs, h => by
    obtain ⟨v, r, e, q, t⟩ := h
    exact ⟨v, r, e, RepN.rep g d v q, RepNs.reps g ds r t⟩
end
mutual
theorem Rep.toN {K : PySem.W.Frag} {P : Addr → Prop} {O : List Addr} {H : Hp} : ∀ (d : D) (v : V), pureD d → Rep K H O d v → RepN K H P d v
  | .non, _, _, h => h
  | .bl _, _, _, h => h
  | .int _, _, _, h => h
  | .str _, _, _, h => h
  | .ty _, _, _, h => h
  | .cn _, _, _, h => h
  | .tup ds, v, p, h => by
    obtain ⟨a, xs, e, q, r⟩ := h
    exact ⟨a, xs, e, q, Reps.toN ds xs p r⟩
  | .scr _, _, _, h => h
  | .exc _, _, p, _ => p.elim
  | .fd _, _, p, _ => p.elim
  | .lst ds, v, p, h => p.elim
  | .dk ks ds, v, p, h => p.elim
  | .dt ks ds, v, p, h => p.elim
theorem Reps.toN {K : PySem.W.Frag} {P : Addr → Prop} {O : List Addr} {H : Hp} : ∀ (ds : List D) (xs : List V), pureDs ds → Reps K H O ds xs → RepNs K H P ds xs
  | [], _, _, h => h
  | d :: ds, xs, p, h => by
    obtain ⟨v, r, e, q, t⟩ := h
    exact ⟨v, r, e, Rep.toN d v p.1 q, Reps.toN ds r p.2 t⟩
end
theorem RepNs.append {K : PySem.W.Frag} {P : Addr → Prop} {H : Hp} : ∀ {ds es : List D} {xs ys : List V}, RepNs K H P ds xs → RepNs K H P es ys → RepNs K H P (ds ++ es) (xs ++ ys)
  | [], es, xs, ys, h, h' => by cases h; exact h'
  | d :: ds, es, xs, ys, h, h' => by
    obtain ⟨v, r, rfl, q, t⟩ := h
    exact ⟨v, r ++ ys, rfl, q, RepNs.append t h'⟩
theorem RepNs.length {K : PySem.W.Frag} {P : Addr → Prop} {H : Hp} {ds : List D} {xs : List V} (h : RepNs K H P ds xs) : xs.length = ds.length := by
  induction ds generalizing xs with
  | nil => cases (show xs = [] from h); rfl
  | cons d ds ih =>
    obtain ⟨v, r, rfl, _, t⟩ := h
    simp [ih t]

section
variable {K : PySem.W.Frag} {H : Hp} {O : List Addr}
theorem Reps.length : ∀ {ds : List D} {xs : List V}, Reps K H O ds xs → xs.length = ds.length
  | [], _, h => by cases h; rfl
  | d :: ds, xs, h => by
    obtain ⟨v, r, e, _, t⟩ := h
    subst e
    simp [Reps.length t]
theorem Reps.get : ∀ {ds : List D} {xs : List V} {i : Nat} {d : D}, Reps K H O ds xs → ds[i]? = some d → ∃ v, xs[i]? = some v ∧ Rep K H O d v
  | [], _, _, _, _, e => by simp at e
  | d :: ds, xs, 0, d', h, e => by
    obtain ⟨v, r, rfl, q, _⟩ := h
    simp at e
    subst e
    exact ⟨v, rfl, q⟩
  | d :: ds, xs, i + 1, d', h, e => by
    obtain ⟨v, r, rfl, _, t⟩ := h
    obtain ⟨v', e', q'⟩ := Reps.get (i := i) t (by simpa using e)
    exact ⟨v', by simpa using e', q'⟩
theorem Reps.at : ∀ {ds : List D} {xs : List V} {i : Nat} {v : V}, Reps K H O ds xs → xs[i]? = some v → ∃ d, ds[i]? = some d ∧ Rep K H O d v := fun {ds xs i v} h e => by
  have hl := h.length
  have hi := (List.getElem?_eq_some_iff.mp e).1
  have hd : ds[i]? = some (ds[i]'(by omega)) := by simp [show i < ds.length by omega]
  obtain ⟨v', e', q⟩ := h.get hd
  rw [e] at e'
  cases e'
  exact ⟨_, hd, q⟩
theorem Reps.append : ∀ {ds es : List D} {xs ys : List V}, Reps K H O ds xs → Reps K H O es ys → Reps K H O (ds ++ es) (xs ++ ys)
  | [], es, xs, ys, h, h' => by cases h; exact h'
  | d :: ds, es, xs, ys, h, h' => by
    obtain ⟨v, r, rfl, q, t⟩ := h
    exact ⟨v, r ++ ys, rfl, q, Reps.append t h'⟩
theorem Reps.one {d : D} {v : V} (h : Rep K H O d v) : Reps K H O [d] [v] := ⟨v, [], rfl, h, rfl⟩
theorem Reps.take : ∀ {ds : List D} {xs : List V} (n : Nat), Reps K H O ds xs → Reps K H O (ds.take n) (xs.take n)
  | _, _, 0, _ => rfl
  | [], _, n + 1, h => by cases h; rfl
  | d :: ds, xs, n + 1, h => by
    obtain ⟨v, r, rfl, q, t⟩ := h
    exact ⟨v, r.take n, rfl, q, Reps.take n t⟩
theorem Reps.drop : ∀ {ds : List D} {xs : List V} (n : Nat), Reps K H O ds xs → Reps K H O (ds.drop n) (xs.drop n)
  | _, _, 0, h => h
  | [], _, n + 1, h => by cases h; rfl
  | d :: ds, xs, n + 1, h => by
    obtain ⟨v, r, rfl, q, t⟩ := h
    exact Reps.drop n t
theorem Reps.set : ∀ {ds : List D} {xs : List V} (n : Nat) {d : D} {v : V}, Rep K H O d v → Reps K H O ds xs → Reps K H O (ds.set n d) (xs.set n v)
  | [], _, _, _, _, _, h => by cases h; rfl
  | d :: ds, xs, 0, d', v', q', h => by
    obtain ⟨v, r, rfl, q, t⟩ := h
    exact ⟨v', r, rfl, q', t⟩
  | d :: ds, xs, n + 1, d', v', q', h => by
    obtain ⟨v, r, rfl, q, t⟩ := h
    exact ⟨v, r.set n v', rfl, q, Reps.set n q' t⟩
theorem Reps.ints : ∀ (ns : List Int), Reps K H O (ns.map D.int) (ns.map V.int)
  | [] => rfl
  | n :: ns => ⟨_, _, rfl, rfl, Reps.ints ns⟩
theorem Reps.dropLast {ds : List D} {xs : List V} (h : Reps K H O ds xs) : Reps K H O ds.dropLast xs.dropLast := by
  rw [List.dropLast_eq_take, List.dropLast_eq_take, h.length]
  exact h.take _
theorem Reps.rep {ds : List D} {xs : List V} (h : Reps K H O ds xs) : ∀ k : Nat, Reps K H O (List.replicate k ds).flatten (List.replicate k xs).flatten
  | 0 => rfl
  | k + 1 => by
    rw [List.replicate_succ, List.replicate_succ, List.flatten_cons, List.flatten_cons]
    exact h.append (Reps.rep h k)
end

/-- v as it is read: d, whatever its own place -/
noncomputable def View (K : PySem.W.Frag) (H : Hp) (O : List Addr) (d : D) (v : V) : Prop := match d with
  | .lst ds => ∃ a xs, v = .ref a ∧ H a = some (.lst xs) ∧ Reps K H O ds xs
  | .dk ks ds => ∃ a xs, v = .ref a ∧ H a = some (.dK (ks.zip xs)) ∧ ks.length = ds.length ∧ ks.Nodup ∧ Reps K H O ds xs
  | .dt ks ds => ∃ a xs, v = .ref a ∧ H a = some (.dT (ks.zip xs)) ∧ ks.length = ds.length ∧ ks.Nodup ∧ Reps K H O ds xs
  | d => Rep K H O d v
/-- a list or dict that is ours, at a -/
noncomputable def Con (K : PySem.W.Frag) (H : Hp) (O : List Addr) (d : D) (a : Addr) : Prop := match d with
  | .lst ds => ∃ xs, H a = some (.lst xs) ∧ Reps K H O ds xs
  | .dk ks ds => ∃ xs, H a = some (.dK (ks.zip xs)) ∧ ks.length = ds.length ∧ ks.Nodup ∧ Reps K H O ds xs
  | .dt ks ds => ∃ xs, H a = some (.dT (ks.zip xs)) ∧ ks.length = ds.length ∧ ks.Nodup ∧ Reps K H O ds xs
  | _ => False
theorem Rep.view {K : PySem.W.Frag} {H : Hp} {O : List Addr} {d : D} {v : V} (h : Rep K H O d v) : View K H O d v := by
  cases d with
  | lst ds => obtain ⟨a, xs, e, q, _, r⟩ := h; exact ⟨a, xs, e, q, r⟩
  | dk ks ds => obtain ⟨a, xs, e, q, _, r⟩ := h; exact ⟨a, xs, e, q, r⟩
  | dt ks ds => obtain ⟨a, xs, e, q, _, r⟩ := h; exact ⟨a, xs, e, q, r⟩
  | _ => exact h
theorem Con.view {K : PySem.W.Frag} {H : Hp} {O : List Addr} {d : D} {a : Addr} (h : Con K H O d a) : View K H O d (.ref a) := by
  cases d with
  | lst ds => obtain ⟨xs, q, r⟩ := h; exact ⟨a, xs, rfl, q, r⟩
  | dk ks ds => obtain ⟨xs, q, r⟩ := h; exact ⟨a, xs, rfl, q, r⟩
  | dt ks ds => obtain ⟨xs, q, r⟩ := h; exact ⟨a, xs, rfl, q, r⟩
  | _ => exact h.elim
theorem Con.rep {K : PySem.W.Frag} {H : Hp} {O : List Addr} {d : D} {a : Addr} (h : Con K H O d a) (n : a ∉ O) : Rep K H O d (.ref a) := by
  cases d with
  | lst ds => obtain ⟨xs, q, r⟩ := h; exact ⟨a, xs, rfl, q, n, r⟩
  | dk ks ds => obtain ⟨xs, q, r⟩ := h; exact ⟨a, xs, rfl, q, n, r⟩
  | dt ks ds => obtain ⟨xs, q, r⟩ := h; exact ⟨a, xs, rfl, q, n, r⟩
  | _ => exact h.elim
theorem Con.same {K : PySem.W.Frag} {H H' : Hp} {O : List Addr} {d : D} {a : Addr} (h : Con K H O d a) (s : Same H H') : Con K H' O d a := by
  cases d with
  | lst ds => obtain ⟨xs, q, r⟩ := h; exact ⟨xs, s _ _ q, Reps.grow (Grow.same s) _ _ r⟩
  | dk ks ds => obtain ⟨xs, q, l, n, r⟩ := h; exact ⟨xs, s _ _ q, l, n, Reps.grow (Grow.same s) _ _ r⟩
  | dt ks ds => obtain ⟨xs, q, l, n, r⟩ := h; exact ⟨xs, s _ _ q, l, n, Reps.grow (Grow.same s) _ _ r⟩
  | _ => exact h.elim
theorem Con.sub {K : PySem.W.Frag} {H : Hp} {O O' : List Addr} {d : D} {a : Addr} (h : Con K H O d a) (g : ∀ a ∈ O', a ∈ O) : Con K H O' d a := by
  cases d with
  | lst ds => obtain ⟨xs, q, r⟩ := h; exact ⟨xs, q, Reps.sub g _ _ r⟩
  | dk ks ds => obtain ⟨xs, q, l, n, r⟩ := h; exact ⟨xs, q, l, n, Reps.sub g _ _ r⟩
  | dt ks ds => obtain ⟨xs, q, l, n, r⟩ := h; exact ⟨xs, q, l, n, Reps.sub g _ _ r⟩
  | _ => exact h.elim
theorem View.sub {K : PySem.W.Frag} {H : Hp} {O O' : List Addr} {d : D} {v : V} (h : View K H O d v) (g : ∀ a ∈ O', a ∈ O) : View K H O' d v := by
  cases d with
  | lst ds => obtain ⟨a, xs, e, q, r⟩ := h; exact ⟨a, xs, e, q, Reps.sub g _ _ r⟩
  | dk ks ds => obtain ⟨a, xs, e, q, l, n, r⟩ := h; exact ⟨a, xs, e, q, l, n, Reps.sub g _ _ r⟩
  | dt ks ds => obtain ⟨a, xs, e, q, l, n, r⟩ := h; exact ⟨a, xs, e, q, l, n, Reps.sub g _ _ r⟩
  | _ => exact Rep.sub g _ _ h
theorem View.rep0 {K : PySem.W.Frag} {H : Hp} {O : List Addr} {d : D} {v : V} (h : View K H O d v) : Rep K H [] d v := by
  have h := h.sub (O' := []) (fun _ z => nomatch z)
  cases d with
  | lst ds => obtain ⟨a, xs, e, q, r⟩ := h; exact ⟨a, xs, e, q, by simp, r⟩
  | dk ks ds => obtain ⟨a, xs, e, q, l, n, r⟩ := h; exact ⟨a, xs, e, q, by simp, l, n, r⟩
  | dt ks ds => obtain ⟨a, xs, e, q, l, n, r⟩ := h; exact ⟨a, xs, e, q, by simp, l, n, r⟩
  | _ => exact h

/-- val: a thing that stays; own: the frame's own list or dict; fre: a new list or dict; new: a thing all whose lists and dicts are new -/
inductive Kd where | val | own | fre | new
  deriving DecidableEq
structure EV where
  k : Kd
  d : D
noncomputable abbrev DE := List (Option EV)
noncomputable abbrev dv (d : D) : EV := ⟨.val, d⟩
noncomputable abbrev df (d : D) : EV := ⟨.fre, d⟩
noncomputable abbrev dO (d : D) : EV := ⟨.own, d⟩
/-- H0: the heap at the expression's start -/
noncomputable def RV (K : PySem.W.Frag) (H0 H : Hp) (O : List Addr) (r : EV) (v : V) : Prop := match r.k with
  | .val => Rep K H O r.d v
  | .own => ∃ a, v = .ref a ∧ a ∈ O ∧ Con K H O r.d a
  | .fre => ∃ a, v = .ref a ∧ H0 a = none ∧ a ∉ O ∧ Con K H (a :: O) r.d a
  | .new => RepN K H (fun a => a ∉ O ∧ H0 a = none) r.d v
section
variable {K : PySem.W.Frag} {H0 H1 H H' : Hp} {O : List Addr} {r : EV} {v : V}
theorem RV.val {d : D} (h : Rep K H O d v) : RV K H0 H O (dv d) v := h
theorem RV.same (h : RV K H0 H O r v) (s : Same H H') : RV K H0 H' O r v := by
  obtain ⟨k, d⟩ := r
  cases k with
  | val => exact Rep.grow (Grow.same s) _ _ h
  | own => obtain ⟨a, e, m, c⟩ := h; exact ⟨a, e, m, c.same s⟩
  | fre => obtain ⟨a, e, m, n, c⟩ := h; exact ⟨a, e, m, n, c.same s⟩
  | new => exact RepN.to s (fun _ z => z) _ _ h
theorem RV.start (h : RV K H0 H O r v) (s : Same H1 H0) : RV K H1 H O r v := by
  obtain ⟨k, d⟩ := r
  cases k with
  | val => exact h
  | own => exact h
  | fre => obtain ⟨a, e, m, n, c⟩ := h; exact ⟨a, e, s.free m, n, c⟩
  | new => exact RepN.to (Same.refl H) (fun a z => ⟨z.1, s.free z.2⟩) _ _ h
theorem RV.view (h : RV K H0 H O r v) : View K H O r.d v := by
  obtain ⟨k, d⟩ := r
  cases k with
  | val => exact Rep.view h
  | own => obtain ⟨a, e, m, c⟩ := h; subst e; exact c.view
  | fre => obtain ⟨a, e, m, n, c⟩ := h; subst e; exact (c.sub fun b hb => List.mem_cons_of_mem _ hb).view
  | new => exact (RepN.rep (fun a z => z.1) _ _ h).view
theorem RV.solid (h : RV K H0 H O r v) (hk : r.k ≠ .own) : Rep K H O r.d v := by
  obtain ⟨k, d⟩ := r
  cases k with
  | val => exact h
  | own => exact absurd rfl hk
  | fre => obtain ⟨a, e, m, n, c⟩ := h; subst e; exact (c.sub fun b hb => List.mem_cons_of_mem _ hb).rep n
  | new => exact RepN.rep (fun a z => z.1) _ _ h
end

/-- the frame: own lists and dicts by slot and place -/
structure REnv (K : PySem.W.Frag) (H₀ H : Hp) (σ : St) (ρ : DE) (o : List (Nat × Addr)) : Prop where
  same : Same H₀ H
  fresh : ∀ p ∈ o, H₀ p.2 = none
  trk : ∀ p ∈ o, ∃ u, H p.2 = some u
  mtb : ∀ p ∈ o, (∀ xs, H p.2 ≠ some (.tup xs)) ∧ ∀ ob u, H p.2 ≠ some (.frz ob u)
  nda : (o.map Prod.snd).Nodup
  slots : ∀ i r, ρ[i]? = some (some r) → ∃ v, σ[i]? = some (some v) ∧ ((r.k = .val ∧ Rep K H (o.map Prod.snd) r.d v) ∨ (r.k = .own ∧ ∃ a, v = .ref a ∧ (i, a) ∈ o ∧ Con K H (o.map Prod.snd) r.d a))
  len : σ.length = ρ.length
section
variable {K : PySem.W.Frag} {H₀ H H' : Hp} {σ : St} {ρ : DE} {o : List (Nat × Addr)}
theorem REnv.to (R : REnv K H₀ H σ ρ o) (s : Same H H') : REnv K H₀ H' σ ρ o where
  same := R.same.trans s
  fresh := R.fresh
  trk := fun p hp => let ⟨u, e⟩ := R.trk p hp; ⟨u, s _ _ e⟩
  mtb := fun p hp => by
    obtain ⟨u, e⟩ := R.trk p hp
    obtain ⟨m1, m2⟩ := R.mtb p hp
    refine ⟨fun xs z => ?_, fun ob w z => ?_⟩
    · rw [s _ _ e] at z; rw [← e] at z; exact m1 xs z
    · rw [s _ _ e] at z; rw [← e] at z; exact m2 ob w z
  nda := R.nda
  slots := fun i r e => by
    obtain ⟨v, ev, h⟩ := R.slots i r e
    refine ⟨v, ev, ?_⟩
    rcases h with ⟨k, h⟩ | ⟨k, a, e1, m, c⟩
    · exact .inl ⟨k, Rep.grow (Grow.same s) _ _ h⟩
    · exact .inr ⟨k, a, e1, m, c.same s⟩
  len := R.len
theorem REnv.ofree (R : REnv K H₀ H σ ρ o) {a : Addr} (h : H a = none) : a ∉ o.map Prod.snd := fun z => by
  obtain ⟨p, hp, e⟩ := List.mem_map.mp z
  obtain ⟨u, q⟩ := R.trk p hp
  rw [e, h] at q
  cases q
end

noncomputable abbrev TD := DE → (EV → Prop) → Prop
noncomputable abbrev TDb := DE → (Bool → Prop) → Prop
noncomputable abbrev TDs := DE → (List EV → Prop) → Prop
structure DZ where
  nx : DE → Prop
  rt : EV → Prop
  bk : DE → Prop := fun _ => False
  ct : DE → Prop := fun _ => False
noncomputable abbrev TDS := DE → DZ → Prop
noncomputable def RVs (K : PySem.W.Frag) (H0 H : Hp) (O : List Addr) : List EV → List V → Prop
  | [], vs => vs = []
  | r :: rs, vs => ∃ v ws, vs = v :: ws ∧ RV K H0 H O r v ∧ RVs K H0 H O rs ws
theorem RVs.same {K : PySem.W.Frag} {H0 H H' : Hp} {O : List Addr} (s : Same H H') : ∀ {rs : List EV} {vs : List V}, RVs K H0 H O rs vs → RVs K H0 H' O rs vs
  | [], _, h => h
  | r :: rs, vs, h => by
    obtain ⟨v, ws, e, q, t⟩ := h
    exact ⟨v, ws, e, q.same s, t.same s⟩
theorem RVs.start {K : PySem.W.Frag} {H0 H1 H : Hp} {O : List Addr} (s : Same H1 H0) : ∀ {rs : List EV} {vs : List V}, RVs K H0 H O rs vs → RVs K H1 H O rs vs
  | [], _, h => h
  | r :: rs, vs, h => by
    obtain ⟨v, ws, e, q, t⟩ := h
    exact ⟨v, ws, e, q.start s, t.start s⟩
theorem RVs.reps {K : PySem.W.Frag} {H0 H : Hp} {O : List Addr} : ∀ {rs : List EV} {vs : List V}, RVs K H0 H O rs vs → (∀ r ∈ rs, r.k ≠ .own) → Reps K H O (rs.map EV.d) vs
  | [], _, h, _ => h
  | r :: rs, vs, h, n => by
    obtain ⟨v, ws, e, q, t⟩ := h
    exact ⟨v, ws, e, q.solid (n r (List.mem_cons_self ..)), t.reps fun r' h' => n r' (List.mem_cons_of_mem _ h')⟩
theorem RVs.reps0 {K : PySem.W.Frag} {H0 H : Hp} {O : List Addr} : ∀ {rs : List EV} {vs : List V}, RVs K H0 H O rs vs → Reps K H [] (rs.map EV.d) vs
  | [], _, h => h
  | r :: rs, vs, h => by
    obtain ⟨v, ws, e, q, t⟩ := h
    exact ⟨v, ws, e, q.view.rep0, t.reps0⟩

noncomputable def liftE (K : PySem.W.Frag) (H₀ : Hp) (t : TD) : TE := fun σ H Q => ∃ ρ o, REnv K H₀ H σ ρ o ∧ ∃ φ, t ρ φ ∧ ∀ v r H', Same H H' → RV K H H' (o.map Prod.snd) r v → φ r → Q v H'
noncomputable def liftT (K : PySem.W.Frag) (H₀ : Hp) (t : TDb) : TT := fun σ H Q => ∃ ρ o, REnv K H₀ H σ ρ o ∧ ∃ φ, t ρ φ ∧ ∀ b H', Same H H' → φ b → Q b H'
noncomputable def liftA (K : PySem.W.Frag) (H₀ : Hp) (t : TDs) : TA := fun σ H Q => ∃ ρ o, REnv K H₀ H σ ρ o ∧ ∃ φ, t ρ φ ∧ ∀ vs rs H', Same H H' → RVs K H H' (o.map Prod.snd) rs vs → φ rs → Q vs H'
noncomputable def liftS (K : PySem.W.Frag) (H₀ : Hp) (t : TDS) : TS := fun D σ H => ∃ ρ o, REnv K H₀ H σ ρ o ∧ ∃ Z, t ρ Z ∧
  (∀ ρ' σ' H' o', Grow (o.map Prod.snd) (o'.map Prod.snd) H H' → REnv K H₀ H' σ' ρ' o' → Z.nx ρ' → D.nx σ' H') ∧
  (∀ ρ' σ' H' o', Grow (o.map Prod.snd) (o'.map Prod.snd) H H' → REnv K H₀ H' σ' ρ' o' → Z.bk ρ' → D.bk σ' H') ∧
  (∀ ρ' σ' H' o', Grow (o.map Prod.snd) (o'.map Prod.snd) H H' → REnv K H₀ H' σ' ρ' o' → Z.ct ρ' → D.ct σ' H') ∧
  (∀ v r H', Same H₀ H' → RV K H₀ H' [] r v → Z.rt r → D.rt v H')
noncomputable def ED (G : Hp → Prop) (X : Cx) (e : Expr) (t : TD) : Prop := ∀ H₀ : {H : Hp // G H}, PE X e (liftE X.K H₀.1 t)
noncomputable def ET (G : Hp → Prop) (X : Cx) (e : Expr) (t : TDb) : Prop := ∀ H₀ : {H : Hp // G H}, PT X e (liftT X.K H₀.1 t)
noncomputable def EW (G : Hp → Prop) (X : Cx) (e : Expr) (t : TDb) : Prop := ∀ H₀ : {H : Hp // G H}, PW X e (liftT X.K H₀.1 t)
noncomputable def EA (G : Hp → Prop) (X : Cx) (es : List Expr) (t : TDs) : Prop := ∀ H₀ : {H : Hp // G H}, PA X es (liftA X.K H₀.1 t)
noncomputable def SD (G : Hp → Prop) (X : Cx) (st : Stmt) (t : TDS) : Prop := ∀ H₀ : {H : Hp // G H}, PS X st (liftS X.K H₀.1 t)
noncomputable def SDs (G : Hp → Prop) (X : Cx) (st : List Stmt) (t : TDS) : Prop := ∀ H₀ : {H : Hp // G H}, PSs X st (liftS X.K H₀.1 t)
theorem impE {X : Cx} {e : Expr} {t t' : TE} (h : PE X e t) (i : ∀ σ H Q, t' σ H Q → t σ H Q) : PE X e t' := fun pins s σ H Q I q => h pins s σ H Q I (i σ H Q q)
theorem impT {X : Cx} {e : Expr} {t t' : TT} (h : PT X e t) (i : ∀ σ H Q, t' σ H Q → t σ H Q) : PT X e t' := fun pins s σ H Q I q => h pins s σ H Q I (i σ H Q q)
theorem impW {X : Cx} {e : Expr} {t t' : TT} (h : PW X e t) (i : ∀ σ H Q, t' σ H Q → t σ H Q) : PW X e t' := fun wh pins s σ H Q I q => h wh pins s σ H Q I (i σ H Q q)
theorem impA {X : Cx} {es : List Expr} {t t' : TA} (h : PA X es t) (i : ∀ σ H Q, t' σ H Q → t σ H Q) : PA X es t' := fun pos pins s σ H Q I q => h pos pins s σ H Q I (i σ H Q q)
theorem impS {X : Cx} {st : Stmt} {t t' : TS} (h : PS X st t) (i : ∀ D σ H, t' D σ H → t D σ H) : PS X st t' := fun pins s σ H D I q => h pins s σ H D I (i D σ H q)
theorem impSs {X : Cx} {st : List Stmt} {t t' : TS} (h : PSs X st t) (i : ∀ D σ H, t' D σ H → t D σ H) : PSs X st t' := fun pins s σ H D I q => h pins s σ H D I (i D σ H q)
end DL

set_option Elab.async false
set_option linter.all false
set_option maxRecDepth 100000
set_option maxHeartbeats 4000000
namespace DL
open PySem PySem.Spec L2 L3
open PyProof.Rows hiding St
variable {Γ : Hp → Prop}

noncomputable def slot : DE → Nat → Option EV
  | [], _ => none
  | x :: _, 0 => x
  | _ :: r, i + 1 => slot r i
theorem slot_eq : ∀ {ρ : DE} {i : Nat} {r : EV}, slot ρ i = some r → ρ[i]? = some (some r)
  | [], _, _, h => by cases h
  | x :: _, 0, _, h => by cases h; rfl
  | _ :: l, i + 1, r, h => by rw [List.getElem?_cons_succ]; exact slot_eq (ρ := l) h
noncomputable def dName (i : Nat) : TD := fun ρ φ => match slot ρ i with
  | some r => φ r
  | none => False
noncomputable def dC (d : D) : TD := fun _ φ => φ (dv d)
section
variable {X : Cx} {a b c e : Expr} {ta tb tc te : TD} {pos : Pos}
theorem ed_name (i : Nat) {x : Str} (hN : X.N[i]? = some x := by rfl) (hv : Vis X.env.scope x := by first | exact Or.inl rfl | exact Or.inr (Or.inl rfl) | exact Or.inr (Or.inr rfl)) (hd : (x == ("__debug__" : Str)) = false := by decide)
    (hcd : (x == ("__classdict__" : Str)) = false := by decide) : ED Γ X (.Name x pos) (dName i) := fun H₀ => impE (pe_var hN hv hd hcd) fun σ H Q h => by
  obtain ⟨ρ, o, R, φ, hφ, k⟩ := h
  cases e : slot ρ i with
  | none =>
    simp only [dName, e] at hφ
  | some r =>
    simp only [dName, e] at hφ
    obtain ⟨v, ev, h⟩ := R.slots i r (slot_eq e)
    refine ⟨v, ev, k v r H (Same.refl H) ?_ hφ⟩
    obtain ⟨kd, d⟩ := r
    rcases h with ⟨rfl, h⟩ | ⟨rfl, a, e1, m, c⟩
    · exact h
    · exact ⟨a, e1, List.mem_map.mpr ⟨_, m, rfl⟩, c⟩
theorem ed_c {x : Expr} {v : V} {d : D} (h : PE X x (tC v)) (hr : ∀ H O, Rep X.K H O d v) : ED Γ X x (dC d) := fun H₀ => impE h fun σ H Q h => by
  obtain ⟨ρ, o, R, φ, hφ, k⟩ := h
  exact k v (dv d) H (Same.refl H) (hr H _) hφ
theorem ed_int {i : Int} {j pos} : ED Γ X (.Constant (.int i) j pos) (dC (.int i)) := ed_c pe_int fun _ _ => rfl
theorem ed_bl {b : Bool} {j pos} : ED Γ X (.Constant (.bool b) j pos) (dC (.bl b)) := ed_c pe_bl fun _ _ => rfl
theorem ed_non {j pos} : ED Γ X (.Constant .none j pos) (dC .non) := ed_c pe_non fun _ _ => rfl
theorem ed_str {x : Str} {j pos} : ED Γ X (.Constant (.str x) j pos) (dC (.str x)) := ed_c pe_str fun _ _ => rfl
/-- a constant of the module -/
structure GC (K : PySem.W.Frag) (mg : Str → Option Value) (x : Str) (d : D) : Prop where
  ex : ∃ u v, mg x = some u ∧ RelV v u ∧ ∀ H O, Rep K H O d v
theorem ed_glob {x : Str} {d : D} (G : GC X.K X.mg x d) (hg : Gl X x := by rfl) (hd : (x == ("__debug__" : Str)) = false := by decide) : ED Γ X (.Name x pos) (dC d) := by
  obtain ⟨u, v, hm, r, h⟩ := G.ex
  exact ed_c (pe_glob hg hm r hd) h
theorem ed_ty {x : Str} {n : String} (hm : X.mg x = none) (hv : bootBuiltins x = some (.type n)) (hg : Gl X x := by rfl) (hn : x ≠ "__name__" := by decide) (hd : (x == ("__debug__" : Str)) = false := by decide) : ED Γ X (.Name x pos) (dC (.ty n)) :=
  ed_c (pe_bltn hg hm hv (v := .ty n) rfl hn hd) fun _ _ => rfl

noncomputable def Link2 (K : PySem.W.Frag) (rr : R2) (s : D → D → (EV → Prop) → Prop) : Prop :=
  ∀ (H : Hp) (O : List Addr) (x y : D) (vx vy : V) (φ : EV → Prop) (Q : VK), (∀ a, H a = none → a ∉ O) → View K H O x vx → View K H O y vy → s x y φ →
    (∀ v r H', Same H H' → RV K H H' O r v → φ r → Q v H') → rr vx vy H Q
noncomputable def d2 (s : D → D → (EV → Prop) → Prop) (ta tb : TD) : TD := fun ρ φ => ta ρ fun x => tb ρ fun y => s x.d y.d φ
theorem lift2 {rr : R2} {s : D → D → (EV → Prop) → Prop} {H₀ : Hp} (hl : Link2 X.K rr s) : ∀ σ H Q, liftE X.K H₀ (d2 s ta tb) σ H Q → tOp rr (liftE X.K H₀ ta) (liftE X.K H₀ tb) σ H Q := fun σ H Q h => by
  obtain ⟨ρ, o, R, φ, hφ, k⟩ := h
  refine ⟨ρ, o, R, _, hφ, fun v1 r1 H1 s1 rv1 h1 => ⟨ρ, o, R.to s1, _, h1, fun v2 r2 H2 s2 rv2 h2 => ?_⟩⟩
  exact hl H2 _ r1.d r2.d v1 v2 φ Q (fun a e => R.ofree ((s1.trans s2).free e)) (rv1.same s2).view rv2.view h2 fun v r H' s3 rv h => k v r H' (s1.trans (s2.trans s3)) (rv.start (s1.trans s2)) h
theorem ed_bin {op : Operator} {rr : R2} {s : D → D → (EV → Prop) → Prop} (ho : OpR X (binaryOp op) rr) (hl : Link2 X.K rr s) (ha : ED Γ X a ta) (hb : ED Γ X b tb) : ED Γ X (.BinOp a op b pos) (d2 s ta tb) := fun H₀ =>
  impE (pe_op ho (ha H₀) (hb H₀)) (lift2 hl)
theorem ed_cmp {op : CmpOp} {rr : R2} {s : D → D → (EV → Prop) → Prop} (ho : OpR X (compareOp op) rr) (hl : Link2 X.K rr s) (ha : ED Γ X a ta) (hb : ED Γ X b tb) (hm : behindInMarks op b = false) : ED Γ X (.Compare a [op] [b] pos) (d2 s ta tb) := fun H₀ =>
  impE (pe_cmpR ho (ha H₀) (hb H₀) hm) (lift2 hl)

theorem op_mulG : OpR X (binaryOp .Mult) (rI IntMulOk fun i j => .int (i * j)) := opI fun _ _ _ _ _ _ _ hc q => PyProof.Rows.mul_int q hc
noncomputable def FdOk (i j : Int) : Prop := j ≠ 0 ∧ j.natAbs.log2 < 9000
theorem op_fdivG : OpR X (binaryOp .FloorDiv) (rI FdOk fun i j => .int (i.fdiv j)) := opI fun _ _ _ _ _ _ _ hc q => floordiv_int hc.1 q (.inl (PyProof.noPylong_of_log2 hc.2))
noncomputable def sI (C : Int → Int → Prop) (g : Int → Int → D) : D → D → (EV → Prop) → Prop := fun x y φ => match x, y with
  | .int i, .int j => C i j ∧ φ (dv (g i j))
  | _, _ => False
theorem link_I {K : PySem.W.Frag} {C : Int → Int → Prop} {g : Int → Int → D} {gv : Int → Int → V} (hg : ∀ i j H O, Rep K H O (g i j) (gv i j)) : Link2 K (rI C gv) (sI C g) := by
  intro H O x y vx vy φ Q ho hx hy h k
  unfold sI at h
  split at h
  · exact ⟨_, _, hx, hy, h.1, k _ _ H (Same.refl H) (by exact hg _ _ H O) h.2⟩
  · exact h.elim
theorem Link2.imp {K : PySem.W.Frag} {rr rr' : R2} {s : D → D → (EV → Prop) → Prop} (h : Link2 K rr s) (i : ∀ x y H Q, rr x y H Q → rr' x y H Q) : Link2 K rr' s := fun H O x y vx vy φ Q ho hx hy hs k => i _ _ _ _ (h H O x y vx vy φ Q ho hx hy hs k)
noncomputable def sI0 (g : Int → Int → D) : D → D → (EV → Prop) → Prop := fun x y φ => match x, y with
  | .int i, .int j => φ (dv (g i j))
  | _, _ => False
theorem link_I0 {K : PySem.W.Frag} {g : Int → Int → D} {gv : Int → Int → V} (hg : ∀ i j H O, Rep K H O (g i j) (gv i j)) : Link2 K (rI0 gv) (sI0 g) := by
  intro H O x y vx vy φ Q ho hx hy h k
  unfold sI0 at h
  split at h
  · exact ⟨_, _, hx, hy, k _ _ H (Same.refl H) (by exact hg _ _ H O) h⟩
  · exact h.elim
noncomputable abbrev sSub := sI0 fun i j => .int (i - j)
noncomputable abbrev sFd := sI FdOk fun i j => .int (i.fdiv j)
noncomputable abbrev sMod := sI (fun _ j => j ≠ 0) fun i j => .int (i.fmod j)
noncomputable abbrev sPow := sI CPow fun i j => .int (i ^ j.toNat)
noncomputable abbrev sLt := sI0 fun i j => .bl (decide (i < j))
noncomputable abbrev sLe := sI0 fun i j => .bl (decide (i ≤ j))
noncomputable abbrev sGt := sI0 fun i j => .bl (decide (j < i))
noncomputable abbrev sGe := sI0 fun i j => .bl (decide (j ≤ i))
theorem ed_sub (ha : ED Γ X a ta) (hb : ED Γ X b tb) : ED Γ X (.BinOp a .Sub b pos) (d2 sSub ta tb) := ed_bin op_sub (link_I0 fun _ _ _ _ => rfl) ha hb
theorem ed_fd (ha : ED Γ X a ta) (hb : ED Γ X b tb) : ED Γ X (.BinOp a .FloorDiv b pos) (d2 sFd ta tb) := ed_bin op_fdivG (link_I fun _ _ _ _ => rfl) ha hb
theorem ed_mod (ha : ED Γ X a ta) (hb : ED Γ X b tb) : ED Γ X (.BinOp a .Mod b pos) (d2 sMod ta tb) := ed_bin op_modN (link_I fun _ _ _ _ => rfl) ha hb
theorem ed_pow (ha : ED Γ X a ta) (hb : ED Γ X b tb) : ED Γ X (.BinOp a .Pow b pos) (d2 sPow ta tb) := ed_bin op_pow (link_I fun _ _ _ _ => rfl) ha hb
noncomputable def sAdd : D → D → (EV → Prop) → Prop := fun x y φ => match x, y with
  | .int i, .int j => φ (dv (.int (i + j)))
  | .str p, .str q => p.length + q.length ≤ sizeLine ∧ φ (dv (.str (p ++ q)))
  | .lst p, .lst q => p.length + q.length ≤ sizeLine ∧ φ (df (.lst (p ++ q)))
  | .tup p, .tup q => p ≠ [] ∧ q ≠ [] ∧ p.length + q.length ≤ sizeLine ∧ φ (dv (.tup (p ++ q)))
  | _, _ => False
theorem same_new {H : Hp} {p : Addr} (h : H p = none) (o : HO) : Same H (upd H p o) := fun b u q => by rw [upd_ne (ne_of_none q h)]; exact q
theorem reps_new {K : PySem.W.Frag} {H : Hp} {O : List Addr} {p : Addr} {o : HO} {ds : List D} {xs : List V} (hp : H p = none) (r : Reps K H O ds xs) : Reps K (upd H p o) O ds xs := Reps.grow (Grow.same (same_new hp o)) _ _ r
theorem grow_new {H : Hp} {O : List Addr} {p : Addr} {o : HO} (hp : H p = none) : Grow O (p :: O) H (upd H p o) :=
  ⟨fun b u h n => ⟨same_new hp o b u h, fun z => (List.mem_cons.mp z).elim (fun e => ne_of_none h hp e) n⟩, fun b xs h => same_new hp o b _ h, fun b ob u h => same_new hp o b _ h⟩
theorem rv_lst {K : PySem.W.Frag} {H : Hp} {O : List Addr} {p : Addr} {ds : List D} {xs : List V} (ho : ∀ a, H a = none → a ∉ O) (hp : H p = none) (r : Reps K H O ds xs) : RV K H (upd H p (.lst xs)) O (df (.lst ds)) (.ref p) :=
  ⟨p, rfl, hp, ho p hp, xs, upd_same, Reps.grow (grow_new hp) _ _ r⟩
theorem rv_tup {K : PySem.W.Frag} {H : Hp} {O : List Addr} {p : Addr} {ds : List D} {xs : List V} (hp : H p = none) (r : Reps K H O ds xs) : RV K H (upd H p (.tup xs)) O (dv (.tup ds)) (.ref p) :=
  ⟨p, xs, rfl, ⟨SqT.of upd_same, upd_same⟩, reps_new hp r⟩
theorem link_add : Link2 X.K (fun x y H Q => rI0 (fun i j => .int (i + j)) x y H Q ∨ (∃ i j, x = .str i ∧ y = .str j ∧ i.length + j.length ≤ sizeLine ∧ Q (.str (i ++ j)) H) ∨ rCat x y H Q ∨ rCatT X.K x y H Q) sAdd := by
  intro H O x y vx vy φ Q ho hx hy h k
  unfold sAdd at h
  split at h
  · exact .inl ⟨_, _, hx, hy, k _ _ H (Same.refl H) (by exact rfl) h⟩
  · exact .inr (.inl ⟨_, _, hx, hy, h.1, k _ _ H (Same.refl H) (by exact rfl) h.2⟩)
  · obtain ⟨a1, xs, rfl, q1, r1⟩ := hx
    obtain ⟨a2, ys, rfl, q2, r2⟩ := hy
    refine .inr (.inr (.inl ⟨a1, a2, xs, ys, rfl, rfl, q1, q2, by rw [r1.length, r2.length]; exact h.1, fun p hp => ?_⟩))
    exact k _ _ _ (same_new hp _) (rv_lst ho hp (r1.append r2)) h.2
  · obtain ⟨n1, n2, hz, hp⟩ := h
    obtain ⟨a1, xs, rfl, q1, r1⟩ := hx
    obtain ⟨a2, ys, rfl, q2, r2⟩ := hy
    refine .inr (.inr (.inr ⟨a1, a2, xs, ys, rfl, rfl, q1.1, q2.1, ?_, by rw [r1.length, r2.length]; exact hz, fun z => ?_, fun _ p hpn => ?_⟩))
    · intro z
      have e := r1.length
      rw [z] at e
      exact n1 (List.eq_nil_of_length_eq_zero e.symm)
    · exfalso
      have e := r2.length
      rw [z] at e
      exact n2 (List.eq_nil_of_length_eq_zero e.symm)
    · exact k _ _ _ (same_new hpn _) (rv_tup hpn (r1.append r2)) hp
  · exact h.elim
theorem ed_add (ha : ED Γ X a ta) (hb : ED Γ X b tb) : ED Γ X (.BinOp a .Add b pos) (d2 sAdd ta tb) := ed_bin (op_add.or (op_add_str.or (op_cat.or op_catT))) link_add ha hb
noncomputable def sMul : D → D → (EV → Prop) → Prop := fun x y φ => match x, y with
  | .int i, .int j => IntMulOk i j ∧ φ (dv (.int (i * j)))
  | .lst p, .int k => -(2 ^ 63) ≤ k ∧ k < 2 ^ 63 ∧ p.length * k.toNat ≤ sizeLine ∧ φ (df (.lst (List.replicate k.toNat p).flatten))
  | _, _ => False
end
end DL

set_option Elab.async false
set_option linter.all false
set_option maxRecDepth 100000
set_option maxHeartbeats 4000000
namespace DL
open PySem PySem.Spec L2 L3
open PyProof.Rows hiding St
variable {Γ : Hp → Prop}

mutual
noncomputable def eqD : D → D → Bool
  | .non, .non => true
  | .bl a, .bl b => a == b
  | .bl a, .int b => (if a then 1 else 0) == b
  | .int a, .bl b => a == (if b then 1 else 0)
  | .int a, .int b => a == b
  | .str a, .str b => a == b
  | .tup a, .tup b => eqDs a b
  | .lst a, .lst b => eqDs a b
  | _, _ => false
noncomputable def eqDs : List D → List D → Bool
  | [], [] => true
  | a :: as, b :: bs => eqD a b && eqDs as bs
  | _, _ => false
end
noncomputable def okD : Nat → D → Prop
  | 0, d => match d with
    | .non => True
    | .bl _ => True
    | .int _ => True
    | .str _ => True
    | _ => False
  | n + 1, d => match d with
    | .non => True
    | .bl _ => True
    | .int _ => True
    | .str _ => True
    | .tup ds => ∀ x ∈ ds, okD n x
    | .lst ds => ∀ x ∈ ds, okD n x
    | _ => False
theorem eqDs_true : ∀ {ds es : List D}, eqDs ds es = true ↔ ds.length = es.length ∧ ∀ (j : Nat) (x y : D), ds[j]? = some x → es[j]? = some y → eqD x y = true
  | [], [] => by simp [eqDs]
  | [], y :: es => by simp [eqDs]
  | x :: ds, [] => by simp [eqDs]
  | x :: ds, y :: es => by
    rw [eqDs, Bool.and_eq_true, eqDs_true]
    constructor
    · rintro ⟨h, hl, q⟩
      refine ⟨by simp [hl], fun j a b ha hb => ?_⟩
      cases j with
      | zero => simp at ha hb; subst ha hb; exact h
      | succ j => exact q j a b (by simpa using ha) (by simpa using hb)
    · rintro ⟨hl, q⟩
      exact ⟨q 0 x y rfl rfl, by simpa using hl, fun j a b ha hb => q (j + 1) a b (by simpa using ha) (by simpa using hb)⟩
theorem eqDs_range (ds es : List D) : eqDs ds es = ((List.range (min ds.length es.length)).all (fun j => eqD (ds.getD j .non) (es.getD j .non)) && ds.length == es.length) := by
  rw [Bool.eq_iff_iff, eqDs_true, Bool.and_eq_true, List.all_eq_true]
  constructor
  · rintro ⟨hl, q⟩
    refine ⟨fun j hj => ?_, by simp [hl]⟩
    have hj' := List.mem_range.mp hj
    have h1 : j < ds.length := by omega
    have h2 : j < es.length := by omega
    have e1 : ds[j]? = some ds[j] := by simp [h1]
    have e2 : es[j]? = some es[j] := by simp [h2]
    have := q j _ _ e1 e2
    simpa [List.getD, e1, e2] using this
  · rintro ⟨q, hl⟩
    have hl' : ds.length = es.length := by simpa using hl
    refine ⟨hl', fun j x y hx hy => ?_⟩
    have h1 := (List.getElem?_eq_some_iff.mp hx).1
    have := q j (List.mem_range.mpr (by omega))
    simpa [List.getD, hx, hy] using this
theorem eqD_refl : ∀ (n : Nat) (d : D), okD n d → eqD d d = true := by
  intro n
  induction n with
  | zero => intro d h; cases d <;> first | exact h.elim | simp [eqD]
  | succ n ih =>
    intro d h
    cases d with
    | tup ds =>
      show eqDs ds ds = true
      refine eqDs_true.mpr ⟨rfl, fun j x y hx hy => ?_⟩
      rw [hx] at hy
      cases hy
      exact ih x (h x (List.mem_of_getElem? hx))
    | lst ds =>
      show eqDs ds ds = true
      refine eqDs_true.mpr ⟨rfl, fun j x y hx hy => ?_⟩
      rw [hx] at hy
      cases hy
      exact ih x (h x (List.mem_of_getElem? hx))
    | dk _ _ => exact h.elim
    | dt _ _ => exact h.elim
    | ty _ => exact h.elim
    | cn _ => exact h.elim
    | scr _ => exact h.elim
    | exc _ => exact h.elim
    | fd _ => exact h.elim
    | _ => simp [eqD]

section
variable {X : Cx} {pins : List (Addr × Obj)} {σ : St} {H : Hp} {s : Shared}
/-- one value at one place is one thing -/
theorem Rep.inj (I : Inv X pins σ H s) : ∀ (n : Nat) (d e : D) (v : V), okD n d → okD n e → Rep X.K H [] d v → Rep X.K H [] e v → d = e := by
  intro n
  induction n with
  | zero =>
    intro d e v hd he h1 h2
    cases d <;> first | exact hd.elim | (cases e <;> first | exact he.elim | (have z := (show v = _ from h1).symm.trans (show v = _ from h2); first | rfl | (injection z with z; rw [z]) | cases z))
  | succ n ih =>
    have lists : ∀ (ds es : List D) (xs : List V), (∀ x ∈ ds, okD n x) → (∀ x ∈ es, okD n x) → Reps X.K H [] ds xs → Reps X.K H [] es xs → ds = es := by
      intro ds
      induction ds with
      | nil =>
        intro es xs _ _ r1 r2
        have := r1.length
        have h2 := r2.length
        rw [this] at h2
        exact (List.eq_nil_of_length_eq_zero h2.symm).symm
      | cons d ds ih2 =>
        intro es xs h1 h2 r1 r2
        obtain ⟨v, r, rfl, q, t⟩ := r1
        cases es with
        | nil => cases r2
        | cons e es =>
          obtain ⟨v', r', e1, q', t'⟩ := r2
          cases e1
          rw [ih d e v (h1 d (List.mem_cons_self ..)) (h2 e (List.mem_cons_self ..)) q q', ih2 es r (fun x hx => h1 x (List.mem_cons_of_mem _ hx)) (fun x hx => h2 x (List.mem_cons_of_mem _ hx)) t t']
    intro d e v hd he h1 h2
    have noTL : ∀ (a : Addr) (xs ys : List V), SqT X.K H a xs → H a = some (.lst ys) → False := fun a xs ys q1 q2 => by
      obtain ⟨its, _, p1, _⟩ := I.tuple q1
      obtain ⟨its2, _, p2, _⟩ := I.list (SqL.of q2)
      exact SeqAt.ne_of_list_tuple p2.isList (show s.heap.IsTuple a its.toArray from p1) rfl
    cases d with
    | tup ds =>
      obtain ⟨a, xs, rfl, q1, r1⟩ := h1
      cases e with
      | tup es =>
        obtain ⟨a', ys, e1, q2, r2⟩ := h2
        cases e1
        have := I.tuple_inj q1.1 q2.1
        subst this
        rw [lists ds es xs hd he r1 r2]
      | lst es =>
        obtain ⟨a', ys, e1, q2, _, r2⟩ := h2
        cases e1
        exact (noTL _ _ _ q1.1 q2).elim
      | dk _ _ => exact he.elim
      | dt _ _ => exact he.elim
      | scr _ => exact he.elim
      | exc _ => exact he.elim
      | fd _ => exact he.elim
      | ty _ => exact he.elim
      | cn _ => exact he.elim
      | _ => cases (show V.ref a = _ from h2)
    | lst ds =>
      obtain ⟨a, xs, rfl, q1, _, r1⟩ := h1
      cases e with
      | tup es =>
        obtain ⟨a', ys, e1, q2, r2⟩ := h2
        cases e1
        exact (noTL _ _ _ q2.1 q1).elim
      | lst es =>
        obtain ⟨a', ys, e1, q2, _, r2⟩ := h2
        cases e1
        have := I.list_inj (SqL.of q1) (SqL.of q2)
        subst this
        rw [lists ds es xs hd he r1 r2]
      | dk _ _ => exact he.elim
      | dt _ _ => exact he.elim
      | scr _ => exact he.elim
      | exc _ => exact he.elim
      | fd _ => exact he.elim
      | ty _ => exact he.elim
      | cn _ => exact he.elim
      | _ => cases (show V.ref a = _ from h2)
    | dk _ _ => exact hd.elim
    | dt _ _ => exact hd.elim
    | scr _ => exact hd.elim
    | exc _ => exact hd.elim
    | fd _ => exact hd.elim
    | ty _ => exact hd.elim
    | cn _ => exact hd.elim
    | non =>
      cases e with
      | tup es => obtain ⟨a', ys, e1, _⟩ := h2; cases (show v = _ from h1); cases e1
      | lst es => obtain ⟨a', ys, e1, _⟩ := h2; cases (show v = _ from h1); cases e1
      | dk _ _ => exact he.elim
      | dt _ _ => exact he.elim
      | scr _ => exact he.elim
      | exc _ => exact he.elim
      | fd _ => exact he.elim
      | ty _ => exact he.elim
      | cn _ => exact he.elim
      | non => rfl
      | _ => cases (show v = _ from h1); cases (show V.non = _ from h2)
    | bl b =>
      cases e with
      | tup es => obtain ⟨a', ys, e1, _⟩ := h2; cases (show v = _ from h1); cases e1
      | lst es => obtain ⟨a', ys, e1, _⟩ := h2; cases (show v = _ from h1); cases e1
      | dk _ _ => exact he.elim
      | dt _ _ => exact he.elim
      | scr _ => exact he.elim
      | exc _ => exact he.elim
      | fd _ => exact he.elim
      | ty _ => exact he.elim
      | cn _ => exact he.elim
      | _ => cases (show v = _ from h1); cases (show V.bl b = _ from h2) <;> rfl
    | int b =>
      cases e with
      | tup es => obtain ⟨a', ys, e1, _⟩ := h2; cases (show v = _ from h1); cases e1
      | lst es => obtain ⟨a', ys, e1, _⟩ := h2; cases (show v = _ from h1); cases e1
      | dk _ _ => exact he.elim
      | dt _ _ => exact he.elim
      | scr _ => exact he.elim
      | exc _ => exact he.elim
      | fd _ => exact he.elim
      | ty _ => exact he.elim
      | cn _ => exact he.elim
      | _ => cases (show v = _ from h1); cases (show V.int b = _ from h2) <;> rfl
    | str b =>
      cases e with
      | tup es => obtain ⟨a', ys, e1, _⟩ := h2; cases (show v = _ from h1); cases e1
      | lst es => obtain ⟨a', ys, e1, _⟩ := h2; cases (show v = _ from h1); cases e1
      | dk _ _ => exact he.elim
      | dt _ _ => exact he.elim
      | scr _ => exact he.elim
      | exc _ => exact he.elim
      | fd _ => exact he.elim
      | ty _ => exact he.elim
      | cn _ => exact he.elim
      | _ => cases (show v = _ from h1); cases (show V.str b = _ from h2) <;> rfl

/-- a value's look in the heap -/
inductive Sh (K : PySem.W.Frag) (H : Hp) (s : Shared) : D → Value → Prop where
  | non : Sh K H s .non .none
  | bl (b : Bool) : Sh K H s (.bl b) (.bool b)
  | int (i : Int) (t : Tok) : Sh K H s (.int i) (.int i t)
  | str (x : Str) (t : Tok) : Sh K H s (.str x) (.str x t)
  | tup {a : Addr} {ds : List D} {xs : List V} {its : List Value} (p : s.heap.IsTuple a its.toArray) (r : Vals xs its) (q : Reps K H [] ds xs) : Sh K H s (.tup ds) (.ref a)
  | lst {a : Addr} {ds : List D} {xs : List V} {its : List Value} (p : s.heap.IsList a its.toArray) (r : Vals xs its) (q : Reps K H [] ds xs) : Sh K H s (.lst ds) (.ref a)
theorem sh_of (I : Inv X pins σ H s) {n : Nat} {d : D} {x : V} {u : Value} (hd : okD n d) (h : Rep X.K H [] d x) (r : RelV x u) : Sh X.K H s d u := by
  cases d with
  | non => cases (show x = _ from h); cases r; exact .non
  | bl b => cases (show x = _ from h); cases r; exact .bl b
  | int b => cases (show x = _ from h); obtain ⟨t, rfl⟩ := r; exact .int b t
  | str b => cases (show x = _ from h); obtain ⟨t, rfl⟩ := r; exact .str b t
  | ty _ => cases n <;> exact hd.elim
  | cn _ => cases n <;> exact hd.elim
  | dk _ _ => cases n <;> exact hd.elim
  | dt _ _ => cases n <;> exact hd.elim
  | scr _ => cases n <;> exact hd.elim
  | exc _ => cases n <;> exact hd.elim
  | fd _ => cases n <;> exact hd.elim
  | tup ds =>
    obtain ⟨a, xs, rfl, q, t⟩ := h
    cases r
    obtain ⟨its, rv, p, _⟩ := I.tuple q.1
    exact .tup (show s.heap.IsTuple a its.toArray from p) rv t
  | lst ds =>
    obtain ⟨a, xs, rfl, q, _, t⟩ := h
    cases r
    obtain ⟨its, rv, p, _⟩ := I.list (SqL.of q)
    exact .lst p.isList rv t
theorem eq_main (I : Inv X pins σ H s) : ∀ (n : Nat) (d e : D) (x y : V) (u v : Value) (A : Around), okD n d → okD n e → Rep X.K H [] d x → Rep X.K H [] e y → RelV x u → RelV y v → A.units + n < cLine →
    SeqAt.RcAt A s u v (eqD d e) ∧ SeqAt.RcNeAt A s u v (!eqD d e) ∧ SeqAt.EqAt A s u v (eqD d e) := by
  intro n
  induction n with
  | zero =>
    intro d e x y u v A hd he h1 h2 r1 r2 hu
    have hu' : A.units < cLine := by omega
    cases sh_of I hd h1 r1 with
    | tup => exact hd.elim
    | lst => exact hd.elim
    | non =>
      cases sh_of I he h2 r2 with
      | non => exact ⟨SeqAt.RcAt.none_none, SeqAt.RcNeAt.none_none, SeqAt.EqAt.same _⟩
      | bl b => exact ⟨SeqAt.RcAt.none_bool b, SeqAt.RcNeAt.none_bool b, SeqAt.EqAt.none_bool b⟩
      | int i t => exact ⟨SeqAt.RcAt.none_int i t, SeqAt.RcNeAt.none_int i t, SeqAt.EqAt.none_int i t⟩
      | str i t => exact ⟨SeqAt.RcAt.none_str i t, SeqAt.RcNeAt.none_str i t, SeqAt.EqAt.none_str i t⟩
      | tup => exact he.elim
      | lst => exact he.elim
    | bl a =>
      cases sh_of I he h2 r2 with
      | non => exact ⟨SeqAt.RcAt.bool_none a, SeqAt.RcNeAt.bool_none a, SeqAt.EqAt.bool_none a⟩
      | bl b => exact ⟨SeqAt.RcAt.bool_bool a b, SeqAt.RcNeAt.bool_bool a b, SeqAt.EqAt.bool_bool a b⟩
      | int i t => exact ⟨SeqAt.RcAt.bool_int a i t, SeqAt.RcNeAt.bool_int a i t, SeqAt.EqAt.bool_int a i t⟩
      | str i t => exact ⟨SeqAt.RcAt.bool_str a i t, SeqAt.RcNeAt.bool_str a i t, SeqAt.EqAt.bool_str a i t⟩
      | tup => exact he.elim
      | lst => exact he.elim
    | int a t =>
      cases sh_of I he h2 r2 with
      | non => exact ⟨SeqAt.RcAt.int_none a t, SeqAt.RcNeAt.int_none a t, SeqAt.EqAt.int_none a t⟩
      | bl b => exact ⟨SeqAt.RcAt.int_bool a t b, SeqAt.RcNeAt.int_bool a t b, SeqAt.EqAt.int_bool a t b⟩
      | int i t' => exact ⟨SeqAt.RcAt.int_int a t i t', SeqAt.RcNeAt.int_int a t i t', SeqAt.EqAt.int_int a t i t'⟩
      | str i t' => exact ⟨SeqAt.RcAt.int_str a t i t', SeqAt.RcNeAt.int_str a t i t', SeqAt.EqAt.int_str a t i t'⟩
      | tup => exact he.elim
      | lst => exact he.elim
    | str a t =>
      cases sh_of I he h2 r2 with
      | non => exact ⟨SeqAt.RcAt.str_none a t, SeqAt.RcNeAt.str_none a t, SeqAt.EqAt.str_none a t⟩
      | bl b => exact ⟨SeqAt.RcAt.str_bool a t b, SeqAt.RcNeAt.str_bool a t b, SeqAt.EqAt.str_bool a t b⟩
      | int i t' => exact ⟨SeqAt.RcAt.str_int a t i t', SeqAt.RcNeAt.str_int a t i t', SeqAt.EqAt.str_int a t i t'⟩
      | str i t' => exact ⟨SeqAt.RcAt.str_str a t i t', SeqAt.RcNeAt.str_str a t i t', SeqAt.EqAt.str_str a t i t'⟩
      | tup => exact he.elim
      | lst => exact he.elim
  | succ n ih =>
    intro d e x y u v A hd he h1 h2 r1 r2 hu
    have hu' : A.units < cLine := by omega
    have hin : A.in1.units + n < cLine := by
      have : A.in1.units = A.units + 1 := rfl
      omega
    have refs : ∀ {l b : Addr} {k : Bool}, u = .ref l → v = .ref b → k = eqD d e → SeqAt.RcAt A s (.ref l) (.ref b) k → SeqAt.EqAt A s (.ref l) (.ref b) k := fun {l b k} e1 e2 ek h => by
      by_cases hlb : l = b
      · subst hlb
        have hv : x = y := by
          have z1 : x = .ref l := by
            cases x <;> subst e1 <;> first | (have := (show Value.ref l = Value.ref _ from r1); cases this; rfl) | (obtain ⟨t, z⟩ := r1; cases z) | cases r1
          have z2 : y = .ref l := by
            cases y <;> subst e2 <;> first | (have := (show Value.ref l = Value.ref _ from r2); cases this; rfl) | (obtain ⟨t, z⟩ := r2; cases z) | cases r2
          rw [z1, z2]
        subst hv
        have hde := Rep.inj I (n + 1) d e x hd he h1 h2
        subst hde
        rw [ek, eqD_refl (n + 1) d hd]
        exact SeqAt.EqAt.same _
      · exact SeqAt.EqAt.of_refs hlb h
    have items : ∀ {ds es : List D} {xs ys : List V} {its its2 : List Value}, (∀ z ∈ ds, okD n z) → (∀ z ∈ es, okD n z) → Reps X.K H [] ds xs → Reps X.K H [] es ys → Vals xs its → Vals ys its2 →
        ∀ j (h1 : j < its.toArray.size) (h2 : j < its2.toArray.size), SeqAt.EqAt A.in1 s its.toArray[j] its2.toArray[j] (eqD (ds.getD j .non) (es.getD j .non)) := fun {ds es xs ys its its2} o1 o2 q1 q2 w1 w2 j h1 h2 => by
      have l1 := w1.length
      have l2 := w2.length
      have k1 := q1.length
      have k2 := q2.length
      have g1 : j < ds.length := by simp at h1; omega
      have g2 : j < es.length := by simp at h2; omega
      have e1 : ds[j]? = some ds[j] := by simp [g1]
      have e2 : es[j]? = some es[j] := by simp [g2]
      obtain ⟨x', ex, rx⟩ := q1.get e1
      obtain ⟨y', ey, ry⟩ := q2.get e2
      obtain ⟨u', eu, ru⟩ := w1.get ex
      obtain ⟨v', ev, rv⟩ := w2.get ey
      have f1 : its.toArray[j] = u' := by
        have := (List.getElem?_eq_some_iff.mp eu).2
        simpa using this
      have f2 : its2.toArray[j] = v' := by
        have := (List.getElem?_eq_some_iff.mp ev).2
        simpa using this
      rw [f1, f2, show ds.getD j .non = ds[j] by simp [List.getD, e1], show es.getD j .non = es[j] by simp [List.getD, e2]]
      exact (ih ds[j] es[j] x' y' u' v' A.in1 (o1 _ (List.getElem_mem g1)) (o2 _ (List.getElem_mem g2)) rx ry ru rv hin).2.2
    cases sh_of I hd h1 r1 with
    | non =>
      cases sh_of I he h2 r2 with
      | non => exact ⟨SeqAt.RcAt.none_none, SeqAt.RcNeAt.none_none, SeqAt.EqAt.same _⟩
      | bl b => exact ⟨SeqAt.RcAt.none_bool b, SeqAt.RcNeAt.none_bool b, SeqAt.EqAt.none_bool b⟩
      | int i t => exact ⟨SeqAt.RcAt.none_int i t, SeqAt.RcNeAt.none_int i t, SeqAt.EqAt.none_int i t⟩
      | str i t => exact ⟨SeqAt.RcAt.none_str i t, SeqAt.RcNeAt.none_str i t, SeqAt.EqAt.none_str i t⟩
      | tup p _ _ => exact ⟨SeqAt.RcAt.none_tuple p hu', SeqAt.RcNeAt.none_tuple p hu', SeqAt.EqAt.none_tuple p hu'⟩
      | lst p _ _ => exact ⟨SeqAt.RcAt.none_list p hu', SeqAt.RcNeAt.none_list p hu', SeqAt.EqAt.none_list p hu'⟩
    | bl a =>
      cases sh_of I he h2 r2 with
      | non => exact ⟨SeqAt.RcAt.bool_none a, SeqAt.RcNeAt.bool_none a, SeqAt.EqAt.bool_none a⟩
      | bl b => exact ⟨SeqAt.RcAt.bool_bool a b, SeqAt.RcNeAt.bool_bool a b, SeqAt.EqAt.bool_bool a b⟩
      | int i t => exact ⟨SeqAt.RcAt.bool_int a i t, SeqAt.RcNeAt.bool_int a i t, SeqAt.EqAt.bool_int a i t⟩
      | str i t => exact ⟨SeqAt.RcAt.bool_str a i t, SeqAt.RcNeAt.bool_str a i t, SeqAt.EqAt.bool_str a i t⟩
      | tup p _ _ => exact ⟨SeqAt.RcAt.bool_tuple a p hu', SeqAt.RcNeAt.bool_tuple a p hu', SeqAt.EqAt.bool_tuple a p hu'⟩
      | lst p _ _ => exact ⟨SeqAt.RcAt.bool_list a p hu', SeqAt.RcNeAt.bool_list a p hu', SeqAt.EqAt.bool_list a p hu'⟩
    | int a t =>
      cases sh_of I he h2 r2 with
      | non => exact ⟨SeqAt.RcAt.int_none a t, SeqAt.RcNeAt.int_none a t, SeqAt.EqAt.int_none a t⟩
      | bl b => exact ⟨SeqAt.RcAt.int_bool a t b, SeqAt.RcNeAt.int_bool a t b, SeqAt.EqAt.int_bool a t b⟩
      | int i t' => exact ⟨SeqAt.RcAt.int_int a t i t', SeqAt.RcNeAt.int_int a t i t', SeqAt.EqAt.int_int a t i t'⟩
      | str i t' => exact ⟨SeqAt.RcAt.int_str a t i t', SeqAt.RcNeAt.int_str a t i t', SeqAt.EqAt.int_str a t i t'⟩
      | tup p _ _ => exact ⟨SeqAt.RcAt.int_tuple a t p hu', SeqAt.RcNeAt.int_tuple a t p hu', SeqAt.EqAt.int_tuple a t p hu'⟩
      | lst p _ _ => exact ⟨SeqAt.RcAt.int_list a t p hu', SeqAt.RcNeAt.int_list a t p hu', SeqAt.EqAt.int_list a t p hu'⟩
    | str a t =>
      cases sh_of I he h2 r2 with
      | non => exact ⟨SeqAt.RcAt.str_none a t, SeqAt.RcNeAt.str_none a t, SeqAt.EqAt.str_none a t⟩
      | bl b => exact ⟨SeqAt.RcAt.str_bool a t b, SeqAt.RcNeAt.str_bool a t b, SeqAt.EqAt.str_bool a t b⟩
      | int i t' => exact ⟨SeqAt.RcAt.str_int a t i t', SeqAt.RcNeAt.str_int a t i t', SeqAt.EqAt.str_int a t i t'⟩
      | str i t' => exact ⟨SeqAt.RcAt.str_str a t i t', SeqAt.RcNeAt.str_str a t i t', SeqAt.EqAt.str_str a t i t'⟩
      | tup p _ _ => exact ⟨SeqAt.RcAt.str_tuple a t p hu', SeqAt.RcNeAt.str_tuple a t p hu', SeqAt.EqAt.str_tuple a t p hu'⟩
      | lst p _ _ => exact ⟨SeqAt.RcAt.str_list a t p hu', SeqAt.RcNeAt.str_list a t p hu', SeqAt.EqAt.str_list a t p hu'⟩
    | @tup l ds xs its p r q =>
      cases sh_of I he h2 r2 with
      | non => exact ⟨SeqAt.RcAt.tuple_none p hu', SeqAt.RcNeAt.tuple_none p hu', SeqAt.EqAt.tuple_none p hu'⟩
      | bl b => exact ⟨SeqAt.RcAt.tuple_bool b p hu', SeqAt.RcNeAt.tuple_bool b p hu', SeqAt.EqAt.tuple_bool b p hu'⟩
      | int i t => exact ⟨SeqAt.RcAt.tuple_int i t p hu', SeqAt.RcNeAt.tuple_int i t p hu', SeqAt.EqAt.tuple_int i t p hu'⟩
      | str i t => exact ⟨SeqAt.RcAt.tuple_str i t p hu', SeqAt.RcNeAt.tuple_str i t p hu', SeqAt.EqAt.tuple_str i t p hu'⟩
      | lst p2 _ _ => exact ⟨SeqAt.RcAt.tuple_list p p2 hu', SeqAt.RcNeAt.tuple_list p p2 hu', SeqAt.EqAt.tuple_list p p2 hu'⟩
      | @tup b es ys its2 p2 r' q' =>
        have e1 : its.toArray.size = ds.length := by rw [List.size_toArray, ← r.length, q.length]
        have e2 : its2.toArray.size = es.length := by rw [List.size_toArray, ← r'.length, q'.length]
        have ek : eqD (.tup ds) (.tup es) = ((List.range (min its.toArray.size its2.toArray.size)).all (fun j => eqD (ds.getD j .non) (es.getD j .non)) && its.toArray.size == its2.toArray.size) := by
          rw [e1, e2]
          exact eqDs_range ds es
        rw [ek]
        have hrc := SeqAt.RcAt.tuples p p2 hu' (items hd he q q' r r')
        exact ⟨hrc, SeqAt.RcNeAt.tuples p p2 hu' (items hd he q q' r r'), refs rfl rfl ek.symm hrc⟩
    | @lst l ds xs its p r q =>
      cases sh_of I he h2 r2 with
      | non => exact ⟨SeqAt.RcAt.list_none p hu', SeqAt.RcNeAt.list_none p hu', SeqAt.EqAt.list_none p hu'⟩
      | bl b => exact ⟨SeqAt.RcAt.list_bool b p hu', SeqAt.RcNeAt.list_bool b p hu', SeqAt.EqAt.list_bool b p hu'⟩
      | int i t => exact ⟨SeqAt.RcAt.list_int i t p hu', SeqAt.RcNeAt.list_int i t p hu', SeqAt.EqAt.list_int i t p hu'⟩
      | str i t => exact ⟨SeqAt.RcAt.list_str i t p hu', SeqAt.RcNeAt.list_str i t p hu', SeqAt.EqAt.list_str i t p hu'⟩
      | tup p2 _ _ => exact ⟨SeqAt.RcAt.list_tuple p p2 hu', SeqAt.RcNeAt.list_tuple p p2 hu', SeqAt.EqAt.list_tuple p p2 hu'⟩
      | @lst b es ys its2 p2 r' q' =>
        have e1 : its.toArray.size = ds.length := by rw [List.size_toArray, ← r.length, q.length]
        have e2 : its2.toArray.size = es.length := by rw [List.size_toArray, ← r'.length, q'.length]
        by_cases hsz : its.toArray.size = its2.toArray.size
        · have ek : eqD (.lst ds) (.lst es) = (List.range its.toArray.size).all (fun j => eqD (ds.getD j .non) (es.getD j .non)) := by
            show eqDs ds es = _
            rw [eqDs_range, ← e1, ← e2, ← hsz]
            simp
          rw [ek]
          have hrc := SeqAt.RcAt.lists p p2 hsz hu' (items hd he q q' r r')
          exact ⟨hrc, SeqAt.RcNeAt.lists p p2 hsz hu' (items hd he q q' r r'), refs rfl rfl ek.symm hrc⟩
        · have ek : eqD (.lst ds) (.lst es) = false := by
            show eqDs ds es = _
            have hb : (its.toArray.size == its2.toArray.size) = false := beq_eq_false_iff_ne.mpr hsz
            rw [eqDs_range, ← e1, ← e2, hb, Bool.and_false]
          rw [ek]
          have hne : (its.toArray.size != its2.toArray.size) = true := by simpa using hsz
          have hrc := SeqAt.RcAt.lists_lengths p p2 hne hu'
          exact ⟨hrc, SeqAt.RcNeAt.lists_lengths p p2 hne hu', refs rfl rfl ek.symm hrc⟩
end
section
variable {X : Cx} {a b : Expr} {ta tb : TD} {pos : Pos}
noncomputable def rEqD (K : PySem.W.Frag) (neg : Bool) : R2 := fun x y H Q => ∃ d e, Rep K H [] d x ∧ Rep K H [] e y ∧ okD 40 d ∧ okD 40 e ∧ Q (.bl (if neg then !eqD d e else eqD d e)) H
theorem op_eqD (hu : X.A.units + 64 < cLine) : OpR X (compareOp .Eq) (rEqD X.K false) := by
  intro pins s σ H x y v u Q I rx ry h
  obtain ⟨d, e, h1, h2, o1, o2, q⟩ := h
  exact (eq_main I 40 d e x y v u X.A o1 o2 h1 h2 rx ry (by omega)).1 X.prog X.w X.xe _ ⟨.bl _, H, I, rfl, q⟩
theorem op_neD (hu : X.A.units + 64 < cLine) : OpR X (compareOp .NotEq) (rEqD X.K true) := by
  intro pins s σ H x y v u Q I rx ry h
  obtain ⟨d, e, h1, h2, o1, o2, q⟩ := h
  exact (eq_main I 40 d e x y v u X.A o1 o2 h1 h2 rx ry (by omega)).2.1 X.prog X.w X.xe _ ⟨.bl _, H, I, rfl, q⟩
noncomputable def sEq : D → D → (EV → Prop) → Prop := fun x y φ => okD 40 x ∧ okD 40 y ∧ φ (dv (.bl (eqD x y)))
noncomputable def sNe : D → D → (EV → Prop) → Prop := fun x y φ => okD 40 x ∧ okD 40 y ∧ φ (dv (.bl (!eqD x y)))
theorem ed_eq (hu : X.A.units + 64 < cLine) (ha : ED Γ X a ta) (hb : ED Γ X b tb) : ED Γ X (.Compare a [.Eq] [b] pos) (d2 sEq ta tb) :=
  ed_cmp (op_eqD hu) (fun H O x y vx vy φ Q ho hx hy h k => ⟨x, y, hx.rep0, hy.rep0, h.1, h.2.1, k _ _ H (Same.refl H) (by exact rfl) h.2.2⟩) ha hb (nomark _)
end
end DL

set_option Elab.async false
set_option linter.all false
set_option maxRecDepth 100000
set_option maxHeartbeats 4000000
namespace DL
open PySem PySem.Spec L2 L3
open PyProof.Rows hiding St
variable {Γ : Hp → Prop}
section
variable {X : Cx} {a b c e : Expr} {es : List Expr} {ta tb tc te : TD} {t : TDs} {pos : Pos}

theorem link_mul : Link2 X.K (fun x y H Q => rI IntMulOk (fun i j => .int (i * j)) x y H Q ∨ rRep x y H Q) sMul := by
  intro H O x y vx vy φ Q ho hx hy h k
  unfold sMul at h
  split at h
  · exact .inl ⟨_, _, hx, hy, h.1, k _ _ H (Same.refl H) (by exact rfl) h.2⟩
  · obtain ⟨h1, h2, h3, h4⟩ := h
    obtain ⟨a1, xs, rfl, q1, r1⟩ := hx
    refine .inr ⟨a1, _, xs, rfl, hy, q1, h1, h2, by rw [r1.length]; exact h3, fun p hp => ?_⟩
    exact k _ _ _ (same_new hp _) (rv_lst ho hp (r1.rep _)) h4
  · exact h.elim
theorem ed_mul (ha : ED Γ X a ta) (hb : ED Γ X b tb) : ED Γ X (.BinOp a .Mult b pos) (d2 sMul ta tb) := ed_bin (op_mulG.or op_rep) link_mul ha hb

noncomputable def sNeg : D → (EV → Prop) → Prop := fun x φ => match x with
  | .int i => φ (dv (.int (-i)))
  | _ => False
noncomputable def d1 (s : D → (EV → Prop) → Prop) (ta : TD) : TD := fun ρ φ => ta ρ fun x => s x.d φ
theorem ed_neg (ha : ED Γ X a ta) : ED Γ X (.UnaryOp .USub a pos) (d1 sNeg ta) := fun H₀ => impE (pe_un un_neg (ha H₀)) fun σ H Q h => by
  obtain ⟨ρ, o, R, φ, hφ, k⟩ := h
  refine ⟨ρ, o, R, _, hφ, fun v1 r1 H1 s1 rv1 h1 => ?_⟩
  obtain ⟨kd, d⟩ := r1
  have hv := rv1.view
  cases d with
  | int i => exact ⟨i, hv, k _ _ H1 s1 (by exact rfl) h1⟩
  | _ => exact h1.elim

noncomputable def truD : D → Option Bool
  | .non => some false
  | .bl b => some b
  | .int i => some (i != 0)
  | .str x => if x.length ≤ sizeLine then some ((x.length : Int) != 0) else none
  | .lst ds => some (!ds.isEmpty)
  | .scr ns => some (!ns.isEmpty)
  | .tup ds => some (!ds.isEmpty)
  | .dk _ ds => some (!ds.isEmpty)
  | .dt _ _ => none
  | .ty _ => none
  | .cn _ => none
  | .exc _ => none
  | .fd _ => none
theorem isEmpty_reps {K : PySem.W.Frag} {H : Hp} {O : List Addr} {ds : List D} {xs : List V} (r : Reps K H O ds xs) : xs.isEmpty = ds.isEmpty := by
  have := r.length
  cases xs <;> cases ds <;> simp_all
theorem tru_view {K : PySem.W.Frag} {H : Hp} {O : List Addr} {d : D} {v : V} {b : Bool} (h : View K H O d v) (e : truD d = some b) : TruV K v H b := by
  cases d with
  | non => cases (show v = _ from h); cases e; rfl
  | bl i => cases (show v = _ from h); cases e; rfl
  | int i => cases (show v = _ from h); cases e; rfl
  | str x =>
    cases (show v = _ from h)
    have e' : (if x.length ≤ sizeLine then some ((x.length : Int) != 0) else none) = some b := e
    split at e'
    · rename_i hz
      cases e'
      exact ⟨hz, rfl⟩
    · cases e'
  | ty _ => cases e
  | cn _ => cases e
  | exc _ => cases e
  | fd _ => cases e
  | lst ds =>
    obtain ⟨a, xs, rfl, q, r⟩ := h
    cases e
    exact .inl ⟨xs, SqL.of q, by rw [isEmpty_reps r]⟩
  | scr ns =>
    obtain ⟨a, rfl, q⟩ := h
    cases e
    exact .inl ⟨_, q.seq, by cases ns <;> rfl⟩
  | tup ds =>
    obtain ⟨a, xs, rfl, q, r⟩ := h
    cases e
    exact .inr (.inl ⟨xs, q.1, by rw [isEmpty_reps r]⟩)
  | dk ks ds =>
    obtain ⟨a, xs, rfl, q, l, _, r⟩ := h
    cases e
    refine .inr (.inr ⟨_, q, ?_⟩)
    have := r.length
    cases ks <;> cases ds <;> cases xs <;> simp_all
  | dt ks ds => cases e
noncomputable def tTru (t : TD) : TDb := fun ρ φ => t ρ fun r => match truD r.d with
  | some b => φ b
  | none => False
theorem et_val (h : ED Γ X a ta) (he : ∀ whole, isTrue a X.env whole = (do let v ← whole; standAt a.pos; holding [v] (truthy v)) := by intro _; rfl) : ET Γ X a (tTru ta) := fun H₀ => impT (pt_truth (h H₀) he) fun σ H Q q => by
  obtain ⟨ρ, o, R, φ, hφ, k⟩ := q
  refine ⟨ρ, o, R, _, hφ, fun v1 r1 H1 s1 rv1 h1 => ?_⟩
  cases e : truD r1.d with
  | none => simp only [e] at h1
  | some b =>
    simp only [e] at h1
    exact ⟨b, tru_view rv1.view e, k b H1 s1 h1⟩
noncomputable def tBo (t : TD) : TDb := fun ρ φ => t ρ fun r => match r.d with
  | .bl b => φ b
  | _ => False
theorem et_cmp {op : CmpOp} {rr : R2} {s : D → D → (EV → Prop) → Prop} (ho : OpR X (compareOp op) rr) (hl : Link2 X.K rr s) (ha : ED Γ X a ta) (hb : ED Γ X b tb) (hm : behindInMarks op b = false) : ET Γ X (.Compare a [op] [b] pos) (tBo (d2 s ta tb)) := fun H₀ =>
  impT (pt_cmpR ho (ha H₀) (hb H₀) hm) fun σ H Q h => by
    obtain ⟨ρ, o, R, φ, hφ, k⟩ := h
    refine lift2 (ta := ta) (tb := tb) (H₀ := H₀.1) hl σ H _ ⟨ρ, o, R, _, hφ, fun v r H' s1 rv h1 => ?_⟩
    obtain ⟨kd, d⟩ := r
    cases d with
    | bl b => exact ⟨b, rv.view, k b H' s1 h1⟩
    | _ => exact h1.elim
theorem et_lt (ha : ED Γ X a ta) (hb : ED Γ X b tb) : ET Γ X (.Compare a [.Lt] [b] pos) (tBo (d2 sLt ta tb)) := et_cmp op_lt (link_I0 fun _ _ _ _ => rfl) ha hb (nomark _)
theorem et_gt (ha : ED Γ X a ta) (hb : ED Γ X b tb) : ET Γ X (.Compare a [.Gt] [b] pos) (tBo (d2 sGt ta tb)) := et_cmp op_gt (link_I0 fun _ _ _ _ => rfl) ha hb (nomark _)
theorem et_eq (hu : X.A.units + 64 < cLine) (ha : ED Γ X a ta) (hb : ED Γ X b tb) : ET Γ X (.Compare a [.Eq] [b] pos) (tBo (d2 sEq ta tb)) :=
  et_cmp (op_eqD hu) (fun H O x y vx vy φ Q ho hx hy h k => ⟨x, y, hx.rep0, hy.rep0, h.1, h.2.1, k _ _ H (Same.refl H) (by exact rfl) h.2.2⟩) ha hb (nomark _)
theorem et_ne (hu : X.A.units + 64 < cLine) (ha : ED Γ X a ta) (hb : ED Γ X b tb) : ET Γ X (.Compare a [.NotEq] [b] pos) (tBo (d2 sNe ta tb)) :=
  et_cmp (op_neD hu) (fun H O x y vx vy φ Q ho hx hy h k => ⟨x, y, hx.rep0, hy.rep0, h.1, h.2.1, k _ _ H (Same.refl H) (by exact rfl) h.2.2⟩) ha hb (nomark _)
/-- is None, is not None -/
noncomputable def isNon : D → Bool
  | .non => true
  | _ => false
noncomputable def sIs : D → D → (EV → Prop) → Prop := fun x y φ => match y with
  | .non => φ (dv (.bl (isNon x)))
  | _ => False
noncomputable def sIsNot : D → D → (EV → Prop) → Prop := fun x y φ => match y with
  | .non => φ (dv (.bl (!isNon x)))
  | _ => False
theorem view_non {K : PySem.W.Frag} {H : Hp} {O : List Addr} {d : D} {v : V} (h : View K H O d v) : decide (v = .non) = isNon d := by
  cases d with
  | tup ds => obtain ⟨a, xs, rfl, _⟩ := h; rfl
  | lst ds => obtain ⟨a, xs, rfl, _⟩ := h; rfl
  | scr ns => obtain ⟨a, rfl, _⟩ := h; rfl
  | exc _ => obtain ⟨a, rfl, _⟩ := h; rfl
  | fd _ => obtain ⟨a, rfl, _⟩ := h; rfl
  | dk ks ds => obtain ⟨a, xs, rfl, _⟩ := h; rfl
  | dt ks ds => obtain ⟨a, xs, rfl, _⟩ := h; rfl
  | cn c =>
    cases c with
    | int i => cases (show v = _ from h); rfl
    | str x => cases (show v = _ from h); rfl
    | tup cs => obtain ⟨a, o, its, n, xs, rfl, _⟩ := (show CRep K (.tup cs) v from h); rfl
  | _ => cases (show v = _ from h); rfl
theorem link_is {K : PySem.W.Frag} : Link2 K (fun x y H Q => y = .non ∧ Q (.bl (decide (x = .non))) H) sIs := by
  intro H O x y vx vy φ Q ho hx hy h k
  unfold sIs at h
  split at h
  · refine ⟨hy, ?_⟩
    rw [view_non hx]
    exact k _ _ H (Same.refl H) (by exact rfl) h
  · exact h.elim
theorem link_isnot {K : PySem.W.Frag} : Link2 K (fun x y H Q => y = .non ∧ Q (.bl (!decide (x = .non))) H) sIsNot := by
  intro H O x y vx vy φ Q ho hx hy h k
  unfold sIsNot at h
  split at h
  · refine ⟨hy, ?_⟩
    rw [view_non hx]
    exact k _ _ H (Same.refl H) (by exact rfl) h
  · exact h.elim
theorem et_is (ha : ED Γ X a ta) (hb : ED Γ X b tb) : ET Γ X (.Compare a [.Is] [b] pos) (tBo (d2 sIs ta tb)) := et_cmp op_isN link_is ha hb (nomark _)
theorem et_isnot (ha : ED Γ X a ta) (hb : ED Γ X b tb) : ET Γ X (.Compare a [.IsNot] [b] pos) (tBo (d2 sIsNot ta tb)) := et_cmp op_notN link_isnot ha hb (nomark _)

variable {tA tB' : TDb} {rest : List Expr}
noncomputable def bAnd (t u : TDb) : TDb := fun ρ φ => t ρ fun c => (c = true → u ρ φ) ∧ (c = false → φ false)
noncomputable def bOr (t u : TDb) : TDb := fun ρ φ => t ρ fun c => (c = true → φ true) ∧ (c = false → u ρ φ)
noncomputable def bNot (t : TDb) : TDb := fun ρ φ => t ρ fun c => φ (!c)
theorem ew_and1 (ha : ET Γ X a tA) : EW Γ X (.BoolOp .And [a] pos) tA := fun H₀ => pw_and1 (ha H₀)
theorem ew_or1 (ha : ET Γ X a tA) : EW Γ X (.BoolOp .Or [a] pos) tA := fun H₀ => pw_or1 (ha H₀)
theorem ew_and (ha : ET Γ X a tA) (hb : EW Γ X (.BoolOp .And (b :: rest) pos) tB') : EW Γ X (.BoolOp .And (a :: b :: rest) pos) (bAnd tA tB') := fun H₀ => impW (pw_and (ha H₀) (hb H₀)) fun σ H Q h => by
  obtain ⟨ρ, o, R, φ, hφ, k⟩ := h
  refine ⟨ρ, o, R, _, hφ, fun c H1 s1 h1 => ?_⟩
  cases c with
  | true => exact iteT ⟨ρ, o, R.to s1, φ, h1.1 rfl, fun b H2 s2 q => k b H2 (s1.trans s2) q⟩
  | false => exact iteF (k false H1 s1 (h1.2 rfl))
theorem ew_or (ha : ET Γ X a tA) (hb : EW Γ X (.BoolOp .Or (b :: rest) pos) tB') : EW Γ X (.BoolOp .Or (a :: b :: rest) pos) (bOr tA tB') := fun H₀ => impW (pw_or (ha H₀) (hb H₀)) fun σ H Q h => by
  obtain ⟨ρ, o, R, φ, hφ, k⟩ := h
  refine ⟨ρ, o, R, _, hφ, fun c H1 s1 h1 => ?_⟩
  cases c with
  | true => exact iteT (k true H1 s1 (h1.1 rfl))
  | false => exact iteF ⟨ρ, o, R.to s1, φ, h1.2 rfl, fun b H2 s2 q => k b H2 (s1.trans s2) q⟩
theorem EW.et (h : EW Γ X a tA) : ET Γ X a tA := fun H₀ => PW.pt (h H₀)
theorem et_not (ha : ET Γ X a tA) : ET Γ X (.UnaryOp .Not a pos) (bNot tA) := fun H₀ => impT (pt_not (ha H₀)) fun σ H Q h => by
  obtain ⟨ρ, o, R, φ, hφ, k⟩ := h
  exact ⟨ρ, o, R, _, hφ, fun c H1 s1 h1 => k _ H1 s1 h1⟩
/-- .. as values (bools) -/
noncomputable def vAnd (ta tb : TD) : TD := fun ρ φ => ta ρ fun x => match x.d with
  | .bl c => (c = true → tb ρ φ) ∧ (c = false → φ (dv (.bl false)))
  | _ => False
noncomputable def vOr (ta tb : TD) : TD := fun ρ φ => ta ρ fun x => match x.d with
  | .bl c => (c = true → φ (dv (.bl true))) ∧ (c = false → tb ρ φ)
  | _ => False
noncomputable def vNot (ta : TD) : TD := fun ρ φ => ta ρ fun x => match x.d with
  | .bl c => φ (dv (.bl (!c)))
  | _ => False
theorem ed_one {op} (h : ED Γ X a ta) : ED Γ X (.BoolOp op [a] pos) ta := fun H₀ => pe_one (h H₀)
theorem ed_and (ha : ED Γ X a ta) (hb : ED Γ X (.BoolOp .And (b :: rest) pos) tb) : ED Γ X (.BoolOp .And (a :: b :: rest) pos) (vAnd ta tb) := fun H₀ => impE (pe_and (ha H₀) (hb H₀)) fun σ H Q h => by
  obtain ⟨ρ, o, R, φ, hφ, k⟩ := h
  refine ⟨ρ, o, R, _, hφ, fun v r H1 s1 rv h1 => ?_⟩
  obtain ⟨kd, d⟩ := r
  cases d with
  | bl c =>
    refine ⟨c, rv.view, ?_⟩
    cases c with
    | true => exact iteT ⟨ρ, o, R.to s1, φ, h1.1 rfl, fun v2 r2 H2 s2 rv2 q => k v2 r2 H2 (s1.trans s2) (rv2.start s1) q⟩
    | false => exact iteF (k _ _ H1 s1 (by exact rfl) (h1.2 rfl))
  | _ => exact h1.elim
theorem ed_or (ha : ED Γ X a ta) (hb : ED Γ X (.BoolOp .Or (b :: rest) pos) tb) : ED Γ X (.BoolOp .Or (a :: b :: rest) pos) (vOr ta tb) := fun H₀ => impE (pe_or (ha H₀) (hb H₀)) fun σ H Q h => by
  obtain ⟨ρ, o, R, φ, hφ, k⟩ := h
  refine ⟨ρ, o, R, _, hφ, fun v r H1 s1 rv h1 => ?_⟩
  obtain ⟨kd, d⟩ := r
  cases d with
  | bl c =>
    refine ⟨c, rv.view, ?_⟩
    cases c with
    | true => exact iteT (k _ _ H1 s1 (by exact rfl) (h1.1 rfl))
    | false => exact iteF ⟨ρ, o, R.to s1, φ, h1.2 rfl, fun v2 r2 H2 s2 rv2 q => k v2 r2 H2 (s1.trans s2) (rv2.start s1) q⟩
  | _ => exact h1.elim
theorem ed_not (ha : ED Γ X a ta) : ED Γ X (.UnaryOp .Not a pos) (vNot ta) := fun H₀ => impE (pe_not (ha H₀)) fun σ H Q h => by
  obtain ⟨ρ, o, R, φ, hφ, k⟩ := h
  refine ⟨ρ, o, R, _, hφ, fun v r H1 s1 rv h1 => ?_⟩
  obtain ⟨kd, d⟩ := r
  cases d with
  | bl c => exact ⟨c, rv.view, k _ _ H1 s1 (by exact rfl) h1⟩
  | _ => exact h1.elim
noncomputable def vIf (t : TDb) (ta tb : TD) : TD := fun ρ φ => t ρ fun c => (c = true → ta ρ φ) ∧ (c = false → tb ρ φ)
theorem ed_ifExp (hc : ET Γ X c tA) (ha : ED Γ X a ta) (hb : ED Γ X b tb) : ED Γ X (.IfExp c a b pos) (vIf tA ta tb) := fun H₀ => impE (pe_ifExp (hc H₀) (ha H₀) (hb H₀)) fun σ H Q h => by
  obtain ⟨ρ, o, R, φ, hφ, k⟩ := h
  refine ⟨ρ, o, R, _, hφ, fun c H1 s1 h1 => ?_⟩
  cases c with
  | true => exact iteT ⟨ρ, o, R.to s1, φ, h1.1 rfl, fun v2 r2 H2 s2 rv2 q => k v2 r2 H2 (s1.trans s2) (rv2.start s1) q⟩
  | false => exact iteF ⟨ρ, o, R.to s1, φ, h1.2 rfl, fun v2 r2 H2 s2 rv2 q => k v2 r2 H2 (s1.trans s2) (rv2.start s1) q⟩

noncomputable def aNil : TDs := fun _ φ => φ []
noncomputable def aCons (te : TD) (t : TDs) : TDs := fun ρ φ => te ρ fun r => t ρ fun rs => φ (r :: rs)
theorem ea_nil : EA Γ X [] aNil := fun H₀ => impA pa_nil fun σ H Q h => by
  obtain ⟨ρ, o, R, φ, hφ, k⟩ := h
  exact k [] [] H (Same.refl H) (by exact rfl) hφ
theorem ea_cons (ha : ED Γ X e te) (hr : EA Γ X es t) (hs : starEach (e :: es) X.env = (false, eval e X.env) :: starEach es X.env := by rfl) : EA Γ X (e :: es) (aCons te t) := fun H₀ => impA (pa_cons (ha H₀) (hr H₀) hs) fun σ H Q h => by
  obtain ⟨ρ, o, R, φ, hφ, k⟩ := h
  refine ⟨ρ, o, R, _, hφ, fun v r H1 s1 rv h1 => ⟨ρ, o, R.to s1, _, h1, fun vs rs H2 s2 rvs h2 => ?_⟩⟩
  exact k (v :: vs) (r :: rs) H2 (s1.trans s2) ⟨v, vs, rfl, rv.same s2, rvs.start s1⟩ h2
noncomputable def solidB : List EV → Bool
  | [] => true
  | r :: rs => (match r.k with | .own => false | _ => true) && solidB rs
theorem solidB_iff : ∀ {rs : List EV}, solidB rs = true → ∀ r ∈ rs, r.k ≠ .own
  | [], _ => fun r h => nomatch h
  | ⟨k, d⟩ :: rs, h => fun r hr => by
    rw [solidB, Bool.and_eq_true] at h
    rcases List.mem_cons.mp hr with rfl | hr
    · intro z
      have z' : k = .own := z
      subst z'
      exact absurd h.1 (by simp)
    · exact solidB_iff h.2 r hr
noncomputable def dTup (t : TDs) : TD := fun ρ φ => t ρ fun rs => solidB rs = true ∧ Nat.ble rs.length 1000 = true ∧ φ (dv (.tup (rs.map EV.d)))
noncomputable def dLst (t : TDs) : TD := fun ρ φ => t ρ fun rs => solidB rs = true ∧ Nat.ble rs.length 1000 = true ∧ φ (df (.lst (rs.map EV.d)))
theorem le_line {n : Nat} (h : Nat.ble n 1000 = true) : n ≤ sizeLine := Nat.le_trans (Nat.le_of_ble_eq_true h) (by decide)
theorem RVs.length {K : PySem.W.Frag} {H0 H : Hp} {O : List Addr} : ∀ {rs : List EV} {vs : List V}, RVs K H0 H O rs vs → vs.length = rs.length
  | [], _, h => by cases h; rfl
  | r :: rs, vs, h => by
    obtain ⟨v, ws, rfl, _, t⟩ := h
    simp [RVs.length t]
theorem ed_tup {x1} (h : EA Γ X es t) : ED Γ X (.Tuple es x1 pos) (dTup t) := fun H₀ => impE (pe_tup (h H₀)) fun σ H Q q => by
  obtain ⟨ρ, o, R, φ, hφ, k⟩ := q
  refine ⟨ρ, o, R, _, hφ, fun vs rs H1 s1 rvs h1 => ⟨by rw [rvs.length]; exact le_line h1.2.1, fun p hp => ?_⟩⟩
  exact k _ _ _ (s1.trans (same_new hp _)) (RV.start (rv_tup hp (rvs.reps (solidB_iff h1.1))) s1) h1.2.2
theorem ed_lst (h : EA Γ X es t) : ED Γ X (.List es pos) (dLst t) := fun H₀ => impE (pe_lst (h H₀)) fun σ H Q q => by
  obtain ⟨ρ, o, R, φ, hφ, k⟩ := q
  refine ⟨ρ, o, R, _, hφ, fun vs rs H1 s1 rvs h1 => ⟨by rw [rvs.length]; exact le_line h1.2.1, fun p hp => ?_⟩⟩
  exact k _ _ _ (s1.trans (same_new hp _)) (RV.start (rv_lst (fun a e => R.ofree (s1.free e)) hp (rvs.reps (solidB_iff h1.1))) s1) h1.2.2

noncomputable def sIx : D → D → (EV → Prop) → Prop := fun x y φ => match x, y with
  | .lst ds, .int i => match atI ds i with
    | some d => φ (dv d)
    | none => False
  | .tup ds, .int i => match atI ds i with
    | some d => φ (dv d)
    | none => False
  | .scr ns, .int i => match atI ns i with
    | some n => φ (dv (.int n))
    | none => False
  | .str z, .int i => z.length ≤ sizeLine ∧ match atI z.cps.toList i with
    | some c => φ (dv (.str ⟨#[c]⟩))
    | none => False
  | _, _ => False
theorem atI_reps {K : PySem.W.Frag} {H : Hp} {O : List Addr} {ds : List D} {xs : List V} {i : Int} {d : D} (r : Reps K H O ds xs) (h : atI ds i = some d) : ∃ v, atI xs i = some v ∧ Rep K H O d v := by
  unfold atI at h ⊢
  rw [r.length]
  cases e : ixN ds.length i with
  | none => rw [e] at h; cases h
  | some j =>
    rw [e] at h
    exact r.get h
theorem link_ix : Link2 X.K (rIx X.K) sIx := by
  intro H O x y vx vy φ Q ho hx hy h k
  unfold sIx at h
  split at h
  · obtain ⟨a, xs, rfl, q, r⟩ := hx
    split at h
    · rename_i d e
      obtain ⟨v, ev, rv⟩ := atI_reps r e
      exact .inl ⟨a, xs, _, v, rfl, hy, SqL.of q, ev, k _ _ H (Same.refl H) (RV.val rv) h⟩
    · exact h.elim
  · obtain ⟨a, xs, rfl, q, r⟩ := hx
    split at h
    · rename_i d e
      obtain ⟨v, ev, rv⟩ := atI_reps r e
      exact .inr (.inl ⟨a, xs, _, v, rfl, hy, q.1, ev, k _ _ H (Same.refl H) (RV.val rv) h⟩)
    · exact h.elim
  · obtain ⟨a, rfl, q⟩ := hx
    split at h
    · rename_i n e
      refine .inl ⟨a, _, _, .int n, rfl, hy, q.seq, ?_, k _ _ H (Same.refl H) (by exact rfl) h⟩
      unfold atI at e ⊢
      rw [List.length_map]
      cases e2 : ixN _ _ with
      | none => rw [e2] at e; cases e
      | some j =>
        rw [e2] at e
        exact (List.getElem?_map ..).trans (congrArg (Option.map V.int) e)
    · exact h.elim
  · obtain ⟨hz, h⟩ := h
    split at h
    · rename_i c e
      exact .inr (.inr ⟨_, _, c, hx, hy, hz, e, k _ _ H (Same.refl H) (by exact rfl) h⟩)
    · exact h.elim
  · exact h.elim
noncomputable abbrev TDo := DE → (Option Int → Prop) → Prop
noncomputable def liftO (K : PySem.W.Frag) (H₀ : Hp) (t : TDo) : TO := fun σ H Q => ∃ ρ o, REnv K H₀ H σ ρ o ∧ ∃ φ, t ρ φ ∧ ∀ b H', Same H H' → φ b → Q b H'
noncomputable def EO (G : Hp → Prop) (X : Cx) (e : Option Expr) (t : TDo) : Prop := ∀ H₀ : {H : Hp // G H}, PO X e (liftO X.K H₀.1 t)
noncomputable def oNone : TDo := fun _ φ => φ none
noncomputable def oSome (t : TD) : TDo := fun ρ φ => t ρ fun r => match r.d with
  | .int i => φ (some i)
  | _ => False
theorem impO {e : Option Expr} {t t' : TO} (h : PO X e t) (i : ∀ σ H Q, t' σ H Q → t σ H Q) : PO X e t' := fun pins s σ H Q I q => h pins s σ H Q I (i σ H Q q)
theorem eo_none : EO Γ X none oNone := fun H₀ => impO po_none fun σ H Q h => by
  obtain ⟨ρ, o, R, φ, hφ, k⟩ := h
  exact k none H (Same.refl H) hφ
theorem eo_some (h : ED Γ X e te) : EO Γ X (some e) (oSome te) := fun H₀ => impO (po_some (h H₀)) fun σ H Q q => by
  obtain ⟨ρ, o, R, φ, hφ, k⟩ := q
  refine ⟨ρ, o, R, _, hφ, fun v r H1 s1 rv h1 => ?_⟩
  obtain ⟨kd, d⟩ := r
  cases d with
  | int i => exact ⟨i, rv.view, k _ H1 s1 h1⟩
  | _ => exact h1.elim
noncomputable def cutD (xs : List D) (lo hi : Option Int) : List D := (xs.drop (HT.sIx xs.length 0 lo)).take (HT.sIx xs.length xs.length hi - HT.sIx xs.length 0 lo)
theorem reps_cut {K : PySem.W.Frag} {H : Hp} {O : List Addr} {ds : List D} {xs : List V} (r : Reps K H O ds xs) (lo hi : Option Int) : Reps K H O (cutD ds lo hi) (cutV xs lo hi) := by
  unfold cutD cutV
  rw [r.length]
  exact (r.drop _).take _
noncomputable def sSl : D → Option Int → Option Int → (EV → Prop) → Prop := fun x lo hi φ => match x with
  | .lst ds => φ (df (.lst (cutD ds lo hi)))
  | .scr ns => φ (df (.lst (cutD (ns.map D.int) lo hi)))
  | .tup ds => ¬ (HT.sIx ds.length 0 lo = 0 ∧ HT.sIx ds.length ds.length hi = ds.length) ∧ φ (dv (.tup (cutD ds lo hi)))
  | _ => False
noncomputable def dSl (te : TD) (tl th : TDo) : TD := fun ρ φ => te ρ fun x => tl ρ fun l => th ρ fun u => sSl x.d l u φ
theorem ed_slice {lo hi : Option Expr} {tl th : TDo} {p2 : Pos} (he : ED Γ X e te) (hl : EO Γ X lo tl) (hu : EO Γ X hi th) : ED Γ X (.Subscript e (.Slice lo hi none p2) pos) (dSl te tl th) := fun H₀ =>
  impE (pe_slice (sl_list.or sl_tup) (he H₀) (hl H₀) (hu H₀)) fun σ H Q q => by
    obtain ⟨ρ, o, R, φ, hφ, k⟩ := q
    refine ⟨ρ, o, R, _, hφ, fun v r H1 s1 rv h1 => ⟨ρ, o, R.to s1, _, h1, fun l H2 s2 h2 => ⟨ρ, o, R.to (s1.trans s2), _, h2, fun u H3 s3 h3 => ?_⟩⟩⟩
    have s12 := s1.trans s2
    have s13 := s12.trans s3
    have vw := (rv.same (s2.trans s3)).view
    obtain ⟨kd, d⟩ := r
    cases d with
    | lst ds =>
      obtain ⟨a, xs, rfl, q, r⟩ := vw
      refine .inl ⟨a, xs, rfl, SqL.of q, fun p hp => ?_⟩
      exact k _ _ _ (s13.trans (same_new hp _)) (RV.start (rv_lst (fun a e => R.ofree (s13.free e)) hp (reps_cut r l u)) s13) h3
    | scr ns =>
      obtain ⟨a, rfl, q⟩ := vw
      refine .inl ⟨a, _, rfl, q.seq, fun p hp => ?_⟩
      exact k _ _ _ (s13.trans (same_new hp _)) (RV.start (rv_lst (fun a e => R.ofree (s13.free e)) hp (reps_cut (Reps.ints ns) l u)) s13) h3
    | tup ds =>
      obtain ⟨a, xs, rfl, q, r⟩ := vw
      refine .inr ⟨a, xs, rfl, q.1, by rw [r.length]; exact h3.1, fun p hp => ?_⟩
      exact k _ _ _ (s13.trans (same_new hp _)) (RV.start (rv_tup hp (reps_cut r l u)) s13) h3.2
    | _ => exact h3.elim
end
end DL

set_option Elab.async false
set_option linter.all false
set_option maxRecDepth 100000
set_option maxHeartbeats 4000000
namespace DL
open PySem PySem.Spec L2 L3
open PyProof.Rows hiding St
variable {Γ : Hp → Prop}

noncomputable def pureEV (r : EV) : Prop := match r.k with
  | .val => pureD r.d
  | .own => False
  | .fre => match r.d with
    | .lst ds => pureDs ds
    | .dk _ ds => pureDs ds
    | .dt _ ds => pureDs ds
    | _ => False
  | .new => True
theorem RV.lift {K : PySem.W.Frag} {H0 H : Hp} {O : List Addr} {r : EV} {v : V} (h : RV K H0 H [] r v) (p : pureEV r) (ho : ∀ a, H0 a = none → a ∉ O) : RV K H0 H O r v := by
  obtain ⟨k, d⟩ := r
  cases k with
  | val => exact Rep.pure _ _ p h
  | own => exact p.elim
  | fre =>
    obtain ⟨a, e, m, n, c⟩ := h
    refine ⟨a, e, m, ho a m, ?_⟩
    cases d with
    | lst ds => obtain ⟨xs, q, r⟩ := c; exact ⟨xs, q, Reps.pure _ _ p r⟩
    | dk ks ds => obtain ⟨xs, q, l, nd, r⟩ := c; exact ⟨xs, q, l, nd, Reps.pure _ _ p r⟩
    | dt ks ds => obtain ⟨xs, q, l, nd, r⟩ := c; exact ⟨xs, q, l, nd, Reps.pure _ _ p r⟩
    | _ => exact c.elim
  | new => exact RepN.to (Same.refl H) (fun a z => ⟨ho a z.2, z.2⟩) _ _ h
noncomputable abbrev FT := List D → (EV → Prop) → Prop
noncomputable def spD (K : PySem.W.Frag) (n : Nat) (T : FT) : Sp := fun vs H Q _ => ∃ ds φ, ds.length = n ∧ Reps K H [] ds vs ∧ T ds φ ∧ ∀ v r H', Same H H' → RV K H H' [] r v → pureEV r → φ r → Q v H'
structure FD (P : Program) (w : World) (K : PySem.W.Frag) (mg : Str → Option Value) (base : Heap) (k : Nat) (x : Str) (ps : List Str) (T : FT) : Prop where
  ex : ∃ f fd, FnOk P w K mg base CX0 k f fd ps (spD K ps.length T) ∧ Binds K fd ps [] ∧ PySem.W.keepIn K (.ref f) = true ∧ mg x = some (.ref f)
noncomputable def dCall (n : Nat) (T : FT) (t : TDs) : TD := fun ρ φ => t ρ fun rs => Nat.beq rs.length n = true ∧ T (rs.map EV.d) φ
section
variable {X : Cx} {x : Str} {ps : List Str} {T : FT} {k : Nat} {e : Expr} {es : List Expr} {t : TDs} {p pos : Pos}
theorem lift_call {H₀ : Hp} : ∀ σ H Q, liftE X.K H₀ (dCall ps.length T t) σ H Q → tCall (spD X.K ps.length T) [] E0 (liftA X.K H₀ t) σ H Q := fun σ H Q q => by
  obtain ⟨ρ, o, R, φ, hφ, kk⟩ := q
  refine ⟨ρ, o, R, _, hφ, fun vs rs H1 s1 rvs h1 => ?_⟩
  show spD X.K ps.length T (vs ++ []) H1 Q E0
  rw [List.append_nil]
  refine ⟨rs.map EV.d, φ, by rw [List.length_map]; exact Nat.eq_of_beq_eq_true h1.1, rvs.reps0, h1.2, fun v r H2 s2 rv pr h2 => ?_⟩
  exact kk v r H2 (s1.trans s2) (RV.start (rv.lift pr fun a e => R.ofree (s1.free e)) s1) h2
theorem ed_call (F : FD X.prog X.w X.K X.mg X.base k x ps T) (hr : Room k X.A) (ha : EA Γ X (e :: es) t) (hg : Gl X x := by rfl) (hdb : (x == ("__debug__" : Str)) = false := by decide)
    (he : starEach (e :: es) X.env = (false, eval e X.env) :: starEach es X.env := by rfl) (hpl : (backTo pos (starEach es X.env)).any (·.1) = false := by rfl) : ED Γ X (.Call (.Name x p) (e :: es) [] pos) (dCall ps.length T t) := fun H₀ => by
  obtain ⟨f, fd, ok, b, kp, m⟩ := F.ex
  exact impE (pe_call ok hr hg m kp b .nil pass0 (ha H₀) hdb he hpl) lift_call
noncomputable def Views (K : PySem.W.Frag) (H : Hp) (O : List Addr) : List D → List V → Prop
  | [], vs => vs = []
  | d :: ds, vs => ∃ v ws, vs = v :: ws ∧ View K H O d v ∧ Views K H O ds ws
theorem RVs.views {K : PySem.W.Frag} {H0 H : Hp} {O : List Addr} : ∀ {rs : List EV} {vs : List V}, RVs K H0 H O rs vs → Views K H O (rs.map EV.d) vs
  | [], _, h => h
  | r :: rs, vs, h => by
    obtain ⟨v, ws, e, q, t⟩ := h
    exact ⟨v, ws, e, q.view, t.views⟩
noncomputable def LinkC (K : PySem.W.Frag) (r : List V → Hp → VK → Prop) (s : FT) : Prop :=
  ∀ (H : Hp) (O : List Addr) (ds : List D) (vs : List V) (φ : EV → Prop) (Q : VK), (∀ a, H a = none → a ∉ O) → Views K H O ds vs → s ds φ → (∀ v r H', Same H H' → RV K H H' O r v → φ r → Q v H') → r vs H Q
noncomputable def dCB (s : FT) (t : TDs) : TD := fun ρ φ => t ρ fun rs => s (rs.map EV.d) φ
theorem lift_cb {r : List V → Hp → VK → Prop} {s : FT} (hl : LinkC X.K r s) {H₀ : Hp} : ∀ σ H Q, liftE X.K H₀ (dCB s t) σ H Q → tCB r (liftA X.K H₀ t) σ H Q := fun σ H Q q => by
  obtain ⟨ρ, o, R, φ, hφ, kk⟩ := q
  refine ⟨ρ, o, R, _, hφ, fun vs rs H1 s1 rvs h1 => ?_⟩
  exact hl H1 _ _ vs φ Q (fun a e => R.ofree (s1.free e)) rvs.views h1 fun v r H2 s2 rv h2 => kk v r H2 (s1.trans s2) (rv.start s1) h2
theorem ed_callB {id : String} {r : List V → Hp → VK → Prop} {s : FT} (hc : CallR X (.builtin id) r) (hl : LinkC X.K r s) (hm : X.mg x = none) (hv : bootBuiltins x = some (.builtin id)) (ha : EA Γ X (e :: es) t) (hg : Gl X x := by rfl) (hn : x ≠ "__name__" := by decide) (hdb : (x == ("__debug__" : Str)) = false := by decide)
    (he : starEach (e :: es) X.env = (false, eval e X.env) :: starEach es X.env := by rfl) (hpl : (backTo pos (starEach es X.env)).any (·.1) = false := by rfl) : ED Γ X (.Call (.Name x p) (e :: es) [] pos) (dCB s t) := fun H₀ =>
  impE (pe_callB hc hg hm hv (ha H₀) hn hdb he hpl) (lift_cb hl)
theorem ed_callTy {T : String} {r : List V → Hp → VK → Prop} {s : FT} (hc : CallR X (.type T) r) (hl : LinkC X.K r s) (hm : X.mg x = none) (hv : bootBuiltins x = some (.type T)) (ha : EA Γ X (e :: es) t) (hg : Gl X x := by rfl) (hn : x ≠ "__name__" := by decide) (hdb : (x == ("__debug__" : Str)) = false := by decide)
    (he : starEach (e :: es) X.env = (false, eval e X.env) :: starEach es X.env := by rfl) (hpl : (backTo pos (starEach es X.env)).any (·.1) = false := by rfl) : ED Γ X (.Call (.Name x p) (e :: es) [] pos) (dCB s t) := fun H₀ =>
  impE (pe_callTy hc hg hm hv (ha H₀) hn hdb he hpl) (lift_cb hl)
noncomputable def sLen : FT := fun ds φ => match ds with
  | [.lst l] => φ (dv (.int l.length))
  | [.tup l] => φ (dv (.int l.length))
  | [.scr l] => φ (dv (.int l.length))
  | [.str z] => z.length ≤ sizeLine ∧ φ (dv (.int z.length))
  | _ => False
theorem link_len : LinkC X.K (fun xs H Q => (∃ p ys, xs = [.ref p] ∧ (SqL X.K H p ys ∨ SqT X.K H p ys) ∧ Q (.int ys.length) H) ∨ ∃ z, xs = [.str z] ∧ z.length ≤ sizeLine ∧ Q (.int z.length) H) sLen := by
  intro H O ds vs φ Q ho hv h k
  unfold sLen at h
  split at h
  · obtain ⟨v, ws, rfl, ⟨a, xs, rfl, q, r⟩, rfl⟩ := hv
    refine .inl ⟨a, xs, rfl, .inl (SqL.of q), ?_⟩
    rw [r.length]
    exact k _ _ H (Same.refl H) (by exact rfl) h
  · obtain ⟨v, ws, rfl, ⟨a, xs, rfl, q, r⟩, rfl⟩ := hv
    refine .inl ⟨a, xs, rfl, .inr q.1, ?_⟩
    rw [r.length]
    exact k _ _ H (Same.refl H) (by exact rfl) h
  · obtain ⟨v, ws, rfl, ⟨a, rfl, q⟩, rfl⟩ := hv
    refine .inl ⟨a, _, rfl, .inl q.seq, ?_⟩
    rw [List.length_map]
    exact k _ _ H (Same.refl H) (by exact rfl) h
  · obtain ⟨v, ws, rfl, hz, rfl⟩ := hv
    cases (show v = _ from hz)
    exact .inr ⟨_, rfl, h.1, k _ _ H (Same.refl H) (by exact rfl) h.2⟩
  · exact h.elim
theorem ed_len (hm : X.mg "len" = none) (ha : EA Γ X (e :: es) t) (hg : Gl X "len" := by rfl) (he : starEach (e :: es) X.env = (false, eval e X.env) :: starEach es X.env := by rfl) (hpl : (backTo pos (starEach es X.env)).any (·.1) = false := by rfl) : ED Γ X (.Call (.Name "len" p) (e :: es) [] pos) (dCB sLen t) :=
  ed_callB (call_len_seq.or call_len_str) link_len hm PySem.boot_len ha hg (by decide) (by decide) he hpl
noncomputable def sAbs : FT := fun ds φ => match ds with
  | [.int i] => φ (dv (.int (if i < 0 then -i else i)))
  | _ => False
end
end DL

set_option Elab.async false
set_option linter.all false
set_option maxRecDepth 100000
set_option maxHeartbeats 4000000
namespace DL
open PySem PySem.Spec L2 L3
open PyProof.Rows hiding St
variable {Γ : Hp → Prop}

noncomputable def EV.sto (r : EV) : EV := ⟨match r.k with
  | .fre => .own
  | .new => .val
  | k => k, r.d⟩
noncomputable def EV.ret (r : EV) : EV := ⟨match r.k with
  | .own => .fre
  | k => k, r.d⟩
noncomputable def setS : DE → Nat → EV → DE
  | [], _, _ => []
  | _ :: r, 0, v => some v :: r
  | x :: r, i + 1, v => x :: setS r i v
theorem setS_eq : ∀ (ρ : DE) (i : Nat) (v : EV), setS ρ i v = ρ.set i (some v)
  | [], _, _ => rfl
  | _ :: _, 0, _ => rfl
  | x :: r, i + 1, v => by rw [setS, setS_eq r i v, List.set_cons_succ]
theorem Con.grow {K : PySem.W.Frag} {H H' : Hp} {O O' : List Addr} {d : D} {a : Addr} (h : Con K H O d a) (s : ∀ u, H a = some u → H' a = some u) (g : Grow O O' H H') : Con K H' O' d a := by
  cases d with
  | lst ds => obtain ⟨xs, q, r⟩ := h; exact ⟨xs, s _ q, Reps.grow g _ _ r⟩
  | dk ks ds => obtain ⟨xs, q, l, n, r⟩ := h; exact ⟨xs, s _ q, l, n, Reps.grow g _ _ r⟩
  | dt ks ds => obtain ⟨xs, q, l, n, r⟩ := h; exact ⟨xs, s _ q, l, n, Reps.grow g _ _ r⟩
  | _ => exact h.elim
theorem Con.mtb {K : PySem.W.Frag} {H : Hp} {O : List Addr} {d : D} {a : Addr} (h : Con K H O d a) : (∃ u, H a = some u) ∧ (∀ xs, H a ≠ some (.tup xs)) ∧ ∀ ob u, H a ≠ some (.frz ob u) := by
  cases d with
  | lst ds => obtain ⟨xs, q, r⟩ := h; exact ⟨⟨_, q⟩, (fun xs z => by rw [q] at z; cases z), (fun ob u z => by rw [q] at z; cases z)⟩
  | dk ks ds => obtain ⟨xs, q, r⟩ := h; exact ⟨⟨_, q⟩, (fun xs z => by rw [q] at z; cases z), (fun ob u z => by rw [q] at z; cases z)⟩
  | dt ks ds => obtain ⟨xs, q, r⟩ := h; exact ⟨⟨_, q⟩, (fun xs z => by rw [q] at z; cases z), (fun ob u z => by rw [q] at z; cases z)⟩
  | _ => exact h.elim
section
variable {K : PySem.W.Frag} {H₀ H H' : Hp} {σ : St} {ρ : DE} {o : List (Nat × Addr)}
/-- a thing that stays -/
theorem REnv.setV (R : REnv K H₀ H σ ρ o) (i : Nat) {d : D} {v : V} (h : Rep K H (o.map Prod.snd) d v) : REnv K H₀ H (σ.set i (some v)) (setS ρ i (dv d)) o where
  same := R.same
  fresh := R.fresh
  trk := R.trk
  mtb := R.mtb
  nda := R.nda
  len := by rw [setS_eq, List.length_set, List.length_set]; exact R.len
  slots := fun j r e => by
    rw [setS_eq] at e
    by_cases hj : j = i
    · subst hj
      have hl : j < ρ.length := by
        rcases Nat.lt_or_ge j ρ.length with z | z
        · exact z
        · rw [List.getElem?_eq_none (by rw [List.length_set]; exact z)] at e
          cases e
      rw [List.getElem?_set_self hl] at e
      cases e
      exact ⟨v, List.getElem?_set_self (by rw [R.len]; exact hl), .inl ⟨rfl, h⟩⟩
    · rw [List.getElem?_set_ne (Ne.symm hj)] at e
      obtain ⟨w, ew, q⟩ := R.slots j r e
      exact ⟨w, by rw [List.getElem?_set_ne (Ne.symm hj)]; exact ew, q⟩
/-- a new list or dict becomes ours -/
theorem REnv.setO (R : REnv K H₀ H σ ρ o) (s : Same H H') (i : Nat) {d : D} {a : Addr} (ha : H a = none) (c : Con K H' (a :: o.map Prod.snd) d a) :
    REnv K H₀ H' (σ.set i (some (.ref a))) (setS ρ i (dO d)) ((i, a) :: o) ∧ Grow (o.map Prod.snd) (((i, a) :: o).map Prod.snd) H H' := by
  have g : Grow (o.map Prod.snd) (((i, a) :: o).map Prod.snd) H H' := by
    refine ⟨fun b u h n => ⟨s b u h, fun z => ?_⟩, fun b xs h => s b _ h, fun b ob u h => s b _ h⟩
    rw [List.map_cons] at z
    rcases List.mem_cons.mp z with z | z
    · exact ne_of_none h ha z
    · exact n z
  refine ⟨?_, g⟩
  have R' := R.to s
  exact {
    same := R'.same
    fresh := fun p hp => by
      rcases List.mem_cons.mp hp with rfl | hp
      · exact R.same.free ha
      · exact R.fresh p hp
    trk := fun p hp => by
      rcases List.mem_cons.mp hp with rfl | hp
      · exact c.mtb.1
      · exact R'.trk p hp
    mtb := fun p hp => by
      rcases List.mem_cons.mp hp with rfl | hp
      · exact c.mtb.2
      · exact R'.mtb p hp
    nda := by
      rw [List.map_cons, List.nodup_cons]
      exact ⟨fun z => R.ofree ha z, R.nda⟩
    len := by rw [setS_eq, List.length_set, List.length_set]; exact R.len
    slots := fun j r e => by
      rw [setS_eq] at e
      by_cases hj : j = i
      · subst hj
        have hl : j < ρ.length := by
          rcases Nat.lt_or_ge j ρ.length with z | z
          · exact z
          · rw [List.getElem?_eq_none (by rw [List.length_set]; exact z)] at e
            cases e
        rw [List.getElem?_set_self hl] at e
        cases e
        exact ⟨_, List.getElem?_set_self (by rw [R.len]; exact hl), .inr ⟨rfl, a, rfl, List.mem_cons_self .., c⟩⟩
      · rw [List.getElem?_set_ne (Ne.symm hj)] at e
        obtain ⟨w, ew, q⟩ := R.slots j r e
        refine ⟨w, by rw [List.getElem?_set_ne (Ne.symm hj)]; exact ew, ?_⟩
        rcases q with ⟨k, q⟩ | ⟨k, a', e1, m, c'⟩
        · exact .inl ⟨k, Rep.grow g _ _ q⟩
        · exact .inr ⟨k, a', e1, List.mem_cons_of_mem _ m, c'.grow (fun u q => s _ _ q) g⟩ }
/-- either -/
theorem REnv.put (R : REnv K H₀ H σ ρ o) (s : Same H H') (i : Nat) {r : EV} {v : V} (h : RV K H H' (o.map Prod.snd) r v) (hk : r.k ≠ .own) :
    ∃ o', REnv K H₀ H' (σ.set i (some v)) (setS ρ i r.sto) o' ∧ Grow (o.map Prod.snd) (o'.map Prod.snd) H H' := by
  obtain ⟨k, d⟩ := r
  cases k with
  | val => exact ⟨_, (R.to s).setV i h, Grow.same s⟩
  | own => exact absurd rfl hk
  | fre =>
    obtain ⟨a, rfl, m, n, c⟩ := h
    exact ⟨_, R.setO s i m c⟩
  | new => exact ⟨_, (R.to s).setV i (RepN.rep (fun a z => z.1) _ _ h), Grow.same s⟩
theorem inj_snd : ∀ {o : List (Nat × Addr)}, (o.map Prod.snd).Nodup → ∀ {p q : Nat × Addr}, p ∈ o → q ∈ o → p.2 = q.2 → p = q
  | [], _, _, _, h, _, _ => nomatch h
  | x :: o, nd, p, q, hp, hq, e => by
    rw [List.map_cons, List.nodup_cons] at nd
    rcases List.mem_cons.mp hp with h1 | hp
    · rcases List.mem_cons.mp hq with h2 | hq
      · rw [h1, h2]
      · exact absurd (List.mem_map.mpr ⟨q, hq, by rw [← e, h1]⟩) nd.1
    · rcases List.mem_cons.mp hq with h2 | hq
      · exact absurd (List.mem_map.mpr ⟨p, hp, by rw [e, h2]⟩) nd.1
      · exact inj_snd nd.2 hp hq e
/-- our own list or dict at slot i is changed -/
theorem REnv.chg (R : REnv K H₀ H σ ρ o) {i : Nat} {a : Addr} {d d' : D} {ho : HO} (hs : ρ[i]? = some (some (dO d))) (hσ : σ[i]? = some (some (.ref a))) (hm : (i, a) ∈ o) (hho : (∀ xs, ho ≠ .tup xs) ∧ ∀ ob u, ho ≠ .frz ob u)
    (c : (∀ ds xs, Reps K H (o.map Prod.snd) ds xs → Reps K (upd H a ho) (o.map Prod.snd) ds xs) → Con K (upd H a ho) (o.map Prod.snd) d' a) :
    REnv K H₀ (upd H a ho) σ (setS ρ i (dO d')) o ∧ Grow (o.map Prod.snd) (o.map Prod.snd) H (upd H a ho) := by
  have ha : a ∈ o.map Prod.snd := List.mem_map.mpr ⟨_, hm, rfl⟩
  obtain ⟨m1, m2⟩ := R.mtb _ hm
  have g : Grow (o.map Prod.snd) (o.map Prod.snd) H (upd H a ho) :=
    ⟨fun b u h n => ⟨by rw [upd_ne (show b ≠ a from fun z => n (by rw [z]; exact ha))]; exact h, n⟩, fun b xs h => by rw [upd_ne (show b ≠ a from fun z => m1 xs (by rw [← z]; exact h))]; exact h, fun b ob u h => by rw [upd_ne (show b ≠ a from fun z => m2 ob u (by rw [← z]; exact h))]; exact h⟩
  refine ⟨?_, g⟩
  exact {
    same := fun b u h => by
      have : b ≠ a := fun z => by
        have := R.fresh _ hm
        rw [← z, h] at this
        cases this
      rw [upd_ne this]
      exact R.same b u h
    fresh := R.fresh
    trk := fun p hp => by
      by_cases e : p.2 = a
      · exact ⟨ho, by rw [e]; exact upd_same⟩
      · rw [upd_ne e]
        exact R.trk p hp
    mtb := fun p hp => by
      by_cases e : p.2 = a
      · rw [e, upd_same]
        exact ⟨fun xs z => hho.1 xs (Option.some.inj z), fun ob u z => hho.2 ob u (Option.some.inj z)⟩
      · rw [upd_ne e]
        exact R.mtb p hp
    nda := R.nda
    len := by rw [setS_eq, List.length_set]; exact R.len
    slots := fun j r e => by
      rw [setS_eq] at e
      by_cases hj : j = i
      · subst hj
        have hl : j < ρ.length := (List.getElem?_eq_some_iff.mp hs).1
        rw [List.getElem?_set_self hl] at e
        cases e
        obtain ⟨v, ev, q⟩ := R.slots j _ hs
        rcases q with ⟨k, _⟩ | ⟨_, a', e1, m', _⟩
        · cases k
        · have haa : a' = a := by
            rw [hσ] at ev
            cases ev
            cases e1
            rfl
          subst haa
          exact ⟨v, ev, .inr ⟨rfl, a', e1, hm, c fun ds xs q => Reps.grow g _ _ q⟩⟩
      · rw [List.getElem?_set_ne (Ne.symm hj)] at e
        obtain ⟨w, ew, q⟩ := R.slots j r e
        refine ⟨w, ew, ?_⟩
        rcases q with ⟨k, q⟩ | ⟨k, a', e1, m', c'⟩
        · exact .inl ⟨k, Rep.grow g _ _ q⟩
        · refine .inr ⟨k, a', e1, m', c'.grow (fun u q => ?_) g⟩
          have hne : a' ≠ a := fun z => by
            exact hj (congrArg Prod.fst (inj_snd R.nda m' hm z))
          rw [upd_ne hne]
          exact q }
end

section
variable {X : Cx} {st : Stmt} {rest : List Stmt} {t u : TDS} {e : Expr} {te : TD} {tc : TDb} {pos : Pos}
noncomputable def sNil : TDS := fun ρ Z => Z.nx ρ
noncomputable def sSeq (t u : TDS) : TDS := fun ρ Z => t ρ { Z with nx := fun ρ' => u ρ' Z }
theorem ss_nil : SDs Γ X [] sNil := fun H₀ => impSs pss_nil fun D σ H h => by
  obtain ⟨ρ, o, R, Z, hZ, k1, _⟩ := h
  exact k1 ρ σ H o Grow.refl R hZ
theorem ss_cons (h1 : SD Γ X st t) (h2 : SDs Γ X rest u) : SDs Γ X (st :: rest) (sSeq t u) := fun H₀ => impSs (pss_cons (h1 H₀) (h2 H₀)) fun D σ H h => by
  obtain ⟨ρ, o, R, Z, hZ, k1, k2, k3, k4⟩ := h
  refine ⟨ρ, o, R, _, hZ, fun ρ' σ' H' o' g R' q => ?_, k2, k3, k4⟩
  exact ⟨ρ', o', R', Z, q, fun ρ2 σ2 H2 o2 g2 R2 q2 => k1 ρ2 σ2 H2 o2 (g.trans g2) R2 q2, fun ρ2 σ2 H2 o2 g2 R2 q2 => k2 ρ2 σ2 H2 o2 (g.trans g2) R2 q2, fun ρ2 σ2 H2 o2 g2 R2 q2 => k3 ρ2 σ2 H2 o2 (g.trans g2) R2 q2, k4⟩
theorem ss_one (h1 : SD Γ X st t) : SDs Γ X [st] t := fun H₀ => pss_one (h1 H₀)
theorem ed_never {e : Expr} : ED Γ X e (fun _ _ => False) := fun H₀ pins s σ H Q I h => by
  obtain ⟨_, _, _, _, hφ, _⟩ := h
  exact hφ.elim
noncomputable def sRet (te : TD) : TDS := fun ρ Z => te ρ fun r => Z.rt r.ret
theorem RV.ret {K : PySem.W.Frag} {H₀ H H' : Hp} {σ : St} {ρ : DE} {o : List (Nat × Addr)} (R : REnv K H₀ H σ ρ o) {r : EV} {v : V} (h : RV K H H' (o.map Prod.snd) r v) : RV K H₀ H' [] r.ret v := by
  obtain ⟨k, d⟩ := r
  cases k with
  | val => exact Rep.sub (O' := []) (fun _ z => absurd z (by simp)) _ _ h
  | own =>
    obtain ⟨a, e, m, c⟩ := h
    obtain ⟨p, hp, ep⟩ := List.mem_map.mp m
    subst ep
    exact ⟨p.2, e, R.fresh p hp, by simp, c.sub fun b hb => by
      have : b = p.2 := by simpa using hb
      rw [this]
      exact m⟩
  | fre =>
    obtain ⟨a, e, m, n, c⟩ := h
    exact ⟨a, e, R.same.free m, by simp, c.sub fun b hb => by
      have : b = a := by simpa using hb
      rw [this]
      exact List.mem_cons_self ..⟩
  | new => exact RepN.to (Same.refl H') (fun a z => ⟨by simp, R.same.free z.2⟩) _ _ h
theorem sd_ret (he : ED Γ X e te) : SD Γ X (.Return (some e) pos) (sRet te) := fun H₀ => impS (ps_ret (he H₀)) fun D σ H h => by
  obtain ⟨ρ, o, R, Z, hZ, k1, k2, k3, k4⟩ := h
  refine ⟨ρ, o, R, _, hZ, fun v r H1 s1 rv h1 => ?_⟩
  exact k4 v r.ret H1 (R.same.trans s1) (RV.ret R rv) h1
noncomputable def sIf (tc : TDb) (t u : TDS) : TDS := fun ρ Z => tc ρ fun c => (c = true → t ρ Z) ∧ (c = false → u ρ Z)
theorem sd_if {c : Expr} {a b : List Stmt} (hc : ET Γ X c tc) (ha : SDs Γ X a t) (hb : SDs Γ X b u) : SD Γ X (.If c a b pos) (sIf tc t u) := fun H₀ => impS (ps_if (hc H₀) (ha H₀) (hb H₀)) fun D σ H h => by
  obtain ⟨ρ, o, R, Z, hZ, k1, k2, k3, k4⟩ := h
  refine ⟨ρ, o, R, _, hZ, fun c H1 s1 h1 => ?_⟩
  have g : Grow (o.map Prod.snd) (o.map Prod.snd) H H1 := Grow.same s1
  have kk : ∀ {v : TDS}, v ρ Z → liftS X.K H₀.1 v D σ H1 := fun hv => ⟨ρ, o, R.to s1, Z, hv, fun ρ2 σ2 H2 o2 g2 R2 q2 => k1 ρ2 σ2 H2 o2 (g.trans g2) R2 q2, fun ρ2 σ2 H2 o2 g2 R2 q2 => k2 ρ2 σ2 H2 o2 (g.trans g2) R2 q2, fun ρ2 σ2 H2 o2 g2 R2 q2 => k3 ρ2 σ2 H2 o2 (g.trans g2) R2 q2, k4⟩
  cases c with
  | true => exact iteT (kk (h1.1 rfl))
  | false => exact iteF (kk (h1.2 rfl))
/-- behind a statement something is known -/
noncomputable def sCut (t : TDS) : TDS := fun ρ Z => ∃ J : DE → Prop, t ρ { Z with nx := J } ∧ ∀ ρ', J ρ' → Z.nx ρ'
theorem sd_cut (h : SD Γ X st t) : SD Γ X st (sCut t) := fun H₀ => impS (h H₀) fun D σ H h => by
  obtain ⟨ρ, o, R, Z, ⟨J, hZ, hJ⟩, k1, k2, k3, k4⟩ := h
  exact ⟨ρ, o, R, _, hZ, fun ρ2 σ2 H2 o2 g2 R2 q2 => k1 ρ2 σ2 H2 o2 g2 R2 (hJ ρ2 q2), k2, k3, k4⟩
noncomputable def sExpr (te : TD) : TDS := fun ρ Z => te ρ fun _ => Z.nx ρ
theorem sd_expr (he : ED Γ X e te) (hs : swapsWith e none pos.line X.env = pure false := by rfl) : SD Γ X (.Expr e pos) (sExpr te) := fun H₀ => impS (ps_expr (he H₀) hs) fun D σ H h => by
  obtain ⟨ρ, o, R, Z, hZ, k1, k2, k3, k4⟩ := h
  exact ⟨ρ, o, R, _, hZ, fun v r H1 s1 rv h1 => k1 ρ σ H1 o (Grow.same s1) (R.to s1) h1⟩
/-- name = e -/
noncomputable def sSet (i : Nat) (te : TD) : TDS := fun ρ Z => te ρ fun r => (match r.k with | .own => False | _ => True) ∧ Z.nx (setS ρ i r.sto)
theorem notOwn {r : EV} (h : match r.k with | .own => False | _ => True) : r.k ≠ .own := by
  obtain ⟨k, d⟩ := r
  cases k with
  | own => exact h.elim
  | val => exact fun z => nomatch z
  | fre => exact fun z => nomatch z
  | new => exact fun z => nomatch z
theorem sd_set (i : Nat) {x : Str} {pos' : Pos} (hN : X.N.Nodup) (he : ED Γ X e te) (hi : X.N[i]? = some x := by rfl) (hx : Loc X.env.scope x := by first | exact Or.inl rfl | exact Or.inr rfl) (hs : swapsWith e (some (.Name x pos')) pos.line X.env = pure false := by rfl)
    (hf : X.fn x = true ∨ X.env.scope.names.lookup x = some .local := by first | exact .inl rfl | exact .inr rfl | assumption) : SD Γ X (.Assign [.Name x pos'] e pos) (sSet i te) := fun H₀ => impS (ps_set hN hi hx (he H₀) hs hf) fun D σ H h => by
  obtain ⟨ρ, o, R, Z, hZ, k1, k2, k3, k4⟩ := h
  refine ⟨ρ, o, R, _, hZ, fun v r H1 s1 rv h1 => ?_⟩
  obtain ⟨o', R', g⟩ := R.put s1 i rv (notOwn h1.1)
  exact k1 _ _ H1 o' g R' h1.2

noncomputable abbrev TGD := D → DE → (DE → Prop) → Prop
noncomputable def GLink (K : PySem.W.Frag) (g2 : TG) (g : TGD) : Prop := ∀ (H₀ H : Hp) (σ : St) (ρ : DE) (o : List (Nat × Addr)) (d : D) (v : V) (ψ : DE → Prop) (Q : St → Hp → Prop), REnv K H₀ H σ ρ o → Rep K H (o.map Prod.snd) d v → g d ρ ψ →
  (∀ ρ' σ', REnv K H₀ H σ' ρ' o → ψ ρ' → Q σ' H) → g2 v σ H Q
noncomputable def gN (i : Nat) : TGD := fun d ρ ψ => ψ (setS ρ i (dv d))
theorem gl_name {K : PySem.W.Frag} (i : Nat) : GLink K (gName i) (gN i) := fun H₀ H σ ρ o d v ψ Q R h hg k => k _ _ (R.setV i h) hg
noncomputable def gT2 (i j : Nat) : TGD := fun d ρ ψ => match d with
  | .tup [a, b] => ψ (setS (setS ρ i (dv a)) j (dv b))
  | _ => False
theorem gl_tup2 {K : PySem.W.Frag} (i j : Nat) : GLink K (gTup K 2 (gCons (gName i) (gCons (gName j) gNil))) (gT2 i j) := fun H₀ H σ ρ o d v ψ Q R h hg k => by
  unfold gT2 at hg
  split at hg
  · rename_i a b
    obtain ⟨p, xs, rfl, q, r⟩ := h
    obtain ⟨v1, r1, rfl, h1, v2, r2, rfl, h2, rfl⟩ := r
    refine ⟨p, _, rfl, q.1, rfl, v1, _, rfl, v2, _, rfl, rfl, ?_⟩
    have R1 := R.setV i h1
    have R2 := R1.setV j h2
    exact k _ _ R2 hg
  · exact hg.elim
/-- a, b = e (e a tuple) -/
noncomputable def sUn (te : TD) (g : TGD) : TDS := fun ρ Z => te ρ fun r => (match r.k with | .own => False | _ => True) ∧ g r.d ρ Z.nx
theorem sd_un {tg : Expr} {g2 : TG} {g : TGD} (he : ED Γ X e te) (hg : PG X tg g2) (hl : GLink X.K g2 g) (hs : swapsWithSole [tg] e pos.line X.env = pure false := by rfl) (hw : swappedStores [tg] e X.env = pure none := by rfl)
    (h1 : (assignEach [tg] X.env).map (·.2) = [assign tg X.env] := by rfl) : SD Γ X (.Assign [tg] e pos) (sUn te g) := fun H₀ => impS (ps_asg (he H₀) hg hs hw h1) fun D σ H h => by
  obtain ⟨ρ, o, R, Z, hZ, k1, k2, k3, k4⟩ := h
  refine ⟨ρ, o, R, _, hZ, fun v r H1 s1 rv h1 => ?_⟩
  exact hl H₀.1 H1 σ ρ o r.d v _ _ (R.to s1) (rv.solid (notOwn h1.1)) h1.2 fun ρ' σ' R' q => k1 ρ' σ' H1 o (Grow.same s1) R' q
/-- a, b = x, y -/
noncomputable def sPar (i j : Nat) (ta : TDs) : TDS := fun ρ Z => ta ρ fun rs => match rs with
  | [⟨.val, a⟩, ⟨.val, b⟩] => Z.nx (setS (setS ρ i (dv a)) j (dv b))
  | _ => False
noncomputable def sWh (tc : TDb) (tb : TDS) : TDS := fun ρ Z => ∃ (P : DE → Prop) (μ : DE → Nat), P ρ ∧ ∀ ρ, P ρ → tc ρ fun c =>
  (c = true → tb ρ { Z with nx := fun ρ' => P ρ' ∧ μ ρ' < μ ρ, ct := fun ρ' => P ρ' ∧ μ ρ' < μ ρ, bk := Z.nx }) ∧ (c = false → Z.nx ρ)
theorem sd_while {c : Expr} {body : List Stmt} {tb : TDS} (hc : ET Γ X c tc) (hb : SDs Γ X body tb) (hp : PassesOwn (model X.prog X.w) X.A X.env X.xe := by exact PassesOwn.never) : SD Γ X (.While c body [] pos) (sWh tc tb) := fun H₀ => impS (ps_while hp (hc H₀) (hb H₀)) fun D σ H h => by
  obtain ⟨ρ, o, R, Z, ⟨P, μ, hP, turn⟩, k1, k2, k3, k4⟩ := h
  refine ⟨fun m σ' H' => ∃ ρ' o', Grow (o.map Prod.snd) (o'.map Prod.snd) H H' ∧ REnv X.K H₀ H' σ' ρ' o' ∧ P ρ' ∧ μ ρ' = m, ⟨_, ρ, o, Grow.refl, R, hP, rfl⟩, ?_⟩
  rintro m σ1 H1 ⟨ρ1, o1, g1, R1, p1, rfl⟩
  refine ⟨ρ1, o1, R1, _, turn ρ1 p1, fun c H2 s2 h2 => ?_⟩
  have g2 := g1.trans (Grow.same (O := o1.map Prod.snd) s2)
  cases c with
  | true =>
    refine iteT ⟨fun σ' H' => ∃ ρ' o', Grow (o.map Prod.snd) (o'.map Prod.snd) H H' ∧ REnv X.K H₀ H' σ' ρ' o' ∧ P ρ' ∧ μ ρ' < μ ρ1, fun σ' H' ⟨ρ', o', g, R', p, l⟩ => ⟨_, l, ρ', o', g, R', p, rfl⟩, ?_⟩
    exact ⟨ρ1, o1, R1.to s2, _, h2.1 rfl, fun ρ' σ' H' o' g R' q => ⟨ρ', o', g2.trans g, R', q.1, q.2⟩, fun ρ' σ' H' o' g R' q => k1 ρ' σ' H' o' (g2.trans g) R' q, fun ρ' σ' H' o' g R' q => ⟨ρ', o', g2.trans g, R', q.1, q.2⟩, k4⟩
  | false => exact iteF (k1 ρ1 σ1 H2 o1 g2 (R1.to s2) (h2.2 rfl))

structure ItD (K : PySem.W.Frag) (J : It) (ds : List D) (P : Hp → List Addr → Prop) : Prop where
  go : ∀ (H : Hp) (O : List Addr) (i : Nat) (d : D), P H O → ds[i]? = some d → J.go i H ∧ ∀ x H', J.yld i H x H' → Same H H' ∧ Rep K H' O d x
  stop : ∀ (H : Hp) (O : List Addr), P H O → J.stop ds.length H
  keep : ∀ (O O' : List Addr) (H H' : Hp), P H O → Grow O O' H H' → P H' O'
noncomputable abbrev TID := DE → (List D → Prop) → Prop
noncomputable def liftI (K : PySem.W.Frag) (H₀ : Hp) (t : TID) : TI := fun σ H R => ∃ ρ o, REnv K H₀ H σ ρ o ∧ ∃ φ, t ρ φ ∧ ∀ J ds P H', Same H H' → ItD K J ds P → P H' (o.map Prod.snd) → φ ds → R J H'
noncomputable def EI (G : Hp → Prop) (X : Cx) (tg iter : Expr) (t : TID) : Prop := ∀ H₀ : {H : Hp // G H}, PI X tg iter (liftI X.K H₀.1 t)
end
end DL

set_option Elab.async false
set_option linter.all false
set_option maxRecDepth 100000
set_option maxHeartbeats 4000000
namespace DL
open PySem PySem.Spec L2 L3
open PyProof.Rows hiding St
variable {Γ : Hp → Prop}
section
variable {X : Cx} {tg e : Expr} {te : TD} {t : TDs} {pos : Pos}
theorem impI {iter : Expr} {t t' : TI} (h : PI X tg iter t) (i : ∀ σ H R, t' σ H R → t σ H R) : PI X tg iter t' := fun pins s σ H R I q => h pins s σ H R I (i σ H R q)
/-- a value walked -/
noncomputable def PV (X : Cx) (tg : Expr) (r : V → Hp → (It → Hp → Prop) → Prop) : Prop :=
  ∀ (pins : List (Addr × Obj)) (s : Shared) (σ : St) (H : Hp) (x : V) (v : Value) (R : It → Hp → Prop), Inv X pins σ H s → RelV x v → r x H R → wpAny (model X.prog X.w) X.A (pyIter v) (PIE X pins σ tg R) X.xe s
theorem pi_of {l : Expr} {tl : TE} {r : V → Hp → (It → Hp → Prop) → Prop} (hl : PE X l tl) (hv : PV X tg r) : PI X tg l (fun σ H R => tl σ H fun x H1 => r x H1 R) := fun pins s σ H R I h =>
  thn (hl pins s σ H _ I h) fun v s1 ⟨x, H1, I1, r1, q1⟩ => hv pins s1 σ H1 x v R I1 r1 q1
theorem pv_list : PV X tg (fun x H R => ∃ a, x = .ref a ∧ (∃ xs, SqL X.K H a xs) ∧ R (Itl X.K a) H) := by
  intro pins s1 σ H1 x v R I1 r1 q1
  obtain ⟨a, e, ⟨xs, hq⟩, q⟩ := q1
  subst e
  cases r1
  obtain ⟨its, rv, p, hz⟩ := I1.list hq
  refine wpAny_pyIter_list p.isList ?_
  refine ⟨s1.heap.objs.size, [s1.heap.objs.size], _, _, H1, rfl, I1.kept (t' := s1.toks) fun b o e => Heap.get?_push_of_some _ e, turn_list a _, ⟨_, Heap.get?_push_size _ rfl, rfl, rfl⟩, fun b hb => ?_, q⟩
  have e : b = s1.heap.objs.size := by simpa using hb
  subst e
  exact I1.fpOk (Nat.le_refl _) (I1.hok.fresh (Nat.le_refl _))
theorem pv_tup : PV X tg (fun x H R => ∃ a, x = .ref a ∧ (∃ xs, SqT X.K H a xs) ∧ R (Itt X.K a) H) := by
  intro pins s1 σ H1 x v R I1 r1 q1
  obtain ⟨a, e, ⟨xs, hq⟩, q⟩ := q1
  subst e
  cases r1
  obtain ⟨its, rv, p, hz⟩ := I1.tuple hq
  refine wpAny_pyIter_tuple (show s1.heap.IsTuple a its.toArray from p) ?_
  refine ⟨s1.heap.objs.size, [s1.heap.objs.size], _, _, H1, rfl, I1.kept (t' := s1.toks) fun b o e => Heap.get?_push_of_some _ e, turn_tuple a _, ⟨_, Heap.get?_push_size _ rfl, rfl, rfl⟩, fun b hb => ?_, q⟩
  have e : b = s1.heap.objs.size := by simpa using hb
  subst e
  exact I1.fpOk (Nat.le_refl _) (I1.hok.fresh (Nat.le_refl _))
theorem pv_str : PV X tg (fun x H R => ∃ z, x = .str z ∧ R (Itv z.cps.size (SignV z)) H) := by
  intro pins s1 σ H1 x v R I1 r1 q1
  obtain ⟨z, e, q⟩ := q1
  subst e
  obtain ⟨t, rfl⟩ := r1
  have lay : ∀ (T : String), (∀ A : Around, A.handled = none → Walks X.prog X.w A s1.heap.objs.size [s1.heap.objs.size] [s1.heap.objs.size] z.cps.size (SignAt z) (fun i h => h.IsStrIter s1.heap.objs.size T z t i)) →
      (∀ (A : Around) (i : Nat) (s : Shared) (Q : Value → Shared → Prop) (E : Value → Shared → Prop), s.heap.IsStrIter s1.heap.objs.size T z t i → Q (.ref s1.heap.objs.size) s → wpAny (model X.prog X.w) A (pyIter (.ref s1.heap.objs.size)) Q E s) →
      ["enumerate", "zip", "dict_itemiterator", "dict_reverseitemiterator", "odict_iterator", "itertools.zip_longest", "itertools.pairwise"].contains T = false →
      PIE X pins σ tg R (.ref s1.heap.objs.size) { s1 with heap := s1.heap.push { cls := .type T, data := .fields #[.str z t, .int 0 0] } } := fun T W hs hT => by
    have I2 : Inv X pins σ H1 { s1 with heap := s1.heap.push { cls := .type T, data := .fields #[.str z t, .int 0 0] } } := I1.kept (t' := s1.toks) fun b u e => Heap.get?_push_of_some _ e
    refine ⟨s1.heap.objs.size, [s1.heap.objs.size], _, _, H1, rfl, I2, turn_str W hs hT, ⟨_, Heap.get?_push_size _ rfl, rfl, rfl⟩, fun b hb => ?_, q⟩
    have e : b = s1.heap.objs.size := by simpa using hb
    subst e
    exact I1.fpOk (Nat.le_refl _) I1.fresh
  cases ha : z.cps.all (· < 128)
  · exact wpAny_pyIter_wide ha (lay "str_iterator" (fun A hA => Walks.strWide hA _ z t) (fun A i s Q E st q => wpAny_pyIter_striter_wide st q) (by decide))
  · exact wpAny_pyIter_ascii ha (lay "str_ascii_iterator" (fun A hA => Walks.strAscii hA _ z t) (fun A i s Q E st q => wpAny_pyIter_striter_ascii st q) (by decide))
/-- what a list, a tuple, the script, a text has -/
noncomputable def itemsD : D → Option (List D)
  | .lst ds => some ds
  | .tup ds => some ds
  | .scr ns => some (ns.map D.int)
  | .str z => some (z.cps.toList.map fun c => D.str ⟨#[c]⟩)
  | _ => none
noncomputable def iSeq (te : TD) : TID := fun ρ φ => te ρ fun r => (match r.k with | .own => False | _ => True) ∧ match itemsD r.d with
  | some ds => φ ds
  | none => False
theorem it_lst {K : PySem.W.Frag} {a : Addr} {ds : List D} : ItD K (Itl K a) ds (fun H O => ∃ xs, H a = some (.lst xs) ∧ a ∉ O ∧ Reps K H O ds xs) where
  go := fun H O i d ⟨xs, q, n, r⟩ e => by
    obtain ⟨v, ev, rv⟩ := r.get e
    refine ⟨⟨xs, v, SqL.of q, ev⟩, fun x H' y => ?_⟩
    obtain ⟨e1, y⟩ := y
    subst e1
    have := y xs (SqL.of q)
    rw [ev] at this
    cases this
    exact ⟨Same.refl _, rv⟩
  stop := fun H O ⟨xs, q, n, r⟩ => ⟨xs, SqL.of q, by rw [r.length]; exact Nat.le_refl _⟩
  keep := fun O O' H H' ⟨xs, q, n, r⟩ g => ⟨xs, (g.keep _ _ q n).1, (g.keep _ _ q n).2, Reps.grow g _ _ r⟩
theorem it_tup {K : PySem.W.Frag} {a : Addr} {ds : List D} : ItD K (Itt K a) ds (fun H O => ∃ xs, SqT K H a xs ∧ Reps K H O ds xs) where
  go := fun H O i d ⟨xs, q, r⟩ e => by
    obtain ⟨v, ev, rv⟩ := r.get e
    refine ⟨⟨xs, v, q, ev⟩, fun x H' y => ?_⟩
    obtain ⟨e1, y⟩ := y
    subst e1
    have := y xs q
    rw [ev] at this
    cases this
    exact ⟨Same.refl _, rv⟩
  stop := fun H O ⟨xs, q, r⟩ => ⟨xs, q, by rw [r.length]; exact Nat.le_refl _⟩
  keep := fun O O' H H' ⟨xs, q, r⟩ g => ⟨xs, sqT_grow g q, Reps.grow g _ _ r⟩
theorem it_scr {K : PySem.W.Frag} {a : Addr} {ns : List Int} : ItD K (Itl K a) (ns.map D.int) (fun H _ => Scr K H a ns) where
  go := fun H O i d q e => by
    rw [List.getElem?_map] at e
    cases en : ns[i]? with
    | none => rw [en] at e; cases e
    | some n =>
      rw [en] at e
      cases e
      have ev : (ns.map V.int)[i]? = some (.int n) := by rw [List.getElem?_map, en]; rfl
      refine ⟨⟨_, _, q.seq, ev⟩, fun x H' y => ?_⟩
      obtain ⟨e1, y⟩ := y
      subst e1
      have := y _ q.seq
      rw [ev] at this
      cases this
      exact ⟨Same.refl _, rfl⟩
  stop := fun H O q => ⟨_, q.seq, by rw [List.length_map, List.length_map]; exact Nat.le_refl _⟩
  keep := fun O O' H H' q g => scr_grow g q
theorem it_str {K : PySem.W.Frag} {z : Str} : ItD K (Itv z.cps.size (SignV z)) (z.cps.toList.map fun c => D.str ⟨#[c]⟩) (fun _ _ => True) where
  go := fun H O i d _ e => by
    rw [List.getElem?_map] at e
    cases en : z.cps.toList[i]? with
    | none => rw [en] at e; cases e
    | some n =>
      rw [en] at e
      cases e
      have hl := (List.getElem?_eq_some_iff.mp en).1
      refine ⟨(show i < z.cps.size by simpa using hl), fun x H' y => ?_⟩
      obtain ⟨e1, c, hc, ex⟩ := y
      subst e1 ex
      have : z.cps.toList[i]? = some c := by rw [Array.getElem?_toList]; exact hc
      rw [en] at this
      cases this
      exact ⟨Same.refl _, rfl⟩
  stop := fun H O _ => by show _ = _; simp
  keep := fun _ _ _ _ _ _ => trivial
noncomputable def rngD (lo : Int) (n : Nat) : List D := (List.range n).map fun (i : Nat) => D.int (lo + (i : Int))
theorem it_rng {K : PySem.W.Frag} {lo : Int} {n : Nat} : ItD K (Itr lo n) (rngD lo n) (fun _ _ => True) where
  go := fun H O i d _ e => by
    unfold rngD at e
    rw [List.getElem?_map] at e
    cases en : (List.range n)[i]? with
    | none => rw [en] at e; cases e
    | some m =>
      rw [en] at e
      cases e
      have hl := (List.getElem?_eq_some_iff.mp en).1
      rw [List.length_range] at hl
      have : m = i := by
        rw [List.getElem?_range hl] at en
        exact (Option.some.inj en).symm
      subst this
      refine ⟨hl, fun x H' y => ?_⟩
      obtain ⟨e1, ex⟩ := y
      subst e1 ex
      exact ⟨Same.refl _, rfl⟩
  stop := fun H O _ => by show n ≤ _; unfold rngD; simp
  keep := fun _ _ _ _ _ _ => trivial
theorem PV.or {r r' : V → Hp → (It → Hp → Prop) → Prop} (h : PV X tg r) (h' : PV X tg r') : PV X tg (fun x H R => r x H R ∨ r' x H R) := fun pins s σ H x v R I rx q => q.elim (h pins s σ H x v R I rx) (h' pins s σ H x v R I rx)
theorem ei_seq (he : ED Γ X e te) : EI Γ X tg e (iSeq te) := fun H₀ => impI (pi_of (he H₀) (pv_list.or (pv_tup.or pv_str))) fun σ H R q => by
  obtain ⟨ρ, o, RE, φ, hφ, k⟩ := q
  refine ⟨ρ, o, RE, _, hφ, fun v r H1 s1 rv h1 => ?_⟩
  obtain ⟨h0, h1⟩ := h1
  have rp := rv.solid (notOwn h0)
  obtain ⟨kd, d⟩ := r
  cases d with
  | lst ds =>
    obtain ⟨a, xs, rfl, q, n, r⟩ := rp
    exact .inl ⟨a, rfl, ⟨xs, SqL.of q⟩, k _ _ _ H1 s1 it_lst ⟨xs, q, n, r⟩ h1⟩
  | tup ds =>
    obtain ⟨a, xs, rfl, q, r⟩ := rp
    exact .inr (.inl ⟨a, rfl, ⟨xs, q.1⟩, k _ _ _ H1 s1 it_tup ⟨xs, q.1, r⟩ h1⟩)
  | scr ns =>
    obtain ⟨a, rfl, q⟩ := rp
    exact .inl ⟨a, rfl, ⟨_, q.seq⟩, k _ _ _ H1 s1 it_scr q h1⟩
  | str z =>
    cases (show v = _ from rp)
    exact .inr (.inr ⟨z, rfl, k _ _ _ H1 s1 it_str trivial h1⟩)
  | _ => exact h1.elim
noncomputable def iR1 (t : TDs) : TID := fun ρ φ => t ρ fun rs => match rs with
  | [⟨_, .int j⟩] => -(2 ^ 62) ≤ j ∧ j < 2 ^ 62 ∧ φ (rngD 0 j.toNat)
  | _ => False
noncomputable def iR2 (t : TDs) : TID := fun ρ φ => t ρ fun rs => match rs with
  | [⟨_, .int i⟩, ⟨_, .int j⟩] => (-(2 ^ 62) ≤ i ∧ i < 2 ^ 62 ∧ -(2 ^ 62) ≤ j ∧ j < 2 ^ 62) ∧ φ (rngD i (j - i).toNat)
  | _ => False
theorem ei_range1 {a : Expr} {p : Pos} (hm : X.mg "range" = none) (ha : EA Γ X [a] t) (hg : Gl X "range" := by rfl) (hs : starEach [a] X.env = [(false, eval a X.env)] := by rfl) : EI Γ X tg (.Call (.Name "range" p) [a] [] pos) (iR1 t) := fun H₀ => impI (pi_range1 hg hm (ha H₀) hs) fun σ H R q => by
  obtain ⟨ρ, o, RE, φ, hφ, k⟩ := q
  refine ⟨ρ, o, RE, _, hφ, fun vs rs H1 s1 rvs h1 => ?_⟩
  split at h1
  · rename_i kd j
    obtain ⟨v, ws, rfl, rv, rfl⟩ := rvs
    cases (show v = _ from rv.view)
    exact ⟨j, rfl, h1.1, h1.2.1, k _ _ _ H1 s1 it_rng trivial h1.2.2⟩
  · exact h1.elim
end

section
variable {X : Cx} {σ : St} {scope : Scope} {T F : List Str} {js : List Nat} {tg iter elt : Expr} {ifs : List Expr} {pos : Pos} {ti : TID} {g2 : TG} {g : TGD} {tc : TDb} {te : TD}
/-- the names within: the targets unbound, then those of around -/
noncomputable def ρ0 (n : Nat) (js : List Nat) (ρ : DE) : DE := List.replicate n none ++ js.map fun j => slot ρ j
noncomputable def ixO (n : Nat) (js : List Nat) (j : Nat) : Nat := if j ∈ js then n + js.idxOf j else n + js.length + 1 + j
/-- the frame of the block, and the list D that is gathered -/
theorem renv_block {K : PySem.W.Frag} {H₀ H H' : Hp} {σ : St} {ρ : DE} {o : List (Nat × Addr)} {n : Nat} {js : List Nat} {D : Addr} {ys : List V} (R : REnv K H₀ H σ ρ o) (nd : js.Nodup) (hD : H D = none) (s : Same H H') (hD' : H' D = some (.lst ys)) (Tn : List Str) (hT : Tn.length = n) :
    REnv K H₀ H' (st0 Tn js σ) (ρ0 n js ρ) ((n + js.length, D) :: o.map fun p => (ixO n js p.1, p.2)) := by
  have hO : ((n + js.length, D) :: o.map fun p => (ixO n js p.1, p.2)).map Prod.snd = D :: o.map Prod.snd := by
    rw [List.map_cons, List.map_map]
    rfl
  have g : Grow (o.map Prod.snd) (D :: o.map Prod.snd) H H' := ⟨fun b u h nb => ⟨s b u h, fun z => (List.mem_cons.mp z).elim (fun e => ne_of_none h hD e) nb⟩, fun b xs h => s b _ h, fun b ob u h => s b _ h⟩
  have R' := R.to s
  exact {
    same := R'.same
    fresh := fun p hp => by
      rcases List.mem_cons.mp hp with rfl | hp
      · exact R.same.free hD
      · obtain ⟨q, hq, rfl⟩ := List.mem_map.mp hp
        exact R.fresh q hq
    trk := fun p hp => by
      rcases List.mem_cons.mp hp with rfl | hp
      · exact ⟨_, hD'⟩
      · obtain ⟨q, hq, rfl⟩ := List.mem_map.mp hp
        exact R'.trk q hq
    mtb := fun p hp => by
      rcases List.mem_cons.mp hp with rfl | hp
      · exact ⟨(fun xs z => by rw [hD'] at z; cases z), (fun ob u z => by rw [hD'] at z; cases z)⟩
      · obtain ⟨q, hq, rfl⟩ := List.mem_map.mp hp
        exact R'.mtb q hq
    nda := by
      rw [hO, List.nodup_cons]
      exact ⟨R.ofree hD, R.nda⟩
    len := by
      unfold st0 ρ0
      simp [hT]
    slots := fun i r e => by
      rw [hO]
      unfold ρ0 at e
      have hi : n ≤ i := by
        rcases Nat.lt_or_ge i n with z | z
        · rw [List.getElem?_append_left (by simpa using z), List.getElem?_replicate] at e
          split at e <;> cases e
        · exact z
      rw [List.getElem?_append_right (by simpa using hi), List.length_replicate, List.getElem?_map] at e
      cases ej : js[i - n]? with
      | none => rw [ej] at e; cases e
      | some j =>
        rw [ej] at e
        have e' : slot ρ j = some r := Option.some.inj e
        obtain ⟨v, ev, q⟩ := R.slots j r (slot_eq e')
        refine ⟨v, ?_, ?_⟩
        · unfold st0
          rw [List.getElem?_append_right (by simpa [hT] using hi), List.length_replicate, List.getElem?_map, hT, ej]
          show some ((σ[j]?).join) = _
          rw [ev]
          rfl
        · rcases q with ⟨k, q⟩ | ⟨k, a, e1, m, c⟩
          · exact .inl ⟨k, Rep.grow g _ _ q⟩
          · refine .inr ⟨k, a, e1, List.mem_cons_of_mem _ (List.mem_map.mpr ⟨_, m, ?_⟩), c.grow (fun u q => s _ _ q) g⟩
            have hmem : j ∈ js := List.mem_of_getElem? ej
            have hidx : js.idxOf j = i - n := by
              have h1 := (List.getElem?_eq_some_iff.mp ej)
              have h2 := List.getElem_idxOf (List.idxOf_lt_length_iff.mpr hmem)
              exact (List.getElem_inj nd).mp (h2.trans h1.2.symm)
            show (ixO n js j, a) = (i, a)
            unfold ixO
            rw [if_pos hmem, hidx]
            congr 1
            omega }
noncomputable def bYes : TDb := fun _ φ => φ true
noncomputable def dComp (ti : TID) (n : Nat) (js : List Nat) (g : TGD) (tc : TDb) (te : TD) : TD := fun ρ φ => ti ρ fun ds => ∃ f : D → Option D, ds.length ≤ 100000 ∧
  (∀ d ∈ ds, g d (ρ0 n js ρ) fun ρ' => tc ρ' fun c => (c = true → te ρ' fun r => (match r.k with | .own => False | _ => True) ∧ f d = some r.d) ∧ (c = false → f d = none)) ∧ φ (df (.lst (ds.filterMap f)))
/-- a clause's tests -/
noncomputable def EIf (G : Hp → Prop) (X : Cx) (ifs : List Expr) (t : TDb) : Prop := ∀ H₀ : {H : Hp // G H}, PIf X ifs (liftT X.K H₀.1 t)
theorem eif_nil : EIf Γ X [] bYes := fun H₀ pins s σ H Q I h => by
  obtain ⟨ρ, o, R, φ, hφ, k⟩ := h
  exact pif_nil pins s σ H Q I (k true H (Same.refl H) hφ)
theorem eif_one {c : Expr} (h : ET Γ X c tc) : EIf Γ X [c] tc := fun H₀ => pif_one (h H₀)
theorem lift_comp {H₀ : Hp} (nd : js.Nodup) (hl : GLink X.K g2 g) : ∀ σ H Q, liftE X.K H₀ (dComp ti T.length js g tc te) σ H Q → tComp (liftI X.K H₀ ti) T js g2 (liftT X.K H₀ tc) (liftE X.K H₀ te) σ H Q := fun σ H Q q => by
    obtain ⟨ρ, o, R, φ, hφ, k⟩ := q
    refine ⟨ρ, o, R, _, hφ, fun J ds P H1 s1 I hP ⟨f, hlen, turn, fin⟩ Da hDa => ?_⟩
    have R1 := R.to s1
    have gD : ∀ {H' : Hp}, Same H1 H' → Grow (o.map Prod.snd) (Da :: o.map Prod.snd) H1 H' := fun s => ⟨fun b u h nb => ⟨s b u h, fun z => (List.mem_cons.mp z).elim (fun e => ne_of_none h hDa e) nb⟩, fun b xs h => s b _ h, fun b ob u h => s b _ h⟩
    refine ⟨fun i m ys H' => m = ds.length - i ∧ i ≤ ds.length ∧ Same H1 H' ∧ H' Da = some (.lst ys) ∧ Reps X.K H' (Da :: o.map Prod.snd) ((ds.take i).filterMap f) ys,
      ⟨_, rfl, Nat.zero_le _, same_new hDa _, upd_same, rfl⟩, ?_⟩
    rintro i m ys H' ⟨rfl, hi', s2, hD', rp⟩
    refine ⟨hD', ?_⟩
    have hP' := I.keep _ _ _ _ hP (gD s2)
    by_cases hlt : i < ds.length
    · have ed : ds[i]? = some ds[i] := by simp [hlt]
      obtain ⟨j1, j2⟩ := I.go H' _ i _ hP' ed
      refine .inr ⟨j1, fun zs H2 => Same H1 H2 ∧ H2 Da = some (.lst zs) ∧ Reps X.K H2 (Da :: o.map Prod.snd) ((ds.take (i + 1)).filterMap f) zs, fun zs H2 ⟨a1, a2, a3⟩ => ⟨_, (by omega : ds.length - (i + 1) < ds.length - i), rfl, hlt, a1, a2, a3⟩, fun x H2 y => ?_⟩
      obtain ⟨s3, rx⟩ := j2 x H2 y
      have s13 := s2.trans s3
      have hD2 := s3 _ _ hD'
      have RB := renv_block (n := T.length) R1 nd hDa s13 hD2 T rfl
      have hO : ((T.length + js.length, Da) :: o.map fun p => (ixO T.length js p.1, p.2)).map Prod.snd = Da :: o.map Prod.snd := by
        rw [List.map_cons, List.map_map]
        rfl
      have tk : (ds.take (i + 1)).filterMap f = (ds.take i).filterMap f ++ (f ds[i]).toList := by
        rw [List.take_succ, ed, List.filterMap_append]
        cases e : f ds[i] <;> simp [e]
      have rpl : ys.length ≤ 100000 := by
        rw [rp.length]
        refine Nat.le_trans (List.length_filterMap_le _ _) ?_
        rw [List.length_take]
        omega
      refine hl H₀ H2 (st0 T js σ) (ρ0 T.length js ρ) _ _ x _ _ RB (by rw [hO]; exact rx) (turn _ (List.getElem_mem hlt)) fun ρ' σ' R' q' => ?_
      refine ⟨ρ', _, R', _, q', fun c H3 s4 h4 => ?_⟩
      have hD3 := s4 _ _ hD2
      cases c with
      | false =>
        refine iteF ⟨s13.trans s4, hD3, ?_⟩
        rw [tk, h4.2 rfl]
        simpa using Reps.grow (Grow.same (s3.trans s4)) _ _ rp
      | true =>
        refine iteT ⟨ρ', _, R'.to s4, _, h4.1 rfl, fun v r H4 s5 rv h5 => ?_⟩
        have hD4 := s5 _ _ hD3
        have rd := rv.solid (notOwn h5.1)
        rw [hO] at rd
        have ne : ∀ b u, H1 b = some u → b ≠ Da := fun b u h => ne_of_none h hDa
        have gu : Grow (Da :: o.map Prod.snd) (Da :: o.map Prod.snd) H4 (upd H4 Da (.lst (ys ++ [v]))) :=
          ⟨fun b u h n => ⟨by rw [upd_ne (fun z => n (List.mem_cons.mpr (.inl z)))]; exact h, n⟩, fun b xs h => by rw [upd_ne (fun z => by rw [z, hD4] at h; cases h)]; exact h, fun b ob u h => by rw [upd_ne (fun z => by rw [z, hD4] at h; cases h)]; exact h⟩
        refine ⟨hD4, Nat.lt_of_le_of_lt rpl (by decide), ⟨fun b u h => ?_, upd_same, ?_⟩⟩
        · rw [upd_ne (ne b u h)]
          exact s5 _ _ (s4 _ _ (s13 b u h))
        · rw [tk, h5.2]
          exact Reps.grow gu _ _ ((Reps.grow (Grow.same (s3.trans (s4.trans s5))) _ _ rp).append (Reps.one rd))
    · have e : i = ds.length := by omega
      subst e
      rw [List.take_length] at rp
      refine .inl ⟨I.stop H' _ hP', ?_⟩
      exact k (.ref Da) (df (.lst (ds.filterMap f))) H' (s1.trans s2) ⟨Da, rfl, s1.free hDa, R.ofree (s1.free hDa), ys, hD', rp⟩ fin
theorem ed_comp (hi : EI Γ X tg iter ti) (S : CompScope X.env.scope scope T F) (hjs : Paired (fun x j => X.N[j]? = some x) F js) (nd : js.Nodup)
    (hg : ∀ cl C fp s H, PG (cxComp X (T ++ F) scope cl C fp s H) tg g2) (hk : GKeep T.length g2) (hl : GLink X.K g2 g)
    (ht : ∀ cl C fp s H, EIf Γ (cxComp X (T ++ F) scope cl C fp s H) ifs tc) (he : ∀ cl C fp s H, ED Γ (cxComp X (T ++ F) scope cl C fp s H) elt te)
    (hc : X.calm = true := by rfl) (hs : ∀ x, foldedSetIterable iter X.env x = pure x := by intro _; rfl) : ED Γ X (.ListComp elt [⟨tg, iter, ifs, 0⟩] scope pos) (dComp ti T.length js g tc te) := fun H₀ =>
  impE (pe_comp (tc := liftT X.K H₀.1 tc) (te := liftE X.K H₀.1 te) hc (hi H₀) S hjs hg hk (fun cl C fp s H => ht cl C fp s H H₀) (fun cl C fp s H => he cl C fp s H H₀) hs) (lift_comp nd hl)
end
end DL

set_option Elab.async false
set_option linter.all false
set_option maxRecDepth 100000
set_option maxHeartbeats 4000000
namespace DL
open PySem PySem.Spec L2 L3
open PyProof.Rows hiding St
variable {Γ : Hp → Prop}
section
variable {X : Cx} {x : Str} {e a b : Expr} {es : List Expr} {t : TDs} {ta tb : TD} {p pos : Pos}
/-- what the module's classes have to do with Python's own: nothing -/
structure Kit (K : PySem.W.Frag) : Prop where
  ne : ∀ q ∈ ([("NoneType", "int"), ("NoneType", "bool"), ("NoneType", "str"), ("NoneType", "tuple"), ("NoneType", "list"), ("NoneType", "dict"), ("bool", "str"), ("bool", "tuple"), ("bool", "list"), ("bool", "dict"),
    ("int", "bool"), ("int", "str"), ("int", "tuple"), ("int", "list"), ("int", "dict"), ("str", "int"), ("str", "bool"), ("str", "tuple"), ("str", "list"), ("str", "dict"),
    ("tuple", "int"), ("tuple", "bool"), ("tuple", "str"), ("tuple", "list"), ("tuple", "dict"), ("list", "int"), ("list", "bool"), ("list", "str"), ("list", "tuple"), ("list", "dict"),
    ("dict", "int"), ("dict", "bool"), ("dict", "str"), ("dict", "tuple"), ("dict", "list")] : List (String × String)), PySem.W.kitOne K (.type q.1) (.type q.2) = some false
  bi : PySem.W.kitOne K (.type "bool") (.type "int") = some true
theorem kit_all {K : PySem.W.Frag} : Kit K := by
  constructor
  · intro q hq
    simp only [List.mem_cons, List.not_mem_nil, or_false] at hq
    rcases hq with rfl | rfl | rfl | rfl | rfl | rfl | rfl | rfl | rfl | rfl | rfl | rfl | rfl | rfl | rfl | rfl | rfl | rfl | rfl | rfl | rfl | rfl | rfl | rfl | rfl | rfl | rfl | rfl | rfl | rfl | rfl | rfl | rfl | rfl | rfl <;> kernel_rfl
  · kernel_rfl
theorem kit_same {K : PySem.W.Frag} {T : String} : PySem.W.kitOne K (.type T) (.type T) = some true := by
  unfold PySem.W.kitOne
  rw [if_pos (by simp)]
theorem boot_str' : bootBuiltins "str" = some (.type "str") := by decide +kernel
theorem boot_int' : bootBuiltins "int" = some (.type "int") := by decide +kernel
theorem boot_bool' : bootBuiltins "bool" = some (.type "bool") := by decide +kernel
theorem boot_tuple' : bootBuiltins "tuple" = some (.type "tuple") := by decide +kernel
theorem boot_isinstance' : bootBuiltins "isinstance" = some (.builtin "isinstance") := by decide +kernel
theorem kit_ne {K : PySem.W.Frag} (a T : String) (h : (a, T) ∈ ([("NoneType", "int"), ("NoneType", "bool"), ("NoneType", "str"), ("NoneType", "tuple"), ("NoneType", "list"), ("NoneType", "dict"), ("bool", "str"), ("bool", "tuple"), ("bool", "list"), ("bool", "dict"),
    ("int", "bool"), ("int", "str"), ("int", "tuple"), ("int", "list"), ("int", "dict"), ("str", "int"), ("str", "bool"), ("str", "tuple"), ("str", "list"), ("str", "dict"),
    ("tuple", "int"), ("tuple", "bool"), ("tuple", "str"), ("tuple", "list"), ("tuple", "dict"), ("list", "int"), ("list", "bool"), ("list", "str"), ("list", "tuple"), ("list", "dict"),
    ("dict", "int"), ("dict", "bool"), ("dict", "str"), ("dict", "tuple"), ("dict", "list")] : List (String × String))) : PySem.W.kitOne K (.type a) (.type T) = some false := kit_all.ne (a, T) h
noncomputable def tyName : D → String
  | .non => "NoneType"
  | .bl _ => "bool"
  | .int _ => "int"
  | .str _ => "str"
  | .tup _ => "tuple"
  | .lst _ => "list"
  | .dk _ _ => "dict"
  | .dt _ _ => "dict"
  | .ty _ => "type"
  | .cn _ => "tuple"
  | .scr _ => "list"
  | .exc _ => "exc"
  | .fd _ => "exc"
noncomputable def kitPairs : List (String × String) := [("NoneType", "int"), ("NoneType", "bool"), ("NoneType", "str"), ("NoneType", "tuple"), ("NoneType", "list"), ("NoneType", "dict"), ("bool", "str"), ("bool", "tuple"), ("bool", "list"), ("bool", "dict"),
    ("int", "bool"), ("int", "str"), ("int", "tuple"), ("int", "list"), ("int", "dict"), ("str", "int"), ("str", "bool"), ("str", "tuple"), ("str", "list"), ("str", "dict"),
    ("tuple", "int"), ("tuple", "bool"), ("tuple", "str"), ("tuple", "list"), ("tuple", "dict"), ("list", "int"), ("list", "bool"), ("list", "str"), ("list", "tuple"), ("list", "dict"),
    ("dict", "int"), ("dict", "bool"), ("dict", "str"), ("dict", "tuple"), ("dict", "list")]
noncomputable def isN (a T : String) : Option Bool := if a = T then some true else if a = "bool" ∧ T = "int" then some true else if (a, T) ∈ kitPairs then some false else none
/-- isinstance(x, T) -/
noncomputable def isT (d : D) (T : String) : Option Bool := match d with
  | .ty _ => none
  | .cn _ => none
  | .scr _ => none
  | .exc _ => none
  | .fd _ => none
  | d => isN (tyName d) T
theorem isN_kit {K : PySem.W.Frag} {a T : String} {b : Bool} (h : isN a T = some b) : PySem.W.kitOne K (.type a) (.type T) = some b := by
  unfold isN at h
  split at h
  · rename_i q
    cases h
    subst q
    exact kit_same
  · split at h
    · rename_i q
      cases h
      obtain ⟨rfl, rfl⟩ := q
      exact kit_all.bi
    · split at h
      · rename_i q
        cases h
        exact kit_ne a T q
      · cases h
theorem isT_kit {K : PySem.W.Frag} {d : D} {T : String} {b : Bool} (h : isT d T = some b) : PySem.W.kitOne K (.type (tyName d)) (.type T) = some b := by
  cases d with
  | ty _ => cases h
  | cn _ => cases h
  | scr _ => cases h
  | exc _ => cases h
  | fd _ => cases h
  | _ => exact isN_kit h
theorem isT_non_int : isT .non "int" = some false := (by decide : isN "NoneType" "int" = some false)
theorem isT_non_bool : isT .non "bool" = some false := (by decide : isN "NoneType" "bool" = some false)
theorem isT_non_str : isT .non "str" = some false := (by decide : isN "NoneType" "str" = some false)
theorem isT_non_tuple : isT .non "tuple" = some false := (by decide : isN "NoneType" "tuple" = some false)
theorem isT_bl_int (b : Bool) : isT (.bl b) "int" = some true := (by decide : isN "bool" "int" = some true)
theorem isT_bl_bool (b : Bool) : isT (.bl b) "bool" = some true := (by decide : isN "bool" "bool" = some true)
theorem isT_bl_str (b : Bool) : isT (.bl b) "str" = some false := (by decide : isN "bool" "str" = some false)
theorem isT_bl_tuple (b : Bool) : isT (.bl b) "tuple" = some false := (by decide : isN "bool" "tuple" = some false)
theorem isT_int_int (i : Int) : isT (.int i) "int" = some true := (by decide : isN "int" "int" = some true)
theorem isT_int_bool (i : Int) : isT (.int i) "bool" = some false := (by decide : isN "int" "bool" = some false)
theorem isT_int_str (i : Int) : isT (.int i) "str" = some false := (by decide : isN "int" "str" = some false)
theorem isT_int_tuple (i : Int) : isT (.int i) "tuple" = some false := (by decide : isN "int" "tuple" = some false)
theorem isT_str_int (x : Str) : isT (.str x) "int" = some false := (by decide : isN "str" "int" = some false)
theorem isT_str_bool (x : Str) : isT (.str x) "bool" = some false := (by decide : isN "str" "bool" = some false)
theorem isT_str_str (x : Str) : isT (.str x) "str" = some true := (by decide : isN "str" "str" = some true)
theorem isT_str_tuple (x : Str) : isT (.str x) "tuple" = some false := (by decide : isN "str" "tuple" = some false)
theorem isT_tup_int (l : List D) : isT (.tup l) "int" = some false := (by decide : isN "tuple" "int" = some false)
theorem isT_tup_bool (l : List D) : isT (.tup l) "bool" = some false := (by decide : isN "tuple" "bool" = some false)
theorem isT_tup_str (l : List D) : isT (.tup l) "str" = some false := (by decide : isN "tuple" "str" = some false)
theorem isT_tup_tuple (l : List D) : isT (.tup l) "tuple" = some true := (by decide : isN "tuple" "tuple" = some true)
theorem isT_tup_list (l : List D) : isT (.tup l) "list" = some false := (by decide : isN "tuple" "list" = some false)
theorem isT_lst_int (l : List D) : isT (.lst l) "int" = some false := (by decide : isN "list" "int" = some false)
theorem isT_lst_bool (l : List D) : isT (.lst l) "bool" = some false := (by decide : isN "list" "bool" = some false)
theorem isT_lst_str (l : List D) : isT (.lst l) "str" = some false := (by decide : isN "list" "str" = some false)
theorem isT_lst_tuple (l : List D) : isT (.lst l) "tuple" = some false := (by decide : isN "list" "tuple" = some false)
theorem isT_lst_list (l : List D) : isT (.lst l) "list" = some true := (by decide : isN "list" "list" = some true)
theorem isT_dk_int (k : List Key) (l : List D) : isT (.dk k l) "int" = some false := (by decide : isN "dict" "int" = some false)
theorem isT_dk_bool (k : List Key) (l : List D) : isT (.dk k l) "bool" = some false := (by decide : isN "dict" "bool" = some false)
theorem isT_dk_str (k : List Key) (l : List D) : isT (.dk k l) "str" = some false := (by decide : isN "dict" "str" = some false)
theorem isT_dk_tuple (k : List Key) (l : List D) : isT (.dk k l) "tuple" = some false := (by decide : isN "dict" "tuple" = some false)
theorem isT_dk_dict (k : List Key) (l : List D) : isT (.dk k l) "dict" = some true := (by decide : isN "dict" "dict" = some true)
theorem call_isD : CallR X (.builtin "isinstance") (fun xs H Q => ∃ d x T b, xs = [x, .ty T] ∧ Rep X.K H [] d x ∧ isT d T = some b ∧ Q (.bl b) H) := by
  intro pins s σ H xs us Q I r h
  obtain ⟨d, x, T, b, rfl, rp, e, q⟩ := h
  obtain ⟨u, v, rfl, ru, rv⟩ := vals2 r
  cases rv
  have ek := isT_kit (K := X.K) e
  have fin : ∀ tk, EP X pins σ Q (.bool b) { s with toks := tk } := fun tk => ⟨.bl b, H, I.tok tk, rfl, q⟩
  cases d with
  | non => cases (show x = _ from rp); exact isinst_ok I ru .non ek fin
  | bl c => cases (show x = _ from rp); exact isinst_ok I ru (.bl c) ek fin
  | int c => cases (show x = _ from rp); exact isinst_ok I ru (.int c) ek fin
  | str c => cases (show x = _ from rp); exact isinst_ok I ru (.str c) ek fin
  | ty _ => cases e
  | cn _ => cases e
  | scr _ => cases e
  | exc _ => cases e
  | fd _ => cases e
  | lst ds => obtain ⟨a, xs, rfl, q1, _⟩ := rp; exact isinst_ok I ru (.lst q1) ek fin
  | dk ks ds => obtain ⟨a, xs, rfl, q1, _⟩ := rp; exact isinst_ok I ru (.dK q1) ek fin
  | dt ks ds => obtain ⟨a, xs, rfl, q1, _⟩ := rp; exact isinst_ok I ru (.dT q1) ek fin
  | tup ds =>
    obtain ⟨a, xs, rfl, q1, _⟩ := rp
    cases (show u = Value.ref a from ru)
    obtain ⟨its, _, p, _⟩ := I.tuple q1.1
    obtain ⟨o, h1, h2, _⟩ := p
    exact PySem.W.kia_one PySem.W.kitx_tuple I.kIn ⟨o, h1, h2⟩ ek (fun z => nomatch z) fin
noncomputable def sIsI : FT := fun ds φ => match ds with
  | [d, .ty T] => match isT d T with
    | some b => φ (dv (.bl b))
    | none => False
  | _ => False
theorem ed_isinst (hm : X.mg "isinstance" = none) (ha : EA Γ X (e :: es) t) (hg : Gl X "isinstance" := by rfl) (he : starEach (e :: es) X.env = (false, eval e X.env) :: starEach es X.env := by rfl) (hpl : (backTo pos (starEach es X.env)).any (·.1) = false := by rfl) : ED Γ X (.Call (.Name "isinstance" p) (e :: es) [] pos) (dCB sIsI t) :=
  ed_callB call_isD (fun H O ds vs φ Q ho hv h k => by
    unfold sIsI at h
    split at h
    · split at h
      · rename_i d T b eb
        obtain ⟨v, ws, rfl, h1, v2, ws2, rfl, h2, rfl⟩ := hv
        cases (show v2 = _ from h2)
        exact ⟨_, v, _, _, rfl, h1.rep0, eb, k _ _ H (Same.refl H) (by exact rfl) h⟩
      · exact h.elim
    · exact h.elim) hm boot_isinstance' ha hg (by decide) (by decide) he hpl
noncomputable def sStr : FT := fun ds φ => match ds with
  | [.int i] => i.natAbs.log2 < 1920 ∧ φ (dv (.str (toString i)))
  | _ => False
theorem ed_strI (hm : X.mg "str" = none) (ha : EA Γ X (e :: es) t) (hg : Gl X "str" := by rfl) (he : starEach (e :: es) X.env = (false, eval e X.env) :: starEach es X.env := by rfl) (hpl : (backTo pos (starEach es X.env)).any (·.1) = false := by rfl) : ED Γ X (.Call (.Name "str" p) (e :: es) [] pos) (dCB sStr t) :=
  ed_callTy call_str_int (fun H O ds vs φ Q ho hv h k => by
    unfold sStr at h
    split at h
    · obtain ⟨v, ws, rfl, h1, rfl⟩ := hv
      cases (show v = _ from h1)
      exact ⟨_, rfl, h.1, k _ _ H (Same.refl H) (by exact rfl) h.2⟩
    · exact h.elim) hm boot_str' ha hg (by decide) (by decide) he hpl
noncomputable def sTupC : FT := fun ds φ => match ds with
  | [.lst l] => φ (dv (.tup l))
  | [.tup l] => φ (dv (.tup l))
  | _ => False
noncomputable def sListC : FT := fun ds φ => match ds with
  | [.lst l] => φ (df (.lst l))
  | [.tup l] => φ (df (.lst l))
  | _ => False
noncomputable def sIntC : FT := fun ds φ => match ds with
  | [.bl b] => φ (dv (.int (if b then 1 else 0)))
  | [.int i] => φ (dv (.int i))
  | _ => False
end

section
variable {X : Cx} {x : Str} {e : Expr} {te : TD} {apos np cpos pos : Pos}
noncomputable def sApp (i : Nat) (te : TD) : TDS := fun ρ Z => match slot ρ i with
  | some ⟨.own, .lst ds⟩ => te ρ fun r => (match r.k with | .own => False | _ => True) ∧ ds.length ≤ 100000 ∧ Z.nx (setS ρ i (dO (.lst (ds ++ [r.d]))))
  | _ => False
theorem sd_append (i : Nat) (he : ED Γ X e te) (hN : X.N[i]? = some x := by rfl) (hv : Vis X.env.scope x := by first | exact Or.inl rfl | exact Or.inr (Or.inl rfl) | exact Or.inr (Or.inr rfl)) (hd : (x == ("__debug__" : Str)) = false := by decide)
    (hcd : (x == ("__classdict__" : Str)) = false := by decide)
    (hp : ∀ {ta tb : TE}, PE X (.Name x np) ta → PE X e tb → PS X (.Expr (.Call (.Attribute (.Name x np) "append" apos) [e] [] cpos) pos) (tDrop (tBM X.K "list" rAppend ta (tCons tb tNil))) := by
      intro ta tb h1 h2
      exact ps_expr (pe_bm PySem.F.plainAttrs_list PySem.F.slot_list_append PySem.F.type_list_append mt_append h1 (pa_cons h2 pa_nil))) :
    SD Γ X (.Expr (.Call (.Attribute (.Name x np) "append" apos) [e] [] cpos) pos) (sApp i te) := fun H₀ => impS (hp (pe_var hN hv hd hcd) (he H₀)) fun D σ H h => by
  obtain ⟨ρ, o, R, Z, hZ, k1, k2, k3, k4⟩ := h
  unfold sApp at hZ
  split at hZ
  · rename_i ds es
    obtain ⟨v0, ev0, q0⟩ := R.slots i _ (slot_eq es)
    rcases q0 with ⟨k, _⟩ | ⟨_, a, rfl, m, c⟩
    · cases k
    obtain ⟨xs, hx, rx⟩ := c
    refine ⟨.ref a, ev0, .inl ⟨rfl, xs, SqL.of hx⟩, ?_⟩
    refine ⟨ρ, o, R, _, hZ, fun v r H1 s1 rv h1 => ?_⟩
    obtain ⟨h0, hl, hn⟩ := h1
    have hx1 := s1 _ _ hx
    have R1 := R.to s1
    have rx1 := Reps.grow (Grow.same s1) _ _ rx
    refine ⟨a, xs, v, rfl, rfl, hx1, ?_, ?_⟩
    · rw [rx.length]
      exact Nat.lt_of_le_of_lt hl (by decide)
    · obtain ⟨R2, g2⟩ := R1.chg (d' := .lst (ds ++ [r.d])) (ho := .lst (xs ++ [v])) (slot_eq es) ev0 m ⟨fun _ z => (by cases z), fun _ _ z => (by cases z)⟩ fun gr => ⟨xs ++ [v], upd_same, gr _ _ (rx1.append (Reps.one (rv.solid (notOwn h0))))⟩
      exact k1 _ σ _ o ((Grow.same s1).trans g2) R2 hn
  · exact hZ.elim
end

section
variable {P : Program} {w : World} {K : PySem.W.Frag} {mg : Str → Option Value} {base : Heap}
noncomputable def startD (n : Nat) (ds : List D) : DE := ds.map (fun d => some (dv d)) ++ List.replicate (n - ds.length) none
theorem fn_okD {x qual : Str} {st : Stmt} {f : Addr} {fd : FuncData} {N ps : List Str} {k : Nat} {T : FT} (F : Fun K x qual st f fd) (S : FnScope N ps (defScope st))
    (hbody : ∀ (cdv : Value) (A : Around) (outer : List Env) (s : Shared) (H : Hp) (E : XK) (ds : List D) (φ : EV → Prop), Room k (A.deeper (envOfC qual (defScope st) s.heap.objs.size f cdv)) → ds.length = ps.length → T ds φ →
      ∃ t, SDs (fun _ => True) (cxOf CX0 P w K mg base N qual (defScope st) f cdv A outer s H E).nox (defBody st) t ∧ t (startD N.length ds) { nx := fun _ => φ (dv .non), rt := fun r => pureEV r ∧ φ r }) : FnOk P w K mg base CX0 (k + 1) f fd ps (spD K ps.length T) := by
  refine F.ok S (fun vs H Q E h => ?_) (fun cdv A outer s H vs Q E hr h => ?_)
  · obtain ⟨ds, φ, hl, r, _⟩ := h
    rw [r.length, hl]
  · obtain ⟨ds, φ, hl, r, hT, kk⟩ := h
    obtain ⟨t, ht, hq⟩ := hbody cdv A outer s H E ds φ hr hl hT
    have rl := r.length
    refine ⟨liftS K H t, ht ⟨H, trivial⟩, startD N.length ds, [], ⟨Same.refl H, (fun _ z => absurd z (by simp)), (fun _ z => absurd z (by simp)), (fun _ z => absurd z (by simp)), List.nodup_nil, fun i r' e => ?_, ?_⟩, _, hq, fun ρ' σ' H' o' g R' q => ?_, fun _ _ _ _ _ _ q => q.elim, fun _ _ _ _ _ _ q => q.elim, fun v r' H' s' rv q => kk v r' H' s' rv q.1 q.2⟩
    · unfold startD at e
      rcases Nat.lt_or_ge i ds.length with hi | hi
      · rw [List.getElem?_append_left (by simpa using hi), List.getElem?_map] at e
        have ed : ds[i]? = some ds[i] := by simp [hi]
        rw [ed] at e
        have e' : some (dv ds[i]) = some r' := Option.some.inj e
        cases e'
        obtain ⟨v, ev, rv⟩ := r.get ed
        refine ⟨v, ?_, .inl ⟨rfl, rv⟩⟩
        unfold L2.start
        rw [List.getElem?_append_left (by rw [List.length_map, rl]; exact hi), List.getElem?_map, ev]
        rfl
      · rw [List.getElem?_append_right (by simpa using hi), List.getElem?_replicate] at e
        split at e <;> cases e
    · unfold L2.start startD
      simp [rl]
    · exact kk .non (dv .non) H' R'.same rfl trivial q
theorem fd_of {x qual : Str} {st : Stmt} {f : Addr} {fd : FuncData} {N ps : List Str} {k : Nat} {T : FT} (F : Fun K x qual st f fd) (S : FnScope N ps (defScope st)) (b : Binds K fd ps []) (m : mg x = some (.ref f))
    (hbody : ∀ (cdv : Value) (A : Around) (outer : List Env) (s : Shared) (H : Hp) (E : XK) (ds : List D) (φ : EV → Prop), Room k (A.deeper (envOfC qual (defScope st) s.heap.objs.size f cdv)) → ds.length = ps.length → T ds φ →
      ∃ t, SDs (fun _ => True) (cxOf CX0 P w K mg base N qual (defScope st) f cdv A outer s H E).nox (defBody st) t ∧ t (startD N.length ds) { nx := fun _ => φ (dv .non), rt := fun r => pureEV r ∧ φ r }) : FD P w K mg base (k + 1) x ps T := ⟨f, fd, fn_okD F S hbody, b, F.kp, m⟩

end
/-- the law: True of every script -/
noncomputable def lawT : FT := fun ds φ => ∃ ns : List Int, ds = [.scr ns] ∧ ns.length ≤ 63 ∧ φ (dv (.bl true))
theorem walkD {l : PySem.W.OpenLaw} {q : Program} {loose : List Str} {XP : (Str → Option Value) → Heap → Prop} {YP : World → Heap → Prop} {d : DefRec} {K : Params → PySem.W.Frag} {x : Str} {k : Nat} (hn : l.most = some 63) (hdf : d.params.defaults = []) (hr : Room k callerA)
    (hY : ∀ (w : World) (h : Heap), YP w h → (K w.params).In h)
    (F : ∀ (w : World) (mg : Str → Option Value) (fa : Addr) (h : Heap), (K w.params).In h → h.Ns mainGlobals mg → mg d.name = some (.ref fa) →
      ∃ fd : FuncData, (∀ (s : Shared) (u : Value), BindsTo s fd ⟨[u], []⟩ [(x, u)]) ∧ ∀ base : Heap, (K w.params).In base → base.Ns mainGlobals mg → FnOk l.prog w (K w.params) mg base CX0 k fa fd [x] (spD (K w.params) 1 lawT)) :
    PySem.W.WalkO q loose XP YP l.row.toRowW d [] (fun f vs => PySem.call f vs) :=
  L2.walk_of (n := 63) (k := k) (x := x) (CX := fun _ => CX0) (sp := fun w => spD (K w.params) 1 lawT) hn (by decide) hdf hr hY F (fun w H a ns hl ho hS => by
    refine ⟨[.scr ns], fun r => r = dv (.bl true), rfl, ⟨.ref a, [], rfl, ⟨a, rfl, ?_⟩, rfl⟩, ⟨ns, rfl, hl, rfl⟩, fun v r H' s rv p e => by subst e; exact rv⟩
    rcases hS with (h | ⟨o, h⟩) | h
    · rcases ho a with z | ⟨o, xs, z⟩
      · rw [z] at h; cases h
      · rw [z] at h; cases h
    · exact .inl ⟨o, h⟩
    · exact .inr h) fun _ _ _ _ _ z => z
end DL

set_option Elab.async false
set_option linter.all false
set_option maxRecDepth 100000
set_option maxHeartbeats 8000000
namespace L3
open PySem PySem.Spec PyProof.Rows
section
variable {P : Program} {w : World} {A : Around} {E : Value → Shared → Prop} {s : Shared}
/-- b: a tuple; else a list -/
noncomputable def SqAt (b : Bool) (h : Heap) (l : Addr) (xs : Array Value) : Prop := match b with
  | true => h.IsTuple l xs
  | false => h.IsList l xs
noncomputable def ItAt (b : Bool) (h : Heap) (it l : Addr) (i : Nat) : Prop := match b with
  | true => h.IsTupleIter it l i
  | false => h.IsListIter it l i
theorem SqAt.at {b : Bool} {h g : Heap} {l : Addr} {xs : Array Value} (x : SqAt b h l xs) (k : ∀ o, h.get? l = some o → g.get? l = some o) : SqAt b g l xs := by
  cases b with
  | true => exact Heap.IsTuple.at (show h.IsTuple l xs from x) k
  | false => exact Heap.IsList.at (show h.IsList l xs from x) k
theorem ItAt.at {b : Bool} {h g : Heap} {it l : Addr} {i : Nat} (x : ItAt b h it l i) (k : ∀ o, h.get? it = some o → g.get? it = some o) : ItAt b g it l i := by
  cases b with
  | true => exact Heap.IsTupleIter.at (show h.IsTupleIter it l i from x) k
  | false => exact Heap.IsListIter.at (show h.IsListIter it l i from x) k
/-- two side by side -/
structure ZAt (b1 b2 : Bool) (g : Heap) (z ti to i1 i2 l1 l2 : Addr) (f : Value) (k : Nat) : Prop where
  zz : IsZip g z ti to f
  its : IsPair g ti (.ref i1) (.ref i2)
  out : ∃ a b, IsPair g to a b
  one : ItAt b1 g i1 l1 k
  two : ItAt b2 g i2 l2 k
end
end L3

set_option Elab.async false
set_option linter.all false
set_option maxRecDepth 100000
set_option maxHeartbeats 8000000
namespace L3
open PySem PySem.Spec L2
open PyProof.Rows hiding St
theorem ItAt.there {b : Bool} {h : Heap} {it l : Addr} {i : Nat} (x : ItAt b h it l i) : ∃ o, h.get? it = some o ∧ ∀ v, o.data ≠ .cell v := by
  cases b with
  | true =>
    obtain ⟨o, e, c, d⟩ := (show h.IsTupleIter it l i from x)
    exact ⟨o, e, fun v q => by rw [d] at q; cases q⟩
  | false =>
    obtain ⟨o, e, c, d⟩ := (show h.IsListIter it l i from x)
    exact ⟨o, e, fun v q => by rw [d] at q; cases q⟩
end L3

set_option Elab.async false
set_option linter.all false
set_option maxRecDepth 100000
set_option maxHeartbeats 4000000
namespace DL
open PySem PySem.Spec L2 L3
open PyProof.Rows hiding St

theorem objOk_there {P : Program} {w : World} {H : Hp} {h : Heap} {a : Addr} {o : HO} (x : ObjOk P w H h a o) : ∃ ob, h.get? a = some ob := by
  cases o with
  | lst xs => obtain ⟨_, _, _, _, e⟩ := x; exact ⟨_, e⟩
  | tup xs => obtain ⟨_, _, _, ⟨ob, e, _⟩, _⟩ := x; exact ⟨_, e⟩
  | dK kvs => obtain ⟨_, _, _, _, o, _, _, e, _⟩ := x; exact ⟨_, e⟩
  | dT kvs => obtain ⟨_, _, _, _, o, _, _, e, _⟩ := x; exact ⟨_, e⟩
  | set S n => obtain ⟨o, _, _, _, e, _⟩ := x; exact ⟨_, e⟩
  | ins C dx fs => obtain ⟨_, _, _, e, _⟩ := x; exact ⟨_, e⟩
  | own y => obtain ⟨_, e⟩ := x; exact ⟨_, e⟩
  | xd fs => obtain ⟨_, ⟨_, _, _, e, _⟩, _⟩ := x; exact ⟨_, e⟩
  | rng lo hi => obtain ⟨_, _, _, e⟩ := x; exact ⟨_, e⟩
  | frz ob u => obtain ⟨e, _⟩ := x; exact ⟨_, e⟩
  | tbl ps => exact ⟨_, (show h.get? a = some _ from x)⟩
  | met f y => exact ⟨_, (show h.get? a = some _ from x)⟩
  | ext φ => obtain ⟨_, ⟨_, e⟩, _⟩ := x; exact ⟨_, e⟩

/-- from s (with H) to h' (with H'): what is tracked or stood at s lies in B too -/
structure FlyB (P : Program) (w : World) (outer : List Env) (H : Hp) (h : Heap) (H' : Hp) (B : Heap) (h' : Heap) : Prop where
  un : Un (frs outer) [] H H' h h'
  hok : HOk P w H' h'
  cov : ∀ b o, h'.get? b = some o → b ∉ frs outer → (H' b ≠ none ∨ ∃ o0, h.get? b = some o0) → B.get? b = some o
section
variable {P : Program} {w : World} {outer : List Env} {H H' : Hp} {h h1 h2 B B' : Heap}
theorem FlyB.there (F : FlyB P w outer H h H' B h1) {b : Addr} (c : H' b ≠ none ∨ ∃ o0, h.get? b = some o0) : ∃ o, h1.get? b = some o := by
  rcases c with c | ⟨o0, c⟩
  · cases e : H' b with
    | none => exact absurd e c
    | some u => exact objOk_there (F.hok b u e)
  · exact F.un.there b o0 c (by simp)
theorem FlyB.step (F : FlyB P w outer H h H' B h1) (k : B.StaysIn h2) (u : h1.UpToSlots h2) (ff : h1.FunFrames B' outer) (hf : ∀ b ∈ frs outer, H' b = none) : FlyB P w outer H h H' B h2 := by
  have nx : ∀ b : Addr, b ∉ ([] : List Addr) := fun b z => nomatch z
  refine ⟨⟨fun b o q n hb hx => k b o (F.cov b o (F.un.keep b o q n hb hx) hb (.inr ⟨o, q⟩)), fun b o q n hb hx => ?_, F.un.free, fun b o q hx => ?_, F.un.tups, F.un.frzs, F.un.tbls⟩, fun a o e => ?_, fun b o q hb c => ?_⟩
  · obtain ⟨sl, e1⟩ := F.un.slot b o q n hb hx
    obtain ⟨_, o', e2, nf⟩ := ff.mem hb
    rw [e1] at e2
    cases e2
    obtain ⟨sl', e3⟩ := u b _ e1 nf
    exact ⟨sl', e3⟩
  · obtain ⟨o', e1⟩ := F.un.there b o q hx
    by_cases hb : b ∈ frs outer
    · obtain ⟨_, o2, e2, nf⟩ := ff.mem hb
      obtain ⟨sl', e3⟩ := u b _ e2 nf
      exact ⟨_, e3⟩
    · exact ⟨o', k b o' (F.cov b o' e1 hb (.inr ⟨o, q⟩))⟩
  · refine (F.hok a o e).stay (fun b v hc q => ?_) (fun _ q => q) fun _ _ q => q
    have ht : H' b ≠ none := by
      rcases hc with rfl | hc
      · rw [e]; exact fun z => nomatch z
      · rw [hc]; exact fun z => nomatch z
    exact k b v (F.cov b v q (fun z => ht (hf b z)) (.inl ht))
  · obtain ⟨o1, e1⟩ := F.there c
    have e2 := F.cov b o1 e1 hb c
    have e3 := k b o1 e2
    rw [q] at e3
    cases e3
    exact e2
end

/-- behind a call that raises: an exception e of the class at C -/
noncomputable def CX1 (P : Program) (w : World) : CXT := fun outer H s E e s' => ∃ (a C : Addr) (t : Value) (H' : Hp) (B : Heap), e = .ref a ∧ s'.os = s.os ∧ AllBare s'.gens ∧ FlyB P w outer H s.heap H' B s'.heap ∧
  Heap.FlyingW B outer a (.ref C) t s'.heap ∧ E (.ref C) none H'

section
variable {X : Cx} {pins : List (Addr × Obj)} {σ : St} {H1 H' : Hp} {s1 : Shared} {B h2 : Heap}
/-- out of the frame -/
theorem FlyB.leave (J : Inv X pins σ H1 s1) (hex : X.ex = []) (F : FlyB X.prog X.w X.stack H1 s1.heap H' B h2) : FlyB X.prog X.w X.outer X.H₀ X.s₀.heap H' B h2 := by
  have nx : ∀ b : Addr, b ∉ ([] : List Addr) := fun b z => nomatch z
  have nx' : ∀ b : Addr, b ∉ X.ex := fun b z => by rw [hex] at z; cases z
  have neL : ∀ b o, X.s₀.heap.get? b = some o → b ≠ X.env.locals := fun b o e => Nat.ne_of_lt (Nat.lt_of_lt_of_le (Heap.lt_size e) J.ok.above)
  have nst : ∀ b o, X.s₀.heap.get? b = some o → b ∉ frs X.outer → b ∉ frs X.stack := fun b o e hb z => by
    rcases List.mem_cons.mp (J.stkSub b z) with q | q
    · exact neL b o e q
    · exact hb q
  obtain ⟨m, hn, _⟩ := J.loc
  obtain ⟨oL, _, _, hL, _⟩ := hn
  have hL' : H' X.env.locals = none := F.un.free _ _ hL J.free (nx _)
  refine ⟨⟨fun b o q n hb _ => F.un.keep b o (J.base.keep b o q n hb (nx' b)) (J.base.free b o q n (nx' b)) (nst b o q hb) (nx b), fun b o q n hb _ => ?_, fun b o q n _ => ?_, fun b o q _ => ?_, fun b xs q => F.un.tups b xs (J.base.tups b xs q),
    fun b o u q => F.un.frzs b o u (J.base.frzs b o u q), fun b ps q => ?_⟩, F.hok, fun b o q hb c => ?_⟩
  · obtain ⟨sl, e1⟩ := J.base.slot b o q n hb (nx' b)
    obtain ⟨sl', e2⟩ := F.un.any e1 (J.base.free b o q n (nx' b)) (nx b)
    exact ⟨sl', e2⟩
  · obtain ⟨o', e1⟩ := J.base.there b o q (nx' b)
    exact F.un.free b o' e1 (J.base.free b o q n (nx' b)) (nx b)
  · obtain ⟨o', e1⟩ := J.base.there b o q (nx' b)
    exact F.un.there b o' e1 (nx b)
  · obtain ⟨m1, e1⟩ := J.base.tbls b ps q
    obtain ⟨m2, e2⟩ := F.un.tbls b _ e1
    exact ⟨m1 ++ m2, by rw [e2, Array.append_assoc]⟩
  · refine F.cov b o q (fun z => ?_) ?_
    · rcases List.mem_cons.mp (J.stkSub b z) with e | e
      · subst e
        rcases c with c | ⟨o0, c⟩
        · exact c hL'
        · exact neL _ o0 c rfl
      · exact hb e
    · rcases c with c | ⟨o0, c⟩
      · exact .inl c
      · exact .inr (J.base.there b o0 c (nx' b))
/-- a new exception is made -/
theorem FlyB.made {h' : Heap} {a : Addr} {cls : Value} {vs : List Value} (J : Inv X pins σ H1 s1) (hx : Heap.MadeExcOf s1.heap h' a cls vs) (k : (PySem.W.hideAll s1.heap (frs X.stack)).StaysIn h2) (u : h'.UpToSlots h2) :
    FlyB X.prog X.w X.stack H1 s1.heap H1 (PySem.W.hideAll s1.heap (frs X.stack)) h2 := by
  have u2 : s1.heap.UpToSlots h2 := (Heap.UpToSlots.of_keeps hx.keeps).trans u
  have F0 : FlyB X.prog X.w X.stack H1 s1.heap H1 (PySem.W.hideAll s1.heap (frs X.stack)) s1.heap := ⟨Un.refl, J.hok, fun b o q hb _ => PySem.W.hideAll_get _ q hb⟩
  exact F0.step k u2 J.stack J.stkFree
end
section
variable {P : Program} {w : World} {K : PySem.W.Frag} {mg : Str → Option Value} {base : Heap} {N : List Str} {qual : Str} {scope : Scope} {f : Addr} {cd : Value} {A : Around} {outer : List Env} {s : Shared} {H : Hp} {E : XK}
theorem made_xe {pins : List (Addr × Obj)} {σ : St} {H1 : Hp} {s1 : Shared} {h' : Heap} {a C : Addr} {vs : List Value} (J : Inv (cxOf (CX1 P w) P w K mg base N qual scope f cd A outer s H E) pins σ H1 s1) (hx : Heap.MadeExcOf s1.heap h' a (.ref C) vs) (hE : E (.ref C) none H1) :
    (cxOf (CX1 P w) P w K mg base N qual scope f cd A outer s H E).xe (.ref a) { s1 with heap := h' } := by
  have hin : ∀ env ∈ (cxOf (CX1 P w) P w K mg base N qual scope f cd A outer s H E).stack, ∀ b, env.frame = some b → b ∈ frs (cxOf (CX1 P w) P w K mg base N qual scope f cd A outer s H E).stack := fun env he b hb => List.mem_filterMap.mpr ⟨env, he, hb⟩
  refine wpAny_leaves_madeW (s := { s1 with heap := h' }) (base := PySem.W.hideAll s1.heap (frs (cxOf (CX1 P w) P w K mg base N qual scope f cd A outer s H E).stack)) (L := (cxOf (CX1 P w) P w K mg base N qual scope f cd A outer s H E).env.locals) J.ok.frames rfl (fun b o q => PySem.W.of_hideAll _ q)
    (PySem.W.funFrames_hide J.stack hin) hx fun h'' t x1 x2 x3 x4 => ?_
  exact ⟨a, C, .ref t, H1, _, rfl, J.os, J.bare, FlyB.leave J rfl (FlyB.made J hx x1.1 x4), x1, hE⟩
theorem pass_xe {pins : List (Addr × Obj)} {σ : St} {H1 : Hp} {s1 s2 : Shared} {E' : XK} {e : Value} (J : Inv (cxOf (CX1 P w) P w K mg base N qual scope f cd A outer s H E) pins σ H1 s1)
    (hc : CX1 P w (cxOf (CX1 P w) P w K mg base N qual scope f cd A outer s H E).stack H1 s1 E' e s2) (hE : ∀ C H', E' (.ref C) none H' → E (.ref C) none H') :
    (cxOf (CX1 P w) P w K mg base N qual scope f cd A outer s H E).xe e s2 := by
  obtain ⟨a, C, t, H', B, rfl, hos, hb, F, fl, hE'⟩ := hc
  refine wpAny_leaves_onW (L := (cxOf (CX1 P w) P w K mg base N qual scope f cd A outer s H E).env.locals) J.ok.frames rfl fl fun h'' x1 x2 => ?_
  have hf : ∀ b ∈ frs (cxOf (CX1 P w) P w K mg base N qual scope f cd A outer s H E).stack, H' b = none := fun b hb => by
    obtain ⟨_, o, ho, _⟩ := J.stack.mem hb
    exact F.un.free b o ho (J.stkFree b hb) (fun z => nomatch z)
  exact ⟨a, C, t, H', B, rfl, hos.trans J.os, hb, FlyB.leave J rfl (F.step x1.1 x2 fl.2.2.1 hf), x1, hE C H' hE'⟩
end
end DL

set_option Elab.async false
set_option linter.all false
set_option maxRecDepth 100000
set_option maxHeartbeats 4000000
namespace DL
/-- what ratio makes of two numbers -/
noncomputable def sg (t b : Int) : Int := if b < 0 then -(Int.gcd t b : Int) else Int.gcd t b
noncomputable def rt (t b : Int) : Int × Int := (t.fdiv (sg t b), b.fdiv (sg t b))
end DL
namespace DL
open PySem PySem.Spec L2 L3
open PyProof.Rows hiding St
variable {Γ : Hp → Prop}
open PySem.Builtin.Int (intBits)
theorem fdOk {i j : Int} {m : Nat} (h : j ≠ 0) (hb : intBits j ≤ m) (hm : m ≤ 8999 := by omega) : FdOk i j := by
  refine ⟨h, ?_⟩
  unfold intBits at hb
  rw [if_neg (by simpa using h)] at hb
  omega
end DL
namespace DL
open PySem PySem.Spec L2 L3
open PyProof.Rows hiding St
open PySem.Builtin.Int (intBits)
theorem okD_int {n : Nat} {i : Int} : okD n (.int i) = True := by cases n <;> rfl
theorem okD_bl {n : Nat} {i : Bool} : okD n (.bl i) = True := by cases n <;> rfl
theorem okD_str {n : Nat} {i : Str} : okD n (.str i) = True := by cases n <;> rfl
theorem okD_non {n : Nat} : okD n .non = True := by cases n <;> rfl
theorem okD_lst {n : Nat} {ds : List D} (h : 0 < n) : okD n (.lst ds) = ∀ x ∈ ds, okD (n - 1) x := by
  cases n with
  | zero => omega
  | succ n => rfl
theorem eqD_int {a b : Int} : eqD (.int a) (.int b) = (a == b) := rfl
theorem eqD_str {a b : Str} : eqD (.str a) (.str b) = (a == b) := rfl
theorem eqD_bl {a b : Bool} : eqD (.bl a) (.bl b) = (a == b) := rfl
theorem eqD_lst {a b : List D} : eqD (.lst a) (.lst b) = eqDs a b := rfl
/-- two numbers -/
noncomputable def w2 (g : Int → Int → (EV → Prop) → Prop) : FT := fun ds φ => match ds with
  | [.int a, .int b] => g a b φ
  | _ => False
noncomputable def w1 (g : Int → (EV → Prop) → Prop) : FT := fun ds φ => match ds with
  | [.int a] => g a φ
  | _ => False
theorem w1_of {g : Int → (EV → Prop) → Prop} {ds : List D} {φ : EV → Prop} (h : w1 g ds φ) : ∃ a, ds = [.int a] ∧ g a φ := by
  unfold w1 at h
  split at h
  · exact ⟨_, rfl, h⟩
  · exact h.elim
/-- two ratios -/
noncomputable def r2 (g : Int → Int → Int → Int → (EV → Prop) → Prop) : FT := fun ds φ => match ds with
  | [.tup [.int a, .int b], .tup [.int c, .int d]] => g a b c d φ
  | _ => False
end DL
namespace DL
open L2
theorem atI_0 {α : Type} {x : α} {l : List α} : atI (x :: l) 0 = some x := by
  rw [show (0 : Int) = ((0 : Nat) : Int) from rfl]
  exact atI_nat rfl
theorem atI_1 {α : Type} {x y : α} {l : List α} : atI (x :: y :: l) 1 = some y := by
  rw [show (1 : Int) = ((1 : Nat) : Int) from rfl]
  exact atI_nat rfl
theorem atI_2 {α : Type} {x y z : α} {l : List α} : atI (x :: y :: z :: l) 2 = some z := by
  rw [show (2 : Int) = ((2 : Nat) : Int) from rfl]
  exact atI_nat rfl
end DL

set_option Elab.async false
set_option linter.all false
set_option maxRecDepth 100000
namespace L2
open PySem PySem.Spec PyProof.Rows

section
variable {κ : Type} [DecidableEq κ]
noncomputable def valV (kvs : List (κ × V)) (k : κ) : Option V := (kvs.find? fun kv => decide (kv.1 = k)).map (·.2)
/-- in its place, or at the end -/
noncomputable def putK (kvs : List (κ × V)) (k : κ) (v : V) : List (κ × V) :=
  if (kvs.any fun kv => decide (kv.1 = k)) = true then kvs.map (fun kv => if kv.1 = k then (kv.1, v) else kv) else kvs ++ [(k, v)]
noncomputable def dropK (kvs : List (κ × V)) (k : κ) : List (κ × V) := kvs.filter fun kv => decide (kv.1 ≠ k)

theorem valV_pos {p : κ × V} {r : List (κ × V)} {k : κ} (e : p.1 = k) : valV (p :: r) k = some p.2 := by simp [valV, List.find?_cons, e]
theorem valV_neg {p : κ × V} {r : List (κ × V)} {k : κ} (e : ¬ p.1 = k) : valV (p :: r) k = valV r k := by simp [valV, List.find?_cons, e]
theorem valV_any (k : κ) : ∀ kvs : List (κ × V), (kvs.any fun kv => decide (kv.1 = k)) = (valV kvs k).isSome
  | [] => rfl
  | p :: r => by
    rw [List.any_cons]
    by_cases e : p.1 = k
    · simp only [valV_pos e, decide_eq_true e, Bool.true_or, Option.isSome_some]
    · rw [valV_neg e, decide_eq_false e, Bool.false_or]; exact valV_any k r
theorem RelO.isSome_eq {o : Option V} {u : Option Value} (r : RelO o u) : o.isSome = u.isSome := by
  cases o with
  | none => cases u with
    | none => rfl
    | some _ => exact (show False from r).elim
  | some _ => cases u with
    | none => exact (show False from r).elim
    | some _ => rfl
theorem RelO.getD {o : Option V} {u : Option Value} {d : V} {d' : Value} (r : RelO o u) (rd : RelV d d') : RelV (o.getD d) (u.getD d') := by
  cases o with
  | none => cases u with
    | none => exact rd
    | some _ => exact (show False from r).elim
  | some _ => cases u with
    | none => exact (show False from r).elim
    | some _ => exact r

/-- raw tables of the same keys -/
theorem KV.val {kvs : List (κ × V)} {vs : List (κ × Value)} (r : KV kvs vs) (k : κ) : RelO (valV kvs k) (valueAt vs k) := by
  unfold KV at r
  induction r with
  | nil => exact True.intro
  | @cons p q ps qs h t ih =>
    obtain ⟨h1, h2⟩ := h
    by_cases e : p.1 = k
    · have e' : q.1 = k := h1.symm.trans e
      have b : valueAt (q :: qs) k = some q.2 := by simp [valueAt, List.find?_cons, e']
      rw [valV_pos e, b]; exact h2
    · have e' : ¬ q.1 = k := fun z => e (h1.trans z)
      have b : valueAt (q :: qs) k = valueAt qs k := by simp [valueAt, List.find?_cons, e']
      rw [valV_neg e, b]; exact ih
theorem KV.any {kvs : List (κ × V)} {vs : List (κ × Value)} (r : KV kvs vs) (k : κ) : (kvs.any fun kv => decide (kv.1 = k)) = vs.any fun kv => decide (kv.1 = k) := by
  unfold KV at r
  induction r with
  | nil => rfl
  | cons h t ih => rw [List.any_cons, List.any_cons, ih, h.1]
theorem KV.repl {kvs : List (κ × V)} {vs : List (κ × Value)} (r : KV kvs vs) (k : κ) {y : V} {u : Value} (ry : RelV y u) :
    KV (kvs.map fun kv => if kv.1 = k then (kv.1, y) else kv) (vs.map fun kv => if kv.1 = k then (kv.1, u) else kv) := by
  unfold KV at r ⊢
  induction r with
  | nil => exact .nil
  | @cons p q ps qs h t ih =>
    rw [List.map_cons, List.map_cons]
    refine .cons ?_ ih
    obtain ⟨h1, h2⟩ := h
    by_cases e : p.1 = k
    · rw [if_pos e, if_pos (h1.symm.trans e)]; exact ⟨h1, ry⟩
    · rw [if_neg e, if_neg (fun z => e (h1.trans z))]; exact ⟨h1, h2⟩
theorem KV.put {kvs : List (κ × V)} {vs : List (κ × Value)} (r : KV kvs vs) (k : κ) {y : V} {u : Value} (ry : RelV y u) : KV (putK kvs k y) (stored vs k u) := by
  unfold putK stored
  rw [r.any k]
  by_cases e : (vs.any fun kv => decide (kv.1 = k)) = true
  · rw [if_pos e, if_pos e]; exact r.repl k ry
  · rw [if_neg e, if_neg e]; exact Paired.snoc r ⟨rfl, ry⟩
theorem KV.drop {kvs : List (κ × V)} {vs : List (κ × Value)} (r : KV kvs vs) (k : κ) : KV (dropK kvs k) (without vs k) := by
  unfold KV at r ⊢
  unfold dropK without
  induction r with
  | nil => exact .nil
  | @cons p q ps qs h t ih =>
    obtain ⟨h1, h2⟩ := h
    rw [List.filter_cons, List.filter_cons]
    by_cases e : p.1 = k
    · have a : ¬ decide (p.1 ≠ k) = true := by simp [e]
      have b : ¬ decide (q.1 ≠ k) = true := by simp [h1.symm.trans e]
      rw [if_neg a, if_neg b]; exact ih
    · have e' : ¬ q.1 = k := fun z => e (h1.trans z)
      have a : decide (p.1 ≠ k) = true := by simp [e]
      have b : decide (q.1 ≠ k) = true := by simp [e']
      rw [if_pos a, if_pos b]; exact .cons ⟨h1, h2⟩ ih
theorem KV.length {kvs : List (κ × V)} {vs : List (κ × Value)} (r : KV kvs vs) : kvs.length = vs.length := Paired.length r
end


theorem kV_is {P : Program} {w : World} {k : Key} {u : Value} (r : RelV (kV k) u) : (mixKind P w).is k u = true := by
  cases k with
  | inl i => obtain ⟨t, e⟩ := (show ∃ t, u = Value.int i t from r); subst e; exact mixKind_int P w i t
  | inr x => obtain ⟨t, e⟩ := (show ∃ t, u = Value.str x t from r); subst e; exact mixKind_str P w x t
theorem items_are {P : Program} {w : World} : ∀ {ks : List Key} {us : List Value}, Vals (ks.map kV) us → ItemsAre (mixKind P w) ks us
  | [], _, r => by rw [List.map_nil] at r; cases r; exact .nil
  | k :: ks, _, r => by
    rw [List.map_cons] at r
    cases r with
    | cons h t => exact .cons (kV_is h) (items_are t)

/-- raw entries of a dict with tuple keys -/
noncomputable abbrev KT (H : Hp) : List (List Key × V) → List (List Key × Addr × Value) → Prop := Paired fun p q => p.1 = q.1 ∧ H q.2.1 = some (.tup (p.1.map kV)) ∧ RelV p.2 q.2.2
theorem KT.val {H : Hp} {kvs : List (List Key × V)} {xs : List (List Key × Addr × Value)} (r : KT H kvs xs) (k : List Key) : RelO (valV kvs k) ((atKey xs k).map (·.2)) := by
  induction r with
  | nil => exact True.intro
  | @cons p q ps qs h t ih =>
    obtain ⟨h1, _, h2⟩ := h
    by_cases e : p.1 = k
    · have e' : q.1 = k := h1.symm.trans e
      have b : atKey (q :: qs) k = some q.2 := by simp [atKey, List.find?_cons, e']
      rw [valV_pos e, b]; exact h2
    · have e' : ¬ q.1 = k := fun z => e (h1.trans z)
      have b : atKey (q :: qs) k = atKey qs k := by simp [atKey, List.find?_cons, e']
      rw [valV_neg e, b]; exact ih
theorem KT.repl {H : Hp} {kvs : List (List Key × V)} {xs : List (List Key × Addr × Value)} (r : KT H kvs xs) (k : List Key) {y : V} {u : Value} (ry : RelV y u) :
    KT H (kvs.map fun kv => if kv.1 = k then (kv.1, y) else kv) (xs.map (putAt k u)) := by
  induction r with
  | nil => exact .nil
  | @cons p q ps qs h t ih =>
    rw [List.map_cons, List.map_cons]
    refine .cons ?_ ih
    obtain ⟨h1, h2, h3⟩ := h
    unfold putAt
    by_cases e : p.1 = k
    · rw [if_pos e, if_pos (h1.symm.trans e)]; exact ⟨h1, h2, ry⟩
    · rw [if_neg e, if_neg (fun z => e (h1.trans z))]; exact ⟨h1, h2, h3⟩
theorem KT.put {H : Hp} {kvs : List (List Key × V)} {xs : List (List Key × Addr × Value)} (r : KT H kvs xs) (k : List Key) {b : Addr} {y : V} {u : Value} (hb : H b = some (.tup (k.map kV))) (ry : RelV y u) :
    KT H (putK kvs k y) (storedH xs k b u) := by
  have e : (kvs.any fun kv => decide (kv.1 = k)) = (atKey xs k).isSome := by
    rw [valV_any, (r.val k).isSome_eq, Option.isSome_map]
  unfold putK storedH
  rw [e]
  by_cases q : (atKey xs k).isSome = true
  · rw [if_pos q, if_pos q]; exact r.repl k ry
  · rw [if_neg q, if_neg q]; exact Paired.snoc r ⟨rfl, hb, ry⟩
theorem KT.keeps {H H' : Hp} {kvs : List (List Key × V)} {xs : List (List Key × Addr × Value)} (r : KT H kvs xs) (ht : ∀ b ys, H b = some (.tup ys) → H' b = some (.tup ys)) : KT H' kvs xs :=
  Paired.mapP r fun _ _ z => ⟨z.1, ht _ _ z.2.1, z.2.2⟩

section
variable {P : Program} {w : World} {H : Hp} {h : Heap} {a : Addr}
theorem rd_of {u : HO} (ok : HOk P w H h) (e : Rd H a u) : ObjOk P w H h a u := e.ok ok
theorem dk_rd {kvs : List (Key × V)} (ok : HOk P w H h) (e : Rd H a (.dK kvs)) : kvs.length ≤ sizeLine ∧ (a == sysModules) = false ∧ ∃ vs, KV kvs vs ∧ h.DictOf (mixKind P w) a vs :=
  show ObjOk P w H h a (.dK kvs) from rd_of ok e
/-- a tracked tuple of ints and texts is a key -/
theorem key_of {ks : List Key} (ok : HOk P w H h) (e : H a = some (.tup (ks.map kV))) : (tupleKind (mixKind P w)).is h ks a := by
  obtain ⟨_, its, r, ⟨o, h1, h2, n, h3⟩, _⟩ := (show ObjOk P w H h a (.tup (ks.map kV)) from ok a _ e)
  exact ⟨o, its.toArray, n, h1, h2, h3, by simpa using items_are r⟩
theorem dt_rd {kvs : List (List Key × V)} (ok : HOk P w H h) (e : Rd H a (.dT kvs)) : kvs.length ≤ sizeLine ∧ (a == sysModules) = false ∧
    ∃ xs, KT H kvs xs ∧ h.DictOfH (tupleKind (mixKind P w)) a xs := by
  obtain ⟨z, y, xs, r, o, es, ep, h1, h2, h3, h4, h5⟩ := (show ObjOk P w H h a (.dT kvs) from rd_of ok e)
  refine ⟨z, y, xs, r, o, es, ep, h1, h2, h3, h4, fun x hx => ?_, h5⟩
  have all : ∀ {l : List (List Key × V)} {m : List (List Key × Addr × Value)}, KT H l m → ∀ x ∈ m, (tupleKind (mixKind P w)).is h x.1 x.2.1 := by
    intro l m q
    induction q with
    | nil => intro x hx; exact nomatch hx
    | @cons p q ps qs hq t ih =>
      intro x hx
      rcases List.mem_cons.mp hx with e | hx
      · subst e
        exact key_of ok (by rw [← hq.1]; exact hq.2.1)
      · exact ih x hx
  exact all r x hx
end

/-- what the dict at a holds at the key y -/
noncomputable def DGet (H : Hp) (a : Addr) (y : V) (r : Option V) : Prop :=
  (∃ kvs k, Rd H a (.dK kvs) ∧ y = kV k ∧ r = valV kvs k) ∨ ∃ kvs k b, Rd H a (.dT kvs) ∧ y = .ref b ∧ H b = some (.tup (k.map kV)) ∧ r = valV kvs k
/-- the heap behind a[y] = v -/
noncomputable def DPut (H : Hp) (a : Addr) (y v : V) (H' : Hp) : Prop :=
  (∃ kvs k, H a = some (.dK kvs) ∧ y = kV k ∧ kvs.length < sizeLine ∧ H' = upd H a (.dK (putK kvs k v))) ∨
  ∃ kvs k b, H a = some (.dT kvs) ∧ y = .ref b ∧ H b = some (.tup (k.map kV)) ∧ kvs.length < sizeLine ∧ H' = upd H a (.dT (putK kvs k v))
theorem DGet.k {H : Hp} {a : Addr} {kvs : List (Key × V)} {k : Key} (e : H a = some (.dK kvs)) : DGet H a (kV k) (valV kvs k) := .inl ⟨kvs, k, .inl e, rfl, rfl⟩
theorem DGet.t {H : Hp} {a b : Addr} {kvs : List (List Key × V)} {k : List Key} (e : H a = some (.dT kvs)) (eb : H b = some (.tup (k.map kV))) : DGet H a (.ref b) (valV kvs k) := .inr ⟨kvs, k, b, .inl e, rfl, eb, rfl⟩
theorem DPut.k {H : Hp} {a : Addr} {kvs : List (Key × V)} {k : Key} {v : V} (e : H a = some (.dK kvs)) (hl : kvs.length < sizeLine) : DPut H a (kV k) v (upd H a (.dK (putK kvs k v))) := .inl ⟨kvs, k, e, rfl, hl, rfl⟩
theorem DPut.t {H : Hp} {a b : Addr} {kvs : List (List Key × V)} {k : List Key} {v : V} (e : H a = some (.dT kvs)) (eb : H b = some (.tup (k.map kV))) (hl : kvs.length < sizeLine) :
    DPut H a (.ref b) v (upd H a (.dT (putK kvs k v))) := .inr ⟨kvs, k, b, e, rfl, eb, hl, rfl⟩


section
variable {X : Cx} {pins : List (Addr × Obj)} {σ : St} {H : Hp} {s : Shared} {a : Addr} {y v : V} {u r : Value} {o : Option V} {A : Around} {E : Value → Shared → Prop}

theorem Inv.big (I : Inv X pins σ H s) : sysModules < s.heap.objs.size := by
  have h : mainGlobals < s.heap.objs.size := (I.mod.glob.keeps I.bk).lt
  exact Nat.lt_trans (by decide) h

/-- d[y], there -/
theorem d_getItem {Q : Value → Shared → Prop} (hu : A.units + 1 < cLine) (I : Inv X pins σ H s) (g : DGet H a y (some v)) (ry : RelV y u) (h : ∀ w' s', Inv X pins σ H s' → RelV v w' → Q w' s') :
    wpAny (model X.prog X.w) A (getItem (.ref a) u) Q E s := by
  rcases g with ⟨kvs, k, e, ey, l⟩ | ⟨kvs, k, b, e, ey, eb, l⟩
  · subst ey
    obtain ⟨z, hd, vs, rel, dd⟩ := dk_rd I.hok e
    obtain ⟨w', hw, rw'⟩ := RelO.some_of (v := v) (o := valueAt vs k) (by rw [l]; exact rel.val k)
    exact wpAny_getItem_of (kV_is ry) dd.mapOf hw (h w' _ (I.tok _) rw')
  · subst ey
    cases (show u = Value.ref b from ry)
    obtain ⟨z, hd, xs, rel, dd⟩ := dt_rd I.hok e
    obtain ⟨w', hw, rw'⟩ := RelO.some_of (v := v) (o := (atKey xs k).map (·.2)) (by rw [l]; exact rel.val k)
    obtain ⟨p, hp, hp2⟩ := Option.map_eq_some_iff.mp hw
    refine wpAny_getItem_heap (tupleKind_room_in1 hu) (key_of I.hok eb) dd hp ?_
    rw [hp2]
    exact h w' _ (I.tok _) rw'
/-- y in d -/
theorem d_in {Q : Value → Shared → Prop} (hu : A.units + 1 < cLine) (I : Inv X pins σ H s) (g : DGet H a y o) (ry : RelV y u) (h : ∀ s', Inv X pins σ H s' → Q (.bool o.isSome) s') :
    wpAny (model X.prog X.w) A (compareOp .In u (.ref a)) Q E s := by
  rcases g with ⟨kvs, k, e, ey, l⟩ | ⟨kvs, k, b, e, ey, eb, l⟩
  · subst ey
    obtain ⟨z, hd, vs, rel, dd⟩ := dk_rd I.hok e
    refine wpAny_in_of (kV_is ry) hd dd.mapOf ?_
    rw [← (rel.val k).isSome_eq, ← l]
    exact h _ (I.tok _)
  · subst ey
    cases (show u = Value.ref b from ry)
    obtain ⟨z, hd, xs, rel, dd⟩ := dt_rd I.hok e
    refine wpAny_in_heap (tupleKind_room_in1 hu) (key_of I.hok eb) hd dd ?_
    have q := (rel.val k).isSome_eq
    rw [Option.isSome_map] at q
    rw [← q, ← l]
    exact h _ (I.tok _)
theorem d_notIn {Q : Value → Shared → Prop} (hu : A.units + 1 < cLine) (I : Inv X pins σ H s) (g : DGet H a y o) (ry : RelV y u) (h : ∀ s', Inv X pins σ H s' → Q (.bool (!o.isSome)) s') :
    wpAny (model X.prog X.w) A (compareOp .NotIn u (.ref a)) Q E s := by
  rcases g with ⟨kvs, k, e, ey, l⟩ | ⟨kvs, k, b, e, ey, eb, l⟩
  · subst ey
    obtain ⟨z, hd, vs, rel, dd⟩ := dk_rd I.hok e
    refine wpAny_notIn_of (kV_is ry) hd dd.mapOf ?_
    rw [← (rel.val k).isSome_eq, ← l]
    exact h _ (I.tok _)
  · subst ey
    cases (show u = Value.ref b from ry)
    obtain ⟨z, hd, xs, rel, dd⟩ := dt_rd I.hok e
    refine wpAny_notIn_heap (tupleKind_room_in1 hu) (key_of I.hok eb) hd dd ?_
    have q := (rel.val k).isSome_eq
    rw [Option.isSome_map] at q
    rw [← q, ← l]
    exact h _ (I.tok _)
end

section
variable {X : Cx} {pins : List (Addr × Obj)} {σ : St} {H : Hp} {s : Shared} {a : Addr} {kvs : List (Key × V)} {k : Key} {u : Value} {A : Around} {E : Value → Shared → Prop}
end


theorem dict_typeIs {X : Cx} {pins : List (Addr × Obj)} {σ : St} {H : Hp} {s : Shared} {a : Addr} {y : V} {o : Option V} (I : Inv X pins σ H s) (g : DGet H a y o) : s.TypeIs (.ref a) "dict" := by
  rcases g with ⟨kvs, k, e, _, _⟩ | ⟨kvs, k, b, e, _, _, _⟩
  · obtain ⟨_, _, vs, _, dd⟩ := dk_rd I.hok e
    exact dd.typeIs
  · obtain ⟨_, _, xs, _, dd⟩ := dt_rd I.hok e
    exact dd.typeIs
section
variable {X : Cx} {o i e value : Expr} {pos pos' tpos : Pos} {td ty tv : TE}
end


theorem dk_empty {P : Program} {w : World} {H : Hp} (h : Heap) (hb : sysModules < h.objs.size) : ObjOk P w H (h.push { cls := .type "dict", data := .dict #[] }) h.objs.size (.dK []) :=
  ⟨Nat.zero_le _, beq_eq_false_iff_ne.mpr (Ne.symm (Nat.ne_of_lt hb)), [], .nil, Heap.DictOf.new h⟩
/-- {}, to be a dict of the kind that is wanted -/
noncomputable def tDNewK : TE := fun _ H Q => ∀ p, H p = none → Q (.ref p) (upd H p (.dK []))
section
variable {X : Cx} {pos : Pos}
theorem pe_dnewK : PE X (.Dict [] [] pos) tDNewK := fun pins s σ H Q I h =>
  wpAny_Dict_empty ⟨.ref s.heap.objs.size, _, I.laid (a := s.heap.objs.size) (o := .dK []) (t' := s.toks) (fun _ _ q => Heap.get?_push_of_some _ q) (Nat.le_refl _) (dk_empty s.heap I.big), rfl, h _ (I.hok.fresh (Nat.le_refl _))⟩
end

section
variable {X : Cx} {pins : List (Addr × Obj)} {σ : St} {H : Hp} {s : Shared} {a : Addr} {y d : V} {u r : Value} {o : Option V} {A : Around} {E : Value → Shared → Prop}
end

section
variable {X : Cx} {o e f : Expr} {apos cpos : Pos} {td ty tx : TE}
end

section
variable {X : Cx} {pins : List (Addr × Obj)} {σ : St} {H : Hp} {s : Shared} {a : Addr} {kvs : List (Key × V)} {A : Around} {E : Value → Shared → Prop}
end


section
variable {X : Cx} {pins : List (Addr × Obj)} {σ : St} {H : Hp} {s : Shared} {a : Addr} {y : V} {u : Value} {A : Around} {E : Value → Shared → Prop}
end
end L2

namespace L2
open PySem PySem.Spec PyProof.Rows
section
variable {X : Cx}
end
end L2

set_option Elab.async false
set_option linter.all false
set_option maxRecDepth 100000
set_option maxHeartbeats 4000000
namespace DL
open PySem PySem.Spec L2 L3
open PyProof.Rows hiding St
variable {Γ : Hp → Prop}

noncomputable instance decMemKey (k : Key) (ks : List Key) : Decidable (k ∈ ks) := decidable_of_iff (ks.any (fun x => decide (x = k)) = true) (by simp)
section
variable {α : Type}
noncomputable def lookA : List Key → List α → Key → Option α
  | k' :: ks, d :: ds, k => if k' = k then some d else lookA ks ds k
  | _, _, _ => none
noncomputable def kput (ks : List Key) (k : Key) : List Key := if k ∈ ks then ks else ks ++ [k]
noncomputable def dput : List Key → List α → Key → α → List α
  | k' :: ks, d' :: ds, k, d => if k' = k then d :: ds else d' :: dput ks ds k d
  | _, _, _, d => [d]
end
theorem valV_zip : ∀ (ks : List Key) (xs : List V) (k : Key), valV (ks.zip xs) k = lookA ks xs k
  | [], xs, k => by cases xs <;> rfl
  | k' :: ks, [], k => rfl
  | k' :: ks, x :: xs, k => by
    rw [List.zip_cons_cons, lookA]
    by_cases e : k' = k
    · rw [if_pos e, valV_pos (by exact e)]
    · rw [if_neg e, valV_neg (by exact e), valV_zip ks xs k]
theorem lookA_none {α : Type} : ∀ {ks : List Key} {xs : List α} {k : Key}, ks.length = xs.length → (lookA ks xs k = none ↔ k ∉ ks)
  | [], xs, k, h => by cases xs <;> simp [lookA] at *
  | k' :: ks, [], k, h => by simp at h
  | k' :: ks, x :: xs, k, h => by
    rw [lookA]
    by_cases e : k' = k
    · simp [e]
    · rw [if_neg e, lookA_none (by simpa using h)]
      simp [e, Ne.symm e]
section
variable {K : PySem.W.Frag} {H : Hp} {O : List Addr}
theorem reps_look : ∀ {ks : List Key} {ds : List D} {xs : List V} {k : Key}, Reps K H O ds xs → (∀ d, lookA ks ds k = some d → ∃ v, lookA ks xs k = some v ∧ Rep K H O d v) ∧ (lookA ks ds k = none → lookA ks xs k = none)
  | [], ds, xs, k, r => ⟨(fun d h => by cases ds <;> cases h), (fun _ => by cases xs <;> rfl)⟩
  | k' :: ks, [], xs, k, r => by
    cases r
    exact ⟨(fun d h => by cases h), fun _ => rfl⟩
  | k' :: ks, d' :: ds, xs, k, r => by
    obtain ⟨v, ws, rfl, q, t⟩ := r
    rw [lookA, lookA]
    by_cases e : k' = k
    · rw [if_pos e, if_pos e]
      exact ⟨(fun d h => by cases h; exact ⟨v, rfl, q⟩), (fun h => by cases h)⟩
    · rw [if_neg e, if_neg e]
      exact reps_look t
end
noncomputable def keyD : D → Option Key
  | .int i => some (.inl i)
  | .str x => some (.inr x)
  | _ => none
theorem key_view {K : PySem.W.Frag} {H : Hp} {O : List Addr} {d : D} {v : V} {k : Key} (h : View K H O d v) (e : keyD d = some k) : v = kV k := by
  cases d with
  | int i => cases e; exact h
  | str i => cases e; exact h
  | _ => cases e
section
variable {X : Cx} {a b c e o : Expr} {es : List Expr} {ta tb tc te td : TD} {t : TDs} {pos : Pos}
/-- {} -/
theorem ed_dict0 : ED Γ X (.Dict [] [] pos) (fun _ φ => φ (df (.dk [] []))) := fun H₀ => impE pe_dnewK fun σ H Q q => by
  obtain ⟨ρ, o, R, φ, hφ, k⟩ := q
  intro p hp
  exact k (.ref p) (df (.dk [] [])) _ (same_new hp _) ⟨p, rfl, hp, R.ofree hp, [], upd_same, rfl, List.nodup_nil, rfl⟩ hφ
theorem op_inD (hu : X.A.units + 1 < cLine) : OpR X (compareOp .In) (fun x y H Q => ∃ a kvs k, y = .ref a ∧ H a = some (.dK kvs) ∧ x = kV k ∧ Q (.bl (valV kvs k).isSome) H) := by
  intro pins s σ H x y v u Q I rx ry h
  obtain ⟨a, kvs, k, rfl, ha, rfl, q⟩ := h
  cases ry
  exact d_in hu I (DGet.k ha) rx fun s' I' => ⟨.bl _, H, I', rfl, q⟩
theorem op_notinD (hu : X.A.units + 1 < cLine) : OpR X (compareOp .NotIn) (fun x y H Q => ∃ a kvs k, y = .ref a ∧ H a = some (.dK kvs) ∧ x = kV k ∧ Q (.bl (!(valV kvs k).isSome)) H) := by
  intro pins s σ H x y v u Q I rx ry h
  obtain ⟨a, kvs, k, rfl, ha, rfl, q⟩ := h
  cases ry
  exact d_notIn hu I (DGet.k ha) rx fun s' I' => ⟨.bl _, H, I', rfl, q⟩
theorem isSome_look {α : Type} {ks : List Key} {xs : List α} {k : Key} (h : ks.length = xs.length) : (lookA ks xs k).isSome = decide (k ∈ ks) := by
  by_cases hk : k ∈ ks
  · rw [decide_eq_true hk]
    cases e : lookA ks xs k with
    | none => exact absurd hk ((lookA_none h).mp e)
    | some _ => rfl
  · rw [decide_eq_false hk, (lookA_none h).mpr hk]
    rfl
/-- x in y: y a dict, a list or tuple of flat things, a text -/
noncomputable def flatD : D → Bool
  | .non => true
  | .bl _ => true
  | .int _ => true
  | .str _ => true
  | _ => false
noncomputable def inD (x : D) (l : List D) : Bool := l.any fun y => eqD y x
noncomputable def sIn (neg : Bool) : D → D → (EV → Prop) → Prop := fun x y φ => match y with
  | .dk ks _ => (match keyD x with | some k => φ (dv (.bl (if neg then !decide (k ∈ ks) else decide (k ∈ ks)))) | none => False)
  | .lst l => flatD x = true ∧ l.all flatD = true ∧ φ (dv (.bl (if neg then !inD x l else inD x l)))
  | .tup l => flatD x = true ∧ l.all flatD = true ∧ φ (dv (.bl (if neg then !inD x l else inD x l)))
  | .str z => (match x with | .str p => φ (dv (.bl (if neg then !(!(Builtin.Str.occurrences z p 0 z.length 1).isEmpty) else !(Builtin.Str.occurrences z p 0 z.length 1).isEmpty))) | _ => False)
  | _ => False
theorem flat_view {K : PySem.W.Frag} {H : Hp} {O : List Addr} {d : D} {v : V} (h : View K H O d v) (f : flatD d = true) : flatV v = true ∧ ∀ (e : D) (w : V), View K H O e w → flatD e = true → eqV v w = eqD d e := by
  cases d with
  | non => cases (show v = _ from h); exact ⟨rfl, fun e w he fe => by cases e <;> first | (cases (show w = _ from he); rfl) | cases fe⟩
  | bl b => cases (show v = _ from h); exact ⟨rfl, fun e w he fe => by cases e <;> first | (cases (show w = _ from he); rfl) | cases fe⟩
  | int b => cases (show v = _ from h); exact ⟨rfl, fun e w he fe => by cases e <;> first | (cases (show w = _ from he); rfl) | cases fe⟩
  | str b => cases (show v = _ from h); exact ⟨rfl, fun e w he fe => by cases e <;> first | (cases (show w = _ from he); rfl) | cases fe⟩
  | _ => cases f
theorem in_reps {K : PySem.W.Frag} {H : Hp} {O : List Addr} {x : D} {v : V} (hx : View K H O x v) (fx : flatD x = true) : ∀ {l : List D} {xs : List V}, Reps K H O l xs → l.all flatD = true → xs.all flatV = true ∧ inV v xs = inD x l
  | [], _, r, _ => by cases r; exact ⟨rfl, rfl⟩
  | d :: l, xs, r, f => by
    obtain ⟨w, ws, rfl, q, t⟩ := r
    rw [List.all_cons, Bool.and_eq_true] at f
    obtain ⟨i1, i2⟩ := in_reps hx fx t f.2
    obtain ⟨g1, g2⟩ := flat_view q.view f.1
    refine ⟨by rw [List.all_cons, g1, i1]; rfl, ?_⟩
    unfold inV inD at *
    rw [List.any_cons, List.any_cons, i2, g2 x v hx fx]
theorem link_in {K : PySem.W.Frag} {neg : Bool} : Link2 K (fun x y H Q => (∃ a kvs k, y = .ref a ∧ H a = some (.dK kvs) ∧ x = kV k ∧ Q (.bl (if neg then !(valV kvs k).isSome else (valV kvs k).isSome)) H) ∨ rIn K neg x y H Q ∨ ∃ i j, x = .str i ∧ y = .str j ∧ Q (.bl (if neg then !(!(Builtin.Str.occurrences j i 0 j.length 1).isEmpty) else !(Builtin.Str.occurrences j i 0 j.length 1).isEmpty)) H) (sIn neg) := by
  intro H O x y vx vy φ Q ho hx hy h k
  unfold sIn at h
  split at h
  · split at h
    · rename_i ks ds kk ek
      obtain ⟨a, xs, rfl, q, l, nd, r⟩ := hy
      refine .inl ⟨a, _, kk, rfl, q, key_view hx ek, ?_⟩
      rw [valV_zip, isSome_look (by rw [l, r.length])]
      exact k _ _ H (Same.refl H) (by exact rfl) h
    · exact h.elim
  · obtain ⟨f1, f2, h⟩ := h
    obtain ⟨a, xs, rfl, q, r⟩ := hy
    obtain ⟨g1, g2⟩ := in_reps hx f1 r f2
    refine .inr (.inl ⟨a, xs, rfl, .inl (SqL.of q), (flat_view hx f1).1, g1, ?_⟩)
    rw [g2]
    exact k _ _ H (Same.refl H) (by exact rfl) h
  · obtain ⟨f1, f2, h⟩ := h
    obtain ⟨a, xs, rfl, q, r⟩ := hy
    obtain ⟨g1, g2⟩ := in_reps hx f1 r f2
    refine .inr (.inl ⟨a, xs, rfl, .inr q.1, (flat_view hx f1).1, g1, ?_⟩)
    rw [g2]
    exact k _ _ H (Same.refl H) (by exact rfl) h
  · split at h
    · exact .inr (.inr ⟨_, _, hx, hy, k _ _ H (Same.refl H) (by exact rfl) h⟩)
    · exact h.elim
  · exact h.elim
theorem ed_in (hu : X.A.units + 64 < cLine) (ha : ED Γ X a ta) (hb : ED Γ X b tb) (hm : behindInMarks .In b = false := by with_unfolding_all rfl) : ED Γ X (.Compare a [.In] [b] pos) (d2 (sIn false) ta tb) := ed_cmp ((op_inD (by omega)).or (op_in_seq.or op_in_str)) link_in ha hb hm
theorem et_in (hu : X.A.units + 64 < cLine) (ha : ED Γ X a ta) (hb : ED Γ X b tb) (hm : behindInMarks .In b = false := by with_unfolding_all rfl) : ET Γ X (.Compare a [.In] [b] pos) (tBo (d2 (sIn false) ta tb)) := et_cmp ((op_inD (by omega)).or (op_in_seq.or op_in_str)) link_in ha hb hm
theorem et_notin (hu : X.A.units + 64 < cLine) (ha : ED Γ X a ta) (hb : ED Γ X b tb) (hm : behindInMarks .NotIn b = false := by with_unfolding_all rfl) : ET Γ X (.Compare a [.NotIn] [b] pos) (tBo (d2 (sIn true) ta tb)) := et_cmp ((op_notinD (by omega)).or (op_notIn_seq.or op_notIn_str)) link_in ha hb hm
/-- a[b], a dict too -/
noncomputable def sIxx : D → D → (EV → Prop) → Prop := fun x y φ => match x with
  | .dk ks ds => (match keyD y with
    | some k => (match lookA ks ds k with
      | some d => φ (dv d)
      | none => False)
    | none => False)
  | x => sIx x y φ
theorem ix_dict (hu : X.A.units + 1 < cLine) : IxR X (fun x y H Q => ∃ a kvs k v, x = .ref a ∧ H a = some (.dK kvs) ∧ y = kV k ∧ valV kvs k = some v ∧ Q v H) := by
  intro value slice pins s σ H x y v u Q I rx ry h hs
  obtain ⟨a, kvs, k, w, rfl, ha, rfl, e, q⟩ := h
  cases rx
  have g : DGet H a (kV k) (some w) := by rw [← e]; exact DGet.k ha
  exact tail_any (dict_typeIs I g) PySem.F.slot_dict_getitem.lookup (d_getItem hu I g ry fun w' s' I' rw' => ⟨w, H, I', rw', q⟩) hs
theorem link_ixx : Link2 X.K (fun x y H Q => rIx X.K x y H Q ∨ ∃ a kvs k v, x = .ref a ∧ H a = some (.dK kvs) ∧ y = kV k ∧ valV kvs k = some v ∧ Q v H) sIxx := by
  intro H O x y vx vy φ Q ho hx hy h k
  cases x with
  | dk ks ds =>
    obtain ⟨a, xs, rfl, q, l, nd, r⟩ := hx
    unfold sIxx at h
    dsimp only at h
    split at h
    · rename_i kk ek
      split at h
      · rename_i d ed
        obtain ⟨v, ev, rv⟩ := (reps_look (ks := ks) (k := kk) r).1 d ed
        exact .inr ⟨a, _, kk, v, rfl, q, key_view hy ek, by rw [valV_zip]; exact ev, k _ _ H (Same.refl H) (RV.val rv) h⟩
      · exact h.elim
    · exact h.elim
  | _ => exact .inl (link_ix H O _ y vx vy φ Q ho hx hy h k)
theorem ed_ixx (hu : X.A.units + 64 < cLine) (ha : ED Γ X a ta) (hb : ED Γ X b tb) (hs : PlainIx b := by intro _ _; rfl) : ED Γ X (.Subscript a b pos) (d2 sIxx ta tb) := fun H₀ => impE (pe_ix (ix_seq.or (ix_dict (by omega))) (ha H₀) (hb H₀) hs) (lift2 link_ixx)
/-- d.get(k, x) -/
noncomputable def dGet2 (td tk tx : TD) : TD := fun ρ φ => td ρ fun r => match r.d with
  | .dk ks ds => tk ρ fun y => tx ρ fun z => (match z.k with | .own => False | _ => True) ∧ (match keyD y.d with
    | some k => φ (dv ((lookA ks ds k).getD z.d))
    | none => False)
  | _ => False
end
section
variable {X : Cx} {x : Str} {e ke : Expr} {te tk : TD} {np pos pos' : Pos}
noncomputable def sDput' (i : Nat) (tk te : TD) : TDS := fun ρ Z => match slot ρ i with
  | some ⟨.own, .dk ks ds⟩ => te ρ fun r => tk ρ fun kr => (match r.k with | .own => False | _ => True) ∧ ds.length ≤ 100000 ∧ (match keyD kr.d with
    | some k => Z.nx (setS ρ i (dO (.dk (kput ks k) (dput ks ds k r.d))))
    | none => False)
  | _ => False
end
end DL

set_option Elab.async false
set_option linter.all false
set_option maxRecDepth 100000
set_option maxHeartbeats 4000000
namespace DL
open PySem PySem.Spec L2 L3
open PyProof.Rows hiding St
variable {Γ : Hp → Prop}

theorem gone_ok {X : Cx} {pins : List (Addr × Obj)} {σ : St} {H : Hp} {s : Shared} {M : Model} {A : Around} {E : Value → Shared → Prop} {i : Nat} {x : Str} {pos : Pos} {Q : Unit → Shared → Prop} (I : Inv X pins σ H s) (hN : X.N.Nodup) (hi : X.N[i]? = some x) (hk : X.env.scope.names.lookup x = some .local)
    (h : ∀ s', Inv X pins (σ.set i none) H s' → Q () s') : wpAny M A (do bindName X.env x .none; unbindBehindTheSuite X.env x pos) Q E s := by
  obtain ⟨m, hn, hl⟩ := id I.loc
  have hcls : (X.env.scope.kind == .class || (X.env.scope.kind == .module && X.env.locals != X.env.globals)) = false := by rw [I.ok.kind]; rfl
  have hiσ : i < σ.length := by rw [I.len]; exact (List.getElem?_eq_some_iff.mp hi).1
  have cne := I.cne
  have tracked : ∀ {a : Addr} {h' : Heap}, (∃ o, s.heap.get? a = some o ∧ H a = none) → Heap.SameBut a s.heap h' → HOk X.prog X.w H h' := fun {a h'} ha hs b ob e => by
    obtain ⟨_, _, hfree⟩ := ha
    refine (I.hok b ob e).stay (fun c w' hc q => (hs.2 c ?_).trans q) (fun _ q => q) fun _ _ q => q
    rintro rfl
    rcases hc with rfl | hc
    · rw [hfree] at e; cases e
    · rw [hfree] at hc; cases hc
  refine wpAny_nameGoes_keeps hk hn hcls fun h' v hn' hs => ?_
  obtain ⟨oL, _, _, hoL, _⟩ := id hn
  refine h _ ⟨I.ok, I.os, I.bare, ⟨fun b o e n hb hx => ?_, fun b o e n hb hx => ?_, I.base.free, fun b o e hx => ?_, I.base.tups, I.base.frzs, I.base.tbls⟩, ⟨_, hn', fun j y v' e1 e2 e3 => ?_⟩, fun y c e => ?_, I.free, I.freeC, fun p hp => ?_, tracked ⟨oL, hoL, I.free⟩ hs, by simpa using I.len⟩
  · exact (hs.2 b (Nat.ne_of_lt (Nat.lt_of_lt_of_le (Heap.lt_size e) I.ok.above))).trans (I.base.keep b o e n hb hx)
  · obtain ⟨sl, e1⟩ := I.base.slot b o e n hb hx
    exact ⟨sl, (hs.2 b (Nat.ne_of_lt (Nat.lt_of_lt_of_le (Heap.lt_size e) I.ok.above))).trans e1⟩
  · obtain ⟨o', e1⟩ := I.base.there b o e hx
    exact ⟨o', (hs.2 b (Nat.ne_of_lt (Nat.lt_of_lt_of_le (Heap.lt_size e) I.ok.above))).trans e1⟩
  · by_cases hj : j = i
    · subst hj
      rw [List.getElem?_set_self hiσ] at e2
      cases e2
    · rw [List.getElem?_set_ne (Ne.symm hj)] at e2
      obtain ⟨u', r', q⟩ := hl j y v' e1 e2 e3
      refine ⟨u', r', ?_⟩
      rcases q with ⟨k, e⟩ | ⟨k, c, e, z⟩
      · refine .inl ⟨k, ?_⟩
        have : y ≠ x := fun e => hj (nodup_ix hN e1 (e ▸ hi))
        simp [this, e]
      · exact .inr ⟨k, c, e, z.sameBut hs (cne y c e)⟩
  · obtain ⟨w', z⟩ := I.cell y c e
    exact ⟨w', z.sameBut hs (cne y c e)⟩
  · obtain ⟨e, n, ne, nf, d⟩ := I.pin p hp
    exact ⟨(hs.2 p.1 ne).trans e, n, ne, nf, d⟩
/-- the slot is empty -/
noncomputable def clrS : DE → Nat → DE
  | [], _ => []
  | _ :: r, 0 => none :: r
  | x :: r, i + 1 => x :: clrS r i
theorem clrS_eq : ∀ (ρ : DE) (i : Nat), clrS ρ i = ρ.set i none
  | [], _ => rfl
  | _ :: _, 0 => rfl
  | x :: r, i + 1 => by rw [clrS, clrS_eq r i, List.set_cons_succ]
theorem REnv.clr {K : PySem.W.Frag} {H₀ H : Hp} {σ : St} {ρ : DE} {o : List (Nat × Addr)} (R : REnv K H₀ H σ ρ o) (i : Nat) : REnv K H₀ H (σ.set i none) (clrS ρ i) o where
  same := R.same
  fresh := R.fresh
  trk := R.trk
  mtb := R.mtb
  nda := R.nda
  len := by rw [clrS_eq, List.length_set, List.length_set]; exact R.len
  slots := fun j r e => by
    rw [clrS_eq] at e
    by_cases hj : j = i
    · subst hj
      rcases Nat.lt_or_ge j ρ.length with z | z
      · rw [List.getElem?_set_self z] at e
        cases e
      · rw [List.getElem?_eq_none (by rw [List.length_set]; exact z)] at e
        cases e
    · rw [List.getElem?_set_ne (Ne.symm hj)] at e
      obtain ⟨w, ew, q⟩ := R.slots j r e
      exact ⟨w, by rw [List.getElem?_set_ne (Ne.symm hj)]; exact ew, q⟩
/-- what is ours is held fast -/
noncomputable def frzE (ρ : DE) : DE := ρ.map fun x => x.map fun r => dv r.d
theorem REnv.frz {K : PySem.W.Frag} {H₀ H : Hp} {σ : St} {ρ : DE} {o : List (Nat × Addr)} (R : REnv K H₀ H σ ρ o) : REnv K H H σ (frzE ρ) [] where
  same := Same.refl H
  fresh := fun _ z => absurd z (by simp)
  trk := fun _ z => absurd z (by simp)
  mtb := fun _ z => absurd z (by simp)
  nda := List.nodup_nil
  len := by unfold frzE; rw [List.length_map]; exact R.len
  slots := fun j r e => by
    unfold frzE at e
    rw [List.getElem?_map] at e
    cases e1 : ρ[j]? with
    | none => rw [e1] at e; cases e
    | some x =>
      rw [e1] at e
      cases x with
      | none => cases e
      | some r' =>
        have e' : some (dv r'.d) = some r := Option.some.inj e
        cases e'
        obtain ⟨v, ev, q⟩ := R.slots j r' e1
        refine ⟨v, ev, .inl ⟨rfl, ?_⟩⟩
        rcases q with ⟨_, q⟩ | ⟨_, a, rfl, m, c⟩
        · exact Rep.sub (O' := []) (fun _ z => absurd z (by simp)) _ _ q
        · exact (c.sub (O' := []) fun _ z => absurd z (by simp)).rep (by simp)
/-- and behind it -/
theorem REnv.unfrz {K : PySem.W.Frag} {H₀ H H1 : Hp} {σ : St} {ρ : DE} {o1 : List (Nat × Addr)} (s : Same H₀ H) (R : REnv K H H1 σ ρ o1) : REnv K H₀ H1 σ ρ o1 :=
  ⟨s.trans R.same, fun p hp => s.free (R.fresh p hp), R.trk, R.mtb, R.nda, R.slots, R.len⟩
theorem REnv.gr {K : PySem.W.Frag} {H H1 : Hp} {σ : St} {ρ : DE} {o1 : List (Nat × Addr)} {O : List Addr} (R : REnv K H H1 σ ρ o1) : Grow O (o1.map Prod.snd) H H1 :=
  ⟨fun b u h n => ⟨R.same b u h, fun z => by
    obtain ⟨p, hp, e⟩ := List.mem_map.mp z
    have := R.fresh p hp
    rw [e, h] at this
    cases this⟩, fun b xs h => R.same b _ h, fun b ob u h => R.same b _ h⟩

noncomputable def XP (Γ : Hp → Prop) (X : Cx) (χ : DE → Addr → Prop) : Prop := ∀ (H₀ : Hp), Γ H₀ → ∀ (ρ : DE) (o : List (Nat × Addr)) (pins : List (Addr × Obj)) (σ : St) (H : Hp) (s : Shared) (e : Value) (s' : Shared), Inv X pins σ H s → REnv X.K H₀ H σ ρ o →
  CX1 X.prog X.w X.stack H s (fun cls _ H' => Same H H' ∧ ∃ C, cls = .ref C ∧ χ ρ C) e s' → X.xe e s'
noncomputable def XR (Γ : Hp → Prop) (X : Cx) (χ : DE → Addr → Prop) : Prop := ∀ (H₀ : Hp), Γ H₀ → ∀ (ρ : DE) (o : List (Nat × Addr)) (pins : List (Addr × Obj)) (σ : St) (H : Hp) (s : Shared) (a C : Addr) (vs : List Value) (h' : Heap), Inv X pins σ H s → REnv X.K H₀ H σ ρ o →
  Heap.MadeExcOf s.heap h' a (.ref C) vs → χ ρ C → X.xe (.ref a) { s with heap := h' }

noncomputable abbrev FTX := List D → (EV → Prop) → (Addr → Prop) → Prop
noncomputable def spX (K : PySem.W.Frag) (n : Nat) (T : FTX) : Sp := fun vs H Q E => ∃ ds φ χ, ds.length = n ∧ Reps K H [] ds vs ∧ T ds φ χ ∧ (∀ v r H', Same H H' → RV K H H' [] r v → pureEV r → φ r → Q v H') ∧ ∀ C H', Same H H' → χ C → E (.ref C) none H'
structure FX (P : Program) (w : World) (K : PySem.W.Frag) (mg : Str → Option Value) (base : Heap) (k : Nat) (x : Str) (ps : List Str) (T : FTX) : Prop where
  ex : ∃ f fd, FnOk P w K mg base (CX1 P w) k f fd ps (spX K ps.length T) ∧ Binds K fd ps [] ∧ PySem.W.keepIn K (.ref f) = true ∧ mg x = some (.ref f)
noncomputable def dCallX (n : Nat) (T : FTX) (χ : DE → Addr → Prop) (t : TDs) : TD := fun ρ φ => t ρ fun rs => Nat.beq rs.length n = true ∧ T (rs.map EV.d) φ (χ ρ)
theorem ed_callX {X : Cx} {x : Str} {ps : List Str} {T : FTX} {k : Nat} {e : Expr} {es : List Expr} {t : TDs} {p pos : Pos} {χ : DE → Addr → Prop} (F : FX X.prog X.w X.K X.mg X.base k x ps T) (hr : Room k X.A) (hx : XP Γ X χ) (ha : EA Γ X (e :: es) t) (hg : Gl X x := by rfl) (hdb : (x == ("__debug__" : Str)) = false := by decide)
    (he : starEach (e :: es) X.env = (false, eval e X.env) :: starEach es X.env := by rfl) (hpl : (backTo pos (starEach es X.env)).any (·.1) = false := by rfl) : ED Γ X (.Call (.Name x p) (e :: es) [] pos) (dCallX ps.length T χ t) := fun H₀ pins s σ H Q I h => by
  obtain ⟨f, fd, ok, b, kp, m⟩ := F.ex
  obtain ⟨ρ, o, R, φ, hφ, kk⟩ := h
  refine wpAny_Call_Name_kw (ld_glob I hg m ?_ hdb)
  refine PySem.W.callWith_K (h₀ := X.base) I.ok.mod.kin kp (thn (ha H₀ pos pins s σ H (fun vs H1 => Same H H1 ∧ spX X.K ps.length T vs H1 Q (fun cls _ H' => Same H1 H' ∧ ∃ C, cls = .ref C ∧ χ ρ C)) I ⟨ρ, o, R, _, hφ, fun vs rs H1 s1 rvs h1 => ?_⟩) fun us s1 ⟨vs, H1, I1, r, sm, q⟩ => ⟨I1.kIn, ?_⟩) he hpl
  · refine ⟨s1, rs.map EV.d, φ, χ ρ, by rw [List.length_map]; exact Nat.eq_of_beq_eq_true h1.1, rvs.reps0, h1.2, fun v r H2 s2 rv pr h2 => ?_, fun C H' sm c => ⟨sm, C, rfl, c⟩⟩
    exact kk v r H2 (s1.trans s2) (RV.start (rv.lift pr fun a e => R.ofree (s1.free e)) s1) h2
  · have hl : (us ++ []).length = ps.length := by rw [List.append_nil, ← r.length]; exact ok.len _ _ _ _ q
    have hb := b s1 us I1.kIn hl
    rw [List.append_nil] at hb
    refine wpAny_call (codeAny_mono (ok.run X.A X.stack s1 H1 ⟨us, []⟩ us vs Q _ hr I1.env0 hb r q) fun r s' hq => ?_)
    cases r with
    | error e => exact hx H₀.1 H₀.2 ρ o pins σ H1 s1 e s' I1 (R.to sm) hq
    | ok fl =>
      cases fl with
      | ret u => exact I1.after hq
      | next => exact False.elim hq
      | brk => exact False.elim hq
      | cont => exact False.elim hq
section
variable {P : Program} {w : World} {K : PySem.W.Frag} {mg : Str → Option Value} {base : Heap}
theorem renv_start {N : List Str} {ds : List D} {vs : List V} {H : Hp} (r : Reps K H [] ds vs) : REnv K H H (L2.start N vs) (startD N.length ds) [] := by
  have rl := r.length
  refine ⟨Same.refl H, (fun _ z => absurd z (by simp)), (fun _ z => absurd z (by simp)), (fun _ z => absurd z (by simp)), List.nodup_nil, fun i r' e => ?_, ?_⟩
  · unfold startD at e
    rcases Nat.lt_or_ge i ds.length with hi | hi
    · rw [List.getElem?_append_left (by simpa using hi), List.getElem?_map] at e
      have ed : ds[i]? = some ds[i] := by simp [hi]
      rw [ed] at e
      have e' : some (dv ds[i]) = some r' := Option.some.inj e
      cases e'
      obtain ⟨v, ev, rv⟩ := r.get ed
      refine ⟨v, ?_, .inl ⟨rfl, rv⟩⟩
      unfold L2.start
      rw [List.getElem?_append_left (by rw [List.length_map, rl]; exact hi), List.getElem?_map, ev]
      rfl
    · rw [List.getElem?_append_right (by simpa using hi), List.getElem?_replicate] at e
      split at e <;> cases e
  · unfold L2.start startD
    simp [rl]
theorem fn_okX {x qual : Str} {st : Stmt} {f : Addr} {fd : FuncData} {N ps : List Str} {k : Nat} {T : FTX} (F : Fun K x qual st f fd) (S : FnScope N ps (defScope st))
    (hbody : ∀ (cdv : Value) (A : Around) (outer : List Env) (s : Shared) (H : Hp) (E : XK) (ds : List D) (φ : EV → Prop) (χ : Addr → Prop), Room k (A.deeper (envOfC qual (defScope st) s.heap.objs.size f cdv)) → ds.length = ps.length → T ds φ χ →
      XP (Same H) (cxOf (CX1 P w) P w K mg base N qual (defScope st) f cdv A outer s H E) (fun _ => χ) → XR (Same H) (cxOf (CX1 P w) P w K mg base N qual (defScope st) f cdv A outer s H E) (fun _ => χ) →
      ∃ t, SDs (Same H) (cxOf (CX1 P w) P w K mg base N qual (defScope st) f cdv A outer s H E) (defBody st) t ∧ t (startD N.length ds) { nx := fun _ => φ (dv .non), rt := fun r => pureEV r ∧ φ r }) : FnOk P w K mg base (CX1 P w) (k + 1) f fd ps (spX K ps.length T) := by
  obtain ⟨oc, od, kV, doc, pm, an, cdv, ct, osl, rfl, lk, hcd⟩ := F.ex
  refine fn_of lk hcd S (fun vs H Q E h => ?_) fun A outer s H vs Q E hr h => ?_
  · obtain ⟨ds, φ, χ, hl, r, _⟩ := h
    rw [r.length, hl]
  · obtain ⟨ds, φ, χ, hl, r, hT, kk, kx⟩ := h
    obtain ⟨t, ht, hq⟩ := hbody cdv A outer s H E ds φ χ hr hl hT (fun H₀ g ρ o pins σ H1 s1 e s' J R hc => pass_xe J hc fun C H' ⟨sm, C', e', c⟩ => by cases e'; exact kx _ H' ((g.trans R.same).trans sm) c)
      (fun H₀ g ρ o pins σ H1 s1 a C vs h' J R hx c => made_xe J hx (kx C H1 (g.trans R.same) c))
    refine ⟨liftS K H t, ht ⟨H, Same.refl H⟩, startD N.length ds, [], renv_start r, _, hq, fun ρ' σ' H' o' g R' q => ?_, fun _ _ _ _ _ _ q => q.elim, fun _ _ _ _ _ _ q => q.elim, fun v r' H' s' rv q => kk v r' H' s' rv q.1 q.2⟩
    exact kk .non (dv .non) H' R'.same rfl trivial q
theorem fx_of {x qual : Str} {st : Stmt} {f : Addr} {fd : FuncData} {N ps : List Str} {k : Nat} {T : FTX} (F : Fun K x qual st f fd) (S : FnScope N ps (defScope st)) (b : Binds K fd ps []) (m : mg x = some (.ref f))
    (hbody : ∀ (cdv : Value) (A : Around) (outer : List Env) (s : Shared) (H : Hp) (E : XK) (ds : List D) (φ : EV → Prop) (χ : Addr → Prop), Room k (A.deeper (envOfC qual (defScope st) s.heap.objs.size f cdv)) → ds.length = ps.length → T ds φ χ →
      XP (Same H) (cxOf (CX1 P w) P w K mg base N qual (defScope st) f cdv A outer s H E) (fun _ => χ) → XR (Same H) (cxOf (CX1 P w) P w K mg base N qual (defScope st) f cdv A outer s H E) (fun _ => χ) →
      ∃ t, SDs (Same H) (cxOf (CX1 P w) P w K mg base N qual (defScope st) f cdv A outer s H E) (defBody st) t ∧ t (startD N.length ds) { nx := fun _ => φ (dv .non), rt := fun r => pureEV r ∧ φ r }) : FX P w K mg base (k + 1) x ps T := ⟨f, fd, fn_okX F S hbody, b, F.kp, m⟩
end

theorem cls_of_in {K : PySem.W.Frag} {h : Heap} {C : Addr} {bmB : List Value} {newId : String} (X : K.In h) (q : PySem.W.excIn K C bmB newId = true) :
    ∃ bm N nm q bs hdct sn sub ab col dd k0 k1 k2 k3 k5 mN, h.get? C = some (excClassObj nm q C N bs bm hdct sn sub ab col dd k0 k1 k2 k3 k5 newId) ∧ h.Ns N mN ∧ mN "__init__" = none ∧ OwnTail h bmB bm := by
  unfold PySem.W.excIn at q
  split at q
  · rename_i dd cd sl ho
    split at q
    · rename_i C' bm k0 k1 k2 k3 n k5 hm hs
      simp only [Bool.and_eq_true, beq_iff_eq, Bool.not_eq_true'] at q
      obtain ⟨⟨⟨⟨⟨rfl, rfl⟩, hdel⟩, ht⟩, hok⟩, hni⟩ := q
      obtain ⟨nm, bs, mro, ns, qn, hd, sn, sub, ab, col, del⟩ := cd
      dsimp only at hm hdel hok hni
      subst hm hdel
      have hsl : sl = #[k0, k1, k2, k3, some (.builtin n), k5] := by
        obtain ⟨l⟩ := sl
        simp only at hs
        rw [hs]
      subst hsl
      exact ⟨bm, ns, nm, qn, bs, hd, sn, sub, ab, col, dd, k0, k1, k2, k3, k5, _, X _ _ ho, .of_isNs (PySem.W.isNs_of_in X hok), PySem.W.nsMap_none_of_in X hok hni, PySem.W.tail_of_in X ht⟩
    · cases q
  · cases q
noncomputable def sRaise (χ : DE → Addr → Prop) (C : Addr) (t : TDs) : TDS := fun ρ _ => t ρ fun rs => Nat.ble rs.length 9 = true ∧ χ ρ C
theorem sd_raise {X : Cx} {x : Str} {C : Addr} {B newId initId : String} {bmB : List Value} {e : Expr} {es : List Expr} {t : TDs} {np cpos pos : Pos} {χ : DE → Addr → Prop} (FB : ExcBaseFacts B newId initId bmB) (hm : X.mg x = some (.ref C)) (hC : PySem.W.excIn X.K C bmB newId = true) (hh : X.A.handled = none) (hx : XR Γ X χ)
    (ha : EA Γ X (e :: es) t) (hg : Gl X x := by rfl) (hdb : (x == ("__debug__" : Str)) = false := by decide) (he : starEach (e :: es) X.env = (false, eval e X.env) :: starEach es X.env := by rfl) (hpl : (backTo cpos (starEach es X.env)).any (·.1) = false := by rfl) :
    SD Γ X (.Raise (some (.Call (.Name x np) (e :: es) [] cpos)) none pos) (sRaise χ C t) := fun H₀ pins s σ H D I h => by
  obtain ⟨ρ, o, R, Z, hZ, _⟩ := h
  obtain ⟨bm, N, nm, q, bs, hdct, sn, sub, ab, col, dd, k0, k1, k2, k3, k5, mN, hC', hN, hni, T⟩ := cls_of_in I.ok.mod.kin hC
  refine wpAny_Raise_call_subT (C := C) (nm := nm) (q := q) (N := N) (bs := bs) (bm := bm) (hdct := hdct) (sn := sn) (sub := sub) (ab := ab) (col := col) (dd := dd) (k0 := k0) (k1 := k1) (k2 := k2) (k3 := k3) (k5 := k5)
    FB (mN := mN) (T.hasType FB.hasBase) hh (by rw [he]; show (false || (backTo cpos (starEach es X.env)).any (·.1)) = false; rw [hpl]; rfl) hni (ld_glob I hg hm ⟨rfl, ?_⟩ hdb)
  have go := ha H₀ cpos pins s σ H (fun vs H1 => vs.length ≤ 9 ∧ REnv X.K H₀.1 H1 σ ρ o ∧ χ ρ C) I ⟨ρ, o, R, _, hZ, fun vs rs H1 s1 rvs h1 => ⟨by rw [rvs.length]; exact Nat.le_of_ble_eq_true h1.1, R.to s1, h1.2⟩⟩
  rw [he] at go ⊢
  refine Calls.evalArgs_plain (wpAny_mono go (fun us s2 ⟨vs, H1, I1, r, hl, R1, c⟩ => ⟨rfl, ?_, I1.bk _ _ hC', hN.keeps I1.bk, T.keeps I1.bk, fun h' a mx => hx H₀.1 H₀.2 ρ o pins σ H1 s2 a C us h' I1 R1 mx c⟩) fun _ _ y => y)
  rw [← r.length]
  exact Nat.le_trans hl (by decide)
end DL

set_option Elab.async false
set_option linter.all false
set_option maxRecDepth 100000
set_option maxHeartbeats 4000000
namespace DL
open PySem PySem.Spec L2 L3 PySem.W PySem.Builtin PySem.Builtin.ObjectAttr PySem.Builtin.Getset_descriptor
open PyProof.Rows hiding St InstAt

section
variable {prog : Program} {w : World} {A : Around} {E : Value → Shared → Prop} {s : Shared} {K : PySem.W.Frag} {a C : Addr}
theorem exc_get {R : Result → Shared → Prop} {tp : Value} (X : K.In s.heap) (T : Looks (model prog w) s.heap (typeOf (.ref a)) (.ref C)) (hm : mroIn K C (.type "object") = some true)
    (h : R (.ok (.ret (.ref C))) s) : codeAny (model prog w) A (.call (.builtin "getset_descriptor.__get__") ⟨[.builtin "object.__class__", .ref a, tp], []⟩) R s := by
  obtain ⟨hh, g, dr, t, os⟩ := s
  have L0 := T
  have L1 := looks_mroIn (M := model prog w) X hm
  refine codeAny_call_builtin KF.slot_gs.plain KF.entry_gs (KF.slot_gs.check _ _ _ _ _ _ _ _ KF.type_class (KF.args_gs _ _ _) ?_)
  unfold Builtin.«getset_descriptor.__get__» descrGet
  rw [dga_obj]
  refine wpAny_bind (wpAny_pure ?_)
  unfold descrGetter descrCheckInstance descrNameAndClass isInstance
  simp only [KF.owner_class]
  repeat lk
  refine ⟨Code.quiet_builtin _ (by decide +kernel), codeAny_builtin KF.entry_class ?_⟩
  unfold Builtin.«object.__class__» shownTypeOf
  repeat lk
  exact h

structure ExcIn (K : PySem.W.Frag) (C : Addr) : Prop where
  ga : findIn K (.ref C) "__getattribute__" = some (some (.builtin "BaseException.__getattribute__"))
  hk : findIn K (.ref C) "__getattr__" = some none
  ha : findIn K (.ref C) "__class__" = some (some (.builtin "object.__class__"))
  hn : specialIn K (.builtin "object.__class__") "__get__" = some (some (.builtin "getset_descriptor.__get__"))
  htk : takesIn K (.builtin "object.__class__") = some true
  hm : mroIn K C (.type "object") = some true
  hb : subIn K (.ref C) (.type "BaseException") = some true
  hd : hasDictIn K C = true

theorem exc_class {Q : Option Value → Shared → Prop} (Y : ExcIn K C) (X : K.In s.heap) (T : Looks (model prog w) s.heap (typeOf (.ref a)) (.ref C)) (h : Q (some (.ref C)) { s with toks := s.toks + 1 }) : wpAny (model prog w) A (getAttr? (.ref a) "__class__") Q E s := by
  obtain ⟨hh, g, d, t, os⟩ := s
  have L0 := T
  have L1 := looks_findIn (M := model prog w) X Y.ga
  have L2 := looks_findIn (M := model prog w) X Y.hk
  have L3 := looks_findIn (M := model prog w) X Y.ha
  have L4 := looks_specialIn (M := model prog w) X Y.hn
  have L5 := looks_takesIn (M := model prog w) X Y.htk
  have L6 := looks_subIn (M := model prog w) X Y.hb
  have LF : Looks (model prog w) hh (find (.ref a) (.ref C) "__class__") (.bind (.builtin "getset_descriptor.__get__") (.builtin "object.__class__")) :=
    L3.andThen ((show Looks (model prog w) hh (getOf (some (.builtin "object.__class__"))) (some (.builtin "getset_descriptor.__get__")) from L4).andThen ((show Looks (model prog w) hh (dataDescriptor? (some (.builtin "object.__class__")) (some (.builtin "getset_descriptor.__get__"))) (some (.builtin "getset_descriptor.__get__", .builtin "object.__class__")) from L5.andThen .now).andThen (Looks.tag .now)))
  have hx2 : (Value.builtin "BaseException.__getattribute__" == Value.builtin "object.__getattribute__") = false := by decide +kernel
  unfold getAttr? getAttrBy? getAttrBy
  refine wpAny_bind (wpAny_mkText (wpAny_bind (wpAny_attempt (wpAny_holding (wpAny_bind (L0.at (wpAny_bind (L1.at ?_))))))))
  dsimp only
  rw [hx2, Bool.and_false, if_neg Bool.false_ne_true]
  unfold getAttrByItsOwn hookBefore
  rw [if_pos (show onTheHeap (Value.ref C) = true from rfl)]
  refine wpAny_bind (L2.at ?_)
  refine wpAny_bind (wpAny_attempt (wpAny_holding ?_))
  unfold callGetattribute boundAndCalled
  rw [Bool.false_and, if_neg Bool.false_ne_true]
  refine wpAny_bind (wpAny_of_eq (PySem.F.attr_ValueError.ga.bind (.ref a)) ?_)
  dsimp only
  refine wpAny_call (codeAny_call_builtin PySem.F.attr_ValueError.ga.plain PySem.F.entry_bexc_ga ?_)
  have hkd : builtinKind "BaseException.__getattribute__" = some .slot := by decide +kernel
  have hsplit : splitId "BaseException.__getattribute__" = some ("BaseException", "__getattribute__") := by decide +kernel
  have LI : Looks (model prog w) hh (isInstance (.ref a) (.type "BaseException")) true := L0.andThen L6
  have hga := PySem.F.args_bexc_ga (.ref a) (.str "__class__" t)
  have body : wpAny (model prog w) A.in1 (Builtin.«object.__getattribute__» ⟨[.ref a, .str "__class__" t], []⟩) (fun fin s' => match fin with | .done (.ret v) => v = .ref C ∧ s' = ⟨hh, g, d, t + 1, os⟩ | _ => False) (fun _ _ => False) ⟨hh, g, d, t + 1, os⟩ := by
    unfold Builtin.«object.__getattribute__» slotArgs
    (repeat (first | (refine wpAny_bind (wpAny_holding (wpAny_call (exc_get X T Y.hm ?_)))) | lk))
    exact ⟨rfl, rfl⟩
  simp only [checkBuiltinCall, hkd, hsplit]
  refine wpAny_bind (LI.at ?_)
  rw [if_neg (by decide)]
  refine wpAny_of_eq (a := ()) hga (wpAny_mono body (fun fin s' z => ?_) fun _ _ z => z.elim)
  rcases fin with (_ | _ | _ | v) | _ <;> first | exact z.elim | skip
  obtain ⟨rfl, rfl⟩ := z
  exact wpAny_pure (wpAny_pure h)
end
end DL

set_option Elab.async false
set_option linter.all false
set_option maxRecDepth 100000
set_option maxHeartbeats 4000000
namespace DL
open PySem PySem.Spec L2 L3
open PyProof.Rows hiding St
variable {Γ : Hp → Prop}

theorem kitx_exc {K : PySem.W.Frag} {a C : Addr} (Y : ExcIn K C) : PySem.W.KitX K (.ref a) (.ref C) (fun h => ∃ o, h.get? a = some o ∧ o.cls = .ref C ∧ PySem.W.notCls o = true) where
  ty := fun _ _ _ p => by
    obtain ⟨o, h1, h2, _⟩ := p
    exact h2 ▸ (PySem.W.Looks.ld h1).andThen .now
  it := fun _ _ X _ => by
    obtain ⟨cdD, hcD, _⟩ := PySem.W.any_some Y.hd
    unfold PySem.W.clsIn at hcD
    split at hcD
    · rename_i c' d' cd' sl' ho
      intro A' Q' E' s' k q
      unfold isType loadHead
      exact wpAny_bind (wpAny_loadPart (k _ _ (X _ _ ho)) (wpAny_pure q))
    · cases hcD
  ne := fun h tp dd its n sl X htp => by
    obtain ⟨cdD, hcD, _⟩ := PySem.W.any_some Y.hd
    refine Bool.eq_false_iff.mpr fun q => ?_
    have e : C = tp := Value.ref.inj (beq_iff_eq.mp q)
    subst e
    unfold PySem.W.clsIn at hcD
    split at hcD
    · rename_i c' d' cd' sl' ho
      have z := (X _ _ ho).symm.trans htp
      cases z
    · cases hcD
  ca := fun {prog w A E Q s} X p k => by
    obtain ⟨o, h1, h2, _⟩ := p
    exact exc_class Y X (h2 ▸ (PySem.W.Looks.ld h1).andThen .now) k
section
variable {X : Cx} {p np pos : Pos} {e : Expr} {te : TD} {c : Str} {C0 : Addr}
theorem pe_cls (hm : X.mg c = some (.ref C0)) (hg : Gl X c := by rfl) (hd : (c == ("__debug__" : Str)) = false := by decide) : PE X (.Name c np) (fun σ H Q => Q (.ref C0) H) := fun pins s σ H Q I h => ld_glob I hg hm ⟨.ref C0, H, I, rfl, h⟩ hd
theorem call_isE : CallR X (.builtin "isinstance") (fun xs H Q => ∃ a C y z b, xs = [.ref a, y] ∧ (∀ u, RelV y u → u = z) ∧ H a = some (ExcO a C) ∧ PySem.W.kitOne X.K (.ref C) z = some b ∧ ExcIn X.K C ∧ Q (.bl b) H) := by
  intro pins s σ H xs us Q I r h
  obtain ⟨a, C, y, z, b, rfl, hz, hH, ek, Y, q⟩ := h
  obtain ⟨u, v, rfl, ru, rv⟩ := vals2 r
  cases (show u = Value.ref a from ru)
  have := hz v rv
  subst this
  have ob := I.hok a _ hH
  exact PySem.W.kia_one (kitx_exc Y) I.kIn ob.1 ek (fun z => nomatch z) fun tk => ⟨.bl b, H, I.tok tk, rfl, q⟩
noncomputable def dIsE (K : PySem.W.Frag) (z : Value) (te : TD) : TD := fun ρ φ => te ρ fun r => match r.d with
  | .exc C => ∃ b, PySem.W.kitOne K (.ref C) z = some b ∧ ExcIn K C ∧ φ (dv (.bl b))
  | _ => False
theorem lift_isE {t : TA} {y : V} {z : Value} {H₀ : Hp} (hz : ∀ u, RelV y u → u = z) (ht : ∀ σ H Q, liftE X.K H₀ te σ H (fun v H1 => Q [v, y] H1) → t σ H Q) :
    ∀ σ H Q, liftE X.K H₀ (dIsE X.K z te) σ H Q → tCB (fun xs H Q => ∃ a C y z b, xs = [.ref a, y] ∧ (∀ u, RelV y u → u = z) ∧ H a = some (ExcO a C) ∧ PySem.W.kitOne X.K (.ref C) z = some b ∧ ExcIn X.K C ∧ Q (.bl b) H) t σ H Q := fun σ H Q q => by
  obtain ⟨ρ, o, R, φ, hφ, kk⟩ := q
  refine ht σ H _ ⟨ρ, o, R, _, hφ, fun v r H1 s1 rv h1 => ?_⟩
  have vw := rv.view
  split at h1
  · rename_i C hd
    rw [hd] at vw
    obtain ⟨b, ek, Y, h2⟩ := h1
    obtain ⟨a, rfl, hH, _⟩ := vw
    exact ⟨a, C, y, z, b, rfl, hz, hH, ek, Y, kk _ _ H1 s1 (by exact rfl) h2⟩
  · exact h1.elim
theorem ed_isexc {K0 : PySem.W.Frag} (hK : X.K = K0) (hi : X.mg "isinstance" = none) (hc : X.mg c = some (.ref C0)) (he : ED Γ X e te) (hg : Gl X "isinstance" := by rfl) (hg2 : Gl X c := by rfl) (hd : (c == ("__debug__" : Str)) = false := by decide)
    (hs : starEach [e, .Name c np] X.env = (false, eval e X.env) :: starEach [.Name c np] X.env := by rfl) (hpl : (backTo pos (starEach [.Name c np] X.env)).any (·.1) = false := by rfl) : ED Γ X (.Call (.Name "isinstance" p) [e, .Name c np] [] pos) (dIsE K0 (.ref C0) te) := fun H₀ => by
  subst hK
  exact impE (pe_callB call_isE hg hi boot_isinstance' (pa_cons (he H₀) (pa_cons (pe_cls hc hg2 hd) pa_nil) hs) (by decide) (by decide) hs hpl) (lift_isE (y := .ref C0) (fun u h => h) fun σ H Q q => by
    obtain ⟨ρ, o, R, φ, hφ, kk⟩ := q
    exact ⟨ρ, o, R, φ, hφ, kk⟩)
end

theorem inv_re {X : Cx} {pins pins' pn' : List (Addr × Obj)} {σ : St} {H : Hp} {s : Shared} {A' : Around} {calm' : Bool} {xe' : Value → Shared → Prop} (I : Inv X pins σ H s) (hfr : A'.frames = X.A.frames) (hc : calm' = true → A'.handled = none) (hp : ∀ p ∈ pn' ++ pins', p ∈ X.pn ++ pins) :
    Inv { X with A := A', calm := calm', pn := pn', xe := xe' } pins' σ H s :=
  ⟨⟨I.ok.mod, I.ok.kind, I.ok.glob, I.ok.blt, I.ok.above, I.ok.inj, I.ok.has, I.ok.cab, hc, hfr.trans I.ok.frames, I.ok.stk, I.ok.exf, I.ok.bs, I.ok.bsz, I.ok.noex, I.ok.exfs, I.ok.funs, I.ok.frf⟩,
    I.os, I.bare, I.base, I.loc, I.cell, I.free, I.freeC, fun p h => I.pin p (hp p h), I.hok, I.len⟩
noncomputable abbrev Xtry (X : Cx) (pn : List (Addr × Obj)) (xe : Value → Shared → Prop) : Cx := { X with pn := pn, xe := xe }
noncomputable abbrev Xhan (X : Cx) (a : Addr) : Cx := { X with A := X.A.mark (some (.ref a)), calm := false, xe := fun _ _ => False }
noncomputable def hanZ (j : Nat) (Z : DZ) : DZ := { nx := fun ρ => Z.nx (clrS ρ j), rt := Z.rt, bk := fun ρ => Z.bk (clrS ρ j), ct := fun ρ => Z.ct (clrS ρ j) }
noncomputable def sTry (K : PySem.W.Frag) (C0 : Addr) (j : Nat) (tb : (DE → Addr → Prop) → TDS) (ts : TDS) : TDS := fun ρ Z =>
  tb (fun ρ' C => PySem.W.exmOne K (.ref C) (.ref C0) = some true ∧ ts (setS ρ' j (dv (.exc C))) (hanZ j Z)) (frzE ρ) Z
/-- the exception is tracked from here on -/
theorem fly_tracked {P : Program} {w : World} {outer : List Env} {H H' : Hp} {h h2 B : Heap} {a C : Addr} {t : Value} (F : FlyB P w outer H h H' B h2) (fl : Heap.FlyingW B outer a (.ref C) t h2) (hf : ∀ b ∈ frs outer, H' b = none) :
    H' a = none ∧ Un (frs outer) [] H (upd H' a (ExcO a C)) h h2 ∧ HOk P w (upd H' a (ExcO a C)) h2 := by
  obtain ⟨oe, vs, hoe, hcl, hd, _⟩ := fl.first
  have nfr : a ∉ frs outer := fun z => by
    obtain ⟨_, o', e2, nf⟩ := fl.2.2.1.mem z
    rw [hoe] at e2
    cases e2
    exact nf vs hd
  have nB := fl.2.1
  have na : H' a = none := by
    cases e : H' a with
    | none => rfl
    | some u =>
      have := F.cov a oe hoe nfr (.inl (by rw [e]; exact fun z => nomatch z))
      rw [nB] at this
      cases this
  have nh : ∀ o, h.get? a ≠ some o := fun o q => by
    have := F.cov a oe hoe nfr (.inr ⟨o, q⟩)
    rw [nB] at this
    cases this
  refine ⟨na, ⟨F.un.keep, F.un.slot, fun b o q n hx => ?_, F.un.there, fun b xs q => ?_, fun b o u q => ?_, fun b ps q => ?_⟩, fun b u e => ?_⟩
  · rw [upd_ne (fun z => nh o (by rw [← z]; exact q))]
    exact F.un.free b o q n hx
  · have := F.un.tups b xs q
    rw [upd_ne (ne_of_none this na)]
    exact this
  · have := F.un.frzs b o u q
    rw [upd_ne (ne_of_none this na)]
    exact this
  · obtain ⟨m, this⟩ := F.un.tbls b ps q
    exact ⟨m, by rw [upd_ne (ne_of_none this na)]; exact this⟩
  · by_cases hb : b = a
    · subst hb
      rw [upd_same] at e
      cases e
      refine ⟨⟨oe, hoe, hcl, by unfold PySem.W.notCls; rw [hd]⟩, ⟨oe, hoe⟩, fun h1 h2 ⟨o, q1, q2⟩ k => ⟨o, k o q1, q2⟩⟩
    · rw [upd_ne hb] at e
      exact (F.hok b u e).stay (fun _ _ _ q => q) (fun c q => by rw [upd_ne (ne_of_none q na)]; exact q) fun c xs q => by rw [upd_ne (ne_of_none q na)]; exact q
theorem sd_try {X : Cx} {K0 : PySem.W.Frag} (hK : X.K = K0) (j : Nat) {n c : Str} {C0 : Addr} {body : List Stmt} {b₀ : Stmt} {suite : List Stmt} {np hpos pos : Pos} {tb : (DE → Addr → Prop) → TDS} {ts : TDS} (hN : X.N.Nodup) (hm : X.mg c = some (.ref C0))
    (hb : ∀ (Γ' : Hp → Prop) (pn : List (Addr × Obj)) (xe : Value → Shared → Prop) (χ : DE → Addr → Prop), XP Γ' (Xtry X pn xe) χ → SDs Γ' (Xtry X pn xe) body (tb χ))
    (hs : ∀ a, SDs Γ (Xhan X a) (b₀ :: suite) ts) (hst : X.stack = X.env :: X.outer := by rfl) (hfr : X.env.frame = some X.env.locals := by rfl) (hcm : X.calm = true := by rfl)
    (hi : X.N[j]? = some n := by rfl) (hk : X.env.scope.names.lookup n = some .local := by rfl) (hg : Gl X c := by rfl) (hdb : (c == ("__debug__" : Str)) = false := by decide) :
    SD Γ X (.Try body [.ExceptHandler (some (.Name c np)) (some n) (b₀ :: suite) hpos] [] [] pos) (sTry K0 C0 j tb ts) := fun H₀ pins s σ H D I h => by
  subst hK
  obtain ⟨ρ, o, R, Z, hZ, k1, k2, k3, k4⟩ := h
  refine wpAny_Try_except ?_
  have hfrm : X.A.frames = some (X.env :: X.outer) := by rw [← hst]; exact I.ok.frames
  have back : ∀ {xe : Value → Shared → Prop} {σ' : St} {H' : Hp} {s' : Shared}, Inv (Xtry X (X.pn ++ pins) xe) [] σ' H' s' → Inv X pins σ' H' s' := fun {xe σ' H' s'} J =>
    inv_re (X := Xtry X (X.pn ++ pins) xe) (A' := X.A) (calm' := X.calm) (pn' := X.pn) (xe' := X.xe) J rfl (fun z => I.ok.hd z) (fun p hp => List.mem_append_left _ hp)
  have go := hb (fun H' => H' = H) (X.pn ++ pins) (fun e s₁ => wpAny (model X.prog X.w) X.A (noteFrame e X.env) (fun _ s₂ => wpAny (model X.prog X.w) X.A (setFlight e none) (fun _ s₃ => wpAny (model X.prog X.w) X.A (handleBy e X.env [.ExceptHandler (some (.Name c np)) (some n) (b₀ :: suite) hpos]) (SP X pins D) X.xe s₃) X.xe s₂) X.xe s₁)
    (fun ρ' C => PySem.W.exmOne X.K (.ref C) (.ref C0) = some true ∧ ts (setS ρ' j (dv (.exc C))) (hanZ j Z)) (fun H₀' hH ρ1 o1 pins' σ1 H1 s1 e s' J R1 hc => ?_) ⟨H, rfl⟩ [] s σ H D
    (inv_re (A' := X.A) (calm' := X.calm) (pn' := X.pn ++ pins) I rfl (fun z => I.ok.hd z) (fun p hp => by rwa [List.append_nil] at hp))
    ⟨frzE ρ, [], R.frz, Z, hZ, fun ρ' σ' H' o' g R' q => k1 ρ' σ' H' o' R'.gr (R'.unfrz R.same) q, fun ρ' σ' H' o' g R' q => k2 ρ' σ' H' o' R'.gr (R'.unfrz R.same) q, fun ρ' σ' H' o' g R' q => k3 ρ' σ' H' o' R'.gr (R'.unfrz R.same) q,
      fun v r H' sm rv q => k4 v r H' (R.same.trans sm) (rv.start R.same) q⟩
  · refine wpAny_mono go (fun f s1 hf => ?_) (fun e s1 he => he)
    cases f with
    | next => obtain ⟨σ', H', J, q⟩ := hf; exact pss_nil pins s1 σ' H' D (back J) q
    | brk => obtain ⟨σ', H', J, q⟩ := hf; exact ⟨σ', H', back J, q⟩
    | cont => obtain ⟨σ', H', J, q⟩ := hf; exact ⟨σ', H', back J, q⟩
    | ret u => obtain ⟨v, σ', H', J, rv, q⟩ := hf; exact ⟨v, σ', H', back J, rv, q⟩
  · subst hH
    obtain ⟨a, C, t, H', B, rfl, hos, hbare, F, fl, sm, C', e', hmt, hts⟩ := hc
    cases e'
    have hf : ∀ b ∈ frs X.stack, H' b = none := fun b hb => by
      obtain ⟨_, o, ho, _⟩ := J.stack.mem hb
      exact F.un.free b o ho (J.stkFree b hb) (fun z => nomatch z)
    have fl' : Heap.FlyingW B (X.env :: X.outer) a (.ref C) t s'.heap := by rw [← hst]; exact fl
    refine wpAny_looks_onW hfrm hfr fl' fun h₄ held₄ u₄ => ?_
    refine wpAny_landsW held₄ fun h₅ fl₅ u₅ => ?_
    have F5 : FlyB X.prog X.w X.stack H1 s1.heap H' B h₅ := F.step fl₅.1 (u₄.trans u₅) fl.2.2.1 hf
    have inX : ∀ {H2 : Hp} {hh : Heap}, Un (frs X.stack) [] H1 H2 s1.heap hh → HOk X.prog X.w H2 hh → Inv (Xhan X a) pins σ1 H2 { s' with heap := hh } := fun {H2 hh} un hok => by
      have J5 := J.call' (s' := { s' with heap := hh }) hos un hok hbare (fun b z => absurd z (by simp))
      exact inv_re (X := Xtry X (X.pn ++ pins) _) (A' := X.A.mark (some (.ref a))) (calm' := false) (pn' := X.pn) J5 rfl (fun z => nomatch z) (fun p hp => List.mem_append_left _ hp)
    have J5 := inX F5.un F5.hok
    refine wpAny_handleBy_cons (codeAny_handlers_test (ld_glob (X := Xhan X a) J5 hg hm ?_ hdb)) (by intro q; cases q)
    have LT : PySem.W.Looks (model X.prog X.w) h₅ (typeOf (.ref a)) (.ref C) := by
      obtain ⟨ob, hob, hcls⟩ := fl₅.there
      exact hcls ▸ (PySem.W.Looks.ld hob).andThen .now
    refine (PySem.W.exm_one J5.kIn LT hmt).here ?_
    refine codeAny_handlers_suite_as ?_
    refine lands_againW fl₅ fun h₆ fl₆ u₆ => ?_
    have F6 : FlyB X.prog X.w X.stack H1 s1.heap H' B h₆ := F5.step fl₆.1 u₆ (by rw [hst]; exact fl₅.2.2.1) hf
    obtain ⟨na, un6, ok6⟩ := fly_tracked F6 (by rw [hst]; exact fl₆) hf
    refine store_ok (X := Xhan X a) (i := j) (v := .ref a) (inX un6 ok6) hN hi (.inl hk) rfl (fun s7 I7 => ?_) (.inr hk)
    have sm6 : Same H' (upd H' a (ExcO a C)) := fun b u e => by rw [upd_ne (ne_of_none e na)]; exact e
    have R6 := ((R1.unfrz R.same).to sm).to sm6
    have R7 := R6.setV j (d := .exc C) (v := .ref a) ⟨a, rfl, upd_same, (R1.to sm).ofree na⟩
    have gr : Grow (o.map Prod.snd) (o1.map Prod.snd) H₀' (upd H' a (ExcO a C)) := (R1.gr.trans (Grow.same sm)).trans (Grow.same sm6)
    have suite := hs a H₀ pins s7 _ _ { nx := fun σ2 H2 => D.nx (σ2.set j none) H2, rt := D.rt, bk := fun σ2 H2 => D.bk (σ2.set j none) H2, ct := fun σ2 H2 => D.ct (σ2.set j none) H2 } I7
      ⟨_, o1, R7, hanZ j Z, hts, fun ρ' σ' H2 o' g R' q => k1 _ _ H2 o' (gr.trans g) (R'.clr j) q, fun ρ' σ' H2 o' g R' q => k2 _ _ H2 o' (gr.trans g) (R'.clr j) q, fun ρ' σ' H2 o' g R' q => k3 _ _ H2 o' (gr.trans g) (R'.clr j) q, k4⟩
    have backH : ∀ {σ' : St} {H' : Hp} {s' : Shared}, Inv (Xhan X a) pins σ' H' s' → Inv X pins σ' H' s' := fun {σ' H' s'} J =>
      inv_re (X := Xhan X a) (A' := X.A) (calm' := X.calm) (pn' := X.pn) (xe' := X.xe) J rfl (fun z => I.ok.hd z) (fun p hp => hp)
    refine wpAny_mono suite (fun f s8 hf => ?_) (fun _ _ z => z.elim)
    cases f with
    | next => obtain ⟨σ', H2, J8, q⟩ := hf; exact gone_ok (X := X) (backH J8) hN hi hk fun s9 I9 => ⟨_, H2, I9, q⟩
    | brk => obtain ⟨σ', H2, J8, q⟩ := hf; exact gone_ok (X := X) (backH J8) hN hi hk fun s9 I9 => ⟨_, H2, I9, q⟩
    | cont => obtain ⟨σ', H2, J8, q⟩ := hf; exact gone_ok (X := X) (backH J8) hN hi hk fun s9 I9 => ⟨_, H2, I9, q⟩
    | ret u => obtain ⟨v, σ', H2, J8, rv, q⟩ := hf; exact gone_ok (X := X) (backH J8) hN hi hk fun s9 I9 => ⟨v, _, H2, I9, rv, q⟩
end DL

set_option Elab.async false
set_option linter.all false
set_option maxRecDepth 100000
set_option maxHeartbeats 4000000
namespace DL
open PySem PySem.Spec L2 L3
open PyProof.Rows hiding St
variable {Γ : Hp → Prop}
section
variable {X : Cx} {e : Expr} {te : TD} {pos : Pos}
theorem pe_fmt {t : TE} (h : PE X e t) : PE X (.FormattedValue e (-1) none pos) (fun σ H Q => t σ H fun x H1 => (∃ i, x = .int i ∧ i.natAbs.log2 < 1920 ∧ Q (.str (toString i)) H1) ∨ ∃ z, x = .str z ∧ z.length ≤ sizeLine ∧ Q (.str z) H1) := by
  intro pins s σ H Q I q
  refine FormattedValue_plain (thn (h pins s σ H _ I q) fun v s1 ⟨x, H1, I1, rx, q1⟩ => ?_)
  rcases q1 with ⟨i, rfl, hl, q1⟩ | ⟨z, rfl, hz, q1⟩
  · obtain ⟨t, rfl⟩ := rx
    exact formatField_int_small hl ⟨.str (toString i), H1, I1.tok _, ⟨_, rfl⟩, q1⟩
  · obtain ⟨t, rfl⟩ := rx
    exact formatField_str (fun t' tk => ⟨.str z, H1, I1.tok _, ⟨_, rfl⟩, q1⟩) hz
noncomputable def dFmt (te : TD) : TD := fun ρ φ => te ρ fun r => match r.d with
  | .int i => i.natAbs.log2 < 1920 ∧ φ (dv (.str (toString i)))
  | .str z => z.length ≤ sizeLine ∧ φ (dv (.str z))
  | _ => False
theorem ed_fmt (h : ED Γ X e te) : ED Γ X (.FormattedValue e (-1) none pos) (dFmt te) := fun H₀ => impE (pe_fmt (h H₀)) fun σ H Q q => by
  obtain ⟨ρ, o, R, φ, hφ, k⟩ := q
  refine ⟨ρ, o, R, _, hφ, fun v r H1 s1 rv h1 => ?_⟩
  obtain ⟨kd, d⟩ := r
  cases d with
  | int i => exact .inl ⟨i, rv.view, h1.1, k _ _ H1 s1 (by exact rfl) h1.2⟩
  | str z => exact .inr ⟨z, rv.view, h1.1, k _ _ H1 s1 (by exact rfl) h1.2⟩
  | _ => exact h1.elim
noncomputable def dJoin : List TD → Str → TD
  | [], out => fun ρ φ => φ (dv (.str out))
  | t :: ts, out => fun ρ φ => t ρ fun r => match r.d with
    | .str y => (out ++ y).length ≤ sizeLine ∧ dJoin ts (out ++ y) ρ φ
    | _ => False
theorem join_ok : ∀ {es : List Expr} {ts : List TD}, Paired (ED Γ X) es ts → ∀ (out : Str) (H₀ : {H : Hp // Γ H}) (pins : List (Addr × Obj)) (s : Shared) (σ : St) (H : Hp) (Q : VK), out.length ≤ sizeLine → Inv X pins σ H s → liftE X.K H₀.1 (dJoin ts out) σ H Q →
    wpAny (model X.prog X.w) X.A (joinParts out (evalEach es X.env)) (EP X pins σ Q) X.xe s
  | _, _, .nil, out, H₀, pins, s, σ, H, Q, hz, I, q => by
    obtain ⟨ρ, o, R, φ, hφ, k⟩ := q
    exact joinParts_nil ⟨.str out, H, I.tok _, ⟨_, rfl⟩, k _ (dv (.str out)) H (Same.refl H) (by exact rfl) hφ⟩ hz
  | _, _, .cons (a := e1) (b := t1) (l₁ := es) (l₂ := ts) he r, out, H₀, pins, s, σ, H, Q, hz, I, q => by
    obtain ⟨ρ, o, R, φ, hφ, k⟩ := q
    show wpAny _ _ (joinParts out (eval e1 X.env :: evalEach es X.env)) _ _ s
    have one := he H₀ pins s σ H (fun v H1 => ∃ y, v = .str y ∧ (out ++ y).length ≤ sizeLine ∧ liftE X.K H₀.1 (dJoin ts (out ++ y)) σ H1 Q) I ⟨ρ, o, R, _, hφ, fun v r H1 s1 rv h1 => by
      obtain ⟨kd, d⟩ := r
      cases d with
      | str y => exact ⟨y, rv.view, h1.1, ρ, o, R.to s1, φ, h1.2, fun v r H2 s2 rv2 h2 => k v r H2 (s1.trans s2) (rv2.start s1) h2⟩
      | _ => exact h1.elim⟩
    refine joinParts_cons (thn one fun v s1 hh => ?_)
    obtain ⟨x, H1, I1, rx, y, ex, hy, q1⟩ := hh
    subst ex
    obtain ⟨t, rfl⟩ := rx
    exact ⟨hy, join_ok r _ H₀ pins s1 σ H1 Q hy I1 q1⟩
theorem ed_join {v₁ v₂ : Expr} {rest : List Expr} {ts : List TD} (h : Paired (ED Γ X) (v₁ :: v₂ :: rest) ts) : ED Γ X (.JoinedStr (v₁ :: v₂ :: rest) pos) (dJoin ts Str.empty) := fun H₀ pins s σ H Q I q =>
  JoinedStr_many (join_ok h Str.empty H₀ pins s σ H Q (by decide) I q)
end
end DL

set_option Elab.async false
set_option linter.all false
set_option maxRecDepth 100000
set_option maxHeartbeats 4000000
namespace DL
open PySem PySem.Spec L2 L3
open PyProof.Rows hiding St
noncomputable def codes (n : Int) : List Nat := (PySem.Str.ofString (toString n)).cps.toList
theorem codes_ofString (x : String) : (PySem.Str.ofString x).cps.toList = x.toList.map Char.toNat := by
  exact signs_ofString x
theorem codes_nat (m : Nat) : codes (m : Int) = (Nat.toDigits 10 m).map Char.toNat := by
  unfold codes
  rw [codes_ofString, show toString ((m : Nat) : Int) = m.repr from rfl, Nat.toList_repr]
theorem codes_neg (m : Nat) : codes (Int.negSucc m) = 45 :: (Nat.toDigits 10 (m + 1)).map Char.toNat := by
  unfold codes
  rw [codes_ofString, show toString (Int.negSucc m) = "-" ++ (m + 1).repr from rfl]
  rw [String.toList_append, List.map_append, Nat.toList_repr]
  rfl
theorem digit_range {m c : Nat} (h : c ∈ (Nat.toDigits 10 m).map Char.toNat) : 48 ≤ c ∧ c ≤ 57 := by
  obtain ⟨ch, hc, rfl⟩ := List.mem_map.mp h
  have := Nat.isDigit_of_mem_toDigits (by decide) (by decide) hc
  simp only [Char.isDigit, Bool.and_eq_true, decide_eq_true_eq] at this
  exact ⟨this.1, this.2⟩
end DL

set_option Elab.async false
set_option linter.all false
set_option maxRecDepth 100000
set_option maxHeartbeats 4000000
namespace DL
open PySem PySem.Spec L2 L3
open PyProof.Rows hiding St
variable {Γ : Hp → Prop}
open PySem.Builtin.Int (intBits)
theorem cp10 {j : Int} (h0 : 0 ≤ j) (h1 : j ≤ 1000) : CPow 10 j = True := by
  refine eq_true ⟨h0, by omega, by decide⟩
theorem tenpow_ne {k : Nat} : ((10 : Int) ^ k = 0) = False := by
  refine eq_false ?_
  have : (0 : Int) < 10 ^ k := Int.pow_pos (by decide)
  omega
theorem fd_lit {i j : Int} (h : j ≠ 0) (h1 : j.natAbs ≤ 1000000000000) : FdOk i j = True := eq_true (fdOk (m := 64) h (PySem.intBits_le_iff.mpr (by omega)))
theorem cutD_take (l : List D) (k : Nat) : cutD l none (some (k : Int)) = l.take k := by
  unfold cutD
  rw [HT.sIx_none, HT.sIx_nat, List.drop_zero, Nat.sub_zero]
  rw [List.take_eq_take_iff]
  omega
theorem cutD_drop (l : List D) (k : Nat) : cutD l (some (k : Int)) none = l.drop k := by
  unfold cutD
  rw [HT.sIx_none, HT.sIx_nat]
  by_cases h : k ≤ l.length
  · rw [Nat.min_eq_left h, List.take_of_length_le (by simp)]
  · rw [Nat.min_eq_right (by omega), List.drop_of_length_le (Nat.le_refl _), List.drop_of_length_le (by omega)]
    simp
theorem atI_of {α : Type} {l : List α} {i : Int} {x : α} (h0 : 0 ≤ i) (h : l[i.toNat]? = some x) : atI l i = some x := by
  have := atI_nat h
  rwa [Int.toNat_of_nonneg h0] at this
theorem atI_mod {α : Type} {l : List α} (h : l ≠ []) (x : Int) : ∃ r ∈ l, atI l (x.fmod (l.length : Int)) = some r := by
  have hp : (0 : Int) < (l.length : Int) := by
    have := List.length_pos_iff.mpr h
    omega
  have h0 := Int.fmod_nonneg_of_pos x hp
  have h1 := Int.fmod_lt_of_pos x hp
  have hl : (x.fmod (l.length : Int)).toNat < l.length := by omega
  exact ⟨l[(x.fmod (l.length : Int)).toNat], List.getElem_mem hl, atI_of h0 (by simp [hl])⟩
theorem pick2 {α : Type} (a b : α) (x : Int) : ∃ r, (r = a ∨ r = b) ∧ atI [a, b] (x.fmod 2) = some r := by
  obtain ⟨r, hr, e⟩ := atI_mod (l := [a, b]) (by simp) x
  exact ⟨r, by simpa using hr, e⟩
theorem pick3 {α : Type} (a b c : α) (x : Int) : ∃ r, (r = a ∨ r = b ∨ r = c) ∧ atI [a, b, c] (x.fmod 3) = some r := by
  obtain ⟨r, hr, e⟩ := atI_mod (l := [a, b, c]) (by simp) x
  exact ⟨r, by simpa using hr, e⟩
theorem filterMap_map {α β γ : Type} (l : List α) (m : α → β) (f : β → Option γ) (g : α → γ) (h : ∀ a ∈ l, f (m a) = some (g a)) : (l.map m).filterMap f = l.map g := by
  induction l with
  | nil => rfl
  | cons a l ih =>
    rw [List.map_cons, List.filterMap_cons, h a (List.mem_cons_self ..), List.map_cons, ih fun b hb => h b (List.mem_cons_of_mem _ hb)]
theorem mod_bd (x m : Int) (h : 0 < m) : 0 ≤ x.fmod m ∧ x.fmod m < m := ⟨Int.fmod_nonneg_of_pos x h, Int.fmod_lt_of_pos x h⟩
end DL
namespace DL
open PySem PySem.Spec L2 L3
theorem dComp_at {ti : TID} {n : Nat} {js : List Nat} {g : TGD} {tc : TDb} {te : TD} {ρ : DE} {φ : EV → Prop} (ds : List D) (h : ∀ ψ : List D → Prop, ψ ds → ti ρ ψ) (f : D → Option D) (hl : ds.length ≤ 100000)
    (ht : ∀ d ∈ ds, g d (ρ0 n js ρ) fun ρ' => tc ρ' fun c => (c = true → te ρ' fun r => (match r.k with | .own => False | _ => True) ∧ f d = some r.d) ∧ (c = false → f d = none)) (hφ : φ (df (.lst (ds.filterMap f)))) : dComp ti n js g tc te ρ φ := h _ ⟨f, hl, ht, hφ⟩
theorem rng_get {lo : Int} {n i : Nat} {d : D} (h : (rngD lo n)[i]? = some d) : i < n ∧ d = .int (lo + (i : Int)) := by
  unfold rngD at h
  rw [List.getElem?_map] at h
  cases e : (List.range n)[i]? with
  | none => rw [e] at h; cases h
  | some m =>
    rw [e] at h
    have hi := (List.getElem?_eq_some_iff.mp e).1
    rw [List.length_range] at hi
    rw [List.getElem?_range hi] at e
    cases e
    cases h
    exact ⟨hi, rfl⟩
end DL
namespace DL
open PySem PySem.Spec L2 L3
theorem atI_map {α β : Type} (f : α → β) (l : List α) (i : Int) : atI (l.map f) i = (atI l i).map f := by
  unfold atI
  rw [List.length_map]
  cases ixN l.length i with
  | none => rfl
  | some j => simp
theorem pick2i (a b x : Int) : ∃ r : Int, (r = a ∨ r = b) ∧ atI [D.int a, D.int b] (x.fmod 2) = some (D.int r) := by
  obtain ⟨r, hr, e⟩ := pick2 (D.int a) (D.int b) x
  rcases hr with rfl | rfl
  · exact ⟨a, .inl rfl, e⟩
  · exact ⟨b, .inr rfl, e⟩
theorem pick3i (a b c x : Int) : ∃ r : Int, (r = a ∨ r = b ∨ r = c) ∧ atI [D.int a, D.int b, D.int c] (x.fmod 3) = some (D.int r) := by
  obtain ⟨r, hr, e⟩ := pick3 (D.int a) (D.int b) (D.int c) x
  rcases hr with rfl | rfl | rfl
  · exact ⟨a, .inl rfl, e⟩
  · exact ⟨b, .inr (.inl rfl), e⟩
  · exact ⟨c, .inr (.inr rfl), e⟩
end DL

set_option Elab.async false
set_option linter.all false
set_option maxRecDepth 100000
set_option maxHeartbeats 4000000
namespace DL
open PySem PySem.Spec L2 L3
open PyProof.Rows hiding St
theorem pg_tupK {X : Cx} {K0 : PySem.W.Frag} {es : List Expr} {k : Nat} {t : TGs} {n : Nat} {pos : Pos} (hK : X.K = K0) (hc : X.calm = true) (h : PGs X es t) (hn : (assignEach es X.env).length = n := by rfl) (hst : (assignEach es X.env).findIdx? (·.1) = none := by rfl) : PG X (.Tuple es k pos) (gTup K0 n t) := by
  subst hK
  exact pg_tup hc h hn hst
theorem cls_some {K : PySem.W.Frag} {C : Addr} (hd : PySem.W.hasDictIn K C = true) : (PySem.W.clsIn K C).isSome = true := by
  obtain ⟨cd, hc, _⟩ := PySem.W.any_some hd
  rw [hc]; rfl
theorem kitCls_of {K : PySem.W.Frag} {C C0 : Addr} {b : Bool} (ty : PySem.W.typeIn K (.ref C0) = some (.type "type")) (hd : PySem.W.hasDictIn K C0 = true) (h : PySem.W.subIn K (.ref C) (.ref C0) = some b) : PySem.W.kitCls K (.ref C) (.ref C0) = some b := by
  unfold PySem.W.kitCls
  dsimp only
  rw [if_pos (by rw [cls_some hd, ty]; rfl)]
  exact h
theorem exm_of {K : PySem.W.Frag} {C C0 : Addr} {b : Bool} (hb : PySem.W.subIn K (.ref C0) (.type "BaseException") = some true) (ty : PySem.W.typeIn K (.ref C0) = some (.type "type")) (hd : PySem.W.hasDictIn K C0 = true) (h : PySem.W.subIn K (.ref C) (.ref C0) = some b) : PySem.W.exmOne K (.ref C) (.ref C0) = some b := by
  unfold PySem.W.exmOne
  rw [if_pos (by rw [hb]; rfl)]
  exact kitCls_of ty hd h
theorem kit_self {K : PySem.W.Frag} {C : Addr} : PySem.W.kitOne K (.ref C) (.ref C) = some true := by
  unfold PySem.W.kitOne
  rw [if_pos (beq_self_eq_true _)]
theorem kit_oth {K : PySem.W.Frag} {C C0 : Addr} {b : Bool} (hn : C ≠ C0) (ty : PySem.W.typeIn K (.ref C0) = some (.type "type")) (hd : PySem.W.hasDictIn K C0 = true) (h : PySem.W.subIn K (.ref C) (.ref C0) = some b) : PySem.W.kitOne K (.ref C) (.ref C0) = some b := by
  unfold PySem.W.kitOne
  rw [if_neg (fun z => hn (Value.ref.inj (beq_iff_eq.mp z)))]
  exact kitCls_of ty hd h
/-- the classes of exceptions with ValueError above -/
noncomputable abbrev excV (K : PySem.W.Frag) (C : Addr) : Prop := PySem.W.excIn K C [.type "ValueError", .type "Exception", .type "BaseException", .type "object"] "ValueError.__new__" = true
end DL

set_option Elab.async false
set_option linter.all false
set_option maxRecDepth 100000
set_option maxHeartbeats 4000000
namespace DL
open PySem PySem.Spec L2 L3
open PyProof.Rows hiding St
variable {Γ : Hp → Prop}

noncomputable def zipD (xs ys : List D) : List D := List.zipWith (fun x y => D.tup [x, y]) xs ys
/-- a sequence as it is walked -/
noncomputable def seqD : D → Option (List D)
  | .lst ds => some ds
  | .tup ds => some ds
  | .scr ns => some (ns.map D.int)
  | _ => none
theorem seqD_lst {ds : List D} : seqD (.lst ds) = some ds := rfl
theorem seqD_tup {ds : List D} : seqD (.tup ds) = some ds := rfl
theorem seqD_scr {ns : List Int} : seqD (.scr ns) = some (ns.map D.int) := rfl
/-- at l, of kind b, stand ds -/
noncomputable def SeqP (b : Bool) (K : PySem.W.Frag) (H : Hp) (O : List Addr) (l : Addr) (d : D) : Prop := match d with
  | .lst ds => b = false ∧ ∃ xs, H l = some (.lst xs) ∧ l ∉ O ∧ Reps K H O ds xs
  | .tup ds => b = true ∧ ∃ xs, SqT K H l xs ∧ Reps K H O ds xs
  | .scr ns => b = false ∧ Scr K H l ns
  | _ => False
theorem SeqP.of {K : PySem.W.Frag} {H : Hp} {O : List Addr} {d : D} {v : V} {ds : List D} (h : Rep K H O d v) (e : seqD d = some ds) : ∃ b l, v = .ref l ∧ SeqP b K H O l d := by
  cases d with
  | lst es => obtain ⟨a, xs, rfl, q, n, r⟩ := h; exact ⟨false, a, rfl, rfl, xs, q, n, r⟩
  | tup es => obtain ⟨a, xs, rfl, q, r⟩ := h; exact ⟨true, a, rfl, rfl, xs, q.1, r⟩
  | scr ns => obtain ⟨a, rfl, q⟩ := h; exact ⟨false, a, rfl, rfl, q⟩
  | _ => cases e
theorem SeqP.grow {b : Bool} {K : PySem.W.Frag} {H H' : Hp} {O O' : List Addr} {l : Addr} {d : D} (h : SeqP b K H O l d) (g : Grow O O' H H') : SeqP b K H' O' l d := by
  cases d with
  | lst es => obtain ⟨rfl, xs, q, n, r⟩ := h; exact ⟨rfl, xs, (g.keep _ _ q n).1, (g.keep _ _ q n).2, Reps.grow g _ _ r⟩
  | tup es => obtain ⟨rfl, xs, q, r⟩ := h; exact ⟨rfl, xs, sqT_grow g q, Reps.grow g _ _ r⟩
  | scr ns => obtain ⟨rfl, q⟩ := h; exact ⟨rfl, scr_grow g q⟩
  | _ => exact h.elim
section
variable {X : Cx} {pins : List (Addr × Obj)} {σ : St} {H : Hp} {s : Shared}
noncomputable def iZ (t : TDs) : TID := fun ρ φ => t ρ fun rs => match rs with
  | [⟨k1, d1⟩, ⟨k2, d2⟩] => (match k1 with | .own => False | _ => True) ∧ (match k2 with | .own => False | _ => True) ∧ match seqD d1, seqD d2 with
    | some xs, some ys => φ (zipD xs ys)
    | _, _ => False
  | _ => False
/-- the numbers of a list -/
noncomputable def intsD : List D → Option (List Int)
  | [] => some []
  | .int n :: r => (intsD r).map (n :: ·)
  | _ :: _ => none
theorem intsD_map : ∀ (ns : List Int), intsD (ns.map D.int) = some ns
  | [] => rfl
  | n :: ns => by rw [List.map_cons, intsD, intsD_map ns]; rfl
noncomputable def sSum : FT := fun ds φ => match ds with
  | [.lst l] => match intsD l with
    | some ns => φ (dv (.int ns.sum))
    | none => False
  | _ => False
end

noncomputable def frzS : DE → Nat → DE
  | [], _ => []
  | x :: r, 0 => x.map (fun r => dv r.d) :: r
  | x :: r, i + 1 => x :: frzS r i
noncomputable def sFrz (i : Nat) (t : TDS) : TDS := fun ρ Z => t (frzS ρ i) Z
end DL

set_option Elab.async false
set_option linter.all false
set_option maxRecDepth 100000
set_option maxHeartbeats 8000000
namespace L3
open PySem PySem.Spec PyProof.Rows
section
variable {P : Program} {w : World} {A : Around} {E : Value → Shared → Prop} {s : Shared}
theorem SqAt.push {b : Bool} {h : Heap} {l : Addr} {xs : Array Value} (x : SqAt b h l xs) (o : Obj) : SqAt b (h.push o) l xs := x.at fun _ e => Heap.get?_push_of_some _ e
end
end L3

set_option Elab.async false
set_option linter.all false
set_option maxRecDepth 100000
set_option maxHeartbeats 8000000
namespace L3
open PySem PySem.Spec L2
open PyProof.Rows hiding St
end L3
namespace DL
open PySem PySem.Spec L2 L3
open PyProof.Rows hiding St
variable {Γ : Hp → Prop}
section
variable {X : Cx} {pins : List (Addr × Obj)} {σ : St} {H : Hp} {s : Shared}
end
end DL

set_option Elab.async false
set_option linter.all false
set_option maxRecDepth 100000
set_option maxHeartbeats 4000000
namespace DL
open PySem PySem.Spec L2 L3
open PyProof.Rows hiding St
variable {Γ : Hp → Prop}
section
variable {X : Cx} {p np pos : Pos} {e : Expr} {te : TD} {c : Str} {T : String}
theorem pe_typ (hm : X.mg c = none) (hv : bootBuiltins c = some (.type T)) (hg : Gl X c := by rfl) (hn : c ≠ "__name__" := by decide) (hd : (c == ("__debug__" : Str)) = false := by decide) : PE X (.Name c np) (fun σ H Q => Q (.ty T) H) := fun pins s σ H Q I h => ld_blt I hg hm hv ⟨.ty T, H, I, rfl, h⟩ hn hd
theorem ed_isexcB {K0 : PySem.W.Frag} (hK : X.K = K0) (hi : X.mg "isinstance" = none) (hc : X.mg c = none) (hv : bootBuiltins c = some (.type T)) (he : ED Γ X e te) (hg : Gl X "isinstance" := by rfl) (hg2 : Gl X c := by rfl) (hn : c ≠ "__name__" := by decide) (hd : (c == ("__debug__" : Str)) = false := by decide)
    (hs : starEach [e, .Name c np] X.env = (false, eval e X.env) :: starEach [.Name c np] X.env := by rfl) (hpl : (backTo pos (starEach [.Name c np] X.env)).any (·.1) = false := by rfl) : ED Γ X (.Call (.Name "isinstance" p) [e, .Name c np] [] pos) (dIsE K0 (.type T) te) := fun H₀ => by
  subst hK
  exact impE (pe_callB call_isE hg hi boot_isinstance' (pa_cons (he H₀) (pa_cons (pe_typ hc hv hg2 hn hd) pa_nil) hs) (by decide) (by decide) hs hpl) (lift_isE (y := .ty T) (fun u h => h) fun σ H Q q => by
    obtain ⟨ρ, o, R, φ, hφ, kk⟩ := q
    exact ⟨ρ, o, R, φ, hφ, kk⟩)
end
end DL

set_option Elab.async false
set_option linter.all false
set_option maxRecDepth 100000
set_option maxHeartbeats 4000000
namespace DL
open PySem PySem.Spec L2 L3
open PyProof.Rows hiding St
variable {Γ : Hp → Prop}
section
variable {X : Cx} {x : Str} {e ke : Expr} {te tk : TD} {np pos pos' : Pos}
end
end DL

set_option Elab.async false
set_option linter.all false
set_option maxRecDepth 100000
set_option maxHeartbeats 4000000
namespace DL
open PySem PySem.Spec L2 L3
open PyProof.Rows hiding St
variable {Γ : Hp → Prop}
noncomputable def blsD : List D → Option (List Bool)
  | [] => some []
  | .bl b :: r => (blsD r).map (b :: ·)
  | _ :: _ => none
theorem blsD_of : ∀ {ds : List D} {bs : List Bool}, blsD ds = some bs → ds = bs.map D.bl
  | [], bs, h => by cases h; rfl
  | d :: r, bs, h => by
    cases d with
    | bl n =>
      cases e : blsD r with
      | none => unfold blsD at h; rw [e] at h; cases h
      | some ms =>
        unfold blsD at h
        rw [e] at h
        cases h
        rw [blsD_of e]
        rfl
    | _ => cases h
theorem blsD_map : ∀ (bs : List Bool), blsD (bs.map D.bl) = some bs
  | [] => rfl
  | b :: bs => by rw [List.map_cons, blsD, blsD_map bs]; rfl
theorem reps_bls {K : PySem.W.Frag} {H : Hp} {O : List Addr} : ∀ {bs : List Bool} {xs : List V}, Reps K H O (bs.map D.bl) xs → xs = bs.map V.bl
  | [], _, h => h
  | n :: bs, xs, h => by
    obtain ⟨v, r, rfl, q, t⟩ := h
    rw [reps_bls t]
    cases (show v = _ from q)
    rfl
section
variable {X : Cx} {e : Expr} {es : List Expr} {t : TDs} {p pos : Pos}
noncomputable def sAllL (g : List Bool → Bool) : FT := fun ds φ => match ds with
  | [.lst l] => match blsD l with
    | some bs => φ (dv (.bl (g bs)))
    | none => False
  | _ => False
theorem link_all {f : List V → Bool} {g : List Bool → Bool} (hf : ∀ bs : List Bool, f (bs.map V.bl) = g bs) : LinkC X.K (rAll X.K f) (sAllL g) := by
  intro H O ds vs φ Q ho hv h k
  unfold sAllL at h
  split at h
  · rename_i l
    split at h
    · rename_i bs en
      obtain ⟨v, ws, rfl, ⟨a, xs, rfl, q, r⟩, rfl⟩ := hv
      have el := blsD_of en
      subst el
      have := reps_bls r
      subst this
      refine ⟨a, _, rfl, .inl (SqL.of q), fun y hy => ?_, ?_⟩
      · obtain ⟨b, _, rfl⟩ := List.mem_map.mp hy
        rfl
      · rw [hf]
        exact k _ _ H (Same.refl H) (by exact rfl) h
    · exact h.elim
  · exact h.elim
theorem ed_allC (hm : X.mg "all" = none) (ha : EA Γ X (e :: es) t) (hc : X.calm = true := by rfl) (hg : Gl X "all" := by rfl) (he : starEach (e :: es) X.env = (false, eval e X.env) :: starEach es X.env := by rfl) (hpl : (backTo pos (starEach es X.env)).any (·.1) = false := by rfl) : ED Γ X (.Call (.Name "all" p) (e :: es) [] pos) (dCB (sAllL fun bs => bs.all id) t) :=
  ed_callB (call_all_seq hc) (link_all fun bs => by
    induction bs with
    | nil => rfl
    | cons b bs ih => rw [List.map_cons, List.all_cons, List.all_cons, ih]; cases b <;> rfl) hm (by kernel_rfl) ha hg (by decide) (by decide) he hpl
end
end DL

set_option Elab.async false
set_option linter.all false
set_option maxRecDepth 100000
set_option maxHeartbeats 4000000
namespace HT
open PySem PyProof.Rows
section
variable {prog : Program} {w : World} {A : Around} {E : Value → Shared → Prop} {s : Shared}
end
end HT
namespace L2
open PySem PySem.Spec PyProof.Rows
section
variable {X : Cx}
end
end L2

set_option Elab.async false
set_option linter.all false
set_option maxRecDepth 100000
set_option maxHeartbeats 4000000
namespace DL
open PySem PySem.Spec L2 L3
open PyProof.Rows hiding St
variable {Γ : Hp → Prop}
theorem RV.anew {K : PySem.W.Frag} {H0 H : Hp} {O : List Addr} {r : EV} {v : V} (h : RV K H0 H O r v) (p : pureEV r) : RepN K H (fun a => a ∉ O ∧ H0 a = none) r.d v := by
  obtain ⟨k, d⟩ := r
  cases k with
  | val => exact Rep.toN _ _ p h
  | own => exact p.elim
  | new => exact h
  | fre =>
    obtain ⟨a, rfl, m, n, c⟩ := h
    cases d with
    | lst ds => obtain ⟨xs, q, r⟩ := c; exact ⟨a, xs, rfl, q, ⟨n, m⟩, Reps.toN _ _ p r⟩
    | dk ks ds => obtain ⟨xs, q, l, nd, r⟩ := c; exact ⟨a, xs, rfl, q, ⟨n, m⟩, l, nd, Reps.toN _ _ p r⟩
    | dt ks ds => obtain ⟨xs, q, l, nd, r⟩ := c; exact ⟨a, xs, rfl, q, ⟨n, m⟩, l, nd, Reps.toN _ _ p r⟩
    | _ => exact c.elim
noncomputable def pureEVs : List EV → Prop
  | [] => True
  | r :: rs => pureEV r ∧ pureEVs rs
theorem RVs.anew {K : PySem.W.Frag} {H0 H : Hp} {O : List Addr} : ∀ {rs : List EV} {vs : List V}, RVs K H0 H O rs vs → pureEVs rs → RepNs K H (fun a => a ∉ O ∧ H0 a = none) (rs.map EV.d) vs
  | [], _, h, _ => h
  | r :: rs, vs, h, p => by
    obtain ⟨v, ws, e, h1, t⟩ := h
    exact ⟨v, ws, e, h1.anew p.1, RVs.anew t p.2⟩
theorem RVs.get {K : PySem.W.Frag} {H0 H : Hp} {O : List Addr} : ∀ {rs : List EV} {vs : List V} {i : Nat} {r : EV}, RVs K H0 H O rs vs → rs[i]? = some r → ∃ v, vs[i]? = some v ∧ RV K H0 H O r v
  | [], _, _, _, _, e => by simp at e
  | r :: rs, vs, 0, r', h, e => by
    obtain ⟨v, ws, rfl, q, _⟩ := h
    simp at e
    subst e
    exact ⟨v, rfl, q⟩
  | r :: rs, vs, i + 1, r', h, e => by
    obtain ⟨v, ws, rfl, _, t⟩ := h
    obtain ⟨v', e', q'⟩ := RVs.get (i := i) t (by simpa using e)
    exact ⟨v', by simpa using e', q'⟩
theorem atI_rvs {K : PySem.W.Frag} {H0 H : Hp} {O : List Addr} {rs : List EV} {vs : List V} {i : Int} {r : EV} (h : RVs K H0 H O rs vs) (e : atI rs i = some r) : ∃ v, atI vs i = some v ∧ RV K H0 H O r v := by
  unfold atI at e ⊢
  rw [h.length]
  cases e' : ixN rs.length i with
  | none => rw [e'] at e; cases e
  | some j =>
    rw [e'] at e
    exact h.get e
section
variable {X : Cx} {a b e ix : Expr} {es : List Expr} {t : TDs} {ta tb te tk : TD} {pos : Pos}
noncomputable def dTupN (t : TDs) : TD := fun ρ φ => t ρ fun rs => pureEVs rs ∧ Nat.ble rs.length 1000 = true ∧ φ ⟨.new, .tup (rs.map EV.d)⟩
theorem ed_tupN {x1} (h : EA Γ X es t) : ED Γ X (.Tuple es x1 pos) (dTupN t) := fun H₀ => impE (pe_tup (h H₀)) fun σ H Q q => by
  obtain ⟨ρ, o, R, φ, hφ, k⟩ := q
  refine ⟨ρ, o, R, _, hφ, fun vs rs H1 s1 rvs h1 => ⟨by rw [rvs.length]; exact le_line h1.2.1, fun p hp => ?_⟩⟩
  refine k _ ⟨.new, .tup (rs.map EV.d)⟩ _ (s1.trans (same_new hp _)) ⟨p, vs, rfl, ⟨SqT.of upd_same, upd_same⟩, RepNs.to (same_new hp _) (fun _ z => z) _ _ (rvs.anew h1.1)⟩ h1.2.2
/-- t + u: new, where both are -/
noncomputable def dAddN (ta tb : TD) : TD := fun ρ φ => ta ρ fun x => tb ρ fun y => match x.d, y.d with
  | .tup p, .tup q => pureEV x ∧ pureEV y ∧ p.length + q.length ≤ sizeLine ∧ φ ⟨.new, .tup (p ++ q)⟩
  | _, _ => False
/-- t[lo:hi], the whole or not -/
noncomputable def dSlT (te : TD) (tl th : TDo) : TD := fun ρ φ => te ρ fun x => tl ρ fun l => th ρ fun u => match x.d with
  | .tup ds => φ (dv (.tup (cutD ds l u)))
  | _ => False
/-- [a, b, ..][i]: the thing with all that is known of it -/
noncomputable def dPick (t : TDs) (tk : TD) : TD := fun ρ φ => t ρ fun rs => Nat.ble rs.length 1000 = true ∧ tk ρ fun kr => match kr.d with
  | .int k => match atI rs k with
    | some r => φ r
    | none => False
  | _ => False
theorem ed_pick {lp : Pos} (h : EA Γ X es t) (hk : ED Γ X ix tk) (hs : PlainIx ix := by intro _ _; rfl) : ED Γ X (.Subscript (.List es lp) ix pos) (dPick t tk) := fun H₀ => impE (pe_ix ix_seq (pe_lst (h H₀)) (hk H₀) hs) fun σ H Q q => by
  obtain ⟨ρ, o, R, φ, hφ, k⟩ := q
  refine ⟨ρ, o, R, _, hφ, fun vs rs H1 s1 rvs h1 => ⟨by rw [rvs.length]; exact le_line h1.1, fun p hp => ?_⟩⟩
  have s2 := same_new hp (.lst vs)
  refine ⟨ρ, o, R.to (s1.trans s2), _, h1.2, fun v r H3 s3 rv h3 => ?_⟩
  have vw := rv.view
  split at h3
  · rename_i n en
    rw [en] at vw
    cases (show v = _ from vw)
    split at h3
    · rename_i r' er
      obtain ⟨v', ev, rv'⟩ := atI_rvs rvs er
      exact .inl ⟨p, vs, n, v', rfl, rfl, SqL.of (s3 _ _ upd_same), ev, k v' r' H3 (s1.trans (s2.trans s3)) (rv'.same (s2.trans s3)) h3⟩
    · exact h3.elim
  · exact h3.elim
/-- x = [a, b, ..]; return x[i] -/
noncomputable def sLP (i : Nat) (t : TDs) (tk : TD) : TDS := fun ρ Z => t ρ fun rs => solidB rs = true ∧ Nat.ble rs.length 1000 = true ∧ slot (setS ρ i (dO (.lst (rs.map EV.d)))) i = some (dO (.lst (rs.map EV.d))) ∧ tk (setS ρ i (dO (.lst (rs.map EV.d)))) fun kr => match kr.d with
  | .int k => match atI rs k with
    | some r => Z.rt r.ret
    | none => False
  | _ => False
noncomputable def popD (ds : List D) : Option (List D × D) := match ds.getLast? with
  | some d => some (ds.dropLast, d)
  | none => none
theorem popD_app (ds : List D) (d : D) : popD (ds ++ [d]) = some (ds, d) := by
  unfold popD
  simp
theorem popD_of {ds ds' : List D} {d : D} (h : popD ds = some (ds', d)) : ds = ds' ++ [d] := by
  unfold popD at h
  split at h
  · rename_i x e
    cases h
    obtain ⟨y, hy⟩ := List.getLast?_eq_some_iff.mp e
    rw [hy]
    simp
  · cases h
theorem reps_pop {K : PySem.W.Frag} {H : Hp} {O : List Addr} {ds ds' : List D} {d : D} {xs : List V} (r : Reps K H O ds xs) (h : popD ds = some (ds', d)) : ∃ y, xs[xs.length - 1]? = some y ∧ Rep K H O d y ∧ Reps K H O ds' xs.dropLast := by
  have e := popD_of h
  subst e
  have l := r.length
  rw [List.length_append] at l
  obtain ⟨y, ey, hy⟩ := r.get (i := ds'.length) (d := d) (by simp)
  refine ⟨y, by rw [l]; simpa using ey, hy, ?_⟩
  have := r.dropLast
  simpa using this
/-- x = xs.pop() -/
noncomputable def sPop (i j : Nat) : TDS := fun ρ Z => match slot ρ i with
  | some ⟨.own, .lst ds⟩ => match popD ds with
    | some (ds', d) => Z.nx (setS (setS ρ i (dO (.lst ds'))) j (dv d))
    | none => False
  | _ => False
theorem sd_pop (i j : Nat) {x y : Str} {np apos cpos pos' : Pos} (hN : X.N.Nodup) (hi : X.N[i]? = some x := by rfl) (hj : X.N[j]? = some y := by rfl) (hy : Loc X.env.scope y := by first | exact Or.inl rfl | exact Or.inr rfl) (hv : Vis X.env.scope x := by first | exact Or.inl rfl | exact Or.inr (Or.inl rfl) | exact Or.inr (Or.inr rfl))
    (hd : (x == ("__debug__" : Str)) = false := by decide) (hcd : (x == ("__classdict__" : Str)) = false := by decide)
    (hp : ∀ {ta : TE}, X.N.Nodup → PE X (.Name x np) ta → PS X (.Assign [.Name y pos'] (.Call (.Attribute (.Name x np) "pop" apos) [] [] cpos) pos) (tAsg (tBM0 X.K "list" rPop ta) (gName j)) := by
      intro ta hN h1
      exact ps_set hN rfl (by first | exact Or.inl rfl | exact Or.inr rfl) (pe_bm0 PySem.F.plainAttrs_list PySem.F.slot_list_pop PySem.F.type_list_pop mt_pop h1)) :
    SD Γ X (.Assign [.Name y pos'] (.Call (.Attribute (.Name x np) "pop" apos) [] [] cpos) pos) (sPop i j) := fun H₀ => impS (hp hN (pe_var hi hv hd hcd)) fun D σ H h => by
  obtain ⟨ρ, o, R, Z, hZ, k1, k2, k3, k4⟩ := h
  unfold sPop at hZ
  split at hZ
  · rename_i ds es
    obtain ⟨v0, ev0, q0⟩ := R.slots i _ (slot_eq es)
    rcases q0 with ⟨k, _⟩ | ⟨_, a, rfl, m, c⟩
    · cases k
    obtain ⟨xs, hx, rx⟩ := c
    split at hZ
    · rename_i ds' d ep
      obtain ⟨yv, ey, hyv, rd⟩ := reps_pop rx ep
      obtain ⟨R2, g2⟩ := R.chg (d' := .lst ds') (ho := .lst xs.dropLast) (slot_eq es) ev0 m ⟨fun _ z => (by cases z), fun _ _ z => (by cases z)⟩ fun gr => ⟨xs.dropLast, upd_same, gr _ _ rd⟩
      refine ⟨.ref a, ev0, .inl ⟨rfl, xs, SqL.of hx⟩, a, xs, yv, rfl, rfl, hx, ey, ?_⟩
      exact k1 _ _ _ o g2 (R2.setV j (Rep.grow g2 _ _ hyv)) hZ
    · exact hZ.elim
  · exact hZ.elim
/-- xs.append((xs.pop(), b, ..)) -/
noncomputable def sAppPop (i : Nat) (t : TDs) : TDS := fun ρ Z => match slot ρ i with
  | some ⟨.own, .lst ds⟩ => match popD ds with
    | some (ds', d) => t (setS ρ i (dO (.lst ds'))) fun rs => solidB rs = true ∧ Nat.ble rs.length 100 = true ∧ ds'.length ≤ 100000 ∧ slot (setS ρ i (dO (.lst ds'))) i = some (dO (.lst ds')) ∧ Z.nx (setS (setS ρ i (dO (.lst ds'))) i (dO (.lst (ds' ++ [.tup (d :: rs.map EV.d)]))))
    | none => False
  | _ => False
/-- xs.extend([a, ..]) -/
noncomputable def sExt (i : Nat) (t : TDs) : TDS := fun ρ Z => match slot ρ i with
  | some ⟨.own, .lst ds⟩ => t ρ fun rs => solidB rs = true ∧ Nat.ble rs.length 1000 = true ∧ ds.length ≤ 100000 ∧ Z.nx (setS ρ i (dO (.lst (ds ++ rs.map EV.d))))
  | _ => False
/-- n += e -/
noncomputable def sAug (i : Nat) (te : TD) : TDS := fun ρ Z => match slot ρ i with
  | some ⟨.val, .int a⟩ => te ρ fun r => match r.d with
    | .int b => Z.nx (setS ρ i (dv (.int (a + b))))
    | _ => False
  | _ => False
noncomputable def sIsB : D → D → (EV → Prop) → Prop := fun x y φ => match x, y with
  | .bl c, .bl d => φ (dv (.bl (c == d)))
  | _, _ => False
noncomputable def sIsNotB : D → D → (EV → Prop) → Prop := fun x y φ => match x, y with
  | .bl c, .bl d => φ (dv (.bl (c != d)))
  | _, _ => False
end
end DL

set_option Elab.async false
set_option linter.all false
set_option maxRecDepth 100000
set_option maxHeartbeats 4000000
namespace DL
open PySem PySem.Spec L2 L3
open PyProof.Rows hiding St
variable {Γ : Hp → Prop}
section
variable {X : Cx} {p np pos tpos : Pos} {e : Expr} {te : TD} {c : Str} {C0 : Addr} {es : List Expr} {Cs : List Addr}
noncomputable def dIsET (K : PySem.W.Frag) (zs : List Addr) (te : TD) : TD := fun ρ φ => te ρ fun r => match r.d with
  | .exc C => ∃ b, PySem.W.kitAny K (.ref C) (zs.map Value.ref) = some b ∧ ExcIn K C ∧ zs.length ≤ 1000 ∧ φ (dv (.bl b))
  | _ => False
end
end DL

set_option Elab.async false
set_option linter.all false
set_option maxRecDepth 100000
set_option maxHeartbeats 4000000
namespace DL
open PySem PySem.Spec L2 L3
open PyProof.Rows hiding St
noncomputable def g1 (g : D → (EV → Prop) → Prop) : FT := fun ds φ => match ds with
  | [d] => g d φ
  | _ => False
noncomputable def g2 (g : D → D → (EV → Prop) → Prop) : FT := fun ds φ => match ds with
  | [d, e] => g d e φ
  | _ => False
noncomputable def g3 (g : D → D → D → (EV → Prop) → Prop) : FT := fun ds φ => match ds with
  | [d, e, f] => g d e f φ
  | _ => False
theorem f1_of {g : D → (EV → Prop) → Prop} {ds : List D} {φ : EV → Prop} (h : g1 g ds φ) : ∃ d, ds = [d] ∧ g d φ := by
  unfold g1 at h
  split at h
  · exact ⟨_, rfl, h⟩
  · exact h.elim
theorem f2_of {g : D → D → (EV → Prop) → Prop} {ds : List D} {φ : EV → Prop} (h : g2 g ds φ) : ∃ d e, ds = [d, e] ∧ g d e φ := by
  unfold g2 at h
  split at h
  · exact ⟨_, _, rfl, h⟩
  · exact h.elim
theorem f3_of {g : D → D → D → (EV → Prop) → Prop} {ds : List D} {φ : EV → Prop} (h : g3 g ds φ) : ∃ d e f, ds = [d, e, f] ∧ g d e f φ := by
  unfold g3 at h
  split at h
  · exact ⟨_, _, _, rfl, h⟩
  · exact h.elim
theorem cut_seq {t u : TDS} {ρ : DE} {Z : DZ} (J : DE → Prop) (h1 : t ρ { Z with nx := J }) (h2 : ∀ ρ2, J ρ2 → u ρ2 Z) : sSeq (sCut t) u ρ Z := ⟨J, h1, h2⟩
theorem boot_ValueError' : bootBuiltins "ValueError" = some (.type "ValueError") := by decide +kernel
theorem meta_ValueError : PySem.W.kitMeta "ValueError" = true := by decide +kernel
theorem kit_typ {K : PySem.W.Frag} {C : Addr} {T : String} {b : Bool} (hm : PySem.W.kitMeta T = true) (h : PySem.W.subIn K (.ref C) (.type T) = some b) : PySem.W.kitOne K (.ref C) (.type T) = some b := by
  unfold PySem.W.kitOne
  rw [if_neg (fun z => by cases beq_iff_eq.mp z)]
  unfold PySem.W.kitCls
  dsimp only
  rw [if_pos hm]
  exact h
end DL

set_option Elab.async false
set_option linter.all false
set_option maxRecDepth 100000
set_option maxHeartbeats 4000000
namespace L2
open PySem PySem.Spec PyProof.Rows
/-- a dict whose keys are texts -/
noncomputable def StrD (h : Heap) (a : Addr) (kvs : List (Str × Value)) : Prop :=
  ∃ o es ep, h.get? a = some o ∧ o.cls = .type "dict" ∧ o.data = .dict es ep ∧ es.size = kvs.length ∧ (∀ (i : Nat) (e : DictEntry), es[i]? = some e → ∃ k v t, kvs[i]? = some (k, v) ∧ e.key = .str k t ∧ e.val = v) ∧ (kvs.map (·.1)).Nodup
section
variable {prog : Program} {w : World} {A : Around} {E : Value → Shared → Prop} {s : Shared}
theorem StrD.typeIs {a : Addr} {kvs : List (Str × Value)} (h : StrD s.heap a kvs) : s.TypeIs (.ref a) "dict" := by
  obtain ⟨o, es, ep, g, c, _⟩ := h
  exact ⟨o, g, c⟩
end
end L2

set_option Elab.async false
set_option linter.all false
set_option maxRecDepth 100000
set_option maxHeartbeats 4000000
namespace DL
open PySem PySem.Spec L2 L3
open PyProof.Rows hiding St
variable {Γ : Hp → Prop}
/-- a dict of ints, its keys texts -/
noncomputable def intDk (d : D) : Prop := ∃ (ks : List Str) (ns : List Int), d = .dk (ks.map Sum.inr) (ns.map D.int)
section
variable {X : Cx} {pins : List (Addr × Obj)} {σ : St} {H : Hp} {s : Shared}
/-- a thing that may be told equal to itself -/
noncomputable def okS (d : D) : Prop := okD 39 d ∨ intDk d
end
section
variable {X : Cx} {a b : Expr} {ta tb : TD} {pos : Pos}
end
end DL

set_option Elab.async false
set_option linter.all false
set_option maxRecDepth 100000
set_option maxHeartbeats 4000000
namespace L2
open PySem PySem.Spec PyProof.Rows
section
variable {X : Cx} {tg : Expr}
end
end L2
namespace DL
open PySem PySem.Spec L2 L3
open PyProof.Rows hiding St
variable {Γ : Hp → Prop}
section
variable {X : Cx} {a b e : Expr} {es : List Expr} {t : TDs} {ta tb te : TD} {p pos : Pos} {tg : Expr}
noncomputable def sDictC : FT := fun ds φ => match ds with
  | [.dk ks l] => φ (df (.dk ks l))
  | _ => False
noncomputable def sLenD : FT := fun ds φ => match ds with
  | [.dk ks l] => φ (dv (.int ks.length))
  | _ => False
end
end DL

set_option Elab.async false
set_option linter.all false
set_option maxRecDepth 100000
set_option maxHeartbeats 4000000
namespace DL
open PySem PySem.Spec L2 L3
open PyProof.Rows hiding St
variable {Γ : Hp → Prop}
section
variable {X : Cx} {es : List Expr} {t : TDs} {tpos pos : Pos}
noncomputable def pureRs : List EV → Prop
  | [] => True
  | r :: rs => pureEV r.ret ∧ pureRs rs
noncomputable def sRetT (t : TDs) : TDS := fun ρ Z => t ρ fun rs => pureRs rs ∧ Nat.ble rs.length 1000 = true ∧ Z.rt ⟨.new, .tup (rs.map EV.d)⟩
end
end DL

set_option Elab.async false
set_option linter.all false
set_option maxRecDepth 100000
set_option maxHeartbeats 4000000
namespace DL
open PySem PySem.Spec L2 L3
open PyProof.Rows hiding St
section
variable {K : PySem.W.Frag} {H₀ H : Hp} {σ : St} {ρ : DE} {o : List (Nat × Addr)}
end
section
variable {Γ : Hp → Prop} {X : Cx} {st : Stmt} {rest : List Stmt} {t u : TDS} {e ke : Expr} {te tk : TD} {pos : Pos}
end
end DL

set_option Elab.async false
set_option linter.all false
set_option maxRecDepth 100000
set_option maxHeartbeats 4000000
namespace DL
open PySem PySem.Spec L2 L3
open PyProof.Rows hiding St
section
variable {P : Program} {w : World} {K : PySem.W.Frag} {mg : Str → Option Value} {base : Heap}
end
end DL

set_option Elab.async false
set_option linter.all false
set_option maxRecDepth 100000
set_option maxHeartbeats 4000000
namespace L2
open PySem PySem.Spec PyProof.Rows
section
variable {prog : Program} {w : World} {A : Around} {R : Result → Shared → Prop} {I : Addr} {fp wr : List Addr} {n : Nat} {P : Nat → Value → Prop} {St : Nat → Heap → Prop} {kw : List (Str × Value)}
end
section
variable {prog : Program} {w : World} {A : Around} {E : Value → Shared → Prop} {s : Shared} {l : Addr} {xs : Array (Int × Tok)}
end
section
variable {X : Cx}
noncomputable def maxI : Int → List Int → Int
  | d, [] => d
  | _, n :: ns => ns.foldl max n
end
end L2
namespace DL
open PySem PySem.Spec L2 L3
open PyProof.Rows hiding St
variable {Γ : Hp → Prop}
section
variable {X : Cx} {e de : Expr} {es : List Expr} {t : TDs} {te td : TD} {p kp pos : Pos}
noncomputable def sMax : FT := fun ds φ => match ds with
  | [.lst l] => match intsD l with
    | some ns => ns ≠ [] ∧ φ (dv (.int (maxI 0 ns)))
    | none => False
  | _ => False
end
end DL

set_option Elab.async false
set_option linter.all false
set_option maxRecDepth 100000
set_option maxHeartbeats 4000000
namespace DL
open PySem PySem.Spec L2 L3
open PyProof.Rows hiding St
variable {Γ : Hp → Prop}
section
variable {X : Cx} {a : Expr} {es : List Expr} {t : TDs} {ta : TD} {lp pos : Pos}
end
end DL

set_option Elab.async false
set_option linter.all false
set_option maxRecDepth 100000
set_option maxHeartbeats 4000000
namespace L2
open PySem PySem.Spec PyProof.Rows
section
variable {prog : Program} {w : World} {A : Around} {E : Value → Shared → Prop} {s : Shared}
end
section
variable {prog : Program} {w : World} {K : Type} [DecidableEq K] {knd : KeyKind prog w K} {A : Around} {s : Shared} {R : Result → Shared → Prop}
end
end L2

set_option Elab.async false
set_option linter.all false
set_option maxRecDepth 100000
set_option maxHeartbeats 4000000
namespace L2
open PySem PySem.Spec PyProof.Rows
section
variable {prog : Program} {w : World} {A : Around} {E : Value → Shared → Prop} {s : Shared}
end
end L2

set_option Elab.async false
set_option linter.all false
set_option maxRecDepth 100000
set_option maxHeartbeats 4000000
namespace L2
open PySem PySem.Spec PyProof.Rows
section
variable {X : Cx}
end
end L2

set_option Elab.async false
set_option linter.all false
set_option maxRecDepth 100000
set_option maxHeartbeats 4000000
namespace DL
open PySem PySem.Spec L2 L3
open PyProof.Rows hiding St
variable {Γ : Hp → Prop}
section
variable {X : Cx} {e ke : Expr} {es : List Expr} {t : TDs} {te tk : TD} {p p2 pos pos2 : Pos}
noncomputable def kD : Key → D
  | .inl i => .int i
  | .inr x => .str x
end
end DL

set_option Elab.async false
set_option linter.all false
set_option maxRecDepth 100000
set_option maxHeartbeats 4000000
namespace L2
open PySem PySem.Spec PyProof.Rows
section
variable {X : Cx} {tg : Expr} {pins : List (Addr × Obj)} {σ : St} {H : Hp} {s : Shared} {a : Addr} {ob : Obj} {kvs : List (Key × V)}
/-- the values of a dict that is held fast -/
noncomputable def Itv (a : Addr) (ob : Obj) (kvs : List (Key × V)) : It := ⟨fun i H => H a = some (.frz ob (.dK kvs)) ∧ i < kvs.length, fun i H x H' => H' = H ∧ ∃ k, kvs[i]? = some (k, x), fun i H => H a = some (.frz ob (.dK kvs)) ∧ i = kvs.length⟩
theorem KV.at {κ : Type} : ∀ {kvs : List (κ × V)} {vs : List (κ × Value)} {i : Nat} {p : κ × V}, KV kvs vs → kvs[i]? = some p → ∃ u, vs[i]? = some (p.1, u) ∧ RelV p.2 u
  | _, _, i, _, .nil, e => by simp at e
  | _, _, 0, p, .cons r t, e => by
    simp at e
    subst e
    rename_i b _ _
    exact ⟨b.2, by simp [r.1], r.2⟩
  | _, _, i + 1, p, .cons r t, e => by
    obtain ⟨u, h1, h2⟩ := KV.at (i := i) (p := p) t (by simpa using e)
    exact ⟨u, by simpa using h1, h2⟩
end
end L2
namespace DL
open PySem PySem.Spec L2 L3
open PyProof.Rows hiding St
section
variable {X : Cx} {tg elt : Expr} {ifs : List Expr} {scope : Scope} {T : List Str} {g2 : TG} {g : TGD} {tc : TDb} {te : TD} {pos : Pos}
end
end DL

set_option Elab.async false
set_option linter.all false
set_option maxRecDepth 100000
set_option maxHeartbeats 4000000
namespace L2
open PySem PySem.Spec PyProof.Rows
section
variable {X : Cx}
end
end L2
namespace DL
open PySem PySem.Spec L2 L3
open PyProof.Rows hiding St
variable {Γ : Hp → Prop}
section
variable {X : Cx} {e : Expr} {es : List Expr} {t : TDs} {te : TD} {p pos : Pos}
noncomputable def sListD : FT := fun ds φ => match ds with
  | [.dk ks l] => φ (df (.lst (ks.map kD)))
  | _ => False
noncomputable def sAugM (i : Nat) (te : TD) : TDS := fun ρ Z => match slot ρ i with
  | some ⟨.val, .int a⟩ => te ρ fun r => match r.d with
    | .int b => IntMulOk a b ∧ Z.nx (setS ρ i (dv (.int (a * b))))
    | _ => False
  | _ => False
noncomputable def sPopX (i : Nat) : TDS := fun ρ Z => match slot ρ i with
  | some ⟨.own, .lst ds⟩ => match popD ds with
    | some (ds', d) => Z.nx (setS ρ i (dO (.lst ds')))
    | none => False
  | _ => False
end
end DL

set_option Elab.async false
set_option linter.all false
set_option maxRecDepth 100000
set_option maxHeartbeats 8000000
namespace L3
open PySem PySem.Spec L2
open PyProof.Rows hiding St
end L3
namespace DL
open PySem PySem.Spec L2 L3
open PyProof.Rows hiding St
variable {Γ : Hp → Prop}
section
variable {X : Cx}
noncomputable def enD (l : List D) : List D := l.zipIdx.map fun q => .tup [.int (q.2 : Nat), q.1]
noncomputable def iE (t : TDs) : TID := fun ρ φ => t ρ fun rs => match rs with
  | [r] => (match r.k with | .own => False | _ => True) ∧ (match r.d with
    | .lst l => φ (enD l)
    | _ => False)
  | _ => False
end
end DL

set_option Elab.async false
set_option linter.all false
set_option maxRecDepth 100000
set_option maxHeartbeats 4000000
namespace L2
open PySem PySem.Spec PyProof.Rows
/-- the items of xs[lo:hi:st] -/
noncomputable def pickBy {α : Type} (xs : List α) (lo hi st : Option Int) : List α :=
  let b := sliceBounds lo hi st xs.length
  (sliceRange b.1 b.2.1 b.2.2).filterMap fun i => xs[i]?
section
variable {X : Cx} {e : Expr} {te : TE} {lo hi : Option Expr} {st : Expr} {tl th ts : TO} {pos p2 : Pos}
end
end L2
namespace DL
open PySem PySem.Spec L2 L3
open PyProof.Rows hiding St
variable {Γ : Hp → Prop}
section
variable {X : Cx} {e : Expr} {te : TD} {pos : Pos}
noncomputable def dStep (te : TD) (tl th ts : TDo) : TD := fun ρ φ => te ρ fun x => tl ρ fun l => th ρ fun u => ts ρ fun k => k ≠ some 0 ∧ match x.d with
  | .lst ds => φ (df (.lst (pickBy ds l u k)))
  | .scr ns => φ (df (.lst ((pickBy ns l u k).map D.int)))
  | _ => False
end
end DL

set_option Elab.async false
set_option linter.all false
set_option maxRecDepth 100000
set_option maxHeartbeats 4000000
namespace DL
open PySem PySem.Spec L2 L3
open PyProof.Rows hiding St
variable {Γ : Hp → Prop}
noncomputable abbrev TK := List Key
noncomputable instance decMemTK (k : TK) (ks : List TK) : Decidable (k ∈ ks) := decidable_of_iff (ks.any (fun x => decide (x = k)) = true) (by simp)
section
variable {α : Type}
end
section
variable {K : PySem.W.Frag} {H : Hp} {O : List Addr}
end

section
variable {X : Cx} {a b c e o : Expr} {es : List Expr} {ta tb tc te td : TD} {t : TDs} {pos : Pos}
end
section
variable {X : Cx} {x : Str} {e ke : Expr} {te tk : TD} {np pos pos' : Pos}
end
end DL

set_option Elab.async false
set_option linter.all false
set_option maxRecDepth 100000
set_option maxHeartbeats 4000000
namespace L2
open PySem PySem.Spec PySem.W PyProof.Rows
/-- a dict by its rows alone -/
noncomputable def RawD (h : Heap) (d : Addr) (rows : Array DictEntry) (ep : Nat) : Prop := ∃ o, h.get? d = some o ∧ o.ExactDict ∧ o.data = .dict rows ep
theorem RawD.ty {s : Shared} {d : Addr} {rows : Array DictEntry} {ep : Nat} (x : RawD s.heap d rows ep) : s.TypeIs (.ref d) "dict" := let ⟨o, g, c, _⟩ := x; ⟨o, g, c.1⟩
theorem RawD.to {h k : Heap} {d : Addr} {rows : Array DictEntry} {ep : Nat} (x : RawD h d rows ep) (f : ∀ o, h.get? d = some o → k.get? d = some o) : RawD k d rows ep := let ⟨o, g, r⟩ := x; ⟨o, f o g, r⟩
theorem RawD.lt {h : Heap} {d : Addr} {rows : Array DictEntry} {ep : Nat} (x : RawD h d rows ep) : d < h.objs.size := let ⟨_, g, _⟩ := x; Heap.lt_size g
section
variable {prog : Program} {w : World} {A : Around} {E : Value → Shared → Prop} {s : Shared} {D J : Addr} {rows : Array DictEntry} {ep i : Nat}
end
end L2

set_option Elab.async false
set_option linter.all false
set_option maxRecDepth 100000
set_option maxHeartbeats 4000000
namespace L2
open PySem PySem.Spec PySem.W PyProof.Rows
section
variable {n : Nat} {cmp : Nat → Nat → (Bool → Shared → Prop) → Shared → Prop} {s : Shared}
noncomputable abbrev POrd (n : Nat) (p : Array Nat) : Prop := p.Perm (List.toArray (List.range n))
theorem POrd.lt {p : Array Nat} (h : POrd n p) (hn : 0 < n) (i : Nat) : p.getD i 0 < n := by
  by_cases hi : i < p.size
  · have e : p.getD i 0 = p[i] := by simp [Array.getD, hi]
    rw [e]
    have m : p[i] ∈ List.toArray (List.range n) := h.mem_iff.mp (Array.getElem_mem hi)
    simpa using m
  · have e : p.getD i 0 = 0 := by simp [Array.getD, hi]
    omega
end
/-- at b a tuple of these whole numbers -/
noncomputable def TupZ (h : Heap) (b : Addr) (ns : List Int) : Prop := ∃ o its k, h.get? b = some o ∧ o.cls = .type "tuple" ∧ o.data = .seq its k ∧ Vals (ns.map V.int) its.toList
theorem TupZ.to {h k : Heap} {b : Addr} {ns : List Int} (x : TupZ h b ns) (f : ∀ o, h.get? b = some o → k.get? b = some o) : TupZ k b ns := let ⟨o, its, n, g, r⟩ := x; ⟨o, its, n, f o g, r⟩
section
variable {prog : Program} {w : World} {A : Around} {E : Value → Shared → Prop} {s : Shared}
end
end L2

set_option Elab.async false
set_option linter.all false
set_option maxRecDepth 100000
set_option maxHeartbeats 4000000
namespace L2
open PySem PySem.Spec PySem.W PyProof.Rows
section
variable {prog : Program} {w : World} {A : Around} {E : Value → Shared → Prop} {s : Shared}
end
end L2

set_option Elab.async false
set_option linter.all false
set_option maxRecDepth 100000
set_option maxHeartbeats 4000000
namespace L2
open PySem PySem.Spec PySem.W PyProof.Rows
section
variable {X : Cx}
end
end L2

set_option Elab.async false
set_option linter.all false
set_option maxRecDepth 100000
set_option maxHeartbeats 4000000
namespace DL
open PySem PySem.Spec L2 L3
open PyProof.Rows hiding St
variable {Γ : Hp → Prop}
section
variable {X : Cx} {e : Expr} {es : List Expr} {t : TDs} {te : TD} {p pos : Pos}
end
end DL

set_option Elab.async false
set_option linter.all false
set_option maxRecDepth 100000
set_option maxHeartbeats 4000000
namespace L2
open PySem PySem.Spec PySem.W PyProof.Rows
section
variable {n : Nat} {lt : Nat → Nat → Bool} {cmp : Nat → Nat → (Bool → Shared → Prop) → Shared → Prop} {s : Shared}
noncomputable abbrev at0 (p : Array Nat) (i : Nat) : Nat := p.getD i 0
theorem at0_get {p : Array Nat} {i : Nat} : at0 p i = (p[i]?).getD 0 := by
  unfold at0
  simp
theorem POrd.size {p : Array Nat} (h : POrd n p) : p.size = n := by
  have := h.size_eq
  simpa using this
theorem POrd.inj {p : Array Nat} (h : POrd n p) {i j : Nat} (hi : i < n) (hj : j < n) (e : at0 p i = at0 p j) : i = j := by
  have nd : p.toList.Nodup := by
    have h1 : p.toList.Perm (List.range n) := by simpa using h.toList
    exact h1.nodup_iff.mpr List.nodup_range
  have hs := h.size
  have e1 : at0 p i = p.toList[i]'(by simpa [hs] using hi) := by rw [at0_get, Array.getElem?_eq_getElem (by omega)]; simp
  have e2 : at0 p j = p.toList[j]'(by simpa [hs] using hj) := by rw [at0_get, Array.getElem?_eq_getElem (by omega)]; simp
  rw [e1, e2] at e
  have pw := List.pairwise_iff_getElem.mp nd
  rcases Nat.lt_trichotomy i j with z | z | z
  · exact absurd e (pw i j _ _ z)
  · exact z
  · exact absurd e.symm (pw j i _ _ z)
end
end L2

set_option Elab.async false
set_option linter.all false
set_option maxRecDepth 100000
set_option maxHeartbeats 4000000
namespace L2
open PySem PySem.Spec PySem.W PyProof.Rows
section
variable {prog : Program} {w : World} {A : Around} {E : Value → Shared → Prop} {s : Shared}
end
section
variable {X : Cx}
end
end L2

set_option Elab.async false
set_option linter.all false
set_option maxRecDepth 100000
set_option maxHeartbeats 4000000
namespace DL
open PySem PySem.Spec L2 L3
open PyProof.Rows hiding St
variable {Γ : Hp → Prop}
section
variable {X : Cx} {e : Expr} {es : List Expr} {t : TDs} {te : TD} {p pos : Pos}
end
end DL

set_option Elab.async false
set_option linter.all false
set_option maxRecDepth 100000
set_option maxHeartbeats 4000000
namespace DL
open PySem PySem.Spec L2 L3
open PyProof.Rows hiding St
variable {Γ : Hp → Prop}
section
variable {X : Cx} {a b c : Expr} {ta tb tc : TD} {pos : Pos}
noncomputable def dChain (p q : Int → Int → Bool) (ta tb tc : TD) : TD := fun ρ φ => ta ρ fun x => tb ρ fun y => match x.d, y.d with
  | .int i, .int j => (p i j = true → tc ρ fun z => match z.d with
      | .int k => φ (dv (.bl (q j k)))
      | _ => False) ∧ (p i j = false → φ (dv (.bl false)))
  | _, _ => False
theorem lift_chain {p q : Int → Int → Bool} {H₀ : Hp} {rr rr' : R2} (h1 : ∀ i j H Q, Q (.bl (p i j)) H → rr (.int i) (.int j) H Q) (h2 : ∀ i j H Q, Q (.bl (q i j)) H → rr' (.int i) (.int j) H Q) :
    ∀ σ H Q, liftE X.K H₀ (dChain p q ta tb tc) σ H Q → tChain rr rr' (liftE X.K H₀ ta) (liftE X.K H₀ tb) (liftE X.K H₀ tc) σ H Q := fun σ H Q h => by
  obtain ⟨ρ, o, R, φ, hφ, k⟩ := h
  refine ⟨ρ, o, R, _, hφ, fun v1 r1 H1 s1 rv1 g1 => ⟨ρ, o, R.to s1, _, g1, fun v2 r2 H2 s2 rv2 g2 => ?_⟩⟩
  split at g2
  · rename_i i j ei ej
    have e1 := rv1.view
    have e2 := rv2.view
    rw [ei] at e1
    rw [ej] at e2
    cases (show v1 = _ from e1)
    cases (show v2 = _ from e2)
    refine h1 i j H2 _ ⟨p i j, rfl, ?_⟩
    cases hp : p i j with
    | false => exact k _ _ H2 (s1.trans s2) (by exact rfl) (g2.2 hp)
    | true =>
      refine ⟨ρ, o, (R.to s1).to s2, _, g2.1 hp, fun v3 r3 H3 s3 rv3 g3 => ?_⟩
      split at g3
      · rename_i l el
        have e3 := rv3.view
        rw [el] at e3
        cases (show v3 = _ from e3)
        exact h2 j l H3 _ (k _ _ H3 (s1.trans (s2.trans s3)) (by exact rfl) g3)
      · exact g3.elim
  · exact g2.elim
theorem lift_tst {t : TD} {H₀ : Hp} {e : Expr} {u : TE} (hp : PT X e (tTest u)) (hl : ∀ σ H Q, liftE X.K H₀ t σ H Q → u σ H Q) : PT X e (liftT X.K H₀ (tBo t)) := impT hp fun σ H Q h => by
  obtain ⟨ρ, o, R, φ, hφ, k⟩ := h
  refine hl σ H _ ⟨ρ, o, R, _, hφ, fun v r H' s1 rv h1 => ?_⟩
  obtain ⟨kd, d⟩ := r
  cases d with
  | bl b => exact ⟨b, rv.view, k b H' s1 h1⟩
  | _ => exact h1.elim
theorem et_leLe (ha : ED Γ X a ta) (hb : ED Γ X b tb) (hc : ED Γ X c tc) (hm : lastMarks [CmpOp.LtE, .LtE] [b, c] = false := by with_unfolding_all rfl) : ET Γ X (.Compare a [.LtE, .LtE] [b, c] pos) (tBo (dChain (fun i j => decide (i ≤ j)) (fun i j => decide (i ≤ j)) ta tb tc)) := fun H₀ =>
  lift_tst (pt_chain op_le op_le (ha H₀) (hb H₀) (hc H₀) hm) (lift_chain (fun i j H Q h => ⟨i, j, rfl, rfl, h⟩) fun i j H Q h => ⟨i, j, rfl, rfl, h⟩)
end
end DL

set_option Elab.async false
set_option linter.all false
set_option maxRecDepth 100000
set_option maxHeartbeats 4000000
namespace DL
open PySem PySem.Spec L2 L3
open PyProof.Rows hiding St
variable {Γ : Hp → Prop}
section
variable {X : Cx} {pins : List (Addr × Obj)} {σ : St} {H : Hp} {s : Shared} {a : Addr} {m : Int}
theorem vals_ints : ∀ {ns : List Int} {its : List Value}, Vals (ns.map V.int) its → (∀ n ∈ ns, 0 < m → 0 ≤ n ∧ n < m) → ∀ v ∈ its, ∃ (i : Int) (t : Tok), v = .int i t ∧ (0 < m → 0 ≤ i ∧ i < m)
  | [], _, .nil, _, v, h => nomatch h
  | n :: ns, _, .cons r t, hr, v, h => by
    obtain ⟨tk, e⟩ := r
    rcases List.mem_cons.mp h with rfl | h
    · exact ⟨n, tk, e, hr n List.mem_cons_self⟩
    · exact vals_ints t (fun k hk => hr k (List.mem_cons_of_mem _ hk)) v h
end
section
variable {X : Cx}
end
end DL

set_option Elab.async false
set_option linter.all false
set_option maxRecDepth 100000
set_option maxHeartbeats 4000000
namespace DL
open PySem PySem.Spec L2 L3
open PyProof.Rows hiding St
variable {Γ : Hp → Prop}
end DL

set_option Elab.async false
set_option linter.all false
set_option maxRecDepth 100000
set_option maxHeartbeats 4000000
namespace L2
open PySem PySem.Spec PyProof.Rows
section
variable {prog : Program} {w : World} {A : Around} {E : Value → Shared → Prop} {s : Shared}
end
section
variable {X : Cx}
end
end L2
namespace DL
open PySem PySem.Spec L2 L3
open PyProof.Rows hiding St
end DL

set_option Elab.async false
set_option linter.all false
set_option maxRecDepth 100000
set_option maxHeartbeats 4000000
namespace L2
open PySem PySem.Spec PyProof.Rows
section
variable {prog : Program} {w : World} {A : Around} {E : Value → Shared → Prop} {s : Shared}
end
end L2

set_option Elab.async false
set_option linter.all false
set_option maxRecDepth 100000
set_option maxHeartbeats 4000000
namespace DL
open PySem PySem.Spec L2 L3
open PyProof.Rows hiding St
variable {Γ : Hp → Prop}
section
variable {X : Cx} {pins : List (Addr × Obj)} {σ : St} {H : Hp} {s : Shared}
end
section
variable {X : Cx} {a b : Expr} {ta tb : TD} {pos : Pos}
end
end DL

set_option Elab.async false
set_option linter.all false
set_option maxRecDepth 100000
set_option maxHeartbeats 4000000
namespace DL
open PySem PySem.Spec L2 L3
open PyProof.Rows hiding St
variable {Γ : Hp → Prop}
section
variable {X : Cx} {σ : St} {scope : Scope} {T F : List Str} {js : List Nat} {tg iter elt : Expr} {ifs : List Expr} {pos : Pos} {ti : TID} {g2 : TG} {g : TGD} {tc : TDb} {te : TD}
/-- a comprehension whose parts are known by a property alone -/
noncomputable def dCompP (ti : TID) (n : Nat) (js : List Nat) (g : TGD) (tc : TDb) (te : TD) : TD := fun ρ φ => ti ρ fun ds => ∃ P : Nat → List D → Prop, ds.length ≤ 100000 ∧ P 0 [] ∧
  (∀ (i : Nat) (d : D) (es : List D), ds[i]? = some d → es.length ≤ i → P i es → g d (ρ0 n js ρ) fun ρ' => tc ρ' fun c => (c = true → te ρ' fun r => (match r.k with | .own => False | _ => True) ∧ P (i + 1) (es ++ [r.d])) ∧ (c = false → P (i + 1) es)) ∧ ∀ es, P ds.length es → φ (df (.lst es))
theorem lift_compP {H₀ : Hp} (nd : js.Nodup) (hl : GLink X.K g2 g) : ∀ σ H Q, liftE X.K H₀ (dCompP ti T.length js g tc te) σ H Q → tComp (liftI X.K H₀ ti) T js g2 (liftT X.K H₀ tc) (liftE X.K H₀ te) σ H Q := fun σ H Q q => by
    obtain ⟨ρ, o, R, φ, hφ, k⟩ := q
    refine ⟨ρ, o, R, _, hφ, fun J ds P H1 s1 I hP ⟨PP, hlen, P0, turn, fin⟩ Da hDa => ?_⟩
    have R1 := R.to s1
    have gD : ∀ {H' : Hp}, Same H1 H' → Grow (o.map Prod.snd) (Da :: o.map Prod.snd) H1 H' := fun s => ⟨fun b u h nb => ⟨s b u h, fun z => (List.mem_cons.mp z).elim (fun e => ne_of_none h hDa e) nb⟩, fun b xs h => s b _ h, fun b ob u h => s b _ h⟩
    refine ⟨fun i m ys H' => m = ds.length - i ∧ i ≤ ds.length ∧ Same H1 H' ∧ H' Da = some (.lst ys) ∧ ∃ es, es.length ≤ i ∧ PP i es ∧ Reps X.K H' (Da :: o.map Prod.snd) es ys,
      ⟨_, rfl, Nat.zero_le _, same_new hDa _, upd_same, [], Nat.le_refl _, P0, rfl⟩, ?_⟩
    rintro i m ys H' ⟨rfl, hi', s2, hD', es, le, pe, rp⟩
    refine ⟨hD', ?_⟩
    have hP' := I.keep _ _ _ _ hP (gD s2)
    by_cases hlt : i < ds.length
    · have ed : ds[i]? = some ds[i] := by simp [hlt]
      obtain ⟨j1, j2⟩ := I.go H' _ i _ hP' ed
      refine .inr ⟨j1, fun zs H2 => Same H1 H2 ∧ H2 Da = some (.lst zs) ∧ ∃ es, es.length ≤ i + 1 ∧ PP (i + 1) es ∧ Reps X.K H2 (Da :: o.map Prod.snd) es zs, fun zs H2 ⟨a1, a2, a3⟩ => ⟨_, (by omega : ds.length - (i + 1) < ds.length - i), rfl, hlt, a1, a2, a3⟩, fun x H2 y => ?_⟩
      obtain ⟨s3, rx⟩ := j2 x H2 y
      have s13 := s2.trans s3
      have hD2 := s3 _ _ hD'
      have RB := renv_block (n := T.length) R1 nd hDa s13 hD2 T rfl
      have hO : ((T.length + js.length, Da) :: o.map fun p => (ixO T.length js p.1, p.2)).map Prod.snd = Da :: o.map Prod.snd := by
        rw [List.map_cons, List.map_map]
        rfl
      have rpl : ys.length ≤ 100000 := by
        rw [rp.length]
        omega
      refine hl H₀ H2 (st0 T js σ) (ρ0 T.length js ρ) _ _ x _ _ RB (by rw [hO]; exact rx) (turn i _ es ed le pe) fun ρ' σ' R' q' => ?_
      refine ⟨ρ', _, R', _, q', fun c H3 s4 h4 => ?_⟩
      have hD3 := s4 _ _ hD2
      cases c with
      | false =>
        exact iteF ⟨s13.trans s4, hD3, es, Nat.le_succ_of_le le, h4.2 rfl, Reps.grow (Grow.same (s3.trans s4)) _ _ rp⟩
      | true =>
        refine iteT ⟨ρ', _, R'.to s4, _, h4.1 rfl, fun v r H4 s5 rv h5 => ?_⟩
        have hD4 := s5 _ _ hD3
        have rd := rv.solid (notOwn h5.1)
        rw [hO] at rd
        have ne : ∀ b u, H1 b = some u → b ≠ Da := fun b u h => ne_of_none h hDa
        have gu : Grow (Da :: o.map Prod.snd) (Da :: o.map Prod.snd) H4 (upd H4 Da (.lst (ys ++ [v]))) :=
          ⟨fun b u h n => ⟨by rw [upd_ne (fun z => n (List.mem_cons.mpr (.inl z)))]; exact h, n⟩, fun b xs h => by rw [upd_ne (fun z => by rw [z, hD4] at h; cases h)]; exact h, fun b ob u h => by rw [upd_ne (fun z => by rw [z, hD4] at h; cases h)]; exact h⟩
        refine ⟨hD4, Nat.lt_of_le_of_lt rpl (by decide), ⟨fun b u h => ?_, upd_same, es ++ [r.d], by rw [List.length_append]; exact Nat.succ_le_succ le, h5.2, ?_⟩⟩
        · rw [upd_ne (ne b u h)]
          exact s5 _ _ (s4 _ _ (s13 b u h))
        · exact Reps.grow gu _ _ ((Reps.grow (Grow.same (s3.trans (s4.trans s5))) _ _ rp).append (Reps.one rd))
    · have e : i = ds.length := by omega
      subst e
      refine .inl ⟨I.stop H' _ hP', ?_⟩
      exact k (.ref Da) (df (.lst es)) H' (s1.trans s2) ⟨Da, rfl, s1.free hDa, R.ofree (s1.free hDa), ys, hD', rp⟩ (fin es pe)
theorem ed_compP (hi : EI Γ X tg iter ti) (S : CompScope X.env.scope scope T F) (hjs : Paired (fun x j => X.N[j]? = some x) F js) (nd : js.Nodup)
    (hg : ∀ cl C fp s H, PG (cxComp X (T ++ F) scope cl C fp s H) tg g2) (hk : GKeep T.length g2) (hl : GLink X.K g2 g)
    (ht : ∀ cl C fp s H, EIf Γ (cxComp X (T ++ F) scope cl C fp s H) ifs tc) (he : ∀ cl C fp s H, ED Γ (cxComp X (T ++ F) scope cl C fp s H) elt te)
    (hc : X.calm = true := by rfl) (hs : ∀ x, foldedSetIterable iter X.env x = pure x := by intro _; rfl) : ED Γ X (.ListComp elt [⟨tg, iter, ifs, 0⟩] scope pos) (dCompP ti T.length js g tc te) := fun H₀ =>
  impE (pe_comp (tc := liftT X.K H₀.1 tc) (te := liftE X.K H₀.1 te) hc (hi H₀) S hjs hg hk (fun cl C fp s H => ht cl C fp s H H₀) (fun cl C fp s H => he cl C fp s H H₀) hs) (lift_compP nd hl)
theorem dCompP_at {ti : TID} {n : Nat} {js : List Nat} {g : TGD} {tc : TDb} {te : TD} {ρ : DE} {φ : EV → Prop} (ds : List D) (h : ∀ ψ : List D → Prop, ψ ds → ti ρ ψ) (P : Nat → List D → Prop) (hl : ds.length ≤ 100000) (h0 : P 0 [])
    (ht : ∀ (i : Nat) (d : D) (es : List D), ds[i]? = some d → es.length ≤ i → P i es → g d (ρ0 n js ρ) fun ρ' => tc ρ' fun c => (c = true → te ρ' fun r => (match r.k with | .own => False | _ => True) ∧ P (i + 1) (es ++ [r.d])) ∧ (c = false → P (i + 1) es)) (hφ : ∀ es, P ds.length es → φ (df (.lst es))) : dCompP ti n js g tc te ρ φ := h _ ⟨P, hl, h0, ht, hφ⟩
end
end DL

set_option Elab.async false
set_option linter.all false
set_option maxRecDepth 100000
set_option maxHeartbeats 4000000
namespace DL
open PySem PySem.Spec L2 L3
open PyProof.Rows hiding St
variable {Γ : Hp → Prop}
section
variable {X : Cx}
end
section
variable {X : Cx} {σ : St} {scope : Scope} {T F : List Str} {js : List Nat} {tg iter elt : Expr} {ifs : List Expr} {pos : Pos} {ti : TID} {g2 : TG} {g : TGD} {tc : TDb} {te : TD}
theorem sd_setCompP (i : Nat) {y : Str} {py spos : Pos} (hN : X.N.Nodup) (hi : EI Γ X tg iter ti) (S : CompScope X.env.scope scope T F) (hjs : Paired (fun x j => X.N[j]? = some x) F js) (nd : js.Nodup)
    (hg : ∀ cl C fp s H, PG (cxComp X (T ++ F) scope cl C fp s H) tg g2) (hk : GKeep T.length g2) (hl : GLink X.K g2 g)
    (ht : ∀ cl C fp s H, EIf Γ (cxComp X (T ++ F) scope cl C fp s H) ifs tc) (he : ∀ cl C fp s H, ED Γ (cxComp X (T ++ F) scope cl C fp s H) elt te)
    (hc : X.calm = true := by rfl) (hs : ∀ x, foldedSetIterable iter X.env x = pure x := by intro _; rfl) (hy : X.N[i]? = some y := by rfl) (hlo : X.env.scope.names.lookup y = some .local := by rfl) (hsw : swapsWith (.ListComp elt [⟨tg, iter, ifs, 0⟩] scope pos) (some (.Name y py)) spos.line X.env = pure true := by rfl) : SD Γ X (.Assign [.Name y py] (.ListComp elt [⟨tg, iter, ifs, 0⟩] scope pos) spos) (sSet i (dCompP ti T.length js g tc te)) := fun H₀ =>
  impS (ps_setComp (tc := liftT X.K H₀.1 tc) (te := liftE X.K H₀.1 te) hc hN hy (.inl hlo) (hi H₀) S hjs hg hk (fun cl C fp s H => ht cl C fp s H H₀) (fun cl C fp s H => he cl C fp s H H₀) hsw hs (.inr hlo)) fun D σ H h => by
    obtain ⟨ρ, o, R, Z, hZ, k1, k2, k3, k4⟩ := h
    refine lift_compP nd hl σ H _ ⟨ρ, o, R, _, hZ, fun v r H1 s1 rv h1 => ?_⟩
    obtain ⟨o', R', g'⟩ := R.put s1 i rv (notOwn h1.1)
    exact k1 _ _ H1 o' g' R' h1.2
end
end DL

set_option Elab.async false
set_option linter.all false
set_option maxRecDepth 100000
set_option maxHeartbeats 4000000
namespace DL
open PySem PySem.Spec L2 L3
open PyProof.Rows hiding St
variable {Γ : Hp → Prop}
theorem sqR_go {K : PySem.W.Frag} {H H' : Hp} {a : Addr} {xs : List V} (kt : ∀ b xs, H b = some (.tup xs) → H' b = some (.tup xs)) (kf : ∀ b o u, H b = some (.frz o u) → H' b = some (.frz o u)) (h : SqR K H a xs) : SqR K H' a xs := by
  obtain ⟨h1, h2⟩ := h
  refine ⟨?_, kt _ _ h2⟩
  rcases h1 with (h | ⟨o, h⟩) | h
  · exact .inl (.inl (kt _ _ h))
  · exact .inl (.inr ⟨o, kf _ _ _ h⟩)
  · exact .inr h
theorem scr_go {K : PySem.W.Frag} {H H' : Hp} {a : Addr} {ns : List Int} (kf : ∀ b o u, H b = some (.frz o u) → H' b = some (.frz o u)) (h : Scr K H a ns) : Scr K H' a ns := by
  rcases h with ⟨o, h⟩ | h
  · exact .inl ⟨o, kf _ _ _ h⟩
  · exact .inr h
mutual
theorem RepN.go {K : PySem.W.Frag} {P P' : Addr → Prop} {H H' : Hp} (kt : ∀ b xs, H b = some (.tup xs) → H' b = some (.tup xs)) (kf : ∀ b o u, H b = some (.frz o u) → H' b = some (.frz o u)) (g : ∀ b u, P b → H b = some u → H' b = some u ∧ P' b) : ∀ (d : D) (v : V), RepN K H P d v → RepN K H' P' d v
  | .non, _, h => h
  | .bl _, _, h => h
  | .int _, _, h => h
  | .str _, _, h => h
  | .ty _, _, h => h
  | .cn _, _, h => h
  | .tup ds, v, h => by
    obtain ⟨a, xs, e, q, r⟩ := h
    exact ⟨a, xs, e, sqR_go kt kf q, RepNs.go kt kf g ds xs r⟩
  | .lst ds, v, h => by
    obtain ⟨a, xs, e, q, n, r⟩ := h
    exact ⟨a, xs, e, (g a _ n q).1, (g a _ n q).2, RepNs.go kt kf g ds xs r⟩
  | .scr ns, v, h => by
    obtain ⟨a, e, q⟩ := h
    exact ⟨a, e, scr_go kf q⟩
  | .exc C, v, h => by
    obtain ⟨a, e, q, n⟩ := h
    exact ⟨a, e, (g a _ n q).1, (g a _ n q).2⟩
  | .fd C, v, h => by
    obtain ⟨a, e, q, n⟩ := h
    exact ⟨a, e, (g a _ n q).1, (g a _ n q).2⟩
  | .dk ks ds, v, h => by
    obtain ⟨a, xs, e, q, n, l, nd, r⟩ := h
    exact ⟨a, xs, e, (g a _ n q).1, (g a _ n q).2, l, nd, RepNs.go kt kf g ds xs r⟩
  | .dt ks ds, v, h => by
    obtain ⟨a, xs, e, q, n, l, nd, r⟩ := h
    exact ⟨a, xs, e, (g a _ n q).1, (g a _ n q).2, l, nd, RepNs.go kt kf g ds xs r⟩
theorem RepNs.go {K : PySem.W.Frag} {P P' : Addr → Prop} {H H' : Hp} (kt : ∀ b xs, H b = some (.tup xs) → H' b = some (.tup xs)) (kf : ∀ b o u, H b = some (.frz o u) → H' b = some (.frz o u)) (g : ∀ b u, P b → H b = some u → H' b = some u ∧ P' b) : ∀ (ds : List D) (xs : List V), RepNs K H P ds xs → RepNs K H' P' ds xs
  | [], _, h => h
  | d :: ds, xs, h => by
    obtain ⟨v, r, e, q, t⟩ := h
    exact ⟨v, r, e, RepN.go kt kf g d v q, RepNs.go kt kf g ds r t⟩
end
section
variable {X : Cx} {σ : St} {scope : Scope} {T F : List Str} {js : List Nat} {tg iter elt : Expr} {ifs : List Expr} {pos : Pos} {ti : TID} {g2 : TG} {g : TGD} {tc : TDb} {te : TD}
end
end DL

set_option Elab.async false
set_option linter.all false
set_option maxRecDepth 100000
set_option maxHeartbeats 4000000
namespace DL
open PySem PySem.Spec L2 L3
open PyProof.Rows hiding St
variable {Γ : Hp → Prop}
noncomputable def cstD : Cst → D
  | .int i => .int i
  | .str x => .str x
  | .tup cs => .cn (.tup cs)
section
variable {K : PySem.W.Frag} {H : Hp} {O : List Addr}
end
section
variable {X : Cx} {tg e : Expr} {es : List Expr} {te : TD} {t : TDs} {p pos : Pos}
end
end DL

set_option Elab.async false
set_option linter.all false
set_option maxRecDepth 100000
set_option maxHeartbeats 8000000
namespace LQ
open PySem PySem.Spec L2 L3
open PyProof.Rows hiding St

noncomputable def dd (l : List Str) (k : Str) : List Str := if k ∈ l then l else l ++ [k]
section
variable {P : Program} {w : World} {A : Around} {R : Result → Shared → Prop} {it : Addr} {fp wr : List Addr} {G : Array GenState → Array GenState → Prop} {n : Nat} {Pv : Nat → Value → Prop} {St : Nat → Shared → Prop}
end

section
variable {P : Program} {w : World} {A : Around} {E : Value → Shared → Prop} {s : Shared}
end

end LQ

set_option Elab.async false
set_option linter.all false
set_option maxRecDepth 100000
set_option maxHeartbeats 8000000
namespace LQ
open PySem PySem.Spec L2 L3
open PyProof.Rows hiding St

section
variable {X : Cx}
/-- a set of n texts -/
noncomputable def setO (P : Program) (w : World) (a : Addr) (n : Nat) : HO := .ext fun h => ∃ S, h.SetOf (strKind P w) a S n
end
end LQ

set_option Elab.async false
set_option linter.all false
set_option maxRecDepth 100000
set_option maxHeartbeats 8000000
namespace LQ
open PySem PySem.Spec L2 L3
open PyProof.Rows hiding St

section
variable {P : Program} {w : World} {A : Around} {R : Result → Shared → Prop} {it d : Addr} {fp wr : List Addr} {n : Nat} {Pv : Nat → Value → Prop} {St : Nat → Heap → Prop} {h0 : Heap}
end

section
variable {P : Program} {w : World} {A : Around} {E : Value → Shared → Prop} {s : Shared}
end

end LQ

set_option Elab.async false
set_option linter.all false
set_option maxRecDepth 100000
set_option maxHeartbeats 8000000
namespace LQ
open PySem PySem.Spec L2 L3
open PyProof.Rows hiding St

section
variable {X : Cx}
end
end LQ

set_option Elab.async false
set_option linter.all false
set_option maxRecDepth 100000
set_option maxHeartbeats 8000000
namespace LQ
open PySem PySem.Spec PyProof.Rows
section
variable {P : Program} {w : World} {A : Around} {E : Value → Shared → Prop} {s : Shared}
/-- a tuple and a list side by side -/
structure ZAt (g : Heap) (z ti to i1 i2 l1 l2 : Addr) (f : Value) (k : Nat) : Prop where
  zz : IsZip g z ti to f
  its : IsPair g ti (.ref i1) (.ref i2)
  out : ∃ a b, IsPair g to a b
  one : g.IsTupleIter i1 l1 k
  two : g.IsListIter i2 l2 k
end
end LQ

set_option Elab.async false
set_option linter.all false
set_option maxRecDepth 100000
set_option maxHeartbeats 8000000
namespace LQ
open PySem PySem.Spec L2 L3
open PyProof.Rows hiding St

end LQ

set_option Elab.async false
set_option linter.all false
set_option maxRecDepth 100000
set_option maxHeartbeats 8000000
namespace LQ
open PySem PySem.Spec L2 L3
open PyProof.Rows hiding St

structure TopDict (P : Program) (w : World) (K : PySem.W.Frag) (a : Addr) (f : Str → Option Value) : Prop where
  at_ : ∃ es ep, K.lookup a = some { cls := .type "dict", data := .dict es ep } ∧ KeysOf (strKind P w) es ∧ ∀ k, findBy (strKind P w).is es k = f k
  ne : (a == sysModules) = false
section
variable {X : Cx} {pins : List (Addr × Obj)} {σ : St} {H : Hp} {s : Shared} {a : Addr} {f : Str → Option Value}
theorem TopDict.map (T : TopDict X.prog X.w X.K a f) (I : Inv X pins σ H s) : s.heap.MapOf (strKind X.prog X.w) a f := by
  obtain ⟨es, ep, lk, hk, hf⟩ := T.at_
  exact ⟨_, es, ep, I.kIn a _ lk, ⟨rfl, rfl, rfl⟩, rfl, hk, hf⟩
end

section
variable {K : PySem.W.Frag} {a : Addr} {xs : List V} {g : TG} {tc : TT} {te : TE} {σ0 : St} {D : Addr} {Z : Hp → Prop} {H : Hp}
end
end LQ

set_option Elab.async false
set_option linter.all false
set_option maxRecDepth 100000
set_option maxHeartbeats 4000000
namespace DL
open PySem PySem.Spec L2 L3
open PyProof.Rows hiding St
variable {Γ : Hp → Prop}
section
variable {X : Cx} {o e a b : Expr} {td te ta tb : TD} {apos cpos pos : Pos}
noncomputable def tabL : List (Str × Cst) → Str → Option Cst
  | [], _ => none
  | (k, c) :: r, z => if z = k then some c else tabL r z
structure GT (P : Program) (w : World) (K : PySem.W.Frag) (mg : Str → Option Value) (x : Str) (tab : List (Str × Cst)) : Prop where
  ex : ∃ a f, mg x = some (.ref a) ∧ LQ.TopDict P w K a f ∧ (∀ z, tabL tab z = none → f z = none) ∧ ∀ z c, tabL tab z = some c → ∃ u v, f z = some u ∧ RelV v u ∧ CRep K c v
end
end DL

set_option Elab.async false
set_option linter.all false
set_option maxRecDepth 100000
set_option maxHeartbeats 8000000
namespace LQ
open PySem PySem.Spec L2 L3
open PyProof.Rows hiding St
section
variable {P : Program} {w : World} {A : Around} {R : Result → Shared → Prop} {it d : Addr} {fp wr : List Addr} {n : Nat} {Pv : Nat → Value → Prop} {St : Nat → Heap → Prop} {h0 : Heap}
end
section
variable {P : Program} {w : World} {A : Around} {E : Value → Shared → Prop} {s : Shared}
end
section
variable {X : Cx}
end
end LQ

set_option Elab.async false
set_option linter.all false
set_option maxRecDepth 100000
set_option maxHeartbeats 4000000
namespace L2
open PySem PySem.Spec PyProof.Rows
section
variable {X : Cx} {o e : Expr} {apos cpos : Pos} {td te : TE}
end
end L2
namespace DL
open PySem PySem.Spec L2 L3
open PyProof.Rows hiding St
variable {Γ : Hp → Prop}
section
variable {X : Cx} {e : Expr} {te : TD} {x : Str} {np apos cpos pos : Pos}
end
end DL

set_option Elab.async false
set_option linter.all false
set_option maxRecDepth 100000
set_option maxHeartbeats 8000000
namespace LQ
open PySem PySem.Spec L2 L3
open PyProof.Rows hiding St


section
variable {P : Program} {w : World} {A : Around} {E : Value → Shared → Prop} {s : Shared}
end
section
variable {X : Cx}
end
end LQ
namespace DL
open PySem PySem.Spec L2 L3
open PyProof.Rows hiding St
variable {Γ : Hp → Prop}
section
variable {X : Cx} {e : Expr} {te : TD} {p p2 pos pos2 : Pos}
end
end DL

set_option Elab.async false
set_option linter.all false
set_option maxRecDepth 100000
set_option maxHeartbeats 4000000
namespace DL
open PySem PySem.Spec L2 L3
open PyProof.Rows hiding St
variable {Γ : Hp → Prop}
section
variable {X : Cx} {e : Expr} {es : List Expr} {te : TD} {t : TDs} {p p2 pos pos2 : Pos}
end
end DL

set_option Elab.async false
set_option linter.all false
set_option maxRecDepth 100000
set_option maxHeartbeats 4000000
namespace DL
open PySem PySem.Spec L2 L3
open PyProof.Rows hiding St
variable {Γ : Hp → Prop}
section
variable {X : Cx} {e : Expr} {es : List Expr} {t : TDs} {p pos : Pos}
end
end DL

set_option Elab.async false
set_option linter.all false
set_option maxRecDepth 100000
set_option maxHeartbeats 4000000
namespace L2
open PySem PySem.Spec PySem.W PyProof.Rows
/-- the iterator of a dict's pairs: none given yet, or one given before stands at b -/
noncomputable def itemO (D : Addr) (i n ep : Nat) (x0 x1 o1 o2 : Value) : Obj := { cls := .type "dict_itemiterator", dict := none, data := .fields #[x0, x1, .ref D, .int i 0, .int n 0, .int ep 0, o1, o2], slots := #[] }
noncomputable def RawJ (h : Heap) (J D : Addr) (i n ep : Nat) : Prop := ∃ x0 x1 o1 o2, h.get? J = some (itemO D i n ep x0 x1 o1 o2) ∧ ((x0 = .none ∧ x1 = .bool false) ∨ ∃ (b : Addr) (f : Bool) (ob : Obj), x0 = rawInt b ∧ x1 = .bool f ∧ h.get? b = some ob ∧ b ≠ J)
/-- the new pair -/
noncomputable def pairO (e : DictEntry) : Obj := { cls := .type "tuple", data := .seq #[e.key, e.val] }
theorem RawJ.to {h k : Heap} {J D : Addr} {i n ep : Nat} (y : RawJ h J D i n ep) (f : ∀ o, h.get? J = some o → k.get? J = some o) (g : ∀ b o, h.get? b = some o → ∃ o', k.get? b = some o') : RawJ k J D i n ep := by
  obtain ⟨x0, x1, o1, o2, e, c⟩ := y
  refine ⟨x0, x1, o1, o2, f _ e, ?_⟩
  rcases c with c | ⟨b, t, ob, c1, c2, c3, c4⟩
  · exact .inl c
  · obtain ⟨o', e'⟩ := g b ob c3
    exact .inr ⟨b, t, o', c1, c2, e', c4⟩
theorem RawJ.ty {s : Shared} {J D : Addr} {i n ep : Nat} (y : RawJ s.heap J D i n ep) : s.TypeIs (.ref J) "dict_itemiterator" := let ⟨_, _, _, _, e, _⟩ := y; ⟨_, e, rfl⟩
theorem RawJ.lt {h : Heap} {J D : Addr} {i n ep : Nat} (y : RawJ h J D i n ep) : J < h.objs.size := let ⟨_, _, _, _, e, _⟩ := y; Heap.lt_size e
section
variable {prog : Program} {w : World} {A : Around} {E : Value → Shared → Prop} {s : Shared} {D J b : Addr} {rows : Array DictEntry} {ep i : Nat} {o1 o2 : Value} {f : Bool}
end
end L2

set_option Elab.async false
set_option linter.all false
set_option maxRecDepth 100000
set_option maxHeartbeats 4000000
namespace L2
open PySem PySem.Spec PySem.W PyProof.Rows
/-- the pairs given so far -/
noncomputable def PairsAt (h : Heap) (rows : Array DictEntry) (J : Addr) (as : List Addr) : Prop := (∀ a ∈ as, J < a) ∧ as.Nodup ∧ ∀ (j : Nat) a, as[j]? = some a → ∃ e, rows[j]? = some e ∧ h.get? a = some (pairO e)
theorem PairsAt.lt {h : Heap} {rows : Array DictEntry} {J a : Addr} {as : List Addr} (p : PairsAt h rows J as) (m : a ∈ as) : a < h.objs.size := by
  obtain ⟨j, hj⟩ := List.getElem?_of_mem m
  obtain ⟨e, _, g⟩ := p.2.2 j a hj
  exact Heap.lt_size g
theorem PairsAt.to {h k : Heap} {rows : Array DictEntry} {J : Addr} {as : List Addr} (p : PairsAt h rows J as) (f : ∀ a o, a ∈ as → h.get? a = some o → k.get? a = some o) : PairsAt k rows J as :=
  ⟨p.1, p.2.1, fun j a e => let ⟨x, e1, g⟩ := p.2.2 j a e; ⟨x, e1, f a _ (List.mem_of_getElem? e) g⟩⟩
theorem PairsAt.snoc {h : Heap} {rows : Array DictEntry} {J a : Addr} {as : List Addr} {e : DictEntry} (p : PairsAt h rows J as) (ha : J < a) (nm : a ∉ as) (er : rows[as.length]? = some e) (g : h.get? a = some (pairO e)) : PairsAt h rows J (as ++ [a]) := by
  refine ⟨fun b hb => ?_, ?_, fun j b hj => ?_⟩
  · rcases List.mem_append.mp hb with m | m
    · exact p.1 b m
    · rw [List.mem_singleton.mp m]; exact ha
  · rw [List.nodup_append]
    refine ⟨p.2.1, by simp, fun x hx y hy z => ?_⟩
    rw [List.mem_singleton.mp hy] at z
    subst z
    exact nm hx
  · by_cases hl : j < as.length
    · rw [List.getElem?_append_left hl] at hj
      exact p.2.2 j b hj
    · have : j = as.length := by
        have := (List.getElem?_eq_some_iff.mp hj).1
        simp at this
        omega
      subst this
      have eb : a = b := by simpa using hj
      subst eb
      exact ⟨e, er, g⟩
section
variable {prog : Program} {w : World} {A : Around} {E : Value → Shared → Prop} {s : Shared} {D J S v : Addr} {rows : Array DictEntry} {ep : Nat}
end
end L2

set_option Elab.async false
set_option linter.all false
set_option maxRecDepth 100000
set_option maxHeartbeats 4000000
namespace L2
open PySem PySem.Spec PySem.W PyProof.Rows
section
variable {X : Cx} {pins : List (Addr × Obj)} {σ : St} {H : Hp} {s : Shared} {h' : Heap}
end
section
variable {X : Cx}
end
end L2
namespace DL
open PySem PySem.Spec L2 L3
open PyProof.Rows hiding St
variable {Γ : Hp → Prop}
section
variable {X : Cx} {o : Expr} {td : TD} {p apos cpos pos : Pos}
end
end DL

set_option Elab.async false
set_option linter.all false
set_option maxRecDepth 100000
set_option maxHeartbeats 4000000
namespace L3
open PySem PySem.Spec L2
open PyProof.Rows hiding St
section
variable {P : Program} {w : World} {A : Around} {E : Value → Shared → Prop} {s : Shared}
/-- a zip whose last pair may still be held -/
noncomputable def ZipF (h : Heap) (z ti to a : Addr) (fb : Bool) : Prop := h.get? z = some { cls := .type "zip", dict := none, data := .fields #[rawInt a, .bool fb, .bool false, .ref ti, .ref to], slots := #[] }
end
end L3

set_option Elab.async false
set_option linter.all false
set_option maxRecDepth 100000
set_option maxHeartbeats 4000000
namespace L3
open PySem PySem.Spec L2
open PyProof.Rows hiding St
/-- the pairs given so far -/
noncomputable def PairsZ (h : Heap) (xs ys : Array Value) (J : Addr) (as : List Addr) : Prop := (∀ a ∈ as, J < a) ∧ as.Nodup ∧ ∀ (j : Nat) a, as[j]? = some a → ∃ x y, xs[j]? = some x ∧ ys[j]? = some y ∧ IsPair h a x y
theorem PairsZ.lt {h : Heap} {xs ys : Array Value} {J a : Addr} {as : List Addr} (p : PairsZ h xs ys J as) (m : a ∈ as) : a < h.objs.size := by
  obtain ⟨j, hj⟩ := List.getElem?_of_mem m
  obtain ⟨x, y, _, _, g⟩ := p.2.2 j a hj
  exact Heap.lt_size g
theorem PairsZ.to {h k : Heap} {xs ys : Array Value} {J : Addr} {as : List Addr} (p : PairsZ h xs ys J as) (f : ∀ a o, a ∈ as → h.get? a = some o → k.get? a = some o) : PairsZ k xs ys J as :=
  ⟨p.1, p.2.1, fun j a e => let ⟨x, y, e1, e2, g⟩ := p.2.2 j a e; ⟨x, y, e1, e2, f a _ (List.mem_of_getElem? e) g⟩⟩
theorem PairsZ.snoc {h : Heap} {xs ys : Array Value} {J a : Addr} {as : List Addr} {x y : Value} (p : PairsZ h xs ys J as) (ha : J < a) (nm : a ∉ as) (ex : xs[as.length]? = some x) (ey : ys[as.length]? = some y) (g : IsPair h a x y) : PairsZ h xs ys J (as ++ [a]) := by
  refine ⟨fun b hb => ?_, ?_, fun j b hj => ?_⟩
  · rcases List.mem_append.mp hb with m | m
    · exact p.1 b m
    · rw [List.mem_singleton.mp m]; exact ha
  · rw [List.nodup_append]
    refine ⟨p.2.1, by simp, fun x hx y hy z => ?_⟩
    rw [List.mem_singleton.mp hy] at z
    subst z
    exact nm hx
  · by_cases hl : j < as.length
    · rw [List.getElem?_append_left hl] at hj
      exact p.2.2 j b hj
    · have : j = as.length := by
        have := (List.getElem?_eq_some_iff.mp hj).1
        simp at this
        omega
      subst this
      have eb : a = b := by simpa using hj
      subst eb
      exact ⟨x, y, ex, ey, g⟩
/-- how the zip stands ahead of the i-th pair -/
noncomputable def ZS (b1 b2 : Bool) (z ti to i1 i2 l1 l2 : Addr) (as : List Addr) (i : Nat) (h : Heap) : Prop :=
  (i = 0 ∧ ZAt b1 b2 h z ti to i1 i2 l1 l2 .none 0) ∨ (∃ a fb, a ∈ as ∧ ZipF h z ti to a fb ∧ IsPair h ti (.ref i1) (.ref i2) ∧ ItAt b1 h i1 l1 i ∧ ItAt b2 h i2 l2 i)
theorem ZS.to {b1 b2 : Bool} {z ti to i1 i2 l1 l2 : Addr} {as : List Addr} {i : Nat} {h g : Heap} (Z : ZS b1 b2 z ti to i1 i2 l1 l2 as i h) (k : ∀ c o, (c = z ∨ c = ti ∨ c = to ∨ c = i1 ∨ c = i2) → h.get? c = some o → g.get? c = some o) : ZS b1 b2 z ti to i1 i2 l1 l2 as i g := by
  rcases Z with ⟨e, Z⟩ | ⟨a, fb, m, z1, t1, p1, p2⟩
  · obtain ⟨zz, its, ⟨a, b, out⟩, one, two⟩ := Z
    exact .inl ⟨e, k _ _ (.inl rfl) zz, k _ _ (.inr (.inl rfl)) its, ⟨a, b, k _ _ (.inr (.inr (.inl rfl))) out⟩, one.at fun o e => k _ o (.inr (.inr (.inr (.inl rfl)))) e, two.at fun o e => k _ o (.inr (.inr (.inr (.inr rfl)))) e⟩
  · exact .inr ⟨a, fb, m, k _ _ (.inl rfl) z1, k _ _ (.inr (.inl rfl)) t1, p1.at fun o e => k _ o (.inr (.inr (.inr (.inl rfl)))) e, p2.at fun o e => k _ o (.inr (.inr (.inr (.inr rfl)))) e⟩
section
variable {P : Program} {w : World} {A : Around} {E : Value → Shared → Prop} {s : Shared} {b1 b2 : Bool} {z ti to i1 i2 l1 l2 S : Addr} {xs ys : Array Value}
end
end L3

set_option Elab.async false
set_option linter.all false
set_option maxRecDepth 100000
set_option maxHeartbeats 4000000
namespace L3
open PySem PySem.Spec L2
open PyProof.Rows hiding St
section
variable {P : Program} {w : World} {A : Around} {E : Value → Shared → Prop} {s : Shared} {b1 b2 : Bool} {z ti to i1 i2 l1 l2 : Addr} {xs ys : Array Value}
end
end L3

set_option Elab.async false
set_option linter.all false
set_option maxRecDepth 100000
set_option maxHeartbeats 4000000
namespace L3
open PySem PySem.Spec L2
open PyProof.Rows hiding St
end L3
namespace DL
open PySem PySem.Spec L2 L3
open PyProof.Rows hiding St
variable {Γ : Hp → Prop}
section
variable {X : Cx} {a b : Expr} {t : TDs} {p p2 pos pos2 : Pos}
end
end DL

set_option Elab.async false
set_option linter.all false
set_option maxRecDepth 100000
set_option maxHeartbeats 4000000
namespace L2
open PySem PySem.Spec PyProof.Rows
theorem vals_texts : ∀ {ts : List Str} {us : List Value}, Vals (ts.map V.str) us → ∃ l : List (Str × Tok), us = strValues l ∧ l.map (·.1) = ts
  | [], _, .nil => ⟨[], rfl, rfl⟩
  | t :: ts, _, .cons r q => by
    obtain ⟨k, rfl⟩ := r
    obtain ⟨l, rfl, e⟩ := vals_texts q
    exact ⟨(t, k) :: l, rfl, by rw [List.map_cons, e]⟩
theorem join_fold (n : Nat) : ∀ (ts : List Str) (a : Nat), ts.foldl (fun acc (t : Str) => acc + t.length + n) a = a + (ts.map fun t => t.length + n).sum
  | [], a => by simp
  | t :: ts, a => by
    rw [List.foldl_cons, join_fold n ts, List.map_cons, List.sum_cons]
    omega
section
variable {X : Cx}
theorem mt_join : MtR X "str.join" (fun x xs H Q => ∃ sep p ts, x = .str sep ∧ xs = [.ref p] ∧ (SqL X.K H p (ts.map V.str) ∨ SqT X.K H p (ts.map V.str)) ∧ (ts.map fun t => t.length + sep.length).sum ≤ sizeLine ∧ Q (.str (Str.join sep ts)) H) := by
  intro pins s σ H x xs v us Q I rx rs h
  obtain ⟨sep, p, ts, rfl, rfl, hq, hb, q⟩ := h
  obtain ⟨t, rfl⟩ := rx
  obtain ⟨u, rfl, ru⟩ := vals1 rs
  cases ru
  have fin : ∀ l : List (Str × Tok), l.map (·.1) = ts → (joinMade sep l).post (fun v s' => EP X pins σ Q v s') s := fun l el => by
    have lg : (Builtin.Str.glued sep ts).length ≤ sizeLine := by
      rw [size_glued]
      refine Nat.le_trans ?_ hb
      have e : (ts.map fun t => t.length + sep.length).sum = (ts.map (·.length)).sum + ts.length * sep.length := by
        clear hb q hq el
        induction ts with
        | nil => simp
        | cons t ts ih => simp [ih, Nat.add_mul]; omega
      rw [e]
      exact Nat.add_le_add_left (Nat.mul_le_mul_right _ (Nat.sub_le _ _)) _
    have two : EP X pins σ Q (.str (Builtin.Str.glued sep ts) s.toks) { s with toks := s.toks + 1 } := ⟨.str (Str.join sep ts), H, I.tok _, ⟨s.toks, by rw [PySem.StrLaws.glued_eq_join]⟩, q⟩
    match l, el with
    | [], el => subst el; exact ⟨lg, two⟩
    | [p], el => subst el; exact ⟨.str p.1, H, I, ⟨p.2, rfl⟩, q⟩
    | p :: r :: l, el => subst el; exact ⟨lg, two⟩
  have hl : ∀ l : List (Str × Tok), l.map (·.1) = ts → Builtin.Str.tooLong ((l.map (·.1)).toArray.foldl (· + ·.length + sep.length) 0) = false := fun l el => by
    rw [el]
    unfold Builtin.Str.tooLong
    simp only [List.foldl_toArray]
    rw [join_fold]
    simp
    omega
  rcases hq with hq | hq
  · obtain ⟨its, rv, pl, hz⟩ := I.list hq
    obtain ⟨l, rfl, el⟩ := vals_texts rv
    exact call_meets PySem.F.slot_str_join (typeIs_str s sep t) PySem.F.entry_str_join (PySem.F.args_str_join_2 _ _) (meets_str_join_list sep t p l (hl l el)) ⟨pl.isList, fin l el⟩
  · obtain ⟨its, rv, pl, hz⟩ := I.tuple hq
    obtain ⟨l, rfl, el⟩ := vals_texts rv
    obtain ⟨o, g, c, n, d⟩ := pl
    exact call_meets PySem.F.slot_str_join (typeIs_str s sep t) PySem.F.entry_str_join (PySem.F.args_str_join_2 _ _) (meets_str_join_tuple sep t p l (hl l el)) ⟨⟨o, n, g, c, d⟩, fin l el⟩
end
end L2
namespace DL
open PySem PySem.Spec L2 L3
open PyProof.Rows hiding St
variable {Γ : Hp → Prop}
theorem reps_strsJ {K : PySem.W.Frag} {H : Hp} {O : List Addr} : ∀ {ns : List Str} {xs : List V}, Reps K H O (ns.map D.str) xs → xs = ns.map V.str
  | [], _, h => h
  | n :: ns, xs, h => by
    obtain ⟨v, r, rfl, q, t⟩ := h
    cases (show v = _ from q)
    rw [reps_strsJ t]
    rfl
section
variable {X : Cx} {o e : Expr} {td te : TD} {apos cpos : Pos}
/-- sep.join(xs): xs a list or a tuple of texts -/
noncomputable def dJoin1 (td te : TD) : TD := fun ρ φ => td ρ fun x => match x.d with
  | .str sep => te ρ fun y => (match y.d with
    | .lst ds => ∃ ts : List Str, ds = ts.map D.str ∧ (ts.map fun t => t.length + sep.length).sum ≤ sizeLine ∧ φ (dv (.str (Str.join sep ts)))
    | .tup ds => ∃ ts : List Str, ds = ts.map D.str ∧ (ts.map fun t => t.length + sep.length).sum ≤ sizeLine ∧ φ (dv (.str (Str.join sep ts)))
    | _ => False)
  | _ => False
theorem ed_join1 (ho : ED Γ X o td) (he : ED Γ X e te) (hbase : attributeBase o "join" X.env (eval o X.env) = eval o X.env := by rfl)
    (hfew : ((backTo cpos (starEach [e] X.env)).all (fun x => !x.1) && (backToKw cpos (keywordEach [] X.env)).all (fun x => x.1.isSome) && decide (([e] : List Expr).length + ([] : List Keyword).length + (if ([] : List Keyword).isEmpty then 0 else 1) < 30)) = true := by rfl)
    (hline : (apos.endLine == cpos.line) = true := by rfl) (hs : starEach [e] X.env = (false, eval e X.env) :: starEach [] X.env := by rfl) (hpl : (backTo cpos (starEach [] X.env)).any (·.1) = false := by rfl) :
    ED Γ X (.Call (.Attribute o "join" apos) [e] [] cpos) (dJoin1 td te) := fun H₀ =>
  impE (pe_bm PySem.F.plainAttrs_str PySem.F.slot_str_join PySem.F.type_str_join mt_join (ho H₀) (pa_cons (he H₀) pa_nil hs) hbase hfew hline hs hpl) fun σ H Q q => by
    obtain ⟨ρ, oo, R, φ, hφ, kk⟩ := q
    refine ⟨ρ, oo, R, _, hφ, fun v r H1 s1 rv h1 => ?_⟩
    obtain ⟨kd, d⟩ := r
    cases d with
    | str sep =>
      cases (show v = _ from rv.view)
      refine ⟨rfl, ρ, oo, R.to s1, _, h1, fun v2 r2 H2 s2 rv2 h2 => ?_⟩
      obtain ⟨kd2, d2⟩ := r2
      cases d2 with
      | lst ds =>
        obtain ⟨ts, rfl, hb, h2⟩ := h2
        obtain ⟨a, xs, rfl, q, rp⟩ := rv2.view
        cases reps_strsJ rp
        exact ⟨sep, a, ts, rfl, rfl, .inl (SqL.of q), hb, kk _ (dv (.str (Str.join sep ts))) H2 (s1.trans s2) (by exact rfl) h2⟩
      | tup ds =>
        obtain ⟨ts, rfl, hb, h2⟩ := h2
        obtain ⟨a, xs, rfl, q, rp⟩ := rv2.view
        cases reps_strsJ rp
        exact ⟨sep, a, ts, rfl, rfl, .inr q.1, hb, kk _ (dv (.str (Str.join sep ts))) H2 (s1.trans s2) (by exact rfl) h2⟩
      | _ => exact h2.elim
    | _ => exact h1.elim
end
end DL

set_option Elab.async false
set_option linter.all false
set_option maxRecDepth 100000
set_option maxHeartbeats 4000000
namespace L2
open PySem PySem.Spec PyProof.Rows
section
variable {X : Cx}
theorem mt_starts : MtR X "str.startswith" (fun x xs H Q => ∃ a b, x = .str a ∧ xs = [.str b] ∧ Q (.bl (Txt.startswith a b)) H) := by
  intro pins s σ H x xs v us Q I rx rs h
  obtain ⟨a, b, rfl, rfl, q⟩ := h
  obtain ⟨t, rfl⟩ := rx
  obtain ⟨u, rfl, ru⟩ := vals1 rs
  obtain ⟨t2, rfl⟩ := ru
  exact SC.startswith ⟨.bl _, H, I, rfl, q⟩
end
end L2
namespace DL
open PySem PySem.Spec L2 L3
open PyProof.Rows hiding St
variable {Γ : Hp → Prop}
section
variable {X : Cx} {o e : Expr} {td te : TD} {apos cpos : Pos}
/-- x.startswith(y) -/
noncomputable def dStarts (td te : TD) : TD := fun ρ φ => td ρ fun x => match x.d with
  | .str a => te ρ fun y => (match y.d with
    | .str b => φ (dv (.bl (Txt.startswith a b)))
    | _ => False)
  | _ => False
theorem ed_starts (ho : ED Γ X o td) (he : ED Γ X e te) (hbase : attributeBase o "startswith" X.env (eval o X.env) = eval o X.env := by rfl)
    (hfew : ((backTo cpos (starEach [e] X.env)).all (fun x => !x.1) && (backToKw cpos (keywordEach [] X.env)).all (fun x => x.1.isSome) && decide (([e] : List Expr).length + ([] : List Keyword).length + (if ([] : List Keyword).isEmpty then 0 else 1) < 30)) = true := by rfl)
    (hline : (apos.endLine == cpos.line) = true := by rfl) (hs : starEach [e] X.env = (false, eval e X.env) :: starEach [] X.env := by rfl) (hpl : (backTo cpos (starEach [] X.env)).any (·.1) = false := by rfl) :
    ED Γ X (.Call (.Attribute o "startswith" apos) [e] [] cpos) (dStarts td te) := fun H₀ =>
  impE (pe_bm PySem.F.plainAttrs_str PySem.F.slot_str_startswith PySem.F.type_str_startswith mt_starts (ho H₀) (pa_cons (he H₀) pa_nil hs) hbase hfew hline hs hpl) fun σ H Q q => by
    obtain ⟨ρ, oo, R, φ, hφ, kk⟩ := q
    refine ⟨ρ, oo, R, _, hφ, fun v r H1 s1 rv h1 => ?_⟩
    obtain ⟨kd, d⟩ := r
    cases d with
    | str a =>
      cases (show v = _ from rv.view)
      refine ⟨rfl, ρ, oo, R.to s1, _, h1, fun v2 r2 H2 s2 rv2 h2 => ?_⟩
      obtain ⟨kd2, d2⟩ := r2
      cases d2 with
      | str b =>
        cases (show v2 = _ from rv2.view)
        exact ⟨a, b, rfl, rfl, kk _ (dv (.bl _)) H2 (s1.trans s2) (by exact rfl) h2⟩
      | _ => exact h2.elim
    | _ => exact h1.elim
/-- x.split(y) -/
noncomputable def dSplit (td te : TD) : TD := fun ρ φ => td ρ fun x => match x.d with
  | .str a => te ρ fun y => (match y.d with
    | .str b => (b.length == 0) = false ∧ a.length ≤ sizeLine ∧ (Txt.split a b).length ≤ sizeLine ∧ φ (df (.lst ((Txt.split a b).map D.str)))
    | _ => False)
  | _ => False
end
end DL

set_option Elab.async false
set_option linter.all false
set_option maxRecDepth 100000
set_option maxHeartbeats 4000000
set_option exponentiation.threshold 5000
namespace L2
open PySem PySem.Spec PyProof.Rows
section
variable {X : Cx}
theorem call_intS : CallR X (.type "int") (fun xs H Q => ∃ z n, xs = [.str z] ∧ PySem.intText? z = some n ∧ z.length ≤ 640 ∧ Q (.int n) H) := by
  intro pins s σ H xs us Q I r h
  obtain ⟨z, n, rfl, hn, hl, q⟩ := h
  obtain ⟨u, rfl, ru⟩ := vals1 r
  obtain ⟨t, rfl⟩ := ru
  exact PySem.W.KIN.call_text hn hl ⟨.int n, H, I.tok _, ⟨_, rfl⟩, q⟩
end
end L2
namespace DL
open PySem PySem.Spec L2 L3
open PyProof.Rows hiding St
variable {Γ : Hp → Prop}
section
variable {X : Cx} {e : Expr} {es : List Expr} {t : TDs} {p pos : Pos}
/-- int(z), z a text of figures -/
noncomputable def sIntS : FT := fun ds φ => match ds with
  | [.str z] => ∃ n, PySem.intText? z = some n ∧ z.length ≤ 640 ∧ φ (dv (.int n))
  | _ => False
theorem ed_intS (hm : X.mg "int" = none) (ha : EA Γ X (e :: es) t) (hg : Gl X "int" := by rfl) (he : starEach (e :: es) X.env = (false, eval e X.env) :: starEach es X.env := by rfl) (hpl : (backTo pos (starEach es X.env)).any (·.1) = false := by rfl) : ED Γ X (.Call (.Name "int" p) (e :: es) [] pos) (dCB sIntS t) :=
  ed_callTy call_intS (fun H O ds vs φ Q ho hv h k => by
    unfold sIntS at h
    split at h
    · obtain ⟨n, hn, hl, h⟩ := h
      obtain ⟨v, ws, rfl, h1, rfl⟩ := hv
      cases (show v = _ from h1)
      exact ⟨_, n, rfl, hn, hl, k _ (dv (.int n)) H (Same.refl H) (by exact rfl) h⟩
    · exact h.elim) hm boot_int' ha hg (by decide) (by decide) he hpl
end
/-- the text of a number is read back -/
theorem int_back {i : Int} (h : i.natAbs < 10 ^ 60) : PySem.intText? (PySem.Str.ofString (toString i)) = some i := by
  have ec : (PySem.Str.ofString (toString i)).cps.toList = codes i := by unfold codes; rfl
  have len : ∀ m : Nat, m < 10 ^ 60 → ((Nat.toDigits 10 m).map Char.toNat).length ≤ 60 := fun m hm => by
    rw [List.length_map]
    exact (Nat.length_toDigits_le_iff (b := 10) (n := m) (k := 60) (by decide) (by decide)).mpr hm
  have ne : ∀ m : Nat, (Nat.toDigits 10 m).map Char.toNat ≠ [] := fun m e => by
    have := congrArg List.length e
    rw [List.length_map] at this
    exact absurd this (Nat.ne_of_gt (Nat.length_toDigits_pos))
  have sz : ∀ z : Str, z.length = z.cps.toList.length := fun z => (Array.length_toList).symm
  cases i with
  | ofNat m =>
    have e1 : (PySem.Str.ofString (toString (Int.ofNat m))).cps.toList = (Nat.toDigits 10 m).map Char.toNat := codes_nat m
    have hm : m < 10 ^ 60 := h
    have := PySem.intText_digits (x := PySem.Str.ofString (toString (Int.ofNat m))) (by rw [e1]; exact fun c hc => digit_range hc) (by rw [e1]; exact ne m) (by rw [sz, e1]; exact Nat.le_trans (len m hm) (by decide))
    rw [this, e1, PySem.W.KIN.val_back]
    rfl
  | negSucc m =>
    have e1 : (PySem.Str.ofString (toString (Int.negSucc m))).cps.toList = 45 :: (Nat.toDigits 10 (m + 1)).map Char.toNat := codes_neg m
    have hm : m + 1 < 10 ^ 60 := h
    have := PySem.intText_neg (x := PySem.Str.ofString (toString (Int.negSucc m))) e1 (fun c hc => digit_range hc) (ne _) (by rw [sz, e1, List.length_cons]; have := len (m + 1) hm; omega)
    rw [this, PySem.W.KIN.val_back]
    rfl
end DL

set_option Elab.async false
set_option linter.all false
set_option maxRecDepth 100000
set_option maxHeartbeats 4000000
namespace L3
open PySem PySem.Spec L2
open PyProof.Rows hiding St

section
variable {prog : Program} {w : World} {A : Around} {R : Result → Shared → Prop} {s : Shared}
end
section
variable {X : Cx} {pins : List (Addr × Obj)} {σ : St} {H H' : Hp} {s s' : Shared} {scope : Scope} {cl : List (Str × Addr)} {C : Addr} {fp : List Addr}
end
end L3
namespace DL
open PySem PySem.Spec L2 L3
open PyProof.Rows hiding St
section
variable {M : Model} {A : Around} {E : Value → Shared → Prop} {s : Shared} {base : Heap} {env : Env} {outer l : List Env} {L e : Addr} {cls a0 fl : Value}
end
end DL
namespace L3
open PySem PySem.Spec L2
open PyProof.Rows hiding St
section
variable {X : Cx} {pins : List (Addr × Obj)} {σ : St} {H2 : Hp} {s2 : Shared} {scope : Scope} {T F : List Str} {cl : List (Str × Addr)} {fp : List Addr} {js : List Nat} {tg iter elt : Expr} {ifs : List Expr} {pos : Pos}
  {g : TG} {tc : TT} {te : TE} {J : It} {it : Addr} {tn : Nat → Heap → Prop} {E : Value → Shared → Prop} {RR : Value → Addr → Result → Shared → Prop}

end
end L3

set_option Elab.async false
set_option linter.all false
set_option maxRecDepth 100000
set_option maxHeartbeats 4000000
namespace L2
open PySem PySem.Spec PyProof.Rows
/-- x[lo:hi] of a text -/
noncomputable def cutS (x : Str) (lo hi : Option Int) : Str := ⟨((x.cps.toList.drop (HT.sIx x.length 0 lo)).take (HT.sIx x.length x.length hi - HT.sIx x.length 0 lo)).toArray⟩
theorem clip_lo (n : Nat) (lo : Option Int) : (match lo with | none => (0 : Int) | some i => max 0 (min (if i < 0 then i + (n : Int) else i) (n : Int))) = ((min (HT.sIx n 0 lo) n : Nat) : Int) := by
  cases lo with
  | none => simp [HT.sIx]
  | some i =>
    simp only [HT.sIx]
    by_cases h : i < 0
    · simp only [h, if_true] <;> omega
    · simp only [h, if_false] <;> omega
theorem clip_hi (n : Nat) (hi : Option Int) : (match hi with | none => (n : Int) | some i => max 0 (min (if i < 0 then i + (n : Int) else i) (n : Int))) = ((min (HT.sIx n n hi) n : Nat) : Int) := by
  cases hi with
  | none => simp [HT.sIx]
  | some i =>
    simp only [HT.sIx]
    by_cases h : i < 0
    · simp only [h, if_true] <;> omega
    · simp only [h, if_false] <;> omega
theorem sIx_le (n d : Nat) (hd : d ≤ n) (o : Option Int) : HT.sIx n d o ≤ n := by
  cases o with
  | none => exact hd
  | some i =>
    simp only [HT.sIx]
    by_cases h : i < 0
    · simp only [h, if_true] <;> omega
    · simp only [h, if_false] <;> omega
theorem ixs_cut (lo hi : Option Int) (n : Nat) : Builtin.Str.strSliceIndices lo hi 1 n = (List.range (HT.sIx n n hi - HT.sIx n 0 lo)).map (HT.sIx n 0 lo + ·) := by
  have e : Builtin.Str.strSliceIndices lo hi 1 n = sliceRange (match lo with | none => (0 : Int) | some i => max 0 (min (if i < 0 then i + (n : Int) else i) (n : Int))) (match hi with | none => (n : Int) | some i => max 0 (min (if i < 0 then i + (n : Int) else i) (n : Int))) 1 := by
    unfold Builtin.Str.strSliceIndices
    simp only [show (1 : Int) > 0 by decide, if_true]
    cases lo <;> cases hi <;> rfl
  rw [e, clip_lo, clip_hi, Nat.min_eq_left (sIx_le n 0 (Nat.zero_le _) lo), Nat.min_eq_left (sIx_le n n (Nat.le_refl _) hi), sliceRange_one]
theorem slice_cut (x : Str) (lo hi : Option Int) : Txt.slice x lo hi = cutS x lo hi := by
  unfold Txt.slice
  rw [ixs_cut]
  have pk := pick_run x.cps (HT.sIx x.length 0 lo) (HT.sIx x.length x.length hi - HT.sIx x.length 0 lo)
  rw [pk]
  have n : x.length = x.cps.toList.length := (Array.length_toList).symm
  split
  · rename_i h
    simp only [List.length_map, List.length_range, Bool.and_eq_true, beq_iff_eq] at h
    have h2 := sIx_le x.length x.length (Nat.le_refl _) hi
    have h1 := sIx_le x.length 0 (Nat.zero_le _) lo
    have h3 : HT.sIx x.length 0 lo = 0 := by omega
    have h4 : HT.sIx x.length x.length hi = x.length := by omega
    unfold cutS
    rw [h3, h4, Nat.sub_zero, List.drop_zero, n, List.take_length]
  · rfl
section
variable {X : Cx}
theorem part_of {v : Value} {o : Option Int} (h : IsPart v o) : ∃ p : Option (Int × Tok), p.map (·.1) = o ∧ v = partValue p := by
  cases o with
  | none => exact ⟨none, rfl, by cases h; rfl⟩
  | some i => first | (obtain ⟨t, rfl⟩ := h; exact ⟨some (i, t), rfl, rfl⟩) | (cases h; exact ⟨some (i, _), rfl, rfl⟩)
theorem sl_str : SlR X (fun x lo hi H Q => ∃ z, x = .str z ∧ z.length ≤ sizeLine ∧ Q (.str (cutS z lo hi)) H) := by
  intro pins s σ H x v vl vu lo hi sl Q I rx hs pl pu h
  obtain ⟨z, rfl, hz, q⟩ := h
  obtain ⟨t, rfl⟩ := rx
  obtain ⟨p1, rfl, rfl⟩ := part_of pl
  obtain ⟨p2, rfl, rfl⟩ := part_of pu
  obtain ⟨o, ho, hc, hd⟩ := hs
  refine ⟨"str", _, F.slot_str_getitem.lookup, typeIs_str _ _ _, wpAny_getItem_str_slice (l := p1) (u := p2) (st := none) ⟨o, ho, hc, hd⟩ rfl ?_⟩
  refine post_val_or_str ⟨Nat.le_trans (Txt.slice_le z _ _) hz, fun t' k => ⟨.str (cutS z (p1.map (·.1)) (p2.map (·.1))), H, I.tok _, ⟨t', ?_⟩, q⟩⟩
  rw [← slice_cut]
  rfl
/-- a sign, n times -/
noncomputable def repS (x : Str) (n : Int) : Str := ⟨(List.replicate n.toNat x.cps).foldl (· ++ ·) #[]⟩
theorem repS_len (x : Str) (n : Int) : (repS x n).length = n.toNat * x.length := by
  have : ∀ (k : Nat) (a : Array Nat), ((List.replicate k x.cps).foldl (· ++ ·) a).size = a.size + k * x.cps.size := fun k => by
    induction k with
    | zero => intro a; simp
    | succ k ih => intro a; rw [List.replicate_succ, List.foldl_cons, ih, Array.size_append, Nat.succ_mul]; omega
  have := this n.toNat #[]
  unfold repS
  show Array.size _ = _
  rw [this]
  show 0 + _ = _
  rw [Nat.zero_add]
  rfl
theorem op_mulS : OpR X (binaryOp .Mult) (fun x y H Q => ∃ z n, x = .str z ∧ y = .int n ∧ z.length = 1 ∧ 1 < n ∧ n ≤ 10000 ∧ Q (.str (repS z n)) H) := by
  intro pins s σ H x y v u Q I rx ry h
  obtain ⟨z, n, rfl, rfl, hz, h1, h2, q⟩ := h
  obtain ⟨t, rfl⟩ := rx
  obtain ⟨t', rfl⟩ := ry
  have nl : (repS z n).length ≤ sizeLine := by
    rw [repS_len, hz]
    have : n.toNat ≤ 10000 := by omega
    refine Nat.le_trans (show n.toNat * 1 ≤ 10000 by omega) (by decide)
  refine P.mul_str ?_ (fun _ _ => ?_) (fun _ _ => ?_) ?_
  · have a1 : ¬ n < -(2 ^ 63 : Int) := by omega
    have a2 : ¬ n ≥ 2 ^ 63 := by omega
    rw [decide_eq_false a1, decide_eq_false a2]
    rfl
  · rw [hz]
    have : (2 ^ 63 - 1 : Int) / n ≥ 1 := by
      refine (Int.le_ediv_iff_mul_le (by omega)).mpr ?_
      omega
    intro z
    have z' : ((1 : Nat) : Int) > (2 ^ 63 - 1) / n := z
    omega
  · have : z.length * n.toNat ≤ 10000 := by rw [hz]; omega
    show decide _ = false
    exact decide_eq_false (fun c => absurd (Nat.lt_of_lt_of_le c this) (by decide))
  · rw [if_neg (by omega), if_neg (by
      rw [hz]
      simp
      omega)]
    exact ⟨nl, ⟨.str (repS z n), H, I.tok _, ⟨_, rfl⟩, q⟩⟩
end
end L2
namespace DL
open PySem PySem.Spec L2 L3
open PyProof.Rows hiding St
variable {Γ : Hp → Prop}
section
variable {X : Cx} {o e : Expr} {td te : TD} {apos cpos pos : Pos}
noncomputable def sSlS : D → Option Int → Option Int → (EV → Prop) → Prop := fun x lo hi φ => match x with
  | .str z => z.length ≤ sizeLine ∧ φ (dv (.str (cutS z lo hi)))
  | _ => False
noncomputable def dSlS (te : TD) (tl th : TDo) : TD := fun ρ φ => te ρ fun x => tl ρ fun l => th ρ fun u => sSlS x.d l u φ
/-- x[lo:hi] of a text -/
theorem ed_sliceS {lo hi : Option Expr} {tl th : TDo} {p2 : Pos} (he : ED Γ X e te) (hl : EO Γ X lo tl) (hu : EO Γ X hi th) : ED Γ X (.Subscript e (.Slice lo hi none p2) pos) (dSlS te tl th) := fun H₀ =>
  impE (pe_slice sl_str (he H₀) (hl H₀) (hu H₀)) fun σ H Q q => by
    obtain ⟨ρ, o, R, φ, hφ, k⟩ := q
    refine ⟨ρ, o, R, _, hφ, fun v r H1 s1 rv h1 => ⟨ρ, o, R.to s1, _, h1, fun l H2 s2 h2 => ⟨ρ, o, R.to (s1.trans s2), _, h2, fun u H3 s3 h3 => ?_⟩⟩⟩
    have s13 := (s1.trans s2).trans s3
    obtain ⟨kd, d⟩ := r
    cases d with
    | str z =>
      cases (show v = _ from rv.view)
      exact ⟨z, rfl, h3.1, k _ (dv (.str _)) H3 s13 (by exact rfl) h3.2⟩
    | _ => exact h3.elim
/-- x.endswith(y) -/
noncomputable def dEnds (td te : TD) : TD := fun ρ φ => td ρ fun x => match x.d with
  | .str a => te ρ fun y => (match y.d with
    | .str b => φ (dv (.bl (Txt.endswith a b)))
    | _ => False)
  | _ => False
/-- a sign * a number -/
noncomputable def sMulS : D → D → (EV → Prop) → Prop := fun x y φ => match x, y with
  | .str z, .int n => z.length = 1 ∧ 1 < n ∧ n ≤ 10000 ∧ φ (dv (.str (repS z n)))
  | _, _ => False
theorem link_mulS : Link2 X.K (fun x y H Q => ∃ z n, x = .str z ∧ y = .int n ∧ z.length = 1 ∧ 1 < n ∧ n ≤ 10000 ∧ Q (.str (repS z n)) H) sMulS := by
  intro H O x y vx vy φ Q ho hx hy h k
  unfold sMulS at h
  split at h
  · exact ⟨_, _, hx, hy, h.1, h.2.1, h.2.2.1, k _ (dv (.str _)) H (Same.refl H) (by exact rfl) h.2.2.2⟩
  · exact h.elim
theorem ed_mulS {a b : Expr} {ta tb : TD} (ha : ED Γ X a ta) (hb : ED Γ X b tb) : ED Γ X (.BinOp a .Mult b pos) (d2 sMulS ta tb) := ed_bin op_mulS link_mulS ha hb
end
section
variable {P : Program} {w : World} {K : PySem.W.Frag} {mg : Str → Option Value} {base : Heap}
end
section
variable {X : Cx} {σ : St} {scope : Scope} {T F : List Str} {js : List Nat} {tg iter elt : Expr} {ifs : List Expr} {pos : Pos} {ti : TID} {g2 : TG} {g : TGD} {tc : TDb} {te : TD}
end
end DL

set_option Elab.async false
set_option linter.all false
set_option maxRecDepth 100000
set_option maxHeartbeats 8000000
set_option exponentiation.threshold 5000
namespace K80
open PySem PySem.Spec L2 L3 DL
open PyProof.Rows hiding St
noncomputable abbrev cd (z : Str) : List Nat := z.cps.toList
theorem cd_app (a b : Str) : cd (a ++ b) = cd a ++ cd b := Array.toList_append
theorem cd_len (z : Str) : z.length = (cd z).length := Array.length_toList.symm
theorem cd_inj {a b : Str} (h : cd a = cd b) : a = b := by
  cases a; cases b
  exact congrArg Str.mk (Array.toList_inj.mp h)
theorem cd_cut (z : Str) (lo hi : Option Int) : cd (cutS z lo hi) = ((cd z).drop (HT.sIx (cd z).length 0 lo)).take (HT.sIx (cd z).length (cd z).length hi - HT.sIx (cd z).length 0 lo) := by
  unfold cutS
  rw [cd_len]
theorem st_head (z : Str) (c : Nat) : Txt.startswith z ⟨#[c]⟩ = decide ((cd z).head? = some c) := by
  obtain ⟨⟨l⟩⟩ := z
  cases l with
  | nil => rfl
  | cons a l =>
    show (decide (0 + 1 ≤ (a :: l).length) && (Array.extract ⟨a :: l⟩ 0 (0 + 1) == #[c])) = _
    have e : Array.extract ⟨a :: l⟩ 0 (0 + 1) = #[a] := by
      apply Array.toList_inj.mp
      simp [List.extract_eq_drop_take]
    rw [e]
    show (decide (0 + 1 ≤ (a :: l).length) && (#[a] == #[c])) = decide (some a = some c)
    have h1 : decide (0 + 1 ≤ (a :: l).length) = true := decide_eq_true (by simp)
    rw [h1, Bool.true_and]
    by_cases h : a = c
    · subst h; simp
    · rw [decide_eq_false (by simpa using h)]
      simp [h]
noncomputable def figs (l : List Nat) : List Nat := if l.head? = some 45 then l.tail else l
noncomputable def digB (c : Nat) : Bool := decide (48 ≤ c ∧ c ≤ 57)
noncomputable def numL (l : List Nat) : Bool := decide (1 ≤ (figs l).length ∧ (figs l).length ≤ 60) && (figs l).all digB && (decide (l = [48]) || !decide ((figs l).head? = some 48))
noncomputable def isNum (z : Str) : Bool := numL (cd z)
noncomputable def rn (z : Str) : Int := (PySem.intText? z).getD 0
theorem num_bad {l : List Nat} {c : Nat} (h : c ∈ figs l) (hd : digB c = false) : numL l = false := by
  have : (figs l).all digB = false := by
    rw [List.all_eq_false]
    exact ⟨c, h, by rw [hd]; exact Bool.false_ne_true⟩
  unfold numL
  rw [this, Bool.and_false, Bool.false_and]
theorem mem_figs {l : List Nat} {c : Nat} (h : c ∈ l) (hc : c ≠ 45) : c ∈ figs l := by
  unfold figs
  split
  · rename_i e
    cases l with
    | nil => cases h
    | cons a r =>
      cases e
      rcases List.mem_cons.mp h with rfl | h
      · exact absurd rfl hc
      · exact h
  · exact h
noncomputable def badB (c : Nat) : Bool := decide (c ≠ 44 ∧ c ≠ 45) && !digB c
theorem num_badB {l : List Nat} {c : Nat} (h : c ∈ l) (hb : badB c = true) : numL l = false := by
  simp only [badB, Bool.and_eq_true, decide_eq_true_eq, Bool.not_eq_true'] at hb
  exact num_bad (mem_figs h hb.1.2) hb.2
theorem num_int {z : Str} (h : isNum z = true) : ∃ n, PySem.intText? z = some n ∧ z.length ≤ 640 := by
  unfold isNum numL at h
  simp only [Bool.and_eq_true, decide_eq_true_eq] at h
  obtain ⟨⟨⟨h1, h2⟩, h3⟩, _⟩ := h
  rw [List.all_eq_true] at h3
  have dig : ∀ c ∈ figs (cd z), 48 ≤ c ∧ c ≤ 57 := fun c hc => by simpa [digB] using h3 c hc
  have ne : figs (cd z) ≠ [] := fun e => by rw [e] at h1; simp at h1
  by_cases hh : (cd z).head? = some 45
  · have e : cd z = 45 :: figs (cd z) := by
      unfold figs
      rw [if_pos hh]
      cases q : cd z with
      | nil => rw [q] at hh; cases hh
      | cons a r => rw [q] at hh; cases hh; rfl
    have hl : z.length ≤ 61 := by
      rw [cd_len, e, List.length_cons]
      omega
    exact ⟨_, PySem.intText_neg e dig ne (Nat.le_trans hl (by decide)), Nat.le_trans hl (by decide)⟩
  · have e : figs (cd z) = cd z := by
      unfold figs
      rw [if_neg hh]
    rw [e] at dig ne h2
    have hl : z.length ≤ 60 := by rw [cd_len]; exact h2
    exact ⟨_, PySem.intText_digits dig ne (Nat.le_trans hl (by decide)), Nat.le_trans hl (by decide)⟩
noncomputable def toS (n : Int) : Str := PySem.Str.ofString (toString n)
theorem digits_head : ∀ m : Nat, 0 < m → ∃ c r, (Nat.toDigits 10 m).map Char.toNat = c :: r ∧ c ≠ 48 := fun m => by
  induction m using Nat.strongRecOn with
  | ind m ih =>
    intro hm
    by_cases h : m < 10
    · rw [Nat.toDigits_of_lt_base h]
      refine ⟨_, [], rfl, ?_⟩
      have : ∀ k : Fin 10, 0 < k.val → (k.val.digitChar).toNat ≠ 48 := by decide
      exact this ⟨m, h⟩ hm
    · rw [Nat.toDigits_of_base_le (by decide) (by omega), List.map_append]
      obtain ⟨c, r, e, hc⟩ := ih (m / 10) (by omega) (by omega)
      rw [e]
      exact ⟨c, _, rfl, hc⟩
theorem digits_len {m : Nat} (h : m < 10 ^ 60) : ((Nat.toDigits 10 m).map Char.toNat).length ≤ 60 := by
  rw [List.length_map]
  exact (Nat.length_toDigits_le_iff (b := 10) (n := m) (k := 60) (by decide) (by decide)).mpr h
theorem digits_pos (m : Nat) : 1 ≤ ((Nat.toDigits 10 m).map Char.toNat).length := by
  rw [List.length_map]
  exact Nat.length_toDigits_pos
theorem digits_all (m : Nat) : ((Nat.toDigits 10 m).map Char.toNat).all digB = true := by
  rw [List.all_eq_true]
  intro c hc
  exact decide_eq_true (digit_range hc)
theorem num_toS {i : Int} (h : i.natAbs < 10 ^ 60) : isNum (toS i) = true := by
  unfold isNum
  have ec : cd (toS i) = codes i := rfl
  rw [ec]
  cases i with
  | ofNat m =>
    have e1 : codes (Int.ofNat m) = (Nat.toDigits 10 m).map Char.toNat := codes_nat m
    rw [e1]
    have hm : m < 10 ^ 60 := h
    have hh : figs ((Nat.toDigits 10 m).map Char.toNat) = (Nat.toDigits 10 m).map Char.toNat := by
      unfold figs
      rw [if_neg]
      intro e
      have := digit_range (m := m) (List.mem_of_mem_head? e)
      omega
    unfold numL
    rw [hh, decide_eq_true ⟨digits_pos m, digits_len hm⟩, digits_all, Bool.and_true, Bool.true_and]
    by_cases h0 : m = 0
    · subst h0
      rfl
    · obtain ⟨c, r, e, hc⟩ := digits_head m (by omega)
      rw [e]
      simp [hc]
  | negSucc m =>
    have e1 : codes (Int.negSucc m) = 45 :: (Nat.toDigits 10 (m + 1)).map Char.toNat := codes_neg m
    rw [e1]
    have hm : m + 1 < 10 ^ 60 := h
    have hh : figs (45 :: (Nat.toDigits 10 (m + 1)).map Char.toNat) = (Nat.toDigits 10 (m + 1)).map Char.toNat := rfl
    unfold numL
    rw [hh, decide_eq_true ⟨digits_pos _, digits_len hm⟩, digits_all, Bool.and_true, Bool.true_and]
    obtain ⟨c, r, e, hc⟩ := digits_head (m + 1) (by omega)
    rw [e]
    simp [hc]
theorem rn_toS {i : Int} (h : i.natAbs < 10 ^ 60) : rn (toS i) = i := by
  unfold rn toS
  rw [int_back h]
  rfl
theorem toS_ne (i : Int) : cd (toS i) ≠ [] := fun e => by
  have ec : cd (toS i) = codes i := rfl
  rw [ec] at e
  cases i with
  | ofNat m =>
    have e1 : codes (Int.ofNat m) = (Nat.toDigits 10 m).map Char.toNat := codes_nat m
    rw [e1] at e
    have := digits_pos m
    rw [e] at this
    cases this
  | negSucc m =>
    have e1 : codes (Int.negSucc m) = 45 :: (Nat.toDigits 10 (m + 1)).map Char.toNat := codes_neg m
    rw [e1] at e
    cases e
theorem toS_len {i : Int} (h : i.natAbs < 10 ^ 60) : (toS i).length ≤ 61 := by
  have ec : cd (toS i) = codes i := rfl
  rw [cd_len, ec]
  cases i with
  | ofNat m =>
    have e1 : codes (Int.ofNat m) = (Nat.toDigits 10 m).map Char.toNat := codes_nat m
    rw [e1]
    exact Nat.le_trans (digits_len h) (by decide)
  | negSucc m =>
    have e1 : codes (Int.negSucc m) = 45 :: (Nat.toDigits 10 (m + 1)).map Char.toNat := codes_neg m
    rw [e1, List.length_cons]
    have := digits_len (m := m + 1) h
    omega
end K80

set_option Elab.async false
set_option linter.all false
set_option maxRecDepth 100000
set_option maxHeartbeats 8000000
set_option exponentiation.threshold 5000
namespace K80
open PySem PySem.Spec L2 L3 DL
open PyProof.Rows hiding St
noncomputable def cm : Str := ⟨#[44]⟩
theorem app_inj : ∀ {w w' r r' : List Nat}, 44 ∉ w → 44 ∉ w' → w ++ 44 :: r = w' ++ 44 :: r' → w = w' ∧ r = r'
  | [], [], _, _, _, _, e => ⟨rfl, (List.cons.inj e).2⟩
  | [], b :: w', _, _, _, h, e => absurd (List.mem_cons.mpr (.inl (List.cons.inj e).1)) h
  | a :: w, [], _, _, h, _, e => absurd (List.mem_cons.mpr (.inl (List.cons.inj e).1.symm)) h
  | a :: w, b :: w', r, r', h, h', e => by
    obtain ⟨e1, e2⟩ := List.cons.inj e
    obtain ⟨e3, e4⟩ := app_inj (fun z => h (List.mem_cons_of_mem _ z)) (fun z => h' (List.mem_cons_of_mem _ z)) e2
    exact ⟨by rw [e1, e3], e4⟩
noncomputable def inner (t : Str) : Str := cutS t (some 1) (some (-1))
noncomputable def rl (t : Str) : Option (List Int) :=
  if cd t = [91, 93] then some []
  else if (cd t).head? = some 91 ∧ (cd t).getLast? = some 93 then
    (if (Txt.split (inner t) cm).length ≤ 40 ∧ (Txt.split (inner t) cm).all isNum = true then some ((Txt.split (inner t) cm).map rn) else none)
  else none
/-- the text of a list of words -/
noncomputable def lb : Str := ⟨#[91]⟩
end K80

set_option Elab.async false
set_option linter.all false
set_option maxRecDepth 100000
set_option maxHeartbeats 4000000
namespace L2
open PySem PySem.Spec PyProof.Rows
section
variable {X : Cx}
theorem mt_starts3 : MtR X "str.startswith" (fun x xs H Q => ∃ a b i, x = .str a ∧ xs = [.str b, .int i] ∧ Q (.bl (Txt.startswith3 a b i)) H) := by
  intro pins s σ H x xs v us Q I rx rs h
  obtain ⟨a, b, i, rfl, rfl, q⟩ := h
  obtain ⟨t, rfl⟩ := rx
  obtain ⟨u, u2, rfl, ru, ru2⟩ := vals2 rs
  obtain ⟨t2, rfl⟩ := ru
  obtain ⟨t3, rfl⟩ := ru2
  exact SC.startswith3 ⟨.bl _, H, I, rfl, q⟩
theorem mt_find3 : MtR X "str.find" (fun x xs H Q => ∃ a b i, x = .str a ∧ xs = [.str b, .int i] ∧ Q (.int (Txt.find3 a b i)) H) := by
  intro pins s σ H x xs v us Q I rx rs h
  obtain ⟨a, b, i, rfl, rfl, q⟩ := h
  obtain ⟨t, rfl⟩ := rx
  obtain ⟨u, u2, rfl, ru, ru2⟩ := vals2 rs
  obtain ⟨t2, rfl⟩ := ru
  obtain ⟨t3, rfl⟩ := ru2
  exact SC.find3 ⟨.int _, H, I.tok _, ⟨_, rfl⟩, q⟩
theorem mt_count : MtR X "str.count" (fun x xs H Q => ∃ a b, x = .str a ∧ xs = [.str b] ∧ Q (.int (Txt.count a b)) H) := by
  intro pins s σ H x xs v us Q I rx rs h
  obtain ⟨a, b, rfl, rfl, q⟩ := h
  obtain ⟨t, rfl⟩ := rx
  obtain ⟨u, rfl, ru⟩ := vals1 rs
  obtain ⟨t2, rfl⟩ := ru
  exact SC.count ⟨.int _, H, I.tok _, ⟨_, rfl⟩, q⟩
/-- a text, n times -/
theorem op_mulT : OpR X (binaryOp .Mult) (fun x y H Q => ∃ z n, x = .str z ∧ y = .int n ∧ 1 ≤ z.length ∧ 1 ≤ n ∧ z.length * n.toNat ≤ 10000 ∧ Q (.str (repS z n)) H) := by
  intro pins s σ H x y v u Q I rx ry h
  obtain ⟨z, n, rfl, rfl, hz, h1, h2, q⟩ := h
  obtain ⟨t, rfl⟩ := rx
  obtain ⟨t', rfl⟩ := ry
  have hn : n.toNat ≤ 10000 := Nat.le_trans (Nat.le_mul_of_pos_left _ hz) h2
  have nl : (repS z n).length ≤ sizeLine := by
    rw [repS_len, Nat.mul_comm]
    exact Nat.le_trans h2 (by decide)
  refine P.mul_str ?_ (fun _ _ => ?_) (fun _ _ => ?_) ?_
  · have a1 : ¬ n < -(2 ^ 63 : Int) := by omega
    have a2 : ¬ n ≥ 2 ^ 63 := by omega
    rw [decide_eq_false a1, decide_eq_false a2]
    rfl
  · have hz2 : z.length ≤ 10000 := Nat.le_trans (Nat.le_mul_of_pos_right _ (by omega)) h2
    have : (2 ^ 63 - 1 : Int) / n ≥ 10000 := by
      refine (Int.le_ediv_iff_mul_le (by omega)).mpr ?_
      omega
    intro z'
    omega
  · show decide _ = false
    exact decide_eq_false (fun c => absurd (Nat.lt_of_lt_of_le c h2) (by decide))
  · rw [if_neg (by omega)]
    by_cases hn1 : n = 1
    · subst hn1
      rw [if_pos (by rfl)]
      have e : repS z 1 = z := by
        unfold repS
        show (⟨#[] ++ z.cps⟩ : Str) = z
        rw [Array.empty_append]
      rw [e] at q
      exact ⟨.str z, H, I, ⟨_, rfl⟩, q⟩
    · rw [if_neg (by
        simp
        omega)]
      exact ⟨nl, ⟨.str (repS z n), H, I.tok _, ⟨_, rfl⟩, q⟩⟩
end
end L2
namespace DL
open PySem PySem.Spec L2 L3
open PyProof.Rows hiding St
variable {Γ : Hp → Prop}
section
variable {X : Cx} {o e e2 : Expr} {td te te2 : TD} {apos cpos pos : Pos}
/-- x.startswith(y, i) -/
noncomputable def dStarts3 (td te te2 : TD) : TD := fun ρ φ => td ρ fun x => match x.d with
  | .str a => te ρ fun y => (match y.d with
    | .str b => te2 ρ fun z => (match z.d with
      | .int i => φ (dv (.bl (Txt.startswith3 a b i)))
      | _ => False)
    | _ => False)
  | _ => False
theorem ed_starts3 (ho : ED Γ X o td) (he : ED Γ X e te) (he2 : ED Γ X e2 te2) (hbase : attributeBase o "startswith" X.env (eval o X.env) = eval o X.env := by rfl)
    (hfew : ((backTo cpos (starEach [e, e2] X.env)).all (fun x => !x.1) && (backToKw cpos (keywordEach [] X.env)).all (fun x => x.1.isSome) && decide (([e, e2] : List Expr).length + ([] : List Keyword).length + (if ([] : List Keyword).isEmpty then 0 else 1) < 30)) = true := by rfl)
    (hline : (apos.endLine == cpos.line) = true := by rfl) (hs : starEach [e, e2] X.env = (false, eval e X.env) :: starEach [e2] X.env := by rfl) (hs2 : starEach [e2] X.env = (false, eval e2 X.env) :: starEach [] X.env := by rfl) (hpl : (backTo cpos (starEach [e2] X.env)).any (·.1) = false := by rfl) :
    ED Γ X (.Call (.Attribute o "startswith" apos) [e, e2] [] cpos) (dStarts3 td te te2) := fun H₀ =>
  impE (pe_bm PySem.F.plainAttrs_str PySem.F.slot_str_startswith PySem.F.type_str_startswith mt_starts3 (ho H₀) (pa_cons (he H₀) (pa_cons (he2 H₀) pa_nil hs2) hs) hbase hfew hline hs hpl) fun σ H Q q => by
    obtain ⟨ρ, oo, R, φ, hφ, kk⟩ := q
    refine ⟨ρ, oo, R, _, hφ, fun v r H1 s1 rv h1 => ?_⟩
    obtain ⟨kd, d⟩ := r
    cases d with
    | str a =>
      cases (show v = _ from rv.view)
      refine ⟨rfl, ρ, oo, R.to s1, _, h1, fun v2 r2 H2 s2 rv2 h2 => ?_⟩
      obtain ⟨kd2, d2⟩ := r2
      cases d2 with
      | str b =>
        cases (show v2 = _ from rv2.view)
        refine ⟨ρ, oo, R.to (s1.trans s2), _, h2, fun v3 r3 H3 s3 rv3 h3 => ?_⟩
        obtain ⟨kd3, d3⟩ := r3
        cases d3 with
        | int i =>
          cases (show v3 = _ from rv3.view)
          exact ⟨a, b, i, rfl, rfl, kk _ (dv (.bl _)) H3 ((s1.trans s2).trans s3) (by exact rfl) h3⟩
        | _ => exact h3.elim
      | _ => exact h2.elim
    | _ => exact h1.elim
/-- x.find(y, i) -/
noncomputable def dFind3 (td te te2 : TD) : TD := fun ρ φ => td ρ fun x => match x.d with
  | .str a => te ρ fun y => (match y.d with
    | .str b => te2 ρ fun z => (match z.d with
      | .int i => φ (dv (.int (Txt.find3 a b i)))
      | _ => False)
    | _ => False)
  | _ => False
theorem ed_find3 (ho : ED Γ X o td) (he : ED Γ X e te) (he2 : ED Γ X e2 te2) (hbase : attributeBase o "find" X.env (eval o X.env) = eval o X.env := by rfl)
    (hfew : ((backTo cpos (starEach [e, e2] X.env)).all (fun x => !x.1) && (backToKw cpos (keywordEach [] X.env)).all (fun x => x.1.isSome) && decide (([e, e2] : List Expr).length + ([] : List Keyword).length + (if ([] : List Keyword).isEmpty then 0 else 1) < 30)) = true := by rfl)
    (hline : (apos.endLine == cpos.line) = true := by rfl) (hs : starEach [e, e2] X.env = (false, eval e X.env) :: starEach [e2] X.env := by rfl) (hs2 : starEach [e2] X.env = (false, eval e2 X.env) :: starEach [] X.env := by rfl) (hpl : (backTo cpos (starEach [e2] X.env)).any (·.1) = false := by rfl) :
    ED Γ X (.Call (.Attribute o "find" apos) [e, e2] [] cpos) (dFind3 td te te2) := fun H₀ =>
  impE (pe_bm PySem.F.plainAttrs_str PySem.F.slot_str_find PySem.F.type_str_find mt_find3 (ho H₀) (pa_cons (he H₀) (pa_cons (he2 H₀) pa_nil hs2) hs) hbase hfew hline hs hpl) fun σ H Q q => by
    obtain ⟨ρ, oo, R, φ, hφ, kk⟩ := q
    refine ⟨ρ, oo, R, _, hφ, fun v r H1 s1 rv h1 => ?_⟩
    obtain ⟨kd, d⟩ := r
    cases d with
    | str a =>
      cases (show v = _ from rv.view)
      refine ⟨rfl, ρ, oo, R.to s1, _, h1, fun v2 r2 H2 s2 rv2 h2 => ?_⟩
      obtain ⟨kd2, d2⟩ := r2
      cases d2 with
      | str b =>
        cases (show v2 = _ from rv2.view)
        refine ⟨ρ, oo, R.to (s1.trans s2), _, h2, fun v3 r3 H3 s3 rv3 h3 => ?_⟩
        obtain ⟨kd3, d3⟩ := r3
        cases d3 with
        | int i =>
          cases (show v3 = _ from rv3.view)
          exact ⟨a, b, i, rfl, rfl, kk _ (dv (.int _)) H3 ((s1.trans s2).trans s3) (by exact rfl) h3⟩
        | _ => exact h3.elim
      | _ => exact h2.elim
    | _ => exact h1.elim
/-- x.count(y) -/
noncomputable def dCount (td te : TD) : TD := fun ρ φ => td ρ fun x => match x.d with
  | .str a => te ρ fun y => (match y.d with
    | .str b => φ (dv (.int (Txt.count a b)))
    | _ => False)
  | _ => False
theorem ed_count (ho : ED Γ X o td) (he : ED Γ X e te) (hbase : attributeBase o "count" X.env (eval o X.env) = eval o X.env := by rfl)
    (hfew : ((backTo cpos (starEach [e] X.env)).all (fun x => !x.1) && (backToKw cpos (keywordEach [] X.env)).all (fun x => x.1.isSome) && decide (([e] : List Expr).length + ([] : List Keyword).length + (if ([] : List Keyword).isEmpty then 0 else 1) < 30)) = true := by rfl)
    (hline : (apos.endLine == cpos.line) = true := by rfl) (hs : starEach [e] X.env = (false, eval e X.env) :: starEach [] X.env := by rfl) (hpl : (backTo cpos (starEach [] X.env)).any (·.1) = false := by rfl) :
    ED Γ X (.Call (.Attribute o "count" apos) [e] [] cpos) (dCount td te) := fun H₀ =>
  impE (pe_bm PySem.F.plainAttrs_str PySem.F.slot_str_count PySem.F.type_str_count mt_count (ho H₀) (pa_cons (he H₀) pa_nil hs) hbase hfew hline hs hpl) fun σ H Q q => by
    obtain ⟨ρ, oo, R, φ, hφ, kk⟩ := q
    refine ⟨ρ, oo, R, _, hφ, fun v r H1 s1 rv h1 => ?_⟩
    obtain ⟨kd, d⟩ := r
    cases d with
    | str a =>
      cases (show v = _ from rv.view)
      refine ⟨rfl, ρ, oo, R.to s1, _, h1, fun v2 r2 H2 s2 rv2 h2 => ?_⟩
      obtain ⟨kd2, d2⟩ := r2
      cases d2 with
      | str b =>
        cases (show v2 = _ from rv2.view)
        exact ⟨a, b, rfl, rfl, kk _ (dv (.int _)) H2 (s1.trans s2) (by exact rfl) h2⟩
      | _ => exact h2.elim
    | _ => exact h1.elim
/-- a text * a number -/
noncomputable def sMulT : D → D → (EV → Prop) → Prop := fun x y φ => match x, y with
  | .str z, .int n => 1 ≤ z.length ∧ 1 ≤ n ∧ z.length * n.toNat ≤ 10000 ∧ φ (dv (.str (repS z n)))
  | _, _ => False
theorem link_mulT : Link2 X.K (fun x y H Q => ∃ z n, x = .str z ∧ y = .int n ∧ 1 ≤ z.length ∧ 1 ≤ n ∧ z.length * n.toNat ≤ 10000 ∧ Q (.str (repS z n)) H) sMulT := by
  intro H O x y vx vy φ Q ho hx hy h k
  unfold sMulT at h
  split at h
  · exact ⟨_, _, hx, hy, h.1, h.2.1, h.2.2.1, k _ (dv (.str _)) H (Same.refl H) (by exact rfl) h.2.2.2⟩
  · exact h.elim
theorem ed_mulT {a b : Expr} {ta tb : TD} (ha : ED Γ X a ta) (hb : ED Γ X b tb) : ED Γ X (.BinOp a .Mult b pos) (d2 sMulT ta tb) := ed_bin op_mulT link_mulT ha hb
end
section
variable {X : Cx} {a b : Expr} {ta tb : TD} {pos : Pos}
/-- == to a depth of 50 -/
noncomputable def rEqF (K : PySem.W.Frag) (neg : Bool) : R2 := fun x y H Q => ∃ d e, Rep K H [] d x ∧ Rep K H [] e y ∧ okD 50 d ∧ okD 50 e ∧ Q (.bl (if neg then !eqD d e else eqD d e)) H
theorem op_neF (hu : X.A.units + 64 < cLine) : OpR X (compareOp .NotEq) (rEqF X.K true) := by
  intro pins s σ H x y v u Q I rx ry h
  obtain ⟨d, e, h1, h2, o1, o2, q⟩ := h
  exact (eq_main I 50 d e x y v u X.A o1 o2 h1 h2 rx ry (by omega)).2.1 X.prog X.w X.xe _ ⟨.bl _, H, I, rfl, q⟩
noncomputable def sEqF : D → D → (EV → Prop) → Prop := fun x y φ => okD 50 x ∧ okD 50 y ∧ φ (dv (.bl (eqD x y)))
noncomputable def sNeF : D → D → (EV → Prop) → Prop := fun x y φ => okD 50 x ∧ okD 50 y ∧ φ (dv (.bl (!eqD x y)))
theorem et_neF (hu : X.A.units + 64 < cLine) (ha : ED Γ X a ta) (hb : ED Γ X b tb) : ET Γ X (.Compare a [.NotEq] [b] pos) (tBo (d2 sNeF ta tb)) :=
  et_cmp (op_neF hu) (fun H O x y vx vy φ Q ho hx hy h k => ⟨x, y, hx.rep0, hy.rep0, h.1, h.2.1, k _ _ H (Same.refl H) (by exact rfl) h.2.2⟩) ha hb (nomark _)
end
end DL

set_option Elab.async false
set_option linter.all false
set_option maxRecDepth 100000
set_option maxHeartbeats 4000000
namespace DL
open PySem PySem.Spec L2 L3
open PyProof.Rows hiding St
/-- a def that may raise, where it does not -/
theorem fd_fx {P : Program} {w : World} {K : PySem.W.Frag} {mg : Str → Option Value} {base : Heap} {k : Nat} {x : Str} {ps : List Str} {T : FTX} {T' : FT} (F : FX P w K mg base k x ps T) (h : ∀ ds φ, T' ds φ → T ds φ fun _ => False) : FD P w K mg base k x ps T' := by
  obtain ⟨f, fd, ok, b, kp, m⟩ := F.ex
  refine ⟨f, fd, ⟨fun vs H Q E hs => ?_, fun A outer s H args us vs Q E hr he hb hv hs => ?_⟩, b, kp, m⟩
  · obtain ⟨ds, φ, hl, hR, hT, kk⟩ := hs
    exact ok.len vs H Q (fun _ _ _ => False) ⟨ds, φ, fun _ => False, hl, hR, h _ _ hT, kk, fun _ _ _ z => z.elim⟩
  · obtain ⟨ds, φ, hl, hR, hT, kk⟩ := hs
    refine codeAny_mono (ok.run A outer s H args us vs Q (fun _ _ _ => False) hr he hb hv ⟨ds, φ, fun _ => False, hl, hR, h _ _ hT, kk, fun _ _ _ z => z.elim⟩) fun r s' q => ?_
    match r, q with
    | .ok (.ret u), q => exact q
    | .error e, q =>
      obtain ⟨_, _, _, _, _, _, _, _, _, _, z⟩ := q
      exact z.elim
end DL

set_option Elab.async false
set_option linter.all false
set_option maxRecDepth 100000
set_option maxHeartbeats 8000000
set_option exponentiation.threshold 5000
namespace K81
open PySem PySem.Spec L2 L3 DL K80
open PyProof.Rows hiding St
inductive GT where
  | leaf
  | node (l : GT) (w : List Nat) (r : GT)
noncomputable def sh : GT → List Nat
  | .leaf => [46]
  | .node l w r => 40 :: (sh l ++ 44 :: (w ++ 44 :: (sh r ++ [41])))
noncomputable def nodes : GT → Nat
  | .leaf => 0
  | .node l _ r => nodes l + 1 + nodes r
noncomputable def All (P : List Nat → Prop) : GT → Prop
  | .leaf => True
  | .node l w r => All P l ∧ P w ∧ All P r
noncomputable def NC (w : List Nat) : Prop := 44 ∉ w
noncomputable def Num (w : List Nat) : Prop := numL w = true
theorem All.imp {P P' : List Nat → Prop} (h : ∀ w, P w → P' w) : ∀ {g : GT}, All P g → All P' g
  | .leaf, _ => trivial
  | .node l w r, ⟨a, b, c⟩ => ⟨All.imp h a, h w b, All.imp h c⟩
theorem num_signs {w : List Nat} (h : Num w) : ∀ c ∈ w, c = 45 ∨ digB c = true := fun c hc => by
  by_cases e : c = 45
  · exact .inl e
  · refine .inr ?_
    cases q : digB c with
    | true => rfl
    | false => exact absurd h (by unfold Num; rw [num_bad (mem_figs hc e) q]; decide)
theorem num_nc {w : List Nat} (h : Num w) : NC w := fun y => by
  rcases num_signs h 44 y with e | e
  · cases e
  · revert e; decide
theorem sh_inj : ∀ {g g' : GT} {r r' : List Nat}, All NC g → All NC g' → sh g ++ r = sh g' ++ r' → g = g' ∧ r = r'
  | .leaf, .leaf, r, r', _, _, e => ⟨rfl, (List.cons.inj e).2⟩
  | .leaf, .node _ _ _, _, _, _, _, e => absurd (List.cons.inj e).1 (by decide)
  | .node _ _ _, .leaf, _, _, _, _, e => absurd (List.cons.inj e).1 (by decide)
  | .node a w b, .node a' w' b', r, r', ⟨h1, h2, h3⟩, ⟨k1, k2, k3⟩, e => by
    have e1 : (sh a ++ 44 :: (w ++ 44 :: (sh b ++ [41]))) ++ r = (sh a' ++ 44 :: (w' ++ 44 :: (sh b' ++ [41]))) ++ r' := (List.cons.inj e).2
    simp only [List.append_assoc, List.cons_append] at e1
    obtain ⟨rfl, e2⟩ := sh_inj h1 k1 e1
    obtain ⟨rfl, e3⟩ := app_inj h2 k2 (List.cons.inj e2).2
    obtain ⟨rfl, e4⟩ := sh_inj h3 k3 e3
    exact ⟨rfl, (List.cons.inj e4).2⟩
noncomputable def okc (c : Nat) : Bool := decide (c = 40 ∨ c = 41 ∨ c = 44 ∨ c = 46 ∨ c = 45) || digB c
theorem cnt_w {w : List Nat} (h : Num w) (c : Nat) (hc : c ≠ 45) (hd : digB c = false) : w.count c = 0 := List.count_eq_zero.mpr fun y => by
  rcases num_signs h c y with e | e
  · exact hc e
  · rw [hd] at e; cases e
theorem cnt40 : ∀ {g : GT}, All Num g → (sh g).count 40 = nodes g
  | .leaf, _ => by decide
  | .node a w b, ⟨h1, h2, h3⟩ => by
    have e1 := cnt40 h1
    have e2 := cnt40 h3
    have e3 := cnt_w h2 40 (by decide) (by decide)
    simp only [sh, nodes, List.count_cons, List.count_append, List.count_nil, e1, e2, e3]
    simp
    omega
theorem cnt41 : ∀ {g : GT}, All Num g → (sh g).count 41 = nodes g
  | .leaf, _ => by decide
  | .node a w b, ⟨h1, h2, h3⟩ => by
    have e1 := cnt41 h1
    have e2 := cnt41 h3
    have e3 := cnt_w h2 41 (by decide) (by decide)
    simp only [sh, nodes, List.count_cons, List.count_append, List.count_nil, e1, e2, e3]
    simp
    omega
theorem cnt44 : ∀ {g : GT}, All Num g → (sh g).count 44 = 2 * nodes g
  | .leaf, _ => by decide
  | .node a w b, ⟨h1, h2, h3⟩ => by
    have e1 := cnt44 h1
    have e2 := cnt44 h3
    have e3 := cnt_w h2 44 (by decide) (by decide)
    simp only [sh, nodes, List.count_cons, List.count_append, List.count_nil, e1, e2, e3]
    simp
    omega
theorem cnt46 : ∀ {g : GT}, All Num g → (sh g).count 46 = nodes g + 1
  | .leaf, _ => by decide
  | .node a w b, ⟨h1, h2, h3⟩ => by
    have e1 := cnt46 h1
    have e2 := cnt46 h3
    have e3 := cnt_w h2 46 (by decide) (by decide)
    simp only [sh, nodes, List.count_cons, List.count_append, List.count_nil, e1, e2, e3]
    simp
    omega
theorem sh_okc : ∀ {g : GT}, All Num g → ∀ c ∈ sh g, okc c = true
  | .leaf, _, c, hc => by
    rw [List.mem_singleton.mp hc]
    decide
  | .node a w b, ⟨h1, h2, h3⟩, c, hc => by
    simp only [sh, List.mem_cons, List.mem_append, List.not_mem_nil, or_false] at hc
    rcases hc with rfl | hc | rfl | hc | rfl | hc | rfl
    · decide
    · exact sh_okc h1 c hc
    · decide
    · unfold okc
      rcases num_signs h2 c hc with rfl | e
      · decide
      · rw [e, Bool.or_true]
    · decide
    · exact sh_okc h3 c hc
    · decide
/-- what is read -/
noncomputable def Acc (l : List Nat) (g : GT) : Prop := l = sh g ∧ All Num g ∧ nodes g ≤ 40
noncomputable def Bad (l : List Nat) : Prop := ∀ g, ¬ Acc l g
structure Cnt (l : List Nat) (n : Nat) : Prop where
  a : l.count 40 = n
  b : l.count 41 = n
  c : l.count 44 = 2 * n
  d : l.count 46 = n + 1
theorem acc_cnt {l : List Nat} {g : GT} (h : Acc l g) : Cnt l (nodes g) := by
  obtain ⟨rfl, h2, _⟩ := h
  exact ⟨cnt40 h2, cnt41 h2, cnt44 h2, cnt46 h2⟩
theorem bad_cnt {l : List Nat} (h : ∀ n, Cnt l n → False) : Bad l := fun g hg => h _ (acc_cnt hg)
theorem bad_sign {l : List Nat} {c : Nat} (h : c ∈ l) (hc : okc c = false) : Bad l := fun g ⟨e, h2, _⟩ => by
  rw [e] at h
  rw [sh_okc h2 c h] at hc
  cases hc
theorem bad_many {l : List Nat} (h : 40 < l.count 40) : Bad l := fun g hg => by
  have := (acc_cnt hg).a
  have := hg.2.2
  omega
noncomputable def badC (l : List Nat) : Bool := !(decide (l.count 40 = l.count 41) && decide (l.count 44 = 2 * l.count 40) && decide (l.count 46 = l.count 40 + 1))
theorem bad_dec {l : List Nat} (h : badC l = true) : Bad l := bad_cnt fun n c => by
  unfold badC at h
  rw [c.a, c.b, c.c, c.d] at h
  simp at h
/-- one sign more, fewer, another -/
noncomputable def sgn (c : Nat) : Prop := c = 40 ∨ c = 41 ∨ c = 44 ∨ c = 46
theorem bad_less {a b : List Nat} {c n : Nat} (hc : sgn c) (h : Cnt (a ++ c :: b) n) : Bad (a ++ b) := bad_cnt fun m k => by
  have h1 := h.a; have h2 := h.b; have h3 := h.c; have h4 := h.d
  have k1 := k.a; have k2 := k.b; have k3 := k.c; have k4 := k.d
  simp only [List.count_append, List.count_cons] at h1 h2 h3 h4 k1 k2 k3 k4
  rcases hc with rfl | rfl | rfl | rfl <;> simp at h1 h2 h3 h4 <;> omega
theorem bad_more {a b : List Nat} {c n : Nat} (hc : sgn c) (h : Cnt (a ++ b) n) : Bad (a ++ c :: b) := bad_cnt fun m k => by
  have h1 := h.a; have h2 := h.b; have h3 := h.c; have h4 := h.d
  have k1 := k.a; have k2 := k.b; have k3 := k.c; have k4 := k.d
  simp only [List.count_append, List.count_cons] at h1 h2 h3 h4 k1 k2 k3 k4
  rcases hc with rfl | rfl | rfl | rfl <;> simp at k1 k2 k3 k4 <;> omega
theorem bad_other {a b : List Nat} {c c' n : Nat} (hc : sgn c) (hc' : sgn c') (hne : c' ≠ c) (h : Cnt (a ++ c :: b) n) : Bad (a ++ c' :: b) := bad_cnt fun m k => by
  have h1 := h.a; have h2 := h.b; have h3 := h.c; have h4 := h.d
  have k1 := k.a; have k2 := k.b; have k3 := k.c; have k4 := k.d
  simp only [List.count_append, List.count_cons] at h1 h2 h3 h4 k1 k2 k3 k4
  rcases hc with rfl | rfl | rfl | rfl <;> rcases hc' with rfl | rfl | rfl | rfl <;> first | exact hne rfl | (simp at h1 h2 h3 h4 k1 k2 k3 k4; omega)
/-- the words of a tree -/
noncomputable def wd : GT → List (List Nat)
  | .leaf => [[46]]
  | .node l w r => [40] :: (wd l ++ [44] :: w :: [44] :: (wd r ++ [[41]]))
theorem wd_flat : ∀ g : GT, (wd g).flatten = sh g
  | .leaf => rfl
  | .node l w r => by
    simp only [wd, sh, List.flatten_cons, List.flatten_append, List.flatten_nil, wd_flat l, wd_flat r, List.append_nil]
    simp
noncomputable def isSg (w : List Nat) : Bool := decide (w = [40] ∨ w = [41] ∨ w = [44] ∨ w = [46])
noncomputable def Some' (w : List Nat) : GT → Prop
  | .leaf => False
  | .node l v r => Some' w l ∨ v = w ∨ Some' w r
theorem some_all {P : List Nat → Prop} {w : List Nat} : ∀ {g : GT}, All P g → Some' w g → P w
  | .node l v r, ⟨h1, h2, h3⟩, h => by
    rcases h with h | rfl | h
    · exact some_all h1 h
    · exact h2
    · exact some_all h3 h
theorem num_sg {w : List Nat} (h : Num w) : isSg w = false := by
  refine decide_eq_false fun y => ?_
  have hs := num_signs h
  rcases y with rfl | rfl | rfl | rfl <;> exact absurd (hs _ List.mem_cons_self) (by decide)
theorem wd_set (w : List Nat) (hw : NC w) : ∀ (g : GT), All NC g → ∀ (i : Nat) (v : List Nat), (wd g)[i]? = some v → isSg v = false → ∃ g', (wd g).set i w = wd g' ∧ All NC g' ∧ Some' w g'
  | .leaf, _, i, v, hi, hs => by
    cases i with
    | zero => cases hi; exact absurd hs (by decide)
    | succ i => cases hi
  | .node l x r, ⟨h1, h2, h3⟩, i, v, hi, hs => by
    cases i with
    | zero => cases hi; exact absurd hs (by decide)
    | succ i =>
      have hi' : (wd l ++ [44] :: x :: [44] :: (wd r ++ [[41]]))[i]? = some v := hi
      show ∃ g', [40] :: ((wd l ++ [44] :: x :: [44] :: (wd r ++ [[41]])).set i w) = wd g' ∧ _
      by_cases c1 : i < (wd l).length
      · rw [List.getElem?_append_left c1] at hi'
        obtain ⟨g', e, a1, a2⟩ := wd_set w hw l h1 i v hi' hs
        refine ⟨.node g' x r, ?_, ⟨a1, h2, h3⟩, .inl a2⟩
        rw [List.set_append_left _ _ c1, e]
        rfl
      · rw [List.getElem?_append_right (by omega)] at hi'
        rw [List.set_append_right _ _ (by omega)]
        obtain ⟨j, ej⟩ : ∃ j, i - (wd l).length = j := ⟨_, rfl⟩
        rw [ej] at hi' ⊢
        match j, hi' with
        | 0, hi' => cases hi'; exact absurd hs (by decide)
        | 1, hi' => exact ⟨.node l w r, rfl, ⟨h1, hw, h3⟩, .inr (.inl rfl)⟩
        | 2, hi' => cases hi'; exact absurd hs (by decide)
        | j + 3, hi' =>
          have hi2 : (wd r ++ [[41]])[j]? = some v := hi'
          show ∃ g', [40] :: (wd l ++ [44] :: x :: [44] :: ((wd r ++ [[41]]).set j w)) = wd g' ∧ _
          by_cases c2 : j < (wd r).length
          · rw [List.getElem?_append_left c2] at hi2
            obtain ⟨g', e, a1, a2⟩ := wd_set w hw r h3 j v hi2 hs
            refine ⟨.node l x g', ?_, ⟨h1, h2, a1⟩, .inr (.inr a2)⟩
            rw [List.set_append_left _ _ c2, e]
            rfl
          · rw [List.getElem?_append_right (by omega)] at hi2
            obtain ⟨k, ek⟩ : ∃ k, j - (wd r).length = k := ⟨_, rfl⟩
            rw [ek] at hi2
            cases k with
            | zero => cases hi2; exact absurd hs (by decide)
            | succ k => cases hi2
/-- a word that is no number at a number's place -/
theorem bad_odd {g : GT} (hg : All NC g) {w v : List Nat} (hw : NC w) (hn : numL w = false) {i : Nat} (hi : (wd g)[i]? = some v) (hs : isSg v = false) : Bad ((wd g).set i w).flatten := fun g2 ⟨e, h2, _⟩ => by
  obtain ⟨g', e1, a1, a2⟩ := wd_set w hw g hg i v hi hs
  rw [e1, wd_flat] at e
  have e' : sh g' ++ [] = sh g2 ++ [] := by rw [e]
  obtain ⟨rfl, _⟩ := sh_inj a1 (h2.imp fun w h => num_nc h) e'
  have := some_all h2 a2
  unfold Num at this
  rw [hn] at this
  cases this
noncomputable def Prs (l : List Nat) (g : GT) (r : List Nat) : Prop := l = sh g ++ r ∧ All Num g
theorem Prs.uniq {l : List Nat} {g g' : GT} {r r' : List Nat} (h : Prs l g r) (h' : Prs l g' r') : g = g' ∧ r = r' :=
  sh_inj (h.2.imp fun w h => num_nc h) (h'.2.imp fun w h => num_nc h) (h.1.symm.trans h'.1)
theorem prs_leaf {l : List Nat} (h : l.head? = some 46) : Prs l .leaf l.tail := by
  cases l with
  | nil => cases h
  | cons a l => cases h; exact ⟨rfl, trivial⟩
/-- why there is none -/
theorem no_head {l : List Nat} (h1 : l.head? ≠ some 46) (h2 : l.head? ≠ some 40) : ∀ g r, ¬ Prs l g r := fun g r h => by
  obtain ⟨rfl, _⟩ := h
  cases g with
  | leaf => exact h1 rfl
  | node a w b => exact h2 rfl
theorem prs_node {l1 : List Nat} {g : GT} {r : List Nat} (h : Prs (40 :: l1) g r) : ∃ a w b, g = .node a w b ∧ Prs l1 a (44 :: (w ++ 44 :: (sh b ++ 41 :: r))) ∧ Num w ∧ All Num b := by
  obtain ⟨e, ha⟩ := h
  cases g with
  | leaf => exact absurd (List.cons.inj e).1 (by decide)
  | node a w b =>
    refine ⟨a, w, b, rfl, ⟨?_, ha.1⟩, ha.2.1, ha.2.2⟩
    have e1 : l1 = (sh a ++ 44 :: (w ++ 44 :: (sh b ++ [41]))) ++ r := (List.cons.inj e).2
    rw [e1]
    simp only [List.append_assoc, List.cons_append, List.nil_append]
theorem prs_mk {l1 l2 r : List Nat} {a b : GT} {w : List Nat} (h1 : Prs l1 a (44 :: (w ++ 44 :: l2))) (hw : Num w) (h2 : Prs l2 b (41 :: r)) : Prs (40 :: l1) (.node a w b) r := by
  obtain ⟨e1, a1⟩ := h1
  obtain ⟨e2, a2⟩ := h2
  refine ⟨?_, a1, hw, a2⟩
  rw [e1, e2]
  simp only [sh, List.append_assoc, List.cons_append, List.nil_append]
/-- texts from a place -/
theorem st3 (z : Str) (c p : Nat) : Txt.startswith3 z ⟨#[c]⟩ (p : Int) = decide (((cd z).drop p).head? = some c) := by
  have ef : fromIndex z.length (p : Int) = p := by
    unfold fromIndex
    rw [if_neg (by omega)]
    omega
  unfold Txt.startswith3
  rw [ef, StrLaws.subAt_eq]
  have e1 : (((cd z).drop p).take (⟨#[c]⟩ : Str).length == (⟨#[c]⟩ : Str).cps.toList) = decide (((cd z).drop p).head? = some c) := by
    cases (cd z).drop p with
    | nil => rfl
    | cons a l =>
      show ([a] == [c]) = decide (some a = some c)
      by_cases h : a = c
      · subst h; simp
      · simp [h]
  rw [e1]
  cases q : decide (((cd z).drop p).head? = some c) with
  | false => rw [Bool.and_false]
  | true =>
    have q' := of_decide_eq_true q
    have hl : p < (cd z).length := by
      by_cases h : p < (cd z).length
      · exact h
      · rw [List.drop_eq_nil_of_le (by omega)] at q'
        cases q'
    rw [Bool.and_true]
    refine decide_eq_true ?_
    have := cd_len z
    show p + 1 ≤ z.length
    omega
theorem fd3 (z : Str) (p : Nat) : (Txt.find3 z ⟨#[44]⟩ (p : Int) = -1 ∧ 44 ∉ (cd z).drop p) ∨
    ∃ k : Nat, Txt.find3 z ⟨#[44]⟩ (p : Int) = (k : Int) ∧ p ≤ k ∧ k < z.length ∧ 44 ∉ ((cd z).drop p).take (k - p) ∧ (cd z).drop p = ((cd z).drop p).take (k - p) ++ 44 :: (cd z).drop (k + 1) := by
  have ef : fromIndex z.length (p : Int) = p := by
    unfold fromIndex
    rw [if_neg (by omega)]
    omega
  have gd : ∀ v, (h : v < (cd z).length) → (cd z)[v] = 44 → z.cps.getD v 0 = 44 := fun v hv e => StrLaws.getD_of_getElem? (by rw [List.getElem?_eq_getElem hv, e])
  rcases StrLaws.find3_spec z 44 (p : Int) with ⟨e, h⟩ | ⟨k, e, h1, h2, h3, h4⟩
  · rw [ef] at h
    refine .inl ⟨e, fun y => ?_⟩
    obtain ⟨i, hi, ei⟩ := List.getElem_of_mem y
    rw [List.length_drop] at hi
    rw [List.getElem_drop] at ei
    exact h (p + i) (by omega) (by rw [cd_len]; omega) (gd _ (by omega) ei)
  · rw [ef] at h1 h4
    rw [cd_len] at h2
    refine .inr ⟨k, e, h1, by rw [cd_len]; exact h2, fun y => ?_, ?_⟩
    · obtain ⟨i, hi, ei⟩ := List.getElem_of_mem y
      rw [List.length_take, List.length_drop] at hi
      rw [List.getElem_take, List.getElem_drop] at ei
      exact h4 (p + i) (by omega) (by omega) (gd _ (by omega) ei)
    · have h3' := StrLaws.getElem?_of_getD (show k < z.length by rw [cd_len]; exact h2) h3
      have h3 : (cd z)[k] = 44 := by
        rw [List.getElem?_eq_getElem h2] at h3'
        exact Option.some.inj h3'
      have e2 : (cd z).drop (k + 1) = ((cd z).drop p).drop (k - p + 1) := by rw [List.drop_drop]; congr 1; omega
      have e3 : ((cd z).drop p).drop (k - p) = 44 :: (cd z).drop (k + 1) := by
        rw [List.drop_drop, show p + (k - p) = k by omega, List.drop_eq_getElem_cons h2, h3]
      rw [← e3, List.take_append_drop]
theorem cd_mid (z : Str) (p k : Nat) (h1 : p ≤ k) (h2 : k ≤ z.length) : cd (cutS z (some (p : Int)) (some (k : Int))) = ((cd z).drop p).take (k - p) := by
  rw [cd_len] at h2
  rw [cd_cut]
  have e1 : HT.sIx (cd z).length 0 (some (p : Int)) = p := by
    simp only [HT.sIx, show ¬ ((p : Int) < 0) by omega, if_false]
    omega
  have e2 : HT.sIx (cd z).length (cd z).length (some (k : Int)) = k := by
    simp only [HT.sIx, show ¬ ((k : Int) < 0) by omega, if_false]
    omega
  rw [e1, e2]
theorem cnt_is (c : Nat) : ∀ l : List Nat, PyProof.Rows.cnt c l = (l.count c : Int)
  | [] => rfl
  | a :: l => by
    rw [PyProof.Rows.cnt_cons, cnt_is c l, List.count_cons]
    by_cases h : a = c
    · subst h; simp; omega
    · simp [h]
theorem count_is' (z : Str) (c : Nat) : Txt.count z ⟨#[c]⟩ = ((cd z).count c : Int) := (PyProof.Rows.count_cnt z c).trans (cnt_is c _)
end K81

set_option Elab.async false
set_option linter.all false
set_option maxRecDepth 100000
set_option maxHeartbeats 8000000
set_option exponentiation.threshold 5000
namespace K81
open PySem PySem.Spec L2 L3 DL
open K80
open PyProof.Rows hiding St
open PySem.Builtin.Int (intBits)
local macro_rules | `(tactic| walk_at "dl") => `(tactic| simp only [sNil, sSeq, sRet, sIf, sSet, sExpr, sUn, sPar, d2, d1, dName, dC, slot, setS, EV.sto, EV.ret, aNil, aCons, dTup, dLst, dCall, dCB, solidB, vAnd, vOr, vNot, vIf, bAnd, bOr, bNot, bYes, tTru, tBo, truD, sSub, sFd, sMod, sPow, sLt, sLe, sGt, sGe, sI, sI0, sAdd, sMul, sNeg, sEq, sNe, sIs, sIsNot, isNon, sIx, sSl, dSl, oNone, oSome, sLen, sAbs, sIsI, sStr, sTupC, sListC, sIntC, sApp, iSeq, iR1, iR2, itemsD, gN, gT2, startD, isT_non_int, isT_non_bool, isT_bl_int, isT_bl_bool, isT_int_int, isT_int_bool, isT_int_str, isT_str_int, isT_str_str, isT_tup_tuple, isT_tup_int, isT_tup_list, isT_lst_list, isT_lst_tuple, isT_dk_dict, List.map_cons, List.map_nil, List.length_cons, List.length_nil, List.cons_append, List.nil_append, List.replicate_succ, List.replicate_zero, Nat.reduceAdd, Nat.reduceSub, Nat.zero_add, Nat.sub_self, Bool.and_self, Bool.and_true, Bool.true_and, true_and, and_true, Bool.not_true, Bool.not_false, forall_const, true_implies, false_implies, Bool.true_eq_false, Bool.false_eq_true, reduceCtorEq, implies_true, okD_int, okD_bl, okD_str, okD_non, eqD_int, eqD_str, eqD_bl, pureEV, pureD, pureDs, Bool.not_eq_eq_eq_not, Bool.not_true, Bool.not_false, beq_eq_false_iff_ne, beq_iff_eq, ne_eq, decide_eq_true_eq, decide_eq_false_iff_not, Bool.not_eq_true, Bool.not_eq_false, not_true_eq_false, not_false_eq_true, atI_0, atI_1, atI_2, and_self, Nat.beq_eq, Nat.ble_eq, Nat.reduceLeDiff, eq_self, Nat.reduceEqDiff, sIxx, dGet2, dFmt, dJoin, keyD, sIn, flatD, cp10, Int.reduceLE, Int.reduceToNat, tenpow_ne, atI_map, List.length_map, Option.map_some, Int.zero_add, sDput', Int.reduceEq, Int.reduceNeg, Int.reduceLT, sRaise, dCallX, sTry, hanZ, clrS, frzE, Option.map_none, List.map_cons, dIsE, sFrz, frzS, iZ, seqD_lst, seqD_tup, seqD_scr, sSum, intsD_map, sPop, sAppPop, sExt, sAug, sIsB, sIsNotB, dTupN, dAddN, dSlT, dPick, sLP, popD_app, pureEVs, sAllL, isT_str_bool, isT_str_tuple, isT_non_tuple, isT_bl_tuple, isT_int_tuple, isT_tup_bool, isT_lst_int, isT_lst_bool, isT_dk_int, isT_dk_bool, isT_dk_tuple, isT_non_bool, isT_str_int, dIsET, sDictC, sLenD, intsD_map, sListD, sAugM, sPopX, iE, dStep, sMax, iZ, seqD, dJoin1, sRetT, pureRs, cstD, dChain, dSlS, sSlS, dEnds, dStarts, dSplit, sIntS, sMulS, isT_non_str, isT_bl_str, isT_tup_str, isT_lst_str, isT_dk_str, dStarts3, dFind3, dCount, sMulT, sEqF, sNeF])
seal SDs SD ED EA ET EW
noncomputable def top (i : Nat) : Stmt := PySem.Challenge.pw_toll_k81_trees.main.body.getD i (.Pass ⟨0, 0, 0, 0⟩)
structure Tops (mg : Str → Option Value) : Prop where
  ValueError : mg "ValueError" = none
  all : mg "all" = none
  bool : mg "bool" = none
  int : mg "int" = none
  isinstance : mg "isinstance" = none
  len : mg "len" = none
  range : mg "range" = none
  str : mg "str" = none
  tuple : mg "tuple" = none
section
variable {P : Program} {w : World} {K : PySem.W.Frag} {mg : Str → Option Value} {base : Heap} {f : Addr} {fd : FuncData}

end
structure Cls (K : PySem.W.Frag) (mg : Str → Option Value) (cE cN cNoText cNoRow cNoFunction : Addr) : Prop where
  b_TollError : mg "TollError" = some (.ref cE)
  b_NoValue : mg "NoValue" = some (.ref cN)
  b_NoText : mg "NoText" = some (.ref cNoText)
  b_NoRow : mg "NoRow" = some (.ref cNoRow)
  b_NoFunction : mg "NoFunction" = some (.ref cNoFunction)
  x_NoValue : excV K cN
  m_NoValue : PySem.W.exmOne K (.ref cN) (.ref cE) = some true
  k_Val : PySem.W.kitOne K (.ref cN) (.type "ValueError") = some true
  k_no : ∀ c ∈ [cNoText, cNoRow, cNoFunction], PySem.W.kitOne K (.ref cN) (.ref c) = some false
  y_NoValue : ExcIn K cN
  c_FIGURES : GC K mg "FIGURES" (.str "0123456789")
  c_MOST_SIZE : GC K mg "MOST_SIZE" (.int 40)
section
variable {P : Program} {w : World} {K : PySem.W.Frag} {mg : Str → Option Value} {base : Heap} {f : Addr} {fd : FuncData}

noncomputable def figures : Str := "0123456789"
noncomputable def figOk (c : Nat) : Bool := !(Builtin.Str.occurrences figures ⟨#[c]⟩ 0 figures.length 1).isEmpty
theorem figOk_eq (c : Nat) : figOk c = digB c := (PySem.StrLaws.found_one figures c).trans (by
  show decide (c ∈ [48, 49, 50, 51, 52, 53, 54, 55, 56, 57]) = decide _
  refine decide_eq_decide.mpr ?_
  simp only [List.mem_cons, List.not_mem_nil, or_false]
  omega)
theorem lit_st (z : Str) : Txt.startswith z (Str.ofString "-") = decide ((cd z).head? = some 45) := st_head z 45
theorem lit_s0 (z : Str) : Txt.startswith z (Str.ofString "0") = decide ((cd z).head? = some 48) := st_head z 48
theorem lit_z {z : Str} : z = Str.ofString "0" ↔ cd z = [48] := ⟨fun e => by rw [e]; rfl, fun e => cd_inj (by rw [e]; rfl)⟩
theorem cd_tail (z : Str) : cd (cutS z (some 1) none) = (cd z).tail := by
  rw [cd_cut]
  have e1 : HT.sIx (cd z).length 0 (some 1) = min 1 (cd z).length := by
    simp only [HT.sIx, show ¬ ((1 : Int) < 0) by decide, if_false]
    omega
  rw [e1]
  show ((cd z).drop (min 1 (cd z).length)).take ((cd z).length - min 1 (cd z).length) = _
  cases cd z with
  | nil => rfl
  | cons a l =>
    have : min 1 (a :: l).length = 1 := by simp only [List.length_cons]; omega
    rw [this]
    show l.take (l.length + 1 - 1) = l
    rw [Nat.add_sub_cancel, List.take_length]
theorem num_false {z : Str} (h : ¬ (1 ≤ (figs (cd z)).length ∧ (figs (cd z)).length ≤ 60)) : isNum z = false := by
  unfold isNum numL
  rw [decide_eq_false h, Bool.false_and, Bool.false_and]
noncomputable def tIsNum : FT := g1 fun d φ => ∃ z, d = .str z ∧ z.length ≤ 100000 ∧ φ (dv (.bl (isNum z)))
theorem fd_is_number (T : Tops mg) {cE cN cNoText cNoRow cNoFunction : Addr} (Z : Cls K mg cE cN cNoText cNoRow cNoFunction) (F : Fun K "is_number" "is_number" (top 8) f fd) (m : mg "is_number" = some (.ref f)) : FD P w K mg base 1 "is_number" ["word"] tIsNum := by
  have S : FnScope ["word", "figures"] ["word"] (defScope (top 8)) := ⟨rfl, rfl, rfl, by decide +kernel, rfl, by decide +kernel, by decide +kernel⟩
  refine fd_of F S (F.binds fun _ _ _ _ _ _ us hl => match us, hl with | [_], _ => rfl) m fun cdv A outer s H E ds φ hr hl hT => ?_
  have hu := hr.units
  refine ⟨_, (ss_cons (sd_set 1 S.nd (ed_ifExp (et_val (ed_starts (ed_name 0) ed_str)) (ed_sliceS (ed_name 0) (eo_some ed_int) eo_none) (ed_name 0)))
      (ss_cons (sd_if (EW.et (ew_or (et_not (et_leLe ed_int (ed_len T.len (ea_cons (ed_name 1) ea_nil)) ed_int)) (ew_or1 (et_not (et_val (ed_allC T.all (ea_cons (ed_compP (T := ["sign"]) (F := []) (js := []) (ei_seq (ed_name 1)) (show CompScope (defScope (top 8)) _ ["sign"] [] from ⟨rfl, by decide +kernel, by decide +kernel, by decide +kernel, by decide +kernel, by decide +kernel⟩) .nil (by decide) (fun cl C fp s H => (pg_name (i := 0) (show ((["sign"] : List Str) ++ ([] : List Str)).Nodup by decide +kernel) rfl (by first | exact Or.inl rfl | exact Or.inr rfl))) (gk_name (by decide)) (gl_name 0) (fun cl C fp s H => eif_nil) (fun cl C fp s H => (ed_in hu (ed_name 0) (ed_glob Z.c_FIGURES)))) ea_nil))))))) (ss_one (sd_ret ed_bl)) ss_nil)
      (ss_one (sd_ret (ed_or (ed_eq hu (ed_name 0) ed_str) (ed_one (ed_not (ed_starts (ed_name 1) ed_str)))))))), ?_⟩
  obtain ⟨d, rfl, z, rfl, hl1, h⟩ := f1_of hT
  have key : ∀ g : Str, cd g = figs (cd z) → g.length ≤ 100000 → (1 ≤ (g.length : Int) → (¬ (g.length : Int) ≤ 60 → φ ⟨.val, .bl false⟩) ∧ ((g.length : Int) ≤ 60 →
      dCompP (iSeq (dName 1)) 1 [] (gN 0) bYes (d2 (sIn false) (dName 0) (dC (D.str (Str.ofString "0123456789")))) [some (dv (D.str z)), some ⟨.val, .str g⟩] fun r => match [r.d] with
        | [D.lst l] => (match blsD l with
          | some bs => (bs.all id = false → φ ⟨.val, .bl false⟩) ∧ (bs.all id = true → (z = Str.ofString "0" → φ ⟨.val, .bl true⟩) ∧ (¬ z = Str.ofString "0" → φ ⟨.val, .bl (!Txt.startswith g (Str.ofString "0"))⟩))
          | none => False)
        | _ => False)) ∧ (¬ 1 ≤ (g.length : Int) → φ ⟨.val, .bl false⟩) := by
    intro g eg hl2
    have gl := cd_len g
    rw [eg] at gl
    refine ⟨fun h1 => ⟨fun h2 => ?_, fun h2 => ?_⟩, fun h1 => ?_⟩
    · rw [num_false (by omega)] at h
      exact h
    · refine dCompP_at (g.cps.toList.map fun c => D.str ⟨#[c]⟩) (fun ψ hψ => ?_) (fun i gs => gs = (g.cps.toList.take i).map fun c => D.bl (figOk c)) (by rw [List.length_map]; exact show g.cps.toList.length ≤ 100000 from hl2) rfl ?_ ?_
      · walk_at "dl"
        exact hψ
      · rintro i e gs he hle rfl
        rw [List.getElem?_map] at he
        obtain ⟨c, hc, rfl⟩ := Option.map_eq_some_iff.mp he
        simp only [ρ0, List.map_cons, List.map_nil, List.replicate, List.cons_append, List.nil_append]
        refine ⟨fun _ => ⟨trivial, ?_⟩, fun y => (nomatch y)⟩
        rw [List.take_succ, hc, Option.toList_some, List.map_append]
        rfl
      rintro gs rfl
      rw [List.length_map, List.take_length, show (g.cps.toList.map fun c => D.bl (figOk c)) = (g.cps.toList.map figOk).map D.bl from by rw [List.map_map]; rfl]
      simp only [blsD_map]
      have ea : (g.cps.toList.map figOk).all id = (figs (cd z)).all digB := by
        rw [List.all_map, ← eg]
        congr 1
        funext c
        exact figOk_eq c
      rw [ea]
      have en : isNum z = ((figs (cd z)).all digB && (decide (cd z = [48]) || !decide ((figs (cd z)).head? = some 48))) := by
        unfold isNum numL
        rw [decide_eq_true (show 1 ≤ (figs (cd z)).length ∧ (figs (cd z)).length ≤ 60 by omega), Bool.true_and]
      rw [en] at h
      refine ⟨fun q => ?_, fun q => ⟨fun e0 => ?_, fun e0 => ?_⟩⟩
      · rw [q, Bool.false_and] at h
        exact h
      · rw [q, decide_eq_true (lit_z.mp e0)] at h
        exact h
      · rw [q, decide_eq_false (fun y => e0 (lit_z.mpr y)), Bool.true_and, Bool.false_or] at h
        rw [lit_s0, eg]
        exact h
    · rw [num_false (by omega)] at h
      exact h
  have zl := cd_len z
  walk_at "dl"
  refine ⟨fun h1 => ⟨by rw [sizeLine_eq]; omega, by rw [sizeLine_eq, cd_len, cd_tail, List.length_tail]; omega, ?_⟩, fun h1 => ⟨by rw [sizeLine_eq]; omega, ?_⟩⟩
  · refine key _ ?_ (by rw [cd_len, cd_tail, List.length_tail]; omega)
    rw [cd_tail]
    rw [lit_st] at h1
    unfold figs
    rw [if_pos (of_decide_eq_true h1)]
  · refine key _ ?_ hl1
    rw [lit_st] at h1
    unfold figs
    rw [if_neg (of_decide_eq_false h1)]
end

set_option Elab.async false
set_option linter.all false
set_option maxRecDepth 100000
set_option maxHeartbeats 8000000
set_option exponentiation.threshold 5000
section
variable {P : Program} {w : World} {K : PySem.W.Frag} {mg : Str → Option Value} {base : Heap} {f : Addr} {fd : FuncData}

/-- numbers read -/
noncomputable def tNumX (c : Addr) : FTX := fun ds φ χ => ∃ z, ds = [.str z] ∧ z.length ≤ 100000 ∧ (isNum z = true → φ (dv (.int (rn z)))) ∧ (isNum z = false → χ c)
theorem rn_of {z : Str} (h : isNum z = true) : PySem.intText? z = some (rn z) ∧ z.length ≤ 640 := by
  obtain ⟨n, e, hl⟩ := num_int h
  refine ⟨?_, hl⟩
  unfold rn
  rw [e]
  rfl
noncomputable def rnL (w : List Nat) : Int := rn ⟨w.toArray⟩
noncomputable def tD : GT → D
  | .leaf => .non
  | .node l w r => .tup [tD l, .int (rnL w), tD r]
theorem pure_tD : ∀ g : GT, pureD (tD g)
  | .leaf => trivial
  | .node l w r => ⟨pure_tD l, trivial, pure_tD r, trivial⟩
noncomputable def tBehX (c : Addr) : FTX := fun ds φ χ => ∃ (z : Str) (p s : Nat), ds = [.str z, .int p, .str ⟨#[s]⟩] ∧ (((cd z).drop p).head? = some s → φ (dv (.int ((p + 1 : Nat) : Int)))) ∧ (((cd z).drop p).head? ≠ some s → χ c)
noncomputable def tTreeX (n : Nat) (c : Addr) : FTX := fun ds φ χ => ∃ (z : Str) (p : Nat), ds = [.str z, .int p] ∧ z.length ≤ 100000 ∧ ((cd z).drop p).count 40 < n ∧
  (∀ g q, Prs ((cd z).drop p) g ((cd z).drop q) → p ≤ q → q ≤ z.length → φ (dv (.tup [tD g, .int q]))) ∧ ((∀ g r, ¬ Prs ((cd z).drop p) g r) → χ c)
theorem fx_read_num (T : Tops mg) {cE cN cNoText cNoRow cNoFunction : Addr} (Z : Cls K mg cE cN cNoText cNoRow cNoFunction) (F_is_number : FD P w K mg base 1 "is_number" ["word"] tIsNum) (F : Fun K "read_num" "read_num" (top 12) f fd) (m : mg "read_num" = some (.ref f)) : FX P w K mg base 2 "read_num" ["text"] (tNumX cN) := by
  have S : FnScope ["text"] ["text"] (defScope (top 12)) := ⟨rfl, rfl, rfl, by decide +kernel, rfl, by decide +kernel, by decide +kernel⟩
  refine fx_of F S (F.binds fun _ _ _ _ _ _ us hl => match us, hl with | [_], _ => rfl) m fun cdv A outer s H E ds φ χ hr hl hT hxp hxr => ?_
  have hu := hr.units
  refine ⟨_, (ss_cons (sd_if (et_not (et_val (ed_call F_is_number (hr.mono (by decide)) (ea_cons (ed_name 0) ea_nil)))) (ss_one (sd_raise PySem.F.excBase_ValueError Z.b_NoValue Z.x_NoValue hr.hd hxr (ea_cons ed_str ea_nil))) ss_nil)
      (ss_one (sd_ret (ed_intS T.int (ea_cons (ed_name 0) ea_nil))))), ?_⟩
  obtain ⟨z, rfl, hl1, h1, h2⟩ := hT
  walk_at "dl"
  simp only [tIsNum, DL.g1]
  refine ⟨z, rfl, hl1, ?_⟩
  refine ⟨fun e => h2 e, fun e => ⟨rn z, (rn_of e).1, (rn_of e).2, h1 e⟩⟩
theorem fx_behind_sign (T : Tops mg) {cE cN cNoText cNoRow cNoFunction : Addr} (Z : Cls K mg cE cN cNoText cNoRow cNoFunction) (F : Fun K "behind_sign" "behind_sign" (top 16) f fd) (m : mg "behind_sign" = some (.ref f)) : FX P w K mg base 1 "behind_sign" ["text", "place", "sign"] (tBehX cN) := by
  have S : FnScope ["text", "place", "sign"] ["text", "place", "sign"] (defScope (top 16)) := ⟨rfl, rfl, rfl, by decide +kernel, rfl, by decide +kernel, by decide +kernel⟩
  refine fx_of F S (F.binds fun _ _ _ _ _ _ us hl => match us, hl with | [_, _, _], _ => rfl) m fun cdv A outer s H E ds φ χ hr hl hT hxp hxr => ?_
  have hu := hr.units
  refine ⟨_, (ss_cons (sd_if (et_not (et_val (ed_starts3 (ed_name 0) (ed_name 2) (ed_name 1)))) (ss_one (sd_raise PySem.F.excBase_ValueError Z.b_NoValue Z.x_NoValue hr.hd hxr (ea_cons ed_str ea_nil))) ss_nil)
      (ss_one (sd_ret (ed_add (ed_name 1) ed_int)))), ?_⟩
  obtain ⟨z, p, s, rfl, h1, h2⟩ := hT
  walk_at "dl"
  rw [st3]
  refine ⟨fun e => h2 (of_decide_eq_false e), fun e => h1 (of_decide_eq_true e)⟩
end

set_option Elab.async false
set_option linter.all false
set_option maxRecDepth 100000
set_option maxHeartbeats 8000000
set_option exponentiation.threshold 5000
section
variable {P : Program} {w : World} {K : PySem.W.Frag} {mg : Str → Option Value} {base : Heap} {f : Addr} {fd : FuncData}

theorem drop_head {l : List Nat} {p c : Nat} (h : (l.drop p).head? = some c) : l.drop p = c :: l.drop (p + 1) := by
  rw [List.head?_drop] at h
  have hp : p < l.length := (List.getElem?_eq_some_iff.mp h).1
  rw [List.drop_eq_getElem_cons hp]
  rw [List.getElem?_eq_getElem hp] at h
  rw [Option.some.inj h]
theorem head_lt {z : Str} {p c : Nat} (h : ((cd z).drop p).head? = some c) : p + 1 ≤ z.length := by
  rw [List.head?_drop] at h
  have hp : p < (cd z).length := (List.getElem?_eq_some_iff.mp h).1
  rw [cd_len]
  exact hp
theorem cnt_drop (l : List Nat) {i j : Nat} (h : i ≤ j) : (l.drop j).count 40 ≤ (l.drop i).count 40 := by
  have : (l.drop j).Sublist (l.drop i) := by
    rw [show j = i + (j - i) by omega, ← List.drop_drop]
    exact List.drop_sublist _ _
  exact this.count_le _
theorem step_inv {l1 l2 w : List Nat} {a : GT} (h1 : Prs l1 a (44 :: (w ++ 44 :: l2))) (hw : NC w) {g : GT} {r : List Nat} (h : Prs (40 :: l1) g r) : ∃ b, g = .node a w b ∧ Num w ∧ Prs l2 b (41 :: r) := by
  obtain ⟨a', w', b, rfl, k1, k2, k3⟩ := prs_node h
  obtain ⟨rfl, e⟩ := k1.uniq h1
  obtain ⟨rfl, e2⟩ := app_inj (num_nc k2) hw (List.cons.inj e).2
  exact ⟨b, rfl, k2, e2.symm, k3⟩
theorem num_is (w : List Nat) (z : Str) (h : cd z = w) : isNum z = true ↔ Num w := by
  unfold isNum Num
  rw [h]
theorem str_of {z : Str} {w : List Nat} (h : cd z = w) : z = ⟨w.toArray⟩ := cd_inj h
theorem fx_tree_at0 {n : Nat} (T : Tops mg) {cE cN cNoText cNoRow cNoFunction : Addr} (Z : Cls K mg cE cN cNoText cNoRow cNoFunction) (X_behind_sign : FX P w K mg base 1 "behind_sign" ["text", "place", "sign"] (tBehX cN)) (X_read_num : FX P w K mg base 2 "read_num" ["text"] (tNumX cN)) (X_tree_at : FX P w K mg base (n + 3) "tree_at" ["text", "place"] (tTreeX n cN)) (F : Fun K "tree_at" "tree_at" (top 15) f fd) (m : mg "tree_at" = some (.ref f)) : FX P w K mg base (n + 4) "tree_at" ["text", "place"] (tTreeX (n + 1) cN) := by
  have S : FnScope ["text", "place", "left", "begin", "end", "number", "right"] ["text", "place"] (defScope (top 15)) := ⟨rfl, rfl, rfl, by decide +kernel, rfl, by decide +kernel, by decide +kernel⟩
  refine fx_of F S (F.binds fun _ _ _ _ _ _ us hl => match us, hl with | [_, _], _ => rfl) m fun cdv A outer s H E ds φ χ hr hl hT hxp hxr => ?_
  have hu := hr.units
  refine ⟨_, (ss_cons (sd_cut (sd_if (et_val (ed_starts3 (ed_name 0) ed_str (ed_name 1))) (ss_one (sd_ret (ed_tup (ea_cons ed_non (ea_cons (ed_add (ed_name 1) ed_int) ea_nil))))) ss_nil))
      (ss_cons (sd_cut (sd_set 2 S.nd (ed_callX X_tree_at (hr.mono (by omega)) hxp (ea_cons (ed_name 0) (ea_cons (ed_callX X_behind_sign (hr.mono (by omega)) hxp (ea_cons (ed_name 0) (ea_cons (ed_name 1) (ea_cons ed_str ea_nil)))) ea_nil)))))
      (ss_cons (sd_cut (sd_set 3 S.nd (ed_callX X_behind_sign (hr.mono (by omega)) hxp (ea_cons (ed_name 0) (ea_cons (ed_ixx hu (ed_name 2) ed_int) (ea_cons ed_str ea_nil))))))
      (ss_cons (sd_cut (sd_set 4 S.nd (ed_find3 (ed_name 0) ed_str (ed_name 3))))
      (ss_cons (sd_cut (sd_if (et_lt (ed_name 4) ed_int) (ss_one (sd_raise PySem.F.excBase_ValueError Z.b_NoValue Z.x_NoValue hr.hd hxr (ea_cons ed_str ea_nil))) ss_nil))
      (ss_cons (sd_cut (sd_set 5 S.nd (ed_callX X_read_num (hr.mono (by omega)) hxp (ea_cons (ed_sliceS (ed_name 0) (eo_some (ed_name 3)) (eo_some (ed_name 4))) ea_nil))))
      (ss_cons (sd_cut (sd_set 6 S.nd (ed_callX X_tree_at (hr.mono (by omega)) hxp (ea_cons (ed_name 0) (ea_cons (ed_add (ed_name 4) ed_int) ea_nil)))))
      (ss_one (sd_ret (ed_tup (ea_cons (ed_tup (ea_cons (ed_ixx hu (ed_name 2) ed_int) (ea_cons (ed_name 5) (ea_cons (ed_ixx hu (ed_name 6) ed_int) ea_nil)))) (ea_cons (ed_callX X_behind_sign (hr.mono (by omega)) hxp (ea_cons (ed_name 0) (ea_cons (ed_ixx hu (ed_name 6) ed_int) (ea_cons ed_str ea_nil)))) ea_nil)))))))))))), ?_⟩
  obtain ⟨z, p, rfl, hl1, hc, h1, h2⟩ := hT
  have hsz : z.length ≤ sizeLine := by rw [sizeLine_eq]; omega
  refine cut_seq (fun ρ => ((cd z).drop p).head? ≠ some 46 ∧ ρ = [some (dv (.str z)), some (dv (.int (p : Int))), none, none, none, none, none]) ?_ ?_
  · walk_at "dl"
    refine ⟨fun q => ?_, fun q => ?_⟩
    · have e : ((cd z).drop p).head? = some 46 := of_decide_eq_true ((st3 z 46 p).symm.trans q)
      refine h1 .leaf (p + 1) ?_ (by omega) (head_lt e)
      have := prs_leaf e
      rw [List.tail_drop] at this
      exact this
    · exact of_decide_eq_false ((st3 z 46 p).symm.trans q)
  rintro _ ⟨h46, rfl⟩
  refine cut_seq (fun ρ => ∃ a q, (cd z).drop p = 40 :: (cd z).drop (p + 1) ∧ Prs ((cd z).drop (p + 1)) a ((cd z).drop q) ∧ p + 1 ≤ q ∧ ρ = [some (dv (.str z)), some (dv (.int (p : Int))), some (dv (.tup [tD a, .int (q : Int)])), none, none, none, none]) ?_ ?_
  · walk_at "dl"
    refine ⟨z, p, 40, rfl, fun e => ?_, fun e => h2 (no_head h46 e)⟩
    have el := drop_head e
    refine ⟨z, p + 1, rfl, hl1, ?_, fun g q hp hq _ => ⟨trivial, g, q, el, hp, hq, rfl⟩, fun hno => h2 fun g r h => ?_⟩
    · rw [el, List.count_cons] at hc
      simp at hc
      omega
    · rw [el] at h
      obtain ⟨a, w, b, _, k1, _⟩ := prs_node h
      exact hno _ _ k1
  rintro _ ⟨a, q, el, pa, hq, rfl⟩
  have hc1 : ((cd z).drop (p + 1)).count 40 < n := by
    rw [el, List.count_cons] at hc
    simp at hc
    omega
  refine cut_seq (fun ρ => (cd z).drop q = 44 :: (cd z).drop (q + 1) ∧ ρ = [some (dv (.str z)), some (dv (.int (p : Int))), some (dv (.tup [tD a, .int (q : Int)])), some (dv (.int ((q + 1 : Nat) : Int))), none, none, none]) ?_ ?_
  · walk_at "dl"
    refine ⟨z, q, 44, rfl, fun e => ⟨trivial, drop_head e, rfl⟩, fun e => h2 fun g r h => ?_⟩
    rw [el] at h
    obtain ⟨a', w, b, _, k1, _⟩ := prs_node h
    obtain ⟨_, e2⟩ := k1.uniq pa
    rw [← e2] at e
    exact e rfl
  rintro _ ⟨e44, rfl⟩
  rcases fd3 z (q + 1) with ⟨ef, hno⟩ | ⟨k, ef, hk1, hk2, hnc, ew⟩
  · refine cut_seq (fun ρ => ρ = [some (dv (.str z)), some (dv (.int (p : Int))), some (dv (.tup [tD a, .int (q : Int)])), some (dv (.int ((q + 1 : Nat) : Int))), some (dv (.int (-1))), none, none]) ?_ ?_
    · walk_at "dl"
      have ef' : Txt.find3 z (Str.ofString ",") ((q + 1 : Nat) : Int) = -1 := ef
      rw [ef']
    rintro _ rfl
    refine cut_seq (fun ρ => False) ?_ (fun _ y => y.elim)
    walk_at "dl"
    refine h2 fun g r h => ?_
    rw [el] at h
    obtain ⟨a', w, b, _, k1, _⟩ := prs_node h
    obtain ⟨_, e2⟩ := k1.uniq pa
    rw [e44] at e2
    have e3 := (List.cons.inj e2).2
    exact hno (by rw [← e3]; simp)
  obtain ⟨w, hw⟩ : ∃ w, ((cd z).drop (q + 1)).take (k - (q + 1)) = w := ⟨_, rfl⟩
  rw [hw] at hnc ew
  have ecw : cd (cutS z (some ((q + 1 : Nat) : Int)) (some (k : Int))) = w := (cd_mid z (q + 1) k hk1 (by omega)).trans hw
  have pa2 : Prs ((cd z).drop (p + 1)) a (44 :: (w ++ 44 :: (cd z).drop (k + 1))) := by rw [← ew, ← e44]; exact pa
  refine cut_seq (fun ρ => ρ = [some (dv (.str z)), some (dv (.int (p : Int))), some (dv (.tup [tD a, .int (q : Int)])), some (dv (.int ((q + 1 : Nat) : Int))), some (dv (.int (k : Int))), none, none]) ?_ ?_
  · walk_at "dl"
    have ef' : Txt.find3 z (Str.ofString ",") ((q + 1 : Nat) : Int) = k := ef
    rw [ef']
  rintro _ rfl
  refine cut_seq (fun ρ => ρ = [some (dv (.str z)), some (dv (.int (p : Int))), some (dv (.tup [tD a, .int (q : Int)])), some (dv (.int ((q + 1 : Nat) : Int))), some (dv (.int (k : Int))), none, none]) ?_ ?_
  · walk_at "dl"
    exact fun y => absurd y (by omega)
  rintro _ rfl
  refine cut_seq (fun ρ => Num w ∧ ρ = [some (dv (.str z)), some (dv (.int (p : Int))), some (dv (.tup [tD a, .int (q : Int)])), some (dv (.int ((q + 1 : Nat) : Int))), some (dv (.int (k : Int))), some (dv (.int (rnL w))), none]) ?_ ?_
  · walk_at "dl"
    refine ⟨hsz, _, rfl, ?_, fun hn => ⟨trivial, (num_is w _ ecw).mp hn, ?_⟩, fun hn => h2 fun g r h => ?_⟩
    · rw [cd_len, ecw, ← hw, List.length_take, List.length_drop, ← cd_len]
      omega
    · rw [str_of ecw]
      rfl
    · rw [el] at h
      obtain ⟨b, _, hN, _⟩ := step_inv pa2 hnc h
      have := (num_is w _ ecw).mpr hN
      rw [hn] at this
      cases this
  rintro _ ⟨hN, rfl⟩
  refine cut_seq (fun ρ => ∃ b q2, Prs ((cd z).drop (k + 1)) b ((cd z).drop q2) ∧ k + 1 ≤ q2 ∧ ρ = [some (dv (.str z)), some (dv (.int (p : Int))), some (dv (.tup [tD a, .int (q : Int)])), some (dv (.int ((q + 1 : Nat) : Int))), some (dv (.int (k : Int))), some (dv (.int (rnL w))), some (dv (.tup [tD b, .int (q2 : Int)]))]) ?_ ?_
  · walk_at "dl"
    refine ⟨z, k + 1, rfl, hl1, ?_, fun b q2 hb hq2 _ => ⟨trivial, b, q2, hb, hq2, rfl⟩, fun hno => h2 fun g r h => ?_⟩
    · exact Nat.lt_of_le_of_lt (cnt_drop _ (by omega)) hc1
    · rw [el] at h
      obtain ⟨b, _, _, hb⟩ := step_inv pa2 hnc h
      exact hno _ _ hb
  rintro _ ⟨b, q2, pb, hq2, rfl⟩
  walk_at "dl"
  refine ⟨z, q2, 41, rfl, fun e => ⟨rfl, ⟨⟨pure_tD a, pure_tD b⟩, trivial⟩, h1 (.node a w b) (q2 + 1) ?_ (by omega) (head_lt e)⟩, fun e => h2 fun g r h => ?_⟩
  · rw [el]
    rw [drop_head e] at pb
    exact prs_mk pa2 hN pb
  · rw [el] at h
    obtain ⟨b', _, _, hb⟩ := step_inv pa2 hnc h
    obtain ⟨_, e2⟩ := hb.uniq pb
    rw [← e2] at e
    exact e rfl
end

set_option Elab.async false
set_option linter.all false
set_option maxRecDepth 100000
set_option maxHeartbeats 8000000
set_option exponentiation.threshold 5000
section
variable {P : Program} {w : World} {K : PySem.W.Frag} {mg : Str → Option Value} {base : Heap} {f : Addr} {fd : FuncData}

theorem fx_treeN (T : Tops mg) {cE cN cNoText cNoRow cNoFunction : Addr} (Z : Cls K mg cE cN cNoText cNoRow cNoFunction) (X_behind_sign : FX P w K mg base 1 "behind_sign" ["text", "place", "sign"] (tBehX cN)) (X_read_num : FX P w K mg base 2 "read_num" ["text"] (tNumX cN)) (F : Fun K "tree_at" "tree_at" (top 15) f fd) (m : mg "tree_at" = some (.ref f)) : ∀ n : Nat, FX P w K mg base (n + 3) "tree_at" ["text", "place"] (tTreeX n cN)
  | 0 => by
    have S : FnScope ["text", "place", "left", "begin", "end", "number", "right"] ["text", "place"] (defScope (top 15)) := ⟨rfl, rfl, rfl, by decide +kernel, rfl, by decide +kernel, by decide +kernel⟩
    refine fx_of F S (F.binds fun _ _ _ _ _ _ us hl => match us, hl with | [_, _], _ => rfl) m fun cdv A outer s H E ds φ χ hr hl hT hxp hxr => ?_
    obtain ⟨z, p, rfl, hl1, hc, _⟩ := hT
    exact absurd hc (Nat.not_lt_zero _)
  | n + 1 => fx_tree_at0 T Z X_behind_sign X_read_num (fx_treeN T Z X_behind_sign X_read_num F m n) F m
noncomputable def tRdX (c : Addr) : FTX := fun ds φ χ => ∃ z : Str, ds = [.str z] ∧ z.length ≤ 100000 ∧ (∀ g, Acc (cd z) g → φ (dv (tD g))) ∧ (Bad (cd z) → χ c)
noncomputable def notS : D → Prop
  | .non => True
  | .int _ => True
  | .bl _ => True
  | .tup _ => True
  | .lst _ => True
  | .dk _ _ => True
  | _ => False
noncomputable def tArgX (c : Addr) : FTX := fun ds φ χ => ∃ d, ds = [.str "tree", d] ∧ ((notS d ∧ χ c) ∨ ∃ z, d = .str z ∧ z.length ≤ 100000 ∧ (∀ g, Acc (cd z) g → φ (dv (tD g))) ∧ (Bad (cd z) → χ c))
theorem fx_read_tree (T : Tops mg) {cE cN cNoText cNoRow cNoFunction : Addr} (Z : Cls K mg cE cN cNoText cNoRow cNoFunction) (X_tree_at : FX P w K mg base 44 "tree_at" ["text", "place"] (tTreeX 41 cN)) (F : Fun K "read_tree" "read_tree" (top 14) f fd) (m : mg "read_tree" = some (.ref f)) : FX P w K mg base 45 "read_tree" ["text"] (tRdX cN) := by
  have S : FnScope ["text", "found"] ["text"] (defScope (top 14)) := ⟨rfl, rfl, rfl, by decide +kernel, rfl, by decide +kernel, by decide +kernel⟩
  refine fx_of F S (F.binds fun _ _ _ _ _ _ us hl => match us, hl with | [_], _ => rfl) m fun cdv A outer s H E ds φ χ hr hl hT hxp hxr => ?_
  have hu := hr.units
  refine ⟨_, (ss_cons (sd_cut (sd_if (et_gt (ed_count (ed_name 0) ed_str) (ed_glob Z.c_MOST_SIZE)) (ss_one (sd_raise PySem.F.excBase_ValueError Z.b_NoValue Z.x_NoValue hr.hd hxr (ea_cons ed_str ea_nil))) ss_nil))
      (ss_cons (sd_cut (sd_set 1 S.nd (ed_callX X_tree_at (hr.mono (by decide)) hxp (ea_cons (ed_name 0) (ea_cons ed_int ea_nil)))))
      (ss_cons (sd_cut (sd_if (et_ne hu (ed_ixx hu (ed_name 1) ed_int) (ed_len T.len (ea_cons (ed_name 0) ea_nil))) (ss_one (sd_raise PySem.F.excBase_ValueError Z.b_NoValue Z.x_NoValue hr.hd hxr (ea_cons ed_str ea_nil))) ss_nil))
      (ss_one (sd_ret (ed_ixx hu (ed_name 1) ed_int)))))), ?_⟩
  obtain ⟨z, rfl, hl1, h1, h2⟩ := hT
  have ec : Txt.count z (Str.ofString "(") = ((cd z).count 40 : Int) := count_is' z 40
  refine cut_seq (fun ρ => (cd z).count 40 ≤ 40 ∧ ρ = [some (dv (.str z)), none]) ?_ ?_
  · walk_at "dl"
    rw [ec]
    exact ⟨fun y => h2 (bad_many (by omega)), fun y => by omega⟩
  rintro _ ⟨hc, rfl⟩
  refine cut_seq (fun ρ => ∃ g q, Prs (cd z) g ((cd z).drop q) ∧ q ≤ z.length ∧ ρ = [some (dv (.str z)), some (dv (.tup [tD g, .int (q : Int)]))]) ?_ ?_
  · walk_at "dl"
    refine ⟨z, 0, rfl, hl1, by rw [List.drop_zero]; omega, fun g q hp _ hq => ⟨trivial, g, q, hp, hq, rfl⟩, fun hno => h2 fun g hg => ?_⟩
    rw [List.drop_zero] at hno
    exact hno g [] ⟨by rw [List.append_nil]; exact hg.1, hg.2.1⟩
  rintro _ ⟨g, q, hp, hq, rfl⟩
  refine cut_seq (fun ρ => q = z.length ∧ ρ = [some (dv (.str z)), some (dv (.tup [tD g, .int (q : Int)]))]) ?_ ?_
  · walk_at "dl"
    refine ⟨by rw [sizeLine_eq]; omega, fun y => h2 fun g' hg => ?_, fun y => by omega⟩
    have hg' : Prs (cd z) g' [] := ⟨by rw [List.append_nil]; exact hg.1, hg.2.1⟩
    obtain ⟨_, e⟩ := hg'.uniq hp
    have := congrArg List.length e
    rw [List.length_drop, ← cd_len] at this
    simp at this
    omega
  rintro _ ⟨hq, rfl⟩
  walk_at "dl"
  have e : (cd z).drop q = [] := by
    rw [hq, cd_len, List.drop_length]
  rw [e] at hp
  have ha := hp.1
  rw [List.append_nil] at ha
  refine ⟨pure_tD g, h1 g ⟨ha, hp.2, ?_⟩⟩
  rw [ha, cnt40 hp.2] at hc
  exact hc
theorem fx_read_arg (T : Tops mg) {cE cN cNoText cNoRow cNoFunction : Addr} (Z : Cls K mg cE cN cNoText cNoRow cNoFunction) (X_read_num : FX P w K mg base 2 "read_num" ["text"] (tNumX cN)) (X_read_tree : FX P w K mg base 45 "read_tree" ["text"] (tRdX cN)) (F : Fun K "read_arg" "read_arg" (top 11) f fd) (m : mg "read_arg" = some (.ref f)) : FX P w K mg base 46 "read_arg" ["shape", "text"] (tArgX cN) := by
  have S : FnScope ["shape", "text"] ["shape", "text"] (defScope (top 11)) := ⟨rfl, rfl, rfl, by decide +kernel, rfl, by decide +kernel, by decide +kernel⟩
  refine fx_of F S (F.binds fun _ _ _ _ _ _ us hl => match us, hl with | [_, _], _ => rfl) m fun cdv A outer s H E ds φ χ hr hl hT hxp hxr => ?_
  have hu := hr.units
  refine ⟨_, (ss_cons (sd_if (et_not (et_val (ed_isinst T.isinstance (ea_cons (ed_name 1) (ea_cons (ed_ty T.str boot_str') ea_nil))))) (ss_one (sd_raise PySem.F.excBase_ValueError Z.b_NoValue Z.x_NoValue hr.hd hxr (ea_cons ed_str ea_nil))) ss_nil)
      (ss_cons (sd_if (et_eq hu (ed_name 0) ed_str) (ss_one (sd_ret (ed_callX X_read_num (hr.mono (by decide)) hxp (ea_cons (ed_name 1) ea_nil)))) ss_nil)
      (ss_cons (sd_if (et_eq hu (ed_name 0) ed_str) (ss_one (sd_ret ed_never)) ss_nil)
      (ss_one (sd_ret (ed_callX X_read_tree (hr.mono (by decide)) hxp (ea_cons (ed_name 1) ea_nil))))))), ?_⟩
  obtain ⟨d, rfl, hb⟩ := hT
  have A1 : ∀ d, notS d → isT d "str" = some false := fun d hd => by
    cases d with
    | non => exact isT_non_str
    | bl b => exact isT_bl_str b
    | int i => exact isT_int_str i
    | tup l => exact isT_tup_str l
    | lst l => exact isT_lst_str l
    | dk k l => exact isT_dk_str k l
    | _ => exact hd.elim
  rcases hb with ⟨hn, h⟩ | ⟨z, rfl, hl1, b1, b2⟩
  · walk_at "dl"
    simp only [A1 d hn]
    walk_at "dl"
    exact h
  · walk_at "dl"
    refine ⟨fun y => absurd y (by decide), fun _ => ⟨fun y => absurd y (by decide), fun _ => ?_⟩⟩
    exact ⟨z, rfl, hl1, fun g hg => ⟨pure_tD g, b1 g hg⟩, b2⟩
end
end K81

set_option Elab.async false
set_option linter.all false
set_option maxRecDepth 100000
set_option maxHeartbeats 8000000
set_option exponentiation.threshold 5000
namespace K81
open PySem PySem.Spec L2 L3 DL K80
open PyProof.Rows hiding St
/-- a number's own word -/
noncomputable def Can (w : List Nat) : Prop := ∃ i : Int, i.natAbs < 10 ^ 60 ∧ w = cd (toS i)
theorem can_num {w : List Nat} (h : Can w) : Num w := by
  obtain ⟨i, hi, rfl⟩ := h
  exact num_toS hi
theorem can_len {w : List Nat} (h : Can w) : w.length ≤ 61 := by
  obtain ⟨i, hi, rfl⟩ := h
  rw [← cd_len]
  exact toS_len hi
theorem sh_len : ∀ {g : GT}, All Can g → (sh g).length ≤ 66 * nodes g + 1
  | .leaf, _ => by decide
  | .node a w b, ⟨h1, h2, h3⟩ => by
    have e1 := sh_len h1
    have e2 := sh_len h3
    have e3 := can_len h2
    simp only [sh, nodes, List.length_cons, List.length_append, List.length_nil]
    omega
noncomputable def mkS (w : List Nat) : Str := ⟨w.toArray⟩
theorem cd_mk (w : List Nat) : cd (mkS w) = w := rfl
noncomputable def wS (w : List Nat) : D := .str (mkS w)
theorem mk_inj {a b : List Nat} (h : mkS a = mkS b) : a = b := by
  have := congrArg cd h
  exact this
theorem mk_eq {z : Str} {w : List Nat} (h : cd z = w) : z = mkS w := cd_inj h
/-- joined with nothing between -/
theorem cd_join0 : ∀ ws : List (List Nat), cd (Str.join (Str.ofString "") (ws.map mkS)) = ws.flatten
  | [] => rfl
  | [a] => by simp [Str.join, cd_mk]
  | a :: b :: r => by
    show cd (mkS a ++ Str.ofString "" ++ Str.join (Str.ofString "") ((b :: r).map mkS)) = _
    rw [cd_app, cd_app, cd_join0 (b :: r)]
    show a ++ [] ++ (b :: r).flatten = _
    simp only [List.append_nil, List.flatten_cons]
theorem join0_mk (ws : List (List Nat)) : Str.join (Str.ofString "") (ws.map mkS) = mkS ws.flatten := mk_eq (cd_join0 ws)
theorem join0_sum (ws : List (List Nat)) : ((ws.map mkS).map fun t => t.length + (Str.ofString "").length).sum = ws.flatten.length := by
  induction ws with
  | nil => rfl
  | cons a l ih =>
    rw [List.map_cons, List.map_cons, List.sum_cons, ih, List.flatten_cons, List.length_append]
    show (mkS a).length + 0 + _ = _
    rw [cd_len, cd_mk, Nat.add_zero]
theorem flat_at {l : List (List Nat)} {i : Nat} {w : List Nat} (h : l[i]? = some w) : l.flatten = (l.take i).flatten ++ (w ++ (l.drop (i + 1)).flatten) := by
  have hi : i < l.length := (List.getElem?_eq_some_iff.mp h).1
  have e : l = l.take i ++ (w :: l.drop (i + 1)) := by
    have e1 := List.drop_eq_getElem_cons hi
    rw [List.getElem?_eq_getElem hi] at h
    rw [Option.some.inj h] at e1
    rw [← e1, List.take_append_drop]
  have e2 := congrArg List.flatten e
  rw [List.flatten_append, List.flatten_cons] at e2
  exact e2
theorem flat_cut (l : List (List Nat)) (i : Nat) : l.flatten = (l.take i).flatten ++ (l.drop i).flatten := by
  rw [← List.flatten_append, List.take_append_drop]
theorem set_cut {l : List (List Nat)} {i : Nat} (w : List Nat) (h : i < l.length) : l.set i w = l.take i ++ (w :: l.drop (i + 1)) := by
  rw [List.set_eq_take_append_cons_drop, if_pos h]
/-- counts of a good tree's text -/
theorem cnt_of {g : GT} (h : All Can g) : Cnt (sh g) (nodes g) :=
  have h2 := h.imp fun w h => can_num h
  ⟨cnt40 h2, cnt41 h2, cnt44 h2, cnt46 h2⟩
theorem wd_nums : ∀ {g : GT}, All Can g → (wd g).countP (fun w => !isSg w) = nodes g
  | .leaf, _ => by decide
  | .node a w b, ⟨h1, h2, h3⟩ => by
    have e1 := wd_nums h1
    have e2 := wd_nums h3
    have e3 := num_sg (can_num h2)
    simp only [wd, nodes, List.countP_cons, List.countP_append, List.countP_nil, e1, e2, e3]
    have s1 : isSg [40] = true := by decide
    have s2 : isSg [44] = true := by decide
    have s3 : isSg [41] = true := by decide
    rw [s1, s2, s3]
    simp
    omega
theorem wd_sg : ∀ {g : GT}, 0 < (wd g).countP isSg
  | .leaf => by decide
  | .node a w b => by
    simp only [wd, List.countP_cons]
    have s1 : isSg [40] = true := by decide
    rw [s1]
    simp
theorem wd_len : ∀ g : GT, (wd g).length = 6 * nodes g + 1
  | .leaf => by decide
  | .node a w b => by
    have e1 := wd_len a
    have e2 := wd_len b
    simp only [wd, nodes, List.length_cons, List.length_append, List.length_nil]
    omega
theorem isSg_of {w : List Nat} (h : isSg w = true) : ∃ c, w = [c] ∧ sgn c := by
  rcases of_decide_eq_true h with h | h | h | h
  · exact ⟨40, h, .inl rfl⟩
  · exact ⟨41, h, .inr (.inl rfl)⟩
  · exact ⟨44, h, .inr (.inr (.inl rfl))⟩
  · exact ⟨46, h, .inr (.inr (.inr rfl))⟩
/-- the places of words of a kind -/
noncomputable def places (q : List Nat → Bool) (l : List (List Nat)) (i : Nat) : List Nat := (List.range i).filter fun k => q (l.getD k [])
theorem places_succ (q : List Nat → Bool) (l : List (List Nat)) (i : Nat) : places q l (i + 1) = places q l i ++ (if q (l.getD i []) = true then [i] else []) := by
  unfold places
  rw [List.range_succ, List.filter_append]
  congr 1
  by_cases h : q (l.getD i []) = true
  · rw [if_pos h]; simp only [List.filter_cons, h, if_true, List.filter_nil]
  · rw [if_neg h]; simp only [List.filter_cons, h, if_false, List.filter_nil]; rfl
theorem places_mem {q : List Nat → Bool} {l : List (List Nat)} {k : Nat} (h : k ∈ places q l l.length) : ∃ w, l[k]? = some w ∧ q w = true ∧ k < l.length := by
  obtain ⟨h1, h2⟩ := List.mem_filter.mp h
  have hk := List.mem_range.mp h1
  refine ⟨l[k], List.getElem?_eq_getElem hk, ?_, hk⟩
  have : l.getD k [] = l[k] := by simp [List.getD, List.getElem?_eq_getElem hk]
  rw [← this]
  exact h2
theorem places_len (q : List Nat → Bool) (l : List (List Nat)) : (places q l l.length).length = l.countP q := by
  have : ∀ i, i ≤ l.length → (places q l i).length = (l.take i).countP q := fun i => by
    induction i with
    | zero => intro _; rfl
    | succ i ih =>
      intro h
      have hi : i < l.length := by omega
      rw [places_succ, List.length_append, ih (by omega), List.take_succ, List.getElem?_eq_getElem hi, List.countP_append]
      have e : l.getD i [] = l[i] := by simp [List.getD, List.getElem?_eq_getElem hi]
      rw [e]
      congr 1
      by_cases h : q l[i] = true
      · rw [if_pos h]; simp [h]
      · rw [if_neg h]; simp [h]
  rw [this _ (Nat.le_refl _), List.take_length]
/-- a text, n times -/
theorem cd_rep (z : Str) (n : Int) : cd (repS z n) = (List.replicate n.toNat (cd z)).flatten := by
  have : ∀ (k : Nat) (a : Array Nat), ((List.replicate k z.cps).foldl (· ++ ·) a).toList = a.toList ++ (List.replicate k (cd z)).flatten := fun k => by
    induction k with
    | zero => intro a; simp
    | succ k ih => intro a; rw [List.replicate_succ, List.foldl_cons, ih, Array.toList_append, List.replicate_succ, List.flatten_cons, List.append_assoc]
  have := this n.toNat #[]
  exact this
theorem cnt_rep (c : Nat) (z : Str) (n : Int) : (cd (repS z n)).count c = n.toNat * (cd z).count c := by
  rw [cd_rep]
  induction n.toNat with
  | zero => simp
  | succ k ih => rw [List.replicate_succ, List.flatten_cons, List.count_append, ih, Nat.succ_mul]; omega
end K81

set_option Elab.async false
set_option linter.all false
set_option maxRecDepth 100000
set_option maxHeartbeats 8000000
set_option exponentiation.threshold 5000
namespace K81
open PySem PySem.Spec L2 L3 DL
open K80
open PyProof.Rows hiding St
open PySem.Builtin.Int (intBits)
local macro_rules | `(tactic| walk_at "dl") => `(tactic| simp only [sNil, sSeq, sRet, sIf, sSet, sExpr, sUn, sPar, d2, d1, dName, dC, slot, setS, EV.sto, EV.ret, aNil, aCons, dTup, dLst, dCall, dCB, solidB, vAnd, vOr, vNot, vIf, bAnd, bOr, bNot, bYes, tTru, tBo, truD, sSub, sFd, sMod, sPow, sLt, sLe, sGt, sGe, sI, sI0, sAdd, sMul, sNeg, sEq, sNe, sIs, sIsNot, isNon, sIx, sSl, dSl, oNone, oSome, sLen, sAbs, sIsI, sStr, sTupC, sListC, sIntC, sApp, iSeq, iR1, iR2, itemsD, gN, gT2, startD, isT_non_int, isT_non_bool, isT_bl_int, isT_bl_bool, isT_int_int, isT_int_bool, isT_int_str, isT_str_int, isT_str_str, isT_tup_tuple, isT_tup_int, isT_tup_list, isT_lst_list, isT_lst_tuple, isT_dk_dict, List.map_cons, List.map_nil, List.length_cons, List.length_nil, List.cons_append, List.nil_append, List.replicate_succ, List.replicate_zero, Nat.reduceAdd, Nat.reduceSub, Nat.zero_add, Nat.sub_self, Bool.and_self, Bool.and_true, Bool.true_and, true_and, and_true, Bool.not_true, Bool.not_false, forall_const, true_implies, false_implies, Bool.true_eq_false, Bool.false_eq_true, reduceCtorEq, implies_true, okD_int, okD_bl, okD_str, okD_non, eqD_int, eqD_str, eqD_bl, pureEV, pureD, pureDs, Bool.not_eq_eq_eq_not, Bool.not_true, Bool.not_false, beq_eq_false_iff_ne, beq_iff_eq, ne_eq, decide_eq_true_eq, decide_eq_false_iff_not, Bool.not_eq_true, Bool.not_eq_false, not_true_eq_false, not_false_eq_true, atI_0, atI_1, atI_2, and_self, Nat.beq_eq, Nat.ble_eq, Nat.reduceLeDiff, eq_self, Nat.reduceEqDiff, sIxx, dGet2, dFmt, dJoin, keyD, sIn, flatD, cp10, Int.reduceLE, Int.reduceToNat, tenpow_ne, atI_map, List.length_map, Option.map_some, Int.zero_add, sDput', Int.reduceEq, Int.reduceNeg, Int.reduceLT, sRaise, dCallX, sTry, hanZ, clrS, frzE, Option.map_none, List.map_cons, dIsE, sFrz, frzS, iZ, seqD_lst, seqD_tup, seqD_scr, sSum, intsD_map, sPop, sAppPop, sExt, sAug, sIsB, sIsNotB, dTupN, dAddN, dSlT, dPick, sLP, popD_app, pureEVs, sAllL, isT_str_bool, isT_str_tuple, isT_non_tuple, isT_bl_tuple, isT_int_tuple, isT_tup_bool, isT_lst_int, isT_lst_bool, isT_dk_int, isT_dk_bool, isT_dk_tuple, isT_non_bool, isT_str_int, dIsET, sDictC, sLenD, intsD_map, sListD, sAugM, sPopX, iE, dStep, sMax, iZ, seqD, dJoin1, sRetT, pureRs, cstD, dChain, dSlS, sSlS, dEnds, dStarts, dSplit, sIntS, sMulS, isT_non_str, isT_bl_str, isT_tup_str, isT_lst_str, isT_dk_str, dStarts3, dFind3, dCount, sMulT, sEqF, sNeF])
seal SDs SD ED EA ET EW
section
variable {P : Program} {w : World} {K : PySem.W.Frag} {mg : Str → Option Value} {base : Heap} {f : Addr} {fd : FuncData}

theorem log60 {n : Int} (h : n.natAbs < 10 ^ 60) : n.natAbs.log2 < 1920 := by
  by_cases h0 : n.natAbs = 0
  · rw [h0]; decide
  · exact (Nat.log2_lt h0).mpr (Nat.lt_trans h (by decide))
noncomputable def tShT (n : Nat) : FT := g1 fun d φ => ∃ g, d = tD g ∧ nodes g < n ∧ nodes g ≤ 40 ∧ All Can g ∧ φ (dv (.str (mkS (sh g))))
noncomputable def tShow : FT := g2 fun s d φ => ∃ g, s = .str "tree" ∧ d = tD g ∧ nodes g ≤ 40 ∧ All Can g ∧ φ (dv (.str (mkS (sh g))))
noncomputable def tRefused : FT := g2 fun s d φ => s = .str "tree" ∧ (notS d ∨ ∃ z, d = .str z ∧ z.length ≤ 100000 ∧ Bad (cd z)) ∧ φ (dv (.bl true))
theorem can_rn {i : Int} (h : i.natAbs < 10 ^ 60) : rnL (cd (toS i)) = i := rn_toS h
theorem fd_show_tree {n : Nat} (T : Tops mg) (F_show_tree : FD P w K mg base (n + 1) "show_tree" ["tree"] (tShT n)) (F : Fun K "show_tree" "show_tree" (top 18) f fd) (m : mg "show_tree" = some (.ref f)) : FD P w K mg base (n + 2) "show_tree" ["tree"] (tShT (n + 1)) := by
  have S : FnScope ["tree", "left", "number", "right"] ["tree"] (defScope (top 18)) := ⟨rfl, rfl, rfl, by decide +kernel, rfl, by decide +kernel, by decide +kernel⟩
  refine fd_of F S (F.binds fun _ _ _ _ _ _ us hl => match us, hl with | [_], _ => rfl) m fun cdv A outer s H E ds φ hr hl hT => ?_
  have hu := hr.units
  refine ⟨_, (ss_cons (sd_if (et_is (ed_name 0) ed_non) (ss_one (sd_ret ed_str)) ss_nil)
      (ss_cons (sd_set 1 S.nd (ed_call F_show_tree (hr.mono (by omega)) (ea_cons (ed_ixx hu (ed_name 0) ed_int) ea_nil)))
      (ss_cons (sd_set 2 S.nd (ed_ixx hu (ed_name 0) ed_int))
      (ss_cons (sd_set 3 S.nd (ed_call F_show_tree (hr.mono (by omega)) (ea_cons (ed_ixx hu (ed_name 0) ed_int) ea_nil)))
      (ss_one (sd_ret (ed_join (.cons ed_str (.cons (ed_fmt (ed_name 1)) (.cons ed_str (.cons (ed_fmt (ed_name 2)) (.cons ed_str (.cons (ed_fmt (ed_name 3)) (.cons ed_str .nil)))))))))))))), ?_⟩
  obtain ⟨d, rfl, g, rfl, hn, h40, hc, h⟩ := f1_of hT
  cases g with
  | leaf =>
    unfold tD
    walk_at "dl"
    exact h
  | node a w b =>
    obtain ⟨h1, ⟨i, hi, rfl⟩, h3⟩ := hc
    simp only [nodes] at hn h40
    unfold tD
    have hsn : All Can (.node a (cd (toS i)) b) := ⟨h1, ⟨i, hi, rfl⟩, h3⟩
    have hlen := sh_len hsn
    simp only [nodes] at hlen
    rw [can_rn hi]
    walk_at "dl"
    simp only [tShT, DL.g1]
    have la : (mkS (sh a)).length = (sh a).length := cd_len _
    have lb : (mkS (sh b)).length = (sh b).length := cd_len _
    have li : (Str.ofString (toString i)).length ≤ 61 := toS_len hi
    have e0 : Str.empty.length = 0 := by decide
    have e1 : (Str.ofString "(").length = 1 := by decide
    have e2 : (Str.ofString ")").length = 1 := by decide
    have e3 : (Str.ofString ",").length = 1 := by decide
    have l1 := sh_len h1
    have l2 := sh_len h3
    refine ⟨a, rfl, by omega, by omega, h1, trivial, b, rfl, by omega, by omega, h3, trivial, ?_, ?_, ?_, ?_, log60 hi, ?_, ?_, ?_, ?_, ?_, ?_⟩
    · simp only [sizeLine_eq, Str.length_append, la, lb, e0, e1, e2, e3]; omega
    · simp only [sizeLine_eq, Str.length_append, la, lb, e0, e1, e2, e3]; omega
    · simp only [sizeLine_eq, Str.length_append, la, lb, e0, e1, e2, e3]; omega
    · simp only [sizeLine_eq, Str.length_append, la, lb, e0, e1, e2, e3]; omega
    · simp only [sizeLine_eq, Str.length_append, la, lb, e0, e1, e2, e3]; omega
    · simp only [sizeLine_eq, Str.length_append, la, lb, e0, e1, e2, e3]; omega
    · simp only [sizeLine_eq, Str.length_append, la, lb, e0, e1, e2, e3]; omega
    · simp only [sizeLine_eq, Str.length_append, la, lb, e0, e1, e2, e3]; omega
    · simp only [sizeLine_eq, Str.length_append, la, lb, e0, e1, e2, e3]; omega
    · have e : Str.empty ++ Str.ofString "(" ++ mkS (sh a) ++ Str.ofString "," ++ Str.ofString (toString i) ++ Str.ofString "," ++ mkS (sh b) ++ Str.ofString ")" = mkS (sh (.node a (cd (toS i)) b)) := mk_eq (by
        simp only [cd_app, sh]
        show [] ++ [40] ++ sh a ++ [44] ++ cd (toS i) ++ [44] ++ sh b ++ [41] = _
        simp)
      rw [e]
      exact h
theorem fd_show_arg (T : Tops mg) (F_show_tree : FD P w K mg base 42 "show_tree" ["tree"] (tShT 41)) (F : Fun K "show_arg" "show_arg" (top 17) f fd) (m : mg "show_arg" = some (.ref f)) : FD P w K mg base 43 "show_arg" ["shape", "value"] tShow := by
  have S : FnScope ["shape", "value", "inner"] ["shape", "value"] (defScope (top 17)) := ⟨rfl, rfl, rfl, by decide +kernel, rfl, by decide +kernel, by decide +kernel⟩
  refine fd_of F S (F.binds fun _ _ _ _ _ _ us hl => match us, hl with | [_, _], _ => rfl) m fun cdv A outer s H E ds φ hr hl hT => ?_
  have hu := hr.units
  refine ⟨_, (ss_cons (sd_if (et_eq hu (ed_name 0) ed_str) (ss_one (sd_ret (ed_strI T.str (ea_cons (ed_name 1) ea_nil)))) ss_nil)
      (ss_cons (sd_if (et_eq hu (ed_name 0) ed_str) (ss_cons (sd_set 2 S.nd (ed_join1 ed_str (ed_comp (T := ["number"]) (F := []) (js := []) (ei_seq (ed_name 1)) (show CompScope (defScope (top 17)) _ ["number"] [] from ⟨rfl, by decide +kernel, by decide +kernel, by decide +kernel, by decide +kernel, by decide +kernel⟩) .nil (by decide) (fun cl C fp s H => (pg_name (i := 0) (show ((["number"] : List Str) ++ ([] : List Str)).Nodup by decide +kernel) rfl (by first | exact Or.inl rfl | exact Or.inr rfl))) (gk_name (by decide)) (gl_name 0) (fun cl C fp s H => eif_nil) (fun cl C fp s H => (ed_strI T.str (ea_cons (ed_name 0) ea_nil))))))
        (ss_one (sd_ret (ed_join (.cons ed_str (.cons (ed_fmt (ed_name 2)) (.cons ed_str .nil))))))) ss_nil)
      (ss_one (sd_ret (ed_call F_show_tree (hr.mono (by decide)) (ea_cons (ed_name 1) ea_nil)))))), ?_⟩
  obtain ⟨sd, d, rfl, g, rfl, rfl, h40, hc, h⟩ := f2_of hT
  walk_at "dl"
  simp only [tShT, DL.g1]
  exact ⟨fun y => absurd y (by decide), fun _ => ⟨fun y => absurd y (by decide), fun _ => ⟨g, rfl, by omega, h40, hc, trivial, h⟩⟩⟩
theorem fd_law_refused (T : Tops mg) {cE cN cNoText cNoRow cNoFunction : Addr} (Z : Cls K mg cE cN cNoText cNoRow cNoFunction) (X_read_arg : FX P w K mg base 46 "read_arg" ["shape", "text"] (tArgX cN)) (F : Fun K "_law_refused" "_law_refused" (top 21) f fd) (m : mg "_law_refused" = some (.ref f)) : FD P w K mg base 47 "_law_refused" ["_law_shape", "_law_thing"] tRefused := by
  have S : FnScope ["_law_shape", "_law_thing", "_law_told", "e"] ["_law_shape", "_law_thing"] (defScope (top 21)) := ⟨rfl, rfl, rfl, by decide +kernel, rfl, by decide +kernel, by decide +kernel⟩
  refine fd_of F S (F.binds fun _ _ _ _ _ _ us hl => match us, hl with | [_, _], _ => rfl) m fun cdv A outer s H E ds φ hr hl hT => ?_
  have hu := hr.units
  refine ⟨_, (ss_cons (sd_set 2 S.nd ed_bl)
      (ss_cons (sd_try (K0 := K) (by rfl) 3 S.nd Z.b_TollError (fun Γ1 pn xe χ hxp => (ss_one (sd_expr (ed_callX X_read_arg (hr.mono (by decide)) hxp (ea_cons (ed_name 0) (ea_cons (ed_name 1) ea_nil)))))) (fun a => by exact (ss_cons (sd_set 2 S.nd (ed_and (ed_isexc (K0 := K) (by rfl) T.isinstance Z.b_NoValue (ed_name 3)) (ed_one (ed_isexcB (K0 := K) (by rfl) T.isinstance T.ValueError boot_ValueError' (ed_name 3)))))
        (ss_one (sd_set 2 S.nd (ed_and (ed_name 2) (ed_and (ed_not (ed_isexc (K0 := K) (by rfl) T.isinstance Z.b_NoText (ed_name 3))) (ed_and (ed_not (ed_isexc (K0 := K) (by rfl) T.isinstance Z.b_NoRow (ed_name 3))) (ed_one (ed_not (ed_isexc (K0 := K) (by rfl) T.isinstance Z.b_NoFunction (ed_name 3))))))))))))
      (ss_one (sd_ret (ed_name 2))))), ?_⟩
  obtain ⟨sd, d, rfl, rfl, hb, h⟩ := f2_of hT
  walk_at "dl"
  refine ⟨d, rfl, ?_⟩
  rcases hb with hb | ⟨z, rfl, hl, hb⟩
  · exact .inl ⟨hb, ⟨Z.m_NoValue, true, kit_self, Z.y_NoValue, fun _ => ⟨true, Z.k_Val, Z.y_NoValue, fun _ => ⟨false, Z.k_no _ (by simp), Z.y_NoValue, fun _ => ⟨false, Z.k_no _ (by simp), Z.y_NoValue, fun _ => ⟨false, Z.k_no _ (by simp), Z.y_NoValue, h⟩, fun y => nomatch y⟩, fun y => nomatch y⟩, fun y => nomatch y⟩, fun y => nomatch y⟩⟩
  · exact .inr ⟨z, rfl, hl, fun g hg => absurd hg (hb g), fun _ => ⟨Z.m_NoValue, true, kit_self, Z.y_NoValue, fun _ => ⟨true, Z.k_Val, Z.y_NoValue, fun _ => ⟨false, Z.k_no _ (by simp), Z.y_NoValue, fun _ => ⟨false, Z.k_no _ (by simp), Z.y_NoValue, fun _ => ⟨false, Z.k_no _ (by simp), Z.y_NoValue, h⟩, fun y => nomatch y⟩, fun y => nomatch y⟩, fun y => nomatch y⟩, fun y => nomatch y⟩⟩
end

set_option Elab.async false
set_option linter.all false
set_option maxRecDepth 100000
set_option maxHeartbeats 8000000
set_option exponentiation.threshold 5000
section
variable {P : Program} {w : World} {K : PySem.W.Frag} {mg : Str → Option Value} {base : Heap} {f : Addr} {fd : FuncData}
noncomputable def tCellM : FT := g2 fun d e φ => ∃ (ns : List Int) (k : Nat), d = .scr ns ∧ e = .int k ∧ ∀ c : Int, 0 ≤ c → c < 10 ^ 62 → φ (dv (.int c))
noncomputable def tNumb : FT := w1 fun _ φ => ∀ n : Int, n.natAbs < 10 ^ 60 → φ (dv (.int n))
structure Odd (w : Str) : Prop where
  nn : isNum w = false
  nc : 44 ∉ cd w
  le : w.length ≤ 200
noncomputable def tOdd : FT := w1 fun _ φ => ∀ w, Odd w → φ (dv (.str w))
structure Dg (w : Str) : Prop where
  d : ∀ c ∈ cd w, digB c = true
  ne : cd w ≠ []
  le : w.length ≤ 50
theorem dg_toS {i : Int} (h0 : 0 ≤ i) (h1 : i < 10 ^ 50) : Dg (toS i) := by
  obtain ⟨m, rfl⟩ := Int.eq_ofNat_of_zero_le h0
  have ec : cd (toS (m : Int)) = (Nat.toDigits 10 m).map Char.toNat := codes_nat m
  refine ⟨fun c hc => ?_, toS_ne _, ?_⟩
  · rw [ec] at hc
    exact decide_eq_true (digit_range hc)
  · rw [cd_len, ec, List.length_map]
    exact (Nat.length_toDigits_le_iff (b := 10) (n := m) (k := 50) (by decide) (by decide)).mpr (by omega)
theorem Dg.nc {w : Str} (h : Dg w) : 44 ∉ cd w := fun y => by
  have := h.d 44 y
  revert this
  decide
theorem odd_bad {w : Str} (c : Nat) (hc : c ∈ cd w) (hb : badB c = true) (nc : 44 ∉ cd w) (le : w.length ≤ 200) : Odd w := ⟨num_badB hc hb, nc, le⟩
theorem odd_pre {a : Nat} {w : Str} (h : Dg w) (ha : badB a = true) : Odd (⟨#[a]⟩ ++ w) := by
  have e : cd (⟨#[a]⟩ ++ w) = a :: cd w := cd_app _ _
  refine odd_bad a (by rw [e]; exact List.mem_cons_self) ha (fun y => ?_) ?_
  · rw [e] at y
    rcases List.mem_cons.mp y with rfl | y
    · revert ha; decide
    · exact h.nc y
  · rw [cd_len, e, List.length_cons, ← cd_len]
    have := h.le
    omega
theorem odd_suf {a : Nat} {w : Str} (h : Dg w) (ha : badB a = true) : Odd (w ++ ⟨#[a]⟩) := by
  have e : cd (w ++ ⟨#[a]⟩) = cd w ++ [a] := cd_app _ _
  refine odd_bad a (by rw [e]; simp) ha (fun y => ?_) ?_
  · rw [e] at y
    rcases List.mem_append.mp y with y | y
    · exact h.nc y
    · rw [← List.mem_singleton.mp y] at ha; revert ha; decide
  · rw [cd_len, e, List.length_append, ← cd_len]
    have := h.le
    simp only [List.length_cons, List.length_nil]
    omega
theorem num_48 {l : List Nat} (h : (figs l).head? = some 48) (h2 : l ≠ [48]) : numL l = false := by
  unfold numL
  rw [h, decide_eq_false h2]
  simp
theorem odd_0 {w : Str} (h : Dg w) : Odd (⟨#[48]⟩ ++ w) := by
  have e : cd (⟨#[48]⟩ ++ w) = 48 :: cd w := cd_app _ _
  refine ⟨?_, fun y => ?_, ?_⟩
  · unfold isNum
    rw [e]
    exact num_48 rfl (fun y => h.ne (List.cons.inj y).2)
  · rw [e] at y
    rcases List.mem_cons.mp y with y | y
    · cases y
    · exact h.nc y
  · rw [cd_len, e, List.length_cons, ← cd_len]
    have := h.le
    omega
theorem odd_m0 {w : Str} (h : Dg w) : Odd (⟨#[45, 48]⟩ ++ w) := by
  have e : cd (⟨#[45, 48]⟩ ++ w) = 45 :: 48 :: cd w := cd_app _ _
  refine ⟨?_, fun y => ?_, ?_⟩
  · unfold isNum
    rw [e]
    exact num_48 rfl (fun y => by cases y)
  · rw [e] at y
    rcases List.mem_cons.mp y with y | y
    · cases y
    rcases List.mem_cons.mp y with y | y
    · cases y
    · exact h.nc y
  · rw [cd_len, e, List.length_cons, List.length_cons, ← cd_len]
    have := h.le
    omega
theorem odd_mm {w : Str} (h : Dg w) : Odd (⟨#[45, 45]⟩ ++ w) := by
  have e : cd (⟨#[45, 45]⟩ ++ w) = 45 :: 45 :: cd w := cd_app _ _
  refine ⟨?_, fun y => ?_, ?_⟩
  · unfold isNum
    rw [e]
    exact num_bad (c := 45) (show 45 ∈ 45 :: cd w from List.mem_cons_self) (by decide)
  · rw [e] at y
    rcases List.mem_cons.mp y with y | y
    · cases y
    rcases List.mem_cons.mp y with y | y
    · cases y
    · exact h.nc y
  · rw [cd_len, e, List.length_cons, List.length_cons, ← cd_len]
    have := h.le
    omega
theorem odd_dec {w : Str} (h : (isNum w = false ∧ 44 ∉ cd w ∧ w.length ≤ 200)) : Odd w := ⟨h.1, h.2.1, h.2.2⟩
noncomputable def tGrown (n : Nat) : FT := g3 fun s a md φ => ∃ (ss : List Int) (at' m : Nat), s = .scr ss ∧ a = .int at' ∧ md = .int m ∧ m < n ∧ m ≤ 40 ∧ (∀ g, All Can g → nodes g = m → φ ⟨.new, .tup [tD g, .lst ((wd g).map wS)]⟩)
theorem fd_law_cell_at (T : Tops mg) (F : Fun K "_law_cell_at" "_law_cell_at" (top 20) f fd) (m : mg "_law_cell_at" = some (.ref f)) : FD P w K mg base 1 "_law_cell_at" ["_law_script", "_law_k"] tCellM := by
  have S : FnScope ["_law_script", "_law_k"] ["_law_script", "_law_k"] (defScope (top 20)) := ⟨rfl, rfl, rfl, by decide +kernel, rfl, by decide +kernel, by decide +kernel⟩
  refine fd_of F S (F.binds fun _ _ _ _ _ _ us hl => match us, hl with | [_, _], _ => rfl) m fun cdv A outer s H E ds φ hr hl hT => ?_
  have hu := hr.units
  refine ⟨_, (ss_cons (sd_if (et_lt (ed_name 1) (ed_len T.len (ea_cons (ed_name 0) ea_nil))) (ss_one (sd_ret (ed_mod (ed_ixx hu (ed_name 0) (ed_name 1)) (ed_pow ed_int ed_int)))) ss_nil)
      (ss_one (sd_ret ed_int))), ?_⟩
  obtain ⟨d, e, rfl, ns, k, rfl, rfl, h⟩ := f2_of hT
  walk_at "dl"
  refine ⟨fun hk => ?_, fun hk => h 0 (by decide) (by decide)⟩
  have hk' : k < ns.length := by omega
  rw [atI_of (x := ns[k]) (by omega) (by simp [hk'])]
  have := mod_bd ns[k] (10 ^ 62) (by decide)
  exact h _ this.1 this.2
theorem fd_law_number (T : Tops mg) (F : Fun K "_law_number" "_law_number" (top 22) f fd) (m : mg "_law_number" = some (.ref f)) : FD P w K mg base 1 "_law_number" ["_law_cell"] tNumb := by
  have S : FnScope ["_law_cell"] ["_law_cell"] (defScope (top 22)) := ⟨rfl, rfl, rfl, by decide +kernel, rfl, by decide +kernel, by decide +kernel⟩
  refine fd_of F S (F.binds fun _ _ _ _ _ _ us hl => match us, hl with | [_], _ => rfl) m fun cdv A outer s H E ds φ hr hl hT => ?_
  have hu := hr.units
  refine ⟨_, (ss_cons (sd_set 0 S.nd (ed_mod (ed_name 0) (ed_pow ed_int ed_int)))
      (ss_one (sd_ret (ed_mul (ed_ixx hu (ed_lst (ea_cons ed_int (ea_cons (ed_neg ed_int) ea_nil))) (ed_mod (ed_name 0) ed_int)) (ed_mod (ed_fd (ed_name 0) ed_int) (ed_ixx hu (ed_lst (ea_cons (ed_pow ed_int ed_int) (ea_cons (ed_pow ed_int ed_int) (ea_cons ed_int ea_nil)))) (ed_mod (ed_fd (ed_name 0) ed_int) ed_int))))))), ?_⟩
  obtain ⟨c, rfl, h⟩ := w1_of hT
  walk_at "dl"
  obtain ⟨a, ha, e1⟩ := pick2i 1 (-1) (c.fmod (10 ^ 62))
  obtain ⟨b, hb, e2⟩ := pick3i (10 ^ 60) (10 ^ 60) 12 ((c.fmod (10 ^ 62)).fdiv 2)
  rw [e1, e2]
  generalize (c.fmod (10 ^ 62)).fdiv 2 = x
  have hb0 : 0 < b ∧ b ≤ 10 ^ 60 := by rcases hb with rfl | rfl | rfl <;> decide
  have hm := mod_bd x b hb0.1
  have hf : FdOk (c.fmod (10 ^ 62)) 2 := of_eq_true (fd_lit (by decide) (by decide))
  refine ⟨hf, hf, by omega, ?_, h _ ?_⟩
  · rcases ha with rfl | rfl
    · exact IntMulOk.of_left (by decide)
    · exact IntMulOk.of_left (by decide)
  · rcases ha with rfl | rfl
    · have z : (10 : Int) ^ 60 = ((10 ^ 60 : Nat) : Int) := by decide
      omega
    · have z : (10 : Int) ^ 60 = ((10 ^ 60 : Nat) : Int) := by decide
      omega
theorem fd_law_odd (T : Tops mg) (F : Fun K "_law_odd" "_law_odd" (top 24) f fd) (m : mg "_law_odd" = some (.ref f)) : FD P w K mg base 1 "_law_odd" ["_law_cell"] tOdd := by
  have S : FnScope ["_law_cell", "_law_number_here", "_law_some"] ["_law_cell"] (defScope (top 24)) := ⟨rfl, rfl, rfl, by decide +kernel, rfl, by decide +kernel, by decide +kernel⟩
  refine fd_of F S (F.binds fun _ _ _ _ _ _ us hl => match us, hl with | [_], _ => rfl) m fun cdv A outer s H E ds φ hr hl hT => ?_
  have hu := hr.units
  refine ⟨_, (ss_cons (sd_cut (sd_set 1 S.nd (ed_strI T.str (ea_cons (ed_mod (ed_fd (ed_name 0) ed_int) (ed_pow ed_int ed_int)) ea_nil))))
      (ss_cons (sd_cut (sd_set 2 S.nd (ed_lst (ea_cons ed_str (ea_cons ed_str (ea_cons ed_str (ea_cons ed_str (ea_cons (ed_add ed_str (ed_name 1)) (ea_cons (ed_add ed_str (ed_name 1)) (ea_cons (ed_add ed_str (ed_name 1)) (ea_cons (ed_add (ed_name 1) ed_str) (ea_cons (ed_add ed_str (ed_mulS ed_str ed_int)) ea_nil))))))))))))
      (ss_cons (sd_cut (sd_set 2 S.nd (ed_add (ed_name 2) (ed_lst (ea_cons (ed_add ed_str (ed_mulS ed_str ed_int)) (ea_cons (ed_add ed_str (ed_name 1)) (ea_cons (ed_add (ed_name 1) ed_str) (ea_cons ed_str (ea_cons (ed_add ed_str (ed_name 1)) (ea_cons ed_str (ea_cons ed_str ea_nil)))))))))))
      (ss_one (sd_ret (ed_ixx hu (ed_name 2) (ed_mod (ed_name 0) ed_int))))))), ?_⟩
  obtain ⟨c, rfl, h⟩ := w1_of hT
  refine cut_seq (fun ρ => ∃ w, ρ = [some (dv (.int c)), some (dv (.str w)), none] ∧ Dg w) ?_ ?_
  · walk_at "dl"
    have hm := mod_bd (c.fdiv 16) (10 ^ 50) (by decide)
    refine ⟨of_eq_true (fd_lit (by decide) (by decide)), ?_, _, rfl, dg_toS hm.1 hm.2⟩
    refine log60 ?_
    have z : (10 : Int) ^ 50 < ((10 ^ 60 : Nat) : Int) := by decide
    omega
  rintro _ ⟨w, rfl, hw⟩
  have hwl := hw.le
  refine cut_seq (fun ρ => ∃ ws : List Str, ρ = [some (dv (.int c)), some (dv (.str w)), some (dO (.lst (ws.map D.str)))] ∧ ws.length = 9 ∧ ∀ v ∈ ws, Odd v) ?_ ?_
  · walk_at "dl"
    refine ⟨?_, ?_, ?_, ?_, rfl, ?_, [Str.ofString "", Str.ofString "-", Str.ofString "-0", Str.ofString "00", Str.ofString "0" ++ w, Str.ofString "-0" ++ w, Str.ofString "+" ++ w, w ++ Str.ofString "a", Str.ofString "1" ++ repS (Str.ofString "0") 60], rfl, rfl, ?_⟩
    · rw [sizeLine_eq]; show 1 + w.length ≤ _; omega
    · rw [sizeLine_eq]; show 2 + w.length ≤ _; omega
    · rw [sizeLine_eq]; show 1 + w.length ≤ _; omega
    · rw [sizeLine_eq]; show w.length + 1 ≤ _; omega
    · rw [sizeLine_eq, repS_len]; decide
    · intro v hv
      simp only [List.mem_cons, List.not_mem_nil, or_false] at hv
      rcases hv with rfl | rfl | rfl | rfl | rfl | rfl | rfl | rfl | rfl
      · exact odd_dec (by decide)
      · exact odd_dec (by decide)
      · exact odd_dec (by decide)
      · exact odd_dec (by decide)
      · exact odd_0 hw
      · exact odd_m0 hw
      · exact odd_pre (a := 43) hw (by decide)
      · exact odd_suf (a := 97) hw (by decide)
      · exact odd_dec (by decide +kernel)
  rintro _ ⟨ws, rfl, hl9, hws⟩
  refine cut_seq (fun ρ => ∃ ws : List Str, ρ = [some (dv (.int c)), some (dv (.str w)), some (dO (.lst (ws.map D.str)))] ∧ ws.length = 16 ∧ ∀ v ∈ ws, Odd v) ?_ ?_
  · walk_at "dl"
    refine ⟨rfl, ?_, ?_, ?_, ?_, ?_, ws ++ [Str.ofString "-2" ++ repS (Str.ofString "7") 60, Str.ofString " " ++ w, w ++ Str.ofString " ", Str.ofString "(", Str.ofString "--" ++ w, Str.ofString "x", Str.ofString "1_0"], ?_, ?_, ?_⟩
    · rw [sizeLine_eq, repS_len]; decide
    · rw [sizeLine_eq]; show 1 + w.length ≤ _; omega
    · rw [sizeLine_eq]; show w.length + 1 ≤ _; omega
    · rw [sizeLine_eq]; show 2 + w.length ≤ _; omega
    · rw [sizeLine_eq]; omega
    · rw [List.map_append]; rfl
    · rw [List.length_append, hl9]; rfl
    · intro v hv
      rcases List.mem_append.mp hv with hv | hv
      · exact hws v hv
      simp only [List.mem_cons, List.not_mem_nil, or_false] at hv
      rcases hv with rfl | rfl | rfl | rfl | rfl | rfl | rfl
      · exact odd_dec (by decide +kernel)
      · exact odd_pre (a := 32) hw (by decide)
      · exact odd_suf (a := 32) hw (by decide)
      · exact odd_dec (by decide)
      · exact odd_mm hw
      · exact odd_dec (by decide)
      · exact odd_dec (by decide)
  rintro _ ⟨ws, rfl, hl16, hws⟩
  walk_at "dl"
  have hm := mod_bd c 16 (by decide)
  have hi : (c.fmod 16).toNat < ws.length := by omega
  rw [atI_of (x := ws[(c.fmod 16).toNat]) (by omega) (by simp [hi])]
  exact ⟨trivial, h _ (hws _ (List.getElem_mem hi))⟩
end

set_option Elab.async false
set_option linter.all false
set_option maxRecDepth 100000
set_option maxHeartbeats 8000000
set_option exponentiation.threshold 5000
section
variable {P : Program} {w : World} {K : PySem.W.Frag} {mg : Str → Option Value} {base : Heap} {f : Addr} {fd : FuncData}
theorem fd_law_grown {n : Nat} (T : Tops mg) (F__law_cell_at : FD P w K mg base 1 "_law_cell_at" ["_law_script", "_law_k"] tCellM) (F__law_number : FD P w K mg base 1 "_law_number" ["_law_cell"] tNumb) (F__law_grown : FD P w K mg base (n + 2) "_law_grown" ["_law_script", "_law_at", "_law_many"] (tGrown n)) (F : Fun K "_law_grown" "_law_grown" (top 23) f fd) (m : mg "_law_grown" = some (.ref f)) : FD P w K mg base (n + 3) "_law_grown" ["_law_script", "_law_at", "_law_many"] (tGrown (n + 1)) := by
  have S : FnScope ["_law_script", "_law_at", "_law_many", "_law_cell", "_law_left", "_law_first", "_law_number_here", "_law_other"] ["_law_script", "_law_at", "_law_many"] (defScope (top 23)) := ⟨rfl, rfl, rfl, by decide +kernel, rfl, by decide +kernel, by decide +kernel⟩
  refine fd_of F S (F.binds fun _ _ _ _ _ _ us hl => match us, hl with | [_, _, _], _ => rfl) m fun cdv A outer s H E ds φ hr hl hT => ?_
  have hu := hr.units
  refine ⟨_, (ss_cons (sd_cut (sd_if (et_lt (ed_name 2) ed_int) (ss_one (sd_ret (ed_tupN (ea_cons ed_non (ea_cons (ed_lst (ea_cons ed_str ea_nil)) ea_nil))))) ss_nil))
      (ss_cons (sd_cut (sd_set 3 S.nd (ed_call F__law_cell_at (hr.mono (by omega)) (ea_cons (ed_name 0) (ea_cons (ed_add ed_int (ed_mod (ed_name 1) ed_int)) ea_nil)))))
      (ss_cons (sd_cut (sd_set 4 S.nd (ed_pick (ea_cons ed_int (ea_cons (ed_sub (ed_name 2) ed_int) (ea_cons (ed_mod (ed_fd (ed_name 3) ed_int) (ed_name 2)) (ea_cons (ed_fd (ed_sub (ed_name 2) ed_int) ed_int) ea_nil)))) (ed_mod (ed_name 3) ed_int))))
      (ss_cons (sd_cut (sd_set 5 S.nd (ed_call F__law_grown (hr.mono (by omega)) (ea_cons (ed_name 0) (ea_cons (ed_add (ed_name 1) ed_int) (ea_cons (ed_name 4) ea_nil))))))
      (ss_cons (sd_cut (sd_set 6 S.nd (ed_call F__law_number (hr.mono (by omega)) (ea_cons (ed_fd (ed_name 3) ed_int) ea_nil))))
      (ss_cons (sd_cut (sd_set 7 S.nd (ed_call F__law_grown (hr.mono (by omega)) (ea_cons (ed_name 0) (ea_cons (ed_add (ed_add (ed_name 1) ed_int) (ed_name 4)) (ea_cons (ed_sub (ed_sub (ed_name 2) ed_int) (ed_name 4)) ea_nil))))))
      (ss_one (sd_ret (ed_tupN (ea_cons (ed_tupN (ea_cons (ed_ixx hu (ed_name 5) ed_int) (ea_cons (ed_name 6) (ea_cons (ed_ixx hu (ed_name 7) ed_int) ea_nil)))) (ea_cons (ed_add (ed_add (ed_add (ed_add (ed_lst (ea_cons ed_str ea_nil)) (ed_ixx hu (ed_name 5) ed_int)) (ed_lst (ea_cons ed_str (ea_cons (ed_strI T.str (ea_cons (ed_name 6) ea_nil)) (ea_cons ed_str ea_nil))))) (ed_ixx hu (ed_name 7) ed_int)) (ed_lst (ea_cons ed_str ea_nil))) ea_nil))))))))))), ?_⟩
  obtain ⟨sd, ad, md, rfl, ss, at', m, rfl, rfl, rfl, hn, h40, h⟩ := f3_of hT
  refine cut_seq (fun ρ => 1 ≤ m ∧ ρ = [some (dv (.scr ss)), some (dv (.int (at' : Int))), some (dv (.int (m : Int))), none, none, none, none, none]) ?_ ?_
  · walk_at "dl"
    refine ⟨fun y => ?_, fun y => by omega⟩
    exact h .leaf trivial (by simp only [nodes]; omega)
  rintro _ ⟨hm, rfl⟩
  refine cut_seq (fun ρ => ∃ c : Int, ρ = [some (dv (.scr ss)), some (dv (.int (at' : Int))), some (dv (.int (m : Int))), some (dv (.int c)), none, none, none, none]) ?_ ?_
  · walk_at "dl"
    simp only [tCellM, DL.g2]
    have hb := mod_bd (at' : Int) 61 (by decide)
    obtain ⟨k, hk⟩ := Int.eq_ofNat_of_zero_le (show 0 ≤ 2 + (at' : Int).fmod 61 by omega)
    rw [hk]
    exact ⟨ss, k, rfl, rfl, fun c _ _ => ⟨trivial, c, rfl⟩⟩
  rintro _ ⟨c, rfl⟩
  refine cut_seq (fun ρ => ∃ x : Nat, x < m ∧ ρ = [some (dv (.scr ss)), some (dv (.int (at' : Int))), some (dv (.int (m : Int))), some (dv (.int c)), some (dv (.int (x : Int))), none, none, none]) ?_ ?_
  · walk_at "dl"
    have hb := mod_bd c 4 (by decide)
    have hb2 := mod_bd (c.fdiv 4) (m : Int) (by omega)
    have hf : (((m : Int) - 1).fdiv 2) = ((m - 1 : Nat) : Int) / 2 := by
      rw [Int.fdiv_eq_ediv_of_nonneg _ (by decide)]
      omega
    refine ⟨of_eq_true (fd_lit (by decide) (by decide)), by omega, of_eq_true (fd_lit (by decide) (by decide)), ?_⟩
    have key : ∀ v : Int, 0 ≤ v → v < m → ∃ x : Nat, x < m ∧ v = x := fun v h1 h2 => ⟨v.toNat, by omega, by omega⟩
    have hq : c.fmod 4 = 0 ∨ c.fmod 4 = 1 ∨ c.fmod 4 = 2 ∨ c.fmod 4 = 3 := by omega
    rcases hq with hq | hq | hq | hq <;> rw [hq]
    · exact ⟨trivial, 0, by omega, rfl⟩
    · obtain ⟨x, hx, e⟩ := key ((m : Int) - 1) (by omega) (by omega)
      rw [e]
      exact ⟨trivial, x, hx, rfl⟩
    · obtain ⟨x, hx, e⟩ := key ((c.fdiv 4).fmod (m : Int)) (by omega) (by omega)
      rw [e]
      exact ⟨trivial, x, hx, rfl⟩
    · obtain ⟨x, hx, e⟩ := key (((m : Int) - 1).fdiv 2) (by omega) (by omega)
      rw [e]
      exact ⟨trivial, x, hx, rfl⟩
  rintro _ ⟨x, hx, rfl⟩
  refine cut_seq (fun ρ => ∃ a, All Can a ∧ nodes a = x ∧ ρ = [some (dv (.scr ss)), some (dv (.int (at' : Int))), some (dv (.int (m : Int))), some (dv (.int c)), some (dv (.int (x : Int))), some (dv (.tup [tD a, .lst ((wd a).map wS)])), none, none]) ?_ ?_
  · walk_at "dl"
    simp only [tGrown, DL.g3]
    exact ⟨ss, at' + 1, x, rfl, rfl, rfl, by omega, by omega, fun a ha hna => ⟨trivial, a, ha, hna, rfl⟩⟩
  rintro _ ⟨a, ha, hna, rfl⟩
  refine cut_seq (fun ρ => ∃ i : Int, i.natAbs < 10 ^ 60 ∧ ρ = [some (dv (.scr ss)), some (dv (.int (at' : Int))), some (dv (.int (m : Int))), some (dv (.int c)), some (dv (.int (x : Int))), some (dv (.tup [tD a, .lst ((wd a).map wS)])), some (dv (.int i)), none]) ?_ ?_
  · walk_at "dl"
    simp only [tNumb, w1]
    exact ⟨of_eq_true (fd_lit (by decide) (by decide)), fun i hi => ⟨trivial, i, hi, rfl⟩⟩
  rintro _ ⟨i, hi, rfl⟩
  refine cut_seq (fun ρ => ∃ b, All Can b ∧ nodes b + x + 1 = m ∧ ρ = [some (dv (.scr ss)), some (dv (.int (at' : Int))), some (dv (.int (m : Int))), some (dv (.int c)), some (dv (.int (x : Int))), some (dv (.tup [tD a, .lst ((wd a).map wS)])), some (dv (.int i)), some (dv (.tup [tD b, .lst ((wd b).map wS)]))]) ?_ ?_
  · walk_at "dl"
    simp only [tGrown, DL.g3]
    refine ⟨ss, at' + 1 + x, m - 1 - x, rfl, rfl, ?_, by omega, by omega, fun b hb hnb => ⟨trivial, b, hb, by omega, rfl⟩⟩
    congr 1
    omega
  rintro _ ⟨b, hb, hnb, rfl⟩
  walk_at "dl"
  have la := wd_len a
  have lb := wd_len b
  have pw : ∀ l : List (List Nat), pureDs (l.map wS) := fun l => pureDs_iff.mpr fun d hd => by
    obtain ⟨n, _, rfl⟩ := List.mem_map.mp hd
    exact trivial
  have ew : D.str (Str.ofString "(") :: (List.map wS (wd a) ++ [D.str (Str.ofString ","), D.str (Str.ofString (toString i)), D.str (Str.ofString ",")] ++ List.map wS (wd b) ++ [D.str (Str.ofString ")")]) = (wd (.node a (cd (toS i)) b)).map wS := by
    simp only [wd, List.map_cons, List.map_append, List.map_nil, List.append_assoc, List.cons_append, List.nil_append]
    rfl
  have pall := pw (wd (.node a (cd (toS i)) b))
  rw [← ew] at pall
  refine ⟨⟨pure_tD a, pure_tD b⟩, ?_, log60 hi, ?_, ?_, ?_, pall.2, ?_⟩
  · rw [sizeLine_eq]; omega
  · rw [sizeLine_eq]; omega
  · simp only [sizeLine_eq, List.length_append, List.length_map, List.length_cons, List.length_nil]; omega
  · simp only [sizeLine_eq, List.length_append, List.length_map, List.length_cons, List.length_nil]; omega
  · rw [ew]
    have hh := h (.node a (cd (toS i)) b) ⟨ha, ⟨i, hi, rfl⟩, hb⟩ (by simp only [nodes]; omega)
    unfold tD at hh
    rw [can_rn hi] at hh
    exact hh
end
end K81

set_option Elab.async false
set_option linter.all false
set_option maxRecDepth 100000
set_option maxHeartbeats 8000000
set_option exponentiation.threshold 5000
namespace K81
open PySem PySem.Spec L2 L3 DL
open K80
open PyProof.Rows hiding St
open PySem.Builtin.Int (intBits)
local macro_rules | `(tactic| walk_at "dl") => `(tactic| simp only [sNil, sSeq, sRet, sIf, sSet, sExpr, sUn, sPar, d2, d1, dName, dC, slot, setS, EV.sto, EV.ret, aNil, aCons, dTup, dLst, dCall, dCB, solidB, vAnd, vOr, vNot, vIf, bAnd, bOr, bNot, bYes, tTru, tBo, truD, sSub, sFd, sMod, sPow, sLt, sLe, sGt, sGe, sI, sI0, sAdd, sMul, sNeg, sEq, sNe, sIs, sIsNot, isNon, sIx, sSl, dSl, oNone, oSome, sLen, sAbs, sIsI, sStr, sTupC, sListC, sIntC, sApp, iSeq, iR1, iR2, itemsD, gN, gT2, startD, isT_non_int, isT_non_bool, isT_bl_int, isT_bl_bool, isT_int_int, isT_int_bool, isT_int_str, isT_str_int, isT_str_str, isT_tup_tuple, isT_tup_int, isT_tup_list, isT_lst_list, isT_lst_tuple, isT_dk_dict, List.map_cons, List.map_nil, List.length_cons, List.length_nil, List.cons_append, List.nil_append, List.replicate_succ, List.replicate_zero, Nat.reduceAdd, Nat.reduceSub, Nat.zero_add, Nat.sub_self, Bool.and_self, Bool.and_true, Bool.true_and, true_and, and_true, Bool.not_true, Bool.not_false, forall_const, true_implies, false_implies, Bool.true_eq_false, Bool.false_eq_true, reduceCtorEq, implies_true, okD_int, okD_bl, okD_str, okD_non, eqD_int, eqD_str, eqD_bl, pureEV, pureD, pureDs, Bool.not_eq_eq_eq_not, Bool.not_true, Bool.not_false, beq_eq_false_iff_ne, beq_iff_eq, ne_eq, decide_eq_true_eq, decide_eq_false_iff_not, Bool.not_eq_true, Bool.not_eq_false, not_true_eq_false, not_false_eq_true, atI_0, atI_1, atI_2, and_self, Nat.beq_eq, Nat.ble_eq, Nat.reduceLeDiff, eq_self, Nat.reduceEqDiff, sIxx, dGet2, dFmt, dJoin, keyD, sIn, flatD, cp10, Int.reduceLE, Int.reduceToNat, tenpow_ne, atI_map, List.length_map, Option.map_some, Int.zero_add, sDput', Int.reduceEq, Int.reduceNeg, Int.reduceLT, sRaise, dCallX, sTry, hanZ, clrS, frzE, Option.map_none, List.map_cons, dIsE, sFrz, frzS, iZ, seqD_lst, seqD_tup, seqD_scr, sSum, intsD_map, sPop, sAppPop, sExt, sAug, sIsB, sIsNotB, dTupN, dAddN, dSlT, dPick, sLP, popD_app, pureEVs, sAllL, isT_str_bool, isT_str_tuple, isT_non_tuple, isT_bl_tuple, isT_int_tuple, isT_tup_bool, isT_lst_int, isT_lst_bool, isT_dk_int, isT_dk_bool, isT_dk_tuple, isT_non_bool, isT_str_int, dIsET, sDictC, sLenD, intsD_map, sListD, sAugM, sPopX, iE, dStep, sMax, iZ, seqD, dJoin1, sRetT, pureRs, cstD, dChain, dSlS, sSlS, dEnds, dStarts, dSplit, sIntS, sMulS, isT_non_str, isT_bl_str, isT_tup_str, isT_lst_str, isT_dk_str, dStarts3, dFind3, dCount, sMulT, sEqF, sNeF, sPop])
seal SDs SD ED EA ET EW
section
variable {P : Program} {w : World} {K : PySem.W.Frag} {mg : Str → Option Value} {base : Heap} {f : Addr} {fd : FuncData}

theorem ok_tD : ∀ (g : GT) (k : Nat), nodes g ≤ k → okD k (tD g)
  | .leaf, k, _ => of_eq_true okD_non
  | .node l w r, 0, h => by simp only [nodes] at h; omega
  | .node l w r, k + 1, h => by
    simp only [nodes] at h
    show ∀ x ∈ [tD l, D.int (rnL w), tD r], okD k x
    intro x hx
    simp only [List.mem_cons, List.not_mem_nil, or_false] at hx
    rcases hx with rfl | rfl | rfl
    · exact ok_tD l k (by omega)
    · exact of_eq_true okD_int
    · exact ok_tD r k (by omega)
noncomputable def tThings : FT := g1 fun d φ => ∃ g, d = tD g ∧ nodes g ≤ 40 ∧ φ (dv (.bl true))
noncomputable def szs (ds : List D) : Nat := (ds.map sizeOf).sum
theorem szs_app (a b : List D) : szs (a ++ b) = szs a + szs b := by
  unfold szs
  rw [List.map_append, List.sum_append]
theorem fd_law_things (T : Tops mg) (F : Fun K "_law_things" "_law_things" (top 26) f fd) (m : mg "_law_things" = some (.ref f)) : FD P w K mg base 1 "_law_things" ["_law_found"] tThings := by
  have S : FnScope ["_law_found", "_law_left", "_law_thing"] ["_law_found"] (defScope (top 26)) := ⟨rfl, rfl, rfl, by decide +kernel, rfl, by decide +kernel, by decide +kernel⟩
  refine fd_of F S (F.binds fun _ _ _ _ _ _ us hl => match us, hl with | [_], _ => rfl) m fun cdv A outer s H E ds φ hr hl hT => ?_
  have hu := hr.units
  refine ⟨_, (ss_cons (sd_set 1 S.nd (ed_lst (ea_cons (ed_name 0) ea_nil)))
      (ss_cons (sd_while (et_neF hu (ed_name 1) (ed_lst ea_nil)) (ss_cons (sd_pop 1 2 S.nd)
        (ss_one (sd_if (et_isnot (ed_name 2) ed_non) (ss_cons (sd_if (EW.et (ew_or (et_not (et_val (ed_isinst T.isinstance (ea_cons (ed_name 2) (ea_cons (ed_ty T.tuple boot_tuple') ea_nil))))) (ew_or1 (et_ne hu (ed_len T.len (ea_cons (ed_name 2) ea_nil)) ed_int)))) (ss_one (sd_ret ed_bl)) ss_nil)
          (ss_cons (sd_if (EW.et (ew_or (et_not (et_val (ed_isinst T.isinstance (ea_cons (ed_ixx hu (ed_name 2) ed_int) (ea_cons (ed_ty T.int boot_int') ea_nil))))) (ew_or1 (et_val (ed_isinst T.isinstance (ea_cons (ed_ixx hu (ed_name 2) ed_int) (ea_cons (ed_ty T.bool boot_bool') ea_nil))))))) (ss_one (sd_ret ed_bl)) ss_nil)
          (ss_cons (sd_append 1 (ed_ixx hu (ed_name 2) ed_int))
          (ss_one (sd_append 1 (ed_ixx hu (ed_name 2) ed_int)))))) ss_nil))))
      (ss_one (sd_ret ed_bl)))), ?_⟩
  obtain ⟨d, rfl, g, rfl, h40, h⟩ := f1_of hT
  walk_at "dl"
  refine ⟨fun ρ => ∃ (gs : List GT) (t : Option EV), (∀ g ∈ gs, nodes g ≤ 40) ∧ gs.length ≤ 100 ∧ (gs.map nodes).sum + gs.length ≤ 41 ∧ ρ = [some (dv (tD g)), some (dO (.lst (gs.map tD))), t], fun ρ => match ρ with
    | [_, some ⟨_, .lst ds⟩, _] => szs ds
    | _ => 0, ⟨[g], none, fun g' hg => by rw [List.mem_singleton.mp hg]; exact h40, by simp, by simp; omega, rfl⟩, ?_⟩
  rintro ρ ⟨gs, t, hall, hlen, hsum, rfl⟩
  rcases List.eq_nil_or_concat gs with rfl | ⟨gs, x, rfl⟩
  · walk_at "dl"
    have ok0 : okD 50 (D.lst []) := by
      rw [okD_lst (by decide)]
      intro y hy
      cases hy
    exact ⟨ok0, ok0, fun y => absurd y (by decide), fun _ => h⟩
  have hall' : ∀ g ∈ gs, nodes g ≤ 40 := fun g hg => hall g (by rw [List.concat_eq_append]; exact List.mem_append_left _ hg)
  have hx : nodes x ≤ 40 := hall x (by rw [List.concat_eq_append]; simp)
  rw [List.concat_eq_append] at hsum ⊢
  simp only [List.map_append, List.map_cons, List.map_nil, List.sum_append, List.sum_cons, List.sum_nil, List.length_append, List.length_cons, List.length_nil] at hsum
  have okl : okD 50 (D.lst ((gs ++ [x]).map tD)) := by
    rw [okD_lst (by decide)]
    intro y hy
    obtain ⟨g', hg', rfl⟩ := List.mem_map.mp hy
    rcases List.mem_append.mp hg' with hg' | hg'
    · exact ok_tD g' 49 (by have := hall' g' hg'; omega)
    · rw [List.mem_singleton.mp hg']
      exact ok_tD x 49 (by omega)
  have ok0 : okD 50 (D.lst []) := by
    rw [okD_lst (by decide)]
    intro y hy
    cases hy
  have hne : eqD (D.lst ((gs ++ [x]).map tD)) (D.lst []) = false := by
    rw [eqD_lst]
    cases gs <;> rfl
  rw [List.map_append] at okl hne ⊢
  cases x with
  | leaf =>
    simp only [List.map_cons, List.map_nil, tD] at okl hne ⊢
    walk_at "dl"
    refine ⟨okl, ok0, fun _ => ⟨⟨gs, _, hall', by omega, by omega, rfl⟩, ?_⟩, fun y => absurd (hne.symm.trans y) (by decide)⟩
    rw [szs_app]
    show szs _ < szs _ + (1 + 0)
    omega
  | node a w b =>
    simp only [nodes] at hx hsum
    simp only [List.map_cons, List.map_nil, tD] at okl hne ⊢
    walk_at "dl"
    refine ⟨okl, ok0, fun _ => ⟨fun y => absurd rfl y, fun _ => ⟨by omega, by simp only [List.length_append, List.length_map, List.length_cons, List.length_nil]; omega, ⟨gs ++ [a] ++ [b], some (dv (D.tup [tD a, D.int (rnL w), tD b])), ?_, ?_, ?_, ?_⟩, ?_⟩⟩, fun y => absurd (hne.symm.trans y) (by decide)⟩
    · intro g' hg'
      rcases List.mem_append.mp hg' with hg' | hg'
      · rcases List.mem_append.mp hg' with hg' | hg'
        · exact hall' g' hg'
        · rw [List.mem_singleton.mp hg']; omega
      · rw [List.mem_singleton.mp hg']; omega
    · simp only [List.length_append, List.length_cons, List.length_nil]; omega
    · simp only [List.map_append, List.map_cons, List.map_nil, List.sum_append, List.sum_cons, List.sum_nil, List.length_append, List.length_cons, List.length_nil]; omega
    · rw [List.map_append, List.map_append]; rfl
    · rw [szs_app, szs_app, szs_app]
      have e1 : szs [tD a] = sizeOf (tD a) := by simp [szs]
      have e2 : szs [tD b] = sizeOf (tD b) := by simp [szs]
      have e3 : szs [D.tup [tD a, D.int (rnL w), tD b]] = sizeOf (D.tup [tD a, D.int (rnL w), tD b]) := by simp [szs]
      rw [e1, e2, e3]
      simp
      omega
end

set_option Elab.async false
set_option linter.all false
set_option maxRecDepth 100000
set_option maxHeartbeats 8000000
set_option exponentiation.threshold 5000
section
variable {P : Program} {w : World} {K : PySem.W.Frag} {mg : Str → Option Value} {base : Heap} {f : Addr} {fd : FuncData}

noncomputable def nD (k : Nat) : D := .int (k : Int)
theorem atI_memE {α : Type} {l : List α} {i : Int} (h0 : 0 ≤ i) (h1 : i < l.length) : ∃ d ∈ l, atI l i = some d := by
  obtain ⟨n, rfl⟩ := Int.eq_ofNat_of_zero_le h0
  have hn : n < l.length := by omega
  exact ⟨l[n], List.getElem_mem hn, atI_of (by omega) (by simp [hn])⟩
theorem pick_place {q : List Nat → Bool} {l : List (List Nat)} (m : Int) (h : 0 < (places q l l.length).length) : ∃ k w, atI (places q l l.length) (m.fmod ((places q l l.length).length : Int)) = some k ∧ l[k]? = some w ∧ q w = true ∧ k < l.length := by
  have hm := mod_bd m ((places q l l.length).length : Int) (by omega)
  obtain ⟨k, hk, e⟩ := atI_memE hm.1 hm.2
  obtain ⟨w, h1, h2, h3⟩ := places_mem hk
  exact ⟨k, w, e, h1, h2, h3⟩
theorem jn {ws : List (List Nat)} {ds : List D} {φ : EV → Prop} (e : ds = ws.map wS) (hl : ws.flatten.length ≤ 100000) (h : φ (dv (.str (mkS ws.flatten)))) : ∃ ts : List Str, ds = ts.map D.str ∧ (ts.map fun t => t.length + (Str.ofString "").length).sum ≤ sizeLine ∧ φ ⟨.val, .str ((Str.ofString "").join ts)⟩ := by
  refine ⟨ws.map mkS, ?_, ?_, ?_⟩
  · rw [e, List.map_map]
    rfl
  · rw [join0_sum, sizeLine_eq]
    omega
  · rw [join0_mk]
    exact h
theorem sg_in (w : List Nat) : inD (wS w) [D.str (Str.ofString "("), D.str (Str.ofString ")"), D.str (Str.ofString ","), D.str (Str.ofString ".")] = isSg w := by
  have e : ∀ (z : Str) (l : List Nat), cd z = l → eqD (D.str z) (wS w) = decide (w = l) := fun z l h => by
    show eqD (D.str z) (D.str (mkS w)) = _
    rw [eqD_str, show z = mkS l from mk_eq h]
    by_cases hw : w = l
    · subst hw; simp
    · rw [decide_eq_false hw]
      refine beq_eq_false_iff_ne.mpr fun y => hw (mk_inj y).symm
  unfold inD
  simp only [List.any_cons, List.any_nil, Bool.or_false]
  rw [e _ [40] rfl, e _ [41] rfl, e _ [44] rfl, e _ [46] rfl]
  unfold isSg
  by_cases h1 : w = [40] <;> by_cases h2 : w = [41] <;> by_cases h3 : w = [44] <;> by_cases h4 : w = [46] <;> simp [h1, h2, h3, h4]
noncomputable def othF (s : Nat) : D → Option D := fun d => if eqD d (wS [s]) = true then none else some d
theorem other3 (s : Nat) (h : sgn s) : ∃ l3 : List D, [D.str (Str.ofString "("), D.str (Str.ofString ")"), D.str (Str.ofString ","), D.str (Str.ofString ".")].filterMap (othF s) = l3 ∧ l3.length = 3 ∧ ∀ d ∈ l3, ∃ s', d = wS [s'] ∧ sgn s' ∧ s' ≠ s := by
  rcases h with rfl | rfl | rfl | rfl
  · refine ⟨[wS [41], wS [44], wS [46]], rfl, rfl, fun d hd => ?_⟩
    simp only [List.mem_cons, List.not_mem_nil, or_false] at hd
    rcases hd with rfl | rfl | rfl
    · exact ⟨_, rfl, .inr (.inl rfl), by decide⟩
    · exact ⟨_, rfl, .inr (.inr (.inl rfl)), by decide⟩
    · exact ⟨_, rfl, .inr (.inr (.inr rfl)), by decide⟩
  · refine ⟨[wS [40], wS [44], wS [46]], rfl, rfl, fun d hd => ?_⟩
    simp only [List.mem_cons, List.not_mem_nil, or_false] at hd
    rcases hd with rfl | rfl | rfl
    · exact ⟨_, rfl, .inl rfl, by decide⟩
    · exact ⟨_, rfl, .inr (.inr (.inl rfl)), by decide⟩
    · exact ⟨_, rfl, .inr (.inr (.inr rfl)), by decide⟩
  · refine ⟨[wS [40], wS [41], wS [46]], rfl, rfl, fun d hd => ?_⟩
    simp only [List.mem_cons, List.not_mem_nil, or_false] at hd
    rcases hd with rfl | rfl | rfl
    · exact ⟨_, rfl, .inl rfl, by decide⟩
    · exact ⟨_, rfl, .inr (.inl rfl), by decide⟩
    · exact ⟨_, rfl, .inr (.inr (.inr rfl)), by decide⟩
  · refine ⟨[wS [40], wS [41], wS [44]], rfl, rfl, fun d hd => ?_⟩
    simp only [List.mem_cons, List.not_mem_nil, or_false] at hd
    rcases hd with rfl | rfl | rfl
    · exact ⟨_, rfl, .inl rfl, by decide⟩
    · exact ⟨_, rfl, .inr (.inl rfl), by decide⟩
    · exact ⟨_, rfl, .inr (.inr (.inl rfl)), by decide⟩
theorem cut_le (z : Str) (a b : Option Int) : (cutS z a b).length ≤ z.length := by
  rw [cd_len, cd_cut, cd_len, List.length_take, List.length_drop]
  omega
structure SpB (r : EV) : Prop where
  pu : pureEV r
  bad : notS r.d ∨ ∃ z, r.d = .str z ∧ z.length ≤ 100000 ∧ Bad (cd z)
noncomputable def tSpoiled : FT := g2 fun d e φ => ∃ (g : GT) (c : Int), d = .lst ((wd g).map wS) ∧ nodes g ≤ 40 ∧ All Can g ∧ e = .int c ∧ ∀ r, SpB r → φ r
theorem fd_law_spoiled (T : Tops mg) (F__law_odd : FD P w K mg base 1 "_law_odd" ["_law_cell"] tOdd) (F : Fun K "_law_spoiled" "_law_spoiled" (top 25) f fd) (m : mg "_law_spoiled" = some (.ref f)) : FD P w K mg base 2 "_law_spoiled" ["_law_words", "_law_cell"] tSpoiled := by
  have S : FnScope ["_law_words", "_law_cell", "_law_way", "_law_more", "_law_at", "_law_numbers", "_law_signs", "_law_other", "_law_line", "_law_some", "_law_deep"] ["_law_words", "_law_cell"] (defScope (top 25)) := ⟨rfl, rfl, rfl, by decide +kernel, rfl, by decide +kernel, by decide +kernel⟩
  refine fd_of F S (F.binds fun _ _ _ _ _ _ us hl => match us, hl with | [_, _], _ => rfl) m fun cdv A outer s H E ds φ hr hl hT => ?_
  have hu := hr.units
  refine ⟨_, (ss_cons (sd_cut (sd_set 2 S.nd (ed_mod (ed_name 1) ed_int)))
      (ss_cons (sd_cut (sd_set 3 S.nd (ed_fd (ed_name 1) ed_int)))
      (ss_cons (sd_cut (sd_set 4 S.nd (ed_mod (ed_name 3) (ed_len T.len (ea_cons (ed_name 0) ea_nil)))))
      (ss_cons (sd_cut (sd_setCompP (T := ["_law_k"]) (F := ["_law_words"]) (js := [0]) 5 S.nd (ei_range1 T.range (ea_cons (ed_len T.len (ea_cons (ed_name 0) ea_nil)) ea_nil)) (show CompScope (defScope (top 25)) _ ["_law_k"] ["_law_words"] from ⟨rfl, by decide +kernel, by decide +kernel, by decide +kernel, by decide +kernel, by decide +kernel⟩) (.cons rfl .nil) (by decide) (fun cl C fp s H => (pg_name (i := 0) (show ((["_law_k"] : List Str) ++ (["_law_words"] : List Str)).Nodup by decide +kernel) rfl (by first | exact Or.inl rfl | exact Or.inr rfl))) (gk_name (by decide)) (gl_name 0) (fun cl C fp s H => (eif_one (et_notin hu (ed_ixx hu (ed_name 1) (ed_name 0)) (ed_lst (ea_cons ed_str (ea_cons ed_str (ea_cons ed_str (ea_cons ed_str ea_nil)))))))) (fun cl C fp s H => (ed_name 0))))
      (ss_cons (sd_cut (sd_setCompP (T := ["_law_k"]) (F := ["_law_words"]) (js := [0]) 6 S.nd (ei_range1 T.range (ea_cons (ed_len T.len (ea_cons (ed_name 0) ea_nil)) ea_nil)) (show CompScope (defScope (top 25)) _ ["_law_k"] ["_law_words"] from ⟨rfl, by decide +kernel, by decide +kernel, by decide +kernel, by decide +kernel, by decide +kernel⟩) (.cons rfl .nil) (by decide) (fun cl C fp s H => (pg_name (i := 0) (show ((["_law_k"] : List Str) ++ (["_law_words"] : List Str)).Nodup by decide +kernel) rfl (by first | exact Or.inl rfl | exact Or.inr rfl))) (gk_name (by decide)) (gl_name 0) (fun cl C fp s H => (eif_one (et_in hu (ed_ixx hu (ed_name 1) (ed_name 0)) (ed_lst (ea_cons ed_str (ea_cons ed_str (ea_cons ed_str (ea_cons ed_str ea_nil)))))))) (fun cl C fp s H => (ed_name 0))))
      (ss_cons (sd_cut (sd_if (et_eq hu (ed_name 2) ed_int) (ss_cons (sd_set 4 S.nd (ed_ixx hu (ed_name 6) (ed_mod (ed_name 3) (ed_len T.len (ea_cons (ed_name 6) ea_nil)))))
        (ss_one (sd_ret (ed_join1 ed_str (ed_add (ed_slice (ed_name 0) eo_none (eo_some (ed_name 4))) (ed_slice (ed_name 0) (eo_some (ed_add (ed_name 4) ed_int)) eo_none)))))) ss_nil))
      (ss_cons (sd_cut (sd_if (et_eq hu (ed_name 2) ed_int) (ss_cons (sd_set 4 S.nd (ed_mod (ed_name 3) (ed_add (ed_len T.len (ea_cons (ed_name 0) ea_nil)) ed_int)))
        (ss_one (sd_ret (ed_join1 ed_str (ed_add (ed_add (ed_slice (ed_name 0) eo_none (eo_some (ed_name 4))) (ed_lst (ea_cons (ed_ixx hu (ed_lst (ea_cons ed_str (ea_cons ed_str (ea_cons ed_str (ea_cons ed_str ea_nil))))) (ed_mod (ed_fd (ed_name 3) ed_int) ed_int)) ea_nil))) (ed_slice (ed_name 0) (eo_some (ed_name 4)) eo_none)))))) ss_nil))
      (ss_cons (sd_cut (sd_if (et_eq hu (ed_name 2) ed_int) (ss_cons (sd_set 4 S.nd (ed_ixx hu (ed_name 6) (ed_mod (ed_name 3) (ed_len T.len (ea_cons (ed_name 6) ea_nil)))))
        (ss_cons (sd_set 7 S.nd (ed_ixx hu (ed_comp (T := ["_law_sign"]) (F := ["_law_words", "_law_at"]) (js := [0, 4]) (ei_seq (ed_lst (ea_cons ed_str (ea_cons ed_str (ea_cons ed_str (ea_cons ed_str ea_nil)))))) (show CompScope (defScope (top 25)) _ ["_law_sign"] ["_law_words", "_law_at"] from ⟨rfl, by decide +kernel, by decide +kernel, by decide +kernel, by decide +kernel, by decide +kernel⟩) (.cons rfl (.cons rfl .nil)) (by decide) (fun cl C fp s H => (pg_name (i := 0) (show ((["_law_sign"] : List Str) ++ (["_law_words", "_law_at"] : List Str)).Nodup by decide +kernel) rfl (by first | exact Or.inl rfl | exact Or.inr rfl))) (gk_name (by decide)) (gl_name 0) (fun cl C fp s H => (eif_one (et_ne hu (ed_name 0) (ed_ixx hu (ed_name 1) (ed_name 2))))) (fun cl C fp s H => (ed_name 0))) (ed_mod (ed_fd (ed_name 3) ed_int) ed_int)))
        (ss_one (sd_ret (ed_join1 ed_str (ed_add (ed_add (ed_slice (ed_name 0) eo_none (eo_some (ed_name 4))) (ed_lst (ea_cons (ed_name 7) ea_nil))) (ed_slice (ed_name 0) (eo_some (ed_add (ed_name 4) ed_int)) eo_none))))))) ss_nil))
      (ss_cons (sd_cut (sd_if (et_eq hu (ed_name 2) ed_int) (ss_cons (sd_set 8 S.nd (ed_join1 ed_str (ed_name 0)))
        (ss_cons (sd_set 4 S.nd (ed_mod (ed_name 3) (ed_add (ed_len T.len (ea_cons (ed_name 8) ea_nil)) ed_int)))
        (ss_one (sd_ret (ed_add (ed_add (ed_sliceS (ed_name 8) eo_none (eo_some (ed_name 4))) (ed_ixx hu (ed_lst (ea_cons ed_str (ea_cons ed_str (ea_cons ed_str (ea_cons ed_str (ea_cons ed_str (ea_cons ed_str (ea_cons ed_str ea_nil)))))))) (ed_mod (ed_fd (ed_name 3) ed_int) ed_int))) (ed_sliceS (ed_name 8) (eo_some (ed_name 4)) eo_none)))))) ss_nil))
      (ss_cons (sd_cut (sd_if (EW.et (ew_and (et_eq hu (ed_name 2) ed_int) (ew_and1 (et_ne hu (ed_name 5) (ed_lst ea_nil))))) (ss_cons (sd_set 4 S.nd (ed_ixx hu (ed_name 5) (ed_mod (ed_name 3) (ed_len T.len (ea_cons (ed_name 5) ea_nil)))))
        (ss_one (sd_ret (ed_join1 ed_str (ed_add (ed_add (ed_slice (ed_name 0) eo_none (eo_some (ed_name 4))) (ed_lst (ea_cons (ed_call F__law_odd (hr.mono (by decide)) (ea_cons (ed_fd (ed_name 3) ed_int) ea_nil)) ea_nil))) (ed_slice (ed_name 0) (eo_some (ed_add (ed_name 4) ed_int)) eo_none)))))) ss_nil))
      (ss_cons (sd_cut (sd_if (et_eq hu (ed_name 2) ed_int) (ss_cons (sd_set 9 S.nd (ed_lst (ea_cons ed_str (ea_cons ed_str (ea_cons ed_str (ea_cons ed_str (ea_cons ed_str (ea_cons ed_str (ea_cons ed_str (ea_cons ed_str (ea_cons ed_str (ea_cons ed_str (ea_cons ed_str (ea_cons ed_str (ea_cons ed_str ea_nil)))))))))))))))
        (ss_one (sd_ret (ed_ixx hu (ed_name 9) (ed_mod (ed_name 3) ed_int))))) ss_nil))
      (ss_cons (sd_cut (sd_if (et_eq hu (ed_name 2) ed_int) (ss_one (sd_ret (ed_pick (ea_cons ed_non (ea_cons ed_int (ea_cons (ed_tup (ea_cons ed_non (ea_cons ed_int (ea_cons ed_non ea_nil)))) (ea_cons (ed_lst (ea_cons ed_str ea_nil)) (ea_cons ed_bl (ea_cons ed_dict0 ea_nil)))))) (ed_mod (ed_name 3) ed_int)))) ss_nil))
      (ss_cons (sd_cut (sd_set 10 S.nd (ed_sub (ed_add ed_int (ed_mod (ed_name 3) ed_int)) (ed_len T.len (ea_cons (ed_name 5) ea_nil)))))
      (ss_one (sd_ret (ed_add (ed_add (ed_mulT ed_str (ed_name 10)) (ed_join1 ed_str (ed_name 0))) (ed_mulT ed_str (ed_name 10)))))))))))))))))), ?_⟩
  obtain ⟨d, e, rfl, g, c, rfl, hn, hC, rfl, h⟩ := f2_of hT
  have hlw := wd_len g
  have hls := sh_len hC
  have hflat := wd_flat g
  have hsg : 0 < (places isSg (wd g) (wd g).length).length := by rw [places_len]; exact wd_sg
  have hnum : (places (fun w => !isSg w) (wd g) (wd g).length).length = nodes g := by rw [places_len]; exact wd_nums hC
  refine cut_seq (fun ρ => ρ = [some (dv (.lst ((wd g).map wS))), some (dv (.int c)), some (dv (.int (c.fmod 8))), none, none, none, none, none, none, none, none]) ?_ ?_
  · walk_at "dl"
  rintro _ rfl
  refine cut_seq (fun ρ => ∃ m : Int, ρ = [some (dv (.lst ((wd g).map wS))), some (dv (.int c)), some (dv (.int (c.fmod 8))), some (dv (.int m)), none, none, none, none, none, none, none]) ?_ ?_
  · walk_at "dl"
    exact ⟨of_eq_true (fd_lit (by decide) (by decide)), _, rfl⟩
  rintro _ ⟨m, rfl⟩
  refine cut_seq (fun ρ => ∃ a : Int, ρ = [some (dv (.lst ((wd g).map wS))), some (dv (.int c)), some (dv (.int (c.fmod 8))), some (dv (.int m)), some (dv (.int a)), none, none, none, none, none, none]) ?_ ?_
  · walk_at "dl"
    exact ⟨by omega, _, rfl⟩
  rintro _ ⟨a, rfl⟩
  refine cut_seq (fun ρ => ρ = [some (dv (.lst ((wd g).map wS))), some (dv (.int c)), some (dv (.int (c.fmod 8))), some (dv (.int m)), some (dv (.int a)), some (dO (.lst ((places (fun w => !isSg w) (wd g) (wd g).length).map nD))), none, none, none, none, none]) ?_ ?_
  · walk_at "dl"
  
    refine dCompP_at (rngD 0 (wd g).length) (fun ψ hψ => ?_) (fun i gs => gs = (places (fun w => !isSg w) (wd g) i).map nD) (by unfold rngD; rw [List.length_map, List.length_range]; omega) rfl ?_ ?_
    · walk_at "dl"
      exact ⟨by omega, by omega, hψ⟩
    · rintro i e gs he hle rfl
      obtain ⟨hi, rfl⟩ := rng_get he
      rw [Int.zero_add]
      simp only [ρ0, List.map_cons, List.map_nil, List.replicate, List.cons_append, List.nil_append]
      walk_at "dl"
      have ea : atI (wd g) (i : Int) = some (wd g)[i] := atI_of (by omega) (by simp [hi])
      have eg : (wd g).getD i [] = (wd g)[i] := by simp [List.getD, List.getElem?_eq_getElem hi]
      rw [ea]
      refine ⟨rfl, rfl, fun q => ?_, fun q => ?_⟩
      · rw [if_pos trivial, sg_in] at q
        rw [places_succ, eg, if_pos q, List.map_append]
        rfl
      · rw [if_pos trivial, sg_in] at q
        rw [places_succ, eg, if_neg (by rw [q]; decide), List.append_nil]
    rintro gs rfl
    unfold rngD
    rw [List.length_map, List.length_range]
    exact ⟨trivial, rfl⟩
  
  rintro _ rfl
  refine cut_seq (fun ρ => ρ = [some (dv (.lst ((wd g).map wS))), some (dv (.int c)), some (dv (.int (c.fmod 8))), some (dv (.int m)), some (dv (.int a)), some (dO (.lst ((places (fun w => !isSg w) (wd g) (wd g).length).map nD))), some (dO (.lst ((places isSg (wd g) (wd g).length).map nD))), none, none, none, none]) ?_ ?_
  · walk_at "dl"
  
    refine dCompP_at (rngD 0 (wd g).length) (fun ψ hψ => ?_) (fun i gs => gs = (places isSg (wd g) i).map nD) (by unfold rngD; rw [List.length_map, List.length_range]; omega) rfl ?_ ?_
    · walk_at "dl"
      exact ⟨by omega, by omega, hψ⟩
    · rintro i e gs he hle rfl
      obtain ⟨hi, rfl⟩ := rng_get he
      rw [Int.zero_add]
      simp only [ρ0, List.map_cons, List.map_nil, List.replicate, List.cons_append, List.nil_append]
      walk_at "dl"
      have ea : atI (wd g) (i : Int) = some (wd g)[i] := atI_of (by omega) (by simp [hi])
      have eg : (wd g).getD i [] = (wd g)[i] := by simp [List.getD, List.getElem?_eq_getElem hi]
      rw [ea]
      refine ⟨rfl, rfl, fun q => ?_, fun q => ?_⟩
      · rw [if_neg id, sg_in] at q
        rw [places_succ, eg, if_pos q, List.map_append]
        rfl
      · rw [if_neg id, sg_in] at q
        rw [places_succ, eg, if_neg (by rw [q]; decide), List.append_nil]
    rintro gs rfl
    unfold rngD
    rw [List.length_map, List.length_range]
    exact ⟨trivial, rfl⟩
  
  rintro _ rfl
  have okS : ∀ q : List Nat → Bool, okD 40 (D.lst ((places q (wd g) (wd g).length).map nD)) := fun q => by
    rw [okD_lst (by decide)]
    intro x hx
    obtain ⟨y, _, rfl⟩ := List.mem_map.mp hx
    exact of_eq_true okD_int
  have cnt := cnt_of hC
  rw [← hflat] at cnt hls
  have f83 : FdOk m 83 := of_eq_true (fd_lit (by decide) (by decide))
  have tk : ∀ k : Nat, cutD ((wd g).map wS) none (some (k : Int)) = ((wd g).take k).map wS := fun k => by rw [cutD_take, List.map_take]
  have dr : ∀ k : Nat, cutD ((wd g).map wS) (some (k : Int)) none = ((wd g).drop k).map wS := fun k => by rw [cutD_drop, List.map_drop]
  have sz : ∀ (l : List (List Nat)), l.length ≤ 300 → (l.map wS).length ≤ 300 := fun l hl => by rw [List.length_map]; exact hl
  have tkl : ∀ k : Nat, (((wd g).take k).map wS).length ≤ 241 := fun k => by rw [List.length_map, List.length_take]; omega
  have drl : ∀ k : Nat, (((wd g).drop k).map wS).length ≤ 241 := fun k => by rw [List.length_map, List.length_drop]; omega
  refine cut_seq (fun ρ => ρ = [some (dv (.lst ((wd g).map wS))), some (dv (.int c)), some (dv (.int (c.fmod 8))), some (dv (.int m)), some (dv (.int a)), some (dO (.lst ((places (fun w => !isSg w) (wd g) (wd g).length).map nD))), some (dO (.lst ((places isSg (wd g) (wd g).length).map nD))), none, none, none, none]) ?_ ?_
  · walk_at "dl"
    intro _
    obtain ⟨k, w, e1, e2, e3, hk⟩ := pick_place m hsg
    obtain ⟨s, rfl, hs⟩ := isSg_of e3
    refine ⟨by omega, ?_⟩
    rw [e1]
    show (cutD ((wd g).map wS) none (some (k : Int))).length + (cutD ((wd g).map wS) (some ((k + 1 : Nat) : Int)) none).length ≤ sizeLine ∧ _
    have fa := flat_at e2
    have fl := congrArg List.length fa
    simp only [List.length_append] at fl
    rw [fa] at cnt
    refine ⟨by rw [tk, dr, sizeLine_eq]; have := tkl k; have := drl (k + 1); omega, jn (ws := (wd g).take k ++ (wd g).drop (k + 1)) ?_ ?_ (h _ ⟨trivial, .inr ⟨_, rfl, ?_, ?_⟩⟩)⟩
    · show cutD ((wd g).map wS) none (some (k : Int)) ++ cutD ((wd g).map wS) (some ((k + 1 : Nat) : Int)) none = _
      rw [tk, dr, List.map_append]
    · rw [List.flatten_append, List.length_append]; omega
    · rw [cd_len, cd_mk, List.flatten_append, List.length_append]; omega
    · rw [cd_mk, List.flatten_append]
      exact bad_less hs cnt
  rintro _ rfl
  refine cut_seq (fun ρ => ρ = [some (dv (.lst ((wd g).map wS))), some (dv (.int c)), some (dv (.int (c.fmod 8))), some (dv (.int m)), some (dv (.int a)), some (dO (.lst ((places (fun w => !isSg w) (wd g) (wd g).length).map nD))), some (dO (.lst ((places isSg (wd g) (wd g).length).map nD))), none, none, none, none]) ?_ ?_
  · walk_at "dl"
    intro _
    have hm := mod_bd m (((wd g).length : Int) + 1) (by omega)
    obtain ⟨k, hk⟩ := Int.eq_ofNat_of_zero_le hm.1
    rw [hk] at hm ⊢
    have hm4 := mod_bd (m.fdiv 83) 4 (by decide)
    obtain ⟨d, hd, ed⟩ := atI_memE (l := [D.str (Str.ofString "("), D.str (Str.ofString ")"), D.str (Str.ofString ","), D.str (Str.ofString ".")]) hm4.1 hm4.2
    rw [ed]
    have hds : ∃ s, d = wS [s] ∧ sgn s := by
      simp only [List.mem_cons, List.not_mem_nil, or_false] at hd
      rcases hd with rfl | rfl | rfl | rfl
      · exact ⟨40, rfl, .inl rfl⟩
      · exact ⟨41, rfl, .inr (.inl rfl)⟩
      · exact ⟨44, rfl, .inr (.inr (.inl rfl))⟩
      · exact ⟨46, rfl, .inr (.inr (.inr rfl))⟩
    obtain ⟨s, rfl, hs⟩ := hds
    have fl := congrArg List.length (flat_cut (wd g) k)
    rw [List.length_append] at fl
    rw [flat_cut (wd g) k] at cnt
    rw [tk, dr]
    refine ⟨by omega, f83, by rw [sizeLine_eq]; have := tkl k; omega, by rw [sizeLine_eq, List.length_append]; have := tkl k; have := drl k; simp only [List.length_cons, List.length_nil]; omega, jn (ws := (wd g).take k ++ [[s]] ++ (wd g).drop k) ?_ ?_ (h _ ⟨trivial, .inr ⟨_, rfl, ?_, ?_⟩⟩)⟩
    · rw [List.map_append, List.map_append]; rfl
    · rw [List.flatten_append, List.flatten_append, List.length_append, List.length_append]
      show _ + 1 + _ ≤ _
      omega
    · rw [cd_len, cd_mk, List.flatten_append, List.flatten_append, List.length_append, List.length_append]
      show _ + 1 + _ ≤ _
      omega
    · rw [cd_mk, List.flatten_append, List.flatten_append, List.append_assoc]
      exact bad_more hs cnt
  rintro _ rfl
  refine cut_seq (fun ρ => ρ = [some (dv (.lst ((wd g).map wS))), some (dv (.int c)), some (dv (.int (c.fmod 8))), some (dv (.int m)), some (dv (.int a)), some (dO (.lst ((places (fun w => !isSg w) (wd g) (wd g).length).map nD))), some (dO (.lst ((places isSg (wd g) (wd g).length).map nD))), none, none, none, none]) ?_ ?_
  · walk_at "dl"
    intro _
    obtain ⟨k, w, e1, e2, e3, hk⟩ := pick_place m hsg
    obtain ⟨s, rfl, hs⟩ := isSg_of e3
    refine ⟨by omega, ?_⟩
    rw [e1]
    have ea : atI ((wd g).map wS) (k : Int) = some (wS [s]) := atI_of (by omega) (by simp [e2])
    have fa := flat_at e2
    have fl := congrArg List.length fa
    simp only [List.length_append] at fl
    rw [fa] at cnt
    obtain ⟨l3, el3, hl3, hall⟩ := other3 s hs
    refine dComp_at [D.str (Str.ofString "("), D.str (Str.ofString ")"), D.str (Str.ofString ","), D.str (Str.ofString ".")] (fun ψ hψ => ?_) (othF s) (by decide) ?_ ?_
    · walk_at "dl"
      exact hψ
    · intro d hd
      have hdz : ∃ z, d = D.str z := by
        simp only [List.mem_cons, List.not_mem_nil, or_false] at hd
        rcases hd with rfl | rfl | rfl | rfl <;> exact ⟨_, rfl⟩
      obtain ⟨z, rfl⟩ := hdz
      have ea' : atI (wd g) (k : Int) = some [s] := atI_of (by omega) (by simp [e2])
      simp only [ρ0, List.map_cons, List.map_nil, List.replicate, List.cons_append, List.nil_append, nD]
      walk_at "dl"
      rw [ea']
      show okD 40 (wS [s]) ∧ _
      refine ⟨of_eq_true okD_str, fun q => ?_, fun q => ?_⟩
      · have q' : eqD (D.str z) (wS [s]) = false := q
        unfold othF
        rw [q']
        exact rfl
      · have q' : eqD (D.str z) (wS [s]) = true := q
        unfold othF
        rw [q']
        rfl
    · rw [el3]
      refine ⟨f83, ?_⟩
      have hm3 := mod_bd (m.fdiv 83) 3 (by decide)
      obtain ⟨d, hd, ed⟩ := atI_memE (l := l3) hm3.1 (by rw [hl3]; exact hm3.2)
      obtain ⟨s', rfl, hs', hne⟩ := hall d hd
      show (match atI l3 ((m.fdiv 83).fmod 3) with | some d_1 => _ | none => False)
      rw [ed]
      show (cutD ((wd g).map wS) none (some (k : Int))).length + 1 ≤ sizeLine ∧ (cutD ((wd g).map wS) none (some (k : Int)) ++ [wS [s']]).length + (cutD ((wd g).map wS) (some ((k + 1 : Nat) : Int)) none).length ≤ sizeLine ∧ ∃ ts, cutD ((wd g).map wS) none (some (k : Int)) ++ [wS [s']] ++ cutD ((wd g).map wS) (some ((k + 1 : Nat) : Int)) none = _ ∧ _
      rw [tk, dr]
      refine ⟨by rw [sizeLine_eq]; have := tkl k; omega, by rw [sizeLine_eq, List.length_append]; have := tkl k; have := drl (k + 1); simp only [List.length_cons, List.length_nil]; omega, jn (ws := (wd g).take k ++ [[s']] ++ (wd g).drop (k + 1)) ?_ ?_ (h _ ⟨trivial, .inr ⟨_, rfl, ?_, ?_⟩⟩)⟩
      · rw [List.map_append, List.map_append]; rfl
      · rw [List.flatten_append, List.flatten_append, List.length_append, List.length_append]
        show _ + 1 + _ ≤ _
        omega
      · rw [cd_len, cd_mk, List.flatten_append, List.flatten_append, List.length_append, List.length_append]
        show _ + 1 + _ ≤ _
        omega
      · rw [cd_mk, List.flatten_append, List.flatten_append, List.append_assoc]
        exact bad_other hs hs' hne cnt
  rintro _ rfl
  refine cut_seq (fun ρ => ρ = [some (dv (.lst ((wd g).map wS))), some (dv (.int c)), some (dv (.int (c.fmod 8))), some (dv (.int m)), some (dv (.int a)), some (dO (.lst ((places (fun w => !isSg w) (wd g) (wd g).length).map nD))), some (dO (.lst ((places isSg (wd g) (wd g).length).map nD))), none, none, none, none]) ?_ ?_
  · walk_at "dl"
    intro _
    have ej := join0_mk (wd g)
    have lj : (mkS (wd g).flatten).length = (wd g).flatten.length := cd_len _
    refine ⟨(wd g).map mkS, by rw [List.map_map]; rfl, ?_, ?_⟩
    · rw [join0_sum, sizeLine_eq]; omega
    rw [ej]
    have hsz : (mkS (wd g).flatten).length ≤ sizeLine := by rw [sizeLine_eq]; omega
    refine ⟨hsz, by omega, hsz, f83, ?_⟩
    have hm := mod_bd m (((mkS (wd g).flatten).length : Int) + 1) (by omega)
    obtain ⟨k, hk⟩ := Int.eq_ofNat_of_zero_le hm.1
    rw [hk] at hm ⊢
    have hm7 := mod_bd (m.fdiv 83) 7 (by decide)
    obtain ⟨d, hd, ed⟩ := atI_memE (l := [D.str (Str.ofString " "), D.str (Str.ofString "a"), D.str (Str.ofString "["), D.str (Str.ofString ";"), D.str (Str.ofString "\n"), D.str (Str.ofString "+"), D.str (Str.ofString "_")]) hm7.1 hm7.2
    rw [ed]
    have hds : ∃ s, d = D.str ⟨#[s]⟩ ∧ okc s = false := by
      simp only [List.mem_cons, List.not_mem_nil, or_false] at hd
      rcases hd with rfl | rfl | rfl | rfl | rfl | rfl | rfl
      · exact ⟨32, rfl, by decide⟩
      · exact ⟨97, rfl, by decide⟩
      · exact ⟨91, rfl, by decide⟩
      · exact ⟨59, rfl, by decide⟩
      · exact ⟨10, rfl, by decide⟩
      · exact ⟨43, rfl, by decide⟩
      · exact ⟨95, rfl, by decide⟩
    obtain ⟨s, rfl, hs⟩ := hds
    have l1 := cut_le (mkS (wd g).flatten) none (some (k : Int))
    have l2 := cut_le (mkS (wd g).flatten) (some (k : Int)) none
    have l3 : (cutS (mkS (wd g).flatten) none (some (k : Int)) ++ ⟨#[s]⟩).length = (cutS (mkS (wd g).flatten) none (some (k : Int))).length + 1 := by
      rw [cd_len, cd_app, List.length_append, ← cd_len]
      rfl
    refine ⟨?_, hsz, ?_, h _ ⟨trivial, .inr ⟨_, rfl, ?_, bad_sign (c := s) ?_ hs⟩⟩⟩
    · rw [sizeLine_eq]; show _ + 1 ≤ _; omega
    · rw [sizeLine_eq, l3]; omega
    · rw [cd_len, cd_app, List.length_append, ← cd_len, ← cd_len, l3]; omega
    · rw [cd_app, cd_app]
      show s ∈ _ ++ [s] ++ _
      simp
  rintro _ rfl
  refine cut_seq (fun ρ => ρ = [some (dv (.lst ((wd g).map wS))), some (dv (.int c)), some (dv (.int (c.fmod 8))), some (dv (.int m)), some (dv (.int a)), some (dO (.lst ((places (fun w => !isSg w) (wd g) (wd g).length).map nD))), some (dO (.lst ((places isSg (wd g) (wd g).length).map nD))), none, none, none, none]) ?_ ?_
  · walk_at "dl"
    refine fun _ => ⟨okS _, (by rw [okD_lst (by decide)]; intro x hx; cases hx), fun y => ?_⟩
    have hnp : 0 < (places (fun w => !isSg w) (wd g) (wd g).length).length := by
      refine List.length_pos_iff.mpr fun e => ?_
      rw [e] at y
      exact absurd y (by decide)
    obtain ⟨k, w, e1, e2, e3, hk⟩ := pick_place m hnp
    have e3' : isSg w = false := by
      cases q : isSg w with
      | false => rfl
      | true => rw [q] at e3; cases e3
    refine ⟨by omega, ?_⟩
    rw [e1]
    simp only [tOdd, w1]
    have fa := flat_at e2
    have fl := congrArg List.length fa
    simp only [List.length_append] at fl
    refine ⟨of_eq_true (fd_lit (by decide) (by decide)), fun v hv => ⟨trivial, ?_⟩⟩
    show (cutD ((wd g).map wS) none (some (k : Int))).length + 1 ≤ sizeLine ∧ (cutD ((wd g).map wS) none (some (k : Int)) ++ [D.str v]).length + (cutD ((wd g).map wS) (some ((k + 1 : Nat) : Int)) none).length ≤ sizeLine ∧ ∃ ts, cutD ((wd g).map wS) none (some (k : Int)) ++ [D.str v] ++ cutD ((wd g).map wS) (some ((k + 1 : Nat) : Int)) none = _ ∧ _
    rw [tk, dr]
    have hvl := hv.le
    rw [cd_len] at hvl
    have es : (wd g).set k (cd v) = (wd g).take k ++ [cd v] ++ (wd g).drop (k + 1) := by rw [set_cut _ hk, List.append_assoc]; rfl
    have hbad := bad_odd (hC.imp fun w h => num_nc (can_num h)) hv.nc hv.nn e2 e3'
    rw [es] at hbad
    refine ⟨by rw [sizeLine_eq]; have := tkl k; omega, by rw [sizeLine_eq, List.length_append]; have := tkl k; have := drl (k + 1); simp only [List.length_cons, List.length_nil]; omega, jn (ws := (wd g).take k ++ [cd v] ++ (wd g).drop (k + 1)) ?_ ?_ (h _ ⟨trivial, .inr ⟨_, rfl, ?_, ?_⟩⟩)⟩
    · rw [List.map_append, List.map_append]; rfl
    · rw [List.flatten_append, List.flatten_append, List.length_append, List.length_append]
      simp only [List.flatten_cons, List.flatten_nil, List.append_nil]
      omega
    · rw [cd_len, cd_mk, List.flatten_append, List.flatten_append, List.length_append, List.length_append]
      simp only [List.flatten_cons, List.flatten_nil, List.append_nil]
      omega
    · rw [cd_mk]
      exact hbad
  rintro _ rfl
  refine cut_seq (fun ρ => ρ = [some (dv (.lst ((wd g).map wS))), some (dv (.int c)), some (dv (.int (c.fmod 8))), some (dv (.int m)), some (dv (.int a)), some (dO (.lst ((places (fun w => !isSg w) (wd g) (wd g).length).map nD))), some (dO (.lst ((places isSg (wd g) (wd g).length).map nD))), none, none, none, none]) ?_ ?_
  · walk_at "dl"
    intro _
    have hm13 := mod_bd m 13 (by decide)
    obtain ⟨d, hd, ed⟩ := atI_memE (l := [D.str (Str.ofString "[]"), D.str (Str.ofString "7"), D.str (Str.ofString ""), D.str (Str.ofString "leaf"), D.str (Str.ofString "nil"), D.str (Str.ofString "(.,.)"), D.str (Str.ofString "(,5,)"), D.str (Str.ofString "()"), D.str (Str.ofString "(.,5,.,)"), D.str (Str.ofString ".."), D.str (Str.ofString ".,"), D.str (Str.ofString "(.,5,.)."), D.str (Str.ofString ".(.,5,.)")]) hm13.1 hm13.2
    rw [ed]
    have hds : ∃ z, d = D.str z ∧ z.length ≤ 100000 ∧ badC (cd z) = true := by
      simp only [List.mem_cons, List.not_mem_nil, or_false] at hd
      rcases hd with rfl | rfl | rfl | rfl | rfl | rfl | rfl | rfl | rfl | rfl | rfl | rfl | rfl <;> exact ⟨_, rfl, by decide, by decide⟩
    obtain ⟨z, rfl, h1, h2⟩ := hds
    exact ⟨trivial, h _ ⟨trivial, .inr ⟨_, rfl, h1, bad_dec h2⟩⟩⟩
  rintro _ rfl
  refine cut_seq (fun ρ => ρ = [some (dv (.lst ((wd g).map wS))), some (dv (.int c)), some (dv (.int (c.fmod 8))), some (dv (.int m)), some (dv (.int a)), some (dO (.lst ((places (fun w => !isSg w) (wd g) (wd g).length).map nD))), some (dO (.lst ((places isSg (wd g) (wd g).length).map nD))), none, none, none, none]) ?_ ?_
  · walk_at "dl"
    intro _
    have hm6 := mod_bd m 6 (by decide)
    obtain ⟨d, hd, ed⟩ := atI_memE (l := [dv D.non, dv (D.int 7), dv (D.tup [D.non, D.int 5, D.non]), df (D.lst [D.str (Str.ofString ".")]), dv (D.bl true), df (D.dk [] [])]) hm6.1 hm6.2
    rw [ed]
    simp only [List.mem_cons, List.not_mem_nil, or_false] at hd
    rcases hd with rfl | rfl | rfl | rfl | rfl | rfl
    · exact ⟨trivial, h _ ⟨trivial, .inl trivial⟩⟩
    · exact ⟨trivial, h _ ⟨trivial, .inl trivial⟩⟩
    · exact ⟨⟨trivial, trivial, trivial, trivial⟩, h _ ⟨⟨trivial, trivial, trivial, trivial⟩, .inl trivial⟩⟩
    · exact ⟨⟨trivial, trivial⟩, h _ ⟨⟨trivial, trivial⟩, .inl trivial⟩⟩
    · exact ⟨trivial, h _ ⟨trivial, .inl trivial⟩⟩
    · exact ⟨trivial, h _ ⟨trivial, .inl trivial⟩⟩
  rintro _ rfl
  have hm3 := mod_bd m 3 (by decide)
  obtain ⟨n, hnn⟩ := Int.eq_ofNat_of_zero_le (show 0 ≤ 41 + m.fmod 3 - (nodes g : Int) by omega)
  refine cut_seq (fun ρ => ρ = [some (dv (.lst ((wd g).map wS))), some (dv (.int c)), some (dv (.int (c.fmod 8))), some (dv (.int m)), some (dv (.int a)), some (dO (.lst ((places (fun w => !isSg w) (wd g) (wd g).length).map nD))), some (dO (.lst ((places isSg (wd g) (wd g).length).map nD))), none, none, none, some (dv (.int (n : Int)))]) ?_ ?_
  · walk_at "dl"
    rw [hnum, hnn]
  rintro _ rfl
  walk_at "dl"
  have ej := join0_mk (wd g)
  have lj : (mkS (wd g).flatten).length = (wd g).flatten.length := cd_len _
  have r1 := repS_len (Str.ofString "(") (n : Int)
  have r2 := repS_len (Str.ofString ",5,.)") (n : Int)
  have z1 : (Str.ofString "(").length = 1 := by decide
  have z2 : (Str.ofString ",5,.)").length = 5 := by decide
  rw [z1, Int.toNat_natCast] at r1
  rw [z2, Int.toNat_natCast] at r2
  have lA : (repS (Str.ofString "(") (n : Int) ++ mkS (wd g).flatten).length = n * 1 + (wd g).flatten.length := by rw [Str.length_append, r1, lj]
  refine ⟨by decide, by omega, by rw [z1, Int.toNat_natCast]; omega, (wd g).map mkS, by rw [List.map_map]; rfl, by rw [join0_sum, sizeLine_eq]; omega, ?_⟩
  rw [ej]
  refine ⟨by rw [r1, lj, sizeLine_eq]; omega, by decide, by omega, by rw [z2, Int.toNat_natCast]; omega, by rw [lA, r2, sizeLine_eq]; omega, h _ ⟨trivial, .inr ⟨_, rfl, ?_, bad_many ?_⟩⟩⟩
  · rw [Str.length_append, lA, r2]; omega
  · rw [cd_app, cd_app, List.count_append, List.count_append, cnt_rep, cnt_rep, cd_mk, cnt.a]
    have q1 : (cd (Str.ofString "(")).count 40 = 1 := by decide
    rw [q1, Int.toNat_natCast]
    omega
end
end K81

set_option Elab.async false
set_option linter.all false
set_option maxRecDepth 100000
set_option maxHeartbeats 8000000
set_option exponentiation.threshold 5000
namespace K81
open PySem PySem.Spec L2 L3 DL
open K80
open PyProof.Rows hiding St
open PySem.Builtin.Int (intBits)
local macro_rules | `(tactic| walk_at "dl") => `(tactic| simp only [sNil, sSeq, sRet, sIf, sSet, sExpr, sUn, sPar, d2, d1, dName, dC, slot, setS, EV.sto, EV.ret, aNil, aCons, dTup, dLst, dCall, dCB, solidB, vAnd, vOr, vNot, vIf, bAnd, bOr, bNot, bYes, tTru, tBo, truD, sSub, sFd, sMod, sPow, sLt, sLe, sGt, sGe, sI, sI0, sAdd, sMul, sNeg, sEq, sNe, sIs, sIsNot, isNon, sIx, sSl, dSl, oNone, oSome, sLen, sAbs, sIsI, sStr, sTupC, sListC, sIntC, sApp, iSeq, iR1, iR2, itemsD, gN, gT2, startD, isT_non_int, isT_non_bool, isT_bl_int, isT_bl_bool, isT_int_int, isT_int_bool, isT_int_str, isT_str_int, isT_str_str, isT_tup_tuple, isT_tup_int, isT_tup_list, isT_lst_list, isT_lst_tuple, isT_dk_dict, List.map_cons, List.map_nil, List.length_cons, List.length_nil, List.cons_append, List.nil_append, List.replicate_succ, List.replicate_zero, Nat.reduceAdd, Nat.reduceSub, Nat.zero_add, Nat.sub_self, Bool.and_self, Bool.and_true, Bool.true_and, true_and, and_true, Bool.not_true, Bool.not_false, forall_const, true_implies, false_implies, Bool.true_eq_false, Bool.false_eq_true, reduceCtorEq, implies_true, okD_int, okD_bl, okD_str, okD_non, eqD_int, eqD_str, eqD_bl, pureEV, pureD, pureDs, Bool.not_eq_eq_eq_not, Bool.not_true, Bool.not_false, beq_eq_false_iff_ne, beq_iff_eq, ne_eq, decide_eq_true_eq, decide_eq_false_iff_not, Bool.not_eq_true, Bool.not_eq_false, not_true_eq_false, not_false_eq_true, atI_0, atI_1, atI_2, and_self, Nat.beq_eq, Nat.ble_eq, Nat.reduceLeDiff, eq_self, Nat.reduceEqDiff, sIxx, dGet2, dFmt, dJoin, keyD, sIn, flatD, cp10, Int.reduceLE, Int.reduceToNat, tenpow_ne, atI_map, List.length_map, Option.map_some, Int.zero_add, sDput', Int.reduceEq, Int.reduceNeg, Int.reduceLT, sRaise, dCallX, sTry, hanZ, clrS, frzE, Option.map_none, List.map_cons, dIsE, sFrz, frzS, iZ, seqD_lst, seqD_tup, seqD_scr, sSum, intsD_map, sPop, sAppPop, sExt, sAug, sIsB, sIsNotB, dTupN, dAddN, dSlT, dPick, sLP, popD_app, pureEVs, sAllL, isT_str_bool, isT_str_tuple, isT_non_tuple, isT_bl_tuple, isT_int_tuple, isT_tup_bool, isT_lst_int, isT_lst_bool, isT_dk_int, isT_dk_bool, isT_dk_tuple, isT_non_bool, isT_str_int, dIsET, sDictC, sLenD, intsD_map, sListD, sAugM, sPopX, iE, dStep, sMax, iZ, seqD, dJoin1, sRetT, pureRs, cstD, dChain, dSlS, sSlS, dEnds, dStarts, dSplit, sIntS, sMulS, isT_non_str, isT_bl_str, isT_tup_str, isT_lst_str, isT_dk_str, dStarts3, dFind3, dCount, sMulT, sEqF, sNeF])
seal SDs SD ED EA ET EW
section
variable {P : Program} {w : World} {K : PySem.W.Frag} {mg : Str → Option Value} {base : Heap} {f : Addr} {fd : FuncData}
noncomputable def tArg : FT := g2 fun s d φ => ∃ z g, s = .str "tree" ∧ d = .str z ∧ z.length ≤ 100000 ∧ Acc (cd z) g ∧ φ (dv (tD g))
theorem ok_law (T : Tops mg) (F_read_arg : FD P w K mg base 46 "read_arg" ["shape", "text"] tArg) (F_show_arg : FD P w K mg base 43 "show_arg" ["shape", "value"] tShow) (F__law_cell_at : FD P w K mg base 1 "_law_cell_at" ["_law_script", "_law_k"] tCellM) (F__law_refused : FD P w K mg base 47 "_law_refused" ["_law_shape", "_law_thing"] tRefused) (F__law_grown : FD P w K mg base 43 "_law_grown" ["_law_script", "_law_at", "_law_many"] (tGrown 41)) (F__law_spoiled : FD P w K mg base 2 "_law_spoiled" ["_law_words", "_law_cell"] tSpoiled) (F__law_things : FD P w K mg base 1 "_law_things" ["_law_found"] tThings) (F : Fun K "law" "law" (top 27) f fd) : FnOk P w K mg base CX0 60 f fd ["_law_script"] (spD K 1 lawT) := by
  have S : FnScope ["_law_script", "_law_value", "_law_words", "_law_line", "_law_found"] ["_law_script"] (defScope (top 27)) := ⟨rfl, rfl, rfl, by decide +kernel, rfl, by decide +kernel, by decide +kernel⟩
  refine fn_okD F S fun cdv A outer s H E ds φ hr hl hT => ?_
  have hu := hr.units
  refine ⟨_, (ss_cons (sd_cut (sd_un (ed_call F__law_grown (hr.mono (by decide)) (ea_cons (ed_name 0) (ea_cons ed_int (ea_cons (ed_mod (ed_call F__law_cell_at (hr.mono (by decide)) (ea_cons (ed_name 0) (ea_cons ed_int ea_nil))) ed_int) ea_nil)))) (pg_tupK (K0 := K) (n := 2) (by rfl) (by rfl) (pgs_cons (pg_name (i := 1) S.nd rfl (by first | exact Or.inl rfl | exact Or.inr rfl)) (pgs_cons (pg_name (i := 2) S.nd rfl (by first | exact Or.inl rfl | exact Or.inr rfl)) pgs_nil))) (gl_tup2 1 2)))
      (ss_cons (sd_cut (sd_set 3 S.nd (ed_join1 ed_str (ed_name 2))))
      (ss_cons (sd_cut (sd_set 4 S.nd (ed_call F_read_arg (hr.mono (by decide)) (ea_cons ed_str (ea_cons (ed_name 3) ea_nil)))))
      (ss_cons (sd_cut (sd_if (EW.et (ew_or (et_not (et_val (ed_call F__law_things (hr.mono (by decide)) (ea_cons (ed_name 4) ea_nil)))) (ew_or (et_ne hu (ed_name 4) (ed_name 1)) (ew_or1 (et_ne hu (ed_call F_show_arg (hr.mono (by decide)) (ea_cons ed_str (ea_cons (ed_name 1) ea_nil))) (ed_name 3)))))) (ss_one (sd_ret ed_bl)) ss_nil))
      (ss_cons (sd_cut (sd_if (et_not (et_val (ed_call F__law_refused (hr.mono (by decide)) (ea_cons ed_str (ea_cons (ed_call F__law_spoiled (hr.mono (by decide)) (ea_cons (ed_name 2) (ea_cons (ed_call F__law_cell_at (hr.mono (by decide)) (ea_cons (ed_name 0) (ea_cons ed_int ea_nil))) ea_nil))) ea_nil))))) (ss_one (sd_ret ed_bl)) ss_nil))
      (ss_one (sd_ret (ed_eq hu (ed_call F_read_arg (hr.mono (by decide)) (ea_cons ed_str (ea_cons (ed_name 3) ea_nil))) (ed_name 1))))))))), ?_⟩
  obtain ⟨ss, rfl, hn, h⟩ := hT
  refine cut_seq (fun ρ => ∃ g, All Can g ∧ nodes g ≤ 40 ∧ ρ = [some (dv (.scr ss)), some (dv (tD g)), some (dv (.lst ((wd g).map wS))), none, none]) ?_ ?_
  · walk_at "dl"
    simp only [tCellM, DL.g2]
    refine ⟨ss, 0, rfl, rfl, fun c h0 _ => ?_⟩
    have hm := mod_bd c 41 (by decide)
    obtain ⟨m, em⟩ := Int.eq_ofNat_of_zero_le hm.1
    rw [em] at hm
    walk_at "dl"
    simp only [tGrown, DL.g3]
    refine ⟨ss, 0, m, rfl, rfl, by rw [em], by omega, by omega, fun g hg hng => ?_⟩
    exact ⟨trivial, g, hg, by omega, rfl⟩
  rintro _ ⟨g, hC, h40, rfl⟩
  have hls := sh_len hC
  have hacc : Acc (cd (mkS (sh g))) g := ⟨rfl, hC.imp fun w h => can_num h, h40⟩
  have hlz : (mkS (sh g)).length ≤ 100000 := by
    rw [cd_len, cd_mk]
    omega
  have okT : okD 40 (tD g) := ok_tD g 40 h40
  have eT := eqD_refl 40 _ okT
  refine cut_seq (fun ρ => ρ = [some (dv (.scr ss)), some (dv (tD g)), some (dv (.lst ((wd g).map wS))), some (dv (.str (mkS (sh g)))), none]) ?_ ?_
  · walk_at "dl"
    refine ⟨(wd g).map mkS, by rw [List.map_map]; rfl, ?_, ?_⟩
    · rw [join0_sum, wd_flat, sizeLine_eq]
      omega
    · rw [join0_mk, wd_flat]
  rintro _ rfl
  refine cut_seq (fun ρ => ρ = [some (dv (.scr ss)), some (dv (tD g)), some (dv (.lst ((wd g).map wS))), some (dv (.str (mkS (sh g)))), some (dv (tD g))]) ?_ ?_
  · walk_at "dl"
    simp only [tArg, DL.g2]
    exact ⟨mkS (sh g), g, trivial, rfl, hlz, hacc, trivial, rfl⟩
  rintro _ rfl
  refine cut_seq (fun ρ => ρ = [some (dv (.scr ss)), some (dv (tD g)), some (dv (.lst ((wd g).map wS))), some (dv (.str (mkS (sh g)))), some (dv (tD g))]) ?_ ?_
  · walk_at "dl"
    simp only [tThings, tShow, DL.g1, DL.g2]
    refine ⟨g, rfl, h40, fun y => (nomatch y), fun _ => ⟨okT, okT, fun y => absurd (eT.symm.trans y) (by decide), fun _ => ⟨g, trivial, rfl, h40, hC, of_eq_true okD_str, fun y => ?_⟩⟩⟩
    exact absurd ((eqD_refl 40 (D.str (mkS (sh g))) (of_eq_true okD_str)).symm.trans y) (by decide)
  rintro _ rfl
  refine cut_seq (fun ρ => ρ = [some (dv (.scr ss)), some (dv (tD g)), some (dv (.lst ((wd g).map wS))), some (dv (.str (mkS (sh g)))), some (dv (tD g))]) ?_ ?_
  · walk_at "dl"
    simp only [tCellM, DL.g2]
    refine ⟨ss, 1, rfl, rfl, fun c _ _ => ?_⟩
    simp only [tSpoiled, tRefused, DL.g2]
    exact ⟨g, c, rfl, h40, hC, rfl, fun r hr => ⟨trivial, hr.bad, fun y => nomatch y⟩⟩
  rintro _ rfl
  walk_at "dl"
  simp only [tArg, DL.g2]
  refine ⟨mkS (sh g), g, trivial, rfl, hlz, hacc, okT, okT, ?_⟩
  rw [eT]
  exact h
end

set_option Elab.async false
set_option linter.all false
set_option maxRecDepth 100000
set_option maxHeartbeats 8000000
set_option exponentiation.threshold 5000
section
variable {P : Program} {w : World} {K : PySem.W.Frag} {mg : Str → Option Value} {base : Heap} {f : Addr} {fd : FuncData}

theorem fd_showN (T : Tops mg) (F : Fun K "show_tree" "show_tree" (top 18) f fd) (m : mg "show_tree" = some (.ref f)) : ∀ n : Nat, FD P w K mg base (n + 1) "show_tree" ["tree"] (tShT n)
  | 0 => by
    have S : FnScope ["tree", "left", "number", "right"] ["tree"] (defScope (top 18)) := ⟨rfl, rfl, rfl, by decide +kernel, rfl, by decide +kernel, by decide +kernel⟩
    refine fd_of F S (F.binds fun _ _ _ _ _ _ us hl => match us, hl with | [_], _ => rfl) m fun cdv A outer s H E ds φ hr hl hT => ?_
    obtain ⟨d, rfl, g, _, hn, _⟩ := f1_of hT
    exact absurd hn (Nat.not_lt_zero _)
  | n + 1 => fd_show_tree T (fd_showN T F m n) F m
theorem fd_grownN (T : Tops mg) (F_c : FD P w K mg base 1 "_law_cell_at" ["_law_script", "_law_k"] tCellM) (F_n : FD P w K mg base 1 "_law_number" ["_law_cell"] tNumb) (F : Fun K "_law_grown" "_law_grown" (top 23) f fd) (m : mg "_law_grown" = some (.ref f)) : ∀ n : Nat, FD P w K mg base (n + 2) "_law_grown" ["_law_script", "_law_at", "_law_many"] (tGrown n)
  | 0 => by
    have S : FnScope ["_law_script", "_law_at", "_law_many", "_law_cell", "_law_left", "_law_first", "_law_number_here", "_law_other"] ["_law_script", "_law_at", "_law_many"] (defScope (top 23)) := ⟨rfl, rfl, rfl, by decide +kernel, rfl, by decide +kernel, by decide +kernel⟩
    refine fd_of F S (F.binds fun _ _ _ _ _ _ us hl => match us, hl with | [_, _, _], _ => rfl) m fun cdv A outer s H E ds φ hr hl hT => ?_
    obtain ⟨sd, ad, md, rfl, ss, at', m', _, _, _, hn, _⟩ := f3_of hT
    exact absurd hn (Nat.not_lt_zero _)
  | n + 1 => fd_law_grown T F_c F_n (fd_grownN T F_c F_n F m n) F m
theorem all_mk {l : PySem.W.OpenLaw} {w : World} {K : PySem.W.Frag} {h : Heap} {mg : Str → Option Value} {fa : Addr} (X : K.In h) (G : h.Ns mainGlobals mg) (hfa : mg "law" = some (.ref fa)) {f1 : Addr} {od1 an1 : Option Addr} {sl1 : Array (Option Value)} {oc1 kV1 dc1 pm1 cd1 ct1 : Value} {f2 : Addr} {od2 an2 : Option Addr} {sl2 : Array (Option Value)} {oc2 kV2 dc2 pm2 cd2 ct2 : Value} {f3 : Addr} {od3 an3 : Option Addr} {sl3 : Array (Option Value)} {oc3 kV3 dc3 pm3 cd3 ct3 : Value} {f4 : Addr} {od4 an4 : Option Addr} {sl4 : Array (Option Value)} {oc4 kV4 dc4 pm4 cd4 ct4 : Value} {f5 : Addr} {od5 an5 : Option Addr} {sl5 : Array (Option Value)} {oc5 kV5 dc5 pm5 cd5 ct5 : Value} {f6 : Addr} {od6 an6 : Option Addr} {sl6 : Array (Option Value)} {oc6 kV6 dc6 pm6 cd6 ct6 : Value} {f7 : Addr} {od7 an7 : Option Addr} {sl7 : Array (Option Value)} {oc7 kV7 dc7 pm7 cd7 ct7 : Value} {f8 : Addr} {od8 an8 : Option Addr} {sl8 : Array (Option Value)} {oc8 kV8 dc8 pm8 cd8 ct8 : Value} {f9 : Addr} {od9 an9 : Option Addr} {sl9 : Array (Option Value)} {oc9 kV9 dc9 pm9 cd9 ct9 : Value} {f10 : Addr} {od10 an10 : Option Addr} {sl10 : Array (Option Value)} {oc10 kV10 dc10 pm10 cd10 ct10 : Value} {f11 : Addr} {od11 an11 : Option Addr} {sl11 : Array (Option Value)} {oc11 kV11 dc11 pm11 cd11 ct11 : Value} {f12 : Addr} {od12 an12 : Option Addr} {sl12 : Array (Option Value)} {oc12 kV12 dc12 pm12 cd12 ct12 : Value} {f13 : Addr} {od13 an13 : Option Addr} {sl13 : Array (Option Value)} {oc13 kV13 dc13 pm13 cd13 ct13 : Value} {f14 : Addr} {od14 an14 : Option Addr} {sl14 : Array (Option Value)} {oc14 kV14 dc14 pm14 cd14 ct14 : Value} {f15 : Addr} {od15 an15 : Option Addr} {sl15 : Array (Option Value)} {oc15 kV15 dc15 pm15 cd15 ct15 : Value} {f16 : Addr} {od16 an16 : Option Addr} {sl16 : Array (Option Value)} {oc16 kV16 dc16 pm16 cd16 ct16 : Value} {cE cN cNoText cNoRow cNoFunction : Addr} {tF tM : Tok}
    (a1 : PySem.W.nsIn K mainGlobals "is_number" = some (some (.ref f1))) (l1 : K.lookup f1 = some ⟨oc1, od1, .func (PySem.W.fnOf "is_number" "is_number" (defArgs (top 8)) (defBody (top 8)) (defScope (top 8)) .none kV1 dc1 pm1 an1 cd1 ct1), sl1⟩) (c1 : PySem.W.codeIn K cd1 "is_number" = true) (k1 : PySem.W.keepIn K (.ref f1) = true)
    (a2 : PySem.W.nsIn K mainGlobals "read_num" = some (some (.ref f2))) (l2 : K.lookup f2 = some ⟨oc2, od2, .func (PySem.W.fnOf "read_num" "read_num" (defArgs (top 12)) (defBody (top 12)) (defScope (top 12)) .none kV2 dc2 pm2 an2 cd2 ct2), sl2⟩) (c2 : PySem.W.codeIn K cd2 "read_num" = true) (k2 : PySem.W.keepIn K (.ref f2) = true)
    (a3 : PySem.W.nsIn K mainGlobals "behind_sign" = some (some (.ref f3))) (l3 : K.lookup f3 = some ⟨oc3, od3, .func (PySem.W.fnOf "behind_sign" "behind_sign" (defArgs (top 16)) (defBody (top 16)) (defScope (top 16)) .none kV3 dc3 pm3 an3 cd3 ct3), sl3⟩) (c3 : PySem.W.codeIn K cd3 "behind_sign" = true) (k3 : PySem.W.keepIn K (.ref f3) = true)
    (a4 : PySem.W.nsIn K mainGlobals "tree_at" = some (some (.ref f4))) (l4 : K.lookup f4 = some ⟨oc4, od4, .func (PySem.W.fnOf "tree_at" "tree_at" (defArgs (top 15)) (defBody (top 15)) (defScope (top 15)) .none kV4 dc4 pm4 an4 cd4 ct4), sl4⟩) (c4 : PySem.W.codeIn K cd4 "tree_at" = true) (k4 : PySem.W.keepIn K (.ref f4) = true)
    (a5 : PySem.W.nsIn K mainGlobals "read_tree" = some (some (.ref f5))) (l5 : K.lookup f5 = some ⟨oc5, od5, .func (PySem.W.fnOf "read_tree" "read_tree" (defArgs (top 14)) (defBody (top 14)) (defScope (top 14)) .none kV5 dc5 pm5 an5 cd5 ct5), sl5⟩) (c5 : PySem.W.codeIn K cd5 "read_tree" = true) (k5 : PySem.W.keepIn K (.ref f5) = true)
    (a6 : PySem.W.nsIn K mainGlobals "read_arg" = some (some (.ref f6))) (l6 : K.lookup f6 = some ⟨oc6, od6, .func (PySem.W.fnOf "read_arg" "read_arg" (defArgs (top 11)) (defBody (top 11)) (defScope (top 11)) .none kV6 dc6 pm6 an6 cd6 ct6), sl6⟩) (c6 : PySem.W.codeIn K cd6 "read_arg" = true) (k6 : PySem.W.keepIn K (.ref f6) = true)
    (a7 : PySem.W.nsIn K mainGlobals "show_tree" = some (some (.ref f7))) (l7 : K.lookup f7 = some ⟨oc7, od7, .func (PySem.W.fnOf "show_tree" "show_tree" (defArgs (top 18)) (defBody (top 18)) (defScope (top 18)) .none kV7 dc7 pm7 an7 cd7 ct7), sl7⟩) (c7 : PySem.W.codeIn K cd7 "show_tree" = true) (k7 : PySem.W.keepIn K (.ref f7) = true)
    (a8 : PySem.W.nsIn K mainGlobals "show_arg" = some (some (.ref f8))) (l8 : K.lookup f8 = some ⟨oc8, od8, .func (PySem.W.fnOf "show_arg" "show_arg" (defArgs (top 17)) (defBody (top 17)) (defScope (top 17)) .none kV8 dc8 pm8 an8 cd8 ct8), sl8⟩) (c8 : PySem.W.codeIn K cd8 "show_arg" = true) (k8 : PySem.W.keepIn K (.ref f8) = true)
    (a9 : PySem.W.nsIn K mainGlobals "_law_cell_at" = some (some (.ref f9))) (l9 : K.lookup f9 = some ⟨oc9, od9, .func (PySem.W.fnOf "_law_cell_at" "_law_cell_at" (defArgs (top 20)) (defBody (top 20)) (defScope (top 20)) .none kV9 dc9 pm9 an9 cd9 ct9), sl9⟩) (c9 : PySem.W.codeIn K cd9 "_law_cell_at" = true) (k9 : PySem.W.keepIn K (.ref f9) = true)
    (a10 : PySem.W.nsIn K mainGlobals "_law_refused" = some (some (.ref f10))) (l10 : K.lookup f10 = some ⟨oc10, od10, .func (PySem.W.fnOf "_law_refused" "_law_refused" (defArgs (top 21)) (defBody (top 21)) (defScope (top 21)) .none kV10 dc10 pm10 an10 cd10 ct10), sl10⟩) (c10 : PySem.W.codeIn K cd10 "_law_refused" = true) (k10 : PySem.W.keepIn K (.ref f10) = true)
    (a11 : PySem.W.nsIn K mainGlobals "_law_number" = some (some (.ref f11))) (l11 : K.lookup f11 = some ⟨oc11, od11, .func (PySem.W.fnOf "_law_number" "_law_number" (defArgs (top 22)) (defBody (top 22)) (defScope (top 22)) .none kV11 dc11 pm11 an11 cd11 ct11), sl11⟩) (c11 : PySem.W.codeIn K cd11 "_law_number" = true) (k11 : PySem.W.keepIn K (.ref f11) = true)
    (a12 : PySem.W.nsIn K mainGlobals "_law_grown" = some (some (.ref f12))) (l12 : K.lookup f12 = some ⟨oc12, od12, .func (PySem.W.fnOf "_law_grown" "_law_grown" (defArgs (top 23)) (defBody (top 23)) (defScope (top 23)) .none kV12 dc12 pm12 an12 cd12 ct12), sl12⟩) (c12 : PySem.W.codeIn K cd12 "_law_grown" = true) (k12 : PySem.W.keepIn K (.ref f12) = true)
    (a13 : PySem.W.nsIn K mainGlobals "_law_odd" = some (some (.ref f13))) (l13 : K.lookup f13 = some ⟨oc13, od13, .func (PySem.W.fnOf "_law_odd" "_law_odd" (defArgs (top 24)) (defBody (top 24)) (defScope (top 24)) .none kV13 dc13 pm13 an13 cd13 ct13), sl13⟩) (c13 : PySem.W.codeIn K cd13 "_law_odd" = true) (k13 : PySem.W.keepIn K (.ref f13) = true)
    (a14 : PySem.W.nsIn K mainGlobals "_law_spoiled" = some (some (.ref f14))) (l14 : K.lookup f14 = some ⟨oc14, od14, .func (PySem.W.fnOf "_law_spoiled" "_law_spoiled" (defArgs (top 25)) (defBody (top 25)) (defScope (top 25)) .none kV14 dc14 pm14 an14 cd14 ct14), sl14⟩) (c14 : PySem.W.codeIn K cd14 "_law_spoiled" = true) (k14 : PySem.W.keepIn K (.ref f14) = true)
    (a15 : PySem.W.nsIn K mainGlobals "_law_things" = some (some (.ref f15))) (l15 : K.lookup f15 = some ⟨oc15, od15, .func (PySem.W.fnOf "_law_things" "_law_things" (defArgs (top 26)) (defBody (top 26)) (defScope (top 26)) .none kV15 dc15 pm15 an15 cd15 ct15), sl15⟩) (c15 : PySem.W.codeIn K cd15 "_law_things" = true) (k15 : PySem.W.keepIn K (.ref f15) = true)
    (a16 : PySem.W.nsIn K mainGlobals "law" = some (some (.ref f16))) (l16 : K.lookup f16 = some ⟨oc16, od16, .func (PySem.W.fnOf "law" "law" (defArgs (top 27)) (defBody (top 27)) (defScope (top 27)) .none kV16 dc16 pm16 an16 cd16 ct16), sl16⟩) (c16 : PySem.W.codeIn K cd16 "law" = true) (k16 : PySem.W.keepIn K (.ref f16) = true) (b_TollError : PySem.W.nsIn K mainGlobals "TollError" = some (some (.ref cE))) (b_NoValue : PySem.W.nsIn K mainGlobals "NoValue" = some (some (.ref cN))) (b_NoText : PySem.W.nsIn K mainGlobals "NoText" = some (some (.ref cNoText))) (b_NoRow : PySem.W.nsIn K mainGlobals "NoRow" = some (some (.ref cNoRow))) (b_NoFunction : PySem.W.nsIn K mainGlobals "NoFunction" = some (some (.ref cNoFunction))) (xN : excV K cN) (sE : PySem.W.subIn K (.ref cE) (.type "BaseException") = some true) (tE : PySem.W.typeIn K (.ref cE) = some (.type "type")) (dE : PySem.W.hasDictIn K cE = true) (uE : PySem.W.subIn K (.ref cN) (.ref cE) = some true) (uV : PySem.W.subIn K (.ref cN) (.type "ValueError") = some true) (y1 : PySem.W.findIn K (.ref cN) "__getattribute__" = some (some (.builtin "BaseException.__getattribute__"))) (y2 : PySem.W.findIn K (.ref cN) "__getattr__" = some none) (y3 : PySem.W.findIn K (.ref cN) "__class__" = some (some (.builtin "object.__class__"))) (y4 : PySem.W.specialIn K (.builtin "object.__class__") "__get__" = some (some (.builtin "getset_descriptor.__get__"))) (y5 : PySem.W.takesIn K (.builtin "object.__class__") = some true) (y6 : PySem.W.mroIn K cN (.type "object") = some true) (y7 : PySem.W.subIn K (.ref cN) (.type "BaseException") = some true) (y8 : PySem.W.hasDictIn K cN = true) (n_NoText : cN ≠ cNoText) (t_NoText : PySem.W.typeIn K (.ref cNoText) = some (.type "type")) (d_NoText : PySem.W.hasDictIn K cNoText = true) (u_NoText : PySem.W.subIn K (.ref cN) (.ref cNoText) = some false) (n_NoRow : cN ≠ cNoRow) (t_NoRow : PySem.W.typeIn K (.ref cNoRow) = some (.type "type")) (d_NoRow : PySem.W.hasDictIn K cNoRow = true) (u_NoRow : PySem.W.subIn K (.ref cN) (.ref cNoRow) = some false) (n_NoFunction : cN ≠ cNoFunction) (t_NoFunction : PySem.W.typeIn K (.ref cNoFunction) = some (.type "type")) (d_NoFunction : PySem.W.hasDictIn K cNoFunction = true) (u_NoFunction : PySem.W.subIn K (.ref cN) (.ref cNoFunction) = some false) (bF : PySem.W.nsIn K mainGlobals "FIGURES" = some (some (.str "0123456789" tF))) (bM : PySem.W.nsIn K mainGlobals "MOST_SIZE" = some (some (.int 40 tM))) (z_ValueError : PySem.W.nsIn K mainGlobals "ValueError" = some none) (z_all : PySem.W.nsIn K mainGlobals "all" = some none) (z_bool : PySem.W.nsIn K mainGlobals "bool" = some none) (z_int : PySem.W.nsIn K mainGlobals "int" = some none) (z_isinstance : PySem.W.nsIn K mainGlobals "isinstance" = some none) (z_len : PySem.W.nsIn K mainGlobals "len" = some none) (z_range : PySem.W.nsIn K mainGlobals "range" = some none) (z_str : PySem.W.nsIn K mainGlobals "str" = some none) (z_tuple : PySem.W.nsIn K mainGlobals "tuple" = some none) :
    ∃ fd : FuncData, (∀ (s : Shared) (v : Value), BindsTo s fd ⟨[v], []⟩ [("_law_script", v)]) ∧ ∀ base : Heap, K.In base → base.Ns mainGlobals mg → FnOk l.prog w K mg base CX0 60 fa fd ["_law_script"] (spD K 1 lawT) := by
  have e := hfa.symm.trans (PySem.W.mg_of X G a16)
  cases e
  have T : Tops mg := ⟨PySem.W.mg_none_of X G z_ValueError, PySem.W.mg_none_of X G z_all, PySem.W.mg_none_of X G z_bool, PySem.W.mg_none_of X G z_int, PySem.W.mg_none_of X G z_isinstance, PySem.W.mg_none_of X G z_len, PySem.W.mg_none_of X G z_range, PySem.W.mg_none_of X G z_str, PySem.W.mg_none_of X G z_tuple⟩
  have F1 := fun_mk (st := top 8) l1 c1 k1
  have F2 := fun_mk (st := top 12) l2 c2 k2
  have F3 := fun_mk (st := top 16) l3 c3 k3
  have F4 := fun_mk (st := top 15) l4 c4 k4
  have F5 := fun_mk (st := top 14) l5 c5 k5
  have F6 := fun_mk (st := top 11) l6 c6 k6
  have F7 := fun_mk (st := top 18) l7 c7 k7
  have F8 := fun_mk (st := top 17) l8 c8 k8
  have F9 := fun_mk (st := top 20) l9 c9 k9
  have F10 := fun_mk (st := top 21) l10 c10 k10
  have F11 := fun_mk (st := top 22) l11 c11 k11
  have F12 := fun_mk (st := top 23) l12 c12 k12
  have F13 := fun_mk (st := top 24) l13 c13 k13
  have F14 := fun_mk (st := top 25) l14 c14 k14
  have F15 := fun_mk (st := top 26) l15 c15 k15
  have F16 := fun_mk (st := top 27) l16 c16 k16
  refine ⟨PySem.W.fnOf "law" "law" (defArgs (top 27)) (defBody (top 27)) (defScope (top 27)) .none kV16 dc16 pm16 an16 cd16 ct16, fun s v => .of_eq rfl, fun base _ _ => ?_⟩
  have Z : Cls K mg cE cN cNoText cNoRow cNoFunction := ⟨PySem.W.mg_of X G b_TollError, PySem.W.mg_of X G b_NoValue, PySem.W.mg_of X G b_NoText, PySem.W.mg_of X G b_NoRow, PySem.W.mg_of X G b_NoFunction, xN, exm_of sE tE dE uE, kit_typ meta_ValueError uV, fun c hc => by
    simp only [List.mem_cons, List.not_mem_nil, or_false] at hc
    rcases hc with rfl | rfl | rfl
    · exact kit_oth n_NoText t_NoText d_NoText u_NoText
    · exact kit_oth n_NoRow t_NoRow d_NoRow u_NoRow
    · exact kit_oth n_NoFunction t_NoFunction d_NoFunction u_NoFunction, ⟨y1, y2, y3, y4, y5, y6, y7, y8⟩, ⟨_, .str "0123456789", PySem.W.mg_of X G bF, ⟨_, rfl⟩, fun _ _ => rfl⟩, ⟨_, .int 40, PySem.W.mg_of X G bM, ⟨_, rfl⟩, fun _ _ => rfl⟩⟩
  have D_is_number := fd_is_number (P := l.prog) (w := w) (base := base) T Z F1 (PySem.W.mg_of X G a1)
  have D_read_num := fx_read_num (P := l.prog) (w := w) (base := base) T Z D_is_number F2 (PySem.W.mg_of X G a2)
  have D_behind_sign := fx_behind_sign (P := l.prog) (w := w) (base := base) T Z F3 (PySem.W.mg_of X G a3)
  have D_tree_at := fx_treeN (P := l.prog) (w := w) (base := base) T Z D_behind_sign D_read_num F4 (PySem.W.mg_of X G a4)
  have D_read_tree := fx_read_tree (P := l.prog) (w := w) (base := base) T Z (D_tree_at 41) F5 (PySem.W.mg_of X G a5)
  have D_read_arg := fx_read_arg (P := l.prog) (w := w) (base := base) T Z D_read_num D_read_tree F6 (PySem.W.mg_of X G a6)
  have D_show_tree := fd_showN (P := l.prog) (w := w) (base := base) T  F7 (PySem.W.mg_of X G a7)
  have D_show_arg := fd_show_arg (P := l.prog) (w := w) (base := base) T (D_show_tree 41) F8 (PySem.W.mg_of X G a8)
  have D__law_cell_at := fd_law_cell_at (P := l.prog) (w := w) (base := base) T  F9 (PySem.W.mg_of X G a9)
  have D__law_refused := fd_law_refused (P := l.prog) (w := w) (base := base) T Z D_read_arg F10 (PySem.W.mg_of X G a10)
  have D__law_number := fd_law_number (P := l.prog) (w := w) (base := base) T  F11 (PySem.W.mg_of X G a11)
  have D__law_grown := fd_grownN (P := l.prog) (w := w) (base := base) T D__law_cell_at D__law_number F12 (PySem.W.mg_of X G a12)
  have D__law_odd := fd_law_odd (P := l.prog) (w := w) (base := base) T  F13 (PySem.W.mg_of X G a13)
  have D__law_spoiled := fd_law_spoiled (P := l.prog) (w := w) (base := base) T D__law_odd F14 (PySem.W.mg_of X G a14)
  have D__law_things := fd_law_things (P := l.prog) (w := w) (base := base) T  F15 (PySem.W.mg_of X G a15)
  have D_read_argD := fd_fx (T' := tArg) D_read_arg (fun ds φ hT => by
    obtain ⟨s, d, rfl, z, g, rfl, rfl, hl, ha, h⟩ := f2_of hT
    exact ⟨_, rfl, .inr ⟨z, rfl, hl, fun g2 h2 => by
      have e : g = g2 := (sh_inj (r := []) (r' := []) (ha.2.1.imp fun w h => num_nc h) (h2.2.1.imp fun w h => num_nc h) (by rw [← ha.1, ← h2.1])).1
      rw [← e]
      exact h, fun hb => hb g ha⟩⟩)
  exact ok_law T D_read_argD D_show_arg D__law_cell_at D__law_refused (D__law_grown 41) D__law_spoiled D__law_things F16
end
end K81
open PySem PySem.W PyProof.Rows
set_option maxRecDepth 100000 in
set_option maxHeartbeats 0 in
theorem PySem.Challenge.cw_toll_k81_trees_holds : PySem.Challenge.rw_toll_k81_trees.Holds := by
  w_on; o_law; k_head; (case hw => w_witness2)
  k_fill
  refine DL.walkD (l := PySem.Challenge.rw_toll_k81_trees) (k := 60) (x := "_law_script") rfl rfl ⟨rfl, by decide, by decide⟩ (fun w h Y => PySem.W.kIn_of Y) ?F
  case F =>
    intro w mg fa h KX G hmg
    refine' K81.all_mk KX G hmg ?a1 ?l1 ?c1 ?k1 ?a2 ?l2 ?c2 ?k2 ?a3 ?l3 ?c3 ?k3 ?a4 ?l4 ?c4 ?k4 ?a5 ?l5 ?c5 ?k5 ?a6 ?l6 ?c6 ?k6 ?a7 ?l7 ?c7 ?k7 ?a8 ?l8 ?c8 ?k8 ?a9 ?l9 ?c9 ?k9 ?a10 ?l10 ?c10 ?k10 ?a11 ?l11 ?c11 ?k11 ?a12 ?l12 ?c12 ?k12 ?a13 ?l13 ?c13 ?k13 ?a14 ?l14 ?c14 ?k14 ?a15 ?l15 ?c15 ?k15 ?a16 ?l16 ?c16 ?k16 ?b_TollError ?b_NoValue ?b_NoText ?b_NoRow ?b_NoFunction ?xN ?sE ?tE ?dE ?uE ?uV ?y1 ?y2 ?y3 ?y4 ?y5 ?y6 ?y7 ?y8 ?n_NoText ?t_NoText ?d_NoText ?u_NoText ?n_NoRow ?t_NoRow ?d_NoRow ?u_NoRow ?n_NoFunction ?t_NoFunction ?d_NoFunction ?u_NoFunction ?bF ?bM ?z_ValueError ?z_all ?z_bool ?z_int ?z_isinstance ?z_len ?z_range ?z_str ?z_tuple
    (case a1 => k_is)
    (case l1 => k_is)
    (case c1 => k_is)
    (case k1 => k_is)
    (case a2 => k_is)
    (case l2 => k_is)
    (case c2 => k_is)
    (case k2 => k_is)
    (case a3 => k_is)
    (case l3 => k_is)
    (case c3 => k_is)
    (case k3 => k_is)
    (case a4 => k_is)
    (case l4 => k_is)
    (case c4 => k_is)
    (case k4 => k_is)
    (case a5 => k_is)
    (case l5 => k_is)
    (case c5 => k_is)
    (case k5 => k_is)
    (case a6 => k_is)
    (case l6 => k_is)
    (case c6 => k_is)
    (case k6 => k_is)
    (case a7 => k_is)
    (case l7 => k_is)
    (case c7 => k_is)
    (case k7 => k_is)
    (case a8 => k_is)
    (case l8 => k_is)
    (case c8 => k_is)
    (case k8 => k_is)
    (case a9 => k_is)
    (case l9 => k_is)
    (case c9 => k_is)
    (case k9 => k_is)
    (case a10 => k_is)
    (case l10 => k_is)
    (case c10 => k_is)
    (case k10 => k_is)
    (case a11 => k_is)
    (case l11 => k_is)
    (case c11 => k_is)
    (case k11 => k_is)
    (case a12 => k_is)
    (case l12 => k_is)
    (case c12 => k_is)
    (case k12 => k_is)
    (case a13 => k_is)
    (case l13 => k_is)
    (case c13 => k_is)
    (case k13 => k_is)
    (case a14 => k_is)
    (case l14 => k_is)
    (case c14 => k_is)
    (case k14 => k_is)
    (case a15 => k_is)
    (case l15 => k_is)
    (case c15 => k_is)
    (case k15 => k_is)
    (case a16 => k_is)
    (case l16 => k_is)
    (case c16 => k_is)
    (case k16 => k_is)
    (case b_TollError => k_is)
    (case b_NoValue => k_is)
    (case b_NoText => k_is)
    (case b_NoRow => k_is)
    (case b_NoFunction => k_is)
    (case xN => (show PySem.W.excIn _ _ _ _ = true; k_exc))
    (case sE => k_is)
    (case tE => k_is)
    (case dE => k_is)
    (case uE => k_is)
    (case uV => k_is)
    (case y1 => k_is)
    (case y2 => k_is)
    (case y3 => k_is)
    (case y4 => k_is)
    (case y5 => k_is)
    (case y6 => k_is)
    (case y7 => k_is)
    (case y8 => k_is)
    (case n_NoText => decide)
    (case t_NoText => k_is)
    (case d_NoText => k_is)
    (case u_NoText => k_is)
    (case n_NoRow => decide)
    (case t_NoRow => k_is)
    (case d_NoRow => k_is)
    (case u_NoRow => k_is)
    (case n_NoFunction => decide)
    (case t_NoFunction => k_is)
    (case d_NoFunction => k_is)
    (case u_NoFunction => k_is)
    (case bF => k_is)
    (case bM => k_is)
    (case z_ValueError => k_is)
    (case z_all => k_is)
    (case z_bool => k_is)
    (case z_int => k_is)
    (case z_isinstance => k_is)
    (case z_len => k_is)
    (case z_range => k_is)
    (case z_str => k_is)
    (case z_tuple => k_is)


